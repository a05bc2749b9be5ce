import PyProof.Rows.All
import Wide.All
import OpenK.AllK
import Wide.FinOn
import HandS.Base
import HandS.Call
import HandS.List
import HandS.Ends
import HandS.Words
import HandS.Comp
import HandS.Dict
import HandS.Iter
import HandS.Text
import HandS.WordsList
import HandS.WordsDict
import HandS.IsInst
import HandS.Wide
import HandS.Strs
import HandS.StrMore
import HandS.Gcd
import HandS.Walk
import KE.IntTextLaws
import HandS.Exc
import HandS.ExcInit
import HandS.ExcField
import HandS.ExcIs
import HandS.TryMany
import HandS.WordsExc
import HandS.Star
import KE.KExcIs
import HandS.ExcOwn
import PyProof.ReprLen
import HandS.Zip
import HandS.FStr
import HandS.TupAny
import HandS.Steps
import HandS.Defaults
import PyProof.EqAt
import HandS.TupLe
import HandS.TryOnly
import PyProof.Rows.EqBoolInt
import HandS.Style
import HandS.Deep
import KE.KRevSl
import HandS.Rev
import KE.GoesZip
import KE.GoesMore
import HandS.WideBits
import OpenK.KOwn
import HandS.HotCalls
import KE.KExcInit
import KE.KExcLine
import Flt.RightSqrt
import KE.KMathG
import HandS.Replace
import HandS.ReplaceLit
import HandS.ReplaceList
import HandS.Conv
import HandS.More
import HandS.RaiseMore
import HandS.Flow
import HandS.DictEq
import PyProof.Rows.FactsExc_KeyError
import PySem.Challenge.RW_termstream_k28_rows_asked
set_option Elab.async false
set_option linter.all false
set_option maxRecDepth 100000
set_option maxHeartbeats 4000000
namespace Vg
open PySem PySem.Spec PyProof.Rows L2
/-- the same promise as the layer's, for calls within which no text of a list is being made -/
structure FnG (P : Program) (w : World) (K : PySem.W.Frag) (mg : Str → Option Value) (base : Heap) (CX : CXT)
    (k : Nat) (f : Addr) (fd : FuncData) (ps : List Str) (sp : Sp) : Prop where
  len : ∀ vs H Q E, sp vs H Q E → vs.length = ps.length
  run : ∀ (A : Around) (outer : List Env) (s : Shared) (H : Hp) (args : Args) (us : List Value) (vs : List V) (Q : VK) (E : XK),
    A.guards = some [] → Room k A → Env0 P w K mg base A outer s H → BindsTo s fd args (ps.zip us) → Vals vs us → sp vs H Q E →
      codeAny (model P w) A (.call (.ref f) args) (CR CX outer P w H s Q E) s
section
variable {P : Program} {w : World} {K : PySem.W.Frag} {mg : Str → Option Value} {base : Heap} {CX : CXT}
  {k : Nat} {f : Addr} {fd : FuncData} {ps : List Str} {sp : Sp}
theorem FnG.of (F : FnOk P w K mg base CX k f fd ps sp) : FnG P w K mg base CX k f fd ps sp :=
  ⟨F.len, fun A outer s H args us vs Q E _ hr e0 hb r h =>
    F.run A outer s H args us vs Q E hr e0 hb r h⟩
/-- a def by its body, where the guards are known -/
theorem fng_of {name qual : Str} {params : Arguments} {body : List Stmt} {scope : Scope} {dV kV doc pm cdv ct oc : Value} {an od : Option Addr}
    {osl : Array (Option Value)} {N : List Str}
    (lk : K.lookup f = some ⟨oc, od, .func (PySem.W.fnOf name qual params body scope dV kV doc pm an cdv ct), osl⟩)
    (hcd : PySem.W.codeIn K cdv qual = true) (S : FnScope N ps scope)
    (len : ∀ vs H Q E, sp vs H Q E → vs.length = ps.length)
    (hbody : ∀ (A : Around) (outer : List Env) (s : Shared) (H : Hp) (vs : List V) (Q : VK) (E : XK),
      (cxOf CX P w K mg base N qual scope f cdv A outer s H E).A.guards = some [] →
      Room k (A.deeper (envOfC qual scope s.heap.objs.size f cdv)) → sp vs H Q E →
      ∃ t, PSs (cxOf CX P w K mg base N qual scope f cdv A outer s H E) body t ∧
        t { nx := fun _ H' => Q .non H', rt := Q } (start N vs) H) :
    FnG P w K mg base CX (k + 1) f (PySem.W.fnOf name qual params body scope dV kV doc pm an cdv ct) ps sp := by
  refine ⟨len, fun A outer s H args us vs Q E hg hr e0 hb r hsp => ?_⟩
  have hl := len _ _ _ _ hsp
  have inK : K.In s.heap := e0.mod.kin.keeps fun b o e => (e0.bs b o e).1
  have noLim : s.heap.NoLimit := e0.mod.nolimit.keeps fun b o e => (e0.bs b o e).1
  have kinds : ∀ y ∈ ps.zip us, scope.names.lookup y.1 = some .local ∨
      (scope.names.lookup y.1 = some .cell ∧ ((cellsFrom (s.heap.objs.size + 1) scope.names []).lookup y.1).isSome = true) := by
    rintro ⟨n, v⟩ hy
    have hn : n ∈ ps := (List.of_mem_zip hy).1
    cases S.par n hn with
    | inl q => exact Or.inl q
    | inr q => exact Or.inr (And.intro q (PySem.W.cellsFrom_some _ _ _ (Or.inl q)))
  refine codeAny_call_function hr.depth (inK _ _ lk) rfl S.co S.gen rfl (PySem.W.codeRec_of inK hcd) (hb _ _ _ _ ?_)
  refine wpAny_newFunctionEnv_cells S.kind kinds fun env he s1 x => ?_
  subst he
  refine ⟨noLim.keeps x.toInCall.keep, codeAny_func ?_⟩
  obtain ⟨t, ht, hq⟩ := hbody A outer s H vs Q E hg (hr.deeper _) hsp
  have I := inv_start (CX := CX) (P := P) (w := w) (K := K) (mg := mg) (base := base) (E := E) S hr.hd e0 hl r x
  refine wpAny_mono (ht.run [] s1 (start N vs) H _ I hq) (fun fl s' hs => ?_) fun e s' hs => hs
  match fl, hs with
  | .ret u, ⟨v, σ', H', J, rv, q⟩ => exact ⟨v, H', J.os, J.bare, J.base, J.hok, rv, q⟩
  | .next, ⟨σ', H', J, q⟩ => exact ⟨V.non, H', J.os, J.bare, J.base, J.hok, rfl, q⟩
  | .brk, ⟨_, _, _, q⟩ => exact q.elim
  | .cont, ⟨_, _, _, q⟩ => exact q.elim
end
section
variable {X : Cx} {CX : CXT} {k : Nat} {f : Addr} {fd : FuncData} {ps : List Str} {sp : Sp} {dvs : List V} {ds : List Value}
  {E : XK} {x : Str} {p pos : Pos} {e : Expr} {es : List Expr} {t : TA}
end
section
variable {X : Cx}
theorem one_val {P : V → Value → Prop} {x : V} {us : List Value} (h : Paired P [x] us) : ∃ u, us = [u] ∧ P x u := by
  cases h with
  | cons a b => cases b; exact ⟨_, rfl, a⟩
end
/-- the law's call, by such a promise -/
theorem law_callG {P : Program} {w : World} {K : PySem.W.Frag} {mg mb : Str → Option Value} {k : Nat} {fa a : Addr}
    {fd : FuncData} {x : Str} {sp : Sp} {s1 : Shared} {vs : List Value} {ns : List Int}
    (inK : K.In s1.heap) (hns : s1.heap.Ns mainGlobals mg) (hb : s1.heap.Ns builtinsNs mb) (hbb : ∀ x : Str, x ≠ "__name__" → mb x = bootBuiltins x)
    (noLim : s1.heap.NoLimit) (hgen : s1.gens = #[])
    (ha : s1.heap.get? a = some { cls := .type "list", data := .seq vs.toArray }) (hi : IntsAre vs ns) (hl : ns.length ≤ sizeLine) (hr : Room k callerA)
    (F : ∀ base : Heap, K.In base → base.Ns mainGlobals mg → FnG P w K mg base CX0 k fa fd [x] sp)
    (hbind : ∀ (s : Shared) (u : Value), BindsTo s fd ⟨[u], []⟩ [(x, u)])
    (hsp : ∀ H : Hp, SqL K H a (ns.map V.int) → sp [.ref a] H (fun v _ => v = .bl true) fun _ _ _ => False) :
    codeAny (model P w) callerA (.call (.ref fa) ⟨[.ref a], []⟩)
      (fun r s' => r = .ok (.ret (.bool true)) ∧ OldK s1.heap s'.heap ∧ s'.os = s1.os ∧ AllBare s'.gens) s1 := by
  have rv := vals_ints hi
  have lenV := hi.length
  let scr : Obj := { cls := .type "list", data := .seq vs.toArray }
  have main : ∀ H : Hp, (∀ b, H b = none ∨ H b = some (.frz scr (.lst (ns.map V.int)))) → SqL K H a (ns.map V.int) → HOk P w H s1.heap →
      (∀ b, H b ≠ none → b = a) → (H a ≠ none → K.lookup a = none) →
      codeAny (model P w) callerA (.call (.ref fa) ⟨[.ref a], []⟩)
        (fun r s' => r = .ok (.ret (.bool true)) ∧ OldK s1.heap s'.heap ∧ s'.os = s1.os ∧ AllBare s'.gens) s1 := by
    intro H hO hS hok only notK
    have untracked : ∀ {b : Addr} {o : Obj} {es : Array DictEntry} {ep : Nat}, s1.heap.get? b = some o → o.data = .dict es ep → H b = none := by
      intro b o es ep e d
      refine Classical.byContradiction fun q => ?_
      have : b = a := only b q
      subst this
      rw [ha] at e
      cases e
      exact nomatch (show Data.seq vs.toArray _ = Data.dict es ep from d)
    have hide : ∀ {b : Addr} {o : Obj}, s1.heap.get? b = some o → H b = none → (hidT s1.heap H).get? b = some o := fun e n => hidT_get e n
    have nsHid : ∀ {b : Addr} {m : Str → Option Value}, s1.heap.Ns b m → (hidT s1.heap H).Ns b m := by
      rintro b m ⟨o, es, ep, e, d, r⟩
      exact ⟨o, es, ep, hide e (untracked e d), d, r⟩
    have kHid : K.In (hidT s1.heap H) := by
      intro b o e
      refine hide (inK b o e) (Classical.byContradiction fun q => ?_)
      have : b = a := only b q
      subst this
      rw [notK q] at e
      cases e
    obtain ⟨mc, lim1, lim2⟩ := noLim
    have hM : Mod K mg (hidT s1.heap H) := ⟨kHid, nsHid hns, ⟨mb, nsHid hb, hbb⟩, ⟨mc, nsHid lim1, lim2⟩⟩
    have e0 : Env0 P w K mg (hidT s1.heap H) callerA [] s1 H :=
      ⟨rfl, hM, fun b o e => of_hidT e, Nat.le_of_eq (hidT_size _ _), trivial, fun b hb => (nomatch (show b ∈ ([] : List Addr) from hb)), hok, AllBare.of_eq hgen⟩
    refine codeAny_mono ((F _ kHid (nsHid hns)).run callerA [] s1 H ⟨[.ref a], []⟩ [.ref a] [.ref a] _ _ rfl hr e0 (hbind s1 (.ref a)) (.cons rfl .nil) (hsp H hS)) fun r s' h => ?_
    match r, h with
    | .error e, h => exact h.elim
    | .ok .next, h => exact False.elim h
    | .ok .brk, h => exact False.elim h
    | .ok .cont, h => exact False.elim h
    | .ok (.ret u), ⟨v, H', os, bare, un, hok', r', q⟩ =>
      have q' : v = .bl true := q
      subst q'
      obtain rfl : u = Value.bool true := r'
      refine ⟨rfl, OldK.of_keep fun b o e => ?_, os, bare⟩
      rcases hO b with z | z
      · exact un.keep b o e z (by intro y; exact (nomatch (show b ∈ ([] : List Addr) from y))) (by simp)
      · have z2 := un.frzs b scr _ z
        obtain ⟨e1, _⟩ := hok b _ z
        obtain ⟨e2, _⟩ := hok' b _ z2
        rw [e] at e1
        cases e1
        exact e2
  have absent : (none : Option HO) ≠ none → False := fun z => z rfl
  match hk : K.lookup a with
  | some o =>
    have e := inK a o hk
    rw [ha] at e
    cases e
    exact main (fun _ => none) (fun _ => Or.inl rfl)
      (Or.inr ⟨_, vs.toArray, _, hk, rfl, rfl, rfl, by rw [List.size_toArray, lenV]; exact hl, by simpa using rv⟩)
      (fun b u z => nomatch (show (none : Option HO) = some u from z)) (fun b z => (absent z).elim) fun z => (absent z).elim
  | none =>
    refine main (fun b => if b = a then some (.frz scr (.lst (ns.map V.int))) else none) (fun b => ?_) (Or.inl (Or.inr ⟨scr, if_pos rfl⟩)) (fun b u z => ?_) (fun b z => ?_) fun _ => hk
    · by_cases hb : b = a
      · exact Or.inr (if_pos hb)
      · exact Or.inl (if_neg hb)
    · by_cases hb : b = a
      · have z' := (if_pos hb).symm.trans z
        cases z'
        subst hb
        exact ⟨ha, by rw [List.length_map]; exact hl, vs, _, rv, ha⟩
      · exact nomatch (if_neg hb).symm.trans z
    · by_cases hb : b = a
      · exact hb
      · exact absurd (if_neg hb) z
/-- what the head leaves, from such a promise of the law -/
theorem walk_ofG {l : PySem.W.OpenLaw} {n k : Nat} {q : Program} {loose : List Str} {XP : (Str → Option Value) → Heap → Prop} {YP : World → Heap → Prop}
    {d : DefRec} {K : Params → PySem.W.Frag} {sp : World → Sp} {x : Str}
    (hn : l.most = some n) (hn2 : n ≤ sizeLine) (hdf : d.params.defaults = []) (hr : Room k callerA)
    (hY : ∀ (w : World) (h : Heap), YP w h → (K w.params).In h)
    (F : ∀ (w : World) (mg : Str → Option Value) (fa : Addr) (h : Heap), (K w.params).In h → h.Ns mainGlobals mg → mg d.name = some (.ref fa) →
      ∃ fd : FuncData, (∀ (s : Shared) (u : Value), BindsTo s fd ⟨[u], []⟩ [(x, u)]) ∧
        ∀ base : Heap, (K w.params).In base → base.Ns mainGlobals mg → FnG l.prog w (K w.params) mg base CX0 k fa fd [x] (sp w))
    (hsp : ∀ (w : World) (H : Hp) (a : Addr) (ns : List Int), ns.length ≤ n → SqL (K w.params) H a (ns.map V.int) → sp w [.ref a] H (fun v _ => v = .bl true) fun _ _ _ => False) :
    PySem.W.WalkO q loose XP YP l.row.toRowW d [] (fun f vs => PySem.call f vs) := by
  refine Att.attach_call hn hdf ?_
  intro w s0 s1 mg mb fa o pm cd doc a vs ns G Y ho hd hcd hmg hobj hints hlen hgen
  have inK := hY w _ Y
  obtain ⟨fd, hb, hF⟩ := F w mg fa _ inK G.T.g hmg
  exact law_callG inK G.T.g G.T.b G.T.builtins G.T.nolimit hgen hobj hints (Nat.le_trans hlen hn2) hr hF hb fun H hS => hsp w H a ns hlen hS
end Vg
namespace Vg
open PySem PySem.Spec PyProof.Rows L2
/-- a def of the module, as its callers know it -/
structure Fn (P : Program) (w : World) (K : PySem.W.Frag) (mg : Str → Option Value) (base : Heap) (k : Nat) (x : Str) (ps : List Str) (sp : Sp) : Prop where
  ex : ∃ (f : Addr) (fd : FuncData), mg x = some (.ref f) ∧ PySem.W.keepIn K (.ref f) = true ∧ Binds K fd ps [] ∧ FnOk P w K mg base CX0 k f fd ps sp
/-- where a def of the module stands -/
structure At (K : PySem.W.Frag) (mg : Str → Option Value) (x : Str) (st : Stmt) : Prop where
  ex : ∃ (f : Addr) (fd : FuncData), mg x = some (.ref f) ∧ Fun K x x st f fd
section
variable {P : Program} {w : World} {K : PySem.W.Frag} {mg : Str → Option Value} {base : Heap} {k : Nat} {x : Str} {st : Stmt} {N ps : List Str} {sp : Sp}
/-- a def by its body -/
theorem At.fn (D : At K mg x st) (S : FnScope N ps (defScope st))
    (hb : ∀ (kV doc pm : Value) (an : Option Addr) (cdv ct : Value) (us : List Value), us.length = ps.length →
      bindArgs (PySem.W.fnOf x x (defArgs st) (defBody st) (defScope st) .none kV doc pm an cdv ct) ⟨us, []⟩ = pure (ps.zip us))
    (len : ∀ vs H Q E, sp vs H Q E → vs.length = ps.length)
    (body : ∀ (f : Addr) (cdv : Value) (A : Around) (outer : List Env) (s : Shared) (H : Hp) (vs : List V) (Q : VK) (E : XK),
      Room k (A.deeper (envOfC x (defScope st) s.heap.objs.size f cdv)) → sp vs H Q E →
      ∃ t, PSs (cxOf CX0 P w K mg base N x (defScope st) f cdv A outer s H E).nox (defBody st) t ∧ t { nx := fun _ H' => Q .non H', rt := Q } (start N vs) H) :
    Fn P w K mg base (k + 1) x ps sp := by
  obtain ⟨f, fd, hm, F⟩ := D.ex
  exact ⟨f, fd, hm, F.kp, F.binds hb, F.ok S len fun cdv A outer s H vs Q E hr h => body f cdv A outer s H vs Q E hr h⟩
end
section
variable {X : Cx} {k : Nat} {ps : List Str} {sp : Sp} {E : XK} {x : Str} {p pos : Pos} {e : Expr} {es : List Expr} {t : TA}
theorem pe_fn (F : Fn X.prog X.w X.K X.mg X.base k x ps sp) (hr : Room k X.A) (hg : Gl X x) (hx : Passes CX0 X E) (ha : PA X (e :: es) t)
    (hdb : (x == ("__debug__" : Str)) = false := by decide) (he : starEach (e :: es) X.env = (false, eval e X.env) :: starEach es X.env := by rfl)
    (hpl : (backTo pos (starEach es X.env)).any (·.1) = false := by rfl) : PE X (.Call (.Name x p) (e :: es) [] pos) (tCall sp [] E t) := by
  obtain ⟨f, fd, hm, hk, hb, F⟩ := F.ex
  exact pe_call F hr hg hm hk hb .nil hx ha hdb he hpl
end
/-- the built-in class of a value -/
inductive Tn (K : PySem.W.Frag) (H : Hp) : V → String → Prop
  | non : Tn K H .non "NoneType"
  | bl (b : Bool) : Tn K H (.bl b) "bool"
  | int (i : Int) : Tn K H (.int i) "int"
  | str (z : Str) : Tn K H (.str z) "str"
  | lst {a : Addr} {xs : List V} (h : H a = some (.lst xs)) : Tn K H (.ref a) "list"
  | tup {a : Addr} {xs : List V} (h : H a = some (.tup xs)) : Tn K H (.ref a) "tuple"
  | dct {a : Addr} {kvs : List (Key × V)} (h : H a = some (.dK kvs)) : Tn K H (.ref a) "dict"
  | con {a : Addr} {o : Obj} (e : K.lookup a = some o) (c : o.cls = .type "tuple") : Tn K H (.ref a) "tuple"
theorem Tn.tyx {K : PySem.W.Frag} {H : Hp} {v : V} {n : String} (h : Tn K H v n) : TyX K H v (.type n) := by
  cases h with
  | non => exact .base .non
  | bl b => exact .base (.bl b)
  | int i => exact .base (.int i)
  | str z => exact .base (.str z)
  | lst h => exact .base (.lst h)
  | tup h => exact .base (.tup h)
  | dct h => exact .base (.dK h)
  | con e c => exact .kTuple e c
section
variable {X : Cx}
theorem cr_isi : CallR X (.builtin "isinstance") (fun xs H Q => ∃ x n c b, xs = [x, .ty c] ∧ Tn X.K H x n ∧ kitB n c = some b ∧ Q (.bl b) H) := by
  intro pins s σ H xs us Q I r h
  obtain ⟨x, n, c, b, rfl, ht, hk, q⟩ := h
  exact call_isi pins s σ H _ us Q I r ⟨x, .ty c, .type n, .type c, b, rfl, .ty c, ht.tyx, kit_ty hk, q⟩
end
end Vg
namespace Vg
open PySem PySem.Spec PyProof.Rows L2
/-- what a purse's list holds, with n draws left at least -/
def Pu (l : List V) (n : Nat) : Prop :=
  ∃ a b c : Int, l = [.int a, .int b, .int c] ∧ 0 ≤ a ∧ 0 ≤ b ∧ b < 2147483629 ∧ 0 ≤ c ∧ c + n ≤ 100000
def Pz (H : Hp) (p : Addr) (n : Nat) : Prop := ∃ l, H p = some (.lst l) ∧ Pu l n
theorem Pz.mono {H : Hp} {p : Addr} {n m : Nat} (h : Pz H p n) (hm : m ≤ n) : Pz H p m := by
  obtain ⟨l, h1, a, b, c, h2, h3, h4, h5, h6, h7⟩ := h
  exact ⟨l, h1, a, b, c, h2, h3, h4, h5, h6, by omega⟩
theorem Pz.upd {H : Hp} {p : Addr} {n : Nat} {l : List V} (h : Pu l n) : Pz (upd H p (.lst l)) p n := ⟨l, upd_same, h⟩
theorem Pz.same {H H' : Hp} {p : Addr} {n : Nat} (h : Pz H p n) (s : Same H H') : Pz H' p n := by
  obtain ⟨l, h1, h2⟩ := h
  exact ⟨l, s _ _ h1, h2⟩
/-- all but the object at p is as it was -/
def But (p : Addr) (H H' : Hp) : Prop := ∀ b o, b ≠ p → H b = some o → H' b = some o
theorem But.refl (p : Addr) (H : Hp) : But p H H := fun _ _ _ h => h
theorem But.trans {p : Addr} {H H1 H2 : Hp} (a : But p H H1) (b : But p H1 H2) : But p H H2 := fun c o n h => b c o n (a c o n h)
theorem But.of {p : Addr} {H H' : Hp} (s : Same H H') : But p H H' := fun b o _ h => s b o h
theorem But.upd {p : Addr} {H : Hp} {o : HO} : But p H (upd H p o) := fun b u n h => by rw [upd_ne n]; exact h
theorem But.new {p q : Addr} {H : Hp} {o : HO} (h : H q = none) : But p H (L2.upd H q o) := fun b u n e => by rw [upd_ne (ne_of_none e h)]; exact e
theorem Same.new {q : Addr} {H : Hp} {o : HO} (h : H q = none) : Same H (L2.upd H q o) := fun b u e => by rw [upd_ne (ne_of_none e h)]; exact e
theorem But.free {p q : Addr} {H H' : Hp} (s : But p H H') (h : H' q = none) (n : q ≠ p) : H q = none := by
  cases e : H q with
  | none => rfl
  | some o => rw [s q o n e] at h; cases h
/-- one draw -/
def spTake : Sp := fun vs H Q _ => ∃ (p : Addr) (m : Int) (n : Nat), vs = [.ref p, .int m] ∧ 0 < m ∧ m.natAbs < 2 ^ 200 ∧ Pz H p (n + 1) ∧
  ∀ (r : Int) (l : List V), 0 ≤ r → r < m → Pu l n → Q (.int r) (upd H p (.lst l))
theorem take_pow {i : Int} {e : Int} (h0 : 0 ≤ i) (h : i < 18446744073709551616) (he : 0 ≤ e) (he2 : e ≤ 1000000) : 0 ≤ e ∧ e ≤ 1000000 ∧ i.natAbs < 2 ^ 64 := ⟨he, he2, by omega⟩
end Vg
namespace Vg
open PySem PySem.Spec PyProof.Rows L2
/-- a cell of the script, whatever it holds -/
def spCell (K : PySem.W.Frag) : Sp := fun vs H Q _ => ∃ (a : Addr) (ns : List Int) (k : Int), vs = [.ref a, .int k] ∧ SqL K H a (ns.map V.int) ∧ 0 ≤ k ∧ k < 1000000 ∧
  ∀ z : Int, Q (.int z) H
/-- a new purse -/
def spPurse : Sp := fun vs H Q _ => ∃ z : Int, vs = [.int z] ∧ ∀ (p : Addr) (l : List V), H p = none → Pu l 90000 → Q (.ref p) (upd H p (.lst l))
/-- the greatest number that divides both -/
def gcdI (a b : Int) : Int := ((Nat.gcd a.natAbs b.natAbs : Nat) : Int)
theorem gcd_zero {a : Int} (ha : 0 ≤ a) : gcdI a 0 = a := by
  unfold gcdI
  simp [Int.natAbs_of_nonneg ha]
end Vg
namespace Vg
open PySem PySem.Spec PyProof.Rows L2
def kD : Key → PyData
  | .inl i => .int i
  | .inr x => .str x
/-! what a value tells as data, whose objects stand at addresses of a kind -/
mutual
inductive Dq (ok : Addr → Prop) (H : Hp) : V → PyData → Prop
  | non : Dq ok H .non .none
  | bl (b : Bool) : Dq ok H (.bl b) (.bool b)
  | int (i : Int) : Dq ok H (.int i) (.int i)
  | str (x : Str) : Dq ok H (.str x) (.str x)
  | lst {a : Addr} {xs : List V} {ds : List PyData} (o : ok a) (h : H a = some (.lst xs)) (r : DqL ok H xs ds) : Dq ok H (.ref a) (.list ds)
  | tup {a : Addr} {xs : List V} {ds : List PyData} (o : ok a) (h : H a = some (.tup xs)) (r : DqL ok H xs ds) : Dq ok H (.ref a) (.tuple ds)
  | dct {a : Addr} {kvs : List (Key × V)} {es : List (PyData × PyData)} (o : ok a) (h : H a = some (.dK kvs)) (k : kvs.map (fun kv => kD kv.1) = es.map (·.1))
      (r : DqL ok H (kvs.map (·.2)) (es.map (·.2))) : Dq ok H (.ref a) (.dict es)
inductive DqL (ok : Addr → Prop) (H : Hp) : List V → List PyData → Prop
  | nil : DqL ok H [] []
  | cons {v : V} {vs : List V} {d : PyData} {ds : List PyData} (h : Dq ok H v d) (r : DqL ok H vs ds) : DqL ok H (v :: vs) (d :: ds)
end
mutual
theorem Dq.mono {ok ok' : Addr → Prop} {H H' : Hp} (s : ∀ a o, ok a → H a = some o → H' a = some o) (w : ∀ a o, ok a → H a = some o → ok' a) : ∀ {v : V} {d : PyData}, Dq ok H v d → Dq ok' H' v d
  | _, _, .non => .non
  | _, _, .bl b => .bl b
  | _, _, .int i => .int i
  | _, _, .str x => .str x
  | _, _, .lst o h r => .lst (w _ _ o h) (s _ _ o h) (DqL.mono s w r)
  | _, _, .tup o h r => .tup (w _ _ o h) (s _ _ o h) (DqL.mono s w r)
  | _, _, .dct o h k r => .dct (w _ _ o h) (s _ _ o h) k (DqL.mono s w r)
theorem DqL.mono {ok ok' : Addr → Prop} {H H' : Hp} (s : ∀ a o, ok a → H a = some o → H' a = some o) (w : ∀ a o, ok a → H a = some o → ok' a) : ∀ {vs : List V} {ds : List PyData}, DqL ok H vs ds → DqL ok' H' vs ds
  | _, _, .nil => .nil
  | _, _, .cons h r => .cons (Dq.mono s w h) (DqL.mono s w r)
end
theorem DqL.len {ok : Addr → Prop} {H : Hp} : ∀ {vs : List V} {ds : List PyData}, DqL ok H vs ds → vs.length = ds.length
  | _, _, .nil => rfl
  | _, _, .cons _ r => congrArg Nat.succ (DqL.len r)
theorem DqL.app {ok : Addr → Prop} {H : Hp} : ∀ {vs ws : List V} {ds es : List PyData}, DqL ok H vs ds → DqL ok H ws es → DqL ok H (vs ++ ws) (ds ++ es)
  | _, _, _, _, .nil, b => b
  | _, _, _, _, .cons h r, b => .cons h (DqL.app r b)
theorem DqL.get {ok : Addr → Prop} {H : Hp} : ∀ {vs : List V} {ds : List PyData} {i : Nat} {d : PyData}, DqL ok H vs ds → ds[i]? = some d → ∃ v, vs[i]? = some v ∧ Dq ok H v d
  | _, _, i, _, .nil, e => by simp at e
  | _, _, 0, _, .cons h _, e => by
    simp at e
    subst e
    exact ⟨_, rfl, h⟩
  | _, _, i + 1, d, .cons _ r, e => by
    obtain ⟨v, h1, h2⟩ := DqL.get (i := i) (d := d) r (by simpa using e)
    exact ⟨v, by simpa using h1, h2⟩
theorem Dq.tn {ok : Addr → Prop} {K : PySem.W.Frag} {H : Hp} {v : V} {d : PyData} (h : Dq ok H v d) : ∃ n, Tn K H v n := by
  cases h with
  | non => exact ⟨_, .non⟩
  | bl b => exact ⟨_, .bl b⟩
  | int i => exact ⟨_, .int i⟩
  | str x => exact ⟨_, .str x⟩
  | lst o h r => exact ⟨_, .lst h⟩
  | tup o h r => exact ⟨_, .tup h⟩
  | dct o h k r => exact ⟨_, .dct h⟩
/-- an expression that makes such data of new objects -/
def Mk1 (t : TE) (d : PyData) : Prop := ∀ (σ : L2.St) (H : Hp) (Q : VK), (∀ v H', Same H H' → Dq (fun a => H a = none) H' v d → Q v H') → t σ H Q
/-- name = such an expression -/
theorem sq_set {te : TE} {i : Nat} {u : TS} {D : Ends} {σ : L2.St} {H : Hp} {d : PyData} (h : Mk1 te d)
    (k : ∀ v H', Same H H' → Dq (fun a => H a = none) H' v d → u D (σ.set i (some v)) H') : tSeq (tAsg te (gName i)) u D σ H := h σ H _ k
end Vg
namespace Vg
open PySem PySem.Spec PyProof.Rows L2
theorem Pz.new {H : Hp} {p q : Addr} {n : Nat} {o : HO} (h : Pz H p n) (hq : H q = none) : Pz (L2.upd H q o) p n := h.same (Same.new hq)
theorem Pz.ne {H : Hp} {p q : Addr} {n : Nat} (h : Pz H p n) (hq : H q = none) : q ≠ p := by
  obtain ⟨l, h1, _⟩ := h
  exact (ne_of_none h1 hq).symm
end Vg
namespace Vg
open PySem PySem.Spec PyProof.Rows L2
/-- some data that a value tells -/
def Dk (H : Hp) (v : V) (d : PyData) : Prop := ∃ ok, Dq ok H v d
theorem Dk.tn {K : PySem.W.Frag} {H : Hp} {v : V} {d : PyData} (h : Dk H v d) : ∃ n, Tn K H v n := by
  obtain ⟨_, h⟩ := h
  exact h.tn
theorem Dk.same {H H' : Hp} {v : V} {d : PyData} (h : Dk H v d) (s : Same H H') : Dk H' v d := by
  obtain ⟨ok, h⟩ := h
  exact ⟨ok, h.mono (fun a o _ e => s _ _ e) fun a o k _ => k⟩
/-- a tuple of two -/
def pairD : PyData → Bool
  | .tuple ds => decide (ds.length = 2)
  | _ => false
theorem Dk.two {H : Hp} {v : V} {d : PyData} (h : Dk H v d) (hp : pairD d = true) : ∃ a x y dx dy, v = .ref a ∧ H a = some (.tup [x, y]) ∧ d = .tuple [dx, dy] ∧ Dk H x dx ∧ Dk H y dy := by
  obtain ⟨ok, h⟩ := h
  cases h with
  | @tup a xs ds o h r =>
    have hl : ds.length = 2 := of_decide_eq_true hp
    match ds, hl with
    | [dx, dy], _ =>
      match r with
      | .cons r1 (.cons r2 .nil) => exact ⟨a, _, _, dx, dy, rfl, h, rfl, ⟨ok, r1⟩, ⟨ok, r2⟩⟩
  | _ => cases hp
end Vg
namespace Vg
open PySem PySem.Spec PyProof.Rows L2
end Vg
namespace Vg
open PySem PySem.Spec PyProof.Rows L2
/-- a text of at most n signs, each one that there is -/
structure Tx (n : Nat) (z : Str) : Prop where
  len : z.cps.toList.length ≤ n
  ok : ∀ c ∈ z.cps.toList, c < 1114112
theorem Tx.strOk {n : Nat} {z : Str} (h : Tx n z) : PyData.strOk z = true := by
  unfold PyData.strOk
  rw [← Array.all_toList, List.all_eq_true]
  exact fun c hc => decide_eq_true (h.ok c hc)
theorem Tx.length {n : Nat} {z : Str} (h : Tx n z) : z.length ≤ n := by
  have e : z.length = z.cps.toList.length := by simp [Str.length]
  rw [e]
  exact h.len
theorem Tx.mono {n m : Nat} {z : Str} (h : Tx n z) (hm : n ≤ m) : Tx m z := ⟨Nat.le_trans h.len hm, h.ok⟩
theorem toList_app (x y : Str) : (x ++ y).cps.toList = x.cps.toList ++ y.cps.toList := by
  show (x.cps ++ y.cps).toList = _
  simp
theorem Tx.app {n m : Nat} {x y : Str} (h : Tx n x) (k : Tx m y) : Tx (n + m) (x ++ y) := by
  refine ⟨?_, fun c hc => ?_⟩
  · rw [toList_app, List.length_append]
    have := h.len
    have := k.len
    omega
  · rw [toList_app] at hc
    rcases List.mem_append.mp hc with hc | hc
    · exact h.ok c hc
    · exact k.ok c hc
theorem Tx.cut {n : Nat} {z : Str} (h : Tx n z) (lo hi : Option Int) : Tx n (cutS z lo hi) := by
  refine ⟨?_, fun c hc => ?_⟩
  · show (((z.cps.toList.drop _).take _).toArray).toList.length ≤ n
    have := h.len
    simp only [List.length_take, List.length_drop]
    omega
  · have hc' : c ∈ ((z.cps.toList.drop (HT.sIx z.length 0 lo)).take (HT.sIx z.length z.length hi - HT.sIx z.length 0 lo)) := by
      simpa [cutS] using hc
    exact h.ok c (List.mem_of_mem_drop (List.mem_of_mem_take hc'))
theorem Tx.one {c : Nat} (h : c < 1114112) : Tx 1 ⟨#[c]⟩ := ⟨by simp, fun d hd => by simp at hd; omega⟩
theorem Tx.join : ∀ {ys : List Str}, (∀ y ∈ ys, Tx 1 y) → Tx ys.length (Txt.join "" ys) := by
  intro ys
  rw [TL.join_eq]
  induction ys with
  | nil => intro _; exact ⟨by decide, fun c hc => by simp [Str.join] at hc; exact absurd hc (by decide +revert)⟩
  | cons y ys ih =>
    intro h
    cases ys with
    | nil => exact h y (List.mem_cons_self ..)
    | cons z zs =>
      have h1 := h y (List.mem_cons_self ..)
      have h2 := ih fun x hx => h x (List.mem_cons_of_mem _ hx)
      have e : Str.join "" (y :: z :: zs) = y ++ "" ++ Str.join "" (z :: zs) := rfl
      have h3 : Tx 0 ("" : Str) := ⟨by decide, fun c hc => by exact absurd hc (by decide +revert)⟩
      rw [e]
      exact ((h1.app h3).app h2).mono (by simp only [List.length_cons]; omega)
end Vg
namespace Vg
open PySem PySem.Spec PyProof.Rows L2
/-- such a def by its body -/
theorem fng_fun {P : Program} {w : World} {K : PySem.W.Frag} {mg : Str → Option Value} {base : Heap} {k : Nat} {x : Str} {st : Stmt} {N ps : List Str} {sp : Sp} {f : Addr} {fd : FuncData} (F : Fun K x x st f fd) (S : FnScope N ps (defScope st))
    (len : ∀ vs H Q E, sp vs H Q E → vs.length = ps.length)
    (body : ∀ (cdv : Value) (A : Around) (outer : List Env) (s : Shared) (H : Hp) (vs : List V) (Q : VK) (E : XK),
      (cxOf CX0 P w K mg base N x (defScope st) f cdv A outer s H E).nox.A.guards = some [] →
      Room k (A.deeper (envOfC x (defScope st) s.heap.objs.size f cdv)) → sp vs H Q E →
      ∃ t, PSs (cxOf CX0 P w K mg base N x (defScope st) f cdv A outer s H E).nox (defBody st) t ∧ t { nx := fun _ H' => Q .non H', rt := Q } (start N vs) H) :
    FnG P w K mg base CX0 (k + 1) f fd ps sp := by
  obtain ⟨oc, od, kV, doc, pm, an, cdv, ct, osl, rfl, lk, hcd⟩ := F.ex
  refine fng_of lk hcd S len fun A outer s H vs Q E hg hr hsp => ?_
  obtain ⟨t, h, q⟩ := body cdv A outer s H vs Q E hg hr hsp
  exact ⟨t, h.nox, q⟩
/-- a def as the head tells it -/
structure DefIn (K : PySem.W.Frag) (x : Str) (st : Stmt) : Prop where
  ex : ∃ (f : Addr) (oc : Value) (od an : Option Addr) (sl : Array (Option Value)) (kV dc pm cd ct : Value), PySem.W.nsIn K mainGlobals x = some (some (.ref f)) ∧
    K.lookup f = some ⟨oc, od, .func (PySem.W.fnOf x x (defArgs st) (defBody st) (defScope st) .none kV dc pm an cd ct), sl⟩ ∧
    PySem.W.codeIn K cd x = true ∧ PySem.W.keepIn K (.ref f) = true
theorem DefIn.at {K : PySem.W.Frag} {h : Heap} {mg : Str → Option Value} {x : Str} {st : Stmt} (D : DefIn K x st) (X : K.In h) (G : h.Ns mainGlobals mg) : At K mg x st := by
  obtain ⟨f, oc, od, an, sl, kV, dc, pm, cd, ct, a, l, c, k⟩ := D.ex
  exact ⟨f, _, PySem.W.mg_of X G a, fun_mk l c k⟩
/-- what a law promises -/
def spLaw (K : PySem.W.Frag) : Sp := fun vs H Q _ => ∃ (a : Addr) (ns : List Int), vs = [.ref a] ∧ SqL K H a (ns.map V.int) ∧ ns.length ≤ 63 ∧ ∀ H', Q (.bl true) H'
/-- a thing that may be handed in: data, its texts in bounds -/
def Good (H : Hp) (v : V) : Prop := (∃ d, Dk H v d) ∧ ∀ z, v = .str z → z.length ≤ 100000 ∧ PyData.strOk z = true
theorem Good.same {H H' : Hp} {v : V} (h : Good H v) (s : Same H H') : Good H' v := by
  obtain ⟨⟨d, hd⟩, hz⟩ := h
  exact ⟨⟨d, hd.same s⟩, hz⟩
theorem Tn.same {K : PySem.W.Frag} {H H' : Hp} {v : V} {n : String} (h : Tn K H v n) (s : Same H H') : Tn K H' v n := by
  cases h with
  | non => exact .non
  | bl b => exact .bl b
  | int i => exact .int i
  | str z => exact .str z
  | lst h => exact .lst (s _ _ h)
  | tup h => exact .tup (s _ _ h)
  | dct h => exact .dct (s _ _ h)
  | con e c => exact .con e c
/-- the law's own promise, as the head's end wants it -/
theorem law_end {P : Program} {w : World} {K : PySem.W.Frag} {h : Heap} {mg : Str → Option Value} {fa : Addr} {st : Stmt} {x : Str} {k : Nat} (X : K.In h) (G : h.Ns mainGlobals mg) (hfa : mg "law" = some (.ref fa)) (D : DefIn K "law" st)
    (hb : ∀ (kV doc pm : Value) (an : Option Addr) (cdv ct u : Value), bindArgs (PySem.W.fnOf "law" "law" (defArgs st) (defBody st) (defScope st) .none kV doc pm an cdv ct) ⟨[u], []⟩ = pure [(x, u)])
    (F : ∀ (f : Addr) (fd : FuncData) (base : Heap), Fun K "law" "law" st f fd → FnG P w K mg base CX0 k f fd [x] (spLaw K)) :
    ∃ fd : FuncData, (∀ (s : Shared) (u : Value), BindsTo s fd ⟨[u], []⟩ [(x, u)]) ∧ ∀ base : Heap, K.In base → base.Ns mainGlobals mg → FnG P w K mg base CX0 k fa fd [x] (spLaw K) := by
  obtain ⟨f, oc, od, an, sl, kV, dc, pm, cd, ct, a, l, c, kp⟩ := D.ex
  have e := hfa.symm.trans (PySem.W.mg_of X G a)
  cases e
  exact ⟨_, fun s u => .of_eq (hb _ _ _ _ _ _ u), fun base _ _ => F _ _ base (fun_mk l c kp)⟩
theorem DefIn.by {K : PySem.W.Frag} {x : Str} {st : Stmt} {f : Addr} {oc : Value} {od an : Option Addr} {sl : Array (Option Value)} {kV dc pm cd ct : Value} (a : PySem.W.nsIn K mainGlobals x = some (some (.ref f)))
    (l : K.lookup f = some ⟨oc, od, .func (PySem.W.fnOf x x (defArgs st) (defBody st) (defScope st) .none kV dc pm an cd ct), sl⟩) (c : PySem.W.codeIn K cd x = true) (k : PySem.W.keepIn K (.ref f) = true) : DefIn K x st :=
  ⟨f, oc, od, an, sl, kV, dc, pm, cd, ct, a, l, c, k⟩
theorem con_in {K : PySem.W.Frag} {x : Str} {n : Int} {t : Tok} (h : PySem.W.nsIn K mainGlobals x = some (some (.int n t))) : ∃ t, PySem.W.nsIn K mainGlobals x = some (some (.int n t)) := ⟨t, h⟩
end Vg
set_option exponentiation.threshold 3000
namespace Vg
open PySem PySem.Spec PyProof.Rows L2
theorem str_len (z : Str) : z.length = z.cps.toList.length := by simp [Str.length]
/-- if c: .. and what stands behind it, the test's answer known -/
theorem sq_if {c : TT} {t r : TS} {D : Ends} {σ : L2.St} {H : Hp} (b : Bool) (h : ∀ R : Bool → Hp → Prop, R b H → c σ H R) (ht : b = true → t { D with nx := r D } σ H) (hu : b = false → r D σ H) : tSeq (tIfS c t tNext) r D σ H := by
  refine h _ ?_
  cases b with
  | true => exact iteT (ht rfl)
  | false => exact iteF (hu rfl)
theorem log_lt {n : Nat} (h : n < 10 ^ 30) : n.log2 < 1920 := by
  by_cases h0 : n = 0
  · subst h0
    decide
  · have : n < 2 ^ 1920 := Nat.lt_of_lt_of_le h (by decide)
    exact (Nat.log2_lt h0).mpr this
theorem char_lt (c : Char) : c.toNat < 1114112 := by
  have h := c.valid
  have e : c.toNat = c.val.toNat := rfl
  rw [e]
  rcases h with h | ⟨_, h⟩
  · have h' : c.val.toNat < 55296 := h
    omega
  · exact h
theorem tx_of (s : String) : Tx s.length (Str.ofString s) := by
  refine ⟨?_, fun c hc => ?_⟩
  · rw [← str_len, PySem.ofString_length]
    exact Nat.le_refl _
  · rw [Str.ofString_eq_toList] at hc
    simp only [List.toList_toArray] at hc
    obtain ⟨d, _, rfl⟩ := List.mem_map.mp hc
    exact char_lt d
theorem tx_int {i : Int} (h : i.natAbs < 10 ^ 30) : Tx 31 (Str.ofString (toString i)) := (tx_of _).mono (int_text_length_le10 (by decide) h)
end Vg
namespace Vg
open PySem PySem.Spec PyProof.Rows L2
/-- the reading of a suite, by the exception, its class, its dict -/
abbrev Sut := Addr → Value → Option Addr → TS
/-- behind a suite its name is gone -/
def goneD (i : Nat) (D : Ends) : Ends :=
  { nx := fun σ H => D.nx (σ.set i none) H, rt := D.rt, bk := fun σ H => D.bk (σ.set i none) H, ct := fun σ H => D.ct (σ.set i none) H }
/-- what some named clauses wish of an exception; no other may come -/
def wNamed (K : PySem.W.Frag) (D : Ends) : List (Value × Nat × Sut) → WX
  | [] => fun _ _ _ _ => False
  | (c, i, ts) :: r => fun cls d σ H => ∃ b, PySem.W.exmOne K cls c = some b ∧
      (b = true → ∀ a, H a = none → ts a cls d (goneD i D) (σ.set i (some (.ref a))) H) ∧ (b = false → wNamed K D r cls d σ H)
/-- clauses «except x as n»; those behind the ones that are told aren't reached -/
inductive Nh (X : Cx) : List ExceptHandler → List (Value × Nat × Sut) → Prop
  | never (hs : List ExceptHandler) : Nh X hs []
  | cons {x n : Str} {c : Value} {i : Nat} {ts : Sut} {st : Stmt} {more : List Stmt} {np p : Pos} {hs : List ExceptHandler} {l : List (Value × Nat × Sut)}
      (hi : X.N[i]? = some n) (hln : X.env.kindOf n = some .local) (hc : Names X x c)
      (hsu : ∀ (a : Addr) (oe : Obj) (cls : Value) (d : Option Addr) (pn : List (Addr × Obj)), Zc cls d oe → (∃ vs, oe.data = .fields vs) → PSs (X.suite a ((a, oe) :: pn)) (st :: more) (ts a cls d))
      (r : Nh X hs l) : Nh X (.ExceptHandler (some (.Name x np)) (some n) (st :: more) p :: hs) ((c, i, ts) :: l)
theorem ps_try_named {X : Cx} {body : List Stmt} {h0 : ExceptHandler} {hds : List ExceptHandler} {l : List (Value × Nat × Sut)} {pos : Pos} {tb : WX → TS}
    (hs : X.stack = X.env :: X.outer) (hf : X.env.frame = some X.env.locals) (hN : X.N.Nodup)
    (hb : ∀ (W : WX) (pn : List (Addr × Obj)) (xe : Value → Shared → Prop), Takes (X.tr pn xe) W → PassesOwn (model X.prog X.w) X.A X.env xe → PSs (X.tr pn xe) body (tb W))
    (hh : Nh X (h0 :: hds) l) : PS X (.Try body (h0 :: hds) [] [] pos) (fun D σ H => tb (wNamed X.K D l) D σ H) := by
  constructor
  intro pins s σ H D I h
  have ok := I.ok
  have frames : X.A.frames = some (X.env :: X.outer) := hs ▸ ok.frames
  apply wpAny_Try_except
  let catch' : Value → Shared → Prop := fun e t =>
    wpAny (model X.prog X.w) X.A (noteFrame e X.env) (fun _ t2 =>
      wpAny (model X.prog X.w) X.A (setFlight e none) (fun _ t3 =>
        wpAny (model X.prog X.w) X.A (handleBy e X.env (h0 :: hds)) (SP X pins D) X.xe t3) X.xe t2) X.xe t
  have caught : Takes (X.tr (X.pn ++ pins) catch') (wNamed X.K D l) := by
    rintro u t ⟨a, B, sI, pins1, σ1, H1, cls, d, rfl, J0, nb, up, sky, na, os, ag, w⟩
    have J1 : Inv X pins σ1 H1 sI := J0.ofTry ok
    have skyF : Sky B (X.env :: X.outer) a (Zc cls d) X.env.locals t.heap := hs ▸ sky
    refine Sky.land Zc.steady frames hf skyF ?_
    intro g fl upg
    have Jg : Inv X pins σ1 H1 { t with heap := g } := J1.landed nb fl.1 (up.trans upg) os ag
    obtain ⟨oe, fv, geta, hz, hd⟩ := fl.there
    have apart : a ∉ frs (X.env :: X.outer) := by
      intro hm
      obtain ⟨_, o2, e2, nofields⟩ := fl.2.2.1.mem hm
      rw [geta] at e2
      cases e2
      exact nofields _ hd
    have noLoc : a ≠ X.env.locals := by
      rintro rfl
      exact apart (List.mem_filterMap.mpr ⟨X.env, List.mem_cons_self, hf⟩)
    have noFs : a ∉ X.fs := by
      intro hm
      obtain ⟨en, hen, q⟩ := List.mem_filterMap.mp hm
      exact apart (List.mem_filterMap.mpr ⟨en, List.mem_cons_of_mem _ hen, q⟩)
    have Sg := Jg.suite geta hd na noLoc noFs
    have walkH : ∀ {hl : List ExceptHandler} {l1 : List (Value × Nat × Sut)}, Nh X hl l1 → wNamed X.K D l1 cls d σ1 H1 →
        wpAny (model X.prog X.w) X.A (handleBy (.ref a) X.env hl) (SP X pins D) X.xe { t with heap := g } := by
      intro hl l1 nh
      induction nh with
      | never _ => exact fun w => False.elim w
      | @cons x n c i ts st more np p hs2 l2 hi hln hc hsu _ ih =>
        rintro ⟨b, exm, yes, no⟩
        refine wpAny_handleBy_cons (codeAny_handlers_test ?_) (fun q => nomatch q)
        have looks : PySem.W.Looks (model X.prog X.w) g (typeOf (.ref a)) cls := by
          intro A Q E s2 k q
          exact wpAny_typeOf_ref (k _ _ geta) (hz.1.symm ▸ q)
        have asks := PySem.W.exm_one (M := model X.prog X.w) Jg.kIn looks exm
        have name : ∀ {Q E : Value → Shared → Prop}, Q c { t with heap := g } →
            wpAny (model X.prog X.w) (X.A.mark (some (.ref a))) (eval (.Name x np) X.env) Q E { t with heap := g } := by
          intro Q E q
          obtain ⟨gl, dbg, own | ⟨free, bt, nn⟩⟩ := hc
          · exact ld_glob (X := X.suite a ((a, oe) :: (X.pn ++ pins))) Sg gl own q dbg
          · exact ld_blt (X := X.suite a ((a, oe) :: (X.pn ++ pins))) Sg gl free bt q nn dbg
        refine name (asks.here ?_)
        cases b with
        | false => exact ih (no rfl)
        | true =>
          apply codeAny_handlers_suite_as
          refine HandSPX.lands_againZ fl ?_
          intro g2 fl2 up2
          have Jg2 : Inv X pins σ1 H1 { t with heap := g2 } := J1.landed nb fl2.1 ((up.trans upg).trans up2) os ag
          obtain ⟨oe2, fv2, geta2, hz2, hd2⟩ := fl2.there
          have Sg2 := Jg2.suite geta2 hd2 na noLoc noFs
          refine store_ok (X := X.suite a ((a, oe2) :: (X.pn ++ pins))) (v := .ref a) Sg2 hN hi (Or.inl hln) rfl ?_ (Or.inr hln)
          intro s5 S5
          refine wpAny_mono ((hsu a oe2 cls d (X.pn ++ pins) hz2 ⟨_, hd2⟩).run [] s5 _ H1 _ S5 (yes rfl a na)) ?_ (fun _ _ z => False.elim z)
          intro f s6 hsp
          have leave : ∀ {σ6 : L2.St} {H6 : Hp} {Q : Shared → Prop}, Inv (X.suite a ((a, oe2) :: (X.pn ++ pins))) [] σ6 H6 s6 →
              (∀ s7, Inv X pins (σ6.set i none) H6 s7 → Q s7) →
              wpAny (model X.prog X.w) X.A (do bindName X.env n .none; unbindBehindTheSuite X.env n p) (fun _ s7 => Q s7) X.xe s6 := by
            intro σ6 H6 Q S6 hq
            exact gone_ok (S6.unsuite ok) hN hi hln hq
          match f, hsp with
          | .next, ⟨σ6, H6, S6, q6⟩ => exact leave S6 fun s7 J7 => ⟨_, _, J7, q6⟩
          | .brk, ⟨σ6, H6, S6, q6⟩ => exact leave S6 fun s7 J7 => ⟨_, _, J7, q6⟩
          | .cont, ⟨σ6, H6, S6, q6⟩ => exact leave S6 fun s7 J7 => ⟨_, _, J7, q6⟩
          | .ret u, ⟨v6, σ6, H6, S6, r6, q6⟩ => exact leave S6 fun s7 J7 => ⟨_, _, _, J7, r6, q6⟩
    exact walkH hh w
  refine wpAny_mono ((hb (wNamed X.K D l) (X.pn ++ pins) catch' caught PassesOwn.looking).run [] s σ H D (I.toTry _) h) ?_ (fun e t he => he)
  intro f t hsp
  match f, hsp with
  | .next, ⟨σ1, H1, J, q⟩ => exact wpAny_execs_nil ⟨σ1, H1, J.ofTry ok, q⟩
  | .brk, ⟨σ1, H1, J, q⟩ => exact ⟨σ1, H1, J.ofTry ok, q⟩
  | .cont, ⟨σ1, H1, J, q⟩ => exact ⟨σ1, H1, J.ofTry ok, q⟩
  | .ret u, ⟨v, σ1, H1, J, r, q⟩ => exact ⟨v, σ1, H1, J.ofTry ok, r, q⟩
/-! ## the classes of the program's own exceptions -/
/-- C.m as a function of the class at C -/
structure ClsFn (K : PySem.W.Frag) (C : Addr) (m : Str) (f : Addr) : Prop where
  ga : PySem.W.specialIn K (.ref C) "__getattribute__" = some (some (.builtin "type.__getattribute__"))
  rd : PySem.W.readsIn K C (.type "type") = true
  fc : PySem.W.findCls K (.ref C) (.type "type") m = some (.val (.ref f))
  kp : PySem.W.keepIn K (.ref f) = true
/-- C.m(e, ..), C a class of the module -/
theorem pe_clsfn {X : Cx} {CX : CXT} {k : Nat} {C f : Addr} {fd : FuncData} {ps : List Str} {sp : Sp} {E : XK} {x m : Str} {p p2 pos : Pos} {e : Expr} {es : List Expr} {t : TA} {pl : Sem Bool}
    (c : ClsFn X.K C m f) (F : FnOk X.prog X.w X.K X.mg X.base CX k f fd ps sp) (hr : Room k X.A) (hg : Gl X x) (hm : X.mg x = some (.ref C)) (hb : Binds X.K fd ps []) (hx : Passes CX X E) (ha : PA X (e :: es) t)
    (hc : eval (.Call (.Attribute (.Name x p) m p2) (e :: es) [] pos) X.env = (do
      let ov ← eval (.Name x p) X.env
      standAt p2.atName
      let (g, first) ← holding [ov] (getMethod ov m pl)
      callWith pos g first (backTo pos (starEach (e :: es) X.env)) (backToKw pos (keywordEach [] X.env))) := by rfl)
    (hdb : (x == ("__debug__" : Str)) = false := by decide) (he : starEach (e :: es) X.env = (false, eval e X.env) :: starEach es X.env := by rfl)
    (hpl : (backTo pos (starEach es X.env)).any (·.1) = false := by rfl) :
    PE X (.Call (.Attribute (.Name x p) m p2) (e :: es) [] pos) (tCall sp [] E t) := by
  constructor
  intro pins s σ H Q I h
  refine PySem.W.methodCall_KW (ld_glob I hg hm ?_ hdb) hc
  refine PySem.W.method_cls I.kIn c.ga ?_
  refine PySem.W.cls_value I.kIn c.rd c.fc rfl ?_
  refine PySem.W.callWith_K (h₀ := X.base) I.ok.mod.kin c.kp ?_ he hpl
  refine thn (ha.run pos pins _ σ H _ (I.tok _) h) ?_
  rintro us s1 ⟨vs, H1, I1, r, q⟩
  exact ⟨I1.kIn, run_fn F hr hb .nil hx I1 r q⟩
end Vg
namespace Vg
open PySem PySem.Spec PyProof.Rows L2
/-! ## isinstance of a caught exception of an own class, with its dict -/
/-! ## the program's own classes of errors -/
/-- the class that the module's name x stands for -/
def clsA (K : PySem.W.Frag) (x : Str) : Addr := match PySem.W.nsIn K mainGlobals x with
  | some (some (.ref C)) => C
  | _ => 0
theorem clsA_of {K : PySem.W.Frag} {x : Str} {C : Addr} (h : PySem.W.nsIn K mainGlobals x = some (some (.ref C))) : clsA K x = C := by
  unfold clsA
  rw [h]
/-- TermError.__init__ of an exception that is being made -/
def spTI (K : PySem.W.Frag) : Sp := fun vs H Q _ => ∃ (a C : Addr) (z : Str), vs = [.ref a, .str z] ∧ OexC K C ∧ H a = some (exo a C none) ∧ Q .non H
/-- C.__init__ of one field -/
def spXI (C : Addr) (f : Str) : Sp := fun vs H Q _ => ∃ (a : Addr) (v : V), vs = [.ref a, v] ∧ H a = some (exo a C none) ∧
  ∀ dx, H dx = none → dx ≠ a → Q .non (upd (upd H dx (exd dx [(f, v)])) a (exo a C (some dx)))
/-- a class of errors with one field, as the module knows it -/
structure Xk (P : Program) (w : World) (K : PySem.W.Frag) (mg : Str → Option Value) (base : Heap) (x f : Str) : Prop where
  hm : mg x = some (.ref (clsA K x))
  O : OexC K (clsA K x)
  E : ExcC K (clsA K x)
  xf : XfC K (clsA K x)
  no : PySem.W.findIn K (.ref (clsA K x)) f = some none
  init : ∃ (fI : Addr) (fd : FuncData) (ps : List Str), PySem.W.findIn K (.ref (clsA K x)) "__init__" = some (some (.ref fI)) ∧ PySem.W.typeIn K (.ref fI) = some (.type "function") ∧
    Binds K fd ps [] ∧ FnOk P w K mg base CX0 2 fI fd ps (spXI (clsA K x) f)
theorem pa_up {X : Cx} {es : List Expr} {t : TA} (h : PA X es t) : PA X es (fun σ H Q => ∃ R, t σ H R ∧ ∀ vs H', R vs H' → Q vs H') := by
  constructor
  intro pos pins s σ H Q I ⟨R, h1, h2⟩
  exact thn (h.run pos pins s σ H R I h1) fun us s1 ⟨vs, H1, I1, r, q⟩ => ⟨vs, H1, I1, r, h2 _ _ q⟩
theorem rais_ok {W : XK} {C : Addr} {f : Str} {H1 : Hp} {v : V} (k : ∀ d H2, Same H1 H2 → H2 d = some (.xd [(f, v)]) → W (.ref C) (some d) H2) :
    ([v] : List V).length ≤ 1000 ∧ ∀ a, H1 a = none → spXI C f (.ref a :: ([v] ++ [])) (upd H1 a (exo a C none))
      (fun u H2 => u = .non ∧ ∃ (d : Addr) (fs : List (Str × V)), H2 a = some (exo a C (some d)) ∧ H2 d = some (exd d fs) ∧ H1 d = none ∧ W (.ref C) (some d) (upd (L2.del H2 a) d (.xd fs))) (fun _ _ _ => False) := by
  refine ⟨by show 1 ≤ 1000; decide, fun a ha => ⟨a, v, rfl, upd_same, fun dx hdx hne => ⟨rfl, dx, [(f, v)], upd_same, ?_, ?_, ?_⟩⟩⟩
  · rw [upd_ne hne, upd_same]
  · rw [upd_ne hne] at hdx
    exact hdx
  · rw [upd_ne hne] at hdx
    refine k dx _ (fun b o hb => ?_) upd_same
    have b1 := ne_of_none hb ha
    have b2 := ne_of_none hb hdx
    rw [upd_ne b2, L2.del_ne b1, upd_ne b1, upd_ne b2, upd_ne b1]
    exact hb
/-- raise C(e) -/
theorem ps_rais {X : Cx} {W : WX} {x f : Str} {e : Expr} {te : TE} {p pos pos' : Pos} (R : Xk X.prog X.w X.K X.mg X.base x f) (hr : Room 3 X.A) (hc : X.calm = true) (tk : Takes X W) (hg : Gl X x) (ha : PA X [e] (tCons te tNil))
    (hdb : (x == ("__debug__" : Str)) = false := by decide) (hse : starEach [e] X.env = (false, eval e X.env) :: starEach [] X.env := by rfl) (hpl : (backTo pos (starEach [] X.env)).any (·.1) = false := by rfl) :
    PS X (.Raise (some (.Call (.Name x p) [e] [] pos)) none pos') (fun _ σ H => te σ H fun v H1 => ∀ d H2, Same H1 H2 → H2 d = some (.xd [(f, v)]) → W (.ref (clsA X.K x)) (some d) σ H2) := by
  obtain ⟨fI, fd, ps, iC, tI, hb, F⟩ := R.init
  have mk := pmk_oex (pos := pos) (p := p) R.O iC tI F hr hb .nil pass0 hg R.hm (pa_up ha) hdb hse hpl
  refine ⟨fun pins s σ H D I h => (ps_raise hc tk mk).run pins s σ H D I ?_⟩
  refine ⟨fun vs H1 => match vs with
    | [v] => ∀ d H2, Same H1 H2 → H2 d = some (.xd [(f, v)]) → W (.ref (clsA X.K x)) (some d) σ H2
    | _ => False, h, ?_⟩
  intro vs H1 k
  match vs, k with
  | [v], k => exact rais_ok (W := fun cls d H' => W cls d σ H') k
end Vg
namespace Vg
open PySem PySem.Spec PyProof.Rows L2
/-! ## neighbours of a fraction, by whole numbers alone -/
/-- low a/b and high c/d, side by side, t/m between them, bottoms at most N -/
structure Nb (t m N a b c d : Int) : Prop where
  b1 : 1 ≤ b
  d1 : 1 ≤ d
  bN : b ≤ N
  dN : d ≤ N
  g : c * b - a * d = 1
  u : 0 < t * b - a * m
  v : 0 < c * m - t * d
/-- the bottom of a number that lies between the two -/
theorem Nb.sum {t m N a b c d : Int} (h : Nb t m N a b c d) : m = (t * b - a * m) * d + (c * m - t * d) * b := by
  have g := h.g
  have e : (t * b - a * m) * d + (c * m - t * d) * b = m * (c * b - a * d) := by grind
  rw [e, g, Int.mul_one]
theorem Nb.top {t m N a b c d : Int} (h : Nb t m N a b c d) : t = (t * b - a * m) * c + (c * m - t * d) * a := by
  have g := h.g
  have e : (t * b - a * m) * c + (c * m - t * d) * a = t * (c * b - a * d) := by grind
  rw [e, g, Int.mul_one]
theorem mul_ge {x y : Int} (hx : 1 ≤ x) (hy : 0 ≤ y) : y ≤ x * y := by
  have := Int.mul_le_mul_of_nonneg_right hx hy
  omega
theorem Nb.big {t m N a b c d : Int} (h : Nb t m N a b c d) : b + d ≤ m := by
  have e := h.sum
  have x := mul_ge (x := t * b - a * m) (y := d) (by have := h.u; omega) (by have := h.d1; omega)
  have y := mul_ge (x := c * m - t * d) (y := b) (by have := h.v; omega) (by have := h.b1; omega)
  omega
/-- the other way round -/
theorem Nb.flip {t m N a b c d : Int} (h : Nb t m N a b c d) : Nb (-t) m N (-c) d (-a) b := by
  obtain ⟨h1, h2, h3, h4, h5, h6, h7⟩ := h
  refine ⟨h2, h1, h4, h3, ?_, ?_, ?_⟩ <;> grind
theorem nb_low {t m N a b c d a' b' c' d' : Int} (h : Nb t m N a b c d) (hs : N < b + d) (h' : Nb t m N a' b' c' d') : a' * b - a * b' ≤ 0 := by
  have hm : 0 < m := by have := h.big; have := h.b1; have := h.d1; omega
  have q : 0 < c * b' - a' * d := by
    have e : m * (c * b' - a' * d) = b' * (c * m - t * d) + d * (t * b' - a' * m) := by grind
    have p1 : 0 < b' * (c * m - t * d) := Int.mul_pos (by have := h'.b1; omega) h.v
    have p2 : 0 < d * (t * b' - a' * m) := Int.mul_pos (by have := h.d1; omega) h'.u
    have : 0 < m * (c * b' - a' * d) := by omega
    exact Int.pos_of_mul_pos_right this hm
  refine Int.not_lt.mp fun p => ?_
  have e : b' = (a' * b - a * b') * d + (c * b' - a' * d) * b := by
    have g := h.g
    have e : (a' * b - a * b') * d + (c * b' - a' * d) * b = b' * (c * b - a * d) := by grind
    rw [e, g, Int.mul_one]
  have x := mul_ge (x := a' * b - a * b') (y := d) (by omega) (by have := h.d1; omega)
  have y := mul_ge (x := c * b' - a' * d) (y := b) (by omega) (by have := h.b1; omega)
  have := h'.bN
  omega
theorem nb_lows {t m N a b c d a' b' c' d' : Int} (h : Nb t m N a b c d) (hs : N < b + d) (h' : Nb t m N a' b' c' d') (hs' : N < b' + d') : a' = a ∧ b' = b := by
  have p1 := nb_low h hs h'
  have p2 := nb_low h' hs' h
  have e : a' * b = a * b' := by
    have : a' * b - a * b' = -(a * b' - a' * b) := by grind
    omega
  have half : ∀ {a b c d a' b' : Int}, c * b - a * d = 1 → a' * b = a * b' → b' = (c * b' - a' * d) * b := by
    intro a b c d a' b' g e
    have z : (c * b' - a' * d) * b = b' * (c * b - a * d) + d * (a * b' - a' * b) := by grind
    rw [z, g, e]
    simp
  have e1 := half h.g e
  have e2 := half h'.g e.symm
  have b1 := h.b1
  have b1' := h'.b1
  have le1 : b ≤ b' := by
    have q : 1 ≤ c * b' - a' * d := by
      refine Int.not_lt.mp fun q => ?_
      have : (c * b' - a' * d) * b ≤ 0 := Int.mul_nonpos_of_nonpos_of_nonneg (by omega) (by omega)
      omega
    have := mul_ge q (show 0 ≤ b by omega)
    omega
  have le2 : b' ≤ b := by
    have q : 1 ≤ c' * b - a * d' := by
      refine Int.not_lt.mp fun q => ?_
      have : (c' * b - a * d') * b' ≤ 0 := Int.mul_nonpos_of_nonpos_of_nonneg (by omega) (by omega)
      omega
    have := mul_ge q (show 0 ≤ b' by omega)
    omega
  have eb : b' = b := by omega
  subst eb
  exact ⟨Int.eq_of_mul_eq_mul_right (by omega) e, rfl⟩
/-- there is just one such pair -/
theorem nb_one {t m N a b c d a' b' c' d' : Int} (h : Nb t m N a b c d) (hs : N < b + d) (h' : Nb t m N a' b' c' d') (hs' : N < b' + d') : a' = a ∧ b' = b ∧ c' = c ∧ d' = d := by
  obtain ⟨e1, e2⟩ := nb_lows h hs h' hs'
  obtain ⟨e3, e4⟩ := nb_lows h.flip (by omega) h'.flip (by omega)
  exact ⟨e1, e2, by omega, e4⟩
/-! ### the walk -/
end Vg
namespace Vg
open PySem PySem.Spec PyProof.Rows L2
/-- a def with a star parameter, as its callers know it -/
structure Fr (P : Program) (w : World) (K : PySem.W.Frag) (mg : Str → Option Value) (base : Heap) (k : Nat) (x : Str) (sp : Sp) : Prop where
  ex : ∃ f : Addr, mg x = some (.ref f) ∧ PySem.W.keepIn K (.ref f) = true ∧ FnR P w K mg base CX0 k f sp
theorem At.fr {P : Program} {w : World} {K : PySem.W.Frag} {mg : Str → Option Value} {base : Heap} {k : Nat} {x : Str} {st : Stmt} {N : List Str} {pv : Str} {sp : Sp} (D : At K mg x st) (S : FnScope N [pv] (defScope st))
    (hb : ∀ (kV doc pm : Value) (an : Option Addr) (cdv ct : Value) (us : List Value),
      bindArgs (PySem.W.fnOf x x (defArgs st) (defBody st) (defScope st) .none kV doc pm an cdv ct) ⟨us, []⟩ = (newTuple us >>= fun t => pure [(pv, t)]))
    (body : ∀ (f : Addr) (cdv : Value) (A : Around) (outer : List Env) (s : Shared) (H : Hp) (vs : List V) (Q : VK) (E : XK),
      Room k (A.deeper (envOfC x (defScope st) s.heap.objs.size f cdv)) → sp vs H Q E →
      ∃ t, PSs (cxOf CX0 P w K mg base N x (defScope st) f cdv A outer s H E).nox (defBody st) t ∧ t { nx := fun _ H' => Q .non H', rt := Q } (start N vs) H) :
    Fr P w K mg base (k + 1) x (fun vs H Q E => vs.length ≤ sizeLine ∧ ∀ p, H p = none → sp [V.ref p] (upd H p (.tup vs)) Q E) := by
  obtain ⟨f, fd, hm, F⟩ := D.ex
  have kp := F.kp
  obtain ⟨oc, od, kV, doc, pm, an, cdv, ct, osl, rfl, lk, hcd⟩ := F.ex
  refine ⟨f, hm, kp, ?_⟩
  have Z := StX.fn_star (P := P) (w := w) (mg := mg) (base := base) (k := k) (ps := []) (pv := pv) (sp := sp) lk hcd S StX.cxUp_none (fun us rest hl => by
    have e : us = [] := List.length_eq_zero_iff.mp hl
    subst e
    exact hb kV doc pm an cdv ct rest) fun A outer s H vs Q E hr h => by
      obtain ⟨t, h1, h2⟩ := body f cdv A outer s H vs Q E hr h
      exact ⟨t, h1.nox, h2⟩
  exact Z.imp fun vs H Q E ⟨h1, h2⟩ => ⟨[], vs, rfl, rfl, h1, h2⟩
/-! ## whole numbers of not too many figures -/
def Bd (z : Int) : Prop := -10000000000000000000000000000000000000000 ≤ z ∧ z ≤ 10000000000000000000000000000000000000000
theorem Bd.nat {z : Int} (h : Bd z) : z.natAbs < 2 ^ 140 := by
  have h' : z.natAbs ≤ 10000000000000000000000000000000000000000 := by
    unfold Bd at h
    omega
  exact Nat.lt_of_le_of_lt h' (by decide)
theorem Bd.mul {i j : Int} (hi : Bd i) (hj : Bd j) : CMulW i j := wide_mul hi.nat hj.nat (by decide) (by decide) (by decide)
/-- what a fraction between the two has for them -/
theorem Nb.uv {t m N a b c d : Int} (h : Nb t m N a b c d) : t * b - a * m ≤ m ∧ c * m - t * d ≤ m := by
  have e := h.sum
  have u := h.u
  have v := h.v
  have x := mul_ge (x := d) (y := t * b - a * m) h.d1 (by omega)
  have y := mul_ge (x := b) (y := c * m - t * d) h.b1 (by omega)
  have x0 : (t * b - a * m) * d = d * (t * b - a * m) := Int.mul_comm _ _
  have y0 : (c * m - t * d) * b = b * (c * m - t * d) := Int.mul_comm _ _
  omega
theorem Nb.lowB {t m N a b c d T : Int} (h : Nb t m N a b c d) (h1 : -T ≤ t) (h2 : t ≤ T) (hm : N < m) : -(T + 2) ≤ a ∧ a ≤ T := by
  have u := h.u
  have uu := h.uv.1
  have b1 := h.b1
  have bN := h.bN
  have k1 : t * b ≤ T * b := Int.mul_le_mul_of_nonneg_right h2 (by omega)
  have k2 : -T * b ≤ t * b := Int.mul_le_mul_of_nonneg_right h1 (by omega)
  have k3 : T * b ≤ T * m := Int.mul_le_mul_of_nonneg_left (by omega) (by omega)
  have k4 : -T * b = -(T * b) := Int.neg_mul _ _
  constructor
  · refine Int.not_lt.mp fun z => ?_
    have k5 : a * m ≤ (-(T + 3)) * m := Int.mul_le_mul_of_nonneg_right (by omega) (by omega)
    have k6 : (-(T + 3)) * m = -(T * m) - 3 * m := by grind
    omega
  · refine Int.not_lt.mp fun z => ?_
    have k5 : (T + 1) * m ≤ a * m := Int.mul_le_mul_of_nonneg_right (by omega) (by omega)
    have k6 : (T + 1) * m = T * m + m := by grind
    omega
theorem Nb.at {t m N N' a b c d : Int} (h : Nb t m N a b c d) (h1 : b ≤ N') (h2 : d ≤ N') : Nb t m N' a b c d := ⟨h.b1, h.d1, h1, h2, h.g, h.u, h.v⟩
/-! ## fractions, pairs of fractions on the heap -/
abbrev FrT (H : Hp) (p : Addr) (i j : Int) : Prop := H p = some (.tup [.int i, .int j])
abbrev PrT (H : Hp) (p q r : Addr) : Prop := H p = some (.tup [.ref q, .ref r])
def frD (i j : Int) : PyData := .tuple [.int i, .int j]
def prD (a b c d : Int) : PyData := .tuple [frD a b, frD c d]
theorem FrT.dp {K : PySem.W.Frag} {H : Hp} {p : Addr} {i j : Int} (h : FrT H p i j) : Dp K H (.ref p) (frD i j) := .tup (SqT.of h) (.cons (.int i) (.cons (.int j) .nil))
theorem PrT.dp {K : PySem.W.Frag} {H : Hp} {p q r : Addr} {a b c d : Int} (h : PrT H p q r) (hq : FrT H q a b) (hr : FrT H r c d) : Dp K H (.ref p) (prD a b c d) := .tup (SqT.of h) (.cons (FrT.dp hq) (.cons (FrT.dp hr) .nil))
end Vg
namespace Vg
open PySem PySem.Spec PyProof.Rows L2
def Sm (z : Int) : Prop := -1000000000000000000000000000000000000000 ≤ z ∧ z ≤ 1000000000000000000000000000000000000000
theorem Sm.bd {z : Int} (h : Sm z) : Bd z := by
  unfold Sm at h
  unfold Bd
  omega
/-- a fraction among those of a tuple -/
def FrV (H : Hp) (x : V) : Prop := ∃ q i j, x = .ref q ∧ FrT H q i j ∧ 1 ≤ j ∧ gcdI i j = 1
theorem FrV.same {H H' : Hp} {x : V} (h : FrV H x) (s : Same H H') : FrV H' x := by
  obtain ⟨q, i, j, e, f, r⟩ := h
  exact ⟨q, i, j, e, s _ _ f, r⟩
/-- the two neighbours of t/m under N: itself twice, or those beside it -/
def NbX (t m N a b c d : Int) : Prop := (m ≤ N ∧ a = t ∧ b = m ∧ c = t ∧ d = m) ∨ (N < m ∧ Nb t m N a b c d ∧ N < b + d)
theorem NbX.one {t m N a b c d a' b' c' d' : Int} (h : NbX t m N a b c d) (h' : NbX t m N a' b' c' d') : a' = a ∧ b' = b ∧ c' = c ∧ d' = d := by
  rcases h with ⟨l, rfl, rfl, rfl, rfl⟩ | ⟨l, n, s⟩ <;> rcases h' with ⟨l', rfl, rfl, rfl, rfl⟩ | ⟨l', n', s'⟩
  · exact ⟨rfl, rfl, rfl, rfl⟩
  · omega
  · omega
  · exact nb_one n s n' s'
theorem NbX.pos {t m N a b c d : Int} (h : NbX t m N a b c d) (hm : 1 ≤ m) : 1 ≤ b ∧ 1 ≤ d := by
  rcases h with ⟨l, rfl, rfl, rfl, rfl⟩ | ⟨l, n, s⟩
  · exact ⟨hm, hm⟩
  · exact ⟨n.b1, n.d1⟩
end Vg
namespace Vg
open PySem PySem.Spec PyProof.Rows L2
def rIsi (K : PySem.W.Frag) : List V → Hp → VK → Prop := fun xs H Q => ∃ x n c b, xs = [x, .ty c] ∧ Tn K H x n ∧ kitB n c = some b ∧ Q (.bl b) H
def yes (n : Nat) : List V := (List.replicate n true).map V.bl
end Vg
namespace Vg
open PySem PySem.Spec PyProof.Rows L2
/-! ## repr of a dict of plain values -/
inductive Fl : V → PyData → Prop
  | non : Fl .non .none
  | bl (b : Bool) : Fl (.bl b) (.bool b)
  | int (i : Int) : Fl (.int i) (.int i)
  | str (z : Str) : Fl (.str z) (.str z)
theorem Fl.reads {h : Heap} {v : V} {d : PyData} {u : Value} (f : Fl v d) (r : RelV v u) : Reads h u d [] := by
  cases f with
  | non => cases r; exact .none
  | bl b => cases r; exact .bool b
  | int i => obtain ⟨t, rfl⟩ := r; exact .int i t
  | str z => obtain ⟨t, rfl⟩ := r; exact .str z t
inductive FlKv : List (Key × V) → List (PyData × PyData) → Prop
  | nil : FlKv [] []
  | cons {k : Key} {v : V} {d : PyData} {r : List (Key × V)} {s : List (PyData × PyData)} (f : Fl v d) (h : FlKv r s) : FlKv ((k, v) :: r) ((kD k, d) :: s)
/-- what may be written as a text: lists, tuples of plain things; a dict of plain values -/
def Dr (K : PySem.W.Frag) (H : Hp) (x : V) (d : PyData) : Prop := Dp K H x d ∨ ∃ a kvs es, x = .ref a ∧ d = .dict es ∧ H a = some (.dK kvs) ∧ FlKv kvs es
end Vg
namespace Vg
open PySem PySem.Spec PyProof.Rows L2
/-- a base of errors with its own __init__, as the head tells it -/
structure XtIn (K : PySem.W.Frag) (x q : Str) (st : Stmt) : Prop where
  ex : ∃ (C f : Addr) (oc : Value) (od an : Option Addr) (sl : Array (Option Value)) (kV dc pm cd ct : Value), PySem.W.nsIn K mainGlobals x = some (some (.ref C)) ∧ ClsFn K C "__init__" f ∧
    K.lookup f = some ⟨oc, od, .func (PySem.W.fnOf "__init__" q (defArgs st) (defBody st) (defScope st) .none kV dc pm an cd ct), sl⟩ ∧ PySem.W.codeIn K cd q = true
theorem XtIn.by {K : PySem.W.Frag} {x q : Str} {st : Stmt} {C f : Addr} {oc : Value} {od an : Option Addr} {sl : Array (Option Value)} {kV dc pm cd ct : Value} (a : PySem.W.nsIn K mainGlobals x = some (some (.ref C)))
    (ga : PySem.W.specialIn K (.ref C) "__getattribute__" = some (some (.builtin "type.__getattribute__"))) (rd : PySem.W.readsIn K C (.type "type") = true)
    (fc : PySem.W.findCls K (.ref C) (.type "type") "__init__" = some (.val (.ref f))) (kp : PySem.W.keepIn K (.ref f) = true)
    (l : K.lookup f = some ⟨oc, od, .func (PySem.W.fnOf "__init__" q (defArgs st) (defBody st) (defScope st) .none kV dc pm an cd ct), sl⟩) (c : PySem.W.codeIn K cd q = true) : XtIn K x q st :=
  ⟨C, f, oc, od, an, sl, kV, dc, pm, cd, ct, a, ⟨ga, rd, fc, kp⟩, l, c⟩
/-- the same behind the head -/
structure XtAt (K : PySem.W.Frag) (mg : Str → Option Value) (x q : Str) (st : Stmt) : Prop where
  ex : ∃ (f : Addr) (fd : FuncData), mg x = some (.ref (clsA K x)) ∧ ClsFn K (clsA K x) "__init__" f ∧ Fun K "__init__" q st f fd
theorem XtIn.at {K : PySem.W.Frag} {h : Heap} {mg : Str → Option Value} {x q : Str} {st : Stmt} (D : XtIn K x q st) (X : K.In h) (G : h.Ns mainGlobals mg) : XtAt K mg x q st := by
  obtain ⟨C, f, oc, od, an, sl, kV, dc, pm, cd, ct, a, cf, l, c⟩ := D.ex
  have e := clsA_of a
  refine ⟨f, _, ?_, ?_, fun_mk l c cf.kp⟩
  · rw [e]
    exact PySem.W.mg_of X G a
  · rw [e]
    exact cf
/-- a class of errors of one field, as the head tells it -/
structure XeIn (K : PySem.W.Frag) (x fl q : Str) (st : Stmt) : Prop where
  ex : ∃ (C f : Addr) (oc : Value) (od an : Option Addr) (sl : Array (Option Value)) (kV dc pm cd ct : Value), PySem.W.nsIn K mainGlobals x = some (some (.ref C)) ∧ OexC K C ∧ ExcC K C ∧ XfC K C ∧
    PySem.W.findIn K (.ref C) fl = some none ∧ PySem.W.findIn K (.ref C) "__init__" = some (some (.ref f)) ∧ PySem.W.typeIn K (.ref f) = some (.type "function") ∧
    K.lookup f = some ⟨oc, od, .func (PySem.W.fnOf "__init__" q (defArgs st) (defBody st) (defScope st) .none kV dc pm an cd ct), sl⟩ ∧ PySem.W.codeIn K cd q = true ∧ PySem.W.keepIn K (.ref f) = true
theorem XeIn.by {K : PySem.W.Frag} {x fl q : Str} {st : Stmt} {C f : Addr} {oc : Value} {od an : Option Addr} {sl : Array (Option Value)} {kV dc pm cd ct : Value}
    (a : PySem.W.nsIn K mainGlobals x = some (some (.ref C))) (o : OexC K C)
    (hg : PySem.W.findIn K (.ref C) "__getattribute__" = some (some (.builtin "BaseException.__getattribute__"))) (hk : PySem.W.findIn K (.ref C) "__getattr__" = some none) (hd : PySem.W.hasDictIn K C = true)
    (ha : PySem.W.findIn K (.ref C) "__class__" = some (some (.builtin "object.__class__"))) (hn : PySem.W.specialIn K (.builtin "object.__class__") "__get__" = some (some (.builtin "getset_descriptor.__get__")))
    (ht : PySem.W.takesIn K (.builtin "object.__class__") = some true) (hm : PySem.W.mroIn K C (.type "object") = some true) (no : PySem.W.findIn K (.ref C) fl = some none)
    (iC : PySem.W.findIn K (.ref C) "__init__" = some (some (.ref f))) (tI : PySem.W.typeIn K (.ref f) = some (.type "function"))
    (l : K.lookup f = some ⟨oc, od, .func (PySem.W.fnOf "__init__" q (defArgs st) (defBody st) (defScope st) .none kV dc pm an cd ct), sl⟩) (c : PySem.W.codeIn K cd q = true) (kp : PySem.W.keepIn K (.ref f) = true) : XeIn K x fl q st :=
  ⟨C, f, oc, od, an, sl, kV, dc, pm, cd, ct, a, o, ⟨hg, hk, o.exC, hd, ha, hn, ht, hm⟩, ⟨hg, hk, o.exC, hd⟩, no, iC, tI, l, c, kp⟩
structure XeAt (K : PySem.W.Frag) (mg : Str → Option Value) (x fl q : Str) (st : Stmt) : Prop where
  ex : ∃ (f : Addr) (fd : FuncData), mg x = some (.ref (clsA K x)) ∧ OexC K (clsA K x) ∧ ExcC K (clsA K x) ∧ XfC K (clsA K x) ∧ PySem.W.findIn K (.ref (clsA K x)) fl = some none ∧
    PySem.W.findIn K (.ref (clsA K x)) "__init__" = some (some (.ref f)) ∧ PySem.W.typeIn K (.ref f) = some (.type "function") ∧ Fun K "__init__" q st f fd
theorem XeIn.at {K : PySem.W.Frag} {h : Heap} {mg : Str → Option Value} {x fl q : Str} {st : Stmt} (D : XeIn K x fl q st) (X : K.In h) (G : h.Ns mainGlobals mg) : XeAt K mg x fl q st := by
  obtain ⟨C, f, oc, od, an, sl, kV, dc, pm, cd, ct, a, o, e1, xf, no, iC, tI, l, c, kp⟩ := D.ex
  have e := clsA_of a
  refine ⟨f, PySem.W.fnOf "__init__" q (defArgs st) (defBody st) (defScope st) .none kV dc pm an cd ct, ?_, ?_, ?_, ?_, ?_, ?_, tI, fun_mk l c kp⟩
  · rw [e]
    exact PySem.W.mg_of X G a
  all_goals rw [e]
  all_goals assumption
theorem oex_by {K : PySem.W.Frag} {C : Addr} {nm q N bs bm sn sub ab col dd k0 k1 k2 k3 k5} (l : K.lookup C = some (excClassObj nm q C N bs bm true sn sub ab col dd k0 k1 k2 k3 k5 "ValueError.__new__")) (b : PySem.HandSPX.refsVE bm = true)
    (sa : PySem.W.findIn K (.ref C) "__setattr__" = some (some (.builtin "object.__setattr__"))) (exC : PySem.W.subIn K (.ref C) (.type "BaseException") = some true) (tyC : PySem.W.typeIn K (.ref C) = some (.type "type")) (kC : PySem.W.keepIn K (.ref C) = true) : OexC K C :=
  ⟨⟨nm, q, N, bs, bm, sn, sub, ab, col, dd, k0, k1, k2, k3, k5, l, b⟩, sa, exC, tyC, kC⟩
/-- of two classes: whether the one stands under the other -/
structure PairIn (K : PySem.W.Frag) (x y : Str) (b : Bool) : Prop where
  is : PySem.W.kitOne K (.ref (clsA K x)) (.ref (clsA K y)) = some b
  em : PySem.W.exmOne K (.ref (clsA K x)) (.ref (clsA K y)) = some b
theorem PairIn.by {K : PySem.W.Frag} {x y : Str} {b : Bool} {C D : Addr} (h1 : PySem.W.nsIn K mainGlobals x = some (some (.ref C))) (h2 : PySem.W.nsIn K mainGlobals y = some (some (.ref D)))
    (h3 : PySem.W.kitOne K (.ref C) (.ref D) = some b) (h4 : PySem.W.exmOne K (.ref C) (.ref D) = some b) : PairIn K x y b := by
  have e1 := clsA_of h1
  have e2 := clsA_of h2
  subst e1 e2
  exact ⟨h3, h4⟩
end Vg
namespace Vg
open PySem PySem.Spec PyProof.Rows L2
/-- a def that may raise, as its callers know it -/
structure Fx (P : Program) (w : World) (K : PySem.W.Frag) (mg : Str → Option Value) (base : Heap) (k : Nat) (x : Str) (ps : List Str) (sp : Sp) : Prop where
  ex : ∃ (f : Addr) (fd : FuncData), mg x = some (.ref f) ∧ PySem.W.keepIn K (.ref f) = true ∧ Binds K fd ps [] ∧ FnOk P w K mg base (L2.CX P w) k f fd ps sp
theorem At.fx {P : Program} {w : World} {K : PySem.W.Frag} {mg : Str → Option Value} {base : Heap} {k : Nat} {x : Str} {st : Stmt} {N ps : List Str} {sp : Sp} (D : At K mg x st) (S : FnScope N ps (defScope st))
    (hb : ∀ (kV doc pm : Value) (an : Option Addr) (cdv ct : Value) (us : List Value), us.length = ps.length →
      bindArgs (PySem.W.fnOf x x (defArgs st) (defBody st) (defScope st) .none kV doc pm an cdv ct) ⟨us, []⟩ = pure (ps.zip us))
    (len : ∀ vs H Q E, sp vs H Q E → vs.length = ps.length)
    (body : ∀ (f : Addr) (cdv : Value) (A : Around) (outer : List Env) (s : Shared) (H : Hp) (vs : List V) (Q : VK) (E : XK),
      Room k (A.deeper (envOfC x (defScope st) s.heap.objs.size f cdv)) → sp vs H Q E →
      ∃ t, PSs (cxOf (L2.CX P w) P w K mg base N x (defScope st) f cdv A outer s H E) (defBody st) t ∧ t { nx := fun _ H' => Q .non H', rt := Q } (start N vs) H) :
    Fx P w K mg base (k + 1) x ps sp := by
  obtain ⟨f, fd, hm, F⟩ := D.ex
  exact ⟨f, fd, hm, F.kp, F.binds hb, F.okX S len fun cdv A outer s H vs Q E hr h => body f cdv A outer s H vs Q E hr h⟩
/-- the same in a try's body -/
theorem pe_fxS {X : Cx} {W : WX} {k : Nat} {ps : List Str} {sp : Sp} {x : Str} {p pos : Pos} {e : Expr} {es : List Expr} {t : TA} (F : Fx X.prog X.w X.K X.mg X.base k x ps sp) (tk : Takes X W) (hr : Room k X.A) (hg : Gl X x) (ha : PA X (e :: es) t)
    (hdb : (x == ("__debug__" : Str)) = false := by decide) (he : starEach (e :: es) X.env = (false, eval e X.env) :: starEach es X.env := by rfl)
    (hpl : (backTo pos (starEach es X.env)).any (·.1) = false := by rfl) : PE X (.Call (.Name x p) (e :: es) [] pos) (tCallS sp (WE W) t) := by
  obtain ⟨f, fd, hm, hk, hb, F⟩ := F.ex
  exact pe_callS F hr hg hm hk hb (fun σ => passAt tk σ) ha hdb he hpl
/-- a refusal of the class x that holds v -/
def Rf (K : PySem.W.Frag) (x : Str) (v : V) (H : Hp) (E : XK) : Prop := ∀ dd H', Same H H' → H' dd = some (.xd [("found", v)]) → E (.ref (clsA K x)) (some dd) H'
theorem Rf.same {K : PySem.W.Frag} {x : Str} {v : V} {H H1 : Hp} {E : XK} (r : Rf K x v H E) (s : Same H H1) : Rf K x v H1 E := fun dd H' s' h => r dd H' (s.trans s') h
end Vg
namespace Vg
open PySem PySem.Spec PyProof.Rows L2
/-- p/q is the greatest number of a bottom up to B that isn't above t/m, q the least bottom of it -/
structure Lo (t m B p q : Int) : Prop where
  q1 : 1 ≤ q
  qB : q ≤ B
  le : p * m ≤ t * q
  best : ∀ a b : Int, 1 ≤ b → b ≤ B → a * m ≤ t * b → a * q ≤ p * b
  least : ∀ a b : Int, 1 ≤ b → b < q → a * m ≤ t * b → a * q < p * b
theorem Lo.start {t m : Int} (hm : 1 ≤ m) : Lo t m 1 (t / m) 1 := by
  refine ⟨by decide, by decide, ?_, ?_, ?_⟩
  · have := Int.ediv_mul_le t (show m ≠ 0 by omega)
    omega
  · intro a b h1 h2 h3
    have e : b = 1 := by omega
    subst e
    have := (Int.le_ediv_iff_mul_le (show 0 < m by omega)).mpr (show a * m ≤ t by omega)
    omega
  · intro a b h1 h2
    omega
theorem Lo.new {t m B p q : Int} (h : Lo t m B p q) (hm : 1 ≤ m) (hc : p * (B + 1) < t * (B + 1) / m * q) : Lo t m (B + 1) (t * (B + 1) / m) (B + 1) := by
  have q1 := h.q1
  have qB := h.qB
  have key : ∀ a b : Int, 1 ≤ b → b ≤ B → a * m ≤ t * b → a * (B + 1) < t * (B + 1) / m * b := by
    intro a b h1 h2 h3
    have k1 := h.best a b h1 h2 h3
    generalize t * (B + 1) / m = P at *
    have k2 : a * q * (B + 1) ≤ p * b * (B + 1) := Int.mul_le_mul_of_nonneg_right k1 (by omega)
    have k3 : p * (B + 1) * b < P * q * b := Int.mul_lt_mul_of_pos_right hc (by omega)
    have k4 : (a * (B + 1)) * q < (P * b) * q := by grind
    exact Int.lt_of_mul_lt_mul_right k4 (by omega)
  refine ⟨by omega, by omega, Int.ediv_mul_le _ (by omega), ?_, ?_⟩
  · intro a b h1 h2 h3
    by_cases e : b = B + 1
    · subst e
      have := (Int.le_ediv_iff_mul_le (show 0 < m by omega)).mpr h3
      exact Int.mul_le_mul_of_nonneg_right this (by omega)
    · exact Int.le_of_lt (key a b h1 (by omega) h3)
  · intro a b h1 h2 h3
    exact key a b h1 (by omega) h3
theorem Lo.keep {t m B p q : Int} (h : Lo t m B p q) (hm : 1 ≤ m) (hc : ¬ p * (B + 1) < t * (B + 1) / m * q) : Lo t m (B + 1) p q := by
  have q1 := h.q1
  have qB := h.qB
  refine ⟨q1, by omega, h.le, ?_, h.least⟩
  intro a b h1 h2 h3
  by_cases e : b = B + 1
  · subst e
    have k := (Int.le_ediv_iff_mul_le (show 0 < m by omega)).mpr h3
    have := Int.mul_le_mul_of_nonneg_right k (show 0 ≤ q by omega)
    omega
  · exact h.best a b h1 (by omega) h3
theorem Lo.same {t m N p q a b c d : Int} (h : Lo t m N p q) (x : NbX t m N a b c d) (hm : 1 ≤ m) (hg : gcdI a b = 1) : p = a ∧ q = b := by
  have q1 := h.q1
  have qB := h.qB
  have hle := h.le
  have b1 : 1 ≤ b ∧ b ≤ N ∧ a * m ≤ t * b := by
    rcases x with ⟨l, e1, e2, e3, e4⟩ | ⟨l, n, s⟩
    · subst e1 e2
      exact ⟨hm, l, Int.le_refl _⟩
    · have := n.u
      exact ⟨n.b1, n.bN, by omega⟩
  have k1 := h.best a b b1.1 b1.2.1 b1.2.2
  have k2 : p * b ≤ a * q := by
    rcases x with ⟨l, e1, e2, e3, e4⟩ | ⟨l, n, s⟩
    · subst e1 e2
      exact hle
    · refine Int.not_lt.mp fun z => ?_
      have v := n.v
      have d1 := n.d1
      have g := n.g
      have s1 : 0 < c * q - p * d := by
        have e : m * (c * q - p * d) = q * (c * m - t * d) + d * (t * q - p * m) := by grind
        have p1 : 0 < q * (c * m - t * d) := Int.mul_pos (by omega) v
        have p2 : 0 ≤ d * (t * q - p * m) := Int.mul_nonneg (by omega) (by omega)
        have : 0 < m * (c * q - p * d) := by omega
        exact Int.pos_of_mul_pos_right this (by omega)
      have e : (p * b - a * q) * d + (c * q - p * d) * b = q * (c * b - a * d) := by grind
      rw [g, Int.mul_one] at e
      have x1 := mul_ge (x := p * b - a * q) (y := d) (by omega) (by omega)
      have x2 := mul_ge (x := c * q - p * d) (y := b) (by omega) (by omega)
      omega
  have e : a * q = p * b := by omega
  have le1 : q ≤ b := by
    refine Int.not_lt.mp fun z => ?_
    have := h.least a b b1.1 z b1.2.2
    omega
  have le2 : b ≤ q := by
    have d1 : b ∣ a * q := ⟨p, by rw [e, Int.mul_comm]⟩
    have d2 : b.natAbs ∣ a.natAbs * q.natAbs := by
      rw [← Int.natAbs_mul]
      exact Int.natAbs_dvd_natAbs.mpr d1
    have cop : Nat.Coprime b.natAbs a.natAbs := by
      unfold gcdI at hg
      have : Nat.gcd a.natAbs b.natAbs = 1 := by exact_mod_cast hg
      rw [Nat.gcd_comm] at this
      exact this
    have := Nat.le_of_dvd (by omega) (cop.dvd_of_dvd_mul_left d2)
    omega
  have eb : q = b := by omega
  subst eb
  exact ⟨(Int.eq_of_mul_eq_mul_right (by omega) e).symm, rfl⟩
theorem NbX.flip {t m N a b c d : Int} (h : NbX t m N a b c d) : NbX (-t) m N (-c) d (-a) b := by
  rcases h with ⟨l, rfl, rfl, rfl, rfl⟩ | ⟨l, n, s⟩
  · exact .inl ⟨l, rfl, rfl, rfl, rfl⟩
  · exact .inr ⟨l, n.flip, by omega⟩
end Vg
namespace Vg
open PySem PySem.Spec PyProof.Rows L2
mutual
theorem dq_dp {K : PySem.W.Frag} {ok : Addr → Prop} {H : Hp} : ∀ {v : V} {d : PyData}, Dq ok H v d → d.hasDict = false → Dp K H v d
  | _, _, .non, _ => .non
  | _, _, .bl b, _ => .bl b
  | _, _, .int i, _ => .int i
  | _, _, .str x, _ => .str x
  | _, _, .lst o h r, e => .lst (SqL.of h) (dql_dp r (by simpa [PyData.hasDict] using e))
  | _, _, .tup o h r, e => .tup (SqT.of h) (dql_dp r (by simpa [PyData.hasDict] using e))
  | _, _, .dct o h k r, e => by simp [PyData.hasDict] at e
theorem dql_dp {K : PySem.W.Frag} {ok : Addr → Prop} {H : Hp} : ∀ {vs : List V} {ds : List PyData}, DqL ok H vs ds → PyData.hasDictAll ds = false → DpAll K H vs ds
  | _, _, .nil, _ => .nil
  | _, _, .cons h r, e => by
    have e' := Bool.or_eq_false_iff.mp (show (PyData.hasDict _ || PyData.hasDictAll _) = false by simpa [PyData.hasDictAll] using e)
    exact .cons (dq_dp h e'.1) (dql_dp r e'.2)
end
def notList : PyData → Bool
  | .list _ => false
  | _ => true
def textB (d : PyData) : Bool := d.showable && decide (d.depth ≤ 50) && decide (d.shown.length ≤ sizeLine)
def immB (d : PyData) : Bool := notList d && !d.hasDict && textB d
/-- a thing that may be handed in and put into: j sevens are put into it, if it is a list -/
inductive Th (ok : Addr → Prop) (pr : PyData → Bool) (H : Hp) : V → Nat → Prop
  | imm {v : V} {d : PyData} {j : Nat} (h : Dq ok H v d) (hi : immB d = true) (hp : pr d = true) : Th ok pr H v j
  | nums {a : Addr} {zs : List Int} {j : Nat} (o : ok a) (h : H a = some (.lst ((zs ++ List.replicate j 7).map V.int))) (hz : zs = [1, 2] ∨ zs = [5]) : Th ok pr H (.ref a) j
  | nest {a b : Addr} {j : Nat} (o : ok a) (ob : ok b) (h : H a = some (.lst (.ref b :: (List.replicate j 7).map V.int))) (hb : H b = some (.tup [.int 1, .int 2])) : Th ok pr H (.ref a) j
  | dct {a : Addr} {j : Nat} (o : ok a) (h : H a = some (.dK [])) : Th ok pr H (.ref a) j
theorem Th.mono {ok : Addr → Prop} {pr : PyData → Bool} {H H' : Hp} {v : V} {j : Nat} (h : Th ok pr H v j) (s : ∀ b o, ok b → H b = some o → H' b = some o) : Th ok pr H' v j := by
  cases h with
  | imm h hi hp => exact .imm (h.mono s fun a o k _ => k) hi hp
  | nums o h hz => exact .nums o (s _ _ o h) hz
  | nest o ob h hb => exact .nest o ob (s _ _ o h) (s _ _ ob hb)
  | dct o h => exact .dct o (s _ _ o h)
/-- whether it is a list, and what putting a seven into it makes of it -/
theorem Th.put {ok : Addr → Prop} {pr : PyData → Bool} {K : PySem.W.Frag} {H : Hp} {v : V} {j : Nat} (h : Th ok pr H v j) (hj : j ≤ 3) : ∃ n b, Tn K H v n ∧ kitB n "list" = some b ∧ (b = false → Th ok pr H v (j + 1)) ∧
    (b = true → ∃ a xs, v = .ref a ∧ ok a ∧ H a = some (.lst xs) ∧ xs.length ≤ 100 ∧ Th ok pr (upd H a (.lst (xs ++ [.int 7]))) v (j + 1)) := by
  have rep : ∀ zs : List Int, (zs ++ List.replicate j 7).map V.int ++ [V.int 7] = (zs ++ List.replicate (j + 1) 7).map V.int := fun zs => by
    rw [List.replicate_succ', ← List.append_assoc, List.map_append (l₁ := zs ++ List.replicate j 7)]
    rfl
  cases h with
  | @imm v d _ h hi hp =>
    have e1 := Bool.and_eq_true_iff.mp hi
    have e2 := Bool.and_eq_true_iff.mp e1.1
    have nl := e2.1
    cases h with
    | non => exact ⟨_, false, .non, by decide +kernel, fun _ => .imm .non hi hp, fun z => Bool.noConfusion z⟩
    | bl b => exact ⟨_, false, .bl b, by decide +kernel, fun _ => .imm (.bl b) hi hp, fun z => Bool.noConfusion z⟩
    | int b => exact ⟨_, false, .int b, by decide +kernel, fun _ => .imm (.int b) hi hp, fun z => Bool.noConfusion z⟩
    | str b => exact ⟨_, false, .str b, by decide +kernel, fun _ => .imm (.str b) hi hp, fun z => Bool.noConfusion z⟩
    | lst o h r => cases nl
    | tup o h r => exact ⟨_, false, .tup h, by decide +kernel, fun _ => .imm (.tup o h r) hi hp, fun z => Bool.noConfusion z⟩
    | dct o h k r => exact ⟨_, false, .dct h, by decide +kernel, fun _ => .imm (.dct o h k r) hi hp, fun z => Bool.noConfusion z⟩
  | @nums a zs _ o h hz =>
    refine ⟨_, true, .lst h, by decide +kernel, fun z => Bool.noConfusion z, fun _ => ⟨a, _, rfl, o, h, ?_, .nums (zs := zs) o ?_ hz⟩⟩
    · rcases hz with rfl | rfl <;> simp <;> omega
    · rw [upd_same]
      exact congrArg (fun l => some (HO.lst l)) (rep zs)
  | @nest a b _ o ob h hb =>
    have ne : b ≠ a := fun z => by
      rw [z, h] at hb
      cases hb
    refine ⟨_, true, .lst h, by decide +kernel, fun z => Bool.noConfusion z, fun _ => ⟨a, _, rfl, o, h, by simp; omega, .nest (b := b) o ob ?_ (by rw [upd_ne ne]; exact hb)⟩⟩
    rw [upd_same]
    have e := rep []
    rw [List.nil_append, List.nil_append] at e
    exact congrArg (fun l => some (HO.lst (V.ref b :: l))) e
  | @dct a _ o h => exact ⟨_, false, .dct h, by decide +kernel, fun _ => .dct o h, fun z => Bool.noConfusion z⟩
end Vg
namespace Ab
open PySem PySem.Spec PyProof.Rows L2 Vg
/-! cells: what a value is, when heaps are left out -/
inductive Cl
  | dat (d : PyData)
  | at (a : Addr)
  | raw (v : V)
  | scr (ns : List Int)
  | lis (cs : List Cl)
  | tup (cs : List Cl)
  | exc (a dd : Addr) (f : Str) (c : Cl)
  | con (d : PyData)
/-- a constant of a module: a tuple of such, or a plain value; conC: its cell -/
def conC : PyData → Cl
  | .tuple ds => .con (.tuple ds)
  | d => .dat d
mutual
inductive Kq (K : PySem.W.Frag) : V → PyData → Prop
  | non : Kq K .non .none
  | bl (b : Bool) : Kq K (.bl b) (.bool b)
  | int (i : Int) : Kq K (.int i) (.int i)
  | str (x : Str) : Kq K (.str x) (.str x)
  | tup {a : Addr} {o : Obj} {its : Array Value} {n : Nat} {xs : List V} {ds : List PyData} (e : K.lookup a = some o) (c : o.cls = .type "tuple") (d : o.data = .seq its n) (z : its.size ≤ sizeLine) (r : Vals xs its.toList) (q : KqL K xs ds) : Kq K (.ref a) (.tuple ds)
inductive KqL (K : PySem.W.Frag) : List V → List PyData → Prop
  | nil : KqL K [] []
  | cons {v : V} {vs : List V} {d : PyData} {ds : List PyData} (h : Kq K v d) (r : KqL K vs ds) : KqL K (v :: vs) (d :: ds)
end
mutual
theorem Kq.dp {K : PySem.W.Frag} {H : Hp} : ∀ {v : V} {d : PyData}, Kq K v d → Dp K H v d
  | _, _, .non => .non
  | _, _, .bl b => .bl b
  | _, _, .int i => .int i
  | _, _, .str x => .str x
  | _, _, .tup e c d z r q => .tup (.inr ⟨_, _, _, e, c, d, z, r⟩) (KqL.dp q)
theorem KqL.dp {K : PySem.W.Frag} {H : Hp} : ∀ {vs : List V} {ds : List PyData}, KqL K vs ds → DpAll K H vs ds
  | _, _, .nil => .nil
  | _, _, .cons h r => .cons (Kq.dp h) (KqL.dp r)
end
/-- what an object that is owned holds -/
inductive Ow
  | lst (cs : List Cl)
  | dct (es : List (Key × Cl))
  | pur (n : Nat)
  | ins (x : Str) (fs : List (Str × Cl))
abbrev Ob := List (Addr × Ow)
abbrev Rho := List (Option Cl)
/-- not owned -/
def fre (O : Ob) : Addr → Prop := fun b => ∀ x ∈ O, x.1 ≠ b
mutual
inductive ClH (K : PySem.W.Frag) (ok : Addr → Prop) (H : Hp) : V → Cl → Prop
  | dat {v : V} {d : PyData} (h : Dq ok H v d) : ClH K ok H v (.dat d)
  | at (a : Addr) : ClH K ok H (.ref a) (.at a)
  | raw (v : V) : ClH K ok H v (.raw v)
  | scr {a : Addr} {ns : List Int} (h : SqL K H a (ns.map V.int)) (o : (∃ u, H a = some u ∧ ok a) ∨ ∀ H', SqL K H' a (ns.map V.int)) : ClH K ok H (.ref a) (.scr ns)
  | lis {a : Addr} {xs : List V} {cs : List Cl} (o : ok a) (h : H a = some (.lst xs)) (r : ClsH K ok H xs cs) : ClH K ok H (.ref a) (.lis cs)
  | tup {a : Addr} {xs : List V} {cs : List Cl} (o : ok a) (h : H a = some (.tup xs)) (r : ClsH K ok H xs cs) : ClH K ok H (.ref a) (.tup cs)
  | exc {a dd : Addr} {f : Str} {v : V} {c : Cl} (o : ok dd) (h : H dd = some (.xd [(f, v)])) (r : ClH K ok H v c) : ClH K ok H (.ref a) (.exc a dd f c)
  | con {v : V} {d : PyData} (h : Kq K v d) : ClH K ok H v (.con d)
inductive ClsH (K : PySem.W.Frag) (ok : Addr → Prop) (H : Hp) : List V → List Cl → Prop
  | nil : ClsH K ok H [] []
  | cons {v : V} {vs : List V} {c : Cl} {cs : List Cl} (h : ClH K ok H v c) (r : ClsH K ok H vs cs) : ClsH K ok H (v :: vs) (c :: cs)
end
theorem sql_mono {K : PySem.W.Frag} {H H' : Hp} {a : Addr} {xs : List V} (h : SqL K H a xs) (s : ∀ o, H a = some o → H' a = some o) : SqL K H' a xs := by
  rcases h with (h | ⟨o, h⟩) | h
  · exact .inl (.inl (s _ h))
  · exact .inl (.inr ⟨o, s _ h⟩)
  · exact .inr h
/-- the heap goes on: what isn't owned stays -/
structure Fr (O : Ob) (H : Hp) (O' : Ob) (H' : Hp) : Prop where
  keep : ∀ b o, fre O b → H b = some o → H' b = some o
  free : ∀ b o, fre O b → H b = some o → fre O' b
  dom : ∀ b, H' b = none → H b = none
theorem Fr.refl (O : Ob) (H : Hp) : Fr O H O H := ⟨fun _ _ _ h => h, fun _ _ h _ => h, fun _ h => h⟩
theorem Fr.trans {O O1 O2 : Ob} {H H1 H2 : Hp} (a : Fr O H O1 H1) (b : Fr O1 H1 O2 H2) : Fr O H O2 H2 :=
  ⟨fun c o f h => b.keep c o (a.free c o f h) (a.keep c o f h), fun c o f h => b.free c o (a.free c o f h) (a.keep c o f h), fun c h => a.dom c (b.dom c h)⟩
section
variable {K : PySem.W.Frag}
theorem Dq.fr {O O' : Ob} {H H' : Hp} (f : Fr O H O' H') {v : V} {d : PyData} (h : Dq (fre O) H v d) : Dq (fre O') H' v d :=
  h.mono (fun a o k e => f.keep a o k e) fun a o k e => f.free a o k e
mutual
theorem ClH.mono {ok ok' : Addr → Prop} {H H' : Hp} (s : ∀ a o, ok a → H a = some o → H' a = some o) (w : ∀ a o, ok a → H a = some o → ok' a) : ∀ {v : V} {c : Cl}, ClH K ok H v c → ClH K ok' H' v c
  | _, _, .dat h => .dat (h.mono s w)
  | _, _, .at a => .at a
  | _, _, .raw v => .raw v
  | _, _, .scr h (.inl ⟨u, e, o⟩) => .scr (sql_mono h fun u e => s _ _ o e) (.inl ⟨u, s _ _ o e, w _ _ o e⟩)
  | _, _, .scr h (.inr k) => .scr (k _) (.inr k)
  | _, _, .lis o h r => .lis (w _ _ o h) (s _ _ o h) (ClsH.mono s w r)
  | _, _, .tup o h r => .tup (w _ _ o h) (s _ _ o h) (ClsH.mono s w r)
  | _, _, .exc o h r => .exc (w _ _ o h) (s _ _ o h) (ClH.mono s w r)
  | _, _, .con h => .con h
theorem ClsH.mono {ok ok' : Addr → Prop} {H H' : Hp} (s : ∀ a o, ok a → H a = some o → H' a = some o) (w : ∀ a o, ok a → H a = some o → ok' a) : ∀ {vs : List V} {cs : List Cl}, ClsH K ok H vs cs → ClsH K ok' H' vs cs
  | _, _, .nil => .nil
  | _, _, .cons h r => .cons (ClH.mono s w h) (ClsH.mono s w r)
end
theorem ClH.fr {O O' : Ob} {H H' : Hp} (f : Fr O H O' H') {v : V} {c : Cl} (h : ClH K (fre O) H v c) : ClH K (fre O') H' v c := h.mono f.keep f.free
theorem ClsH.fr {O O' : Ob} {H H' : Hp} (f : Fr O H O' H') {vs : List V} {cs : List Cl} (h : ClsH K (fre O) H vs cs) : ClsH K (fre O') H' vs cs := h.mono f.keep f.free
theorem ClsH.len {ok : Addr → Prop} {H : Hp} : ∀ {vs : List V} {cs : List Cl}, ClsH K ok H vs cs → vs.length = cs.length
  | _, _, .nil => rfl
  | _, _, .cons _ r => congrArg Nat.succ (ClsH.len r)
theorem ClsH.get {ok : Addr → Prop} {H : Hp} : ∀ {vs : List V} {cs : List Cl} {i : Nat} {c : Cl}, ClsH K ok H vs cs → cs[i]? = some c → ∃ v, vs[i]? = some v ∧ ClH K ok H v c
  | _, _, i, _, .nil, e => by simp at e
  | _, _, 0, _, .cons h _, e => by
    simp at e
    subst e
    exact ⟨_, rfl, h⟩
  | _, _, i + 1, d, .cons _ r, e => by
    obtain ⟨v, h1, h2⟩ := ClsH.get (i := i) (c := d) r (by simpa using e)
    exact ⟨v, by simpa using h1, h2⟩
theorem ClsH.app {ok : Addr → Prop} {H : Hp} : ∀ {vs ws : List V} {cs es : List Cl}, ClsH K ok H vs cs → ClsH K ok H ws es → ClsH K ok H (vs ++ ws) (cs ++ es)
  | _, _, _, _, .nil, b => b
  | _, _, _, _, .cons h r, b => .cons h (ClsH.app r b)
theorem ClsH.dats {ok : Addr → Prop} {H : Hp} : ∀ {vs : List V} {ds : List PyData}, DqL ok H vs ds → ClsH K ok H vs (ds.map .dat)
  | _, _, .nil => .nil
  | _, _, .cons h r => .cons (.dat h) (ClsH.dats r)
theorem Kq.cl {ok : Addr → Prop} {H : Hp} : ∀ {v : V} {d : PyData}, Kq K v d → ClH K ok H v (conC d)
  | _, _, .non => .dat .non
  | _, _, .bl b => .dat (.bl b)
  | _, _, .int i => .dat (.int i)
  | _, _, .str x => .dat (.str x)
  | _, _, .tup e c d z r q => .con (.tup e c d z r q)
theorem KqL.cl {ok : Addr → Prop} {H : Hp} : ∀ {vs : List V} {ds : List PyData}, KqL K vs ds → ClsH K ok H vs (ds.map conC)
  | _, _, .nil => .nil
  | _, _, .cons h r => .cons (Kq.cl h) (KqL.cl r)
theorem ClsH.undat {ok : Addr → Prop} {H : Hp} : ∀ {vs : List V} {ds : List PyData}, ClsH K ok H vs (ds.map .dat) → DqL ok H vs ds
  | _, [], .nil => .nil
  | _, _ :: _, .cons (.dat h) r => .cons h (ClsH.undat r)
def OwH (K : PySem.W.Frag) (ok : Addr → Prop) (H : Hp) (a : Addr) : Ow → Prop
  | .lst cs => ∃ xs, H a = some (.lst xs) ∧ ClsH K ok H xs cs
  | .dct es => ∃ kvs : List (Key × V), H a = some (.dK kvs) ∧ kvs.map (·.1) = es.map (·.1) ∧ ClsH K ok H (kvs.map (·.2)) (es.map (·.2))
  | .pur n => Pz H a n
  | .ins x fs => ∃ (d : Addr) (vs : List (Str × V)), H a = some (.ins (clsA K x) d vs) ∧ vs.map (·.1) = fs.map (·.1) ∧ ClsH K ok H (vs.map (·.2)) (fs.map (·.2))
theorem OwH.there {ok : Addr → Prop} {H : Hp} {a : Addr} {w : Ow} (h : OwH K ok H a w) : ∃ u, H a = some u := by
  cases w with
  | lst cs => obtain ⟨xs, h, _⟩ := h; exact ⟨_, h⟩
  | dct es => obtain ⟨xs, h, _⟩ := h; exact ⟨_, h⟩
  | pur n => obtain ⟨xs, h, _⟩ := h; exact ⟨_, h⟩
  | ins x fs => obtain ⟨d, vs, h, _⟩ := h; exact ⟨_, h⟩
theorem OwH.mono {ok ok' : Addr → Prop} {H H' : Hp} {a : Addr} {w : Ow} (h : OwH K ok H a w) (s : ∀ a o, ok a → H a = some o → H' a = some o) (k : ∀ a o, ok a → H a = some o → ok' a) (e : H' a = H a) : OwH K ok' H' a w := by
  cases w with
  | lst cs => obtain ⟨xs, h, r⟩ := h; exact ⟨xs, e.trans h, r.mono s k⟩
  | dct es => obtain ⟨xs, h, q, r⟩ := h; exact ⟨xs, e.trans h, q, r.mono s k⟩
  | pur n => obtain ⟨xs, h, r⟩ := h; exact ⟨xs, e.trans h, r⟩
  | ins x fs => obtain ⟨d, vs, h, q, r⟩ := h; exact ⟨d, vs, e.trans h, q, r.mono s k⟩
structure OkO (K : PySem.W.Frag) (O : Ob) (H : Hp) : Prop where
  nd : (O.map (·.1)).Nodup
  all : ∀ x ∈ O, OwH K (fre O) H x.1 x.2
theorem okO_nil {H : Hp} : OkO K [] H := ⟨List.nodup_nil, fun x h => by cases h⟩
/-- the state of a frame -/
structure Ss (K : PySem.W.Frag) (O : Ob) (ρ : Rho) (σ : L2.St) (H : Hp) : Prop where
  o : OkO K O H
  len : σ.length = ρ.length
  at_ : ∀ (i : Nat) (c : Cl), ρ[i]? = some (some c) → ∃ v, σ[i]? = some (some v) ∧ ClH K (fre O) H v c
theorem Ss.go {O O' : Ob} {ρ : Rho} {σ : L2.St} {H H' : Hp} (S : Ss K O ρ σ H) (f : Fr O H O' H') (o : OkO K O' H') : Ss K O' ρ σ H' :=
  ⟨o, S.len, fun i c e => (S.at_ i c e).imp fun v z => ⟨z.1, z.2.fr f⟩⟩
theorem Ss.set {O : Ob} {ρ : Rho} {σ : L2.St} {H : Hp} {v : V} {c : Cl} {i : Nat} (S : Ss K O ρ σ H) (h : ClH K (fre O) H v c) : Ss K O (ρ.set i (some c)) (σ.set i (some v)) H := by
  refine ⟨S.o, by rw [List.length_set, List.length_set, S.len], fun j d e => ?_⟩
  rw [List.getElem?_set] at e ⊢
  by_cases hij : i = j
  · rw [if_pos hij] at e ⊢
    rw [S.len]
    split at e
    · rw [if_pos (by assumption)]
      cases e
      exact ⟨v, rfl, h⟩
    · cases e
  · rw [if_neg hij] at e ⊢
    exact S.at_ j d e
theorem Ss.drop {O : Ob} {ρ : Rho} {σ : L2.St} {H : Hp} {i : Nat} (S : Ss K O ρ σ H) : Ss K O (ρ.set i none) (σ.set i none) H := by
  refine ⟨S.o, by rw [List.length_set, List.length_set, S.len], fun j d e => ?_⟩
  rw [List.getElem?_set] at e ⊢
  by_cases hij : i = j
  · rw [if_pos hij] at e
    split at e <;> cases e
  · rw [if_neg hij] at e ⊢
    exact S.at_ j d e
abbrev KC := Ob → Cl → Prop
abbrev XC := Ob → Rho → Str → Cl → Prop
/-- the field of a refusal -/
def fld (x : Str) : Str := if x = "TooMany" then "many" else if x = "NoText" then "line" else "found"
def QOk (K : PySem.W.Frag) (O : Ob) (H : Hp) (Kc : KC) (Q : VK) : Prop := ∀ O' c v H', Fr O H O' H' → OkO K O' H' → ClH K (fre O') H' v c → Kc O' c → Q v H'
def XOk (K : PySem.W.Frag) (O : Ob) (H : Hp) (XX : XC) (W : WX) : Prop := ∀ O' ρ' σ' x c v H' dd, Fr O H O' H' → Ss K O' ρ' σ' H' → ClH K (fre O') H' v c → H' dd = some (.xd [(fld x, v)]) → fre O' dd → XX O' ρ' x c → W (.ref (clsA K x)) (some dd) σ' H'
theorem QOk.go {O O' : Ob} {H H' : Hp} {Kc : KC} {Q : VK} (q : QOk K O H Kc Q) (f : Fr O H O' H') : QOk K O' H' Kc Q := fun O2 c v H2 g => q O2 c v H2 (f.trans g)
theorem XOk.go {O O' : Ob} {H H' : Hp} {XX : XC} {W : WX} (q : XOk K O H XX W) (f : Fr O H O' H') : XOk K O' H' XX W := fun O2 r s x c v H2 dd g => q O2 r s x c v H2 dd (f.trans g)
abbrev AE := Ob → Rho → XC → KC → Prop
abbrev AA := Ob → Rho → XC → (Ob → List Cl → Prop) → Prop
abbrev AT := Ob → Rho → XC → (Ob → Bool → Prop) → Prop
def SaE (K : PySem.W.Frag) (W : WX) (t : TE) (a : AE) : Prop := ∀ O ρ σ H Q Kc XX, Ss K O ρ σ H → a O ρ XX Kc → QOk K O H Kc Q → XOk K O H XX W → t σ H Q
def SaA (K : PySem.W.Frag) (W : WX) (t : TA) (a : AA) : Prop := ∀ O ρ σ H (Q : List V → Hp → Prop) Kc XX, Ss K O ρ σ H → a O ρ XX Kc →
  (∀ O' cs vs H', Fr O H O' H' → OkO K O' H' → ClsH K (fre O') H' vs cs → Kc O' cs → Q vs H') → XOk K O H XX W → t σ H Q
def SaT (K : PySem.W.Frag) (W : WX) (t : TT) (a : AT) : Prop := ∀ O ρ σ H (Q : Bool → Hp → Prop) Kc XX, Ss K O ρ σ H → a O ρ XX Kc → (∀ O' b H', Fr O H O' H' → OkO K O' H' → Kc O' b → Q b H') → XOk K O H XX W → t σ H Q
/-- the ends of a statement -/
structure AEn where
  nx : Ob → Rho → Prop
  rt : KC
  bk : Ob → Rho → Prop := fun _ _ => False
  ct : Ob → Rho → Prop := fun _ _ => False
abbrev AS := AEn → XC → Ob → Rho → Prop
def NOk (K : PySem.W.Frag) (O : Ob) (H : Hp) (N : Ob → Rho → Prop) (R : L2.St → Hp → Prop) : Prop := ∀ O' ρ' σ' H', Fr O H O' H' → Ss K O' ρ' σ' H' → N O' ρ' → R σ' H'
theorem NOk.go {O O' : Ob} {H H' : Hp} {N : Ob → Rho → Prop} {R : L2.St → Hp → Prop} (q : NOk K O H N R) (f : Fr O H O' H') : NOk K O' H' N R := fun O2 r s H2 g => q O2 r s H2 (f.trans g)
structure EOk (K : PySem.W.Frag) (O : Ob) (H : Hp) (A : AEn) (D : Ends) : Prop where
  nx : NOk K O H A.nx D.nx
  rt : QOk K O H A.rt D.rt
  bk : NOk K O H A.bk D.bk
  ct : NOk K O H A.ct D.ct
theorem EOk.go {O O' : Ob} {H H' : Hp} {A : AEn} {D : Ends} (q : EOk K O H A D) (f : Fr O H O' H') : EOk K O' H' A D := ⟨q.nx.go f, q.rt.go f, q.bk.go f, q.ct.go f⟩
def SaS (K : PySem.W.Frag) (W : WX) (t : TS) (a : AS) : Prop := ∀ O ρ σ H D A XX, Ss K O ρ σ H → a A XX O ρ → EOk K O H A D → XOk K O H XX W → t D σ H
end
/-! ## judgements: the readings that cells make -/
def upE (K : PySem.W.Frag) (W : WX) (a : AE) : TE := fun σ H Q => ∃ O ρ Kc XX, Ss K O ρ σ H ∧ a O ρ XX Kc ∧ QOk K O H Kc Q ∧ XOk K O H XX W
def upT (K : PySem.W.Frag) (W : WX) (a : AT) : TT := fun σ H Q => ∃ O ρ Kc XX, Ss K O ρ σ H ∧ a O ρ XX Kc ∧ (∀ O' b H', Fr O H O' H' → OkO K O' H' → Kc O' b → Q b H') ∧ XOk K O H XX W
def upS (K : PySem.W.Frag) (W : WX) (a : AS) : TS := fun D σ H => ∃ O ρ A XX, Ss K O ρ σ H ∧ a A XX O ρ ∧ EOk K O H A D ∧ XOk K O H XX W
theorem up_e {K : PySem.W.Frag} {W : WX} {a : AE} : SaE K W (upE K W a) a := fun O ρ σ H Q Kc XX S k q x => ⟨O, ρ, Kc, XX, S, k, q, x⟩
structure DE (X : Cx) (W : WX) (e : Expr) (a : AE) : Prop where
  ex : ∃ t, PE X e t ∧ SaE X.K W t a
structure DA (X : Cx) (W : WX) (es : List Expr) (a : AA) : Prop where
  ex : ∃ t, PA X es t ∧ SaA X.K W t a
structure DT (X : Cx) (W : WX) (e : Expr) (a : AT) : Prop where
  ex : ∃ t, PT X e t ∧ SaT X.K W t a
structure DW (X : Cx) (W : WX) (e : Expr) (a : AT) : Prop where
  ex : ∃ t, PW X e t ∧ SaT X.K W t a
structure DS (X : Cx) (W : WX) (s : Stmt) (a : AS) : Prop where
  ex : ∃ t, PS X s t ∧ SaS X.K W t a
structure DSs (X : Cx) (W : WX) (s : List Stmt) (a : AS) : Prop where
  ex : ∃ t, PSs X s t ∧ SaS X.K W t a
theorem DE.pe {X : Cx} {W : WX} {e : Expr} {a : AE} (h : DE X W e a) : PE X e (upE X.K W a) := by
  obtain ⟨t, p, s⟩ := h.ex
  exact ⟨fun pins s1 σ H Q I ⟨O, ρ, Kc, XX, S, k, q, x⟩ => p.run pins s1 σ H Q I (s O ρ σ H Q Kc XX S k q x)⟩
theorem DT.pt {X : Cx} {W : WX} {e : Expr} {a : AT} (h : DT X W e a) : PT X e (upT X.K W a) := by
  obtain ⟨t, p, s⟩ := h.ex
  exact ⟨fun pins s1 σ H Q I ⟨O, ρ, Kc, XX, S, k, q, x⟩ => p.run pins s1 σ H Q I (s O ρ σ H Q Kc XX S k q x)⟩
theorem DSs.pss {X : Cx} {W : WX} {e : List Stmt} {a : AS} (h : DSs X W e a) : PSs X e (upS X.K W a) := by
  obtain ⟨t, p, s⟩ := h.ex
  exact ⟨fun pins s1 σ H D I ⟨O, ρ, A, XX, S, k, q, x⟩ => p.run pins s1 σ H D I (s O ρ σ H D A XX S k q x)⟩
section
variable {X : Cx} {W : WX} {K : PySem.W.Frag}
/-! ## names and constants -/
def aVar (i : Nat) : AE := fun O ρ _ Kc => ∃ c, ρ[i]? = some (some c) ∧ Kc O c
def aC (d : PyData) : AE := fun O _ _ Kc => Kc O (.dat d)
def aRaw (v : V) : AE := fun O _ _ Kc => Kc O (.raw v)
theorem sa_var {i : Nat} : SaE K W (tVar i) (aVar i) := fun O ρ σ H Q Kc XX S ⟨c, e, k⟩ q x => by
  obtain ⟨v, e2, h⟩ := S.at_ i c e
  exact ⟨v, e2, q O c v H (Fr.refl _ _) S.o h k⟩
theorem sa_c {v : V} {d : PyData} (h : ∀ ok H, Dq ok H v d) : SaE K W (tC v) (aC d) := fun O ρ σ H Q Kc XX S k q x => q O _ v H (Fr.refl _ _) S.o (.dat (h _ _)) k
theorem dv (i : Nat) {x : Str} {pos : Pos} (hN : X.N[i]? = some x := by rfl) (hv : Vis X.env.scope x := by first | exact Or.inl rfl | exact Or.inr (Or.inl rfl) | exact Or.inr (Or.inr rfl)) (hd : (x == ("__debug__" : Str)) = false := by decide)
    (hcd : (x == ("__classdict__" : Str)) = false := by decide) : DE X W (.Name x pos) (aVar i) := ⟨_, pe_var hN hv hd hcd, sa_var⟩
theorem de_int {i j pos} : DE X W (.Constant (.int i) j pos) (aC (.int i)) := ⟨_, pe_int, sa_c fun _ _ => .int i⟩
theorem de_bl {i j pos} : DE X W (.Constant (.bool i) j pos) (aC (.bool i)) := ⟨_, pe_bl, sa_c fun _ _ => .bl i⟩
theorem de_str {i j pos} : DE X W (.Constant (.str i) j pos) (aC (.str i)) := ⟨_, pe_str, sa_c fun _ _ => .str i⟩
theorem de_non {j pos} : DE X W (.Constant .none j pos) (aC .none) := ⟨_, pe_non, sa_c fun _ _ => .non⟩
theorem de_raw {e : Expr} {v : V} (h : PE X e (tC v)) : DE X W e (aRaw v) := ⟨_, h, fun O ρ σ H Q Kc XX S k q x => q O _ v H (Fr.refl _ _) S.o (.raw v) k⟩
theorem de_con {e : Expr} {i : Int} (h : PE X e (tC (.int i))) : DE X W e (aC (.int i)) := ⟨_, h, sa_c fun _ _ => .int i⟩
/-! ## two operands -/
abbrev AR2 := Ob → Cl → Cl → KC → Prop
abbrev AR1 := Ob → Cl → KC → Prop
def SR2 (K : PySem.W.Frag) (r : R2) (ar : AR2) : Prop := ∀ O H Q Kc c c' v v', OkO K O H → ClH K (fre O) H v c → ClH K (fre O) H v' c' → ar O c c' Kc → QOk K O H Kc Q → r v v' H Q
def SR1 (K : PySem.W.Frag) (r : V → Hp → VK → Prop) (ar : AR1) : Prop := ∀ O H Q Kc c v, OkO K O H → ClH K (fre O) H v c → ar O c Kc → QOk K O H Kc Q → r v H Q
def aOp (ar : AR2) (a b : AE) : AE := fun O ρ XX Kc => a O ρ XX fun O1 c => b O1 ρ XX fun O2 c' => ar O2 c c' Kc
def aUn (ar : AR1) (a : AE) : AE := fun O ρ XX Kc => a O ρ XX fun O1 c => ar O1 c Kc
theorem sa_op {r : R2} {ar : AR2} {ta tb : TE} {a b : AE} (hr : SR2 K r ar) (ha : SaE K W ta a) (hb : SaE K W tb b) : SaE K W (tOp r ta tb) (aOp ar a b) := fun O ρ σ H Q Kc XX S h q x =>
  ha O ρ σ H _ _ XX S h (fun O1 c v H1 f1 o1 r1 k1 => hb O1 ρ σ H1 _ _ XX (S.go f1 o1) k1 (fun O2 c' v' H2 f2 o2 r2 k2 => hr O2 H2 _ _ _ _ _ _ o2 (r1.fr f2) r2 k2 (q.go (f1.trans f2))) (x.go f1)) x
theorem sa_un {r : V → Hp → VK → Prop} {ar : AR1} {ta : TE} {a : AE} (hr : SR1 K r ar) (ha : SaE K W ta a) : SaE K W (tUn r ta) (aUn ar a) := fun O ρ σ H Q Kc XX S h q x =>
  ha O ρ σ H _ _ XX S h (fun O1 c v H1 f1 o1 r1 k1 => hr O1 H1 _ _ _ _ o1 r1 k1 (q.go f1)) x
theorem de_op {op : Operator} {r : R2} {ar : AR2} {a b : Expr} {aa ab : AE} {pos : Pos} (ho : OpR X (binaryOp op) r) (hr : SR2 X.K r ar) (ha : DE X W a aa) (hb : DE X W b ab) : DE X W (.BinOp a op b pos) (aOp ar aa ab) := by
  obtain ⟨ta, pa, sa⟩ := ha.ex
  obtain ⟨tb, pb, sb⟩ := hb.ex
  exact ⟨_, pe_op ho pa pb, sa_op hr sa sb⟩
theorem de_un {op : UnaryOp} {r : V → Hp → VK → Prop} {ar : AR1} {a : Expr} {aa : AE} {pos : Pos} (ho : UnR X (unaryOp op) r) (hr : SR1 X.K r ar) (ha : DE X W a aa) : DE X W (.UnaryOp op a pos) (aUn ar aa) := by
  obtain ⟨ta, pa, sa⟩ := ha.ex
  exact ⟨_, pe_un ho pa, sa_un hr sa⟩
theorem de_cmp {op : CmpOp} {r : R2} {ar : AR2} {a b : Expr} {aa ab : AE} {pos : Pos} (ho : OpR X (compareOp op) r) (hr : SR2 X.K r ar) (ha : DE X W a aa) (hb : DE X W b ab) (hm : behindInMarks op b = false) : DE X W (.Compare a [op] [b] pos) (aOp ar aa ab) := by
  obtain ⟨ta, pa, sa⟩ := ha.ex
  obtain ⟨tb, pb, sb⟩ := hb.ex
  exact ⟨_, pe_cmpR ho pa pb hm, sa_op hr sa sb⟩
/-- a truth as a test -/
def aTest (a : AE) : AT := fun O ρ XX Kc => a O ρ XX fun O1 c => ∃ b, c = .dat (.bool b) ∧ Kc O1 b
theorem dq_bool {ok : Addr → Prop} {H : Hp} {v : V} {b : Bool} (h : ClH K ok H v (.dat (.bool b))) : v = .bl b := by
  cases h with
  | dat h => cases h; rfl
theorem dq_int {ok : Addr → Prop} {H : Hp} {v : V} {b : Int} (h : ClH K ok H v (.dat (.int b))) : v = .int b := by
  cases h with
  | dat h => cases h; rfl
theorem dq_str {ok : Addr → Prop} {H : Hp} {v : V} {b : Str} (h : ClH K ok H v (.dat (.str b))) : v = .str b := by
  cases h with
  | dat h => cases h; rfl
theorem dq_non {ok : Addr → Prop} {H : Hp} {v : V} (h : ClH K ok H v (.dat .none)) : v = .non := by
  cases h with
  | dat h => cases h; rfl
theorem dq_at {ok : Addr → Prop} {H : Hp} {v : V} {a : Addr} (h : ClH K ok H v (.at a)) : v = .ref a := by
  cases h; rfl
theorem dq_raw {ok : Addr → Prop} {H : Hp} {v w : V} (h : ClH K ok H v (.raw w)) : v = w := by
  cases h; rfl
theorem sa_test {t : TE} {a : AE} (h : SaE K W t a) : SaT K W (tTest t) (aTest a) := fun O ρ σ H Q Kc XX S k q x =>
  h O ρ σ H _ _ XX S k (fun O1 c v H1 f1 o1 r1 ⟨b, e, k1⟩ => by
    subst e
    exact ⟨b, dq_bool r1, q O1 b H1 f1 o1 k1⟩) x
theorem sa_tB {t : TE} {a : AE} (h : SaE K W t a) : SaT K W (tB t) (aTest a) := fun O ρ σ H Q Kc XX S k q x =>
  h O ρ σ H _ _ XX S k (fun O1 c v H1 f1 o1 r1 ⟨b, e, k1⟩ => by
    subst e
    exact ⟨b, dq_bool r1, q O1 b H1 f1 o1 k1⟩) x
theorem dt_cmp {op : CmpOp} {r : R2} {ar : AR2} {a b : Expr} {aa ab : AE} {pos : Pos} (ho : OpR X (compareOp op) r) (hr : SR2 X.K r ar) (ha : DE X W a aa) (hb : DE X W b ab) (hm : behindInMarks op b = false) : DT X W (.Compare a [op] [b] pos) (aTest (aOp ar aa ab)) := by
  obtain ⟨ta, pa, sa⟩ := ha.ex
  obtain ⟨tb, pb, sb⟩ := hb.ex
  exact ⟨_, pt_cmpR ho pa pb hm, sa_test (sa_op hr sa sb)⟩
theorem dt_val {e : Expr} {a : AE} (h : DE X W e a) (he : ∀ whole, isTrue e X.env whole = (do let v ← whole; standAt e.pos; holding [v] (truthy v)) := by intro _; rfl) : DT X W e (aTest a) := by
  obtain ⟨t, p, s⟩ := h.ex
  exact ⟨_, pt_val p he, sa_tB s⟩
/-! ## and, or, not, if -/
def aAnd (t u : AT) : AT := fun O ρ XX Kc => t O ρ XX fun O1 b => if b = true then u O1 ρ XX Kc else Kc O1 false
def aOr (t u : AT) : AT := fun O ρ XX Kc => t O ρ XX fun O1 b => if b = true then Kc O1 true else u O1 ρ XX Kc
def aNot (t : AT) : AT := fun O ρ XX Kc => t O ρ XX fun O1 b => Kc O1 (!b)
def aAndV (a b : AE) : AE := fun O ρ XX Kc => a O ρ XX fun O1 c => ∃ k, c = .dat (.bool k) ∧ if k = true then b O1 ρ XX Kc else Kc O1 (.dat (.bool false))
def aOrV (a b : AE) : AE := fun O ρ XX Kc => a O ρ XX fun O1 c => ∃ k, c = .dat (.bool k) ∧ if k = true then Kc O1 (.dat (.bool true)) else b O1 ρ XX Kc
def aNotV (a : AE) : AE := fun O ρ XX Kc => a O ρ XX fun O1 c => ∃ k, c = .dat (.bool k) ∧ Kc O1 (.dat (.bool (!k)))
def aIf (t : AT) (a b : AE) : AE := fun O ρ XX Kc => t O ρ XX fun O1 k => if k = true then a O1 ρ XX Kc else b O1 ρ XX Kc
theorem sa_and {t u : TT} {a b : AT} (ha : SaT K W t a) (hb : SaT K W u b) : SaT K W (tAnd t u) (aAnd a b) := fun O ρ σ H Q Kc XX S k q x =>
  ha O ρ σ H _ _ XX S k (fun O1 c H1 f1 o1 k1 => by
    cases c with
    | true =>
      rw [if_pos rfl] at k1 ⊢
      exact hb O1 ρ σ H1 _ _ XX (S.go f1 o1) k1 (fun O2 d H2 f2 o2 k2 => q O2 d H2 (f1.trans f2) o2 k2) (x.go f1)
    | false =>
      rw [if_neg Bool.false_ne_true] at k1 ⊢
      exact q O1 _ H1 f1 o1 k1) x
theorem sa_or {t u : TT} {a b : AT} (ha : SaT K W t a) (hb : SaT K W u b) : SaT K W (tOr t u) (aOr a b) := fun O ρ σ H Q Kc XX S k q x =>
  ha O ρ σ H _ _ XX S k (fun O1 c H1 f1 o1 k1 => by
    cases c with
    | false =>
      rw [if_neg Bool.false_ne_true] at k1 ⊢
      exact hb O1 ρ σ H1 _ _ XX (S.go f1 o1) k1 (fun O2 d H2 f2 o2 k2 => q O2 d H2 (f1.trans f2) o2 k2) (x.go f1)
    | true =>
      rw [if_pos rfl] at k1 ⊢
      exact q O1 _ H1 f1 o1 k1) x
theorem sa_not {t : TT} {a : AT} (ha : SaT K W t a) : SaT K W (tNot t) (aNot a) := fun O ρ σ H Q Kc XX S k q x =>
  ha O ρ σ H _ _ XX S k (fun O1 c H1 f1 o1 k1 => q O1 _ H1 f1 o1 k1) x
theorem sa_andV {t u : TE} {a b : AE} (ha : SaE K W t a) (hb : SaE K W u b) : SaE K W (tAndV t u) (aAndV a b) := fun O ρ σ H Q Kc XX S k q x =>
  ha O ρ σ H _ _ XX S k (fun O1 c v H1 f1 o1 r1 ⟨j, e, k1⟩ => by
    subst e
    refine ⟨j, dq_bool r1, ?_⟩
    cases j with
    | true =>
      rw [if_pos rfl] at k1 ⊢
      exact hb O1 ρ σ H1 _ _ XX (S.go f1 o1) k1 (q.go f1) (x.go f1)
    | false =>
      rw [if_neg Bool.false_ne_true] at k1 ⊢
      exact q O1 _ _ H1 f1 o1 (.dat (.bl false)) k1) x
theorem sa_orV {t u : TE} {a b : AE} (ha : SaE K W t a) (hb : SaE K W u b) : SaE K W (tOrV t u) (aOrV a b) := fun O ρ σ H Q Kc XX S k q x =>
  ha O ρ σ H _ _ XX S k (fun O1 c v H1 f1 o1 r1 ⟨j, e, k1⟩ => by
    subst e
    refine ⟨j, dq_bool r1, ?_⟩
    cases j with
    | false =>
      rw [if_neg Bool.false_ne_true] at k1 ⊢
      exact hb O1 ρ σ H1 _ _ XX (S.go f1 o1) k1 (q.go f1) (x.go f1)
    | true =>
      rw [if_pos rfl] at k1 ⊢
      exact q O1 _ _ H1 f1 o1 (.dat (.bl true)) k1) x
theorem sa_notV {t : TE} {a : AE} (ha : SaE K W t a) : SaE K W (tNotV t) (aNotV a) := fun O ρ σ H Q Kc XX S k q x =>
  ha O ρ σ H _ _ XX S k (fun O1 c v H1 f1 o1 r1 ⟨j, e, k1⟩ => by
    subst e
    exact ⟨j, dq_bool r1, q O1 _ _ H1 f1 o1 (.dat (.bl (!j))) k1⟩) x
theorem sa_if {t : TT} {t1 t2 : TE} {a : AT} {b c : AE} (ha : SaT K W t a) (hb : SaE K W t1 b) (hc : SaE K W t2 c) : SaE K W (tIf t t1 t2) (aIf a b c) := fun O ρ σ H Q Kc XX S k q x =>
  ha O ρ σ H _ _ XX S k (fun O1 d H1 f1 o1 k1 => by
    cases d with
    | true =>
      rw [if_pos rfl] at k1 ⊢
      exact hb O1 ρ σ H1 _ _ XX (S.go f1 o1) k1 (q.go f1) (x.go f1)
    | false =>
      rw [if_neg Bool.false_ne_true] at k1 ⊢
      exact hc O1 ρ σ H1 _ _ XX (S.go f1 o1) k1 (q.go f1) (x.go f1)) x
section
variable {a b c : Expr} {rest : List Expr} {pos : Pos} {aa ab ac : AE} {ta tb : AT}
theorem dw_pt (h : DW X W a ta) : DT X W a ta := by obtain ⟨t, p, s⟩ := h.ex; exact ⟨_, p.pt, s⟩
theorem dw_and1 (h : DT X W a ta) : DW X W (.BoolOp .And [a] pos) ta := by obtain ⟨t, p, s⟩ := h.ex; exact ⟨_, pw_and1 p, s⟩
theorem dw_or1 (h : DT X W a ta) : DW X W (.BoolOp .Or [a] pos) ta := by obtain ⟨t, p, s⟩ := h.ex; exact ⟨_, pw_or1 p, s⟩
theorem dw_and (h : DT X W a ta) (k : DW X W (.BoolOp .And (b :: rest) pos) tb) : DW X W (.BoolOp .And (a :: b :: rest) pos) (aAnd ta tb) := by
  obtain ⟨t, p, s⟩ := h.ex
  obtain ⟨u, p2, s2⟩ := k.ex
  exact ⟨_, pw_and p p2, sa_and s s2⟩
theorem dw_or (h : DT X W a ta) (k : DW X W (.BoolOp .Or (b :: rest) pos) tb) : DW X W (.BoolOp .Or (a :: b :: rest) pos) (aOr ta tb) := by
  obtain ⟨t, p, s⟩ := h.ex
  obtain ⟨u, p2, s2⟩ := k.ex
  exact ⟨_, pw_or p p2, sa_or s s2⟩
theorem dt_not (h : DT X W a ta) : DT X W (.UnaryOp .Not a pos) (aNot ta) := by
  obtain ⟨t, p, s⟩ := h.ex
  exact ⟨_, pt_not p, sa_not s⟩
theorem de_one {op} (h : DE X W a aa) : DE X W (.BoolOp op [a] pos) aa := by obtain ⟨t, p, s⟩ := h.ex; exact ⟨_, pe_one p, s⟩
theorem de_and (h : DE X W a aa) (k : DE X W (.BoolOp .And (b :: rest) pos) ab) : DE X W (.BoolOp .And (a :: b :: rest) pos) (aAndV aa ab) := by
  obtain ⟨t, p, s⟩ := h.ex
  obtain ⟨u, p2, s2⟩ := k.ex
  exact ⟨_, pe_and p p2, sa_andV s s2⟩
theorem de_or (h : DE X W a aa) (k : DE X W (.BoolOp .Or (b :: rest) pos) ab) : DE X W (.BoolOp .Or (a :: b :: rest) pos) (aOrV aa ab) := by
  obtain ⟨t, p, s⟩ := h.ex
  obtain ⟨u, p2, s2⟩ := k.ex
  exact ⟨_, pe_or p p2, sa_orV s s2⟩
theorem de_not (h : DE X W a aa) : DE X W (.UnaryOp .Not a pos) (aNotV aa) := by
  obtain ⟨t, p, s⟩ := h.ex
  exact ⟨_, pe_not p, sa_notV s⟩
theorem de_ifExp (hc : DT X W c ta) (ha : DE X W a aa) (hb : DE X W b ab) : DE X W (.IfExp c a b pos) (aIf ta aa ab) := by
  obtain ⟨t, p, s⟩ := hc.ex
  obtain ⟨t1, p1, s1⟩ := ha.ex
  obtain ⟨t2, p2, s2⟩ := hb.ex
  exact ⟨_, pe_ifExp p p1 p2, sa_if s s1 s2⟩
/-- a chain of two comparisons -/
def aChain (r r' : AR2) (a b c : AE) : AE := fun O ρ XX Kc => a O ρ XX fun O1 x => b O1 ρ XX fun O2 y => r O2 x y fun O3 z => ∃ k, z = .dat (.bool k) ∧ if k = true then c O3 ρ XX fun O4 u => r' O4 y u Kc else Kc O3 (.dat (.bool false))
theorem sa_chain {r r' : R2} {ar ar' : AR2} {t1 t2 t3 : TE} (hr : SR2 K r ar) (hr' : SR2 K r' ar') (ha : SaE K W t1 aa) (hb : SaE K W t2 ab) (hc : SaE K W t3 ac) : SaE K W (tChain r r' t1 t2 t3) (aChain ar ar' aa ab ac) := fun O ρ σ H Q Kc XX S k q x =>
  ha O ρ σ H _ _ XX S k (fun O1 c1 v1 H1 f1 o1 r1 k1 => hb O1 ρ σ H1 _ _ XX (S.go f1 o1) k1 (fun O2 c2 v2 H2 f2 o2 r2 k2 =>
    hr O2 H2 _ _ _ _ _ _ o2 (r1.fr f2) r2 k2 (fun O3 c3 v3 H3 f3 o3 r3 ⟨j, e, k3⟩ => by
      subst e
      refine ⟨j, dq_bool r3, ?_⟩
      have f13 := f1.trans (f2.trans f3)
      cases j with
      | true =>
        rw [if_pos rfl] at k3 ⊢
        exact hc O3 ρ σ H3 _ _ XX (S.go f13 o3) k3 (fun O4 c4 v4 H4 f4 o4 r4 k4 => hr' O4 H4 _ _ _ _ _ _ o4 (r2.fr (f3.trans f4)) r4 k4 (q.go (f13.trans f4))) (x.go f13)
      | false =>
        rw [if_neg Bool.false_ne_true] at k3 ⊢
        exact q O3 _ _ H3 f13 o3 (.dat (.bl false)) k3)) (x.go f1)) x
theorem de_chain {op op' : CmpOp} {r r' : R2} {ar ar' : AR2} (ho : OpR X (compareOp op) r) (ho' : OpR X (compareOp op') r') (hr : SR2 X.K r ar) (hr' : SR2 X.K r' ar') (ha : DE X W a aa) (hb : DE X W b ab) (hc : DE X W c ac)
    (hm : lastMarks [op, op'] [b, c] = false := by with_unfolding_all rfl) : DE X W (.Compare a [op, op'] [b, c] pos) (aChain ar ar' aa ab ac) := by
  obtain ⟨t, p, s⟩ := ha.ex
  obtain ⟨t1, p1, s1⟩ := hb.ex
  obtain ⟨t2, p2, s2⟩ := hc.ex
  exact ⟨_, pe_chain ho ho' p p1 p2 hm, sa_chain hr hr' s s1 s2⟩
end
end
end Ab
namespace Ab
open PySem PySem.Spec PyProof.Rows L2 Vg
/-- where an owned object stands in the list, and the list with another one there -/
inductive Lo : Ob → Addr → Ow → (Ow → Ob) → Prop
  | here {a : Addr} {w : Ow} {O : Ob} : Lo ((a, w) :: O) a w (fun w' => (a, w') :: O)
  | there {a : Addr} {w : Ow} {O : Ob} {x : Addr × Ow} {f : Ow → Ob} (h : Lo O a w f) : Lo (x :: O) a w (fun w' => x :: f w')
theorem Lo.eq {O : Ob} {a : Addr} {w : Ow} {f : Ow → Ob} (h : Lo O a w f) : f w = O := by
  induction h with
  | here => rfl
  | there h ih => simp only [ih]
theorem Lo.next {O : Ob} {a : Addr} {w w' : Ow} {f : Ow → Ob} (h : Lo O a w f) : Lo (f w') a w' f := by
  induction h with
  | here => exact .here
  | there h ih => exact .there ih
theorem Lo.mem {O : Ob} {a : Addr} {w : Ow} {f : Ow → Ob} (h : Lo O a w f) : (a, w) ∈ O := by
  induction h with
  | here => exact List.mem_cons_self ..
  | there h ih => exact List.mem_cons_of_mem _ ih
theorem Lo.fst {O : Ob} {a : Addr} {w w' : Ow} {f : Ow → Ob} (h : Lo O a w f) : (f w').map (·.1) = O.map (·.1) := by
  induction h with
  | here => rfl
  | there h ih => simp only [List.map_cons, ih]
theorem Lo.fre {O : Ob} {a : Addr} {w w' : Ow} {f : Ow → Ob} (h : Lo O a w f) (b : Addr) : fre (f w') b ↔ fre O b := by
  have e : ∀ O' : Ob, Ab.fre O' b ↔ b ∉ O'.map (·.1) := fun O' => by
    unfold Ab.fre
    constructor
    · intro k m
      obtain ⟨x, hx, e⟩ := List.mem_map.mp m
      exact k x hx e
    · intro k x hx e
      exact k (List.mem_map.mpr ⟨x, hx, e⟩)
  rw [e, e, h.fst]
theorem Lo.mem' {O : Ob} {a : Addr} {w w' : Ow} {f : Ow → Ob} (h : Lo O a w f) (nd : (O.map (·.1)).Nodup) : ∀ x ∈ f w', x = (a, w') ∨ (x ∈ O ∧ x.1 ≠ a) := by
  induction h with
  | @here a w O =>
    intro x hx
    rcases List.mem_cons.mp hx with rfl | hx
    · exact .inl rfl
    · refine .inr ⟨List.mem_cons_of_mem _ hx, fun e => ?_⟩
      have := (List.nodup_cons.mp nd).1
      exact this (by have z := List.mem_map_of_mem (f := fun x : Addr × Ow => x.1) hx; rw [show x.1 = a from e] at z; exact z)
  | @there a w O y f h ih =>
    intro x hx
    have nd' := List.nodup_cons.mp nd
    rcases List.mem_cons.mp hx with rfl | hx
    · refine .inr ⟨List.mem_cons_self .., fun e => ?_⟩
      exact nd'.1 (by have z := List.mem_map_of_mem (f := fun x : Addr × Ow => x.1) h.mem; rw [← show x.1 = a from e] at z; exact z)
    · rcases ih nd'.2 x hx with e | ⟨m, n⟩
      · exact .inl e
      · exact .inr ⟨List.mem_cons_of_mem _ m, n⟩
section
variable {K : PySem.W.Frag}
theorem OkO.fre_ne {O : Ob} {H : Hp} (o : OkO K O H) {p : Addr} (hp : H p = none) : fre O p := fun x hx e => by
  obtain ⟨u, h⟩ := (o.all x hx).there
  rw [e, hp] at h
  cases h
theorem OkO.lo {O : Ob} {H : Hp} {a : Addr} {w : Ow} {f : Ow → Ob} (o : OkO K O H) (h : Lo O a w f) : OwH K (fre O) H a w := o.all _ h.mem
/-- a new object that isn't owned -/
theorem OkO.new {O : Ob} {H : Hp} {p : Addr} {u : HO} (o : OkO K O H) (hp : H p = none) : OkO K O (upd H p u) ∧ Fr O H O (upd H p u) ∧ fre O p := by
  have k : ∀ b v, H b = some v → upd H p u b = some v := fun b v e => by rw [upd_ne (ne_of_none e hp)]; exact e
  refine ⟨⟨o.nd, fun x hx => ?_⟩, ⟨fun b v _ e => k b v e, fun b v f _ => f, fun b e => ?_⟩, o.fre_ne hp⟩
  · obtain ⟨v, hv⟩ := (o.all x hx).there
    exact (o.all x hx).mono (fun b v _ e => k b v e) (fun b v f _ => f) ((k _ _ hv).trans hv.symm)
  · by_cases z : b = p
    · rw [z]; exact hp
    · rw [upd_ne z] at e; exact e
/-- a new object that is owned -/
theorem OkO.own {O : Ob} {H : Hp} {p : Addr} {u : HO} {w : Ow} (o : OkO K O H) (hp : H p = none) (hw : OwH K (fre ((p, w) :: O)) (upd H p u) p w) : OkO K ((p, w) :: O) (upd H p u) ∧ Fr O H ((p, w) :: O) (upd H p u) := by
  obtain ⟨o1, f1, n⟩ := o.new (u := u) hp
  have k : ∀ b v, H b = some v → upd H p u b = some v := fun b v e => by rw [upd_ne (ne_of_none e hp)]; exact e
  have fr : ∀ b v, fre O b → H b = some v → fre ((p, w) :: O) b := fun b v f e x hx => by
    rcases List.mem_cons.mp hx with rfl | hx
    · exact fun z => (ne_of_none e hp) z.symm
    · exact f x hx
  refine ⟨⟨List.nodup_cons.mpr ⟨fun m => ?_, o.nd⟩, fun x hx => ?_⟩, f1.keep, fr, f1.dom⟩
  · obtain ⟨x, hx, e⟩ := List.mem_map.mp m
    exact n x hx e
  · rcases List.mem_cons.mp hx with rfl | hx
    · exact hw
    · obtain ⟨v, hv⟩ := (o.all x hx).there
      exact (o.all x hx).mono (fun b v _ e => k b v e) fr ((k _ _ hv).trans hv.symm)
/-- an owned object is changed -/
theorem OkO.put {O : Ob} {H : Hp} {a : Addr} {w w' : Ow} {f : Ow → Ob} {u : HO} (o : OkO K O H) (h : Lo O a w f) (hw : OwH K (fre (f w')) (upd H a u) a w') : OkO K (f w') (upd H a u) ∧ Fr O H (f w') (upd H a u) := by
  have k : ∀ b v, fre O b → H b = some v → upd H a u b = some v := fun b v fb e => by
    rw [upd_ne fun z => fb _ h.mem z.symm]; exact e
  refine ⟨⟨h.fst ▸ o.nd, fun x hx => ?_⟩, k, fun b v fb _ => (h.fre b).mpr fb, fun b e => ?_⟩
  · rcases h.mem' o.nd x hx with rfl | ⟨m, n⟩
    · exact hw
    · exact (o.all x m).mono k (fun b v fb _ => (h.fre b).mpr fb) (upd_ne n)
  · by_cases z : b = a
    · rw [z, upd_same] at e; cases e
    · rw [upd_ne z] at e; exact e
/-! ## reading cells as data -/
mutual
inductive Rdc (O : Ob) : Cl → PyData → Prop
  | dat (d : PyData) : Rdc O (.dat d) d
  | at {a : Addr} {cs : List Cl} {ds : List PyData} (m : (a, Ow.lst cs) ∈ O) (r : Rdcs O cs ds) : Rdc O (.at a) (.list ds)
  | dct {a : Addr} {es : List (Key × Cl)} {ks : List (PyData × PyData)} (m : (a, Ow.dct es) ∈ O) (k : es.map (fun e => kD e.1) = ks.map (·.1)) (r : Rdcs O (es.map (·.2)) (ks.map (·.2))) : Rdc O (.at a) (.dict ks)
  | lis {cs : List Cl} {ds : List PyData} (r : Rdcs O cs ds) : Rdc O (.lis cs) (.list ds)
  | tup {cs : List Cl} {ds : List PyData} (r : Rdcs O cs ds) : Rdc O (.tup cs) (.tuple ds)
  | con (d : PyData) : Rdc O (.con d) d
inductive Rdcs (O : Ob) : List Cl → List PyData → Prop
  | nil : Rdcs O [] []
  | cons {c : Cl} {cs : List Cl} {d : PyData} {ds : List PyData} (h : Rdc O c d) (r : Rdcs O cs ds) : Rdcs O (c :: cs) (d :: ds)
end
theorem Rdcs.dats {O : Ob} : ∀ ds : List PyData, Rdcs O (ds.map .dat) ds
  | [] => .nil
  | d :: ds => .cons (.dat d) (Rdcs.dats ds)
mutual
theorem Rdc.dp {O : Ob} {H : Hp} (o : OkO K O H) : ∀ {c : Cl} {d : PyData} {v : V} {ok : Addr → Prop}, Rdc O c d → ClH K ok H v c → d.hasDict = false → Dp K H v d
  | _, _, _, _, .dat d, .dat h, e => dq_dp h e
  | _, _, _, _, .at m r, h, e => by
    cases h
    obtain ⟨xs, h, q⟩ := o.all _ m
    exact .lst (SqL.of h) (Rdcs.dp o r q (by simpa [PyData.hasDict] using e))
  | _, _, _, _, .dct m k r, h, e => by simp [PyData.hasDict] at e
  | _, _, _, _, .lis r, .lis o' h q, e => .lst (SqL.of h) (Rdcs.dp o r q (by simpa [PyData.hasDict] using e))
  | _, _, _, _, .tup r, .tup o' h q, e => .tup (SqT.of h) (Rdcs.dp o r q (by simpa [PyData.hasDict] using e))
  | _, _, _, _, .con d, .con h, e => h.dp
theorem Rdcs.dp {O : Ob} {H : Hp} (o : OkO K O H) : ∀ {cs : List Cl} {ds : List PyData} {vs : List V} {ok : Addr → Prop}, Rdcs O cs ds → ClsH K ok H vs cs → PyData.hasDictAll ds = false → DpAll K H vs ds
  | _, _, _, _, .nil, .nil, _ => .nil
  | _, _, _, _, .cons h r, .cons h' r', e => by
    have e' := Bool.or_eq_false_iff.mp (show (PyData.hasDict _ || PyData.hasDictAll _) = false by simpa [PyData.hasDictAll] using e)
    exact .cons (Rdc.dp o h h' e'.1) (Rdcs.dp o r r' e'.2)
end
/-! ## operators -/
def aI0 (g : Int → Int → PyData) : AR2 := fun O c c' Kc => ∃ i j, c = .dat (.int i) ∧ c' = .dat (.int j) ∧ Kc O (.dat (g i j))
def aI (C : Int → Int → Prop) (g : Int → Int → PyData) : AR2 := fun O c c' Kc => ∃ i j, c = .dat (.int i) ∧ c' = .dat (.int j) ∧ C i j ∧ Kc O (.dat (g i j))
def aU (g : Int → PyData) : AR1 := fun O c Kc => ∃ i, c = .dat (.int i) ∧ Kc O (.dat (g i))
theorem sr_I0 {gv : Int → Int → V} {g : Int → Int → PyData} (h : ∀ i j ok H, Dq ok H (gv i j) (g i j)) : SR2 K (rI0 gv) (aI0 g) := fun O H Q Kc c c' v v' o r r' ⟨i, j, e, e', k⟩ q => by
  subst e e'
  exact ⟨i, j, dq_int r, dq_int r', q O _ _ H (Fr.refl _ _) o (.dat (h _ _ _ _)) k⟩
theorem sr_I {C : Int → Int → Prop} {gv : Int → Int → V} {g : Int → Int → PyData} (h : ∀ i j ok H, Dq ok H (gv i j) (g i j)) : SR2 K (rI C gv) (aI C g) := fun O H Q Kc c c' v v' o r r' ⟨i, j, e, e', z, k⟩ q => by
  subst e e'
  exact ⟨i, j, dq_int r, dq_int r', z, q O _ _ H (Fr.refl _ _) o (.dat (h _ _ _ _)) k⟩
theorem sr_U {gv : Int → V} {g : Int → PyData} (h : ∀ i ok H, Dq ok H (gv i) (g i)) : SR1 K (rU gv) (aU g) := fun O H Q Kc c v o r ⟨i, e, k⟩ q => by
  subst e
  exact ⟨i, dq_int r, q O _ _ H (Fr.refl _ _) o (.dat (h _ _ _)) k⟩
theorem sr_add : SR2 K (rI0 fun i j => .int (i + j)) (aI0 fun i j => .int (i + j)) := sr_I0 fun _ _ _ _ => .int _
theorem sr_sub : SR2 K (rI0 fun i j => .int (i - j)) (aI0 fun i j => .int (i - j)) := sr_I0 fun _ _ _ _ => .int _
theorem sr_mul : SR2 K (rI CMulW fun i j => .int (i * j)) (aI CMulW fun i j => .int (i * j)) := sr_I fun _ _ _ _ => .int _
theorem sr_mod : SR2 K (rI (fun _ j => 0 < j) fun i j => .int (i % j)) (aI (fun _ j => 0 < j) fun i j => .int (i % j)) := sr_I fun _ _ _ _ => .int _
theorem sr_pow : SR2 K (rI CPow fun i j => .int (i ^ j.toNat)) (aI CPow fun i j => .int (i ^ j.toNat)) := sr_I fun _ _ _ _ => .int _
theorem sr_neg : SR1 K (rU fun i => .int (-i)) (aU fun i => .int (-i)) := sr_U fun _ _ _ => .int _
theorem sr_lt : SR2 K (rI0 fun i j => .bl (decide (i < j))) (aI0 fun i j => .bool (decide (i < j))) := sr_I0 fun _ _ _ _ => .bl _
theorem sr_le : SR2 K (rI0 fun i j => .bl (decide (i ≤ j))) (aI0 fun i j => .bool (decide (i ≤ j))) := sr_I0 fun _ _ _ _ => .bl _
theorem sr_gt : SR2 K (rI0 fun i j => .bl (decide (j < i))) (aI0 fun i j => .bool (decide (j < i))) := sr_I0 fun _ _ _ _ => .bl _
theorem sr_ge : SR2 K (rI0 fun i j => .bl (decide (j ≤ i))) (aI0 fun i j => .bool (decide (j ≤ i))) := sr_I0 fun _ _ _ _ => .bl _
/-- == and != of data -/
def aEqD : AR2 := fun O c c' Kc => ∃ d e, Rdc O c d ∧ Rdc O c' e ∧ d.hasDict = false ∧ e.hasDict = false ∧ SeqAt.shaped d = true ∧ SeqAt.shaped e = true ∧ Kc O (.dat (.bool (PyData.eqv d e)))
def aNeD : AR2 := fun O c c' Kc => ∃ d e, Rdc O c d ∧ Rdc O c' e ∧ d.hasDict = false ∧ e.hasDict = false ∧ SeqAt.shaped d = true ∧ SeqAt.shaped e = true ∧ Kc O (.dat (.bool (!PyData.eqv d e)))
theorem sr_eq : SR2 K (rEqD K) aEqD := fun O H Q Kc c c' v v' o r r' ⟨d, e, h1, h2, n1, n2, s1, s2, k⟩ q =>
  ⟨d, e, h1.dp o r n1, h2.dp o r' n2, s1, s2, q O _ _ H (Fr.refl _ _) o (.dat (.bl _)) k⟩
theorem sr_ne : SR2 K (rNeD K) aNeD := fun O H Q Kc c c' v v' o r r' ⟨d, e, h1, h2, n1, n2, s1, s2, k⟩ q =>
  ⟨d, e, h1.dp o r n1, h2.dp o r' n2, s1, s2, q O _ _ H (Fr.refl _ _) o (.dat (.bl _)) k⟩
/-- is None; is True -/
def isNC (c : Cl) (b : Bool) : Prop := (c = .dat .none ∧ b = true) ∨ ((∃ d, c = .dat d ∧ d ≠ .none) ∨ (∃ a, c = .at a) ∨ (∃ cs, c = .lis cs) ∨ ∃ cs, c = .tup cs) ∧ b = false
def aIsN : AR2 := fun O c c' Kc => c' = .dat .none ∧ ∃ b, isNC c b ∧ Kc O (.dat (.bool b))
def aNotN : AR2 := fun O c c' Kc => c' = .dat .none ∧ ∃ b, isNC c b ∧ Kc O (.dat (.bool (!b)))
theorem is_non {ok : Addr → Prop} {H : Hp} {v : V} {c : Cl} {b : Bool} (r : ClH K ok H v c) (h : isNC c b) : decide (v = .non) = b := by
  rcases h with ⟨rfl, rfl⟩ | ⟨⟨d, rfl, h⟩ | ⟨a, rfl⟩ | ⟨a, rfl⟩ | ⟨a, rfl⟩, rfl⟩
  · rw [dq_non r]; rfl
  · refine decide_eq_false fun e => ?_
    subst e
    cases r with
    | dat h2 => cases h2; exact h rfl
  · cases r; rfl
  · cases r; rfl
  · cases r; rfl
theorem sr_isN : SR2 K (fun x y H Q => y = .non ∧ Q (.bl (decide (x = .non))) H) aIsN := fun O H Q Kc c c' v v' o r r' ⟨e, b, h, k⟩ q => by
  subst e
  refine ⟨dq_non r', ?_⟩
  rw [is_non r h]
  exact q O _ _ H (Fr.refl _ _) o (.dat (.bl _)) k
theorem sr_notN : SR2 K (fun x y H Q => y = .non ∧ Q (.bl (!decide (x = .non))) H) aNotN := fun O H Q Kc c c' v v' o r r' ⟨e, b, h, k⟩ q => by
  subst e
  refine ⟨dq_non r', ?_⟩
  rw [is_non r h]
  exact q O _ _ H (Fr.refl _ _) o (.dat (.bl _)) k
def aIsB : AR2 := fun O c c' Kc => ∃ a b, c = .dat (.bool a) ∧ c' = .dat (.bool b) ∧ Kc O (.dat (.bool (decide (a = b))))
/-! ## displays -/
def allD : List Cl → Option (List PyData)
  | [] => some []
  | .dat d :: cs => (allD cs).map (d :: ·)
  | _ :: _ => none
def tupC (cs : List Cl) : Cl := match allD cs with
  | some ds => .dat (.tuple ds)
  | none => .tup cs
def lisC (cs : List Cl) : Cl := match allD cs with
  | some ds => .dat (.list ds)
  | none => .lis cs
theorem allD_eq : ∀ {cs : List Cl} {ds : List PyData}, allD cs = some ds → cs = ds.map .dat
  | [], ds, h => by cases h; rfl
  | .dat d :: cs, ds, h => by
    obtain ⟨es, e1, e2⟩ := Option.map_eq_some_iff.mp (show (allD cs).map (d :: ·) = some ds from h)
    rw [← e2, allD_eq e1]
    rfl
  | .at _ :: _, ds, h => by cases h
  | .raw _ :: _, ds, h => by cases h
  | .scr _ :: _, ds, h => by cases h
  | .lis _ :: _, ds, h => by cases h
  | .tup _ :: _, ds, h => by cases h
  | .exc _ _ _ _ :: _, ds, h => by cases h
  | .con _ :: _, ds, h => by cases h
theorem allD_dats : ∀ ds : List PyData, allD (ds.map .dat) = some ds
  | [] => rfl
  | d :: ds => by
    show (allD (ds.map .dat)).map (d :: ·) = _
    rw [allD_dats ds]
    rfl
theorem lisC_dats (ds : List PyData) : lisC (ds.map .dat) = .dat (.list ds) := by
  unfold lisC
  rw [allD_dats]
theorem tupC_dats (ds : List PyData) : tupC (ds.map .dat) = .dat (.tuple ds) := by
  unfold tupC
  rw [allD_dats]
theorem cl_tup {ok : Addr → Prop} {H : Hp} {p : Addr} {xs : List V} {cs : List Cl} (o : ok p) (h : H p = some (.tup xs)) (r : ClsH K ok H xs cs) : ClH K ok H (.ref p) (tupC cs) := by
  unfold tupC
  split
  · rename_i ds e
    have e' := allD_eq e
    subst e'
    exact .dat (.tup o h r.undat)
  · exact .tup o h r
theorem cl_lis {ok : Addr → Prop} {H : Hp} {p : Addr} {xs : List V} {cs : List Cl} (o : ok p) (h : H p = some (.lst xs)) (r : ClsH K ok H xs cs) : ClH K ok H (.ref p) (lisC cs) := by
  unfold lisC
  split
  · rename_i ds e
    have e' := allD_eq e
    subst e'
    exact .dat (.lst o h r.undat)
  · exact .lis o h r
def aNil : AA := fun O _ _ Kc => Kc O []
def aCons (a : AE) (b : AA) : AA := fun O ρ XX Kc => a O ρ XX fun O1 c => b O1 ρ XX fun O2 cs => Kc O2 (c :: cs)
def aTup (a : AA) : AE := fun O ρ XX Kc => a O ρ XX fun O1 cs => cs.length ≤ 1000 ∧ Kc O1 (tupC cs)
def aLst (a : AA) : AE := fun O ρ XX Kc => a O ρ XX fun O1 cs => cs.length ≤ 1000 ∧ Kc O1 (lisC cs)
def aLstO (a : AA) : AE := fun O ρ XX Kc => a O ρ XX fun O1 cs => cs.length ≤ 1000 ∧ ∀ p, Kc ((p, .lst cs) :: O1) (.at p)
variable {W : WX}
theorem sa_nil : SaA K W tNil aNil := fun O ρ σ H Q Kc XX S k q x => q O [] [] H (Fr.refl _ _) S.o .nil k
theorem sa_cons {t : TE} {u : TA} {a : AE} {b : AA} (ha : SaE K W t a) (hb : SaA K W u b) : SaA K W (tCons t u) (aCons a b) := fun O ρ σ H Q Kc XX S k q x =>
  ha O ρ σ H _ _ XX S k (fun O1 c v H1 f1 o1 r1 k1 => hb O1 ρ σ H1 _ _ XX (S.go f1 o1) k1 (fun O2 cs vs H2 f2 o2 r2 k2 => q O2 _ _ H2 (f1.trans f2) o2 (.cons (r1.fr f2) r2) k2) (x.go f1)) x
theorem le_line {n : Nat} (h : n ≤ 1000) : n ≤ sizeLine := Nat.le_trans h (by decide)
theorem sa_tup {t : TA} {a : AA} (ha : SaA K W t a) : SaE K W (tTup t) (aTup a) := fun O ρ σ H Q Kc XX S k q x =>
  ha O ρ σ H _ _ XX S k (fun O1 cs vs H1 f1 o1 r1 ⟨z, k1⟩ => ⟨le_line (r1.len ▸ z), fun p hp => by
    obtain ⟨o2, f2, n⟩ := o1.new (u := .tup vs) hp
    exact q O1 _ _ _ (f1.trans f2) o2 (cl_tup n upd_same (r1.fr f2)) k1⟩) x
theorem sa_lst {t : TA} {a : AA} (ha : SaA K W t a) : SaE K W (tLst t) (aLst a) := fun O ρ σ H Q Kc XX S k q x =>
  ha O ρ σ H _ _ XX S k (fun O1 cs vs H1 f1 o1 r1 ⟨z, k1⟩ => ⟨le_line (r1.len ▸ z), fun p hp => by
    obtain ⟨o2, f2, n⟩ := o1.new (u := .lst vs) hp
    exact q O1 _ _ _ (f1.trans f2) o2 (cl_lis n upd_same (r1.fr f2)) k1⟩) x
/-- a new list that is owned -/
theorem own_lst {O : Ob} {H : Hp} {p : Addr} {vs : List V} {cs : List Cl} (o : OkO K O H) (r : ClsH K (fre O) H vs cs) (hp : H p = none) : OkO K ((p, .lst cs) :: O) (upd H p (.lst vs)) ∧ Fr O H ((p, .lst cs) :: O) (upd H p (.lst vs)) := by
  refine o.own hp ⟨vs, upd_same, r.mono (fun b v _ e => ?_) fun b v f e x hx => ?_⟩
  · rw [upd_ne (ne_of_none e hp)]; exact e
  · rcases List.mem_cons.mp hx with rfl | hx
    · exact fun z => (ne_of_none e hp) z.symm
    · exact f x hx
theorem sa_lstO {t : TA} {a : AA} (ha : SaA K W t a) : SaE K W (tLst t) (aLstO a) := fun O ρ σ H Q Kc XX S k q x =>
  ha O ρ σ H _ _ XX S k (fun O1 cs vs H1 f1 o1 r1 ⟨z, k1⟩ => ⟨le_line (r1.len ▸ z), fun p hp => by
    obtain ⟨o2, f2⟩ := own_lst o1 r1 hp
    exact q _ _ _ _ (f1.trans f2) o2 (.at p) (k1 p)⟩) x
end
section
variable {X : Cx} {W : WX}
theorem da_nil : DA X W [] aNil := ⟨_, pa_nil, sa_nil⟩
theorem da_cons {e : Expr} {es : List Expr} {a : AE} {b : AA} (ha : DE X W e a) (hb : DA X W es b) (hs : starEach (e :: es) X.env = (false, eval e X.env) :: starEach es X.env := by rfl) : DA X W (e :: es) (aCons a b) := by
  obtain ⟨t, p, s⟩ := ha.ex
  obtain ⟨u, p2, s2⟩ := hb.ex
  exact ⟨_, pa_cons p p2 hs, sa_cons s s2⟩
theorem de_tup {es : List Expr} {a : AA} {pos : Pos} {k : Nat} (h : DA X W es a) : DE X W (.Tuple es k pos) (aTup a) := by
  obtain ⟨t, p, s⟩ := h.ex
  exact ⟨_, pe_tup p, sa_tup s⟩
theorem de_lst {es : List Expr} {a : AA} {pos : Pos} (h : DA X W es a) : DE X W (.List es pos) (aLst a) := by
  obtain ⟨t, p, s⟩ := h.ex
  exact ⟨_, pe_lst p, sa_lst s⟩
theorem de_lstO {es : List Expr} {a : AA} {pos : Pos} (h : DA X W es a) : DE X W (.List es pos) (aLstO a) := by
  obtain ⟨t, p, s⟩ := h.ex
  exact ⟨_, pe_lst p, sa_lstO s⟩
end
end Ab
namespace Ab
open PySem PySem.Spec PyProof.Rows L2 Vg
section
variable {K : PySem.W.Frag} {W : WX}
/-! ## the parts of lists, tuples -/
inductive Els (O : Ob) : Cl → List Cl → Prop
  | dat (ds : List PyData) : Els O (.dat (.list ds)) (ds.map .dat)
  | own {a : Addr} {cs : List Cl} (m : (a, Ow.lst cs) ∈ O) : Els O (.at a) cs
  | lis (cs : List Cl) : Els O (.lis cs) cs
inductive ElsT : Cl → List Cl → Prop
  | dat (ds : List PyData) : ElsT (.dat (.tuple ds)) (ds.map .dat)
  | tup (cs : List Cl) : ElsT (.tup cs) cs
  | con (ds : List PyData) : ElsT (.con (.tuple ds)) (ds.map conC)
theorem Els.get {O : Ob} {H : Hp} {c : Cl} {cs : List Cl} {v : V} (h : Els O c cs) (o : OkO K O H) (r : ClH K (fre O) H v c) : ∃ a xs, v = .ref a ∧ H a = some (.lst xs) ∧ ClsH K (fre O) H xs cs := by
  cases h with
  | dat ds =>
    cases r with
    | dat h => cases h with | lst o' h r => exact ⟨_, _, rfl, h, .dats r⟩
  | own m =>
    cases r
    obtain ⟨xs, h, r⟩ := o.all _ m
    exact ⟨_, xs, rfl, h, r⟩
  | lis cs => cases r with | lis o' h r => exact ⟨_, _, rfl, h, r⟩
theorem ElsT.get {ok : Addr → Prop} {H : Hp} {c : Cl} {cs : List Cl} {v : V} (h : ElsT c cs) (r : ClH K ok H v c) : ∃ a xs, v = .ref a ∧ SqT K H a xs ∧ ClsH K ok H xs cs := by
  cases h with
  | dat ds =>
    cases r with
    | dat h => cases h with | tup o' h r => exact ⟨_, _, rfl, SqT.of h, .dats r⟩
  | tup cs => cases r with | tup o' h r => exact ⟨_, _, rfl, SqT.of h, r⟩
  | con ds => cases r with | con h => cases h with | tup e c d z r q => exact ⟨_, _, rfl, .inr ⟨_, _, _, e, c, d, z, r⟩, q.cl⟩
theorem ClsH.atI {ok : Addr → Prop} {H : Hp} {xs : List V} {cs : List Cl} {i : Int} {c : Cl} (r : ClsH K ok H xs cs) (h : L2.atI cs i = some c) : ∃ v, L2.atI xs i = some v ∧ ClH K ok H v c := by
  have hl := r.len
  unfold L2.atI at h ⊢
  rw [hl]
  cases e : ixN cs.length i with
  | none => rw [e] at h; cases h
  | some j =>
    rw [e] at h
    exact r.get h
/-- a[i] -/
def aIxL : AR2 := fun O c c' Kc => ∃ cs i e, c' = .dat (.int i) ∧ Els O c cs ∧ atI cs i = some e ∧ Kc O e
def aIxT : AR2 := fun O c c' Kc => ∃ cs i e, c' = .dat (.int i) ∧ ElsT c cs ∧ atI cs i = some e ∧ Kc O e
theorem sr_ixL : SR2 K (rIxL K) aIxL := fun O H Q Kc c c' v v' o r r' ⟨cs, i, e, e1, h, a, k⟩ q => by
  subst e1
  obtain ⟨p, xs, rfl, hp, rs⟩ := h.get o r
  obtain ⟨u, hu, ru⟩ := rs.atI a
  exact ⟨p, xs, i, u, rfl, dq_int r', SqL.of hp, hu, q O _ _ H (Fr.refl _ _) o ru k⟩
theorem sr_ixT : SR2 K (rIxT K) aIxT := fun O H Q Kc c c' v v' o r r' ⟨cs, i, e, e1, h, a, k⟩ q => by
  subst e1
  obtain ⟨p, xs, rfl, hp, rs⟩ := h.get r
  obtain ⟨u, hu, ru⟩ := rs.atI a
  exact ⟨p, xs, i, u, rfl, dq_int r', hp, hu, q O _ _ H (Fr.refl _ _) o ru k⟩
/-- an item of the script is not read by this rule; lists joined -/
def aCat : AR2 := fun O c c' Kc => ∃ ds es, Els O c (ds.map .dat) ∧ Els O c' (es.map .dat) ∧ ds.length + es.length ≤ 1000000 ∧ Kc O (.dat (.list (ds ++ es)))
/-! ## slices -/
def cutD {α : Type} (xs : List α) (lo hi : Option Int) : List α := (xs.drop (HT.sIx xs.length 0 lo)).take (HT.sIx xs.length xs.length hi - HT.sIx xs.length 0 lo)
theorem cutD_map {α β : Type} (f : α → β) (xs : List α) (lo hi : Option Int) : cutD (xs.map f) lo hi = (cutD xs lo hi).map f := by
  unfold cutD
  rw [List.length_map, ← List.map_drop, ← List.map_take]
theorem ClsH.drop {ok : Addr → Prop} {H : Hp} : ∀ {xs : List V} {cs : List Cl} (n : Nat), ClsH K ok H xs cs → ClsH K ok H (xs.drop n) (cs.drop n)
  | _, _, 0, r => r
  | _, _, n + 1, .nil => .nil
  | _, _, n + 1, .cons _ r => ClsH.drop n r
theorem ClsH.take {ok : Addr → Prop} {H : Hp} : ∀ {xs : List V} {cs : List Cl} (n : Nat), ClsH K ok H xs cs → ClsH K ok H (xs.take n) (cs.take n)
  | _, _, 0, r => .nil
  | _, _, n + 1, .nil => .nil
  | _, _, n + 1, .cons h r => .cons h (ClsH.take n r)
theorem ClsH.cut {ok : Addr → Prop} {H : Hp} {xs : List V} {cs : List Cl} (r : ClsH K ok H xs cs) (lo hi : Option Int) : ClsH K ok H (cutV xs lo hi) (cutD cs lo hi) := by
  unfold cutV cutD
  rw [r.len]
  exact (r.drop _).take _
abbrev AO := Ob → Rho → XC → (Ob → Option Int → Prop) → Prop
def SaO (K : PySem.W.Frag) (W : WX) (t : TO) (a : AO) : Prop := ∀ O ρ σ H (Q : Option Int → Hp → Prop) Kc XX, Ss K O ρ σ H → a O ρ XX Kc → (∀ O' b H', Fr O H O' H' → OkO K O' H' → Kc O' b → Q b H') → XOk K O H XX W → t σ H Q
def aNoPart : AO := fun O _ _ Kc => Kc O none
def aPart (a : AE) : AO := fun O ρ XX Kc => a O ρ XX fun O1 c => ∃ i, c = .dat (.int i) ∧ Kc O1 (some i)
theorem sa_noPart : SaO K W tNoPart aNoPart := fun O ρ σ H Q Kc XX S k q x => q O none H (Fr.refl _ _) S.o k
theorem sa_part {t : TE} {a : AE} (h : SaE K W t a) : SaO K W (tPart t) (aPart a) := fun O ρ σ H Q Kc XX S k q x =>
  h O ρ σ H _ _ XX S k (fun O1 c v H1 f1 o1 r1 ⟨i, e, k1⟩ => by
    subst e
    exact ⟨i, dq_int r1, q O1 _ H1 f1 o1 k1⟩) x
abbrev AR3 := Ob → Cl → Option Int → Option Int → KC → Prop
def SR3 (K : PySem.W.Frag) (r : V → Option Int → Option Int → Hp → VK → Prop) (ar : AR3) : Prop := ∀ O H Q Kc c v lo hi, OkO K O H → ClH K (fre O) H v c → ar O c lo hi Kc → QOk K O H Kc Q → r v lo hi H Q
def aSl (ar : AR3) (a : AE) (b c : AO) : AE := fun O ρ XX Kc => a O ρ XX fun O1 x => b O1 ρ XX fun O2 l => c O2 ρ XX fun O3 h => ar O3 x l h Kc
theorem sa_sl {r : V → Option Int → Option Int → Hp → VK → Prop} {ar : AR3} {te : TE} {tl th : TO} {a : AE} {b c : AO} (hr : SR3 K r ar) (ha : SaE K W te a) (hb : SaO K W tl b) (hc : SaO K W th c) : SaE K W (tSl r te tl th) (aSl ar a b c) := fun O ρ σ H Q Kc XX S k q x =>
  ha O ρ σ H _ _ XX S k (fun O1 c v H1 f1 o1 r1 k1 => hb O1 ρ σ H1 _ _ XX (S.go f1 o1) k1 (fun O2 l H2 f2 o2 k2 => hc O2 ρ σ H2 _ _ XX (S.go (f1.trans f2) o2) k2 (fun O3 h H3 f3 o3 k3 =>
    hr O3 H3 _ _ _ _ _ _ o3 (r1.fr (f2.trans f3)) k3 (q.go (f1.trans (f2.trans f3)))) (x.go (f1.trans f2))) (x.go f1)) x
def aSlL : AR3 := fun O c lo hi Kc => ∃ ds, Els O c (ds.map .dat) ∧ Kc O (.dat (.list (cutD ds lo hi)))
def aSlLO : AR3 := fun O c lo hi Kc => ∃ cs, Els O c cs ∧ ∀ p, Kc ((p, .lst (cutD cs lo hi)) :: O) (.at p)
def aSlS : AR3 := fun O c lo hi Kc => ∃ z, c = .dat (.str z) ∧ z.length ≤ sizeLine ∧ Kc O (.dat (.str (cutS z lo hi)))
theorem sr_slL : SR3 K (rSlL K) aSlL := fun O H Q Kc c v lo hi o r ⟨ds, h, k⟩ q => by
  obtain ⟨a, xs, rfl, ha, rs⟩ := h.get o r
  refine ⟨a, xs, rfl, SqL.of ha, fun p hp => ?_⟩
  obtain ⟨o2, f2, n⟩ := o.new (u := .lst (cutV xs lo hi)) hp
  have e := cl_lis n upd_same ((rs.cut lo hi).fr f2)
  rw [cutD_map, lisC_dats] at e
  exact q O _ _ _ f2 o2 e k
theorem sr_slLO : SR3 K (rSlL K) aSlLO := fun O H Q Kc c v lo hi o r ⟨ds, h, k⟩ q => by
  obtain ⟨a, xs, rfl, ha, rs⟩ := h.get o r
  refine ⟨a, xs, rfl, SqL.of ha, fun p hp => ?_⟩
  obtain ⟨o2, f2⟩ := own_lst o (rs.cut lo hi) hp
  exact q _ _ _ _ f2 o2 (.at p) (k p)
/-! ## built-in calls -/
abbrev AF := Ob → List Cl → (Ob → Str → Cl → Prop) → KC → Prop
abbrev AB := Ob → List Cl → KC → Prop
def SRB (K : PySem.W.Frag) (r : List V → Hp → VK → Prop) (ar : AB) : Prop := ∀ O H Q Kc cs vs, OkO K O H → ClsH K (fre O) H vs cs → ar O cs Kc → QOk K O H Kc Q → r vs H Q
def aCB (ar : AB) (a : AA) : AE := fun O ρ XX Kc => a O ρ XX fun O1 cs => ar O1 cs Kc
theorem sa_cb {r : List V → Hp → VK → Prop} {ar : AB} {t : TA} {a : AA} (hr : SRB K r ar) (ha : SaA K W t a) : SaE K W (tCB r t) (aCB ar a) := fun O ρ σ H Q Kc XX S k q x =>
  ha O ρ σ H _ _ XX S k (fun O1 cs vs H1 f1 o1 r1 k1 => hr O1 H1 _ _ _ _ o1 r1 k1 (q.go f1)) x
theorem cls1 {ok : Addr → Prop} {H : Hp} {vs : List V} {c : Cl} (h : ClsH K ok H vs [c]) : ∃ v, vs = [v] ∧ ClH K ok H v c := by
  cases h with | cons a b => cases b; exact ⟨_, rfl, a⟩
theorem cls2 {ok : Addr → Prop} {H : Hp} {vs : List V} {c d : Cl} (h : ClsH K ok H vs [c, d]) : ∃ v w, vs = [v, w] ∧ ClH K ok H v c ∧ ClH K ok H w d := by
  cases h with | cons a b => cases b with | cons b' e => cases e; exact ⟨_, _, rfl, a, b'⟩
/-- len -/
def bLen : AB := fun O cs Kc => ∃ c n, cs = [c] ∧ ((∃ ds, (Els O c ds ∨ ElsT c ds) ∧ ds.length = n) ∨ ∃ ns : List Int, c = .scr ns ∧ ns.length = n) ∧ Kc O (.dat (.int n))
def bLenS : AB := fun O cs Kc => ∃ z, cs = [.dat (.str z)] ∧ z.length ≤ sizeLine ∧ Kc O (.dat (.int z.length))
theorem sb_len : SRB K (fun xs H Q => ∃ p ys, xs = [.ref p] ∧ (SqL K H p ys ∨ SqT K H p ys) ∧ Q (.int ys.length) H) bLen := fun O H Q Kc cs vs o r ⟨c, n, e, h, k⟩ q => by
  subst e
  obtain ⟨v, rfl, rv⟩ := cls1 r
  rcases h with ⟨ds, h | h, z⟩ | ⟨ns, rfl, z⟩
  · obtain ⟨a, xs, rfl, ha, rs⟩ := h.get o rv
    refine ⟨a, xs, rfl, .inl (SqL.of ha), ?_⟩
    rw [rs.len, z]
    exact q O _ _ H (Fr.refl _ _) o (.dat (.int _)) k
  · obtain ⟨a, xs, rfl, ha, rs⟩ := h.get rv
    refine ⟨a, xs, rfl, .inr ha, ?_⟩
    rw [rs.len, z]
    exact q O _ _ H (Fr.refl _ _) o (.dat (.int _)) k
  · cases rv with
    | scr h _ =>
      refine ⟨_, _, rfl, .inl h, ?_⟩
      rw [List.length_map, z]
      exact q O _ _ H (Fr.refl _ _) o (.dat (.int _)) k
def bI1 (g : Int → Int) : AB := fun O cs Kc => ∃ i, cs = [.dat (.int i)] ∧ Kc O (.dat (.int (g i)))
def bI2 (g : Int → Int → Int) : AB := fun O cs Kc => ∃ i j, cs = [.dat (.int i), .dat (.int j)] ∧ Kc O (.dat (.int (g i j)))
theorem sb_i1 {g : Int → Int} : SRB K (fun xs H Q => ∃ i, xs = [.int i] ∧ Q (.int (g i)) H) (bI1 g) := fun O H Q Kc cs vs o r ⟨i, e, k⟩ q => by
  subst e
  obtain ⟨v, rfl, rv⟩ := cls1 r
  exact ⟨i, by rw [dq_int rv], q O _ _ H (Fr.refl _ _) o (.dat (.int _)) k⟩
theorem sb_i2 {g : Int → Int → Int} : SRB K (fun xs H Q => ∃ i j, xs = [.int i, .int j] ∧ Q (.int (g i j)) H) (bI2 g) := fun O H Q Kc cs vs o r ⟨i, j, e, k⟩ q => by
  subst e
  obtain ⟨v, w, rfl, rv, rw'⟩ := cls2 r
  exact ⟨i, j, by rw [dq_int rv, dq_int rw'], q O _ _ H (Fr.refl _ _) o (.dat (.int _)) k⟩
/-- str(i) -/
def bStr : AB := fun O cs Kc => ∃ i : Int, cs = [.dat (.int i)] ∧ i.natAbs.log2 < 1920 ∧ Kc O (.dat (.str (toString i)))
/-- the kind of a cell -/
def tnD : PyData → String
  | .none => "NoneType"
  | .bool _ => "bool"
  | .int _ => "int"
  | .str _ => "str"
  | .list _ => "list"
  | .tuple _ => "tuple"
  | .dict _ => "dict"
inductive Kn (O : Ob) : Cl → String → Prop
  | dat (d : PyData) : Kn O (.dat d) (tnD d)
  | own {a : Addr} {cs : List Cl} (m : (a, Ow.lst cs) ∈ O) : Kn O (.at a) "list"
  | dct {a : Addr} {es : List (Key × Cl)} (m : (a, Ow.dct es) ∈ O) : Kn O (.at a) "dict"
  | lis (cs : List Cl) : Kn O (.lis cs) "list"
  | tup (cs : List Cl) : Kn O (.tup cs) "tuple"
  | con (ds : List PyData) : Kn O (.con (.tuple ds)) "tuple"
theorem dq_tn {ok : Addr → Prop} {H : Hp} {v : V} {d : PyData} (h : Dq ok H v d) : Tn K H v (tnD d) := by
  cases h with
  | non => exact .non
  | bl b => exact .bl b
  | int i => exact .int i
  | str x => exact .str x
  | lst o h r => exact .lst h
  | tup o h r => exact .tup h
  | dct o h k r => exact .dct h
theorem Kn.tn {O : Ob} {H : Hp} {c : Cl} {n : String} {v : V} (h : Kn O c n) (o : OkO K O H) (r : ClH K (fre O) H v c) : Tn K H v n := by
  cases h with
  | dat d => cases r with | dat h => exact dq_tn h
  | own m => cases r; obtain ⟨xs, h, _⟩ := o.all _ m; exact .lst h
  | dct m => cases r; obtain ⟨xs, h, _⟩ := o.all _ m; exact .dct h
  | lis cs => cases r with | lis o' h r => exact .lst h
  | tup cs => cases r with | tup o' h r => exact .tup h
  | con ds => cases r with | con h => cases h with | tup e c d z r q => exact .con e c
def bIsi : AB := fun O cs Kc => ∃ c n cl b, cs = [c, .raw (.ty cl)] ∧ Kn O c n ∧ kitB n cl = some b ∧ Kc O (.dat (.bool b))
theorem sb_isi : SRB K (fun xs H Q => ∃ x n c b, xs = [x, .ty c] ∧ Tn K H x n ∧ kitB n c = some b ∧ Q (.bl b) H) bIsi := fun O H Q Kc cs vs o r ⟨c, n, cl, b, e, hn, hk, k⟩ q => by
  subst e
  obtain ⟨v, w, rfl, rv, rw'⟩ := cls2 r
  exact ⟨v, n, cl, b, by rw [dq_raw rw'], hn.tn o rv, hk, q O _ _ H (Fr.refl _ _) o (.dat (.bl _)) k⟩
/-- isinstance(x, (T, U)) -/
def bIsi2 : AB := fun O cs Kc => ∃ c n c1 c2 b1 b2, cs = [c, .tup [.raw (.ty c1), .raw (.ty c2)]] ∧ Kn O c n ∧ kitB n c1 = some b1 ∧ kitB n c2 = some b2 ∧ Kc O (.dat (.bool (b1 || b2)))
theorem sb_isi2 : SRB K (rIsiT K) bIsi2 := fun O H Q Kc cs vs o r ⟨c, n, c1, c2, b1, b2, e, hn, h1, h2, k⟩ q => by
  subst e
  obtain ⟨v, w, rfl, rv, rw'⟩ := cls2 r
  cases rw' with
  | tup oo hh rr =>
    obtain ⟨x, y, rfl, rx, ry⟩ := cls2 rr
    rw [dq_raw rx, dq_raw ry] at hh
    refine ⟨v, _, _, _, [.type c1, .type c2], _, rfl, hh, .cons (.ty c1) (.cons (.ty c2) .nil), (hn.tn o rv).tyx, ?_, q O _ _ H (Fr.refl _ _) o (.dat (.bl _)) k⟩
    refine kitAny_cons (kit_ty h1) (fun e => ?_) fun e => by rw [e]; rfl
    rw [e]
    refine kitAny_cons (kit_ty h2) (fun e => ?_) fun e => by rw [e]; rfl
    rw [e]
    rfl
/-- all(..) of a list of truths -/
def bAll : AB := fun O cs Kc => ∃ c bs, cs = [c] ∧ Els O c ((bs : List Bool).map fun b => .dat (.bool b)) ∧ Kc O (.dat (.bool (bs.all id)))
theorem cls_bools {ok : Addr → Prop} {H : Hp} : ∀ {xs : List V} {bs : List Bool}, ClsH K ok H xs (bs.map fun b => .dat (.bool b)) → xs = bs.map V.bl
  | _, [], .nil => rfl
  | _, b :: bs, .cons h r => by rw [dq_bool h, cls_bools r]; rfl
theorem sb_all : SRB K (rAll K) bAll := fun O H Q Kc cs vs o r ⟨c, bs, e, h, k⟩ q => by
  subst e
  obtain ⟨v, rfl, rv⟩ := cls1 r
  obtain ⟨a, xs, rfl, ha, rs⟩ := h.get o rv
  rw [cls_bools rs] at ha
  exact ⟨a, bs, rfl, SqL.of ha, q O _ _ H (Fr.refl _ _) o (.dat (.bl _)) k⟩
/-- a method of a list that is owned -/
def aApp (a : AE) (b : AA) : AE := fun O ρ XX Kc => a O ρ XX fun O1 c => ∃ p cs f, c = .at p ∧ Lo O1 p (.lst cs) f ∧ b O1 ρ XX fun O2 ds => ∃ d cs f, ds = [d] ∧ Lo O2 p (.lst cs) f ∧ cs.length ≤ 1000000 ∧ Kc (f (.lst (cs ++ [d]))) (.dat .none)
end
end Ab
namespace Ab
open PySem PySem.Spec PyProof.Rows L2 Vg
section
variable {K : PySem.W.Frag} {W : WX}
/-! ## statements -/
def aNext : AS := fun A _ O ρ => A.nx O ρ
def aSeq (t u : AS) : AS := fun A XX O ρ => t { A with nx := u A XX } XX O ρ
def aDrop (a : AE) : AS := fun A XX O ρ => a O ρ XX fun O1 _ => A.nx O1 ρ
def aRet (a : AE) : AS := fun A XX O ρ => a O ρ XX A.rt
def aRetN : AS := fun A _ O _ => A.rt O (.dat .none)
def aIfS (c : AT) (t u : AS) : AS := fun A XX O ρ => c O ρ XX fun O1 b => if b = true then t A XX O1 ρ else u A XX O1 ρ
abbrev AG := Cl → Ob → Rho → (Ob → Rho → Prop) → Prop
abbrev AGs := List Cl → Ob → Rho → (Ob → Rho → Prop) → Prop
def aAsg (a : AE) (g : AG) : AS := fun A XX O ρ => a O ρ XX fun O1 c => g c O1 ρ A.nx
def aName (i : Nat) : AG := fun c O ρ k => k O (ρ.set i (some c))
def aPar (i j : Nat) (a : AA) : AS := fun A XX O ρ => a O ρ XX fun O1 cs => ∃ c d, cs = [c, d] ∧ A.nx O1 ((ρ.set i (some c)).set j (some d))
theorem sas_next : SaS K W tNext aNext := fun O ρ σ H D A XX S k e x => e.nx O ρ σ H (Fr.refl _ _) S k
theorem sas_seq {t u : TS} {a b : AS} (ha : SaS K W t a) (hb : SaS K W u b) : SaS K W (tSeq t u) (aSeq a b) := fun O ρ σ H D A XX S k e x =>
  ha O ρ σ H _ _ XX S k ⟨fun O1 ρ1 σ1 H1 f1 S1 k1 => hb O1 ρ1 σ1 H1 D A XX S1 k1 (e.go f1) (x.go f1), e.rt, e.bk, e.ct⟩ x
theorem sas_drop {t : TE} {a : AE} (ha : SaE K W t a) : SaS K W (tDrop t) (aDrop a) := fun O ρ σ H D A XX S k e x =>
  ha O ρ σ H _ _ XX S k (fun O1 c v H1 f1 o1 r1 k1 => e.nx O1 ρ σ H1 f1 (S.go f1 o1) k1) x
theorem sas_ret {t : TE} {a : AE} (ha : SaE K W t a) : SaS K W (tRet t) (aRet a) := fun O ρ σ H D A XX S k e x => ha O ρ σ H _ _ XX S k e.rt x
theorem sas_if {c : TT} {t u : TS} {a : AT} {b d : AS} (hc : SaT K W c a) (ha : SaS K W t b) (hb : SaS K W u d) : SaS K W (tIfS c t u) (aIfS a b d) := fun O ρ σ H D A XX S k e x =>
  hc O ρ σ H _ _ XX S k (fun O1 z H1 f1 o1 k1 => by
    cases z with
    | true =>
      rw [if_pos rfl] at k1 ⊢
      exact ha O1 ρ σ H1 D A XX (S.go f1 o1) k1 (e.go f1) (x.go f1)
    | false =>
      rw [if_neg Bool.false_ne_true] at k1 ⊢
      exact hb O1 ρ σ H1 D A XX (S.go f1 o1) k1 (e.go f1) (x.go f1)) x
def SaG (K : PySem.W.Frag) (t : TG) (a : AG) : Prop := ∀ O ρ σ H c v k R, Ss K O ρ σ H → ClH K (fre O) H v c → a c O ρ k → NOk K O H k R → t v σ H R
def SaGs (K : PySem.W.Frag) (t : TGs) (a : AGs) : Prop := ∀ O ρ σ H cs vs k R, Ss K O ρ σ H → ClsH K (fre O) H vs cs → a cs O ρ k → NOk K O H k R → t vs σ H R
theorem sag_name {i : Nat} : SaG K (gName i) (aName i) := fun O ρ σ H c v k R S r h n => n O _ _ H (Fr.refl _ _) (S.set r) h
def aGNil : AGs := fun cs O ρ k => cs = [] ∧ k O ρ
def aGCons (a : AG) (b : AGs) : AGs := fun cs O ρ k => ∃ c r, cs = c :: r ∧ a c O ρ fun O1 ρ1 => b r O1 ρ1 k
theorem sag_nil : SaGs K gNil aGNil := fun O ρ σ H cs vs k R S r ⟨e, h⟩ n => by
  subst e
  cases r
  exact ⟨rfl, n O ρ σ H (Fr.refl _ _) S h⟩
theorem sag_cons {t : TG} {u : TGs} {a : AG} {b : AGs} (ha : SaG K t a) (hb : SaGs K u b) : SaGs K (gCons t u) (aGCons a b) := fun O ρ σ H cs vs k R S r ⟨c, cr, e, h⟩ n => by
  subst e
  cases r with
  | cons h1 r1 =>
    exact ⟨_, _, rfl, ha O ρ σ H c _ _ _ S h1 h fun O1 ρ1 σ1 H1 f1 S1 k1 => hb O1 ρ1 σ1 H1 _ _ _ _ S1 (r1.fr f1) k1 (n.go f1)⟩
def aGTup (m : Nat) (b : AGs) : AG := fun c O ρ k => ∃ cs, ElsT c cs ∧ cs.length = m ∧ b cs O ρ k
theorem sag_tup {m : Nat} {t : TGs} {b : AGs} (hb : SaGs K t b) : SaG K (gTup K m t) (aGTup m b) := fun O ρ σ H c v k R S r ⟨cs, h, hl, q⟩ n => by
  obtain ⟨a, xs, rfl, ha, rs⟩ := h.get r
  exact ⟨a, xs, rfl, ha, by rw [rs.len]; exact hl, hb O ρ σ H cs xs k R S rs q n⟩
theorem sas_asg {t : TE} {g : TG} {a : AE} {b : AG} (ha : SaE K W t a) (hb : SaG K g b) : SaS K W (tAsg t g) (aAsg a b) := fun O ρ σ H D A XX S k e x =>
  ha O ρ σ H _ _ XX S k (fun O1 c v H1 f1 o1 r1 k1 => hb O1 ρ σ H1 c v _ _ (S.go f1 o1) r1 k1 (e.nx.go f1)) x
/-! ## while -/
def aWhile (c : AT) (b : AS) : AS := fun A XX O ρ => ∃ Wi : Nat → Ob → Rho → Prop, (∃ m, Wi m O ρ) ∧ ∀ m O ρ, Wi m O ρ →
  c O ρ XX fun O1 z => if z = true then b { A with nx := fun O' ρ' => ∃ m', m' < m ∧ Wi m' O' ρ', ct := fun O' ρ' => ∃ m', m' < m ∧ Wi m' O' ρ', bk := A.nx } XX O1 ρ else A.nx O1 ρ
theorem sas_while {c : TT} {tb : TS} {a : AT} {b : AS} (hc : SaT K W c a) (hb : SaS K W tb b) : SaS K W (tWhile c tb) (aWhile a b) := fun O ρ σ H D A XX S ⟨Wi, ⟨m, w0⟩, turn⟩ e x => by
  refine ⟨fun m σ1 H1 => ∃ O1 ρ1, Fr O H O1 H1 ∧ Ss K O1 ρ1 σ1 H1 ∧ Wi m O1 ρ1, ⟨m, O, ρ, Fr.refl _ _, S, w0⟩, ?_⟩
  rintro m σ1 H1 ⟨O1, ρ1, f1, S1, w1⟩
  refine hc O1 ρ1 σ1 H1 _ _ XX S1 (turn m O1 ρ1 w1) (fun O2 z H2 f2 o2 k2 => ?_) (x.go f1)
  have f12 := f1.trans f2
  cases z with
  | true =>
    rw [if_pos rfl] at k2 ⊢
    refine ⟨fun σ' H' => ∃ m', m' < m ∧ ∃ O1 ρ1, Fr O H O1 H' ∧ Ss K O1 ρ1 σ' H' ∧ Wi m' O1 ρ1, fun σ' H' h => h, ?_⟩
    have n : NOk K O2 H2 (fun O' ρ' => ∃ m', m' < m ∧ Wi m' O' ρ') (fun σ' H' => ∃ m', m' < m ∧ ∃ O1 ρ1, Fr O H O1 H' ∧ Ss K O1 ρ1 σ' H' ∧ Wi m' O1 ρ1) := fun O3 ρ3 σ3 H3 f3 S3 ⟨m', hm, w3⟩ => ⟨m', hm, O3, ρ3, f12.trans f3, S3, w3⟩
    exact hb O2 ρ1 σ1 H2 _ _ XX (S1.go f2 o2) k2 ⟨n, e.rt.go f12, e.nx.go f12, n⟩ (x.go f12)
  | false =>
    rw [if_neg Bool.false_ne_true] at k2 ⊢
    exact e.nx O2 ρ1 σ1 H2 f12 (S1.go f2 o2) k2
/-! ## for -/
/-- how far a loop is: W by the turn -/
def aTurns (cs : List Cl) (St : Ob → Prop) (g : AG) (b : AS) : AS := fun A XX O ρ => ∃ Wi : Nat → Ob → Rho → Prop, Wi 0 O ρ ∧
  (∀ j O2 ρ2 e, cs[j]? = some e → Wi j O2 ρ2 → St O2 ∧ g e O2 ρ2 fun O3 ρ3 => b { A with nx := Wi (j + 1), ct := Wi (j + 1), bk := A.nx } XX O3 ρ3) ∧
  ∀ O2 ρ2, Wi cs.length O2 ρ2 → St O2 ∧ A.nx O2 ρ2
/-- a loop by an iterator that tells cells -/
structure ItOk (K : PySem.W.Frag) (O : Ob) (H : Hp) (J : It) (cs : List Cl) (St : Ob → Prop) : Prop where
  go : ∀ O' H' j e, Fr O H O' H' → OkO K O' H' → St O' → cs[j]? = some e → J.go j H'
  yld : ∀ O' H' H2 j e x, Fr O H O' H' → OkO K O' H' → St O' → cs[j]? = some e → J.yld j H' x H2 → OkO K O' H2 ∧ Fr O' H' O' H2 ∧ ClH K (fre O') H2 x e
  stop : ∀ O' H', Fr O H O' H' → OkO K O' H' → St O' → J.stop cs.length H'
theorem for_turns {O : Ob} {ρ : Rho} {σ : L2.St} {H : Hp} {D : Ends} {A : AEn} {XX : XC} {J : It} {cs : List Cl} {St : Ob → Prop} {g : TG} {ag : AG} {tb : TS} {b : AS} (hJ : ItOk K O H J cs St) (hg : SaG K g ag) (hb : SaS K W tb b)
    (S : Ss K O ρ σ H) (h : aTurns cs St ag b A XX O ρ) (e : EOk K O H A D) (x : XOk K O H XX W) :
    ∃ Wt : Nat → Nat → L2.St → Hp → Prop, (∃ m, Wt 0 m σ H) ∧ ∀ i m σ H, Wt i m σ H →
      (J.stop i H ∧ D.nx σ H) ∨ (J.go i H ∧ ∃ N : L2.St → Hp → Prop, (∀ σ' H', N σ' H' → ∃ m', m' < m ∧ Wt (i + 1) m' σ' H') ∧ ∀ x H', J.yld i H x H' → g x σ H' fun σ2 H2 => tb { D with nx := N, ct := N, bk := D.nx } σ2 H2) := by
  obtain ⟨Wi, w0, turn, last⟩ := h
  refine ⟨fun i m σ' H' => m = cs.length - i ∧ i ≤ cs.length ∧ ∃ O1 ρ1, Fr O H O1 H' ∧ Ss K O1 ρ1 σ' H' ∧ Wi i O1 ρ1, ⟨_, rfl, Nat.zero_le _, O, ρ, Fr.refl _ _, S, w0⟩, ?_⟩
  rintro i m σ1 H1 ⟨rfl, hi, O1, ρ1, f1, S1, w1⟩
  by_cases hl : i < cs.length
  · obtain ⟨c, hc⟩ : ∃ c, cs[i]? = some c := ⟨_, List.getElem?_eq_getElem hl⟩
    obtain ⟨st, k⟩ := turn i O1 ρ1 c hc w1
    refine .inr ⟨hJ.go O1 H1 i c f1 S1.o st hc, fun σ' H' => i + 1 ≤ cs.length ∧ ∃ O1 ρ1, Fr O H O1 H' ∧ Ss K O1 ρ1 σ' H' ∧ Wi (i + 1) O1 ρ1, fun σ' H' ⟨h1, h2⟩ => ⟨_, by omega, rfl, h1, h2⟩, fun v H2 hy => ?_⟩
    obtain ⟨o2, f2, r2⟩ := hJ.yld O1 H1 H2 i c v f1 S1.o st hc hy
    have f12 := f1.trans f2
    refine hg O1 ρ1 σ1 H2 c v _ _ (S1.go f2 o2) r2 k fun O3 ρ3 σ3 H3 f3 S3 k3 => ?_
    have f13 := f12.trans f3
    have n : NOk K O3 H3 (Wi (i + 1)) (fun σ' H' => i + 1 ≤ cs.length ∧ ∃ O1 ρ1, Fr O H O1 H' ∧ Ss K O1 ρ1 σ' H' ∧ Wi (i + 1) O1 ρ1) := fun O4 ρ4 σ4 H4 f4 S4 w4 => ⟨hl, O4, ρ4, f13.trans f4, S4, w4⟩
    exact hb O3 ρ3 σ3 H3 _ _ XX S3 k3 ⟨n, e.rt.go f13, e.nx.go f13, n⟩ (x.go f13)
  · have ei : i = cs.length := by omega
    subst ei
    obtain ⟨st, k⟩ := last O1 ρ1 w1
    exact .inl ⟨hJ.stop O1 H1 f1 S1.o st, e.nx O1 ρ1 σ1 H1 f1 S1 k⟩
/-- an iterator's reading -/
abbrev AIt := Ob → Rho → XC → (Ob → List Cl → (Ob → Prop) → Prop) → Prop
def SaI (K : PySem.W.Frag) (W : WX) (wi : TI) (a : AIt) : Prop := ∀ O ρ σ H (R : It → Hp → Prop) Kc XX, Ss K O ρ σ H → a O ρ XX Kc → (∀ O' H' J cs St, Fr O H O' H' → OkO K O' H' → ItOk K O' H' J cs St → Kc O' cs St → R J H') → XOk K O H XX W → wi σ H R
def aFor (it : AIt) (g : AG) (b : AS) : AS := fun A XX O ρ => it O ρ XX fun O1 cs St => aTurns cs St g b A XX O1 ρ
theorem sas_for {wi : TI} {g : TG} {tb : TS} {it : AIt} {ag : AG} {b : AS} (hi : SaI K W wi it) (hg : SaG K g ag) (hb : SaS K W tb b) : SaS K W (tFor wi g tb) (aFor it ag b) := fun O ρ σ H D A XX S k e x =>
  hi O ρ σ H _ _ XX S k (fun O1 H1 J cs St f1 o1 hJ k1 => for_turns hJ hg hb (S.go f1 o1) k1 (e.go f1) (x.go f1)) x
def aItL (a : AE) : AIt := fun O ρ XX Kc => a O ρ XX fun O1 c => ∃ cs, Els O1 c cs ∧ Kc O1 cs fun O2 => Els O2 c cs
def aItT (a : AE) : AIt := fun O ρ XX Kc => a O ρ XX fun O1 c => ∃ cs, ElsT c cs ∧ Kc O1 cs fun _ => True
theorem itok_list {O : Ob} {H : Hp} {a : Addr} {c : Cl} {cs : List Cl} (r : ClH K (fre O) H (.ref a) c) : ItOk K O H (Itl K a) cs (fun O2 => Els O2 c cs) := by
  have at_ : ∀ O' H', Fr O H O' H' → OkO K O' H' → Els O' c cs → ∃ xs, H' a = some (.lst xs) ∧ ClsH K (fre O') H' xs cs := fun O' H' f o st => by
    obtain ⟨b, xs, e, h, q⟩ := st.get o (r.fr f)
    cases e
    exact ⟨xs, h, q⟩
  refine ⟨fun O' H' j e f o st hj => ?_, fun O' H' H2 j e x f o st hj hy => ?_, fun O' H' f o st => ?_⟩
  · obtain ⟨xs, h, q⟩ := at_ O' H' f o st
    obtain ⟨v, hv, _⟩ := q.get hj
    exact ⟨xs, v, SqL.of h, hv⟩
  · obtain ⟨xs, h, q⟩ := at_ O' H' f o st
    obtain ⟨v, hv, rv⟩ := q.get hj
    obtain ⟨rfl, hx⟩ := hy
    have := hx xs (SqL.of h)
    rw [hv] at this
    cases this
    exact ⟨o, Fr.refl _ _, rv⟩
  · obtain ⟨xs, h, q⟩ := at_ O' H' f o st
    exact ⟨xs, SqL.of h, by rw [q.len]; exact Nat.le_refl _⟩
theorem itok_tup {O : Ob} {H : Hp} {a : Addr} {c : Cl} {cs : List Cl} (r : ClH K (fre O) H (.ref a) c) (hc : ElsT c cs) : ItOk K O H (Itt K a) cs (fun _ => True) := by
  have at_ : ∀ O' H', Fr O H O' H' → OkO K O' H' → ∃ xs, SqT K H' a xs ∧ ClsH K (fre O') H' xs cs := fun O' H' f o => by
    obtain ⟨b, xs, e, h, q⟩ := hc.get (r.fr f)
    cases e
    exact ⟨xs, h, q⟩
  refine ⟨fun O' H' j e f o st hj => ?_, fun O' H' H2 j e x f o st hj hy => ?_, fun O' H' f o st => ?_⟩
  · obtain ⟨xs, h, q⟩ := at_ O' H' f o
    obtain ⟨v, hv, _⟩ := q.get hj
    exact ⟨xs, v, h, hv⟩
  · obtain ⟨xs, h, q⟩ := at_ O' H' f o
    obtain ⟨v, hv, rv⟩ := q.get hj
    obtain ⟨rfl, hx⟩ := hy
    have := hx xs h
    rw [hv] at this
    cases this
    exact ⟨o, Fr.refl _ _, rv⟩
  · obtain ⟨xs, h, q⟩ := at_ O' H' f o
    exact ⟨xs, h, by rw [q.len]; exact Nat.le_refl _⟩
theorem sai_list {t : TE} {a : AE} (ha : SaE K W t a) : SaI K W (iList K t) (aItL a) := fun O ρ σ H R Kc XX S k q x =>
  ha O ρ σ H _ _ XX S k (fun O1 c v H1 f1 o1 r1 ⟨cs, h, k1⟩ => by
    obtain ⟨b, xs, rfl, hb, rs⟩ := h.get o1 r1
    exact ⟨b, rfl, ⟨xs, SqL.of hb⟩, q O1 H1 _ _ _ f1 o1 (itok_list r1) k1⟩) x
theorem sai_tup {t : TE} {a : AE} (ha : SaE K W t a) : SaI K W (iTup K t) (aItT a) := fun O ρ σ H R Kc XX S k q x =>
  ha O ρ σ H _ _ XX S k (fun O1 c v H1 f1 o1 r1 ⟨cs, h, k1⟩ => by
    obtain ⟨b, xs, rfl, hb, rs⟩ := h.get r1
    exact ⟨b, rfl, ⟨xs, hb⟩, q O1 H1 _ _ _ f1 o1 (itok_tup r1 h) k1⟩) x
/-- the numbers from lo on, n of them -/
def nums (lo : Int) (n : Nat) : List Cl := (List.range n).map fun j => .dat (.int (lo + (j : Nat)))
theorem nums_len (lo : Int) (n : Nat) : (nums lo n).length = n := by simp [nums]
theorem nums_get {lo : Int} {n j : Nat} {c : Cl} (h : (nums lo n)[j]? = some c) : j < n ∧ c = .dat (.int (lo + (j : Nat))) := by
  unfold nums at h
  by_cases hj : j < n
  · rw [List.getElem?_map, List.getElem?_eq_getElem (by simpa using hj), List.getElem_range] at h
    cases h
    exact ⟨hj, rfl⟩
  · rw [List.getElem?_map, List.getElem?_eq_none (by simpa using Nat.le_of_not_lt hj)] at h
    cases h
theorem itok_range {O : Ob} {H : Hp} {lo : Int} {n : Nat} : ItOk K O H (Itr lo n) (nums lo n) (fun _ => True) := by
  refine ⟨fun O' H' j e f o st hj => (nums_get hj).1, fun O' H' H2 j e x f o st hj hy => ?_, fun O' H' f o st => by rw [nums_len]; exact Nat.le_refl _⟩
  obtain ⟨rfl, rfl⟩ := hy
  rw [(nums_get hj).2]
  exact ⟨o, Fr.refl _ _, .dat (.int _)⟩
def aItR1 (a : AA) : AIt := fun O ρ XX Kc => a O ρ XX fun O1 cs => ∃ j : Int, cs = [.dat (.int j)] ∧ -1000000 ≤ j ∧ j ≤ 1000000 ∧ Kc O1 (nums 0 j.toNat) fun _ => True
theorem sai_r1 {t : TA} {a : AA} (ha : SaA K W t a) : SaI K W (iRng1 t) (aItR1 a) := fun O ρ σ H R Kc XX S k q x =>
  ha O ρ σ H _ _ XX S k (fun O1 cs vs H1 f1 o1 r1 ⟨j, e, h1, h2, k1⟩ => by
    subst e
    obtain ⟨v, rfl, rv⟩ := cls1 r1
    exact ⟨j, by rw [dq_int rv], by omega, by omega, q O1 H1 _ _ _ f1 o1 itok_range k1⟩) x
/-! ## comprehensions -/
def wipeR (ρ : Rho) : List Nat → Rho
  | [] => ρ
  | v :: vs => (wipeR ρ vs).set v none
theorem ss_wipe {O : Ob} {ρ : Rho} {σ : L2.St} {H : Hp} (S : Ss K O ρ σ H) : ∀ vs : List Nat, Ss K O (wipeR ρ vs) (wipe σ vs) H
  | [] => S
  | v :: vs => (ss_wipe S vs).drop
abbrev W0 : WX := fun _ _ _ _ => False
abbrev X0 : XC := fun _ _ _ _ => False
theorem x0 {O : Ob} {H : Hp} : XOk K O H X0 W0 := fun _ _ _ _ _ _ _ _ _ _ _ _ _ h => h
theorem OkO.app {O : Ob} {H : Hp} {D : Addr} {acc : List Cl} {f : Ow → Ob} {xs : List V} {u : V} {y : Cl} (o : OkO K O H) (lo : Lo O D (.lst acc) f) (hx : H D = some (.lst xs)) (rs : ClsH K (fre O) H xs acc) (r : ClH K (fre O) H u y) :
    OkO K (f (.lst (acc ++ [y]))) (upd H D (.lst (xs ++ [u]))) ∧ Fr O H (f (.lst (acc ++ [y]))) (upd H D (.lst (xs ++ [u]))) :=
  o.put (w' := .lst (acc ++ [y])) lo ⟨_, upd_same, (rs.app (.cons r .nil)).mono (fun b v fb e => by rw [upd_ne fun z => fb _ lo.mem z.symm]; exact e) fun b v fb _ => (lo.fre b).mpr fb⟩
/-- W by the turn, the new list among the owned ones -/
def aLc (own : Bool) (it : AIt) (i : Nat) (tt : AT) (te : AE) : AE := fun O ρ XX Kc => it O ρ XX fun O1 cs St => ∀ D, ∃ Wi : Nat → Ob → Prop, Wi 0 ((D, .lst []) :: O1) ∧
  (∀ j O2 e, cs[j]? = some e → Wi j O2 → St O2 ∧ tt O2 ((wipeR ρ [i]).set i (some e)) X0 fun O3 b =>
    if b = true then te O3 ((wipeR ρ [i]).set i (some e)) X0 fun O4 y => ∃ acc f, Lo O4 D (.lst acc) f ∧ acc.length < 1000000 ∧ Wi (j + 1) (f (.lst (acc ++ [y]))) else Wi (j + 1) O3) ∧
  ∀ O2, Wi cs.length O2 → St O2 ∧ ∃ acc R, O2 = (D, .lst acc) :: R ∧ if own = true then Kc O2 (.at D) else Kc R (lisC acc)
theorem fre_cons {O : Ob} {a : Addr} {w : Ow} {b : Addr} (h : fre ((a, w) :: O) b) : fre O b := fun x hx => h x (List.mem_cons_of_mem _ hx)
/-- a list in the making is set free -/
theorem OkO.unown {O : Ob} {H : Hp} {D : Addr} {w : Ow} (o : OkO K ((D, w) :: O) H) : OkO K O H := by
  refine ⟨(List.nodup_cons.mp o.nd).2, fun x hx => (o.all x (List.mem_cons_of_mem _ hx)).mono (fun _ _ _ e => e) (fun b v f _ => fre_cons f) rfl⟩
theorem sa_lc {own : Bool} {wi : TI} {i : Nat} {tt : TT} {te : TE} {it : AIt} {a : AT} {b : AE} (hi : SaI K W wi it) (ht : SaT K W0 tt a) (he : SaE K W0 te b) : SaE K W (tLc wi (gName i) tt te [i]) (aLc own it i a b) := fun O ρ σ H Q Kc XX S k q x =>
  hi O ρ σ H _ _ XX S k (fun O1 H1 J cs St f1 o1 hJ k1 => by
    intro D hD
    obtain ⟨Wi, w0, turn, last⟩ := k1 D
    obtain ⟨oD, fD⟩ := own_lst (vs := []) (cs := []) o1 .nil hD
    refine ⟨fun j m H' => m = cs.length - j ∧ j ≤ cs.length ∧ ∃ O2, Fr O1 H1 O2 H' ∧ OkO K O2 H' ∧ Wi j O2, ⟨_, rfl, Nat.zero_le _, _, fD, oD, w0⟩, ?_⟩
    rintro j m H2 ⟨rfl, hj, O2, f2, o2, w2⟩
    by_cases hl : j < cs.length
    · obtain ⟨c, hc⟩ : ∃ c, cs[j]? = some c := ⟨_, List.getElem?_eq_getElem hl⟩
      obtain ⟨st, k⟩ := turn j O2 c hc w2
      refine .inr ⟨hJ.go O2 H2 j c f2 o2 st hc, fun H' => j + 1 ≤ cs.length ∧ ∃ O2, Fr O1 H1 O2 H' ∧ OkO K O2 H' ∧ Wi (j + 1) O2, fun H' ⟨h1, h2⟩ => ⟨_, by omega, rfl, h1, h2⟩, fun v H3 hy => ?_⟩
      obtain ⟨o3, f3, r3⟩ := hJ.yld O2 H2 H3 j c v f2 o2 st hc hy
      have f03 := (f1.trans f2).trans f3
      have S3 : Ss K O2 ((wipeR ρ [i]).set i (some c)) ((wipe σ [i]).set i (some v)) H3 := (ss_wipe (S.go f03 o3) [i]).set r3
      refine ⟨by show ((σ.set i none).set i (some v)).set i none = σ.set i none; rw [List.set_set, List.set_set], ?_⟩
      refine ht O2 _ _ H3 _ _ X0 S3 k (fun O4 z H4 f4 o4 k4 => ?_) x0
      have f14 := (f2.trans f3).trans f4
      cases z with
      | true =>
        rw [if_pos rfl] at k4 ⊢
        refine he O4 _ _ H4 _ _ X0 (S3.go f4 o4) k4 (fun O5 y u H5 f5 o5 r5 ⟨acc, f, lo, hz, w5⟩ => ?_) x0
        obtain ⟨xs, hxs, rs⟩ := o5.lo lo
        refine ⟨xs, hxs, by rw [rs.len]; exact Nat.lt_of_lt_of_le hz (by decide), hl, _, ?_, ?_, w5⟩
        · exact (f14.trans f5).trans (o5.app lo hxs rs r5).2
        · exact (o5.app lo hxs rs r5).1
      | false =>
        rw [if_neg Bool.false_ne_true] at k4 ⊢
        exact ⟨hl, O4, f14, o4, k4⟩
    · have ej : j = cs.length := by omega
      subst ej
      obtain ⟨st, acc, R, rfl, k⟩ := last O2 w2
      refine .inl ⟨hJ.stop _ H2 f2 o2 st, ?_⟩
      cases own with
      | true => exact q _ _ _ H2 (f1.trans f2) o2 (.at D) (by simpa using k)
      | false =>
        have k' : Kc R (lisC acc) := by simpa using k
        obtain ⟨xs, hxs, rs⟩ := o2.all _ (List.mem_cons_self ..)
        have o3 := o2.unown
        have nD : fre R D := fun y hy e => (List.nodup_cons.mp o2.nd).1 (List.mem_map.mpr ⟨y, hy, e⟩)
        have fR : Fr O1 H1 R H2 := ⟨f2.keep, fun c v fc e => fre_cons (f2.free c v fc e), f2.dom⟩
        exact q R _ _ H2 (f1.trans fR) o3 (cl_lis nD hxs (rs.mono (fun _ _ _ e => e) fun c v fc _ => fre_cons fc)) k') x
end
end Ab
namespace Ab
open PySem PySem.Spec PyProof.Rows L2 Vg
structure DG (X : Cx) (e : Expr) (a : AG) : Prop where
  ex : ∃ t, PG X e t ∧ SaG X.K t a
structure DGs (X : Cx) (es : List Expr) (a : AGs) : Prop where
  ex : ∃ t, PGs X es t ∧ SaGs X.K t a
structure DI (X : Cx) (W : WX) (tg iter : Expr) (a : AIt) : Prop where
  ex : ∃ wi, PI X tg iter wi ∧ SaI X.K W wi a
structure DO (X : Cx) (W : WX) (e : Option Expr) (a : AO) : Prop where
  ex : ∃ t, PO X e t ∧ SaO X.K W t a
section
variable {X : Cx} {W : WX}
/-! ## small statements -/
theorem dss_nil : DSs X W [] aNext := ⟨_, pss_nil, sas_next⟩
theorem dss_cons {s : Stmt} {r : List Stmt} {a b : AS} (h : DS X W s a) (k : DSs X W r b) : DSs X W (s :: r) (aSeq a b) := by
  obtain ⟨t, p, s⟩ := h.ex
  obtain ⟨u, p2, s2⟩ := k.ex
  exact ⟨_, pss_cons p p2, sas_seq s s2⟩
theorem dss_one {s : Stmt} {a : AS} (h : DS X W s a) : DSs X W [s] a := by
  obtain ⟨t, p, s⟩ := h.ex
  exact ⟨_, pss_one p, s⟩
theorem ds_ret {e : Expr} {a : AE} {pos : Pos} (h : DE X W e a) : DS X W (.Return (some e) pos) (aRet a) := by
  obtain ⟨t, p, s⟩ := h.ex
  exact ⟨_, ps_ret p, sas_ret s⟩
theorem ds_expr {e : Expr} {a : AE} {pos : Pos} (h : DE X W e a) (hs : swapsWith e none pos.line X.env = pure false := by rfl) : DS X W (.Expr e pos) (aDrop a) := by
  obtain ⟨t, p, s⟩ := h.ex
  exact ⟨_, ps_expr p hs, sas_drop s⟩
theorem ds_if {c : Expr} {a b : List Stmt} {tc : AT} {ta tb : AS} {pos : Pos} (hc : DT X W c tc) (ha : DSs X W a ta) (hb : DSs X W b tb) : DS X W (.If c a b pos) (aIfS tc ta tb) := by
  obtain ⟨t, p, s⟩ := hc.ex
  obtain ⟨t1, p1, s1⟩ := ha.ex
  obtain ⟨t2, p2, s2⟩ := hb.ex
  exact ⟨_, ps_if p p1 p2, sas_if s s1 s2⟩
theorem ds_set {i : Nat} {x : Str} {e : Expr} {a : AE} {pos pos' : Pos} (hN : X.N.Nodup) (hi : X.N[i]? = some x) (hx : Loc X.env.scope x) (h : DE X W e a) (hs : swapsWith e (some (.Name x pos')) pos.line X.env = pure false := by rfl) (hf : X.fn x = true ∨ X.env.scope.names.lookup x = some .local := by first | exact .inl rfl | exact .inr rfl | assumption) :
    DS X W (.Assign [.Name x pos'] e pos) (aAsg a (aName i)) := by
  obtain ⟨t, p, s⟩ := h.ex
  exact ⟨_, ps_set hN hi hx p hs hf, sas_asg s sag_name⟩
theorem dg_name {i : Nat} {x : Str} {pos : Pos} (hN : X.N.Nodup) (hi : X.N[i]? = some x) (hx : Loc X.env.scope x) (hf : X.fn x = true ∨ X.env.scope.names.lookup x = some .local := by first | exact .inl rfl | exact .inr rfl | assumption) : DG X (.Name x pos) (aName i) := ⟨_, pg_name hN hi hx hf, sag_name⟩
theorem dgs_nil : DGs X [] aGNil := ⟨_, pgs_nil, sag_nil⟩
theorem dgs_cons {e : Expr} {es : List Expr} {a : AG} {b : AGs} (h : DG X e a) (k : DGs X es b) (hs : (assignEach (e :: es) X.env).map (·.2) = assign e X.env :: (assignEach es X.env).map (·.2) := by rfl) : DGs X (e :: es) (aGCons a b) := by
  obtain ⟨t, p, s⟩ := h.ex
  obtain ⟨u, p2, s2⟩ := k.ex
  exact ⟨_, pgs_cons p p2 hs, sag_cons s s2⟩
theorem dg_tup {es : List Expr} {k : Nat} {b : AGs} {n : Nat} {pos : Pos} (hc : X.calm = true) (h : DGs X es b) (hn : (assignEach es X.env).length = n := by rfl) (hst : (assignEach es X.env).findIdx? (·.1) = none := by rfl) : DG X (.Tuple es k pos) (aGTup n b) := by
  obtain ⟨t, p, s⟩ := h.ex
  exact ⟨_, pg_tup hc p hn hst, sag_tup s⟩
theorem ds_asg {tg e : Expr} {a : AE} {g : AG} {pos : Pos} (he : DE X W e a) (hg : DG X tg g) (hs : swapsWithSole [tg] e pos.line X.env = pure false := by rfl) (hw : swappedStores [tg] e X.env = pure none := by rfl)
    (h1 : (assignEach [tg] X.env).map (·.2) = [assign tg X.env] := by rfl) : DS X W (.Assign [tg] e pos) (aAsg a g) := by
  obtain ⟨t, p, s⟩ := he.ex
  obtain ⟨u, p2, s2⟩ := hg.ex
  exact ⟨_, ps_asg p p2 hs hw h1, sas_asg s s2⟩
theorem ds_while {c : Expr} {body : List Stmt} {tc : AT} {tb : AS} {pos : Pos} (hp : PassesOwn (model X.prog X.w) X.A X.env X.xe) (hc : DT X W c tc) (hb : DSs X W body tb) : DS X W (.While c body [] pos) (aWhile tc tb) := by
  obtain ⟨t, p, s⟩ := hc.ex
  obtain ⟨u, p2, s2⟩ := hb.ex
  exact ⟨_, ps_while hp p p2, sas_while s s2⟩
theorem ds_for {tg iter : Expr} {body : List Stmt} {it : AIt} {g : AG} {tb : AS} {pos : Pos} (hp : PassesOwn (model X.prog X.w) X.A X.env X.xe) (hc : X.calm = true) (hi : DI X W tg iter it) (hg : DG X tg g) (hb : DSs X W body tb)
    (hs : ∀ x, foldedSetIterable iter X.env x = pure x := by intro _; rfl) : DS X W (.For tg iter body [] pos) (aFor it g tb) := by
  obtain ⟨t, p, s⟩ := hi.ex
  obtain ⟨u, p2, s2⟩ := hg.ex
  obtain ⟨v, p3, s3⟩ := hb.ex
  exact ⟨_, ps_for hp hc p p2 p3 hs, sas_for s s2 s3⟩
theorem di_list {tg l : Expr} {a : AE} (h : DE X W l a) : DI X W tg l (aItL a) := by
  obtain ⟨t, p, s⟩ := h.ex
  exact ⟨_, pi_list p, sai_list s⟩
theorem di_tup {tg l : Expr} {a : AE} (h : DE X W l a) : DI X W tg l (aItT a) := by
  obtain ⟨t, p, s⟩ := h.ex
  exact ⟨_, pi_tup p, sai_tup s⟩
theorem di_r1 {tg a : Expr} {aa : AA} {p pos : Pos} (hg : Gl X "range") (hm : X.mg "range" = none) (ha : DA X W [a] aa) (hs : starEach [a] X.env = [(false, eval a X.env)] := by rfl) : DI X W tg (.Call (.Name "range" p) [a] [] pos) (aItR1 aa) := by
  obtain ⟨t, p, s⟩ := ha.ex
  exact ⟨_, pi_range1 hg hm p hs, sai_r1 s⟩
/-! ## subscripts -/
theorem de_ix {r : R2} {ar : AR2} {a b : Expr} {aa ab : AE} {pos : Pos} (hr : IxR X r) (hs : SR2 X.K r ar) (ha : DE X W a aa) (hb : DE X W b ab) (hp : PlainIx b) : DE X W (.Subscript a b pos) (aOp ar aa ab) := by
  obtain ⟨t, p, s⟩ := ha.ex
  obtain ⟨u, p2, s2⟩ := hb.ex
  exact ⟨_, pe_ix hr p p2 hp, sa_op hs s s2⟩
theorem do_none : DO X W none aNoPart := ⟨_, po_none, sa_noPart⟩
theorem do_some {e : Expr} {a : AE} (h : DE X W e a) : DO X W (some e) (aPart a) := by
  obtain ⟨t, p, s⟩ := h.ex
  exact ⟨_, po_some p, sa_part s⟩
theorem de_slice {r : V → Option Int → Option Int → Hp → VK → Prop} {ar : AR3} {e : Expr} {lo hi : Option Expr} {a : AE} {b c : AO} {p2 pos : Pos} (hr : SlR X r) (hs : SR3 X.K r ar) (he : DE X W e a) (hl : DO X W lo b) (hu : DO X W hi c) : DE X W (.Subscript e (.Slice lo hi none p2) pos) (aSl ar a b c) := by
  obtain ⟨t, p, s⟩ := he.ex
  obtain ⟨u, q2, s2⟩ := hl.ex
  obtain ⟨v, q3, s3⟩ := hu.ex
  exact ⟨_, pe_slice hr p q2 q3, sa_sl hs s s2 s3⟩
/-! ## built-ins -/
theorem de_callB {id : String} {x : Str} {r : List V → Hp → VK → Prop} {ar : AB} {e : Expr} {es : List Expr} {a : AA} {p pos : Pos} (hc : CallR X (.builtin id) r) (hs : SRB X.K r ar) (hg : Gl X x) (hm : X.mg x = none) (hv : bootBuiltins x = some (.builtin id)) (ha : DA X W (e :: es) a) (hn : x ≠ "__name__" := by decide) (hdb : (x == ("__debug__" : Str)) = false := by decide)
    (he : starEach (e :: es) X.env = (false, eval e X.env) :: starEach es X.env := by rfl) (hpl : (backTo pos (starEach es X.env)).any (·.1) = false := by rfl) : DE X W (.Call (.Name x p) (e :: es) [] pos) (aCB ar a) := by
  obtain ⟨t, p, s⟩ := ha.ex
  exact ⟨_, pe_callB hc hg hm hv p hn hdb he hpl, sa_cb hs s⟩
theorem de_callTy {T : String} {x : Str} {r : List V → Hp → VK → Prop} {ar : AB} {e : Expr} {es : List Expr} {a : AA} {p pos : Pos} (hc : CallR X (.type T) r) (hs : SRB X.K r ar) (hg : Gl X x) (hm : X.mg x = none) (hv : bootBuiltins x = some (.type T)) (ha : DA X W (e :: es) a) (hn : x ≠ "__name__" := by decide) (hdb : (x == ("__debug__" : Str)) = false := by decide)
    (he : starEach (e :: es) X.env = (false, eval e X.env) :: starEach es X.env := by rfl) (hpl : (backTo pos (starEach es X.env)).any (·.1) = false := by rfl) : DE X W (.Call (.Name x p) (e :: es) [] pos) (aCB ar a) := by
  obtain ⟨t, p, s⟩ := ha.ex
  exact ⟨_, pe_callTy hc hg hm hv p hn hdb he hpl, sa_cb hs s⟩
/-! ## a comprehension -/
theorem de_lc {elt tg iter : Expr} {scope : Scope} {x : Str} {i : Nat} {pos : Pos} {it : AIt} {b : AE} (own : Bool) (hc : X.calm = true) (hN : X.N.Nodup) (hi : DI X W tg iter it) (ok : BlkOk X.N X.env.scope scope [(x, i)])
    (hg : ∀ (s : Shared) (H : Hp) (C : Addr) (cl : List (Str × Addr)) (fp : List Addr), PG (X.blk s H scope (compEnvC scope cl C X.env) fp) tg (gName i))
    (he : ∀ (s : Shared) (H : Hp) (C : Addr) (cl : List (Str × Addr)) (fp : List Addr), DE (X.blk s H scope (compEnvC scope cl C X.env) fp) W0 elt b) (hs : ∀ x, foldedSetIterable iter X.env x = pure x := by intro _; rfl) :
    DE X W (.ListComp elt [⟨tg, iter, [], 0⟩] scope pos) (aLc own it i (fun O _ _ Kc => Kc O true) b) := by
  obtain ⟨wi, p, s⟩ := hi.ex
  refine ⟨_, pe_lc (own := [(x, i)]) (g := gName i) (tt := tYes) (te := upE X.K W0 b) hc hN p ok hg (fun _ _ _ _ _ => pts_nil) (fun s H C cl fp => (he s H C cl fp).pe) hs, ?_⟩
  exact sa_lc s (fun O ρ σ H Q Kc XX S k q x => q O true H (Fr.refl _ _) S.o k) up_e
/-! ## append -/
theorem sa_app {K : PySem.W.Frag} {to : TE} {t : TA} {a : AE} {b : AA} (ha : SaE K W to a) (hb : SaA K W t b) : SaE K W (tBM K "list" rAppend to t) (aApp a b) := fun O ρ σ H Q Kc XX S k q x =>
  ha O ρ σ H _ _ XX S k (fun O1 c v H1 f1 o1 r1 ⟨p, cs, f, e, lo, k1⟩ => by
    subst e
    have ev := dq_at r1
    subst ev
    obtain ⟨xs, hx, rs⟩ := o1.lo lo
    refine ⟨.inl ⟨rfl, xs, SqL.of hx⟩, ?_⟩
    refine hb O1 ρ σ H1 _ _ XX (S.go f1 o1) k1 (fun O2 ds vs H2 f2 o2 r2 ⟨d, cs2, g, e, lo2, hz, k2⟩ => ?_) (x.go f1)
    subst e
    obtain ⟨u, rfl, ru⟩ := cls1 r2
    obtain ⟨ys, hy, rs2⟩ := o2.lo lo2
    refine ⟨p, ys, u, rfl, rfl, hy, by rw [rs2.len]; exact Nat.lt_of_le_of_lt hz (by decide), ?_⟩
    obtain ⟨o3, f3⟩ := o2.app lo2 hy rs2 ru
    exact q _ _ _ _ ((f1.trans f2).trans f3) o3 (.dat .non) k2) x
theorem de_app {o e : Expr} {a : AE} {b : AA} {apos cpos : Pos} (ho : DE X W o a) (hb : DA X W [e] b)
    (hbase : attributeBase o "append" X.env (eval o X.env) = eval o X.env := by rfl)
    (hfew : ((backTo cpos (starEach [e] X.env)).all (fun x => !x.1) && (backToKw cpos (keywordEach [] X.env)).all (fun x => x.1.isSome)
      && decide (([e] : List Expr).length + ([] : List Keyword).length + (if ([] : List Keyword).isEmpty then 0 else 1) < 30)) = true := by rfl)
    (hline : (apos.endLine == cpos.line) = true := by rfl) (hs : starEach [e] X.env = (false, eval e X.env) :: starEach [] X.env := by rfl) (hplain : (backTo cpos (starEach [] X.env)).any (·.1) = false := by rfl) :
    DE X W (.Call (.Attribute o "append" apos) [e] [] cpos) (aApp a b) := by
  obtain ⟨t, p, s⟩ := ho.ex
  obtain ⟨u, p2, s2⟩ := hb.ex
  exact ⟨_, pe_bm PySem.F.plainAttrs_list PySem.F.slot_list_append PySem.F.type_list_append mt_append p p2 hbase hfew hline hs hplain, sa_app s s2⟩
/-! ## calls of defs -/
/-- what a def's promise is, by cells -/
def XOkF (K : PySem.W.Frag) (O : Ob) (H : Hp) (Xf : Ob → Str → Cl → Prop) (E : XK) : Prop := ∀ O' x c v H' dd, Fr O H O' H' → OkO K O' H' → ClH K (fre O') H' v c → H' dd = some (.xd [(fld x, v)]) → fre O' dd → Xf O' x c → E (.ref (clsA K x)) (some dd) H'
def spG (K : PySem.W.Frag) (af : AF) : Sp := fun vs H Q E => ∃ O cs Xf Kc, OkO K O H ∧ ClsH K (fre O) H vs cs ∧ af O cs Xf Kc ∧ QOk K O H Kc Q ∧ XOkF K O H Xf E
def aCall (af : AF) (a : AA) : AE := fun O ρ XX Kc => a O ρ XX fun O1 cs => af O1 cs (fun O' x c => XX O' ρ x c) Kc
theorem sa_call {K : PySem.W.Frag} {af : AF} {t : TA} {a : AA} (ha : SaA K W t a) : SaE K W (tCallS (spG K af) (WE W) t) (aCall af a) := fun O ρ σ H Q Kc XX S k q x =>
  ha O ρ σ H _ _ XX S k (fun O1 cs vs H1 f1 o1 r1 k1 => ⟨O1, cs, _, Kc, o1, r1, k1, q.go f1, fun O2 y c v H2 dd f2 o2 r2 hd hf hx => x O2 ρ σ y c v H2 dd (f1.trans f2) (S.go (f1.trans f2) o2) r2 hd hf hx⟩) x
/-- a def of the module, as its callers know it -/
structure Fu (P : Program) (w : World) (K : PySem.W.Frag) (mg : Str → Option Value) (base : Heap) (k : Nat) (x : Str) (ps : List Str) (af : AF) : Prop where
  ex : ∃ (f : Addr) (fd : FuncData), mg x = some (.ref f) ∧ PySem.W.keepIn K (.ref f) = true ∧ Binds K fd ps [] ∧ FnG P w K mg base (L2.CX P w) k f fd ps (spG K af)
theorem run_fnGS {k : Nat} {f : Addr} {fd : FuncData} {ps : List Str} {sp : Sp} {E : L2.St → XK} {CX : CXT} {pins : List (Addr × Obj)} {σ : L2.St} {H : Hp} {s : Shared} {Q : VK} {us : List Value} {vs : List V} (F : FnG X.prog X.w X.K X.mg X.base CX k f fd ps sp) (hgd : X.A.guards = some []) (hr : Room k X.A) (hb : Binds X.K fd ps []) (hx : PassesAt CX X σ (E σ))
    (I : Inv X pins σ H s) (r : Vals vs us) (h : sp vs H Q (E σ)) : wpAny (model X.prog X.w) X.A (call (.ref f) us) (EP X pins σ Q) X.xe s := by
  have hl : us.length = ps.length := by rw [← r.length]; exact F.len _ _ _ _ h
  have b := hb s us I.kIn (by rw [List.append_nil]; exact hl)
  rw [List.append_nil] at b
  refine wpAny_call (codeAny_mono (F.run X.A X.stack s H ⟨us, []⟩ us vs Q (E σ) hgd hr I.env0 b r h) fun r s' hq => ?_)
  match r, hq with
  | .error e, hq => exact hx pins H s e s' I hq
  | .ok (.ret u), hq => exact I.after hq
  | .ok .next, hq => exact False.elim hq
  | .ok .brk, hq => exact False.elim hq
  | .ok .cont, hq => exact False.elim hq
theorem de_call {af : AF} {k : Nat} {ps : List Str} {x : Str} {e : Expr} {es : List Expr} {a : AA} {p pos : Pos} (F : Fu X.prog X.w X.K X.mg X.base k x ps af) (tk : Takes X W) (hgd : X.A.guards = some []) (hr : Room k X.A) (hg : Gl X x) (ha : DA X W (e :: es) a)
    (hdb : (x == ("__debug__" : Str)) = false := by decide) (he : starEach (e :: es) X.env = (false, eval e X.env) :: starEach es X.env := by rfl)
    (hpl : (backTo pos (starEach es X.env)).any (·.1) = false := by rfl) : DE X W (.Call (.Name x p) (e :: es) [] pos) (aCall af a) := by
  obtain ⟨f, fd, hm, hk, hb, F⟩ := F.ex
  obtain ⟨t, pa, s⟩ := ha.ex
  refine ⟨tCallS (spG X.K af) (WE W) t, ⟨fun pins s σ H Q I h => ?_⟩, sa_call s⟩
  refine wpAny_Call_Name_kw (ld_glob I hg hm ?_ hdb)
  refine PySem.W.callWith_K (h₀ := X.base) I.ok.mod.kin hk (thn (pa.run pos pins s σ H _ I h) fun us s1 ⟨vs, H1, I1, r, q⟩ => ⟨I1.kIn, ?_⟩) he hpl
  exact run_fnGS F hgd hr hb (passAt tk σ) I1 r q
/-- where nothing is let out -/
theorem takes_none : Takes X W0 := fun u s' ⟨_, _, _, _, _, _, _, _, _, _, _, _, _, _, _, _, w⟩ => w.elim
/-! ## defs -/
theorem start_ss {K : PySem.W.Frag} {O : Ob} {H : Hp} {vs : List V} {cs : List Cl} {N : List Str} (o : OkO K O H) (r : ClsH K (fre O) H vs cs) : Ss K O (cs.map some ++ List.replicate (N.length - cs.length) none) (L2.start N vs) H := by
  unfold L2.start
  refine ⟨o, by simp [r.len], fun i c e => ?_⟩
  by_cases hi : i < cs.length
  · rw [List.getElem?_append_left (by simpa using hi), List.getElem?_map] at e
    rw [List.getElem?_append_left (by simpa [r.len] using hi), List.getElem?_map]
    obtain ⟨c', h1, h2⟩ := Option.map_eq_some_iff.mp e
    cases h2
    obtain ⟨v, hv, rv⟩ := r.get h1
    exact ⟨v, by rw [hv]; rfl, rv⟩
  · rw [List.getElem?_append_right (by simpa using Nat.le_of_not_lt hi), List.getElem?_replicate] at e
    split at e <;> cases e
end
/-- a def by its body, by cells -/
theorem fu_of {P : Program} {w : World} {K : PySem.W.Frag} {mg : Str → Option Value} {base : Heap} {k : Nat} {x : Str} {st : Stmt} {N ps : List Str} {af : AF} (D : At K mg x st) (S : FnScope N ps (defScope st))
    (hb : ∀ (kV doc pm : Value) (an : Option Addr) (cdv ct : Value) (us : List Value), us.length = ps.length →
      bindArgs (PySem.W.fnOf x x (defArgs st) (defBody st) (defScope st) .none kV doc pm an cdv ct) ⟨us, []⟩ = pure (ps.zip us))
    (hl : ∀ O cs Xf Kc, af O cs Xf Kc → cs.length = ps.length)
    (body : ∀ (f : Addr) (cdv : Value) (A : Around) (outer : List Env) (s : Shared) (H : Hp) (E : XK),
      (cxOf (L2.CX P w) P w K mg base N x (defScope st) f cdv A outer s H E).A.guards = some [] →
      Room k (A.deeper (envOfC x (defScope st) s.heap.objs.size f cdv)) →
      ∃ a : AS, DSs (cxOf (L2.CX P w) P w K mg base N x (defScope st) f cdv A outer s H E) (fun cls d _ H => E cls d H) (defBody st) a ∧
        ∀ O cs Xf Kc, af O cs Xf Kc → a { nx := fun O' _ => Kc O' (.dat .none), rt := Kc } (fun O' _ y c => Xf O' y c) O (cs.map some ++ List.replicate (N.length - cs.length) none)) :
    Fu P w K mg base (k + 1) x ps af := by
  obtain ⟨f, fd, hm, F⟩ := D.ex
  refine ⟨f, fd, hm, F.kp, F.binds hb, ?_⟩
  obtain ⟨oc, od, kV, doc, pm, an, cdv, ct, osl, rfl, lk, hcd⟩ := F.ex
  refine fng_of lk hcd S (fun vs H Q E ⟨O, cs, Xf, Kc, o, r, h, _, _⟩ => r.len.trans (hl O cs Xf Kc h)) fun A outer s H vs Q E hg hr ⟨O, cs, Xf, Kc, o, r, h, q, x⟩ => ?_
  obtain ⟨a, ⟨t, p, sa⟩, k⟩ := body f cdv A outer s H E hg hr
  refine ⟨t, p, sa O _ _ H _ _ _ (start_ss o r) (k O cs Xf Kc h) ⟨fun O' ρ' σ' H' f S k' => ?_, q, fun _ _ _ _ _ _ z => z.elim, fun _ _ _ _ _ _ z => z.elim⟩ ?_⟩
  · exact q O' _ _ H' f S.o (.dat .non) k'
  · exact fun O' ρ' σ' y c v H' dd f S r hd hf z => x O' y c v H' dd f S.o r hd hf z
end Ab
namespace Ab
open PySem PySem.Spec PyProof.Rows L2 Vg
section
variable {X : Cx} {W : WX} {K : PySem.W.Frag}
/-! ## old promises -/
def SpA (K : PySem.W.Frag) (sp : Sp) (af : AF) : Prop := ∀ O cs vs H Q E Kc Xf, OkO K O H → ClsH K (fre O) H vs cs → af O cs Xf Kc → QOk K O H Kc Q → sp vs H Q E
theorem de_old {sp : Sp} {af : AF} {k : Nat} {ps : List Str} {x : Str} {e : Expr} {es : List Expr} {a : AA} {p pos : Pos} (F : Fn X.prog X.w X.K X.mg X.base k x ps sp) (hs : SpA X.K sp af) (hr : Room k X.A) (hg : Gl X x) (ha : DA X W (e :: es) a)
    (hdb : (x == ("__debug__" : Str)) = false := by decide) (he : starEach (e :: es) X.env = (false, eval e X.env) :: starEach es X.env := by rfl)
    (hpl : (backTo pos (starEach es X.env)).any (·.1) = false := by rfl) : DE X W (.Call (.Name x p) (e :: es) [] pos) (aCall af a) := by
  obtain ⟨t, pa, s⟩ := ha.ex
  refine ⟨_, pe_fn F hr hg (E := E0) pass0 pa hdb he hpl, fun O ρ σ H Q Kc XX S k q x => s O ρ σ H _ _ XX S k (fun O1 cs vs H1 f1 o1 r1 k1 => ?_) x⟩
  rw [List.append_nil]
  exact hs O1 cs vs H1 Q E0 Kc _ o1 r1 k1 (q.go f1)
def afTake : AF := fun O cs _ Kc => ∃ p m n f, cs = [.at p, .dat (.int m)] ∧ 0 < m ∧ m.natAbs < 2 ^ 200 ∧ Lo O p (.pur n) f ∧ 1 ≤ n ∧ ∀ r, 0 ≤ r → r < m → Kc (f (.pur (n - 1))) (.dat (.int r))
theorem sp_take : SpA K spTake afTake := fun O cs vs H Q E Kc Xf o r ⟨p, m, n, f, e, h0, h1, lo, hn, k⟩ q => by
  subst e
  obtain ⟨v, w, rfl, rv, rw'⟩ := cls2 r
  have pz : Pz H p n := o.lo lo
  refine ⟨p, m, n - 1, by rw [dq_at rv, dq_int rw'], h0, h1, pz.mono (by omega), fun z l z0 z1 pu => ?_⟩
  obtain ⟨o2, f2⟩ := o.put (u := .lst l) (w' := .pur (n - 1)) lo ⟨l, upd_same, pu⟩
  exact q _ _ _ _ f2 o2 (.dat (.int z)) (k z z0 z1)
def afCell : AF := fun O cs _ Kc => ∃ ns k, cs = [.scr ns, .dat (.int k)] ∧ 0 ≤ k ∧ k < 1000000 ∧ ∀ z, Kc O (.dat (.int z))
theorem sp_cell : SpA K (Vg.spCell K) afCell := fun O cs vs H Q E Kc Xf o r ⟨ns, k, e, h0, h1, kk⟩ q => by
  subst e
  obtain ⟨v, w, rfl, rv, rw'⟩ := cls2 r
  cases rv with
  | scr h _ =>
    refine ⟨_, ns, k, by rw [dq_int rw'], h, h0, h1, fun z => q O _ _ H (Fr.refl _ _) o (.dat (.int z)) (kk z)⟩
def afPurse : AF := fun O cs _ Kc => ∃ z : Int, cs = [.dat (.int z)] ∧ ∀ p, Kc ((p, .pur 90000) :: O) (.at p)
theorem sp_purse : SpA K spPurse afPurse := fun O cs vs H Q E Kc Xf o r ⟨z, e, k⟩ q => by
  subst e
  obtain ⟨v, rfl, rv⟩ := cls1 r
  refine ⟨z, by rw [dq_int rv], fun p l hp pu => ?_⟩
  obtain ⟨o2, f2⟩ := o.own (u := .lst l) (w := .pur 90000) hp ⟨l, upd_same, pu⟩
  exact q _ _ _ _ f2 o2 (.at p) (k p)
/-! ## the law itself -/
theorem law_fng {P : Program} {w : World} {mg : Str → Option Value} {base : Heap} {k : Nat} {st : Stmt} {N : List Str} {f : Addr} {fd : FuncData} (F : Fun K "law" "law" st f fd) (S : FnScope N ["_law_script"] (defScope st))
    (body : ∀ (cdv : Value) (A : Around) (outer : List Env) (s : Shared) (H : Hp) (E : XK),
      (cxOf CX0 P w K mg base N "law" (defScope st) f cdv A outer s H E).nox.A.guards = some [] →
      Room k (A.deeper (envOfC "law" (defScope st) s.heap.objs.size f cdv)) →
      ∃ a : AS, DSs (cxOf CX0 P w K mg base N "law" (defScope st) f cdv A outer s H E).nox W0 (defBody st) a ∧
        ∀ ns : List Int, ns.length ≤ 63 → a { nx := fun _ _ => False, rt := fun _ c => c = .dat (.bool true) } X0 [] ([some (.scr ns)] ++ List.replicate (N.length - 1) none)) :
    FnG P w K mg base CX0 (k + 1) f fd ["_law_script"] (spLaw K) := by
  refine fng_fun F S (fun vs H Q E ⟨a, ns, e, _⟩ => by rw [e]; rfl) fun cdv A outer s H vs Q E hg hr ⟨a, ns, e, hS, hl, k⟩ => ?_
  obtain ⟨ab, ⟨t, p, sa⟩, kk⟩ := body cdv A outer s H E hg hr
  subst e
  have r : ClsH K (fre []) H [.ref a] [.scr ns] := .cons (.scr hS (by
    rcases hS with h | h
    · refine .inl ?_
      rcases h with h | ⟨o, h⟩
      · exact ⟨_, h, fun x hx => by cases hx⟩
      · exact ⟨_, h, fun x hx => by cases hx⟩
    · exact .inr fun H' => .inr h)) .nil
  refine ⟨t, p, sa [] _ _ H _ _ _ (start_ss okO_nil r) (kk ns hl) ⟨fun _ _ _ _ _ _ z => z.elim, fun O' c v H' f o r e => ?_, fun _ _ _ _ _ _ z => z.elim, fun _ _ _ _ _ _ z => z.elim⟩ x0⟩
  have e' : c = .dat (.bool true) := e
  subst e'
  rw [dq_bool r]
  exact k H'
/-! ## raise, try -/
def aRais (x : Str) (a : AE) : AS := fun _ XX O ρ => a O ρ XX fun O1 c => XX O1 ρ x c
theorem ds_rais {x : Str} {e : Expr} {a : AE} {p pos pos' : Pos} (R : Xk X.prog X.w X.K X.mg X.base x (fld x)) (hr : Room 3 X.A) (hc : X.calm = true) (tk : Takes X W) (hg : Gl X x) (ha : DE X W e a)
    (hdb : (x == ("__debug__" : Str)) = false := by decide) (hse : starEach [e] X.env = (false, eval e X.env) :: starEach [] X.env := by rfl) (hpl : (backTo pos (starEach [] X.env)).any (·.1) = false := by rfl) :
    DS X W (.Raise (some (.Call (.Name x p) [e] [] pos)) none pos') (aRais x a) := by
  obtain ⟨t, pt, s⟩ := ha.ex
  refine ⟨_, ps_rais R hr hc tk hg (pa_cons pt pa_nil hse) hdb hse hpl, fun O ρ σ H D A XX S k e x => s O ρ σ H _ _ XX S k (fun O1 c v H1 f1 o1 r1 k1 d H2 sm hd => ?_) x⟩
  have fr1 : fre O1 d := fun y hy z => by
    obtain ⟨u, hu⟩ := (o1.all y hy).there
    have h2 := sm _ _ hu
    rw [z, hd] at h2
    cases h2
    have q := o1.all y hy
    rw [z] at hu q
    cases y with
    | mk a w =>
      cases w with
      | lst cs => obtain ⟨_, h, _⟩ := q; rw [hu] at h; cases h
      | dct es => obtain ⟨_, h, _⟩ := q; rw [hu] at h; cases h
      | pur n => obtain ⟨_, h, _⟩ := q; rw [hu] at h; cases h
      | ins x fs => obtain ⟨_, _, h, _⟩ := q; rw [hu] at h; cases h
  have f2 : Fr O1 H1 O1 H2 := ⟨fun b o _ h => sm b o h, fun b o f _ => f, fun b h => by
    cases e : H1 b with
    | none => rfl
    | some o => rw [sm b o e] at h; cases h⟩
  have o3 : OkO X.K O1 H2 := ⟨o1.nd, fun y hy => by
    obtain ⟨u, hu⟩ := (o1.all y hy).there
    exact (o1.all y hy).mono (fun b o _ h => sm b o h) (fun b o f _ => f) ((sm _ _ hu).trans hu.symm)⟩
  have f12 := f1.trans f2
  exact x O1 ρ σ _ c v H2 d f12 (S.go f12 o3) (r1.fr f2) hd fr1 k1
/-- a clause: its class, its slot, its suite -/
structure Hd where
  x : Str
  i : Nat
  s : Addr → Addr → AS
def hasExm (K : PySem.W.Frag) (y x : Str) (b : Bool) : Prop := PySem.W.exmOne K (.ref (clsA K y)) (.ref (clsA K x)) = some b
def AEn.gone (A : AEn) (i : Nat) : AEn := { nx := fun O ρ => A.nx O (ρ.set i none), rt := A.rt, bk := fun O ρ => A.bk O (ρ.set i none), ct := fun O ρ => A.ct O (ρ.set i none) }
def hsX (K : PySem.W.Frag) (A : AEn) : List Hd → XC
  | [] => fun _ _ _ _ => False
  | h :: r => fun O ρ y c => ∃ b, hasExm K y h.x b ∧ (b = true → y = h.x ∧ ∀ a dd, h.s a dd (A.gone h.i) X0 O (ρ.set h.i (some (.exc a dd (fld y) c)))) ∧ (b = false → hsX K A r O ρ y c)
def aTry (K : PySem.W.Frag) (b : AS) (hs : List Hd) : AS := fun A _ O ρ => b A (hsX K A hs) O ρ
/-- the reading of a suite, by a clause -/
def sutOf (K : PySem.W.Frag) (h : Hd) : Sut := fun a cls d D σ H => ∃ dd, cls = .ref (clsA K h.x) ∧ d = some dd ∧ upS K W0 (h.s a dd) D σ H
def hvs (K : PySem.W.Frag) (hs : List Hd) : List (Value × Nat × Sut) := hs.map fun h => (.ref (clsA K h.x), h.i, sutOf K h)
theorem eok_gone {O : Ob} {H : Hp} {A : AEn} {D : Ends} {i : Nat} (e : EOk K O H A D) : EOk K O H (A.gone i) (goneD i D) :=
  ⟨fun O' ρ' σ' H' f S k => e.nx O' _ _ H' f S.drop k, e.rt, fun O' ρ' σ' H' f S k => e.bk O' _ _ H' f S.drop k, fun O' ρ' σ' H' f S k => e.ct O' _ _ H' f S.drop k⟩
theorem hs_ok {O : Ob} {H : Hp} {A : AEn} {D : Ends} (e : EOk K O H A D) : ∀ hs : List Hd, XOk K O H (hsX K A hs) (wNamed K D (hvs K hs))
  | [] => fun _ _ _ _ _ _ _ _ _ _ _ _ _ h => h
  | h :: r => fun O' ρ' σ' y c v H' dd f S rc hd hf ⟨b, hb, yes, no⟩ => by
    refine ⟨b, hb, fun eb a ha => ?_, fun eb => hs_ok e r O' ρ' σ' y c v H' dd f S rc hd hf (no eb)⟩
    obtain ⟨ey, k⟩ := yes eb
    subst ey
    exact ⟨dd, rfl, rfl, O', _, _, _, S.set (.exc hf hd rc), k a dd, eok_gone (e.go f), x0⟩
/-- the clauses of a try -/
inductive DH (X : Cx) : List ExceptHandler → List Hd → Prop
  | never (hs : List ExceptHandler) : DH X hs []
  | cons {x n : Str} {i : Nat} {s : Addr → Addr → AS} {st : Stmt} {more : List Stmt} {np p : Pos} {hs : List ExceptHandler} {l : List Hd}
      (hi : X.N[i]? = some n) (hln : X.env.kindOf n = some .local) (hc : Names X x (.ref (clsA X.K x)))
      (hsu : ∀ (a dd : Addr) (oe : Obj) (pn : List (Addr × Obj)), Zc (.ref (clsA X.K x)) (some dd) oe → (∃ vs, oe.data = .fields vs) → DSs (X.suite a ((a, oe) :: pn)) W0 (st :: more) (s a dd))
      (r : DH X hs l) : DH X (.ExceptHandler (some (.Name x np)) (some n) (st :: more) p :: hs) (⟨x, i, s⟩ :: l)
theorem DH.nh {hl : List ExceptHandler} {l : List Hd} (h : DH X hl l) : Nh X hl (hvs X.K l) := by
  induction h with
  | never hs => exact .never hs
  | @cons x n i s st more np p hs l hi hln hc hsu r ih =>
    refine .cons hi hln hc (fun a oe cls d pn hz hf => ⟨fun pins s1 σ H D I ⟨dd, ec, ed, h⟩ => ?_⟩) ih
    subst ec ed
    exact (hsu a dd oe pn hz hf).pss.run pins s1 σ H D I h
theorem ds_try {body : List Stmt} {h0 : ExceptHandler} {hds : List ExceptHandler} {l : List Hd} {pos : Pos} {b : AS} (hs : X.stack = X.env :: X.outer) (hf : X.env.frame = some X.env.locals) (hN : X.N.Nodup)
    (hb : ∀ (W' : WX) (pn : List (Addr × Obj)) (xe : Value → Shared → Prop), Takes (X.tr pn xe) W' → PassesOwn (model X.prog X.w) X.A X.env xe → DSs (X.tr pn xe) W' body b)
    (hh : DH X (h0 :: hds) l) : DS X W (.Try body (h0 :: hds) [] [] pos) (aTry X.K b l) :=
  ⟨_, ps_try_named (tb := fun W' => upS X.K W' b) hs hf hN (fun W' pn xe tk own => (hb W' pn xe tk own).pss) hh.nh, fun O ρ σ H D A XX S k e x => ⟨O, ρ, A, _, S, k, e, hs_ok e l⟩⟩
/-- e.found within a suite -/
def aXf (a dd : Addr) (f : Str) (ae : AE) : AE := fun O ρ XX Kc => ae O ρ XX fun O1 c => ∃ c', c = .exc a dd f c' ∧ Kc O1 c'
theorem de_xf {a dd : Addr} {x : Str} {oe : Obj} {pn : List (Addr × Obj)} {e : Expr} {ae : AE} {pos : Pos} {n : Str} (T : XfC X.K (clsA X.K x)) (hno : PySem.W.findIn X.K (.ref (clsA X.K x)) n = some none)
    (hz : Zc (.ref (clsA X.K x)) (some dd) oe) (hf : ∃ vs, oe.data = .fields vs) (he : DE (X.suite a ((a, oe) :: pn)) W0 e ae) (hb : attributeBase e n X.env (eval e X.env) = eval e X.env := by rfl) :
    DE (X.suite a ((a, oe) :: pn)) W0 (.Attribute e n pos) (aXf a dd n ae) := by
  obtain ⟨t, p, s⟩ := he.ex
  refine ⟨_, pe_xf T hno hz hf p hb, fun O ρ σ H Q Kc XX S k q x => s O ρ σ H _ _ XX S k (fun O1 c v H1 f1 o1 r1 ⟨c', ec, k1⟩ => ?_) x⟩
  subst ec
  cases r1 with
  | @exc _ _ _ v' _ o h r =>
    exact ⟨rfl, rfl, dd, _, v', rfl, h, by simp [List.lookup], q O1 c' v' H1 f1 o1 r k1⟩
/-! ## gcd, texts -/
end
section
variable {X : Cx} {W : WX}
/-- f(a, b) of def f(*xs): the def gets the tuple -/
def aCallR (af : AF) (a : AA) : AE := fun O ρ XX Kc => a O ρ XX fun O1 cs => cs.length ≤ 1000 ∧ af O1 [tupC cs] (fun O' x c => XX O' ρ x c) Kc
end
end Ab
namespace Ab
open PySem PySem.Spec PyProof.Rows L2 Vg
section
variable {K : PySem.W.Frag} {W : WX}
/-! ## the data of a value is one -/
end
end Ab
namespace Ab
open PySem PySem.Spec PyProof.Rows L2 Vg
section
variable {K : PySem.W.Frag} {W : WX}
/-! ## more built-ins -/
def bIntB : AB := fun O cs Kc => (∃ i, cs = [.dat (.int i)] ∧ Kc O (.dat (.int i))) ∨ ∃ b, cs = [.dat (.bool b)] ∧ Kc O (.dat (.int (if b then 1 else 0)))
theorem sb_intB : SRB K (fun xs H Q => (∃ i, xs = [.int i] ∧ Q (.int i) H) ∨ ∃ k, xs = [.bl k] ∧ Q (.int (if k then 1 else 0)) H) bIntB := fun O H Q Kc cs vs o r h q => by
  rcases h with ⟨i, e, k⟩ | ⟨b, e, k⟩
  · subst e
    obtain ⟨v, rfl, rv⟩ := cls1 r
    exact .inl ⟨i, by rw [dq_int rv], q O _ _ H (Fr.refl _ _) o (.dat (.int _)) k⟩
  · subst e
    obtain ⟨v, rfl, rv⟩ := cls1 r
    exact .inr ⟨b, by rw [dq_bool rv], q O _ _ H (Fr.refl _ _) o (.dat (.int _)) k⟩
/-- list(x), tuple(x) -/
def bList (own : Bool) : AB := fun O cs Kc => ∃ c es, cs = [c] ∧ (Els O c es ∨ ElsT c es) ∧ if own = true then ∀ p, Kc ((p, .lst es) :: O) (.at p) else Kc O (lisC es)
theorem sb_listG {own : Bool} : SRB K (fun xs H Q => ∃ p ys, xs = [.ref p] ∧ (SqL K H p ys ∨ SqT K H p ys) ∧ ∀ l, H l = none → Q (.ref l) (upd H l (.lst ys))) (bList own) := fun O H Q Kc cs vs o r ⟨c, es, e, h, k⟩ q => by
  subst e
  obtain ⟨v, rfl, rv⟩ := cls1 r
  obtain ⟨a, xs, rfl, ha, rs⟩ : ∃ a xs, v = .ref a ∧ (SqL K H a xs ∨ SqT K H a xs) ∧ ClsH K (fre O) H xs es := by
    rcases h with h | h
    · obtain ⟨a, xs, e, ha, rs⟩ := h.get o rv
      exact ⟨a, xs, e, .inl (SqL.of ha), rs⟩
    · obtain ⟨a, xs, e, ha, rs⟩ := h.get rv
      exact ⟨a, xs, e, .inr ha, rs⟩
  refine ⟨a, xs, rfl, ha, fun l hl => ?_⟩
  cases own with
  | true =>
    obtain ⟨o2, f2⟩ := own_lst o rs hl
    exact q _ _ _ _ f2 o2 (.at l) ((show ∀ p, Kc ((p, .lst es) :: O) (.at p) by simpa using k) l)
  | false =>
    obtain ⟨o2, f2, n⟩ := o.new (u := .lst xs) hl
    exact q O _ _ _ f2 o2 (cl_lis n upd_same (rs.fr f2)) (by simpa using k)
theorem sb_list : SRB K (fun xs H Q => ∃ p ys, xs = [.ref p] ∧ (SqL K H p ys ∨ SqT K H p ys) ∧ ∀ l, H l = none → Q (.ref l) (upd H l (.lst ys))) (bList false) := sb_listG
theorem sb_listO : SRB K (fun xs H Q => ∃ p ys, xs = [.ref p] ∧ (SqL K H p ys ∨ SqT K H p ys) ∧ ∀ l, H l = none → Q (.ref l) (upd H l (.lst ys))) (bList true) := sb_listG
def bTuple : AB := fun O cs Kc => ∃ c es, cs = [c] ∧ ((Els O c es ∧ Kc O (tupC es)) ∨ (ElsT c es ∧ Kc O c))
theorem sb_tuple : SRB K (fun xs H Q => ∃ p ys, xs = [.ref p] ∧ ((SqL K H p ys ∧ ∀ l, H l = none → Q (.ref l) (upd H l (.tup ys))) ∨ (SqT K H p ys ∧ Q (.ref p) H))) bTuple := fun O H Q Kc cs vs o r ⟨c, es, e, h⟩ q => by
  subst e
  obtain ⟨v, rfl, rv⟩ := cls1 r
  rcases h with ⟨h, k⟩ | ⟨h, k⟩
  · obtain ⟨a, xs, rfl, ha, rs⟩ := h.get o rv
    refine ⟨a, xs, rfl, .inl ⟨SqL.of ha, fun l hl => ?_⟩⟩
    obtain ⟨o2, f2, n⟩ := o.new (u := .tup xs) hl
    exact q O _ _ _ f2 o2 (cl_tup n upd_same (rs.fr f2)) k
  · obtain ⟨a, xs, rfl, ha, rs⟩ := h.get rv
    exact ⟨a, xs, rfl, .inr ⟨ha, q O _ _ H (Fr.refl _ _) o rv k⟩⟩
/-- slices of tuples: a constant cut from end to end stays what it is -/
def slR (c : Cl) (cs : List Cl) (lo hi : Option Int) : Cl := match c with
  | .con d => if HT.sIx cs.length 0 lo = 0 ∧ HT.sIx cs.length cs.length hi = cs.length then .con d else tupC (cutD cs lo hi)
  | _ => tupC (cutD cs lo hi)
def aSlT : AR3 := fun O c lo hi Kc => ∃ cs, ElsT c cs ∧ Kc O (slR c cs lo hi)
theorem cut_all {cs : List Cl} {lo hi : Option Int} (h : HT.sIx cs.length 0 lo = 0 ∧ HT.sIx cs.length cs.length hi = cs.length) : cutD cs lo hi = cs := by
  unfold cutD
  rw [h.1, h.2]
  simp
theorem sr_slT : SR3 K (rSlA K) aSlT := fun O H Q Kc c v lo hi o r ⟨cs, h, k⟩ q => by
  obtain ⟨a, xs, rfl, ha, rs⟩ := h.get r
  refine ⟨a, xs, rfl, ha, fun e => ?_, fun ne p hp => ?_⟩
  · rw [rs.len] at e
    have r' : ClH K (fre O) H (.ref a) (slR c cs lo hi) := by
      cases h with
      | dat ds =>
        show ClH K (fre O) H (.ref a) (tupC (cutD (ds.map .dat) lo hi))
        rw [cut_all e, tupC_dats]
        exact r
      | tup cs =>
        show ClH K (fre O) H (.ref a) (tupC (cutD cs lo hi))
        rw [cut_all e]
        cases r with | tup o h r => exact cl_tup o h r
      | con ds =>
        show ClH K (fre O) H (.ref a) (if _ then _ else _)
        rw [if_pos e]
        exact r
    exact q O _ _ H (Fr.refl _ _) o r' k
  · rw [rs.len] at ne
    have e : slR c cs lo hi = tupC (cutD cs lo hi) := by
      cases h with
      | dat ds => rfl
      | tup cs => rfl
      | con ds => exact if_neg ne
    rw [e] at k
    obtain ⟨o2, f2, n⟩ := o.new (u := .tup (cutV xs lo hi)) hp
    exact q O _ _ _ f2 o2 (cl_tup n upd_same ((rs.cut lo hi).fr f2)) k
/-! ## truth of a value -/
def aTru (a : AE) : AT := fun O ρ XX Kc => a O ρ XX fun O1 c => ∃ k, ((c = .dat .none ∧ k = false) ∨ (∃ b, c = .dat (.bool b) ∧ k = b) ∨ (∃ i : Int, c = .dat (.int i) ∧ k = (i != 0)) ∨ (∃ z : Str, c = .dat (.str z) ∧ z.length ≤ sizeLine ∧ k = ((z.length : Int) != 0)) ∨ (∃ cs, (Els O1 c cs ∨ ElsT c cs) ∧ k = !cs.isEmpty)) ∧ Kc O1 k
/-! ## membership among flat things -/
def flatD : PyData → Bool
  | .none | .bool _ | .int _ | .str _ => true
  | _ => false
def vD : PyData → V
  | .none => .non
  | .bool b => .bl b
  | .int i => .int i
  | .str z => .str z
  | _ => .non
theorem vD_of {ok : Addr → Prop} {H : Hp} {v : V} {d : PyData} (h : Dq ok H v d) (f : flatD d = true) : v = vD d ∧ flatV v = true := by
  cases h <;> first | exact ⟨rfl, rfl⟩ | cases f
theorem vD_all {ok : Addr → Prop} {H : Hp} : ∀ {xs : List V} {ds : List PyData}, ClsH K ok H xs (ds.map .dat) → ds.all flatD = true → xs = ds.map vD ∧ xs.all flatV = true
  | _, [], .nil, _ => ⟨rfl, rfl⟩
  | _, d :: ds, .cons (.dat h) r, f => by
    have f' := Bool.and_eq_true_iff.mp (show (flatD d && ds.all flatD) = true from f)
    obtain ⟨e, q⟩ := vD_of h f'.1
    obtain ⟨e2, q2⟩ := vD_all r f'.2
    refine ⟨by rw [e, e2]; rfl, ?_⟩
    rw [List.all_cons, q, q2]
    rfl
def aIn (neg : Bool) : AR2 := fun O c c' Kc => ∃ (d : PyData) (ds : List PyData), c = .dat d ∧ flatD d = true ∧ (Els O c' (ds.map .dat) ∨ ElsT c' (ds.map .dat)) ∧ ds.all flatD = true ∧ Kc O (.dat (.bool (if neg then !inV (vD d) (ds.map vD) else inV (vD d) (ds.map vD))))
theorem sr_inG {neg : Bool} : SR2 K (rIn K neg) (aIn neg) := fun O H Q Kc c c' v v' o r r' ⟨d, ds, e, f, h, fs, k⟩ q => by
  subst e
  obtain ⟨a, xs, rfl, ha, rs⟩ : ∃ a xs, v' = .ref a ∧ (SqL K H a xs ∨ SqT K H a xs) ∧ ClsH K (fre O) H xs (ds.map .dat) := by
    rcases h with h | h
    · obtain ⟨a, xs, e, ha, rs⟩ := h.get o r'
      exact ⟨a, xs, e, .inl (SqL.of ha), rs⟩
    · obtain ⟨a, xs, e, ha, rs⟩ := h.get r'
      exact ⟨a, xs, e, .inr ha, rs⟩
  obtain ⟨e1, q1⟩ := vD_all rs fs
  cases r with
  | dat hd =>
    obtain ⟨e2, q2⟩ := vD_of hd f
    subst e2 e1
    exact ⟨a, _, rfl, ha, q2, q1, q O _ _ H (Fr.refl _ _) o (.dat (.bl _)) k⟩
def aInP : AR2 := fun O c c' Kc => ∃ (d : PyData) (ds : List PyData), c = .dat d ∧ flatD d = true ∧ (Els O c' (ds.map .dat) ∨ ElsT c' (ds.map .dat)) ∧ ds.all flatD = true ∧ Kc O (.dat (.bool (inV (vD d) (ds.map vD))))
theorem sr_in : SR2 K (rIn K false) aInP := sr_inG (neg := false)
/-! ## a dict that is owned: a store -/
/-! ## the purse's things of other kinds -/
/-- what a drawn thing is, among the owned ones -/
inductive Odd : PyData → Cl → Ob → Prop
  | imm {d : PyData} (h : ∀ ds, d ≠ .list ds) (k : ∀ es, d ≠ .dict es) : Odd d (.dat d) []
  | lst {a : Addr} (ds : List PyData) : Odd (.list ds) (.at a) [(a, .lst (ds.map .dat))]
  | dct {a : Addr} (kvs : List (PyData × PyData)) (es : List (Key × Cl)) (k : es.map (fun e => kD e.1) = kvs.map (·.1)) (c : es.map (·.2) = (kvs.map (·.2)).map .dat) : Odd (.dict kvs) (.at a) [(a, .dct es)]
/-- an object that nobody owned is owned now -/
theorem OkO.take {O : Ob} {H : Hp} {a : Addr} {w : Ow} (o : OkO K O H) (fr : ∀ c v, Ab.fre O c → H c = some v → c ≠ a → True) (ha : fre O a) (hw : OwH K (fre ((a, w) :: O)) H a w)
    (all : ∀ x ∈ O, OwH K (fre ((a, w) :: O)) H x.1 x.2) : OkO K ((a, w) :: O) H := by
  refine ⟨List.nodup_cons.mpr ⟨fun m => ?_, o.nd⟩, fun x hx => ?_⟩
  · obtain ⟨x, hx, e⟩ := List.mem_map.mp m
    exact ha x hx e
  · rcases List.mem_cons.mp hx with rfl | hx
    · exact hw
    · exact all x hx
/-! ## repr of what may be a dict of plain things -/
inductive RdR (O : Ob) : Cl → PyData → Prop
  | pl {c : Cl} {d : PyData} (h : Rdc O c d) (n : d.hasDict = false) : RdR O c d
  | dct {a : Addr} {es : List (Key × Cl)} (ds : List PyData) (m : (a, Ow.dct es) ∈ O) (e : es.map (·.2) = ds.map .dat) (f : ds.all flatD = true) : RdR O (.at a) (.dict ((es.map fun e => kD e.1).zip ds))
theorem flkv_of {ok : Addr → Prop} {H : Hp} : ∀ {kvs : List (Key × V)} {es : List (Key × Cl)} {ds : List PyData}, kvs.map (·.1) = es.map (·.1) → ClsH K ok H (kvs.map (·.2)) (es.map (·.2)) → es.map (·.2) = ds.map .dat → ds.all flatD = true → FlKv kvs ((es.map fun e => kD e.1).zip ds)
  | [], [], [], _, _, _, _ => .nil
  | [], [], _ :: _, _, _, h, _ => by simp at h
  | [], _ :: _, _, h, _, _, _ => by simp at h
  | _ :: _, [], _, h, _, _, _ => by simp at h
  | _ :: _, _ :: _, [], _, _, h, _ => by simp at h
  | (k, v) :: kvs, (k', c) :: es, d :: ds, h, r, e, f => by
    simp only [List.map_cons, List.cons.injEq] at h e
    obtain ⟨rfl, h⟩ := h
    obtain ⟨rfl, e⟩ := e
    have f' := Bool.and_eq_true_iff.mp (show (flatD d && ds.all flatD) = true from f)
    cases r with
    | cons r1 r2 =>
      refine FlKv.cons ?_ (flkv_of h r2 e f'.2)
      cases r1 with
      | dat hd => cases hd <;> first | constructor | (cases f'.1)
theorem RdR.dr {O : Ob} {H : Hp} {c : Cl} {d : PyData} {v : V} (h : RdR O c d) (o : OkO K O H) (r : ClH K (fre O) H v c) : Dr K H v d := by
  cases h with
  | pl h n => exact .inl (h.dp o r n)
  | dct ds m e f =>
    cases r
    obtain ⟨kvs, h, hk, rs⟩ := o.all _ m
    exact .inr ⟨_, kvs, _, rfl, rfl, h, flkv_of hk rs e f⟩
def bReprA : AB := fun O cs Kc => ∃ c d, cs = [c] ∧ RdR O c d ∧ d.showable = true ∧ d.depth ≤ 50 ∧ d.shown.length ≤ sizeLine ∧ Kc O (.dat (.str d.shown))
/-! ## f-strings -/
def aFmtS (a : AE) : AE := fun O ρ XX Kc => a O ρ XX fun O1 c => ∃ z : Str, c = .dat (.str z) ∧ z.length ≤ sizeLine ∧ Kc O1 c
def aFmtI (a : AE) : AE := fun O ρ XX Kc => a O ρ XX fun O1 c => ∃ i : Int, c = .dat (.int i) ∧ i.natAbs.log2 < 1920 ∧ Kc O1 (.dat (.str (toString i)))
def aJs : List AE → Str → AE
  | [], acc => fun O _ _ Kc => Kc O (.dat (.str acc))
  | a :: as, acc => fun O ρ XX Kc => a O ρ XX fun O1 c => ∃ y : Str, c = .dat (.str y) ∧ (acc ++ y).length ≤ sizeLine ∧ aJs as (acc ++ y) O1 ρ XX Kc
end
section
variable {X : Cx} {W : WX}
end
end Ab
namespace Ab
open PySem PySem.Spec PyProof.Rows L2 Vg
/-! ## == of texts -/
def aEqS : AR2 := fun O c c' Kc => ∃ x y, c = .dat (.str x) ∧ c' = .dat (.str y) ∧ Kc O (.dat (.bool (decide (x = y))))
def aNeS : AR2 := fun O c c' Kc => ∃ x y, c = .dat (.str x) ∧ c' = .dat (.str y) ∧ Kc O (.dat (.bool (!decide (x = y))))
theorem dec_str (x y : Str) : decide (V.str x = V.str y) = decide (x = y) := decide_eq_decide.mpr ⟨fun h => by injection h, fun h => congrArg V.str h⟩
theorem sr_eqS {K : PySem.W.Frag} : SR2 K rEq aEqS := fun O H Q Kc c c' v v' o r r' ⟨x, y, e, e', k⟩ q => by
  subst e e'
  rw [dq_str r, dq_str r']
  exact ⟨rfl, by rw [dec_str]; exact q O _ _ H (Fr.refl _ _) o (.dat (.bl _)) k⟩
theorem sr_neS {K : PySem.W.Frag} : SR2 K rNe aNeS := fun O H Q Kc c c' v v' o r r' ⟨x, y, e, e', k⟩ q => by
  subst e e'
  rw [dq_str r, dq_str r']
  exact ⟨rfl, by rw [dec_str]; exact q O _ _ H (Fr.refl _ _) o (.dat (.bl _)) k⟩
end Ab
namespace Ab
open PySem PySem.Spec PyProof.Rows L2 Vg
section
variable {X : Cx} {W : WX}
end
end Ab
namespace Ab
open PySem PySem.Spec PyProof.Rows L2 Vg
/-! ## defs with defaults -/
structure DefInD (K : PySem.W.Frag) (x : Str) (st : Stmt) (dvs : List V) : Prop where
  ex : ∃ (f : Addr) (oc : Value) (od an : Option Addr) (sl : Array (Option Value)) (dV kV dc pm cd ct : Value), PySem.W.nsIn K mainGlobals x = some (some (.ref f)) ∧
    K.lookup f = some ⟨oc, od, .func (PySem.W.fnOf x x (defArgs st) (defBody st) (defScope st) dV kV dc pm an cd ct), sl⟩ ∧
    PySem.W.codeIn K cd x = true ∧ PySem.W.keepIn K (.ref f) = true ∧ DflV K dV dvs
theorem DefInD.by {K : PySem.W.Frag} {x : Str} {st : Stmt} {dvs : List V} {f T : Addr} {oc : Value} {od an : Option Addr} {sl : Array (Option Value)} {kV dc pm cd ct : Value} {o : Obj} {its : List Value} {n : Nat} (a : PySem.W.nsIn K mainGlobals x = some (some (.ref f)))
    (l : K.lookup f = some ⟨oc, od, .func (PySem.W.fnOf x x (defArgs st) (defBody st) (defScope st) (.ref T) kV dc pm an cd ct), sl⟩) (c : PySem.W.codeIn K cd x = true) (k : PySem.W.keepIn K (.ref f) = true)
    (lT : K.lookup T = some o) (oT : o.data = .seq its.toArray n) (r : Vals dvs its) (ne : dvs ≠ []) : DefInD K x st dvs :=
  ⟨f, oc, od, an, sl, .ref T, kV, dc, pm, cd, ct, a, l, c, k, .inr ⟨ne, T, o, its, n, rfl, lT, oT, r⟩⟩
structure AtD (K : PySem.W.Frag) (mg : Str → Option Value) (x : Str) (st : Stmt) (dvs : List V) : Prop where
  ex : ∃ (f : Addr) (fd : FuncData), mg x = some (.ref f) ∧ FunD K x x (defArgs st) (defBody st) (defScope st) dvs [] f fd
theorem DefInD.at {K : PySem.W.Frag} {h : Heap} {mg : Str → Option Value} {x : Str} {st : Stmt} {dvs : List V} (D : DefInD K x st dvs) (X : K.In h) (G : h.Ns mainGlobals mg) : AtD K mg x st dvs := by
  obtain ⟨f, oc, od, an, sl, dV, kV, dc, pm, cd, ct, a, l, c, k, d⟩ := D.ex
  exact ⟨f, _, PySem.W.mg_of X G a, ⟨oc, od, dV, kV, dc, pm, an, cd, ct, sl, rfl, l, c, d, .inl rfl⟩, k⟩
section
variable {X : Cx} {W : WX}
def aCallD (dv : PyData) (af : AF) (a : AA) : AE := fun O ρ XX Kc => a O ρ XX fun O1 cs => af O1 (cs ++ [.dat dv]) (fun O' x c => XX O' ρ x c) Kc
end
/-! ## kinds -/
section
variable {O : Ob} {c : Cl} {n : String}
def kns : List String := ["NoneType", "bool", "int", "str", "list", "tuple", "dict"]
theorem tnD_mem (d : PyData) : tnD d ∈ kns := by
  cases d <;> simp [tnD, kns]
theorem Kn.mem (h : Kn O c n) : n ∈ kns := by
  cases h with
  | dat d => exact tnD_mem d
  | own m => simp [kns]
  | dct m => simp [kns]
  | lis cs => simp [kns]
  | tup cs => simp [kns]
  | con ds => simp [kns]
theorem kn_int (h : Kn O c n) : kitB n "int" = some (n == "int" || n == "bool") := (show ∀ n ∈ kns, kitB n "int" = some (n == "int" || n == "bool") by decide +kernel) n h.mem
theorem kn_bool (h : Kn O c n) : kitB n "bool" = some (n == "bool") := (show ∀ n ∈ kns, kitB n "bool" = some (n == "bool") by decide +kernel) n h.mem
theorem kn_str (h : Kn O c n) : kitB n "str" = some (n == "str") := (show ∀ n ∈ kns, kitB n "str" = some (n == "str") by decide +kernel) n h.mem
theorem kn_list (h : Kn O c n) : kitB n "list" = some (n == "list") := (show ∀ n ∈ kns, kitB n "list" = some (n == "list") by decide +kernel) n h.mem
theorem kn_tuple (h : Kn O c n) : kitB n "tuple" = some (n == "tuple") := (show ∀ n ∈ kns, kitB n "tuple" = some (n == "tuple") by decide +kernel) n h.mem
theorem kn_dict (h : Kn O c n) : kitB n "dict" = some (n == "dict") := (show ∀ n ∈ kns, kitB n "dict" = some (n == "dict") by decide +kernel) n h.mem
end
end Ab
namespace Ab
open PySem PySem.Spec PyProof.Rows L2 Vg
/-- a def that writes no list as a text -/
structure Fv (P : Program) (w : World) (K : PySem.W.Frag) (mg : Str → Option Value) (base : Heap) (k : Nat) (x : Str) (ps : List Str) (af : AF) : Prop where
  ex : Fx P w K mg base k x ps (spG K af)
theorem fv_of {P : Program} {w : World} {K : PySem.W.Frag} {mg : Str → Option Value} {base : Heap} {k : Nat} {x : Str} {st : Stmt} {N ps : List Str} {af : AF} (D : At K mg x st) (S : FnScope N ps (defScope st))
    (hb : ∀ (kV doc pm : Value) (an : Option Addr) (cdv ct : Value) (us : List Value), us.length = ps.length →
      bindArgs (PySem.W.fnOf x x (defArgs st) (defBody st) (defScope st) .none kV doc pm an cdv ct) ⟨us, []⟩ = pure (ps.zip us))
    (hl : ∀ O cs Xf Kc, af O cs Xf Kc → cs.length = ps.length)
    (body : ∀ (f : Addr) (cdv : Value) (A : Around) (outer : List Env) (s : Shared) (H : Hp) (E : XK),
      Room k (A.deeper (envOfC x (defScope st) s.heap.objs.size f cdv)) →
      ∃ a : AS, DSs (cxOf (L2.CX P w) P w K mg base N x (defScope st) f cdv A outer s H E) (fun cls d _ H => E cls d H) (defBody st) a ∧
        ∀ O cs Xf Kc, af O cs Xf Kc → a { nx := fun O' _ => Kc O' (.dat .none), rt := Kc } (fun O' _ y c => Xf O' y c) O (cs.map some ++ List.replicate (N.length - cs.length) none)) :
    Fv P w K mg base (k + 1) x ps af := by
  refine ⟨D.fx S hb (fun vs H Q E ⟨O, cs, Xf, Kc, o, r, h, _, _⟩ => r.len.trans (hl O cs Xf Kc h)) fun f cdv A outer s H vs Q E hr ⟨O, cs, Xf, Kc, o, r, h, q, x⟩ => ?_⟩
  obtain ⟨a, ⟨t, p, sa⟩, k⟩ := body f cdv A outer s H E hr
  refine ⟨t, p, sa O _ _ H _ _ _ (start_ss o r) (k O cs Xf Kc h) ⟨fun O' ρ' σ' H' f S k' => ?_, q, fun _ _ _ _ _ _ z => z.elim, fun _ _ _ _ _ _ z => z.elim⟩ ?_⟩
  · exact q O' _ _ H' f S.o (.dat .non) k'
  · exact fun O' ρ' σ' y c v H' dd f S r hd hf z => x O' y c v H' dd f S.o r hd hf z
theorem de_callV {X : Cx} {W : WX} {af : AF} {k : Nat} {ps : List Str} {x : Str} {e : Expr} {es : List Expr} {a : AA} {p pos : Pos} (F : Fv X.prog X.w X.K X.mg X.base k x ps af) (tk : Takes X W) (hr : Room k X.A) (hg : Gl X x) (ha : DA X W (e :: es) a)
    (hdb : (x == ("__debug__" : Str)) = false := by decide) (he : starEach (e :: es) X.env = (false, eval e X.env) :: starEach es X.env := by rfl)
    (hpl : (backTo pos (starEach es X.env)).any (·.1) = false := by rfl) : DE X W (.Call (.Name x p) (e :: es) [] pos) (aCall af a) := by
  obtain ⟨t, pa, s⟩ := ha.ex
  exact ⟨tCallS (spG X.K af) (WE W) t, pe_fxS F.ex tk hr hg pa hdb he hpl, sa_call s⟩
end Ab
namespace Ab
open PySem PySem.Spec PyProof.Rows L2 Vg
/-! ## division by a number of either sign -/
/-! ## what the small defs tell -/
def numC : Cl → Bool
  | .dat (.int _) => true
  | _ => false
/-- a thing of a kind, no tuple of owned things -/
def Pl (O : Ob) (c : Cl) : Prop := (∃ n, Kn O c n) ∧ (∀ cs : List Cl, c ≠ .tup cs) ∧ ∀ d : PyData, c ≠ .con d
theorem pl_dat (O : Ob) (d : PyData) : Pl O (.dat d) := ⟨⟨_, .dat d⟩, (fun _ h => nomatch h), fun _ h => nomatch h⟩
def afNum : AF := fun O cs _ Kc => match cs with
  | [c] => (∃ n, Kn O c n) ∧ Kc O (.dat (.bool (numC c)))
  | _ => False
theorem numC_kn {O : Ob} {c : Cl} {n : String} (h : Kn O c n) : numC c = ((n == "int" || n == "bool") && !(n == "bool")) := by
  cases h with
  | dat d => cases d <;> rfl
  | own m => rfl
  | dct m => rfl
  | lis cs => rfl
  | tup cs => rfl
  | con ds => rfl
end Ab
namespace Ab
open PySem PySem.Spec PyProof.Rows L2 Vg
theorem eqv_int (i j : Int) : PyData.eqv (.int i) (.int j) = decide (i = j) := by
  show (i == j) = _
  rw [Bool.beq_eq_decide_eq]
end Ab
namespace Ab
open PySem PySem.Spec PyProof.Rows L2 Vg
/-! ## a fraction in its lowest terms -/
def gsI (a b : Int) : Int := if b < 0 then -gcdI a b else gcdI a b
def lowT (a b : Int) : Int := a.fdiv (gsI a b)
def lowB (a b : Int) : Int := b.fdiv (gsI a b)
def lowD (a b : Int) : PyData := frD (lowT a b) (lowB a b)
theorem gcdI_dvd (a b : Int) : gcdI a b ∣ a ∧ gcdI a b ∣ b := ⟨Int.ofNat_dvd_left.mpr (Nat.gcd_dvd_left _ _), Int.ofNat_dvd_left.mpr (Nat.gcd_dvd_right _ _)⟩
theorem gcdI_pos {a b : Int} (h : b ≠ 0) : 1 ≤ gcdI a b := by
  unfold gcdI
  have := Nat.gcd_pos_of_pos_right a.natAbs (show 0 < b.natAbs by omega)
  omega
theorem gs_ne {a b : Int} (h : b ≠ 0) : gsI a b ≠ 0 := by
  have := gcdI_pos (a := a) h
  unfold gsI
  split <;> omega
theorem gs_dvd (a b : Int) : gsI a b ∣ a ∧ gsI a b ∣ b := by
  have h := gcdI_dvd a b
  unfold gsI
  split
  · exact ⟨Int.neg_dvd.mpr h.1, Int.neg_dvd.mpr h.2⟩
  · exact h
theorem low_mul {a b : Int} (h : b ≠ 0) : lowT a b * gsI a b = a ∧ lowB a b * gsI a b = b := by
  have d := gs_dvd a b
  exact ⟨Int.fdiv_mul_cancel d.1, Int.fdiv_mul_cancel d.2⟩
theorem low_pos {a b : Int} (h : b ≠ 0) : 1 ≤ lowB a b := by
  have m := (low_mul (a := a) h).2
  have g := gcdI_pos (a := a) h
  have gn : gsI a b = if b < 0 then -gcdI a b else gcdI a b := rfl
  refine Int.not_lt.mp fun z => ?_
  by_cases hb : b < 0
  · rw [if_pos hb] at gn
    have : 0 ≤ lowB a b * gsI a b := by
      rw [gn]
      exact Int.mul_nonneg_of_nonpos_of_nonpos (by omega) (by omega)
    omega
  · rw [if_neg hb] at gn
    have : lowB a b * gsI a b ≤ 0 := by
      rw [gn]
      exact Int.mul_nonpos_of_nonpos_of_nonneg (by omega) (by omega)
    omega
theorem low_gcd {a b : Int} (h : b ≠ 0) : gcdI (lowT a b) (lowB a b) = 1 := by
  have m := low_mul (a := a) h
  have g := gcdI_pos (a := a) h
  have gn : (gsI a b).natAbs = Nat.gcd a.natAbs b.natAbs := by
    unfold gsI
    split
    · rw [Int.natAbs_neg]; rfl
    · rfl
  have e1 : a.natAbs = (lowT a b).natAbs * Nat.gcd a.natAbs b.natAbs := by rw [← gn, ← Int.natAbs_mul, m.1]
  have e2 : b.natAbs = (lowB a b).natAbs * Nat.gcd a.natAbs b.natAbs := by rw [← gn, ← Int.natAbs_mul, m.2]
  have gp : 0 < Nat.gcd a.natAbs b.natAbs := Nat.gcd_pos_of_pos_right _ (by omega)
  unfold gcdI
  have e3 : Nat.gcd a.natAbs b.natAbs = Nat.gcd (lowT a b).natAbs (lowB a b).natAbs * Nat.gcd a.natAbs b.natAbs := by
    rw [← Nat.gcd_mul_right, ← e1, ← e2]
  have e4 : Nat.gcd (lowT a b).natAbs (lowB a b).natAbs = 1 := by
    have h5 : 1 * Nat.gcd a.natAbs b.natAbs = Nat.gcd (lowT a b).natAbs (lowB a b).natAbs * Nat.gcd a.natAbs b.natAbs := by omega
    exact (Nat.eq_of_mul_eq_mul_right gp h5).symm
  rw [e4]
  rfl
theorem low_eq {a b : Int} (h : b ≠ 0) : lowT a b * b = lowB a b * a := by
  obtain ⟨m1, m2⟩ := low_mul (a := a) h
  generalize lowT a b = x at *
  generalize lowB a b = y at *
  generalize gsI a b = g at *
  rw [← m1, ← m2]
  grind
/-- there is one fraction in lowest terms of a value -/
theorem low_one {a b c d : Int} (hb : 1 ≤ b) (hd : 1 ≤ d) (hg : gcdI a b = 1) (hk : gcdI c d = 1) (e : a * d = b * c) : a = c ∧ b = d := by
  have n1 : Nat.gcd a.natAbs b.natAbs = 1 := by unfold gcdI at hg; omega
  have n2 : Nat.gcd c.natAbs d.natAbs = 1 := by unfold gcdI at hk; omega
  have en : a.natAbs * d.natAbs = b.natAbs * c.natAbs := by rw [← Int.natAbs_mul, ← Int.natAbs_mul, e]
  have h1 : b.natAbs ∣ d.natAbs := (Nat.Coprime.dvd_of_dvd_mul_left (show Nat.Coprime b.natAbs a.natAbs by rw [Nat.coprime_comm]; exact n1) ⟨_, en⟩)
  have h2 : d.natAbs ∣ b.natAbs := (Nat.Coprime.dvd_of_dvd_mul_right (show Nat.Coprime d.natAbs c.natAbs by rw [Nat.coprime_comm]; exact n2) ⟨a.natAbs, by rw [← en, Nat.mul_comm]⟩)
  have h3 := Nat.dvd_antisymm h1 h2
  have h4 : b = d := by omega
  refine ⟨?_, h4⟩
  subst h4
  exact Int.eq_of_mul_eq_mul_left (show b ≠ 0 by omega) (by rw [← e, Int.mul_comm])
theorem lowT_le {a b : Int} (h : b ≠ 0) : (lowT a b).natAbs ≤ a.natAbs := by
  obtain ⟨m1, _⟩ := low_mul (a := a) h
  have g := gs_ne (a := a) h
  have : a.natAbs = (lowT a b).natAbs * (gsI a b).natAbs := by rw [← Int.natAbs_mul, m1]
  have := Nat.le_mul_of_pos_right (lowT a b).natAbs (show 0 < (gsI a b).natAbs by omega)
  omega
theorem lowB_le {a b : Int} (h : b ≠ 0) : (lowB a b).natAbs ≤ b.natAbs := by
  obtain ⟨_, m1⟩ := low_mul (a := a) h
  have g := gs_ne (a := a) h
  have : b.natAbs = (lowB a b).natAbs * (gsI a b).natAbs := by rw [← Int.natAbs_mul, m1]
  have := Nat.le_mul_of_pos_right (lowB a b).natAbs (show 0 < (gsI a b).natAbs by omega)
  omega
/-! ## what the reckoning defs tell -/
structure Fz (B : Nat) (a b : Int) : Prop where
  b1 : 1 ≤ b
  g : gcdI a b = 1
  ta : a.natAbs < 2 ^ B
  tb : b.natAbs < 2 ^ B
theorem Fz.low {B : Nat} {a b : Int} (h : b ≠ 0) (ha : a.natAbs < 2 ^ B) (hb : b.natAbs < 2 ^ B) : Fz B (lowT a b) (lowB a b) :=
  ⟨low_pos h, low_gcd h, Nat.lt_of_le_of_lt (lowT_le h) ha, Nat.lt_of_le_of_lt (lowB_le h) hb⟩
theorem elsT_tupC' (cs : List Cl) : ElsT (tupC cs) cs := by
  unfold tupC
  split
  · rename_i ds e
    have e' := allD_eq e
    subst e'
    exact .dat ds
  · exact .tup cs
/-- what needing two fractions asks -/
theorem elsT_slR {c : Cl} {cs : List Cl} {lo hi : Option Int} (h : ElsT c cs) : ElsT (slR c cs lo hi) (cutD cs lo hi) := by
  cases h with
  | dat ds => exact elsT_tupC' _
  | tup cs => exact elsT_tupC' _
  | con ds =>
    show ElsT (if _ then _ else _) _
    by_cases e : HT.sIx (ds.map conC).length 0 lo = 0 ∧ HT.sIx (ds.map conC).length (ds.map conC).length hi = (ds.map conC).length
    · rw [if_pos e, cut_all e]
      exact .con ds
    · rw [if_neg e]
      exact elsT_tupC' _
theorem mulC {i j : Int} {a b : Nat} (ha : i.natAbs < 2 ^ a) (hb : j.natAbs < 2 ^ b) (h0 : 0 < a := by decide) (h1 : 0 < b := by decide) (h : a + b ≤ 1000000 := by decide) : CMulW i j := wide_mul ha hb h0 h1 h
theorem addB {i j : Int} {n : Nat} (ha : i.natAbs < 2 ^ n) (hb : j.natAbs < 2 ^ n) : (i + j).natAbs < 2 ^ (n + 1) := by
  have := Int.natAbs_add_le i j
  rw [Nat.pow_succ]
  omega
theorem upB {i : Int} {n m : Nat} (h : i.natAbs < 2 ^ n) (k : n ≤ m) : i.natAbs < 2 ^ m := Nat.lt_of_lt_of_le h (Nat.pow_le_pow_right (by decide) k)
/-! ## == against the list of nothing -/
section
variable {X : Cx} {K : PySem.W.Frag}
def rEqLen (K : PySem.W.Frag) : R2 := fun x y H Q => ∃ a b xs ys, x = .ref a ∧ y = .ref b ∧ SqL K H a xs ∧ SqL K H b ys ∧ ((xs.length ≠ ys.length ∧ Q (.bl false) H) ∨ (xs = [] ∧ ys = [] ∧ Q (.bl true) H))
theorem op_eqLen (hu : X.A.units + 64 < cLine) : OpR X (compareOp .Eq) (rEqLen X.K) := by
  intro pins s σ H x y v u Q I rx ry h
  obtain ⟨a, b, xs, ys, rfl, rfl, ha, hb, h⟩ := h
  rcases h with ⟨hl, q⟩ | ⟨e1, e2, q⟩
  · cases rx
    cases ry
    obtain ⟨its, r1, l1, _⟩ := I.list ha
    obtain ⟨jts, r2, l2, _⟩ := I.list hb
    refine PySem.SeqAt.eq_list_lengthsAt l1.isList l2.isList ?_ (by omega) ⟨.bl false, H, I, rfl, q⟩
    rw [bne_iff_ne]
    have e1 := r1.length
    have e2 := r2.length
    simp only [List.size_toArray]
    omega
  · subst e1 e2
    exact op_eqD hu pins s σ H _ _ v u Q I rx ry ⟨.list [], .list [], .lst ha .nil, .lst hb .nil, by decide +kernel, by decide +kernel, q⟩
def aEqNil : AR2 := fun O c c' Kc => ∃ cs, Els O c cs ∧ c' = .dat (.list []) ∧ Kc O (.dat (.bool cs.isEmpty))
theorem sr_eqNil : SR2 K (rEqLen K) aEqNil := fun O H Q Kc c c' v v' o r r' ⟨cs, h, e, k⟩ q => by
  subst e
  obtain ⟨a, xs, rfl, ha, rs⟩ := h.get o r
  obtain ⟨b, ys, rfl, hb, rs2⟩ := (Els.dat (O := O) []).get o r'
  have ey : ys = [] := by cases rs2; rfl
  subst ey
  refine ⟨a, b, xs, [], rfl, rfl, SqL.of ha, SqL.of hb, ?_⟩
  have k' := q O _ _ H (Fr.refl _ _) o (.dat (.bl _)) k
  cases rs with
  | nil => exact .inr ⟨rfl, rfl, k'⟩
  | cons h r => exact .inl ⟨by simp, k'⟩
end
end Ab
namespace Ab
open PySem PySem.Spec PyProof.Rows L2 Vg
theorem low_is {x y a b : Int} (h : y ≠ 0) (hb : 1 ≤ b) (hg : gcdI a b = 1) (e : x * b = y * a) : lowD x y = frD a b := by
  have l := low_eq (a := x) h
  have k := low_one (low_pos (a := x) h) hb (low_gcd (a := x) h) hg (by
    generalize lowT x y = p at *
    generalize lowB x y = q at *
    refine Int.eq_of_mul_eq_mul_right h ?_
    have e1 : p * b * y = b * (p * y) := by grind
    have e2 : b * (q * x) = q * (x * b) := by grind
    have e3 : q * (y * a) = q * a * y := by grind
    rw [e1, l, e2, e, e3])
  unfold lowD
  rw [k.1, k.2]
end Ab
namespace Ab
open PySem PySem.Spec PyProof.Rows L2 Vg
theorem Fz.up {n m : Nat} {a b : Int} (h : Fz n a b) (k : n ≤ m) : Fz m a b := ⟨h.b1, h.g, upB h.ta k, upB h.tb k⟩
end Ab
namespace Ab
open PySem PySem.Spec PyProof.Rows L2 Vg
structure TxB (e : PyData) : Prop where
  s : e.showable = true
  d : e.depth ≤ 50
  l : e.shown.length ≤ sizeLine
def txB (e : PyData) : Bool := e.showable && decide (e.depth ≤ 50) && decide (e.shown.length ≤ sizeLine)
theorem TxB.by {e : PyData} (h : txB e = true) : TxB e := by
  unfold txB at h
  simp only [Bool.and_eq_true, decide_eq_true_eq] at h
  exact ⟨h.1.1, h.1.2, h.2⟩
/-- one of the things of other kinds, and what becomes of it -/
def oddOk : PyData → Bool
  | .list ds => !PyData.hasDict (.list (ds ++ [PyData.str "more"])) && txB (.list (ds ++ [PyData.str "more"])) && decide (ds.length ≤ 900)
  | .dict kvs => (kvs.map (·.2)).all flatD && decide (kvs.length ≤ 900) && txB (.dict (kvs ++ [(PyData.str "more", PyData.int 1)])) && kvs.all fun kv => match kv.1 with
    | .int _ => true
    | .str z => !decide (z = "more")
    | _ => false
  | d => !d.hasDict && txB d
end Ab
namespace Ab
open PySem PySem.Spec PyProof.Rows L2 Vg
/-! ## data whose text is in bounds, part by part -/
structure Tx1 (w dp : Nat) (d : PyData) : Prop where
  s : d.showable = true
  dp : d.depth ≤ dp
  w : d.weight ≤ w
  l : d.leavesShort 1921 = true
structure TxL (w dp : Nat) (ds : List PyData) : Prop where
  s : PyData.showableAll ds = true
  dp : PyData.depthAll ds ≤ dp
  w : PyData.weightAll ds ≤ w
  l : PyData.leavesShortAll 1921 ds = true
theorem log_lt {n k : Nat} (h : n < 2 ^ k) (hk : 0 < k) : n.log2 < k := by
  by_cases h0 : n = 0
  · subst h0
    exact hk
  · exact (Nat.log2_lt h0).mpr h
theorem tx_int {i : Int} {k : Nat} (h : i.natAbs < 2 ^ k) (dp : Nat) (hk : 0 < k := by decide) (hk2 : k ≤ 1920 := by decide) : Tx1 k dp (.int i) := by
  have hl := log_lt h hk
  have hl2 : i.natAbs.log2 < 1920 := by omega
  refine ⟨?_, ?_, ?_, ?_⟩
  · simp only [PyData.showable, decide_eq_true_eq]; exact hl2
  · simp [PyData.depth]
  · simp only [PyData.weight]
    split <;> omega
  · have := PySem.int_text_length_le (k := 1920) (by decide) hl2
    simp only [PyData.leavesShort, PyData.shown]
    refine decide_eq_true ?_
    rw [PySem.ofString_length]
    exact this
theorem tx_str (x : Str) (dp : Nat) (h : (PyData.str x).leavesShort 1921 = true := by decide +kernel) : Tx1 x.cps.size dp (.str x) :=
  ⟨by simp [PyData.showable], by simp [PyData.depth], by simp [PyData.weight], h⟩
theorem tx_bool (b : Bool) (dp : Nat) : Tx1 0 dp (.bool b) :=
  ⟨by simp [PyData.showable], by simp [PyData.depth], by simp [PyData.weight], by simp [PyData.leavesShort]⟩
theorem txl_nil (w dp : Nat) : TxL w dp [] := ⟨rfl, by simp [PyData.depthAll], by simp [PyData.weightAll], by simp [PyData.leavesShortAll]⟩
theorem txl_cons {w w' dp : Nat} {d : PyData} {ds : List PyData} (h : Tx1 w dp d) (k : TxL w' dp ds) : TxL (w + w' + 1) dp (d :: ds) := by
  refine ⟨?_, ?_, ?_, ?_⟩
  · simp only [PyData.showableAll, h.s, k.s, Bool.and_self]
  · have := h.dp
    have := k.dp
    simp only [PyData.depthAll]
    omega
  · have := h.w
    have := k.w
    simp only [PyData.weightAll]
    omega
  · simp only [PyData.leavesShortAll, Bool.and_eq_true]
    exact ⟨h.l, k.l⟩
theorem tx_list {w dp : Nat} {ds : List PyData} (h : TxL w dp ds) : Tx1 w (dp + 1) (.list ds) := by
  refine ⟨?_, ?_, ?_, ?_⟩
  · simp only [PyData.showable]; exact h.s
  · have := h.dp
    simp only [PyData.depth]
    omega
  · have := h.w
    simp only [PyData.weight]
    omega
  · simp only [PyData.leavesShort]; exact h.l
theorem tx_tup {w dp : Nat} {ds : List PyData} (h : TxL w dp ds) : Tx1 w (dp + 1) (.tuple ds) := by
  refine ⟨?_, ?_, ?_, ?_⟩
  · simp only [PyData.showable]; exact h.s
  · have := h.dp
    simp only [PyData.depth]
    omega
  · have := h.w
    simp only [PyData.weight]
    omega
  · simp only [PyData.leavesShort]; exact h.l
theorem Tx1.txB {w dp : Nat} {d : PyData} (h : Tx1 w dp d) (hw : w ≤ 4000 := by decide) (hd : dp ≤ 50 := by decide) : TxB d := by
  refine ⟨h.s, Nat.le_trans h.dp hd, ?_⟩
  have z := PyData.shown_le 1921 (by decide) d h.l
  have w1 := h.w
  have : (1921 + 2) * d.weight ≤ 1923 * 4000 := Nat.mul_le_mul (by decide) (by omega)
  have e : sizeLine ≥ 8000000 := by decide
  omega
/-! ## == of fractions -/
theorem eqv_fr (a b c d : Int) : PyData.eqv (frD a b) (frD c d) = (decide (a = c) && decide (b = d)) := by
  show (PyData.eqv (.int a) (.int c) && (PyData.eqv (.int b) (.int d) && true)) = _
  rw [eqv_int, eqv_int, Bool.and_true]
end Ab
namespace Ab
open PySem PySem.Spec PyProof.Rows L2 Vg
section
variable {X : Cx} {W : WX}
/-! ## name = [.. for ..] on one line -/
theorem ds_setLc {elt tg iter : Expr} {scope : Scope} {x y : Str} {i j : Nat} {pos py spos : Pos} {it : AIt} {b : AE} (hy : X.N[j]? = some y) (hyl : X.env.scope.names.lookup y = some .local)
    (hsw : swapsWith (.ListComp elt [⟨tg, iter, [], 0⟩] scope pos) (some (.Name y py)) spos.line X.env = pure true) (own : Bool) (hc : X.calm = true) (hN : X.N.Nodup) (hi : DI X W tg iter it) (ok : BlkOk X.N X.env.scope scope [(x, i)])
    (hg : ∀ (s : Shared) (H : Hp) (C : Addr) (cl : List (Str × Addr)) (fp : List Addr), PG (X.blk s H scope (compEnvC scope cl C X.env) fp) tg (gName i))
    (he : ∀ (s : Shared) (H : Hp) (C : Addr) (cl : List (Str × Addr)) (fp : List Addr), DE (X.blk s H scope (compEnvC scope cl C X.env) fp) W0 elt b) (hs : ∀ x, foldedSetIterable iter X.env x = pure x := by intro _; rfl) :
    DS X W (.Assign [.Name y py] (.ListComp elt [⟨tg, iter, [], 0⟩] scope pos) spos) (aAsg (aLc own it i (fun O _ _ Kc => Kc O true) b) (aName j)) := by
  obtain ⟨wi, p, s⟩ := hi.ex
  refine ⟨_, ps_setLc (own := [(x, i)]) (g := gName i) (tt := tYes) (te := upE X.K W0 b) hc hN hy hyl hsw p ok hg (fun _ _ _ _ _ => pts_nil) (fun s H C cl fp => (he s H C cl fp).pe) hs, ?_⟩
  exact sas_asg (sa_lc s (fun O ρ σ H Q Kc XX S k q x => q O true H (Fr.refl _ _) S.o k) up_e) sag_name
end
theorem elsC (O : Ob) (cs : List Cl) : Els O (lisC cs) cs := by
  unfold lisC
  cases e : allD cs with
  | none => exact .lis cs
  | some ds =>
    have h := allD_eq e
    subst h
    exact .dat ds
theorem elsTC (cs : List Cl) : ElsT (tupC cs) cs := by
  unfold tupC
  cases e : allD cs with
  | none => exact .tup cs
  | some ds =>
    have h := allD_eq e
    subst h
    exact .dat ds
/-! ## owned things behind others -/
theorem Lo.app {O : Ob} {a : Addr} {w : Ow} {f : Ow → Ob} (h : Lo O a w f) : ∀ G : Ob, Lo (G ++ O) a w (fun w' => G ++ f w')
  | [] => h
  | _ :: G => .there (Lo.app h G)
theorem odd_pl {d : PyData} {c : Cl} {G : Ob} (h : Odd d c G) (O : Ob) (m : ∀ x ∈ G, x ∈ O) : Pl O c := by
  cases h with
  | imm h1 h2 => exact pl_dat _ _
  | @lst a ds => exact ⟨⟨_, .own (m _ (List.mem_cons_self ..))⟩, (fun _ z => nomatch z), fun _ z => nomatch z⟩
  | @dct a kvs es hk hc => exact ⟨⟨_, .dct (m _ (List.mem_cons_self ..))⟩, (fun _ z => nomatch z), fun _ z => nomatch z⟩
/-! ## a fraction, or one of the things of other kinds -/
def smD : PyData → Bool
  | .tuple [.int a, .int b] => decide (a.natAbs < 2 ^ 100) && decide (b.natAbs < 2 ^ 100)
  | _ => true
def Th (ds : List PyData) (c : Cl) (G : Ob) : Prop := (∃ a b, c = .dat (frD a b) ∧ Fz 100 a b ∧ G = []) ∨ ∃ d ∈ ds, oddOk d = true ∧ smD d = true ∧ Odd d c G
theorem Th.pl {ds : List PyData} {c : Cl} {G : Ob} (h : Th ds c G) (O : Ob) (m : ∀ x ∈ G, x ∈ O) : Pl O c := by
  rcases h with ⟨a, b, rfl, _, _⟩ | ⟨d, _, _, _, h⟩
  · exact pl_dat _ _
  · exact odd_pl h O m
end Ab
namespace Ab
open PySem PySem.Spec PyProof.Rows L2 Vg
/-! ## a tuple of texts of the module -/
def ctV : List PyData → List Value → Bool
  | [], [] => true
  | .str x :: ds, .str y _ :: vs => decide (x = y) && ctV ds vs
  | _, _ => false
def ctOk (o : Obj) (ds : List PyData) : Bool := match o.cls, o.data with
  | .type t, .seq its n => decide (t = "tuple") && decide (its.size ≤ 1000) && ctV ds its.toList && ds.all flatD
  | _, _ => false
theorem ctV_vals : ∀ {ds : List PyData} {vs : List Value}, ctV ds vs = true → Vals (ds.map vD) vs
  | [], [], _ => .nil
  | .str x :: ds, .str y t :: vs, h => by
    have h' := Bool.and_eq_true_iff.mp (show (decide (x = y) && ctV ds vs) = true from h)
    have e := of_decide_eq_true h'.1
    subst e
    exact .cons ⟨t, rfl⟩ (ctV_vals h'.2)
structure CtB (K : PySem.W.Frag) (a : Addr) (ds : List PyData) : Prop where
  ex : ∃ (o : Obj) (its : Array Value) (n : Nat), K.lookup a = some o ∧ o.cls = .type "tuple" ∧ o.data = .seq its n ∧ its.size ≤ sizeLine ∧ Vals (ds.map vD) its.toList
  fl : ds.all flatD = true
structure CtK (K : PySem.W.Frag) (x : Str) (ds : List PyData) : Prop where
  ex : ∃ a, PySem.W.nsIn K mainGlobals x = some (some (.ref a)) ∧ CtB K a ds
structure CtIn (K : PySem.W.Frag) (mg : Str → Option Value) (x : Str) (ds : List PyData) : Prop where
  ex : ∃ a, mg x = some (.ref a) ∧ CtB K a ds
theorem CtK.by {K : PySem.W.Frag} {x : Str} {ds : List PyData} {a : Addr} {o : Obj} (h : PySem.W.nsIn K mainGlobals x = some (some (.ref a))) (l : K.lookup a = some o) (r : ctOk o ds = true) : CtK K x ds := by
  refine ⟨a, h, ?_⟩
  unfold ctOk at r
  split at r
  · rename_i t its n e1 e2
    simp only [Bool.and_eq_true, decide_eq_true_eq] at r
    obtain ⟨⟨⟨h1, h2⟩, h3⟩, h4⟩ := r
    subst h1
    exact ⟨⟨o, its, n, l, e1, e2, Nat.le_trans h2 (by decide), ctV_vals h3⟩, h4⟩
  · cases r
theorem CtK.at {K : PySem.W.Frag} {h : Heap} {mg : Str → Option Value} {x : Str} {ds : List PyData} (D : CtK K x ds) (X : K.In h) (G : h.Ns mainGlobals mg) : CtIn K mg x ds := by
  obtain ⟨a, e, b⟩ := D.ex
  exact ⟨a, PySem.W.mg_of X G e, b⟩
def aInK (ds : List PyData) : AR1 := fun O c Kc => ∃ d, c = .dat d ∧ flatD d = true ∧ Kc O (.dat (.bool (inV (vD d) (ds.map vD))))
theorem vD_flat {ds : List PyData} (h : ds.all flatD = true) : (ds.map vD).all flatV = true := by
  rw [List.all_map]
  refine List.all_eq_true.mpr fun d hd => ?_
  have := (List.all_eq_true.mp h) d hd
  cases d <;> first | rfl | cases this
section
variable {X : Cx} {W : WX}
theorem sa_inK {K : PySem.W.Frag} {a : Addr} {ds : List PyData} {t : TE} {aa : AE} (B : CtB K a ds) (h : SaE K W t aa) : SaE K W (tOp (rIn K false) t (tC (.ref a))) (aUn (aInK ds) aa) := fun O ρ σ H Q Kc XX S k q x =>
  h O ρ σ H _ _ XX S k (fun O1 c v H1 f1 o1 r1 ⟨d, e, fd, k1⟩ => by
    subst e
    cases r1 with
    | dat hd =>
      obtain ⟨e2, q2⟩ := vD_of hd fd
      subst e2
      obtain ⟨o, its, n, l1, l2, l3, l4, l5⟩ := B.ex
      exact ⟨a, _, rfl, .inr (.inr ⟨o, its, n, l1, l2, l3, l4, l5⟩), q2, vD_flat B.fl, q O1 _ _ H1 f1 o1 (.dat (.bl _)) k1⟩) x
theorem de_inK {x : Str} {ds : List PyData} {a : Expr} {aa : AE} {p pos : Pos} (ha : DE X W a aa) (C : CtIn X.K X.mg x ds) (hg : Gl X x := by rfl) (hdb : (x == ("__debug__" : Str)) = false := by decide) (hm : behindInMarks .In (.Name x p) = false := by rfl) :
    DE X W (.Compare a [.In] [.Name x p] pos) (aUn (aInK ds) aa) := by
  obtain ⟨t, pa, s⟩ := ha.ex
  obtain ⟨b, e, B⟩ := C.ex
  exact ⟨_, pe_cmpR op_in_seq pa (pe_glob (v := .ref b) hg e rfl hdb) hm, sa_inK B s⟩
end
/-! ## a def with a default, called in each way -/
structure FvD (P : Program) (w : World) (K : PySem.W.Frag) (mg : Str → Option Value) (base : Heap) (k : Nat) (x : Str) (ps : List Str) (kw : Str) (dv : PyData) (af : AF) : Prop where
  ex : ∃ (f : Addr) (fd : FuncData) (d : Value), mg x = some (.ref f) ∧ PySem.W.keepIn K (.ref f) = true ∧ Binds K fd ps [] ∧ Binds K fd ps [d] ∧ (∀ (s : Shared) (us : List Value) (u : Value), K.In s.heap → us.length + 1 = ps.length → BindsTo s fd ⟨us, [(kw, u)]⟩ (ps.zip (us ++ [u]))) ∧
    (∃ v, L2.RelV v d ∧ ∀ ok H, Dq ok H v dv) ∧ FnOk P w K mg base (L2.CX P w) k f fd ps (spG K af)
theorem fvd_of {P : Program} {w : World} {K : PySem.W.Frag} {mg : Str → Option Value} {base : Heap} {k : Nat} {x kw : Str} {st : Stmt} {N ps : List Str} {v : V} {dv : PyData} {af : AF} (D : AtD K mg x st [v]) (S : FnScope N ps (defScope st)) (hv : ∀ ok H, Dq ok H v dv)
    (hb : ∀ (T : Addr) (kV doc pm : Value) (an : Option Addr) (cdv ct : Value) (us its : List Value), us.length = ps.length → its.length = 1 →
      ∃ k, bindArgs (PySem.W.fnOf x x (defArgs st) (defBody st) (defScope st) (.ref T) kV doc pm an cdv ct) ⟨us, []⟩ = seqItems? (.ref T) >>= k ∧ k (some its.toArray) = pure (ps.zip us))
    (hb1 : ∀ (T : Addr) (kV doc pm : Value) (an : Option Addr) (cdv ct : Value) (us its : List Value), us.length + 1 = ps.length → its.length = 1 →
      ∃ k, bindArgs (PySem.W.fnOf x x (defArgs st) (defBody st) (defScope st) (.ref T) kV doc pm an cdv ct) ⟨us, []⟩ = seqItems? (.ref T) >>= k ∧ k (some its.toArray) = pure (ps.zip (us ++ its)))
    (hbk : ∀ (T : Addr) (kV doc pm : Value) (an : Option Addr) (cdv ct : Value) (us its : List Value) (u : Value), us.length + 1 = ps.length → its.length = 1 →
      ∃ k, bindArgs (PySem.W.fnOf x x (defArgs st) (defBody st) (defScope st) (.ref T) kV doc pm an cdv ct) ⟨us, [(kw, u)]⟩ = seqItems? (.ref T) >>= k ∧ k (some its.toArray) = pure (ps.zip (us ++ [u])))
    (hp : 1 ≤ ps.length)
    (hl : ∀ O cs Xf Kc, af O cs Xf Kc → cs.length = ps.length)
    (body : ∀ (f : Addr) (cdv : Value) (A : Around) (outer : List Env) (s : Shared) (H : Hp) (E : XK),
      Room k (A.deeper (envOfC x (defScope st) s.heap.objs.size f cdv)) →
      ∃ a : AS, DSs (cxOf (L2.CX P w) P w K mg base N x (defScope st) f cdv A outer s H E) (fun cls d _ H => E cls d H) (defBody st) a ∧
        ∀ O cs Xf Kc, af O cs Xf Kc → a { nx := fun O' _ => Kc O' (.dat .none), rt := Kc } (fun O' _ y c => Xf O' y c) O (cs.map some ++ List.replicate (N.length - cs.length) none)) :
    FvD P w K mg base (k + 1) x ps kw dv af := by
  obtain ⟨f, fd, hm, F⟩ := D.ex
  obtain ⟨ds0, r0, b0⟩ := F.binds1 (ps := ps) ps.length 1 (by simp) (by simp) fun T kV doc pm an cdv ct us its h1 h2 => by
    obtain ⟨k, e1, e2⟩ := hb T kV doc pm an cdv ct us its h1 (by simpa using h2)
    refine ⟨k, e1, ?_⟩
    rw [e2]
    have : its.drop 1 = [] := by
      match its, h2 with
      | [_], _ => rfl
    rw [this, List.append_nil]
  obtain ⟨ds1, r1, b1⟩ := F.binds1 (ps := ps) (ps.length - 1) 0 (by simp) (by simp; omega) fun T kV doc pm an cdv ct us its h1 h2 => by
    obtain ⟨k, e1, e2⟩ := hb1 T kV doc pm an cdv ct us its (by omega) (by simpa using h2)
    exact ⟨k, e1, e2⟩
  have e0 : ds0 = [] := by
    cases r0
    rfl
  subst e0
  obtain ⟨d, rfl, rd⟩ : ∃ d, ds1 = [d] ∧ L2.RelV v d := by
    cases r1 with
    | cons a b => cases b; exact ⟨_, rfl, a⟩
  refine ⟨f, fd, d, hm, F.kp, b0, b1, fun s us u hin hlen => ?_, ⟨v, rd, hv⟩, F.ok S (fun vs H Q E ⟨O, cs, Xf, Kc, o, r, h, _, _⟩ => r.len.trans (hl O cs Xf Kc h)) fun cdv A outer s H vs Q E hr ⟨O, cs, Xf, Kc, o, r, h, q, x⟩ => ?_⟩
  · obtain ⟨oc, od, dV, kV, doc, pm, an, cdv, ct, osl, rfl, lk, hcd, hD, hK⟩ := F.ex
    rcases hD with ⟨e, _⟩ | ⟨_, T, o, its, m, rfl, lT, oT, rT⟩
    · cases e
    · obtain ⟨k, e1, e2⟩ := hbk T kV doc pm an cdv ct us its u hlen (by have := rT.length; simpa using this.symm)
      refine BindsTo.of_looks fun M => ?_
      rw [e1]
      exact looks_items hin lT oT (.of_pure e2)
  · obtain ⟨a, ⟨t, p, sa⟩, k⟩ := body f cdv A outer s H E hr
    refine ⟨t, p, sa O _ _ H _ _ _ (start_ss o r) (k O cs Xf Kc h) ⟨fun O' ρ' σ' H' f S k' => ?_, q, fun _ _ _ _ _ _ z => z.elim, fun _ _ _ _ _ _ z => z.elim⟩ ?_⟩
    · exact q O' _ _ H' f S.o (.dat .non) k'
    · exact fun O' ρ' σ' y c v H' dd f S r hd hf z => x O' y c v H' dd f S.o r hd hf z
section
variable {X : Cx} {W : WX} {af : AF} {dv : PyData} {k : Nat} {ps : List Str} {x kw : Str} {e : Expr} {es : List Expr} {a : AA} {p pos : Pos}
theorem FvD.fx {P : Program} {w : World} {K : PySem.W.Frag} {mg : Str → Option Value} {base : Heap} (F : FvD P w K mg base k x ps kw dv af) : Fv P w K mg base k x ps af := by
  obtain ⟨f, fd, d, hm, hk, b0, b1, bk, hv, F⟩ := F.ex
  exact ⟨f, fd, hm, hk, b0, F⟩
theorem de_callW0 (F : FvD X.prog X.w X.K X.mg X.base k x ps kw dv af) (tk : Takes X W) (hr : Room k X.A) (hg : Gl X x) (ha : DA X W (e :: es) a)
    (hdb : (x == ("__debug__" : Str)) = false := by decide) (he : starEach (e :: es) X.env = (false, eval e X.env) :: starEach es X.env := by rfl)
    (hpl : (backTo pos (starEach es X.env)).any (·.1) = false := by rfl) : DE X W (.Call (.Name x p) (e :: es) [] pos) (aCall af a) := de_callV F.fx tk hr hg ha hdb he hpl
/-- f(a, .., name = b) -/
def aCallK (af : AF) (a : AA) (b : AE) : AE := fun O ρ XX Kc => a O ρ XX fun O1 cs => b O1 ρ XX fun O2 c => af O2 (cs ++ [c]) (fun O' x c => XX O' ρ x c) Kc
end
/-! ## a, b = [..] -/
/-! ## a thing of other kinds, into which something was put n times -/
def mores (n : Nat) : List PyData := List.replicate n (.str "more")
abbrev moreE : Key × Cl := (.inr "more", .dat (.int 1))
inductive OddM (n : Nat) : PyData → Cl → Ob → Prop
  | imm {d : PyData} (h : ∀ ds, d ≠ .list ds) (k : ∀ es, d ≠ .dict es) : OddM n d (.dat d) []
  | lst {a : Addr} (ds : List PyData) : OddM n (.list ds) (.at a) [(a, .lst ((ds ++ mores n).map .dat))]
  | dct {a : Addr} (kvs : List (PyData × PyData)) (es : List (Key × Cl)) (k : es.map (fun e => kD e.1) = kvs.map (·.1)) (c : es.map (·.2) = (kvs.map (·.2)).map .dat) : OddM n (.dict kvs) (.at a) [(a, .dct (if n = 0 then es else es ++ [moreE]))]
def oddOk5 : PyData → Bool
  | .list ds => (List.range 6).all (fun n => !PyData.hasDict (.list (ds ++ mores n)) && txB (.list (ds ++ mores n))) && decide (ds.length ≤ 800)
  | .dict kvs => oddOk (.dict kvs) && decide (kvs.length ≤ 800)
  | d => oddOk d
theorem Odd.m {d : PyData} {c : Cl} {G : Ob} (h : Odd d c G) : OddM 0 d c G := by
  cases h with
  | imm h k => exact .imm h k
  | @lst a ds =>
    have z := OddM.lst (n := 0) (a := a) ds
    rw [show mores 0 = [] from rfl, List.append_nil] at z
    exact z
  | @dct a kvs es k c => exact OddM.dct (n := 0) (a := a) kvs es k c
theorem OddM.pl {n : Nat} {d : PyData} {c : Cl} {G : Ob} (h : OddM n d c G) (O : Ob) (m : ∀ x ∈ G, x ∈ O) : Pl O c := by
  cases h with
  | imm h1 h2 => exact pl_dat _ _
  | lst ds => exact ⟨⟨_, .own (m _ (List.mem_cons_self ..))⟩, (fun _ z => nomatch z), fun _ z => nomatch z⟩
  | dct kvs es hk hc => exact ⟨⟨_, .dct (m _ (List.mem_cons_self ..))⟩, (fun _ z => nomatch z), fun _ z => nomatch z⟩
end Ab
namespace Ab
open PySem PySem.Spec PyProof.Rows L2 Vg
section
variable {K : PySem.W.Frag} {W : WX}
/-! ## numbers in texts -/
/-! ## partition, split -/
def aPartn (a b : AE) : AE := fun O ρ XX Kc => a O ρ XX fun O1 c => ∃ z : Str, c = .dat (.str z) ∧ b O1 ρ XX fun O2 d => ∃ y : Str, d = .dat (.str y) ∧ (y.length == 0) = false ∧ z.length ≤ sizeLine ∧ Kc O2 (.dat (.tuple [.str (Txt.partition z y).1, .str (Txt.partition z y).2.1, .str (Txt.partition z y).2.2]))
def aSplit (a b : AE) : AE := fun O ρ XX Kc => a O ρ XX fun O1 c => ∃ z : Str, c = .dat (.str z) ∧ b O1 ρ XX fun O2 d => ∃ y : Str, d = .dat (.str y) ∧ (y.length == 0) = false ∧ z.length + 2 ≤ sizeLine ∧ Kc O2 (.dat (.list ((Txt.split z y).map PyData.str)))
end
section
variable {X : Cx} {W : WX} {o e : Expr} {a b : AE} {apos pos : Pos}
end
/-! ## a text cut at a sign -/
abbrev cps (z : Str) : List Nat := z.cps.toList
/-! ## goals that go on in the same way, however they came there -/
end Ab
namespace Ab
open PySem PySem.Spec PyProof.Rows L2 Vg
section
variable {X : Cx} {W : WX}
/-! ## two derivations of one expression: which one holds is known where the cell is known -/
def aEi (a b : AE) : AE := fun O ρ XX Kc => a O ρ XX Kc ∨ b O ρ XX Kc
theorem de_or2 {e : Expr} {a b : AE} (h : DE X W e a) (k : DE X W e b) : DE X W e (aEi a b) := by
  obtain ⟨t, p, s⟩ := h.ex
  obtain ⟨u, p2, s2⟩ := k.ex
  exact ⟨fun σ H Q => t σ H Q ∨ u σ H Q, ⟨fun pins s1 σ H Q I z => z.elim (p.run pins s1 σ H Q I) (p2.run pins s1 σ H Q I)⟩,
    fun O ρ σ H Q Kc XX S z q x => z.imp (fun z => s O ρ σ H Q Kc XX S z q x) (fun z => s2 O ρ σ H Q Kc XX S z q x)⟩
def aIi (a b : AIt) : AIt := fun O ρ XX Kc => a O ρ XX Kc ∨ b O ρ XX Kc
theorem di_or2 {tg e : Expr} {a b : AIt} (h : DI X W tg e a) (k : DI X W tg e b) : DI X W tg e (aIi a b) := by
  obtain ⟨t, p, s⟩ := h.ex
  obtain ⟨u, p2, s2⟩ := k.ex
  exact ⟨fun σ H R => t σ H R ∨ u σ H R, ⟨fun pins s1 σ H R I z => z.elim (p.run pins s1 σ H R I) (p2.run pins s1 σ H R I)⟩,
    fun O ρ σ H R Kc XX S z q x => z.imp (fun z => s O ρ σ H R Kc XX S z q x) (fun z => s2 O ρ σ H R Kc XX S z q x)⟩
end
/-! ## what a def that looks at lists sees -/
def RdA (O : Ob) (c : Cl) : Option (List Cl) → Prop
  | none => ∃ n, Kn O c n ∧ (n == "list" || n == "tuple") = false
  | some es => ((Els O c es ∧ Kn O c "list") ∨ (ElsT c es ∧ Kn O c "tuple")) ∧ (∀ e ∈ es, ∃ n, Kn O e n) ∧ es.length < 1000000
theorem Kn.up {O : Ob} {c : Cl} {n : String} (h : Kn O c n) (x : Addr × Ow) : Kn (x :: O) c n := by
  cases h with
  | dat d => exact .dat d
  | own m => exact .own (List.mem_cons_of_mem _ m)
  | dct m => exact .dct (List.mem_cons_of_mem _ m)
  | lis cs => exact .lis cs
  | tup cs => exact .tup cs
  | con ds => exact .con ds
theorem Els.up {O : Ob} {c : Cl} {es : List Cl} (h : Els O c es) (x : Addr × Ow) : Els (x :: O) c es := by
  cases h with
  | dat => exact .dat _
  | own m => exact .own (List.mem_cons_of_mem _ m)
  | lis => exact .lis _
theorem RdA.up {O : Ob} {c : Cl} {r : Option (List Cl)} (h : RdA O c r) (x : Addr × Ow) : RdA (x :: O) c r := by
  cases r with
  | none =>
    obtain ⟨n, hn, e⟩ := h
    exact ⟨n, hn.up x, e⟩
  | some es =>
    obtain ⟨h1, h2, h3⟩ := h
    exact ⟨h1.imp (fun z => ⟨z.1.up x, z.2.up x⟩) (fun z => ⟨z.1, z.2.up x⟩), fun e he => (h2 e he).imp fun n hn => hn.up x, h3⟩
theorem RdA.kn {O : Ob} {c : Cl} {r : Option (List Cl)} (h : RdA O c r) : ∃ n, Kn O c n ∧ (n == "list" || n == "tuple") = r.isSome := by
  cases r with
  | none => exact h
  | some es =>
    rcases h.1 with ⟨_, h⟩ | ⟨_, h⟩
    · exact ⟨_, h, rfl⟩
    · exact ⟨_, h, rfl⟩
/-- a list or a tuple is gone through -/
theorem RdA.it {O : Ob} {c : Cl} {es : List Cl} (h : RdA O c (some es)) {ρ : Rho} {XX : XC} {i : Nat} {Kc : Ob → List Cl → (Ob → Prop) → Prop} (hi : ρ[i]? = some (some c)) (k1 : Kc O es fun O2 => Els O2 c es) (k2 : Kc O es fun _ => True) :
    aIi (aItL (aVar i)) (aItT (aVar i)) O ρ XX Kc := by
  rcases h.1 with ⟨h, _⟩ | ⟨h, _⟩
  · exact .inl ⟨c, hi, es, h, k1⟩
  · exact .inr ⟨c, hi, es, h, k2⟩
/-- its length -/
theorem RdA.len {O : Ob} {c : Cl} {es : List Cl} (h : RdA O c (some es)) {Kc : KC} (k : Kc O (.dat (.int es.length))) : bLen O [c] Kc := by
  rcases h.1 with ⟨h, _⟩ | ⟨h, _⟩
  · exact ⟨c, es.length, rfl, .inl ⟨es, .inl h, rfl⟩, k⟩
  · exact ⟨c, es.length, rfl, .inl ⟨es, .inr h, rfl⟩, k⟩
/-! ## lists of whole numbers -/
def intsC : List Cl → Option (List Int)
  | [] => some []
  | .dat (.int i) :: cs => (intsC cs).map (i :: ·)
  | _ => none
def iCl (is : List Int) : List Cl := is.map fun i => .dat (.int i)
theorem intsC_eq : ∀ {cs : List Cl} {is : List Int}, intsC cs = some is → cs = iCl is
  | [], is, h => by cases h; rfl
  | .dat (.int i) :: cs, is, h => by
    obtain ⟨js, e1, e2⟩ := Option.map_eq_some_iff.mp (show (intsC cs).map (i :: ·) = some is from h)
    rw [← e2, intsC_eq e1]
    rfl
  | .dat .none :: _, _, h => by cases h
  | .dat (.bool _) :: _, _, h => by cases h
  | .dat (.str _) :: _, _, h => by cases h
  | .dat (.list _) :: _, _, h => by cases h
  | .dat (.tuple _) :: _, _, h => by cases h
  | .dat (.dict _) :: _, _, h => by cases h
  | .at _ :: _, _, h => by cases h
  | .raw _ :: _, _, h => by cases h
  | .scr _ :: _, _, h => by cases h
  | .lis _ :: _, _, h => by cases h
  | .tup _ :: _, _, h => by cases h
  | .exc _ _ _ _ :: _, _, h => by cases h
  | .con _ :: _, _, h => by cases h
theorem intsC_some (is : List Int) : intsC (iCl is) = some is := by
  induction is with
  | nil => rfl
  | cons i is ih =>
    show (intsC (iCl is)).map (i :: ·) = _
    rw [ih]
    rfl
theorem intsC_all : ∀ cs : List Cl, cs.all numC = (intsC cs).isSome
  | [] => rfl
  | .dat (.int i) :: cs => by
    show (true && cs.all numC) = ((intsC cs).map (i :: ·)).isSome
    rw [Bool.true_and, intsC_all cs]
    cases intsC cs <;> rfl
  | .dat .none :: _ => rfl
  | .dat (.bool _) :: _ => rfl
  | .dat (.str _) :: _ => rfl
  | .dat (.list _) :: _ => rfl
  | .dat (.tuple _) :: _ => rfl
  | .dat (.dict _) :: _ => rfl
  | .at _ :: _ => rfl
  | .raw _ :: _ => rfl
  | .scr _ :: _ => rfl
  | .lis _ :: _ => rfl
  | .tup _ :: _ => rfl
  | .exc _ _ _ _ :: _ => rfl
  | .con _ :: _ => rfl
/-! ## zip of two lists, of two tuples -/
def zipC (es fs : List Cl) : List Cl := List.zipWith (fun e f => tupC [e, f]) es fs
theorem zipC_get {es fs : List Cl} {j : Nat} {e : Cl} (h : (zipC es fs)[j]? = some e) : ∃ x y, es[j]? = some x ∧ fs[j]? = some y ∧ e = tupC [x, y] := by
  unfold zipC at h
  rw [List.getElem?_zipWith] at h
  cases h1 : es[j]? with
  | none => rw [h1] at h; cases h
  | some x =>
    cases h2 : fs[j]? with
    | none => rw [h1, h2] at h; cases h
    | some y =>
      rw [h1, h2] at h
      cases h
      exact ⟨x, y, rfl, rfl, rfl⟩
theorem zipC_len (es fs : List Cl) : (zipC es fs).length = min es.length fs.length := List.length_zipWith
section
variable {K : PySem.W.Frag} {W : WX}
theorem itok_zip {O : Ob} {H : Hp} {a b : Addr} {c d : Cl} {es fs : List Cl} (r : ClH K (fre O) H (.ref a) c) (r' : ClH K (fre O) H (.ref b) d) : ItOk K O H (Itz K a b) (zipC es fs) (fun O2 => Els O2 c es ∧ Els O2 d fs) := by
  have two : ∀ O' H', Fr O H O' H' → OkO K O' H' → Els O' c es ∧ Els O' d fs → ∃ xs ys, SqL K H' a xs ∧ SqL K H' b ys ∧ ClsH K (fre O') H' xs es ∧ ClsH K (fre O') H' ys fs := fun O' H' f o ⟨s1, s2⟩ => by
    obtain ⟨p, xs, ep, h1, q1⟩ := s1.get o (r.fr f)
    obtain ⟨q, ys, eq, h2, q2⟩ := s2.get o (r'.fr f)
    cases ep
    cases eq
    exact ⟨xs, ys, SqL.of h1, SqL.of h2, q1, q2⟩
  refine ⟨fun O' H' j e f o st hj => ?_, fun O' H' H2 j e v f o st hj hy => ?_, fun O' H' f o st => ?_⟩
  · obtain ⟨xs, ys, h1, h2, q1, q2⟩ := two O' H' f o st
    obtain ⟨x, y, e1, e2, _⟩ := zipC_get hj
    obtain ⟨u, hu, _⟩ := q1.get e1
    obtain ⟨w, hw, _⟩ := q2.get e2
    exact ⟨xs, ys, u, w, h1, h2, hu, hw⟩
  · obtain ⟨xs, ys, h1, h2, q1, q2⟩ := two O' H' f o st
    obtain ⟨x, y, e1, e2, rfl⟩ := zipC_get hj
    obtain ⟨u, hu, ru⟩ := q1.get e1
    obtain ⟨w, hw, rw'⟩ := q2.get e2
    obtain ⟨T, u', w', rfl, hT, rfl, k1, k2⟩ := hy
    have eu : u' = u := by
      have := k1 xs h1
      rw [hu] at this
      exact (Option.some.inj this).symm
    have ew : w' = w := by
      have := k2 ys h2
      rw [hw] at this
      exact (Option.some.inj this).symm
    subst eu ew
    obtain ⟨o2, f2, n⟩ := o.new (u := .tup [u', w']) hT
    exact ⟨o2, f2, cl_tup n upd_same (.cons (ru.fr f2) (.cons (rw'.fr f2) .nil))⟩
  · obtain ⟨xs, ys, h1, h2, q1, q2⟩ := two O' H' f o st
    refine ⟨xs, ys, h1, h2, ?_⟩
    rw [zipC_len, q1.len, q2.len]
    omega
theorem itok_zipT {O : Ob} {H : Hp} {a b : Addr} {c d : Cl} {es fs : List Cl} (r : ClH K (fre O) H (.ref a) c) (r' : ClH K (fre O) H (.ref b) d) (s1 : ElsT c es) (s2 : ElsT d fs) : ItOk K O H (RZ.ItzT K a b) (zipC es fs) (fun _ => True) := by
  have two : ∀ O' H', Fr O H O' H' → OkO K O' H' → ∃ xs ys, SqT K H' a xs ∧ SqT K H' b ys ∧ ClsH K (fre O') H' xs es ∧ ClsH K (fre O') H' ys fs := fun O' H' f o => by
    obtain ⟨p, xs, ep, h1, q1⟩ := s1.get (r.fr f)
    obtain ⟨q, ys, eq, h2, q2⟩ := s2.get (r'.fr f)
    cases ep
    cases eq
    exact ⟨xs, ys, h1, h2, q1, q2⟩
  refine ⟨fun O' H' j e f o st hj => ?_, fun O' H' H2 j e v f o st hj hy => ?_, fun O' H' f o st => ?_⟩
  · obtain ⟨xs, ys, h1, h2, q1, q2⟩ := two O' H' f o
    obtain ⟨x, y, e1, e2, _⟩ := zipC_get hj
    obtain ⟨u, hu, _⟩ := q1.get e1
    obtain ⟨w, hw, _⟩ := q2.get e2
    exact ⟨xs, ys, u, w, h1, h2, hu, hw⟩
  · obtain ⟨xs, ys, h1, h2, q1, q2⟩ := two O' H' f o
    obtain ⟨x, y, e1, e2, rfl⟩ := zipC_get hj
    obtain ⟨u, hu, ru⟩ := q1.get e1
    obtain ⟨w, hw, rw'⟩ := q2.get e2
    obtain ⟨T, u', w', rfl, hT, rfl, k1, k2⟩ := hy
    have eu : u' = u := by
      have := k1 xs h1
      rw [hu] at this
      exact (Option.some.inj this).symm
    have ew : w' = w := by
      have := k2 ys h2
      rw [hw] at this
      exact (Option.some.inj this).symm
    subst eu ew
    obtain ⟨o2, f2, n⟩ := o.new (u := .tup [u', w']) hT
    exact ⟨o2, f2, cl_tup n upd_same (.cons (ru.fr f2) (.cons (rw'.fr f2) .nil))⟩
  · obtain ⟨xs, ys, h1, h2, q1, q2⟩ := two O' H' f o
    refine ⟨xs, ys, h1, h2, ?_⟩
    rw [zipC_len, q1.len, q2.len]
    omega
def aItZ (a : AA) : AIt := fun O ρ XX Kc => a O ρ XX fun O1 cs => ∃ c d es fs, cs = [c, d] ∧
  ((Els O1 c es ∧ Els O1 d fs ∧ Kc O1 (zipC es fs) fun O2 => Els O2 c es ∧ Els O2 d fs) ∨ (ElsT c es ∧ ElsT d fs ∧ Kc O1 (zipC es fs) fun _ => True))
theorem sai_zip {t : TA} {a : AA} (ha : SaA K W t a) : SaI K W (RZ.iZipA K t) (aItZ a) := fun O ρ σ H R Kc XX S k q x =>
  ha O ρ σ H _ _ XX S k (fun O1 cs vs H1 f1 o1 r1 ⟨c, d, es, fs, e, h⟩ => by
    subst e
    obtain ⟨v, w, rfl, rv, rw'⟩ := cls2 r1
    rcases h with ⟨s1, s2, k1⟩ | ⟨s1, s2, k1⟩
    · obtain ⟨p, xs, rfl, hp, rs⟩ := s1.get o1 rv
      obtain ⟨q', ys, rfl, hq, rs2⟩ := s2.get o1 rw'
      exact ⟨p, q', xs, ys, rfl, .inl ⟨SqL.of hp, SqL.of hq, q O1 H1 _ _ _ f1 o1 (itok_zip rv rw') k1⟩⟩
    · obtain ⟨p, xs, rfl, hp, rs⟩ := s1.get rv
      obtain ⟨q', ys, rfl, hq, rs2⟩ := s2.get rw'
      exact ⟨p, q', xs, ys, rfl, .inr ⟨hp, hq, q O1 H1 _ _ _ f1 o1 (itok_zipT rv rw' s1 s2) k1⟩⟩) x
end
section
variable {X : Cx} {W : WX}
theorem di_zip {e e2 : Expr} {aa : AA} {p pos tpos : Pos} {elts : List Expr} {kk : Nat} (hg : Gl X "zip") (hm : X.mg "zip" = none) (ha : DA X W [e, e2] aa)
    (hs : starEach [e, e2] X.env = (false, eval e X.env) :: starEach [e2] X.env := by rfl) (hpl : (backTo pos (starEach [e2] X.env)).any (·.1) = false := by rfl) :
    DI X W (.Tuple elts kk tpos) (.Call (.Name "zip" p) [e, e2] [] pos) (aItZ aa) := by
  obtain ⟨t, p', s⟩ := ha.ex
  exact ⟨_, RZ.pi_zipA hg hm p' hs hpl, sai_zip s⟩
/-! ## continue, a star in a display -/
end
/-! ## a comprehension with two names -/
section
variable {K : PySem.W.Frag} {W : WX}
def aLcT (own : Bool) (it : AIt) (i k : Nat) (tt : AT) (te : AE) : AE := fun O ρ XX Kc => it O ρ XX fun O1 cs St => ∀ D, ∃ Wi : Nat → Ob → Prop, Wi 0 ((D, .lst []) :: O1) ∧
  (∀ j O2 e, cs[j]? = some e → Wi j O2 → St O2 ∧ ∃ x y, ElsT e [x, y] ∧ tt O2 (((wipeR ρ [i, k]).set i (some x)).set k (some y)) X0 fun O3 b =>
    if b = true then te O3 (((wipeR ρ [i, k]).set i (some x)).set k (some y)) X0 fun O4 z => ∃ acc f, Lo O4 D (.lst acc) f ∧ acc.length < 1000000 ∧ Wi (j + 1) (f (.lst (acc ++ [z]))) else Wi (j + 1) O3) ∧
  ∀ O2, Wi cs.length O2 → St O2 ∧ ∃ acc R, O2 = (D, .lst acc) :: R ∧ if own = true then Kc O2 (.at D) else Kc R (lisC acc)
theorem wipe_two (σ : L2.St) {i k : Nat} (hik : i ≠ k) (a b : Option V) : wipe (((wipe σ [i, k]).set i a).set k b) [i, k] = wipe σ [i, k] := by
  show ((((((σ.set k none).set i none).set i a).set k b).set k none).set i none) = (σ.set k none).set i none
  rw [List.set_set, List.set_set, List.set_comm _ _ hik, List.set_set, List.set_set, List.set_comm _ _ (Ne.symm hik)]
theorem sa_lcT {own : Bool} {wi : TI} {i k : Nat} (hik : i ≠ k) {tt : TT} {te : TE} {it : AIt} {a : AT} {b : AE} (hi : SaI K W wi it) (ht : SaT K W0 tt a) (he : SaE K W0 te b) :
    SaE K W (tLc wi (gTup K 2 (gCons (gName i) (gCons (gName k) gNil))) tt te [i, k]) (aLcT own it i k a b) := fun O ρ σ H Q Kc XX S kk q x =>
  hi O ρ σ H _ _ XX S kk (fun O1 H1 J cs St f1 o1 hJ k1 => by
    intro D hD
    obtain ⟨Wi, w0, turn, last⟩ := k1 D
    obtain ⟨oD, fD⟩ := own_lst (vs := []) (cs := []) o1 .nil hD
    refine ⟨fun j m H' => m = cs.length - j ∧ j ≤ cs.length ∧ ∃ O2, Fr O1 H1 O2 H' ∧ OkO K O2 H' ∧ Wi j O2, ⟨_, rfl, Nat.zero_le _, _, fD, oD, w0⟩, ?_⟩
    rintro j m H2 ⟨rfl, hj, O2, f2, o2, w2⟩
    by_cases hl : j < cs.length
    · obtain ⟨c, hc⟩ : ∃ c, cs[j]? = some c := ⟨_, List.getElem?_eq_getElem hl⟩
      obtain ⟨st, cx, cy, hT, kt⟩ := turn j O2 c hc w2
      refine .inr ⟨hJ.go O2 H2 j c f2 o2 st hc, fun H' => j + 1 ≤ cs.length ∧ ∃ O2, Fr O1 H1 O2 H' ∧ OkO K O2 H' ∧ Wi (j + 1) O2, fun H' ⟨h1, h2⟩ => ⟨_, by omega, rfl, h1, h2⟩, fun v H3 hy => ?_⟩
      obtain ⟨o3, f3, r3⟩ := hJ.yld O2 H2 H3 j c v f2 o2 st hc hy
      have f03 := (f1.trans f2).trans f3
      obtain ⟨p, xs, rfl, hp, rs⟩ := hT.get r3
      obtain ⟨u1, u2, rfl, ru1, ru2⟩ := cls2 rs
      have S3 := ((ss_wipe (S.go f03 o3) [i, k]).set (i := i) ru1).set (i := k) ru2
      refine ⟨p, _, rfl, hp, rfl, _, _, rfl, _, _, rfl, rfl, wipe_two σ hik _ _, ?_⟩
      refine ht O2 _ _ H3 _ _ X0 S3 kt (fun O4 z H4 f4 o4 k4 => ?_) x0
      have f14 := (f2.trans f3).trans f4
      cases z with
      | true =>
        rw [if_pos rfl] at k4 ⊢
        refine he O4 _ _ H4 _ _ X0 (S3.go f4 o4) k4 (fun O5 y u H5 f5 o5 r5 ⟨acc, f, lo, hz, w5⟩ => ?_) x0
        obtain ⟨ys, hys, rs5⟩ := o5.lo lo
        refine ⟨ys, hys, by rw [rs5.len]; exact Nat.lt_of_lt_of_le hz (by decide), hl, _, ?_, ?_, w5⟩
        · exact (f14.trans f5).trans (o5.app lo hys rs5 r5).2
        · exact (o5.app lo hys rs5 r5).1
      | false =>
        rw [if_neg Bool.false_ne_true] at k4 ⊢
        exact ⟨hl, O4, f14, o4, k4⟩
    · have ej : j = cs.length := by omega
      subst ej
      obtain ⟨st, acc, R, rfl, kl⟩ := last O2 w2
      refine .inl ⟨hJ.stop _ H2 f2 o2 st, ?_⟩
      cases own with
      | true => exact q _ _ _ H2 (f1.trans f2) o2 (.at D) (by simpa using kl)
      | false =>
        have k' : Kc R (lisC acc) := by simpa using kl
        obtain ⟨xs, hxs, rs⟩ := o2.all _ (List.mem_cons_self ..)
        have o3 := o2.unown
        have nD : fre R D := fun y hy e => (List.nodup_cons.mp o2.nd).1 (List.mem_map.mpr ⟨y, hy, e⟩)
        have fR : Fr O1 H1 R H2 := ⟨f2.keep, fun c v fc e => fre_cons (f2.free c v fc e), f2.dom⟩
        exact q R _ _ H2 (f1.trans fR) o3 (cl_lis nD hxs (rs.mono (fun _ _ _ e => e) fun c v fc _ => fre_cons fc)) k') x
end
section
variable {X : Cx} {W : WX}
theorem de_lcT {elt tg iter : Expr} {scope : Scope} {x y : Str} {i k : Nat} {pos : Pos} {it : AIt} {b : AE} (own : Bool) (hik : i ≠ k) (hc : X.calm = true) (hN : X.N.Nodup) (hi : DI X W tg iter it) (ok : BlkOk X.N X.env.scope scope [(x, i), (y, k)])
    (hg : ∀ (s : Shared) (H : Hp) (C : Addr) (cl : List (Str × Addr)) (fp : List Addr), PG (X.blk s H scope (compEnvC scope cl C X.env) fp) tg (gTup X.K 2 (gCons (gName i) (gCons (gName k) gNil))))
    (he : ∀ (s : Shared) (H : Hp) (C : Addr) (cl : List (Str × Addr)) (fp : List Addr), DE (X.blk s H scope (compEnvC scope cl C X.env) fp) W0 elt b) (hs : ∀ x, foldedSetIterable iter X.env x = pure x := by intro _; rfl) :
    DE X W (.ListComp elt [⟨tg, iter, [], 0⟩] scope pos) (aLcT own it i k (fun O _ _ Kc => Kc O true) b) := by
  obtain ⟨wi, p, s⟩ := hi.ex
  refine ⟨_, pe_lc (own := [(x, i), (y, k)]) (tt := tYes) (te := upE X.K W0 b) hc hN p ok hg (fun _ _ _ _ _ => pts_nil) (fun s H C cl fp => (he s H C cl fp).pe) hs, ?_⟩
  exact sa_lcT hik s (fun O ρ σ H Q Kc XX S k q x => q O true H (Fr.refl _ _) S.o k) up_e
/-! ## a star in a display -/
end
/-! ## all([.. for x in xs]), xs a list or a tuple of whole numbers -/
theorem iCl_get {is : List Int} {j : Nat} {e : Cl} (h : (iCl is)[j]? = some e) : ∃ x, is[j]? = some x ∧ e = .dat (.int x) := by
  unfold iCl at h
  rw [List.getElem?_map] at h
  obtain ⟨x, h1, h2⟩ := Option.map_eq_some_iff.mp h
  exact ⟨x, h1, h2.symm⟩
theorem all_step {bs : List Bool} {j : Nat} {b : Bool} (h : bs[j]? = some b) : (bs.take (j + 1)).map (fun b => Cl.dat (.bool b)) = (bs.take j).map (fun b => Cl.dat (.bool b)) ++ [.dat (.bool b)] := by
  rw [List.take_add_one, h, List.map_append]
  rfl
theorem all_over {O : Ob} {ρ : Rho} {XX : XC} {Kc : KC} {c : Cl} {is : List Int} {s i : Nat} {te : AE} {g : Int → Bool} (hs : ρ[s]? = some (some c)) (hc : Els O c (iCl is) ∨ ElsT c (iCl is)) (hz : is.length < 1000000)
    (hte : ∀ (O' : Ob) (x : Int) (K : KC), K O' (.dat (.bool (g x))) → te O' ((wipeR ρ [i]).set i (some (.dat (.int x)))) X0 K) (k : Kc O (.dat (.bool (is.all g)))) :
    aCB bAll (aCons (aLc false (aIi (aItL (aVar s)) (aItT (aVar s))) i (fun O _ _ Kc => Kc O true) te) aNil) O ρ XX Kc := by
  have len : (iCl is).length = is.length := by simp [iCl]
  have e3 : (is.map g).all id = is.all g := by simp [List.all_map, Function.comp_def]
  rcases hc with h | h
  · refine .inl ⟨c, hs, iCl is, h, fun D => ⟨fun j O2 => O2 = (D, .lst (((is.map g).take j).map fun b => Cl.dat (.bool b))) :: O, by simp, ?_, ?_⟩⟩
    · rintro j O2 e hj rfl
      obtain ⟨x, hx, rfl⟩ := iCl_get hj
      refine ⟨h.up _, hte _ x _ ⟨_, _, .here, by simp; omega, ?_⟩⟩
      have hb : (is.map g)[j]? = some (g x) := by rw [List.getElem?_map, hx]; rfl
      show (D, Ow.lst _) :: O = (D, Ow.lst _) :: O
      rw [all_step hb]
    · rintro O2 rfl
      refine ⟨h.up _, _, _, rfl, ?_⟩
      have e2 : (is.map g).take (iCl is).length = is.map g := List.take_of_length_le (by rw [len]; simp)
      rw [e2, if_neg Bool.false_ne_true]
      refine ⟨_, is.map g, rfl, elsC _ _, ?_⟩
      rw [e3]
      exact k
  · refine .inr ⟨c, hs, iCl is, h, fun D => ⟨fun j O2 => O2 = (D, .lst (((is.map g).take j).map fun b => Cl.dat (.bool b))) :: O, by simp, ?_, ?_⟩⟩
    · rintro j O2 e hj rfl
      obtain ⟨x, hx, rfl⟩ := iCl_get hj
      refine ⟨trivial, hte _ x _ ⟨_, _, .here, by simp; omega, ?_⟩⟩
      have hb : (is.map g)[j]? = some (g x) := by rw [List.getElem?_map, hx]; rfl
      show (D, Ow.lst _) :: O = (D, Ow.lst _) :: O
      rw [all_step hb]
    · rintro O2 rfl
      refine ⟨trivial, _, _, rfl, ?_⟩
      have e2 : (is.map g).take (iCl is).length = is.map g := List.take_of_length_le (by rw [len]; simp)
      rw [e2, if_neg Bool.false_ne_true]
      refine ⟨_, is.map g, rfl, elsC _ _, ?_⟩
      rw [e3]
      exact k
theorem all_zip {O : Ob} {ρ : Rho} {XX : XC} {Kc : KC} {c : Cl} {is js : List Int} {i m : Nat} {a : AA} {te : AE} {g : Int → Int → Bool} (ha : ∀ K : Ob → List Cl → Prop, (∀ d, ((Els O c (iCl is) ∧ Els O d (iCl js)) ∨ (ElsT c (iCl is) ∧ ElsT d (iCl js))) → K O [c, d]) → a O ρ XX K)
    (hz : is.length < 1000000)
    (hte : ∀ (O' : Ob) (x y : Int) (K : KC), K O' (.dat (.bool (g x y))) → te O' (((wipeR ρ [i, m]).set i (some (.dat (.int x)))).set m (some (.dat (.int y)))) X0 K) (k : Kc O (.dat (.bool ((List.zipWith g is js).all id)))) :
    aCB bAll (aCons (aLcT false (aItZ a) i m (fun O _ _ Kc => Kc O true) te) aNil) O ρ XX Kc := by
  have len : (zipC (iCl is) (iCl js)).length = (List.zipWith g is js).length := by rw [zipC_len, List.length_zipWith]; simp [iCl]
  have get : ∀ {j : Nat} {e : Cl}, (zipC (iCl is) (iCl js))[j]? = some e → ∃ x y, e = tupC [.dat (.int x), .dat (.int y)] ∧ (List.zipWith g is js)[j]? = some (g x y) := fun hj => by
    obtain ⟨u, v, h1, h2, rfl⟩ := zipC_get hj
    obtain ⟨x, hx, rfl⟩ := iCl_get h1
    obtain ⟨y, hy, rfl⟩ := iCl_get h2
    exact ⟨x, y, rfl, by rw [List.getElem?_zipWith, hx, hy]⟩
  have lz : (List.zipWith g is js).length < 1000000 := by rw [List.length_zipWith]; omega
  refine ha _ fun d hcd => ⟨c, d, iCl is, iCl js, rfl, ?_⟩
  rcases hcd with ⟨h1, h2⟩ | ⟨h1, h2⟩
  · refine .inl ⟨h1, h2, fun D => ⟨fun j O2 => O2 = (D, .lst (((List.zipWith g is js).take j).map fun b => Cl.dat (.bool b))) :: O, by simp, ?_, ?_⟩⟩
    · rintro j O2 e hj rfl
      obtain ⟨x, y, rfl, hb⟩ := get hj
      refine ⟨⟨h1.up _, h2.up _⟩, _, _, .dat [.int x, .int y], hte _ x y _ ⟨_, _, .here, ?_, ?_⟩⟩
      · rw [List.length_map, List.length_take]; omega
      · show (D, Ow.lst _) :: O = (D, Ow.lst _) :: O
        rw [all_step hb]
    · rintro O2 rfl
      refine ⟨⟨h1.up _, h2.up _⟩, _, _, rfl, ?_⟩
      have e2 : (List.zipWith g is js).take (zipC (iCl is) (iCl js)).length = List.zipWith g is js := List.take_of_length_le (by rw [len]; exact Nat.le_refl _)
      rw [e2, if_neg Bool.false_ne_true]
      exact ⟨_, List.zipWith g is js, rfl, elsC _ _, k⟩
  · refine .inr ⟨h1, h2, fun D => ⟨fun j O2 => O2 = (D, .lst (((List.zipWith g is js).take j).map fun b => Cl.dat (.bool b))) :: O, by simp, ?_, ?_⟩⟩
    · rintro j O2 e hj rfl
      obtain ⟨x, y, rfl, hb⟩ := get hj
      refine ⟨trivial, _, _, .dat [.int x, .int y], hte _ x y _ ⟨_, _, .here, ?_, ?_⟩⟩
      · rw [List.length_map, List.length_take]; omega
      · show (D, Ow.lst _) :: O = (D, Ow.lst _) :: O
        rw [all_step hb]
    · rintro O2 rfl
      refine ⟨trivial, _, _, rfl, ?_⟩
      have e2 : (List.zipWith g is js).take (zipC (iCl is) (iCl js)).length = List.zipWith g is js := List.take_of_length_le (by rw [len]; exact Nat.le_refl _)
      rw [e2, if_neg Bool.false_ne_true]
      exact ⟨_, List.zipWith g is js, rfl, elsC _ _, k⟩
end Ab
namespace Ab
open PySem PySem.Spec PyProof.Rows L2 Vg
section
variable {X : Cx} {K : PySem.W.Frag}
/-! ## a list against the empty one -/
def aNeNil : AR2 := fun O c c' Kc => ∃ cs, Els O c cs ∧ c' = .dat (.list []) ∧ Kc O (.dat (.bool (!cs.isEmpty)))
end
/-! ## [x for x in xs if ..], xs a list or a tuple -/
abbrev SqE (O : Ob) (c : Cl) (es : List Cl) : Prop := Els O c es ∨ ElsT c es
theorem SqE.up {O : Ob} {c : Cl} {es : List Cl} (h : SqE O c es) (x : Addr × Ow) : SqE (x :: O) c es := h.imp (·.up x) id
/-- an iterator that stays while objects are made -/
def ItS (it : AIt) (O : Ob) (ρ : Rho) (XX : XC) (es : List Cl) : Prop := ∀ Kc' : Ob → List Cl → (Ob → Prop) → Prop, (∀ St : Ob → Prop, (∀ x, St (x :: O)) → Kc' O es St) → it O ρ XX Kc'
theorem it_seq {O : Ob} {ρ : Rho} {XX : XC} {c : Cl} {es : List Cl} {s : Nat} (hs : ρ[s]? = some (some c)) (hc : SqE O c es) : ItS (aIi (aItL (aVar s)) (aItT (aVar s))) O ρ XX es := by
  intro Kc' k
  rcases hc with h | h
  · exact .inl ⟨c, hs, es, h, k _ fun x => h.up x⟩
  · exact .inr ⟨c, hs, es, h, k _ fun _ => trivial⟩
theorem cut1 {α : Type} (xs : List α) : cutD xs (some 1) none = xs.drop 1 := by
  unfold cutD HT.sIx
  cases xs with
  | nil => simp
  | cons x r => simp
theorem iCl_dat (is : List Int) : iCl is = (is.map PyData.int).map Cl.dat := by simp [iCl]
theorem iCl_drop (is : List Int) : (iCl is).drop 1 = iCl (is.drop 1) := by simp [iCl, List.map_drop]
/-- xs[1:] -/
theorem rest_of {O : Ob} {ρ : Rho} {XX : XC} {c : Cl} {is : List Int} {s : Nat} {K : KC} (hs : ρ[s]? = some (some c)) (hc : Els O c (iCl is) ∨ ElsT c (iCl is))
    (k : ∀ d, ((Els O c (iCl is) ∧ Els O d (iCl (is.drop 1))) ∨ (ElsT c (iCl is) ∧ ElsT d (iCl (is.drop 1)))) → K O d) :
    aEi (aSl aSlL (aVar s) (aPart (aC (.int 1))) aNoPart) (aSl aSlT (aVar s) (aPart (aC (.int 1))) aNoPart) O ρ XX K := by
  rcases hc with h | h
  · refine .inl ⟨c, hs, 1, rfl, is.map .int, by rw [← iCl_dat]; exact h, k _ (.inl ⟨h, ?_⟩)⟩
    rw [cut1, ← List.map_drop, iCl_dat]
    exact .dat _
  · refine .inr ⟨c, hs, 1, rfl, iCl is, h, k _ (.inr ⟨h, ?_⟩)⟩
    rw [← iCl_drop, ← cut1]
    exact elsT_slR h
theorem last_of {is : List Int} (h : ¬ is.length ≤ 1) : atI (iCl is) (-1) = some (.dat (.int (is.getLastD 0))) := by
  have e : (iCl is).length = is.length := by simp [iCl]
  have g : is ≠ [] := by
    intro z
    rw [z] at h
    simp at h
  obtain ⟨r, l, rfl⟩ : ∃ r l, is = r ++ [l] := ⟨is.dropLast, is.getLast g, (List.dropLast_concat_getLast g).symm⟩
  unfold L2.atI L2.ixN
  rw [e, if_neg (by decide), if_pos (by rw [List.length_append]; simp; omega)]
  show (iCl (r ++ [l]))[((-1 : Int) + ((r ++ [l]).length : Nat)).toNat]? = _
  have n : ((-1 : Int) + ((r ++ [l]).length : Nat)).toNat = r.length := by rw [List.length_append]; simp; omega
  rw [n]
  simp [iCl]
theorem ix_last {O : Ob} {ρ : Rho} {XX : XC} {c : Cl} {is : List Int} {s : Nat} {K : KC} (hs : ρ[s]? = some (some c)) (hc : Els O c (iCl is) ∨ ElsT c (iCl is)) (h : ¬ is.length ≤ 1) (k : K O (.dat (.int (is.getLastD 0)))) :
    aEi (aOp aIxL (aVar s) (aUn (aU fun i => .int (-i)) (aC (.int 1)))) (aOp aIxT (aVar s) (aUn (aU fun i => .int (-i)) (aC (.int 1)))) O ρ XX K := by
  rcases hc with hh | hh
  · exact .inl ⟨c, hs, _, rfl, iCl is, -1, _, rfl, hh, last_of h, k⟩
  · exact .inr ⟨c, hs, _, rfl, iCl is, -1, _, rfl, hh, last_of h, k⟩

/-- [a, b][int(test)] -/
theorem pick2 {O : Ob} {ρ : Rho} {XX : XC} {K : KC} {a b : Int} {t : AE} {k : Bool} (ht : ∀ K : KC, K O (.dat (.bool k)) → t O ρ XX K) (hk : K O (.dat (.int (if k = true then b else a)))) :
    aOp aIxL (aLst (aCons (aC (.int a)) (aCons (aC (.int b)) aNil))) (aCB bIntB (aCons t aNil)) O ρ XX K := by
  refine ⟨by simp, ht _ (.inr ⟨k, rfl, _, _, _, rfl, elsC _ _, ?_, hk⟩)⟩
  cases k <;> rfl
theorem ix_seqI {O : Ob} {ρ : Rho} {XX : XC} {c e : Cl} {es : List Cl} {s : Nat} {j : Int} {t : AE} {K : KC} (hs : ρ[s]? = some (some c)) (hc : SqE O c es) (ht : ∀ K : KC, K O (.dat (.int j)) → t O ρ XX K) (hat : atI es j = some e) (k : K O e) :
    aEi (aOp aIxL (aVar s) t) (aOp aIxT (aVar s) t) O ρ XX K := by
  rcases hc with h | h
  · exact .inl ⟨c, hs, ht _ ⟨es, j, e, rfl, h, hat, k⟩⟩
  · exact .inr ⟨c, hs, ht _ ⟨es, j, e, rfl, h, hat, k⟩⟩
theorem mem_iCl {is : List Int} {e : Cl} (h : e ∈ iCl is) : ∃ t, t ∈ is ∧ e = .dat (.int t) := by
  obtain ⟨t, ht, rfl⟩ := List.mem_map.mp h
  exact ⟨t, ht, rfl⟩
/-! the head of a reading, one step at a time -/
theorem t_test {O : Ob} {ρ : Rho} {XX : XC} {a : AE} {K : Ob → Bool → Prop} (h : a O ρ XX fun O1 c => ∃ b, c = .dat (.bool b) ∧ K O1 b) : aTest a O ρ XX K := h
theorem t_op {O : Ob} {ρ : Rho} {XX : XC} {ar : AR2} {a b : AE} {K : KC} (h : a O ρ XX fun O1 c => b O1 ρ XX fun O2 c' => ar O2 c c' K) : aOp ar a b O ρ XX K := h
theorem t_ret {O : Ob} {ρ : Rho} {XX : XC} {a : AE} {A : AEn} (h : a O ρ XX A.rt) : aRet a A XX O ρ := h
theorem t_ifS {O : Ob} {ρ : Rho} {XX : XC} {c : AT} {t u : AS} {A : AEn} (h : c O ρ XX fun O1 b => if b = true then t A XX O1 ρ else u A XX O1 ρ) : aIfS c t u A XX O ρ := h
theorem t_cons {O : Ob} {ρ : Rho} {XX : XC} {a : AE} {b : AA} {K : Ob → List Cl → Prop} (h : a O ρ XX fun O1 c => b O1 ρ XX fun O2 cs => K O2 (c :: cs)) : aCons a b O ρ XX K := h
/-! ## expressions that only tell: what they tell, part by part -/
def Pu (a : AE) (O : Ob) (ρ : Rho) (XX : XC) (c : Cl) : Prop := ∀ K : KC, K O c → a O ρ XX K
def PuT (t : AT) (O : Ob) (ρ : Rho) (XX : XC) (b : Bool) : Prop := ∀ K : Ob → Bool → Prop, K O b → t O ρ XX K
section
variable {O : Ob} {ρ : Rho} {XX : XC} {a b : AE} {t u : AT} {p q : Bool} {i j : Int} {c d : Cl}
theorem pu_var {s : Nat} (h : ρ[s]? = some (some c)) : Pu (aVar s) O ρ XX c := fun _ k => ⟨c, h, k⟩
theorem pu_c {d : PyData} : Pu (aC d) O ρ XX (.dat d) := fun _ k => k
theorem pu_neg (ha : Pu a O ρ XX (.dat (.int i))) : Pu (aUn (aU fun i => .int (-i)) a) O ρ XX (.dat (.int (-i))) := fun _ k => ha _ ⟨i, rfl, k⟩
theorem pu_I0 {g : Int → Int → PyData} (ha : Pu a O ρ XX (.dat (.int i))) (hb : Pu b O ρ XX (.dat (.int j))) : Pu (aOp (aI0 g) a b) O ρ XX (.dat (g i j)) := fun _ k => ha _ (hb _ ⟨i, j, rfl, rfl, k⟩)
theorem pu_I {C : Int → Int → Prop} {g : Int → Int → PyData} (ha : Pu a O ρ XX (.dat (.int i))) (hb : Pu b O ρ XX (.dat (.int j))) (hC : C i j) : Pu (aOp (aI C g) a b) O ρ XX (.dat (g i j)) := fun _ k => ha _ (hb _ ⟨i, j, rfl, rfl, hC, k⟩)
theorem pu_eqI (ha : Pu a O ρ XX (.dat (.int i))) (hb : Pu b O ρ XX (.dat (.int j))) : Pu (aOp aEqD a b) O ρ XX (.dat (.bool (decide (i = j)))) := fun K k => ha _ (hb _ ⟨.int i, .int j, .dat _, .dat _, rfl, rfl, rfl, rfl, by rw [eqv_int]; exact k⟩)
theorem pu_neI (ha : Pu a O ρ XX (.dat (.int i))) (hb : Pu b O ρ XX (.dat (.int j))) : Pu (aOp aNeD a b) O ρ XX (.dat (.bool (!decide (i = j)))) := fun K k => ha _ (hb _ ⟨.int i, .int j, .dat _, .dat _, rfl, rfl, rfl, rfl, by rw [eqv_int]; exact k⟩)
theorem pu_eqS {x y : Str} (ha : Pu a O ρ XX (.dat (.str x))) (hb : Pu b O ρ XX (.dat (.str y))) : Pu (aOp aEqS a b) O ρ XX (.dat (.bool (decide (x = y)))) := fun K k => ha _ (hb _ ⟨x, y, rfl, rfl, k⟩)
theorem pu_neS {x y : Str} (ha : Pu a O ρ XX (.dat (.str x))) (hb : Pu b O ρ XX (.dat (.str y))) : Pu (aOp aNeS a b) O ρ XX (.dat (.bool (!decide (x = y)))) := fun K k => ha _ (hb _ ⟨x, y, rfl, rfl, k⟩)
theorem pu_abs {g : Int → Int} (ha : Pu a O ρ XX (.dat (.int i))) : Pu (aCB (bI1 g) (aCons a aNil)) O ρ XX (.dat (.int (g i))) := fun _ k => ha _ ⟨i, rfl, k⟩
theorem pu_i2 {g : Int → Int → Int} (ha : Pu a O ρ XX (.dat (.int i))) (hb : Pu b O ρ XX (.dat (.int j))) : Pu (aCB (bI2 g) (aCons a (aCons b aNil))) O ρ XX (.dat (.int (g i j))) := fun _ k => ha _ (hb _ ⟨i, j, rfl, k⟩)
theorem pu_len {es : List Cl} (ha : Pu a O ρ XX c) (hc : Els O c es ∨ ElsT c es) : Pu (aCB bLen (aCons a aNil)) O ρ XX (.dat (.int es.length)) := fun _ k => ha _ ⟨c, es.length, rfl, .inl ⟨es, hc, rfl⟩, k⟩
theorem pu_ixL {es : List Cl} (ha : Pu a O ρ XX c) (hb : Pu b O ρ XX (.dat (.int i))) (hc : Els O c es) (hat : atI es i = some d) : Pu (aOp aIxL a b) O ρ XX d := fun _ k => ha _ (hb _ ⟨es, i, d, rfl, hc, hat, k⟩)
theorem pu_ixT {es : List Cl} (ha : Pu a O ρ XX c) (hb : Pu b O ρ XX (.dat (.int i))) (hc : ElsT c es) (hat : atI es i = some d) : Pu (aOp aIxT a b) O ρ XX d := fun _ k => ha _ (hb _ ⟨es, i, d, rfl, hc, hat, k⟩)
theorem pu_ixS {s : Nat} {es : List Cl} (hs : ρ[s]? = some (some c)) (hc : SqE O c es) (hb : Pu b O ρ XX (.dat (.int i))) (hat : atI es i = some d) : Pu (aEi (aOp aIxL (aVar s) b) (aOp aIxT (aVar s) b)) O ρ XX d := fun _ k => ix_seqI hs hc hb hat k
theorem pu_pick2 {x y : Int} (ha : Pu a O ρ XX (.dat (.bool p))) : Pu (aOp aIxL (aLst (aCons (aC (.int x)) (aCons (aC (.int y)) aNil))) (aCB bIntB (aCons a aNil))) O ρ XX (.dat (.int (if p = true then y else x))) := fun K k => pick2 ha k
theorem pu_if (ht : PuT t O ρ XX p) (ha : Pu a O ρ XX c) (hb : Pu b O ρ XX d) : Pu (aIf t a b) O ρ XX (if p = true then c else d) := fun K k => ht _ (by
  cases p with
  | true => rw [if_pos rfl] at k ⊢; exact ha K k
  | false => rw [if_neg Bool.false_ne_true] at k ⊢; exact hb K k)
theorem pu_andV (ha : Pu a O ρ XX (.dat (.bool p))) (hb : Pu b O ρ XX (.dat (.bool q))) : Pu (aAndV a b) O ρ XX (.dat (.bool (p && q))) := fun K k => ha _ ⟨p, rfl, by
  cases p with
  | true => rw [if_pos rfl]; exact hb K k
  | false => rw [if_neg Bool.false_ne_true]; exact k⟩
theorem pu_orV (ha : Pu a O ρ XX (.dat (.bool p))) (hb : Pu b O ρ XX (.dat (.bool q))) : Pu (aOrV a b) O ρ XX (.dat (.bool (p || q))) := fun K k => ha _ ⟨p, rfl, by
  cases p with
  | true => rw [if_pos rfl]; exact k
  | false => rw [if_neg Bool.false_ne_true]; exact hb K k⟩
theorem pu_notV (ha : Pu a O ρ XX (.dat (.bool p))) : Pu (aNotV a) O ρ XX (.dat (.bool (!p))) := fun K k => ha _ ⟨p, rfl, k⟩
theorem put_ (ha : Pu a O ρ XX (.dat (.bool p))) : PuT (aTest a) O ρ XX p := fun _ k => ha _ ⟨p, rfl, k⟩
theorem put_and (ht : PuT t O ρ XX p) (hu : PuT u O ρ XX q) : PuT (aAnd t u) O ρ XX (p && q) := fun K k => ht _ (by
  cases p with
  | true => rw [if_pos rfl]; exact hu K k
  | false => rw [if_neg Bool.false_ne_true]; exact k)
theorem put_or (ht : PuT t O ρ XX p) (hu : PuT u O ρ XX q) : PuT (aOr t u) O ρ XX (p || q) := fun K k => ht _ (by
  cases p with
  | true => rw [if_pos rfl]; exact k
  | false => rw [if_neg Bool.false_ne_true]; exact hu K k)
theorem put_not (ht : PuT t O ρ XX p) : PuT (aNot t) O ρ XX (!p) := fun K k => ht _ k
theorem put_chain {a b c : AE} {g h : Int → Int → Bool} {i j k : Int} (ha : Pu a O ρ XX (.dat (.int i))) (hb : Pu b O ρ XX (.dat (.int j))) (hc : Pu c O ρ XX (.dat (.int k))) :
    PuT (aTest (aChain (aI0 fun i j => .bool (g i j)) (aI0 fun i j => .bool (h i j)) a b c)) O ρ XX (g i j && h j k) := fun K kk => ha _ (hb _ ⟨i, j, rfl, rfl, g i j, rfl, by
  cases hg : g i j with
  | true =>
    rw [if_pos rfl]
    refine hc _ ⟨j, k, rfl, rfl, h j k, rfl, ?_⟩
    rw [hg, Bool.true_and] at kk
    exact kk
  | false =>
    rw [if_neg Bool.false_ne_true]
    refine ⟨false, rfl, ?_⟩
    rw [hg, Bool.false_and] at kk
    exact kk⟩)
theorem ret_pu {A : AEn} (ha : Pu a O ρ XX c) (k : A.rt O c) : aRet a A XX O ρ := ha _ k
end
def aNotB : AR2 := fun O c c' Kc => ∃ a b, c = .dat (.bool a) ∧ c' = .dat (.bool b) ∧ Kc O (.dat (.bool (!decide (a = b))))
section
variable {O : Ob} {ρ : Rho} {XX : XC} {a b : AE} {t u : AT} {p q : Bool} {i j : Int} {c d : Cl}
theorem pu_notB (ha : Pu a O ρ XX (.dat (.bool p))) (hb : Pu b O ρ XX (.dat (.bool q))) : Pu (aOp aNotB a b) O ρ XX (.dat (.bool (!decide (p = q)))) := fun K k => ha _ (hb _ ⟨p, q, rfl, rfl, k⟩)
theorem t_try {K : PySem.W.Frag} {b : AS} {hs : List Hd} {A : AEn} (h : b A (hsX K A hs) O ρ) : aTry K b hs A XX O ρ := h
theorem t_lst {a : AA} {K : KC} (h : a O ρ XX fun O1 cs => cs.length ≤ 1000 ∧ K O1 (lisC cs)) : aLst a O ρ XX K := h
theorem t_cons_pu {b : AA} {K : Ob → List Cl → Prop} (ha : Pu a O ρ XX c) (h : b O ρ XX fun O2 cs => K O2 (c :: cs)) : aCons a b O ρ XX K := ha _ h
theorem t_call {af : AF} {a : AA} {K : KC} (h : a O ρ XX fun O1 cs => af O1 cs (fun O' x c => XX O' ρ x c) K) : aCall af a O ρ XX K := h
theorem ife_put {K : KC} (ht : PuT t O ρ XX p) (k : if p = true then a O ρ XX K else b O ρ XX K) : aIf t a b O ρ XX K := ht _ k
theorem t_asg {g : AG} {A : AEn} (h : a O ρ XX fun O1 c => g c O1 ρ A.nx) : aAsg a g A XX O ρ := h
theorem t_cb {ab : AB} {a : AA} {K : KC} (h : a O ρ XX fun O1 cs => ab O1 cs K) : aCB ab a O ρ XX K := h
/-- a call whose arguments only tell -/
theorem call1 {af : AF} {K : KC} (ha : Pu a O ρ XX c) (h : af O [c] (fun O' x c => XX O' ρ x c) K) : aCall af (aCons a aNil) O ρ XX K := ha _ h
theorem call2 {af : AF} {K : KC} (ha : Pu a O ρ XX c) (hb : Pu b O ρ XX d) (h : af O [c, d] (fun O' x c => XX O' ρ x c) K) : aCall af (aCons a (aCons b aNil)) O ρ XX K := ha _ (hb _ h)
theorem call3 {a3 : AE} {c3 : Cl} {af : AF} {K : KC} (ha : Pu a O ρ XX c) (hb : Pu b O ρ XX d) (h3 : Pu a3 O ρ XX c3) (h : af O [c, d, c3] (fun O' x c => XX O' ρ x c) K) : aCall af (aCons a (aCons b (aCons a3 aNil))) O ρ XX K := ha _ (hb _ (h3 _ h))
theorem call4 {a3 a4 : AE} {c3 c4 : Cl} {af : AF} {K : KC} (ha : Pu a O ρ XX c) (hb : Pu b O ρ XX d) (h3 : Pu a3 O ρ XX c3) (h4 : Pu a4 O ρ XX c4) (h : af O [c, d, c3, c4] (fun O' x c => XX O' ρ x c) K) : aCall af (aCons a (aCons b (aCons a3 (aCons a4 aNil)))) O ρ XX K := ha _ (hb _ (h3 _ (h4 _ h)))
/-- a draw -/
theorem take_r {pa : Addr} {m : Int} {n : Nat} {f : Ow → Ob} {K : KC} (ha : Pu a O ρ XX (.at pa)) (hb : Pu b O ρ XX (.dat (.int m))) (lo : Lo O pa (.pur n) f) (h0 : 0 < m) (h1 : m.natAbs < 2 ^ 200) (hn : 1 ≤ n)
    (k : ∀ r, 0 ≤ r → r < m → K (f (.pur (n - 1))) (.dat (.int r))) : aCall afTake (aCons a (aCons b aNil)) O ρ XX K := call2 ha hb ⟨pa, m, n, f, rfl, h0, h1, lo, hn, k⟩
end
/-! statements ahead of others -/
section
variable {O : Ob} {ρ : Rho} {XX : XC} {a b : AE} {t u : AT} {v w : AS} {p q : Bool} {i j : Int} {c d : Cl} {s : Nat} {A : AEn}
theorem sq_set (h : a O ρ XX fun O1 c => v A XX O1 (ρ.set s (some c))) : aSeq (aAsg a (aName s)) v A XX O ρ := h
theorem sq_setP (ha : Pu a O ρ XX c) (h : v A XX O (ρ.set s (some c))) : aSeq (aAsg a (aName s)) v A XX O ρ := ha _ h
theorem sq_if (h : t O ρ XX fun O1 b => if b = true then w { A with nx := v A XX } XX O1 ρ else v A XX O1 ρ) : aSeq (aIfS t w aNext) v A XX O ρ := h
theorem sq_ifP (ht : PuT t O ρ XX p) (h : if p = true then w { A with nx := v A XX } XX O ρ else v A XX O ρ) : aSeq (aIfS t w aNext) v A XX O ρ := ht _ h
theorem sq_drop (h : a O ρ XX fun O1 _ => v A XX O1 ρ) : aSeq (aDrop a) v A XX O ρ := h
theorem sq_for {it : AIt} (h : it O ρ XX fun O1 cs St => ∃ Wi : Nat → Ob → Rho → Prop, Wi 0 O1 ρ ∧
    (∀ j O2 ρ2 e, cs[j]? = some e → Wi j O2 ρ2 → St O2 ∧ w { nx := Wi (j + 1), rt := A.rt, ct := Wi (j + 1), bk := v A XX } XX O2 (ρ2.set s (some e))) ∧
    ∀ O2 ρ2, Wi cs.length O2 ρ2 → St O2 ∧ v A XX O2 ρ2) : aSeq (aFor it (aName s) w) v A XX O ρ := h
theorem it_r1 {a : AE} {j : Int} {K : Ob → List Cl → (Ob → Prop) → Prop} (ha : Pu a O ρ XX (.dat (.int j))) (h0 : -1000000 ≤ j) (h1 : j ≤ 1000000) (k : K O (nums 0 j.toNat) fun _ => True) : aItR1 (aCons a aNil) O ρ XX K := ha _ ⟨j, rfl, h0, h1, k⟩
end
section
variable {O : Ob} {ρ : Rho} {XX : XC} {a b : AE} {t u : AT} {p q : Bool} {c d : Cl}
theorem t_orF {K : Ob → Bool → Prop} (ht : PuT t O ρ XX false) (h : u O ρ XX K) : aOr t u O ρ XX K := ht _ (iteF h)
theorem t_not {K : Ob → Bool → Prop} (h : t O ρ XX fun O1 b => K O1 (!b)) : aNot t O ρ XX K := h
theorem or_neSame {x : Str} {K : Ob → Bool → Prop} (ha : Pu a O ρ XX (.dat (.str x))) (hb : Pu b O ρ XX (.dat (.str x))) (h : u O ρ XX K) : aOr (aTest (aOp aNeS a b)) u O ρ XX K :=
  put_ (pu_neS ha hb) _ (by rw [decide_eq_true rfl]; exact iteF h)
theorem pu_lst3 {a3 : AE} {c3 : Cl} (ha : Pu a O ρ XX c) (hb : Pu b O ρ XX d) (h3 : Pu a3 O ρ XX c3) : Pu (aLst (aCons a (aCons b (aCons a3 aNil)))) O ρ XX (lisC [c, d, c3]) := fun _ k => ha _ (hb _ (h3 _ ⟨by simp, k⟩))
end
section
variable {O : Ob} {ρ : Rho} {XX : XC} {a b : AE} {t u : AT} {p q : Bool} {c d : Cl}
theorem t_lstO {a : AA} {K : KC} (h : a O ρ XX fun O1 cs => cs.length ≤ 1000 ∧ ∀ p, K ((p, .lst cs) :: O1) (.at p)) : aLstO a O ρ XX K := h
theorem t_it1 {a : AA} {K : Ob → List Cl → (Ob → Prop) → Prop} (h : a O ρ XX fun O1 cs => ∃ j : Int, cs = [.dat (.int j)] ∧ -1000000 ≤ j ∧ j ≤ 1000000 ∧ K O1 (nums 0 j.toNat) fun _ => True) : aItR1 a O ρ XX K := h
theorem t_andV {K : KC} (h : a O ρ XX fun O1 c => ∃ k, c = .dat (.bool k) ∧ if k = true then b O1 ρ XX K else K O1 (.dat (.bool false))) : aAndV a b O ρ XX K := h
theorem app_pu {p : Addr} {cs : List Cl} {f : Ow → Ob} {K : KC} (ha : Pu a O ρ XX (.at p)) (hb : Pu b O ρ XX d) (lo : Lo O p (.lst cs) f) (hl : cs.length ≤ 1000000) (k : K (f (.lst (cs ++ [d]))) (.dat .none)) : aApp a (aCons b aNil) O ρ XX K :=
  ha _ ⟨p, cs, f, rfl, lo, hb _ ⟨d, cs, f, rfl, lo, hl, k⟩⟩
end
theorem last_ne {is : List Int} (g : is ≠ []) : atI (iCl is) (-1) = some (.dat (.int (is.getLastD 0))) := by
  have e : (iCl is).length = is.length := by simp [iCl]
  obtain ⟨r, l, rfl⟩ : ∃ r l, is = r ++ [l] := ⟨is.dropLast, is.getLast g, (List.dropLast_concat_getLast g).symm⟩
  unfold L2.atI L2.ixN
  rw [e, if_neg (by decide), if_pos (by rw [List.length_append]; simp; omega)]
  show (iCl (r ++ [l]))[((-1 : Int) + ((r ++ [l]).length : Nat)).toNat]? = _
  have n : ((-1 : Int) + ((r ++ [l]).length : Nat)).toNat = r.length := by rw [List.length_append]; simp; omega
  rw [n]
  simp [iCl]
/-! slices of lists of data -/
theorem Tx1.up {w w' dp dp' : Nat} {d : PyData} (h : Tx1 w dp d) (k : w ≤ w') (l : dp ≤ dp') : Tx1 w' dp' d := ⟨h.s, Nat.le_trans h.dp l, Nat.le_trans h.w k, h.l⟩
theorem txl_all {w dp : Nat} : ∀ {ds : List PyData}, (∀ d ∈ ds, Tx1 w dp d) → TxL (ds.length * (w + 1)) dp ds
  | [], _ => by
    have := txl_nil 0 dp
    simpa using this
  | d :: ds, h => by
    have := txl_cons (h d (List.mem_cons_self ..)) (txl_all fun e he => h e (List.mem_cons_of_mem _ he))
    rw [List.length_cons, Nat.succ_mul]
    rw [show ds.length * (w + 1) + (w + 1) = w + ds.length * (w + 1) + 1 by omega]
    exact this
theorem TxB.b {e : PyData} (h : TxB e) : txB e = true := by
  unfold txB
  rw [h.s, decide_eq_true h.d, decide_eq_true h.l]
  rfl
end Ab
namespace Ab
open PySem PySem.Spec PyProof.Rows L2 Vg
section
variable {X : Cx} {K : PySem.W.Frag} {W : WX}
/-! ## x not in (a, b), data of any depth -/
/-! ## xs[-2::-1] -/
/-! ## a, b, c = x, y, z -/
def aPar3 (i j l : Nat) (a : AA) : AS := fun A XX O ρ => a O ρ XX fun O1 cs => ∃ c d e, cs = [c, d, e] ∧ A.nx O1 (((ρ.set i (some c)).set j (some d)).set l (some e))
end
/-! ## pairs and rows of two by two are unpacked -/
section
variable {O : Ob} {ρ : Rho} {XX : XC} {a b : AE} {v : AS} {A : AEn}
abbrev rwD (a b c d : Int) : PyData := .tuple [.tuple [.int a, .int b], .tuple [.int c, .int d]]
theorem pu_tup2 {c d : Cl} (ha : Pu a O ρ XX c) (hb : Pu b O ρ XX d) : Pu (aTup (aCons a (aCons b aNil))) O ρ XX (tupC [c, d]) := fun _ k => ha _ (hb _ ⟨by simp, k⟩)
theorem pu_rows {a b c d : AE} {p q r s : Int} (ha : Pu a O ρ XX (.dat (.int p))) (hb : Pu b O ρ XX (.dat (.int q))) (hc : Pu c O ρ XX (.dat (.int r))) (hd : Pu d O ρ XX (.dat (.int s))) :
    Pu (aTup (aCons (aTup (aCons a (aCons b aNil))) (aCons (aTup (aCons c (aCons d aNil))) aNil))) O ρ XX (.dat (rwD p q r s)) := pu_tup2 (pu_tup2 ha hb) (pu_tup2 hc hd)
end
section
variable {O : Ob} {ρ : Rho} {XX : XC} {a b : AE} {t : AT} {v w : AS} {A : AEn} {p : Bool} {c d : Cl}
theorem sq_while (h : ∃ Wi : Nat → Ob → Rho → Prop, (∃ m, Wi m O ρ) ∧ ∀ m O ρ, Wi m O ρ → t O ρ XX fun O1 z => if z = true then w { nx := fun O' ρ' => ∃ m', m' < m ∧ Wi m' O' ρ', rt := A.rt, ct := fun O' ρ' => ∃ m', m' < m ∧ Wi m' O' ρ', bk := v A XX } XX O1 ρ else v A XX O1 ρ) :
    aSeq (aWhile t w) v A XX O ρ := h
theorem all_gen {it : AIt} {es : List Cl} {i : Nat} {te : AE} {K : KC} {g : Cl → Bool} (hit : ItS it O ρ XX es) (hz : es.length < 1000000)
    (hte : ∀ (D : Addr) (w : Ow) (e : Cl) (K : KC), e ∈ es → K ((D, w) :: O) (.dat (.bool (g e))) → te ((D, w) :: O) ((wipeR ρ [i]).set i (some e)) X0 K) (k : K O (.dat (.bool (es.all g)))) :
    aCB bAll (aCons (aLc false it i (fun O _ _ Kc => Kc O true) te) aNil) O ρ XX K := by
  refine hit _ fun St hSt D => ⟨fun j O2 => O2 = (D, .lst (((es.map g).take j).map fun b => Cl.dat (.bool b))) :: O, by simp, ?_, ?_⟩
  · rintro j O2 e hj rfl
    refine ⟨hSt _, hte _ _ e _ (List.mem_of_getElem? hj) ⟨_, _, .here, by simp; omega, ?_⟩⟩
    have hb : (es.map g)[j]? = some (g e) := by rw [List.getElem?_map, hj]; rfl
    show (D, Ow.lst _) :: O = (D, Ow.lst _) :: O
    rw [all_step hb]
  · rintro O2 rfl
    refine ⟨hSt _, _, _, rfl, ?_⟩
    have e2 : (es.map g).take es.length = es.map g := List.take_of_length_le (by simp)
    rw [e2, if_neg Bool.false_ne_true]
    refine ⟨_, es.map g, rfl, elsC _ _, ?_⟩
    have e3 : (es.map g).all id = es.all g := by simp [List.all_map, Function.comp_def]
    rw [e3]
    exact k
end
theorem t_drop {O : Ob} {ρ : Rho} {XX : XC} {a : AE} {A : AEn} (h : a O ρ XX fun O1 _ => A.nx O1 ρ) : aDrop a A XX O ρ := h
section
variable {O : Ob} {ρ : Rho} {XX : XC} {a b : AE} {t : AT} {v w : AS} {A : AEn} {p : Bool} {c d : Cl}
theorem pu_tup1 (ha : Pu a O ρ XX c) : Pu (aTup (aCons a aNil)) O ρ XX (tupC [c]) := fun _ k => ha _ ⟨by simp, k⟩
end
end Ab
namespace Ab
open PySem PySem.Spec PyProof.Rows L2 Vg
/-! ## rows of fractions in the three manners -/
def isMan (x : Str) : Prop := x = "floor" ∨ x = "ceil" ∨ x = "near"
def termI (m : Str) (a b : Int) : Int := if m = "floor" then a.fdiv b else if m = "ceil" then -((-a).fdiv b) else (2 * a + b).fdiv (2 * b)
def sgI (x : Str) : Int := if x = "ceil" then -1 else 1
/-- what is left behind the first term, with the manner's sign -/
def leftI (x : Str) (a b : Int) : Int := sgI x * (a - termI x a b * b)
theorem sg_or (x : Str) : sgI x = 1 ∨ sgI x = -1 := by unfold sgI; split <;> simp
theorem nf : ¬ (("near" : Str) = "floor") := by decide +kernel
theorem nc : ¬ (("near" : Str) = "ceil") := by decide +kernel
theorem cf : ¬ (("ceil" : Str) = "floor") := by decide +kernel
theorem fc : ¬ (("floor" : Str) = "ceil") := by decide +kernel
theorem fn : ¬ (("floor" : Str) = "near") := by decide +kernel
theorem term_floor (a b : Int) : termI "floor" a b = a.fdiv b := by unfold termI; rw [if_pos rfl]
theorem term_ceil (a b : Int) : termI "ceil" a b = -((-a).fdiv b) := by unfold termI; rw [if_neg cf, if_pos rfl]
theorem term_near (a b : Int) : termI "near" a b = (2 * a + b).fdiv (2 * b) := by unfold termI; rw [if_neg nf, if_neg nc]
theorem sg_floor : sgI "floor" = 1 := by unfold sgI; rw [if_neg fc]
theorem sg_ceil : sgI "ceil" = -1 := by unfold sgI; rw [if_pos rfl]
theorem sg_near : sgI "near" = 1 := by unfold sgI; rw [if_neg nc]
theorem fdiv_lo {a b : Int} (hb : 1 ≤ b) : a.fdiv b * b ≤ a ∧ a < a.fdiv b * b + b := by
  rw [Int.fdiv_eq_ediv_of_nonneg a (by omega)]
  refine ⟨Int.ediv_mul_le a (by omega), ?_⟩
  have := Int.lt_ediv_add_one_mul_self a (show 0 < b by omega)
  rw [Int.add_mul, Int.one_mul] at this
  exact this
theorem fdiv_sz {a b : Int} {n : Nat} (hb : 1 ≤ b) (h : a.natAbs < 2 ^ n) : (a.fdiv b).natAbs < 2 ^ n := by
  rw [Int.fdiv_eq_ediv_of_nonneg a (by omega)]
  exact Nat.lt_of_le_of_lt (Int.natAbs_ediv_le_natAbs _ _) h
theorem left_floor {a b : Int} (hb : 1 ≤ b) : 0 ≤ leftI "floor" a b ∧ leftI "floor" a b < b := by
  unfold leftI
  rw [sg_floor, term_floor]
  have := fdiv_lo (a := a) hb
  omega
theorem left_ceil {a b : Int} (hb : 1 ≤ b) : 0 ≤ leftI "ceil" a b ∧ leftI "ceil" a b < b := by
  unfold leftI
  rw [sg_ceil, term_ceil]
  have := fdiv_lo (a := -a) hb
  simp only [Int.neg_mul]
  omega
theorem left_near {a b : Int} (hb : 1 ≤ b) : -b ≤ 2 * leftI "near" a b ∧ 2 * leftI "near" a b < b := by
  unfold leftI
  rw [sg_near, term_near]
  have z := fdiv_lo (a := 2 * a + b) (b := 2 * b) (by omega)
  have e : (2 * a + b).fdiv (2 * b) * (2 * b) = 2 * ((2 * a + b).fdiv (2 * b) * b) := by
    rw [Int.mul_left_comm]
  rw [e] at z
  omega
theorem left_lt {x : Str} (hx : isMan x) {a b : Int} (hb : 1 ≤ b) : (leftI x a b).natAbs < b.natAbs := by
  rcases hx with rfl | rfl | rfl
  · have := left_floor (a := a) hb; omega
  · have := left_ceil (a := a) hb; omega
  · have := left_near (a := a) hb; omega
theorem term_size {x : Str} (hx : isMan x) {a b : Int} {n : Nat} (hb : 1 ≤ b) (ha : a.natAbs < 2 ^ n) (hb2 : b.natAbs < 2 ^ n) : (termI x a b).natAbs < 2 ^ (n + 2) := by
  have up : 2 ^ n * 4 = 2 ^ (n + 2) := by rw [Nat.pow_add]
  have m1 : ((2 : Int)).natAbs < 2 ^ 2 := by decide
  rcases hx with rfl | rfl | rfl
  · rw [term_floor]
    have := fdiv_sz (n := n) hb ha
    omega
  · rw [term_ceil, Int.natAbs_neg]
    have := fdiv_sz (n := n) (a := -a) hb (by rw [Int.natAbs_neg]; exact ha)
    omega
  · rw [term_near]
    refine fdiv_sz (n := n + 2) (by omega) ?_
    omega
/-- the row of a fraction, told term by term -/
inductive Run (x : Str) : Int → Int → List Int → Prop
  | last {a b : Int} (h : leftI x a b = 0) : Run x a b [termI x a b]
  | next {a b : Int} {r : List Int} (h : leftI x a b ≠ 0) (k : Run x (lowT b (leftI x a b)) (lowB b (leftI x a b)) r) : Run x a b (termI x a b :: r)
theorem Run.ne {x : Str} {a b : Int} {r : List Int} (h : Run x a b r) : r ≠ [] := by cases h <;> simp
theorem Run.det {x : Str} {a b : Int} {r s : List Int} (h : Run x a b r) : Run x a b s → r = s := by
  induction h generalizing s with
  | last h =>
    intro k
    cases k with
    | last _ => rfl
    | next z _ => exact absurd h z
  | next h k ih =>
    intro k2
    cases k2 with
    | last z => exact absurd z h
    | next z k2 => rw [ih k2]
theorem Run.fz {x : Str} (hx : isMan x) {n : Nat} {a b : Int} (F : Fz n a b) (h : leftI x a b ≠ 0) : Fz n (lowT b (leftI x a b)) (lowB b (leftI x a b)) :=
  Fz.low h F.tb (Nat.lt_trans (left_lt hx F.b1) F.tb)
/-! ## what a row is worth, from behind -/
def wor (s : Int) : List Int → Int × Int
  | [] => (1, 0)
  | t :: r => (t * (wor s r).1 + s * (wor s r).2, (wor s r).1)
theorem gcd_nat1 {a b : Int} (h : gcdI a b = 1) : Nat.gcd a.natAbs b.natAbs = 1 := by unfold gcdI at h; omega
theorem gcd_left {a b t s : Int} (hs : s = 1 ∨ s = -1) (h : gcdI a b = 1) : gcdI b (s * (a - t * b)) = 1 := by
  have h1 := gcd_nat1 h
  unfold gcdI
  have : Nat.gcd b.natAbs (s * (a - t * b)).natAbs = 1 := by
    have e : (s * (a - t * b)).natAbs = (a - t * b).natAbs := by
      rcases hs with rfl | rfl
      · rw [Int.one_mul]
      · rw [Int.neg_mul, Int.one_mul, Int.natAbs_neg]
    rw [e]
    have d := Nat.gcd_dvd_left b.natAbs (a - t * b).natAbs
    have d2 := Nat.gcd_dvd_right b.natAbs (a - t * b).natAbs
    have i1 : ((Nat.gcd b.natAbs (a - t * b).natAbs : Nat) : Int) ∣ b := Int.ofNat_dvd_left.mpr d
    have i2 : ((Nat.gcd b.natAbs (a - t * b).natAbs : Nat) : Int) ∣ a - t * b := Int.ofNat_dvd_left.mpr d2
    have i3 : ((Nat.gcd b.natAbs (a - t * b).natAbs : Nat) : Int) ∣ a := by
      have := Int.dvd_add i2 (Int.dvd_mul_of_dvd_right (b := t) i1)
      rwa [Int.sub_add_cancel] at this
    have d3 : Nat.gcd b.natAbs (a - t * b).natAbs ∣ Nat.gcd a.natAbs b.natAbs := Nat.dvd_gcd (Int.ofNat_dvd_left.mp i3) d
    rw [h1] at d3
    exact Nat.dvd_one.mp d3
  rw [this]
  rfl
theorem low_sig {b l : Int} (h : l ≠ 0) (g : gcdI b l = 1) : ∃ e : Int, (e = 1 ∨ e = -1) ∧ lowT b l = e * b ∧ lowB b l = e * l := by
  have m := low_mul (a := b) h
  unfold gsI at m
  rw [g] at m
  by_cases hl : l < 0
  · rw [if_pos hl] at m
    exact ⟨-1, .inr rfl, by omega, by omega⟩
  · rw [if_neg hl] at m
    exact ⟨1, .inl rfl, by omega, by omega⟩
theorem run_wor {x : Str} {a b : Int} {r : List Int} (h : Run x a b r) : 1 ≤ b → gcdI a b = 1 → ∃ e : Int, (e = 1 ∨ e = -1) ∧ wor (sgI x) r = (e * a, e * b) := by
  induction h with
  | @last a b h =>
    intro hb hg
    have hl : a = termI x a b * b := by
      unfold leftI at h
      rcases sg_or x with s | s <;> rw [s] at h <;> omega
    have b1 : b = 1 := by
      have h1 := gcd_nat1 hg
      have d : b.natAbs ∣ a.natAbs := by rw [hl, Int.natAbs_mul]; exact Nat.dvd_mul_left _ _
      rw [Nat.gcd_eq_right d] at h1
      omega
    refine ⟨1, .inl rfl, ?_⟩
    have hl2 : termI x a b = a := by
      have := hl
      rw [b1, Int.mul_one] at this
      rw [b1]
      exact this.symm
    show (termI x a b * 1 + sgI x * 0, (1 : Int)) = _
    rw [hl2, b1]
    simp
  | @next a b r h k ih =>
    intro hb hg
    have g2 : gcdI b (leftI x a b) = 1 := gcd_left (sg_or x) hg
    obtain ⟨σ, hσ, e1, e2⟩ := low_sig h g2
    obtain ⟨e, he, hw⟩ := ih (low_pos h) (low_gcd h)
    refine ⟨e * σ, by rcases he with rfl | rfl <;> rcases hσ with rfl | rfl <;> simp, ?_⟩
    show (termI x a b * (wor (sgI x) r).1 + sgI x * (wor (sgI x) r).2, (wor (sgI x) r).1) = _
    rw [hw, e1, e2]
    have e3 : sgI x * leftI x a b = a - termI x a b * b := by
      unfold leftI
      rw [← Int.mul_assoc]
      rcases sg_or x with s | s <;> rw [s] <;> simp
    refine Prod.ext ?_ (by show e * (σ * b) = e * σ * b; rw [Int.mul_assoc])
    show termI x a b * (e * (σ * b)) + sgI x * (e * (σ * leftI x a b)) = e * σ * a
    have e4 : sgI x * (e * (σ * leftI x a b)) = e * σ * (sgI x * leftI x a b) := by
      simp only [Int.mul_left_comm, Int.mul_assoc]
    rw [e4, e3, Int.mul_sub]
    have e5 : termI x a b * (e * (σ * b)) = e * σ * (termI x a b * b) := by simp only [Int.mul_left_comm, Int.mul_assoc]
    rw [e5]
    omega
end Ab
namespace Ab
open PySem PySem.Spec PyProof.Rows L2 Vg
/-! ## what is legal -/
def folN (b t : Int) : Bool := if b = 2 then decide (t > 0) else if b = -2 then decide (t < 0) else true
def absI (t : Int) : Int := if t < 0 then -t else t
def begI (x : Str) (is : List Int) : Bool :=
  if x = "floor" then (is.drop 1).all fun t => decide (t ≥ 1)
  else if x = "ceil" then (is.drop 1).all fun t => decide (t ≥ 2)
  else ((is.drop 1).all fun t => decide (absI t ≥ 2)) && (List.zipWith folN (is.drop 1) ((is.drop 1).drop 1)).all id
def endI (x : Str) (is : List Int) : Bool :=
  if is.length ≤ 1 then decide (is.length = 1)
  else if x = "floor" then !decide (is.getLastD 0 = 1) else if x = "near" then !decide (is.getLastD 0 = 2) else true
theorem getLastD_cons (t : Int) {s : List Int} (h : s ≠ []) : (t :: s).getLastD 0 = s.getLastD 0 := by
  cases s with
  | nil => exact absurd rfl h
  | cons u s => rfl
/-! ## a whole number more -/
/-! ## ceil is floor turned -/
/-! ## the order of rows of ceilings -/
end Ab
namespace Ab
open PySem PySem.Spec PyProof.Rows L2 Vg
section
variable {K : PySem.W.Frag} {W : WX}
/-! ## for x in reversed(xs) -/
end
section
variable {X : Cx} {W : WX}
end
/-! ## lists of whole numbers compared; a list's one item by its place -/
end Ab
namespace Ab
open PySem PySem.Spec PyProof.Rows L2 Vg
/-! ## first terms by bounds -/
/-! ## the terms next to a range's ends -/
/-! ## numbers very near an end -/
/-! ## xs * k -/
end Ab
namespace Ab
open PySem PySem.Spec PyProof.Rows L2 Vg
/-! ## constants of a module, handed in as values -/
mutual
inductive Kv (K : PySem.W.Frag) : Value → PyData → Prop
  | non : Kv K .none .none
  | bl (b : Bool) : Kv K (.bool b) (.bool b)
  | int (i : Int) (t : Tok) : Kv K (.int i t) (.int i)
  | str (x : Str) (t : Tok) : Kv K (.str x t) (.str x)
  | tup {a : Addr} {o : Obj} {its : Array Value} {n : Nat} {ds : List PyData} (l : K.lookup a = some o) (c : o.cls = .type "tuple") (d : o.data = .seq its n) (z : its.size ≤ 1000) (q : KvL K its.toList ds) : Kv K (.ref a) (.tuple ds)
inductive KvL (K : PySem.W.Frag) : List Value → List PyData → Prop
  | nil : KvL K [] []
  | cons {u : Value} {us : List Value} {d : PyData} {ds : List PyData} (h : Kv K u d) (r : KvL K us ds) : KvL K (u :: us) (d :: ds)
end
mutual
theorem Kv.kq {K : PySem.W.Frag} : ∀ {u : Value} {d : PyData}, Kv K u d → ∃ v, L2.RelV v u ∧ Kq K v d
  | _, _, .non => ⟨.non, rfl, .non⟩
  | _, _, .bl b => ⟨.bl b, rfl, .bl b⟩
  | _, _, .int i t => ⟨.int i, ⟨t, rfl⟩, .int i⟩
  | _, _, .str x t => ⟨.str x, ⟨t, rfl⟩, .str x⟩
  | _, _, .tup l c d z q => by
    obtain ⟨xs, r, k⟩ := KvL.kq q
    exact ⟨.ref _, rfl, .tup l c d (Nat.le_trans z (by decide)) r k⟩
theorem KvL.kq {K : PySem.W.Frag} : ∀ {us : List Value} {ds : List PyData}, KvL K us ds → ∃ vs, Vals vs us ∧ KqL K vs ds
  | _, _, .nil => ⟨[], .nil, .nil⟩
  | _, _, .cons h r => by
    obtain ⟨v, rv, k⟩ := Kv.kq h
    obtain ⟨vs, rs, ks⟩ := KvL.kq r
    exact ⟨v :: vs, .cons rv rs, .cons k ks⟩
end
/-- the constant x of the module holds d -/
structure KonK (K : PySem.W.Frag) (x : Str) (d : PyData) : Prop where
  ex : ∃ a, PySem.W.nsIn K mainGlobals x = some (some (.ref a)) ∧ Kv K (.ref a) d
structure KonIn (K : PySem.W.Frag) (mg : Str → Option Value) (x : Str) (d : PyData) : Prop where
  ex : ∃ u v, mg x = some u ∧ L2.RelV v u ∧ Kq K v d
theorem KonK.by {K : PySem.W.Frag} {x : Str} {d : PyData} {a : Addr} (h : PySem.W.nsIn K mainGlobals x = some (some (.ref a))) (l : Kv K (.ref a) d) : KonK K x d := ⟨a, h, l⟩
theorem KonK.at {K : PySem.W.Frag} {h : Heap} {mg : Str → Option Value} {x : Str} {d : PyData} (D : KonK K x d) (X : K.In h) (G : h.Ns mainGlobals mg) : KonIn K mg x d := by
  obtain ⟨a, e, b⟩ := D.ex
  obtain ⟨v, r, k⟩ := b.kq
  exact ⟨_, v, PySem.W.mg_of X G e, r, k⟩
/-! ## x in (a, b), data of any depth -/
section
variable {X : Cx} {K : PySem.W.Frag}
end
section
variable {X : Cx} {W : WX}
end
section
variable {O : Ob} {ρ : Rho} {XX : XC}
theorem t_tup {a : AA} {K : KC} (h : a O ρ XX fun O1 cs => cs.length ≤ 1000 ∧ K O1 (tupC cs)) : aTup a O ρ XX K := h
end
end Ab
namespace Ab
open PySem PySem.Spec PyProof.Rows L2 Vg
/-! ## each legal row is the row of a fraction -/
theorem gcd_comm (a b : Int) : gcdI a b = gcdI b a := by unfold gcdI; rw [Nat.gcd_comm]
/-- terms that may stand behind the first -/
def okT (x : Str) (t : Int) : Prop := if x = "floor" then 1 ≤ t else if x = "ceil" then 2 ≤ t else absI t ≥ 2
def chainB (l : List Int) : Bool := (List.zipWith folN l (l.drop 1)).all id
theorem chain_cons (a b : Int) (l : List Int) : chainB (a :: b :: l) = (folN a b && chainB (b :: l)) := rfl
theorem chain_app : ∀ {l r : List Int}, l ≠ [] → r ≠ [] → chainB (l ++ r) = (chainB l && (folN (l.getLastD 0) (r.headD 0) && chainB r))
  | [], _, h, _ => absurd rfl h
  | [a], [], _, h => absurd rfl h
  | [a], b :: r, _, _ => rfl
  | a :: b :: l, r, _, h => by
    rw [List.cons_append, List.cons_append, chain_cons, ← List.cons_append, chain_app (l := b :: l) (by simp) h, chain_cons, getLastD_cons a (s := b :: l) (by simp), Bool.and_assoc]
theorem begI_app {x : Str} (hx : isMan x) {is R : List Int} (h : begI x is = true) (hi : is ≠ []) (hR : R ≠ []) (hall : ∀ t ∈ R, okT x t) (hc : x = "near" → chainB R = true) (hf : x = "near" → 1 < is.length → folN (is.getLastD 0) (R.headD 0) = true) : begI x (is ++ R) = true := by
  have hp := List.length_pos_iff.mpr hi
  unfold begI at h ⊢
  rw [List.drop_append_of_le_length (by omega)]
  rcases hx with rfl | rfl | rfl
  · rw [if_pos rfl] at h ⊢
    refine List.all_eq_true.mpr fun t ht => ?_
    rcases List.mem_append.mp ht with z | z
    · exact List.all_eq_true.mp h t z
    · have := hall t z
      unfold okT at this
      rw [if_pos rfl] at this
      exact decide_eq_true this
  · rw [if_neg cf, if_pos rfl] at h ⊢
    refine List.all_eq_true.mpr fun t ht => ?_
    rcases List.mem_append.mp ht with z | z
    · exact List.all_eq_true.mp h t z
    · have := hall t z
      unfold okT at this
      rw [if_neg cf, if_pos rfl] at this
      exact decide_eq_true this
  · rw [if_neg nf, if_neg nc] at h ⊢
    have z := Bool.and_eq_true_iff.mp h
    refine Bool.and_eq_true_iff.mpr ⟨List.all_eq_true.mpr fun t ht => ?_, ?_⟩
    · rcases List.mem_append.mp ht with y | y
      · exact List.all_eq_true.mp z.1 t y
      · have := hall t y
        unfold okT at this
        rw [if_neg nf, if_neg nc] at this
        exact decide_eq_true this
    · show chainB (is.drop 1 ++ R) = true
      by_cases e : is.drop 1 = []
      · rw [e, List.nil_append]
        exact hc rfl
      · rw [chain_app e hR]
        have l1 : 1 < is.length := by
          have := List.length_pos_iff.mpr e
          rw [List.length_drop] at this
          omega
        have le : (is.drop 1).getLastD 0 = is.getLastD 0 := by
          cases is with
          | nil => exact absurd rfl hi
          | cons a s => exact (getLastD_cons a (s := s) (by simpa using e)).symm
        rw [le, hf rfl l1, hc rfl]
        rw [show chainB (is.drop 1) = true from z.2]
        rfl
/-! ## texts of long rows -/
theorem Tx1.txB8 {w dp : Nat} {d : PyData} (h : Tx1 w dp d) (hw : w ≤ 8000 := by decide) (hd : dp ≤ 50 := by decide) : TxB d := by
  refine ⟨h.s, Nat.le_trans h.dp hd, ?_⟩
  have z := PyData.shown_le 1921 (by decide) d h.l
  have w1 := h.w
  have : (1921 + 2) * d.weight ≤ 1923 * 8000 := Nat.mul_le_mul (by decide) (by omega)
  have e : sizeLine = 16777216 := by decide
  omega
end Ab
namespace Ab
open PySem PySem.Spec PyProof.Rows L2 Vg
/-! ## zip of lists and tuples in any mix: k false a list, k true a tuple -/
def sqK (k : Bool) (K : PySem.W.Frag) (H : Hp) (a : Addr) (xs : List V) : Prop := cond k (SqT K H a xs) (SqL K H a xs)
/-- the five cells of a zip that stands behind n objects -/
abbrev five (n : Addr) : List Addr := [n + 4, n + 2, n + 3, n, n + 1]
theorem nx {n : Nat} (i j : Nat) (h : i ≠ j) : n + i ≠ n + j := fun e => h (Nat.add_left_cancel e)
theorem nl {n a : Nat} (h : a < n) (i : Nat) : n + i ≠ a := fun e => absurd h (by omega)
/-- which kind a cell is of -/
def SqK (k : Bool) (O : Ob) (c : Cl) (es : List Cl) : Prop := cond k (ElsT c es) (Els O c es)
theorem SqK.get {K : PySem.W.Frag} {k : Bool} {O : Ob} {H : Hp} {c : Cl} {es : List Cl} {v : V} (q : SqK k O c es) (o : OkO K O H) (r : ClH K (fre O) H v c) : ∃ a xs, v = .ref a ∧ sqK k K H a xs ∧ ClsH K (fre O) H xs es := by
  cases k with
  | true => exact (show ElsT c es from q).get r
  | false =>
    obtain ⟨a, xs, e, h, z⟩ := (show Els O c es from q).get o r
    exact ⟨a, xs, e, SqL.of h, z⟩
variable {K : PySem.W.Frag} {W : WX}
/-! ## n & 1; sep.join(texts) -/
def aOdd1 : AR2 := fun O c c' Kc => ∃ n : Nat, c = .dat (.int n) ∧ c' = .dat (.int 1) ∧ Kc O (.dat (.int ((n % 2 : Nat) : Int)))
def strsC (ys : List Str) : List Cl := (ys.map PyData.str).map Cl.dat
def aJoin (a b : AE) : AE := fun O ρ XX Kc => a O ρ XX fun O1 c => ∃ z : Str, c = .dat (.str z) ∧ b O1 ρ XX fun O2 d => ∃ ys : List Str, SqE O2 d (strsC ys) ∧ (ys.map (·.length)).sum + ys.length * z.length ≤ 16777216 ∧ Kc O2 (.dat (.str (Txt.join z ys)))
end Ab
namespace Ab
open PySem PySem.Spec PyProof.Rows L2 Vg
/-! ## readings in a plain form: rows by which simp goes through straight code -/
section
variable {O : Ob} {ρ : Rho} {XX : XC} {Kc : KC}
theorem w_eqI {i j : Int} : aEqD O (.dat (.int i)) (.dat (.int j)) Kc ↔ Kc O (.dat (.bool (decide (i = j)))) := by
  constructor
  · rintro ⟨d, e, h1, h2, _, _, _, _, k⟩
    cases h1; cases h2
    rwa [eqv_int] at k
  · intro k
    exact ⟨_, _, .dat _, .dat _, rfl, rfl, rfl, rfl, by rwa [eqv_int]⟩
theorem w_neI {i j : Int} : aNeD O (.dat (.int i)) (.dat (.int j)) Kc ↔ Kc O (.dat (.bool (!decide (i = j)))) := by
  constructor
  · rintro ⟨d, e, h1, h2, _, _, _, _, k⟩
    cases h1; cases h2
    rwa [eqv_int] at k
  · intro k
    exact ⟨_, _, .dat _, .dat _, rfl, rfl, rfl, rfl, by rwa [eqv_int]⟩
theorem w_ixT {ds : List PyData} {i : Int} : aIxT O (.dat (.tuple ds)) (.dat (.int i)) Kc ↔ ∃ e, atI (ds.map Cl.dat) i = some e ∧ Kc O e := by
  constructor
  · rintro ⟨cs, j, e, h1, h2, h3, k⟩
    cases h1; cases h2
    exact ⟨e, h3, k⟩
  · rintro ⟨e, h, k⟩
    exact ⟨_, _, e, rfl, .dat ds, h, k⟩
theorem w_elsT {ds : List PyData} {P : List Cl → Prop} : (∃ cs, ElsT (.dat (.tuple ds)) cs ∧ P cs) ↔ P (ds.map Cl.dat) := by
  constructor
  · rintro ⟨cs, h, k⟩
    cases h
    exact k
  · intro k
    exact ⟨_, .dat ds, k⟩
theorem w_atN {α : Type} (xs : List α) (n : Nat) : atI xs (n : Int) = xs[n]? := by
  unfold atI ixN
  rw [if_pos (by omega)]
  by_cases h : (n : Int) < xs.length
  · rw [if_pos h]; rfl
  · rw [if_neg h, List.getElem?_eq_none (by omega)]; rfl
theorem w_at0 {α : Type} (xs : List α) : atI xs 0 = xs[0]? := w_atN xs 0
theorem w_at1 {α : Type} (xs : List α) : atI xs 1 = xs[1]? := w_atN xs 1
theorem w_at2 {α : Type} (xs : List α) : atI xs 2 = xs[2]? := w_atN xs 2
theorem w_at3 {α : Type} (xs : List α) : atI xs 3 = xs[3]? := w_atN xs 3
theorem rho_is {s : AS} {A : AEn} {ρ ρ' : Rho} (e : ρ = ρ') (h : s A XX O ρ') : s A XX O ρ := e ▸ h
theorem RdA.sq {c : Cl} {es : List Cl} (h : RdA O c (some es)) : SqE O c es := h.1.imp (fun z => z.1) fun z => z.1
end
/-! ## name += number -/
def aAugI (s : Nat) (a : AE) : AS := fun A XX O ρ => ∃ x : Int, ρ[s]? = some (some (.dat (.int x))) ∧ a O ρ XX fun O1 c => ∃ y : Int, c = .dat (.int y) ∧ A.nx O1 (ρ.set s (some (.dat (.int (x + y)))))
theorem iCl_at {is : List Int} {j : Nat} {c : Cl} (h : (iCl is)[j]? = some c) : ∃ t, is[j]? = some t ∧ c = .dat (.int t) := by
  obtain ⟨t, ht, e⟩ := iCl_get h
  exact ⟨t, ht, e⟩
/-! ## truths of values, plainly -/
def truP (O : Ob) (c : Cl) (K : Bool → Prop) : Prop := ∃ k, ((c = .dat .none ∧ k = false) ∨ (∃ b, c = .dat (.bool b) ∧ k = b) ∨ (∃ i : Int, c = .dat (.int i) ∧ k = (i != 0)) ∨ (∃ z : Str, c = .dat (.str z) ∧ z.length ≤ sizeLine ∧ k = ((z.length : Int) != 0)) ∨ (∃ cs, (Els O c cs ∨ ElsT c cs) ∧ k = !cs.isEmpty)) ∧ K k
theorem w_tru {O : Ob} {ρ : Rho} {XX : XC} {a : AE} {Kc : Ob → Bool → Prop} : aTru a O ρ XX Kc = a O ρ XX fun O1 c => truP O1 c (Kc O1) := rfl
theorem w_truI {O : Ob} {i : Int} {K : Bool → Prop} : truP O (.dat (.int i)) K ↔ K (i != 0) := by
  constructor
  · rintro ⟨k, h, hk⟩
    rcases h with ⟨e, _⟩ | ⟨b, e, _⟩ | ⟨j, e, rfl⟩ | ⟨z, e, _⟩ | ⟨cs, h | h, _⟩
    · cases e
    · cases e
    · cases e; exact hk
    · cases e
    · cases h
    · cases h
  · intro h
    exact ⟨_, .inr (.inr (.inl ⟨i, rfl, rfl⟩)), h⟩
theorem w_truB {O : Ob} {b : Bool} {K : Bool → Prop} : truP O (.dat (.bool b)) K ↔ K b := by
  constructor
  · rintro ⟨k, h, hk⟩
    rcases h with ⟨e, _⟩ | ⟨b, e, rfl⟩ | ⟨j, e, _⟩ | ⟨z, e, _⟩ | ⟨cs, h | h, _⟩
    · cases e
    · cases e; exact hk
    · cases e
    · cases e
    · cases h
    · cases h
  · intro h
    exact ⟨_, .inr (.inl ⟨b, rfl, rfl⟩), h⟩
theorem w_truN {O : Ob} {K : Bool → Prop} : truP O (.dat .none) K ↔ K false := by
  constructor
  · rintro ⟨k, h, hk⟩
    rcases h with ⟨e, rfl⟩ | ⟨b, e, _⟩ | ⟨j, e, _⟩ | ⟨z, e, _⟩ | ⟨cs, h | h, _⟩
    · exact hk
    · cases e
    · cases e
    · cases e
    · cases h
    · cases h
  · intro h
    exact ⟨_, .inl ⟨rfl, rfl⟩, h⟩
theorem w_truS {O : Ob} {z : Str} {K : Bool → Prop} : truP O (.dat (.str z)) K ↔ z.length ≤ sizeLine ∧ K ((z.length : Int) != 0) := by
  constructor
  · rintro ⟨k, h, hk⟩
    rcases h with ⟨e, _⟩ | ⟨b, e, _⟩ | ⟨j, e, _⟩ | ⟨z, e, hz, rfl⟩ | ⟨cs, h | h, _⟩
    · cases e
    · cases e
    · cases e
    · cases e; exact ⟨hz, hk⟩
    · cases h
    · cases h
  · rintro ⟨hz, h⟩
    exact ⟨_, .inr (.inr (.inr (.inl ⟨z, rfl, hz, rfl⟩))), h⟩
theorem w_odd1 {O : Ob} {n : Nat} {Kc : KC} : aOdd1 O (.dat (.int (n : Int))) (.dat (.int 1)) Kc ↔ Kc O (.dat (.int ((n % 2 : Nat) : Int))) := by
  constructor
  · rintro ⟨m, e, _, k⟩
    have e : (n : Int) = m := PyData.int.inj (Cl.dat.inj e)
    rw [Int.ofNat_inj] at e
    subst e
    exact k
  · intro k
    exact ⟨n, rfl, rfl, k⟩
/-! ## draws -/
theorem take_at {O : Ob} {p : Addr} {n : Nat} {f : Ow → Ob} {m : Int} {Xf : Ob → Str → Cl → Prop} {Kc : KC} (lo : Lo O p (.pur n) f) (k : ∀ r, 0 ≤ r → r < m → Kc (f (.pur (n - 1))) (.dat (.int r))) (h0 : 0 < m := by decide) (h1 : m.natAbs < 2 ^ 200 := by decide) (hn : 1 ≤ n := by omega) : afTake O [.at p, .dat (.int m)] Xf Kc :=
  ⟨p, m, n, f, rfl, h0, h1, lo, hn, k⟩
theorem w_ixL {O : Ob} {ds : List PyData} {i : Int} {Kc : KC} : aIxL O (.dat (.list ds)) (.dat (.int i)) Kc ↔ ∃ e, atI (ds.map Cl.dat) i = some e ∧ Kc O e := by
  constructor
  · rintro ⟨cs, j, e, h1, h2, h3, k⟩
    cases h1; cases h2
    exact ⟨e, h3, k⟩
  · rintro ⟨e, h, k⟩
    exact ⟨_, _, e, rfl, .dat ds, h, k⟩
theorem map_dat : ∀ {ds es : List PyData}, ds.map Cl.dat = es.map Cl.dat → ds = es
  | [], [], _ => rfl
  | d :: ds, e :: es, h => by
    obtain ⟨h1, h2⟩ := List.cons.inj h
    rw [Cl.dat.inj h1, map_dat h2]
theorem w_cat {O : Ob} {ds es : List PyData} {Kc : KC} : aCat O (.dat (.list ds)) (.dat (.list es)) Kc ↔ ds.length + es.length ≤ 1000000 ∧ Kc O (.dat (.list (ds ++ es))) := by
  constructor
  · rintro ⟨ds', es', h1, h2, h, k⟩
    have e1 : ds = ds' := by generalize hq : ds'.map Cl.dat = q at h1; cases h1; exact map_dat hq.symm
    have e2 : es = es' := by generalize hq : es'.map Cl.dat = q at h2; cases h2; exact map_dat hq.symm
    subst e1 e2
    exact ⟨h, k⟩
  · rintro ⟨h, k⟩
    exact ⟨ds, es, .dat ds, .dat es, h, k⟩
theorem w_slL {O : Ob} {ds : List PyData} {lo hi : Option Int} {Kc : KC} : aSlL O (.dat (.list ds)) lo hi Kc ↔ Kc O (.dat (.list (cutD ds lo hi))) := by
  constructor
  · rintro ⟨ds', h1, k⟩
    have e1 : ds = ds' := by generalize hq : ds'.map Cl.dat = q at h1; cases h1; exact map_dat hq.symm
    subst e1
    exact k
  · intro k
    exact ⟨ds, .dat ds, k⟩
theorem w_slS {O : Ob} {z : Str} {lo hi : Option Int} {Kc : KC} : aSlS O (.dat (.str z)) lo hi Kc ↔ z.length ≤ sizeLine ∧ Kc O (.dat (.str (cutS z lo hi))) := by
  constructor
  · rintro ⟨z', h1, h, k⟩
    cases h1
    exact ⟨h, k⟩
  · rintro ⟨h, k⟩
    exact ⟨z, rfl, h, k⟩
/-! ## displays -/
theorem els_list {O : Ob} {ds : List PyData} {es : List Cl} : Els O (.dat (.list ds)) es ↔ es = ds.map Cl.dat := ⟨fun h => by cases h; rfl, fun h => by subst h; exact .dat _⟩
theorem els_lis {O : Ob} {cs es : List Cl} : Els O (.lis cs) es ↔ es = cs := ⟨fun h => by cases h; rfl, fun h => by subst h; exact .lis _⟩
theorem elsT_tuple {ds : List PyData} {es : List Cl} : ElsT (.dat (.tuple ds)) es ↔ es = ds.map Cl.dat := ⟨fun h => by cases h; rfl, fun h => by subst h; exact .dat _⟩
theorem elsT_tup {cs es : List Cl} : ElsT (.tup cs) es ↔ es = cs := ⟨fun h => by cases h; rfl, fun h => by subst h; exact .tup _⟩
theorem els_lisC {O : Ob} {cs es : List Cl} : Els O (lisC cs) es ↔ es = cs := by
  refine ⟨fun h => ?_, fun h => by subst h; exact elsC O _⟩
  unfold lisC at h
  cases e : allD cs with
  | none => rw [e] at h; cases h; rfl
  | some ds => rw [e] at h; rw [allD_eq e]; exact els_list.mp h
theorem elsT_tupC {cs es : List Cl} : ElsT (tupC cs) es ↔ es = cs := by
  refine ⟨fun h => ?_, fun h => by subst h; exact elsTC _⟩
  unfold tupC at h
  cases e : allD cs with
  | none => rw [e] at h; cases h; rfl
  | some ds => rw [e] at h; rw [allD_eq e]; exact elsT_tuple.mp h
theorem w_ixLC {O : Ob} {cs : List Cl} {i : Int} {Kc : KC} : aIxL O (lisC cs) (.dat (.int i)) Kc ↔ ∃ e, atI cs i = some e ∧ Kc O e := by
  constructor
  · rintro ⟨es, j, e, h1, h2, h3, k⟩
    cases h1
    cases els_lisC.mp h2
    exact ⟨e, h3, k⟩
  · rintro ⟨e, h, k⟩
    exact ⟨_, _, e, rfl, elsC O cs, h, k⟩
theorem w_ixTC {O : Ob} {cs : List Cl} {i : Int} {Kc : KC} : aIxT O (tupC cs) (.dat (.int i)) Kc ↔ ∃ e, atI cs i = some e ∧ Kc O e := by
  constructor
  · rintro ⟨es, j, e, h1, h2, h3, k⟩
    cases h1
    cases elsT_tupC.mp h2
    exact ⟨e, h3, k⟩
  · rintro ⟨e, h, k⟩
    exact ⟨_, _, e, rfl, elsTC cs, h, k⟩
theorem w_lenD {O : Ob} {ds : List PyData} {Kc : KC} : bLen O [.dat (.list ds)] Kc ↔ Kc O (.dat (.int ds.length)) := by
  constructor
  · rintro ⟨c, n, e, h, k⟩
    obtain rfl : Cl.dat (.list ds) = c := (List.cons.inj e).1
    rcases h with ⟨es, h | h, rfl⟩ | ⟨ns, h, _⟩
    · rw [els_list.mp h, List.length_map] at k; exact k
    · cases h
    · cases h
  · intro k
    exact ⟨_, _, rfl, .inl ⟨_, .inl (.dat ds), rfl⟩, by rwa [List.length_map]⟩
theorem w_lenT {O : Ob} {ds : List PyData} {Kc : KC} : bLen O [.dat (.tuple ds)] Kc ↔ Kc O (.dat (.int ds.length)) := by
  constructor
  · rintro ⟨c, n, e, h, k⟩
    obtain rfl : Cl.dat (.tuple ds) = c := (List.cons.inj e).1
    rcases h with ⟨es, h | h, rfl⟩ | ⟨ns, h, _⟩
    · cases h
    · rw [elsT_tuple.mp h, List.length_map] at k; exact k
    · cases h
  · intro k
    exact ⟨_, _, rfl, .inl ⟨_, .inr (.dat ds), rfl⟩, by rwa [List.length_map]⟩
theorem w_neNil {O : Ob} {cs : List Cl} {Kc : KC} : aNeNil O (lisC cs) (.dat (.list [])) Kc ↔ Kc O (.dat (.bool (!cs.isEmpty))) := by
  constructor
  · rintro ⟨es, h, _, k⟩
    rwa [els_lisC.mp h] at k
  · intro k
    exact ⟨cs, elsC O cs, rfl, k⟩
theorem w_eqNil {O : Ob} {cs : List Cl} {Kc : KC} : aEqNil O (lisC cs) (.dat (.list [])) Kc ↔ Kc O (.dat (.bool cs.isEmpty)) := by
  constructor
  · rintro ⟨es, h, _, k⟩
    rwa [els_lisC.mp h] at k
  · intro k
    exact ⟨cs, elsC O cs, rfl, k⟩
theorem w_elsTC {cs : List Cl} {P : List Cl → Prop} : (∃ es, ElsT (tupC cs) es ∧ P es) ↔ P cs := by
  constructor
  · rintro ⟨es, h, k⟩
    rwa [elsT_tupC.mp h] at k
  · intro k
    exact ⟨_, elsTC cs, k⟩
theorem w_l0 : lisC [] = .dat (.list []) := rfl
theorem w_t0 : tupC [] = .dat (.tuple []) := rfl
theorem w_l1 {a0 : PyData} : lisC [.dat a0] = .dat (.list [a0]) := rfl
theorem w_t1 {a0 : PyData} : tupC [.dat a0] = .dat (.tuple [a0]) := rfl
theorem w_l2 {a0 a1 : PyData} : lisC [.dat a0, .dat a1] = .dat (.list [a0, a1]) := rfl
theorem w_t2 {a0 a1 : PyData} : tupC [.dat a0, .dat a1] = .dat (.tuple [a0, a1]) := rfl
theorem w_l3 {a0 a1 a2 : PyData} : lisC [.dat a0, .dat a1, .dat a2] = .dat (.list [a0, a1, a2]) := rfl
theorem w_t3 {a0 a1 a2 : PyData} : tupC [.dat a0, .dat a1, .dat a2] = .dat (.tuple [a0, a1, a2]) := rfl
theorem w_l4 {a0 a1 a2 a3 : PyData} : lisC [.dat a0, .dat a1, .dat a2, .dat a3] = .dat (.list [a0, a1, a2, a3]) := rfl
theorem w_t4 {a0 a1 a2 a3 : PyData} : tupC [.dat a0, .dat a1, .dat a2, .dat a3] = .dat (.tuple [a0, a1, a2, a3]) := rfl
theorem w_l5 {a0 a1 a2 a3 a4 : PyData} : lisC [.dat a0, .dat a1, .dat a2, .dat a3, .dat a4] = .dat (.list [a0, a1, a2, a3, a4]) := rfl
theorem w_t5 {a0 a1 a2 a3 a4 : PyData} : tupC [.dat a0, .dat a1, .dat a2, .dat a3, .dat a4] = .dat (.tuple [a0, a1, a2, a3, a4]) := rfl
theorem w_l6 {a0 a1 a2 a3 a4 a5 : PyData} : lisC [.dat a0, .dat a1, .dat a2, .dat a3, .dat a4, .dat a5] = .dat (.list [a0, a1, a2, a3, a4, a5]) := rfl
theorem w_t6 {a0 a1 a2 a3 a4 a5 : PyData} : tupC [.dat a0, .dat a1, .dat a2, .dat a3, .dat a4, .dat a5] = .dat (.tuple [a0, a1, a2, a3, a4, a5]) := rfl
theorem w_l7 {a0 a1 a2 a3 a4 a5 a6 : PyData} : lisC [.dat a0, .dat a1, .dat a2, .dat a3, .dat a4, .dat a5, .dat a6] = .dat (.list [a0, a1, a2, a3, a4, a5, a6]) := rfl
theorem w_t7 {a0 a1 a2 a3 a4 a5 a6 : PyData} : tupC [.dat a0, .dat a1, .dat a2, .dat a3, .dat a4, .dat a5, .dat a6] = .dat (.tuple [a0, a1, a2, a3, a4, a5, a6]) := rfl
theorem w_l8 {a0 a1 a2 a3 a4 a5 a6 a7 : PyData} : lisC [.dat a0, .dat a1, .dat a2, .dat a3, .dat a4, .dat a5, .dat a6, .dat a7] = .dat (.list [a0, a1, a2, a3, a4, a5, a6, a7]) := rfl
theorem w_t8 {a0 a1 a2 a3 a4 a5 a6 a7 : PyData} : tupC [.dat a0, .dat a1, .dat a2, .dat a3, .dat a4, .dat a5, .dat a6, .dat a7] = .dat (.tuple [a0, a1, a2, a3, a4, a5, a6, a7]) := rfl
theorem w_l9 {a0 a1 a2 a3 a4 a5 a6 a7 a8 : PyData} : lisC [.dat a0, .dat a1, .dat a2, .dat a3, .dat a4, .dat a5, .dat a6, .dat a7, .dat a8] = .dat (.list [a0, a1, a2, a3, a4, a5, a6, a7, a8]) := rfl
theorem w_l10 {a0 a1 a2 a3 a4 a5 a6 a7 a8 a9 : PyData} : lisC [.dat a0, .dat a1, .dat a2, .dat a3, .dat a4, .dat a5, .dat a6, .dat a7, .dat a8, .dat a9] = .dat (.list [a0, a1, a2, a3, a4, a5, a6, a7, a8, a9]) := rfl
theorem w_l11 {a0 a1 a2 a3 a4 a5 a6 a7 a8 a9 a10 : PyData} : lisC [.dat a0, .dat a1, .dat a2, .dat a3, .dat a4, .dat a5, .dat a6, .dat a7, .dat a8, .dat a9, .dat a10] = .dat (.list [a0, a1, a2, a3, a4, a5, a6, a7, a8, a9, a10]) := rfl
theorem w_l12 {a0 a1 a2 a3 a4 a5 a6 a7 a8 a9 a10 a11 : PyData} : lisC [.dat a0, .dat a1, .dat a2, .dat a3, .dat a4, .dat a5, .dat a6, .dat a7, .dat a8, .dat a9, .dat a10, .dat a11] = .dat (.list [a0, a1, a2, a3, a4, a5, a6, a7, a8, a9, a10, a11]) := rfl
/-! ## clauses of a try -/
/-- for k in range(n): its turns -/
def aTurnsN (n : Nat) (s : Nat) (b : AS) : AS := aTurns (nums 0 n) (fun _ => True) (aName s) b
theorem w_forR1 {O : Ob} {ρ : Rho} {XX : XC} {aa : AA} {s : Nat} {w : AS} {A : AEn} : aFor (aItR1 aa) (aName s) w A XX O ρ = aa O ρ XX fun O1 cs => ∃ j : Int, cs = [.dat (.int j)] ∧ -1000000 ≤ j ∧ j ≤ 1000000 ∧ aTurnsN j.toNat s w A XX O1 ρ := rfl
theorem w_intB {O : Ob} {b : Bool} {Kc : KC} : bIntB O [.dat (.bool b)] Kc ↔ Kc O (.dat (.int (if b = true then 1 else 0))) := by
  unfold bIntB
  constructor
  · rintro (⟨i, e, _⟩ | ⟨b', e, k⟩)
    · cases e
    · cases e
      exact k
  · intro k
    exact .inr ⟨b, rfl, k⟩
theorem w_reprD {O : Ob} {d : PyData} {Kc : KC} : bReprA O [.dat d] Kc ↔ d.hasDict = false ∧ TxB d ∧ Kc O (.dat (.str d.shown)) := by
  constructor
  · rintro ⟨c, d', e, h, h1, h2, h3, k⟩
    obtain rfl : Cl.dat d = c := (List.cons.inj e).1
    cases h with
    | pl h n => cases h; exact ⟨n, ⟨h1, h2, h3⟩, k⟩
  · rintro ⟨n, t, k⟩
    exact ⟨_, d, rfl, .pl (.dat d) n, t.s, t.d, t.l, k⟩
theorem w_reprB {O : Ob} {b : Bool} {Kc : KC} : bReprA O [.dat (.bool b)] Kc ↔ Kc O (.dat (.str (PyData.bool b).shown)) := by
  rw [w_reprD]
  have h : (PyData.bool b).hasDict = false := by unfold PyData.hasDict; rfl
  exact ⟨fun z => z.2.2, fun z => ⟨h, (tx_bool b 3).txB (by decide) (by decide), z⟩⟩
theorem w_tupleD {O : Ob} {ds : List PyData} {Kc : KC} : bTuple O [.dat (.list ds)] Kc ↔ Kc O (.dat (.tuple ds)) := by
  constructor
  · rintro ⟨c, es, e, h⟩
    obtain rfl : Cl.dat (.list ds) = c := (List.cons.inj e).1
    rcases h with ⟨h, k⟩ | ⟨h, k⟩
    · rw [els_list.mp h, tupC_dats] at k; exact k
    · cases h
  · intro k
    exact ⟨_, _, rfl, .inl ⟨.dat ds, by rwa [tupC_dats]⟩⟩
theorem RdA.app {O : Ob} {c : Cl} {r : Option (List Cl)} (h : RdA O c r) : ∀ X : Ob, RdA (X ++ O) c r
  | [] => h
  | x :: X => (RdA.app h X).up x
theorem w_elsFr {a b : Int} {P : List Cl → Prop} : (∃ cs, ElsT (.dat (frD a b)) cs ∧ P cs) ↔ P [.dat (.int a), .dat (.int b)] := w_elsT (ds := [.int a, .int b])
theorem w_ixFr {O : Ob} {a b i : Int} {Kc : KC} : aIxT O (.dat (frD a b)) (.dat (.int i)) Kc ↔ ∃ e, atI [Cl.dat (.int a), .dat (.int b)] i = some e ∧ Kc O e := w_ixT (ds := [.int a, .int b])
theorem w_elsTup {cs : List Cl} {P : List Cl → Prop} : (∃ es, ElsT (.tup cs) es ∧ P es) ↔ P cs := by
  constructor
  · rintro ⟨es, h, k⟩
    rwa [elsT_tup.mp h] at k
  · intro k
    exact ⟨_, .tup cs, k⟩
theorem w_ixLis {O : Ob} {cs : List Cl} {i : Int} {Kc : KC} : aIxL O (.lis cs) (.dat (.int i)) Kc ↔ ∃ e, atI cs i = some e ∧ Kc O e := by
  constructor
  · rintro ⟨es, j, e, h1, h2, h3, k⟩
    cases h1
    cases els_lis.mp h2
    exact ⟨e, h3, k⟩
  · rintro ⟨e, h, k⟩
    exact ⟨_, _, e, rfl, .lis cs, h, k⟩
end Ab
namespace Ab
open PySem PySem.Spec PyProof.Rows L2 Vg
/-! ## what the program's defs of words, rows, manners tell -/
def afIsList : AF := fun O cs _ Kc => match cs with
  | [c] => ∃ n, Kn O c n ∧ Kc O (.dat (.bool (n == "list" || n == "tuple")))
  | _ => False
def numsR : Option (List Cl) → Bool
  | none => false
  | some es => es.all numC
def afNums : AF := fun O cs _ Kc => match cs with
  | [c] => ∃ r, RdA O c r ∧ Kc O (.dat (.bool (numsR r)))
  | _ => False
theorem numsR_some {r : Option (List Cl)} (h : numsR r = true) : ∃ is, r = some (iCl is) := by
  cases r with
  | none => cases h
  | some es =>
    have h : es.all numC = true := h
    rw [intsC_all] at h
    cases e : intsC es with
    | none => rw [e] at h; cases h
    | some is => exact ⟨is, by rw [intsC_eq e]⟩
/-- the turn of a list of numbers -/
structure Tn where
  a : Int
  b : Int
  c : Int
  d : Int
abbrev Tn.D (r : Tn) : PyData := rwD r.a r.b r.c r.d
def Tn.next (r : Tn) (t : Int) : Tn := ⟨r.a * t + r.b, r.a, r.c * t + r.d, r.c⟩
structure Tn.B (r : Tn) (n : Nat) : Prop where
  a : r.a.natAbs < 2 ^ n
  b : r.b.natAbs < 2 ^ n
  c : r.c.natAbs < 2 ^ n
  d : r.d.natAbs < 2 ^ n
theorem Tn.B.next {r : Tn} {n m : Nat} {t : Int} (h : r.B n) (ht : t.natAbs < 2 ^ m) : (r.next t).B (n + m + 1) :=
  ⟨addB (wide_lt h.a ht) (upB h.b (by omega)), upB h.a (by omega), addB (wide_lt h.c ht) (upB h.d (by omega)), upB h.c (by omega)⟩
/-- a list of numbers of at most m bits, not too long -/
structure Sml (is : List Int) (m : Nat) : Prop where
  t : ∀ t ∈ is, t.natAbs < 2 ^ m
  m0 : 0 < m
  l : (is.length + 1) * (m + 1) ≤ 900000
theorem Sml.sum {is : List Int} {m : Nat} (h : Sml is m) : 1 + is.length * (m + 1) + m ≤ 1000000 := by
  have := h.l
  rw [Nat.succ_mul] at this
  omega
/-- what is seen of a thing of another kind, into which something was put n times -/
def rdM (n : Nat) : PyData → Option (List Cl)
  | .list ds => some ((ds ++ mores n).map .dat)
  | .tuple ds => some (ds.map .dat)
  | _ => none
def szD : PyData → Bool
  | .list ds => decide (ds.length < 900)
  | .tuple ds => decide (ds.length < 900)
  | _ => true
theorem dat_kn {O : Ob} {ds : List PyData} : ∀ e ∈ ds.map Cl.dat, ∃ n, Kn O e n := by
  intro e he
  obtain ⟨d, _, rfl⟩ := List.mem_map.mp he
  exact ⟨_, .dat d⟩
theorem rd_tup {O : Ob} (ds : List PyData) (h : ds.length < 1000000) : RdA O (.dat (.tuple ds)) (some (ds.map .dat)) := ⟨.inr ⟨.dat ds, .dat _⟩, dat_kn, by rwa [List.length_map]⟩
theorem rd_own {O : Ob} {a : Addr} {ds : List PyData} (m : (a, Ow.lst (ds.map .dat)) ∈ O) (h : ds.length < 1000000) : RdA O (.at a) (some (ds.map .dat)) := ⟨.inl ⟨.own m, .own m⟩, dat_kn, by rwa [List.length_map]⟩
theorem OddM.rd {n : Nat} {d : PyData} {c : Cl} {G O : Ob} (h : OddM n d c G) (m : ∀ x ∈ G, x ∈ O) (hz : szD d = true) (hn : n ≤ 4) : RdA O c (rdM n d) := by
  cases h with
  | imm h1 h2 =>
    cases d with
    | list ds => exact absurd rfl (h1 ds)
    | dict es => exact absurd rfl (h2 es)
    | tuple ds =>
      have hz : ds.length < 900 := of_decide_eq_true hz
      exact rd_tup ds (by omega)
    | none => exact ⟨_, .dat _, rfl⟩
    | bool b => exact ⟨_, .dat _, rfl⟩
    | int i => exact ⟨_, .dat _, rfl⟩
    | str x => exact ⟨_, .dat _, rfl⟩
  | lst ds =>
    have hz : ds.length < 900 := of_decide_eq_true hz
    exact rd_own (m _ (List.mem_cons_self ..)) (by rw [List.length_append]; simp [mores]; omega)
  | dct kvs es hk hc => exact ⟨_, .dct (m _ (List.mem_cons_self ..)), rfl⟩
def mns : List PyData := [.str "floor", .str "ceil", .str "near"]
def manC : Cl → Bool
  | .dat (.str x) => inV (.str x) (mns.map vD)
  | _ => false
def afMan : AF := fun O cs _ Kc => match cs with
  | [c] => (∃ n, Kn O c n) ∧ Kc O (.dat (.bool (manC c)))
  | _ => False
def afNeedM : AF := fun O cs Xf Kc => match cs with
  | [c] => (∃ n, Kn O c n) ∧ ((manC c = false ∧ Xf O "NoManner" c) ∨ (manC c = true ∧ Kc O (.dat .none)))
  | _ => False
theorem man_in {x : Str} (h : isMan x) : manC (.dat (.str x)) = true := by
  rcases h with rfl | rfl | rfl <;> decide +kernel

def afFol : AF := fun O cs _ Kc => match cs with
  | [c, d] => ∃ b t : Int, c = .dat (.int b) ∧ d = .dat (.int t) ∧ Kc O (.dat (.bool (folN b t)))
  | _ => False
def begR (x : Str) : Option (List Cl) → Bool
  | none => false
  | some es => (intsC es).elim false (begI x)
def afBeg : AF := fun O cs _ Kc => match cs with
  | [c, m] => ∃ r x, RdA O c r ∧ m = .dat (.str x) ∧ Kc O (.dat (.bool (begR x r)))
  | _ => False
theorem begR_no {x : Str} {r : Option (List Cl)} (h : numsR r = false) : begR x r = false := by
  cases r with
  | none => rfl
  | some es =>
    have h : es.all numC = false := h
    rw [intsC_all] at h
    show (intsC es).elim false (begI x) = false
    cases e : intsC es with
    | none => rfl
    | some is => rw [e] at h; cases h
def afEnds : AF := fun O cs _ Kc => match cs with
  | [c, m] => ∃ (is : List Int) (x : Str), RdA O c (some (iCl is)) ∧ m = .dat (.str x) ∧ Kc O (.dat (.bool (endI x is)))
  | _ => False
def endR (x : Str) : Option (List Cl) → Bool
  | none => false
  | some es => (intsC es).elim false (endI x)
theorem begR_some {x : Str} {r : Option (List Cl)} (h : begR x r = true) : ∃ is, r = some (iCl is) ∧ endR x r = endI x is := by
  cases r with
  | none => cases h
  | some es =>
    have h : (intsC es).elim false (begI x) = true := h
    cases e : intsC es with
    | none => rw [e] at h; cases h
    | some is =>
      refine ⟨is, by rw [intsC_eq e], ?_⟩
      show (intsC es).elim false (endI x) = _
      rw [e]
      rfl
def afIsRow : AF := fun O cs Xf Kc => match cs with
  | [c, m] => (∃ n, Kn O m n) ∧ ((manC m = false ∧ Xf O "NoManner" m) ∨ ∃ r x, RdA O c r ∧ m = .dat (.str x) ∧ manC m = true ∧ Kc O (.dat (.bool (begR x r && endR x r))))
  | _ => False
section
variable {O : Ob} {ρ : Rho} {XX : XC} {a b : AE} {v : AS} {A : AEn}
end
theorem run_drop {x : Str} (hx : isMan x) {n : Nat} {a b : Int} {r : List Int} (h : Run x a b r) : Fz n a b → ∀ k, k < r.length → ∃ a' b', Run x a' b' (r.drop k) ∧ Fz n a' b' := by
  induction h with
  | @last a b h =>
    intro F k hk
    have : k = 0 := by simp at hk; omega
    subst this
    exact ⟨a, b, .last h, F⟩
  | @next a b r h kr ih =>
    intro F k hk
    cases k with
    | zero => exact ⟨a, b, .next h kr, F⟩
    | succ k => exact ih (Run.fz hx F h) k (by simpa using hk)
theorem e_abs {e a : Int} (h : e = 1 ∨ e = -1) : (e * a).natAbs = a.natAbs := by
  rcases h with rfl | rfl
  · rw [Int.one_mul]
  · rw [Int.neg_mul, Int.one_mul, Int.natAbs_neg]
theorem run_terms {x : Str} (hx : isMan x) {n : Nat} {a b : Int} {r : List Int} (h : Run x a b r) : Fz n a b → ∀ t ∈ r, t.natAbs < 2 ^ (n + 2) := by
  induction h with
  | @last a b h =>
    intro F t ht
    cases List.mem_singleton.mp ht
    exact term_size hx F.b1 F.ta F.tb
  | @next a b r h kr ih =>
    intro F t ht
    rcases List.mem_cons.mp ht with rfl | ht
    · exact term_size hx F.b1 F.ta F.tb
    · exact ih (Run.fz hx F h) t ht
theorem cpow {i j : Int} (h0 : 0 ≤ j := by decide) (h1 : j ≤ 1000000 := by decide) (h2 : i.natAbs < 2 ^ 64 := by decide) : CPow i j := ⟨h0, h1, h2⟩
theorem two_at {r u v : Int} (h0 : 0 ≤ r) (h1 : r < 2) : ∃ w : Int, atI [Cl.dat (.int u), .dat (.int v)] r = some (.dat (.int w)) ∧ (w = u ∨ w = v) := by
  have : r = 0 ∨ r = 1 := by omega
  rcases this with rfl | rfl
  · exact ⟨u, rfl, .inl rfl⟩
  · exact ⟨v, rfl, .inr rfl⟩
/-- what a row of terms makes of a rest, from behind -/
def worG (s p q : Int) : List Int → Int × Int
  | [] => (p, q)
  | t :: r => (t * (worG s p q r).1 + s * (worG s p q r).2, (worG s p q r).1)
theorem worG_one (s : Int) : ∀ l : List Int, worG s 1 0 l = wor s l
  | [] => rfl
  | t :: r => by
    show (t * (worG s 1 0 r).1 + s * (worG s 1 0 r).2, (worG s 1 0 r).1) = (t * (wor s r).1 + s * (wor s r).2, (wor s r).1)
    rw [worG_one s r]
/-- bounds of what it makes -/
structure WorB (s p q : Int) (is : List Int) (n m : Nat) : Prop where
  w : ∀ j, (worG s p q (is.drop j)).1.natAbs < 2 ^ n ∧ (worG s p q (is.drop j)).2.natAbs < 2 ^ n
  t : ∀ t ∈ is, t.natAbs < 2 ^ m
  n0 : 0 < n
  m0 : 0 < m
  nm : n + m ≤ 1000000
  n9 : n ≤ 9000
theorem WorB.run {x : Str} (hx : isMan x) {n : Nat} {a b : Int} {r : List Int} (run : Run x a b r) (F : Fz n a b) (h0 : 0 < n) (h1 : n ≤ 9000) : WorB (sgI x) 1 0 r n (n + 2) where
  w := by
    intro j
    rw [worG_one]
    by_cases hj : j < r.length
    · obtain ⟨a', b', run', F'⟩ := run_drop hx run F j hj
      obtain ⟨e, he, hw⟩ := run_wor run' F'.b1 F'.g
      rw [hw]
      exact ⟨by show (e * a').natAbs < _; rw [e_abs he]; exact F'.ta, by show (e * b').natAbs < _; rw [e_abs he]; exact F'.tb⟩
    · rw [List.drop_of_length_le (by omega)]
      have : (1 : Nat) < 2 ^ n := Nat.one_lt_two_pow (by omega)
      exact ⟨by show (1 : Int).natAbs < _; omega, by show (0 : Int).natAbs < _; omega⟩
  t := run_terms hx run F
  n0 := h0
  m0 := by omega
  nm := by omega
  n9 := h1
/-! ## {k: v} of plain values -/
def aDct1 (k : Key) (d : PyData) : AE := fun O _ _ Kc => ∀ p, Kc ((p, .dct [(k, .dat d)]) :: O) (.at p)
/-! ## things into which something may be put again and again -/
/-- owned things, one behind another, each of which has got at most B mores -/
inductive Mos (B : Nat) (R : Ob) : List (PyData × Cl) → Ob → Prop
  | nil (X : Ob) : Mos B R [] (X ++ R)
  | cons {d : PyData} {c : Cl} {G : Ob} {n : Nat} {L : List (PyData × Cl)} {O : Ob} (X : Ob) (h : OddM n d c G) (hn : n ≤ B) (r : Mos B R L O) : Mos B R ((d, c) :: L) (X ++ (G ++ O))
theorem Mos.app {B : Nat} {R : Ob} {L : List (PyData × Cl)} {O : Ob} (h : Mos B R L O) (Y : Ob) : Mos B R L (Y ++ O) := by
  cases h with
  | nil X => rw [← List.append_assoc]; exact .nil _
  | cons X h hn r => rw [← List.append_assoc]; exact .cons _ h hn r
theorem Mos.up {B B' : Nat} {R : Ob} (k : B ≤ B') : ∀ {L : List (PyData × Cl)} {O : Ob}, Mos B R L O → Mos B' R L O
  | _, _, .nil X => .nil X
  | _, _, .cons X h hn r => .cons X h (Nat.le_trans hn k) (Mos.up k r)
/-- what stands behind them all -/
theorem Mos.rest {B : Nat} {R : Ob} : ∀ {L : List (PyData × Cl)} {O : Ob}, Mos B R L O → ∃ A, O = A ++ R ∧ ∀ R', Mos B R' L (A ++ R')
  | _, _, .nil X => ⟨X, rfl, fun R' => .nil X⟩
  | _, _, .cons (G := G) X h hn r => by
    obtain ⟨A, rfl, k⟩ := Mos.rest r
    exact ⟨X ++ (G ++ A), by simp, fun R' => by
      have z := Mos.cons X h hn (k R')
      simpa using z⟩
/-- one of them -/
theorem Mos.at {B : Nat} {R : Ob} : ∀ {L : List (PyData × Cl)} {O : Ob} {i : Nat} {d : PyData} {c : Cl}, Mos B R L O → L[i]? = some (d, c) → ∃ A G T n, O = A ++ (G ++ T) ∧ OddM n d c G ∧ n ≤ B ∧ ∀ B' G' n', B ≤ B' → OddM n' d c G' → n' ≤ B' → Mos B' R L (A ++ (G' ++ T))
  | _, _, i, _, _, .nil X, e => by simp at e
  | _, _, 0, _, _, .cons (G := G) X h hn r, e => by
    simp at e
    obtain ⟨rfl, rfl⟩ := e
    exact ⟨X, G, _, _, rfl, h, hn, fun B' G' n' hb h' hn' => .cons X h' hn' (r.up hb)⟩
  | _, _, i + 1, _, _, .cons (G := G) X h hn r, e => by
    obtain ⟨A, G1, T, n, rfl, h1, hn1, k⟩ := Mos.at (i := i) r (by simpa using e)
    exact ⟨X ++ (G ++ A), G1, T, n, by simp, h1, hn1, fun B' G' n' hb h' hn' => by
      have z := Mos.cons X h (Nat.le_trans hn hb) (k B' G' n' hb h' hn')
      simpa using z⟩
/-- one of them, or a thing that stays as it is -/
def MoIn (L : List (PyData × Cl)) (d : PyData) (c : Cl) : Prop := (d, c) ∈ L ∨ (c = .dat d ∧ (∀ ds, d ≠ .list ds) ∧ ∀ es, d ≠ .dict es)
theorem Mos.any {B : Nat} {R : Ob} {L : List (PyData × Cl)} {O : Ob} {d : PyData} {c : Cl} (h : Mos B R L O) (m : MoIn L d c) : ∃ A G T n, O = A ++ (G ++ T) ∧ OddM n d c G ∧ n ≤ B ∧ ∀ B' G' n', B ≤ B' → OddM n' d c G' → n' ≤ B' → Mos B' R L (A ++ (G' ++ T)) := by
  rcases m with m | ⟨rfl, h1, h2⟩
  · obtain ⟨i, hi⟩ := List.getElem?_of_mem m
    exact h.at hi
  · refine ⟨O, [], [], 0, by simp, .imm h1 h2, Nat.zero_le _, fun B' G' n' hb h' _ => ?_⟩
    cases h' with
    | imm _ _ => simpa using h.up hb
/-! ## isinstance of a refusal, of several classes -/
/-! ## a plain look at small things -/
def smEb : PyData → Bool
  | .int i => decide (i.natAbs < 2 ^ 40)
  | .bool _ => true
  | .none => true
  | .str x => decide (x.cps.size ≤ 41) && (PyData.str x).leavesShort 1921
  | _ => false
def okL (N : Nat) : PyData → Bool
  | .list ds => ds.all smEb && decide (ds.length + N ≤ 170)
  | .dict kvs => oddOk5 (.dict kvs)
  | d => oddOk d
theorem Mos.c1 {B : Nat} {R : Ob} {L : List (PyData × Cl)} {O : Ob} {a : Addr} {ds : List PyData} (h : Mos B R L O) : Mos B R ((.list ds, .at a) :: L) ((a, .lst (ds.map Cl.dat)) :: O) := .cons [] (Odd.lst ds).m (Nat.zero_le _) h
theorem Mos.c2 {B : Nat} {R : Ob} {L : List (PyData × Cl)} {O : Ob} {a : Addr} {k : Key} {d : PyData} (h : Mos B R L O) : Mos B R ((.dict [(kD k, d)], .at a) :: L) ((a, .dct [(k, .dat d)]) :: O) := .cons [] (OddM.dct (n := 0) (a := a) [(kD k, d)] [(k, .dat d)] rfl rfl) (Nat.zero_le _) h
theorem Mos.end {B : Nat} {R : Ob} : Mos B R [] R := .nil []
end Ab
namespace Ab
open PySem PySem.Spec PyProof.Rows L2 Vg
open Sem (wp)
/-! ## repr of data at any depth: dicts within, and numbers of up to 4300 figures -/
mutual
def AllI (P : Int → Prop) : PyData → Prop
  | .none => True
  | .bool _ => True
  | .str _ => True
  | .int i => P i
  | .list xs => AllIs P xs
  | .tuple xs => AllIs P xs
  | .dict kvs => AllKv P kvs
def AllIs (P : Int → Prop) : List PyData → Prop
  | [] => True
  | x :: xs => AllI P x ∧ AllIs P xs
def AllKv (P : Int → Prop) : List (PyData × PyData) → Prop
  | [] => True
  | (k, v) :: r => AllI P k ∧ AllI P v ∧ AllKv P r
end
theorem allKv_split {P : Int → Prop} : ∀ {kvs : List (PyData × PyData)}, AllKv P kvs → AllIs P (kvs.map (·.1)) ∧ AllIs P (kvs.map (·.2))
  | [], _ => by simp only [List.map_nil, AllIs, and_self]
  | (k, v) :: r, h => by
    have h' : AllI P k ∧ AllI P v ∧ AllKv P r := by simpa only [AllKv] using h
    obtain ⟨h1, h2⟩ := allKv_split h'.2.2
    simp only [List.map_cons, AllIs]
    exact ⟨⟨h'.1, h1⟩, h'.2.1, h2⟩
/-- a number whose text is to be had: a short one, or any up to the limit where no other limit is set -/
def OkI (nd : Prop) (i : Int) : Prop := i.natAbs.log2 < 1920 ∨ (nd ∧ i.natAbs < 10 ^ 4300)
mutual
inductive RdV (h : Heap) : Value → PyData → Prop
  | none : RdV h .none .none
  | bool (b) : RdV h (.bool b) (.bool b)
  | int (i t) : RdV h (.int i t) (.int i)
  | str (x t) : RdV h (.str x t) (.str x)
  | list {a o vs n xs} : h.get? a = some o → o.cls = .type "list" → o.data = .seq vs n → RdVs h vs.toList xs → RdV h (.ref a) (.list xs)
  | tuple {a o vs n xs} : h.get? a = some o → o.cls = .type "tuple" → o.data = .seq vs n → RdVs h vs.toList xs → RdV h (.ref a) (.tuple xs)
  | dict {a o es n kvs} : h.get? a = some o → o.cls = .type "dict" → o.data = .dict es n → (a == sysModules) = false → RdVs h (es.toList.map (·.key)) (kvs.map (·.1)) → RdVs h (es.toList.map (·.val)) (kvs.map (·.2)) → RdV h (.ref a) (.dict kvs)
inductive RdVs (h : Heap) : List Value → List PyData → Prop
  | nil : RdVs h [] []
  | cons {v vs d ds} : RdV h v d → RdVs h vs ds → RdVs h (v :: vs) (d :: ds)
end
mutual
theorem RdV.reads {h : Heap} : ∀ {v : Value} {d : PyData}, RdV h v d → ∃ as, Reads h v d as
  | _, _, .none => ⟨_, .none⟩
  | _, _, .bool b => ⟨_, .bool b⟩
  | _, _, .int i t => ⟨_, .int i t⟩
  | _, _, .str x t => ⟨_, .str x t⟩
  | _, _, .list e c z r => let ⟨_, r⟩ := RdVs.reads r; ⟨_, .list e c z r⟩
  | _, _, .tuple e c z r => let ⟨_, r⟩ := RdVs.reads r; ⟨_, .tuple e c z r⟩
  | _, _, .dict e c z _ r q => let ⟨_, r⟩ := RdVs.reads r; let ⟨_, q⟩ := RdVs.reads q; ⟨_, .dict e c z r q⟩
theorem RdVs.reads {h : Heap} : ∀ {vs : List Value} {ds : List PyData}, RdVs h vs ds → ∃ as, ReadsAll h vs ds as
  | _, _, .nil => ⟨_, .nil⟩
  | _, _, .cons a b => let ⟨_, a⟩ := RdV.reads a; let ⟨_, b⟩ := RdVs.reads b; ⟨_, .cons a b⟩
end
section
variable {prog : Program} {w : World} {h₀ : Heap} {A : Around} {E : Value → Shared → Prop} {s : Shared}
theorem call_int_repr_big {a : Int} {t : Tok} {Q : Value → Shared → Prop} (hn : s.heap.NoDigits) (hlt : a.natAbs < 10 ^ 4300) (h1 : Q (.str (toString a) s.toks) { s with toks := s.toks + 1 }) :
    wpAny (model prog w) A (call (.builtin "int.__repr__") [.int a t]) Q E s := by
  refine wpAny_call_entry F.slot_int_repr (typeIs_int s a t) F.entry_int_repr ?_ (F.args_int_repr_1 _)
  unfold Builtin.«int.__repr__»
  show wpAny _ _ (do let r ← Builtin.overDigitLimit? a; _) _ _ s
  refine wpAny_bind (overDigitLimit_any hn (fun _ => ?_) (fun hge => absurd hlt (Nat.not_lt.mpr hge)))
  exact wpAny_bind (wpAny_mkStr (wpAny_pure ⟨_, rfl, h1⟩) (int_text_fits10 hlt))
theorem pyReprObj_big {a : Int} {t : Tok} {Q : Value → Shared → Prop} (hn : s.heap.NoDigits) (hlt : a.natAbs < 10 ^ 4300) (h : Q (.str (toString a) s.toks) { s with toks := s.toks + 1 }) :
    wpAny (model prog w) A (pyReprObj (.int a t)) Q E s := by
  unfold pyReprObj
  have hv : [Value.int a t].any Value.onHeap = false := rfl
  simp only [cRoomFor, hv, Bool.false_eq_true, if_false, pure_bind]
  refine wpAny_bind (wpAny_specialOf (name := Str.ofString "__repr__") (typeIs_int s a t) F.slot_int_repr.lookup ?_)
  refine wpAny_bind (m := callSpecialIfBound? (.int a t) (Str.ofString "__repr__")) (wpAny_callSpecialIfBound?_slot (name := Str.ofString "__repr__") (typeIs_int s a t) F.slot_int_repr (call_int_repr_big hn hlt ?_))
  exact wpAny_bind (wpAny_isInstance (T := "str") (b := true) rfl isSubtype_str_str (wpAny_pure h))
theorem repr_of_big {a : Int} {t : Tok} {Q : Value → Shared → Prop} (hn : s.heap.NoDigits) (hlt : a.natAbs < 10 ^ 4300) (h : Q (.str (toString a) s.toks) { s with toks := s.toks + 1 }) :
    wpAny (model prog w) A (call (.builtin "repr") [.int a t]) Q E s := by
  refine Calls.call_function_entry F.kind_repr F.plain_repr F.entry_repr (F.args_repr1 _) ?_
  unfold Builtin.«repr»
  refine wpAny_bind (m := oneArg "repr" _) (wpAny_pure ?_)
  have hv : [Value.int a t].any Value.onHeap = false := rfl
  simp only [cRoomFor, hv, Bool.false_eq_true, if_false, pure_bind]
  refine wpAny_bind (wpAny_specialOf (name := Str.ofString "__repr__") (typeIs_int s a t) F.slot_int_repr.lookup ?_)
  refine wpAny_bind (m := callSpecialIfBound? (.int a t) (Str.ofString "__repr__")) (wpAny_callSpecialIfBound?_slot (name := Str.ofString "__repr__") (typeIs_int s a t) F.slot_int_repr (call_int_repr_big hn hlt ?_))
  refine wpAny_bind (wpAny_isInstance (T := "str") (b := true) rfl isSubtype_str_str ?_)
  exact wpAny_pure ⟨_, rfl, h⟩
/-- the text of a value may be asked for; what is walked through on the way lies no deeper than it -/
def Rp (prog : Program) (w : World) (h₀ : Heap) (v : Value) (d : PyData) : Prop := ∃ bs, ReadAtMost h₀ d.depth bs ∧ ReprK prog w bs h₀ d.depth v d.shown
def RpL (prog : Program) (w : World) (h₀ : Heap) (vs : List Value) (ds : List PyData) : Prop := ∃ bs, ReadAtMost h₀ (PyData.depthAll ds) bs ∧ ReprAllK prog w bs h₀ (PyData.depthAll ds) vs (PyData.shownAll ds)
theorem rp_leaf {v : Value} {d : PyData} (k : ReprK prog w [] h₀ d.depth v d.shown) : Rp prog w h₀ v d := ⟨[], (fun b hb => by cases hb), k⟩
theorem rp_int {a : Int} {t : Tok} (h : OkI h₀.NoDigits a) : Rp prog w h₀ (.int a t) (.int a) := by
  refine rp_leaf ?_
  rw [show (PyData.int a).shown = toString a by simp only [PyData.shown]]
  rcases h with small | ⟨none, big⟩
  · exact .of_is (ReprIs.int t small) _ _ _
  · intro before room A g E s Q _ _ _ kept told
    have l : before ≤ sizeLine := by omega
    rw [pyReprUnder_leaf (v := .int a t) l (by intro _ z; cases z)]
    unfold pyRepr
    exact wpAny_bind (pyReprObj_big (none.keeps kept) big (wpAny_pure (told s.heap _ fun _ _ z => z)))
theorem rpl_nil : RpL prog w h₀ [] [] := ⟨[], (fun b hb => by cases hb), by simp only [PyData.shownAll]; exact .nil⟩
theorem rpl_cons {v : Value} {vs : List Value} {d : PyData} {ds : List PyData} (one : Rp prog w h₀ v d) (rest : RpL prog w h₀ vs ds) : RpL prog w h₀ (v :: vs) (d :: ds) := by
  obtain ⟨b1, low1, k1⟩ := one
  obtain ⟨b2, low2, k2⟩ := rest
  have e : PyData.depthAll (d :: ds) = max d.depth (PyData.depthAll ds) := by simp only [PyData.depthAll]
  have m1 : d.depth ≤ PyData.depthAll (d :: ds) := by omega
  have m2 : PyData.depthAll ds ≤ PyData.depthAll (d :: ds) := by omega
  refine ⟨b1 ++ b2, (low1.mono m1).append (low2.mono m2), ?_⟩
  rw [show PyData.shownAll (d :: ds) = d.shown :: PyData.shownAll ds by simp only [PyData.shownAll]]
  exact .cons ((k1.more (List.subset_append_left b1 b2)).level_le m1) (k2.more_le (List.subset_append_right b1 b2) m2)
/-- an object stands in none of those that it holds -/
theorem rp_box {a : Addr} {d : PyData} {bs : List Addr} {n : Nat} (r : RdV h₀ (.ref a) d) (hn : n < d.depth) (low : ReadAtMost h₀ n bs) : a ∉ bs ∧ ReadAtMost h₀ d.depth (a :: bs) := by
  obtain ⟨_, rd⟩ := r.reads
  exact ⟨not_mem_of_deeper rd hn low, .cons rd (Nat.le_of_lt hn) low⟩
theorem allIs_mem {ts : List Str} {z : Nat} (h : ∀ t ∈ ts, t.length ≤ z) (k : z ≤ sizeLine) : ∀ t ∈ ts, t.length ≤ sizeLine := fun t ht => Nat.le_trans (h t ht) k
theorem depth_kv (kvs : List (PyData × PyData)) : (PyData.dict kvs).depth = PyData.depthKv kvs + 1 := by simp only [PyData.depth]
/-- keys and values of a dict together -/
theorem rp_kv {es : List DictEntry} {kvs : List (PyData × PyData)} (ks : RpL prog w h₀ (es.map (·.key)) (kvs.map (·.1))) (vs : RpL prog w h₀ (es.map (·.val)) (kvs.map (·.2))) :
    ∃ bs, ReadAtMost h₀ (PyData.depthKv kvs) bs ∧ ReprEntriesK prog w bs h₀ (PyData.depthKv kvs) es (PyData.shownKv kvs) := by
  obtain ⟨b1, low1, k1⟩ := ks
  obtain ⟨b2, low2, k2⟩ := vs
  have m1 := PyData.depthAll_keys_le kvs
  have m2 := PyData.depthAll_vals_le kvs
  refine ⟨b1 ++ b2, (low1.mono m1).append (low2.mono m2), ?_⟩
  rw [PyData.shownKv_eq]
  exact .of_two es _ _ (k1.more_le (List.subset_append_left b1 b2) m1) (k2.more_le (List.subset_append_right b1 b2) m2)
theorem key_fits {kvs : List (PyData × PyData)} (h : (PyData.dict kvs).shown.length ≤ sizeLine) : (∀ t ∈ PyData.shownAll (kvs.map (·.1)), t.length ≤ sizeLine) ∧ ∀ t ∈ PyData.shownAll (kvs.map (·.2)), t.length ≤ sizeLine := by
  have z : (dictText (PyData.shownKv kvs)).length ≤ sizeLine := by simpa only [PyData.shown] using h
  constructor
  · intro t ht
    obtain ⟨p, hp, hl⟩ := PyData.shownKv_key_le kvs t ht
    have := dictText_mem_le hp
    omega
  · intro t ht
    obtain ⟨p, hp, hl⟩ := PyData.shownKv_val_le kvs t ht
    have := dictText_mem_le hp
    omega
theorem list_fits {xs : List PyData} (h : (PyData.list xs).shown.length ≤ sizeLine) : ∀ t ∈ PyData.shownAll xs, t.length ≤ sizeLine := by
  have z : (listText (PyData.shownAll xs)).length ≤ sizeLine := by simpa only [PyData.shown] using h
  exact allIs_mem (fun t ht => listText_mem_le ht) z
theorem tuple_fits {xs : List PyData} (h : (PyData.tuple xs).shown.length ≤ sizeLine) : ∀ t ∈ PyData.shownAll xs, t.length ≤ sizeLine := by
  have z : (tupleText (PyData.shownAll xs)).length ≤ sizeLine := by simpa only [PyData.shown] using h
  exact allIs_mem (fun t ht => tupleText_mem_le ht) z
theorem rp_list {a : Addr} {o : Obj} {vs : Array Value} {n : Nat} {xs : List PyData} (h1 : h₀.get? a = some o) (h2 : o.cls = .type "list") (h3 : o.data = .seq vs n) (h4 : RdVs h₀ vs.toList xs) (k : RpL prog w h₀ vs.toList xs) : Rp prog w h₀ (.ref a) (.list xs) := by
  obtain ⟨bs, low, k⟩ := k
  have e : (PyData.list xs).depth = PyData.depthAll xs + 1 := by simp only [PyData.depth]
  obtain ⟨off, low'⟩ := rp_box (.list h1 h2 h3 h4) (by omega) low
  refine ⟨a :: bs, low', ?_⟩
  rw [e, show (PyData.list xs).shown = listText (PyData.shownAll xs) by simp only [PyData.shown]]
  match vs, h3, h4, k with
  | ⟨[]⟩, h3, .nil, _ => rw [show PyData.shownAll [] = [] by simp only [PyData.shownAll], listText_nil]; exact ReprK.listEmpty h1 h2 h3
  | ⟨x :: l⟩, h3, _, k => exact ReprK.list h1 h2 h3 off (by have := k.length_eq; simpa using this) fun i y z => k.item i y (by simpa using z)
theorem rp_tuple {a : Addr} {o : Obj} {vs : Array Value} {n : Nat} {xs : List PyData} (h1 : h₀.get? a = some o) (h2 : o.cls = .type "tuple") (h3 : o.data = .seq vs n) (h4 : RdVs h₀ vs.toList xs) (k : RpL prog w h₀ vs.toList xs) : Rp prog w h₀ (.ref a) (.tuple xs) := by
  obtain ⟨bs, low, k⟩ := k
  have e : (PyData.tuple xs).depth = PyData.depthAll xs + 1 := by simp only [PyData.depth]
  obtain ⟨off, low'⟩ := rp_box (.tuple h1 h2 h3 h4) (by omega) low
  refine ⟨a :: bs, low', ?_⟩
  rw [e, show (PyData.tuple xs).shown = tupleText (PyData.shownAll xs) by simp only [PyData.shown]]
  exact ReprK.tuple h1 h2 h3 off k
theorem rp_dict {a : Addr} {o : Obj} {es : Array DictEntry} {n : Nat} {kvs : List (PyData × PyData)} (h1 : h₀.get? a = some o) (h2 : o.cls = .type "dict") (h3 : o.data = .dict es n) (h0 : (a == sysModules) = false) (h4 : RdVs h₀ (es.toList.map (·.key)) (kvs.map (·.1))) (h5 : RdVs h₀ (es.toList.map (·.val)) (kvs.map (·.2)))
    (k : RpL prog w h₀ (es.toList.map (·.key)) (kvs.map (·.1))) (l : RpL prog w h₀ (es.toList.map (·.val)) (kvs.map (·.2))) : Rp prog w h₀ (.ref a) (.dict kvs) := by
  obtain ⟨bs, low, k⟩ := rp_kv k l
  obtain ⟨off, low'⟩ := rp_box (.dict h1 h2 h3 h0 h4 h5) (by rw [depth_kv]; omega) low
  refine ⟨a :: bs, low', ?_⟩
  rw [depth_kv, show (PyData.dict kvs).shown = dictText (PyData.shownKv kvs) by simp only [PyData.shown]]
  exact ReprK.dict h1 h2 h3 h0 off k
mutual
theorem rp_of : ∀ {v : Value} {d : PyData}, RdV h₀ v d → AllI (OkI h₀.NoDigits) d → d.shown.length ≤ sizeLine → Rp prog w h₀ v d
  | _, _, .none, _, _ => rp_leaf (by simp only [PyData.shown]; exact .of_is .none _ _ _)
  | _, _, .bool b, _, _ => rp_leaf (by simp only [PyData.shown]; exact .of_is (.bool b) _ _ _)
  | _, _, .int i t, h, _ => rp_int (by simpa only [AllI] using h)
  | _, _, .str x t, _, z => rp_leaf (by simp only [PyData.shown] at z ⊢; exact .of_is (.str x t z) _ _ _)
  | _, _, .list h1 h2 h3 h4, h, z => rp_list h1 h2 h3 h4 (rpl_of h4 (by simpa only [AllI] using h) (list_fits z))
  | _, _, .tuple h1 h2 h3 h4, h, z => rp_tuple h1 h2 h3 h4 (rpl_of h4 (by simpa only [AllI] using h) (tuple_fits z))
  | _, _, .dict h1 h2 h3 h0 h4 h5, h, z => by
    have sp := allKv_split (by simpa only [AllI] using h)
    exact rp_dict h1 h2 h3 h0 h4 h5 (rpl_of h4 sp.1 (key_fits z).1) (rpl_of h5 sp.2 (key_fits z).2)
theorem rpl_of : ∀ {vs : List Value} {ds : List PyData}, RdVs h₀ vs ds → AllIs (OkI h₀.NoDigits) ds → (∀ t ∈ PyData.shownAll ds, t.length ≤ sizeLine) → RpL prog w h₀ vs ds
  | _, _, .nil, _, _ => rpl_nil
  | _, _, .cons (d := d) (ds := ds) r rs, h, z => by
    have h' : AllI (OkI h₀.NoDigits) d ∧ AllIs (OkI h₀.NoDigits) ds := by simpa only [AllIs] using h
    have e : PyData.shownAll (d :: ds) = d.shown :: PyData.shownAll ds := by simp only [PyData.shownAll]
    rw [e] at z
    exact rpl_cons (rp_of r h'.1 (z _ (List.mem_cons_self ..))) (rpl_of rs h'.2 fun t ht => z t (List.mem_cons_of_mem _ ht))
end
/-- repr of an object that reads so -/
theorem repr_rdv {a : Addr} {d : PyData} {Q : Value → Shared → Prop} (r : RdV s.heap (.ref a) d) (hs : AllI (OkI s.heap.NoDigits) d) (hg : A.guards = some []) (hu : A.units + (d.depth + 1) < cLine)
    (hQ : ∀ h' u tk, (∀ b o, s.heap.get? b = some o → h'.get? b = some o) → Q (.str d.shown u) { s with heap := h', toks := tk }) (hsz : d.shown.length ≤ sizeLine) :
    wpAny (model prog w) A (call (.builtin "repr") [.ref a]) Q E s := by
  have out : ∀ h' u tk, (∀ b o, s.heap.get? b = some o → h'.get? b = some o) → ∃ x t, Value.str d.shown u = Value.str x t ∧ Q (.str d.shown u) { s with heap := h', toks := tk } := fun h' u tk k => ⟨_, _, rfl, hQ h' u tk k⟩
  cases r with
  | @list _ o vs n xs h1 h2 h3 h4 =>
    obtain ⟨bs, low, k⟩ := rpl_of (prog := prog) (w := w) h4 (by simpa only [AllI] using hs) (list_fits hsz)
    have e : (PyData.list xs).depth = PyData.depthAll xs + 1 := by simp only [PyData.depth]
    obtain ⟨off, _⟩ := rp_box (.list h1 h2 h3 h4) (by omega) low
    rw [show (PyData.list xs).shown = listText (PyData.shownAll xs) by simp only [PyData.shown]] at out hsz
    refine call_repr_slot (by omega) ⟨o, h1, h2⟩ F.slot_list_repr.toG ?_
    match vs, h3, h4, k with
    | ⟨[]⟩, h3, .nil, _ =>
      rw [show PyData.shownAll [] = [] by simp only [PyData.shownAll], listText_nil] at out
      exact call_list_repr_empty ⟨o, h1, h2⟩ h1 h3 (out s.heap _ _ fun _ _ z => z)
    | ⟨x :: l⟩, h3, _, k =>
      exact call_list_reprK h1 h2 h3 off (by have := k.length_eq; simpa using this) (fun i y z => k.item i y (by simpa using z)) (A := A.in1) hg (fun b _ => Clear.nil b) (by show A.units + 1 + _ < cLine; omega) (fun _ _ z => z) out hsz
  | @tuple _ o vs n xs h1 h2 h3 h4 =>
    obtain ⟨bs, low, k⟩ := rpl_of (prog := prog) (w := w) h4 (by simpa only [AllI] using hs) (tuple_fits hsz)
    have e : (PyData.tuple xs).depth = PyData.depthAll xs + 1 := by simp only [PyData.depth]
    obtain ⟨off, _⟩ := rp_box (.tuple h1 h2 h3 h4) (by omega) low
    rw [show (PyData.tuple xs).shown = tupleText (PyData.shownAll xs) by simp only [PyData.shown]] at out hsz
    refine call_repr_slot (by omega) ⟨o, h1, h2⟩ F.slot_tuple_repr ?_
    exact call_tuple_reprK h1 h2 h3 off k (A := A.in1) hg (fun b _ => Clear.nil b) (by show A.units + 1 + _ < cLine; omega) (fun _ _ z => z) out hsz
  | @dict _ o es n kvs h1 h2 h3 h0 h4 h5 =>
    have sp := allKv_split (P := OkI s.heap.NoDigits) (kvs := kvs) (by simpa only [AllI] using hs)
    obtain ⟨bs, low, k⟩ := rp_kv (prog := prog) (w := w) (rpl_of h4 sp.1 (key_fits hsz).1) (rpl_of h5 sp.2 (key_fits hsz).2)
    obtain ⟨off, _⟩ := rp_box (.dict h1 h2 h3 h0 h4 h5) (by rw [depth_kv]; omega) low
    rw [depth_kv] at hu
    rw [show (PyData.dict kvs).shown = dictText (PyData.shownKv kvs) by simp only [PyData.shown]] at out hsz
    refine call_repr_slot (by omega) ⟨o, h1, h2⟩ F.slot_dict_repr ?_
    exact call_dict_reprK h1 h2 h3 h0 off k (A := A.in1) hg (fun b _ => Clear.nil b) (by show A.units + 1 + _ < cLine; omega) (fun _ _ z => z) out hsz
end
/-! ### what a value tells: none, bools, numbers, texts, lists, tuples, dicts -/
mutual
inductive Dn (K : PySem.W.Frag) (H : Hp) : V → PyData → Prop
  | non : Dn K H .non .none
  | bl (b : Bool) : Dn K H (.bl b) (.bool b)
  | int (i : Int) : Dn K H (.int i) (.int i)
  | str (x : Str) : Dn K H (.str x) (.str x)
  | lst {a : Addr} {xs : List V} {ds : List PyData} (h : SqL K H a xs) (r : DnL K H xs ds) : Dn K H (.ref a) (.list ds)
  | tup {a : Addr} {xs : List V} {ds : List PyData} (h : SqT K H a xs) (r : DnL K H xs ds) : Dn K H (.ref a) (.tuple ds)
  | dct {a : Addr} {kvs : List (Key × V)} {es : List (PyData × PyData)} (h : H a = some (.dK kvs)) (k : kvs.map (fun kv => kD kv.1) = es.map (·.1)) (r : DnL K H (kvs.map (·.2)) (es.map (·.2))) : Dn K H (.ref a) (.dict es)
inductive DnL (K : PySem.W.Frag) (H : Hp) : List V → List PyData → Prop
  | nil : DnL K H [] []
  | cons {v : V} {vs : List V} {d : PyData} {ds : List PyData} (h : Dn K H v d) (r : DnL K H vs ds) : DnL K H (v :: vs) (d :: ds)
end
theorem keys_rdv {P : Program} {w : World} {h : Heap} : ∀ {kvs : List (Key × V)} {ks : List PyData} {vs : List (Key × Value)} {ents : List DictEntry}, kvs.map (fun kv => kD kv.1) = ks → KV kvs vs → Pairs (mixKind P w) ents vs → RdVs h (ents.map (·.key)) ks
  | _, _, _, _, rfl, .nil, .nil => .nil
  | _, _, _, _, rfl, .cons ⟨a1, a2⟩ r, .cons k1 k2 k3 => by
    refine RdVs.cons ?_ (keys_rdv rfl r k3)
    have k1' : keyIs _ _ = true := k1
    rw [← a1] at k1'
    rcases keyIs_shape k1' with ⟨i, t, e1, e2⟩ | ⟨x, t, e1, e2⟩
    · dsimp only; rw [e1, e2]; exact .int i t
    · dsimp only; rw [e1, e2]; exact .str x t
theorem vals_rdv {P : Program} {w : World} : ∀ {kvs : List (Key × V)} {vs : List (Key × Value)} {ents : List DictEntry}, KV kvs vs → Pairs (mixKind P w) ents vs → Vals (kvs.map (·.2)) (ents.map (·.val))
  | _, _, _, .nil, .nil => .nil
  | _, _, _, .cons ⟨a1, a2⟩ r, .cons k1 k2 k3 => by
    refine Paired.cons ?_ (vals_rdv r k3)
    dsimp only; rw [k2]; exact a2
section
variable {X : Cx} {pins : List (Addr × Obj)} {σ : L2.St} {H : Hp} {s : Shared}
mutual
theorem Dn.rdv (I : Inv X pins σ H s) : ∀ {v : V} {d : PyData} {u : Value}, Dn X.K H v d → RelV v u → RdV s.heap u d
  | _, _, _, .non, r => by cases r; exact .none
  | _, _, _, .bl b, r => by cases r; exact .bool b
  | _, _, _, .int i, r => by obtain ⟨t, rfl⟩ := r; exact .int i t
  | _, _, _, .str x, r => by obtain ⟨t, rfl⟩ := r; exact .str x t
  | _, _, _, .lst hs ha, r => by
    cases r
    obtain ⟨its, rv, ⟨o, n, ho, hc, _, hd⟩, _⟩ := I.list hs
    exact .list ho hc hd (DnL.rdv I ha rv)
  | _, _, _, .tup hs ha, r => by
    cases r
    obtain ⟨its, rv, ⟨o, ho, hc, n, hd⟩, _⟩ := I.tuple hs
    exact .tuple ho hc hd (DnL.rdv I ha rv)
  | _, _, _, .dct (a := a) (kvs := kvs) h k ra, r => by
    cases r
    obtain ⟨_, na, vs, rv, o, ents, ep, ho, hx, hdat, _, hp, _⟩ := (show ObjOk X.prog X.w H s.heap a (.dK kvs) from I.hok a _ h)
    exact .dict ho hx.1 hdat na (keys_rdv k rv hp) (DnL.rdv I ra (vals_rdv rv hp))
theorem DnL.rdv (I : Inv X pins σ H s) : ∀ {vs : List V} {ds : List PyData} {us : List Value}, DnL X.K H vs ds → Vals vs us → RdVs s.heap us ds
  | _, _, _, .nil, r => by cases r; exact .nil
  | _, _, _, .cons h1 h2, r => by
    cases r with
    | cons r1 r2 => exact .cons (Dn.rdv I h1 r1) (DnL.rdv I h2 r2)
end
end
/-- no other limit of figures is set -/
structure Nod (K : PySem.W.Frag) : Prop where
  no : PySem.W.nsIn K cStatics "sys.int_max_str_digits" = some none
theorem Nod.heap {K : PySem.W.Frag} {h : Heap} (n : Nod K) (X : K.In h) (l : h.NoLimit) : h.NoDigits := by
  obtain ⟨mc, hns, _⟩ := l
  exact ⟨mc, hns, PySem.W.ns_none_of X hns n.no⟩
mutual
theorem AllI.mono {P Q : Int → Prop} (f : ∀ i, P i → Q i) : ∀ {d : PyData}, AllI P d → AllI Q d
  | .none, _ => by simp only [AllI]
  | .bool _, _ => by simp only [AllI]
  | .str _, _ => by simp only [AllI]
  | .int i, h => by simp only [AllI] at h ⊢; exact f i h
  | .list xs, h => by simp only [AllI] at h ⊢; exact AllIs.mono f h
  | .tuple xs, h => by simp only [AllI] at h ⊢; exact AllIs.mono f h
  | .dict kvs, h => by simp only [AllI] at h ⊢; exact AllKv.mono f h
theorem AllIs.mono {P Q : Int → Prop} (f : ∀ i, P i → Q i) : ∀ {ds : List PyData}, AllIs P ds → AllIs Q ds
  | [], _ => by simp only [AllIs]
  | d :: ds, h => by simp only [AllIs] at h ⊢; exact ⟨AllI.mono f h.1, AllIs.mono f h.2⟩
theorem AllKv.mono {P Q : Int → Prop} (f : ∀ i, P i → Q i) : ∀ {ds : List (PyData × PyData)}, AllKv P ds → AllKv Q ds
  | [], _ => by simp only [AllKv]
  | (k, v) :: ds, h => by simp only [AllKv] at h ⊢; exact ⟨AllI.mono f h.1, AllI.mono f h.2.1, AllKv.mono f h.2.2⟩
end
mutual
theorem allI_show {b : Prop} : ∀ {d : PyData}, d.showable = true → AllI (OkI b) d
  | .none, _ => by simp only [AllI]
  | .bool _, _ => by simp only [AllI]
  | .str _, _ => by simp only [AllI]
  | .int i, h => by simp only [AllI]; exact .inl (by simpa only [PyData.showable, decide_eq_true_eq] using h)
  | .list xs, h => by simp only [AllI]; exact allIs_show (by simpa only [PyData.showable] using h)
  | .tuple xs, h => by simp only [AllI]; exact allIs_show (by simpa only [PyData.showable] using h)
  | .dict kvs, h => by simp only [AllI]; exact allKv_show (by simpa only [PyData.showable] using h)
theorem allIs_show {b : Prop} : ∀ {ds : List PyData}, PyData.showableAll ds = true → AllIs (OkI b) ds
  | [], _ => by simp only [AllIs]
  | d :: ds, h => by
    simp only [AllIs]
    have h' := Bool.and_eq_true_iff.mp (show (PyData.showable d && PyData.showableAll ds) = true by simpa only [PyData.showableAll] using h)
    exact ⟨allI_show h'.1, allIs_show h'.2⟩
theorem allKv_show {b : Prop} : ∀ {ds : List (PyData × PyData)}, PyData.showableKv ds = true → AllKv (OkI b) ds
  | [], _ => by simp only [AllKv]
  | (k, v) :: ds, h => by
    simp only [AllKv]
    have h' := Bool.and_eq_true_iff.mp (show ((PyData.showable k && PyData.showable v) && PyData.showableKv ds) = true by simpa only [PyData.showableKv] using h)
    have h2 := Bool.and_eq_true_iff.mp h'.1
    exact ⟨allI_show h2.1, allI_show h2.2, allKv_show h'.2⟩
end
theorem cr_reprG {X : Cx} {b : Prop} (hg : X.A.guards = some []) (hu : X.A.units + 64 < cLine) (hn : b → Nod X.K) :
    CallR X (.builtin "repr") (fun xs H Q => ∃ x d, xs = [x] ∧ Dn X.K H x d ∧ AllI (OkI b) d ∧ d.depth ≤ 50 ∧ d.shown.length ≤ sizeLine ∧ Q (.str d.shown) H) := by
  intro pins s σ H xs us Q I r h
  obtain ⟨x, d, rfl, hd, hs, hdep, hz, q⟩ := h
  obtain ⟨u, rfl, ru⟩ := one_val r
  have hs : AllI (OkI s.heap.NoDigits) d := hs.mono fun i hi => hi.imp id fun z => ⟨(hn z.1).heap I.kIn I.nolimit, z.2⟩
  have rd := hd.rdv I ru
  cases hd with
  | non =>
    cases ru
    exact PySem.P.repr_of_none ⟨.str _, H, I.tok _, ⟨_, rfl⟩, q⟩
  | bl b =>
    cases ru
    refine PySem.P.repr_of_bool ⟨.str _, H, I.tok _, ⟨_, rfl⟩, ?_⟩
    cases b <;> exact q
  | int i =>
    obtain ⟨t, rfl⟩ := ru
    have hi : OkI s.heap.NoDigits i := by simpa only [AllI] using hs
    rcases hi with hi | ⟨hn, hi⟩
    · exact PySem.P.repr_of_int hi ⟨.str _, H, I.tok _, ⟨_, rfl⟩, q⟩
    · exact repr_of_big hn hi ⟨.str _, H, I.tok _, ⟨_, rfl⟩, q⟩
  | str z =>
    obtain ⟨t, rfl⟩ := ru
    exact PySem.P.repr_of_str ⟨.str _, H, I.tok _, ⟨_, rfl⟩, q⟩ (hsz := hz)
  | lst hl ha =>
    cases ru
    exact repr_rdv rd hs hg (by omega) (fun h' u tk hk => ⟨.str _, H, I.kept hk, ⟨_, rfl⟩, q⟩) hz
  | tup hl ha =>
    cases ru
    exact repr_rdv rd hs hg (by omega) (fun h' u tk hk => ⟨.str _, H, I.kept hk, ⟨_, rfl⟩, q⟩) hz
  | dct hl hk ha =>
    cases ru
    exact repr_rdv rd hs hg (by omega) (fun h' u tk hk => ⟨.str _, H, I.kept hk, ⟨_, rfl⟩, q⟩) hz
/-! ### in cells -/
section
variable {K : PySem.W.Frag}
mutual
theorem Dp.dn {H : Hp} : ∀ {v : V} {d : PyData}, Dp K H v d → Dn K H v d
  | _, _, .non => .non
  | _, _, .bl b => .bl b
  | _, _, .int i => .int i
  | _, _, .str x => .str x
  | _, _, .lst h r => .lst h (DpAll.dn r)
  | _, _, .tup h r => .tup h (DpAll.dn r)
theorem DpAll.dn {H : Hp} : ∀ {vs : List V} {ds : List PyData}, DpAll K H vs ds → DnL K H vs ds
  | _, _, .nil => .nil
  | _, _, .cons h r => .cons (Dp.dn h) (DpAll.dn r)
end
mutual
theorem Dq.dn {ok : Addr → Prop} {H : Hp} : ∀ {v : V} {d : PyData}, Dq ok H v d → Dn K H v d
  | _, _, .non => .non
  | _, _, .bl b => .bl b
  | _, _, .int i => .int i
  | _, _, .str x => .str x
  | _, _, .lst _ h r => .lst (SqL.of h) (DqL.dn r)
  | _, _, .tup _ h r => .tup (SqT.of h) (DqL.dn r)
  | _, _, .dct _ h k r => .dct h k (DqL.dn r)
theorem DqL.dn {ok : Addr → Prop} {H : Hp} : ∀ {vs : List V} {ds : List PyData}, DqL ok H vs ds → DnL K H vs ds
  | _, _, .nil => .nil
  | _, _, .cons h r => .cons (Dq.dn h) (DqL.dn r)
end
mutual
theorem Rdc.dn {O : Ob} {H : Hp} (o : OkO K O H) : ∀ {c : Cl} {d : PyData} {v : V} {ok : Addr → Prop}, Rdc O c d → ClH K ok H v c → Dn K H v d
  | _, _, _, _, .dat d, .dat h => Dq.dn h
  | _, _, _, _, .at m r, h => by
    cases h
    obtain ⟨xs, h, q⟩ := o.all _ m
    exact .lst (SqL.of h) (Rdcs.dn o r q)
  | _, _, _, _, .dct m k r, h => by
    cases h
    obtain ⟨kvs, h, e, q⟩ := o.all _ m
    refine .dct h ?_ (Rdcs.dn o r q)
    rw [← k]
    have z := congrArg (List.map kD) e
    rw [List.map_map, List.map_map] at z
    exact z
  | _, _, _, _, .lis r, .lis o' h q => .lst (SqL.of h) (Rdcs.dn o r q)
  | _, _, _, _, .tup r, .tup o' h q => .tup (SqT.of h) (Rdcs.dn o r q)
  | _, _, _, _, .con d, .con h => Dp.dn h.dp
theorem Rdcs.dn {O : Ob} {H : Hp} (o : OkO K O H) : ∀ {cs : List Cl} {ds : List PyData} {vs : List V} {ok : Addr → Prop}, Rdcs O cs ds → ClsH K ok H vs cs → DnL K H vs ds
  | _, _, _, _, .nil, .nil => .nil
  | _, _, _, _, .cons h r, .cons h' r' => .cons (Rdc.dn o h h') (Rdcs.dn o r r')
end
/-- what has a text -/
structure TxG (b : Prop) (e : PyData) : Prop where
  s : AllI (OkI b) e
  d : e.depth ≤ 50
  l : e.shown.length ≤ sizeLine
theorem TxB.g {d : PyData} (h : TxB d) (b : Prop) : TxG b d := ⟨allI_show h.s, h.d, h.l⟩
def bReprG (b : Prop) : AB := fun O cs Kc => ∃ c d, cs = [c] ∧ Rdc O c d ∧ TxG b d ∧ Kc O (.dat (.str d.shown))
theorem sb_reprG {b : Prop} : SRB K (fun xs H Q => ∃ x d, xs = [x] ∧ Dn K H x d ∧ AllI (OkI b) d ∧ d.depth ≤ 50 ∧ d.shown.length ≤ sizeLine ∧ Q (.str d.shown) H) (bReprG b) := fun O H Q Kc cs vs o r ⟨c, d, e, h, t, k⟩ q => by
  subst e
  obtain ⟨v, rfl, rv⟩ := cls1 r
  exact ⟨v, d, rfl, h.dn o rv, t.s, t.d, t.l, q O _ _ H (Fr.refl _ _) o (.dat (.str _)) k⟩
end
theorem w_reprGD {b : Prop} {O : Ob} {d : PyData} {Kc : KC} : bReprG b O [.dat d] Kc ↔ TxG b d ∧ Kc O (.dat (.str d.shown)) := by
  constructor
  · rintro ⟨c, d', e, h, t, k⟩
    obtain rfl : Cl.dat d = c := (List.cons.inj e).1
    cases h
    exact ⟨t, k⟩
  · rintro ⟨t, k⟩
    exact ⟨_, d, rfl, .dat d, t, k⟩
/-! ## {} -/
def aDct0 : AE := fun O _ _ Kc => Kc O (.dat (.dict []))
def aDct0O : AE := fun O _ _ Kc => ∀ p, Kc ((p, .dct []) :: O) (.at p)
theorem de_dct0 {X : Cx} {W : WX} {pos : Pos} : DE X W (.Dict [] [] pos) aDct0 :=
  ⟨_, pe_dnewK, fun O ρ σ H Q Kc XX S kc q x p hp => by
    obtain ⟨o2, f2, n⟩ := S.o.new (u := .dK []) hp
    exact q O _ _ _ f2 o2 (.dat (.dct n upd_same rfl .nil)) kc⟩
/-! ## isinstance of plain data -/
def isTupD : PyData → Bool
  | .tuple _ => true
  | _ => false
def isLisD : PyData → Bool
  | .list _ => true
  | _ => false
def isIntD : PyData → Bool
  | .int _ => true
  | .bool _ => true
  | _ => false
def isBoolD : PyData → Bool
  | .bool _ => true
  | _ => false
def isStrD : PyData → Bool
  | .str _ => true
  | _ => false
def isDctD : PyData → Bool
  | .dict _ => true
  | _ => false
theorem kit_tupD (d : PyData) : kitB (tnD d) "tuple" = some (isTupD d) := (kn_tuple (Kn.dat (O := []) d)).trans (by cases d <;> first | rfl | decide)
theorem kit_lisD (d : PyData) : kitB (tnD d) "list" = some (isLisD d) := (kn_list (Kn.dat (O := []) d)).trans (by cases d <;> first | rfl | decide)
theorem kit_intD (d : PyData) : kitB (tnD d) "int" = some (isIntD d) := (kn_int (Kn.dat (O := []) d)).trans (by cases d <;> first | rfl | decide)
theorem kit_boolD (d : PyData) : kitB (tnD d) "bool" = some (isBoolD d) := (kn_bool (Kn.dat (O := []) d)).trans (by cases d <;> first | rfl | decide)
theorem kit_strD (d : PyData) : kitB (tnD d) "str" = some (isStrD d) := (kn_str (Kn.dat (O := []) d)).trans (by cases d <;> first | rfl | decide)
theorem kit_dctD (d : PyData) : kitB (tnD d) "dict" = some (isDctD d) := (kn_dict (Kn.dat (O := []) d)).trans (by cases d <;> first | rfl | decide)
theorem w_isi {O : Ob} {d : PyData} {x : String} {b : Bool} {Kc : KC} (h : kitB (tnD d) x = some b) : bIsi O [.dat d, .raw (.ty x)] Kc ↔ Kc O (.dat (.bool b)) := by
  constructor
  · rintro ⟨c, n, cl, b', e, hn, hk, k⟩
    obtain ⟨e1, e2⟩ := List.cons.inj e
    subst e1
    have e3 : x = cl := V.ty.inj (Cl.raw.inj (List.cons.inj e2).1)
    subst e3
    cases hn
    rw [h] at hk
    rwa [Option.some.inj hk]
  · intro k
    exact ⟨_, _, _, b, rfl, .dat d, h, k⟩
theorem w_isiTup {O : Ob} {d : PyData} {Kc : KC} : bIsi O [.dat d, .raw (.ty "tuple")] Kc ↔ Kc O (.dat (.bool (isTupD d))) := w_isi (kit_tupD d)
theorem w_isiLis {O : Ob} {d : PyData} {Kc : KC} : bIsi O [.dat d, .raw (.ty "list")] Kc ↔ Kc O (.dat (.bool (isLisD d))) := w_isi (kit_lisD d)
theorem w_isiInt {O : Ob} {d : PyData} {Kc : KC} : bIsi O [.dat d, .raw (.ty "int")] Kc ↔ Kc O (.dat (.bool (isIntD d))) := w_isi (kit_intD d)
theorem w_isiBool {O : Ob} {d : PyData} {Kc : KC} : bIsi O [.dat d, .raw (.ty "bool")] Kc ↔ Kc O (.dat (.bool (isBoolD d))) := w_isi (kit_boolD d)
theorem w_isiStr {O : Ob} {d : PyData} {Kc : KC} : bIsi O [.dat d, .raw (.ty "str")] Kc ↔ Kc O (.dat (.bool (isStrD d))) := w_isi (kit_strD d)
theorem w_isiDct {O : Ob} {d : PyData} {Kc : KC} : bIsi O [.dat d, .raw (.ty "dict")] Kc ↔ Kc O (.dat (.bool (isDctD d))) := w_isi (kit_dctD d)
theorem w_listT {O : Ob} {ds : List PyData} {Kc : KC} : bList false O [.dat (.tuple ds)] Kc ↔ Kc O (.dat (.list ds)) := by
  constructor
  · rintro ⟨c, es, e, h, k⟩
    obtain rfl : Cl.dat (.tuple ds) = c := (List.cons.inj e).1
    rw [if_neg Bool.false_ne_true] at k
    rcases h with h | h
    · cases h
    · rw [elsT_tuple.mp h] at k
      have z : lisC (ds.map .dat) = .dat (.list ds) := by unfold lisC; rw [allD_dats]
      rwa [z] at k
  · intro k
    refine ⟨_, _, rfl, .inr (.dat ds), ?_⟩
    rw [if_neg Bool.false_ne_true]
    have z : lisC (ds.map .dat) = .dat (.list ds) := by unfold lisC; rw [allD_dats]
    rwa [z]
theorem w_listFr {O : Ob} {a b : Int} {Kc : KC} : bList false O [.dat (frD a b)] Kc ↔ Kc O (.dat (.list [.int a, .int b])) := w_listT
theorem all_cons {α : Type} {P : α → Prop} {x : α} {xs : List α} (h : P x) (k : ∀ x ∈ xs, P x) : ∀ y ∈ x :: xs, P y := fun y hy => by
  rcases List.mem_cons.mp hy with rfl | hy
  · exact h
  · exact k y hy
theorem all_nil {α : Type} {P : α → Prop} : ∀ x ∈ ([] : List α), P x := fun x h => nomatch h
end Ab
namespace Ab
open PySem PySem.Spec PyProof.Rows L2 Vg
/-! ## a def with any number of defaults, called by places and by names -/
/-- those of a list that stand at places -/
def pickC {α : Type} : List Nat → List α → List α
  | [], _ => []
  | i :: r, l => match l[i]? with
    | some x => x :: pickC r l
    | none => pickC r l
theorem pickC_vals {vs : List V} {us : List Value} (h : Vals vs us) : ∀ ix : List Nat, Vals (pickC ix vs) (pickC ix us)
  | [] => .nil
  | i :: r => by
    have ih := pickC_vals h r
    unfold pickC
    cases e : vs[i]? with
    | none =>
      rw [List.getElem?_eq_none (by rw [← h.length]; exact List.getElem?_eq_none_iff.mp e)]
      exact ih
    | some v =>
      obtain ⟨u, hu, ru⟩ := h.get e
      rw [hu]
      exact .cons ru ih
theorem pickC_cls {K : PySem.W.Frag} {ok : Addr → Prop} {H : Hp} {vs : List V} {cs : List Cl} (h : ClsH K ok H vs cs) : ∀ ix : List Nat, ClsH K ok H (pickC ix vs) (pickC ix cs)
  | [] => .nil
  | i :: r => by
    have ih := pickC_cls h r
    unfold pickC
    cases e : cs[i]? with
    | none =>
      rw [List.getElem?_eq_none (by rw [h.len]; exact List.getElem?_eq_none_iff.mp e)]
      exact ih
    | some c =>
      obtain ⟨v, hv, rv⟩ := h.get e
      rw [hv]
      exact .cons rv ih
/-- values that are constants -/
inductive DfV : List V → List PyData → Prop
  | nil : DfV [] []
  | cons {v : V} {vs : List V} {d : PyData} {ds : List PyData} (h : ∀ ok H, Dq ok H v d) (r : DfV vs ds) : DfV (v :: vs) (d :: ds)
theorem DfV.cls {K : PySem.W.Frag} {ok : Addr → Prop} {H : Hp} : ∀ {vs : List V} {ds : List PyData}, DfV vs ds → ClsH K ok H vs (ds.map .dat)
  | _, _, .nil => .nil
  | _, _, .cons h r => .cons (.dat (h _ _)) (DfV.cls r)
theorem DfV.drop : ∀ {vs : List V} {ds : List PyData} (n : Nat), DfV vs ds → DfV (vs.drop n) (ds.drop n)
  | _, _, 0, h => h
  | _, _, _ + 1, .nil => .nil
  | _, _, n + 1, .cons _ r => DfV.drop n r
/-- the names and values of keywords -/
structure DK (X : Cx) (W : WX) (kws : List Keyword) (a : AA) : Prop where
  ex : ∃ t, L2.PK X kws t ∧ SaA X.K W t a
theorem dk_nil {X : Cx} {W : WX} : DK X W [] aNil := ⟨_, pk_nil, sa_nil⟩
theorem dk_cons {X : Cx} {W : WX} {nm : Option Str} {e : Expr} {kp : Pos} {kws : List Keyword} {a : AE} {b : AA} (ha : DE X W e a) (hb : DK X W kws b) : DK X W (⟨nm, e, kp⟩ :: kws) (aCons a b) := by
  obtain ⟨t, p, s⟩ := ha.ex
  obtain ⟨u, q, r⟩ := hb.ex
  exact ⟨_, pk_cons p q, sa_cons s r⟩
/-- f(a, .., name = b, ..): the places, the defaults, the names' values are put in order by ix -/
def aCallN (n m : Nat) (ix : List Nat) (dds : List PyData) (af : AF) (a b : AA) : AE := fun O ρ XX Kc => a O ρ XX fun O1 cs => b O1 ρ XX fun O2 zs => cs.length = n ∧ zs.length = m ∧ af O2 (pickC ix (cs ++ (dds.map .dat ++ zs))) (fun O' x c => XX O' ρ x c) Kc
section
variable {X : Cx} {W : WX} {af : AF} {k : Nat} {ps ks : List Str} {x : Str} {e : Expr} {es : List Expr} {kws : List Keyword} {a b : AA} {p pos : Pos} {st : Stmt} {dvs : List V} {dds : List PyData}
end
end Ab
namespace Ab
open PySem PySem.Spec PyProof.Rows L2 Vg
/-! ## what the defs of neighbours tell -/
theorem numC_int {c : Cl} (h : numC c = true) : ∃ i, c = .dat (.int i) := by
  cases c with
  | dat d => cases d <;> first | exact ⟨_, rfl⟩ | cases h
  | _ => cases h
theorem gcd_le' {a b : Int} (hb : 1 ≤ b) : gcdI a b ≤ b := by
  have d2 : gcdI a b ∣ b := Int.ofNat_dvd_left.mpr (Nat.gcd_dvd_right _ _)
  exact Int.le_of_dvd (by omega) d2
def afMade : AF := fun O cs _ Kc => match cs with
  | [x, y] => ∃ a b : Int, x = .dat (.int a) ∧ y = .dat (.int b) ∧ 1 ≤ b ∧ a.natAbs < 2 ^ 1000 ∧ b.natAbs < 2 ^ 1000 ∧ ∀ t m : Int, gcdI t m = 1 → 1 ≤ m → t.natAbs ≤ a.natAbs → m ≤ b → Kc O (.dat (frD t m))
  | _ => False
end Ab
namespace Ab
open PySem PySem.Spec PyProof.Rows L2 Vg
/-! ## texts of great numbers -/
structure Tg (b : Prop) (n dp : Nat) (e : PyData) : Prop where
  s : AllI (OkI b) e
  d : e.depth ≤ dp
  l : e.shown.length ≤ n
theorem Tg.up {b : Prop} {n dp n' dp' : Nat} {e : PyData} (h : Tg b n dp e) (hn : n ≤ n') (hd : dp ≤ dp') : Tg b n' dp' e := ⟨h.s, Nat.le_trans h.d hd, Nat.le_trans h.l hn⟩
/-! ## the value of a row, from behind -/
theorem gcd_red (t x y : Int) : gcdI (t * x + y) x = gcdI x y := by
  show ((Int.gcd (t * x + y) x : Nat) : Int) = ((Int.gcd x y : Nat) : Int)
  rw [Int.gcd_comm, Int.add_comm, Int.mul_comm]
  simp
/-! ## == of truths -/
theorem eqv_bool (a b : Bool) : PyData.eqv (.bool a) (.bool b) = (a == b) := by cases a <;> cases b <;> rfl
theorem shaped_bool (b : Bool) : SeqAt.shaped (.bool b) = true := by cases b <;> decide +kernel
theorem hasDict_bool (b : Bool) : (PyData.bool b).hasDict = false := by unfold PyData.hasDict; rfl
theorem w_eqB {O : Ob} {a b : Bool} {Kc : KC} : aEqD O (.dat (.bool a)) (.dat (.bool b)) Kc ↔ Kc O (.dat (.bool (a == b))) := by
  constructor
  · rintro ⟨d, e, h1, h2, _, _, _, _, k⟩
    cases h1; cases h2
    rwa [eqv_bool] at k
  · intro k
    exact ⟨_, _, .dat _, .dat _, hasDict_bool a, hasDict_bool b, shaped_bool a, shaped_bool b, by rwa [eqv_bool]⟩
theorem w_neB {O : Ob} {a b : Bool} {Kc : KC} : aNeD O (.dat (.bool a)) (.dat (.bool b)) Kc ↔ Kc O (.dat (.bool (a != b))) := by
  constructor
  · rintro ⟨d, e, h1, h2, _, _, _, _, k⟩
    cases h1; cases h2
    rwa [eqv_bool] at k
  · intro k
    exact ⟨_, _, .dat _, .dat _, hasDict_bool a, hasDict_bool b, shaped_bool a, shaped_bool b, by rw [eqv_bool]; exact k⟩
/-- == and != of pairs of numbers -/
theorem w_eqFr {O : Ob} {a b c d : Int} {Kc : KC} : aEqD O (.dat (frD a b)) (.dat (frD c d)) Kc ↔ Kc O (.dat (.bool (decide (a = c) && decide (b = d)))) := by
  constructor
  · rintro ⟨x, y, h1, h2, _, _, _, _, k⟩
    cases h1; cases h2
    rwa [eqv_fr] at k
  · intro k
    exact ⟨_, _, .dat _, .dat _, rfl, rfl, rfl, rfl, by rwa [eqv_fr]⟩
theorem w_neFr {O : Ob} {a b c d : Int} {Kc : KC} : aNeD O (.dat (frD a b)) (.dat (frD c d)) Kc ↔ Kc O (.dat (.bool (!(decide (a = c) && decide (b = d))))) := by
  constructor
  · rintro ⟨x, y, h1, h2, _, _, _, _, k⟩
    cases h1; cases h2
    rwa [eqv_fr] at k
  · intro k
    exact ⟨_, _, .dat _, .dat _, rfl, rfl, rfl, rfl, by rwa [eqv_fr]⟩
/-! ## xs.reverse() -/
def aRevM (a : AE) : AE := fun O ρ XX Kc => a O ρ XX fun O1 c => ∃ p cs f, c = .at p ∧ Lo O1 p (.lst cs) f ∧ Kc (f (.lst cs.reverse)) (.dat .none)
/-! ## the beginnings of a row -/
def sgn (j : Nat) : Int := if j % 2 = 0 then 1 else -1
theorem sgn_succ (j : Nat) : sgn (j + 1) = -sgn j := by
  unfold sgn
  by_cases h : j % 2 = 0
  · rw [if_pos h, if_neg (show ¬ (j + 1) % 2 = 0 by omega)]
  · rw [if_neg h, if_pos (show (j + 1) % 2 = 0 by omega)]; rfl
/-! ## enumerate(xs) -/
section
variable {K : PySem.W.Frag} {W : WX}
end
theorem w_eqNilD {O : Ob} {ds : List PyData} {Kc : KC} : aEqNil O (.dat (.list ds)) (.dat (.list [])) Kc ↔ Kc O (.dat (.bool ds.isEmpty)) := by
  rw [← lisC_dats ds, w_eqNil]
  simp
theorem w_neNilD {O : Ob} {ds : List PyData} {Kc : KC} : aNeNil O (.dat (.list ds)) (.dat (.list [])) Kc ↔ Kc O (.dat (.bool (!ds.isEmpty))) := by
  rw [← lisC_dats ds, w_neNil]
  simp
theorem gcd_zero1 {b : Int} (hb : 1 ≤ b) (h : gcdI b 0 = 1) : b = 1 := by
  rw [gcd_zero (by omega)] at h; exact h
def aRev1 (a : AE) : AE := fun O ρ XX Kc => a O ρ XX fun O1 c => ∃ cs : List Cl, Els O1 c cs ∧ Kc O1 (lisC cs.reverse)
end Ab
/-! defs that raise nothing, called within an except suite -/
theorem _root_.L2H.RoomH.units {k : Nat} {A : PySem.Around} (r : L2H.RoomH k A) : A.units + 64 < PySem.cLine := by have := r.un; omega
namespace Ab
open PySem PySem.Spec PyProof.Rows L2 Vg
def aCallH (af : AF) (a : AA) : AE := fun O ρ XX Kc => a O ρ XX fun O1 cs => af O1 cs (fun _ _ _ => False) Kc
section
variable {X : Cx} {W : WX}
end
end Ab
/-! own errors over LookupError -/
namespace Ab
open PySem PySem.Spec PyProof.Rows L2 Vg
/-- what the written part says of an own class of errors over a builtin one -/
structure OexG (K : PySem.W.Frag) (C : Addr) (B nI iI : String) (tl : List Value) : Prop where
  F : ExcBaseFacts B nI iI tl
  SF : StoreFacts B tl "object.__setattr__" "object"
  ini : PySem.W.excInitIn K C tl nI = true
  ov : PySem.W.excOver K C tl = true
  hd : PySem.W.hasDictIn K C = true
  sa : PySem.W.findIn K (.ref C) "__setattr__" = some (some (.builtin "object.__setattr__"))
  exC : PySem.W.subIn K (.ref C) (.type "BaseException") = some true
  tyC : PySem.W.typeIn K (.ref C) = some (.type "type")
  kC : PySem.W.keepIn K (.ref C) = true
section
variable {X : Cx} {pins : List (Addr × Obj)} {σ : L2.St} {H : Hp} {s : Shared} {a C : Addr} {f : Str} {y : V} {u : Value} {B nI iI : String} {tl : List Value} {A : Around} {E : Value → Shared → Prop}
theorem upd_self {H : Hp} {a : Addr} {o : HO} (e : H a = some o) : upd H a o = H := by
  funext b
  by_cases hb : b = a
  · rw [hb, upd_same, e]
  · rw [upd_ne hb]
end
/-! ## readings -/
section
variable {X : Cx} {o e : Expr} {es : List Expr} {to te : TE} {ta : TA} {f : Str} {p p' p1 p2 pos : Pos} {C : Addr} {B nI iI : String} {tl : List Value}
end
/-! ## classes over LookupError -/
section
end
/-- such a class, as the head tells it -/
structure XgIn (K : PySem.W.Frag) (x fl q : Str) (st : Stmt) : Prop where
  ex : ∃ (C f : Addr) (oc : Value) (od an : Option Addr) (sl : Array (Option Value)) (kV dc pm cd ct : Value), PySem.W.nsIn K mainGlobals x = some (some (.ref C)) ∧ OexG K C "LookupError" "LookupError.__new__" "LookupError.__init__" [.type "LookupError", .type "Exception", .type "BaseException", .type "object"] ∧ ExcC K C ∧ XfC K C ∧
    PySem.W.findIn K (.ref C) fl = some none ∧ PySem.W.takerIn K C fl = some none ∧ PySem.W.findIn K (.ref C) "__init__" = some (some (.ref f)) ∧ PySem.W.typeIn K (.ref f) = some (.type "function") ∧
    K.lookup f = some ⟨oc, od, .func (PySem.W.fnOf "__init__" q (defArgs st) (defBody st) (defScope st) .none kV dc pm an cd ct), sl⟩ ∧ PySem.W.codeIn K cd q = true ∧ PySem.W.keepIn K (.ref f) = true
theorem XgIn.by {K : PySem.W.Frag} {x fl q : Str} {st : Stmt} {C f : Addr} {oc : Value} {od an : Option Addr} {sl : Array (Option Value)} {kV dc pm cd ct : Value} (a : PySem.W.nsIn K mainGlobals x = some (some (.ref C)))
    (o : OexG K C "LookupError" "LookupError.__new__" "LookupError.__init__" [.type "LookupError", .type "Exception", .type "BaseException", .type "object"])
    (hg : PySem.W.findIn K (.ref C) "__getattribute__" = some (some (.builtin "BaseException.__getattribute__"))) (hk : PySem.W.findIn K (.ref C) "__getattr__" = some none)
    (ha : PySem.W.findIn K (.ref C) "__class__" = some (some (.builtin "object.__class__"))) (hn : PySem.W.specialIn K (.builtin "object.__class__") "__get__" = some (some (.builtin "getset_descriptor.__get__")))
    (ht : PySem.W.takesIn K (.builtin "object.__class__") = some true) (hm : PySem.W.mroIn K C (.type "object") = some true) (no : PySem.W.findIn K (.ref C) fl = some none) (nt : PySem.W.takerIn K C fl = some none)
    (iC : PySem.W.findIn K (.ref C) "__init__" = some (some (.ref f))) (tI : PySem.W.typeIn K (.ref f) = some (.type "function"))
    (l : K.lookup f = some ⟨oc, od, .func (PySem.W.fnOf "__init__" q (defArgs st) (defBody st) (defScope st) .none kV dc pm an cd ct), sl⟩) (c : PySem.W.codeIn K cd q = true) (kp : PySem.W.keepIn K (.ref f) = true) : XgIn K x fl q st :=
  ⟨C, f, oc, od, an, sl, kV, dc, pm, cd, ct, a, o, ⟨hg, hk, o.exC, o.hd, ha, hn, ht, hm⟩, ⟨hg, hk, o.exC, o.hd⟩, no, nt, iC, tI, l, c, kp⟩
structure XgAt (K : PySem.W.Frag) (mg : Str → Option Value) (x fl q : Str) (st : Stmt) : Prop where
  ex : ∃ (f : Addr) (fd : FuncData), mg x = some (.ref (clsA K x)) ∧ OexG K (clsA K x) "LookupError" "LookupError.__new__" "LookupError.__init__" [.type "LookupError", .type "Exception", .type "BaseException", .type "object"] ∧ ExcC K (clsA K x) ∧ XfC K (clsA K x) ∧
    PySem.W.findIn K (.ref (clsA K x)) fl = some none ∧ PySem.W.takerIn K (clsA K x) fl = some none ∧ PySem.W.findIn K (.ref (clsA K x)) "__init__" = some (some (.ref f)) ∧ PySem.W.typeIn K (.ref f) = some (.type "function") ∧ Fun K "__init__" q st f fd
theorem XgIn.at {K : PySem.W.Frag} {h : Heap} {mg : Str → Option Value} {x fl q : Str} {st : Stmt} (D : XgIn K x fl q st) (X : K.In h) (G : h.Ns mainGlobals mg) : XgAt K mg x fl q st := by
  obtain ⟨C, f, oc, od, an, sl, kV, dc, pm, cd, ct, a, o, e1, xf, no, nt, iC, tI, l, c, kp⟩ := D.ex
  have e := clsA_of a
  refine ⟨f, PySem.W.fnOf "__init__" q (defArgs st) (defBody st) (defScope st) .none kV dc pm an cd ct, ?_, ?_, ?_, ?_, ?_, ?_, ?_, tI, fun_mk l c kp⟩
  · rw [e]
    exact PySem.W.mg_of X G a
  all_goals rw [e]
  all_goals assumption
/-! ## is None -/
def nnD : PyData → Bool
  | .none => true
  | _ => false
theorem isNC_dat (d : PyData) : isNC (.dat d) (nnD d) := by
  cases d <;> first | exact .inl ⟨rfl, rfl⟩ | exact .inr ⟨.inl ⟨_, rfl, fun z => nomatch z⟩, rfl⟩
theorem isNC_one {d : PyData} {b : Bool} (h : isNC (.dat d) b) : b = nnD d := by
  rcases h with ⟨h1, h2⟩ | ⟨⟨e, h1, h2⟩ | ⟨a, h⟩ | ⟨a, h⟩ | ⟨a, h⟩, h3⟩
  · cases h1
    exact h2
  · cases h1
    subst h3
    cases d <;> first | rfl | exact absurd rfl h2
  · cases h
  · cases h
  · cases h
theorem w_isN {O : Ob} {d : PyData} {Kc : KC} : aIsN O (.dat d) (.dat .none) Kc ↔ Kc O (.dat (.bool (nnD d))) := by
  constructor
  · rintro ⟨_, b, h, k⟩
    rwa [isNC_one h] at k
  · exact fun k => ⟨rfl, _, isNC_dat d, k⟩
theorem w_notN {O : Ob} {d : PyData} {Kc : KC} : aNotN O (.dat d) (.dat .none) Kc ↔ Kc O (.dat (.bool (!nnD d))) := by
  constructor
  · rintro ⟨_, b, h, k⟩
    rwa [isNC_one h] at k
  · exact fun k => ⟨rfl, _, isNC_dat d, k⟩
theorem nnD_n : nnD .none = true := rfl
theorem nnD_t (ds : List PyData) : nnD (.tuple ds) = false := rfl
theorem nnD_i (i : Int) : nnD (.int i) = false := rfl
theorem nnD_l (ds : List PyData) : nnD (.list ds) = false := rfl
theorem nnD_s (x : Str) : nnD (.str x) = false := rfl
theorem nnD_b (b : Bool) : nnD (.bool b) = false := rfl
theorem nnD_fr (a b : Int) : nnD (frD a b) = false := rfl
end Ab
/-! objects of own classes -/
namespace Ab
open PySem PySem.Spec PyProof.Rows L2 Vg
/-- what the head tells of an attribute -/
structure FldK (K : PySem.W.Frag) (x f : Str) : Prop where
  c : Cls K (clsA K x)
  n : NoAttr K (clsA K x) f
theorem fields_get {K : PySem.W.Frag} {ok : Addr → Prop} {H : Hp} {f : Str} {c : Cl} : ∀ {vs : List (Str × V)} {fs : List (Str × Cl)}, vs.map (·.1) = fs.map (·.1) → ClsH K ok H (vs.map (·.2)) (fs.map (·.2)) → fs.lookup f = some c → ∃ v, vs.lookup f = some v ∧ ClH K ok H v c
  | [], [], _, _, l => by cases l
  | [], _ :: _, e, _, _ => by cases e
  | _ :: _, [], e, _, _ => by cases e
  | (g, v) :: vs, (g', c') :: fs, e, r, l => by
    obtain ⟨e1, e2⟩ := List.cons.inj e
    have e1 : g = g' := e1
    subst e1
    cases r with
    | cons rv rr =>
      by_cases hg : f = g
      · subst hg
        simp [List.lookup] at l ⊢
        subst l
        exact rv
      · have hb : (f == g) = false := by simpa using hg
        simp only [List.lookup, hb] at l ⊢
        exact fields_get e2 rr l
theorem fields_none {f : Str} : ∀ {vs : List (Str × V)} {fs : List (Str × Cl)}, vs.map (·.1) = fs.map (·.1) → fs.lookup f = none → vs.lookup f = none
  | [], [], _, _ => rfl
  | [], _ :: _, e, _ => by cases e
  | _ :: _, [], e, _ => by cases e
  | (g, v) :: vs, (g', c') :: fs, e, l => by
    obtain ⟨e1, e2⟩ := List.cons.inj e
    have e1 : g = g' := e1
    subst e1
    by_cases hg : f = g
    · subst hg
      simp [List.lookup] at l
    · have hb : (f == g) = false := by simpa using hg
      simp only [List.lookup, hb] at l ⊢
      exact fields_none e2 l
/-- e.f of an instance of the class x -/
def aFld (x f : Str) (a : AE) : AE := fun O ρ XX Kc => a O ρ XX fun O1 c => ∃ p fs v, c = .at p ∧ (p, Ow.ins x fs) ∈ O1 ∧ fs.lookup f = some v ∧ Kc O1 v
theorem sa_fld {K : PySem.W.Frag} {W : WX} {t : TE} {a : AE} {x f : Str} (h : FldK K x f) (ha : SaE K W t a) : SaE K W (tFld K t f) (aFld x f a) := fun O ρ σ H Q Kc XX S k q xx =>
  ha O ρ σ H _ _ XX S k (fun O1 c v H1 f1 o1 r1 ⟨p, fs, w, e, m, l, k1⟩ => by
    subst e
    have ev := dq_at r1
    subst ev
    obtain ⟨d, vs, hp, hk, hr⟩ := o1.all _ m
    obtain ⟨u, hu, ru⟩ := fields_get hk hr l
    exact ⟨p, clsA K x, d, vs, u, rfl, hp, h.c, h.n, hu, q O1 w u H1 f1 o1 ru k1⟩) xx
theorem de_fld {X : Cx} {W : WX} {e : Expr} {a : AE} {x f : Str} {pos : Pos} (h : FldK X.K x f) (he : DE X W e a) (hb : attributeBase e f X.env (eval e X.env) = eval e X.env := by rfl) : DE X W (.Attribute e f pos) (aFld x f a) := by
  obtain ⟨t, p, s⟩ := he.ex
  exact ⟨_, pe_fld p hb, sa_fld h s⟩
def putFC (f : Str) (c : Cl) : List (Str × Cl) → List (Str × Cl)
  | [] => [(f, c)]
  | (g, d) :: r => if g = f then (g, c) :: r else (g, d) :: putFC f c r
theorem putFC_keys {K : PySem.W.Frag} {ok : Addr → Prop} {H : Hp} {f : Str} {c : Cl} {v : V} (rc : ClH K ok H v c) : ∀ {vs : List (Str × V)} {fs : List (Str × Cl)}, vs.map (·.1) = fs.map (·.1) → ClsH K ok H (vs.map (·.2)) (fs.map (·.2)) →
    (putF f v vs).map (·.1) = (putFC f c fs).map (·.1) ∧ ClsH K ok H ((putF f v vs).map (·.2)) ((putFC f c fs).map (·.2))
  | [], [], _, _ => ⟨rfl, .cons rc .nil⟩
  | [], _ :: _, e, _ => by cases e
  | _ :: _, [], e, _ => by cases e
  | (g, u) :: vs, (g', d) :: fs, e, r => by
    obtain ⟨e1, e2⟩ := List.cons.inj e
    have e1 : g = g' := e1
    subst e1
    cases r with
    | cons rv rr =>
      obtain ⟨i1, i2⟩ := putFC_keys rc e2 rr
      unfold putF putFC
      by_cases hg : g = f
      · rw [if_pos hg, if_pos hg]
        exact ⟨by rw [List.map_cons, List.map_cons, e2], .cons rc rr⟩
      · rw [if_neg hg, if_neg hg]
        exact ⟨by rw [List.map_cons, List.map_cons, i1], .cons rv i2⟩
/-- o.f = v -/
def aSetF (x f : Str) (o v : AE) : AS := fun A XX O ρ => v O ρ XX fun O1 c => o O1 ρ XX fun O2 s => ∃ p fs g, s = .at p ∧ Lo O2 p (.ins x fs) g ∧ fs.length ≤ 900 ∧ A.nx (g (.ins x (putFC f c fs))) ρ
theorem sa_setF {K : PySem.W.Frag} {W : WX} {tv to : TE} {v o : AE} {x f : Str} (h : FldK K x f) (hv : SaE K W tv v) (ho : SaE K W to o) : SaS K W (sFld K to tv f) (aSetF x f o v) := fun O ρ σ H D A XX S k e xx =>
  hv O ρ σ H _ _ XX S k (fun O1 c y H1 f1 o1 r1 k1 => ho O1 ρ σ H1 _ _ XX (S.go f1 o1) k1 (fun O2 s u H2 f2 o2 r2 ⟨p, fs, g, es, lo, hl, k2⟩ => by
    subst es
    have ev := dq_at r2
    subst ev
    obtain ⟨d, vs, hp, hk, hr⟩ := o2.all _ lo.mem
    have lv : vs.length = fs.length := by simpa using congrArg List.length hk
    have f12 := f1.trans f2
    obtain ⟨i1, i2⟩ := putFC_keys (f := f) (r1.fr f2) hk hr
    refine ⟨p, clsA K x, d, vs, rfl, hp, h.c, h.n, by omega, ?_⟩
    obtain ⟨o3, f3⟩ := o2.put (w' := .ins x (putFC f c fs)) lo ⟨d, putF f y vs, upd_same, i1, i2.mono (fun b u fb e => by rw [upd_ne fun z => fb _ lo.mem z.symm]; exact e) fun b u fb _ => (lo.fre b).mpr fb⟩
    exact e.nx _ _ _ _ (f12.trans f3) (S.go (f12.trans f3) o3) k2) (xx.go f1)) xx
theorem ds_setF {X : Cx} {W : WX} {e o : Expr} {a b : AE} {x f : Str} {p' pos : Pos} (h : FldK X.K x f) (ho : DE X W o a) (hv : DE X W e b) (hs : swapsWith e (some (.Attribute o f p')) pos.line X.env = pure false := by rfl) : DS X W (.Assign [.Attribute o f p'] e pos) (aSetF x f a b) := by
  obtain ⟨t, p, s⟩ := ho.ex
  obtain ⟨u, q, r⟩ := hv.ex
  exact ⟨_, ps_fld p q hs, sa_setF h r s⟩
/-! ## methods -/
/-- a method, as the head tells it -/
structure MeIn (K : PySem.W.Frag) (x m q : Str) (st : Stmt) : Prop where
  ex : ∃ (C f : Addr) (oc : Value) (od an : Option Addr) (sl : Array (Option Value)) (kV dc pm cd ct : Value), PySem.W.nsIn K mainGlobals x = some (some (.ref C)) ∧ Cls K C ∧ Meth K C m f ∧
    K.lookup f = some ⟨oc, od, .func (PySem.W.fnOf m q (defArgs st) (defBody st) (defScope st) .none kV dc pm an cd ct), sl⟩ ∧ PySem.W.codeIn K cd q = true
theorem MeIn.by {K : PySem.W.Frag} {x m q : Str} {st : Stmt} {C f : Addr} {oc : Value} {od an : Option Addr} {sl : Array (Option Value)} {kV dc pm cd ct : Value} (a : PySem.W.nsIn K mainGlobals x = some (some (.ref C)))
    (pg : PySem.W.plainGet K C Str.empty = true) (hd : PySem.W.hasDictIn K C = true) (po : PySem.W.plainOver K C = true) (sa : PySem.W.findIn K (.ref C) "__setattr__" = some (some (.builtin "object.__setattr__")))
    (at_ : PySem.W.findIn K (.ref C) m = some (some (.ref f))) (fn : PySem.W.isFn K (.ref f) = true) (kp : PySem.W.keepIn K (.ref f) = true)
    (l : K.lookup f = some ⟨oc, od, .func (PySem.W.fnOf m q (defArgs st) (defBody st) (defScope st) .none kV dc pm an cd ct), sl⟩) (c : PySem.W.codeIn K cd q = true) : MeIn K x m q st :=
  ⟨C, f, oc, od, an, sl, kV, dc, pm, cd, ct, a, ⟨pg, hd, po, sa⟩, ⟨at_, fn, kp⟩, l, c⟩
structure MeAt (K : PySem.W.Frag) (mg : Str → Option Value) (x m q : Str) (st : Stmt) : Prop where
  ex : ∃ (f : Addr) (fd : FuncData), mg x = some (.ref (clsA K x)) ∧ Cls K (clsA K x) ∧ Meth K (clsA K x) m f ∧ Fun K m q st f fd
theorem MeIn.at {K : PySem.W.Frag} {h : Heap} {mg : Str → Option Value} {x m q : Str} {st : Stmt} (D : MeIn K x m q st) (X : K.In h) (G : h.Ns mainGlobals mg) : MeAt K mg x m q st := by
  obtain ⟨C, f, oc, od, an, sl, kV, dc, pm, cd, ct, a, hc, hm, l, c⟩ := D.ex
  have e := clsA_of a
  refine ⟨f, PySem.W.fnOf m q (defArgs st) (defBody st) (defScope st) .none kV dc pm an cd ct, ?_, ?_, ?_, fun_mk l c hm.kp⟩
  · rw [e]
    exact PySem.W.mg_of X G a
  all_goals rw [e]
  all_goals assumption
/-- a method and what it keeps -/
structure FvM (P : Program) (w : World) (K : PySem.W.Frag) (mg : Str → Option Value) (base : Heap) (k : Nat) (x m : Str) (ps : List Str) (af : AF) : Prop where
  ex : ∃ (f : Addr) (fd : FuncData), Cls K (clsA K x) ∧ Meth K (clsA K x) m f ∧ Binds K fd ps [] ∧ FnOk P w K mg base (L2.CX P w) k f fd ps (spG K af)
theorem fvm_of {P : Program} {w : World} {K : PySem.W.Frag} {mg : Str → Option Value} {base : Heap} {k : Nat} {x m q : Str} {st : Stmt} {N ps : List Str} {af : AF} (D : MeAt K mg x m q st) (S : FnScope N ps (defScope st))
    (hb : ∀ (kV doc pm : Value) (an : Option Addr) (cdv ct : Value) (us : List Value), us.length = ps.length →
      bindArgs (PySem.W.fnOf m q (defArgs st) (defBody st) (defScope st) .none kV doc pm an cdv ct) ⟨us, []⟩ = pure (ps.zip us))
    (hl : ∀ O cs Xf Kc, af O cs Xf Kc → cs.length = ps.length)
    (body : ∀ (f : Addr) (cdv : Value) (A : Around) (outer : List Env) (s : Shared) (H : Hp) (E : XK),
      Room k (A.deeper (envOfC q (defScope st) s.heap.objs.size f cdv)) →
      ∃ a : AS, DSs (cxOf (L2.CX P w) P w K mg base N q (defScope st) f cdv A outer s H E) (fun cls d _ H => E cls d H) (defBody st) a ∧
        ∀ O cs Xf Kc, af O cs Xf Kc → a { nx := fun O' _ => Kc O' (.dat .none), rt := Kc } (fun O' _ y c => Xf O' y c) O (cs.map some ++ List.replicate (N.length - cs.length) none)) :
    FvM P w K mg base (k + 1) x m ps af := by
  obtain ⟨f, fd, hm, hc, me, F⟩ := D.ex
  refine ⟨f, fd, hc, me, F.binds hb, F.okX (sp := spG K af) S (fun vs H Q E ⟨O, cs, Xf, Kc, o, r, h, _, _⟩ => r.len.trans (hl O cs Xf Kc h)) fun cdv A outer s H vs Q E hr ⟨O, cs, Xf, Kc, o, r, h, q, x⟩ => ?_⟩
  obtain ⟨a, ⟨t, p, sa⟩, k⟩ := body f cdv A outer s H E hr
  refine ⟨t, p, sa O _ _ H _ _ _ (start_ss o r) (k O cs Xf Kc h) ⟨fun O' ρ' σ' H' f S k' => ?_, q, fun _ _ _ _ _ _ z => z.elim, fun _ _ _ _ _ _ z => z.elim⟩ ?_⟩
  · exact q O' _ _ H' f S.o (.dat .non) k'
  · exact fun O' ρ' σ' y c v H' dd f S r hd hf z => x O' y c v H' dd f S.o r hd hf z
/-- o.m() -/
def aMet0 (x m : Str) (af : AF) (a : AE) : AE := fun O ρ XX Kc => a O ρ XX fun O1 c => ∃ p fs, c = .at p ∧ (p, Ow.ins x fs) ∈ O1 ∧ fs.lookup m = none ∧ af O1 [.at p] (fun O' y c => XX O' ρ y c) Kc
section
variable {X : Cx} {W : WX} {af : AF} {k : Nat} {ps : List Str} {x m : Str} {e o : Expr} {es : List Expr} {a : AE} {apos pos p : Pos}
theorem de_met0 {pl : Sem Bool} (F : FvM X.prog X.w X.K X.mg X.base k x m ps af) (tk : Takes X W) (hr : Room k X.A) (ho : DE X W o a)
    (ht : eval (.Call (.Attribute o m apos) [] [] pos) X.env = (do
      let obj ← eval o X.env
      standAt apos.atName
      let (g, one) ← holding [obj] (getMethod obj m pl)
      callWith pos g one (backTo pos (starEach [] X.env)) (backToKw pos (keywordEach [] X.env))) := by rfl) :
    DE X W (.Call (.Attribute o m apos) [] [] pos) (aMet0 x m af a) := by
  obtain ⟨f, fd, hc, me, hb, F⟩ := F.ex
  obtain ⟨t, pt, s⟩ := ho.ex
  refine ⟨fun σ H Q => t σ H fun y H1 => ∃ p dx fs, y = .ref p ∧ H1 p = some (.ins (clsA X.K x) dx fs) ∧ fs.lookup m = none ∧ spG X.K af [.ref p] H1 Q (WE W σ), ⟨fun pins st σ H Q I h => ?_⟩, fun O ρ σ H Q Kc XX S k q xx => s O ρ σ H _ _ XX S k (fun O1 c v H1 f1 o1 r1 ⟨p, fs, e, mm, l, k1⟩ => ?_) xx⟩
  · refine PySem.W.methodCall_KW (pl := pl) (thn (pt.run pins st σ H _ I h) fun u s1 hy => ?_) ht
    obtain ⟨y, H1, I1, ry, p, dx, fs, ey, hp, l, q⟩ := hy
    subst ey
    have eu : u = Value.ref p := ry
    subst eu
    refine getmeth_ok I1 hp hc me l ?_
    refine PySem.W.callWith_K0 (first := [.ref p]) I1.kIn me.kp ?_
    have hl : ([Value.ref p] : List Value).length = ps.length := F.len _ _ _ _ q
    have b := hb s1 [.ref p] I1.kIn (by rw [List.append_nil]; exact hl)
    rw [List.append_nil] at b
    refine wpAny_call (codeAny_mono (F.run X.A X.stack s1 H1 ⟨[.ref p], []⟩ [.ref p] [.ref p] Q (WE W σ) hr I1.env0 b (.cons rfl .nil) q) fun r s' hq => ?_)
    match r, hq with
    | .error e, hq => exact passAt tk σ pins H1 s1 e s' I1 hq
    | .ok (.ret u), hq => exact I1.after hq
    | .ok .next, hq => exact False.elim hq
    | .ok .brk, hq => exact False.elim hq
    | .ok .cont, hq => exact False.elim hq
  · subst e
    have ev := dq_at r1
    subst ev
    obtain ⟨d, vs, hp, hk, hr⟩ := o1.all _ mm
    exact ⟨p, d, vs, rfl, hp, fields_none hk l, O1, [.at p], _, Kc, o1, .cons r1 .nil, k1, q.go f1, fun O3 y c v H3 dd f3 o3 r3 hd hf hx => xx O3 ρ σ y c v H3 dd (f1.trans f3) (S.go (f1.trans f3) o3) r3 hd hf hx⟩
end
/-! ## a new instance -/
structure FvI (P : Program) (w : World) (K : PySem.W.Frag) (mg : Str → Option Value) (base : Heap) (k : Nat) (x : Str) (st : Stmt) (ps : List Str) (dvs : List V) (dds : List PyData) (af : AF) : Prop where
  ex : ∃ (f : Addr) (fd : FuncData), mg x = some (.ref (clsA K x)) ∧ Mk K (clsA K x) f ∧ FunD K "__init__" (x ++ ".__init__") (defArgs st) (defBody st) (defScope st) dvs [] f fd ∧ FnOk P w K mg base (L2.CX P w) k f fd ps (spG K af)
  df : DfV dvs dds
  ne : dvs ≠ []
/-- such a class, as the head tells it -/
structure MkAt (K : PySem.W.Frag) (mg : Str → Option Value) (x : Str) (st : Stmt) (dvs : List V) : Prop where
  ex : ∃ (f : Addr) (fd : FuncData), mg x = some (.ref (clsA K x)) ∧ Mk K (clsA K x) f ∧ FunD K "__init__" (x ++ ".__init__") (defArgs st) (defBody st) (defScope st) dvs [] f fd
theorem fvi_of {P : Program} {w : World} {K : PySem.W.Frag} {mg : Str → Option Value} {base : Heap} {k : Nat} {x : Str} {st : Stmt} {N ps : List Str} {dvs : List V} {dds : List PyData} {af : AF} (D : MkAt K mg x st dvs) (S : FnScope N ps (defScope st)) (hd : DfV dvs dds) (ne : dvs ≠ [])
    (hl : ∀ O cs Xf Kc, af O cs Xf Kc → cs.length = ps.length)
    (body : ∀ (f : Addr) (cdv : Value) (A : Around) (outer : List Env) (s : Shared) (H : Hp) (E : XK),
      Room k (A.deeper (envOfC (x ++ ".__init__") (defScope st) s.heap.objs.size f cdv)) →
      ∃ a : AS, DSs (cxOf (L2.CX P w) P w K mg base N (x ++ ".__init__") (defScope st) f cdv A outer s H E) (fun cls d _ H => E cls d H) (defBody st) a ∧
        ∀ O cs Xf Kc, af O cs Xf Kc → a { nx := fun O' _ => Kc O' (.dat .none), rt := Kc } (fun O' _ y c => Xf O' y c) O (cs.map some ++ List.replicate (N.length - cs.length) none)) :
    FvI P w K mg base (k + 1) x st ps dvs dds af := by
  obtain ⟨f, fd, hm, M, F⟩ := D.ex
  refine ⟨⟨f, fd, hm, M, F, F.ok (CX := L2.CX P w) (sp := spG K af) S (fun vs H Q E ⟨O, cs, Xf, Kc, o, r, h, _, _⟩ => r.len.trans (hl O cs Xf Kc h)) fun cdv A outer s H vs Q E hr ⟨O, cs, Xf, Kc, o, r, h, q, x⟩ => ?_⟩, hd, ne⟩
  obtain ⟨a, ⟨t, p, sa⟩, k⟩ := body f cdv A outer s H E hr
  refine ⟨t, p, sa O _ _ H _ _ _ (start_ss o r) (k O cs Xf Kc h) ⟨fun O' ρ' σ' H' f S k' => ?_, q, fun _ _ _ _ _ _ z => z.elim, fun _ _ _ _ _ _ z => z.elim⟩ ?_⟩
  · exact q O' _ _ H' f S.o (.dat .non) k'
  · exact fun O' ρ' σ' y c v H' dd f S r hd hf z => x O' y c v H' dd f S.o r hd hf z
/-- C(a, ..): a new instance, then __init__; the places and the defaults are put in order by ix -/
def aMkI (x : Str) (n : Nat) (ix : List Nat) (dds : List PyData) (af : AF) (a : AA) : AE := fun O ρ XX Kc => a O ρ XX fun O1 cs => cs.length = n ∧ ∀ p, af ((p, .ins x []) :: O1) (.at p :: pickC ix (cs ++ dds.map .dat)) (fun O' y c => XX O' ρ y c) (fun O2 c => c = .dat .none ∧ Kc O2 (.at p))
section
variable {X : Cx} {W : WX} {af : AF} {k : Nat} {ps : List Str} {x : Str} {e : Expr} {es : List Expr} {a : AA} {p pos : Pos} {st : Stmt} {dvs : List V} {dds : List PyData}
theorem de_mk (F : FvI X.prog X.w X.K X.mg X.base k x st ps dvs dds af) (tk : Takes X W) (hr : Room (k + 1) X.A) (hg : Gl X x) (n : Nat) (ix : List Nat) (ha : DA X W (e :: es) a)
    (hbk : ∀ (T : Addr) (kV doc pm : Value) (an : Option Addr) (cdv ct v0 : Value) (us its : List Value), us.length = n → its.length = dvs.length →
      ∃ k, bindArgs (PySem.W.fnOf "__init__" (x ++ ".__init__") (defArgs st) (defBody st) (defScope st) (.ref T) kV doc pm an cdv ct) ⟨v0 :: us, []⟩ = seqItems? (.ref T) >>= k ∧ k (some its.toArray) = pure (ps.zip (v0 :: pickC ix (us ++ its))))
    (hdb : (x == ("__debug__" : Str)) = false := by decide) (he : starEach (e :: es) X.env = (false, eval e X.env) :: starEach es X.env := by rfl)
    (hpl : (backTo pos (starEach es X.env)).any (·.1) = false := by rfl) : DE X W (.Call (.Name x p) (e :: es) [] pos) (aMkI x n ix dds af a) := by
  obtain ⟨f, fd, hm, M, FD, FO⟩ := F.ex
  obtain ⟨t, pa, s⟩ := ha.ex
  refine ⟨fun σ H Q => t σ H fun vs H1 => vs.length = n ∧ ∀ q dx, H1 q = none → H1 dx = none → dx ≠ q → spG X.K af (.ref q :: pickC ix (vs ++ dvs)) (upd (upd H1 dx (.own q)) q (.ins (clsA X.K x) dx [])) (fun v H2 => v = .non ∧ Q (.ref q) H2) (WE W σ),
    ⟨fun pins st' σ H Q I h => ?_⟩, fun O ρ σ H Q Kc XX S k q xx => s O ρ σ H _ _ XX S k (fun O1 cs vs H1 f1 o1 r1 ⟨hn, k1⟩ => ⟨r1.len.trans hn, fun y dx hy hdx hne => ?_⟩) xx⟩
  · refine wpAny_Call_Name_kw (ld_glob I hg hm ?_ hdb)
    refine PySem.W.callWith_K (h₀ := X.base) I.ok.mod.kin M.kp (thn (pa.run pos pins st' σ H _ I h) fun us s1 ⟨vs, H1, J, rv, ln, q⟩ => ⟨J.kIn, ?_⟩) he hpl
    change wpAny _ _ (call (Value.ref (clsA X.K x)) us) _ _ _
    have qq := q (s1.heap.objs.size + 1) s1.heap.objs.size (J.hok.fresh (Nat.le_succ _)) (J.hok.fresh (Nat.le_refl _)) (Nat.ne_of_lt (Nat.lt_succ_self _))
    have J2 := Inv.made (C := clsA X.K x) J
    obtain ⟨oc, od, dV, kV, doc, pm, an, cdv, ct, osl, rfl, lk, hcd, hD, hK⟩ := FD.ex
    rcases hD with ⟨e, _⟩ | ⟨_, T, o, its, m, rfl, lT, oT, rT⟩
    · exact absurd e F.ne
    · obtain ⟨k', e1, e2⟩ := hbk T kV doc pm an cdv ct (.ref (s1.heap.objs.size + 1)) us its (rv.length ▸ ln) rT.length.symm
      have both : Vals (V.ref (s1.heap.objs.size + 1) :: pickC ix (vs ++ dvs)) (Value.ref (s1.heap.objs.size + 1) :: pickC ix (us ++ its)) := .cons rfl (pickC_vals (rv.append rT) ix)
      refine wpAny_call (make_map (f := f) J.kIn M.makes M.init (beq_iff_eq.mp M.fn) (codeAny_mono (FO.run _ X.stack _ _ ⟨Value.ref (s1.heap.objs.size + 1) :: us, []⟩ _ _ _ _ (hr.make _ us []) (J2.env0.make _ us []) (BindsTo.of_looks fun M' => by
        rw [e1]
        exact looks_items J2.kIn lT oT (.of_pure e2)) both qq) fun r s' hq => ?_))
      match r, hq with
      | .error er, hq => exact passAt tk σ pins _ _ er s' J2 hq
      | .ok (.ret u), hq =>
        obtain ⟨v, H', I3, rv', ev, q3⟩ := J2.after hq
        subst ev
        exact ⟨rv', V.ref (s1.heap.objs.size + 1), H', I3, rfl, q3⟩
      | .ok .next, hq => exact False.elim hq
      | .ok .brk, hq => exact False.elim hq
      | .ok .cont, hq => exact False.elim hq
  · obtain ⟨o2, f2, n2⟩ := o1.new (u := .own y) hdx
    have hy2 : upd H1 dx (.own y) y = none := by rw [upd_ne hne.symm]; exact hy
    obtain ⟨o3, f3⟩ := o2.own (w := .ins x []) (u := .ins (clsA X.K x) dx []) hy2 ⟨dx, [], upd_same, rfl, .nil⟩
    have f13 := f1.trans (f2.trans f3)
    refine ⟨(y, .ins x []) :: O1, .at y :: pickC ix (cs ++ dds.map .dat), _, _, o3, .cons (.at y) (pickC_cls ((r1.fr (f2.trans f3)).app F.df.cls) ix), k1 y, fun O4 c v H4 f4 o4 r4 ⟨ec, k4⟩ => ?_, fun O4 z c v H4 dd f4 o4 r4 hd hf hx => xx O4 ρ σ z c v H4 dd (f13.trans f4) (S.go (f13.trans f4) o4) r4 hd hf hx⟩
    subst ec
    exact ⟨dq_non r4, q O4 (.at y) (.ref y) H4 (f13.trans f4) o4 (.at y) k4⟩
end
/-! ## isqrt -/
def isq (d : Int) : Int := (PySem.Float64.isqrt d.toNat : Nat)
theorem isq_ok {d : Int} (h : 0 ≤ d) : 0 ≤ isq d ∧ isq d * isq d ≤ d ∧ d < (isq d + 1) * (isq d + 1) := by
  obtain ⟨h1, h2⟩ := PySem.Float64.isqrt_spec d.toNat
  unfold isq
  generalize PySem.Float64.isqrt d.toNat = r at *
  have h3 : ((r * r : Nat) : Int) ≤ (d.toNat : Int) := Int.ofNat_le.mpr h1
  have h4 : (d.toNat : Int) < (((r + 1) * (r + 1) : Nat) : Int) := Int.ofNat_lt.mpr h2
  rw [Int.toNat_of_nonneg h] at h3 h4
  rw [Int.natCast_mul] at h3 h4
  rw [Int.natCast_add] at h4
  exact ⟨Int.natCast_nonneg _, h3, h4⟩
def bSqrt : AB := fun O cs Kc => ∃ n : Int, cs = [.dat (.int n)] ∧ 0 ≤ n ∧ n.natAbs < 2 ^ 13000 ∧ Kc O (.dat (.int (isq n)))
theorem w_sqrt {O : Ob} {n : Int} {Kc : KC} : bSqrt O [.dat (.int n)] Kc ↔ 0 ≤ n ∧ n.natAbs < 2 ^ 13000 ∧ Kc O (.dat (.int (isq n))) := by
  constructor
  · rintro ⟨m, e, h⟩
    cases e
    exact h
  · exact fun h => ⟨n, rfl, h⟩
/-! ## what the head tells -/
theorem FldK.by {K : PySem.W.Frag} {x f : Str} {C : Addr} (a : PySem.W.nsIn K mainGlobals x = some (some (.ref C))) (pg : PySem.W.plainGet K C Str.empty = true) (hd : PySem.W.hasDictIn K C = true) (po : PySem.W.plainOver K C = true)
    (sa : PySem.W.findIn K (.ref C) "__setattr__" = some (some (.builtin "object.__setattr__"))) (no : PySem.W.findIn K (.ref C) f = some none) : FldK K x f := by
  have e := clsA_of a
  subst e
  exact ⟨⟨pg, hd, po, sa⟩, no⟩
structure MkIn (K : PySem.W.Frag) (x : Str) (st : Stmt) (dvs : List V) : Prop where
  ex : ∃ (C f : Addr) (oc : Value) (od an : Option Addr) (sl : Array (Option Value)) (dV kV dc pm cd ct : Value), PySem.W.nsIn K mainGlobals x = some (some (.ref C)) ∧ Mk K C f ∧
    K.lookup f = some ⟨oc, od, .func (PySem.W.fnOf "__init__" (x ++ ".__init__") (defArgs st) (defBody st) (defScope st) dV kV dc pm an cd ct), sl⟩ ∧
    PySem.W.codeIn K cd (x ++ ".__init__") = true ∧ PySem.W.keepIn K (.ref f) = true ∧ DflV K dV dvs
theorem MkIn.by {K : PySem.W.Frag} {x q : Str} {st : Stmt} {dvs : List V} {C f T : Addr} {oc : Value} {od an : Option Addr} {sl : Array (Option Value)} {kV dc pm cd ct : Value} {o : Obj} {its : List Value} {n : Nat} (hq : q = x ++ ".__init__") (a : PySem.W.nsIn K mainGlobals x = some (some (.ref C)))
    (mk : PySem.W.makesIn K C = true) (ini : PySem.W.findIn K (.ref C) "__init__" = some (some (.ref f))) (fn : PySem.W.isFn K (.ref f) = true) (kC : PySem.W.keepIn K (.ref C) = true)
    (l : K.lookup f = some ⟨oc, od, .func (PySem.W.fnOf "__init__" q (defArgs st) (defBody st) (defScope st) (.ref T) kV dc pm an cd ct), sl⟩) (c : PySem.W.codeIn K cd q = true) (k : PySem.W.keepIn K (.ref f) = true)
    (lT : K.lookup T = some o) (oT : o.data = .seq its.toArray n) (r : Vals dvs its) (ne : dvs ≠ []) : MkIn K x st dvs := by
  subst hq
  exact ⟨C, f, oc, od, an, sl, .ref T, kV, dc, pm, cd, ct, a, ⟨mk, ini, fn, kC⟩, l, c, k, .inr ⟨ne, T, o, its, n, rfl, lT, oT, r⟩⟩
theorem MkIn.at {K : PySem.W.Frag} {h : Heap} {mg : Str → Option Value} {x : Str} {st : Stmt} {dvs : List V} (D : MkIn K x st dvs) (X : K.In h) (G : h.Ns mainGlobals mg) : MkAt K mg x st dvs := by
  obtain ⟨C, f, oc, od, an, sl, dV, kV, dc, pm, cd, ct, a, m, l, c, k, d⟩ := D.ex
  have e := clsA_of a
  subst e
  exact ⟨f, _, PySem.W.mg_of X G a, m, ⟨oc, od, dV, kV, dc, pm, an, cd, ct, sl, rfl, l, c, d, .inl rfl⟩, k⟩
end Ab
/-! rows of square roots of fractions -/
namespace Ab
open PySem PySem.Spec PyProof.Rows L2 Vg
/-- (p + root d) / q -/
structure S3 where
  p : Int
  d : Int
  q : Int
def S3.fl (s : S3) : Int := (s.p + isq s.d) / s.q
def S3.sq (s : S3) : Prop := isq s.d * isq s.d = s.d
instance (s : S3) : Decidable s.sq := by unfold S3.sq; infer_instance
/-- what stands behind the first term -/
def S3.nx (s : S3) : Option S3 :=
  if s.sq then (if lowB (s.p + isq s.d) s.q = 1 then none else some ⟨lowB (s.p + isq s.d) s.q, 0, lowT (s.p + isq s.d) s.q - s.fl * lowB (s.p + isq s.d) s.q⟩)
  else some ⟨s.fl * s.q - s.p, s.d, (s.d - (s.fl * s.q - s.p) * (s.fl * s.q - s.p)) / s.q⟩
/-! ## the walk keeps -/
def sdI (t m x y : Int) : Int := t * (y * y) - x * x * m
theorem irr_next {m A B C D p q d x p' q' : Int} (hq : q ≠ 0) (h1 : m * (A * p + B * q) = C * d) (h2 : m * A = C * p + D * q) (hp : p' = x * q - p) (hq' : q * q' = d - p' * p') :
    m * ((A * x + B) * p' + A * q') = (C * x + D) * d ∧ m * (A * x + B) = (C * x + D) * p' + C * q' := by
  have e1 : q * (m * ((A * x + B) * p' + A * q')) = q * ((C * x + D) * d) := by grind
  have e2 : q * (m * (A * x + B)) = q * ((C * x + D) * p' + C * q') := by grind
  exact ⟨Int.eq_of_mul_eq_mul_left hq e1, Int.eq_of_mul_eq_mul_left hq e2⟩
/-- the walk after n terms, whose turn is M -/
inductive Wal (t m : Int) (n : Nat) (M : Tn) : S3 → Prop
  | irr {p q : Int} (hq : 1 ≤ q) (ns : isq (t * m) * isq (t * m) ≠ t * m) (dv : ∃ q', q * q' = t * m - p * p) (h1 : m * (M.a * p + M.b * q) = M.c * (t * m)) (h2 : m * M.a = M.c * p + M.d * q)
      (g0 : 0 ≤ p) (g : 1 ≤ n → p ≤ isq (t * m) ∧ q ≤ isq (t * m) + p) (gz : n = 0 → p = 0 ∧ q = m) : Wal t m n M ⟨p, t * m, q⟩
  | rat {s : S3} {x y P Q : Int} (hs : s.sq) (eP : lowT (s.p + isq s.d) s.q = P) (eQ : lowB (s.p + isq s.d) s.q = Q) (hQ : 1 ≤ Q) (hP : 0 ≤ P) (g : gcdI P Q = 1) (hy : 1 ≤ y) (hx : 0 ≤ x) (xy : t * (y * y) = x * x * m) (hX : x = M.a * P + M.b * Q) (hY : y = M.c * P + M.d * Q) (fl : s.fl = P / Q)
      (gr : 1 ≤ n → Q < P ∧ 1 ≤ x) (gz : n = 0 → P = x) (sz : s = ⟨0, t * m, m⟩ ∨ s = ⟨P, 0, Q⟩) (bd : P ≤ x + y ∧ Q ≤ x + y ∧ x ≤ isq (t * m) ∧ y ≤ m) : Wal t m n M s
/-- the turn of a row so far -/
structure Trn (n : Nat) (M : Tn) : Prop where
  a : 0 ≤ M.a
  b : 0 ≤ M.b
  c : 0 ≤ M.c
  d : 0 ≤ M.d
  c1 : 1 ≤ n → 1 ≤ M.c
  d1 : n = 0 → M.d = 1
  det : M.a * M.d - M.b * M.c = sgn n
theorem Trn.next {n : Nat} {M : Tn} {x : Int} (h : Trn n M) (h0 : 0 ≤ x) (h1 : 1 ≤ n → 1 ≤ x) : Trn (n + 1) (M.next x) := by
  obtain ⟨a, b, c, d, c1, d1, det⟩ := h
  have m1 := Int.mul_nonneg a h0
  have m2 := Int.mul_nonneg c h0
  refine ⟨by show 0 ≤ M.a * x + M.b; omega, a, by show 0 ≤ M.c * x + M.d; omega, c, fun _ => ?_, fun z => by omega, ?_⟩
  · show 1 ≤ M.c * x + M.d
    by_cases hn : n = 0
    · have := d1 hn; omega
    · have z := mul_ge (h1 (by omega)) c
      rw [Int.mul_comm] at z
      have := c1 (by omega)
      omega
  · rw [sgn_succ, ← det]
    show (M.a * x + M.b) * M.c - M.a * (M.c * x + M.d) = -(M.a * M.d - M.b * M.c)
    grind
theorem nsq_lt {d : Int} (h : 0 ≤ d) (ns : isq d * isq d ≠ d) : isq d * isq d < d := by
  have := (isq_ok h).2.1
  omega
theorem sq_le {a b : Int} (h : 0 ≤ a) (k : a ≤ b) : a * a ≤ b * b := Int.mul_le_mul k k h (by omega)
theorem quot_eq {q q' d p a p' : Int} (h : q * q' = d - p * p) (hp : p' = a * q - p) : q * (q' - a * (a * q - 2 * p)) = d - p' * p' := by grind
theorem box_eq (r p : Int) : (r - p + 1) * (r + p + 1) = (r + 1) * (r + 1) - p * p := by grind
theorem wal_irr {t m : Int} {n : Nat} {M : Tn} {p q : Int} (hd0 : 0 ≤ t * m) (hq : 1 ≤ q) (ns : isq (t * m) * isq (t * m) ≠ t * m) (dv : ∃ q', q * q' = t * m - p * p) (h1 : m * (M.a * p + M.b * q) = M.c * (t * m)) (h2 : m * M.a = M.c * p + M.d * q)
    (g0 : 0 ≤ p) (g : 1 ≤ n → p ≤ isq (t * m) ∧ q ≤ isq (t * m) + p) (gz : n = 0 → p = 0) :
    (0 ≤ (p + isq (t * m)) / q) ∧ (1 ≤ n → 1 ≤ (p + isq (t * m)) / q) ∧
      Wal t m (n + 1) (M.next ((p + isq (t * m)) / q)) ⟨(p + isq (t * m)) / q * q - p, t * m, (t * m - ((p + isq (t * m)) / q * q - p) * ((p + isq (t * m)) / q * q - p)) / q⟩ := by
  obtain ⟨r0, r1, r2⟩ := isq_ok hd0
  have r3 := nsq_lt hd0 ns
  obtain ⟨q', hq'⟩ := dv
  generalize hd : t * m = d at *
  generalize hr : isq d = r at *
  have a0 : 0 ≤ (p + r) / q := Int.ediv_nonneg (by omega) (by omega)
  have a1 : 1 ≤ n → 1 ≤ (p + r) / q := fun hn => (Int.le_ediv_iff_mul_le (by omega)).mpr (by have := g hn; omega)
  have b1 : (p + r) / q * q ≤ p + r := Int.ediv_mul_le _ (by omega)
  have b2 : p + r < ((p + r) / q + 1) * q := Int.lt_ediv_add_one_mul_self _ (by omega)
  rw [Int.add_mul, Int.one_mul] at b2
  have c1 : 1 ≤ n → r < q → (p + r) / q = 1 := fun hn hlt => by
    have := g hn
    have e := a1 hn
    by_cases z : 2 ≤ (p + r) / q
    · have := Int.mul_le_mul_of_nonneg_right z (show 0 ≤ q by omega)
      omega
    · omega
  generalize ha : (p + r) / q = a at *
  have p0 : 0 ≤ a * q - p := by
    by_cases hn : n = 0
    · have := gz hn
      have := Int.mul_nonneg a0 (show 0 ≤ q by omega)
      omega
    · by_cases hlt : r < q
      · have e := c1 (by omega) hlt
        have := g (by omega)
        rw [e] at *
        omega
      · omega
  refine ⟨a0, a1, ?_⟩
  obtain ⟨p', hp'⟩ : ∃ p', p' = a * q - p := ⟨_, rfl⟩
  rw [← hp'] at p0 ⊢
  have eq2 : q * (q' - a * (a * q - 2 * p)) = d - p' * p' := quot_eq hq' hp'
  obtain ⟨q2, hq2⟩ : ∃ q2, q2 = q' - a * (a * q - 2 * p) := ⟨_, rfl⟩
  rw [← hq2] at eq2
  have ediv : (d - p' * p') / q = q2 := by rw [← eq2]; exact Int.mul_ediv_cancel_left _ (by omega)
  rw [ediv]
  have pr : p' ≤ r := by omega
  have sq1 := sq_le p0 pr
  have q2p : 1 ≤ q2 := by
    by_cases z : 1 ≤ q2
    · exact z
    · have : q * q2 ≤ 0 := Int.mul_nonpos_of_nonneg_of_nonpos (by omega) (by omega)
      omega
  obtain ⟨i1, i2⟩ := irr_next (m := m) (A := M.a) (B := M.b) (C := M.c) (D := M.d) (x := a) (show q ≠ 0 by omega) h1 h2 hp' eq2
  rw [← hd] at i1 ⊢
  refine .irr q2p (by rw [hd, hr]; exact ns) ⟨q, by rw [hd, ← eq2, Int.mul_comm]⟩ i1 i2 p0 (fun _ => ?_) (fun z => by omega)
  rw [hd, hr]
  refine ⟨pr, ?_⟩
  by_cases z : q2 ≤ r + p'
  · exact z
  · exfalso
    have k1 : (r - p' + 1) * (r + p' + 1) ≤ q * q2 := Int.mul_le_mul (by omega) (by omega) (by omega) (by omega)
    have k2 := box_eq r p'
    omega
theorem gcd_modne {P Q : Int} (hQ : 1 ≤ Q) (g : gcdI P Q = 1) (h : Q ≠ 1) : 1 ≤ P % Q ∧ P % Q < Q ∧ gcdI Q (P % Q) = 1 := by
  have e := Int.mul_ediv_add_emod P Q
  have r0 := Int.emod_nonneg P (show Q ≠ 0 by omega)
  have r1 := Int.emod_lt_of_pos P (show 0 < Q by omega)
  have g1 : gcdI Q (P % Q) = 1 := by
    rw [← gcd_red (P / Q), Int.mul_comm (P / Q) Q, e]
    exact g
  refine ⟨?_, r1, g1⟩
  by_cases z : P % Q = 0
  · rw [z] at g1
    exact absurd (gcd_zero1 hQ g1) h
  · omega
theorem isq_zero : isq 0 = 0 := by decide +kernel
/-- a step of the walk -/
theorem Wal.step {t m : Int} {n : Nat} {M : Tn} {s : S3} (hd0 : 0 ≤ t * m) (h : Wal t m n M s) :
    0 ≤ s.fl ∧ (1 ≤ n → 1 ≤ s.fl) ∧ ((s.nx = none ∧ sdI t m (M.next s.fl).a (M.next s.fl).c = 0 ∧ (1 ≤ n → 2 ≤ s.fl)) ∨ ∃ s', s.nx = some s' ∧ Wal t m (n + 1) (M.next s.fl) s') := by
  cases h with
  | @irr p q hq ns dv h1 h2 g0 g gz =>
    obtain ⟨a0, a1, W⟩ := wal_irr hd0 hq ns dv h1 h2 g0 g fun z => (gz z).1
    refine ⟨a0, a1, .inr ⟨_, ?_, W⟩⟩
    show (if S3.sq _ then _ else _) = _
    rw [if_neg (show ¬ S3.sq ⟨p, t * m, q⟩ from ns)]
    rfl
  | @rat s x y P Q hs eP eQ hQ hP g hy hx xy hX hY fl gr gz sz bd =>
    have e := Int.mul_ediv_add_emod P Q
    have f0 : 0 ≤ P / Q := Int.ediv_nonneg hP (by omega)
    have f1 : 1 ≤ n → 1 ≤ P / Q := fun hn => (Int.le_ediv_iff_mul_le (by omega)).mpr (by have := gr hn; omega)
    rw [fl]
    refine ⟨f0, f1, ?_⟩
    by_cases h1 : Q = 1
    · subst h1
      rw [Int.ediv_one] at *
      refine .inl ⟨?_, ?_, fun hn => by have := gr hn; omega⟩
      · unfold S3.nx
        rw [if_pos hs, if_pos eQ]
      · show sdI t m (M.a * P + M.b) (M.c * P + M.d) = 0
        have ex : M.a * P + M.b = x := by rw [hX]; omega
        have ey : M.c * P + M.d = y := by rw [hY]; omega
        rw [ex, ey]
        unfold sdI
        omega
    · obtain ⟨r0, r1, g1⟩ := gcd_modne hQ g h1
      refine .inr ⟨⟨Q, 0, P % Q⟩, ?_, ?_⟩
      · unfold S3.nx
        rw [if_pos hs, if_neg (by rw [eQ]; exact h1), eP, eQ, fl]
        have : P - P / Q * Q = P % Q := by rw [Int.mul_comm]; omega
        rw [this]
      · have lw : lowD Q (P % Q) = frD Q (P % Q) := low_is (by omega) r0 g1 (Int.mul_comm _ _)
        unfold lowD at lw
        have l1 : lowT Q (P % Q) = Q := by injection lw with h; injection h with h _; injection h
        have l2 : lowB Q (P % Q) = P % Q := by injection lw with h; injection h with _ h; injection h with h _; injection h
        have i0 : Q + isq 0 = Q := by rw [isq_zero]; omega
        have x1 : 1 ≤ x := by
          by_cases hn : n = 0
          · have := gz hn
            by_cases z : P = 0
            · rw [z] at g
              have := gcd_le' (a := 0) hQ
              exfalso
              refine h1 ?_
              have e0 : gcdI 0 Q = Q := by unfold gcdI; simp; omega
              omega
            · omega
          · exact (gr (by omega)).2
        refine .rat (x := x) (y := y) (P := Q) (Q := P % Q) (show isq 0 * isq 0 = 0 by rw [isq_zero]; rfl) ?_ ?_ r0 (by omega) g1 hy hx xy ?_ ?_ ?_ (fun _ => ⟨r1, x1⟩) (fun z => by omega) (.inr rfl) ⟨bd.2.1, by omega, bd.2.2⟩
        · show lowT (Q + isq 0) (P % Q) = Q
          rw [i0, l1]
        · show lowB (Q + isq 0) (P % Q) = P % Q
          rw [i0, l2]
        · show x = (M.a * (P / Q) + M.b) * Q + M.a * (P % Q)
          rw [hX]
          generalize P / Q = u at *
          generalize P % Q = v at *
          rw [← e, Int.mul_add, Int.add_mul, Int.mul_assoc, Int.mul_comm u Q]; omega
        · show y = (M.c * (P / Q) + M.d) * Q + M.c * (P % Q)
          rw [hY]
          generalize P / Q = u at *
          generalize P % Q = v at *
          rw [← e, Int.mul_add, Int.add_mul, Int.mul_assoc, Int.mul_comm u Q]; omega
        · show (Q + isq 0) / (P % Q) = Q / (P % Q)
          rw [i0]
theorem neg_of {a b c : Int} (h : 0 < a) (e : a * b = c) (hc : c < 0) : b < 0 := by
  by_cases z : 0 ≤ b
  · have := Int.mul_nonneg (show 0 ≤ a by omega) z
    omega
  · omega
theorem isq_le {d : Int} (h : 0 ≤ d) : isq d ≤ d := by
  obtain ⟨r0, r1, _⟩ := isq_ok h
  by_cases z : isq d = 0
  · omega
  · have := mul_ge (show 1 ≤ isq d by omega) r0
    omega
/-- how great the numbers of the walk are -/
structure Sz (N : Int) (s : S3) : Prop where
  p0 : 0 ≤ s.p
  p : s.p ≤ N
  d0 : 0 ≤ s.d
  d : s.d ≤ N
  q1 : 1 ≤ s.q
  q : s.q ≤ N
  f : s.fl ≤ N
  dv : s.sq ∨ s.q ∣ s.d - s.p * s.p
theorem Wal.sz {t m : Int} {n : Nat} {M : Tn} {s : S3} (hm : 1 ≤ m) (hd0 : 0 ≤ t * m) (h : Wal t m n M s) : Sz (2 * (t * m) + 2 * m) s := by
  have rl := isq_le hd0
  have r0 := (isq_ok hd0).1
  cases h with
  | @irr p q hq ns dv h1 h2 g0 g gz =>
    have pq : p ≤ isq (t * m) ∧ (q ≤ isq (t * m) + p ∨ q = m) := by
      by_cases hn : n = 0
      · obtain ⟨e1, e2⟩ := gz hn
        exact ⟨by omega, .inr e2⟩
      · obtain ⟨e1, e2⟩ := g (by omega)
        exact ⟨e1, .inl e2⟩
    refine ⟨g0, by show p ≤ _; omega, hd0, by show t * m ≤ _; omega, hq, by show q ≤ _; omega, ?_, .inr ?_⟩
    · show (p + isq (t * m)) / q ≤ _
      have := Int.ediv_le_self q (show 0 ≤ p + isq (t * m) by omega)
      omega
    · obtain ⟨q', e⟩ := dv
      exact ⟨q', e.symm⟩
  | @rat s x y P Q hs eP eQ hQ hP g hy hx xy hX hY fl gr gz sz bd =>
    have f : s.fl ≤ 2 * (t * m) + 2 * m := by
      rw [fl]
      have := Int.ediv_le_self Q hP
      omega
    rcases sz with rfl | rfl
    · exact ⟨Int.le_refl _, by show 0 ≤ _; omega, hd0, by show t * m ≤ _; omega, hm, by show m ≤ _; omega, f, .inl hs⟩
    · exact ⟨hP, by show P ≤ _; omega, Int.le_refl _, by show 0 ≤ _; omega, hQ, by show Q ≤ _; omega, f, .inl hs⟩
end Ab
/-! which terms the row of a square root begins with -/
namespace Ab
open PySem PySem.Spec PyProof.Rows L2 Vg
theorem sd_eq (t m X Y X' Y' : Int) : Y * Y * sdI t m X' Y' = Y' * Y' * sdI t m X Y - m * (X' * Y * (X' * Y) - X * Y' * (X * Y')) := by
  unfold sdI
  grind
theorem sd_mono {t m X Y X' Y' : Int} (hm : 1 ≤ m) (hX : 0 ≤ X) (hY : 0 ≤ Y) (hY' : 0 ≤ Y') (h : X * Y' < X' * Y) (k : sdI t m X Y ≤ 0) : sdI t m X' Y' < 0 := by
  have e := sd_eq t m X Y X' Y'
  have p0 := Int.mul_nonneg hX hY'
  have y1 : 0 < Y := by
    by_cases z : Y = 0
    · rw [z, Int.mul_zero] at h; omega
    · omega
  have yy := Int.mul_pos y1 y1
  have sq : X * Y' * (X * Y') < X' * Y * (X' * Y) := Int.mul_lt_mul' (by omega) h p0 (by omega)
  have f1 : Y' * Y' * sdI t m X Y ≤ 0 := Int.mul_nonpos_of_nonneg_of_nonpos (Int.mul_nonneg hY' hY') k
  have f2 : 0 < m * (X' * Y * (X' * Y) - X * Y' * (X * Y')) := Int.mul_pos (by omega) (by omega)
  exact neg_of yy e (by omega)
theorem sd_mono' {t m X Y X' Y' : Int} (hm : 1 ≤ m) (hX : 0 ≤ X) (hY : 0 ≤ Y) (hY' : 0 ≤ Y') (h : X * Y' < X' * Y) (k : 0 ≤ sdI t m X' Y') : 0 < sdI t m X Y := by
  by_cases z : sdI t m X Y ≤ 0
  · have := sd_mono hm hX hY hY' h z
    omega
  · omega
theorem cross_eq (a b c d u v u' v' : Int) : (a * u' + b * v') * (c * u + d * v) - (a * u + b * v) * (c * u' + d * v') = (a * d - b * c) * (u' * v - u * v') := by grind
theorem sgn_or (n : Nat) : sgn n = 1 ∨ sgn n = -1 := by
  unfold sgn
  split
  · exact .inl rfl
  · exact .inr rfl
/-- how the sides go along a turn -/
theorem em {t m u v u' v' : Int} {n : Nat} {M : Tn} (hm : 1 ≤ m) (T : Trn n M) (hu : 0 ≤ u) (hv : 0 ≤ v) (hu' : 0 ≤ u') (hv' : 0 ≤ v') (h : 0 < u' * v - u * v')
    (k : sdI t m (M.a * u + M.b * v) (M.c * u + M.d * v) * sgn n ≤ 0) : sdI t m (M.a * u' + M.b * v') (M.c * u' + M.d * v') * sgn n < 0 := by
  have cr := cross_eq M.a M.b M.c M.d u v u' v'
  rw [T.det] at cr
  have ge : ∀ {a b x y : Int}, 0 ≤ a → 0 ≤ b → 0 ≤ x → 0 ≤ y → 0 ≤ a * x + b * y := fun h1 h2 h3 h4 => Int.add_nonneg (Int.mul_nonneg h1 h3) (Int.mul_nonneg h2 h4)
  have g1 := ge T.a T.b hu hv
  have g2 := ge T.c T.d hu hv
  have g3 := ge T.a T.b hu' hv'
  have g4 := ge T.c T.d hu' hv'
  generalize M.a * u + M.b * v = X at *
  generalize M.c * u + M.d * v = Y at *
  generalize M.a * u' + M.b * v' = X' at *
  generalize M.c * u' + M.d * v' = Y' at *
  rcases sgn_or n with s | s <;> rw [s] at cr k ⊢
  · have := sd_mono (t := t) (X' := X') hm g1 g2 g4 (by omega) (by omega)
    omega
  · have := sd_mono' (t := t) (X' := X) (Y' := Y) hm g3 g4 g2 (by omega) (by omega)
    omega
/-- a term that stands where the row has it -/
structure Inn (t m : Int) (n : Nat) (M : Tn) (x : Int) : Prop where
  lo : 0 ≤ sdI t m (M.next x).a (M.next x).c * sgn n
  hi : sdI t m (M.a * (x + 1) + M.b) (M.c * (x + 1) + M.d) * sgn n < 0
theorem Inn.one {t m : Int} {n : Nat} {M : Tn} {x y : Int} (hm : 1 ≤ m) (T : Trn n M) (hx : 0 ≤ x) (h : Inn t m n M x) (k : Inn t m n M y) : ¬ x < y := by
  intro z
  have hi := h.hi
  have lo := k.lo
  by_cases e : x + 1 = y
  · rw [e] at hi
    have : sdI t m (M.next y).a (M.next y).c = sdI t m (M.a * y + M.b) (M.c * y + M.d) := rfl
    rw [this] at lo
    omega
  · have e1 : M.a * (x + 1) + M.b = M.a * (x + 1) + M.b * 1 := by rw [Int.mul_one]
    have e2 : M.c * (x + 1) + M.d = M.c * (x + 1) + M.d * 1 := by rw [Int.mul_one]
    rw [e1, e2] at hi
    have := em hm T (show 0 ≤ x + 1 by omega) (show (0 : Int) ≤ 1 by decide) (show 0 ≤ y by omega) (show (0 : Int) ≤ 1 by decide) (by omega) (Int.le_of_lt hi)
    rw [Int.mul_one, Int.mul_one] at this
    have : sdI t m (M.next y).a (M.next y).c * sgn n < 0 := this
    omega
end Ab
/-! texts: find, replace, a list made longer by another one; a text cut at any sign -/
namespace Ab
open PySem PySem.Spec PyProof.Rows L2 Vg
/-! ## find -/
def aFind (a b : AE) : AE := fun O ρ XX Kc => a O ρ XX fun O1 c => ∃ z : Str, c = .dat (.str z) ∧ b O1 ρ XX fun O2 d => ∃ y : Str, d = .dat (.str y) ∧ Kc O2 (.dat (.int (Txt.find z y)))
section
variable {X : Cx} {W : WX} {o e : Expr} {a b : AE} {apos pos : Pos}
end
/-! ## extend -/
theorem OkO.ext {K : PySem.W.Frag} {O : Ob} {H : Hp} {D : Addr} {acc ys : List Cl} {f : Ow → Ob} {xs us : List V} (o : OkO K O H) (lo : Lo O D (.lst acc) f) (hx : H D = some (.lst xs)) (rs : ClsH K (fre O) H xs acc) (r : ClsH K (fre O) H us ys) :
    OkO K (f (.lst (acc ++ ys))) (upd H D (.lst (xs ++ us))) ∧ Fr O H (f (.lst (acc ++ ys))) (upd H D (.lst (xs ++ us))) :=
  o.put (w' := .lst (acc ++ ys)) lo ⟨_, upd_same, (rs.app r).mono (fun b v fb e => by rw [upd_ne fun z => fb _ lo.mem z.symm]; exact e) fun b v fb _ => (lo.fre b).mpr fb⟩
def aExt (a : AE) (b : AA) : AE := fun O ρ XX Kc => a O ρ XX fun O1 c => ∃ p cs f, c = .at p ∧ Lo O1 p (.lst cs) f ∧ b O1 ρ XX fun O2 ds => ∃ d es cs f, ds = [d] ∧ Els O2 d es ∧ Lo O2 p (.lst cs) f ∧ cs.length + es.length ≤ 1000000 ∧ Kc (f (.lst (cs ++ es))) (.dat .none)
section
variable {X : Cx} {W : WX}
end
/-! ## replace: where a token is out already -/
def aRepl (a : AE) (y z : Str) : AE := fun O ρ XX Kc => a O ρ XX fun O1 c => ∃ x : Str, c = .dat (.str x) ∧ x.length + (x.length + 1) * z.length ≤ 16777216 ∧ Kc O1 (.dat (.str (Txt.replace x y z)))
section
variable {X : Cx} {W : WX}
end
/-! ## a text cut at a sign -/
end Ab
/-! methods with arguments and defaults, isinstance of own classes -/
namespace Ab
open PySem PySem.Spec PyProof.Rows L2 Vg
/-- o.m(e, ..) of a method without defaults -/
def aMetA (x m : Str) (af : AF) (a : AE) (b : AA) : AE := fun O ρ XX Kc => a O ρ XX fun O1 c => ∃ p fs, c = .at p ∧ (p, Ow.ins x fs) ∈ O1 ∧ fs.lookup m = none ∧ b O1 ρ XX fun O2 cs => af O2 (.at p :: cs) (fun O' y c => XX O' ρ y c) Kc
section
variable {X : Cx} {W : WX} {af : AF} {k : Nat} {ps : List Str} {x m : Str} {e o : Expr} {es : List Expr} {a : AE} {b : AA} {apos pos p : Pos}
theorem de_metA {pl : Sem Bool} (F : FvM X.prog X.w X.K X.mg X.base k x m ps af) (tk : Takes X W) (hr : Room k X.A) (ho : DE X W o a) (hb : DA X W (e :: es) b)
    (hst : starEach (e :: es) X.env = (false, eval e X.env) :: starEach es X.env := by rfl) (hpl : (backTo pos (starEach es X.env)).any (·.1) = false := by rfl)
    (ht : eval (.Call (.Attribute o m apos) (e :: es) [] pos) X.env = (do
      let ov ← eval o X.env
      standAt apos.atName
      let (f, first) ← holding [ov] (getMethod ov m pl)
      callWith pos f first (backTo pos (starEach (e :: es) X.env)) (backToKw pos (keywordEach [] X.env))) := by rfl) :
    DE X W (.Call (.Attribute o m apos) (e :: es) [] pos) (aMetA x m af a b) := by
  obtain ⟨f, fd, hc, me, bd, F⟩ := F.ex
  obtain ⟨t, pt, s⟩ := ho.ex
  obtain ⟨u, pa, s2⟩ := hb.ex
  refine ⟨fun σ H Q => t σ H fun y H1 => ∃ p dx fs, y = .ref p ∧ H1 p = some (.ins (clsA X.K x) dx fs) ∧ fs.lookup m = none ∧ u σ H1 fun vs H2 => spG X.K af (.ref p :: vs) H2 Q (WE W σ), ⟨fun pins st σ H Q I h => ?_⟩, fun O ρ σ H Q Kc XX S k q xx => s O ρ σ H _ _ XX S k (fun O1 c v H1 f1 o1 r1 ⟨p, fs, e, mm, l, k1⟩ => ?_) xx⟩
  · refine PySem.W.methodCall_KW (pl := pl) (thn (pt.run pins st σ H _ I h) fun u s1 hy => ?_) ht
    obtain ⟨y, H1, I1, ry, p, dx, fs, ey, hp, l, q⟩ := hy
    subst ey
    have eu : u = Value.ref p := ry
    subst eu
    refine getmeth_ok I1 hp hc me l ?_
    refine PySem.W.callWith_K (first := [.ref p]) (h₀ := X.base) I.ok.mod.kin me.kp (thn (pa.run pos pins s1 σ H1 _ I1 q) fun us s2 ⟨vs, H2, I2, r, q2⟩ => ⟨I2.kIn, ?_⟩) hst hpl
    have both : Vals (V.ref p :: vs) (Value.ref p :: us) := .cons rfl r
    have hl : (Value.ref p :: us).length = ps.length := by rw [← both.length]; exact F.len _ _ _ _ q2
    have b := bd s2 (Value.ref p :: us) I2.kIn (by rw [List.append_nil]; exact hl)
    rw [List.append_nil] at b
    refine wpAny_call (codeAny_mono (F.run X.A X.stack s2 H2 ⟨.ref p :: us, []⟩ (.ref p :: us) (.ref p :: vs) Q (WE W σ) hr I2.env0 b both q2) fun r s' hq => ?_)
    match r, hq with
    | .error e, hq => exact passAt tk σ pins H2 s2 e s' I2 hq
    | .ok (.ret u), hq => exact I2.after hq
    | .ok .next, hq => exact False.elim hq
    | .ok .brk, hq => exact False.elim hq
    | .ok .cont, hq => exact False.elim hq
  · subst e
    have ev := dq_at r1
    subst ev
    obtain ⟨d, vs, hp, hk, hr⟩ := o1.all _ mm
    refine ⟨p, d, vs, rfl, hp, fields_none hk l, s2 O1 ρ σ H1 _ _ XX (S.go f1 o1) k1 (fun O2 cs us H2 f2 o2 r2 k2 => ?_) (xx.go f1)⟩
    have f12 := f1.trans f2
    exact ⟨O2, .at p :: cs, _, Kc, o2, .cons (.at p) r2, k2, q.go f12, fun O3 y c v H3 dd f3 o3 r3 hd hf hx => xx O3 ρ σ y c v H3 dd (f12.trans f3) (S.go (f12.trans f3) o3) r3 hd hf hx⟩
end
/-! ## a method with defaults -/
structure MeInD (K : PySem.W.Frag) (x m q : Str) (st : Stmt) (dvs : List V) : Prop where
  ex : ∃ (C f : Addr) (oc : Value) (od an : Option Addr) (sl : Array (Option Value)) (dV kV dc pm cd ct : Value), PySem.W.nsIn K mainGlobals x = some (some (.ref C)) ∧ Cls K C ∧ Meth K C m f ∧
    K.lookup f = some ⟨oc, od, .func (PySem.W.fnOf m q (defArgs st) (defBody st) (defScope st) dV kV dc pm an cd ct), sl⟩ ∧ PySem.W.codeIn K cd q = true ∧ DflV K dV dvs
theorem MeInD.by {K : PySem.W.Frag} {x m q : Str} {st : Stmt} {dvs : List V} {C f T : Addr} {oc : Value} {od an : Option Addr} {sl : Array (Option Value)} {kV dc pm cd ct : Value} {o : Obj} {its : List Value} {n : Nat} (a : PySem.W.nsIn K mainGlobals x = some (some (.ref C)))
    (pg : PySem.W.plainGet K C Str.empty = true) (hd : PySem.W.hasDictIn K C = true) (po : PySem.W.plainOver K C = true) (sa : PySem.W.findIn K (.ref C) "__setattr__" = some (some (.builtin "object.__setattr__")))
    (at_ : PySem.W.findIn K (.ref C) m = some (some (.ref f))) (fn : PySem.W.isFn K (.ref f) = true) (kp : PySem.W.keepIn K (.ref f) = true)
    (l : K.lookup f = some ⟨oc, od, .func (PySem.W.fnOf m q (defArgs st) (defBody st) (defScope st) (.ref T) kV dc pm an cd ct), sl⟩) (c : PySem.W.codeIn K cd q = true)
    (lT : K.lookup T = some o) (oT : o.data = .seq its.toArray n) (r : Vals dvs its) (ne : dvs ≠ []) : MeInD K x m q st dvs :=
  ⟨C, f, oc, od, an, sl, .ref T, kV, dc, pm, cd, ct, a, ⟨pg, hd, po, sa⟩, ⟨at_, fn, kp⟩, l, c, .inr ⟨ne, T, o, its, n, rfl, lT, oT, r⟩⟩
structure MeAtD (K : PySem.W.Frag) (mg : Str → Option Value) (x m q : Str) (st : Stmt) (dvs : List V) : Prop where
  ex : ∃ (f : Addr) (fd : FuncData), mg x = some (.ref (clsA K x)) ∧ Cls K (clsA K x) ∧ Meth K (clsA K x) m f ∧ FunD K m q (defArgs st) (defBody st) (defScope st) dvs [] f fd
theorem MeInD.at {K : PySem.W.Frag} {h : Heap} {mg : Str → Option Value} {x m q : Str} {st : Stmt} {dvs : List V} (D : MeInD K x m q st dvs) (X : K.In h) (G : h.Ns mainGlobals mg) : MeAtD K mg x m q st dvs := by
  obtain ⟨C, f, oc, od, an, sl, dV, kV, dc, pm, cd, ct, a, hc, hm, l, c, d⟩ := D.ex
  have e := clsA_of a
  subst e
  exact ⟨f, _, PySem.W.mg_of X G a, hc, hm, ⟨oc, od, dV, kV, dc, pm, an, cd, ct, sl, rfl, l, c, d, .inl rfl⟩, hm.kp⟩
/-- o.m(a, .., name = b, ..): the places, the defaults, the names' values are put in order by ix -/
def aMetN (x m : Str) (n mm : Nat) (ix : List Nat) (dds : List PyData) (af : AF) (o : AE) (a b : AA) : AE := fun O ρ XX Kc => o O ρ XX fun O0 c => ∃ p fs, c = .at p ∧ (p, Ow.ins x fs) ∈ O0 ∧ fs.lookup m = none ∧ a O0 ρ XX fun O1 cs => b O1 ρ XX fun O2 zs => cs.length = n ∧ zs.length = mm ∧ af O2 (.at p :: pickC ix (cs ++ (dds.map .dat ++ zs))) (fun O' y c => XX O' ρ y c) Kc
section
variable {X : Cx} {W : WX} {af : AF} {k : Nat} {ps ks : List Str} {x m q : Str} {e o : Expr} {es : List Expr} {kws : List Keyword} {a : AE} {b c : AA} {apos pos p : Pos} {st : Stmt} {dvs : List V} {dds : List PyData}
end
/-! ## isinstance of an own class -/
/-- what the head tells of a class by which things are told -/
structure IsK (K : PySem.W.Frag) (x : Str) : Prop where
  cl : Cls K (clsA K x)
  ha : PySem.W.findIn K (.ref (clsA K x)) "__class__" = some (some (.builtin "object.__class__"))
  hn : PySem.W.specialIn K (.builtin "object.__class__") "__get__" = some (some (.builtin "getset_descriptor.__get__"))
  htk : PySem.W.takesIn K (.builtin "object.__class__") = some true
  hm : PySem.W.mroIn K (clsA K x) (.type "object") = some true
  me : PySem.W.kitOne K (.ref (clsA K x)) (.ref (clsA K x)) = some true
  no : ∀ n ∈ ["NoneType", "bool", "int", "str", "list", "tuple", "dict"], PySem.W.kitOne K (.type n) (.ref (clsA K x)) = some false
theorem IsK.by {K : PySem.W.Frag} {x : Str} {C : Addr} (a : PySem.W.nsIn K mainGlobals x = some (some (.ref C))) (pg : PySem.W.plainGet K C Str.empty = true) (hd : PySem.W.hasDictIn K C = true) (po : PySem.W.plainOver K C = true)
    (sa : PySem.W.findIn K (.ref C) "__setattr__" = some (some (.builtin "object.__setattr__")))
    (ha : PySem.W.findIn K (.ref C) "__class__" = some (some (.builtin "object.__class__")))
    (hn : PySem.W.specialIn K (.builtin "object.__class__") "__get__" = some (some (.builtin "getset_descriptor.__get__")))
    (htk : PySem.W.takesIn K (.builtin "object.__class__") = some true) (hm : PySem.W.mroIn K C (.type "object") = some true) (me : PySem.W.kitOne K (.ref C) (.ref C) = some true)
    (n1 : PySem.W.kitOne K (.type "NoneType") (.ref C) = some false) (n2 : PySem.W.kitOne K (.type "bool") (.ref C) = some false) (n3 : PySem.W.kitOne K (.type "int") (.ref C) = some false) (n4 : PySem.W.kitOne K (.type "str") (.ref C) = some false)
    (n5 : PySem.W.kitOne K (.type "list") (.ref C) = some false) (n6 : PySem.W.kitOne K (.type "tuple") (.ref C) = some false) (n7 : PySem.W.kitOne K (.type "dict") (.ref C) = some false) : IsK K x := by
  have e := clsA_of a
  subst e
  exact ⟨⟨pg, hd, po, sa⟩, ha, hn, htk, hm, me, all_cons n1 (all_cons n2 (all_cons n3 (all_cons n4 (all_cons n5 (all_cons n6 (all_cons n7 all_nil))))))⟩
/-! ## int(text) -/
/-! ## a or b, of numbers -/
def aOrI (a b : AE) : AE := fun O ρ XX Kc => a O ρ XX fun O1 c => ∃ i : Int, c = .dat (.int i) ∧ if i = 0 then b O1 ρ XX Kc else Kc O1 (.dat (.int i))
section
variable {X : Cx} {W : WX} {a b : Expr} {rest : List Expr} {pos : Pos} {aa ab : AE} {ta tb : TE}
end
/-! ## a text many times -/
def aMulS : AR2 := fun O c c' Kc => ∃ z k, c = .dat (.str z) ∧ c' = .dat (.int k) ∧ MulOk z k ∧ Kc O (.dat (.str (Txt.mul z k)))
end Ab
/-! rows of (p + root d) / q, of either sign -/
namespace Ab
open PySem PySem.Spec PyProof.Rows L2 Vg
/-- (p + root d) / q lies above c; r is the whole root, d no square -/
def gtI (p q r c : Int) : Prop := (0 < q ∧ c * q - p ≤ r) ∨ (q < 0 ∧ r < c * q - p)
def flz (p q r : Int) : Int := if q > 0 then (p + r).fdiv q else (p + r + 1).fdiv q
theorem fdiv_pos {x q : Int} (h : 0 < q) : x.fdiv q * q ≤ x ∧ x < (x.fdiv q + 1) * q := by
  rw [Int.fdiv_eq_ediv_of_nonneg _ (by omega)]
  exact ⟨Int.ediv_mul_le _ (by omega), Int.lt_ediv_add_one_mul_self _ h⟩
theorem fdiv_neg {x q : Int} (h : q < 0) : x ≤ x.fdiv q * q ∧ (x.fdiv q + 1) * q < x := by
  have e : x.fdiv q = (-x).fdiv (-q) := (Int.neg_fdiv_neg x q).symm
  obtain ⟨h1, h2⟩ := fdiv_pos (x := -x) (show 0 < -q by omega)
  rw [← e] at h1 h2
  rw [Int.mul_neg] at h1 h2
  exact ⟨by omega, by omega⟩
theorem flz_ok {p q r : Int} (hq : q ≠ 0) : (0 < q ∧ flz p q r * q - p ≤ r ∧ r < (flz p q r + 1) * q - p) ∨ (q < 0 ∧ r < flz p q r * q - p ∧ (flz p q r + 1) * q - p ≤ r) := by
  unfold flz
  by_cases h : q > 0
  · rw [if_pos h]
    obtain ⟨h1, h2⟩ := fdiv_pos (x := p + r) h
    exact .inl ⟨h, by omega, by omega⟩
  · rw [if_neg h]
    obtain ⟨h1, h2⟩ := fdiv_neg (x := p + r + 1) (show q < 0 by omega)
    exact .inr ⟨by omega, by omega, by omega⟩
theorem prod_pos {q x : Int} (h : 0 < q) (k : 0 < q * x) : 0 < x := by
  by_cases z : 0 < x
  · exact z
  · have := Int.mul_nonpos_of_nonneg_of_nonpos (show 0 ≤ q by omega) (show x ≤ 0 by omega)
    omega
theorem prod_neg {q x : Int} (h : 0 < q) (k : q * x < 0) : x < 0 := by
  by_cases z : x < 0
  · exact z
  · have := Int.mul_nonneg (show 0 ≤ q by omega) (show 0 ≤ x by omega)
    omega
theorem sq_neg (a : Int) : -a * -a = a * a := by rw [Int.neg_mul_neg]
theorem dif_sq (r p : Int) : (r - p) * (r + p) = r * r - p * p := by grind
/-- where the next one lies: p' from the last one's floor -/
theorem gt_next {p' q q' r d : Int} (h0 : 0 ≤ r) (h1 : r * r < d) (h2 : d < (r + 1) * (r + 1)) (hq' : q * q' = d - p' * p') (h : (0 < q ∧ p' ≤ r ∧ r < p' + q) ∨ (q < 0 ∧ r < p' ∧ p' + q ≤ r)) : gtI p' q' r 1 ∧ q' ≠ 0 := by
  unfold gtI
  rw [Int.one_mul]
  rcases h with ⟨hq, a1, a2⟩ | ⟨hq, a1, a2⟩
  · by_cases hp : -r ≤ p'
    · have s := Int.mul_nonneg (show 0 ≤ r - p' by omega) (show 0 ≤ r + p' by omega)
      rw [dif_sq] at s
      have p := prod_pos hq (show 0 < q * q' by omega)
      refine ⟨.inl ⟨p, ?_⟩, by omega⟩
      by_cases z : q' - p' ≤ r
      · exact z
      · have k1 : (r - p' + 1) * (r + p' + 1) ≤ q * q' := Int.mul_le_mul (by omega) (by omega) (by omega) (by omega)
        have k2 := box_eq r p'
        omega
    · have s := sq_le (show 0 ≤ r + 1 by omega) (show r + 1 ≤ -p' by omega)
      rw [sq_neg] at s
      have p := prod_neg hq (show q * q' < 0 by omega)
      refine ⟨.inr ⟨p, ?_⟩, by omega⟩
      by_cases z : r < q' - p'
      · exact z
      · have k1 : (r - p' + 1) * (-p' - r) ≤ q * -q' := Int.mul_le_mul (by omega) (by omega) (by omega) (by omega)
        have k2 : (r - p' + 1) * (-p' - r) = p' * p' - r * r + (-p' - r) := by grind
        rw [Int.mul_neg] at k1
        omega
  · have s := sq_le (show 0 ≤ r + 1 by omega) (show r + 1 ≤ p' by omega)
    have e : -q * q' = p' * p' - d := by rw [Int.neg_mul]; omega
    have p := prod_pos (q := -q) (by omega) (show 0 < -q * q' by omega)
    refine ⟨.inl ⟨p, ?_⟩, by omega⟩
    by_cases z : q' - p' ≤ r
    · exact z
    · have k1 : (p' - r) * (p' + r + 1) ≤ -q * q' := Int.mul_le_mul (by omega) (by omega) (by omega) (by omega)
      have k2 : (p' - r) * (p' + r + 1) = p' * p' - r * r + (p' - r) := by grind
      omega
/-! ## sides -/
/-! ## the walk -/
theorem irw_next {P d Q A B C D p q x p' q' : Int} (hq : q ≠ 0) (h1 : P * (C * p + D * q) + C * d = Q * (A * p + B * q)) (h2 : P * C + (C * p + D * q) = Q * A) (hp : p' = x * q - p) (hq' : q * q' = d - p' * p') :
    P * ((C * x + D) * p' + C * q') + (C * x + D) * d = Q * ((A * x + B) * p' + A * q') ∧ P * (C * x + D) + ((C * x + D) * p' + C * q') = Q * (A * x + B) := by
  have e2 : q * (P * (C * x + D) + ((C * x + D) * p' + C * q')) = q * (Q * (A * x + B)) := by grind
  have e1 : q * (P * ((C * x + D) * p' + C * q') + (C * x + D) * d) = q * (Q * ((A * x + B) * p' + A * q')) := by grind
  exact ⟨Int.eq_of_mul_eq_mul_left hq e1, Int.eq_of_mul_eq_mul_left hq e2⟩
/-- the number whose terms are walked, after n of them -/
structure Irw (P d Q : Int) (n : Nat) (M : Tn) (p q : Int) : Prop where
  q0 : q ≠ 0
  dv : ∃ q', q * q' = d - p * p
  h1 : P * (M.c * p + M.d * q) + M.c * d = Q * (M.a * p + M.b * q)
  h2 : P * M.c + (M.c * p + M.d * q) = Q * M.a
  gt : 1 ≤ n → gtI p q (isq d) 1
  bq : q.natAbs ≤ Q.natAbs + 2 * (isq d).natAbs * n
  bp : 1 ≤ n → p.natAbs ≤ (isq d).natAbs + Q.natAbs + 2 * (isq d).natAbs * n
structure TrC (n : Nat) (M : Tn) : Prop where
  c : 0 ≤ M.c
  d : 0 ≤ M.d
  c1 : 1 ≤ n → 1 ≤ M.c
  d1 : n = 0 → M.d = 1 ∧ M.c = 0
  det : M.a * M.d - M.b * M.c = sgn n
theorem TrC.next {n : Nat} {M : Tn} {x : Int} (h : TrC n M) (h1 : 1 ≤ n → 1 ≤ x) : TrC (n + 1) (M.next x) := by
  obtain ⟨c, d, c1, d1, det⟩ := h
  have k : 1 ≤ M.c * x + M.d := by
    by_cases hn : n = 0
    · obtain ⟨e1, e2⟩ := d1 hn
      rw [e1, e2, Int.zero_mul]
      omega
    · have z := mul_ge (h1 (by omega)) c
      rw [Int.mul_comm] at z
      have := c1 (by omega)
      omega
  refine ⟨by show 0 ≤ M.c * x + M.d; omega, c, fun _ => k, fun z => by omega, ?_⟩
  rw [sgn_succ, ← det]
  show (M.a * x + M.b) * M.c - M.a * (M.c * x + M.d) = -(M.a * M.d - M.b * M.c)
  grind
def nxP (d p q : Int) : Int := flz p q (isq d) * q - p
def nxQ (d p q : Int) : Int := (d - nxP d p q * nxP d p q).fdiv q
theorem nx_q {d p q : Int} (hq : q ≠ 0) (dv : ∃ q', q * q' = d - p * p) : q * nxQ d p q = d - nxP d p q * nxP d p q := by
  obtain ⟨q', h⟩ := dv
  have e := quot_eq h (show nxP d p q = flz p q (isq d) * q - p from rfl)
  unfold nxQ
  rw [← e, Int.mul_fdiv_cancel_left _ hq]
theorem nx_box {d p q : Int} (hq : q ≠ 0) : (0 < q ∧ nxP d p q ≤ isq d ∧ isq d < nxP d p q + q) ∨ (q < 0 ∧ isq d < nxP d p q ∧ nxP d p q + q ≤ isq d) := by
  unfold nxP
  rcases flz_ok (p := p) (r := isq d) hq with ⟨a, b, c⟩ | ⟨a, b, c⟩
  · rw [Int.add_mul, Int.one_mul] at c
    exact .inl ⟨a, b, by omega⟩
  · rw [Int.add_mul, Int.one_mul] at c
    exact .inr ⟨a, b, by omega⟩
theorem nx_bound {d p q : Int} (hd : 0 ≤ d) (ns : isq d * isq d ≠ d) (hq : q ≠ 0) (dv : ∃ q', q * q' = d - p * p) : (nxP d p q).natAbs ≤ (isq d).natAbs + q.natAbs ∧ (nxQ d p q).natAbs ≤ 2 * (isq d).natAbs + q.natAbs := by
  obtain ⟨r0, r1, r2⟩ := isq_ok hd
  have e := nx_q hq dv
  have b := nx_box (d := d) (p := p) hq
  generalize nxP d p q = p' at *
  generalize nxQ d p q = q' at *
  generalize isq d = r at *
  have pp : p'.natAbs ≤ r.natAbs + q.natAbs := by
    rcases b with ⟨a, b, c⟩ | ⟨a, b, c⟩ <;> omega
  refine ⟨pp, ?_⟩
  obtain ⟨g, g0⟩ := gt_next r0 (by omega) r2 e b
  unfold gtI at g
  rw [Int.one_mul] at g
  rcases b with ⟨a, b, c⟩ | ⟨a, b, c⟩
  · rcases g with ⟨g1, g2⟩ | ⟨g1, g2⟩
    · omega
    · by_cases z : q'.natAbs ≤ q.natAbs
      · omega
      · have k1 : q * (q + 1) ≤ q * -q' := Int.mul_le_mul_of_nonneg_left (by omega) (by omega)
        rw [Int.mul_neg] at k1
        have k2 := sq_le (show 0 ≤ -p' by
          by_cases y : 0 ≤ -p'
          · exact y
          · have s := Int.mul_nonneg (show 0 ≤ r - p' by omega) (show 0 ≤ r + p' by omega)
            rw [dif_sq] at s
            have := prod_pos a (show 0 < q * q' by omega)
            omega) (show -p' ≤ q by omega)
        rw [sq_neg] at k2
        have k3 : q * (q + 1) = q * q + q := by grind
        omega
  · rcases g with ⟨g1, g2⟩ | ⟨g1, g2⟩
    · omega
    · have e1 : -q * q' = p' * p' - d := by rw [Int.neg_mul]; omega
      have s := sq_le (show 0 ≤ r + 1 by omega) (show r + 1 ≤ p' by omega)
      have := prod_pos (q := -q) (by omega) (show 0 < -q * q' by omega)
      omega
theorem flz_one {p q r : Int} (hq : q ≠ 0) (g : gtI p q r 1) : 1 ≤ flz p q r := by
  unfold gtI at g
  rw [Int.one_mul] at g
  have f := flz_ok (p := p) (r := r) hq
  generalize flz p q r = a at *
  by_cases z : 1 ≤ a
  · exact z
  · rcases f with ⟨a1, b, c⟩ | ⟨a1, b, c⟩
    · have := Int.mul_le_mul_of_nonneg_right (show a + 1 ≤ 1 by omega) (show 0 ≤ q by omega)
      omega
    · have := Int.mul_le_mul_of_nonneg_right (show a + 1 ≤ 1 by omega) (show 0 ≤ -q by omega)
      rw [Int.mul_neg, Int.mul_neg] at this
      omega
theorem Irw.step {P d Q p q : Int} {n : Nat} {M : Tn} (hd : 0 ≤ d) (ns : isq d * isq d ≠ d) (h : Irw P d Q n M p q) :
    (1 ≤ n → 1 ≤ flz p q (isq d)) ∧ Irw P d Q (n + 1) (M.next (flz p q (isq d))) (nxP d p q) (nxQ d p q) := by
  obtain ⟨r0, r1, r2⟩ := isq_ok hd
  obtain ⟨q0, dv, h1, h2, gt, bq, bp⟩ := h
  have e := nx_q q0 dv
  obtain ⟨g, g0⟩ := gt_next r0 (by omega) r2 e (nx_box q0)
  obtain ⟨b1, b2⟩ := nx_bound hd ns q0 dv
  obtain ⟨i1, i2⟩ := irw_next (x := flz p q (isq d)) q0 h1 h2 rfl e
  have m : 2 * (isq d).natAbs * (n + 1) = 2 * (isq d).natAbs * n + 2 * (isq d).natAbs := by rw [Nat.mul_add, Nat.mul_one]
  refine ⟨fun hn => flz_one q0 (gt hn), g0, ⟨q, by rw [Int.mul_comm]; exact e⟩, i1, i2, fun _ => g, by omega, fun _ => by omega⟩
/-! ## the row that is walked -/
/-! ## what a beginning of a row is, as the law tells it -/
/-! ## a fraction's -/
/-! ## the row of a fraction is one -/
/-! ## a root made wider -/
end Ab
/-! dicts: displays with keys that are texts or numbers, d[k], k in d; a module's own dict; tuple(range(..)); xs[-1] = v -/
namespace Ab
open PySem PySem.Spec PyProof.Rows L2 Vg
/-! ## a display -/
theorem mergeK_nd : ∀ (more acc : List (Key × V)), ((acc ++ more).map (·.1)).Nodup → L2.mergeK acc more = acc ++ more
  | [], acc, _ => by
    show acc = acc ++ []
    rw [List.append_nil]
  | p :: r, acc, h => by
    show L2.mergeK (putK acc p.1 p.2) r = _
    have e : putK acc p.1 p.2 = acc ++ [p] := by
      unfold putK
      have n : (acc.any fun kv => decide (kv.1 = p.1)) = false := by
        cases q : acc.any fun kv => decide (kv.1 = p.1) with
        | false => rfl
        | true =>
          obtain ⟨x, hx, hd⟩ := List.any_eq_true.mp q
          rw [List.map_append, List.nodup_append] at h
          exact absurd (of_decide_eq_true hd) (h.2.2 _ (List.mem_map_of_mem hx) _ (List.mem_map_of_mem List.mem_cons_self))
      rw [n]
      rfl
    rw [e, mergeK_nd r (acc ++ [p]) (by rw [List.append_assoc]; exact h), List.append_assoc]
    rfl
theorem zip_fst {α β : Type} : ∀ {ks : List α} {xs : List β}, xs.length = ks.length → (ks.zip xs).map (·.1) = ks
  | [], _, _ => rfl
  | k :: ks, [], h => by cases h
  | k :: ks, x :: xs, h => by
    rw [List.zip_cons_cons, List.map_cons, zip_fst (Nat.succ.inj h)]
theorem zip_snd {α β : Type} : ∀ {ks : List α} {xs : List β}, xs.length = ks.length → (ks.zip xs).map (·.2) = xs
  | [], [], _ => rfl
  | [], x :: xs, h => by cases h
  | k :: ks, [], h => by cases h
  | k :: ks, x :: xs, h => by
    rw [List.zip_cons_cons, List.map_cons, zip_snd (Nat.succ.inj h)]
def SaP (K : PySem.W.Frag) (W : WX) (trs : List (TE × TE)) (ks : List Key) (b : AA) : Prop := ∀ O ρ σ H (Q : List (V × V) → Hp → Prop) Kc XX, Ss K O ρ σ H → b O ρ XX Kc →
  (∀ O' cs vs H', Fr O H O' H' → OkO K O' H' → ClsH K (fre O') H' vs cs → vs.length = ks.length → Kc O' cs → Q ((ks.zip vs).map fun kv => (kV kv.1, kv.2)) H') → XOk K O H XX W → tPairs trs σ H Q
structure DDp (X : Cx) (W : WX) (pos : Pos) (keys : List (Option Expr)) (values : List Expr) (ks : List Key) (b : AA) : Prop where
  ex : ∃ trs, PPs X pos keys values trs ∧ SaP X.K W trs ks b
section
variable {X : Cx} {W : WX} {pos : Pos}
theorem dp_nil : DDp X W pos [] [] [] aNil := ⟨_, pps_nil, fun O ρ σ H Q Kc XX S k q x => q O [] [] H (Fr.refl _ _) S.o .nil rfl k⟩
theorem dp_cons {ke ve : Expr} {keys : List (Option Expr)} {values : List Expr} {k : Key} {ks : List Key} {a : AE} {b : AA} (hk : PE X ke (tC (kV k))) (hv : DE X W ve a) (r : DDp X W pos keys values ks b) :
    DDp X W pos (some ke :: keys) (ve :: values) (k :: ks) (aCons a b) := by
  obtain ⟨t, p, s⟩ := hv.ex
  obtain ⟨trs, p2, s2⟩ := r.ex
  refine ⟨_, pps_cons hk p p2, fun O ρ σ H Q Kc XX S kk q x => ?_⟩
  refine s O ρ σ H _ _ XX S kk (fun O1 c v H1 f1 o1 r1 k1 => ?_) x
  refine s2 O1 ρ σ H1 _ _ XX (S.go f1 o1) k1 (fun O2 cs vs H2 f2 o2 r2 hl k2 => ?_) (x.go f1)
  exact q O2 (c :: cs) (v :: vs) H2 (f1.trans f2) o2 (.cons (r1.fr f2) r2) (by rw [List.length_cons, List.length_cons, hl]) k2
end
/-- {k: e, ..} -/
def aDisp (ks : List Key) (b : AA) : AE := fun O ρ XX Kc => ∀ p, b ((p, .dct []) :: O) ρ XX fun O1 cs => ∃ f, Lo O1 p (.dct []) f ∧ Kc (f (.dct (ks.zip cs))) (.at p)
/-! ## d[k], k in d -/
def valC (es : List (Key × Cl)) (k : Key) : Option Cl := (es.find? fun kv => decide (kv.1 = k)).map (·.2)
def aDGet (a b : AE) : AE := fun O ρ XX Kc => a O ρ XX fun O1 c => b O1 ρ XX fun O2 d => ∃ p es k e, c = .at p ∧ d = .dat (kD k) ∧ (p, Ow.dct es) ∈ O2 ∧ valC es k = some e ∧ Kc O2 e
def aDIn (pos : Bool) (a b : AE) : AE := fun O ρ XX Kc => a O ρ XX fun O1 d => b O1 ρ XX fun O2 c => ∃ p es k, c = .at p ∧ d = .dat (kD k) ∧ (p, Ow.dct es) ∈ O2 ∧ Kc O2 (.dat (.bool (if pos then (valC es k).isSome else !(valC es k).isSome)))
section
variable {X : Cx} {W : WX} {a b : Expr} {aa ab : AE} {pos : Pos}
end
/-! ## a dict of the module -/
inductive KdL (K : PySem.W.Frag) : List DictEntry → List (Str × PyData) → Prop
  | nil : KdL K [] []
  | cons {h : Int} {k : Str} {t : Tok} {u : Value} {r : List DictEntry} {d : PyData} {kds : List (Str × PyData)} (hv : Kv K u d) (l : KdL K r kds) : KdL K (⟨h, .str k t, u⟩ :: r) ((k, d) :: kds)
def kdAt (kds : List (Str × PyData)) (z : Str) : Option PyData := (kds.find? fun p => p.1 == z).map (·.2)
structure KdB (w : World) (K : PySem.W.Frag) (a : Addr) (kds : List (Str × PyData)) : Prop where
  ex : ∃ es n, KDict K w a es n ∧ KdL K es.toList kds
structure KdK (w : World) (K : PySem.W.Frag) (x : Str) (kds : List (Str × PyData)) : Prop where
  ex : ∃ a, PySem.W.nsIn K mainGlobals x = some (some (.ref a)) ∧ KdB w K a kds
structure KdIn (w : World) (K : PySem.W.Frag) (mg : Str → Option Value) (x : Str) (kds : List (Str × PyData)) : Prop where
  ex : ∃ a, mg x = some (.ref a) ∧ KdB w K a kds
theorem KdK.by {w : World} {K : PySem.W.Frag} {x : Str} {kds : List (Str × PyData)} {a : Addr} {es : Array DictEntry} {n : Nat} (h : PySem.W.nsIn K mainGlobals x = some (some (.ref a))) (l : K.lookup a = some ⟨.type "dict", none, .dict es n, #[]⟩)
    (k : PySem.W.KeysLit w.params es.toList) (o : (a == sysModules) = false) (v : KdL K es.toList kds) : KdK w K x kds := ⟨a, h, es, n, ⟨l, k, o⟩, v⟩
theorem KdK.at {w : World} {K : PySem.W.Frag} {h : Heap} {mg : Str → Option Value} {x : Str} {kds : List (Str × PyData)} (D : KdK w K x kds) (X : K.In h) (G : h.Ns mainGlobals mg) : KdIn w K mg x kds := by
  obtain ⟨a, e, b⟩ := D.ex
  exact ⟨a, PySem.W.mg_of X G e, b⟩
theorem KdL.any {K : PySem.W.Frag} : ∀ {es : List DictEntry} {kds : List (Str × PyData)}, KdL K es kds → es.any (·.refKey) = false
  | _, _, .nil => rfl
  | _, _, .cons hv l => by
    rw [List.any_cons, KdL.any l]
    rfl
theorem KdL.find {K : PySem.W.Frag} (z : Str) : ∀ {es : List DictEntry} {kds : List (Str × PyData)}, KdL K es kds → (es.find? (·.key.isStr z) = none ∧ kdAt kds z = none) ∨ ∃ e d, es.find? (·.key.isStr z) = some e ∧ kdAt kds z = some d ∧ Kv K e.val d
  | _, _, .nil => .inl ⟨rfl, rfl⟩
  | _, _, .cons (h := h) (k := k) (t := t) (u := u) (r := r) (d := d) (kds := kds) hv l => by
    cases q : k == z with
    | true =>
      refine .inr ⟨⟨h, .str k t, u⟩, d, ?_, ?_, hv⟩
      · rw [List.find?_cons_of_pos (by exact q)]
      · unfold kdAt
        rw [List.find?_cons_of_pos (by exact q)]
        rfl
    | false =>
      have n1 : List.find? (·.key.isStr z) (⟨h, .str k t, u⟩ :: r) = List.find? (·.key.isStr z) r := List.find?_cons_of_neg (by
        show ¬ (k == z) = true
        rw [q]
        simp)
      have n2 : kdAt ((k, d) :: kds) z = kdAt kds z := by
        unfold kdAt
        rw [List.find?_cons_of_neg (by show ¬ (k == z) = true; rw [q]; simp)]
      rw [n1, n2]
      exact KdL.find z l
theorem KdB.ns {w : World} {K : PySem.W.Frag} {a : Addr} {kds : List (Str × PyData)} (B : KdB w K a kds) (z : Str) : ∃ es n, KDict K w a es n ∧
    ((PySem.W.nsIn K a z = some none ∧ kdAt kds z = none) ∨ ∃ u d, PySem.W.nsIn K a z = some (some u) ∧ kdAt kds z = some d ∧ Kv K u d) := by
  obtain ⟨es, n, D, L⟩ := B.ex
  refine ⟨es, n, D, ?_⟩
  unfold PySem.W.nsIn
  rw [D.at_]
  dsimp only
  rcases L.find z with ⟨n1, n2⟩ | ⟨e, d, e1, e2, hv⟩
  · rw [n1, L.any]
    exact .inl ⟨rfl, n2⟩
  · rw [e1]
    exact .inr ⟨_, d, rfl, e2, hv⟩
def aKdIn (pos : Bool) (kds : List (Str × PyData)) : AR1 := fun O c Kc => ∃ z, c = .dat (.str z) ∧ Kc O (.dat (.bool (if pos then (kdAt kds z).isSome else !(kdAt kds z).isSome)))
def aKdGet (kds : List (Str × PyData)) : AR1 := fun O c Kc => ∃ z d, c = .dat (.str z) ∧ kdAt kds z = some d ∧ Kc O (conC d)
section
variable {X : Cx} {W : WX} {a : Expr} {aa : AE} {x : Str} {kds : List (Str × PyData)} {p pos : Pos}
end
/-! ## tuple(range(a, b)) -/
def rgD (a b : Int) : List PyData := (List.range (b - a).toNat).map fun i => PyData.int (a + (i : Nat))
def aTupRg (a b : AE) : AE := fun O ρ XX Kc => a O ρ XX fun O1 c => b O1 ρ XX fun O2 d => ∃ i j, c = .dat (.int i) ∧ d = .dat (.int j) ∧ RgOk i j ∧ Kc O2 (.dat (.tuple (rgD i j)))
section
variable {X : Cx} {W : WX} {a b : Expr} {aa ab : AE} {p q pos pos2 : Pos}
end
/-! ## xs[-1] = v -/
def aSetIx (i : Nat) (n : Int) : AG := fun c O ρ k => ∃ p cs f j, ρ[i]? = some (some (.at p)) ∧ Lo O p (.lst cs) f ∧ ixN cs.length n = some j ∧ k (f (.lst (cs.set j c))) ρ
theorem ClsH.set {K : PySem.W.Frag} {ok : Addr → Prop} {H : Hp} {v : V} {c : Cl} (r : ClH K ok H v c) : ∀ {vs : List V} {cs : List Cl} (j : Nat), ClsH K ok H vs cs → ClsH K ok H (vs.set j v) (cs.set j c)
  | _, _, _, .nil => .nil
  | _, _, 0, .cons _ t => .cons r t
  | _, _, j + 1, .cons h t => .cons h (ClsH.set r j t)
theorem dg_setNeg {X : Cx} {i : Nat} {x : Str} {n : Int} {k : Nat} {px p1 p2 pos : Pos} (hN : X.N[i]? = some x := by rfl) (hv : Vis X.env.scope x := by first | exact Or.inl rfl | exact Or.inr (Or.inl rfl) | exact Or.inr (Or.inr rfl)) (hd : (x == ("__debug__" : Str)) = false := by decide) (hcd : (x == ("__classdict__" : Str)) = false := by decide) :
    DG X (.Subscript (.Name x px) (.UnaryOp .USub (.Constant (.int n) k p1) p2) pos) (aSetIx i (-n)) := by
  refine ⟨_, pg_sub (pe_var hN hv hd hcd) (pe_un un_neg pe_int) set_list (by intro _; rfl), fun O ρ σ H c v kk R S r ⟨p, cs, f, j, e1, lo, hj, k1⟩ q => ?_⟩
  obtain ⟨w, e2, rw'⟩ := S.at_ i _ e1
  have ew := dq_at rw'
  subst ew
  obtain ⟨xs, hx, rs⟩ := S.o.lo lo
  refine ⟨_, e2, n, rfl, p, xs, _, j, rfl, rfl, hx, by rw [rs.len]; exact hj, ?_⟩
  obtain ⟨o3, f3⟩ := S.o.put (u := .lst (xs.set j v)) (w' := .lst (cs.set j c)) lo ⟨_, upd_same, (ClsH.set r j rs).mono (fun b v fb e => by rw [upd_ne fun z => fb _ lo.mem z.symm]; exact e) fun b v fb _ => (lo.fre b).mpr fb⟩
  exact q _ _ _ _ f3 (S.go f3 o3) k1
/-! ## tuples put together, a sign that isn't in a text -/
def aCatT : AR2 := fun O c c' Kc => ∃ ds es : List PyData, c = .dat (.tuple ds) ∧ c' = .dat (.tuple es) ∧ ds.length + es.length ≤ 1000 ∧ Kc O (.dat (.tuple (ds ++ es)))
def aNotSg : AR2 := fun O c c' Kc => ∃ (n : Nat) (z : Str), c = .dat (.str ⟨#[n]⟩) ∧ c' = .dat (.str z) ∧ Kc O (.dat (.bool (!decide (n ∈ z.cps.toList))))
/-! ## the signs of a text, one after another; a <= b of texts -/
def aLeS : AR2 := fun O c c' Kc => ∃ x y : Str, c = .dat (.str x) ∧ c' = .dat (.str y) ∧ Kc O (.dat (.bool (!decide (y.cps.toList < x.cps.toList))))
/-! ## a display as data, that nobody changes -/
def aDispD (ks : List Key) (b : AA) : AE := fun O ρ XX Kc => ∀ p, b ((p, .dct []) :: O) ρ XX fun O1 cs => ∃ R ds, O1 = (p, .dct []) :: R ∧ cs = ds.map Cl.dat ∧ Kc R (.dat (.dict ((ks.map kD).zip ds)))
theorem de_dispD {X : Cx} {W : WX} {pos : Pos} {keys : List (Option Expr)} {values : List Expr} {ks : List Key} {b : AA} (h : DDp X W pos keys values ks b) (hall : keys.all (·.isSome) = true := by rfl) (hl : keys.length = values.length := by rfl)
    (h0 : keys ≠ [] := by simp) (h15 : keys.length ≤ 15 := by decide) (hk : ks.length ≤ 15 := by decide) (nd : ks.Nodup := by decide) : DE X W (.Dict keys values pos) (aDispD ks b) := by
  obtain ⟨trs, p, s⟩ := h.ex
  refine ⟨_, pe_disp p hall hl h0 h15, fun O ρ σ H Q Kc XX S kc q x p hp => ?_⟩
  obtain ⟨o1, f1⟩ := S.o.own (w := .dct []) (u := .dK []) hp ⟨[], upd_same, rfl, .nil⟩
  refine s _ ρ σ _ _ _ XX (S.go f1 o1) (kc p) (fun O2 cs vs H2 f2 o2 r2 hlen ⟨R, ds, eR, ec, k2⟩ => ?_) (x.go f1)
  subst eR ec
  have lo : Lo ((p, Ow.dct []) :: R) p (.dct []) (fun w' => (p, w') :: R) := .here
  obtain ⟨kvs0, hq, hk0, _⟩ := o2.lo lo
  obtain rfl : kvs0 = [] := List.map_eq_nil_iff.mp hk0
  refine ⟨hq, ks.zip vs, rfl, by rw [List.length_zip]; exact Nat.le_trans (Nat.min_le_left _ _) hk, ?_⟩
  rw [mergeK_nd _ [] (by rw [List.nil_append, zip_fst hlen]; exact nd), List.nil_append]
  obtain ⟨o3, f3⟩ := o2.put (u := .dK (ks.zip vs)) (w' := .dct (ks.zip (ds.map Cl.dat))) lo ⟨_, upd_same, by rw [zip_fst hlen, zip_fst (by rw [← hlen, r2.len])], by
    rw [zip_snd hlen, zip_snd (by rw [← hlen, r2.len])]
    exact r2.mono (fun b v fb e => by rw [upd_ne fun z => fb _ lo.mem z.symm]; exact e) fun b v fb _ => (lo.fre b).mpr fb⟩
  have o4 := o3.unown
  have fp : fre R p := fun z hz e => by
    have nd3 := o3.nd
    rw [List.map_cons, List.nodup_cons] at nd3
    exact nd3.1 (List.mem_map.mpr ⟨z, hz, e⟩)
  have f4 : Fr O H R (upd H2 p (.dK (ks.zip vs))) := by
    have g := f1.trans (f2.trans f3)
    exact ⟨g.keep, fun b o hb e => fre_cons (g.free b o hb e), g.dom⟩
  refine q R _ _ _ f4 o4 (.dat (.dct fp upd_same ?_ ?_)) k2
  · rw [zip_fst (by rw [List.length_map]; have := r2.len; rw [List.length_map] at this; omega)]
    have z : ((ks.zip vs).map (·.1)).map kD = ks.map kD := by rw [zip_fst hlen]
    rw [List.map_map] at z
    exact z
  · rw [zip_snd hlen, zip_snd (by rw [List.length_map]; have := r2.len; rw [List.length_map] at this; omega)]
    refine ClsH.undat ((r2.mono (fun b v fb e => ?_) fun b v fb _ => fre_cons fb))
    rw [upd_ne fun z => fb _ (List.mem_cons_self ..) z.symm]
    exact e
def dGet (es : List (PyData × PyData)) (z : Str) : Option PyData := (es.find? fun p => match p.1 with | .str y => y == z | _ => false).map (·.2)
theorem dGet_v {ok : Addr → Prop} {H : Hp} (z : Str) : ∀ {kvs : List (Key × V)} {es : List (PyData × PyData)}, kvs.map (fun kv => kD kv.1) = es.map (·.1) → DqL ok H (kvs.map (·.2)) (es.map (·.2)) →
    (dGet es z = none ∧ valV kvs (.inr z) = none) ∨ ∃ d v, dGet es z = some d ∧ valV kvs (.inr z) = some v ∧ Dq ok H v d
  | [], [], _, _ => .inl ⟨rfl, rfl⟩
  | [], _ :: _, h, _ => by cases h
  | _ :: _, [], h, _ => by cases h
  | p :: kvs, e :: es, h, r => by
    rw [List.map_cons, List.map_cons] at h r
    injection h with h1 h2
    obtain ⟨pk, pv⟩ := p
    obtain ⟨e1, e2⟩ := e
    cases r with
    | cons r1 r2 =>
      by_cases q : pk = .inr z
      · subst q
        obtain rfl : e1 = .str z := h1.symm
        refine .inr ⟨e2, pv, ?_, valV_pos rfl, r1⟩
        unfold dGet
        rw [List.find?_cons_of_pos (by show (z == z) = true; exact beq_self_eq_true z)]
        rfl
      · have n1 : valV ((pk, pv) :: kvs) (.inr z) = valV kvs (.inr z) := valV_neg q
        have n2 : dGet ((e1, e2) :: es) z = dGet es z := by
          unfold dGet
          rw [List.find?_cons_of_neg ?_]
          have h1 : kD pk = e1 := h1
          subst h1
          cases pk with
          | inl i => simp [kD]
          | inr y =>
            show ¬ (y == z) = true
            intro h
            exact q (by rw [eq_of_beq h])
        rw [n1, n2]
        exact dGet_v z h2 r2
def aDGetD (a b : AE) : AE := fun O ρ XX Kc => a O ρ XX fun O1 c => b O1 ρ XX fun O2 d => ∃ es z e, c = .dat (.dict es) ∧ d = .dat (.str z) ∧ dGet es z = some e ∧ Kc O2 (.dat e)
def aDInD (pos : Bool) (a b : AE) : AE := fun O ρ XX Kc => a O ρ XX fun O1 d => b O1 ρ XX fun O2 c => ∃ es z, c = .dat (.dict es) ∧ d = .dat (.str z) ∧ Kc O2 (.dat (.bool (if pos then (dGet es z).isSome else !(dGet es z).isSome)))
section
variable {X : Cx} {W : WX} {a b : Expr} {aa ab : AE} {pos : Pos}
theorem de_dgetD (hu : X.A.units + 64 < cLine) (ha : DE X W a aa) (hb : DE X W b ab) (hs : NoSl b := by intro _ _; rfl) : DE X W (.Subscript a b pos) (aDGetD aa ab) := by
  obtain ⟨t, p, s⟩ := ha.ex
  obtain ⟨u, p2, s2⟩ := hb.ex
  refine ⟨_, pe_dget (by omega) p p2 hs, fun O ρ σ H Q Kc XX S k q x => ?_⟩
  refine s O ρ σ H _ _ XX S k (fun O1 c v H1 f1 o1 r1 k1 => ?_) x
  refine s2 O1 ρ σ H1 _ _ XX (S.go f1 o1) k1 (fun O2 d w H2 f2 o2 r2 ⟨es, z, e, ec, ed, hv, k2⟩ => ?_) (x.go f1)
  subst ec ed
  have ew := dq_str r2
  subst ew
  cases r1.fr f2 with
  | dat h => cases h with
    | dct o h hk r =>
      rcases dGet_v z hk r with ⟨n, _⟩ | ⟨d', v', e1, e2, r3⟩
      · rw [n] at hv
        cases hv
      · rw [e1] at hv
        cases hv
        exact ⟨_, v', rfl, by have y := DGet.k (k := .inr z) h; rw [e2] at y; exact y, q O2 _ _ H2 (f1.trans f2) o2 (.dat r3) k2⟩
end
end Ab
/-! owned things by membership alone -/
namespace Ab
open PySem PySem.Spec PyProof.Rows L2 Vg
theorem lo_keep {O : Ob} {a : Addr} {w w' : Ow} {f : Ow → Ob} (h : Ab.Lo O a w f) : ∀ x ∈ O, x ≠ (a, w) → x ∈ f w' := by
  induction h with
  | here =>
    intro x hx hn
    rcases List.mem_cons.mp hx with e | e
    · exact absurd e hn
    · exact List.mem_cons_of_mem _ e
  | there h ih =>
    intro x hx hn
    rcases List.mem_cons.mp hx with e | e
    · subst e; exact List.mem_cons_self
    · exact List.mem_cons_of_mem _ (ih x e hn)
/-- lists and objects stay -/
structure Kp (O O2 : Ob) : Prop where
  l : ∀ p cs, (p, Ow.lst cs) ∈ O → (p, Ow.lst cs) ∈ O2
  i : ∀ a x fs, (a, Ow.ins x fs) ∈ O → (a, Ow.ins x fs) ∈ O2
  d : ∀ a es, (a, Ow.dct es) ∈ O → (a, Ow.dct es) ∈ O2
theorem Kp.refl (O : Ob) : Kp O O := ⟨fun _ _ h => h, fun _ _ _ h => h, fun _ _ h => h⟩
theorem Kp.trans {O O1 O2 : Ob} (h : Kp O O1) (k : Kp O1 O2) : Kp O O2 := ⟨fun p cs m => k.l p cs (h.l p cs m), fun a x fs m => k.i a x fs (h.i a x fs m), fun a es m => k.d a es (h.d a es m)⟩
theorem Kp.sub {O O2 : Ob} (h : ∀ x ∈ O, x ∈ O2) : Kp O O2 := ⟨fun p cs m => h _ m, fun a x fs m => h _ m, fun a es m => h _ m⟩
theorem Kp.pur {O : Ob} {p : Addr} {n n' : Nat} {f : Ow → Ob} (lo : Ab.Lo O p (.pur n) f) : Kp O (f (.pur n')) := ⟨fun p cs m => lo_keep lo _ m fun z => (by cases z), fun a x fs m => lo_keep lo _ m fun z => (by cases z), fun a es m => lo_keep lo _ m fun z => (by cases z)⟩
theorem Kp.app (O X : Ob) : Kp O (X ++ O) := Kp.sub fun x hx => List.mem_append_right _ hx
theorem Kp.cons (O : Ob) (x : Addr × Ow) : Kp O (x :: O) := Kp.sub fun y hy => List.mem_cons_of_mem _ hy
/-! ## == () -/
section
variable {X : Cx} {K : PySem.W.Frag}
def aEqT0 : AR2 := fun O c c' Kc => ∃ cs, ElsT c cs ∧ c' = .dat (.tuple []) ∧ Kc O (.dat (.bool cs.isEmpty))
theorem w_eqT0 {O : Ob} {ds : List PyData} {Kc : KC} : aEqT0 O (.dat (.tuple ds)) (.dat (.tuple [])) Kc ↔ Kc O (.dat (.bool ds.isEmpty)) := by
  constructor
  · rintro ⟨cs, h, _, k⟩
    cases h
    cases ds <;> exact k
  · intro k
    exact ⟨_, .dat ds, rfl, by cases ds <;> exact k⟩
end
end Ab
/-! numbers in texts and back; joining and splitting; a comprehension over two that makes a list -/
namespace Ab
open PySem PySem.Spec PyProof.Rows L2 Vg
open TL (numL tl_num numL_digits numL_ne numL_lt numL_step numL_len numL_val)
/-! ## joined and split -/
/-! ## str(text) -/
def bStrS : AB := fun O cs Kc => ∃ z : Str, cs = [.dat (.str z)] ∧ Kc O (.dat (.str z))
end Ab
/-! any(..) of truths, comprehensions of two clauses, the corners of forms -/
namespace Ab
open PySem PySem.Spec PyProof.Rows L2 Vg
section
variable {K : PySem.W.Frag} {W : WX}
/-- any(..) of a list of truths -/
def bAny : AB := fun O cs Kc => ∃ c bs, cs = [c] ∧ Els O c ((bs : List Bool).map fun b => .dat (.bool b)) ∧ Kc O (.dat (.bool (bs.any id)))
/-! ## [elt for x in it for y in it1] -/
end
/-! ## a block within a block -/
section
variable {X : Cx} {W : WX}
end
section
variable {O : Ob} {ρ : Rho} {XX : XC} {a b : AE} {c d : Cl}
end
/-! ## a call without arguments -/
/-! ## x = y = e -/
section
variable {X : Cx} {W : WX}
end
section
variable {O : Ob} {ρ : Rho} {XX : XC} {a b : AE} {c d : Cl}
/-- what an iterator runs over, whatever stands beside -/
def ItP (it : AIt) (O : Ob) (ρ : Rho) (XX : XC) (es : List Cl) : Prop := ∀ Kc' : Ob → List Cl → (Ob → Prop) → Prop, (∀ St : Ob → Prop, (∀ O2, St O2) → Kc' O es St) → it O ρ XX Kc'
theorem ItP.s {it : AIt} {es : List Cl} (h : ItP it O ρ XX es) : ItS it O ρ XX es := fun K k => h K fun St hs => k St fun x => hs _
end
end Ab
/-! a dict against a tuple -/
namespace Ab
open PySem PySem.Spec PyProof.Rows L2 Vg PySem.SeqAt
section
variable {X : Cx} {K : PySem.W.Frag}
end
/-! ## t[::-1] of a tuple -/
section
open HT
variable {prog : Program} {w : World} {A : Around} {E : Value → Shared → Prop} {s : Shared}
end
section
variable {X : Cx}
end
end Ab
/-! own errors over KeyError: its __new__ is LookupError's, its __init__ its own -/
namespace Ab
open PySem PySem.HandSPX
abbrev keyTl : List Value := [.type "KeyError", .type "LookupError", .type "Exception", .type "BaseException", .type "object"]
theorem store_Key : StoreFacts "KeyError" keyTl "object.__setattr__" "object" where
  mro := by kernel_rfl
  slot := .of (owner := "object") (n := "__setattr__") (by rw [typeLookup_type, builtinLookup_eq_fast]; kernel_rfl) (by decide +kernel) (by decide +kernel) (by decide +kernel) (by first | exact .inl (by decide +kernel) | exact .inr (by decide +kernel)) (by rw [isSubtype_type]; kernel_rfl)
  entry := PySem.F.entry_object_sa
  kind := by decide +kernel
  split := by decide +kernel
  hasOwner := by decide +kernel
  args := fun a b c => by unfold argsOk; kernel_rfl
  passes := fun self => by kernel_rfl
section
variable {M : Model} {A : Around} {E : Value → Shared → Prop} {h : Heap} {g : Array GenState} {d : Drawn} {t : Nat} {os : OsState}
variable {nm q : Str} {C N : Addr} {bs bm bmB : List Value} {hdct : Bool} {sn : List Str} {sub : List Value} {ab : Bool} {col : Option Bool} {dd : Option Addr} {k0 k1 k2 k3 k5 : Option Value} {B newId initId : String}
/-- what a class under B that is made by B's own __new__ knows of its bases -/
structure Under (B : String) (C : Addr) (bm : List Value) : Prop where
  b : (Value.ref C :: bm).contains (.type B) = true
  a : (Value.ref C :: bm).contains (.type "AttributeError") = false
  n : (Value.ref C :: bm).contains (.type "NameError") = false
theorem Under.key (hT : ∀ X : String, bm.contains (.type X) = keyTl.contains (.type X)) : Under "LookupError" C bm where
  b := by rw [List.contains_cons, hT]; rfl
  a := by rw [List.contains_cons, hT]; rfl
  n := by rw [List.contains_cons, hT]; rfl
theorem under_check (F : ExcBaseFacts B newId initId bmB) (U : Under B C bm) {rest : List Value} {Q : Unit → Shared → Prop} (hC : h.get? C = some (excClassObj nm q C N bs bm hdct sn sub ab col dd k0 k1 k2 k3 k5 newId)) (hq : Q () ⟨h, g, d, t, os⟩) :
    wpAny M A (checkBuiltinCall newId ⟨.ref C :: rest, []⟩) Q E ⟨h, g, d, t, os⟩ := by
  have hcont := U.b
  have hstar := F.noStar
  simp only [checkBuiltinCall, F.newKind, F.newSplit, F.newRow]
  repeat (first | refine wpAny_loadPart_at hC ?_ | (refine wpAny_isSubtype_exc hC ?_; rw [hcont]) | refine wpAny_staticBase_exc hC ?_ | refine wpAny_madeBy_exc hC ?_ | simp only [bne_self_eq_false, Bool.false_eq_true, if_false] | wp_step)
  exact hq
end
section
variable {prog : Program} {w : World} {A : Around} {E : Value → Shared → Prop} {R : Result → Shared → Prop} {h : Heap} {g : Array GenState} {d : Drawn} {t : Nat} {os : OsState}
variable {nm q : Str} {C N : Addr} {bs bm bmB : List Value} {hdct : Bool} {sn : List Str} {sub : List Value} {ab : Bool} {col : Option Bool} {dd : Option Addr} {k0 k1 k2 k3 k5 : Option Value} {B newId initId : String}
theorem under_new (F : ExcBaseFacts B newId initId bmB) (U : Under B C bm) {rest : List Value} (hrest : rest.length ≤ sizeLine) (hC : h.get? C = some (excClassObj nm q C N bs bm hdct sn sub ab col dd k0 k1 k2 k3 k5 newId))
    (hq : R (.ok (.ret (.ref (h.objs.size + 1)))) ⟨(h.push (PySem.W.kdv_tup rest)).push (excO C h.objs.size), g, d, t, os⟩) : codeAny (model prog w) A (.builtin newId ⟨.ref C :: rest, []⟩) R ⟨h, g, d, t, os⟩ := by
  have hends := F.ends
  obtain ⟨hcB, hcA, hcN⟩ := U
  refine codeAny_builtinAt F.entry (show _ from ?_)
  unfold Builtin.«BaseException.__new__»
  refine wpAt_bind (show wpAt _ _ _ (stack >>= _) _ _ _ from wpAt_bind (wpAt_stack fun p below => wpAt_of_wpAny ?_))
  wp_walk
  rw [F.owner]
  refine wpAt_of_wpAny ?_
  repeat (first | with_reducible refine wpAny_madeHere_exc F.canon hC ?_ | with_reducible refine wpAny_loadPart_at hC ?_ | (with_reducible refine wpAny_isSubtype_exc hC ?_; first | rw [hcB] | rw [hcA] | rw [hcN]) | wp_step)
  show R _ _
  rw [Heap.size_push]
  exact hq
theorem under_call (F : ExcBaseFacts B newId initId bmB) (U : Under B C bm) {rest : List Value} {fI : Addr} (hC : h.get? C = some (excClassObj nm q C N bs bm hdct sn sub ab col dd k0 k1 k2 k3 k5 newId))
    (hi : PySem.W.Looks (model prog w) h (typeLookup (.ref C) "__init__") (some (.ref fI))) (hb : ∀ self, PySem.W.Looks (model prog w) h (bindSpecial (.ref fI) self) (.ref fI, [self])) (hrest : rest.length ≤ sizeLine)
    (hq : codeAny (model prog w) (A.under (.builtin "type.__call__" ⟨.ref C :: rest, []⟩)) (.call (.ref fI) ⟨.ref (h.objs.size + 1) :: rest, []⟩) (PySem.W.InitBack (h.objs.size + 1) R) ⟨(h.push (PySem.W.kdv_tup rest)).push (excO C h.objs.size), g, d, t, os⟩) :
    codeAny (model prog w) A (.call (.ref C) ⟨rest, []⟩) R ⟨h, g, d, t, os⟩ := by
  have f1 := tc_lookup
  have f2 := tc_bind (.ref C)
  have hTy : (⟨h, g, d, t, os⟩ : Shared).TypeIs (.ref C) "type" := ⟨_, hC, rfl⟩
  have typ : ∀ {A : Around} {Q : Fin → Shared → Prop} {E : Value → Shared → Prop}, codeAny (model prog w) A (.call (.ref fI) ⟨.ref (h.objs.size + 1) :: rest, []⟩)
      (fun r s' => match r with | .ok (.ret v) => v = .none ∧ Q (.done (.ret (.ref (h.objs.size + 1)))) s' | .ok _ => False | .error e => E e s') ⟨(h.push (PySem.W.kdv_tup rest)).push (excO C h.objs.size), g, d, t, os⟩ →
      wpAny (model prog w) A (Builtin.«type.__call__» ⟨.ref C :: rest, []⟩) Q E ⟨h, g, d, t, os⟩ := by
    intro A Q E hq
    repeat (first | with_reducible refine wpAny_loadPart_at hC ?_ | with_reducible refine wpAny_madeBy_exc hC ?_ | wp_step)
    refine codeAny_call_builtin_code (Code.quiet_builtin _ F.quiet) (under_check F U hC (under_new F U hrest hC ?_))
    show wpAny _ _ _ _ _ _
    have k : ∀ b o, h.get? b = some o → ((h.push (PySem.W.kdv_tup rest)).push (excO C h.objs.size)).get? b = some o := fun b o e => Heap.get?_push_of_some _ (Heap.get?_push_of_some _ e)
    have hC₁ := k _ _ hC
    have hget : ((h.push (PySem.W.kdv_tup rest)).push (excO C h.objs.size)).get? (h.objs.size + 1) = some (excO C h.objs.size) := by heap_get
    have hcC : (Value.ref C :: bm).contains (.ref C) = true := by simp
    unfold isInstance
    repeat (first | with_reducible refine wpAny_loadPart_at hget ?_ | (with_reducible refine wpAny_isSubtype_exc hC₁ ?_; rw [hcC]) | wp_step)
    show wpAny _ _ (typeLookup (.ref C) _) _ _ _
    refine (hi.keeps k).at (wpAny_holding (wpAny_bind (((hb (.ref (h.objs.size + 1))).keeps k).at (wpAny_bind (wpAny_call (codeAny_mono hq fun r s' z => ?_))))))
    rcases r with e | (v | _ | _ | _) <;> first | exact z | exact z.elim | skip
    obtain ⟨rfl, z⟩ := z
    first | exact wpAny_pure (wpAny_pure z) | (wp_walk; exact z)
  refine codeAny_of_tree (show wpAny _ _ (callAny (.ref C) _) _ _ _ from ?_)
  repeat (any_goals (first | assumption | with_reducible refine wpAny_loadPart_at hC ?_ | wp_step))
  refine ⟨rfl, codeAny_call_builtin_at (Code.quiet_builtin _ (by decide +kernel)) entry_typeCall (wpAny_check_type_call_sub hC (typ (codeAny_mono hq fun r s' z => ?_)))⟩
  rcases r with e | (v | _ | _ | _) <;> exact z
/-- KeyError.__init__(e, ..) -/
theorem key_init (hT : ∀ X : String, bm.contains (.type X) = keyTl.contains (.type X)) {e t0 : Addr} {rest : List Value} (hC : h.get? C = some (excClassObj nm q C N bs bm hdct sn sub ab col dd k0 k1 k2 k3 k5 newId)) (he : h.get? e = some (excO C t0)) (hrest : rest.length ≤ sizeLine)
    (hq : ∀ h' t1, (∀ b o, b ≠ e → h.get? b = some o → h'.get? b = some o) → h'.get? e = some (excO C t1) → R (.ok (.ret .none)) ⟨h', g, d, t, os⟩) : codeAny (model prog w) A (.call (.builtin "KeyError.__init__") ⟨.ref e :: rest, []⟩) R ⟨h, g, d, t, os⟩ := by
  have F := PyProof.Rows.excClass_KeyError
  refine codeAny_call_builtin F.init.plain F.initEntry ?_
  have chk : ∀ {M : Model} {A : Around} {Q : Unit → Shared → Prop} {E : Value → Shared → Prop}, Q () ⟨h, g, d, t, os⟩ → wpAny M A (checkBuiltinCall "KeyError.__init__" ⟨.ref e :: rest, []⟩) Q E ⟨h, g, d, t, os⟩ := by
    intro M A Q E hq
    have hcB : (Value.ref C :: bm).contains (.type "KeyError") = true := by rw [List.contains_cons, hT]; rfl
    simp only [checkBuiltinCall, F.initKind, F.initSplit, F.initSig]
    repeat (first | with_reducible refine wpAny_loadPart_at he ?_ | with_reducible refine wpAny_loadPart_at hC ?_ | (with_reducible refine wpAny_isSubtype_exc hC ?_; rw [hcB]) | wp_step)
    have star : ∀ (a b : String) (n : Nat), Bind.check ⟨.positional, "*", "KeyError", .self, [⟨"args", .varPos, false⟩]⟩ a b n [] = pure () := fun _ _ _ => check_star_args _ _ _ _ _ _
    refine wpAny_onRaise ?_
    show wpAny _ _ (Bind.check ⟨.positional, "*", "KeyError", .self, [⟨"args", .varPos, false⟩]⟩ _ _ _ []) _ _ _
    rw [star]
    exact wpAny_pure hq
  refine chk ?_
  wp_walk
  refine hq _ h.objs.size (fun b o hb ho => ?_) ?_
  · rw [Heap.get?_update_other _ _ (Ne.symm hb)]
    exact Heap.get?_push_of_some _ ho
  · rw [Heap.get?_update_self _ (Heap.get?_push_of_some _ he) rfl]
    rfl
end
end Ab
namespace Ab
open PySem PySem.Spec PyProof.Rows L2 Vg
/-- what the written part says of an own class of errors over KeyError -/
structure OexK (K : PySem.W.Frag) (C : Addr) : Prop where
  ini : PySem.W.excInitIn K C keyTl "LookupError.__new__" = true
  ov : PySem.W.excOver K C keyTl = true
  hd : PySem.W.hasDictIn K C = true
  sa : PySem.W.findIn K (.ref C) "__setattr__" = some (some (.builtin "object.__setattr__"))
  exC : PySem.W.subIn K (.ref C) (.type "BaseException") = some true
  tyC : PySem.W.typeIn K (.ref C) = some (.type "type")
  kC : PySem.W.keepIn K (.ref C) = true
section
variable {X : Cx} {pins : List (Addr × Obj)} {σ : L2.St} {H : Hp} {s : Shared} {a C : Addr} {f : Str} {y : V} {u : Value} {A : Around} {E : Value → Shared → Prop}
/-- self.f = y on an error that has no dict as yet -/
theorem set_newK {Q : Unit → Shared → Prop} (T : OexK X.K C) (I : Inv X pins σ H s) (e : H a = some (exo a C none)) (hno : PySem.W.takerIn X.K C f = some none) (ry : RelV y u)
    (h : ∀ dx s', H dx = none → dx ≠ a → Inv X pins σ (upd (upd H dx (exd dx [(f, y)])) a (exo a C (some dx))) s' → Q () s') : wpAny (model X.prog X.w) A (setAttr (.ref a) f u) Q E s := by
  obtain ⟨t1, ho⟩ := exo_at I.hok e
  obtain ⟨cd, hc, hdd⟩ := PySem.W.any_some T.hd
  obtain ⟨hp, g, dr, tk, os⟩ := s
  have inst : PySem.W.InstAt hp a { cls := .ref C, dict := none, data := .fields #[.ref t1, .none, .none, .none, .bool false, .none] } C none := ⟨ho, rfl, rfl, trivial⟩
  refine PySem.W.set_plain I.kIn inst T.sa (PySem.W.osa_openX store_Key I.kIn inst T.ov hno fun _ => ?_)
  refine wpAny_bind (wpAny_pure (wpAny_bind (PySem.W.instanceDict_exc ho (PySem.W.looks_clsIn I.kIn hc) hdd ?_)))
  have nw : H hp.objs.size = none := I.hok.fresh (Nat.le_refl _)
  have na : hp.objs.size ≠ a := fun z => by rw [z, e] at nw; cases nw
  -- the dict is laid
  have g1 : ∀ b o, hp.get? b = some o → (hp.push (PySem.W.dictOf [] 0)).get? b = some o := fun b o q => Heap.get?_push_of_some _ q
  have gd : (hp.push (PySem.W.dictOf [] 0)).get? hp.objs.size = some (PySem.W.dictOf [] 0) := Heap.get?_push_at rfl rfl
  have ns0 : (hp.push (PySem.W.dictOf [] 0)).Ns hp.objs.size (fun _ => none) := ⟨_, #[], _, gd, rfl, fun x hx => absurd hx (by simp), fun _ => rfl⟩
  have I1 : Inv X pins σ (upd H hp.objs.size (exd hp.objs.size [])) ⟨hp.push (PySem.W.dictOf [] 0), g, dr, tk + 1, os⟩ :=
    I.laid (t' := tk + 1) g1 (Nat.le_refl _) (exd_ok (Heap.Ns1.of_empty ns0) fun _ => True.intro)
  -- the object bears it
  have ha := g1 _ _ ho
  have e1 : upd H hp.objs.size (exd hp.objs.size []) a = some (exo a C none) := by rw [upd_ne na.symm]; exact e
  have g2 : ∀ b o, b ≠ a → (hp.push (PySem.W.dictOf [] 0)).get? b = some o → ((hp.push (PySem.W.dictOf [] 0)).update a fun o => { o with dict := some hp.objs.size }).get? b = some o := fun b o hb q => by
    rw [Heap.get?_update_other _ _ (Ne.symm hb)]; exact q
  have ha2 : ((hp.push (PySem.W.dictOf [] 0)).update a fun o => { o with dict := some hp.objs.size }).get? a = some { cls := .ref C, dict := some hp.objs.size, data := .fields #[.ref t1, .none, .none, .none, .bool false, .none] } := Heap.get?_update_self _ ha rfl
  have I2 : Inv X pins σ (upd (upd H hp.objs.size (exd hp.objs.size [])) a (exo a C (some hp.objs.size))) ⟨(hp.push (PySem.W.dictOf [] 0)).update a fun o => { o with dict := some hp.objs.size }, g, dr, tk + 1, os⟩ :=
    I1.write (t' := tk + 1) (x := a) (e := a) (by rw [e1]; exact True.intro) (.inl rfl) g2 ⟨_, ha2⟩ (exo_ok ha2)
  -- the field is put
  have ns2 : ((hp.push (PySem.W.dictOf [] 0)).update a fun o => { o with dict := some hp.objs.size }).Ns hp.objs.size (fun _ => none) := ⟨_, #[], _, g2 _ _ na gd, rfl, fun x hx => absurd hx (by simp), fun _ => rfl⟩
  refine PySem.HandSPX.store_in_new ns2 fun h3 t3 n3 sb => ?_
  have e2 : upd (upd H hp.objs.size (exd hp.objs.size [])) a (exo a C (some hp.objs.size)) hp.objs.size = some (exd hp.objs.size []) := by rw [upd_ne na, upd_same]
  have there : ∃ o, h3.get? hp.objs.size = some o := by
    obtain ⟨o, _, _, q, _⟩ := n3
    exact ⟨o, q⟩
  have I3 := I2.write (t' := t3) (x := hp.objs.size) (e := hp.objs.size) (o := exd hp.objs.size [(f, y)]) (by rw [e2]; exact True.intro) (.inl rfl) (fun b o hb q => (sb.2 b hb).trans q) there (exd_ok n3 (relO_put (fs := []) ry fun _ => True.intro))
  have eH : upd (upd (upd H hp.objs.size (exd hp.objs.size [])) a (exo a C (some hp.objs.size))) hp.objs.size (exd hp.objs.size [(f, y)]) = upd (upd H hp.objs.size (exd hp.objs.size [(f, y)])) a (exo a C (some hp.objs.size)) := by
    funext b
    by_cases hb : b = hp.objs.size
    · rw [hb, upd_same, upd_ne na, upd_same]
    · rw [upd_ne hb]
      by_cases hc : b = a
      · rw [hc, upd_same, upd_same]
      · rw [upd_ne hc, upd_ne hb, upd_ne hc, upd_ne hb]
  rw [eH] at I3
  exact h _ _ nw na I3
/-- the builtin's __init__ -/
theorem init_K {us : List Value} {Q : Value → Shared → Prop} (T : OexK X.K C) (I : Inv X pins σ H s) (e : H a = some (exo a C none)) (hl : us.length ≤ sizeLine) (h : ∀ s', Inv X pins σ H s' → Q .none s') :
    wpAny (model X.prog X.w) A (call (.builtin "KeyError.__init__") (.ref a :: us)) Q E s := by
  obtain ⟨_, _, _, _, _, _, _, _, _, _, _, _, _, _, _, _, hC, hT⟩ := PySem.W.excInit_of I.kIn T.ini
  obtain ⟨t1, ho⟩ := exo_at I.hok e
  obtain ⟨hp, g, dr, tk, os⟩ := s
  refine wpAny_call (key_init hT hC ho hl fun h2 t2 kp hx => ?_)
  have J : Inv X pins σ (upd H a (exo a C none)) ⟨h2, g, dr, tk, os⟩ := I.write (t' := tk) (x := a) (e := a) (by rw [e]; exact True.intro) (.inl rfl) kp ⟨_, hx⟩ (exo_ok hx)
  rw [upd_self e] at J
  exact h _ J
end
/-! ## readings -/
/-- LookupError.__init__(self, ..) -/
def tKeI (K : PySem.W.Frag) (ta : TA) : TE := fun σ H Q => ta σ H fun vs H1 => ∃ (a C : Addr) (ws : List V), vs = .ref a :: ws ∧ ws.length ≤ 1000 ∧ OexK K C ∧ H1 a = some (exo a C none) ∧ Q .non H1
theorem typ_KE : typeOf (.type "KeyError") = pure (.type "type") := by kernel_rfl
section
variable {X : Cx} {o e : Expr} {es : List Expr} {to te : TE} {ta : TA} {f : Str} {p p' p1 p2 pos : Pos} {C : Addr} {B nI iI : String} {tl : List Value}
theorem pe_keinit {pl : Sem Bool} (hg : Gl X "KeyError") (hm : X.mg "KeyError" = none) (vL : PySem.W.findCls X.K (.type "KeyError") (.type "type") "__init__" = some (.val (.builtin "KeyError.__init__"))) (ha : PA X (e :: es) ta)
    (hc : eval (.Call (.Attribute (.Name "KeyError" p1) "__init__" p2) (e :: es) [] pos) X.env = (do
      let cls ← eval (.Name "KeyError" p1) X.env
      standAt p2.atName
      let (fn, one) ← holding [cls] (getMethod cls "__init__" pl)
      callWith pos fn one (backTo pos (starEach (e :: es) X.env)) (backToKw pos (keywordEach [] X.env))) := by rfl)
    (he : starEach (e :: es) X.env = (false, eval e X.env) :: starEach es X.env := by rfl) (hpl : (backTo pos (starEach es X.env)).any (·.1) = false := by rfl) :
    PE X (.Call (.Attribute (.Name "KeyError" p1) "__init__" p2) (e :: es) [] pos) (tKeI X.K ta) := by
  refine ⟨fun pins s σ H Q I h => PySem.W.methodCall_KW (ld_blt I hg hm PyProof.Rows.Boot.«KeyError» ?_ (by decide) (by decide)) hc⟩
  obtain ⟨m, fr⟩ := I.fr
  refine PySem.W.method_type fr I.ok.mod.kin typ_KE (by decide +kernel) vL (by decide +kernel) ?_
  refine PyProof.Rows.callWith_method1 (thn (ha.run pos pins _ σ H _ (I.tok _) h) fun us s1 hq => ?_) he hpl
  obtain ⟨vs, H1, J, rv, a, C, ws, ev, hl, T, ea, q⟩ := hq
  subst ev
  cases rv with
  | @cons _ u0 _ ur r0 rw' =>
    have eu : u0 = Value.ref a := r0
    subst eu
    exact init_K T J ea (by rw [← Paired.length rw', sizeLine_eq]; omega) fun s' J' => ⟨.non, H1, J', rfl, q⟩
/-- self.f = e, the only one -/
def tSetK (K : PySem.W.Frag) (f : Str) (to te : TE) : TS := fun D σ H => te σ H fun y H1 => to σ H1 fun x H2 => ∃ a C : Addr, x = .ref a ∧ (OexK K C) ∧ PySem.W.takerIn K C f = some none ∧
  H2 a = some (exo a C none) ∧ ∀ dx, H2 dx = none → dx ≠ a → D.nx σ (upd (upd H2 dx (exd dx [(f, y)])) a (exo a C (some dx)))
theorem ps_setK (ho : PE X o to) (he : PE X e te) (hs : swapsWith e (some (.Attribute o f p')) pos.line X.env = pure false := by rfl) : PS X (.Assign [.Attribute o f p'] e pos) (tSetK X.K f to te) :=
  ⟨fun pins s σ H D I h => plainObj_wpAny_Assign_Attribute (thn (he.run pins s σ H _ I h) fun v s1 ⟨y, H1, I1, r1, q1⟩ => thn (ho.run pins s1 σ H1 _ I1 q1) fun u s2 ⟨x, H2, I2, r2, a, C, ex, T, hno, ea, q⟩ => by
    subst ex
    have eu : u = Value.ref a := r2
    subst eu
    exact set_newK T I2 ea hno r1 fun dx s' n ne J => ⟨σ, _, J, q dx n ne⟩) hs⟩
/-- C(e, ..), C's own __init__ keeping sp -/
theorem pmk_K {CX : CXT} {x : Str} {fI : Addr} {k : Nat} {fd : FuncData} {ps : List Str} {sp : Sp} (T : OexK X.K C) (iC : PySem.W.findIn X.K (.ref C) "__init__" = some (some (.ref fI))) (tI : PySem.W.typeIn X.K (.ref fI) = some (.type "function"))
    (F1 : FnOk X.prog X.w X.K X.mg X.base CX k fI fd ps sp) (hr : Room (k + 1) X.A) (hb : Binds X.K fd ps []) (hx : Passes CX X (fun _ _ _ => False)) (hg : Gl X x) (hm : X.mg x = some (.ref C)) (ha : PA X (e :: es) ta)
    (hdb : (x == ("__debug__" : Str)) = false := by decide) (he : starEach (e :: es) X.env = (false, eval e X.env) :: starEach es X.env := by rfl) (hpl : (backTo pos (starEach es X.env)).any (·.1) = false := by rfl) :
    PMk X (.Call (.Name x p) (e :: es) [] pos) (tMkO C sp [] ta) := by
  intro pins s σ H Q I h
  refine wpAny_Call_Name_kw (ld_glob I hg hm ?_ hdb)
  refine PySem.W.callWith_K (h₀ := X.base) I.ok.mod.kin T.kC (thn (ha.run pos pins s σ H _ I h) fun us s1 ⟨vs, H1, J, rv, lv, k⟩ => ⟨J.kIn, ?_⟩) he hpl
  change wpAny _ _ (call (Value.ref C) us) _ _ _
  obtain ⟨hp, g, dr, tk, os⟩ := s1
  obtain ⟨_, _, _, _, _, _, _, _, _, _, _, _, _, _, _, _, hC, hT⟩ := PySem.W.excInit_of J.kIn T.ini
  have up : hp.objs.size ≤ hp.objs.size + 1 := Nat.le_succ _
  have q0 := k (hp.objs.size + 1) (J.hok.fresh up)
  rw [List.append_nil] at q0
  have kp : ∀ b o, hp.get? b = some o → ((hp.push (PySem.W.kdv_tup us)).push (PySem.HandSPX.excO C hp.objs.size)).get? b = some o := fun b o z => Heap.get?_push_of_some _ (Heap.get?_push_of_some _ z)
  have at1 : ((hp.push (PySem.W.kdv_tup us)).push (PySem.HandSPX.excO C hp.objs.size)).get? (hp.objs.size + 1) = some (PySem.HandSPX.excO C hp.objs.size) := by heap_get
  have J2 : Inv X pins σ (upd H1 (hp.objs.size + 1) (exo (hp.objs.size + 1) C none)) ⟨(hp.push (PySem.W.kdv_tup us)).push (PySem.HandSPX.excO C hp.objs.size), g, dr, tk, os⟩ := J.laid (t' := tk) kp up (exo_ok at1)
  have rr : Vals (V.ref (hp.objs.size + 1) :: vs) (Value.ref (hp.objs.size + 1) :: us) := .cons rfl rv
  have ll : (Value.ref (hp.objs.size + 1) :: us).length = ps.length := rr.length.symm.trans (F1.len _ _ _ _ q0)
  have bd := hb ⟨(hp.push (PySem.W.kdv_tup us)).push (PySem.HandSPX.excO C hp.objs.size), g, dr, tk, os⟩ (Value.ref (hp.objs.size + 1) :: us) J2.kIn (by rw [List.append_nil]; exact ll)
  rw [List.append_nil] at bd
  have run := F1.run _ X.stack _ _ ⟨Value.ref (hp.objs.size + 1) :: us, []⟩ _ _ _ (fun _ _ _ => False) (hr.make C us []) (J2.env0.make C us []) bd rr q0
  refine wpAny_call (under_call PySem.F.excBase_LookupError (.key hT) hC (PySem.W.looks_findIn J.kIn iC) (fun self => PySem.W.bind_fn J.kIn self tI) (by rw [← Paired.length rv, sizeLine_eq]; omega) (codeAny_mono run fun r s' hq => ?_))
  match r, hq with
  | .error er, hq => exact hx pins σ _ _ er s' J2 hq
  | .ok (.ret u), ⟨v, H2, os2, bare2, un2, hok2, rv2, ev, d, fs, ea, ed, hd1, q2⟩ =>
    subst ev
    exact ⟨rv2, mk_end (raises_own T.exC T.tyC) J up kp un2 hok2 os2 bare2 ea ed hd1 q2⟩
  | .ok .next, hq => exact False.elim hq
  | .ok .brk, hq => exact False.elim hq
  | .ok .cont, hq => exact False.elim hq
end
/-! ## classes over LookupError -/
/-- Lost.__init__ -/
def spKI (K : PySem.W.Frag) : Sp := fun vs H Q _ => ∃ (a C : Addr) (z : Str), vs = [.ref a, .str z] ∧ OexK K C ∧ H a = some (exo a C none) ∧ Q .non H
/-- a class of errors with one field, as the module knows it -/
structure Xky (P : Program) (w : World) (K : PySem.W.Frag) (mg : Str → Option Value) (base : Heap) (x f : Str) : Prop where
  hm : mg x = some (.ref (clsA K x))
  O : OexK K (clsA K x)
  E : ExcC K (clsA K x)
  xf : XfC K (clsA K x)
  no : PySem.W.findIn K (.ref (clsA K x)) f = some none
  init : ∃ (fI : Addr) (fd : FuncData) (ps : List Str), PySem.W.findIn K (.ref (clsA K x)) "__init__" = some (some (.ref fI)) ∧ PySem.W.typeIn K (.ref fI) = some (.type "function") ∧
    Binds K fd ps [] ∧ FnOk P w K mg base CX0 2 fI fd ps (spXI (clsA K x) f)
theorem ps_raisK {X : Cx} {W : WX} {x f : Str} {e : Expr} {te : TE} {p pos pos' : Pos} (R : Xky X.prog X.w X.K X.mg X.base x f) (hr : Room 3 X.A) (hc : X.calm = true) (tk : Takes X W) (hg : Gl X x) (ha : PA X [e] (tCons te tNil))
    (hdb : (x == ("__debug__" : Str)) = false := by decide) (hse : starEach [e] X.env = (false, eval e X.env) :: starEach [] X.env := by rfl) (hpl : (backTo pos (starEach [] X.env)).any (·.1) = false := by rfl) :
    PS X (.Raise (some (.Call (.Name x p) [e] [] pos)) none pos') (fun _ σ H => te σ H fun v H1 => ∀ d H2, Same H1 H2 → H2 d = some (.xd [(f, v)]) → W (.ref (clsA X.K x)) (some d) σ H2) := by
  obtain ⟨fI, fd, ps, iC, tI, hb, F⟩ := R.init
  have T := R.O
  have mk := pmk_K (pos := pos) (p := p) T iC tI F hr hb pass0 hg R.hm (pa_up ha) hdb hse hpl
  refine ⟨fun pins s σ H D I h => (ps_raise hc tk mk).run pins s σ H D I ⟨fun vs H1 => match vs with
    | [v] => ∀ d H2, Same H1 H2 → H2 d = some (.xd [(f, v)]) → W (.ref (clsA X.K x)) (some d) σ H2
    | _ => False, h, fun vs H1 k => ?_⟩⟩
  match vs, k with
  | [v], k => exact rais_ok (W := fun cls d H' => W cls d σ H') k
section
theorem ds_raisK {X : Cx} {W : WX} {x : Str} {e : Expr} {a : AE} {p pos pos' : Pos} (R : Xky X.prog X.w X.K X.mg X.base x (fld x)) (hr : Room 3 X.A) (hc : X.calm = true) (tk : Takes X W) (hg : Gl X x) (ha : DE X W e a)
    (hdb : (x == ("__debug__" : Str)) = false := by decide) (hse : starEach [e] X.env = (false, eval e X.env) :: starEach [] X.env := by rfl) (hpl : (backTo pos (starEach [] X.env)).any (·.1) = false := by rfl) :
    DS X W (.Raise (some (.Call (.Name x p) [e] [] pos)) none pos') (aRais x a) := by
  obtain ⟨t, pt, s⟩ := ha.ex
  refine ⟨_, ps_raisK R hr hc tk hg (pa_cons pt pa_nil hse) hdb hse hpl, fun O ρ σ H D A XX S k e x => s O ρ σ H _ _ XX S k (fun O1 c v H1 f1 o1 r1 k1 d H2 sm hd => ?_) x⟩
  have fr1 : fre O1 d := fun y hy z => by
    obtain ⟨u, hu⟩ := (o1.all y hy).there
    have h2 := sm _ _ hu
    rw [z, hd] at h2
    cases h2
    have q := o1.all y hy
    rw [z] at hu q
    cases y with
    | mk a w =>
      cases w with
      | lst cs => obtain ⟨_, h, _⟩ := q; rw [hu] at h; cases h
      | dct es => obtain ⟨_, h, _⟩ := q; rw [hu] at h; cases h
      | pur n => obtain ⟨_, h, _⟩ := q; rw [hu] at h; cases h
      | ins x fs => obtain ⟨_, _, h, _⟩ := q; rw [hu] at h; cases h
  have f2 : Fr O1 H1 O1 H2 := ⟨fun b o _ h => sm b o h, fun b o f _ => f, fun b h => by
    cases e : H1 b with
    | none => rfl
    | some o => rw [sm b o e] at h; cases h⟩
  have o3 : OkO X.K O1 H2 := ⟨o1.nd, fun y hy => by
    obtain ⟨u, hu⟩ := (o1.all y hy).there
    exact (o1.all y hy).mono (fun b o _ h => sm b o h) (fun b o f _ => f) ((sm _ _ hu).trans hu.symm)⟩
  have f12 := f1.trans f2
  exact x O1 ρ σ _ c v H2 d f12 (S.go f12 o3) (r1.fr f2) hd fr1 k1
end
/-- such a class, as the head tells it -/
structure XkyIn (K : PySem.W.Frag) (x fl q : Str) (st : Stmt) : Prop where
  ex : ∃ (C f : Addr) (oc : Value) (od an : Option Addr) (sl : Array (Option Value)) (kV dc pm cd ct : Value), PySem.W.nsIn K mainGlobals x = some (some (.ref C)) ∧ OexK K C ∧ ExcC K C ∧ XfC K C ∧
    PySem.W.findIn K (.ref C) fl = some none ∧ PySem.W.takerIn K C fl = some none ∧ PySem.W.findIn K (.ref C) "__init__" = some (some (.ref f)) ∧ PySem.W.typeIn K (.ref f) = some (.type "function") ∧
    K.lookup f = some ⟨oc, od, .func (PySem.W.fnOf "__init__" q (defArgs st) (defBody st) (defScope st) .none kV dc pm an cd ct), sl⟩ ∧ PySem.W.codeIn K cd q = true ∧ PySem.W.keepIn K (.ref f) = true
theorem oexk_by {K : PySem.W.Frag} {C : Addr} (ini : PySem.W.excInitIn K C keyTl "LookupError.__new__" = true)
    (ov : PySem.W.excOver K C keyTl = true) (hd : PySem.W.hasDictIn K C = true) (sa : PySem.W.findIn K (.ref C) "__setattr__" = some (some (.builtin "object.__setattr__")))
    (exC : PySem.W.subIn K (.ref C) (.type "BaseException") = some true) (tyC : PySem.W.typeIn K (.ref C) = some (.type "type")) (kC : PySem.W.keepIn K (.ref C) = true) : OexK K C :=
  ⟨ini, ov, hd, sa, exC, tyC, kC⟩
theorem XkyIn.by {K : PySem.W.Frag} {x fl q : Str} {st : Stmt} {C f : Addr} {oc : Value} {od an : Option Addr} {sl : Array (Option Value)} {kV dc pm cd ct : Value} (a : PySem.W.nsIn K mainGlobals x = some (some (.ref C)))
    (o : OexK K C)
    (hg : PySem.W.findIn K (.ref C) "__getattribute__" = some (some (.builtin "BaseException.__getattribute__"))) (hk : PySem.W.findIn K (.ref C) "__getattr__" = some none)
    (ha : PySem.W.findIn K (.ref C) "__class__" = some (some (.builtin "object.__class__"))) (hn : PySem.W.specialIn K (.builtin "object.__class__") "__get__" = some (some (.builtin "getset_descriptor.__get__")))
    (ht : PySem.W.takesIn K (.builtin "object.__class__") = some true) (hm : PySem.W.mroIn K C (.type "object") = some true) (no : PySem.W.findIn K (.ref C) fl = some none) (nt : PySem.W.takerIn K C fl = some none)
    (iC : PySem.W.findIn K (.ref C) "__init__" = some (some (.ref f))) (tI : PySem.W.typeIn K (.ref f) = some (.type "function"))
    (l : K.lookup f = some ⟨oc, od, .func (PySem.W.fnOf "__init__" q (defArgs st) (defBody st) (defScope st) .none kV dc pm an cd ct), sl⟩) (c : PySem.W.codeIn K cd q = true) (kp : PySem.W.keepIn K (.ref f) = true) : XkyIn K x fl q st :=
  ⟨C, f, oc, od, an, sl, kV, dc, pm, cd, ct, a, o, ⟨hg, hk, o.exC, o.hd, ha, hn, ht, hm⟩, ⟨hg, hk, o.exC, o.hd⟩, no, nt, iC, tI, l, c, kp⟩
structure XkyAt (K : PySem.W.Frag) (mg : Str → Option Value) (x fl q : Str) (st : Stmt) : Prop where
  ex : ∃ (f : Addr) (fd : FuncData), mg x = some (.ref (clsA K x)) ∧ OexK K (clsA K x) ∧ ExcC K (clsA K x) ∧ XfC K (clsA K x) ∧
    PySem.W.findIn K (.ref (clsA K x)) fl = some none ∧ PySem.W.takerIn K (clsA K x) fl = some none ∧ PySem.W.findIn K (.ref (clsA K x)) "__init__" = some (some (.ref f)) ∧ PySem.W.typeIn K (.ref f) = some (.type "function") ∧ Fun K "__init__" q st f fd
theorem XkyIn.at {K : PySem.W.Frag} {h : Heap} {mg : Str → Option Value} {x fl q : Str} {st : Stmt} (D : XkyIn K x fl q st) (X : K.In h) (G : h.Ns mainGlobals mg) : XkyAt K mg x fl q st := by
  obtain ⟨C, f, oc, od, an, sl, kV, dc, pm, cd, ct, a, o, e1, xf, no, nt, iC, tI, l, c, kp⟩ := D.ex
  have e := clsA_of a
  refine ⟨f, PySem.W.fnOf "__init__" q (defArgs st) (defBody st) (defScope st) .none kV dc pm an cd ct, ?_, ?_, ?_, ?_, ?_, ?_, ?_, tI, fun_mk l c kp⟩
  · rw [e]
    exact PySem.W.mg_of X G a
  all_goals rw [e]
  all_goals assumption
end Ab
/-! classes that stand under others, called through their names, made with names and without defaults; what is never reached -/
namespace Ab
open PySem PySem.Spec PyProof.Rows L2 Vg
/-! ## what is never reached -/
def aNeverS : AS := fun _ _ _ _ => False
theorem ds_never {X : Cx} {W : WX} (s : Stmt) : DS X W s aNeverS := ⟨fun _ _ _ => False, ⟨fun _ _ _ _ _ _ h => h.elim⟩, fun _ _ _ _ _ _ _ _ k _ _ => k.elim⟩
/-! ## C.m(e, ..), C a class of the module -/
structure FvC (P : Program) (w : World) (K : PySem.W.Frag) (mg : Str → Option Value) (base : Heap) (k : Nat) (x m : Str) (ps : List Str) (af : AF) : Prop where
  ex : ∃ (f : Addr) (fd : FuncData), mg x = some (.ref (clsA K x)) ∧ ClsFn K (clsA K x) m f ∧ Binds K fd ps [] ∧ FnOk P w K mg base (L2.CX P w) k f fd ps (spG K af)
theorem fvc_of {P : Program} {w : World} {K : PySem.W.Frag} {mg : Str → Option Value} {base : Heap} {k : Nat} {x q : Str} {st : Stmt} {N ps : List Str} {af : AF} (D : XtAt K mg x q st) (S : FnScope N ps (defScope st))
    (hb : ∀ (kV doc pm : Value) (an : Option Addr) (cdv ct : Value) (us : List Value), us.length = ps.length → bindArgs (PySem.W.fnOf "__init__" q (defArgs st) (defBody st) (defScope st) .none kV doc pm an cdv ct) ⟨us, []⟩ = pure (ps.zip us))
    (hl : ∀ O cs Xf Kc, af O cs Xf Kc → cs.length = ps.length)
    (body : ∀ (f : Addr) (cdv : Value) (A : Around) (outer : List Env) (s : Shared) (H : Hp) (E : XK),
      Room k (A.deeper (envOfC q (defScope st) s.heap.objs.size f cdv)) →
      ∃ a : AS, DSs (cxOf (L2.CX P w) P w K mg base N q (defScope st) f cdv A outer s H E) (fun cls d _ H => E cls d H) (defBody st) a ∧
        ∀ O cs Xf Kc, af O cs Xf Kc → a { nx := fun O' _ => Kc O' (.dat .none), rt := Kc } (fun O' _ y c => Xf O' y c) O (cs.map some ++ List.replicate (N.length - cs.length) none)) :
    FvC P w K mg base (k + 1) x "__init__" ps af := by
  obtain ⟨f, fd, hm, cf, F⟩ := D.ex
  refine ⟨f, fd, hm, cf, F.binds hb, F.okX (sp := spG K af) S (fun vs H Q E ⟨O, cs, Xf, Kc, o, r, h, _, _⟩ => r.len.trans (hl O cs Xf Kc h)) fun cdv A outer s H vs Q E hr ⟨O, cs, Xf, Kc, o, r, h, q, x⟩ => ?_⟩
  obtain ⟨a, ⟨t, p, sa⟩, k⟩ := body f cdv A outer s H E hr
  refine ⟨t, p, sa O _ _ H _ _ _ (start_ss o r) (k O cs Xf Kc h) ⟨fun O' ρ' σ' H' f S k' => ?_, q, fun _ _ _ _ _ _ z => z.elim, fun _ _ _ _ _ _ z => z.elim⟩ ?_⟩
  · exact q O' _ _ H' f S.o (.dat .non) k'
  · exact fun O' ρ' σ' y c v H' dd f S r hd hf z => x O' y c v H' dd f S.o r hd hf z
section
variable {X : Cx} {W : WX} {af : AF} {k : Nat} {ps : List Str} {x m : Str} {e : Expr} {es : List Expr} {a : AA} {p p2 pos : Pos}
theorem de_cls {pl : Sem Bool} (F : FvC X.prog X.w X.K X.mg X.base k x m ps af) (tk : Takes X W) (hr : Room k X.A) (hg : Gl X x) (ha : DA X W (e :: es) a)
    (hc : eval (.Call (.Attribute (.Name x p) m p2) (e :: es) [] pos) X.env = (do
      let ov ← eval (.Name x p) X.env
      standAt p2.atName
      let (g, first) ← holding [ov] (getMethod ov m pl)
      callWith pos g first (backTo pos (starEach (e :: es) X.env)) (backToKw pos (keywordEach [] X.env))) := by rfl)
    (hdb : (x == ("__debug__" : Str)) = false := by decide) (he : starEach (e :: es) X.env = (false, eval e X.env) :: starEach es X.env := by rfl)
    (hpl : (backTo pos (starEach es X.env)).any (·.1) = false := by rfl) : DE X W (.Call (.Attribute (.Name x p) m p2) (e :: es) [] pos) (aCall af a) := by
  obtain ⟨f, fd, hm, c, hb, F⟩ := F.ex
  obtain ⟨t, pa, s⟩ := ha.ex
  refine ⟨tCallS (spG X.K af) (WE W) t, ⟨fun pins st σ H Q I h => ?_⟩, sa_call s⟩
  refine PySem.W.methodCall_KW (ld_glob I hg hm ?_ hdb) hc
  refine PySem.W.method_cls I.kIn c.ga (PySem.W.cls_value I.kIn c.rd c.fc rfl (PySem.W.callWith_K (h₀ := X.base) I.ok.mod.kin c.kp ?_ he hpl))
  refine thn (pa.run pos pins _ σ H _ (I.tok _) h) ?_
  rintro us s1 ⟨vs, H1, I1, r, q⟩
  have hl : us.length = ps.length := by rw [← r.length]; exact F.len _ _ _ _ q
  have b := hb s1 us I1.kIn (by rw [List.append_nil]; exact hl)
  rw [List.append_nil] at b
  refine ⟨I1.kIn, wpAny_call (codeAny_mono (F.run X.A X.stack s1 H1 ⟨us, []⟩ us vs Q (WE W σ) hr I1.env0 b r q) fun r s' hq => ?_)⟩
  match r, hq with
  | .error e, hq => exact passAt tk σ pins H1 s1 e s' I1 hq
  | .ok (.ret u), hq => exact I1.after hq
  | .ok .next, hq => exact False.elim hq
  | .ok .brk, hq => exact False.elim hq
  | .ok .cont, hq => exact False.elim hq
end
/-! ## C(e, ..) of a class whose __init__ has no defaults -/
structure Mk0At (K : PySem.W.Frag) (mg : Str → Option Value) (x : Str) (st : Stmt) : Prop where
  ex : ∃ (f : Addr) (fd : FuncData), mg x = some (.ref (clsA K x)) ∧ Mk K (clsA K x) f ∧ Fun K "__init__" (x ++ ".__init__") st f fd
structure Mk0In (K : PySem.W.Frag) (x : Str) (st : Stmt) : Prop where
  ex : ∃ (C f : Addr) (oc : Value) (od an : Option Addr) (sl : Array (Option Value)) (kV dc pm cd ct : Value), PySem.W.nsIn K mainGlobals x = some (some (.ref C)) ∧ Mk K C f ∧
    K.lookup f = some ⟨oc, od, .func (PySem.W.fnOf "__init__" (x ++ ".__init__") (defArgs st) (defBody st) (defScope st) .none kV dc pm an cd ct), sl⟩ ∧ PySem.W.codeIn K cd (x ++ ".__init__") = true ∧ PySem.W.keepIn K (.ref f) = true
theorem Mk0In.by {K : PySem.W.Frag} {x q : Str} {st : Stmt} {C f : Addr} {oc : Value} {od an : Option Addr} {sl : Array (Option Value)} {kV dc pm cd ct : Value} (hq : q = x ++ ".__init__") (a : PySem.W.nsIn K mainGlobals x = some (some (.ref C)))
    (mk : PySem.W.makesIn K C = true) (ini : PySem.W.findIn K (.ref C) "__init__" = some (some (.ref f))) (fn : PySem.W.isFn K (.ref f) = true) (kC : PySem.W.keepIn K (.ref C) = true)
    (l : K.lookup f = some ⟨oc, od, .func (PySem.W.fnOf "__init__" q (defArgs st) (defBody st) (defScope st) .none kV dc pm an cd ct), sl⟩) (c : PySem.W.codeIn K cd q = true) (k : PySem.W.keepIn K (.ref f) = true) : Mk0In K x st := by
  subst hq
  exact ⟨C, f, oc, od, an, sl, kV, dc, pm, cd, ct, a, ⟨mk, ini, fn, kC⟩, l, c, k⟩
theorem Mk0In.at {K : PySem.W.Frag} {h : Heap} {mg : Str → Option Value} {x : Str} {st : Stmt} (D : Mk0In K x st) (X : K.In h) (G : h.Ns mainGlobals mg) : Mk0At K mg x st := by
  obtain ⟨C, f, oc, od, an, sl, kV, dc, pm, cd, ct, a, m, l, c, k⟩ := D.ex
  have e := clsA_of a
  subst e
  exact ⟨f, _, PySem.W.mg_of X G a, m, fun_mk l c k⟩
structure FvI0 (P : Program) (w : World) (K : PySem.W.Frag) (mg : Str → Option Value) (base : Heap) (k : Nat) (x : Str) (ps : List Str) (af : AF) : Prop where
  ex : ∃ (f : Addr) (fd : FuncData), mg x = some (.ref (clsA K x)) ∧ Mk K (clsA K x) f ∧ Binds K fd ps [] ∧ FnOk P w K mg base (L2.CX P w) k f fd ps (spG K af)
theorem fvi0_of {P : Program} {w : World} {K : PySem.W.Frag} {mg : Str → Option Value} {base : Heap} {k : Nat} {x : Str} {st : Stmt} {N ps : List Str} {af : AF} (D : Mk0At K mg x st) (S : FnScope N ps (defScope st))
    (hb : ∀ (kV doc pm : Value) (an : Option Addr) (cdv ct : Value) (us : List Value), us.length = ps.length → bindArgs (PySem.W.fnOf "__init__" (x ++ ".__init__") (defArgs st) (defBody st) (defScope st) .none kV doc pm an cdv ct) ⟨us, []⟩ = pure (ps.zip us))
    (hl : ∀ O cs Xf Kc, af O cs Xf Kc → cs.length = ps.length)
    (body : ∀ (f : Addr) (cdv : Value) (A : Around) (outer : List Env) (s : Shared) (H : Hp) (E : XK),
      Room k (A.deeper (envOfC (x ++ ".__init__") (defScope st) s.heap.objs.size f cdv)) →
      ∃ a : AS, DSs (cxOf (L2.CX P w) P w K mg base N (x ++ ".__init__") (defScope st) f cdv A outer s H E) (fun cls d _ H => E cls d H) (defBody st) a ∧
        ∀ O cs Xf Kc, af O cs Xf Kc → a { nx := fun O' _ => Kc O' (.dat .none), rt := Kc } (fun O' _ y c => Xf O' y c) O (cs.map some ++ List.replicate (N.length - cs.length) none)) :
    FvI0 P w K mg base (k + 1) x ps af := by
  obtain ⟨f, fd, hm, M, F⟩ := D.ex
  refine ⟨f, fd, hm, M, F.binds hb, F.okX (sp := spG K af) S (fun vs H Q E ⟨O, cs, Xf, Kc, o, r, h, _, _⟩ => r.len.trans (hl O cs Xf Kc h)) fun cdv A outer s H vs Q E hr ⟨O, cs, Xf, Kc, o, r, h, q, x⟩ => ?_⟩
  obtain ⟨a, ⟨t, p, sa⟩, k⟩ := body f cdv A outer s H E hr
  refine ⟨t, p, sa O _ _ H _ _ _ (start_ss o r) (k O cs Xf Kc h) ⟨fun O' ρ' σ' H' f S k' => ?_, q, fun _ _ _ _ _ _ z => z.elim, fun _ _ _ _ _ _ z => z.elim⟩ ?_⟩
  · exact q O' _ _ H' f S.o (.dat .non) k'
  · exact fun O' ρ' σ' y c v H' dd f S r hd hf z => x O' y c v H' dd f S.o r hd hf z
def aMk0 (x : Str) (af : AF) (a : AA) : AE := fun O ρ XX Kc => a O ρ XX fun O1 cs => ∀ p, af ((p, .ins x []) :: O1) (.at p :: cs) (fun O' y c => XX O' ρ y c) (fun O2 c => c = .dat .none ∧ Kc O2 (.at p))
section
variable {X : Cx} {W : WX} {af : AF} {k : Nat} {ps ks : List Str} {x : Str} {e : Expr} {es : List Expr} {kws : List Keyword} {a b : AA} {p pos : Pos} {st : Stmt} {dvs : List V} {dds : List PyData}
theorem de_mk0 (F : FvI0 X.prog X.w X.K X.mg X.base k x ps af) (tk : Takes X W) (hr : Room (k + 1) X.A) (hg : Gl X x) (ha : DA X W (e :: es) a)
    (hdb : (x == ("__debug__" : Str)) = false := by decide) (he : starEach (e :: es) X.env = (false, eval e X.env) :: starEach es X.env := by rfl)
    (hpl : (backTo pos (starEach es X.env)).any (·.1) = false := by rfl) : DE X W (.Call (.Name x p) (e :: es) [] pos) (aMk0 x af a) := by
  obtain ⟨f, fd, hm, M, bd, FO⟩ := F.ex
  obtain ⟨t, pa, s⟩ := ha.ex
  refine ⟨fun σ H Q => t σ H fun vs H1 => ∀ q dx, H1 q = none → H1 dx = none → dx ≠ q → spG X.K af (.ref q :: vs) (upd (upd H1 dx (.own q)) q (.ins (clsA X.K x) dx [])) (fun v H2 => v = .non ∧ Q (.ref q) H2) (WE W σ),
    ⟨fun pins st' σ H Q I h => ?_⟩, fun O ρ σ H Q Kc XX S k q xx => s O ρ σ H _ _ XX S k (fun O1 cs vs H1 f1 o1 r1 k1 y dx hy hdx hne => ?_) xx⟩
  · refine wpAny_Call_Name_kw (ld_glob I hg hm ?_ hdb)
    refine PySem.W.callWith_K (h₀ := X.base) I.ok.mod.kin M.kp (thn (pa.run pos pins st' σ H _ I h) fun us s1 ⟨vs, H1, J, rv, q⟩ => ⟨J.kIn, ?_⟩) he hpl
    change wpAny _ _ (call (Value.ref (clsA X.K x)) us) _ _ _
    have qq := q (s1.heap.objs.size + 1) s1.heap.objs.size (J.hok.fresh (Nat.le_succ _)) (J.hok.fresh (Nat.le_refl _)) (Nat.ne_of_lt (Nat.lt_succ_self _))
    have J2 := Inv.made (C := clsA X.K x) J
    have both : Vals (V.ref (s1.heap.objs.size + 1) :: vs) (Value.ref (s1.heap.objs.size + 1) :: us) := .cons rfl rv
    have hl : (Value.ref (s1.heap.objs.size + 1) :: us).length = ps.length := by rw [← both.length]; exact FO.len _ _ _ _ qq
    have b := bd _ (Value.ref (s1.heap.objs.size + 1) :: us) J2.kIn (by rw [List.append_nil]; exact hl)
    rw [List.append_nil] at b
    refine wpAny_call (make_map (f := f) J.kIn M.makes M.init (beq_iff_eq.mp M.fn) (codeAny_mono (FO.run _ X.stack _ _ ⟨Value.ref (s1.heap.objs.size + 1) :: us, []⟩ _ _ _ _ (hr.make _ us []) (J2.env0.make _ us []) b both qq) fun r s' hq => ?_))
    match r, hq with
    | .error er, hq => exact passAt tk σ pins _ _ er s' J2 hq
    | .ok (.ret u), hq =>
      obtain ⟨v, H', I3, rv', ev, q3⟩ := J2.after hq
      subst ev
      exact ⟨rv', V.ref (s1.heap.objs.size + 1), H', I3, rfl, q3⟩
    | .ok .next, hq => exact False.elim hq
    | .ok .brk, hq => exact False.elim hq
    | .ok .cont, hq => exact False.elim hq
  · obtain ⟨o2, f2, n2⟩ := o1.new (u := .own y) hdx
    have hy2 : upd H1 dx (.own y) y = none := by rw [upd_ne hne.symm]; exact hy
    obtain ⟨o3, f3⟩ := o2.own (w := .ins x []) (u := .ins (clsA X.K x) dx []) hy2 ⟨dx, [], upd_same, rfl, .nil⟩
    have f13 := f1.trans (f2.trans f3)
    refine ⟨(y, .ins x []) :: O1, .at y :: cs, _, _, o3, .cons (.at y) (r1.fr (f2.trans f3)), k1 y, fun O4 c v H4 f4 o4 r4 ⟨ec, k4⟩ => ?_, fun O4 z c v H4 dd f4 o4 r4 hd hf hx => xx O4 ρ σ z c v H4 dd (f13.trans f4) (S.go (f13.trans f4) o4) r4 hd hf hx⟩
    subst ec
    exact ⟨dq_non r4, q O4 (.at y) (.ref y) H4 (f13.trans f4) o4 (.at y) k4⟩
/-! ## C(e, .., name = b, ..) -/
def aMkN (x : Str) (n mm : Nat) (ix : List Nat) (dds : List PyData) (af : AF) (a b : AA) : AE := fun O ρ XX Kc => a O ρ XX fun O0 cs => b O0 ρ XX fun O1 zs => cs.length = n ∧ zs.length = mm ∧ ∀ p, af ((p, .ins x []) :: O1) (.at p :: pickC ix (cs ++ (dds.map .dat ++ zs))) (fun O' y c => XX O' ρ y c) (fun O2 c => c = .dat .none ∧ Kc O2 (.at p))
theorem de_mkN (F : FvI X.prog X.w X.K X.mg X.base k x st ps dvs dds af) (tk : Takes X W) (hr : Room (k + 1) X.A) (hg : Gl X x) (n : Nat) (ix : List Nat) (ha : DA X W (e :: es) a) (hc : DK X W kws b)
    (hks : (backToKw pos (keywordEach kws X.env)).filterMap (·.1) = ks)
    (hbk : ∀ (T : Addr) (kV doc pm : Value) (an : Option Addr) (cdv ct v0 : Value) (us its ws : List Value), us.length = n → its.length = dvs.length → ws.length = ks.length →
      ∃ k, bindArgs (PySem.W.fnOf "__init__" (x ++ ".__init__") (defArgs st) (defBody st) (defScope st) (.ref T) kV doc pm an cdv ct) ⟨v0 :: us, ks.zip ws⟩ = seqItems? (.ref T) >>= k ∧ k (some its.toArray) = pure (ps.zip (v0 :: pickC ix (us ++ (its ++ ws)))))
    (hall : (backToKw pos (keywordEach kws X.env)).all (·.1.isSome) = true := by rfl)
    (hdb : (x == ("__debug__" : Str)) = false := by decide) (he : starEach (e :: es) X.env = (false, eval e X.env) :: starEach es X.env := by rfl)
    (hpl : ((backTo pos (starEach (e :: es) X.env)).any (·.1) || (backToKw pos (keywordEach kws X.env)).any (·.1.isNone)) = false := by rfl) : DE X W (.Call (.Name x p) (e :: es) kws pos) (aMkN x n ks.length ix dds af a b) := by
  obtain ⟨f, fd, hm, M, FD, FO⟩ := F.ex
  obtain ⟨t, pa, s⟩ := ha.ex
  obtain ⟨u, pk, s2⟩ := hc.ex
  refine ⟨fun σ H Q => t σ H fun vs H1 => u σ H1 fun zs H2 => vs.length = n ∧ zs.length = ks.length ∧ ∀ q dx, H2 q = none → H2 dx = none → dx ≠ q → spG X.K af (.ref q :: pickC ix (vs ++ (dvs ++ zs))) (upd (upd H2 dx (.own q)) q (.ins (clsA X.K x) dx [])) (fun v H3 => v = .non ∧ Q (.ref q) H3) (WE W σ),
    ⟨fun pins st' σ H Q I h => ?_⟩, fun O ρ σ H Q Kc XX S k q xx => s O ρ σ H _ _ XX S k (fun O0 cs vs H1 f0 o0 r0 k0 => s2 O0 ρ σ H1 _ _ XX (S.go f0 o0) k0 (fun O1 zc zs H2 f1 o1 r1 ⟨hn, hz, k1⟩ => ⟨r0.len.trans hn, r1.len.trans hz, fun y dx hy hdx hne => ?_⟩) (xx.go f0)) xx⟩
  · refine wpAny_Call_Name_kw (ld_glob I hg hm ?_ hdb)
    refine PySem.W.callWith_KW (h₀ := X.base) I.ok.mod.kin M.kp hall (thn (pa.run pos pins st' σ H _ I h) fun us s1 ⟨vs, H1, J1, rv, q⟩ => ?_) hpl he
    refine thn (pk.run pos pins s1 σ H1 (fun zs H2 => vs.length = n ∧ zs.length = ks.length ∧ ∀ q dx, H2 q = none → H2 dx = none → dx ≠ q → spG X.K af (.ref q :: pickC ix (vs ++ (dvs ++ zs))) (upd (upd H2 dx (.own q)) q (.ins (clsA X.K x) dx [])) (fun v H3 => v = .non ∧ Q (.ref q) H3) (WE W σ)) J1 q) fun ws s2 ⟨zs, H2, J, rz, ln, lz, q⟩ => ⟨J.kIn, ?_⟩
    rw [hks]
    change wpAny _ _ (call (Value.ref (clsA X.K x)) us (ks.zip ws)) _ _ _
    have qq := q (s2.heap.objs.size + 1) s2.heap.objs.size (J.hok.fresh (Nat.le_succ _)) (J.hok.fresh (Nat.le_refl _)) (Nat.ne_of_lt (Nat.lt_succ_self _))
    have J2 := Inv.made (C := clsA X.K x) J
    obtain ⟨oc, od, dV, kV, doc, pm, an, cdv, ct, osl, rfl, lk, hcd, hD, hK⟩ := FD.ex
    rcases hD with ⟨e, _⟩ | ⟨_, T, o, its, m, rfl, lT, oT, rT⟩
    · exact absurd e F.ne
    · obtain ⟨k', e1, e2⟩ := hbk T kV doc pm an cdv ct (.ref (s2.heap.objs.size + 1)) us its ws (rv.length ▸ ln) rT.length.symm (rz.length ▸ lz)
      have both : Vals (V.ref (s2.heap.objs.size + 1) :: pickC ix (vs ++ (dvs ++ zs))) (Value.ref (s2.heap.objs.size + 1) :: pickC ix (us ++ (its ++ ws))) := .cons rfl (pickC_vals (rv.append (rT.append rz)) ix)
      refine wpAny_call (make_map (f := f) J.kIn M.makes M.init (beq_iff_eq.mp M.fn) (codeAny_mono (FO.run _ X.stack _ _ ⟨Value.ref (s2.heap.objs.size + 1) :: us, ks.zip ws⟩ _ _ _ _ (hr.make _ us (ks.zip ws)) (J2.env0.make _ us (ks.zip ws)) (BindsTo.of_looks fun M' => by
        rw [e1]
        exact looks_items J2.kIn lT oT (.of_pure e2)) both qq) fun r s' hq => ?_))
      match r, hq with
      | .error er, hq => exact passAt tk σ pins _ _ er s' J2 hq
      | .ok (.ret u), hq =>
        obtain ⟨v, H', I3, rv', ev, q3⟩ := J2.after hq
        subst ev
        exact ⟨rv', V.ref (s2.heap.objs.size + 1), H', I3, rfl, q3⟩
      | .ok .next, hq => exact False.elim hq
      | .ok .brk, hq => exact False.elim hq
      | .ok .cont, hq => exact False.elim hq
  · obtain ⟨o2, f2, n2⟩ := o1.new (u := .own y) hdx
    have hy2 : upd H2 dx (.own y) y = none := by rw [upd_ne hne.symm]; exact hy
    obtain ⟨o3, f3⟩ := o2.own (w := .ins x []) (u := .ins (clsA X.K x) dx []) hy2 ⟨dx, [], upd_same, rfl, .nil⟩
    have f13 := f0.trans (f1.trans (f2.trans f3))
    refine ⟨(y, .ins x []) :: O1, .at y :: pickC ix (cs ++ (dds.map .dat ++ zc)), _, _, o3, .cons (.at y) (pickC_cls (((r0.fr f1).app (F.df.cls.app r1)).fr (f2.trans f3)) ix), k1 y, fun O4 c v H4 f4 o4 r4 ⟨ec, k4⟩ => ?_, fun O4 z c v H4 dd f4 o4 r4 hd hf hx => xx O4 ρ σ z c v H4 dd (f13.trans f4) (S.go (f13.trans f4) o4) r4 hd hf hx⟩
    subst ec
    exact ⟨dq_non r4, q O4 (.at y) (.ref y) H4 (f13.trans f4) o4 (.at y) k4⟩
end
/-! ## isinstance by a class above -/
/-- y stands under x -/
structure SubK (K : PySem.W.Frag) (y x : Str) : Prop where
  cl : Cls K (clsA K y)
  ha : PySem.W.findIn K (.ref (clsA K y)) "__class__" = some (some (.builtin "object.__class__"))
  hn : PySem.W.specialIn K (.builtin "object.__class__") "__get__" = some (some (.builtin "getset_descriptor.__get__"))
  htk : PySem.W.takesIn K (.builtin "object.__class__") = some true
  hm : PySem.W.mroIn K (clsA K y) (.type "object") = some true
  me : PySem.W.kitOne K (.ref (clsA K y)) (.ref (clsA K x)) = some true
theorem SubK.by {K : PySem.W.Frag} {y x : Str} {C D : Addr} (a : PySem.W.nsIn K mainGlobals y = some (some (.ref C))) (b : PySem.W.nsIn K mainGlobals x = some (some (.ref D))) (pg : PySem.W.plainGet K C Str.empty = true) (hd : PySem.W.hasDictIn K C = true) (po : PySem.W.plainOver K C = true)
    (sa : PySem.W.findIn K (.ref C) "__setattr__" = some (some (.builtin "object.__setattr__"))) (ha : PySem.W.findIn K (.ref C) "__class__" = some (some (.builtin "object.__class__")))
    (hn : PySem.W.specialIn K (.builtin "object.__class__") "__get__" = some (some (.builtin "getset_descriptor.__get__"))) (htk : PySem.W.takesIn K (.builtin "object.__class__") = some true) (hm : PySem.W.mroIn K C (.type "object") = some true) (me : PySem.W.kitOne K (.ref C) (.ref D) = some true) : SubK K y x := by
  have e := clsA_of a
  have e2 := clsA_of b
  subst e e2
  exact ⟨⟨pg, hd, po, sa⟩, ha, hn, htk, hm, me⟩
def bIsS (K : PySem.W.Frag) (y x : Str) : AB := fun O cs Kc => ∃ p fs, cs = [.at p, .raw (.ref (clsA K x))] ∧ (p, Ow.ins y fs) ∈ O ∧ Kc O (.dat (.bool true))
theorem sb_isS {K : PySem.W.Frag} {y x : Str} (h : SubK K y x) : SRB K (L2.rIsi K) (bIsS K y x) := fun O H Q Kc cs vs o r ⟨p, fs, e, mm, k⟩ q => by
  subst e
  obtain ⟨v, u, rfl, r1, r2⟩ := cls2 r
  cases r2
  have ev := dq_at r1
  subst ev
  obtain ⟨d, vs, hp, _, _⟩ := o.all _ mm
  exact ⟨_, _, _, _, true, rfl, .own _, .base (TyOf.ins hp h.cl h.ha h.hn h.htk h.hm), h.me, q O _ _ H (Fr.refl _ _) o (.dat (.bl _)) k⟩
/-! ## xs[n] = v, xs[k] = v -/
theorem dg_setK {X : Cx} {i : Nat} {x : Str} {n : Int} {k : Nat} {px p1 pos : Pos} (hN : X.N[i]? = some x := by rfl) (hv : Vis X.env.scope x := by first | exact Or.inl rfl | exact Or.inr (Or.inl rfl) | exact Or.inr (Or.inr rfl)) (hd : (x == ("__debug__" : Str)) = false := by decide) (hcd : (x == ("__classdict__" : Str)) = false := by decide) :
    DG X (.Subscript (.Name x px) (.Constant (.int n) k p1) pos) (aSetIx i n) := by
  refine ⟨_, pg_sub (pe_var hN hv hd hcd) pe_int set_list (by intro _; rfl), fun O ρ σ H c v kk R S r ⟨p, cs, f, j, e1, lo, hj, k1⟩ q => ?_⟩
  obtain ⟨w, e2, rw'⟩ := S.at_ i _ e1
  have ew := dq_at rw'
  subst ew
  obtain ⟨xs, hx, rs⟩ := S.o.lo lo
  refine ⟨_, e2, p, xs, _, j, rfl, rfl, hx, by rw [rs.len]; exact hj, ?_⟩
  obtain ⟨o3, f3⟩ := S.o.put (u := .lst (xs.set j v)) (w' := .lst (cs.set j c)) lo ⟨_, upd_same, (ClsH.set r j rs).mono (fun b v fb e => by rw [upd_ne fun z => fb _ lo.mem z.symm]; exact e) fun b v fb _ => (lo.fre b).mpr fb⟩
  exact q _ _ _ _ f3 (S.go f3 o3) k1
def aSetV (i l : Nat) : AG := fun c O ρ k => ∃ p cs f z j, ρ[i]? = some (some (.at p)) ∧ ρ[l]? = some (some (.dat (.int z))) ∧ Lo O p (.lst cs) f ∧ ixN cs.length z = some j ∧ k (f (.lst (cs.set j c))) ρ
theorem dg_setV {X : Cx} {i l : Nat} {x y : Str} {px py pos : Pos} (hN : X.N[i]? = some x := by rfl) (hM : X.N[l]? = some y := by rfl) (hv : Vis X.env.scope x := by first | exact Or.inl rfl | exact Or.inr (Or.inl rfl) | exact Or.inr (Or.inr rfl)) (hw : Vis X.env.scope y := by first | exact Or.inl rfl | exact Or.inr (Or.inl rfl) | exact Or.inr (Or.inr rfl))
    (hd : (x == ("__debug__" : Str)) = false := by decide) (hcd : (x == ("__classdict__" : Str)) = false := by decide) (hd2 : (y == ("__debug__" : Str)) = false := by decide) (hcd2 : (y == ("__classdict__" : Str)) = false := by decide) :
    DG X (.Subscript (.Name x px) (.Name y py) pos) (aSetV i l) := by
  refine ⟨_, pg_sub (pe_var hN hv hd hcd) (pe_var hM hw hd2 hcd2) set_list (by intro _; rfl), fun O ρ σ H c v kk R S r ⟨p, cs, f, z, j, e1, e3, lo, hj, k1⟩ q => ?_⟩
  obtain ⟨w, e2, rw'⟩ := S.at_ i _ e1
  have ew := dq_at rw'
  subst ew
  obtain ⟨u, e4, ru⟩ := S.at_ l _ e3
  have eu := dq_int ru
  subst eu
  obtain ⟨xs, hx, rs⟩ := S.o.lo lo
  refine ⟨_, e2, _, e4, p, xs, z, j, rfl, rfl, hx, by rw [rs.len]; exact hj, ?_⟩
  obtain ⟨o3, f3⟩ := S.o.put (u := .lst (xs.set j v)) (w' := .lst (cs.set j c)) lo ⟨_, upd_same, (ClsH.set r j rs).mono (fun b v fb e => by rw [upd_ne fun z => fb _ lo.mem z.symm]; exact e) fun b v fb _ => (lo.fre b).mpr fb⟩
  exact q _ _ _ _ f3 (S.go f3 o3) k1
/-! ## what is owned may be put in another order -/
theorem fre_perm {O O2 : Ob} (pm : O.Perm O2) {b : Addr} : fre O b ↔ fre O2 b := ⟨fun h x hx => h x (pm.mem_iff.mpr hx), fun h x hx => h x (pm.mem_iff.mp hx)⟩
def aPerm (a : AE) : AE := fun O ρ XX Kc => a O ρ XX fun O1 c => ∃ O2, O1.Perm O2 ∧ Kc O2 c
theorem sa_perm {K : PySem.W.Frag} {W : WX} {t : TE} {a : AE} (ha : SaE K W t a) : SaE K W t (aPerm a) := fun O ρ σ H Q Kc XX S k q x =>
  ha O ρ σ H _ _ XX S k (fun O1 c v H1 f1 o1 r1 ⟨O2, pm, k2⟩ => by
    have e : fre O1 = fre O2 := funext fun b => propext (fre_perm pm)
    refine q O2 c v H1 ⟨f1.1, fun b o f h => (fre_perm pm).mp (f1.2 b o f h), f1.3⟩ ⟨(pm.map _).nodup_iff.mp o1.nd, fun y hy => ?_⟩ (e ▸ r1) k2
    have z := o1.all y (pm.mem_iff.mpr hy)
    rw [← e]
    exact z) x
theorem de_perm {X : Cx} {W : WX} {e : Expr} {a : AE} (h : DE X W e a) : DE X W e (aPerm a) := by
  obtain ⟨t, p, s⟩ := h.ex
  exact ⟨_, p, sa_perm s⟩
end Ab
namespace My
open PySem PySem.Spec PyProof.Rows L2 Vg Ab
def top (i : Nat) : Stmt := PySem.Challenge.pw_termstream_k28_rows_asked.main.body.getD i (.Pass ⟨0, 0, 0, 0⟩)
def methAt (i j : Nat) : Stmt := match top i with
  | .ClassDef (body := b) .. => b.getD j (.Pass ⟨0, 0, 0, 0⟩)
  | s => s
abbrev s_is_number : Stmt := top 17
abbrev s_is_whole : Stmt := top 18
abbrev s_is_manner : Stmt := top 19
abbrev s_is_list : Stmt := top 20
abbrev s_are_numbers : Stmt := top 21
abbrev s_need_manner : Stmt := top 26
abbrev s_follows_near : Stmt := top 27
abbrev s_is_beginning : Stmt := top 28
abbrev s_ends_well : Stmt := top 29
abbrev s_is_row : Stmt := top 30
abbrev s_law_cell : Stmt := top 65
abbrev s_law_purse : Stmt := top 66
abbrev s_law_take : Stmt := top 67
abbrev s_law_size : Stmt := top 68
abbrev s_law_next : Stmt := top 69
abbrev s_law_row : Stmt := top 70
abbrev s_law_made : Stmt := top 71
abbrev s_law_asked : Stmt := top 72
abbrev s_law_step : Stmt := top 73
abbrev s_law : Stmt := top 74
abbrev s_Row__init : Stmt := methAt 63 0
abbrev s_Row__more : Stmt := methAt 63 1
abbrev s_Row__made : Stmt := methAt 61 2
abbrev s_Row__has : Stmt := methAt 61 3
abbrev s_Row__reach : Stmt := methAt 61 4
abbrev s_Row__ask : Stmt := methAt 61 5
abbrev s_Row__terms : Stmt := methAt 61 6
abbrev s_Row__manner : Stmt := methAt 61 7
abbrev s_Row__asked : Stmt := methAt 61 8
abbrev s_Row__depth : Stmt := methAt 61 9
abbrev s_Begun__init : Stmt := methAt 57 0
abbrev s_Stream__init : Stmt := methAt 61 0
abbrev N_is_number : List Str := ["thing"]
theorem sc_is_number : FnScope N_is_number ["thing"] (defScope s_is_number) := ⟨rfl, rfl, rfl, by decide +kernel, rfl, by decide +kernel, by decide +kernel⟩
abbrev N_is_whole : List Str := ["thing", "low", "high"]
theorem sc_is_whole : FnScope N_is_whole ["thing", "low", "high"] (defScope s_is_whole) := ⟨rfl, rfl, rfl, by decide +kernel, rfl, by decide +kernel, by decide +kernel⟩
abbrev N_is_manner : List Str := ["thing"]
theorem sc_is_manner : FnScope N_is_manner ["thing"] (defScope s_is_manner) := ⟨rfl, rfl, rfl, by decide +kernel, rfl, by decide +kernel, by decide +kernel⟩
abbrev N_is_list : List Str := ["thing"]
theorem sc_is_list : FnScope N_is_list ["thing"] (defScope s_is_list) := ⟨rfl, rfl, rfl, by decide +kernel, rfl, by decide +kernel, by decide +kernel⟩
abbrev N_are_numbers : List Str := ["thing", "part"]
theorem sc_are_numbers : FnScope N_are_numbers ["thing"] (defScope s_are_numbers) := ⟨rfl, rfl, rfl, by decide +kernel, rfl, by decide +kernel, by decide +kernel⟩
abbrev N_need_manner : List Str := ["manner"]
theorem sc_need_manner : FnScope N_need_manner ["manner"] (defScope s_need_manner) := ⟨rfl, rfl, rfl, by decide +kernel, rfl, by decide +kernel, by decide +kernel⟩
abbrev N_follows_near : List Str := ["before", "term"]
theorem sc_follows_near : FnScope N_follows_near ["before", "term"] (defScope s_follows_near) := ⟨rfl, rfl, rfl, by decide +kernel, rfl, by decide +kernel, by decide +kernel⟩
abbrev N_is_beginning : List Str := ["thing", "manner", "rest", "term", "before"]
theorem sc_is_beginning : FnScope N_is_beginning ["thing", "manner"] (defScope s_is_beginning) := ⟨rfl, rfl, rfl, by decide +kernel, rfl, by decide +kernel, by decide +kernel⟩
abbrev N_ends_well : List Str := ["terms", "manner"]
theorem sc_ends_well : FnScope N_ends_well ["terms", "manner"] (defScope s_ends_well) := ⟨rfl, rfl, rfl, by decide +kernel, rfl, by decide +kernel, by decide +kernel⟩
abbrev N_is_row : List Str := ["thing", "manner"]
theorem sc_is_row : FnScope N_is_row ["thing", "manner"] (defScope s_is_row) := ⟨rfl, rfl, rfl, by decide +kernel, rfl, by decide +kernel, by decide +kernel⟩
abbrev N_law_cell : List Str := ["_law_script", "_law_k"]
theorem sc_law_cell : FnScope N_law_cell ["_law_script", "_law_k"] (defScope s_law_cell) := ⟨rfl, rfl, rfl, by decide +kernel, rfl, by decide +kernel, by decide +kernel⟩
abbrev N_law_purse : List Str := ["_law_cell_here"]
theorem sc_law_purse : FnScope N_law_purse ["_law_cell_here"] (defScope s_law_purse) := ⟨rfl, rfl, rfl, by decide +kernel, rfl, by decide +kernel, by decide +kernel⟩
abbrev N_law_take : List Str := ["_law_purse_here", "_law_many", "_law_digit", "_law_one", "_law_other"]
theorem sc_law_take : FnScope N_law_take ["_law_purse_here", "_law_many"] (defScope s_law_take) := ⟨rfl, rfl, rfl, by decide +kernel, rfl, by decide +kernel, by decide +kernel⟩
abbrev N_law_size : List Str := ["_law_purse_here", "_law_low", "_law_way"]
theorem sc_law_size : FnScope N_law_size ["_law_purse_here", "_law_low"] (defScope s_law_size) := ⟨rfl, rfl, rfl, by decide +kernel, rfl, by decide +kernel, by decide +kernel⟩
abbrev N_law_next : List Str := ["_law_purse_here", "_law_kind", "_law_row_here", "_law_size_here"]
theorem sc_law_next : FnScope N_law_next ["_law_purse_here", "_law_kind", "_law_row_here"] (defScope s_law_next) := ⟨rfl, rfl, rfl, by decide +kernel, rfl, by decide +kernel, by decide +kernel⟩
abbrev N_law_row : List Str := ["_law_purse_here", "_law_kind", "_law_many", "_law_found", "_law_k", "_law_last"]
theorem sc_law_row : FnScope N_law_row ["_law_purse_here", "_law_kind", "_law_many"] (defScope s_law_row) := ⟨rfl, rfl, rfl, by decide +kernel, rfl, by decide +kernel, by decide +kernel⟩
abbrev N_law_made : List Str := ["_law_terms", "_law_word"]
theorem sc_law_made : FnScope N_law_made ["_law_terms", "_law_word"] (defScope s_law_made) := ⟨rfl, rfl, rfl, by decide +kernel, rfl, by decide +kernel, by decide +kernel⟩
abbrev N_law_asked : List Str := ["_law_stream", "_law_way", "_law_thing", "e"]
theorem sc_law_asked : FnScope N_law_asked ["_law_stream", "_law_way", "_law_thing"] (defScope s_law_asked) := ⟨rfl, rfl, rfl, by decide +kernel, rfl, by decide +kernel, by decide +kernel⟩
abbrev N_law_step : List Str := ["_law_purse_here", "_law_stream", "_law_row_here", "_law_ready", "_law_way", "_law_place", "_law_odd", "_law_thing", "_law_word", "_law_found", "_law_right", "_law_due"]
theorem sc_law_step : FnScope N_law_step ["_law_purse_here", "_law_stream", "_law_row_here", "_law_ready"] (defScope s_law_step) := ⟨rfl, rfl, rfl, by decide +kernel, rfl, by decide +kernel, by decide +kernel⟩
abbrev N_law : List Str := ["_law_script", "_law_words", "_law_k", "_law_purse_here", "_law_manners", "_law_sizes", "_law_rows", "_law_handed", "_law_streams", "_law_ready", "_law_turn", "_law_at", "_law_kept"]
theorem sc_law : FnScope N_law ["_law_script"] (defScope s_law) := ⟨rfl, rfl, rfl, by decide +kernel, rfl, by decide +kernel, by decide +kernel⟩
abbrev N_Row__init : List Str := ["self", "terms", "manner"]
theorem sc_Row__init : FnScope N_Row__init ["self", "terms", "manner"] (defScope s_Row__init) := ⟨rfl, rfl, rfl, by decide +kernel, rfl, by decide +kernel, by decide +kernel⟩
abbrev N_Row__more : List Str := ["self", "k"]
theorem sc_Row__more : FnScope N_Row__more ["self"] (defScope s_Row__more) := ⟨rfl, rfl, rfl, by decide +kernel, rfl, by decide +kernel, by decide +kernel⟩
abbrev N_Row__made : List Str := ["self"]
theorem sc_Row__made : FnScope N_Row__made ["self"] (defScope s_Row__made) := ⟨rfl, rfl, rfl, by decide +kernel, rfl, by decide +kernel, by decide +kernel⟩
abbrev N_Row__has : List Str := ["self", "k"]
theorem sc_Row__has : FnScope N_Row__has ["self", "k"] (defScope s_Row__has) := ⟨rfl, rfl, rfl, by decide +kernel, rfl, by decide +kernel, by decide +kernel⟩
abbrev N_Row__reach : List Str := ["self", "k", "thing"]
theorem sc_Row__reach : FnScope N_Row__reach ["self", "k"] (defScope s_Row__reach) := ⟨rfl, rfl, rfl, by decide +kernel, rfl, by decide +kernel, by decide +kernel⟩
abbrev N_Row__ask : List Str := ["self", "k", "thing", "low", "high"]
theorem sc_Row__ask : FnScope N_Row__ask ["self", "k"] (defScope s_Row__ask) := ⟨rfl, rfl, rfl, by decide +kernel, rfl, by decide +kernel, by decide +kernel⟩
abbrev N_Row__terms : List Str := ["self", "many", "word", "thing"]
theorem sc_Row__terms : FnScope N_Row__terms ["self", "many"] (defScope s_Row__terms) := ⟨rfl, rfl, rfl, by decide +kernel, rfl, by decide +kernel, by decide +kernel⟩
abbrev N_Row__manner : List Str := ["self"]
theorem sc_Row__manner : FnScope N_Row__manner ["self"] (defScope s_Row__manner) := ⟨rfl, rfl, rfl, by decide +kernel, rfl, by decide +kernel, by decide +kernel⟩
abbrev N_Row__asked : List Str := ["self"]
theorem sc_Row__asked : FnScope N_Row__asked ["self"] (defScope s_Row__asked) := ⟨rfl, rfl, rfl, by decide +kernel, rfl, by decide +kernel, by decide +kernel⟩
abbrev N_Row__depth : List Str := ["self"]
theorem sc_Row__depth : FnScope N_Row__depth ["self"] (defScope s_Row__depth) := ⟨rfl, rfl, rfl, by decide +kernel, rfl, by decide +kernel, by decide +kernel⟩
abbrev N_Begun__init : List Str := ["self", "manner"]
theorem sc_Begun__init : FnScope N_Begun__init ["self", "manner"] (defScope s_Begun__init) := ⟨rfl, rfl, rfl, by decide +kernel, rfl, by decide +kernel, by decide +kernel⟩
abbrev N_Stream__init : List Str := ["self", "manner"]
theorem sc_Stream__init : FnScope N_Stream__init ["self", "manner"] (defScope s_Stream__init) := ⟨rfl, rfl, rfl, by decide +kernel, rfl, by decide +kernel, by decide +kernel⟩
abbrev m_TermError : Stmt := methAt 3 0
theorem sc_m_TermError : FnScope ["self", "text"] ["self", "text"] (defScope m_TermError) := ⟨rfl, rfl, rfl, by decide +kernel, rfl, by decide +kernel, by decide +kernel⟩
abbrev m_Unknown : Stmt := methAt 4 0
theorem sc_m_Unknown : FnScope ["self", "text"] ["self", "text"] (defScope m_Unknown) := ⟨rfl, rfl, rfl, by decide +kernel, rfl, by decide +kernel, by decide +kernel⟩
abbrev m_NoNumber : Stmt := methAt 6 0
theorem sc_m_NoNumber : FnScope ["self", "found"] ["self", "found"] (defScope m_NoNumber) := ⟨rfl, rfl, rfl, by decide +kernel, rfl, by decide +kernel, by decide +kernel⟩
abbrev m_NoManner : Stmt := methAt 7 0
theorem sc_m_NoManner : FnScope ["self", "found"] ["self", "found"] (defScope m_NoManner) := ⟨rfl, rfl, rfl, by decide +kernel, rfl, by decide +kernel, by decide +kernel⟩
abbrev m_NoRow : Stmt := methAt 8 0
theorem sc_m_NoRow : FnScope ["self", "found"] ["self", "found"] (defScope m_NoRow) := ⟨rfl, rfl, rfl, by decide +kernel, rfl, by decide +kernel, by decide +kernel⟩
abbrev m_NoPlace : Stmt := methAt 14 0
theorem sc_m_NoPlace : FnScope ["self", "found"] ["self", "found"] (defScope m_NoPlace) := ⟨rfl, rfl, rfl, by decide +kernel, rfl, by decide +kernel, by decide +kernel⟩
structure Txt (K : PySem.W.Frag) (mg : Str → Option Value) : Prop where
  v_ve : PySem.W.findCls K (.type "ValueError") (.type "type") "__init__" = some (.val (.builtin "ValueError.__init__"))
  n_ValueError : mg "ValueError" = none
  v_ke : PySem.W.findCls K (.type "KeyError") (.type "type") "__init__" = some (.val (.builtin "KeyError.__init__"))
  n_KeyError : mg "KeyError" = none
  x_TermError : XtAt K mg "TermError" "TermError.__init__" m_TermError
  x_Unknown : XtAt K mg "Unknown" "Unknown.__init__" m_Unknown
  x_NoNumber : XeAt K mg "NoNumber" "found" "NoNumber.__init__" m_NoNumber
  x_NoManner : XeAt K mg "NoManner" "found" "NoManner.__init__" m_NoManner
  x_NoRow : XeAt K mg "NoRow" "found" "NoRow.__init__" m_NoRow
  x_NoPlace : Ab.XkyAt K mg "NoPlace" "found" "NoPlace.__init__" m_NoPlace
  p_NoPlace_NoPlace : PairIn K "NoPlace" "NoPlace" true
  p_NoPlace_NoNumber : PairIn K "NoPlace" "NoNumber" false
  p_NoNumber_NoPlace : PairIn K "NoNumber" "NoPlace" false
  p_NoNumber_NoNumber : PairIn K "NoNumber" "NoNumber" true
  d_is_number : At K mg "is_number" s_is_number
  d_is_whole : At K mg "is_whole" s_is_whole
  d_is_manner : At K mg "is_manner" s_is_manner
  d_is_list : At K mg "is_list" s_is_list
  d_are_numbers : At K mg "are_numbers" s_are_numbers
  d_need_manner : At K mg "need_manner" s_need_manner
  d_follows_near : At K mg "follows_near" s_follows_near
  d_is_beginning : At K mg "is_beginning" s_is_beginning
  d_ends_well : At K mg "ends_well" s_ends_well
  d_is_row : AtD K mg "is_row" s_is_row [.str "floor"]
  d_law_cell : At K mg "_law_cell" s_law_cell
  d_law_purse : At K mg "_law_purse" s_law_purse
  d_law_take : At K mg "_law_take" s_law_take
  d_law_size : At K mg "_law_size" s_law_size
  d_law_next : At K mg "_law_next" s_law_next
  d_law_row : At K mg "_law_row" s_law_row
  d_law_made : At K mg "_law_made" s_law_made
  d_law_asked : At K mg "_law_asked" s_law_asked
  d_law_step : At K mg "_law_step" s_law_step
  d_law : At K mg "law" s_law
  d_Row__init : Ab.MkAt K mg "Row" s_Row__init [.str "floor"]
  d_Row__more : Ab.MeAt K mg "Row" "more" "Row.more" s_Row__more
  d_Row__made : Ab.MeAt K mg "Row" "made" "Stream.made" s_Row__made
  d_Row__has : Ab.MeAt K mg "Row" "has" "Stream.has" s_Row__has
  d_Row__reach : Ab.MeAt K mg "Row" "reach" "Stream.reach" s_Row__reach
  d_Row__ask : Ab.MeAt K mg "Row" "ask" "Stream.ask" s_Row__ask
  d_Row__terms : Ab.MeAt K mg "Row" "terms" "Stream.terms" s_Row__terms
  d_Row__manner : Ab.MeAt K mg "Row" "manner" "Stream.manner" s_Row__manner
  d_Row__asked : Ab.MeAt K mg "Row" "asked" "Stream.asked" s_Row__asked
  d_Row__depth : Ab.MeAt K mg "Row" "depth" "Stream.depth" s_Row__depth
  d_Begun__init : Ab.Mk0At K mg "Begun" s_Begun__init
  d_Stream__init : XtAt K mg "Stream" "Stream.__init__" s_Stream__init
  f_Row__begun : Ab.FldK K "Row" "_begun"
  f_Row__closed : Ab.FldK K "Row" "_closed"
  f_Row__made : Ab.FldK K "Row" "_made"
  f_Row__manner : Ab.FldK K "Row" "_manner"
  f_Row__row : Ab.FldK K "Row" "_row"
  f_Begun__ended : Ab.FldK K "Begun" "_ended"
  f_Begun__manner : Ab.FldK K "Begun" "_manner"
  f_Begun__terms : Ab.FldK K "Begun" "_terms"
  f_Begun__turn : Ab.FldK K "Begun" "_turn"
  i_Row_Stream : Ab.SubK K "Row" "Stream"
  n_isinstance : mg "isinstance" = none
  n_int : mg "int" = none
  n_bool : mg "bool" = none
  n_str : mg "str" = none
  n_list : mg "list" = none
  n_tuple : mg "tuple" = none
  n_all : mg "all" = none
  n_zip : mg "zip" = none
  n_abs : mg "abs" = none
  n_len : mg "len" = none
  n_max : mg "max" = none
  n_range : mg "range" = none
  n_min : mg "min" = none
  n_repr : mg "repr" = none
  c_LAST_PLACE : ∃ t, mg "LAST_PLACE" = some (.int 999 t)
  c_MOST_TERMS : ∃ t, mg "MOST_TERMS" = some (.int 1000 t)
  c_MANNERS : CtIn K mg "MANNERS" [.str "floor", .str "ceil", .str "near"]
  k_ABOVE_ONE : KonIn K mg "ABOVE_ONE" (.tuple [.tuple [.tuple [.int (1), .int (1)], .bool false], .tuple [.tuple [.int (1), .int (0)], .bool true]])
  k_ABOVE_ONE_ENDLESS : KonIn K mg "ABOVE_ONE_ENDLESS" (.tuple [.tuple [.tuple [.int (1), .int (1)], .bool false], .tuple [.tuple [.int (1), .int (0)], .bool false]])
  k_FAR : KonIn K mg "FAR" (.tuple [.tuple [.tuple [.int (2), .int (1)], .bool false], .tuple [.tuple [.int (2), .int (-1)], .bool true]])
  k_ABOVE_TWO : KonIn K mg "ABOVE_TWO" (.tuple [.tuple [.tuple [.int (2), .int (1)], .bool false], .tuple [.tuple [.int (1), .int (0)], .bool false]])
  k_BELOW_TWO : KonIn K mg "BELOW_TWO" (.tuple [.tuple [.tuple [.int (1), .int (0)], .bool true], .tuple [.tuple [.int (2), .int (-1)], .bool true]])
section
variable {P : Program} {w : World} {K : PySem.W.Frag} {mg : Str → Option Value} {base : Heap}
theorem ok_take (T : Txt K mg) : Fn P w K mg base 1 "_law_take" ["_law_purse_here", "_law_many"] spTake := by
  refine T.d_law_take.fn sc_law_take (fun _ _ _ _ _ _ us hl => match us, hl with | [_, _], _ => rfl) ?_ ?_
  · rintro vs H Q E ⟨p, m, n, rfl, _⟩
    rfl
  · rintro f cdv A outer s H vs Q E hr ⟨p, m, n, rfl, hm, hm2, ⟨l, hp, a, b, c, rfl, ha, hb, hb2, hc, hcn⟩, k⟩
    refine ⟨_, (pss_cons (ps_if (pt_cmpR op_gt (pe_ix ix_list (pv 0) pe_int (fun _ _ => rfl)) pe_int (nomark _)) (pss_cons (ps_set (i := 2) sc_law_take.nd rfl (Or.inl rfl) (pe_op op_mod (pe_ix ix_list (pv 0) pe_int (fun _ _ => rfl)) (pv 1)))
 (pss_cons (ps_asg (pe_op op_fdivW (pe_ix ix_list (pv 0) pe_int (fun _ _ => rfl)) (pv 1)) (pg_sub (pv 0) pe_int set_list))
 (pss_one (ps_ret (pv 2))))) pss_nil)
 (pss_cons (ps_asg (pe_op op_add (pe_ix ix_list (pv 0) pe_int (fun _ _ => rfl)) pe_int) (pg_sub (pv 0) pe_int set_list))
 (pss_cons (ps_set (i := 3) sc_law_take.nd rfl (Or.inl rfl) (pe_op op_mod (pe_op op_pow (pe_op op_add (pe_op op_add (pe_ix ix_list (pv 0) pe_int (fun _ _ => rfl)) (pe_op op_mulW pe_int (pe_ix ix_list (pv 0) pe_int (fun _ _ => rfl)))) pe_int) pe_int) pe_int))
 (pss_cons (ps_set (i := 4) sc_law_take.nd rfl (Or.inl rfl) (pe_op op_mod (pe_op op_pow (pe_op op_add (pe_op op_mulW (pe_ix ix_list (pv 0) pe_int (fun _ _ => rfl)) (pe_ix ix_list (pv 0) pe_int (fun _ _ => rfl))) pe_int) pe_int) pe_int))
 (pss_one (ps_ret (pe_op op_mod (pe_op op_fdivW (pe_op op_add (pe_op op_mulW (pv 3) pe_int) (pv 4)) pe_int) (pv 1)))))))), ?_⟩
    refine ⟨_, rfl, p, _, _, _, rfl, rfl, SqL.of hp, rfl, _, _, rfl, rfl, _, rfl, ?_⟩
    by_cases h0 : 0 < a
    · rw [decide_eq_true h0]
      refine iteT ?_
      refine ⟨_, rfl, p, _, _, _, rfl, rfl, SqL.of hp, rfl, _, rfl, _, _, rfl, rfl, hm, ?_⟩
      refine ⟨_, rfl, p, _, _, _, rfl, rfl, SqL.of hp, rfl, _, rfl, _, _, rfl, rfl, wide_div hm hm2 (by decide) (by decide), ?_⟩
      refine ⟨_, rfl, p, _, _, 0, rfl, rfl, hp, rfl, ?_⟩
      refine ⟨_, rfl, ?_⟩
      exact k _ _ (Int.emod_nonneg _ (by omega)) (Int.emod_lt_of_pos _ hm) ⟨a / m, b, c, rfl, Int.ediv_nonneg ha (by omega), hb, hb2, hc, by omega⟩
    · rw [decide_eq_false h0]
      refine iteF ?_
      refine ⟨_, rfl, p, _, _, _, rfl, rfl, SqL.of hp, rfl, _, _, rfl, rfl, ?_⟩
      refine ⟨_, rfl, p, _, _, 2, rfl, rfl, hp, rfl, ?_⟩
      refine ⟨_, rfl, p, _, _, _, rfl, rfl, SqL.of upd_same, rfl, _, rfl, p, _, _, _, rfl, rfl, SqL.of upd_same, rfl, _, _, rfl, rfl, ?_, ?_⟩
      · exact wide_mul (a := 64) (b := 64) (by decide) (by omega) (by decide) (by decide) (by decide)
      refine ⟨_, _, rfl, rfl, _, _, rfl, rfl, _, _, rfl, rfl, ?_, ?_⟩
      · exact take_pow (by omega) (by omega) (by decide) (by decide)
      refine ⟨_, _, rfl, rfl, (by show (0 : Int) < 2147483647; decide), ?_⟩
      have y0 := Int.emod_nonneg ((b + 6007 * (c + 1) + 29) ^ Int.toNat 5) (show (2147483647 : Int) ≠ 0 by decide)
      have y1 := Int.emod_lt_of_pos ((b + 6007 * (c + 1) + 29) ^ Int.toNat 5) (show (0 : Int) < 2147483647 by decide)
      refine ⟨_, rfl, p, _, _, _, rfl, rfl, SqL.of upd_same, rfl, _, rfl, p, _, _, _, rfl, rfl, SqL.of upd_same, rfl, _, _, rfl, rfl, ?_, ?_⟩
      · exact wide_mul (a := 64) (b := 64) (by omega) (by omega) (by decide) (by decide) (by decide)
      have z1 : b * (c + 1) ≤ 2147483629 * 100001 := Int.mul_le_mul (by omega) (by omega) (by omega) (by omega)
      have z0 : 0 ≤ b * (c + 1) := Int.mul_nonneg (by omega) (by omega)
      refine ⟨_, _, rfl, rfl, _, _, rfl, rfl, ?_, ?_⟩
      · refine take_pow ?_ ?_ (by decide) (by decide)
        · show 0 ≤ b * (c + 1) + 91193
          omega
        · show b * (c + 1) + 91193 < 18446744073709551616
          omega
      refine ⟨_, _, rfl, rfl, (by show (0 : Int) < 2147483587; decide), ?_⟩
      have w0 := Int.emod_nonneg ((b * (c + 1) + 91193) ^ Int.toNat 3) (show (2147483587 : Int) ≠ 0 by decide)
      have w1 := Int.emod_lt_of_pos ((b * (c + 1) + 91193) ^ Int.toNat 3) (show (0 : Int) < 2147483587 by decide)
      refine ⟨_, rfl, _, _, rfl, rfl, ?_, _, rfl, _, _, rfl, rfl, _, _, rfl, rfl, ?_, _, rfl, _, _, rfl, rfl, hm, ?_⟩
      · refine wide_mul (a := 64) (b := 64) ?_ (by decide) (by decide) (by decide) (by decide)
        generalize (b + 6007 * (c + 1) + 29) ^ Int.toNat 5 = g at y0 y1 ⊢
        omega
      · exact wide_div (b := 64) (by decide) (by decide) (by decide) (by decide)
      exact k _ _ (Int.emod_nonneg _ (by omega)) (Int.emod_lt_of_pos _ hm) ⟨a, b, c + 1, rfl, ha, hb, hb2, by omega, by omega⟩
theorem ok_cell (T : Txt K mg) : Fn P w K mg base 1 "_law_cell" ["_law_script", "_law_k"] (Vg.spCell K) := by
  refine T.d_law_cell.fn sc_law_cell (fun _ _ _ _ _ _ us hl => match us, hl with | [_, _], _ => rfl) ?_ ?_
  · rintro vs H Q E ⟨a, ns, k, rfl, _⟩
    rfl
  · rintro f cdv A outer s H vs Q E hr ⟨a, ns, k, rfl, hS, hk0, hk1, q⟩
    refine ⟨_, (pss_cons (ps_if (pt_cmpR op_lt (pv 1) (pe_callB call_len_seq (by rfl) T.n_len PySem.boot_len (pa_cons (pv 0) pa_nil)) (nomark _)) (pss_one (ps_ret (pe_ix ix_list (pv 0) (pv 1) (fun _ _ => rfl)))) pss_nil)
 (pss_one (ps_ret (pe_op op_add (pe_op op_mulW pe_int (pv 1)) pe_int)))), ?_⟩
    refine ⟨_, rfl, _, rfl, a, _, rfl, .inl hS, _, _, rfl, rfl, _, rfl, ?_⟩
    by_cases h : k < (ns.map V.int).length
    · rw [decide_eq_true h]
      refine iteT ?_
      obtain ⟨j, rfl⟩ : ∃ j : Nat, k = (j : Int) := ⟨k.toNat, by omega⟩
      have hj : j < ns.length := by rw [List.length_map] at h; omega
      refine ⟨_, rfl, _, rfl, a, _, _, _, rfl, rfl, hS, atI_nat (v := .int ns[j]) (by rw [List.getElem?_map, List.getElem?_eq_getElem hj]; rfl), ?_⟩
      exact q _
    · rw [decide_eq_false h]
      refine iteF ?_
      refine ⟨_, rfl, _, _, rfl, rfl, wide_mul (a := 64) (b := 64) (by decide) (by omega) (by decide) (by decide) (by decide), _, _, rfl, rfl, ?_⟩
      exact q _
theorem ok_purse (T : Txt K mg) : Fn P w K mg base 1 "_law_purse" ["_law_cell_here"] spPurse := by
  refine T.d_law_purse.fn sc_law_purse (fun _ _ _ _ _ _ us hl => match us, hl with | [_], _ => rfl) ?_ ?_
  · rintro vs H Q E ⟨z, rfl, _⟩
    rfl
  · rintro f cdv A outer s H vs Q E hr ⟨z, rfl, q⟩
    refine ⟨_, (pss_one (ps_ret (pe_lst (pa_cons (pe_callB (call_max2 rfl) (by rfl) T.n_max (by decide +kernel) (pa_cons pe_int (pa_cons (pe_op op_sub (pv 0) (pe_op op_pow pe_int pe_int)) pa_nil))) (pa_cons (pe_op op_mod (pv 0) pe_int) (pa_cons pe_int pa_nil)))))), ?_⟩
    refine ⟨_, rfl, _, _, rfl, rfl, (by show (0 : Int) ≤ 18 ∧ (18 : Int) ≤ 1000000 ∧ (10 : Int).natAbs < 2 ^ 64; decide), _, _, rfl, rfl, _, _, rfl, _, rfl, _, _, rfl, rfl, (by show (0 : Int) < 2147483629; decide), (by show 3 ≤ sizeLine; decide), ?_⟩
    intro p hp
    refine q p _ hp ⟨_, _, _, rfl, ?_, Int.emod_nonneg _ (by decide), Int.emod_lt_of_pos _ (by decide), by decide, by decide⟩
    split <;> omega
theorem ok_m_TermError (T : Txt K mg) {f : Addr} {fd : FuncData} (F : Fun K "__init__" "TermError.__init__" m_TermError f fd) : FnOk P w K mg base CX0 1 f fd ["self", "text"] (spTI K) := by
  refine F.ok sc_m_TermError ?_ ?_
  · rintro vs H Q E ⟨a, C, z, rfl, _⟩
    rfl
  · rintro cdv A outer s H vs Q E hr ⟨a, C, z, rfl, O, ha, q⟩
    refine ⟨_, pss_one (ps_expr (pe_veinit (by rfl) T.n_ValueError T.v_ve (pa_cons (pv 0) (pa_cons (pv 1) pa_nil)))), ?_⟩
    exact ⟨_, rfl, _, rfl, a, C, [.str z], rfl, (by show 1 ≤ 1000; decide), O, ha, q⟩
theorem ok_m_Unknown (T : Txt K mg) {f : Addr} {fd : FuncData} (F : Fun K "__init__" "Unknown.__init__" m_Unknown f fd) : FnOk P w K mg base CX0 1 f fd ["self", "text"] (Ab.spKI K) := by
  refine F.ok sc_m_Unknown ?_ ?_
  · rintro vs H Q E ⟨a, C, z, rfl, _⟩
    rfl
  · rintro cdv A outer s H vs Q E hr ⟨a, C, z, rfl, O, ha, q⟩
    refine ⟨_, pss_one (ps_expr (Ab.pe_keinit (by rfl) T.n_KeyError T.v_ke (pa_cons (pv 0) (pa_cons (pv 1) pa_nil)))), ?_⟩
    exact ⟨_, rfl, _, rfl, a, C, [.str z], rfl, (by show 1 ≤ 1000; decide), O, ha, q⟩
theorem ok_x_NoNumber (T : Txt K mg) : Xk P w K mg base "NoNumber" "found" := by
  obtain ⟨fI, fd, hm, O, E, xf, no, iC, tI, F⟩ := T.x_NoNumber.ex
  obtain ⟨f0, fd0, hm0, C0, F0⟩ := T.x_TermError.ex
  have F1 : FnOk P w K mg base CX0 1 f0 fd0 ["self", "text"] (spTI K) := ok_m_TermError T F0
  refine ⟨hm, O, E, xf, no, fI, fd, ["self", "found"], iC, tI, F.binds (fun _ _ _ _ _ _ us hl => match us, hl with | [_, _], _ => rfl), F.ok sc_m_NoNumber ?_ ?_⟩
  · rintro vs H Q E ⟨a, v, rfl, _⟩
    rfl
  · rintro cdv A outer s H vs Q E hr ⟨a, v, rfl, ha, k⟩
    refine ⟨_, pss_cons (ps_expr (pe_clsfn C0 F1 (hr.mono (by decide)) (by rfl) hm0 (F0.binds (fun _ _ _ _ _ _ us hl => match us, hl with | [_, _], _ => rfl)) (E := fun _ _ _ => False) (fun _ _ _ _ _ _ _ h => h.elim) (pa_cons (pv 0) (pa_cons pe_str pa_nil)))) (pss_one (ps_ost (pv 0) (pv 1))), ?_⟩
    exact ⟨_, rfl, _, _, _, rfl, O, ha, _, rfl, _, rfl, _, _, rfl, O, no, .inl ⟨ha, fun dx n ne => k dx n ne⟩⟩
theorem ok_x_NoManner (T : Txt K mg) : Xk P w K mg base "NoManner" "found" := by
  obtain ⟨fI, fd, hm, O, E, xf, no, iC, tI, F⟩ := T.x_NoManner.ex
  obtain ⟨f0, fd0, hm0, C0, F0⟩ := T.x_TermError.ex
  have F1 : FnOk P w K mg base CX0 1 f0 fd0 ["self", "text"] (spTI K) := ok_m_TermError T F0
  refine ⟨hm, O, E, xf, no, fI, fd, ["self", "found"], iC, tI, F.binds (fun _ _ _ _ _ _ us hl => match us, hl with | [_, _], _ => rfl), F.ok sc_m_NoManner ?_ ?_⟩
  · rintro vs H Q E ⟨a, v, rfl, _⟩
    rfl
  · rintro cdv A outer s H vs Q E hr ⟨a, v, rfl, ha, k⟩
    refine ⟨_, pss_cons (ps_expr (pe_clsfn C0 F1 (hr.mono (by decide)) (by rfl) hm0 (F0.binds (fun _ _ _ _ _ _ us hl => match us, hl with | [_, _], _ => rfl)) (E := fun _ _ _ => False) (fun _ _ _ _ _ _ _ h => h.elim) (pa_cons (pv 0) (pa_cons pe_str pa_nil)))) (pss_one (ps_ost (pv 0) (pv 1))), ?_⟩
    exact ⟨_, rfl, _, _, _, rfl, O, ha, _, rfl, _, rfl, _, _, rfl, O, no, .inl ⟨ha, fun dx n ne => k dx n ne⟩⟩
theorem ok_x_NoRow (T : Txt K mg) : Xk P w K mg base "NoRow" "found" := by
  obtain ⟨fI, fd, hm, O, E, xf, no, iC, tI, F⟩ := T.x_NoRow.ex
  obtain ⟨f0, fd0, hm0, C0, F0⟩ := T.x_TermError.ex
  have F1 : FnOk P w K mg base CX0 1 f0 fd0 ["self", "text"] (spTI K) := ok_m_TermError T F0
  refine ⟨hm, O, E, xf, no, fI, fd, ["self", "found"], iC, tI, F.binds (fun _ _ _ _ _ _ us hl => match us, hl with | [_, _], _ => rfl), F.ok sc_m_NoRow ?_ ?_⟩
  · rintro vs H Q E ⟨a, v, rfl, _⟩
    rfl
  · rintro cdv A outer s H vs Q E hr ⟨a, v, rfl, ha, k⟩
    refine ⟨_, pss_cons (ps_expr (pe_clsfn C0 F1 (hr.mono (by decide)) (by rfl) hm0 (F0.binds (fun _ _ _ _ _ _ us hl => match us, hl with | [_, _], _ => rfl)) (E := fun _ _ _ => False) (fun _ _ _ _ _ _ _ h => h.elim) (pa_cons (pv 0) (pa_cons pe_str pa_nil)))) (pss_one (ps_ost (pv 0) (pv 1))), ?_⟩
    exact ⟨_, rfl, _, _, _, rfl, O, ha, _, rfl, _, rfl, _, _, rfl, O, no, .inl ⟨ha, fun dx n ne => k dx n ne⟩⟩
theorem ok_x_NoPlace (T : Txt K mg) : Ab.Xky P w K mg base "NoPlace" "found" := by
  obtain ⟨fI, fd, hm, O, E, xf, no, nt, iC, tI, F⟩ := T.x_NoPlace.ex
  obtain ⟨f0, fd0, hm0, C0, F0⟩ := T.x_Unknown.ex
  have F1 : FnOk P w K mg base CX0 1 f0 fd0 ["self", "text"] (Ab.spKI K) := ok_m_Unknown T F0
  refine ⟨hm, O, E, xf, no, fI, fd, ["self", "found"], iC, tI, F.binds (fun _ _ _ _ _ _ us hl => match us, hl with | [_, _], _ => rfl), F.ok sc_m_NoPlace ?_ ?_⟩
  · rintro vs H Q E ⟨a, v, rfl, _⟩
    rfl
  · rintro cdv A outer s H vs Q E hr ⟨a, v, rfl, ha, k⟩
    refine ⟨_, pss_cons (ps_expr (pe_clsfn C0 F1 (hr.mono (by decide)) (by rfl) hm0 (F0.binds (fun _ _ _ _ _ _ us hl => match us, hl with | [_, _], _ => rfl)) (E := fun _ _ _ => False) (fun _ _ _ _ _ _ _ h => h.elim) (pa_cons (pv 0) (pa_cons pe_str pa_nil)))) (pss_one (Ab.ps_setK (pv 0) (pv 1))), ?_⟩
    exact ⟨_, rfl, _, _, _, rfl, O, ha, _, rfl, _, rfl, _, _, rfl, O, nt, ha, fun dx n ne => k dx n ne⟩
theorem xk_NoNumber (T : Txt K mg) : Xk P w K mg base "NoNumber" (fld "NoNumber") := by
  rw [show fld "NoNumber" = "found" by decide +kernel]
  exact ok_x_NoNumber T
theorem xk_NoManner (T : Txt K mg) : Xk P w K mg base "NoManner" (fld "NoManner") := by
  rw [show fld "NoManner" = "found" by decide +kernel]
  exact ok_x_NoManner T
theorem xk_NoRow (T : Txt K mg) : Xk P w K mg base "NoRow" (fld "NoRow") := by
  rw [show fld "NoRow" = "found" by decide +kernel]
  exact ok_x_NoRow T
theorem xk_NoPlace (T : Txt K mg) : Xky P w K mg base "NoPlace" (fld "NoPlace") := by
  rw [show fld "NoPlace" = "found" by decide +kernel]
  exact ok_x_NoPlace T
theorem fu_is_number (T : Txt K mg) : Fv P w K mg base 1 "is_number" ["thing"] afNum := by
  refine fv_of T.d_is_number sc_is_number (fun _ _ _ _ _ _ us hl => match us, hl with | [_], _ => rfl) (fun O cs Xf Kc h => match cs, h with | [_], _ => rfl) ?_
  intro f cdv A outer s H E hr
  refine ⟨_, (dss_one (ds_ret (de_and (de_callB cr_isi sb_isi (by rfl) T.n_isinstance (by decide +kernel) (da_cons (dv 0) (da_cons (de_raw (pe_bltn (v := .ty "int") (by rfl) T.n_int (by decide +kernel) rfl)) da_nil))) (de_one (de_not (de_callB cr_isi sb_isi (by rfl) T.n_isinstance (by decide +kernel) (da_cons (dv 0) (da_cons (de_raw (pe_bltn (v := .ty "bool") (by rfl) T.n_bool (by decide +kernel) rfl)) da_nil)))))))), ?_⟩
  intro O cs Xf Kc h
  obtain ⟨c_thing, rfl⟩ : ∃ c_thing, cs = [c_thing] := match cs, h with | [c_thing], _ => ⟨c_thing, rfl⟩
  refine rho_is (ρ' := [some c_thing]) rfl ?_
  obtain ⟨⟨n, hn⟩, k⟩ := h
  refine ⟨_, rfl, _, _, _, _, rfl, hn, kn_int hn, _, rfl, ?_⟩
  rw [numC_kn hn] at k
  cases e : (n == "int" || n == "bool") with
  | false => rw [e] at k; exact iteF k
  | true =>
    rw [e] at k
    exact iteT ⟨_, rfl, _, _, _, _, rfl, hn, kn_bool hn, _, rfl, k⟩
end
end My
namespace My
open PySem PySem.Spec PyProof.Rows L2 Vg Ab
section
variable {P : Program} {w : World} {K : PySem.W.Frag} {mg : Str → Option Value} {base : Heap}
theorem fu_is_list (T : Txt K mg) : Fv P w K mg base 1 "is_list" ["thing"] afIsList := by
  refine fv_of T.d_is_list sc_is_list (fun _ _ _ _ _ _ us hl => match us, hl with | [_], _ => rfl) (fun O cs Xf Kc h => match cs, h with | [_], _ => rfl) ?_
  intro f cdv A outer s H E hr
  refine ⟨_, (dss_one (ds_ret (de_callB call_isiT sb_isi2 (by rfl) T.n_isinstance (by decide +kernel) (da_cons (dv 0) (da_cons (de_tup (da_cons (de_raw (pe_bltn (v := .ty "list") (by rfl) T.n_list (by decide +kernel) rfl)) (da_cons (de_raw (pe_bltn (v := .ty "tuple") (by rfl) T.n_tuple (by decide +kernel) rfl)) da_nil))) da_nil))))), ?_⟩
  intro O cs Xf Kc h
  obtain ⟨c_thing, rfl⟩ : ∃ c_thing, cs = [c_thing] := match cs, h with | [c_thing], _ => ⟨c_thing, rfl⟩
  refine rho_is (ρ' := [some c_thing]) rfl ?_
  obtain ⟨n, hn, k⟩ := h
  exact ⟨_, rfl, by simp, c_thing, n, "list", "tuple", _, _, rfl, hn, kn_list hn, kn_tuple hn, k⟩
theorem fu_are_numbers (T : Txt K mg) : Fv P w K mg base 2 "are_numbers" ["thing"] afNums := by
  refine fv_of T.d_are_numbers sc_are_numbers (fun _ _ _ _ _ _ us hl => match us, hl with | [_], _ => rfl) (fun O cs Xf Kc h => match cs, h with | [_], _ => rfl) ?_
  intro f cdv A outer s H E hr
  have F_is_list := fu_is_list (P := P) (w := w) (base := base) T
  have F_is_number := fu_is_number (P := P) (w := w) (base := base) T
  refine ⟨_, (dss_one (ds_ret (de_and (de_callV F_is_list (takes_of rfl rfl rfl rfl) (hr.mono (by decide)) rfl (da_cons (dv 0) da_nil)) (de_one (de_callB (cr_all rfl) sb_all (by rfl) T.n_all (by decide +kernel) (da_cons (de_lc false (by rfl) sc_are_numbers.nd (di_or2 (di_list (dv 0)) (di_tup (dv 0))) (blkOk_by (own := [("part", 1)]) (N := N_are_numbers) (sc := defScope s_are_numbers) (by decide +kernel)) (fun _ _ _ _ _ => pg_name (i := 1) sc_are_numbers.nd rfl (Or.inl rfl)) (fun _ _ _ _ _ => (de_callV F_is_number takes_none (hr.mono (by decide)) rfl (da_cons (dv 1) da_nil)))) da_nil)))))), ?_⟩
  intro O cs Xf Kc h
  obtain ⟨c_thing, rfl⟩ : ∃ c_thing, cs = [c_thing] := match cs, h with | [c_thing], _ => ⟨c_thing, rfl⟩
  refine rho_is (ρ' := [some c_thing, none]) rfl ?_
  obtain ⟨r, rd, k⟩ := h
  obtain ⟨n, hn, en⟩ := rd.kn
  refine ⟨_, rfl, n, hn, _, rfl, ?_⟩
  rw [en]
  cases r with
  | none => exact iteF k
  | some es => exact iteT (all_gen (it_seq rfl rd.sq) rd.2.2 (fun D w e K he kk => ⟨_, rfl, (rd.2.1 e he).imp fun n hn => hn.up _, kk⟩) k)
theorem fu_is_manner (T : Txt K mg) : Fv P w K mg base 1 "is_manner" ["thing"] afMan := by
  refine fv_of T.d_is_manner sc_is_manner (fun _ _ _ _ _ _ us hl => match us, hl with | [_], _ => rfl) (fun O cs Xf Kc h => match cs, h with | [_], _ => rfl) ?_
  intro f cdv A outer s H E hr
  refine ⟨_, (dss_one (ds_ret (de_and (de_callB cr_isi sb_isi (by rfl) T.n_isinstance (by decide +kernel) (da_cons (dv 0) (da_cons (de_raw (pe_bltn (v := .ty "str") (by rfl) T.n_str (by decide +kernel) rfl)) da_nil))) (de_one (de_inK (dv 0) T.c_MANNERS))))), ?_⟩
  intro O cs Xf Kc h
  obtain ⟨c_thing, rfl⟩ : ∃ c_thing, cs = [c_thing] := match cs, h with | [c_thing], _ => ⟨c_thing, rfl⟩
  refine rho_is (ρ' := [some c_thing]) rfl ?_
  obtain ⟨⟨n, hn⟩, k⟩ := h
  refine ⟨_, rfl, _, _, _, _, rfl, hn, kn_str hn, _, rfl, ?_⟩
  cases e : (n == "str") with
  | false =>
    have z : manC c_thing = false := by
      cases hn with
      | dat d => cases d <;> first | rfl | cases e
      | own m => rfl
      | dct m => rfl
      | lis cs => rfl
      | tup cs => rfl
      | con ds => rfl
    rw [z] at k
    exact iteF k
  | true =>
    obtain ⟨x, rfl⟩ : ∃ x, c_thing = .dat (.str x) := by
      cases hn with
      | dat d => cases d <;> first | exact ⟨_, rfl⟩ | cases e
      | own m => cases e
      | dct m => cases e
      | lis cs => cases e
      | tup cs => cases e
      | con ds => cases e
    exact iteT ⟨_, rfl, _, rfl, rfl, k⟩
theorem fu_need_manner (T : Txt K mg) : Fv P w K mg base 4 "need_manner" ["manner"] afNeedM := by
  refine fv_of T.d_need_manner sc_need_manner (fun _ _ _ _ _ _ us hl => match us, hl with | [_], _ => rfl) (fun O cs Xf Kc h => match cs, h with | [_], _ => rfl) ?_
  intro f cdv A outer s H E hr
  have F_is_manner := fu_is_manner (P := P) (w := w) (base := base) T
  have X_NoManner := xk_NoManner (P := P) (w := w) (base := base) T
  refine ⟨_, (dss_one (ds_if (dt_not (dt_val (de_callV F_is_manner (takes_of rfl rfl rfl rfl) (hr.mono (by decide)) rfl (da_cons (dv 0) da_nil)))) (dss_one (ds_rais X_NoManner (hr.mono (by decide)) rfl (takes_of rfl rfl rfl rfl) rfl (dv 0))) dss_nil)), ?_⟩
  intro O cs Xf Kc h
  obtain ⟨c_manner, rfl⟩ : ∃ c_manner, cs = [c_manner] := match cs, h with | [c_manner], _ => ⟨c_manner, rfl⟩
  refine rho_is (ρ' := [some c_manner]) rfl ?_
  obtain ⟨hn, h⟩ := h
  refine ⟨_, rfl, hn, _, rfl, ?_⟩
  rcases h with ⟨e, k⟩ | ⟨e, k⟩
  · rw [e]
    exact iteT ⟨_, rfl, k⟩
  · rw [e]
    exact iteF k
theorem fu_follows_near (T : Txt K mg) : Fv P w K mg base 1 "follows_near" ["before", "term"] afFol := by
  refine fv_of T.d_follows_near sc_follows_near (fun _ _ _ _ _ _ us hl => match us, hl with | [_, _], _ => rfl) (fun O cs Xf Kc h => match cs, h with | [_, _], _ => rfl) ?_
  intro f cdv A outer s H E hr
  refine ⟨_, (dss_cons (ds_if (dt_cmp (op_eqD hr.units) sr_eq (dv 0) de_int (nomark _)) (dss_one (ds_ret (de_cmp op_gt sr_gt (dv 1) de_int (nomark _)))) dss_nil)
 (dss_cons (ds_if (dt_cmp (op_eqD hr.units) sr_eq (dv 0) (de_un un_neg sr_neg de_int) (nomark _)) (dss_one (ds_ret (de_cmp op_lt sr_lt (dv 1) de_int (nomark _)))) dss_nil)
 (dss_one (ds_ret de_bl)))), ?_⟩
  intro O cs Xf Kc h
  obtain ⟨c_before, c_term, rfl⟩ : ∃ c_before c_term, cs = [c_before, c_term] := match cs, h with | [c_before, c_term], _ => ⟨c_before, c_term, rfl⟩
  refine rho_is (ρ' := [some c_before, some c_term]) rfl ?_
  obtain ⟨b, t, rfl, rfl, k⟩ := h
  unfold folN at k
  refine ⟨_, rfl, .int b, .int 2, .dat _, .dat _, rfl, rfl, rfl, rfl, _, rfl, ?_⟩
  rw [eqv_int]
  by_cases h1 : b = 2
  · rw [decide_eq_true h1]
    rw [if_pos h1] at k
    exact iteT ⟨_, rfl, _, _, rfl, rfl, k⟩
  · rw [decide_eq_false h1]
    rw [if_neg h1] at k
    refine iteF ⟨_, rfl, _, rfl, .int b, .int (-2), .dat _, .dat _, rfl, rfl, rfl, rfl, _, rfl, ?_⟩
    rw [eqv_int]
    by_cases h2 : b = -2
    · rw [decide_eq_true h2]
      rw [if_pos h2] at k
      exact iteT ⟨_, rfl, _, _, rfl, rfl, k⟩
    · rw [decide_eq_false h2]
      rw [if_neg h2] at k
      exact iteF k
theorem fu_is_beginning (T : Txt K mg) : Fv P w K mg base 3 "is_beginning" ["thing", "manner"] afBeg := by
  refine fv_of T.d_is_beginning sc_is_beginning (fun _ _ _ _ _ _ us hl => match us, hl with | [_, _], _ => rfl) (fun O cs Xf Kc h => match cs, h with | [_, _], _ => rfl) ?_
  intro f cdv A outer s H E hr
  have F_are_numbers := fu_are_numbers (P := P) (w := w) (base := base) T
  have F_follows_near := fu_follows_near (P := P) (w := w) (base := base) T
  refine ⟨_, (dss_cons (ds_if (dt_not (dt_val (de_callV F_are_numbers (takes_of rfl rfl rfl rfl) (hr.mono (by decide)) rfl (da_cons (dv 0) da_nil)))) (dss_one (ds_ret de_bl)) dss_nil)
 (dss_cons (ds_set (i := 2) sc_is_beginning.nd rfl (Or.inl rfl) (de_or2 (de_slice sl_list sr_slL (dv 0) (do_some de_int) do_none) (de_slice sl_tupA sr_slT (dv 0) (do_some de_int) do_none)))
 (dss_cons (ds_if (dt_cmp op_eq sr_eqS (dv 1) de_str (nomark _)) (dss_one (ds_ret (de_callB (cr_all rfl) sb_all (by rfl) T.n_all (by decide +kernel) (da_cons (de_lc false (by rfl) sc_is_beginning.nd (di_or2 (di_list (dv 2)) (di_tup (dv 2))) (blkOk_by (own := [("term", 3)]) (N := N_is_beginning) (sc := defScope s_is_beginning) (by decide +kernel)) (fun _ _ _ _ _ => pg_name (i := 3) sc_is_beginning.nd rfl (Or.inl rfl)) (fun _ _ _ _ _ => (de_cmp op_ge sr_ge (dv 3) de_int (nomark _)))) da_nil)))) dss_nil)
 (dss_cons (ds_if (dt_cmp op_eq sr_eqS (dv 1) de_str (nomark _)) (dss_one (ds_ret (de_callB (cr_all rfl) sb_all (by rfl) T.n_all (by decide +kernel) (da_cons (de_lc false (by rfl) sc_is_beginning.nd (di_or2 (di_list (dv 2)) (di_tup (dv 2))) (blkOk_by (own := [("term", 3)]) (N := N_is_beginning) (sc := defScope s_is_beginning) (by decide +kernel)) (fun _ _ _ _ _ => pg_name (i := 3) sc_is_beginning.nd rfl (Or.inl rfl)) (fun _ _ _ _ _ => (de_cmp op_ge sr_ge (dv 3) de_int (nomark _)))) da_nil)))) dss_nil)
 (dss_cons (ds_if (dt_not (dt_val (de_callB (cr_all rfl) sb_all (by rfl) T.n_all (by decide +kernel) (da_cons (de_lc false (by rfl) sc_is_beginning.nd (di_or2 (di_list (dv 2)) (di_tup (dv 2))) (blkOk_by (own := [("term", 3)]) (N := N_is_beginning) (sc := defScope s_is_beginning) (by decide +kernel)) (fun _ _ _ _ _ => pg_name (i := 3) sc_is_beginning.nd rfl (Or.inl rfl)) (fun _ _ _ _ _ => (de_cmp op_ge sr_ge (de_callB call_abs sb_i1 (by rfl) T.n_abs (by decide +kernel) (da_cons (dv 3) da_nil)) de_int (nomark _)))) da_nil)))) (dss_one (ds_ret de_bl)) dss_nil)
 (dss_one (ds_ret (de_callB (cr_all rfl) sb_all (by rfl) T.n_all (by decide +kernel) (da_cons (de_lcT false (by decide) (by rfl) sc_is_beginning.nd (di_zip (by rfl) T.n_zip (da_cons (dv 2) (da_cons (de_or2 (de_slice sl_list sr_slL (dv 2) (do_some de_int) do_none) (de_slice sl_tupA sr_slT (dv 2) (do_some de_int) do_none)) da_nil))) (blkOk_by (own := [("before", 4), ("term", 3)]) (N := N_is_beginning) (sc := defScope s_is_beginning) (by decide +kernel)) (fun _ _ _ _ _ => pg_tup rfl (pgs_cons (pg_name (i := 4) sc_is_beginning.nd rfl (Or.inl rfl)) (pgs_cons (pg_name (i := 3) sc_is_beginning.nd rfl (Or.inl rfl)) pgs_nil))) (fun _ _ _ _ _ => (de_callV F_follows_near takes_none (hr.mono (by decide)) rfl (da_cons (dv 4) (da_cons (dv 3) da_nil))))) da_nil))))))))), ?_⟩
  intro O cs Xf Kc h
  obtain ⟨c_thing, c_manner, rfl⟩ : ∃ c_thing c_manner, cs = [c_thing, c_manner] := match cs, h with | [c_thing, c_manner], _ => ⟨c_thing, c_manner, rfl⟩
  refine rho_is (ρ' := [some c_thing, some c_manner, none, none, none]) rfl ?_
  obtain ⟨r, x, rd, rfl, k⟩ := h
  refine ⟨_, rfl, r, rd, _, rfl, ?_⟩
  cases hr' : numsR r with
  | false =>
    rw [begR_no hr'] at k
    exact iteT k
  | true =>
    obtain ⟨is, rfl⟩ := numsR_some hr'
    have eb : begR x (some (iCl is)) = begI x is := by
      show (intsC (iCl is)).elim false (begI x) = begI x is
      rw [intsC_some]
      rfl
    rw [eb] at k
    have hz : is.length < 1000000 := by have := rd.2.2; simpa [iCl] using this
    have hc : Els O c_thing (iCl is) ∨ ElsT c_thing (iCl is) := rd.1.imp (fun z => z.1) (fun z => z.1)
    refine iteF ?_
    dsimp only [aNext, aSeq, aAsg]
    refine rest_of rfl hc fun d hd => ?_
    have hd' : Els O d (iCl (is.drop 1)) ∨ ElsT d (iCl (is.drop 1)) := hd.imp (fun z => z.2) (fun z => z.2)
    have hz' : (is.drop 1).length < 1000000 := by rw [List.length_drop]; omega
    unfold begI at k
    refine ⟨_, rfl, _, _, rfl, rfl, _, rfl, ?_⟩
    by_cases h1 : x = "floor"
    · rw [decide_eq_true h1]
      rw [if_pos h1] at k
      exact iteT (all_over (g := fun t => decide (t ≥ 1)) rfl hd' hz' (fun O' x K hk => ⟨_, rfl, _, _, rfl, rfl, hk⟩) k)
    · rw [decide_eq_false h1]
      rw [if_neg h1] at k
      refine iteF ⟨_, rfl, _, _, rfl, rfl, _, rfl, ?_⟩
      by_cases h2 : x = "ceil"
      · rw [decide_eq_true h2]
        rw [if_pos h2] at k
        exact iteT (all_over (g := fun t => decide (t ≥ 2)) rfl hd' hz' (fun O' x K hk => ⟨_, rfl, _, _, rfl, rfl, hk⟩) k)
      · rw [decide_eq_false h2]
        rw [if_neg h2] at k
        refine iteF (all_over (g := fun t => decide (absI t ≥ 2)) rfl hd' hz' (fun O' x K hk => ⟨_, rfl, _, rfl, _, _, rfl, rfl, hk⟩) ⟨_, rfl, ?_⟩)
        cases ha : (is.drop 1).all fun t => decide (absI t ≥ 2) with
        | false =>
          rw [ha, Bool.false_and] at k
          exact iteT k
        | true =>
          rw [ha, Bool.true_and] at k
          refine iteF ?_
          dsimp only [aNext, aRet]
          refine all_zip (c := d) (g := folN) (is := is.drop 1) (js := (is.drop 1).drop 1) ?_ hz' (fun O' x y K hk => ⟨_, rfl, _, rfl, x, y, rfl, rfl, hk⟩) k
          intro K hK
          exact ⟨d, rfl, rest_of rfl hd' fun d2 h2 => hK d2 h2⟩
theorem fu_ends_well (T : Txt K mg) : Fv P w K mg base 1 "ends_well" ["terms", "manner"] afEnds := by
  refine fv_of T.d_ends_well sc_ends_well (fun _ _ _ _ _ _ us hl => match us, hl with | [_, _], _ => rfl) (fun O cs Xf Kc h => match cs, h with | [_, _], _ => rfl) ?_
  intro f cdv A outer s H E hr
  refine ⟨_, (dss_cons (ds_if (dt_cmp op_le sr_le (de_callB call_len_seq sb_len (by rfl) T.n_len PySem.boot_len (da_cons (dv 0) da_nil)) de_int (nomark _)) (dss_one (ds_ret (de_cmp (op_eqD hr.units) sr_eq (de_callB call_len_seq sb_len (by rfl) T.n_len PySem.boot_len (da_cons (dv 0) da_nil)) de_int (nomark _)))) dss_nil)
 (dss_cons (ds_if (dt_cmp op_eq sr_eqS (dv 1) de_str (nomark _)) (dss_one (ds_ret (de_cmp (op_neD hr.units) sr_ne (de_or2 (de_ix ix_list sr_ixL (dv 0) (de_un un_neg sr_neg de_int) (fun _ _ => rfl)) (de_ix ix_tup sr_ixT (dv 0) (de_un un_neg sr_neg de_int) (fun _ _ => rfl))) de_int (nomark _)))) dss_nil)
 (dss_cons (ds_if (dt_cmp op_eq sr_eqS (dv 1) de_str (nomark _)) (dss_one (ds_ret (de_cmp (op_neD hr.units) sr_ne (de_or2 (de_ix ix_list sr_ixL (dv 0) (de_un un_neg sr_neg de_int) (fun _ _ => rfl)) (de_ix ix_tup sr_ixT (dv 0) (de_un un_neg sr_neg de_int) (fun _ _ => rfl))) de_int (nomark _)))) dss_nil)
 (dss_one (ds_ret de_bl))))), ?_⟩
  intro O cs Xf Kc h
  obtain ⟨c_terms, c_manner, rfl⟩ : ∃ c_terms c_manner, cs = [c_terms, c_manner] := match cs, h with | [c_terms, c_manner], _ => ⟨c_terms, c_manner, rfl⟩
  refine rho_is (ρ' := [some c_terms, some c_manner]) rfl ?_
  obtain ⟨is, x, rd, rfl, k⟩ := h
  have hc : Els O c_terms (iCl is) ∨ ElsT c_terms (iCl is) := rd.1.imp (fun z => z.1) (fun z => z.1)
  have len : (iCl is).length = is.length := by simp [iCl]
  unfold endI at k
  refine ⟨_, rfl, _, is.length, rfl, .inl ⟨iCl is, hc, len⟩, _, _, rfl, rfl, _, rfl, ?_⟩
  by_cases h1 : is.length ≤ 1
  · rw [decide_eq_true (show (is.length : Int) ≤ 1 by omega)]
    rw [if_pos h1] at k
    refine iteT ⟨_, rfl, _, is.length, rfl, .inl ⟨iCl is, hc, len⟩, .int _, .int 1, .dat _, .dat _, rfl, rfl, rfl, rfl, ?_⟩
    rw [eqv_int, show decide ((is.length : Int) = 1) = decide (is.length = 1) from decide_eq_decide.mpr (by omega)]
    exact k
  · rw [decide_eq_false (show ¬ (is.length : Int) ≤ 1 by omega)]
    rw [if_neg h1] at k
    refine iteF ⟨_, rfl, _, _, rfl, rfl, _, rfl, ?_⟩
    by_cases h2 : x = "floor"
    · rw [decide_eq_true h2]
      rw [if_pos h2] at k
      refine iteT ?_
      dsimp only [aRet, aOp]
      refine ix_last rfl hc h1 ?_
      refine ⟨.int _, .int 1, .dat _, .dat _, rfl, rfl, rfl, rfl, ?_⟩
      rw [eqv_int]
      exact k
    · rw [decide_eq_false h2]
      rw [if_neg h2] at k
      refine iteF ⟨_, rfl, _, _, rfl, rfl, _, rfl, ?_⟩
      by_cases h3 : x = "near"
      · rw [decide_eq_true h3]
        rw [if_pos h3] at k
        refine iteT ?_
        dsimp only [aRet, aOp]
        refine ix_last rfl hc h1 ?_
        refine ⟨.int _, .int 2, .dat _, .dat _, rfl, rfl, rfl, rfl, ?_⟩
        rw [eqv_int]
        exact k
      · rw [decide_eq_false h3]
        rw [if_neg h3] at k
        exact iteF k
theorem fu_is_row (T : Txt K mg) : FvD P w K mg base 5 "is_row" ["thing", "manner"] "manner" (.str "floor") afIsRow := by
  refine fvd_of T.d_is_row sc_is_row (fun _ _ => by constructor) (fun _ _ _ _ _ _ _ us its h1 h2 => match us, its, h1, h2 with | [_, _], [_], _, _ => ⟨_, rfl, rfl⟩) (fun _ _ _ _ _ _ _ us its h1 h2 => match us, its, h1, h2 with | [_], [_], _, _ => ⟨_, rfl, rfl⟩) (fun _ _ _ _ _ _ _ us its _ h1 h2 => match us, its, h1, h2 with | [_], [_], _, _ => ⟨_, rfl, rfl⟩) (by decide) (fun O cs Xf Kc h => match cs, h with | [_, _], _ => rfl) ?_
  intro f cdv A outer s H E hr
  have F_need_manner := fu_need_manner (P := P) (w := w) (base := base) T
  have F_is_beginning := fu_is_beginning (P := P) (w := w) (base := base) T
  have F_ends_well := fu_ends_well (P := P) (w := w) (base := base) T
  refine ⟨_, (dss_cons (ds_expr (de_callV F_need_manner (takes_of rfl rfl rfl rfl) (hr.mono (by decide)) rfl (da_cons (dv 1) da_nil)))
 (dss_one (ds_ret (de_and (de_callV F_is_beginning (takes_of rfl rfl rfl rfl) (hr.mono (by decide)) rfl (da_cons (dv 0) (da_cons (dv 1) da_nil))) (de_one (de_callV F_ends_well (takes_of rfl rfl rfl rfl) (hr.mono (by decide)) rfl (da_cons (dv 0) (da_cons (dv 1) da_nil)))))))), ?_⟩
  intro O cs Xf Kc h
  obtain ⟨c_thing, c_manner, rfl⟩ : ∃ c_thing c_manner, cs = [c_thing, c_manner] := match cs, h with | [c_thing, c_manner], _ => ⟨c_thing, c_manner, rfl⟩
  refine rho_is (ρ' := [some c_thing, some c_manner]) rfl ?_
  obtain ⟨hn, h⟩ := h
  rcases h with ⟨e, k⟩ | ⟨r, x, rd, rfl, e, k⟩
  · exact ⟨_, rfl, hn, .inl ⟨e, k⟩⟩
  · refine ⟨_, rfl, hn, .inr ⟨e, ?_⟩⟩
    refine ⟨_, rfl, _, rfl, r, x, rd, rfl, _, rfl, ?_⟩
    cases hb : begR x r with
    | false =>
      rw [hb, Bool.false_and] at k
      exact iteF k
    | true =>
      obtain ⟨is, rfl, ee⟩ := begR_some hb
      rw [hb, Bool.true_and, ee] at k
      exact iteT ⟨_, rfl, _, rfl, is, x, rd, rfl, k⟩
theorem numC_int {c : Ab.Cl} (h : numC c = true) : ∃ n : Int, c = .dat (.int n) := by
  cases c with
  | dat d =>
    cases d with
    | int n => exact ⟨n, rfl⟩
    | _ => cases h
  | _ => cases h
def whC (l h : Int) : Ab.Cl → Bool
  | .dat (.int n) => decide (l ≤ n) && decide (n ≤ h)
  | _ => false
theorem whC_no {l h : Int} {c : Ab.Cl} (hn : numC c = false) : whC l h c = false := by
  cases c with
  | dat d => cases d <;> first | rfl | cases hn
  | _ => rfl
def afWh : AF := fun O cs _ Kc => match cs with
  | [c, d, e] => ∃ l h : Int, (∃ n, Kn O c n) ∧ d = .dat (.int l) ∧ e = .dat (.int h) ∧ Kc O (.dat (.bool (whC l h c)))
  | _ => False
theorem fu_is_whole (T : Txt K mg) : Fv P w K mg base 2 "is_whole" ["thing", "low", "high"] afWh := by
  refine fv_of T.d_is_whole sc_is_whole (fun _ _ _ _ _ _ us hl => match us, hl with | [_, _, _], _ => rfl) (fun O cs Xf Kc h => match cs, h with | [_, _, _], _ => rfl) ?_
  intro f cdv A outer s H E hr
  have F_is_number := fu_is_number (P := P) (w := w) (base := base) T
  refine ⟨_, (dss_one (ds_ret (de_and (de_callV F_is_number (takes_of rfl rfl rfl rfl) (hr.mono (by decide)) rfl (da_cons (dv 0) da_nil)) (de_one (de_chain op_le op_le sr_le sr_le (dv 1) (dv 0) (dv 2)))))), ?_⟩
  intro O cs Xf Kc h
  obtain ⟨c_thing, c_low, c_high, rfl⟩ : ∃ c_thing c_low c_high, cs = [c_thing, c_low, c_high] := match cs, h with | [c_thing, c_low, c_high], _ => ⟨c_thing, c_low, c_high, rfl⟩
  refine rho_is (ρ' := [some c_thing, some c_low, some c_high]) rfl ?_
  obtain ⟨l, h, kn, rfl, rfl, k⟩ := h
  (try simp only [aVar, aC, aSeq, aNext, aDrop, aRet, aRetN, aIfS, aAsg, aName, aPar, aPar3, aGNil, aGCons, aGTup, aOp, aUn, aI0, aI, aU, aTest, aAnd, aOr, aNot, aAndV, aOrV, aNotV, aIf, aCons, aNil, aTup, aLst, aCall, aCallD, aCallK, aCB, aEi, aApp, aRais, aAugI, aSl, aPart, aNoPart, w_slL, w_slS, w_cat, aJs, aFmtS, aFmtI, aJoin, bStr, bI1, bI2, bLenS, Ab.Cl.at.injEq, exists_eq_right, w_tru, w_truI, w_truB, w_truN, w_truS, w_odd1, bne_iff_ne, ne_eq, w_eqI, w_neI, w_eqB, w_neB, w_eqFr, w_neFr, aRevM, aRev1, aCallH, w_eqNilD, w_neNilD, w_isN, w_notN, nnD_n, nnD_t, nnD_i, nnD_l, nnD_s, nnD_b, nnD_fr, w_ixT, w_ixL, w_elsT, w_atN, w_at0, w_at1, w_at2, w_at3, w_l0, w_l1, w_l2, w_l3, w_l4, w_l5, w_l6, w_l7, w_l8, w_l9, w_l10, w_l11, w_l12, w_t0, w_t1, w_t2, w_t3, w_t4, w_t5, w_t6, w_t7, w_t8, w_ixLC, w_ixTC, w_lenD, w_lenT, w_neNil, w_eqNil, w_ixLis, aSetF, aFld, aMet0, aMkI, w_sqrt, aDct1, aDct0, aDct0O, aCallN, pickC, List.cons_append, List.nil_append, w_elsTup, aCallR, w_elsFr, w_ixFr, aLstO, w_isiTup, w_isiLis, w_isiInt, w_isiBool, w_isiStr, w_isiDct, w_reprB, w_reprGD, w_tupleD, w_listT, w_listFr, aNeS, aEqS, aNotB, aIsB, eq_self, not_true_eq_false, not_false_eq_true, decide_true, decide_false, Bool.not_true, Bool.not_false, w_forR1, w_intB, w_elsTC, wipeR, aRaw, aTry, List.map_cons, List.map_nil, List.length_cons, List.length_nil, List.set_cons_zero, List.set_cons_succ, List.getElem?_cons_zero, List.getElem?_cons_succ, Option.some.injEq, Ab.Cl.dat.injEq, PyData.int.injEq, PyData.bool.injEq, PyData.str.injEq, PyData.tuple.injEq, List.cons.injEq, and_true, true_and, exists_eq_left, exists_eq_left', exists_and_left, exists_and_right, and_assoc, exists_const, decide_eq_true_eq, Bool.not_eq_true', decide_eq_false_iff_not, Bool.false_eq_true, Bool.true_eq_false, if_true, if_false, reduceIte, reduceCtorEq, false_and, Nat.reduceAdd, Nat.reduceLeDiff, bAny, bStrS, w_eqT0, PyData.dict.injEq, aChain, aLeS, isTupD, isStrD, isIntD, isBoolD, isLisD, nnD, numC, aDispD, aDGetD, aDInD, aDisp, aDGet, aDIn, aKdIn, aKdGet, aTupRg, aSetIx, aCatT, aNotSg, aMk0, aMkN, aFind, aExt, aRepl, aSplit, aPartn, aMetA, aMetN, aMulS, aOrI])
  refine ⟨kn, ?_⟩
  cases hn : numC c_thing with
  | false =>
    refine ⟨_, rfl, ?_⟩
    rw [if_neg Bool.noConfusion]
    rw [whC_no hn] at k
    exact k
  | true =>
    obtain ⟨n, rfl⟩ := My.numC_int hn
    refine ⟨_, rfl, ?_⟩
    rw [if_pos rfl]
    try simp only [aChain]
    (try simp only [aVar, aC, aSeq, aNext, aDrop, aRet, aRetN, aIfS, aAsg, aName, aPar, aPar3, aGNil, aGCons, aGTup, aOp, aUn, aI0, aI, aU, aTest, aAnd, aOr, aNot, aAndV, aOrV, aNotV, aIf, aCons, aNil, aTup, aLst, aCall, aCallD, aCallK, aCB, aEi, aApp, aRais, aAugI, aSl, aPart, aNoPart, w_slL, w_slS, w_cat, aJs, aFmtS, aFmtI, aJoin, bStr, bI1, bI2, bLenS, Ab.Cl.at.injEq, exists_eq_right, w_tru, w_truI, w_truB, w_truN, w_truS, w_odd1, bne_iff_ne, ne_eq, w_eqI, w_neI, w_eqB, w_neB, w_eqFr, w_neFr, aRevM, aRev1, aCallH, w_eqNilD, w_neNilD, w_isN, w_notN, nnD_n, nnD_t, nnD_i, nnD_l, nnD_s, nnD_b, nnD_fr, w_ixT, w_ixL, w_elsT, w_atN, w_at0, w_at1, w_at2, w_at3, w_l0, w_l1, w_l2, w_l3, w_l4, w_l5, w_l6, w_l7, w_l8, w_l9, w_l10, w_l11, w_l12, w_t0, w_t1, w_t2, w_t3, w_t4, w_t5, w_t6, w_t7, w_t8, w_ixLC, w_ixTC, w_lenD, w_lenT, w_neNil, w_eqNil, w_ixLis, aSetF, aFld, aMet0, aMkI, w_sqrt, aDct1, aDct0, aDct0O, aCallN, pickC, List.cons_append, List.nil_append, w_elsTup, aCallR, w_elsFr, w_ixFr, aLstO, w_isiTup, w_isiLis, w_isiInt, w_isiBool, w_isiStr, w_isiDct, w_reprB, w_reprGD, w_tupleD, w_listT, w_listFr, aNeS, aEqS, aNotB, aIsB, eq_self, not_true_eq_false, not_false_eq_true, decide_true, decide_false, Bool.not_true, Bool.not_false, w_forR1, w_intB, w_elsTC, wipeR, aRaw, aTry, List.map_cons, List.map_nil, List.length_cons, List.length_nil, List.set_cons_zero, List.set_cons_succ, List.getElem?_cons_zero, List.getElem?_cons_succ, Option.some.injEq, Ab.Cl.dat.injEq, PyData.int.injEq, PyData.bool.injEq, PyData.str.injEq, PyData.tuple.injEq, List.cons.injEq, and_true, true_and, exists_eq_left, exists_eq_left', exists_and_left, exists_and_right, and_assoc, exists_const, decide_eq_true_eq, Bool.not_eq_true', decide_eq_false_iff_not, Bool.false_eq_true, Bool.true_eq_false, if_true, if_false, reduceIte, reduceCtorEq, false_and, Nat.reduceAdd, Nat.reduceLeDiff, bAny, bStrS, w_eqT0, PyData.dict.injEq, aChain, aLeS, isTupD, isStrD, isIntD, isBoolD, isLisD, nnD, numC, aDispD, aDGetD, aDInD, aDisp, aDGet, aDIn, aKdIn, aKdGet, aTupRg, aSetIx, aCatT, aNotSg, aMk0, aMkN, aFind, aExt, aRepl, aSplit, aPartn, aMetA, aMetN, aMulS, aOrI])
    unfold whC at k
    by_cases h1 : l ≤ n
    · rw [if_pos h1]
      simp only [decide_eq_true h1, Bool.true_and] at k
      exact k
    · rw [if_neg h1]
      simp only [decide_eq_false h1, Bool.false_and] at k
      exact k
end
end My
namespace My
open PySem PySem.Spec PyProof.Rows L2 Vg Ab
section
variable {P : Program} {w : World} {K : PySem.W.Frag} {mg : Str → Option Value} {base : Heap}
section
variable {O : Ob} {ρ : Rho} {XX : XC} {t : AT} {v w : AS} {A : AEn}
theorem sq_join {Pr : Ob → Rho → Prop} (fin : ∀ O' ρ', Pr O' ρ' → v A XX O' ρ') (h : (∀ O' ρ', Pr O' ρ' → v A XX O' ρ') → t O ρ XX fun O1 b => if b = true then w { A with nx := v A XX } XX O1 ρ else v A XX O1 ρ) : aSeq (aIfS t w aNext) v A XX O ρ := h fin
end
abbrev sD (x : Str) : Ab.Cl := .dat (.str x)
def clD (e : Bool) : PyData := if e = true then .str "end" else .none
/-- the stream of a row, as it is kept -/
def rowW (x : Str) (is : List Int) (e : Bool) (m b : Addr) : Ow := .ins "Row" [("_manner", sD x), ("_made", .at m), ("_closed", .dat (clD e)), ("_begun", .at b), ("_row", .dat (.list (is.map .int)))]
abbrev madeW (is : List Int) (j : Nat) : Ow := .lst (iCl (is.take j))
structure StO (O : Ob) (c : Ab.Cl) (F : Ow → Ow → Ob) (s m b : Addr) (x : Str) (is : List Int) (j : Nat) (e : Bool) : Prop where
  c : c = .at s
  l1 : ∀ w1 w2, Ab.Lo (F w1 w2) s w1 fun w => F w w2
  l2 : ∀ w1 w2, Ab.Lo (F w1 w2) m w2 fun w => F w1 w
  o : O = F (rowW x is e m b) (madeW is j)
  jl : j ≤ is.length
  en : e = true → j = is.length
  sm : is.length ≤ 1000
theorem pu_fld {O : Ob} {ρ : Rho} {XX : XC} {a : AE} {s : Addr} {x f : Str} {fs : List (Str × Ab.Cl)} {v : Ab.Cl} (ha : Ab.Pu a O ρ XX (.at s)) (hm : (s, Ow.ins x fs) ∈ O) (hl : fs.lookup f = some v) : Ab.Pu (aFld x f a) O ρ XX v := fun K k => ha _ ⟨s, fs, v, rfl, hm, hl, k⟩
section
variable {O : Ob} {c : Ab.Cl} {F : Ow → Ow → Ob} {s m b : Addr} {x : Str} {is : List Int} {j : Nat} {e : Bool}
theorem StO.m1 (h : StO O c F s m b x is j e) : (s, rowW x is e m b) ∈ O := by rw [h.o]; exact (h.l1 _ _).mem
theorem StO.m2 (h : StO O c F s m b x is j e) : (m, madeW is j) ∈ O := by rw [h.o]; exact (h.l2 _ _).mem
theorem StO.made (h : StO O c F s m b x is j e) {ρ : Rho} {XX : XC} {a : AE} (ha : Ab.Pu a O ρ XX c) : Ab.Pu (aFld "Row" "_made" a) O ρ XX (.at m) := pu_fld (h.c ▸ ha) h.m1 rfl
theorem StO.closed (h : StO O c F s m b x is j e) {ρ : Rho} {XX : XC} {a : AE} (ha : Ab.Pu a O ρ XX c) : Ab.Pu (aFld "Row" "_closed" a) O ρ XX (.dat (clD e)) := pu_fld (h.c ▸ ha) h.m1 rfl
theorem StO.row (h : StO O c F s m b x is j e) {ρ : Rho} {XX : XC} {a : AE} (ha : Ab.Pu a O ρ XX c) : Ab.Pu (aFld "Row" "_row" a) O ρ XX (.dat (.list (is.map .int))) := pu_fld (h.c ▸ ha) h.m1 rfl
theorem StO.els (h : StO O c F s m b x is j e) : Els O (.at m) (iCl (is.take j)) := .own h.m2
theorem StO.len (h : StO O c F s m b x is j e) : (iCl (is.take j)).length = j := by simp [iCl, h.jl]
/-- with other places made -/
theorem StO.put (h : StO O c F s m b x is j e) (j' : Nat) (e' : Bool) (hj : j' ≤ is.length) (he : e' = true → j' = is.length) : StO (F (rowW x is e' m b) (madeW is j')) c F s m b x is j' e' := ⟨h.c, h.l1, h.l2, rfl, hj, he, h.sm⟩
end
theorem pu_notN {O : Ob} {ρ : Rho} {XX : XC} {a b : AE} {d : PyData} (ha : Ab.Pu a O ρ XX (.dat d)) (hb : Ab.Pu b O ρ XX (.dat .none)) : Ab.Pu (aOp aNotN a b) O ρ XX (.dat (.bool (!nnD d))) := fun K k => ha _ (hb _ (w_notN.mpr k))
def moreD (is : List Int) (j : Nat) : PyData := if j < is.length then .tuple [.str "term", .int (is.getD j 0)] else .tuple [.str "end"]
theorem iCl_at {is : List Int} {j : Nat} (h : j < is.length) : atI (iCl is) (j : Int) = some (.dat (.int (is.getD j 0))) := by
  refine atI_nat ?_
  simp [iCl, h]
theorem map_iCl (is : List Int) : (is.map PyData.int).map Ab.Cl.dat = iCl is := by simp [iCl]
theorem t_metA {O : Ob} {ρ : Rho} {XX : XC} {a : AE} {b : AA} {s : Addr} {x mm : Str} {fs : List (Str × Ab.Cl)} {af : AF} {K : KC} (ha : Ab.Pu a O ρ XX (.at s)) (hm : (s, Ow.ins x fs) ∈ O) (hl : fs.lookup mm = none)
    (h : b O ρ XX fun O2 cs => af O2 (.at s :: cs) (fun O' y c => XX O' ρ y c) K) : aMetA x mm af a b O ρ XX K := ha _ ⟨s, fs, rfl, hm, hl, h⟩
theorem t_met0 {O : Ob} {ρ : Rho} {XX : XC} {a : AE} {s : Addr} {x mm : Str} {fs : List (Str × Ab.Cl)} {af : AF} {K : KC} (ha : Ab.Pu a O ρ XX (.at s)) (hm : (s, Ow.ins x fs) ∈ O) (hl : fs.lookup mm = none)
    (h : af O [.at s] (fun O' y c => XX O' ρ y c) K) : aMet0 x mm af a O ρ XX K := ha _ ⟨s, fs, rfl, hm, hl, h⟩
theorem bl_own {O : Ob} {m : Addr} {cs : List Ab.Cl} {K : KC} (hm : (m, Ow.lst cs) ∈ O) (k : ∀ q, K ((q, .lst cs) :: O) (.at q)) : bList true O [.at m] K := ⟨.at m, cs, rfl, .inl (.own hm), by rw [if_pos rfl]; exact k⟩
def afMore : AF := fun O cs _ Kc => match cs with
  | [c] => ∃ F s m b x is j e, StO O c F s m b x is j e ∧ Kc O (.dat (moreD is j))
  | _ => False
theorem fu_Row__more (T : Txt K mg) : FvM P w K mg base 1 "Row" "more" ["self"] afMore := by
  refine fvm_of T.d_Row__more sc_Row__more (fun _ _ _ _ _ _ us hl => match us, hl with | [_], _ => rfl) (fun O cs Xf Kc h => match cs, h with | [_], _ => rfl) ?_
  intro f cdv A outer s H E hr
  refine ⟨_, (dss_cons (ds_set (i := 1) sc_Row__more.nd rfl (Or.inl rfl) (de_callB call_len_seq sb_len (by rfl) T.n_len PySem.boot_len (da_cons (de_fld T.f_Row__made (dv 0)) da_nil)))
 (dss_one (ds_ret (de_ifExp (dt_cmp op_lt sr_lt (dv 1) (de_callB call_len_seq sb_len (by rfl) T.n_len PySem.boot_len (da_cons (de_fld T.f_Row__row (dv 0)) da_nil)) (nomark _)) (de_tup (da_cons de_str (da_cons (de_ix ix_list sr_ixL (de_fld T.f_Row__row (dv 0)) (dv 1) (fun _ _ => rfl)) da_nil))) (de_tup (da_cons de_str da_nil)))))), ?_⟩
  intro O cs Xf Kc h
  obtain ⟨c_self, rfl⟩ : ∃ c_self, cs = [c_self] := match cs, h with | [c_self], _ => ⟨c_self, rfl⟩
  refine rho_is (ρ' := [some c_self, none]) rfl ?_
  obtain ⟨F, s, m, b, x, is, j, e, S, k⟩ := h
  have er : Els O (.dat (.list (is.map .int))) (iCl is) := by rw [← map_iCl]; exact .dat _
  refine sq_setP (pu_len (S.made (pu_var rfl)) (.inl S.els)) ?_
  rw [S.len]
  refine t_ret (ife_put (put_ (pu_I0 (pu_var rfl) (pu_len (S.row (pu_var rfl)) (.inl er)))) ?_)
  have hl : (iCl is).length = is.length := by simp [iCl]
  rw [hl]
  unfold moreD at k
  by_cases h : j < is.length
  · rw [if_pos h] at k
    rw [decide_eq_true (show (j : Int) < (is.length : Int) by omega)]
    exact iteT (pu_tup2 (c := .dat (.str "term")) (d := .dat (.int (is.getD j 0))) pu_c (pu_ixL (S.row (pu_var rfl)) (pu_var rfl) er (iCl_at h)) _ k)
  · rw [if_neg h] at k
    rw [decide_eq_false (show ¬ (j : Int) < (is.length : Int) by omega)]
    exact iteF (pu_tup1 (c := .dat (.str "end")) pu_c _ k)
def afMade : AF := fun O cs _ Kc => match cs with
  | [c] => ∃ F s m b x is j e, StO O c F s m b x is j e ∧ ∀ q, Kc ((q, madeW is j) :: O) (.at q)
  | _ => False
theorem fu_Row__made (T : Txt K mg) : FvM P w K mg base 1 "Row" "made" ["self"] afMade := by
  refine fvm_of T.d_Row__made sc_Row__made (fun _ _ _ _ _ _ us hl => match us, hl with | [_], _ => rfl) (fun O cs Xf Kc h => match cs, h with | [_], _ => rfl) ?_
  intro f cdv A outer s H E hr
  refine ⟨_, (dss_one (ds_ret (de_callTy call_list_of sb_listO (by rfl) T.n_list (by decide +kernel) (da_cons (de_fld T.f_Row__made (dv 0)) da_nil)))), ?_⟩
  intro O cs Xf Kc h
  obtain ⟨c_self, rfl⟩ : ∃ c_self, cs = [c_self] := match cs, h with | [c_self], _ => ⟨c_self, rfl⟩
  refine rho_is (ρ' := [some c_self]) rfl ?_
  obtain ⟨F, s, m, b, x, is, j, e, S, k⟩ := h
  exact t_ret (t_cb (t_cons_pu (S.made (pu_var rfl)) (bl_own S.m2 k)))
def afHas : AF := fun O cs _ Kc => match cs with
  | [c, d] => ∃ F s m b x is j e, StO O c F s m b x is j e ∧ ∃ n : Nat, d = .dat (.int n) ∧ Kc O (.dat (.bool (decide (n < j) || e)))
  | _ => False
theorem fu_Row__has (T : Txt K mg) : FvM P w K mg base 1 "Row" "has" ["self", "k"] afHas := by
  refine fvm_of T.d_Row__has sc_Row__has (fun _ _ _ _ _ _ us hl => match us, hl with | [_, _], _ => rfl) (fun O cs Xf Kc h => match cs, h with | [_, _], _ => rfl) ?_
  intro f cdv A outer s H E hr
  refine ⟨_, (dss_one (ds_ret (de_or (de_cmp op_lt sr_lt (dv 1) (de_callB call_len_seq sb_len (by rfl) T.n_len PySem.boot_len (da_cons (de_fld T.f_Row__made (dv 0)) da_nil)) (nomark _)) (de_one (de_cmp op_notN sr_notN (de_fld T.f_Row__closed (dv 0)) de_non (nomark _)))))), ?_⟩
  intro O cs Xf Kc h
  obtain ⟨c_self, c_k, rfl⟩ : ∃ c_self c_k, cs = [c_self, c_k] := match cs, h with | [c_self, c_k], _ => ⟨c_self, c_k, rfl⟩
  refine rho_is (ρ' := [some c_self, some c_k]) rfl ?_
  obtain ⟨F, s, m, b, x, is, j, e, S, n, rfl, k⟩ := h
  refine t_ret (pu_orV (pu_I0 (pu_var rfl) (pu_len (S.made (pu_var rfl)) (.inl S.els))) (pu_notN (S.closed (pu_var rfl)) pu_c) _ ?_)
  rw [S.len]
  have e1 : decide ((n : Int) < (j : Int)) = decide (n < j) := decide_eq_decide.mpr (by omega)
  have e2 : (!nnD (clD e)) = e := by cases e <;> rfl
  rw [e1, e2]
  exact k
def reachE (is : List Int) (n : Nat) (e : Bool) : Bool := e || decide (is.length ≤ n)
def reachJ (is : List Int) (n j : Nat) : Nat := if n < j then j else if n < is.length then n + 1 else is.length
def afReach : AF := fun O cs _ Kc => match cs with
  | [c, d] => ∃ F s m b x is j e, StO O c F s m b x is j e ∧ ∃ n : Nat, d = .dat (.int n) ∧ Kc (F (rowW x is (reachE is n e) m b) (madeW is (reachJ is n j))) (.dat (moreD is n))
  | _ => False
theorem fu_Row__reach (T : Txt K mg) : FvM P w K mg base 2 "Row" "reach" ["self", "k"] afReach := by
  refine fvm_of T.d_Row__reach sc_Row__reach (fun _ _ _ _ _ _ us hl => match us, hl with | [_, _], _ => rfl) (fun O cs Xf Kc h => match cs, h with | [_, _], _ => rfl) ?_
  intro f cdv A outer s H E hr
  have F_Row__has := fu_Row__has (P := P) (w := w) (base := base) T
  have F_Row__more := fu_Row__more (P := P) (w := w) (base := base) T
  refine ⟨_, (dss_cons (ds_while (passes_of rfl) (dt_not (dt_val (de_metA F_Row__has (takes_of rfl rfl rfl rfl) (hr.mono (by decide)) (dv 0) (da_cons (dv 1) da_nil)))) (dss_cons (ds_set (i := 2) sc_Row__reach.nd rfl (Or.inl rfl) (de_met0 F_Row__more (takes_of rfl rfl rfl rfl) (hr.mono (by decide)) (dv 0)))
 (dss_cons (ds_if (dt_cmp op_eq sr_eqS (de_ix ix_tup sr_ixT (dv 2) de_int (fun _ _ => rfl)) de_str (nomark _)) (dss_one (ds_ret (dv 2))) dss_nil)
 (dss_one (ds_if (dt_cmp op_eq sr_eqS (de_ix ix_tup sr_ixT (dv 2) de_int (fun _ _ => rfl)) de_str (nomark _)) (dss_one (ds_expr (de_app (de_fld T.f_Row__made (dv 0)) (da_cons (de_ix ix_tup sr_ixT (dv 2) de_int (fun _ _ => rfl)) da_nil)))) (dss_one (ds_setF T.f_Row__closed (dv 0) (de_ix ix_tup sr_ixT (dv 2) de_int (fun _ _ => rfl)))))))))
 (dss_cons (ds_if (dt_cmp op_lt sr_lt (dv 1) (de_callB call_len_seq sb_len (by rfl) T.n_len PySem.boot_len (da_cons (de_fld T.f_Row__made (dv 0)) da_nil)) (nomark _)) (dss_one (ds_ret (de_tup (da_cons de_str (da_cons (de_ix ix_list sr_ixL (de_fld T.f_Row__made (dv 0)) (dv 1) (fun _ _ => rfl)) da_nil))))) dss_nil)
 (dss_one (ds_ret (de_tup (da_cons (de_fld T.f_Row__closed (dv 0)) da_nil)))))), ?_⟩
  intro O cs Xf Kc h
  obtain ⟨c_self, c_k, rfl⟩ : ∃ c_self c_k, cs = [c_self, c_k] := match cs, h with | [c_self, c_k], _ => ⟨c_self, c_k, rfl⟩
  refine rho_is (ρ' := [some c_self, some c_k, none]) rfl ?_
  obtain ⟨F, s, m, b, x, is, j, e, S, n, rfl, k⟩ := h
  have z0 : reachJ is n j = reachJ is n j ∧ reachE is n e = reachE is n e := ⟨rfl, rfl⟩
  have hc := S.c
  have fl : ∀ e1, (rowW x is e1 m b) = .ins "Row" [("_manner", sD x), ("_made", .at m), ("_closed", .dat (clD e1)), ("_begun", .at b), ("_row", .dat (.list (is.map .int)))] := fun _ => rfl
  refine sq_while ⟨fun q O1 ρ1 => ∃ j1 e1 v2, StO O1 (.at s) F s m b x is j1 e1 ∧ q = (is.length - j1) + (if e1 = true then 0 else 1) ∧ reachJ is n j1 = reachJ is n j ∧ reachE is n e1 = reachE is n e ∧ ρ1 = [some (.at s), some (.dat (.int n)), v2], ⟨_, j, e, none, hc ▸ S, rfl, rfl, rfl, by rw [hc]⟩, ?_⟩
  rintro q O1 ρ1 ⟨j1, e1, v2, S1, hq, hj, he, rfl⟩
  refine t_not (t_test (t_metA (pu_var rfl) S1.m1 rfl (t_cons_pu (pu_var rfl) ⟨F, s, m, b, x, is, j1, e1, S1, n, rfl, _, rfl, ?_⟩)))
  have jl := S1.jl
  by_cases hn : n < j1
  · -- it is made
    rw [decide_eq_true hn]
    refine iteF (sq_ifP (put_ (pu_I0 (pu_var rfl) (pu_len (S1.made (pu_var rfl)) (.inl S1.els)))) ?_)
    rw [S1.len, decide_eq_true (show (n : Int) < (j1 : Int) by omega)]
    have eE : reachE is n e1 = e1 := by unfold reachE; rw [decide_eq_false (show ¬ is.length ≤ n by omega), Bool.or_false]
    have eJ : reachJ is n j1 = j1 := if_pos hn
    rw [← hj, ← he, eE, eJ, ← S1.o] at k
    have at_ : atI (iCl (is.take j1)) (n : Int) = some (.dat (.int (is.getD n 0))) := by
      refine atI_nat ?_
      have : n < is.length := by omega
      simp [iCl, hn, this]
    have hm : moreD is n = .tuple [.str "term", .int (is.getD n 0)] := if_pos (by omega)
    rw [hm] at k
    exact iteT (ret_pu (pu_tup2 (c := .dat (.str "term")) (d := .dat (.int (is.getD n 0))) pu_c (pu_ixL (S1.made (pu_var rfl)) (pu_var rfl) S1.els at_)) k)
  rw [decide_eq_false hn, Bool.false_or]
  cases e1 with
  | true =>
    refine iteF (sq_ifP (put_ (pu_I0 (pu_var rfl) (pu_len (S1.made (pu_var rfl)) (.inl S1.els)))) ?_)
    rw [S1.len, decide_eq_false (show ¬ (n : Int) < (j1 : Int) by omega)]
    have ej := S1.en rfl
    have eE : reachE is n true = true := rfl
    have eJ : reachJ is n j1 = j1 := by unfold reachJ; rw [if_neg hn, if_neg (by omega)]; exact ej.symm
    rw [← hj, ← he, eE, eJ, ← S1.o] at k
    have hm : moreD is n = .tuple [.str "end"] := if_neg (by omega)
    rw [hm] at k
    exact iteF (ret_pu (pu_tup1 (c := .dat (.str "end")) (S1.closed (pu_var rfl))) k)
  | false =>
    refine iteT (sq_set (t_met0 (pu_var rfl) S1.m1 rfl ⟨F, s, m, b, x, is, j1, false, S1, ?_⟩))
    by_cases hl : j1 < is.length
    · have hm : moreD is j1 = .tuple [.str "term", .int (is.getD j1 0)] := if_pos hl
      rw [hm]
      have eT : ElsT (.dat (.tuple [.str "term", .int (is.getD j1 0)])) [.dat (.str "term"), .dat (.int (is.getD j1 0))] := .dat [_, _]
      refine sq_ifP (put_ (pu_eqS (x := "term") (y := "open") (pu_ixT (pu_var rfl) pu_c eT rfl) pu_c)) ?_
      rw [decide_eq_false (show ¬ ("term" : Str) = "open" by decide)]
      refine iteF ?_
      refine t_ifS (t_test (pu_eqS (x := "term") (y := "term") (pu_ixT (pu_var rfl) pu_c eT rfl) pu_c _ ⟨_, rfl, ?_⟩))
      rw [decide_eq_true rfl]
      refine iteT (app_pu (cs := iCl (is.take j1)) (S1.made (pu_var rfl)) (pu_ixT (pu_var rfl) pu_c eT rfl) (by rw [S1.o]; exact S1.l2 _ _) (by simp [iCl]; have := S1.sm; omega) ?_)
      have em : Ow.lst (iCl (is.take j1) ++ [.dat (.int (is.getD j1 0))]) = madeW is (j1 + 1) := by
        have e2 : is.take (j1 + 1) = is.take j1 ++ [is.getD j1 0] := by
          rw [List.take_add_one, List.getElem?_eq_getElem hl]
          simp [hl]
        unfold madeW
        rw [e2]
        unfold iCl
        rw [List.map_append]
        rfl
      rw [em]
      refine ⟨_, ?_, j1 + 1, false, _, S1.put (j1 + 1) false hl (fun z => by cases z), rfl, ?_, he, rfl⟩
      · rw [hq]; simp only [Bool.false_eq_true, if_false]; omega
      · rw [← hj]
        unfold reachJ
        by_cases h1 : n < j1 + 1
        · rw [if_pos h1, if_neg hn, if_pos (by omega)]; omega
        · rw [if_neg h1, if_neg hn]
    · have hm : moreD is j1 = .tuple [.str "end"] := if_neg hl
      rw [hm]
      have eT : ElsT (.dat (.tuple [.str "end"])) [.dat (.str "end")] := .dat [_]
      refine sq_ifP (put_ (pu_eqS (x := "end") (y := "open") (pu_ixT (pu_var rfl) pu_c eT rfl) pu_c)) ?_
      rw [decide_eq_false (show ¬ ("end" : Str) = "open" by decide)]
      refine iteF ?_
      refine t_ifS (t_test (pu_eqS (x := "end") (y := "term") (pu_ixT (pu_var rfl) pu_c eT rfl) pu_c _ ⟨_, rfl, ?_⟩))
      rw [decide_eq_false (show ¬ ("end" : Str) = "term" by decide)]
      refine iteF (pu_ixT (pu_var rfl) pu_c eT rfl _ (pu_var rfl _ ⟨s, _, _, rfl, (by rw [S1.o]; exact S1.l1 _ _), (by simp), ?_⟩))
      refine ⟨_, ?_, j1, true, _, S1.put j1 true jl (fun _ => by omega), rfl, hj, ?_, rfl⟩
      · rw [hq]; simp only [Bool.false_eq_true, if_false, if_true]; omega
      · rw [← he]
        unfold reachE
        rw [decide_eq_true (show is.length ≤ n by omega), Bool.or_true, Bool.or_true]
def afAsk : AF := fun O cs Xf Kc => match cs with
  | [c, d] => ∃ F s m b x is j e, StO O c F s m b x is j e ∧ (∃ n, Kn O d n) ∧ ((whC 0 999 d = false ∧ Xf O "NoPlace" d) ∨ ∃ n : Nat, n ≤ 999 ∧ d = .dat (.int n) ∧ Kc (F (rowW x is (reachE is n e) m b) (madeW is (reachJ is n j))) (.dat (moreD is n)))
  | _ => False
theorem fu_Row__ask (T : Txt K mg) : FvM P w K mg base 4 "Row" "ask" ["self", "k"] afAsk := by
  refine fvm_of T.d_Row__ask sc_Row__ask (fun _ _ _ _ _ _ us hl => match us, hl with | [_, _], _ => rfl) (fun O cs Xf Kc h => match cs, h with | [_, _], _ => rfl) ?_
  intro f cdv A outer s H E hr
  have F_Row__reach := fu_Row__reach (P := P) (w := w) (base := base) T
  have F_is_whole := fu_is_whole (P := P) (w := w) (base := base) T
  have X_NoPlace := xk_NoPlace (P := P) (w := w) (base := base) T
  refine ⟨_, (dss_cons (ds_if (dt_not (dt_val (de_callV F_is_whole (takes_of rfl rfl rfl rfl) (hr.mono (by decide)) rfl (da_cons (dv 1) (da_cons de_int (da_cons (de_con (pe_glob (v := .int 999) rfl T.c_LAST_PLACE.choose_spec ⟨_, rfl⟩)) da_nil)))))) (dss_one (ds_raisK X_NoPlace (hr.mono (by decide)) rfl (takes_of rfl rfl rfl rfl) rfl (dv 1))) dss_nil)
 (dss_cons (ds_set (i := 2) sc_Row__ask.nd rfl (Or.inl rfl) (de_metA F_Row__reach (takes_of rfl rfl rfl rfl) (hr.mono (by decide)) (dv 0) (da_cons (dv 1) da_nil)))
 (dss_cons (ds_if (dt_cmp op_ne sr_neS (de_ix ix_tup sr_ixT (dv 2) de_int (fun _ _ => rfl)) de_str (nomark _)) (dss_one (ds_ret (dv 2))) dss_nil)
 (dss_cons (ds_never _)
 (dss_one (ds_ret (de_tup (da_cons de_str (da_cons (dv 3) (da_cons (dv 4) da_nil)))))))))), ?_⟩
  intro O cs Xf Kc h
  obtain ⟨c_self, c_k, rfl⟩ : ∃ c_self c_k, cs = [c_self, c_k] := match cs, h with | [c_self, c_k], _ => ⟨c_self, c_k, rfl⟩
  refine rho_is (ρ' := [some c_self, some c_k, none, none, none]) rfl ?_
  obtain ⟨F, s, m, b, x, is, j, e, S, kn, h⟩ := h
  have hc := S.c
  subst hc
  refine sq_if (t_not (t_test (call3 (pu_var rfl) pu_c pu_c ⟨0, 999, kn, rfl, rfl, ?_⟩)))
  rcases h with ⟨e1, k⟩ | ⟨n, hn, rfl, k⟩
  · rw [e1]
    exact ⟨_, rfl, iteT ⟨_, rfl, k⟩⟩
  · have w1 : whC 0 999 (.dat (.int n)) = true := by
      show (decide ((0 : Int) ≤ n) && decide ((n : Int) ≤ 999)) = true
      rw [decide_eq_true (by omega), decide_eq_true (by omega)]
      rfl
    rw [w1]
    refine ⟨_, rfl, iteF ?_⟩
    refine sq_set (t_metA (pu_var rfl) S.m1 rfl (t_cons_pu (pu_var rfl) ⟨F, s, m, b, x, is, j, e, S, n, rfl, ?_⟩))
    have eT : ∃ w ds, moreD is n = .tuple (.str w :: ds) ∧ w ≠ "open" := by
      unfold moreD
      split
      · exact ⟨"term", _, rfl, by decide⟩
      · exact ⟨"end", _, rfl, by decide⟩
    obtain ⟨w1, ds, em, ne⟩ := eT
    rw [em] at k ⊢
    refine sq_ifP (put_ (pu_neS (x := w1) (y := "open") (pu_ixT (es := .dat (.str w1) :: ds.map .dat) (pu_var rfl) pu_c (.dat (.str w1 :: ds)) (show atI _ ((0 : Nat) : Int) = _ from atI_nat rfl)) pu_c)) ?_
    rw [decide_eq_false ne]
    exact iteT (ret_pu (pu_var rfl) k)
def afTerms : AF := fun O cs Xf Kc => match cs with
  | [c, d] => ∃ F s m b x is j e, StO O c F s m b x is j e ∧ (∃ n, Kn O d n) ∧ ((whC 0 1000 d = false ∧ Xf O "NoNumber" d) ∨ ∃ n : Nat, n ≤ 1000 ∧ d = .dat (.int n) ∧
      ∀ q, Kc ((q, .lst (iCl (is.take n))) :: (if n = 0 then O else F (rowW x is (reachE is (n - 1) e) m b) (madeW is (reachJ is (n - 1) j)))) (.tup [.at q, sD (if n ≤ is.length then "more" else "end")]))
  | _ => False
theorem cutD_take {α : Type} {cs : List α} {n : Nat} : Ab.cutD cs none (some (n : Int)) = cs.take n := by
  have e0 : HT.sIx cs.length 0 none = 0 := rfl
  have e1 : HT.sIx cs.length cs.length (some (n : Int)) = min n cs.length := by
    show (if (n : Int) < 0 then ((n : Int) + cs.length).toNat else min (n : Int).toNat cs.length) = _
    rw [if_neg (by omega), Int.toNat_natCast]
  unfold Ab.cutD
  rw [e0, e1, List.drop_zero, Nat.sub_zero]
  by_cases h : n ≤ cs.length
  · rw [Nat.min_eq_left h]
  · rw [Nat.min_eq_right (by omega), List.take_of_length_le (Nat.le_refl _), List.take_of_length_le (by omega)]
theorem fu_Row__terms (T : Txt K mg) : FvM P w K mg base 4 "Row" "terms" ["self", "many"] afTerms := by
  refine fvm_of T.d_Row__terms sc_Row__terms (fun _ _ _ _ _ _ us hl => match us, hl with | [_, _], _ => rfl) (fun O cs Xf Kc h => match cs, h with | [_, _], _ => rfl) ?_
  intro f cdv A outer s H E hr
  have F_is_whole := fu_is_whole (P := P) (w := w) (base := base) T
  have F_Row__reach := fu_Row__reach (P := P) (w := w) (base := base) T
  have X_NoNumber := xk_NoNumber (P := P) (w := w) (base := base) T
  refine ⟨_, (dss_cons (ds_if (dt_not (dt_val (de_callV F_is_whole (takes_of rfl rfl rfl rfl) (hr.mono (by decide)) rfl (da_cons (dv 1) (da_cons de_int (da_cons (de_con (pe_glob (v := .int 1000) rfl T.c_MOST_TERMS.choose_spec ⟨_, rfl⟩)) da_nil)))))) (dss_one (ds_rais X_NoNumber (hr.mono (by decide)) rfl (takes_of rfl rfl rfl rfl) rfl (dv 1))) dss_nil)
 (dss_cons (ds_set (i := 2) sc_Row__terms.nd rfl (Or.inl rfl) de_str)
 (dss_cons (ds_if (dt_cmp op_gt sr_gt (dv 1) de_int (nomark _)) (dss_cons (ds_set (i := 3) sc_Row__terms.nd rfl (Or.inl rfl) (de_metA F_Row__reach (takes_of rfl rfl rfl rfl) (hr.mono (by decide)) (dv 0) (da_cons (de_op op_sub sr_sub (dv 1) de_int) da_nil)))
 (dss_one (ds_if (dt_cmp op_ne sr_neS (de_ix ix_tup sr_ixT (dv 3) de_int (fun _ _ => rfl)) de_str (nomark _)) (dss_one (ds_set (i := 2) sc_Row__terms.nd rfl (Or.inl rfl) (de_ix ix_tup sr_ixT (dv 3) de_int (fun _ _ => rfl)))) dss_nil))) dss_nil)
 (dss_one (ds_ret (de_tup (da_cons (de_slice sl_list sr_slLO (de_fld T.f_Row__made (dv 0)) do_none (do_some (dv 1))) (da_cons (dv 2) da_nil)))))))), ?_⟩
  intro O cs Xf Kc h
  obtain ⟨c_self, c_many, rfl⟩ : ∃ c_self c_many, cs = [c_self, c_many] := match cs, h with | [c_self, c_many], _ => ⟨c_self, c_many, rfl⟩
  refine rho_is (ρ' := [some c_self, some c_many, none, none]) rfl ?_
  obtain ⟨F, s, m, b, x, is, j, e, S, kn, h⟩ := h
  have hc := S.c
  subst hc
  refine sq_if (t_not (t_test (call3 (pu_var rfl) pu_c pu_c ⟨0, 1000, kn, rfl, rfl, ?_⟩)))
  rcases h with ⟨e1, k⟩ | ⟨n, hn, rfl, k⟩
  · rw [e1]
    exact ⟨_, rfl, iteT ⟨_, rfl, k⟩⟩
  · have w1 : whC 0 1000 (.dat (.int n)) = true := by
      show (decide ((0 : Int) ≤ n) && decide ((n : Int) ≤ 1000)) = true
      rw [decide_eq_true (by omega), decide_eq_true (by omega)]
      rfl
    rw [w1]
    refine ⟨_, rfl, iteF (sq_setP pu_c ?_)⟩
    refine sq_join (Pr := fun O' ρ' => ∃ j' e' v3, StO O' (.at s) F s m b x is j' e' ∧ (n = 0 → O' = O) ∧ (n ≠ 0 → O' = F (rowW x is (reachE is (n - 1) e) m b) (madeW is (reachJ is (n - 1) j))) ∧ min n is.length ≤ j' ∧ ρ' = [some (.at s), some (.dat (.int n)), some (sD (if n ≤ is.length then "more" else "end")), v3]) ?_ fun fin => ?_
    · rintro O' ρ' ⟨j', e', v3, S', h0, h1, hj', rfl⟩
      have k2 : ∀ q, Kc ((q, .lst (iCl (is.take n))) :: O') (.tup [.at q, sD (if n ≤ is.length then "more" else "end")]) := by
        intro q
        have z := k q
        by_cases hz : n = 0
        · rw [if_pos hz] at z
          rw [h0 hz]
          exact z
        · rw [if_neg hz] at z
          rw [h1 hz]
          exact z
      refine t_ret (t_tup (t_cons (S'.made (pu_var rfl) _ ?_)))
      unfold aNoPart
      dsimp only
      unfold aPart
      refine pu_var rfl _ ⟨n, rfl, iCl (is.take j'), S'.els, fun q => ?_⟩
      rw [cutD_take]
      have et : (iCl (is.take j')).take n = iCl (is.take n) := by
        unfold iCl
        rw [← List.map_take, List.take_take]
        congr 1
        by_cases hz : n ≤ is.length
        · rw [Nat.min_eq_left (by omega)]
        · have a1 := S'.jl
          rw [List.take_of_length_le (by omega), List.take_of_length_le (by omega)]
      rw [et]
      exact pu_var rfl _ ⟨by simp, k2 q⟩
    · refine t_test (pu_I0 (pu_var rfl) pu_c _ ⟨_, rfl, ?_⟩)
      by_cases hz : n = 0
      · subst hz
        rw [decide_eq_false (by simp)]
        refine iteF (fin _ _ ⟨j, e, none, S, fun _ => rfl, fun z => absurd rfl z, by simp, ?_⟩)
        rw [if_pos (Nat.zero_le _)]
        rfl
      · rw [decide_eq_true (show (0 : Int) < (n : Int) by omega)]
        have en : ((n : Int) - 1) = ((n - 1 : Nat) : Int) := by omega
        refine iteT (sq_set (t_metA (pu_var rfl) S.m1 rfl (t_cons_pu (pu_I0 (g := fun i j => PyData.int (i - j)) (pu_var rfl) pu_c) ⟨F, s, m, b, x, is, j, e, S, n - 1, by rw [en], ?_⟩)))
        have jl := S.jl
        have S2 : StO (F (rowW x is (reachE is (n - 1) e) m b) (madeW is (reachJ is (n - 1) j))) (.at s) F s m b x is (reachJ is (n - 1) j) (reachE is (n - 1) e) := by
          refine S.put _ _ ?_ ?_
          · unfold reachJ
            split
            · exact jl
            · split <;> omega
          · intro z
            unfold reachE at z
            unfold reachJ
            rcases Bool.or_eq_true_iff.mp z with z | z
            · have := S.en z
              split
              · exact this
              · rw [if_neg (by omega)]
            · have := of_decide_eq_true z
              rw [if_neg (by omega), if_neg (by omega)]
        have hJ : min n is.length ≤ reachJ is (n - 1) j := by
          unfold reachJ
          split
          · omega
          · split <;> omega
        by_cases hl : n ≤ is.length
        · have hm : moreD is (n - 1) = .tuple [.str "term", .int (is.getD (n - 1) 0)] := if_pos (by omega)
          rw [hm]
          refine t_ifS (t_test (pu_neS (x := "term") (y := "term") (pu_ixT (es := [.dat (.str "term"), .dat (.int (is.getD (n - 1) 0))]) (pu_var rfl) pu_c (.dat [_, _]) rfl) pu_c _ ⟨_, rfl, ?_⟩))
          rw [decide_eq_true rfl]
          refine iteF (fin _ _ ⟨_, _, some (.dat (.tuple [.str "term", .int (is.getD (n - 1) 0)])), S2, fun z => absurd z hz, fun _ => rfl, hJ, ?_⟩)
          rw [if_pos hl]
          rfl
        · have hm : moreD is (n - 1) = .tuple [.str "end"] := if_neg (by omega)
          rw [hm]
          refine t_ifS (t_test (pu_neS (x := "end") (y := "term") (pu_ixT (es := [.dat (.str "end")]) (pu_var rfl) pu_c (.dat [_]) rfl) pu_c _ ⟨_, rfl, ?_⟩))
          rw [decide_eq_false (show ¬ ("end" : Str) = "term" by decide)]
          refine iteT (pu_ixT (es := [.dat (.str "end")]) (pu_var rfl) pu_c (.dat [_]) rfl _ (fin _ _ ⟨_, _, some (.dat (.tuple [.str "end"])), S2, fun z => absurd z hz, fun _ => rfl, hJ, ?_⟩))
          rw [if_neg hl]
          rfl
def afManner : AF := fun O cs _ Kc => match cs with
  | [c] => ∃ F s m b x is j e, StO O c F s m b x is j e ∧ Kc O (sD x)
  | _ => False
theorem fu_Row__manner (T : Txt K mg) : FvM P w K mg base 1 "Row" "manner" ["self"] afManner := by
  refine fvm_of T.d_Row__manner sc_Row__manner (fun _ _ _ _ _ _ us hl => match us, hl with | [_], _ => rfl) (fun O cs Xf Kc h => match cs, h with | [_], _ => rfl) ?_
  intro f cdv A outer s H E hr
  refine ⟨_, (dss_one (ds_ret (de_fld T.f_Row__manner (dv 0)))), ?_⟩
  intro O cs Xf Kc h
  obtain ⟨c_self, rfl⟩ : ∃ c_self, cs = [c_self] := match cs, h with | [c_self], _ => ⟨c_self, rfl⟩
  refine rho_is (ρ' := [some c_self]) rfl ?_
  obtain ⟨F, s, m, b, x, is, j, e, S, k⟩ := h
  have hc := S.c
  subst hc
  exact ret_pu (pu_fld (pu_var rfl) S.m1 rfl) k
def afAskedN : AF := fun O cs _ Kc => match cs with
  | [c] => ∃ F s m b x is j e, StO O c F s m b x is j e ∧ Kc O (.dat (.int j))
  | _ => False
theorem fu_Row__asked (T : Txt K mg) : FvM P w K mg base 1 "Row" "asked" ["self"] afAskedN := by
  refine fvm_of T.d_Row__asked sc_Row__asked (fun _ _ _ _ _ _ us hl => match us, hl with | [_], _ => rfl) (fun O cs Xf Kc h => match cs, h with | [_], _ => rfl) ?_
  intro f cdv A outer s H E hr
  refine ⟨_, (dss_one (ds_ret (de_callB call_len_seq sb_len (by rfl) T.n_len PySem.boot_len (da_cons (de_fld T.f_Row__made (dv 0)) da_nil)))), ?_⟩
  intro O cs Xf Kc h
  obtain ⟨c_self, rfl⟩ : ∃ c_self, cs = [c_self] := match cs, h with | [c_self], _ => ⟨c_self, rfl⟩
  refine rho_is (ρ' := [some c_self]) rfl ?_
  obtain ⟨F, s, m, b, x, is, j, e, S, k⟩ := h
  refine ret_pu (pu_len (S.made (pu_var rfl)) (.inl S.els)) ?_
  rw [S.len]
  exact k
def afDepth : AF := fun O cs _ Kc => match cs with
  | [c] => Kc O (.dat (.int 0))
  | _ => False
theorem fu_Row__depth (T : Txt K mg) : FvM P w K mg base 1 "Row" "depth" ["self"] afDepth := by
  refine fvm_of T.d_Row__depth sc_Row__depth (fun _ _ _ _ _ _ us hl => match us, hl with | [_], _ => rfl) (fun O cs Xf Kc h => match cs, h with | [_], _ => rfl) ?_
  intro f cdv A outer s H E hr
  refine ⟨_, (dss_one (ds_ret de_int)), ?_⟩
  intro O cs Xf Kc h
  obtain ⟨c_self, rfl⟩ : ∃ c_self, cs = [c_self] := match cs, h with | [c_self], _ => ⟨c_self, rfl⟩
  refine rho_is (ρ' := [some c_self]) rfl ?_
  exact ret_pu pu_c h
theorem pl {n : Nat} {f : Str} {c : Ab.Cl} : ∀ {fs : List (Str × Ab.Cl)}, fs.length ≤ n → (putFC f c fs).length ≤ n + 1
  | [], _ => by simp [putFC]
  | (g, d) :: r, h => by
    unfold putFC
    split
    · simp at h ⊢; omega
    · cases n with
      | zero => simp at h
      | succ n => simpa using pl (n := n) (fs := r) (by simpa using h)
section
variable {O : Ob} {ρ : Rho} {XX : XC} {v o : AE} {c : Ab.Cl} {p : Addr} {x f : Str} {fs : List (Str × Ab.Cl)} {g : Ow → Ob} {w : AS} {A : AEn}
theorem sq_setF (hv : Ab.Pu v O ρ XX c) (ho : Ab.Pu o O ρ XX (.at p)) (lo : Ab.Lo O p (.ins x fs) g) (hl : fs.length ≤ 900) (k : w A XX (g (.ins x (putFC f c fs))) ρ) : aSeq (aSetF x f o v) w A XX O ρ := hv _ (ho _ ⟨p, fs, g, rfl, lo, hl, k⟩)
theorem t_setF (hv : Ab.Pu v O ρ XX c) (ho : Ab.Pu o O ρ XX (.at p)) (lo : Ab.Lo O p (.ins x fs) g) (hl : fs.length ≤ 900) (k : A.nx (g (.ins x (putFC f c fs))) ρ) : aSetF x f o v A XX O ρ := hv _ (ho _ ⟨p, fs, g, rfl, lo, hl, k⟩)
theorem sq_setFO (ho : ∀ O, Ab.Pu o O ρ XX (.at p)) (lo : Ab.Lo O p (.ins x fs) g) (hl : fs.length ≤ 900) (k : ∀ m, w A XX ((m, .lst []) :: g (.ins x (putFC f (.at m) fs))) ρ) : aSeq (aSetF x f o (aLstO aNil)) w A XX O ρ :=
  ⟨by simp, fun m => ho _ _ ⟨p, fs, _, rfl, lo.there, hl, k m⟩⟩
end
def afBegun : AF := fun O cs _ Kc => match cs with
  | [c, d] => ∃ b f x, c = .at b ∧ Ab.Lo O b (.ins "Begun" []) f ∧ d = sD x ∧ ∀ q fs, Kc ((q, .lst []) :: f (.ins "Begun" fs)) (.dat .none)
  | _ => False
theorem fu_Begun__init (T : Txt K mg) : FvI0 P w K mg base 1 "Begun" ["self", "manner"] afBegun := by
  refine fvi0_of T.d_Begun__init sc_Begun__init (fun _ _ _ _ _ _ us hl => match us, hl with | [_, _], _ => rfl) (fun O cs Xf Kc h => match cs, h with | [_, _], _ => rfl) ?_
  intro f cdv A outer s H E hr
  refine ⟨_, (dss_cons (ds_setF T.f_Begun__manner (dv 0) (dv 1))
 (dss_cons (ds_setF T.f_Begun__terms (dv 0) (de_lstO da_nil))
 (dss_cons (ds_setF T.f_Begun__ended (dv 0) de_bl)
 (dss_one (ds_setF T.f_Begun__turn (dv 0) (de_tup (da_cons (de_tup (da_cons de_int (da_cons de_int da_nil))) (da_cons (de_tup (da_cons de_int (da_cons de_int da_nil))) da_nil)))))))), ?_⟩
  intro O cs Xf Kc h
  obtain ⟨c_self, c_manner, rfl⟩ : ∃ c_self c_manner, cs = [c_self, c_manner] := match cs, h with | [c_self, c_manner], _ => ⟨c_self, c_manner, rfl⟩
  refine rho_is (ρ' := [some c_self, some c_manner]) rfl ?_
  obtain ⟨b, f, x, rfl, lo, rfl, k⟩ := h
  refine sq_setF (pu_var rfl) (pu_var rfl) lo (by simp) ?_
  refine sq_setFO (fun _ => pu_var rfl) lo.next (Nat.le_trans (pl (Nat.le_refl 0)) (by decide)) fun q => ?_
  refine sq_setF pu_c (pu_var rfl) (lo.next).there (Nat.le_trans (pl (pl (Nat.le_refl 0))) (by decide)) ?_
  refine t_setF (pu_rows pu_c pu_c pu_c pu_c) (pu_var rfl) (lo.next).there (Nat.le_trans (pl (pl (pl (Nat.le_refl 0)))) (by decide)) ?_
  exact k q _
def afStream : AF := fun O cs _ Kc => match cs with
  | [c, d] => ∃ s f x, c = .at s ∧ Ab.Lo O s (.ins "Row" []) f ∧ d = sD x ∧ isMan x ∧ ∀ m b q fs, Kc ((q, .lst []) :: (b, .ins "Begun" fs) :: (m, .lst []) :: f (.ins "Row" [("_manner", sD x), ("_made", .at m), ("_closed", .dat .none), ("_begun", .at b)])) (.dat .none)
  | _ => False
theorem fu_Stream__init (T : Txt K mg) : FvC P w K mg base 5 "Stream" "__init__" ["self", "manner"] afStream := by
  refine fvc_of T.d_Stream__init sc_Stream__init (fun _ _ _ _ _ _ us hl => match us, hl with | [_, _], _ => rfl) (fun O cs Xf Kc h => match cs, h with | [_, _], _ => rfl) ?_
  intro f cdv A outer s H E hr
  have F_need_manner := fu_need_manner (P := P) (w := w) (base := base) T
  have F_Begun__init := fu_Begun__init (P := P) (w := w) (base := base) T
  refine ⟨_, (dss_cons (ds_expr (de_callV F_need_manner (takes_of rfl rfl rfl rfl) (hr.mono (by decide)) rfl (da_cons (dv 1) da_nil)))
 (dss_cons (ds_setF T.f_Row__manner (dv 0) (dv 1))
 (dss_cons (ds_setF T.f_Row__made (dv 0) (de_lstO da_nil))
 (dss_cons (ds_setF T.f_Row__closed (dv 0) de_non)
 (dss_one (ds_setF T.f_Row__begun (dv 0) (de_mk0 F_Begun__init (takes_of rfl rfl rfl rfl) (hr.mono (by decide)) (by rfl) (da_cons (dv 1) da_nil)))))))), ?_⟩
  intro O cs Xf Kc h
  obtain ⟨c_self, c_manner, rfl⟩ : ∃ c_self c_manner, cs = [c_self, c_manner] := match cs, h with | [c_self, c_manner], _ => ⟨c_self, c_manner, rfl⟩
  refine rho_is (ρ' := [some c_self, some c_manner]) rfl ?_
  obtain ⟨s, f, x, rfl, lo, rfl, hx, k⟩ := h
  refine sq_drop (call1 (pu_var rfl) ⟨⟨_, .dat _⟩, .inr ⟨man_in hx, ?_⟩⟩)
  refine sq_setF (pu_var rfl) (pu_var rfl) lo (by simp) ?_
  refine sq_setFO (fun _ => pu_var rfl) lo.next (Nat.le_trans (pl (Nat.le_refl 0)) (by decide)) fun m => ?_
  refine sq_setF pu_c (pu_var rfl) (lo.next).there (Nat.le_trans (pl (pl (Nat.le_refl 0))) (by decide)) ?_
  show aMk0 "Begun" afBegun (aCons (aVar 1) aNil) _ _ _ _
  refine t_cons_pu (pu_var rfl) fun b => ⟨b, _, x, rfl, .here, rfl, fun q fs => ⟨rfl, ?_⟩⟩
  refine pu_var rfl _ ⟨s, _, _, rfl, ((lo.next).there.there.there), Nat.le_trans (pl (pl (pl (Nat.le_refl 0)))) (by decide), ?_⟩
  exact k m b q fs
theorem els_lo {O : Ob} {s : Addr} {x : Str} {fs : List (Str × Ab.Cl)} {f : Ow → Ob} {c : Ab.Cl} {es : List Ab.Cl} (lo : Ab.Lo O s (.ins x fs) f) (h : Els O c es) (w : Ow) (Z : Ob) : Els (Z ++ f w) c es := by
  cases h with
  | dat ds => exact .dat ds
  | own m => exact .own (List.mem_append_right _ (lo_keep lo _ m fun z => by cases z))
  | lis cs => exact .lis _
def afRowI : AF := fun O cs _ Kc => match cs with
  | [c, d, w] => ∃ s f x is, c = .at s ∧ Ab.Lo O s (.ins "Row" []) f ∧ w = sD x ∧ isMan x ∧ RdA O d (some (iCl is)) ∧ begI x is = true ∧ endI x is = true ∧ is.length ≤ 1000 ∧
      ∀ m b q fs, Kc ((q, .lst []) :: (b, .ins "Begun" fs) :: (m, .lst []) :: f (rowW x is false m b)) (.dat .none)
  | _ => False
theorem fu_Row__init (T : Txt K mg) : FvI P w K mg base 7 "Row" s_Row__init ["self", "terms", "manner"] [.str "floor"] [.str "floor"] afRowI := by
  refine fvi_of T.d_Row__init sc_Row__init (.cons (fun _ _ => by constructor) .nil) (by simp) (fun O cs Xf Kc h => match cs, h with | [_, _, _], _ => rfl) ?_
  intro f cdv A outer s H E hr
  have F_Stream__init := fu_Stream__init (P := P) (w := w) (base := base) T
  have F_is_row := fu_is_row (P := P) (w := w) (base := base) T
  have X_NoRow := xk_NoRow (P := P) (w := w) (base := base) T
  refine ⟨_, (dss_cons (ds_if (dt_not (dt_val (de_callW0 F_is_row (takes_of rfl rfl rfl rfl) (hr.mono (by decide)) rfl (da_cons (dv 1) (da_cons (dv 2) da_nil))))) (dss_one (ds_rais X_NoRow (hr.mono (by decide)) rfl (takes_of rfl rfl rfl rfl) rfl (dv 1))) dss_nil)
 (dss_cons (ds_expr (de_cls F_Stream__init (takes_of rfl rfl rfl rfl) (hr.mono (by decide)) (by rfl) (da_cons (dv 0) (da_cons (dv 2) da_nil))))
 (dss_one (ds_setF T.f_Row__row (dv 0) (de_callTy call_list_of sb_list (by rfl) T.n_list (by decide +kernel) (da_cons (dv 1) da_nil)))))), ?_⟩
  intro O cs Xf Kc h
  obtain ⟨c_self, c_terms, c_manner, rfl⟩ : ∃ c_self c_terms c_manner, cs = [c_self, c_terms, c_manner] := match cs, h with | [c_self, c_terms, c_manner], _ => ⟨c_self, c_terms, c_manner, rfl⟩
  refine rho_is (ρ' := [some c_self, some c_terms, some c_manner]) rfl ?_
  obtain ⟨s, f, x, is, rfl, lo, rfl, hx, rd, hb, he, hl, k⟩ := h
  have lg : (begR x (some (iCl is)) && endR x (some (iCl is))) = true := by
    have e1 : begR x (some (iCl is)) = begI x is := by show (intsC (iCl is)).elim false (begI x) = _; rw [intsC_some]; rfl
    have e2 : endR x (some (iCl is)) = endI x is := by show (intsC (iCl is)).elim false (endI x) = _; rw [intsC_some]; rfl
    rw [e1, e2, hb, he]
    rfl
  refine sq_if (t_not (t_test (call2 (pu_var rfl) (pu_var rfl) ⟨⟨_, .dat _⟩, .inr ⟨_, x, rd, rfl, man_in hx, ?_⟩⟩)))
  rw [lg]
  refine ⟨_, rfl, iteF ?_⟩
  refine sq_drop (call2 (pu_var rfl) (pu_var rfl) ⟨s, f, x, rfl, lo, rfl, hx, fun m b q fs => ?_⟩)
  have el : ∀ (w : Ow) (Z : Ob), Els (Z ++ f w) c_terms (iCl is) ∨ ElsT c_terms (iCl is) := by
    intro w Z
    rcases rd.1 with ⟨h, _⟩ | ⟨h, _⟩
    · exact .inl (els_lo lo h _ _)
    · exact .inr h
  have ed : lisC (iCl is) = .dat (.list (is.map .int)) := by rw [← map_iCl, lisC_dats]
  show aCB (bList false) (aCons (aVar 1) aNil) _ _ _ _
  refine t_cb (t_cons_pu (pu_var rfl) ⟨c_terms, iCl is, rfl, el _ [(q, .lst []), (b, .ins "Begun" fs), (m, .lst [])], ?_⟩)
  rw [if_neg Bool.false_ne_true, ed]
  refine pu_var rfl _ ⟨s, _, _, rfl, (lo.next).there.there.there, by simp, ?_⟩
  exact k m b q fs
end
end My
namespace My
open PySem PySem.Spec PyProof.Rows L2 Vg Ab
section
variable {P : Program} {w : World} {K : PySem.W.Frag} {mg : Str → Option Value} {base : Heap}
theorem cpow {i j : Int} (h0 : 0 ≤ j := by decide) (h1 : j ≤ 1000000 := by decide) (h2 : i.natAbs < 2 ^ 64 := by decide) : CPow i j := ⟨h0, h1, h2⟩
theorem five {r : Int} (h0 : 1 ≤ r) (h1 : r < 6) : ∃ w : Int, atI [Ab.Cl.dat (.int 1), .dat (.int 1), .dat (.int 2), .dat (.int 5), .dat (.int 40)] (r - 1) = some (.dat (.int w)) ∧ 1 ≤ w ∧ w ≤ 40 := by
  have : r = 1 ∨ r = 2 ∨ r = 3 ∨ r = 4 ∨ r = 5 := by omega
  rcases this with rfl | rfl | rfl | rfl | rfl <;> exact ⟨_, rfl, by decide, by decide⟩
def afSz : AF := fun O cs _ Kc => match cs with
  | [c, d] => ∃ (p : Addr) (n : Nat) (f : Ow → Ob) (l : Int), c = .at p ∧ Ab.Lo O p (.pur n) f ∧ 2 ≤ n ∧ d = .dat (.int l) ∧ 1 ≤ l ∧ l ≤ 2 ∧ ∀ (r : Int) (n' : Nat), l ≤ r → r ≤ 10 ^ 12 → n ≤ n' + 2 → Kc (f (.pur n')) (.dat (.int r))
  | _ => False
theorem fu_law_size (T : Txt K mg) : Fv P w K mg base 2 "_law_size" ["_law_purse_here", "_law_low"] afSz := by
  refine fv_of T.d_law_size sc_law_size (fun _ _ _ _ _ _ us hl => match us, hl with | [_, _], _ => rfl) (fun O cs Xf Kc h => match cs, h with | [_, _], _ => rfl) ?_
  intro f cdv A outer s H E hr
  have F_law_take := ok_take (P := P) (w := w) (base := base) T
  refine ⟨_, (dss_cons (ds_set (i := 2) sc_law_size.nd rfl (Or.inl rfl) (de_old F_law_take sp_take (hr.mono (by decide)) rfl (da_cons (dv 0) (da_cons de_int da_nil))))
 (dss_cons (ds_if (dt_cmp (op_eqD hr.units) sr_eq (dv 2) de_int (nomark _)) (dss_one (ds_ret (de_op op_add sr_add (dv 1) (de_old F_law_take sp_take (hr.mono (by decide)) rfl (da_cons (dv 0) (da_cons (de_op op_sub sr_sub (de_op op_pow sr_pow de_int de_int) (dv 1)) da_nil)))))) dss_nil)
 (dss_one (ds_ret (de_op op_add sr_add (dv 1) (de_old F_law_take sp_take (hr.mono (by decide)) rfl (da_cons (dv 0) (da_cons (de_ix ix_list sr_ixL (de_lst (da_cons de_int (da_cons de_int (da_cons de_int (da_cons de_int (da_cons de_int da_nil)))))) (de_op op_sub sr_sub (dv 2) de_int) (fun _ _ => rfl)) da_nil)))))))), ?_⟩
  intro O cs Xf Kc h
  obtain ⟨c_law_purse_here, c_law_low, rfl⟩ : ∃ c_law_purse_here c_law_low, cs = [c_law_purse_here, c_law_low] := match cs, h with | [c_law_purse_here, c_law_low], _ => ⟨c_law_purse_here, c_law_low, rfl⟩
  refine rho_is (ρ' := [some c_law_purse_here, some c_law_low, none]) rfl ?_
  obtain ⟨p, n, f, l, rfl, lo, hn, rfl, l1, l2, k⟩ := h
  refine sq_set (take_r (pu_var rfl) pu_c lo (by decide) (by decide) (by omega) fun r r0 r1 => ?_)
  refine sq_ifP (put_ (pu_eqI (pu_var rfl) pu_c)) ?_
  by_cases hr : r = 0
  · rw [decide_eq_true hr]
    refine iteT (t_ret (t_op (pu_var rfl _ (take_r (m := 10 ^ 12 - l) (pu_var rfl) (pu_I0 (pu_I (C := CPow) (g := fun i j => PyData.int (i ^ j.toNat)) (i := 10) (j := 12) pu_c pu_c cpow) (pu_var rfl)) lo.next (by omega) (by omega) (by omega) fun r' r0' r1' => ⟨_, _, rfl, rfl, ?_⟩))))
    exact k _ _ (by omega) (by omega) (by omega)
  · rw [decide_eq_false hr]
    obtain ⟨w1, hat, w0, w2⟩ := five (r := r) (by omega) r1
    refine iteF (t_ret (t_op (pu_var rfl _ (take_r (m := w1) (pu_var rfl) (pu_ixL (es := [.dat (.int 1), .dat (.int 1), .dat (.int 2), .dat (.int 5), .dat (.int 40)]) (c := lisC [.dat (.int 1), .dat (.int 1), .dat (.int 2), .dat (.int 5), .dat (.int 40)]) (fun K kk => ⟨by simp, kk⟩) (pu_I0 (pu_var rfl) pu_c) (elsC _ _) hat) lo.next (by omega) (by omega) (by omega) fun r' r0' r1' => ⟨_, _, rfl, rfl, ?_⟩))))
    exact k _ _ (by omega) (by omega) (by omega)
/-- a term that may stand behind a row -/
theorem begI_more {x : Str} (hx : isMan x) {is : List Int} {t : Int} (h : begI x is = true) (hk : is ≠ [] → okT x t) (hf : x = "near" → 1 < is.length → folN (is.getLastD 0) t = true) : begI x (is ++ [t]) = true := by
  by_cases hi : is = []
  · subst hi
    rcases hx with rfl | rfl | rfl <;> rfl
  · exact begI_app hx h hi (by simp) (fun u hu => by rw [List.mem_singleton.mp hu]; exact hk hi) (fun _ => rfl) hf
theorem inB (l : Int) : inV (vD (.int l)) ([PyData.int 2, .int (-2)].map vD) = decide (l = 2 ∨ l = -2) := by
  by_cases h1 : l = 2
  · subst h1; rfl
  by_cases h2 : l = -2
  · subst h2; rfl
  rw [decide_eq_false (by omega)]
  simp [inV, vD, eqV]
  constructor <;> (intro z; omega)
theorem two_at {u r : Int} (h0 : 0 ≤ u) (h1 : u < 2) (hr : 1 ≤ r) (hr2 : r ≤ 10 ^ 12) : ∃ v : Int, atI [Ab.Cl.dat (.int 0), .dat (.int r)] u = some (.dat (.int v)) ∧ v.natAbs ≤ 10 ^ 12 := by
  have : u = 0 ∨ u = 1 := by omega
  rcases this with rfl | rfl
  · exact ⟨0, rfl, by decide⟩
  · exact ⟨r, rfl, by omega⟩
def nextOk (x : Str) (is : List Int) (t : Int) : Prop := t.natAbs ≤ 10 ^ 12 ∧ (is ≠ [] → okT x t) ∧ (x = "near" → 1 < is.length → folN (is.getLastD 0) t = true)
def afNext : AF := fun O cs _ Kc => match cs with
  | [c, d, e] => ∃ (p : Addr) (n : Nat) (f : Ow → Ob) (x : Str) (is : List Int), c = .at p ∧ Ab.Lo O p (.pur n) f ∧ 4 ≤ n ∧ d = sD x ∧ isMan x ∧ (∀ n', Els (f (.pur n')) e (iCl is)) ∧ (∀ t ∈ is, t.natAbs ≤ 10 ^ 12) ∧
      ∀ (t : Int) (n' : Nat), nextOk x is t → n ≤ n' + 4 → Kc (f (.pur n')) (.dat (.int t))
  | _ => False
theorem cm2 {s : Int} (h0 : 0 ≤ s) (h1 : s < 2) : CMulW 2 s := mulC (a := 4) (b := 4) (by decide) (by omega)
theorem cmv {v s : Int} (hv : v.natAbs ≤ 10 ^ 12) (h0 : 0 ≤ s) (h1 : s < 2) : CMulW v (1 - 2 * s) := mulC (a := 64) (b := 4) (by omega) (by omega)
theorem vs_abs {v s : Int} {N : Nat} (hv : v.natAbs ≤ N) (h0 : 0 ≤ s) (h1 : s < 2) : (v * (1 - 2 * s)).natAbs ≤ N := by
  have : s = 0 ∨ s = 1 := by omega
  rcases this with rfl | rfl
  · simpa using hv
  · have e : v * (1 - 2 * 1) = -v := by omega
    rw [e, Int.natAbs_neg]
    exact hv
theorem fu_law_next (T : Txt K mg) : Fv P w K mg base 3 "_law_next" ["_law_purse_here", "_law_kind", "_law_row_here"] afNext := by
  refine fv_of T.d_law_next sc_law_next (fun _ _ _ _ _ _ us hl => match us, hl with | [_, _, _], _ => rfl) (fun O cs Xf Kc h => match cs, h with | [_, _, _], _ => rfl) ?_
  intro f cdv A outer s H E hr
  have F_law_size := fu_law_size (P := P) (w := w) (base := base) T
  have F_law_take := ok_take (P := P) (w := w) (base := base) T
  refine ⟨_, (dss_cons (ds_if (dt_cmp (op_eqLen hr.units) sr_eqNil (dv 2) (de_lst da_nil) (nomark _)) (dss_one (ds_ret (de_op op_mulW sr_mul (de_ix ix_list sr_ixL (de_lst (da_cons de_int (da_cons (de_callV F_law_size (takes_of rfl rfl rfl rfl) (hr.mono (by decide)) rfl (da_cons (dv 0) (da_cons de_int da_nil))) da_nil))) (de_old F_law_take sp_take (hr.mono (by decide)) rfl (da_cons (dv 0) (da_cons de_int da_nil))) (fun _ _ => rfl)) (de_op op_sub sr_sub de_int (de_op op_mulW sr_mul de_int (de_old F_law_take sp_take (hr.mono (by decide)) rfl (da_cons (dv 0) (da_cons de_int da_nil)))))))) dss_nil)
 (dss_cons (ds_if (dt_cmp op_eq sr_eqS (dv 1) de_str (nomark _)) (dss_one (ds_ret (de_callV F_law_size (takes_of rfl rfl rfl rfl) (hr.mono (by decide)) rfl (da_cons (dv 0) (da_cons de_int da_nil))))) dss_nil)
 (dss_cons (ds_set (i := 3) sc_law_next.nd rfl (Or.inl rfl) (de_callV F_law_size (takes_of rfl rfl rfl rfl) (hr.mono (by decide)) rfl (da_cons (dv 0) (da_cons de_int da_nil))))
 (dss_cons (ds_if (dt_cmp op_eq sr_eqS (dv 1) de_str (nomark _)) (dss_one (ds_ret (dv 3))) dss_nil)
 (dss_cons (ds_if (dw_pt (dw_and (dt_cmp op_gt sr_gt (de_callB call_len_seq sb_len (by rfl) T.n_len PySem.boot_len (da_cons (dv 2) da_nil)) de_int (nomark _)) (dw_and1 (dt_cmp op_in_seq sr_in (de_ix ix_list sr_ixL (dv 2) (de_un un_neg sr_neg de_int) (fun _ _ => rfl)) (de_tup (da_cons de_int (da_cons (de_un un_neg sr_neg de_int) da_nil))) (by rfl))))) (dss_one (ds_ret (de_ifExp (dt_cmp op_gt sr_gt (de_ix ix_list sr_ixL (dv 2) (de_un un_neg sr_neg de_int) (fun _ _ => rfl)) de_int (nomark _)) (dv 3) (de_op op_sub sr_sub de_int (dv 3))))) dss_nil)
 (dss_one (ds_ret (de_op op_mulW sr_mul (dv 3) (de_op op_sub sr_sub de_int (de_op op_mulW sr_mul de_int (de_old F_law_take sp_take (hr.mono (by decide)) rfl (da_cons (dv 0) (da_cons de_int da_nil))))))))))))), ?_⟩
  intro O cs Xf Kc h
  obtain ⟨c_law_purse_here, c_law_kind, c_law_row_here, rfl⟩ : ∃ c_law_purse_here c_law_kind c_law_row_here, cs = [c_law_purse_here, c_law_kind, c_law_row_here] := match cs, h with | [c_law_purse_here, c_law_kind, c_law_row_here], _ => ⟨c_law_purse_here, c_law_kind, c_law_row_here, rfl⟩
  refine rho_is (ρ' := [some c_law_purse_here, some c_law_kind, some c_law_row_here, none]) rfl ?_
  obtain ⟨p, n, f, x, is, rfl, lo, hn, rfl, hx, hel, hs, k⟩ := h
  have el0 : Els O c_law_row_here (iCl is) := by have z := hel n; rwa [lo.eq] at z
  refine sq_if (t_test (t_op (pu_var rfl _ ⟨by simp, iCl is, el0, rfl, _, rfl, ?_⟩)))
  by_cases hi : is = []
  · subst hi
    refine iteT (t_ret (t_op (t_op (t_lst (t_cons_pu pu_c (t_cons (call2 (pu_var rfl) pu_c ⟨p, n, f, 1, rfl, lo, by omega, rfl, by decide, by decide, fun r n1 r0 r1 hn1 => ⟨by simp, ?_⟩⟩)))))))
    refine take_r (pu_var rfl) pu_c lo.next (by decide) (by decide) (by omega) fun u u0 u1 => ?_
    obtain ⟨v, hat, hv⟩ := two_at u0 u1 r0 r1
    refine ⟨_, u, _, rfl, elsC _ _, hat, ?_⟩
    refine t_op (pu_c _ (t_op (pu_c _ (take_r (pu_var rfl) pu_c lo.next (by decide) (by decide) (by omega) fun s s0 s1 => ⟨2, s, rfl, rfl, cm2 s0 s1, 1, 2 * s, rfl, rfl, v, 1 - 2 * s, rfl, rfl, cmv hv s0 s1, ?_⟩))))
    exact k _ _ ⟨vs_abs hv s0 s1, fun z => absurd rfl z, fun _ z => by simp at z⟩ (by omega)
  have ie : (iCl is).isEmpty = false := by
    cases is with
    | nil => exact absurd rfl hi
    | cons a l => rfl
  rw [ie]
  refine iteF (sq_ifP (put_ (pu_eqS (pu_var rfl) pu_c)) ?_)
  by_cases h1 : x = "floor"
  · rw [decide_eq_true h1]
    refine iteT (t_ret (call2 (pu_var rfl) pu_c ⟨p, n, f, 1, rfl, lo, by omega, rfl, by decide, by decide, fun r n1 r0 r1 hn1 => k r n1 ⟨by omega, fun _ => ?_, fun z => ?_⟩ (by omega)⟩))
    · unfold okT; rw [if_pos h1]; exact r0
    · rw [h1] at z; exact absurd z (by decide)
  rw [decide_eq_false h1]
  refine iteF (sq_set (call2 (pu_var rfl) pu_c ⟨p, n, f, 2, rfl, lo, by omega, rfl, by decide, by decide, fun r n1 r0 r1 hn1 => ?_⟩))
  refine sq_ifP (put_ (pu_eqS (pu_var rfl) pu_c)) ?_
  by_cases h2 : x = "ceil"
  · rw [decide_eq_true h2]
    refine iteT (ret_pu (pu_var rfl) (k r n1 ⟨by omega, fun _ => ?_, fun z => ?_⟩ (by omega)))
    · unfold okT; rw [if_neg h1, if_pos h2]; exact r0
    · rw [h2] at z; exact absurd z (by decide)
  rw [decide_eq_false h2]
  have ok2 : ∀ t : Int, (t = r ∨ t = -r) → okT x t := by
    intro t ht
    unfold okT absI
    rw [if_neg h1, if_neg h2]
    split <;> omega
  have el1 := hel n1
  have hl : (iCl is).length = is.length := by simp [iCl]
  refine iteF (sq_ifP (put_and (put_ (pu_I0 (pu_len (pu_var rfl) (.inl el1)) pu_c)) (put_ (p := decide (is.getLastD 0 = 2 ∨ is.getLastD 0 = -2)) fun K kk => ?_)) ?_)
  · refine t_op (pu_ixL (pu_var rfl) (pu_neg pu_c) el1 (last_ne hi) _ ?_)
    refine pu_tup2 (c := .dat (.int 2)) (d := .dat (.int (-2))) pu_c (pu_neg pu_c) _ ⟨.int (is.getLastD 0), [.int 2, .int (-2)], rfl, rfl, .inr (.dat _), rfl, ?_⟩
    rw [inB]
    exact kk
  rw [hl]
  by_cases hc : 1 < is.length ∧ (is.getLastD 0 = 2 ∨ is.getLastD 0 = -2)
  · rw [decide_eq_true (show (1 : Int) < (is.length : Int) by omega), decide_eq_true hc.2]
    refine iteT (t_ret (ife_put (put_ (pu_I0 (pu_ixL (pu_var rfl) (pu_neg pu_c) el1 (last_ne hi)) pu_c)) ?_))
    rcases hc.2 with hz | hz
    · rw [hz]
      refine iteT (pu_var rfl _ (k r n1 ⟨by omega, fun _ => ok2 _ (.inl rfl), fun _ _ => ?_⟩ (by omega)))
      unfold folN; rw [hz, if_pos rfl]; exact decide_eq_true (by omega)
    · rw [hz]
      refine iteF (pu_I0 (g := fun i j => PyData.int (i - j)) pu_c (pu_var rfl) _ (k (0 - r) n1 ⟨by omega, fun _ => ok2 _ (.inr (by omega)), fun _ _ => ?_⟩ (by omega)))
      unfold folN; rw [hz, if_neg (by decide), if_pos rfl]; exact decide_eq_true (by omega)
  · have hc2 : (decide ((1 : Int) < (is.length : Int)) && decide (is.getLastD 0 = 2 ∨ is.getLastD 0 = -2)) = false := by
      by_cases h3 : 1 < is.length
      · rw [decide_eq_false (fun z => hc ⟨h3, z⟩), Bool.and_false]
      · rw [decide_eq_false (show ¬ (1 : Int) < (is.length : Int) by omega), Bool.false_and]
    rw [hc2]
    refine iteF (t_ret (t_op (pu_var rfl _ (t_op (pu_c _ (t_op (pu_c _ (take_r (pu_var rfl) pu_c lo.next (by decide) (by decide) (by omega) fun s s0 s1 => ⟨2, s, rfl, rfl, cm2 s0 s1, 1, 2 * s, rfl, rfl, r, 1 - 2 * s, rfl, rfl, cmv (by omega) s0 s1, ?_⟩))))))))
    refine k _ _ ⟨vs_abs (by omega) s0 s1, fun _ => ok2 _ ?_, fun _ h3 => ?_⟩ (by omega)
    · have : s = 0 ∨ s = 1 := by omega
      rcases this with rfl | rfl
      · exact .inl (by omega)
      · exact .inr (by omega)
    · have hne : ¬ (is.getLastD 0 = 2 ∨ is.getLastD 0 = -2) := fun z => hc ⟨h3, z⟩
      unfold folN
      rw [if_neg (fun z => hne (.inl z)), if_neg (fun z => hne (.inr z))]
theorem nil_step {O : Ob} {ρ : Rho} {XX : XC} {K : Ob → List Ab.Cl → Prop} (h : K O []) : aNil O ρ XX K := h
theorem t_drop {O : Ob} {ρ : Rho} {XX : XC} {a : AE} {A : AEn} (h : a O ρ XX fun O1 _ => A.nx O1 ρ) : aDrop a A XX O ρ := h
theorem t_appG {O : Ob} {ρ : Rho} {XX : XC} {a : AE} {b : AA} {p : Addr} {cs : List Ab.Cl} {f : Ow → Ob} {K : KC} (ha : Ab.Pu a O ρ XX (.at p)) (lo : Ab.Lo O p (.lst cs) f)
    (h : b O ρ XX fun O2 ds => ∃ d cs f, ds = [d] ∧ Ab.Lo O2 p (.lst cs) f ∧ cs.length ≤ 1000000 ∧ K (f (.lst (cs ++ [d]))) (.dat .none)) : aApp a b O ρ XX K := ha _ ⟨p, cs, f, rfl, lo, h⟩
def lastV (x : Str) : Int := if x = "floor" then 1 else if x = "near" then 2 else 0
theorem dget_last {x : Str} (hx : isMan x) : dGet ((([.inr "floor", .inr "near", .inr "ceil"] : List Key).map kD).zip [PyData.int 1, .int 2, .int 0]) x = some (.int (lastV x)) := by
  rcases hx with rfl | rfl | rfl <;> rfl
/-- how a row grew -/
def Grew (x : Str) (is : List Int) : Prop := is = [] ∨ ∃ pre l, is = pre ++ [l] ∧ begI x pre = true ∧ nextOk x pre l
def afRowL : AF := fun O cs _ Kc => match cs with
  | [c, d, e] => ∃ (p : Addr) (n : Nat) (f : Ow → Ob) (x : Str) (m : Nat), c = .at p ∧ Ab.Lo O p (.pur n) f ∧ 4 * m ≤ n ∧ d = sD x ∧ isMan x ∧ e = .dat (.int m) ∧ 1 ≤ m ∧ m ≤ 100 ∧
      ∀ q (is : List Int) (n' : Nat), is.length = m → (∀ t ∈ is, t.natAbs ≤ 10 ^ 12 + 1) → begI x is = true → endI x is = true → n ≤ n' + 4 * m → Kc ((q, .lst (iCl is)) :: f (.pur n')) (.at q)
  | _ => False
theorem grew_fix {x : Str} (hx : isMan x) {pre : List Int} {l : Int} (hb : begI x pre = true) (ho : nextOk x pre l) (h1 : 1 < (pre ++ [l]).length) :
    (l ≠ lastV x ∧ endI x (pre ++ [l]) = true) ∨ (l = lastV x ∧ begI x (pre ++ [l + 1]) = true ∧ endI x (pre ++ [l + 1]) = true) := by
  have hp : pre ≠ [] := fun e => by subst e; simp at h1
  have hok := ho.2.1 hp
  have gl : ∀ z : Int, (pre ++ [z]).getLastD 0 = z := by intro z; simp
  have ln : ∀ z : Int, ¬ (pre ++ [z]).length ≤ 1 := by intro z; simp at h1 ⊢; omega
  have en : ∀ z : Int, z ≠ lastV x → endI x (pre ++ [z]) = true := by
    intro z hz
    unfold endI
    rw [if_neg (ln z), gl]
    unfold lastV at hz
    rcases hx with rfl | rfl | rfl
    · rw [if_pos rfl]; simpa using hz
    · rw [if_neg (by decide), if_neg (by decide)]
    · rw [if_neg (by decide), if_pos rfl]
      rw [if_neg (by decide), if_pos rfl] at hz
      simpa using hz
  by_cases h : l = lastV x
  · refine .inr ⟨h, begI_more hx hb (fun _ => ?_) (fun hn h2 => ?_), en _ (by omega)⟩
    · unfold okT at hok ⊢
      unfold lastV at h
      rcases hx with rfl | rfl | rfl
      · rw [if_pos rfl] at hok ⊢; omega
      · rw [if_neg (by decide), if_pos rfl] at hok ⊢; omega
      · rw [if_neg (by decide), if_neg (by decide)] at hok ⊢
        rw [if_neg (by decide), if_pos rfl] at h
        subst h
        decide
    · have hf := ho.2.2 hn h2
      subst hn
      have e2 : l = 2 := by rw [h]; decide
      rw [e2] at hf ⊢
      unfold folN at hf ⊢
      split
      · decide
      · rename_i z1
        rw [if_neg z1] at hf
        split
        · rename_i z2
          rw [if_pos z2] at hf
          exact absurd hf (by decide)
        · rfl
  · exact .inl ⟨h, en _ h⟩
theorem fu_law_row (T : Txt K mg) : Fv P w K mg base 4 "_law_row" ["_law_purse_here", "_law_kind", "_law_many"] afRowL := by
  refine fv_of T.d_law_row sc_law_row (fun _ _ _ _ _ _ us hl => match us, hl with | [_, _, _], _ => rfl) (fun O cs Xf Kc h => match cs, h with | [_, _, _], _ => rfl) ?_
  intro f cdv A outer s H E hr
  have F_law_next := fu_law_next (P := P) (w := w) (base := base) T
  refine ⟨_, (dss_cons (ds_set (i := 3) sc_law_row.nd rfl (Or.inl rfl) (de_lstO da_nil))
 (dss_cons (ds_for (passes_of rfl) rfl (di_r1 (by rfl) T.n_range (da_cons (dv 2) da_nil)) (dg_name (i := 4) sc_law_row.nd rfl (Or.inl rfl)) (dss_one (ds_expr (de_app (dv 3) (da_cons (de_callV F_law_next (takes_of rfl rfl rfl rfl) (hr.mono (by decide)) rfl (da_cons (dv 0) (da_cons (dv 1) (da_cons (dv 3) da_nil)))) da_nil)))))
 (dss_cons (ds_set (i := 5) sc_law_row.nd rfl (Or.inl rfl) (de_dgetD hr.units (de_dispD (dp_cons (k := .inr "floor") pe_str de_int (dp_cons (k := .inr "near") pe_str de_int (dp_cons (k := .inr "ceil") pe_str de_int dp_nil)))) (dv 1)))
 (dss_cons (ds_if (dw_pt (dw_and (dt_cmp op_gt sr_gt (dv 2) de_int (nomark _)) (dw_and1 (dt_cmp (op_eqD hr.units) sr_eq (de_ix ix_list sr_ixL (dv 3) (de_un un_neg sr_neg de_int) (fun _ _ => rfl)) (dv 5) (nomark _))))) (dss_one (ds_asg (de_op op_add sr_add (dv 5) de_int) (dg_setNeg (i := 3)))) dss_nil)
 (dss_one (ds_ret (dv 3))))))), ?_⟩
  intro O cs Xf Kc h
  obtain ⟨c_law_purse_here, c_law_kind, c_law_many, rfl⟩ : ∃ c_law_purse_here c_law_kind c_law_many, cs = [c_law_purse_here, c_law_kind, c_law_many] := match cs, h with | [c_law_purse_here, c_law_kind, c_law_many], _ => ⟨c_law_purse_here, c_law_kind, c_law_many, rfl⟩
  refine rho_is (ρ' := [some c_law_purse_here, some c_law_kind, some c_law_many, none, none, none]) rfl ?_
  obtain ⟨p, n, f, x, m, rfl, lo, hn, rfl, hx, rfl, m1, m2, k⟩ := h
  refine sq_set (t_lstO (a := aNil) ⟨by simp, fun q => ?_⟩)
  refine sq_for (t_it1 (t_cons_pu (pu_var rfl) ⟨m, rfl, by omega, by omega, ?_⟩))
  rw [Int.toNat_natCast]
  refine ⟨fun i O2 ρ2 => ∃ is n' v4, O2 = (q, .lst (iCl is)) :: f (.pur n') ∧ is.length = i ∧ (∀ t ∈ is, t.natAbs ≤ 10 ^ 12) ∧ begI x is = true ∧ Grew x is ∧ n ≤ n' + 4 * i ∧ ρ2 = [some (.at p), some (sD x), some (.dat (.int m)), some (.at q), v4, none], ⟨[], n, none, by rw [lo.eq]; rfl, rfl, fun t ht => (nomatch ht), by rcases hx with rfl | rfl | rfl <;> rfl, .inl rfl, by omega, rfl⟩, ?_, ?_⟩
  · rintro i O2 ρ2 e hi ⟨is, n', v4, rfl, hl, hs, hb, hg, hn', rfl⟩
    have him : i < m := by
      have := (List.getElem?_eq_some_iff.mp hi).1
      simpa [nums] using this
    refine ⟨trivial, ?_⟩
    refine t_drop (t_appG (pu_var rfl) .here (t_cons (call3 (pu_var rfl) (pu_var rfl) (pu_var rfl) ⟨p, n', fun w => (q, .lst (iCl is)) :: f w, x, is, rfl, (lo.next).there, by omega, rfl, hx, fun _ => .own (List.mem_cons_self ..), hs, fun t n2 ht hn2 => ⟨_, _, _, rfl, .here, by simp [iCl]; omega, ?_⟩⟩)))
    refine ⟨is ++ [t], n2, some e, ?_, by simp [hl], fun u hu => ?_, begI_more hx hb ht.2.1 ht.2.2, .inr ⟨is, t, rfl, hb, ht⟩, by omega, rfl⟩
    · simp [iCl]
    · rcases List.mem_append.mp hu with hu | hu
      · exact hs u hu
      · rw [List.mem_singleton.mp hu]; exact ht.1
  · rintro O2 ρ2 ⟨is, n', v4, rfl, hl, hs, hb, hg, hn', rfl⟩
    have hl : is.length = m := by simpa [nums] using hl
    have hn' : n ≤ n' + 4 * m := by simpa [nums] using hn'
    refine ⟨trivial, ?_⟩
    refine Ab.sq_set (a := aDGetD _ _) ?_
    intro pd
    refine ⟨_, [.int 1, .int 2, .int 0], rfl, rfl, ?_⟩
    refine pu_var rfl _ ⟨_, x, .int (lastV x), rfl, rfl, dget_last hx, ?_⟩
    rcases hg with rfl | ⟨pre, l, rfl, hbp, ho⟩
    · simp at hl; omega
    have el : Els ((q, Ow.lst (iCl (pre ++ [l]))) :: f (.pur n')) (.at q) (iCl (pre ++ [l])) := .own (List.mem_cons_self ..)
    have la : atI (iCl (pre ++ [l])) (-1) = some (.dat (.int l)) := by
      have z := last_ne (is := pre ++ [l]) (by simp)
      rwa [show (pre ++ [l]).getLastD 0 = l by simp] at z
    refine sq_ifP (put_and (put_ (pu_I0 (pu_var rfl) pu_c)) (put_ (pu_eqI (pu_ixL (pu_var rfl) (pu_neg pu_c) el la) (pu_var rfl)))) ?_
    by_cases hm : m = 1
    · rw [decide_eq_false (show ¬ (1 : Int) < (m : Int) by omega), Bool.false_and]
      refine iteF (ret_pu (pu_var rfl) (k q _ n' hl (fun t ht => by have := hs t ht; omega) hb ?_ hn'))
      unfold endI
      rw [if_pos (by omega), decide_eq_true (by omega)]
    · rw [decide_eq_true (show (1 : Int) < (m : Int) by omega), Bool.true_and]
      rcases grew_fix hx hbp ho (by omega) with ⟨h1, h2⟩ | ⟨h1, h2, h3⟩
      · rw [decide_eq_false h1]
        exact iteF (ret_pu (pu_var rfl) (k q _ n' hl (fun t ht => by have := hs t ht; omega) hb h2 hn'))
      · rw [decide_eq_true h1]
        have hlp : pre.length = m - 1 := by simp at hl; omega
        have ixe : ixN (iCl (pre ++ [l])).length (-1) = some pre.length := by
          rw [show (iCl (pre ++ [l])).length = pre.length + 1 by simp [iCl]]
          unfold L2.ixN
          simp
          omega
        refine iteT (pu_I0 (g := fun i j => PyData.int (i + j)) (pu_var rfl) pu_c _ ⟨q, _, _, pre.length, rfl, .here, ixe, ?_⟩)
        have es : (iCl (pre ++ [l])).set pre.length (.dat (.int (lastV x + 1))) = iCl (pre ++ [l + 1]) := by
          rw [← h1]
          simp [iCl]
        rw [es]
        dsimp only
        refine ret_pu (pu_var rfl) (k q _ n' (by simp; omega) (fun t ht => ?_) h2 h3 hn')
        rcases List.mem_append.mp ht with ht | ht
        · have := hs t (List.mem_append_left _ ht); omega
        · rw [List.mem_singleton.mp ht]
          have := hs l (by simp)
          omega
def afMadeL : AF := fun O cs _ Kc => match cs with
  | [c, d] => ∃ x is, d = sD x ∧ isMan x ∧ RdA O c (some (iCl is)) ∧ begI x is = true ∧ endI x is = true ∧ is.length ≤ 1000 ∧ ∀ s m b q fs, Kc ((q, .lst []) :: (b, .ins "Begun" fs) :: (m, .lst []) :: (s, rowW x is false m b) :: O) (.at s)
  | _ => False
theorem fu_law_made (T : Txt K mg) : Fv P w K mg base 9 "_law_made" ["_law_terms", "_law_word"] afMadeL := by
  refine fv_of T.d_law_made sc_law_made (fun _ _ _ _ _ _ us hl => match us, hl with | [_, _], _ => rfl) (fun O cs Xf Kc h => match cs, h with | [_, _], _ => rfl) ?_
  intro f cdv A outer s H E hr
  have F_Row__init := fu_Row__init (P := P) (w := w) (base := base) T
  refine ⟨_, (dss_cons (ds_if (dt_cmp op_eq sr_eqS (dv 1) de_str (nomark _)) (dss_one (ds_ret (de_mk F_Row__init (takes_of rfl rfl rfl rfl) (hr.mono (by decide)) (by rfl) 1 [0, 1] (da_cons (dv 0) da_nil) (fun _ _ _ _ _ _ _ _ us its h1 h2 => match us, its, h1, h2 with | [_], [_], _, _ => ⟨_, rfl, rfl⟩)))) dss_nil)
 (dss_cons (ds_if (dt_cmp (op_eqD hr.units) sr_eq (de_op op_mod sr_mod (de_callB call_len_seq sb_len (by rfl) T.n_len PySem.boot_len (da_cons (dv 0) da_nil)) de_int) de_int (nomark _)) (dss_one (ds_ret (de_mkN F_Row__init (takes_of rfl rfl rfl rfl) (hr.mono (by decide)) (by rfl) 1 [0, 2] (da_cons (dv 0) da_nil) (dk_cons (dv 1) dk_nil) (ks := ["manner"]) (by rfl) (fun _ _ _ _ _ _ _ _ us its ws h1 h2 h3 => match us, its, ws, h1, h2, h3 with | [_], [_], [_], _, _, _ => ⟨_, rfl, rfl⟩)))) dss_nil)
 (dss_one (ds_ret (de_mk F_Row__init (takes_of rfl rfl rfl rfl) (hr.mono (by decide)) (by rfl) 2 [0, 1] (da_cons (dv 0) (da_cons (dv 1) da_nil)) (fun _ _ _ _ _ _ _ _ us its h1 h2 => match us, its, h1, h2 with | [_, _], [_], _, _ => ⟨_, rfl, rfl⟩)))))), ?_⟩
  intro O cs Xf Kc h
  obtain ⟨c_law_terms, c_law_word, rfl⟩ : ∃ c_law_terms c_law_word, cs = [c_law_terms, c_law_word] := match cs, h with | [c_law_terms, c_law_word], _ => ⟨c_law_terms, c_law_word, rfl⟩
  refine rho_is (ρ' := [some c_law_terms, some c_law_word]) rfl ?_
  obtain ⟨x, is, rfl, hx, rd, hb, he, hl, k⟩ := h
  have mk : ∀ (Xf : Ob → Str → Ab.Cl → Prop) (s : Addr), afRowI ((s, .ins "Row" []) :: O) [.at s, c_law_terms, sD x] Xf (fun O2 c => c = .dat .none ∧ Kc O2 (.at s)) := fun Xf s => ⟨s, _, x, is, rfl, .here, rfl, hx, rd.up _, hb, he, hl, fun m b q fs => ⟨rfl, k s m b q fs⟩⟩
  refine sq_ifP (put_ (pu_eqS (pu_var rfl) pu_c)) ?_
  by_cases h1 : x = "floor"
  · rw [decide_eq_true h1]
    refine iteT (t_ret (t_cons_pu (pu_var rfl) ⟨rfl, fun s => ?_⟩))
    have z := mk (fun O' y c => Xf O' y c) s
    rw [h1] at z
    exact z
  rw [decide_eq_false h1]
  have hc : Els O c_law_terms (iCl is) ∨ ElsT c_law_terms (iCl is) := rd.1.imp (·.1) (·.1)
  refine iteF (sq_ifP (put_ (pu_eqI (pu_I (C := fun _ j => 0 < j) (g := fun i j => PyData.int (i % j)) (pu_len (pu_var rfl) hc) pu_c (by decide)) pu_c)) ?_)
  by_cases h2 : ((iCl is).length : Int) % 2 = 0
  · rw [decide_eq_true h2]
    refine iteT (t_ret (t_cons_pu (pu_var rfl) ?_))
    refine nil_step ?_
    exact t_cons_pu (pu_var rfl) ⟨rfl, rfl, fun s => mk _ s⟩
  · rw [decide_eq_false h2]
    exact iteF (t_ret (t_cons_pu (pu_var rfl) (t_cons_pu (pu_var rfl) ⟨rfl, fun s => mk _ s⟩)))
def afAsked : AF := fun O cs _ Kc => match cs with
  | [c, wy, d] => ∃ F s m b x is j e, StO O c F s m b x is j e ∧ (∃ n, Kn O d n) ∧
      ((wy = .dat (.int 0) ∧ ((whC 0 999 d = false ∧ Kc O (tupC [sD "place", d])) ∨ ∃ n : Nat, n ≤ 999 ∧ d = .dat (.int n) ∧ Kc (F (rowW x is (reachE is n e) m b) (madeW is (reachJ is n j))) (.dat (.tuple [.str "told", moreD is n])))) ∨
       (wy = .dat (.int 1) ∧ ((whC 0 1000 d = false ∧ Kc O (tupC [sD "number", d])) ∨ ∃ n : Nat, n ≤ 1000 ∧ d = .dat (.int n) ∧
          ∀ q, Kc ((q, .lst (iCl (is.take n))) :: (if n = 0 then O else F (rowW x is (reachE is (n - 1) e) m b) (madeW is (reachJ is (n - 1) j)))) (.tup [sD "told", .tup [.at q, sD (if n ≤ is.length then "more" else "end")]]))))
  | _ => False
theorem fld_NP : fld "NoPlace" = "found" := by decide +kernel
theorem fld_NN : fld "NoNumber" = "found" := by decide +kernel
theorem fu_law_asked (T : Txt K mg) : Fu P w K mg base 5 "_law_asked" ["_law_stream", "_law_way", "_law_thing"] afAsked := by
  refine fu_of T.d_law_asked sc_law_asked (fun _ _ _ _ _ _ us hl => match us, hl with | [_, _, _], _ => rfl) (fun O cs Xf Kc h => match cs, h with | [_, _, _], _ => rfl) ?_
  intro f cdv A outer s H E hgd hr
  have F_Row__terms := fu_Row__terms (P := P) (w := w) (base := base) T
  have F_Row__ask := fu_Row__ask (P := P) (w := w) (base := base) T
  have X_NoPlace := xk_NoPlace (P := P) (w := w) (base := base) T
  have X_NoNumber := xk_NoNumber (P := P) (w := w) (base := base) T
  refine ⟨_, (dss_one (ds_try rfl rfl sc_law_asked.nd (fun W pn xe tk own => (dss_cons (ds_if (dt_cmp (op_eqD hr.units) sr_eq (dv 1) de_int (nomark _)) (dss_one (ds_ret (de_tup (da_cons de_str (da_cons (de_metA F_Row__ask tk (hr.mono (by decide)) (dv 0) (da_cons (dv 2) da_nil)) da_nil))))) dss_nil)
 (dss_one (ds_ret (de_tup (da_cons de_str (da_cons (de_metA F_Row__terms tk (hr.mono (by decide)) (dv 0) (da_cons (dv 2) da_nil)) da_nil))))))) (DH.cons (i := 3) rfl rfl ⟨rfl, by decide, .inl X_NoPlace.hm⟩ (fun a dd oe pn hz hf => (dss_one (ds_ret (de_tup (da_cons de_str (da_cons (de_xf X_NoPlace.xf X_NoPlace.no hz hf (dv 3)) da_nil)))))) (DH.cons (i := 3) rfl rfl ⟨rfl, by decide, .inl X_NoNumber.hm⟩ (fun a dd oe pn hz hf => (dss_one (ds_ret (de_tup (da_cons de_str (da_cons (de_xf X_NoNumber.xf X_NoNumber.no hz hf (dv 3)) da_nil)))))) (DH.never _))))), ?_⟩
  intro O cs Xf Kc h
  obtain ⟨c_law_stream, c_law_way, c_law_thing, rfl⟩ : ∃ c_law_stream c_law_way c_law_thing, cs = [c_law_stream, c_law_way, c_law_thing] := match cs, h with | [c_law_stream, c_law_way, c_law_thing], _ => ⟨c_law_stream, c_law_way, c_law_thing, rfl⟩
  refine rho_is (ρ' := [some c_law_stream, some c_law_way, some c_law_thing, none]) rfl ?_
  obtain ⟨F, s, m, b, x, is, j, e, S, kn, h⟩ := h
  have hc := S.c
  subst hc
  refine t_try ?_
  rcases h with ⟨rfl, h⟩ | ⟨rfl, h⟩
  · refine sq_ifP (put_ (pu_eqI (pu_var rfl) pu_c)) ?_
    rw [decide_eq_true rfl]
    refine iteT (t_ret (t_tup (t_cons_pu (c := sD "told") pu_c (t_cons (t_metA (pu_var rfl) S.m1 rfl (t_cons_pu (pu_var rfl) ⟨F, s, m, b, x, is, j, e, S, kn, ?_⟩))))))
    rcases h with ⟨e1, k⟩ | ⟨n, hn, rfl, k⟩
    · exact .inl ⟨e1, true, T.p_NoPlace_NoPlace.em, fun _ => ⟨rfl, fun a dd => ⟨_, rfl, c_law_thing, by rw [fld_NP], by simp, k⟩⟩, fun z => Bool.noConfusion z⟩
    · exact .inr ⟨n, hn, rfl, by simp, k⟩
  · refine sq_ifP (put_ (pu_eqI (pu_var rfl) pu_c)) ?_
    rw [decide_eq_false (by decide)]
    refine iteF (t_ret (t_tup (t_cons_pu (c := sD "told") pu_c (t_cons (t_metA (pu_var rfl) S.m1 rfl (t_cons_pu (pu_var rfl) ⟨F, s, m, b, x, is, j, e, S, kn, ?_⟩))))))
    rcases h with ⟨e1, k⟩ | ⟨n, hn, rfl, k⟩
    · exact .inl ⟨e1, false, T.p_NoNumber_NoPlace.em, fun z => Bool.noConfusion z, fun _ => ⟨true, T.p_NoNumber_NoNumber.em, fun _ => ⟨rfl, fun a dd => ⟨_, rfl, c_law_thing, by rw [fld_NN], by simp, k⟩⟩, fun z => Bool.noConfusion z⟩⟩
    · exact .inr ⟨n, hn, rfl, fun q => ⟨by simp, k q⟩⟩
end
end My
namespace My
open PySem PySem.Spec PyProof.Rows L2 Vg Ab
section
variable {P : Program} {w : World} {K : PySem.W.Frag} {mg : Str → Option Value} {base : Heap}
theorem row_tx {is : List Int} (h : ∀ t ∈ is, t.natAbs ≤ 10 ^ 12 + 1) (hl : is.length ≤ 100) (k : Nat) (w : Str) (hw : (PyData.str w).leavesShort 1921 = true) (hs : w.cps.size ≤ 100) : TxB (.tuple [.list ((is.take k).map .int), .str w]) := by
  have a1 : ∀ d ∈ (is.take k).map PyData.int, Tx1 41 1 d := fun d hd => by
    obtain ⟨t, ht, rfl⟩ := List.mem_map.mp hd
    have := h t (List.mem_of_mem_take ht)
    exact tx_int (by omega) 1
  have a2 := tx_list (txl_all a1)
  have len : ((is.take k).map PyData.int).length * (41 + 1) ≤ 4200 := by
    rw [List.length_map, List.length_take]
    have : min k is.length ≤ 100 := by omega
    omega
  exact (tx_tup (txl_cons (a2.up len (Nat.le_refl _)) (txl_cons ((tx_str w 2 hw).up hs (Nat.le_refl _)) (txl_nil 0 2)))).txB8
theorem more_tx {is : List Int} (h : ∀ t ∈ is, t.natAbs ≤ 10 ^ 12 + 1) (k : Nat) : TxB (.tuple [.str "told", moreD is k]) := by
  have a1 : Tx1 100 3 (moreD is k) := by
    unfold moreD
    split
    · rename_i hk
      have hm : is.getD k 0 ∈ is := by rw [List.getD_eq_getElem?_getD, List.getElem?_eq_getElem hk]; exact List.getElem_mem hk
      have := h _ hm
      exact (tx_tup (txl_cons (tx_str "term" 1) (txl_cons (tx_int (k := 41) (by omega) 1) (txl_nil 0 1)))).up (by decide +kernel) (by decide)
    · exact (tx_tup (txl_cons (tx_str "end" 1) (txl_nil 0 1))).up (by decide +kernel) (by decide)
  exact (tx_tup (txl_cons ((tx_str "told" 3).up (show _ ≤ 100 by decide +kernel) (Nat.le_refl _)) (txl_cons a1 (txl_nil 0 3)))).txB
structure StP (O : Ob) (F : Ow → Ow → Ow → Ob) (n : Nat) (p s m b : Addr) (x : Str) (is : List Int) (j : Nat) (e : Bool) : Prop where
  l0 : ∀ w0 w1 w2, Ab.Lo (F w0 w1 w2) p w0 fun w => F w w1 w2
  l1 : ∀ w0 w1 w2, Ab.Lo (F w0 w1 w2) s w1 fun w => F w0 w w2
  l2 : ∀ w0 w1 w2, Ab.Lo (F w0 w1 w2) m w2 fun w => F w0 w1 w
  o : O = F (.pur n) (rowW x is e m b) (madeW is j)
  jl : j ≤ is.length
  en : e = true → j = is.length
  sm : is.length ≤ 1000
section
variable {O : Ob} {F : Ow → Ow → Ow → Ob} {n : Nat} {p s m b : Addr} {x : Str} {is : List Int} {j : Nat} {e : Bool}
theorem StP.sto (h : StP O F n p s m b x is j e) : StO O (.at s) (F (.pur n)) s m b x is j e := ⟨rfl, h.l1 _, h.l2 _, h.o, h.jl, h.en, h.sm⟩
theorem StP.lo (h : StP O F n p s m b x is j e) : Ab.Lo O p (.pur n) fun w => F w (rowW x is e m b) (madeW is j) := by rw [h.o]; exact h.l0 _ _ _
theorem StP.pur (h : StP O F n p s m b x is j e) (n' : Nat) : StP (F (.pur n') (rowW x is e m b) (madeW is j)) F n' p s m b x is j e := ⟨h.l0, h.l1, h.l2, rfl, h.jl, h.en, h.sm⟩
theorem StP.up (h : StP O F n p s m b x is j e) (z : Addr × Ow) : StP (z :: O) (fun a b c => z :: F a b c) n p s m b x is j e := ⟨fun _ _ _ => (h.l0 _ _ _).there, fun _ _ _ => (h.l1 _ _ _).there, fun _ _ _ => (h.l2 _ _ _).there, by rw [h.o], h.jl, h.en, h.sm⟩
end
def afStep : AF := fun O cs _ Kc => match cs with
  | [c, d, r, t] => ∃ F n p s m b x is j e, StP O F n p s m b x is j e ∧ c = .at p ∧ d = .at s ∧ 5 ≤ n ∧ (∀ w0 w1 w2, Els (F w0 w1 w2) r (iCl is)) ∧ t = .dat (.int (j : Nat)) ∧ is.length ≤ 100 ∧ (∀ t ∈ is, t.natAbs ≤ 10 ^ 12 + 1) ∧
      ∀ (G : Ob) (n' j' : Nat) (e' : Bool), j' ≤ is.length → (e' = true → j' = is.length) → n ≤ n' + 5 → Kc (G ++ F (.pur n') (rowW x is e' m b) (madeW is j')) (.dat (.int (j' : Nat)))
  | _ => False
theorem pu_intB {O : Ob} {ρ : Rho} {XX : XC} {a : AE} {p : Bool} (ha : Ab.Pu a O ρ XX (.dat (.bool p))) : Ab.Pu (aCB bIntB (aCons a aNil)) O ρ XX (.dat (.int (if p = true then 1 else 0))) := fun K k => ha _ (.inr ⟨p, rfl, by cases p <;> exact k⟩)
theorem sq_asgG {O : Ob} {ρ : Rho} {XX : XC} {a : AE} {g : AG} {v : AS} {A : AEn} (h : a O ρ XX fun O1 c => g c O1 ρ fun O' ρ' => v A XX O' ρ') : aSeq (aAsg a g) v A XX O ρ := h
theorem pu_sl_to {O : Ob} {ρ : Rho} {XX : XC} {a b : AE} {c : Ab.Cl} {ds : List PyData} {i : Int} (ha : Ab.Pu a O ρ XX c) (hb : Ab.Pu b O ρ XX (.dat (.int i))) (el : Els O c (ds.map .dat)) : Ab.Pu (aSl aSlL a aNoPart (aPart b)) O ρ XX (.dat (.list (Ab.cutD ds none (some i)))) :=
  fun K k => ha _ (hb _ ⟨i, rfl, ds, el, k⟩)
theorem odd_at (qa : Addr) (q : Nat) {r : Int} (h0 : 0 ≤ r) (h1 : r < 11) : ∃ tc, atI [Ab.Cl.dat .none, .dat (.bool true), .dat (.int (-1)), .dat (.str "3"), .at qa, .dat (.tuple [.int 3]), .dat (.dict []), .dat (.int (1000 + (q : Int) % 2)), .dat (.int (10 ^ Int.toNat 29)), .dat (.bool false), .dat (.str "")] r = some tc ∧
    ((q : Int) % 2 = 0 → whC 0 999 tc = false) ∧ ((q : Int) % 2 = 1 → whC 0 1000 tc = false) ∧ (tc = .at qa ∨ ∃ d, tc = .dat d ∧ (∀ ds, d ≠ .list ds) ∧ TxB d) := by
  have : r = 0 ∨ r = 1 ∨ r = 2 ∨ r = 3 ∨ r = 4 ∨ r = 5 ∨ r = 6 ∨ r = 7 ∨ r = 8 ∨ r = 9 ∨ r = 10 := by omega
  rcases this with rfl | rfl | rfl | rfl | rfl | rfl | rfl | rfl | rfl | rfl | rfl
  · exact ⟨_, rfl, fun _ => rfl, fun _ => rfl, .inr ⟨_, rfl, (fun _ z => PyData.noConfusion z), .by (by decide +kernel)⟩⟩
  · exact ⟨_, rfl, fun _ => rfl, fun _ => rfl, .inr ⟨_, rfl, (fun _ z => PyData.noConfusion z), .by (by decide +kernel)⟩⟩
  · exact ⟨_, rfl, fun _ => rfl, fun _ => rfl, .inr ⟨_, rfl, (fun _ z => PyData.noConfusion z), .by (by decide +kernel)⟩⟩
  · exact ⟨_, rfl, fun _ => rfl, fun _ => rfl, .inr ⟨_, rfl, (fun _ z => PyData.noConfusion z), .by (by decide +kernel)⟩⟩
  · exact ⟨_, rfl, fun _ => rfl, fun _ => rfl, .inl rfl⟩
  · exact ⟨_, rfl, fun _ => rfl, fun _ => rfl, .inr ⟨_, rfl, (fun _ z => PyData.noConfusion z), .by (by decide +kernel)⟩⟩
  · exact ⟨_, rfl, fun _ => rfl, fun _ => rfl, .inr ⟨_, rfl, (fun _ z => PyData.noConfusion z), .by (by decide +kernel)⟩⟩
  · refine ⟨_, rfl, fun z => ?_, fun z => ?_, .inr ⟨_, rfl, (fun _ z => PyData.noConfusion z), (tx_int (k := 11) (by omega) 1).txB⟩⟩
    · show (decide ((0 : Int) ≤ 1000 + (q : Int) % 2) && decide (1000 + (q : Int) % 2 ≤ 999)) = false
      rw [decide_eq_false (show ¬ 1000 + (q : Int) % 2 ≤ 999 by omega), Bool.and_false]
    · show (decide ((0 : Int) ≤ 1000 + (q : Int) % 2) && decide (1000 + (q : Int) % 2 ≤ 1000)) = false
      rw [decide_eq_false (show ¬ 1000 + (q : Int) % 2 ≤ 1000 by omega), Bool.and_false]
  · exact ⟨_, rfl, fun _ => by decide +kernel, fun _ => by decide +kernel, .inr ⟨_, rfl, (fun _ z => PyData.noConfusion z), .by (by decide +kernel)⟩⟩
  · exact ⟨_, rfl, fun _ => rfl, fun _ => rfl, .inr ⟨_, rfl, (fun _ z => PyData.noConfusion z), .by (by decide +kernel)⟩⟩
  · exact ⟨_, rfl, fun _ => rfl, fun _ => rfl, .inr ⟨_, rfl, (fun _ z => PyData.noConfusion z), .by (by decide +kernel)⟩⟩
theorem place_at {len : Nat} (hl : len ≤ 100) {u : Int} (h0 : 0 ≤ u) (h1 : u < 3) : ∃ w : Int, atI [Ab.Cl.dat (.int 3), .dat (.int ((len : Int) + 2)), .dat (.int 120)] u = some (.dat (.int w)) ∧ 1 ≤ w ∧ w ≤ 120 := by
  have : u = 0 ∨ u = 1 ∨ u = 2 := by omega
  rcases this with rfl | rfl | rfl
  · exact ⟨3, rfl, by decide, by decide⟩
  · exact ⟨_, rfl, by omega, by omega⟩
  · exact ⟨120, rfl, by decide, by decide⟩
theorem reach_max (is : List Int) (n j : Nat) (hj : j ≤ is.length) : (if (if ((n : Int) + 1) < (is.length : Int) then (n : Int) + 1 else (is.length : Int)) > (j : Int) then (if ((n : Int) + 1) < (is.length : Int) then (n : Int) + 1 else (is.length : Int)) else (j : Int)) = ((reachJ is n j : Nat) : Int) := by
  unfold reachJ
  split <;> split <;> split <;> (try split) <;> omega
theorem reach_ok {is : List Int} {n j : Nat} {e : Bool} (hj : j ≤ is.length) (he : e = true → j = is.length) : reachJ is n j ≤ is.length ∧ (reachE is n e = true → reachJ is n j = is.length) := by
  unfold reachJ reachE
  constructor
  · split
    · exact hj
    · split <;> omega
  · intro z
    rcases Bool.or_eq_true_iff.mp z with z | z
    · have := he z
      split
      · exact this
      · rw [if_neg (by omega)]
    · have := of_decide_eq_true z
      rw [if_neg (by omega), if_neg (by omega)]
theorem fu_law_step (T : Txt K mg) : Fu P w K mg base 6 "_law_step" ["_law_purse_here", "_law_stream", "_law_row_here", "_law_ready"] afStep := by
  refine fu_of T.d_law_step sc_law_step (fun _ _ _ _ _ _ us hl => match us, hl with | [_, _, _, _], _ => rfl) (fun O cs Xf Kc h => match cs, h with | [_, _, _, _], _ => rfl) ?_
  intro f cdv A outer s H E hgd hr
  have F_law_take := ok_take (P := P) (w := w) (base := base) T
  have F_law_asked := fu_law_asked (P := P) (w := w) (base := base) T
  refine ⟨_, (dss_cons (ds_set (i := 4) sc_law_step.nd rfl (Or.inl rfl) (de_old F_law_take sp_take (hr.mono (by decide)) rfl (da_cons (dv 0) (da_cons de_int da_nil))))
 (dss_cons (ds_set (i := 5) sc_law_step.nd rfl (Or.inl rfl) (de_old F_law_take sp_take (hr.mono (by decide)) rfl (da_cons (dv 0) (da_cons (de_ix ix_list sr_ixL (de_lst (da_cons de_int (da_cons (de_op op_add sr_add (de_callB call_len_seq sb_len (by rfl) T.n_len PySem.boot_len (da_cons (dv 2) da_nil)) de_int) (da_cons de_int da_nil)))) (de_old F_law_take sp_take (hr.mono (by decide)) rfl (da_cons (dv 0) (da_cons de_int da_nil))) (fun _ _ => rfl)) da_nil))))
 (dss_cons (ds_if (dt_cmp (op_eqD hr.units) sr_eq (de_old F_law_take sp_take (hr.mono (by decide)) rfl (da_cons (dv 0) (da_cons de_int da_nil))) de_int (nomark _)) (dss_one (ds_set (i := 5) sc_law_step.nd rfl (Or.inl rfl) de_int)) dss_nil)
 (dss_cons (ds_if (dt_cmp (op_eqD hr.units) sr_eq (dv 4) de_int (nomark _)) (dss_cons (ds_set (i := 6) sc_law_step.nd rfl (Or.inl rfl) (de_lst (da_cons de_non (da_cons de_bl (da_cons (de_un un_neg sr_neg de_int) (da_cons de_str (da_cons (de_lstO (da_cons de_int da_nil)) (da_cons (de_tup (da_cons de_int da_nil)) (da_cons de_dct0 (da_cons (de_op op_add sr_add de_int (de_op op_mod sr_mod (dv 5) de_int)) (da_cons (de_op op_pow sr_pow de_int de_int) (da_cons de_bl (da_cons de_str da_nil)))))))))))))
 (dss_cons (ds_set (i := 7) sc_law_step.nd rfl (Or.inl rfl) (de_ix ix_list sr_ixL (dv 6) (de_old F_law_take sp_take (hr.mono (by decide)) rfl (da_cons (dv 0) (da_cons de_int da_nil))) (fun _ _ => rfl)))
 (dss_cons (ds_asg (de_call F_law_asked (takes_of rfl rfl rfl rfl) hgd (hr.mono (by decide)) rfl (da_cons (dv 1) (da_cons (de_op op_mod sr_mod (dv 5) de_int) (da_cons (dv 7) da_nil)))) (dg_tup (n := 2) rfl (dgs_cons (dg_name (i := 8) sc_law_step.nd rfl (Or.inl rfl)) (dgs_cons (dg_name (i := 9) sc_law_step.nd rfl (Or.inl rfl)) dgs_nil))))
 (dss_cons (ds_if (dt_val (de_callB cr_isi sb_isi (by rfl) T.n_isinstance (by decide +kernel) (da_cons (dv 7) (da_cons (de_raw (pe_bltn (v := .ty "list") (by rfl) T.n_list (by decide +kernel) rfl)) da_nil)))) (dss_one (ds_expr (de_app (dv 7) (da_cons de_int da_nil)))) dss_nil)
 (dss_cons (ds_set (i := 10) sc_law_step.nd rfl (Or.inl rfl) (de_and (de_cmp (op_eqD hr.units) sr_eq (dv 8) (de_ix ix_list sr_ixL (de_lst (da_cons de_str (da_cons de_str da_nil))) (de_op op_mod sr_mod (dv 5) de_int) (fun _ _ => rfl)) (nomark _)) (de_one (de_cmp op_eq sr_eqS (de_callB (cr_reprG (b := False) hgd hr.units (fun h => h.elim)) sb_reprG (by rfl) T.n_repr (by decide +kernel) (da_cons (dv 9) da_nil)) (de_callB (cr_reprG (b := False) hgd hr.units (fun h => h.elim)) sb_reprG (by rfl) T.n_repr (by decide +kernel) (da_cons (dv 7) da_nil)) (nomark _)))))
 (dss_one (ds_ret (de_ifExp (dt_val (dv 10)) (dv 3) de_non)))))))) dss_nil)
 (dss_cons (ds_if (dt_cmp op_lt sr_lt (dv 4) de_int (nomark _)) (dss_cons (ds_set (i := 11) sc_law_step.nd rfl (Or.inl rfl) (de_ifExp (dt_cmp op_lt sr_lt (dv 5) (de_callB call_len_seq sb_len (by rfl) T.n_len PySem.boot_len (da_cons (dv 2) da_nil)) (nomark _)) (de_tup (da_cons de_str (da_cons (de_ix ix_list sr_ixL (dv 2) (dv 5) (fun _ _ => rfl)) da_nil))) (de_tup (da_cons de_str da_nil))))
 (dss_cons (ds_set (i := 10) sc_law_step.nd rfl (Or.inl rfl) (de_cmp op_eq sr_eqS (de_callB (cr_reprG (b := False) hgd hr.units (fun h => h.elim)) sb_reprG (by rfl) T.n_repr (by decide +kernel) (da_cons (de_call F_law_asked (takes_of rfl rfl rfl rfl) hgd (hr.mono (by decide)) rfl (da_cons (dv 1) (da_cons de_int (da_cons (dv 5) da_nil)))) da_nil)) (de_callB (cr_reprG (b := False) hgd hr.units (fun h => h.elim)) sb_reprG (by rfl) T.n_repr (by decide +kernel) (da_cons (de_tup (da_cons de_str (da_cons (dv 11) da_nil))) da_nil)) (nomark _)))
 (dss_one (ds_ret (de_ifExp (dt_val (dv 10)) (de_callB (call_max2 rfl) sb_i2 (by rfl) T.n_max (by decide +kernel) (da_cons (dv 3) (da_cons (de_callB (call_min2 rfl) sb_i2 (by rfl) T.n_min (by decide +kernel) (da_cons (de_callB call_len_seq sb_len (by rfl) T.n_len PySem.boot_len (da_cons (dv 2) da_nil)) (da_cons (de_op op_add sr_add (dv 5) de_int) da_nil))) da_nil))) de_non))))) dss_nil)
 (dss_cons (ds_set (i := 5) sc_law_step.nd rfl (Or.inl rfl) (de_op op_add sr_add (dv 5) (de_callTy call_int1 sb_intB (by rfl) T.n_int (by decide +kernel) (da_cons (de_cmp (op_eqD hr.units) sr_eq (dv 5) de_int (nomark _)) da_nil))))
 (dss_cons (ds_set (i := 11) sc_law_step.nd rfl (Or.inl rfl) (de_tup (da_cons (de_slice sl_list sr_slL (dv 2) do_none (do_some (dv 5))) (da_cons (de_ifExp (dt_cmp op_le sr_le (dv 5) (de_callB call_len_seq sb_len (by rfl) T.n_len PySem.boot_len (da_cons (dv 2) da_nil)) (nomark _)) de_str de_str) da_nil))))
 (dss_cons (ds_asg (de_call F_law_asked (takes_of rfl rfl rfl rfl) hgd (hr.mono (by decide)) rfl (da_cons (dv 1) (da_cons de_int (da_cons (dv 5) da_nil)))) (dg_tup (n := 2) rfl (dgs_cons (dg_name (i := 8) sc_law_step.nd rfl (Or.inl rfl)) (dgs_cons (dg_name (i := 9) sc_law_step.nd rfl (Or.inl rfl)) dgs_nil))))
 (dss_cons (ds_if (dw_pt (dw_or (dt_cmp op_ne sr_neS (dv 8) de_str (nomark _)) (dw_or1 (dt_cmp op_ne sr_neS (de_callB (cr_reprG (b := False) hgd hr.units (fun h => h.elim)) sb_reprG (by rfl) T.n_repr (by decide +kernel) (da_cons (dv 9) da_nil)) (de_callB (cr_reprG (b := False) hgd hr.units (fun h => h.elim)) sb_reprG (by rfl) T.n_repr (by decide +kernel) (da_cons (dv 11) da_nil)) (nomark _))))) (dss_one (ds_ret de_non)) dss_nil)
 (dss_cons (ds_expr (de_app (de_ix ix_tup sr_ixT (dv 9) de_int (fun _ _ => rfl)) (da_cons de_int da_nil)))
 (dss_one (ds_ret (de_callB (call_max2 rfl) sb_i2 (by rfl) T.n_max (by decide +kernel) (da_cons (dv 3) (da_cons (de_callB (call_min2 rfl) sb_i2 (by rfl) T.n_min (by decide +kernel) (da_cons (de_callB call_len_seq sb_len (by rfl) T.n_len PySem.boot_len (da_cons (dv 2) da_nil)) (da_cons (dv 5) da_nil))) da_nil))))))))))))))), ?_⟩
  intro O cs Xf Kc h
  obtain ⟨c_law_purse_here, c_law_stream, c_law_row_here, c_law_ready, rfl⟩ : ∃ c_law_purse_here c_law_stream c_law_row_here c_law_ready, cs = [c_law_purse_here, c_law_stream, c_law_row_here, c_law_ready] := match cs, h with | [c_law_purse_here, c_law_stream, c_law_row_here, c_law_ready], _ => ⟨c_law_purse_here, c_law_stream, c_law_row_here, c_law_ready, rfl⟩
  refine rho_is (ρ' := [some c_law_purse_here, some c_law_stream, some c_law_row_here, some c_law_ready, none, none, none, none, none, none, none, none]) rfl ?_
  obtain ⟨F, n, p, s, m, b, x, is, j, e, S, rfl, rfl, hn, hr, rfl, hl, hs, k⟩ := h
  refine sq_set (take_r (pu_var rfl) pu_c S.lo (by decide) (by decide) (by omega) fun wy wy0 wy1 => ?_)
  have S1 := S.pur (n - 1)
  have hlen : (iCl is).length = is.length := by simp [iCl]
  refine Ab.sq_set (t_call (t_cons_pu (pu_var rfl) (t_cons (t_op (?_ : aLst _ _ _ _ _)))))
  refine t_lst (t_cons_pu pu_c (t_cons_pu (pu_I0 (g := fun i j => PyData.int (i + j)) (pu_len (pu_var rfl) (.inl (hr _ _ _))) pu_c) (t_cons_pu pu_c ⟨by simp, ?_⟩)))
  refine take_r (pu_var rfl) pu_c S1.lo (by decide) (by decide) (by omega) fun u u0 u1 => ?_
  rw [hlen]
  obtain ⟨wd, hat, w0, w1⟩ := place_at hl u0 u1
  refine ⟨_, u, _, rfl, elsC _ _, hat, ?_⟩
  have S2 := S.pur (n - 1 - 1)
  dsimp only
  refine nil_step ?_
  refine take_at (n := n - 1 - 1) (m := wd) S2.lo (fun pl pl0 pl1 => ?_) (by omega) (by omega) (by omega)
  obtain ⟨pN, rfl⟩ : ∃ pN : Nat, pl = (pN : Int) := ⟨pl.toNat, by omega⟩
  refine sq_join (Pr := fun O' ρ' => ∃ (n' q : Nat), StP O' F n' p s m b x is j e ∧ n ≤ n' + 4 ∧ (q ≤ 119 ∨ q = 999) ∧ ρ' = [some (.at p), some (.at s), some c_law_row_here, some (.dat (.int (j : Nat))), some (.dat (.int wy)), some (.dat (.int (q : Nat))), none, none, none, none, none, none]) ?_ fun fin => ?_
  case refine_2 =>
    have S3 := S.pur (n - 1 - 1 - 1)
    refine t_test (t_op (take_r (pu_var rfl) pu_c S3.lo (by decide) (by decide) (by omega) fun v v0 v1 => pu_c _ ⟨.int v, .int 0, .dat _, .dat _, rfl, rfl, rfl, rfl, _, rfl, ?_⟩))
    rw [eqv_int]
    by_cases hv : v = 0
    · rw [decide_eq_true hv]
      exact iteT (pu_c _ (fin _ _ ⟨n - 1 - 1 - 1 - 1, 999, S.pur _, by omega, .inr rfl, rfl⟩))
    · rw [decide_eq_false hv]
      exact iteF (fin _ _ ⟨n - 1 - 1 - 1 - 1, pN, S.pur _, by omega, .inl (by omega), rfl⟩)
  clear S1 S2 hat
  rintro O' ρ' ⟨n', q, S', hn', hq, rfl⟩
  refine sq_ifP (put_ (pu_eqI (pu_var rfl) pu_c)) ?_
  by_cases h4 : wy = 4
  · rw [decide_eq_true h4]
    refine iteT ?_
    refine Ab.sq_set (t_lst (t_cons_pu pu_c (t_cons_pu pu_c (t_cons_pu (pu_neg pu_c) (t_cons_pu pu_c (t_cons (t_lstO (t_cons_pu pu_c ⟨by simp, fun qa => ?_⟩))))))))
    refine t_cons_pu (c := .dat (.tuple [.int 3])) (pu_tup1 (c := .dat (.int 3)) pu_c) (t_cons_pu (c := .dat (.dict [])) (fun K k => k) (t_cons_pu (pu_I0 (g := fun i j => PyData.int (i + j)) pu_c (pu_I (C := fun _ j => 0 < j) (g := fun i j => PyData.int (i % j)) (pu_var rfl) pu_c (by decide))) (t_cons_pu (pu_I (C := CPow) (g := fun i j => PyData.int (i ^ j.toNat)) pu_c pu_c cpow) (t_cons_pu pu_c (t_cons_pu pu_c ⟨by simp, ?_⟩)))))
    have S1 := S'.up (qa, .lst [.dat (.int 3)])
    refine Ab.sq_set (t_op (pu_var rfl _ (take_r (pu_var rfl) pu_c S1.lo (by decide) (by decide) (by omega) fun r r0 r1 => ?_)))
    obtain ⟨tc, hat, ht⟩ := odd_at qa q r0 r1
    refine ⟨_, r, _, rfl, elsC _ _, hat, ?_⟩
    have S2 := S1.pur (n' - 1)
    have mq : (qa, Ow.lst [Ab.Cl.dat (.int 3)]) ∈ (qa, Ow.lst [Ab.Cl.dat (.int 3)]) :: F (.pur (n' - 1)) (rowW x is e m b) (madeW is j) := List.mem_cons_self ..
    have kn : ∃ nn, Kn ((qa, Ow.lst [Ab.Cl.dat (.int 3)]) :: F (.pur (n' - 1)) (rowW x is e m b) (madeW is j)) tc nn := by
      rcases ht.2.2 with rfl | ⟨d, rfl, _⟩
      · exact ⟨_, .own mq⟩
      · exact ⟨_, .dat _⟩
    obtain ⟨wd3, hwd3⟩ : ∃ w : Str, w = if (q : Int) % 2 = 0 then ("place" : Str) else ("number" : Str) := ⟨_, rfl⟩
    have key : ∀ (Xf : Ob → Str → Ab.Cl → Prop) (Kc : KC), Kc ((qa, Ow.lst [Ab.Cl.dat (.int 3)]) :: F (.pur (n' - 1)) (rowW x is e m b) (madeW is j)) (tupC [sD wd3, tc]) → afAsked ((qa, Ow.lst [Ab.Cl.dat (.int 3)]) :: F (.pur (n' - 1)) (rowW x is e m b) (madeW is j)) [.at s, .dat (.int ((q : Int) % 2)), tc] Xf Kc := by
      intro Xf Kc kk
      refine ⟨_, s, m, b, x, is, j, e, S2.sto, kn, ?_⟩
      by_cases h : (q : Int) % 2 = 0
      · rw [if_pos h] at hwd3
        exact .inl ⟨by rw [h], .inl ⟨ht.1 h, hwd3 ▸ kk⟩⟩
      · rw [if_neg h] at hwd3
        exact .inr ⟨by rw [show (q : Int) % 2 = 1 by omega], .inl ⟨ht.2.1 (by omega), hwd3 ▸ kk⟩⟩
    refine sq_asgG (call3 (pu_var rfl) (pu_I (C := fun _ j => 0 < j) (g := fun i j => PyData.int (i % j)) (pu_var rfl) pu_c (by decide)) (pu_var rfl) (key _ _ ?_))
    refine ⟨[sD wd3, tc], elsTC _, rfl, _, _, rfl, _, _, rfl, rfl, ?_⟩
    refine sq_join (Pr := fun O'' ρ'' => ∃ (G' : Ob) (d : PyData) (v6 : Option Ab.Cl), O'' = G' ++ F (.pur (n' - 1)) (rowW x is e m b) (madeW is j) ∧ Rdc O'' tc d ∧ TxB d ∧
      ρ'' = [some (.at p), some (.at s), some c_law_row_here, some (.dat (.int (j : Nat))), some (.dat (.int wy)), some (.dat (.int (q : Nat))), v6, some tc, some (sD wd3), some tc, none, none]) ?_ fun fin2 => ?_
    · rintro O'' ρ'' ⟨G', d, v6, rfl, rd, tx, rfl⟩
      have hat2 : atI [sD "place", sD "number"] ((q : Int) % 2) = some (sD wd3) := by
        by_cases h : (q : Int) % 2 = 0
        · rw [if_pos h] at hwd3; rw [h, hwd3]; rfl
        · rw [if_neg h] at hwd3; rw [show (q : Int) % 2 = 1 by omega, hwd3]; rfl
      have sh : SeqAt.shaped (.str wd3) = true := by
        by_cases h : (q : Int) % 2 = 0
        · rw [if_pos h] at hwd3; rw [hwd3]; decide +kernel
        · rw [if_neg h] at hwd3; rw [hwd3]; decide +kernel
      refine Ab.sq_set (t_andV (t_op (pu_var rfl _ (pu_ixL (es := [sD "place", sD "number"]) (c := lisC [sD "place", sD "number"]) (fun K kk => ⟨by simp, kk⟩) (pu_I (C := fun _ j => 0 < j) (g := fun i j => PyData.int (i % j)) (pu_var rfl) pu_c (by decide)) (elsC _ _) hat2 _ ⟨.str wd3, .str wd3, .dat _, .dat _, rfl, rfl, sh, sh, _, rfl, ?_⟩))))
      rw [show PyData.eqv (.str wd3) (.str wd3) = true by simp [PyData.eqv]]
      refine iteT (t_op (t_cb (t_cons_pu (pu_var rfl) ⟨_, d, rfl, rd, tx.g False, t_cb (t_cons_pu (pu_var rfl) ⟨_, d, rfl, rd, tx.g False, _, _, rfl, rfl, ?_⟩)⟩)))
      rw [decide_eq_true rfl]
      exact t_ret (ife_put (put_ (pu_var rfl)) (iteT (pu_var rfl _ (k G' (n' - 1) j e S'.jl S'.en (by omega)))))
    · rcases ht.2.2 with rfl | ⟨d, rfl, nl, tx⟩
      · refine t_test ⟨_, rfl, _, _, _, _, rfl, .own mq, kn_list (.own mq), _, rfl, iteT ?_⟩
        refine t_drop (app_pu (pu_var rfl) pu_c .here (by simp) (fin2 _ _ ⟨[_], .list [.int 3, .int 5], _, rfl, .at (List.mem_cons_self ..) (Rdcs.dats [_, _]), .by (by decide +kernel), rfl⟩))
      · have k1 : (tnD d == "list") = false := by cases d <;> first | rfl | exact absurd rfl (nl _)
        refine t_test ⟨_, rfl, _, _, _, _, rfl, .dat d, kn_list (O := O) (.dat d), _, rfl, ?_⟩
        rw [k1]
        exact iteF (fin2 _ _ ⟨[_], d, _, rfl, .dat d, tx, rfl⟩)
  rw [decide_eq_false h4]
  refine iteF (sq_ifP (put_ (pu_I0 (pu_var rfl) pu_c)) ?_)
  have el : Els O' c_law_row_here (iCl is) := by rw [S'.o]; exact hr _ _ _
  by_cases h2 : wy < 2
  · rw [decide_eq_true h2]
    refine iteT ?_
    -- one place
    refine sq_setP (c := .dat (moreD is q)) (fun K kk => ife_put (put_ (pu_I0 (pu_var rfl) (pu_len (pu_var rfl) (.inl el)))) ?_) ?_
    · rw [hlen]
      unfold moreD at kk
      by_cases hql : q < is.length
      · rw [if_pos hql] at kk
        rw [decide_eq_true (show (q : Int) < (is.length : Int) by omega)]
        exact iteT (pu_tup2 (c := .dat (.str "term")) (d := .dat (.int (is.getD q 0))) pu_c (pu_ixL (pu_var rfl) (pu_var rfl) el (iCl_at hql)) _ kk)
      · rw [if_neg hql] at kk
        rw [decide_eq_false (show ¬ (q : Int) < (is.length : Int) by omega)]
        exact iteF (pu_tup1 (c := .dat (.str "end")) pu_c _ kk)
    have tx := (more_tx hs q).g False
    have ro := reach_ok (n := q) S'.jl S'.en
    refine Ab.sq_set (t_op (t_cb (t_cons (call3 (pu_var rfl) pu_c (pu_var rfl) ⟨F (.pur n'), s, m, b, x, is, j, e, S'.sto, ⟨_, .dat _⟩, .inl ⟨rfl, .inr ⟨q, by omega, rfl, ?_⟩⟩⟩))))
    refine ⟨_, _, rfl, .dat _, tx, ?_⟩
    refine t_cb (t_cons (pu_tup2 (c := .dat (.str "told")) (d := .dat (moreD is q)) pu_c (pu_var rfl) _ ⟨_, _, rfl, .dat _, tx, _, _, rfl, rfl, ?_⟩))
    rw [decide_eq_true rfl]
    refine t_ret (ife_put (put_ (pu_var rfl)) (iteT ?_))
    refine pu_i2 (g := fun i j => if j > i then j else i) (pu_var rfl) (pu_i2 (g := fun i j => if j < i then j else i) (pu_len (pu_var rfl) (.inl (hr _ _ _))) (pu_I0 (g := fun i j => PyData.int (i + j)) (pu_var rfl) pu_c)) _ ?_
    rw [hlen, reach_max is q j S'.jl]
    exact k [] n' _ _ ro.1 ro.2 (by omega)
  rw [decide_eq_false h2]
  refine iteF ?_
  -- many at once
  obtain ⟨mN, hmN, hm0⟩ : ∃ mN : Nat, (q : Int) + (if decide ((q : Int) = 999) = true then 1 else 0) = (mN : Int) ∧ mN ≤ 1000 := by
    by_cases h9 : q = 999
    · exact ⟨1000, by rw [decide_eq_true (by omega), if_pos rfl]; omega, by omega⟩
    · exact ⟨q, by rw [decide_eq_false (by omega), if_neg Bool.false_ne_true]; omega, by omega⟩
  refine sq_setP (pu_I0 (g := fun i j => PyData.int (i + j)) (pu_var rfl) (pu_intB (pu_eqI (pu_var rfl) pu_c))) ?_
  rw [hmN]
  have wsz : ∀ bb : Bool, (PyData.str (if bb = true then ("more" : Str) else ("end" : Str))).leavesShort 1921 = true ∧ (if bb = true then ("more" : Str) else ("end" : Str)).cps.size ≤ 100 := by
    intro bb; cases bb <;> exact ⟨by decide +kernel, by decide +kernel⟩
  obtain ⟨wd2, hwd⟩ : ∃ w : Str, w = if mN ≤ is.length then ("more" : Str) else ("end" : Str) := ⟨_, rfl⟩
  have tx : TxG False (.tuple [.list ((is.take mN).map .int), .str wd2]) := by
    have z := wsz (decide (mN ≤ is.length))
    have e1 : (if decide (mN ≤ is.length) = true then ("more" : Str) else ("end" : Str)) = wd2 := by
      rw [hwd]
      by_cases hh : mN ≤ is.length
      · rw [decide_eq_true hh, if_pos rfl, if_pos hh]
      · rw [decide_eq_false hh, if_neg Bool.false_ne_true, if_neg hh]
    rw [e1] at z
    exact (row_tx hs hl mN wd2 z.1 z.2).g False
  have el : Els O' c_law_row_here ((is.map PyData.int).map .dat) := by rw [map_iCl, S'.o]; exact hr _ _ _
  refine sq_setP (c := .dat (.tuple [.list ((is.take mN).map .int), .str wd2])) (pu_tup2 (c := .dat (.list ((is.take mN).map .int))) (d := .dat (.str wd2)) (by rw [List.map_take, ← cutD_take]; exact pu_sl_to (pu_var rfl) (pu_var rfl) el) (fun K kk => ife_put (put_ (pu_I0 (pu_var rfl) (pu_len (pu_var rfl) (.inl el)))) ?_)) ?_
  · rw [List.length_map, List.length_map]
    by_cases hh : mN ≤ is.length
    · rw [decide_eq_true (show (mN : Int) ≤ (is.length : Int) by omega)]
      rw [if_pos hh] at hwd
      exact iteT (pu_c _ (hwd ▸ kk))
    · rw [decide_eq_false (show ¬ (mN : Int) ≤ (is.length : Int) by omega)]
      rw [if_neg hh] at hwd
      exact iteF (pu_c _ (hwd ▸ kk))
  refine sq_asgG (call3 (pu_var rfl) pu_c (pu_var rfl) ⟨F (.pur n'), s, m, b, x, is, j, e, S'.sto, ⟨_, .dat _⟩, .inr ⟨rfl, .inr ⟨mN, hm0, rfl, fun qa => ?_⟩⟩⟩)
  rw [← hwd]
  obtain ⟨j', e', hZ, hj1, hj2, hj3⟩ : ∃ (j' : Nat) (e' : Bool), (if mN = 0 then O' else F (.pur n') (rowW x is (reachE is (mN - 1) e) m b) (madeW is (reachJ is (mN - 1) j))) = F (.pur n') (rowW x is e' m b) (madeW is j') ∧ j' ≤ is.length ∧ (e' = true → j' = is.length) ∧
      (if (if (mN : Int) < (is.length : Int) then (mN : Int) else (is.length : Int)) > (j : Int) then (if (mN : Int) < (is.length : Int) then (mN : Int) else (is.length : Int)) else (j : Int)) = (j' : Int) := by
    by_cases h0 : mN = 0
    · subst h0
      exact ⟨j, e, by rw [if_pos rfl]; exact S'.o, S'.jl, S'.en, by split <;> split <;> omega⟩
    · have ro := reach_ok (n := mN - 1) S'.jl S'.en
      refine ⟨_, _, by rw [if_neg h0], ro.1, ro.2, ?_⟩
      rw [← reach_max is (mN - 1) j S'.jl]
      have e1 : ((mN - 1 : Nat) : Int) + 1 = (mN : Int) := by omega
      rw [e1]
  rw [hZ]
  refine ⟨[sD "told", .tup [.at qa, sD wd2]], .tup _, rfl, _, _, rfl, _, _, rfl, rfl, ?_⟩
  refine sq_if (or_neSame (x := "told") (pu_var rfl) pu_c (t_test (t_op (t_cb (t_cons_pu (pu_var rfl) ⟨_, .tuple [.list ((is.take mN).map .int), .str wd2], rfl, ?_, tx, t_cb (t_cons_pu (pu_var rfl) ⟨_, _, rfl, .dat _, tx, _, _, rfl, rfl, _, rfl, ?_⟩)⟩)))))
  · have rm : Rdcs ((qa, Ow.lst (iCl (is.take mN))) :: F (.pur n') (rowW x is e' m b) (madeW is j')) (iCl (is.take mN)) ((is.take mN).map .int) := by rw [← map_iCl]; exact Rdcs.dats _
    exact .tup (.cons (.at (List.mem_cons_self ..) rm) (.cons (.dat _) .nil))
  rw [decide_eq_true rfl]
  refine iteF (sq_drop (app_pu (cs := iCl (is.take mN)) (pu_ixT (es := [.at qa, sD wd2]) (pu_var rfl) pu_c (.tup _) rfl) pu_c .here (by simp [iCl]; omega) ?_))
  have er : ∀ Z : Addr × Ow, Els (Z :: F (.pur n') (rowW x is e' m b) (madeW is j')) c_law_row_here (iCl is) := fun Z => by
    have z := hr (.pur n') (rowW x is e' m b) (madeW is j')
    exact z.up Z
  refine ret_pu (pu_i2 (g := fun i j => if j > i then j else i) (pu_var rfl) (pu_i2 (g := fun i j => if j < i then j else i) (pu_len (pu_var rfl) (.inl (er _))) (pu_var rfl))) ?_
  rw [hlen, hj3]
  exact k [_] n' _ _ hj1 hj2 (by omega)
end
end My
namespace My
open PySem PySem.Spec PyProof.Rows L2 Vg Ab
section
variable {P : Program} {w : World} {K : PySem.W.Frag} {mg : Str → Option Value} {base : Heap}
/-- one of the two -/
def pk {α : Type} (a b : α) (i : Nat) : α := if i = 0 then a else b
def up (S : Nat → Ow) (i : Nat) (w : Ow) (l : Nat) : Ow := if l = i then w else S l
theorem up_self (S : Nat → Ow) (i : Nat) : up S i (S i) = S := by
  funext l
  unfold up
  split
  · rename_i h; rw [h]
  · rfl
structure SixP (Z : Ow → (Nat → Ow) → (Nat → Ow) → Ow → Ob) (rd : Addr) (s m q : Nat → Addr) (p : Addr) (is : Nat → List Int) : Prop where
  lr : ∀ r S M w, Ab.Lo (Z r S M w) rd r fun v => Z v S M w
  ls : ∀ i, i < 2 → ∀ r S M w v, Ab.Lo (Z r (up S i v) M w) (s i) v fun v' => Z r (up S i v') M w
  lm : ∀ i, i < 2 → ∀ r S M w v, Ab.Lo (Z r S (up M i v) w) (m i) v fun v' => Z r S (up M i v') w
  lp : ∀ r S M w, Ab.Lo (Z r S M w) p w fun v => Z r S M v
  rows : ∀ i, i < 2 → ∀ r S M w, (q i, Ow.lst (iCl (is i))) ∈ Z r S M w
theorem lo_app {O : Ob} {a : Addr} {w : Ow} {f : Ow → Ob} (G : Ob) (h : Ab.Lo O a w f) : Ab.Lo (G ++ O) a w fun v => G ++ f v := h.app G
theorem SixP.app {Z : Ow → (Nat → Ow) → (Nat → Ow) → Ow → Ob} {rd : Addr} {s m q : Nat → Addr} {p : Addr} {is : Nat → List Int} (h : SixP Z rd s m q p is) (G : Ob) : SixP (fun r S M w => G ++ Z r S M w) rd s m q p is :=
  ⟨fun _ _ _ _ => lo_app G (h.lr _ _ _ _), fun i hi _ _ _ _ _ => lo_app G (h.ls i hi _ _ _ _ _), fun i hi _ _ _ _ _ => lo_app G (h.lm i hi _ _ _ _ _), fun _ _ _ _ => lo_app G (h.lp _ _ _ _), fun i hi _ _ _ _ => List.mem_append_right _ (h.rows i hi _ _ _ _)⟩
/-- the state of both streams -/
structure Two (O : Ob) (Z : Ow → (Nat → Ow) → (Nat → Ow) → Ow → Ob) (rd : Addr) (s m q b : Nat → Addr) (p : Addr) (x : Nat → Str) (is : Nat → List Int) (j : Nat → Nat) (e : Nat → Bool) (n : Nat) : Prop where
  z : SixP Z rd s m q p is
  o : O = Z (.lst [.dat (.int (j 0 : Nat)), .dat (.int (j 1 : Nat))]) (fun i => rowW (x i) (is i) (e i) (m i) (b i)) (fun i => madeW (is i) (j i)) (.pur n)
  jl : ∀ i, i < 2 → j i ≤ (is i).length
  en : ∀ i, i < 2 → e i = true → j i = (is i).length
  sm : ∀ i, i < 2 → (is i).length ≤ 100
section
variable {O : Ob} {Z : Ow → (Nat → Ow) → (Nat → Ow) → Ow → Ob} {rd : Addr} {s m q b : Nat → Addr} {p : Addr} {x : Nat → Str} {is : Nat → List Int} {j : Nat → Nat} {e : Nat → Bool} {n : Nat}
theorem Two.pur (h : Two O Z rd s m q b p x is j e n) : Ab.Lo O p (.pur n) fun v => Z (.lst [.dat (.int (j 0 : Nat)), .dat (.int (j 1 : Nat))]) (fun i => rowW (x i) (is i) (e i) (m i) (b i)) (fun i => madeW (is i) (j i)) v := by rw [h.o]; exact h.z.lp _ _ _ _
theorem Two.next (h : Two O Z rd s m q b p x is j e n) (n' : Nat) : Two (Z (.lst [.dat (.int (j 0 : Nat)), .dat (.int (j 1 : Nat))]) (fun i => rowW (x i) (is i) (e i) (m i) (b i)) (fun i => madeW (is i) (j i)) (.pur n')) Z rd s m q b p x is j e n' := ⟨h.z, rfl, h.jl, h.en, h.sm⟩
theorem Two.garb (h : Two O Z rd s m q b p x is j e n) (G : Ob) : Two (G ++ O) (fun r S M w => G ++ Z r S M w) rd s m q b p x is j e n := ⟨h.z.app G, by rw [h.o], h.jl, h.en, h.sm⟩
/-- the hole of one of the two -/
def oneF (Z : Ow → (Nat → Ow) → (Nat → Ow) → Ow → Ob) (r : Ow) (S M : Nat → Ow) (i : Nat) : Ow → Ow → Ow → Ob := fun w0 w1 w2 => Z r (up S i w1) (up M i w2) w0
theorem Two.st (h : Two O Z rd s m q b p x is j e n) {i : Nat} (hi : i < 2) : StP O (oneF Z (.lst [.dat (.int (j 0 : Nat)), .dat (.int (j 1 : Nat))]) (fun i => rowW (x i) (is i) (e i) (m i) (b i)) (fun i => madeW (is i) (j i)) i) n p (s i) (m i) (b i) (x i) (is i) (j i) (e i) :=
  ⟨fun _ _ _ => h.z.lp _ _ _ _, fun _ _ _ => h.z.ls i hi _ _ _ _ _, fun _ _ _ => h.z.lm i hi _ _ _ _ _, by unfold oneF; rw [h.o, up_self (fun i => rowW (x i) (is i) (e i) (m i) (b i)) i, up_self (fun i => madeW (is i) (j i)) i], h.jl i hi, h.en i hi, by have := h.sm i hi; omega⟩
theorem Two.rdm (h : Two O Z rd s m q b p x is j e n) : (rd, Ow.lst [.dat (.int (j 0 : Nat)), .dat (.int (j 1 : Nat))]) ∈ O := by rw [h.o]; exact (h.z.lr _ _ _ _).mem
theorem Two.rows (h : Two O Z rd s m q b p x is j e n) {i : Nat} (hi : i < 2) : (q i, Ow.lst (iCl (is i))) ∈ O := by rw [h.o]; exact h.z.rows i hi _ _ _ _
end
def upN {α : Type} (f : Nat → α) (i : Nat) (v : α) (l : Nat) : α := if l = i then v else f l
theorem two_at' {α : Type} {a b : α} {i : Nat} (hi : i < 2) : atI [a, b] (i : Int) = some (pk a b i) := by
  have : i = 0 ∨ i = 1 := by omega
  rcases this with rfl | rfl <;> rfl
/-- the one of the two has gone on -/
theorem Two.step {Z : Ow → (Nat → Ow) → (Nat → Ow) → Ow → Ob} {rd : Addr} {s m q b : Nat → Addr} {p : Addr} {x : Nat → Str} {is : Nat → List Int} {j : Nat → Nat} {e : Nat → Bool} {O : Ob} {n : Nat} (h : Two O Z rd s m q b p x is j e n) {i : Nat} (hi : i < 2) (n' j' : Nat) (e' : Bool) (hj : j' ≤ (is i).length) (he : e' = true → j' = (is i).length) :
    ∃ f, Ab.Lo (oneF Z (.lst [.dat (.int (j 0 : Nat)), .dat (.int (j 1 : Nat))]) (fun i => rowW (x i) (is i) (e i) (m i) (b i)) (fun i => madeW (is i) (j i)) i (.pur n') (rowW (x i) (is i) e' (m i) (b i)) (madeW (is i) j')) rd (.lst [.dat (.int (j 0 : Nat)), .dat (.int (j 1 : Nat))]) f ∧
      Two (f (.lst ([.dat (.int (j 0 : Nat)), .dat (.int (j 1 : Nat))].set i (.dat (.int (j' : Nat)))))) Z rd s m q b p x is (upN j i j') (upN e i e') n' := by
  refine ⟨_, h.z.lr _ _ _ _, h.z, ?_, fun l hl => ?_, fun l hl => ?_, h.sm⟩
  · have e1 : (up (fun i => rowW (x i) (is i) (e i) (m i) (b i)) i (rowW (x i) (is i) e' (m i) (b i))) = fun l => rowW (x l) (is l) (upN e i e' l) (m l) (b l) := by
      funext l
      unfold up upN
      by_cases h : l = i
      · rw [if_pos h, if_pos h, h]
      · rw [if_neg h, if_neg h]
    have e2 : (up (fun i => madeW (is i) (j i)) i (madeW (is i) j')) = fun l => madeW (is l) (upN j i j' l) := by
      funext l
      unfold up upN
      by_cases h : l = i
      · rw [if_pos h, if_pos h, h]
      · rw [if_neg h, if_neg h]
    have e3 : [Ab.Cl.dat (.int (j 0 : Nat)), .dat (.int (j 1 : Nat))].set i (.dat (.int (j' : Nat))) = [.dat (.int (upN j i j' 0 : Nat)), .dat (.int (upN j i j' 1 : Nat))] := by
      have : i = 0 ∨ i = 1 := by omega
      rcases this with rfl | rfl <;> rfl
    rw [e1, e2, e3]
  · unfold upN
    by_cases h2 : l = i
    · rw [if_pos h2, h2]; exact hj
    · rw [if_neg h2]; exact h.jl l hl
  · unfold upN
    by_cases h2 : l = i
    · rw [if_pos h2, if_pos h2, h2]; exact he
    · rw [if_neg h2, if_neg h2]; exact h.en l hl
theorem pk_f {α β : Type} (f : α → β) (a b : α) (i : Nat) : pk (f a) (f b) i = f (pk a b i) := by unfold pk; split <;> rfl
theorem at_at {a b : Addr} {i : Nat} (hi : i < 2) : atI [Ab.Cl.at a, .at b] (i : Int) = some (.at (pk a b i)) := by rw [two_at' hi, pk_f Ab.Cl.at]
theorem at_sD {a b : Str} {i : Nat} (hi : i < 2) : atI [sD a, sD b] (i : Int) = some (sD (pk a b i)) := by rw [two_at' hi, pk_f sD]
theorem at_jj {j : Nat → Nat} {i : Nat} (hi : i < 2) : atI [Ab.Cl.dat (.int (j 0 : Nat)), .dat (.int (j 1 : Nat))] (i : Int) = some (.dat (.int (j i : Nat))) := by
  have : i = 0 ∨ i = 1 := by omega
  rcases this with rfl | rfl <;> rfl
theorem pu_man {O : Ob} {c : Ab.Cl} {F : Ow → Ow → Ob} {s m b : Addr} {x : Str} {is : List Int} {j : Nat} {e : Bool} {ρ : Rho} {XX : XC} {a : AE} (S : StO O c F s m b x is j e) (ha : Ab.Pu a O ρ XX (.at s)) : Ab.Pu (aMet0 "Row" "manner" afManner a) O ρ XX (sD x) := fun _ k => t_met0 ha S.m1 rfl (by have hc := S.c; subst hc; exact ⟨_, _, _, _, _, _, _, _, S, k⟩)
theorem pu_ask {O : Ob} {c : Ab.Cl} {F : Ow → Ow → Ob} {s m b : Addr} {x : Str} {is : List Int} {j : Nat} {e : Bool} {ρ : Rho} {XX : XC} {a : AE} (S : StO O c F s m b x is j e) (ha : Ab.Pu a O ρ XX (.at s)) : Ab.Pu (aMet0 "Row" "asked" afAskedN a) O ρ XX (.dat (.int (j : Nat))) := fun _ k => t_met0 ha S.m1 rfl (by have hc := S.c; subst hc; exact ⟨_, _, _, _, _, _, _, _, S, k⟩)
theorem pu_dep {O : Ob} {c : Ab.Cl} {F : Ow → Ow → Ob} {s m b : Addr} {x : Str} {is : List Int} {j : Nat} {e : Bool} {ρ : Rho} {XX : XC} {a : AE} (S : StO O c F s m b x is j e) (ha : Ab.Pu a O ρ XX (.at s)) : Ab.Pu (aMet0 "Row" "depth" afDepth a) O ρ XX (.dat (.int 0)) := fun _ k => t_met0 ha S.m1 rfl k
theorem list_txB {is : List Int} (h : ∀ t ∈ is, t.natAbs ≤ 10 ^ 12 + 1) (hl : is.length ≤ 100) (k : Nat) : TxB (.list ((is.take k).map .int)) := by
  have a1 : ∀ d ∈ (is.take k).map PyData.int, Tx1 41 1 d := fun d hd => by
    obtain ⟨t, ht, rfl⟩ := List.mem_map.mp hd
    have := h t (List.mem_of_mem_take ht)
    exact tx_int (by omega) 1
  have a2 := tx_list (txl_all a1)
  have len : ((is.take k).map PyData.int).length * (41 + 1) ≤ 4200 := by
    rw [List.length_map, List.length_take]
    have : min k is.length ≤ 100 := by omega
    omega
  exact (a2.up len (Nat.le_refl _)).txB8
theorem int_txB {j : Nat} (h : j ≤ 100) : TxB (.int (j : Nat)) := (tx_int (k := 11) (by omega) 1).txB
theorem t_perm {O : Ob} {ρ : Rho} {XX : XC} {a : AE} {K : KC} (h : a O ρ XX fun O1 c => ∃ O2, O1.Perm O2 ∧ K O2 c) : aPerm a O ρ XX K := h
theorem words_at {r : Int} (h0 : 0 ≤ r) (h1 : r < 3) : ∃ x : Str, atI [Ab.Cl.dat (.str "floor"), .dat (.str "ceil"), .dat (.str "near")] r = some (sD x) ∧ isMan x := by
  have : r = 0 ∨ r = 1 ∨ r = 2 := by omega
  rcases this with rfl | rfl | rfl
  · exact ⟨_, rfl, .inl rfl⟩
  · exact ⟨_, rfl, .inr (.inl rfl)⟩
  · exact ⟨_, rfl, .inr (.inr rfl)⟩
theorem size_at {r : Int} (h0 : 0 ≤ r) (h1 : r < 3) : ∃ w : Int, atI [Ab.Cl.dat (.int 3), .dat (.int 12), .dat (.int 100)] r = some (.dat (.int w)) ∧ 1 ≤ w ∧ w ≤ 100 := by
  have : r = 0 ∨ r = 1 ∨ r = 2 := by omega
  rcases this with rfl | rfl | rfl <;> exact ⟨_, rfl, by decide, by decide⟩
def RowOk (x : Str) (is : List Int) : Prop := 1 ≤ is.length ∧ is.length ≤ 100 ∧ (∀ t ∈ is, t.natAbs ≤ 10 ^ 12 + 1) ∧ begI x is = true ∧ endI x is = true
theorem rdA_own {O : Ob} {a : Addr} {is : List Int} (h : (a, Ow.lst (iCl is)) ∈ O) (hl : is.length ≤ 100) : RdA O (.at a) (some (iCl is)) :=
  ⟨.inl ⟨.own h, .own h⟩, fun e he => by obtain ⟨t, _, rfl⟩ := mem_iCl he; exact ⟨_, .dat _⟩, by simp [iCl]; omega⟩
theorem rdA_tup {O : Ob} {is : List Int} (hl : is.length ≤ 100) : RdA O (.dat (.tuple (is.map .int))) (some (iCl is)) :=
  ⟨.inr ⟨by rw [← map_iCl]; exact .dat _, .dat _⟩, fun e he => by obtain ⟨t, _, rfl⟩ := mem_iCl he; exact ⟨_, .dat _⟩, by simp [iCl]; omega⟩
theorem ok_law (T : Txt K mg) {f : Addr} {fd : FuncData} (F : Fun K "law" "law" s_law f fd) : FnG P w K mg base CX0 14 f fd ["_law_script"] (spLaw K) := by
  refine Ab.law_fng F sc_law fun cdv A outer s H E hgd hr => ?_
  · have F_law_purse := ok_purse (P := P) (w := w) (base := base) T
    have F_law_cell := ok_cell (P := P) (w := w) (base := base) T
    have F_law_row := fu_law_row (P := P) (w := w) (base := base) T
    have F_law_take := ok_take (P := P) (w := w) (base := base) T
    have F_law_made := fu_law_made (P := P) (w := w) (base := base) T
    have F_law_step := fu_law_step (P := P) (w := w) (base := base) T
    have F_Row__made := fu_Row__made (P := P) (w := w) (base := base) T
    have F_Row__asked := fu_Row__asked (P := P) (w := w) (base := base) T
    have F_Row__terms := fu_Row__terms (P := P) (w := w) (base := base) T
    have F_Row__manner := fu_Row__manner (P := P) (w := w) (base := base) T
    have F_Row__depth := fu_Row__depth (P := P) (w := w) (base := base) T
    refine ⟨_, (dss_cons (ds_set (i := 1) sc_law.nd rfl (Or.inl rfl) (de_lst (da_cons de_str (da_cons de_str (da_cons de_str da_nil)))))
 (dss_cons (ds_for PassesOwn.never rfl (di_r1 (by rfl) T.n_range (da_cons (de_callB (call_max2 rfl) sb_i2 (by rfl) T.n_max (by decide +kernel) (da_cons de_int (da_cons (de_callB (call_min2 rfl) sb_i2 (by rfl) T.n_min (by decide +kernel) (da_cons de_int (da_cons (de_callB call_len_seq sb_len (by rfl) T.n_len PySem.boot_len (da_cons (dv 0) da_nil)) da_nil))) da_nil))) da_nil)) (dg_name (i := 2) sc_law.nd rfl (Or.inl rfl)) (dss_cons (ds_set (i := 3) sc_law.nd rfl (Or.inr rfl) (de_old F_law_purse sp_purse (hr.mono (by decide)) rfl (da_cons (de_old F_law_cell sp_cell (hr.mono (by decide)) rfl (da_cons (dv 0) (da_cons (dv 2) da_nil))) da_nil)))
 (dss_cons (ds_set (i := 4) sc_law.nd rfl (Or.inr rfl) (de_lst (da_cons (de_ix ix_list sr_ixL (dv 1) (de_old F_law_take sp_take (hr.mono (by decide)) rfl (da_cons (dv 3) (da_cons de_int da_nil))) (fun _ _ => rfl)) (da_cons (de_ix ix_list sr_ixL (dv 1) (de_old F_law_take sp_take (hr.mono (by decide)) rfl (da_cons (dv 3) (da_cons de_int da_nil))) (fun _ _ => rfl)) da_nil))))
 (dss_cons (ds_set (i := 5) sc_law.nd rfl (Or.inr rfl) (de_lst (da_cons (de_op op_add sr_add de_int (de_old F_law_take sp_take (hr.mono (by decide)) rfl (da_cons (dv 3) (da_cons (de_ix ix_list sr_ixL (de_lst (da_cons de_int (da_cons de_int (da_cons de_int da_nil)))) (de_old F_law_take sp_take (hr.mono (by decide)) rfl (da_cons (dv 3) (da_cons de_int da_nil))) (fun _ _ => rfl)) da_nil)))) (da_cons (de_op op_add sr_add de_int (de_old F_law_take sp_take (hr.mono (by decide)) rfl (da_cons (dv 3) (da_cons de_int da_nil)))) da_nil))))
 (dss_cons (ds_setLc (j := 6) rfl rfl (sw_true rfl rfl rfl (by decide +kernel)) false (by rfl) sc_law.nd (di_r1 (by rfl) T.n_range (da_cons de_int da_nil)) (blkOk_by (own := [("_law_at", 11)]) (N := N_law) (sc := defScope s_law) (by decide +kernel)) (fun _ _ _ _ _ => pg_name (i := 11) sc_law.nd rfl (Or.inl rfl)) (fun _ _ _ _ _ => (de_perm (de_callV F_law_row takes_none (hr.mono (by decide)) rfl (da_cons (dv 3) (da_cons (de_ix ix_list sr_ixL (dv 4) (dv 11) (fun _ _ => rfl)) (da_cons (de_ix ix_list sr_ixL (dv 5) (dv 11) (fun _ _ => rfl)) da_nil)))))))
 (dss_cons (ds_set (i := 7) sc_law.nd rfl (Or.inr rfl) (de_lstO (da_cons (de_callTy call_list_of sb_listO (by rfl) T.n_list (by decide +kernel) (da_cons (de_ix ix_list sr_ixL (dv 6) de_int (fun _ _ => rfl)) da_nil)) (da_cons (de_callTy call_list_of sb_listO (by rfl) T.n_list (by decide +kernel) (da_cons (de_ix ix_list sr_ixL (dv 6) de_int (fun _ _ => rfl)) da_nil)) da_nil))))
 (dss_cons (ds_if (dt_cmp (op_eqD hr.units) sr_eq (de_old F_law_take sp_take (hr.mono (by decide)) rfl (da_cons (dv 3) (da_cons de_int da_nil))) de_int (nomark _)) (dss_one (ds_asg (de_callTy call_tuple_of sb_tuple (by rfl) T.n_tuple (by decide +kernel) (da_cons (de_ix ix_list sr_ixL (dv 6) de_int (fun _ _ => rfl)) da_nil)) (dg_setK (i := 7)))) dss_nil)
 (dss_cons (ds_setLc (j := 8) rfl rfl (sw_true rfl rfl rfl (by decide +kernel)) false (by rfl) sc_law.nd (di_r1 (by rfl) T.n_range (da_cons de_int da_nil)) (blkOk_by (own := [("_law_at", 11)]) (N := N_law) (sc := defScope s_law) (by decide +kernel)) (fun _ _ _ _ _ => pg_name (i := 11) sc_law.nd rfl (Or.inl rfl)) (fun _ _ _ _ _ => (de_perm (de_callV F_law_made takes_none (hr.mono (by decide)) rfl (da_cons (de_ix ix_list sr_ixL (dv 7) (dv 11) (fun _ _ => rfl)) (da_cons (de_ix ix_list sr_ixL (dv 4) (dv 11) (fun _ _ => rfl)) da_nil))))))
 (dss_cons (ds_expr (de_app (de_ix ix_list sr_ixL (dv 7) de_int (fun _ _ => rfl)) (da_cons de_int da_nil)))
 (dss_cons (ds_set (i := 9) sc_law.nd rfl (Or.inl rfl) (de_lstO (da_cons de_int (da_cons de_int da_nil))))
 (dss_cons (ds_for PassesOwn.never rfl (di_r1 (by rfl) T.n_range (da_cons de_int da_nil)) (dg_name (i := 10) sc_law.nd rfl (Or.inl rfl)) (dss_cons (ds_set (i := 11) sc_law.nd rfl (Or.inl rfl) (de_old F_law_take sp_take (hr.mono (by decide)) rfl (da_cons (dv 3) (da_cons de_int da_nil))))
 (dss_cons (ds_if (dw_pt (dw_or (dt_not (dt_val (de_callB (L2.call_isi) (sb_isS T.i_Row_Stream) (by rfl) T.n_isinstance (by decide +kernel) (da_cons (de_ix ix_list sr_ixL (dv 8) (dv 11) (fun _ _ => rfl)) (da_cons (de_raw (pe_glob (v := .ref (clsA K "Stream")) rfl T.d_Stream__init.ex.choose_spec.choose_spec.1 rfl)) da_nil))))) (dw_or1 (dt_cmp op_ne sr_neS (de_met0 F_Row__manner takes_none (hr.mono (by decide)) (de_ix ix_list sr_ixL (dv 8) (dv 11) (fun _ _ => rfl))) (de_ix ix_list sr_ixL (dv 4) (dv 11) (fun _ _ => rfl)) (nomark _))))) (dss_one (ds_ret de_bl)) dss_nil)
 (dss_cons (ds_asg (de_call F_law_step takes_none hgd (hr.mono (by decide)) rfl (da_cons (dv 3) (da_cons (de_ix ix_list sr_ixL (dv 8) (dv 11) (fun _ _ => rfl)) (da_cons (de_ix ix_list sr_ixL (dv 6) (dv 11) (fun _ _ => rfl)) (da_cons (de_ix ix_list sr_ixL (dv 9) (dv 11) (fun _ _ => rfl)) da_nil))))) (dg_setV (i := 9) (l := 11)))
 (dss_cons (ds_if (dw_pt (dw_or (dt_cmp op_isN sr_isN (de_ix ix_list sr_ixL (dv 9) (dv 11) (fun _ _ => rfl)) de_non (nomark _)) (dw_or1 (dt_cmp (op_neD hr.units) sr_ne (de_met0 F_Row__depth takes_none (hr.mono (by decide)) (de_ix ix_list sr_ixL (dv 8) (dv 11) (fun _ _ => rfl))) de_int (nomark _))))) (dss_one (ds_ret de_bl)) dss_nil)
 (dss_cons (ds_set (i := 12) sc_law.nd rfl (Or.inl rfl) (de_met0 F_Row__made takes_none (hr.mono (by decide)) (de_ix ix_list sr_ixL (dv 8) (dv 11) (fun _ _ => rfl))))
 (dss_cons (ds_if (dw_pt (dw_or (dt_cmp op_ne sr_neS (de_callB (cr_reprG (b := False) hgd hr.units (fun h => h.elim)) sb_reprG (by rfl) T.n_repr (by decide +kernel) (da_cons (de_met0 F_Row__asked takes_none (hr.mono (by decide)) (de_ix ix_list sr_ixL (dv 8) (dv 11) (fun _ _ => rfl))) da_nil)) (de_callB (cr_reprG (b := False) hgd hr.units (fun h => h.elim)) sb_reprG (by rfl) T.n_repr (by decide +kernel) (da_cons (de_ix ix_list sr_ixL (dv 9) (dv 11) (fun _ _ => rfl)) da_nil)) (nomark _)) (dw_or1 (dt_cmp op_ne sr_neS (de_callB (cr_reprG (b := False) hgd hr.units (fun h => h.elim)) sb_reprG (by rfl) T.n_repr (by decide +kernel) (da_cons (dv 12) da_nil)) (de_callB (cr_reprG (b := False) hgd hr.units (fun h => h.elim)) sb_reprG (by rfl) T.n_repr (by decide +kernel) (da_cons (de_slice sl_list sr_slL (de_ix ix_list sr_ixL (dv 6) (dv 11) (fun _ _ => rfl)) do_none (do_some (de_ix ix_list sr_ixL (dv 9) (dv 11) (fun _ _ => rfl)))) da_nil)) (nomark _))))) (dss_one (ds_ret de_bl)) dss_nil)
 (dss_cons (ds_expr (de_app (dv 12) (da_cons de_int da_nil)))
 (dss_one (ds_if (dt_cmp (op_neD hr.units) sr_ne (de_met0 F_Row__asked takes_none (hr.mono (by decide)) (de_ix ix_list sr_ixL (dv 8) (de_op op_sub sr_sub de_int (dv 11)) (fun _ _ => rfl))) (de_ix ix_list sr_ixL (dv 9) (de_op op_sub sr_sub de_int (dv 11)) (fun _ _ => rfl)) (nomark _)) (dss_one (ds_ret de_bl)) dss_nil))))))))))
 (dss_one (ds_if (dt_cmp op_ne sr_neS (de_callB (cr_reprG (b := False) hgd hr.units (fun h => h.elim)) sb_reprG (by rfl) T.n_repr (by decide +kernel) (da_cons (de_metA F_Row__terms takes_none (hr.mono (by decide)) (de_ix ix_list sr_ixL (dv 8) de_int (fun _ _ => rfl)) (da_cons de_int da_nil)) da_nil)) (de_callB (cr_reprG (b := False) hgd hr.units (fun h => h.elim)) sb_reprG (by rfl) T.n_repr (by decide +kernel) (da_cons (de_tup (da_cons (de_ix ix_list sr_ixL (dv 6) de_int (fun _ _ => rfl)) (da_cons de_str da_nil))) da_nil)) (nomark _)) (dss_one (ds_ret de_bl)) dss_nil)))))))))))))
 (dss_one (ds_ret de_bl)))), fun ns hns => ?_⟩
    have hb : ∀ n : Nat, -1000000 ≤ (if (if (n : Int) < 6 then (n : Int) else 6) > 2 then (if (n : Int) < 6 then (n : Int) else 6) else 2) ∧ (if (if (n : Int) < 6 then (n : Int) else 6) > 2 then (if (n : Int) < 6 then (n : Int) else 6) else 2) ≤ 6 := by
      intro n
      split <;> split <;> omega
    refine sq_setP (pu_lst3 (c := .dat (.str "floor")) (d := .dat (.str "ceil")) (c3 := .dat (.str "near")) pu_c pu_c pu_c) ?_
    refine sq_for ?_
    refine ⟨_, rfl, _, _, rfl, .inr ⟨ns, rfl, rfl⟩, _, _, rfl, _, _, rfl, _, rfl, (hb ns.length).1, Int.le_trans (hb ns.length).2 (by decide), ?_⟩
    refine ⟨fun j O ρ => ∃ v2 v3 v4 v5 v6 v7 v8 v9 v10 v11 v12, ρ = [some (.scr ns), some (lisC [.dat (.str "floor"), .dat (.str "ceil"), .dat (.str "near")]), v2, v3, v4, v5, v6, v7, v8, v9, v10, v11, v12], ⟨_, _, _, _, _, _, _, _, _, _, _, rfl⟩, ?_, ?_⟩
    · rintro j O ρ e hj ⟨v2, v3, v4, v5, v6, v7, v8, v9, v10, v11, v12, rfl⟩
      obtain ⟨hjn, rfl⟩ := nums_get hj
      have hj6 : j < 6 := (show ∀ m : Int, m ≤ 6 → j < m.toNat → j < 6 from fun m h1 h2 => by omega) _ (hb ns.length).2 hjn
      refine ⟨trivial, ?_⟩
      refine Ab.sq_set (t_call (t_cons (call2 (by repeat (first | with_reducible exact pu_c | ((with_reducible apply pu_var); exact rfl) | with_reducible apply pu_I0 | with_reducible apply pu_eqI | with_reducible apply pu_neI | with_reducible apply pu_eqS | with_reducible apply pu_neS | with_reducible apply pu_neg | with_reducible apply pu_abs | with_reducible apply pu_pick2 | with_reducible apply pu_if | with_reducible apply pu_andV | with_reducible apply pu_orV | with_reducible apply pu_notV | with_reducible apply put_chain | with_reducible apply put_ | with_reducible apply put_and | with_reducible apply put_or | with_reducible apply put_not | with_reducible apply pu_notB | with_reducible apply pu_len | with_reducible apply pu_ixS | with_reducible apply pu_ixL | with_reducible assumption | exact rfl)) (by repeat (first | with_reducible exact pu_c | ((with_reducible apply pu_var); exact rfl) | with_reducible apply pu_I0 | with_reducible apply pu_eqI | with_reducible apply pu_neI | with_reducible apply pu_eqS | with_reducible apply pu_neS | with_reducible apply pu_neg | with_reducible apply pu_abs | with_reducible apply pu_pick2 | with_reducible apply pu_if | with_reducible apply pu_andV | with_reducible apply pu_orV | with_reducible apply pu_notV | with_reducible apply put_chain | with_reducible apply put_ | with_reducible apply put_and | with_reducible apply put_or | with_reducible apply put_not | with_reducible apply pu_notB | with_reducible apply pu_len | with_reducible apply pu_ixS | with_reducible apply pu_ixL | with_reducible assumption | exact rfl)) ⟨ns, _, rfl, by omega, by omega, fun z => ⟨z, rfl, fun p => ?_⟩⟩)))
      dsimp only
      -- the manners
      refine Ab.sq_set (t_lst (t_cons (t_op (pu_var rfl _ (take_r (pu_var rfl) pu_c .here (by decide) (by decide) (by decide) fun r0 a0 a1 => ?_)))))
      obtain ⟨x0, hx0, mx0⟩ := words_at a0 a1
      refine ⟨_, r0, _, rfl, elsC _ _, hx0, ?_⟩
      refine t_cons (t_op (pu_var rfl _ (take_r (pu_var rfl) pu_c .here (by decide) (by decide) (by decide) fun r1 b0 b1 => ?_)))
      obtain ⟨x1, hx1, mx1⟩ := words_at b0 b1
      refine ⟨_, r1, _, rfl, elsC _ _, hx1, by simp, ?_⟩
      -- the sizes
      refine Ab.sq_set (t_lst (t_cons (t_op (pu_c _ (t_call (t_cons_pu (pu_var rfl) (t_cons (t_op (?_ : aLst _ _ _ _ _)))))))))
      refine t_lst (t_cons_pu pu_c (t_cons_pu pu_c (t_cons_pu pu_c ⟨by simp, ?_⟩)))
      refine take_r (pu_var rfl) pu_c .here (by decide) (by decide) (by decide) fun u u0 u1 => ?_
      obtain ⟨wd, hwd, wd0, wd1⟩ := size_at u0 u1
      refine ⟨_, u, _, rfl, elsC _ _, hwd, ?_⟩
      dsimp only
      refine nil_step ?_
      refine take_at (m := wd) .here (fun pl pl0 pl1 => ⟨1, pl, rfl, rfl, ?_⟩) (by omega) (by omega) (by decide)
      refine t_cons (t_op (pu_c _ (take_r (pu_var rfl) pu_c .here (by decide) (by decide) (by decide) fun pm pm0 pm1 => ⟨1, pm, rfl, rfl, by simp, ?_⟩)))
      obtain ⟨m0, hm0⟩ : ∃ m0 : Nat, 1 + pl = (m0 : Int) := ⟨(1 + pl).toNat, by omega⟩
      obtain ⟨m1, hm1⟩ : ∃ m1 : Nat, 1 + pm = (m1 : Int) := ⟨(1 + pm).toNat, by omega⟩
      dsimp only
      rw [hm0, hm1]
      obtain ⟨n0, hn0, hn0'⟩ : ∃ n0 : Nat, n0 = 90000 - 1 - 1 - 1 - 1 - 1 ∧ 89900 ≤ n0 := ⟨_, rfl, by decide⟩
      rw [← hn0]
      -- the rows
      refine Ab.sq_set (it_r1 (j := 2) pu_c (by decide) (by decide) fun D => ?_)
      have hxs : ∀ l, l < 2 → atI [sD x0, sD x1] ((0 : Int) + (l : Nat)) = some (sD (pk x0 x1 l)) := by
        intro l hl
        have : l = 0 ∨ l = 1 := by omega
        rcases this with rfl | rfl <;> rfl
      have hms : ∀ l, l < 2 → atI [Ab.Cl.dat (.int (m0 : Nat)), .dat (.int (m1 : Nat))] ((0 : Int) + (l : Nat)) = some (.dat (.int (pk m0 m1 l : Nat))) := by
        intro l hl
        have : l = 0 ∨ l = 1 := by omega
        rcases this with rfl | rfl <;> rfl
      have mxs : ∀ l, isMan (pk x0 x1 l) := by intro l; unfold pk; split; exact mx0; exact mx1
      have mms : ∀ l, 1 ≤ pk m0 m1 l ∧ pk m0 m1 l ≤ 100 := by intro l; unfold pk; split <;> omega
      have rowP : ∀ (Oc : Ob) (f : Ow → Ob) (n l : Nat) (Xf : Ob → Str → Ab.Cl → Prop) (Kc : KC), l < 2 → Ab.Lo Oc p (.pur n) f → 400 ≤ n → (∀ q is n', RowOk (pk x0 x1 l) is → n ≤ n' + 400 → Kc ((q, .lst (iCl is)) :: f (.pur n')) (.at q)) → afRowL Oc [.at p, sD (pk x0 x1 l), .dat (.int (pk m0 m1 l : Nat))] Xf Kc := by
        intro Oc f n l Xf Kc hl lo hn kk
        have h1 := mms l
        exact ⟨p, n, f, _, _, rfl, lo, by omega, rfl, mxs l, rfl, h1.1, h1.2, fun q is n' h2 h3 h4 h5 h6 => kk q is n' ⟨by omega, by omega, h3, h4, h5⟩ (by omega)⟩
      refine ⟨fun l O2 => (l = 0 ∧ O2 = (D, .lst []) :: (p, .pur n0) :: O) ∨ (l = 1 ∧ ∃ q0 is0 n1, O2 = (D, .lst [.at q0]) :: (q0, .lst (iCl is0)) :: (p, .pur n1) :: O ∧ RowOk x0 is0 ∧ n0 ≤ n1 + 400) ∨
        (l = 2 ∧ ∃ q0 is0 q1 is1 n1, O2 = (D, .lst [.at q0, .at q1]) :: (q1, .lst (iCl is1)) :: (q0, .lst (iCl is0)) :: (p, .pur n1) :: O ∧ RowOk x0 is0 ∧ RowOk x1 is1 ∧ n0 ≤ n1 + 800), .inl ⟨rfl, rfl⟩, ?_, ?_⟩
      · rintro l O2 e2 hl hW
        obtain ⟨hl2, rfl⟩ := nums_get hl
        have hl2 : l < 2 := hl2
        refine ⟨trivial, iteT (t_perm ?_)⟩
        rcases hW with ⟨rfl, rfl⟩ | ⟨rfl, q0, is0, n1, rfl, ok0, hn1⟩ | ⟨rfl, _⟩
        · refine call3 (pu_var rfl) (pu_ixL (pu_var rfl) (pu_var rfl) (elsC _ _) (hxs 0 hl2)) (pu_ixL (pu_var rfl) (pu_var rfl) (elsC _ _) (hms 0 hl2)) (rowP _ _ n0 0 _ _ hl2 Lo.here.there (by omega) fun q is n' hr hn' => ?_)
          exact ⟨_, .swap _ _ _, _, _, .here, by simp, .inr (.inl ⟨rfl, q, is, n', rfl, hr, hn'⟩)⟩
        · refine call3 (pu_var rfl) (pu_ixL (pu_var rfl) (pu_var rfl) (elsC _ _) (hxs 1 hl2)) (pu_ixL (pu_var rfl) (pu_var rfl) (elsC _ _) (hms 1 hl2)) (rowP _ _ n1 1 _ _ hl2 Lo.here.there.there (by omega) fun q is n' hr hn' => ?_)
          exact ⟨_, .swap _ _ _, _, _, .here, by simp, .inr (.inr ⟨rfl, q0, is0, q, is, n', rfl, ok0, hr, by omega⟩)⟩
        · omega
      rintro O2 (⟨h, _⟩ | ⟨h, _⟩ | ⟨_, q0, is0, q1, is1, n1, rfl, ok0, ok1, hn1⟩)
      · exact absurd h (by decide)
      · exact absurd h (by decide)
      refine ⟨trivial, _, _, rfl, ?_⟩
      rw [if_neg Bool.false_ne_true]
      dsimp only
      have eR : lisC [Ab.Cl.at q0, .at q1] = .lis [.at q0, .at q1] := rfl
      -- copies of the rows
      refine Ab.sq_set (t_lstO (t_cons (t_cb (t_cons_pu (pu_ixL (es := [.at q0, .at q1]) (pu_var rfl) pu_c (.lis _) rfl) (nil_step (bl_own (cs := iCl is0) (by simp) fun a0 => ?_))))))
      refine t_cons (t_cb (t_cons_pu (pu_ixL (es := [.at q0, .at q1]) (pu_var rfl) pu_c (.lis _) rfl) (nil_step (bl_own (cs := iCl is1) (by simp) fun a1 => ⟨by simp, fun hA => ?_⟩))))
      have lenOk : is0.length ≤ 100 ∧ is1.length ≤ 100 := ⟨ok0.2.1, ok1.2.1⟩
      refine sq_join (Pr := fun O' ρ' => ∃ c1 n2, O' = (hA, .lst [.at a0, c1]) :: (a1, .lst (iCl is1)) :: (a0, .lst (iCl is0)) :: (q1, .lst (iCl is1)) :: (q0, .lst (iCl is0)) :: (p, .pur n2) :: O ∧ (c1 = .at a1 ∨ c1 = .dat (.tuple (is1.map .int))) ∧ n1 ≤ n2 + 1 ∧
        ρ' = [some (.scr ns), some (lisC [.dat (.str "floor"), .dat (.str "ceil"), .dat (.str "near")]), some (.dat (.int (0 + (j : Nat)))), some (.at p), some (lisC [sD x0, sD x1]), some (lisC [.dat (.int (m0 : Nat)), .dat (.int (m1 : Nat))]), some (.lis [.at q0, .at q1]), some (.at hA), v8, v9, v10, v11, v12]) ?_ fun fin => ?_
      case refine_2 =>
        refine t_test (t_op (take_r (n := n1) (pu_var rfl) pu_c (f := fun w => (hA, .lst [.at a0, .at a1]) :: (a1, .lst (iCl is1)) :: (a0, .lst (iCl is0)) :: (q1, .lst (iCl is1)) :: (q0, .lst (iCl is0)) :: (p, w) :: O) (.there (.there (.there (.there (.there .here))))) (by decide) (by decide) (by omega) fun v v0 v1 => pu_c _ ⟨.int v, .int 0, .dat _, .dat _, rfl, rfl, rfl, rfl, _, rfl, ?_⟩))
        rw [eqv_int]
        by_cases hv : v = 0
        · rw [decide_eq_true hv]
          refine iteT (t_asg (t_cb (t_cons_pu (pu_ixL (es := [.at q0, .at q1]) (pu_var rfl) pu_c (.lis _) rfl) ⟨.at q1, iCl is1, rfl, .inl ⟨.own (by simp), ?_⟩⟩)))
          have et : tupC (iCl is1) = .dat (.tuple (is1.map .int)) := by rw [← map_iCl, tupC_dats]
          rw [et]
          exact ⟨hA, _, _, 1, rfl, .here, rfl, fin _ _ ⟨_, _, rfl, .inr rfl, by omega, rfl⟩⟩
        · rw [decide_eq_false hv]
          exact iteF (fin _ _ ⟨_, _, rfl, .inl rfl, by omega, rfl⟩)
      rintro O' ρ' ⟨c1, n2, rfl, hc1, hn2, rfl⟩
      obtain ⟨B, hB⟩ : ∃ B : Ob, B = (hA, Ow.lst [.at a0, c1]) :: (a1, .lst (iCl is1)) :: (a0, .lst (iCl is0)) :: (q1, .lst (iCl is1)) :: (q0, .lst (iCl is0)) :: (p, .pur n2) :: O := ⟨_, rfl⟩
      have mB : (hA, Ow.lst [.at a0, c1]) ∈ B ∧ (a1, Ow.lst (iCl is1)) ∈ B ∧ (a0, Ow.lst (iCl is0)) ∈ B := by rw [hB]; simp
      have okL : ∀ l, l < 2 → RowOk (pk x0 x1 l) (pk is0 is1 l) := by
        intro l hl
        have : l = 0 ∨ l = 1 := by omega
        rcases this with rfl | rfl
        · exact ok0
        · exact ok1
      have hcs : ∀ l, l < 2 → atI [Ab.Cl.at a0, c1] ((0 : Int) + (l : Nat)) = some (pk (.at a0) c1 l) := by
        intro l hl
        have : l = 0 ∨ l = 1 := by omega
        rcases this with rfl | rfl <;> rfl
      have rdL : ∀ (Z : Ob) l, l < 2 → RdA (Z ++ B) (pk (.at a0) c1 l) (some (iCl (pk is0 is1 l))) := by
        intro Z l hl
        have : l = 0 ∨ l = 1 := by omega
        rcases this with rfl | rfl
        · exact rdA_own (List.mem_append_right _ mB.2.2) lenOk.1
        · rcases hc1 with rfl | rfl
          · exact rdA_own (List.mem_append_right _ mB.2.1) lenOk.2
          · exact rdA_tup lenOk.2
      have mkP : ∀ (Z : Ob) l (Xf : Ob → Str → Ab.Cl → Prop) (Kc : KC), l < 2 → (∀ s m b q fs, Kc ((q, .lst []) :: (b, .ins "Begun" fs) :: (m, .lst []) :: (s, rowW (pk x0 x1 l) (pk is0 is1 l) false m b) :: (Z ++ B)) (.at s)) → afMadeL (Z ++ B) [pk (.at a0) c1 l, sD (pk x0 x1 l)] Xf Kc := by
        intro Z l Xf Kc hl kk
        have h1 := okL l hl
        exact ⟨_, _, rfl, mxs l, rdL Z l hl, h1.2.2.2.1, h1.2.2.2.2, by have := h1.2.1; omega, kk⟩
      rw [← hB]
      refine Ab.sq_set (it_r1 (j := 2) pu_c (by decide) (by decide) fun D => ?_)
      refine ⟨fun l O2 => (l = 0 ∧ O2 = (D, .lst []) :: B) ∨ (l = 1 ∧ ∃ s0 m0 b0 k0 fs0, O2 = (D, .lst [.at s0]) :: (k0, .lst []) :: (b0, .ins "Begun" fs0) :: (m0, .lst []) :: (s0, rowW x0 is0 false m0 b0) :: B) ∨
        (l = 2 ∧ ∃ s0 m0 b0 k0 fs0 s1 m1 b1 k1 fs1, O2 = (D, .lst [.at s0, .at s1]) :: (k1, .lst []) :: (b1, .ins "Begun" fs1) :: (m1, .lst []) :: (s1, rowW x1 is1 false m1 b1) :: (k0, .lst []) :: (b0, .ins "Begun" fs0) :: (m0, .lst []) :: (s0, rowW x0 is0 false m0 b0) :: B), .inl ⟨rfl, rfl⟩, ?_, ?_⟩
      · rintro l O2 e2 hl hW
        obtain ⟨hl2, rfl⟩ := nums_get hl
        have hl2 : l < 2 := hl2
        refine ⟨trivial, iteT (t_perm ?_)⟩
        rcases hW with ⟨rfl, rfl⟩ | ⟨rfl, s0, mm0, b0, k0, fs0, rfl⟩ | ⟨rfl, _⟩
        · refine call2 (pu_ixL (pu_var rfl) (pu_var rfl) (.own (List.mem_cons_of_mem _ mB.1)) (hcs 0 hl2)) (pu_ixL (pu_var rfl) (pu_var rfl) (elsC _ _) (hxs 0 hl2)) (mkP [_] 0 _ _ hl2 fun s m b q fs => ?_)
          exact ⟨_, List.perm_middle (l₁ := [_, _, _, _]), _, _, .here, by simp, .inr (.inl ⟨rfl, s, m, b, q, fs, rfl⟩)⟩
        · refine call2 (pu_ixL (pu_var rfl) (pu_var rfl) (.own (by simp [mB.1])) (hcs 1 hl2)) (pu_ixL (pu_var rfl) (pu_var rfl) (elsC _ _) (hxs 1 hl2)) (mkP [_, _, _, _, _] 1 _ _ hl2 fun s m b q fs => ?_)
          exact ⟨_, List.perm_middle (l₁ := [_, _, _, _]), _, _, .here, by simp, .inr (.inr ⟨rfl, s0, mm0, b0, k0, fs0, s, m, b, q, fs, rfl⟩)⟩
        · omega
      rintro O2 (⟨h, _⟩ | ⟨h, _⟩ | ⟨_, s0, mm0, b0, k0, fs0, s1, mm1, b1, k1, fs1, rfl⟩)
      · exact absurd h (by decide)
      · exact absurd h (by decide)
      refine ⟨trivial, _, _, rfl, ?_⟩
      rw [if_neg Bool.false_ne_true]
      dsimp only
      subst hB
      -- the copy handed in is changed
      refine sq_drop (app_pu (p := a0) (cs := iCl is0) (f := fun w => (k1, .lst []) :: (b1, .ins "Begun" fs1) :: (mm1, .lst []) :: (s1, rowW x1 is1 false mm1 b1) :: (k0, .lst []) :: (b0, .ins "Begun" fs0) :: (mm0, .lst []) :: (s0, rowW x0 is0 false mm0 b0) :: (hA, Ow.lst [.at a0, c1]) :: (a1, .lst (iCl is1)) :: (a0, w) :: (q1, .lst (iCl is1)) :: (q0, .lst (iCl is0)) :: (p, .pur n2) :: O) (pu_ixL (es := [.at a0, c1]) (pu_var rfl) pu_c (.own (by simp)) rfl) pu_c (.there (.there (.there (.there (.there (.there (.there (.there (.there (.there .here)))))))))) (by simp [iCl]; omega) ?_)
      refine Ab.sq_set (t_lstO (t_cons_pu pu_c (t_cons_pu pu_c ⟨by simp, fun rd => ?_⟩)))
      have base : ∃ Z, Two ((rd, .lst [.dat (.int 0), .dat (.int 0)]) :: (k1, .lst []) :: (b1, .ins "Begun" fs1) :: (mm1, .lst []) :: (s1, rowW x1 is1 false mm1 b1) :: (k0, .lst []) :: (b0, .ins "Begun" fs0) :: (mm0, .lst []) :: (s0, rowW x0 is0 false mm0 b0) :: (hA, Ow.lst [.at a0, c1]) :: (a1, .lst (iCl is1)) :: (a0, .lst (iCl is0 ++ [.dat (.int 9)])) :: (q1, .lst (iCl is1)) :: (q0, .lst (iCl is0)) :: (p, .pur n2) :: O) Z rd (pk s0 s1) (pk mm0 mm1) (pk q0 q1) (pk b0 b1) p (pk x0 x1) (pk is0 is1) (fun _ => 0) (fun _ => false) n2 := by
        refine ⟨fun r S M w => (rd, r) :: (k1, .lst []) :: (b1, .ins "Begun" fs1) :: (mm1, M 1) :: (s1, S 1) :: (k0, .lst []) :: (b0, .ins "Begun" fs0) :: (mm0, M 0) :: (s0, S 0) :: (hA, Ow.lst [.at a0, c1]) :: (a1, .lst (iCl is1)) :: (a0, .lst (iCl is0 ++ [.dat (.int 9)])) :: (q1, .lst (iCl is1)) :: (q0, .lst (iCl is0)) :: (p, w) :: O, ⟨fun _ _ _ _ => .here, fun l hl _ _ _ _ _ => ?_, fun l hl _ _ _ _ _ => ?_, fun _ _ _ _ => ?_, fun l hl _ _ _ _ => ?_⟩, rfl, fun _ _ => Nat.zero_le _, fun _ _ z => (by cases z), fun l hl => ?_⟩
        · have : l = 0 ∨ l = 1 := by omega
          rcases this with rfl | rfl
          · exact .there (.there (.there (.there (.there (.there (.there (.there .here)))))))
          · exact .there (.there (.there (.there .here)))
        · have : l = 0 ∨ l = 1 := by omega
          rcases this with rfl | rfl
          · exact .there (.there (.there (.there (.there (.there (.there .here))))))
          · exact .there (.there (.there .here))
        · exact .there (.there (.there (.there (.there (.there (.there (.there (.there (.there (.there (.there (.there (.there .here)))))))))))))
        · have : l = 0 ∨ l = 1 := by omega
          rcases this with rfl | rfl <;> simp [pk]
        · have : l = 0 ∨ l = 1 := by omega
          rcases this with rfl | rfl
          · exact lenOk.1
          · exact lenOk.2
      obtain ⟨Z0, base⟩ := base
      refine sq_for (t_it1 (t_cons_pu pu_c ⟨12, rfl, by decide, by decide, ?_⟩))
      refine ⟨fun i O' ρ' => ∃ Z jj ee n v10 v11 v12, Two O' Z rd (pk s0 s1) (pk mm0 mm1) (pk q0 q1) (pk b0 b1) p (pk x0 x1) (pk is0 is1) jj ee n ∧ n2 ≤ n + 10 * i ∧
        ρ' = [some (.scr ns), some (lisC [.dat (.str "floor"), .dat (.str "ceil"), .dat (.str "near")]), some (.dat (.int (0 + (j : Nat)))), some (.at p), some (lisC [sD x0, sD x1]), some (lisC [.dat (.int (m0 : Nat)), .dat (.int (m1 : Nat))]), some (.lis [.at q0, .at q1]), some (.at hA), some (lisC [.at s0, .at s1]), some (.at rd), v10, v11, v12], ⟨Z0, _, _, n2, _, _, _, base, by omega, rfl⟩, ?_, ?_⟩
      · rintro i O' ρ' e3 hi ⟨Z, jj, ee, n, v10, v11, v12, W, hn, rfl⟩
        have hi12 : i < 12 := by
          have := (List.getElem?_eq_some_iff.mp hi).1
          simpa [nums] using this
        refine ⟨trivial, ?_⟩
        refine Ab.sq_set (take_r (pu_var rfl) pu_c W.pur (by decide) (by decide) (by omega) fun at_ at0 at1 => ?_)
        obtain ⟨l, rfl⟩ : ∃ l : Nat, at_ = (l : Int) := ⟨at_.toNat, by omega⟩
        have hl : l < 2 := by omega
        have W1 := W.next (n - 1)
        have hn5 : 5 ≤ n - 1 := by omega
        have eR : ∀ (O1 : Ob), Els O1 (.lis [.at q0, .at q1]) [.at q0, .at q1] := fun _ => .lis _
        have eS : ∀ (O1 : Ob), Els O1 (lisC [.at s0, .at s1]) [.at s0, .at s1] := fun _ => .lis _
        have okl := okL l hl
        refine sq_if (t_orF (fun Ka ka => t_not (t_test (t_cb (t_cons_pu (pu_ixL (pu_var rfl) (pu_var rfl) (eS _) (at_at hl)) (t_cons_pu (fun _ k => k) ⟨_, _, rfl, (W1.st hl).sto.m1, ⟨_, rfl, ka⟩⟩))))) ?_)
        refine put_ (pu_neS (x := pk x0 x1 l) (y := pk x0 x1 l) (pu_man (W1.st hl).sto (pu_ixL (pu_var rfl) (pu_var rfl) (eS _) (at_at hl))) (pu_ixL (pu_var rfl) (pu_var rfl) (elsC _ _) (at_sD hl))) _ ?_
        rw [decide_eq_true rfl]
        refine iteF ?_
        refine sq_asgG (call4 (pu_var rfl) (pu_ixL (pu_var rfl) (pu_var rfl) (eS _) (at_at hl)) (pu_ixL (pu_var rfl) (pu_var rfl) (eR _) (at_at hl)) (pu_ixL (pu_var rfl) (pu_var rfl) (.own W1.rdm) (at_jj hl)) ⟨_, n - 1, p, _, _, _, _, _, _, _, W1.st hl, rfl, rfl, hn5, fun _ _ _ => .own (W1.z.rows l hl _ _ _ _), rfl, okl.2.1, okl.2.2.1, fun G n' j' e' hj1 he1 hn' => ?_⟩)
        obtain ⟨f, lo, W2⟩ := W1.step hl n' j' e' hj1 he1
        refine ⟨rd, _, _, l, l, rfl, rfl, lo_app G lo, ?_, ?_⟩
        · have : l = 0 ∨ l = 1 := by omega
          rcases this with rfl | rfl <;> rfl
        have W3 := W2.garb G
        revert W3
        dsimp only
        generalize G ++ f _ = O4
        intro W4
        have hjl := W4.jl l hl
        have S4 := (W4.st hl).sto
        refine sq_if (t_orF (put_ (p := false) (fun K kk => pu_ixL (pu_var rfl) (pu_var rfl) (.own W4.rdm) (at_jj hl) _ ⟨rfl, _, isNC_dat _, kk⟩)) ?_)
        refine put_ (pu_neI (pu_dep S4 (pu_ixL (pu_var rfl) (pu_var rfl) (eS _) (at_at hl))) pu_c) _ ?_
        rw [decide_eq_true rfl]
        refine iteF ?_
        refine Ab.sq_set (t_met0 (pu_ixL (pu_var rfl) (pu_var rfl) (eS _) (at_at hl)) S4.m1 rfl ⟨_, _, _, _, _, _, _, _, S4, fun kq => ?_⟩)
        have W5 := W4.garb [(kq, madeW (pk is0 is1 l) (upN jj l j' l))]
        have S5 := (W5.st hl).sto
        have tI := (int_txB (show upN jj l j' l ≤ 100 from Nat.le_trans hjl okl.2.1)).g False
        have tL := (list_txB okl.2.2.1 okl.2.1 (upN jj l j' l)).g False
        refine sq_if (t_orF (put_ (p := false) (fun K kk => t_op (t_cb (t_cons_pu (pu_ask S5 (pu_ixL (pu_var rfl) (pu_var rfl) (eS _) (at_at hl))) ⟨_, _, rfl, .dat _, tI, t_cb (t_cons_pu (pu_ixL (pu_var rfl) (pu_var rfl) (.own W5.rdm) (at_jj hl)) ⟨_, _, rfl, .dat _, tI, _, _, rfl, rfl, by rw [decide_eq_true rfl]; exact kk⟩)⟩))) ) ?_)
        have rm : Rdcs ((kq, madeW (pk is0 is1 l) (upN jj l j' l)) :: O4) (iCl ((pk is0 is1 l).take (upN jj l j' l))) (((pk is0 is1 l).take (upN jj l j' l)).map .int) := by rw [← map_iCl]; exact Rdcs.dats _
        have el : Els ((kq, madeW (pk is0 is1 l) (upN jj l j' l)) :: O4) (.at (pk q0 q1 l)) (((pk is0 is1 l).map PyData.int).map .dat) := by rw [map_iCl]; exact .own (W5.rows hl)
        refine t_test (t_op (t_cb (t_cons_pu (pu_var rfl) ⟨.at kq, .list (((pk is0 is1 l).take (upN jj l j' l)).map .int), rfl, .at (List.mem_cons_self ..) rm, tL, t_cb (t_cons_pu (pu_sl_to (pu_ixL (pu_var rfl) (pu_var rfl) (eR _) (at_at hl)) (pu_ixL (pu_var rfl) (pu_var rfl) (.own W5.rdm) (at_jj hl)) el) ⟨.dat (.list (((pk is0 is1 l).take (upN jj l j' l)).map .int)), _, by rw [cutD_take, ← List.map_take], .dat _, tL, _, _, rfl, rfl, _, rfl, ?_⟩)⟩)))
        rw [decide_eq_true rfl]
        refine iteF (sq_drop (app_pu (cs := iCl ((pk is0 is1 l).take (upN jj l j' l))) (pu_var rfl) pu_c .here (by have h1 := okl.2.1; simp only [iCl, List.length_map, List.length_take]; omega) ?_))
        have W6 := W4.garb [(kq, .lst (iCl ((pk is0 is1 l).take (upN jj l j' l)) ++ [.dat (.int 3)]))]
        obtain ⟨l2, hl2, hl2'⟩ : ∃ l2 : Nat, (1 : Int) - (l : Int) = (l2 : Int) ∧ l2 < 2 := ⟨1 - l, by omega, by omega⟩
        have S6 := (W6.st hl2').sto
        refine put_ (pu_neI (pu_ask S6 (pu_ixL (pu_var rfl) (pu_I0 (g := fun i j => PyData.int (i - j)) pu_c (pu_var rfl)) (eS _) (by rw [hl2]; exact at_at hl2'))) (pu_ixL (pu_var rfl) (pu_I0 (g := fun i j => PyData.int (i - j)) pu_c (pu_var rfl)) (.own W6.rdm) (by rw [hl2]; exact at_jj hl2'))) _ ?_
        rw [decide_eq_true rfl]
        exact iteF ⟨_, _, _, n', _, _, _, W6, by omega, rfl⟩
      · rintro O' ρ' ⟨Z, jj, ee, n, v10, v11, v12, W, hn, rfl⟩
        refine ⟨trivial, ?_⟩
        have h2 : (0 : Nat) < 2 := by decide
        have S4 := (W.st h2).sto
        have okl := okL 0 h2
        have len101 : ¬ 101 ≤ (pk is0 is1 0).length := by have := okl.2.1; omega
        have tx := (row_tx okl.2.2.1 okl.2.1 101 "end" (by decide +kernel) (by decide +kernel)).g False
        have al : (pk is0 is1 0).take 101 = is0 := List.take_of_length_le (by have := lenOk.1; show is0.length ≤ 101; omega)
        rw [al] at tx
        refine t_test (t_op (t_cb (t_cons (t_metA (pu_ixL (es := [.at s0, .at s1]) (pu_var rfl) pu_c (.lis _) rfl) S4.m1 rfl (t_cons_pu pu_c ⟨_, _, _, _, _, _, _, _, S4, ⟨_, .dat _⟩, .inr ⟨101, by decide, rfl, fun qa => ?_⟩⟩)))))
        rw [if_neg (by decide), if_neg len101, al]
        have rm : ∀ O1 : Ob, Rdcs O1 (iCl is0) (is0.map .int) := by intro O1; rw [← map_iCl]; exact Rdcs.dats _
        refine ⟨_, .tuple [.list (is0.map .int), .str "end"], rfl, .tup (.cons (.at (List.mem_cons_self ..) (rm _)) (.cons (.dat _) .nil)), tx, t_cb (t_cons (t_tup (t_cons_pu (pu_ixL (es := [.at q0, .at q1]) (pu_var rfl) pu_c (.lis _) rfl) (t_cons_pu pu_c ⟨by simp, _, .tuple [.list (is0.map .int), .str "end"], rfl, .tup (.cons (.at (List.mem_cons_of_mem _ (W.z.rows 0 h2 _ _ _ _)) (rm _)) (.cons (.dat _) .nil)), tx, _, _, rfl, rfl, _, rfl, ?_⟩))))⟩
        rw [decide_eq_true rfl]
        exact iteF ⟨_, _, _, _, _, _, _, _, _, _, _, rfl⟩
    · rintro O ρ ⟨v2, v3, v4, v5, v6, v7, v8, v9, v10, v11, v12, rfl⟩
      exact ⟨trivial, rfl⟩
end
theorem all_mk {P : Program} {w : World} {K : PySem.W.Frag} {h : Heap} {mg : Str → Option Value} {fa : Addr} (X : K.In h) (G : h.Ns mainGlobals mg) (hfa : mg "law" = some (.ref fa))
    (h_v_ve : PySem.W.findCls K (.type "ValueError") (.type "type") "__init__" = some (.val (.builtin "ValueError.__init__")))
    (h_n_ValueError : PySem.W.nsIn K mainGlobals "ValueError" = some none)
    (h_v_ke : PySem.W.findCls K (.type "KeyError") (.type "type") "__init__" = some (.val (.builtin "KeyError.__init__")))
    (h_n_KeyError : PySem.W.nsIn K mainGlobals "KeyError" = some none)
    (h_x_TermError : XtIn K "TermError" "TermError.__init__" m_TermError)
    (h_x_Unknown : XtIn K "Unknown" "Unknown.__init__" m_Unknown)
    (h_x_NoNumber : XeIn K "NoNumber" "found" "NoNumber.__init__" m_NoNumber)
    (h_x_NoManner : XeIn K "NoManner" "found" "NoManner.__init__" m_NoManner)
    (h_x_NoRow : XeIn K "NoRow" "found" "NoRow.__init__" m_NoRow)
    (h_x_NoPlace : Ab.XkyIn K "NoPlace" "found" "NoPlace.__init__" m_NoPlace)
    (h_p_NoPlace_NoPlace : PairIn K "NoPlace" "NoPlace" true)
    (h_p_NoPlace_NoNumber : PairIn K "NoPlace" "NoNumber" false)
    (h_p_NoNumber_NoPlace : PairIn K "NoNumber" "NoPlace" false)
    (h_p_NoNumber_NoNumber : PairIn K "NoNumber" "NoNumber" true)
    (h_d_is_number : DefIn K "is_number" s_is_number)
    (h_d_is_whole : DefIn K "is_whole" s_is_whole)
    (h_d_is_manner : DefIn K "is_manner" s_is_manner)
    (h_d_is_list : DefIn K "is_list" s_is_list)
    (h_d_are_numbers : DefIn K "are_numbers" s_are_numbers)
    (h_d_need_manner : DefIn K "need_manner" s_need_manner)
    (h_d_follows_near : DefIn K "follows_near" s_follows_near)
    (h_d_is_beginning : DefIn K "is_beginning" s_is_beginning)
    (h_d_ends_well : DefIn K "ends_well" s_ends_well)
    (h_d_is_row : Ab.DefInD K "is_row" s_is_row [.str "floor"])
    (h_d_law_cell : DefIn K "_law_cell" s_law_cell)
    (h_d_law_purse : DefIn K "_law_purse" s_law_purse)
    (h_d_law_take : DefIn K "_law_take" s_law_take)
    (h_d_law_size : DefIn K "_law_size" s_law_size)
    (h_d_law_next : DefIn K "_law_next" s_law_next)
    (h_d_law_row : DefIn K "_law_row" s_law_row)
    (h_d_law_made : DefIn K "_law_made" s_law_made)
    (h_d_law_asked : DefIn K "_law_asked" s_law_asked)
    (h_d_law_step : DefIn K "_law_step" s_law_step)
    (h_d_law : DefIn K "law" s_law)
    (h_d_Row__init : Ab.MkIn K "Row" s_Row__init [.str "floor"])
    (h_d_Row__more : Ab.MeIn K "Row" "more" "Row.more" s_Row__more)
    (h_d_Row__made : Ab.MeIn K "Row" "made" "Stream.made" s_Row__made)
    (h_d_Row__has : Ab.MeIn K "Row" "has" "Stream.has" s_Row__has)
    (h_d_Row__reach : Ab.MeIn K "Row" "reach" "Stream.reach" s_Row__reach)
    (h_d_Row__ask : Ab.MeIn K "Row" "ask" "Stream.ask" s_Row__ask)
    (h_d_Row__terms : Ab.MeIn K "Row" "terms" "Stream.terms" s_Row__terms)
    (h_d_Row__manner : Ab.MeIn K "Row" "manner" "Stream.manner" s_Row__manner)
    (h_d_Row__asked : Ab.MeIn K "Row" "asked" "Stream.asked" s_Row__asked)
    (h_d_Row__depth : Ab.MeIn K "Row" "depth" "Stream.depth" s_Row__depth)
    (h_d_Begun__init : Ab.Mk0In K "Begun" s_Begun__init)
    (h_d_Stream__init : XtIn K "Stream" "Stream.__init__" s_Stream__init)
    (h_f_Row__begun : Ab.FldK K "Row" "_begun")
    (h_f_Row__closed : Ab.FldK K "Row" "_closed")
    (h_f_Row__made : Ab.FldK K "Row" "_made")
    (h_f_Row__manner : Ab.FldK K "Row" "_manner")
    (h_f_Row__row : Ab.FldK K "Row" "_row")
    (h_f_Begun__ended : Ab.FldK K "Begun" "_ended")
    (h_f_Begun__manner : Ab.FldK K "Begun" "_manner")
    (h_f_Begun__terms : Ab.FldK K "Begun" "_terms")
    (h_f_Begun__turn : Ab.FldK K "Begun" "_turn")
    (h_i_Row_Stream : Ab.SubK K "Row" "Stream")
    (h_n_isinstance : PySem.W.nsIn K mainGlobals "isinstance" = some none)
    (h_n_int : PySem.W.nsIn K mainGlobals "int" = some none)
    (h_n_bool : PySem.W.nsIn K mainGlobals "bool" = some none)
    (h_n_str : PySem.W.nsIn K mainGlobals "str" = some none)
    (h_n_list : PySem.W.nsIn K mainGlobals "list" = some none)
    (h_n_tuple : PySem.W.nsIn K mainGlobals "tuple" = some none)
    (h_n_all : PySem.W.nsIn K mainGlobals "all" = some none)
    (h_n_zip : PySem.W.nsIn K mainGlobals "zip" = some none)
    (h_n_abs : PySem.W.nsIn K mainGlobals "abs" = some none)
    (h_n_len : PySem.W.nsIn K mainGlobals "len" = some none)
    (h_n_max : PySem.W.nsIn K mainGlobals "max" = some none)
    (h_n_range : PySem.W.nsIn K mainGlobals "range" = some none)
    (h_n_min : PySem.W.nsIn K mainGlobals "min" = some none)
    (h_n_repr : PySem.W.nsIn K mainGlobals "repr" = some none)
    (h_c_LAST_PLACE : ∃ t, PySem.W.nsIn K mainGlobals "LAST_PLACE" = some (some (.int 999 t)))
    (h_c_MOST_TERMS : ∃ t, PySem.W.nsIn K mainGlobals "MOST_TERMS" = some (some (.int 1000 t)))
    (h_c_MANNERS : Ab.CtK K "MANNERS" [.str "floor", .str "ceil", .str "near"])
    (h_k_ABOVE_ONE : Ab.KonK K "ABOVE_ONE" (.tuple [.tuple [.tuple [.int (1), .int (1)], .bool false], .tuple [.tuple [.int (1), .int (0)], .bool true]]))
    (h_k_ABOVE_ONE_ENDLESS : Ab.KonK K "ABOVE_ONE_ENDLESS" (.tuple [.tuple [.tuple [.int (1), .int (1)], .bool false], .tuple [.tuple [.int (1), .int (0)], .bool false]]))
    (h_k_FAR : Ab.KonK K "FAR" (.tuple [.tuple [.tuple [.int (2), .int (1)], .bool false], .tuple [.tuple [.int (2), .int (-1)], .bool true]]))
    (h_k_ABOVE_TWO : Ab.KonK K "ABOVE_TWO" (.tuple [.tuple [.tuple [.int (2), .int (1)], .bool false], .tuple [.tuple [.int (1), .int (0)], .bool false]]))
    (h_k_BELOW_TWO : Ab.KonK K "BELOW_TWO" (.tuple [.tuple [.tuple [.int (1), .int (0)], .bool true], .tuple [.tuple [.int (2), .int (-1)], .bool true]])) :
    ∃ fd : FuncData, (∀ (s : Shared) (u : Value), BindsTo s fd ⟨[u], []⟩ [("_law_script", u)]) ∧ ∀ base : Heap, K.In base → base.Ns mainGlobals mg → FnG P w K mg base CX0 14 fa fd ["_law_script"] (spLaw K) := by
  have T : Txt K mg := ⟨h_v_ve, (PySem.W.mg_none_of X G h_n_ValueError), h_v_ke, (PySem.W.mg_none_of X G h_n_KeyError), (h_x_TermError.at X G), (h_x_Unknown.at X G), (h_x_NoNumber.at X G), (h_x_NoManner.at X G), (h_x_NoRow.at X G), (h_x_NoPlace.at X G), h_p_NoPlace_NoPlace, h_p_NoPlace_NoNumber, h_p_NoNumber_NoPlace, h_p_NoNumber_NoNumber, (h_d_is_number.at X G), (h_d_is_whole.at X G), (h_d_is_manner.at X G), (h_d_is_list.at X G), (h_d_are_numbers.at X G), (h_d_need_manner.at X G), (h_d_follows_near.at X G), (h_d_is_beginning.at X G), (h_d_ends_well.at X G), (h_d_is_row.at X G), (h_d_law_cell.at X G), (h_d_law_purse.at X G), (h_d_law_take.at X G), (h_d_law_size.at X G), (h_d_law_next.at X G), (h_d_law_row.at X G), (h_d_law_made.at X G), (h_d_law_asked.at X G), (h_d_law_step.at X G), (h_d_law.at X G), (h_d_Row__init.at X G), (h_d_Row__more.at X G), (h_d_Row__made.at X G), (h_d_Row__has.at X G), (h_d_Row__reach.at X G), (h_d_Row__ask.at X G), (h_d_Row__terms.at X G), (h_d_Row__manner.at X G), (h_d_Row__asked.at X G), (h_d_Row__depth.at X G), (h_d_Begun__init.at X G), (h_d_Stream__init.at X G), h_f_Row__begun, h_f_Row__closed, h_f_Row__made, h_f_Row__manner, h_f_Row__row, h_f_Begun__ended, h_f_Begun__manner, h_f_Begun__terms, h_f_Begun__turn, h_i_Row_Stream, (PySem.W.mg_none_of X G h_n_isinstance), (PySem.W.mg_none_of X G h_n_int), (PySem.W.mg_none_of X G h_n_bool), (PySem.W.mg_none_of X G h_n_str), (PySem.W.mg_none_of X G h_n_list), (PySem.W.mg_none_of X G h_n_tuple), (PySem.W.mg_none_of X G h_n_all), (PySem.W.mg_none_of X G h_n_zip), (PySem.W.mg_none_of X G h_n_abs), (PySem.W.mg_none_of X G h_n_len), (PySem.W.mg_none_of X G h_n_max), (PySem.W.mg_none_of X G h_n_range), (PySem.W.mg_none_of X G h_n_min), (PySem.W.mg_none_of X G h_n_repr), (h_c_LAST_PLACE.imp fun _ e => PySem.W.mg_of X G e), (h_c_MOST_TERMS.imp fun _ e => PySem.W.mg_of X G e), (h_c_MANNERS.at X G), (h_k_ABOVE_ONE.at X G), (h_k_ABOVE_ONE_ENDLESS.at X G), (h_k_FAR.at X G), (h_k_ABOVE_TWO.at X G), (h_k_BELOW_TWO.at X G)⟩
  exact law_end X G hfa h_d_law (fun _ _ _ _ _ _ _ => rfl) fun f fd base F => ok_law T F
end My
open PySem PySem.W PyProof.Rows
set_option maxRecDepth 100000 in
set_option maxHeartbeats 0 in
theorem PySem.Challenge.cw_termstream_k28_rows_asked_holds : PySem.Challenge.rw_termstream_k28_rows_asked.Holds := by
  w_on; o_law; k_head; (case hw => w_witness2)
  k_fill
  refine Vg.walk_ofG (l := PySem.Challenge.rw_termstream_k28_rows_asked) (n := 63) (k := 14) (x := "_law_script") (K := _) (sp := fun w => Vg.spLaw _) rfl (by decide) rfl ⟨rfl, by decide, by decide⟩ (fun w h Y => PySem.W.kIn_of Y) ?F (fun w H a ns hl hS => ⟨a, ns, rfl, hS, hl, fun _ => rfl⟩)
  case F =>
    intro w mg fa h KX G hmg
    refine' My.all_mk KX G hmg ?v_ve ?n_ValueError ?v_ke ?n_KeyError ?x_TermError ?x_Unknown ?x_NoNumber ?x_NoManner ?x_NoRow ?x_NoPlace ?p_NoPlace_NoPlace ?p_NoPlace_NoNumber ?p_NoNumber_NoPlace ?p_NoNumber_NoNumber ?d_is_number ?d_is_whole ?d_is_manner ?d_is_list ?d_are_numbers ?d_need_manner ?d_follows_near ?d_is_beginning ?d_ends_well ?d_is_row ?d_law_cell ?d_law_purse ?d_law_take ?d_law_size ?d_law_next ?d_law_row ?d_law_made ?d_law_asked ?d_law_step ?d_law ?d_Row__init ?d_Row__more ?d_Row__made ?d_Row__has ?d_Row__reach ?d_Row__ask ?d_Row__terms ?d_Row__manner ?d_Row__asked ?d_Row__depth ?d_Begun__init ?d_Stream__init ?f_Row__begun ?f_Row__closed ?f_Row__made ?f_Row__manner ?f_Row__row ?f_Begun__ended ?f_Begun__manner ?f_Begun__terms ?f_Begun__turn ?i_Row_Stream ?n_isinstance ?n_int ?n_bool ?n_str ?n_list ?n_tuple ?n_all ?n_zip ?n_abs ?n_len ?n_max ?n_range ?n_min ?n_repr ?c_LAST_PLACE ?c_MOST_TERMS ?c_MANNERS ?k_ABOVE_ONE ?k_ABOVE_ONE_ENDLESS ?k_FAR ?k_ABOVE_TWO ?k_BELOW_TWO
    case v_ve => k_is
    case n_ValueError => k_is
    case v_ke => k_is
    case n_KeyError => k_is
    case x_TermError => (refine' Vg.XtIn.by ?a ?ga ?rd ?fc ?kp ?l ?c; (case a => k_is); (case ga => k_is); (case rd => k_is); (case fc => k_is); (case kp => k_is); (case l => k_is); (case c => k_is))
    case x_Unknown => (refine' Vg.XtIn.by ?a ?ga ?rd ?fc ?kp ?l ?c; (case a => k_is); (case ga => k_is); (case rd => k_is); (case fc => k_is); (case kp => k_is); (case l => k_is); (case c => k_is))
    case x_NoNumber => (refine' Vg.XeIn.by ?a (Vg.oex_by ?xl ?xb ?sa ?exC ?tyC ?kC) ?hg ?hk ?hd ?ha ?hn ?ht ?hm ?no ?iC ?tI ?l ?c ?kp; (case a => k_is); (case xl => k_is); (case xb => decide +kernel); (case sa => k_is); (case exC => k_is); (case tyC => k_is); (case kC => k_is); (case hg => k_is); (case hk => k_is); (case hd => k_is); (case ha => k_is); (case hn => k_is); (case ht => k_is); (case hm => k_is); (case no => k_is); (case iC => k_is); (case tI => k_is); (case l => k_is); (case c => k_is); (case kp => k_is))
    case x_NoManner => (refine' Vg.XeIn.by ?a (Vg.oex_by ?xl ?xb ?sa ?exC ?tyC ?kC) ?hg ?hk ?hd ?ha ?hn ?ht ?hm ?no ?iC ?tI ?l ?c ?kp; (case a => k_is); (case xl => k_is); (case xb => decide +kernel); (case sa => k_is); (case exC => k_is); (case tyC => k_is); (case kC => k_is); (case hg => k_is); (case hk => k_is); (case hd => k_is); (case ha => k_is); (case hn => k_is); (case ht => k_is); (case hm => k_is); (case no => k_is); (case iC => k_is); (case tI => k_is); (case l => k_is); (case c => k_is); (case kp => k_is))
    case x_NoRow => (refine' Vg.XeIn.by ?a (Vg.oex_by ?xl ?xb ?sa ?exC ?tyC ?kC) ?hg ?hk ?hd ?ha ?hn ?ht ?hm ?no ?iC ?tI ?l ?c ?kp; (case a => k_is); (case xl => k_is); (case xb => decide +kernel); (case sa => k_is); (case exC => k_is); (case tyC => k_is); (case kC => k_is); (case hg => k_is); (case hk => k_is); (case hd => k_is); (case ha => k_is); (case hn => k_is); (case ht => k_is); (case hm => k_is); (case no => k_is); (case iC => k_is); (case tI => k_is); (case l => k_is); (case c => k_is); (case kp => k_is))
    case x_NoPlace => (refine' Ab.XkyIn.by ?a (Ab.oexk_by ?xi ?xo ?hd ?sa ?exC ?tyC ?kC) ?hg ?hk ?ha ?hn ?ht ?hm ?no ?nt ?iC ?tI ?l ?c ?kp; (case a => k_is); (case xi => kx_is); (case xo => kx_is); (case hd => k_is); (case sa => k_is); (case exC => k_is); (case tyC => k_is); (case kC => k_is); (case hg => k_is); (case hk => k_is); (case ha => k_is); (case hn => k_is); (case ht => k_is); (case hm => k_is); (case no => k_is); (case nt => k_is); (case iC => k_is); (case tI => k_is); (case l => k_is); (case c => k_is); (case kp => k_is))
    case p_NoPlace_NoPlace => (refine' Vg.PairIn.by ?h1 ?h2 ?h3 ?h4; (case h1 => k_is); (case h2 => k_is); (case h3 => kit_is); (case h4 => kts_exm))
    case p_NoPlace_NoNumber => (refine' Vg.PairIn.by ?h1 ?h2 ?h3 ?h4; (case h1 => k_is); (case h2 => k_is); (case h3 => kit_is); (case h4 => kts_exm))
    case p_NoNumber_NoPlace => (refine' Vg.PairIn.by ?h1 ?h2 ?h3 ?h4; (case h1 => k_is); (case h2 => k_is); (case h3 => kit_is); (case h4 => kts_exm))
    case p_NoNumber_NoNumber => (refine' Vg.PairIn.by ?h1 ?h2 ?h3 ?h4; (case h1 => k_is); (case h2 => k_is); (case h3 => kit_is); (case h4 => kts_exm))
    case d_is_number => (refine' Vg.DefIn.by ?a ?l ?c ?k; (case a => k_is); (case l => k_is); (case c => k_is); (case k => k_is))
    case d_is_whole => (refine' Vg.DefIn.by ?a ?l ?c ?k; (case a => k_is); (case l => k_is); (case c => k_is); (case k => k_is))
    case d_is_manner => (refine' Vg.DefIn.by ?a ?l ?c ?k; (case a => k_is); (case l => k_is); (case c => k_is); (case k => k_is))
    case d_is_list => (refine' Vg.DefIn.by ?a ?l ?c ?k; (case a => k_is); (case l => k_is); (case c => k_is); (case k => k_is))
    case d_are_numbers => (refine' Vg.DefIn.by ?a ?l ?c ?k; (case a => k_is); (case l => k_is); (case c => k_is); (case k => k_is))
    case d_need_manner => (refine' Vg.DefIn.by ?a ?l ?c ?k; (case a => k_is); (case l => k_is); (case c => k_is); (case k => k_is))
    case d_follows_near => (refine' Vg.DefIn.by ?a ?l ?c ?k; (case a => k_is); (case l => k_is); (case c => k_is); (case k => k_is))
    case d_is_beginning => (refine' Vg.DefIn.by ?a ?l ?c ?k; (case a => k_is); (case l => k_is); (case c => k_is); (case k => k_is))
    case d_ends_well => (refine' Vg.DefIn.by ?a ?l ?c ?k; (case a => k_is); (case l => k_is); (case c => k_is); (case k => k_is))
    case d_is_row => (refine' Ab.DefInD.by ?a ?l ?c ?k ?lT ?oT ?r ?ne; (case a => k_is); (case l => k_is); (case c => k_is); (case k => k_is); (case lT => k_is); (case oT => rfl); (case r => exact .cons ⟨_, rfl⟩ .nil); (case ne => simp))
    case d_law_cell => (refine' Vg.DefIn.by ?a ?l ?c ?k; (case a => k_is); (case l => k_is); (case c => k_is); (case k => k_is))
    case d_law_purse => (refine' Vg.DefIn.by ?a ?l ?c ?k; (case a => k_is); (case l => k_is); (case c => k_is); (case k => k_is))
    case d_law_take => (refine' Vg.DefIn.by ?a ?l ?c ?k; (case a => k_is); (case l => k_is); (case c => k_is); (case k => k_is))
    case d_law_size => (refine' Vg.DefIn.by ?a ?l ?c ?k; (case a => k_is); (case l => k_is); (case c => k_is); (case k => k_is))
    case d_law_next => (refine' Vg.DefIn.by ?a ?l ?c ?k; (case a => k_is); (case l => k_is); (case c => k_is); (case k => k_is))
    case d_law_row => (refine' Vg.DefIn.by ?a ?l ?c ?k; (case a => k_is); (case l => k_is); (case c => k_is); (case k => k_is))
    case d_law_made => (refine' Vg.DefIn.by ?a ?l ?c ?k; (case a => k_is); (case l => k_is); (case c => k_is); (case k => k_is))
    case d_law_asked => (refine' Vg.DefIn.by ?a ?l ?c ?k; (case a => k_is); (case l => k_is); (case c => k_is); (case k => k_is))
    case d_law_step => (refine' Vg.DefIn.by ?a ?l ?c ?k; (case a => k_is); (case l => k_is); (case c => k_is); (case k => k_is))
    case d_law => (refine' Vg.DefIn.by ?a ?l ?c ?k; (case a => k_is); (case l => k_is); (case c => k_is); (case k => k_is))
    case d_Row__init => (refine' Ab.MkIn.by (q := "Row.__init__") ?hq ?a ?mk ?ini ?fn ?kC ?l ?c ?k ?lT ?oT ?r ?ne; (case hq => decide +kernel); (case a => k_is); (case mk => k_is); (case ini => k_is); (case fn => k_is); (case kC => k_is); (case l => k_is); (case c => k_is); (case k => k_is); (case lT => k_is); (case oT => rfl); (case r => exact (.cons ⟨_, rfl⟩ .nil)); (case ne => simp))
    case d_Row__more => (refine' Ab.MeIn.by ?a ?pg ?hd ?po ?sa ?av ?fn ?kp ?l ?c; (case a => k_is); (case pg => k_is); (case hd => k_is); (case po => k_is); (case sa => k_is); (case av => k_is); (case fn => k_is); (case kp => k_is); (case l => k_is); (case c => k_is))
    case d_Row__made => (refine' Ab.MeIn.by ?a ?pg ?hd ?po ?sa ?av ?fn ?kp ?l ?c; (case a => k_is); (case pg => k_is); (case hd => k_is); (case po => k_is); (case sa => k_is); (case av => k_is); (case fn => k_is); (case kp => k_is); (case l => k_is); (case c => k_is))
    case d_Row__has => (refine' Ab.MeIn.by ?a ?pg ?hd ?po ?sa ?av ?fn ?kp ?l ?c; (case a => k_is); (case pg => k_is); (case hd => k_is); (case po => k_is); (case sa => k_is); (case av => k_is); (case fn => k_is); (case kp => k_is); (case l => k_is); (case c => k_is))
    case d_Row__reach => (refine' Ab.MeIn.by ?a ?pg ?hd ?po ?sa ?av ?fn ?kp ?l ?c; (case a => k_is); (case pg => k_is); (case hd => k_is); (case po => k_is); (case sa => k_is); (case av => k_is); (case fn => k_is); (case kp => k_is); (case l => k_is); (case c => k_is))
    case d_Row__ask => (refine' Ab.MeIn.by ?a ?pg ?hd ?po ?sa ?av ?fn ?kp ?l ?c; (case a => k_is); (case pg => k_is); (case hd => k_is); (case po => k_is); (case sa => k_is); (case av => k_is); (case fn => k_is); (case kp => k_is); (case l => k_is); (case c => k_is))
    case d_Row__terms => (refine' Ab.MeIn.by ?a ?pg ?hd ?po ?sa ?av ?fn ?kp ?l ?c; (case a => k_is); (case pg => k_is); (case hd => k_is); (case po => k_is); (case sa => k_is); (case av => k_is); (case fn => k_is); (case kp => k_is); (case l => k_is); (case c => k_is))
    case d_Row__manner => (refine' Ab.MeIn.by ?a ?pg ?hd ?po ?sa ?av ?fn ?kp ?l ?c; (case a => k_is); (case pg => k_is); (case hd => k_is); (case po => k_is); (case sa => k_is); (case av => k_is); (case fn => k_is); (case kp => k_is); (case l => k_is); (case c => k_is))
    case d_Row__asked => (refine' Ab.MeIn.by ?a ?pg ?hd ?po ?sa ?av ?fn ?kp ?l ?c; (case a => k_is); (case pg => k_is); (case hd => k_is); (case po => k_is); (case sa => k_is); (case av => k_is); (case fn => k_is); (case kp => k_is); (case l => k_is); (case c => k_is))
    case d_Row__depth => (refine' Ab.MeIn.by ?a ?pg ?hd ?po ?sa ?av ?fn ?kp ?l ?c; (case a => k_is); (case pg => k_is); (case hd => k_is); (case po => k_is); (case sa => k_is); (case av => k_is); (case fn => k_is); (case kp => k_is); (case l => k_is); (case c => k_is))
    case d_Begun__init => (refine' Ab.Mk0In.by (q := "Begun.__init__") ?hq ?a ?mk ?ini ?fn ?kC ?l ?c ?k; (case hq => decide +kernel); (case a => k_is); (case mk => k_is); (case ini => k_is); (case fn => k_is); (case kC => k_is); (case l => k_is); (case c => k_is); (case k => k_is))
    case d_Stream__init => (refine' Vg.XtIn.by ?a ?ga ?rd ?fc ?kp ?l ?c; (case a => k_is); (case ga => k_is); (case rd => k_is); (case fc => k_is); (case kp => k_is); (case l => k_is); (case c => k_is))
    case f_Row__begun => (refine' Ab.FldK.by ?a ?pg ?hd ?po ?sa ?no; (case a => k_is); (case pg => k_is); (case hd => k_is); (case po => k_is); (case sa => k_is); (case no => k_is))
    case f_Row__closed => (refine' Ab.FldK.by ?a ?pg ?hd ?po ?sa ?no; (case a => k_is); (case pg => k_is); (case hd => k_is); (case po => k_is); (case sa => k_is); (case no => k_is))
    case f_Row__made => (refine' Ab.FldK.by ?a ?pg ?hd ?po ?sa ?no; (case a => k_is); (case pg => k_is); (case hd => k_is); (case po => k_is); (case sa => k_is); (case no => k_is))
    case f_Row__manner => (refine' Ab.FldK.by ?a ?pg ?hd ?po ?sa ?no; (case a => k_is); (case pg => k_is); (case hd => k_is); (case po => k_is); (case sa => k_is); (case no => k_is))
    case f_Row__row => (refine' Ab.FldK.by ?a ?pg ?hd ?po ?sa ?no; (case a => k_is); (case pg => k_is); (case hd => k_is); (case po => k_is); (case sa => k_is); (case no => k_is))
    case f_Begun__ended => (refine' Ab.FldK.by ?a ?pg ?hd ?po ?sa ?no; (case a => k_is); (case pg => k_is); (case hd => k_is); (case po => k_is); (case sa => k_is); (case no => k_is))
    case f_Begun__manner => (refine' Ab.FldK.by ?a ?pg ?hd ?po ?sa ?no; (case a => k_is); (case pg => k_is); (case hd => k_is); (case po => k_is); (case sa => k_is); (case no => k_is))
    case f_Begun__terms => (refine' Ab.FldK.by ?a ?pg ?hd ?po ?sa ?no; (case a => k_is); (case pg => k_is); (case hd => k_is); (case po => k_is); (case sa => k_is); (case no => k_is))
    case f_Begun__turn => (refine' Ab.FldK.by ?a ?pg ?hd ?po ?sa ?no; (case a => k_is); (case pg => k_is); (case hd => k_is); (case po => k_is); (case sa => k_is); (case no => k_is))
    case i_Row_Stream => (refine' Ab.SubK.by ?a ?b ?pg ?hd ?po ?sa ?ha ?hn ?htk ?hm ?me; (case a => first | k_is | kit_is); (case b => first | k_is | kit_is); (case pg => first | k_is | kit_is); (case hd => first | k_is | kit_is); (case po => first | k_is | kit_is); (case sa => first | k_is | kit_is); (case ha => first | k_is | kit_is); (case hn => first | k_is | kit_is); (case htk => first | k_is | kit_is); (case hm => first | k_is | kit_is); (case me => first | k_is | kit_is))
    case n_isinstance => k_is
    case n_int => k_is
    case n_bool => k_is
    case n_str => k_is
    case n_list => k_is
    case n_tuple => k_is
    case n_all => k_is
    case n_zip => k_is
    case n_abs => k_is
    case n_len => k_is
    case n_max => k_is
    case n_range => k_is
    case n_min => k_is
    case n_repr => k_is
    case c_LAST_PLACE => (refine' Vg.con_in ?a; (case a => k_is))
    case c_MOST_TERMS => (refine' Vg.con_in ?a; (case a => k_is))
    case c_MANNERS => (refine' Ab.CtK.by ?a ?l ?r; (case a => k_is); (case l => k_is); (case r => decide +kernel))
    case k_ABOVE_ONE => (refine' Ab.KonK.by ?ka0 ?kl0; (case ka0 => k_is); (case kl0 => (refine' Ab.Kv.tup ?kl15 ?kc15 ?kd15 ?kz15 ?kq15; (case kl15 => k_is); (case kc15 => rfl); (case kd15 => rfl); (case kz15 => decide); (case kq15 => (refine' Ab.KvL.cons ?kh8 ?kr8; (case kh8 => (refine' Ab.Kv.tup ?kl14 ?kc14 ?kd14 ?kz14 ?kq14; (case kl14 => k_is); (case kc14 => rfl); (case kd14 => rfl); (case kz14 => decide); (case kq14 => (refine' Ab.KvL.cons ?kh10 ?kr10; (case kh10 => (refine' Ab.Kv.tup ?kl13 ?kc13 ?kd13 ?kz13 ?kq13; (case kl13 => k_is); (case kc13 => rfl); (case kd13 => rfl); (case kz13 => decide); (case kq13 => (refine' Ab.KvL.cons ?kh12 ?kr12; (case kh12 => exact Ab.Kv.int _ _); (case kr12 => (refine' Ab.KvL.cons ?kh11 ?kr11; (case kh11 => exact Ab.Kv.int _ _); (case kr11 => exact Ab.KvL.nil))))))); (case kr10 => (refine' Ab.KvL.cons ?kh9 ?kr9; (case kh9 => exact Ab.Kv.bl _); (case kr9 => exact Ab.KvL.nil))))))); (case kr8 => (refine' Ab.KvL.cons ?kh1 ?kr1; (case kh1 => (refine' Ab.Kv.tup ?kl7 ?kc7 ?kd7 ?kz7 ?kq7; (case kl7 => k_is); (case kc7 => rfl); (case kd7 => rfl); (case kz7 => decide); (case kq7 => (refine' Ab.KvL.cons ?kh3 ?kr3; (case kh3 => (refine' Ab.Kv.tup ?kl6 ?kc6 ?kd6 ?kz6 ?kq6; (case kl6 => k_is); (case kc6 => rfl); (case kd6 => rfl); (case kz6 => decide); (case kq6 => (refine' Ab.KvL.cons ?kh5 ?kr5; (case kh5 => exact Ab.Kv.int _ _); (case kr5 => (refine' Ab.KvL.cons ?kh4 ?kr4; (case kh4 => exact Ab.Kv.int _ _); (case kr4 => exact Ab.KvL.nil))))))); (case kr3 => (refine' Ab.KvL.cons ?kh2 ?kr2; (case kh2 => exact Ab.Kv.bl _); (case kr2 => exact Ab.KvL.nil))))))); (case kr1 => exact Ab.KvL.nil))))))))
    case k_ABOVE_ONE_ENDLESS => (refine' Ab.KonK.by ?ka0 ?kl0; (case ka0 => k_is); (case kl0 => (refine' Ab.Kv.tup ?kl30 ?kc30 ?kd30 ?kz30 ?kq30; (case kl30 => k_is); (case kc30 => rfl); (case kd30 => rfl); (case kz30 => decide); (case kq30 => (refine' Ab.KvL.cons ?kh23 ?kr23; (case kh23 => (refine' Ab.Kv.tup ?kl29 ?kc29 ?kd29 ?kz29 ?kq29; (case kl29 => k_is); (case kc29 => rfl); (case kd29 => rfl); (case kz29 => decide); (case kq29 => (refine' Ab.KvL.cons ?kh25 ?kr25; (case kh25 => (refine' Ab.Kv.tup ?kl28 ?kc28 ?kd28 ?kz28 ?kq28; (case kl28 => k_is); (case kc28 => rfl); (case kd28 => rfl); (case kz28 => decide); (case kq28 => (refine' Ab.KvL.cons ?kh27 ?kr27; (case kh27 => exact Ab.Kv.int _ _); (case kr27 => (refine' Ab.KvL.cons ?kh26 ?kr26; (case kh26 => exact Ab.Kv.int _ _); (case kr26 => exact Ab.KvL.nil))))))); (case kr25 => (refine' Ab.KvL.cons ?kh24 ?kr24; (case kh24 => exact Ab.Kv.bl _); (case kr24 => exact Ab.KvL.nil))))))); (case kr23 => (refine' Ab.KvL.cons ?kh16 ?kr16; (case kh16 => (refine' Ab.Kv.tup ?kl22 ?kc22 ?kd22 ?kz22 ?kq22; (case kl22 => k_is); (case kc22 => rfl); (case kd22 => rfl); (case kz22 => decide); (case kq22 => (refine' Ab.KvL.cons ?kh18 ?kr18; (case kh18 => (refine' Ab.Kv.tup ?kl21 ?kc21 ?kd21 ?kz21 ?kq21; (case kl21 => k_is); (case kc21 => rfl); (case kd21 => rfl); (case kz21 => decide); (case kq21 => (refine' Ab.KvL.cons ?kh20 ?kr20; (case kh20 => exact Ab.Kv.int _ _); (case kr20 => (refine' Ab.KvL.cons ?kh19 ?kr19; (case kh19 => exact Ab.Kv.int _ _); (case kr19 => exact Ab.KvL.nil))))))); (case kr18 => (refine' Ab.KvL.cons ?kh17 ?kr17; (case kh17 => exact Ab.Kv.bl _); (case kr17 => exact Ab.KvL.nil))))))); (case kr16 => exact Ab.KvL.nil))))))))
    case k_FAR => (refine' Ab.KonK.by ?ka0 ?kl0; (case ka0 => k_is); (case kl0 => (refine' Ab.Kv.tup ?kl45 ?kc45 ?kd45 ?kz45 ?kq45; (case kl45 => k_is); (case kc45 => rfl); (case kd45 => rfl); (case kz45 => decide); (case kq45 => (refine' Ab.KvL.cons ?kh38 ?kr38; (case kh38 => (refine' Ab.Kv.tup ?kl44 ?kc44 ?kd44 ?kz44 ?kq44; (case kl44 => k_is); (case kc44 => rfl); (case kd44 => rfl); (case kz44 => decide); (case kq44 => (refine' Ab.KvL.cons ?kh40 ?kr40; (case kh40 => (refine' Ab.Kv.tup ?kl43 ?kc43 ?kd43 ?kz43 ?kq43; (case kl43 => k_is); (case kc43 => rfl); (case kd43 => rfl); (case kz43 => decide); (case kq43 => (refine' Ab.KvL.cons ?kh42 ?kr42; (case kh42 => exact Ab.Kv.int _ _); (case kr42 => (refine' Ab.KvL.cons ?kh41 ?kr41; (case kh41 => exact Ab.Kv.int _ _); (case kr41 => exact Ab.KvL.nil))))))); (case kr40 => (refine' Ab.KvL.cons ?kh39 ?kr39; (case kh39 => exact Ab.Kv.bl _); (case kr39 => exact Ab.KvL.nil))))))); (case kr38 => (refine' Ab.KvL.cons ?kh31 ?kr31; (case kh31 => (refine' Ab.Kv.tup ?kl37 ?kc37 ?kd37 ?kz37 ?kq37; (case kl37 => k_is); (case kc37 => rfl); (case kd37 => rfl); (case kz37 => decide); (case kq37 => (refine' Ab.KvL.cons ?kh33 ?kr33; (case kh33 => (refine' Ab.Kv.tup ?kl36 ?kc36 ?kd36 ?kz36 ?kq36; (case kl36 => k_is); (case kc36 => rfl); (case kd36 => rfl); (case kz36 => decide); (case kq36 => (refine' Ab.KvL.cons ?kh35 ?kr35; (case kh35 => exact Ab.Kv.int _ _); (case kr35 => (refine' Ab.KvL.cons ?kh34 ?kr34; (case kh34 => exact Ab.Kv.int _ _); (case kr34 => exact Ab.KvL.nil))))))); (case kr33 => (refine' Ab.KvL.cons ?kh32 ?kr32; (case kh32 => exact Ab.Kv.bl _); (case kr32 => exact Ab.KvL.nil))))))); (case kr31 => exact Ab.KvL.nil))))))))
    case k_ABOVE_TWO => (refine' Ab.KonK.by ?ka0 ?kl0; (case ka0 => k_is); (case kl0 => (refine' Ab.Kv.tup ?kl60 ?kc60 ?kd60 ?kz60 ?kq60; (case kl60 => k_is); (case kc60 => rfl); (case kd60 => rfl); (case kz60 => decide); (case kq60 => (refine' Ab.KvL.cons ?kh53 ?kr53; (case kh53 => (refine' Ab.Kv.tup ?kl59 ?kc59 ?kd59 ?kz59 ?kq59; (case kl59 => k_is); (case kc59 => rfl); (case kd59 => rfl); (case kz59 => decide); (case kq59 => (refine' Ab.KvL.cons ?kh55 ?kr55; (case kh55 => (refine' Ab.Kv.tup ?kl58 ?kc58 ?kd58 ?kz58 ?kq58; (case kl58 => k_is); (case kc58 => rfl); (case kd58 => rfl); (case kz58 => decide); (case kq58 => (refine' Ab.KvL.cons ?kh57 ?kr57; (case kh57 => exact Ab.Kv.int _ _); (case kr57 => (refine' Ab.KvL.cons ?kh56 ?kr56; (case kh56 => exact Ab.Kv.int _ _); (case kr56 => exact Ab.KvL.nil))))))); (case kr55 => (refine' Ab.KvL.cons ?kh54 ?kr54; (case kh54 => exact Ab.Kv.bl _); (case kr54 => exact Ab.KvL.nil))))))); (case kr53 => (refine' Ab.KvL.cons ?kh46 ?kr46; (case kh46 => (refine' Ab.Kv.tup ?kl52 ?kc52 ?kd52 ?kz52 ?kq52; (case kl52 => k_is); (case kc52 => rfl); (case kd52 => rfl); (case kz52 => decide); (case kq52 => (refine' Ab.KvL.cons ?kh48 ?kr48; (case kh48 => (refine' Ab.Kv.tup ?kl51 ?kc51 ?kd51 ?kz51 ?kq51; (case kl51 => k_is); (case kc51 => rfl); (case kd51 => rfl); (case kz51 => decide); (case kq51 => (refine' Ab.KvL.cons ?kh50 ?kr50; (case kh50 => exact Ab.Kv.int _ _); (case kr50 => (refine' Ab.KvL.cons ?kh49 ?kr49; (case kh49 => exact Ab.Kv.int _ _); (case kr49 => exact Ab.KvL.nil))))))); (case kr48 => (refine' Ab.KvL.cons ?kh47 ?kr47; (case kh47 => exact Ab.Kv.bl _); (case kr47 => exact Ab.KvL.nil))))))); (case kr46 => exact Ab.KvL.nil))))))))
    case k_BELOW_TWO => (refine' Ab.KonK.by ?ka0 ?kl0; (case ka0 => k_is); (case kl0 => (refine' Ab.Kv.tup ?kl75 ?kc75 ?kd75 ?kz75 ?kq75; (case kl75 => k_is); (case kc75 => rfl); (case kd75 => rfl); (case kz75 => decide); (case kq75 => (refine' Ab.KvL.cons ?kh68 ?kr68; (case kh68 => (refine' Ab.Kv.tup ?kl74 ?kc74 ?kd74 ?kz74 ?kq74; (case kl74 => k_is); (case kc74 => rfl); (case kd74 => rfl); (case kz74 => decide); (case kq74 => (refine' Ab.KvL.cons ?kh70 ?kr70; (case kh70 => (refine' Ab.Kv.tup ?kl73 ?kc73 ?kd73 ?kz73 ?kq73; (case kl73 => k_is); (case kc73 => rfl); (case kd73 => rfl); (case kz73 => decide); (case kq73 => (refine' Ab.KvL.cons ?kh72 ?kr72; (case kh72 => exact Ab.Kv.int _ _); (case kr72 => (refine' Ab.KvL.cons ?kh71 ?kr71; (case kh71 => exact Ab.Kv.int _ _); (case kr71 => exact Ab.KvL.nil))))))); (case kr70 => (refine' Ab.KvL.cons ?kh69 ?kr69; (case kh69 => exact Ab.Kv.bl _); (case kr69 => exact Ab.KvL.nil))))))); (case kr68 => (refine' Ab.KvL.cons ?kh61 ?kr61; (case kh61 => (refine' Ab.Kv.tup ?kl67 ?kc67 ?kd67 ?kz67 ?kq67; (case kl67 => k_is); (case kc67 => rfl); (case kd67 => rfl); (case kz67 => decide); (case kq67 => (refine' Ab.KvL.cons ?kh63 ?kr63; (case kh63 => (refine' Ab.Kv.tup ?kl66 ?kc66 ?kd66 ?kz66 ?kq66; (case kl66 => k_is); (case kc66 => rfl); (case kd66 => rfl); (case kz66 => decide); (case kq66 => (refine' Ab.KvL.cons ?kh65 ?kr65; (case kh65 => exact Ab.Kv.int _ _); (case kr65 => (refine' Ab.KvL.cons ?kh64 ?kr64; (case kh64 => exact Ab.Kv.int _ _); (case kr64 => exact Ab.KvL.nil))))))); (case kr63 => (refine' Ab.KvL.cons ?kh62 ?kr62; (case kh62 => exact Ab.Kv.bl _); (case kr62 => exact Ab.KvL.nil))))))); (case kr61 => exact Ab.KvL.nil))))))))
