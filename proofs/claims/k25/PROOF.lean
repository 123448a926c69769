import PyProof.Rows.All
import Wide.All
import OpenK.AllK
import Wide.FinOn
import HandS.DictComp
import KE.KDictKeyed
import KE.KDictCopyH
import KE.KDictSum
import KE.SortData
import HandS.Walk
import PyProof.EqAt
import PyProof.ReprRoads
import HandS.ForMost
import HandS.Flow
import HandS.Style
import HandS.IsInst
import HandS.Wide
import HandS.TupAny
import HandS.ForExc
import KE.GoesMore
import HandS.WordsExc
import HandS.ExcInit
import HandS.SetBool
import HandS.TupSets
import KE.OsSortAny
import HandS.TupLen
import HandS.DictTup
import HandS.Iter
import HandS.Conv
import KE.KDictItemsList
import PyProof.SetRoads
import HandS.SetKeys
import KE.DataCmp
import KE.SortKeyed
import HandS.SortKw
import HandS.SetFor
import PyProof.TupleIter
import PyProof.WalksMore
import PyProof.DictRoadsH
import HandS.Deep
import KE.DataFind
import HandS.Comp
import PyProof.TupleOfSeq
import PyProof.ReprLen
import HandS.Head0
import HandS.Head1
import HandS.Head2
import HandS.HeadEnd
import HandS.HeadHook1
import HandS.HeadHook2
import HandS.HeadHook3
import HandS.HeadHook4
import PySem.Challenge.RW_jarvisits_k25_whole_mended_sites
set_option Elab.async false
set_option linter.all false
set_option maxRecDepth 100000
set_option maxHeartbeats 0
/-! what all my proofs share: calls with the guards known, repr, is, powers, t[::-1] -/
namespace Jv
open PySem PySem.Spec PyProof.Rows L2

/-! ### is True, is False, of anything -/
def rIsTF : R2 := fun x y H Q => ∃ b : Bool, y = .bl b ∧ Q (.bl (decide (x = V.bl b))) H
theorem op_isTF {X : Cx} : OpR X (compareOp .Is) rIsTF := by
  intro pn sh sg Hh vx vy ux uy Qq Iv r1 r2 hyp
  obtain ⟨b, rfl, q⟩ := hyp
  cases (show uy = Value.bool b from r2)
  cases vx with
  | bl c =>
    cases (show ux = Value.bool c from r1)
    by_cases e : c = b
    · subst e
      refine wpAny_is_self rfl ⟨.bl true, Hh, Iv, rfl, ?_⟩
      have := q
      rw [decide_eq_true rfl] at this
      exact this
    · refine wpAny_is_other rfl (fun z => e (Value.bool.inj z)) ⟨.bl false, Hh, Iv, rfl, ?_⟩
      have := q
      rw [decide_eq_false (fun z => e (V.bl.inj z))] at this
      exact this
  | non =>
    cases (show ux = Value.none from r1)
    exact wpAny_is_other rfl (fun z => nomatch z) ⟨.bl false, Hh, Iv, rfl, by rw [decide_eq_false (fun z => nomatch z)] at q; exact q⟩
  | int i =>
    obtain ⟨t, rfl⟩ := (show ∃ t, ux = Value.int i t from r1)
    exact wpAny_is_other rfl (fun z => nomatch z) ⟨.bl false, Hh, Iv, rfl, by rw [decide_eq_false (fun z => nomatch z)] at q; exact q⟩
  | str i =>
    obtain ⟨t, rfl⟩ := (show ∃ t, ux = Value.str i t from r1)
    exact wpAny_is_other rfl (fun z => nomatch z) ⟨.bl false, Hh, Iv, rfl, by rw [decide_eq_false (fun z => nomatch z)] at q; exact q⟩
  | byt i =>
    obtain ⟨t, rfl⟩ := (show ∃ t, ux = Value.bytes i t from r1)
    exact wpAny_is_other rfl (fun z => nomatch z) ⟨.bl false, Hh, Iv, rfl, by rw [decide_eq_false (fun z => nomatch z)] at q; exact q⟩
  | flt i =>
    obtain ⟨t, rfl⟩ := (show ∃ t, ux = Value.float i t from r1)
    exact wpAny_is_other rfl (fun z => nomatch z) ⟨.bl false, Hh, Iv, rfl, by rw [decide_eq_false (fun z => nomatch z)] at q; exact q⟩
  | ref i =>
    cases (show ux = Value.ref i from r1)
    exact wpAny_is_other rfl (fun z => nomatch z) ⟨.bl false, Hh, Iv, rfl, by rw [decide_eq_false (fun z => nomatch z)] at q; exact q⟩
  | ty i =>
    cases (show ux = Value.type i from r1)
    exact wpAny_is_other rfl (fun z => nomatch z) ⟨.bl false, Hh, Iv, rfl, by rw [decide_eq_false (fun z => nomatch z)] at q; exact q⟩
def rIsNotTF : R2 := fun x y H Q => ∃ b : Bool, y = .bl b ∧ Q (.bl (!decide (x = V.bl b))) H
theorem op_isNotTF {X : Cx} : OpR X (compareOp .IsNot) rIsNotTF := by
  intro pn sh sg Hh vx vy ux uy Qq Iv r1 r2 hyp
  obtain ⟨b, rfl, q⟩ := hyp
  cases (show uy = Value.bool b from r2)
  cases vx with
  | bl c =>
    cases (show ux = Value.bool c from r1)
    by_cases e : c = b
    · subst e
      refine wpAny_isNot_self rfl ⟨.bl false, Hh, Iv, rfl, ?_⟩
      have := q
      rw [decide_eq_true rfl] at this
      exact this
    · refine wpAny_isNot_other rfl (fun z => e (Value.bool.inj z)) ⟨.bl true, Hh, Iv, rfl, ?_⟩
      have := q
      rw [decide_eq_false (fun z => e (V.bl.inj z))] at this
      exact this
  | non =>
    cases (show ux = Value.none from r1)
    exact wpAny_isNot_other rfl (fun z => nomatch z) ⟨.bl true, Hh, Iv, rfl, by rw [decide_eq_false (fun z => nomatch z)] at q; exact q⟩
  | int i =>
    obtain ⟨t, rfl⟩ := (show ∃ t, ux = Value.int i t from r1)
    exact wpAny_isNot_other rfl (fun z => nomatch z) ⟨.bl true, Hh, Iv, rfl, by rw [decide_eq_false (fun z => nomatch z)] at q; exact q⟩
  | str i =>
    obtain ⟨t, rfl⟩ := (show ∃ t, ux = Value.str i t from r1)
    exact wpAny_isNot_other rfl (fun z => nomatch z) ⟨.bl true, Hh, Iv, rfl, by rw [decide_eq_false (fun z => nomatch z)] at q; exact q⟩
  | byt i =>
    obtain ⟨t, rfl⟩ := (show ∃ t, ux = Value.bytes i t from r1)
    exact wpAny_isNot_other rfl (fun z => nomatch z) ⟨.bl true, Hh, Iv, rfl, by rw [decide_eq_false (fun z => nomatch z)] at q; exact q⟩
  | flt i =>
    obtain ⟨t, rfl⟩ := (show ∃ t, ux = Value.float i t from r1)
    exact wpAny_isNot_other rfl (fun z => nomatch z) ⟨.bl true, Hh, Iv, rfl, by rw [decide_eq_false (fun z => nomatch z)] at q; exact q⟩
  | ref i =>
    cases (show ux = Value.ref i from r1)
    exact wpAny_isNot_other rfl (fun z => nomatch z) ⟨.bl true, Hh, Iv, rfl, by rw [decide_eq_false (fun z => nomatch z)] at q; exact q⟩
  | ty i =>
    cases (show ux = Value.type i from r1)
    exact wpAny_isNot_other rfl (fun z => nomatch z) ⟨.bl true, Hh, Iv, rfl, by rw [decide_eq_false (fun z => nomatch z)] at q; exact q⟩

/-! ### repr -/
def rReprB : List V → Hp → VK → Prop := fun xs H Q => ∃ b : Bool, xs = [.bl b] ∧ Q (.str (if b then "True" else "False")) H
theorem cr_reprB {X : Cx} : CallR X (.builtin "repr") rReprB := by
  intro pn sh sg Hh vxs uxs Qq Iv r1 hyp
  obtain ⟨b, rfl, q⟩ := hyp
  obtain ⟨u, rfl, r2⟩ := vals1 r1
  cases (show u = Value.bool b from r2)
  exact PySem.P.repr_of_bool ⟨.str _, Hh, Iv.tok _, ⟨_, rfl⟩, q⟩
def rReprD (K : PySem.W.Frag) : List V → Hp → VK → Prop := fun xs H Q => ∃ (a : Addr) (d : PyData), xs = [.ref a] ∧ Dp K H (.ref a) d ∧ d.showable = true ∧ d.hasDict = false ∧ d.depth ≤ 60 ∧ d.shown.length ≤ sizeLine ∧ Q (.str d.shown) H
theorem cr_reprD {X : Cx} (hg : X.A.guards = some []) (hu : X.A.units + 64 < cLine) : CallR X (.builtin "repr") (rReprD X.K) := by
  intro pn sh sg Hh vxs uxs Qq Iv r1 hyp
  obtain ⟨a, d, rfl, hd, h1, h2, h3, h4, q⟩ := hyp
  obtain ⟨u, rfl, r2⟩ := vals1 r1
  cases (show u = Value.ref a from r2)
  obtain ⟨as, rr⟩ := Dp.reads Iv d _ _ hd r2
  exact repr_of_reads' rr h1 (PyData.noDict_hsm h2) hg (by omega) (fun _ _ e => e) (fun h' u tk hk => ⟨.str d.shown, Hh, Iv.kept (t' := tk) hk, ⟨_, rfl⟩, q⟩) h4

/-! ### powers of great ints -/
def CPowW (i j : Int) : Prop := 0 ≤ j ∧ (Builtin.Int.intBits i : Int) * j ≤ 2 ^ 27
theorem op_powW {X : Cx} : OpR X (binaryOp .Pow) (rI CPowW fun i j => .int (i ^ j.toNat)) := opI fun _ _ _ _ _ _ _ c q => pow_int c.1 c.2 q

/-! ### calls by the guards -/
/-- as FnOk, where nothing is being shown -/
structure FnG (P : Program) (w : World) (K : PySem.W.Frag) (mg : Str → Option Value) (base : Heap) (k : Nat) (f : Addr) (fd : FuncData) (ps : List Str) (sp : Sp) : Prop where
  many : ∀ vs H Q E, sp vs H Q E → vs.length = ps.length
  go : ∀ (A : Around) (out : List Env) (s : Shared) (H : Hp) (ar : Args) (us : List Value) (vs : List V) (Q : VK) (E : XK), A.guards = some [] → Room k A →
    Env0 P w K mg base A out s H → BindsTo s fd ar (ps.zip us) → Vals vs us → sp vs H Q E → codeAny (model P w) A (.call (.ref f) ar) (CR CX0 out P w H s Q E) s
theorem fnG_of {P : Program} {w : World} {K : PySem.W.Frag} {mg : Str → Option Value} {base : Heap} {x qual : Str} {st : Stmt} {f : Addr} {fd : FuncData} {N ps : List Str} {k : Nat} {sp : Sp}
    (F : Fun K x qual st f fd) (S : FnScope N ps (defScope st)) (many : ∀ vs H Q E, sp vs H Q E → vs.length = ps.length)
    (walk : ∀ (cdv : Value) (A : Around) (out : List Env) (s : Shared) (H : Hp) (vs : List V) (Q : VK) (E : XK), A.guards = some [] → Room k (A.deeper (envOfC qual (defScope st) s.heap.objs.size f cdv)) → sp vs H Q E →
      ∃ t, PSs (cxOf CX0 P w K mg base N qual (defScope st) f cdv A out s H E).nox (defBody st) t ∧ t { nx := fun _ H' => Q .non H', rt := Q } (start N vs) H) : FnG P w K mg base (k + 1) f fd ps sp := by
  obtain ⟨oc, od, kV, doc, pm, an, cdv, ct, osl, rfl, lk, cd⟩ := F.ex
  refine ⟨many, fun A out sh Hh ar us vs Q E hg rm en bd rv ask => ?_⟩
  have nv := many _ _ _ _ ask
  have inK : K.In sh.heap := en.mod.kin.keeps (fun b o q => (en.bs b o q).1)
  have noL : sh.heap.NoLimit := en.mod.nolimit.keeps (fun b o q => (en.bs b o q).1)
  have kinds : ∀ y ∈ ps.zip us, (defScope st).names.lookup y.1 = some .local ∨ ((defScope st).names.lookup y.1 = some .cell ∧ ((cellsFrom (sh.heap.objs.size + 1) (defScope st).names []).lookup y.1).isSome = true) := by
    rintro ⟨n, z⟩ hy
    rcases S.par n (List.of_mem_zip hy).1 with c | c
    · exact Or.inl c
    · exact Or.inr ⟨c, PySem.W.cellsFrom_some _ _ _ (Or.inl c)⟩
  refine codeAny_call_function rm.depth (inK _ _ lk) rfl S.co S.gen rfl (PySem.W.codeRec_of inK cd) (bd _ _ _ _ (wpAny_newFunctionEnv_cells S.kind kinds fun env he s1 ic => ?_))
  subst he
  refine ⟨noL.keeps ic.toInCall.keep, codeAny_func ?_⟩
  obtain ⟨t, ht, hq⟩ := walk cdv A out sh Hh vs Q E hg (rm.deeper _) ask
  have J0 := inv_start (CX := CX0) (mg := mg) (E := E) S rm.hd en nv rv ic
  refine wpAny_mono (ht.nox.run [] s1 (start N vs) Hh _ J0 hq) (fun fl s2 hs => ?_) fun _ _ q => q
  match fl, hs with
  | .ret u, ⟨v, sg, H2, J, ru, q⟩ => exact ⟨v, H2, J.os, J.bare, J.base, J.hok, ru, q⟩
  | .next, ⟨sg, H2, J, q⟩ => exact ⟨V.non, H2, J.os, J.bare, J.base, J.hok, rfl, q⟩
  | .brk, ⟨_, _, _, q⟩ => exact q.elim
  | .cont, ⟨_, _, _, q⟩ => exact q.elim

/-- a def of the top by its name -/
def Dn (K : PySem.W.Frag) (mg : Str → Option Value) (x : Str) (st : Stmt) (ps : List Str) : Prop := ∃ f fd, mg x = some (.ref f) ∧ Fun K x x st f fd ∧ Binds K fd ps []
/-- its promise -/
def Ok (P : Program) (w : World) (K : PySem.W.Frag) (mg : Str → Option Value) (base : Heap) (x : Str) (ps : List Str) (k : Nat) (sp : Sp) : Prop :=
  ∃ f fd, mg x = some (.ref f) ∧ PySem.W.keepIn K (.ref f) = true ∧ Binds K fd ps [] ∧ FnOk P w K mg base CX0 k f fd ps sp
def OkG (P : Program) (w : World) (K : PySem.W.Frag) (mg : Str → Option Value) (base : Heap) (x : Str) (ps : List Str) (k : Nat) (sp : Sp) : Prop :=
  ∃ f fd, mg x = some (.ref f) ∧ PySem.W.keepIn K (.ref f) = true ∧ Binds K fd ps [] ∧ FnG P w K mg base k f fd ps sp
section
variable {P : Program} {w : World} {K : PySem.W.Frag} {mg : Str → Option Value} {base : Heap} {x : Str} {st : Stmt} {N ps : List Str} {k : Nat} {sp : Sp}
theorem Dn.ok (D : Dn K mg x st ps) (S : FnScope N ps (defScope st)) (many : ∀ vs H Q E, sp vs H Q E → vs.length = ps.length)
    (walk : ∀ (f : Addr) (cdv : Value) (A : Around) (out : List Env) (s : Shared) (H : Hp) (vs : List V) (Q : VK) (E : XK), Room k (A.deeper (envOfC x (defScope st) s.heap.objs.size f cdv)) → sp vs H Q E →
      ∃ t, PSs (cxOf CX0 P w K mg base N x (defScope st) f cdv A out s H E).nox (defBody st) t ∧ t { nx := fun _ H' => Q .non H', rt := Q } (start N vs) H) : Ok P w K mg base x ps (k + 1) sp := by
  obtain ⟨f, fd, a, F, b⟩ := D
  exact ⟨f, fd, a, F.kp, b, F.ok S many (walk f)⟩
theorem Dn.okG (D : Dn K mg x st ps) (S : FnScope N ps (defScope st)) (many : ∀ vs H Q E, sp vs H Q E → vs.length = ps.length)
    (walk : ∀ (f : Addr) (cdv : Value) (A : Around) (out : List Env) (s : Shared) (H : Hp) (vs : List V) (Q : VK) (E : XK), A.guards = some [] → Room k (A.deeper (envOfC x (defScope st) s.heap.objs.size f cdv)) → sp vs H Q E →
      ∃ t, PSs (cxOf CX0 P w K mg base N x (defScope st) f cdv A out s H E).nox (defBody st) t ∧ t { nx := fun _ H' => Q .non H', rt := Q } (start N vs) H) : OkG P w K mg base x ps (k + 1) sp := by
  obtain ⟨f, fd, a, F, b⟩ := D
  exact ⟨f, fd, a, F.kp, b, fnG_of F S many (walk f)⟩
end
section
variable {X : Cx} {x : Str} {ps : List Str} {k : Nat} {sp : Sp} {p pos : Pos} {e : Expr} {es : List Expr} {t : TA}
theorem pe_ok (h : Ok X.prog X.w X.K X.mg X.base x ps k sp) (hr : Room k X.A) (ha : PA X (e :: es) t) (hg : Gl X x := by rfl) (hdb : (x == ("__debug__" : Str)) = false := by decide)
    (he : starEach (e :: es) X.env = (false, eval e X.env) :: starEach es X.env := by rfl) (hpl : (backTo pos (starEach es X.env)).any (·.1) = false := by rfl) :
    PE X (.Call (.Name x p) (e :: es) [] pos) (tCall sp [] E0 t) := by
  obtain ⟨f, fd, a, b, c, d⟩ := h
  exact pe_call d hr hg a b c .nil pass0 ha hdb he hpl
theorem pe_ok0 (h : Ok X.prog X.w X.K X.mg X.base x ps k sp) (hr : Room k X.A) (hg : Gl X x := by rfl) (hdb : (x == ("__debug__" : Str)) = false := by decide) :
    PE X (.Call (.Name x p) [] [] pos) (tCall sp [] E0 tNil) := by
  obtain ⟨f, fd, a, b, c, d⟩ := h
  exact pe_call0 d hr hg a b c .nil pass0 hdb
theorem run_g {pn : List (Addr × Obj)} {sg : L2.St} {H : Hp} {s : Shared} {Q : VK} {us : List Value} {vs : List V} {f : Addr} {fd : FuncData} (F : FnG X.prog X.w X.K X.mg X.base k f fd ps sp) (hgu : X.A.guards = some []) (hr : Room k X.A) (hb : Binds X.K fd ps [])
    (I : Inv X pn sg H s) (r : Vals vs us) (h : sp (vs ++ []) H Q E0) : wpAny (model X.prog X.w) X.A (call (.ref f) us) (EP X pn sg Q) X.xe s := by
  have r2 : Vals (vs ++ []) (us ++ []) := r.append .nil
  have nl : (us ++ []).length = ps.length := r2.length.symm.trans (F.many _ _ _ _ h)
  refine wpAny_call (codeAny_mono (F.go X.A X.stack s H ⟨us, []⟩ (us ++ []) (vs ++ []) Q E0 hgu hr I.env0 (hb s us I.kIn nl) r2 h) fun r s' hq => ?_)
  match r, hq with
  | .error _, q => exact q.elim
  | .ok (.ret u), q => exact I.after q
  | .ok .next, q => exact q.elim
  | .ok .brk, q => exact q.elim
  | .ok .cont, q => exact q.elim
theorem pe_okG (h : OkG X.prog X.w X.K X.mg X.base x ps k sp) (hgu : X.A.guards = some []) (hr : Room k X.A) (ha : PA X (e :: es) t) (hg : Gl X x := by rfl) (hdb : (x == ("__debug__" : Str)) = false := by decide)
    (he : starEach (e :: es) X.env = (false, eval e X.env) :: starEach es X.env := by rfl) (hpl : (backTo pos (starEach es X.env)).any (·.1) = false := by rfl) :
    PE X (.Call (.Name x p) (e :: es) [] pos) (tCall sp [] E0 t) := by
  obtain ⟨f, fd, a, b, c, d⟩ := h
  refine ⟨fun pn s sg H Q I q => wpAny_Call_Name_kw (ld_glob I hg a ?_ hdb)⟩
  refine PySem.W.callWith_K (h₀ := X.base) I.ok.mod.kin b (thn (ha.run pos pn s sg H _ I q) fun us s1 ⟨vs, H1, I1, r, q1⟩ => ⟨I1.kIn, run_g d hgu hr c I1 r q1⟩) he hpl
end
/-! ### the end: the law's call, the guards known -/
theorem law_callG {P : Program} {w : World} {K : PySem.W.Frag} {mg mb : Str → Option Value} {k : Nat} {fa a : Addr} {x : Str} {sp : Sp} {s1 : Shared} {vs : List Value} {ns : List Int}
    (inK : K.In s1.heap) (hns : s1.heap.Ns mainGlobals mg) (hb : s1.heap.Ns builtinsNs mb) (hbb : ∀ y : Str, y ≠ "__name__" → mb y = bootBuiltins y) (noL : s1.heap.NoLimit) (hgen : s1.gens = #[])
    (ha : s1.heap.get? a = some { cls := .type "list", data := .seq vs.toArray }) (hi : IntsAre vs ns) (hl : ns.length ≤ sizeLine) (hr : Room k callerA)
    (F : ∀ base : Heap, K.In base → base.Ns mainGlobals mg → ∃ fd : FuncData, Binds K fd [x] [] ∧ FnG P w K mg base k fa fd [x] sp)
    (ask : ∀ H : Hp, Only H → SqL K H a (ns.map V.int) → sp [.ref a] H (fun v _ => v = .bl true) fun _ _ _ => False) :
    codeAny (model P w) callerA (.call (.ref fa) ⟨[.ref a], []⟩) (fun r s' => r = .ok (.ret (.bool true)) ∧ OldK s1.heap s'.heap ∧ s'.os = s1.os ∧ AllBare s'.gens) s1 := by
  have rv := vals_ints hi
  -- the script is tracked, unless it is an object of the module
  obtain ⟨H, hH⟩ : ∃ H : Hp, H = fun b => if b = a ∧ K.lookup a = none then some (.frz { cls := .type "list", data := .seq vs.toArray } (.lst (ns.map V.int))) else none := ⟨_, rfl⟩
  have cases_ : ∀ b, H b = none ∨ (b = a ∧ K.lookup a = none ∧ H b = some (.frz { cls := .type "list", data := .seq vs.toArray } (.lst (ns.map V.int)))) := fun b => by
    by_cases c : b = a ∧ K.lookup a = none
    · refine Or.inr ⟨c.1, c.2, ?_⟩
      rw [hH]
      exact if_pos c
    · refine Or.inl ?_
      rw [hH]
      exact if_neg c
  have only : Only H := fun b => (cases_ b).elim Or.inl fun q => Or.inr ⟨_, _, q.2.2⟩
  have hS : SqL K H a (ns.map V.int) := by
    cases q : K.lookup a with
    | none =>
      refine Or.inl (Or.inr ⟨{ cls := .type "list", data := .seq vs.toArray }, ?_⟩)
      rw [hH]
      exact if_pos ⟨rfl, q⟩
    | some o =>
      have e := inK a o q
      rw [ha] at e
      cases e
      exact Or.inr ⟨_, vs.toArray, _, q, rfl, rfl, rfl, by rw [List.size_toArray, hi.length]; exact hl, by simpa using rv⟩
  have hok : HOk P w H s1.heap := fun b o q => by
    rcases cases_ b with c | ⟨c1, _, c3⟩
    · rw [c] at q
      cases q
    · rw [c3] at q
      cases q
      subst c1
      exact ⟨ha, by rw [List.length_map]; exact hl, vs, _, rv, ha⟩
  have low : ∀ {b : Addr} {o : Obj}, s1.heap.get? b = some o → H b = none → (hidT s1.heap H).get? b = some o := fun e n => hidT_get e n
  have notDict : ∀ {b : Addr} {o : Obj} {es : Array DictEntry} {ep : Nat}, s1.heap.get? b = some o → o.data = .dict es ep → H b = none := fun {b o es ep} e d => by
    rcases cases_ b with c | ⟨c1, _, _⟩
    · exact c
    · subst c1
      rw [ha] at e
      cases e
      cases (show Data.seq vs.toArray _ = Data.dict es ep from d)
  have nsLow : ∀ {b : Addr} {m : Str → Option Value}, s1.heap.Ns b m → (hidT s1.heap H).Ns b m := fun ⟨o, es, ep, e, d, r⟩ => ⟨o, es, ep, low e (notDict e d), d, r⟩
  have kLow : K.In (hidT s1.heap H) := fun b o e => low (inK b o e) (by
    rcases cases_ b with c | ⟨c1, c2, _⟩
    · exact c
    · subst c1
      rw [c2] at e
      cases e)
  obtain ⟨mc, c1, c2⟩ := noL
  have en : Env0 P w K mg (hidT s1.heap H) callerA [] s1 H :=
    ⟨rfl, ⟨kLow, nsLow hns, ⟨mb, nsLow hb, hbb⟩, ⟨mc, nsLow c1, c2⟩⟩, fun b o e => of_hidT e, Nat.le_of_eq (hidT_size _ _), trivial, fun b z => (by cases z), hok, .of_eq hgen⟩
  obtain ⟨fd, bd, Fg⟩ := F _ kLow (nsLow hns)
  refine codeAny_mono (Fg.go callerA [] s1 H ⟨[.ref a], []⟩ [.ref a] [.ref a] _ _ rfl hr en (bd s1 [.ref a] inK rfl) (.cons rfl .nil) (ask H only hS)) fun r s2 q => ?_
  match r, q with
  | .error _, q => exact q.elim
  | .ok .next, q => exact q.elim
  | .ok .brk, q => exact q.elim
  | .ok .cont, q => exact q.elim
  | .ok (.ret u), ⟨v, H2, os, bare, un, hok2, ru, q⟩ =>
    have q' : v = .bl true := q
    subst q'
    obtain rfl : u = Value.bool true := ru
    refine ⟨rfl, OldK.of_keep fun b o e => ?_, os, bare⟩
    rcases cases_ b with c | ⟨_, _, c3⟩
    · exact un.keep b o e c (fun z => by cases z) (fun z => by cases z)
    · have z2 := un.frzs b _ _ c3
      obtain ⟨e1, _⟩ := hok b _ c3
      obtain ⟨e2, _⟩ := hok2 b _ z2
      rw [e] at e1
      cases e1
      exact e2
theorem walk_ofG {l : PySem.W.OpenLaw} {n k : Nat} {q : Program} {loose : List Str} {XP : (Str → Option Value) → Heap → Prop} {YP : World → Heap → Prop} {d : DefRec} {x : Str}
    (hn : l.most = some n) (hn2 : n ≤ sizeLine) (hdf : d.params.defaults = []) (hr : Room k callerA)
    (F : ∀ (w : World) (mg : Str → Option Value) (fa : Addr) (h : Heap), YP w h → h.Ns mainGlobals mg → mg d.name = some (.ref fa) →
      ∃ (K : PySem.W.Frag) (sp : Sp), K.In h ∧ (∀ (H : Hp) (a : Addr) (ns : List Int), ns.length ≤ n → Only H → SqL K H a (ns.map V.int) → sp [.ref a] H (fun v _ => v = .bl true) fun _ _ _ => False) ∧
        ∀ base : Heap, K.In base → base.Ns mainGlobals mg → ∃ fd : FuncData, Binds K fd [x] [] ∧ FnG l.prog w K mg base k fa fd [x] sp) :
    PySem.W.WalkO q loose XP YP l.row.toRowW d [] (fun f vs => PySem.call f vs) := by
  refine Att.attach_call hn hdf fun w s0 s1 mg mb fa o pm cd doc a vs ns G Y ho hd hcd hmg hobj hints hlen hgen => ?_
  obtain ⟨K, sp, KX, ask, hF⟩ := F w mg fa _ Y G.T.g hmg
  exact law_callG KX G.T.g G.T.b G.T.builtins G.T.nolimit hgen hobj hints (Nat.le_trans hlen hn2) hr hF fun H hO hS => ask H a ns hlen hO hS
end Jv
/-! t[::-1] of a tuple -/
namespace Jv
open PySem PySem.Spec PyProof.Rows L2
theorem places_back (n : Nat) : Builtin.Slice.slicePlaces ((n : Int) - 1) (-1) (-1) = n := by
  unfold Builtin.Slice.slicePlaces
  rw [if_neg (by decide)]
  by_cases h : (n : Int) - 1 > -1
  · rw [if_pos h]
    have e : ((n : Int) - 1 - -1 - 1) / (- -1) = (n : Int) - 1 := by
      rw [show (- -1 : Int) = 1 by decide, Int.ediv_one]
      omega
    rw [e]
    omega
  · rw [if_neg h]
    omega
theorem range_back (n : Nat) : (List.range n).reverse = (List.range n).map fun i => n - 1 - i := by
  apply List.ext_getElem
  · simp
  · intro i h1 h2
    rw [List.getElem_map, List.getElem_reverse]
    simp
theorem pick_back (xs : Array Value) : ((List.range xs.size).filterMap fun (m : Nat) => xs[((xs.size : Int) - 1 + (m : Int) * -1).toNat]?).toArray = xs.toList.reverse.toArray := by
  have e : (List.range xs.size).filterMap (fun (m : Nat) => xs[((xs.size : Int) - 1 + (m : Int) * -1).toNat]?) = ((List.range xs.size).map fun i => xs.size - 1 - i).filterMap (xs[·]?) := by
    rw [List.filterMap_map]
    have g : (fun (m : Nat) => xs[((xs.size : Int) - 1 + (m : Int) * -1).toNat]?) = ((xs[·]?) ∘ fun i => xs.size - 1 - i) := by
      funext m
      by_cases hm : xs.size = 0
      · show xs[_]? = xs[_]?
        rw [Array.getElem?_eq_none (by omega), Array.getElem?_eq_none (by omega)]
      · show xs[_]? = xs[_]?
        have q : ((xs.size : Int) - 1 + (m : Int) * -1).toNat = xs.size - 1 - m := by omega
        rw [q]
    rw [g]
  rw [e, ← range_back, List.filterMap_reverse, PySem.W.krv_all]
section
variable {prog : Program} {w : World} {A : Around} {E : Value → Shared → Prop} {s : Shared}
theorem applied_back {sl : Addr} {vs : Value} {n : Nat} {Q : Int × Int × Nat → Shared → Prop} (hs : s.heap.IsSliceOf sl .none .none vs) (ps : IsPart vs (some (-1)))
    (h : Q ((n : Int) - 1, -1, n) s) : wpAny (model prog w) A (Builtin.Slice.sliceApplied (.ref sl) (pure (n : Int))) Q E s := by
  obtain ⟨os, o1, o2, o3⟩ := id hs
  unfold Builtin.Slice.sliceApplied Builtin.Slice.sliceFields
  refine wpAny_bind (wpAny_bind (wpAny_field o1 o3 (x := .none) rfl (wpAny_bind (wpAny_field o1 o3 (x := .none) rfl (wpAny_bind (wpAny_field o1 o3 (x := vs) rfl (wpAny_pure ?_)))))))
  refine wpAny_bind (HT.slicePart_ ps ?_)
  show wpAny _ _ (if ((-1 : Int) == 0) = true then _ else _) _ _ s
  rw [if_neg (by decide)]
  refine wpAny_bind (HT.slicePart_ .none (wpAny_bind (HT.slicePart_ .none (wpAny_bind (wpAny_pure ?_)))))
  show wpAny _ _ (pure ((n : Int) - 1, (-1 : Int), Builtin.Slice.slicePlaces ((n : Int) - 1) (-1) (-1))) _ _ s
  rw [places_back]
  exact wpAny_pure h
theorem getItem_back {t sl : Addr} {items : Array Value} {vs : Value} {Q : Value → Shared → Prop} (ht : IsTup s.heap t items) (hs : s.heap.IsSliceOf sl .none .none vs) (ps : IsPart vs (some (-1)))
    (h : Q (.ref s.heap.objs.size) { s with heap := s.heap.push { cls := .type "tuple", data := .seq items.toList.reverse.toArray } }) (small : items.size ≤ sizeLine) :
    wpAny (model prog w) A (getItem (.ref t) (.ref sl)) Q E s := by
  have ok : sizeOk (.seq items.toList.reverse.toArray) := by
    show items.toList.reverse.toArray.size ≤ sizeLine
    rw [List.size_toArray, List.length_reverse, Array.length_toList]
    exact small
  obtain ⟨os, o1, o2, o3⟩ := id hs
  have ty : s.TypeIs (.ref sl) "slice" := ⟨os, o1, o2⟩
  unfold getItem
  try (with_reducible refine wpAny_holding ?_)
  first
    | refine wpAny_bind (wpAny_pure ?_)
    | skip
  refine wpAny_bind (wpAny_sequenceKey ht.typeIs (by decide) (wpAny_bind ?_))
  refine wpAny_callSpecial?_slot (name := Str.ofString "__getitem__") ht.typeIs PyProof.Rows.slot_tuple_getitem ?_
  refine wpAny_call_entry PyProof.Rows.slot_tuple_getitem ht.typeIs entry_tuple_getitem ?_ (args_tuple_getitem _ _)
  show wpAny _ _ (Builtin.Tuple.tupleItemsOf (.ref t) >>= _) _ _ s
  refine wpAny_bind (tupleItemsOf_ ht (wpAny_bind (wpAny_typeOf ty ?_)))
  rw [if_pos (by decide)]
  refine wpAny_bind (applied_back hs ps ?_)
  have no : ¬ ((((items.size : Int) - 1) == 0 && (-1 : Int) == 1 && items.size == items.size) = true) := by
    intro q
    rw [Bool.and_eq_true, Bool.and_eq_true] at q
    exact absurd (eq_of_beq q.1.2) (by decide)
  show wpAny _ _ (if (((items.size : Int) - 1) == 0 && (-1 : Int) == 1 && items.size == items.size) = true then _ else _) _ _ s
  rw [if_neg no, pick_back]
  first
    | exact wpAny_bind (m := Builtin.Tuple.tupleExact _) (wpAny_newObj_type (wpAny_pure ⟨_, rfl, wpAny_pure h⟩) ok)
    | exact wpAny_bind (m := Builtin.Tuple.tupleExact _) (wpAny_newObj_type (wpAny_bind (wpAny_pure (wpAny_pure ⟨_, rfl, wpAny_pure h⟩))) ok)
    | exact wpAny_bind (wpAny_bind (m := Builtin.Tuple.tupleExact _) (wpAny_newObj_type (wpAny_pure (wpAny_pure ⟨_, rfl, wpAny_pure h⟩)) ok))
    | exact wpAny_bind (wpAny_bind (m := Builtin.Tuple.tupleExact _) (wpAny_newObj_type (wpAny_pure ⟨_, rfl, wpAny_pure h⟩) ok))
end
def tRevT (K : PySem.W.Frag) (te : TE) : TE := fun sg H Q => te sg H fun x H1 => ∃ a xs, x = .ref a ∧ SqT K H1 a xs ∧ ∀ p, H1 p = none → Q (.ref p) (upd H1 p (.tup xs.reverse))
section
variable {X : Cx}
theorem pe_revT {e : Expr} {te : TE} {k : Nat} {p1 p2 p3 pos : Pos} (he : PE X e te) : PE X (.Subscript e (.Slice none none (some (.UnaryOp .USub (.Constant (.int 1) k p1) p2)) p3) pos) (tRevT X.K te) := by
  have step : PO X (some (.UnaryOp .USub (.Constant (.int 1) k p1) p2)) (tPart (tUn (rU fun i => .int (-i)) (tC (.int 1)))) := po_some (pe_un un_neg pe_int)
  refine ⟨fun pn s sg H Q I h => Subscript_ (thn (he.run pn s sg H _ I h) fun v s1 ⟨x, H1, I1, r1, a, xs, ex, hx, q⟩ => ?_)⟩
  subst ex
  cases r1
  refine wpAny_Slice (thn (po_none.run pn s1 sg H1 (fun o H2 => o = none ∧ H2 = H1) I1 ⟨rfl, rfl⟩) fun vl s2 ⟨o1, H2, I2, pl, e1, e2⟩ => ?_)
  subst e1 e2
  refine thn (po_none.run pn s2 sg H2 (fun o G => o = none ∧ G = H2) I2 ⟨rfl, rfl⟩) fun vu s3 ⟨o2, H3, I3, pu, e3, e4⟩ => ?_
  subst e3 e4
  refine thn (step.run pn s3 sg H3 (fun o G => o = some (-1) ∧ G = H3) I3 ⟨1, rfl, -1, rfl, rfl, rfl⟩) fun vs s4 ⟨o3, H4, I4, ps, e5, e6⟩ => ?_
  subst e5 e6
  cases pl
  cases pu
  have I5 : Inv X pn sg H4 { s4 with heap := s4.heap.push { cls := .type "slice", data := .fields #[.none, .none, vs] } } := I4.kept (t' := s4.toks) fun b ob z => Heap.get?_push_of_some _ z
  obtain ⟨its, r, ht, hz⟩ := I5.tuple hx
  have nl := r.length
  refine tail_any (ops := [.ref a, .ref s4.heap.objs.size]) ht.typeIs (PyProof.Rows.slot_tuple_getitem.lookup) ?_ (by with_unfolding_all rfl)
  refine getItem_back ht (Heap.IsSliceOf.new _ .none .none vs) ps ?_ (by rw [List.size_toArray]; omega)
  have e0 : (its.toArray.toList.reverse.toArray) = its.reverse.toArray := rfl
  rw [e0]
  refine ⟨.ref _, _, I5.laid (t' := s4.toks) (o := .tup xs.reverse) (fun b ob z => Heap.get?_push_of_some _ z) (Nat.le_refl _) ?_, rfl, q _ (I5.hok.fresh (Nat.le_refl _))⟩
  exact ⟨by rw [List.length_reverse]; exact hz, _, r.reverse, _, Heap.get?_push_size _ rfl, rfl, _, rfl⟩
end
end Jv
/-! comprehensions by their walk; x == []; constants of the module -/
namespace Jv
open PySem PySem.Spec PyProof.Rows L2

/-! ### constants of the module -/
def Gc (mg : Str → Option Value) (x : Str) (v : V) : Prop := ∃ u, mg x = some u ∧ RelV v u
theorem pe_gc {X : Cx} {x : Str} {v : V} {pos : Pos} (h : Gc X.mg x v) (hg : Gl X x := by rfl) (hd : (x == ("__debug__" : Str)) = false := by decide) : PE X (.Name x pos) (tC v) := by
  obtain ⟨u, a, b⟩ := h
  exact pe_glob hg a b hd

/-! ### x == [], whatever x holds -/
def rEqE (K : PySem.W.Frag) : R2 := fun x y H Q => ∃ a b xs, x = .ref a ∧ y = .ref b ∧ SqL K H a xs ∧ SqL K H b [] ∧ Q (.bl xs.isEmpty) H
theorem op_eqE {X : Cx} (hu : X.A.units < cLine) : OpR X (compareOp .Eq) (rEqE X.K) := by
  intro pn sh sg Hh vx vy ux uy Qq Iv r1 r2 hyp
  obtain ⟨a, b, xs, rfl, rfl, ha, hb, q⟩ := hyp
  cases (show ux = Value.ref a from r1)
  cases (show uy = Value.ref b from r2)
  obtain ⟨its, ra, la, _⟩ := Iv.list ha
  obtain ⟨jts, rb, lb, _⟩ := Iv.list hb
  cases rb
  cases ra with
  | nil =>
    refine SeqAt.eq_listAt (e := fun _ => true) la.isList lb.isList rfl hu (fun i hi => ?_) ?_
    · exact absurd hi (Nat.not_lt_zero _)
    · exact ⟨.bl true, Hh, Iv, rfl, q⟩
  | cons r t => exact SeqAt.eq_list_lengthsAt la.isList lb.isList rfl hu ⟨.bl false, Hh, Iv, rfl, q⟩

/-! ### comprehensions -/
section
variable {J : It} {n : Nat} {Gd : Hp → Prop} {Y : Nat → Hp → V → Hp → Prop}
/-- without a test; the target one name -/
theorem lc_map (wk : Walk J n Gd Y) {j : Nat} {te : TE} {vs : List Nat} {sg : L2.St} {H1 : Hp} {D : Addr} {Qd : Hp → Prop} (G : Nat → List V → Hp → Prop)
    (h0 : G 0 [] (upd H1 D (.lst []))) (hG : ∀ i acc H, i ≤ n → G i acc H → H D = some (.lst acc) → Gd H) (hw : ∀ x, wipe ((wipe sg vs).set j (some x)) vs = wipe sg vs) (len : ∀ i acc H, i < n → G i acc H → acc.length < sizeLine)
    (turn : ∀ i x acc H H', i < n → G i acc H → H D = some (.lst acc) → Y i H x H' → ∀ k : V → Hp → Prop, (∀ y H4, H4 D = some (.lst acc) → G (i + 1) (acc ++ [y]) (upd H4 D (.lst (acc ++ [y]))) → k y H4) → te ((wipe sg vs).set j (some x)) H' k)
    (fin : ∀ acc H, G n acc H → H D = some (.lst acc) → Qd H) :
    ∃ W : Nat → Nat → Hp → Prop, (∃ m, W 0 m (upd H1 D (.lst []))) ∧ ∀ i m H, W i m H → (J.stop i H ∧ Qd H) ∨ (J.go i H ∧ ∃ Nx : Hp → Prop, (∀ H', Nx H' → ∃ m', m' < m ∧ W (i + 1) m' H') ∧
      ∀ x H', J.yld i H x H' → gName j x (wipe sg vs) H' fun s2 H2 => wipe s2 vs = wipe sg vs ∧ tYes s2 H2 fun b H3 => if b = true then te s2 H3 fun y H4 => ∃ acc, H4 D = some (.lst acc) ∧ acc.length < sizeLine ∧ Nx (upd H4 D (.lst (acc ++ [y]))) else Nx H3) := by
  refine lc_it wk (fun i H => ∃ acc, G i acc H ∧ H D = some (.lst acc)) ⟨[], h0, upd_same⟩ (fun i H hi ⟨acc, g, d⟩ => hG i acc H hi g d) (fun i x H H' hi ⟨acc, g, d⟩ y => ?_) (fun H ⟨acc, g, d⟩ => fin acc H g d)
  refine ⟨hw x, ?_⟩
  unfold tYes
  refine iteT ?_
  exact turn i x acc H H' hi g d y _ fun z H4 e g4 => ⟨acc, e, len i acc H hi g, acc ++ [z], g4, upd_same⟩
/-- the same where nothing that stands changes and the items made are known ahead -/
theorem lc_pure {ys : List V} (wk : Walk J ys.length Gd Y) {j : Nat} {te : TE} {vs : List Nat} {sg : L2.St} {H1 : Hp} {D : Addr} {Qd : Hp → Prop} (nD : H1 D = none) (hz : ys.length ≤ 100000)
    (hGd : ∀ H, Same H1 H → Gd H) (hw : ∀ x, wipe ((wipe sg vs).set j (some x)) vs = wipe sg vs)
    (turn : ∀ i x y H H', ys[i]? = some y → Same H1 H → Y i H x H' → ∀ k : V → Hp → Prop, (∀ H4, Same H H4 → k y H4) → te ((wipe sg vs).set j (some x)) H' k)
    (fin : ∀ H, Same H1 H → H D = some (.lst ys) → Qd H) :
    ∃ W : Nat → Nat → Hp → Prop, (∃ m, W 0 m (upd H1 D (.lst []))) ∧ ∀ i m H, W i m H → (J.stop i H ∧ Qd H) ∨ (J.go i H ∧ ∃ Nx : Hp → Prop, (∀ H', Nx H' → ∃ m', m' < m ∧ W (i + 1) m' H') ∧
      ∀ x H', J.yld i H x H' → gName j x (wipe sg vs) H' fun s2 H2 => wipe s2 vs = wipe sg vs ∧ tYes s2 H2 fun b H3 => if b = true then te s2 H3 fun y H4 => ∃ acc, H4 D = some (.lst acc) ∧ acc.length < sizeLine ∧ Nx (upd H4 D (.lst (acc ++ [y]))) else Nx H3) := by
  have sD : ∀ {H : Hp} {o : HO}, Same H1 H → Same H1 (upd H D o) := fun {H o} s b u e => by
    rw [upd_ne (ne_of_none e nD)]
    exact s b u e
  refine lc_map wk (fun i acc H => Same H1 H ∧ acc = ys.take i) ⟨sD (Same.refl _), rfl⟩ (fun i acc H _ g _ => hGd H g.1) hw (fun i acc H hi g => ?_) (fun i x acc H H' hi g d y k hk => ?_) (fun acc H g d => ?_)
  · rw [g.2, List.length_take]
    exact Nat.lt_of_lt_of_le (Nat.lt_of_le_of_lt (Nat.min_le_right _ _) (Nat.lt_succ_of_le hz)) (by decide)
  · have e : ys[i]? = some ys[i] := List.getElem?_eq_getElem hi
    refine turn i x ys[i] H H' e g.1 y k fun H4 s4 => hk _ _ (s4 _ _ d) ⟨sD (g.1.trans s4), ?_⟩
    rw [g.2, List.take_add_one, e]
    rfl
  · rw [g.2, List.take_length] at d
    exact fin H g.1 d
/-- a filter of what is walked, by a test that changes nothing -/
theorem lc_filt {xs : List V} {p : V → Bool} (wk : Walk J xs.length Gd Y) {j : Nat} {tt : TT} {te : TE} {vs : List Nat} {sg : L2.St} {H1 : Hp} {D : Addr} {Qd : Hp → Prop} (nD : H1 D = none) (hz : xs.length ≤ 100000)
    (hGd : ∀ H, Same H1 H → Gd H) (hw : ∀ x, wipe ((wipe sg vs).set j (some x)) vs = wipe sg vs) (hY : ∀ (i : Nat) (H : Hp) (x : V) (H' : Hp), Y i H x H' → H' = H ∧ xs[i]? = some x)
    (test : ∀ (i : Nat) (x : V) (H : Hp), xs[i]? = some x → Same H1 H → ∀ k : Bool → Hp → Prop, (∀ H4, Same H H4 → k (p x) H4) → tt ((wipe sg vs).set j (some x)) H k)
    (elt : ∀ (i : Nat) (x : V) (H : Hp), xs[i]? = some x → Same H1 H → ∀ k : V → Hp → Prop, (∀ H4, Same H H4 → k x H4) → te ((wipe sg vs).set j (some x)) H k)
    (fin : ∀ H, Same H1 H → H D = some (.lst (xs.filter p)) → Qd H) :
    ∃ W : Nat → Nat → Hp → Prop, (∃ m, W 0 m (upd H1 D (.lst []))) ∧ ∀ i m H, W i m H → (J.stop i H ∧ Qd H) ∨ (J.go i H ∧ ∃ Nx : Hp → Prop, (∀ H', Nx H' → ∃ m', m' < m ∧ W (i + 1) m' H') ∧
      ∀ x H', J.yld i H x H' → gName j x (wipe sg vs) H' fun s2 H2 => wipe s2 vs = wipe sg vs ∧ tt s2 H2 fun b H3 => if b = true then te s2 H3 fun y H4 => ∃ acc, H4 D = some (.lst acc) ∧ acc.length < sizeLine ∧ Nx (upd H4 D (.lst (acc ++ [y]))) else Nx H3) := by
  have sD : ∀ {H : Hp} {o : HO}, Same H1 H → Same H1 (upd H D o) := fun {H o} s b u e => by
    rw [upd_ne (ne_of_none e nD)]
    exact s b u e
  refine lc_it wk (fun i H => Same H1 H ∧ H D = some (.lst ((xs.take i).filter p))) ⟨sD (Same.refl _), upd_same⟩ (fun i H _ g => hGd H g.1) (fun i x H H' hi g y => ?_) (fun H g => ?_)
  · obtain ⟨e1, e2⟩ := hY i H x H' y
    subst e1
    refine ⟨hw x, test i x H' e2 g.1 _ fun H4 s4 => ?_⟩
    have step : (xs.take (i + 1)).filter p = (xs.take i).filter p ++ (if p x = true then [x] else []) := by
      rw [List.take_add_one, e2, List.filter_append]
      congr 1
      show List.filter p [x] = _
      rw [List.filter_cons]
      rfl
    by_cases hp : p x = true
    · rw [if_pos hp] at step ⊢
      refine elt i x H4 e2 (g.1.trans s4) _ fun H5 s5 => ⟨_, s5 _ _ (s4 _ _ g.2), ?_, sD ((g.1.trans s4).trans s5), ?_⟩
      · exact Nat.lt_of_le_of_lt (List.length_filter_le _ _) (Nat.lt_of_le_of_lt (by rw [List.length_take]; omega) (by decide : 100000 < sizeLine))
      · rw [step]
        exact upd_same
    · rw [if_neg hp] at step ⊢
      refine ⟨g.1.trans s4, ?_⟩
      rw [step, List.append_nil]
      exact s4 _ _ g.2
  · have d := g.2
    rw [List.take_length] at d
    exact fin H g.1 d
end
end Jv
/-! dicts with keys (name, domain, folder, alone) -/
namespace Jv
open PySem PySem.Spec PyProof.Rows L2

/-! ### keys -/
structure Ky where
  name : Str
  dom : List Str
  fold : List Str
  alone : Bool
  deriving DecidableEq
def Ky.py (k : Ky) : PyData := .tuple [.str k.name, .tuple (k.dom.map .str), .tuple (k.fold.map .str), .bool k.alone]
def Ky.nk (k : Ky) : NestedKey := .tup [.text k.name, .tup (k.dom.map .text), .tup (k.fold.map .text), .num (if k.alone = true then 1 else 0)]
theorem map_text_inj : ∀ {a b : List Str}, a.map NestedKey.text = b.map NestedKey.text → a = b
  | [], [], _ => rfl
  | [], _ :: _, e => by simp at e
  | _ :: _, [], e => by simp at e
  | x :: xs, y :: ys, e => by
    rw [List.map_cons, List.map_cons] at e
    injection e with e1 e2
    injection e1 with e1
    rw [e1, map_text_inj e2]
theorem Ky.nk_inj {a b : Ky} (e : a.nk = b.nk) : a = b := by
  obtain ⟨n, d, f, l⟩ := a
  obtain ⟨n', d', f', l'⟩ := b
  unfold Ky.nk at e
  injection e with e
  injection e with e1 e
  injection e with e2 e
  injection e with e3 e
  injection e with e4 _
  injection e1 with e1
  injection e2 with e2
  injection e3 with e3
  injection e4 with e4
  have h2 : d = d' := map_text_inj e2
  have h3 : f = f' := map_text_inj e3
  have h1 : n = n' := e1
  have e5 : (if l = true then (1 : Int) else 0) = if l' = true then 1 else 0 := e4
  have h4 : l = l' := by
    clear e4
    revert e5
    cases l <;> cases l' <;> decide
  rw [h1, h2, h3, h4]
theorem depth_texts : ∀ l : List Str, NestedKey.depthAll (l.map NestedKey.text) = 0
  | [] => rfl
  | x :: l => by
    show max 0 (NestedKey.depthAll (l.map NestedKey.text)) = 0
    rw [depth_texts l]
    rfl
theorem Ky.depth (k : Ky) : k.nk.depth = 2 := by
  show max 0 (max (NestedKey.depthAll (k.dom.map .text) + 1) (max (NestedKey.depthAll (k.fold.map .text) + 1) (max 0 0))) + 1 = 2
  rw [depth_texts, depth_texts]
  rfl
/-- a kind of key taken back along an injection -/
def pull {prog : Program} {w : World} {A B : Type} [DecidableEq A] [DecidableEq B] (knd : HeapKind prog w A) (f : B → A) (inj : ∀ a b, f a = f b → a = b) : HeapKind prog w B where
  is := fun h k a => knd.is h (f k) a
  hash := fun k => knd.hash (f k)
  draws := fun k => knd.draws (f k)
  room := knd.room
  inj := fun x y => inj _ _ (knd.inj x y)
  keeps := fun x ho hd hs => knd.keeps x ho hd hs
  pyHash := fun hu hk h => knd.pyHash hu hk h
  eqBool := fun {A E s x y a b Q} hu hx hy h => knd.eqBool hu hx hy (by
    have e : decide (f x = f y) = decide (x = y) := by
      by_cases z : x = y
      · rw [decide_eq_true z, decide_eq_true (by rw [z])]
      · rw [decide_eq_false z, decide_eq_false fun q => z (inj _ _ q)]
    rw [e]
    exact h)
  quiet := fun hk h => knd.quiet hk h
abbrev kyKind (prog : Program) (w : World) : HeapKind prog w Ky := pull (nestedKind prog w) Ky.nk fun _ _ e => Ky.nk_inj e

/-! ### keys that stand in the heap -/
structure KyAt (K : PySem.W.Frag) (H : Hp) (a : Addr) (k : Ky) : Prop where
  ex : ∃ b c : Addr, SqT K H a [.str k.name, .ref b, .ref c, .bl k.alone] ∧ SqT K H b (k.dom.map V.str) ∧ SqT K H c (k.fold.map V.str)
theorem sqT_same {K : PySem.W.Frag} {H H' : Hp} {a : Addr} {xs : List V} (e : Same H H') (h : SqT K H a xs) : SqT K H' a xs := by
  rcases h with (h | ⟨o, h⟩) | h
  · exact Or.inl (Or.inl (e _ _ h))
  · exact Or.inl (Or.inr ⟨o, e _ _ h⟩)
  · exact Or.inr h
/-- what is read of tuples is kept while all tuples stand -/
def TupS (H H' : Hp) : Prop := ∀ b o, H b = some o → (∃ xs, o = .tup xs) ∨ (∃ u v, o = .frz u v) → H' b = some o
theorem Same.tupS {H H' : Hp} (s : Same H H') : TupS H H' := fun b o e _ => s b o e
theorem TupS.trans {H H1 H2 : Hp} (a : TupS H H1) (b : TupS H1 H2) : TupS H H2 := fun c o e h => b c o (a c o e h) h
theorem TupS.sq {K : PySem.W.Frag} {H H' : Hp} {a : Addr} {xs : List V} (e : TupS H H') (h : SqT K H a xs) : SqT K H' a xs := by
  rcases h with (h | ⟨o, h⟩) | h
  · exact Or.inl (Or.inl (e _ _ h (Or.inl ⟨_, rfl⟩)))
  · exact Or.inl (Or.inr ⟨o, e _ _ h (Or.inr ⟨_, _, rfl⟩)⟩)
  · exact Or.inr h
theorem KyAt.tupS {K : PySem.W.Frag} {H H' : Hp} {a : Addr} {k : Ky} (s : TupS H H') (h : KyAt K H a k) : KyAt K H' a k := by
  obtain ⟨b, c, h1, h2, h3⟩ := h.ex
  exact ⟨b, c, s.sq h1, s.sq h2, s.sq h3⟩
theorem KyAt.same {K : PySem.W.Frag} {H H' : Hp} {a : Addr} {k : Ky} (s : Same H H') (h : KyAt K H a k) : KyAt K H' a k := h.tupS (Same.tupS s)
theorem nested_strs {h : Heap} : ∀ {xs : List Str} {us : List Value}, Vals (xs.map V.str) us → NestedAll h (xs.map .text) us
  | [], _, r => by
    cases r
    exact .nil
  | x :: xs, _, r => by
    rw [List.map_cons] at r
    cases r with
    | cons h1 h2 =>
      obtain ⟨t, rfl⟩ := (show ∃ t, _ = Value.str x t from h1)
      exact .cons (.text x t) (nested_strs h2)
theorem KyAt.is {X : Cx} {pn : List (Addr × Obj)} {sg : L2.St} {H : Hp} {s : Shared} {a : Addr} {k : Ky} (I : Inv X pn sg H s) (h : KyAt X.K H a k) : (kyKind X.prog X.w).is s.heap k a := by
  obtain ⟨b, c, h1, h2, h3⟩ := h.ex
  obtain ⟨i1, r1, ⟨o1, g1, c1, n1, d1⟩, _⟩ := I.tuple h1
  obtain ⟨i2, r2, ⟨o2, g2, c2, n2, d2⟩, _⟩ := I.tuple h2
  obtain ⟨i3, r3, ⟨o3, g3, c3, n3, d3⟩, _⟩ := I.tuple h3
  refine ⟨.tup g1 c1 d1 ?_, by rw [Ky.depth]; decide⟩
  cases r1 with
  | cons q1 r1 =>
    cases r1 with
    | cons q2 r1 =>
      cases r1 with
      | cons q3 r1 =>
        cases r1 with
        | cons q4 r1 =>
          cases r1
          obtain ⟨t, rfl⟩ := (show ∃ t, _ = Value.str k.name t from q1)
          cases (show _ = Value.ref b from q2)
          cases (show _ = Value.ref c from q3)
          cases (show _ = Value.bool k.alone from q4)
          exact .cons (.text _ _) (.cons (.tup g2 c2 d2 (by simpa using nested_strs r2)) (.cons (.tup g3 c3 d3 (by simpa using nested_strs r3)) (.cons (.bool rfl) .nil)))
theorem reads_strs {h : Heap} : ∀ {xs : List Str} {us : List Value}, Vals (xs.map V.str) us → ReadsAll h us (xs.map .str) []
  | [], _, r => by
    cases r
    exact .nil
  | x :: xs, _, r => by
    rw [List.map_cons] at r
    cases r with
    | cons h1 h2 =>
      obtain ⟨t, rfl⟩ := (show ∃ t, _ = Value.str x t from h1)
      exact .cons (as := []) (bs := []) (.str x t) (reads_strs h2)
theorem KyAt.reads {X : Cx} {pn : List (Addr × Obj)} {sg : L2.St} {H : Hp} {s : Shared} {a : Addr} {k : Ky} (I : Inv X pn sg H s) (h : KyAt X.K H a k) : Reads s.heap (.ref a) k.py [] := by
  obtain ⟨b, c, h1, h2, h3⟩ := h.ex
  obtain ⟨i1, r1, ⟨o1, g1, c1, n1, d1⟩, _⟩ := I.tuple h1
  obtain ⟨i2, r2, ⟨o2, g2, c2, n2, d2⟩, _⟩ := I.tuple h2
  obtain ⟨i3, r3, ⟨o3, g3, c3, n3, d3⟩, _⟩ := I.tuple h3
  refine .tuple g1 c1 d1 ?_
  cases r1 with
  | cons q1 r1 =>
    cases r1 with
    | cons q2 r1 =>
      cases r1 with
      | cons q3 r1 =>
        cases r1 with
        | cons q4 r1 =>
          cases r1
          obtain ⟨t, rfl⟩ := (show ∃ t, _ = Value.str k.name t from q1)
          cases (show _ = Value.ref b from q2)
          cases (show _ = Value.ref c from q3)
          cases (show _ = Value.bool k.alone from q4)
          exact .cons (as := []) (bs := []) (.str _ _) (.cons (as := []) (bs := []) (.tuple g2 c2 d2 (by simpa using reads_strs r2)) (.cons (as := []) (bs := []) (.tuple g3 c3 d3 (by simpa using reads_strs r3)) (.cons (as := []) (bs := []) (.bool _) .nil)))

/-! ### the dict -/
def NdO (P : Program) (w : World) (a : Addr) (xs : List (Ky × Addr × Value)) : HO := .ext fun h => xs.length ≤ sizeLine ∧ (a == sysModules) = false ∧
  ∃ o es ep, h.get? a = some o ∧ o.ExactDict ∧ o.data = .dict es ep ∧ es.toList = xs.map (entryOfKey (kyKind P w)) ∧ (xs.map (·.1)).Nodup
theorem ndO_ok {P : Program} {w : World} {H : Hp} {h : Heap} {a : Addr} {xs : List (Ky × Addr × Value)} (hz : xs.length ≤ sizeLine) (hd : (a == sysModules) = false) (hm : h.DictOfH (kyKind P w) a xs) : ObjOk P w H h a (NdO P w a xs) := by
  obtain ⟨o, es, ep, h1, h2, h3, h4, _, h5⟩ := hm
  refine ⟨⟨hz, hd, o, es, ep, h1, h2, h3, h4, h5⟩, ⟨o, h1⟩, fun g1 g2 q k => ?_⟩
  obtain ⟨z1, z2, o', es', ep', q1, q2⟩ := q
  exact ⟨z1, z2, o', es', ep', k _ q1, q2⟩
/-- at d: a dict of these keys, in their order, and values -/
structure Nd (K : PySem.W.Frag) (P : Program) (w : World) (H : Hp) (d : Addr) (kvs : List (Ky × V)) : Prop where
  ex : ∃ xs : List (Ky × Addr × Value), H d = some (NdO P w d xs) ∧ Paired (fun p q => p.1 = q.1 ∧ KyAt K H q.2.1 p.1 ∧ RelV p.2 q.2.2) kvs xs
theorem Nd.move {K : PySem.W.Frag} {P : Program} {w : World} {H H' : Hp} {d : Addr} {kvs : List (Ky × V)} (s : TupS H H') (e : H' d = H d) (h : Nd K P w H d kvs) : Nd K P w H' d kvs := by
  obtain ⟨xs, h1, h2⟩ := h.ex
  exact ⟨xs, e.trans h1, Paired.mapP h2 fun p q z => ⟨z.1, z.2.1.tupS s, z.2.2⟩⟩
theorem Nd.same {K : PySem.W.Frag} {P : Program} {w : World} {H H' : Hp} {d : Addr} {kvs : List (Ky × V)} (s : Same H H') (h : Nd K P w H d kvs) : Nd K P w H' d kvs := by
  obtain ⟨xs, h1, h2⟩ := h.ex
  exact ⟨xs, s _ _ h1, Paired.mapP h2 fun p q z => ⟨z.1, z.2.1.same s, z.2.2⟩⟩
theorem Nd.there {K : PySem.W.Frag} {P : Program} {w : World} {H : Hp} {d : Addr} {kvs : List (Ky × V)} (h : Nd K P w H d kvs) : ∃ o, H d = some o ∧ ∀ xs, o ≠ .tup xs := by
  obtain ⟨xs, h1, h2⟩ := h.ex
  exact ⟨_, h1, fun ys z => by cases z⟩
theorem Nd.of {X : Cx} {pn : List (Addr × Obj)} {sg : L2.St} {H : Hp} {s : Shared} {d : Addr} {xs : List (Ky × Addr × Value)} {kvs : List (Ky × V)} (I : Inv X pn sg H s) (h1 : H d = some (NdO X.prog X.w d xs))
    (h2 : Paired (fun p q => p.1 = q.1 ∧ KyAt X.K H q.2.1 p.1 ∧ RelV p.2 q.2.2) kvs xs) : xs.length ≤ sizeLine ∧ (d == sysModules) = false ∧ s.heap.DictOfH (kyKind X.prog X.w) d xs := by
  obtain ⟨⟨hz, hd, o, es, ep, g1, g2, g3, g4, g5⟩, _, _⟩ := (show ObjOk X.prog X.w H s.heap d (NdO X.prog X.w d xs) from I.hok d _ h1)
  refine ⟨hz, hd, o, es, ep, g1, g2, g3, g4, ?_, g5⟩
  have all : ∀ {l : List (Ky × V)} {m : List (Ky × Addr × Value)}, Paired (fun p q => p.1 = q.1 ∧ KyAt X.K H q.2.1 p.1 ∧ RelV p.2 q.2.2) l m → ∀ x ∈ m, (kyKind X.prog X.w).is s.heap x.1 x.2.1 := by
    intro l m q
    induction q with
    | nil => intro x hx; cases hx
    | @cons p q ps qs hq t ih =>
      intro x hx
      rcases List.mem_cons.mp hx with e | hx
      · subst e
        exact KyAt.is I (by rw [← hq.1]; exact hq.2.1)
      · exact ih x hx
  exact all h2
/-! ### {} -/
def tDNewN (P : Program) (w : World) : TE := fun _ H Q => ∀ p, H p = none → Q (.ref p) (upd H p (NdO P w p []))
theorem pe_dnewN {X : Cx} {pos : Pos} : PE X (.Dict [] [] pos) (tDNewN X.prog X.w) := ⟨fun pn s sg H Q I h => by
  have big : (s.heap.objs.size == sysModules) = false := beq_eq_false_iff_ne.mpr (Ne.symm (Nat.ne_of_lt I.big))
  refine wpAny_Dict_empty ⟨.ref s.heap.objs.size, _, I.laid (a := s.heap.objs.size) (o := NdO X.prog X.w s.heap.objs.size []) (t' := s.toks) (fun _ _ q => Heap.get?_push_of_some _ q) (Nat.le_refl _) ?_, rfl, h _ (I.hok.fresh (Nat.le_refl _))⟩
  exact ndO_ok (Nat.zero_le _) big (Heap.DictOfH.new s.heap)⟩
theorem nd_new {K : PySem.W.Frag} {P : Program} {w : World} {H : Hp} {p : Addr} : Nd K P w (upd H p (NdO P w p [])) p [] := ⟨[], upd_same, .nil⟩
/-! ### d[k] = v -/
theorem nd_put {K : PySem.W.Frag} {H : Hp} {kvs : List (Ky × V)} {xs : List (Ky × Addr × Value)} (r : Paired (fun p q => p.1 = q.1 ∧ KyAt K H q.2.1 p.1 ∧ RelV p.2 q.2.2) kvs xs) (k : Ky) {b : Addr} {y : V} {u : Value} (hb : KyAt K H b k) (ry : RelV y u) :
    Paired (fun p q => p.1 = q.1 ∧ KyAt K H q.2.1 p.1 ∧ RelV p.2 q.2.2) (putK kvs k y) (storedH xs k b u) := by
  have e : (kvs.any fun kv => decide (kv.1 = k)) = (atKey xs k).isSome := by
    clear ry hb
    induction r with
    | nil => rfl
    | @cons p q ps qs h t ih =>
      rw [List.any_cons, ih]
      by_cases z : p.1 = k
      · have z' : q.1 = k := h.1.symm.trans z
        simp [atKey, List.find?_cons, z, z']
      · have z' : ¬ q.1 = k := fun x => z (h.1.trans x)
        simp [atKey, List.find?_cons, z, z']
  unfold putK storedH
  rw [e]
  by_cases q : (atKey xs k).isSome = true
  · rw [if_pos q, if_pos q]
    clear e q
    induction r with
    | nil => exact .nil
    | @cons p q ps qs h t ih =>
      rw [List.map_cons, List.map_cons]
      refine .cons ?_ ih
      obtain ⟨h1, h2, h3⟩ := h
      unfold putAt
      by_cases z : p.1 = k
      · rw [if_pos z, if_pos (h1.symm.trans z)]
        exact ⟨h1, h2, ry⟩
      · rw [if_neg z, if_neg (fun x => z (h1.trans x))]
        exact ⟨h1, h2, h3⟩
  · rw [if_neg q, if_neg q]
    exact Paired.snoc r ⟨rfl, hb, ry⟩
def rNput (K : PySem.W.Frag) (P : Program) (w : World) : TSet := fun o i v H Q => ∃ d a kvs k, o = .ref d ∧ i = .ref a ∧ Nd K P w H d kvs ∧ KyAt K H a k ∧ kvs.length < sizeLine ∧
  ∀ H', (∀ b, b ≠ d → H' b = H b) → Nd K P w H' d (putK kvs k v) → Q H'
theorem set_nd {X : Cx} (hu : X.A.units + 9 < cLine) : PSet X (rNput X.K X.prog X.w) := by
  intro pn s sg H vo vi vv uo ui uv Qq I r1 r2 r3 hyp
  obtain ⟨d, a, kvs, k, rfl, rfl, hN, hk, hl, q⟩ := hyp
  cases (show uo = Value.ref d from r1)
  cases (show ui = Value.ref a from r2)
  obtain ⟨xs, h1, h2⟩ := hN.ex
  obtain ⟨hz, hd, hm⟩ := Nd.of I h1 h2
  have nl := Paired.length h2
  have h3 := nd_put h2 k hk r3
  refine wpAny_setItem_heap (knd := kyKind X.prog X.w) (hsz := hz) (show X.A.in1.units + 8 < cLine by show X.A.units + 1 + 8 < cLine; omega) (hk.is I) hm fun h' dd hs => ?_
  have e9 : ∃ z, h'.get? d = some z := let ⟨z, _, _, hq, _⟩ := dd; ⟨z, hq⟩
  have ndup : (storedH xs k a uv).length ≤ sizeLine := by
    rw [← Paired.length h3]
    have := length_putK kvs k vv
    omega
  have mu : Mut (H d) := by
    rw [h1]
    exact True.intro
  refine ⟨upd H d (NdO X.prog X.w d (storedH xs k a uv)), d_write I mu hs e9 (ndO_ok ndup hd dd), q _ (fun b hb => upd_ne hb) ⟨_, upd_same, Paired.mapP h3 fun p x z => ⟨z.1, z.2.1.tupS fun b o e t => ?_, z.2.2⟩⟩⟩
  have nb : b ≠ d := by
    rintro rfl
    rw [h1] at e
    cases e
    rcases t with ⟨ys, t⟩ | ⟨y1, y2, t⟩ <;> cases t
  rw [upd_ne nb]
  exact e
end Jv
/-! sorted of keys: of a dict's, of a list's -/
namespace Jv
open PySem PySem.Spec PyProof.Rows L2
theorem alike_texts : ∀ xs ys : List Str, PySem.W.alikeAll (xs.map .str) (ys.map .str) = true
  | [], _ => by simp [PySem.W.alikeAll]
  | _ :: _, [] => by simp [PySem.W.alikeAll]
  | x :: xs, y :: ys => by
    show PySem.W.alikeAll (.str x :: xs.map .str) (.str y :: ys.map .str) = true
    rw [PySem.W.alikeAll, alike_texts xs ys]
    simp [PySem.W.alike]
theorem Ky.alike (a b : Ky) : PySem.W.alike a.py b.py = true := by
  unfold Ky.py
  simp [PySem.W.alike, PySem.W.alikeAll, alike_texts]
theorem pdepth_texts : ∀ xs : List Str, PyData.depthAll (xs.map .str) = 0
  | [] => by simp [PyData.depthAll]
  | x :: xs => by
    show PyData.depthAll (.str x :: xs.map .str) = 0
    rw [PyData.depthAll, pdepth_texts xs]
    simp [PyData.depth]
theorem Ky.pdepth (k : Ky) : k.py.depth = 2 := by
  unfold Ky.py
  simp [PyData.depth, PyData.depthAll, pdepth_texts]
/-- the order of keys as data, and the one sorted list by it -/
abbrev kyLe (a b : Ky) : Bool := PySem.W.dataLe false Ky.py a b
def kySort (ks : List Ky) : List Ky := ks.mergeSort (PySem.W.dataLe false Ky.py)
abbrev KyAll (K : PySem.W.Frag) (H : Hp) : List Addr → List Ky → Prop := Paired fun a k => KyAt K H a k
theorem KyAll.same {K : PySem.W.Frag} {H H' : Hp} {as : List Addr} {ks : List Ky} (s : Same H H') (h : KyAll K H as ks) : KyAll K H' as ks := Paired.mapP h fun _ _ z => z.same s
section
variable {X : Cx} {pn : List (Addr × Obj)} {sg : L2.St} {H : Hp} {s : Shared}
theorem each_of {K : PySem.W.Frag} : ∀ {as : List Addr} {ks : List Ky}, KyAll K H as ks → PySem.W.EachIs (fun v k => ∃ a, v = Value.ref a ∧ KyAt K H a k) (as.map Value.ref) ks
  | _, _, .nil => .nil
  | _, _, .cons r t => .cons ⟨_, rfl, r⟩ (each_of t)
theorem of_each {K : PySem.W.Frag} : ∀ {vs : List Value} {ks : List Ky}, PySem.W.EachIs (fun v k => ∃ a, v = Value.ref a ∧ KyAt K H a k) vs ks → ∃ as, vs = as.map Value.ref ∧ KyAll K H as ks
  | _, _, .nil => ⟨[], rfl, .nil⟩
  | _, _, .cons ⟨a, e, r⟩ t => by
    obtain ⟨as, e2, r2⟩ := of_each t
    exact ⟨a :: as, by rw [e, e2]; rfl, .cons r r2⟩
theorem vals_refs : ∀ as : List Addr, Vals (as.map V.ref) (as.map Value.ref)
  | [] => .nil
  | _ :: as => .cons rfl (vals_refs as)
theorem sorted_keysG {Q : VK} {r : Addr} (hu : X.A.units + 64 < cLine) (Good : List Addr → List Ky → Prop)
    (col : ∀ R : List Value → Shared → Prop, (∀ s' as ks, Good as ks → Inv X pn sg H s' → R (as.map Value.ref) s') → wpAny (model X.prog X.w) X.A.in1 (collect (.ref r)) R X.xe s)
    (hk : ∀ as ks, Good as ks → KyAll X.K H as ks ∧ ks.length ≤ 1000) (q : ∀ as ks, Good as ks → ∀ p bs, KyAll X.K H bs (kySort ks) → H p = none → Q (.ref p) (upd H p (.lst (bs.map V.ref)))) :
    wpAny (model X.prog X.w) X.A (call (.builtin "sorted") [.ref r]) (EP X pn sg Q) X.xe s := by
  refine Calls.call_function_entry PyProof.Rows.kind_sorted PyProof.Rows.plain_sorted PyProof.Rows.entry_sorted (PyProof.Rows.args_sorted1 _) ?_
  unfold Builtin.«sorted»
  refine wpAny_bind (m := checkCount "sorted" 1 1 _) (wpAny_pure (wpAny_bind (col _ fun s1 as ks good I1 => ?_)))
  obtain ⟨hk, hl⟩ := hk as ks good
  have q := q as ks good
  have nl := Paired.length hk
  have hz : ks.length ≤ sizeLine := Nat.le_trans hl (by decide)
  refine wpAny_bind (wpAny_newList ?_ (by rw [List.length_map, nl]; exact hz))
  have here : (s1.heap.push (seqObj "list" (as.map Value.ref).toArray 0)).get? s1.heap.objs.size = some (seqObj "list" (as.map Value.ref).toArray 0) := Heap.get?_push_size _ rfl
  have I2 : Inv X pn sg H { s1 with heap := s1.heap.push (seqObj "list" (as.map Value.ref).toArray 0), toks := s1.toks } := I1.kept (t' := s1.toks) fun b o e => Heap.get?_push_of_some _ e
  have er : PySem.W.EachIs (fun v k => ∃ zs, Reads (s1.heap.push (seqObj "list" (as.map Value.ref).toArray 0)) v (Ky.py k) zs ∧ s1.heap.objs.size ∉ zs) (as.map Value.ref) ks :=
    (each_of hk).mono fun v k ⟨a, e, z⟩ => ⟨[], by rw [e]; exact z.reads I2, by simp⟩
  refine wpAny_bind (wpAny_holding (PySem.W.list_sort_data (s := { s1 with heap := s1.heap.push (seqObj "list" (as.map Value.ref).toArray 0) }) (R := fun v k => ∃ a, v = Value.ref a ∧ KyAt X.K H a k) (enc := Ky.py) here (each_of hk) er
    (PySem.W.AllAlike.of Ky.alike) (PySem.W.Sortable.tuples fun k => ⟨_, _, rfl⟩) hz (fun k _ => ?_) fun out ol eo => ?_))
  · rw [Ky.pdepth]
    show X.A.units + 1 + 1 + 2 < cLine
    omega
  · obtain ⟨bs, eb, hb⟩ := of_each eo
    obtain ⟨e', he'⟩ := PyProof.Rows.sortedHeap_at (vs := as.map Value.ref) (out := out.toArray) here
    have bl : (bs.map V.ref).length ≤ sizeLine := by
      have : out.length = ks.length := ol
      rw [eb, List.length_map] at this
      rw [List.length_map, this]
      exact hz
    refine wpAny_pure ⟨_, rfl, .ref s1.heap.objs.size, upd H s1.heap.objs.size (.lst (bs.map V.ref)), I1.laid (t' := s1.toks) (fun b u e => ?_) (Nat.le_refl _) (show ObjOk X.prog X.w _ _ _ (.lst (bs.map V.ref)) from ⟨bl, out, e', by rw [eb]; exact vals_refs bs, he'⟩), rfl, q _ bs hb (I1.hok.fresh (Nat.le_refl _))⟩
    have low : b < s1.heap.objs.size := Heap.lt_size e
    rw [PyProof.Rows.sortedHeap_old (Nat.ne_of_lt low) (by rw [size_push']; exact Nat.lt_succ_of_lt low)]
    exact Heap.get?_push_of_some _ e
theorem sorted_keys {Q : VK} {r : Addr} {as : List Addr} {ks : List Ky} (I : Inv X pn sg H s) (hu : X.A.units + 64 < cLine)
    (col : ∀ R : List Value → Shared → Prop, (∀ (h' : Heap) (tk : Nat), (∀ b o, s.heap.get? b = some o → h'.get? b = some o) → R (as.map Value.ref) { s with heap := h', toks := tk }) → wpAny (model X.prog X.w) X.A.in1 (collect (.ref r)) R X.xe s)
    (hk : KyAll X.K H as ks) (hl : ks.length ≤ 1000) (q : ∀ p bs, KyAll X.K H bs (kySort ks) → H p = none → Q (.ref p) (upd H p (.lst (bs.map V.ref)))) :
    wpAny (model X.prog X.w) X.A (call (.builtin "sorted") [.ref r]) (EP X pn sg Q) X.xe s :=
  sorted_keysG hu (fun a k => a = as ∧ k = ks) (fun R h => col R fun h' tk kept => h _ as ks ⟨rfl, rfl⟩ (I.kept kept)) (fun a k ⟨e1, e2⟩ => by rw [e1, e2]; exact ⟨hk, hl⟩) fun a k ⟨e1, e2⟩ => by rw [e2]; exact q
end
theorem keys_of_nd {K : PySem.W.Frag} {H : Hp} : ∀ {kvs : List (Ky × V)} {xs : List (Ky × Addr × Value)}, Paired (fun p q => p.1 = q.1 ∧ KyAt K H q.2.1 p.1 ∧ RelV p.2 q.2.2) kvs xs → KyAll K H (xs.map (·.2.1)) (kvs.map (·.1))
  | _, _, .nil => .nil
  | _, _, .cons h t => .cons h.2.1 (keys_of_nd t)
/-- sorted(d) -/
def rSortD (K : PySem.W.Frag) (P : Program) (w : World) : List V → Hp → VK → Prop := fun vs H Q => ∃ (d : Addr) (kvs : List (Ky × V)), vs = [.ref d] ∧ Nd K P w H d kvs ∧ kvs.length ≤ 1000 ∧
  ∀ p as, KyAll K H as (kySort (kvs.map (·.1))) → H p = none → Q (.ref p) (upd H p (.lst (as.map V.ref)))
theorem cr_sortD {X : Cx} (hc : X.calm = true) (hu : X.A.units + 64 < cLine) : CallR X (.builtin "sorted") (rSortD X.K X.prog X.w) := by
  intro pn s sg H vxs uxs Qq I r1 hyp
  obtain ⟨d, kvs, rfl, hN, hl, q⟩ := hyp
  obtain ⟨u, rfl, r2⟩ := vals1 r1
  cases (show u = Value.ref d from r2)
  obtain ⟨xs, h1, h2⟩ := hN.ex
  obtain ⟨hz, hd, o, es, ep, g1, g2, g3, g4, _, g5⟩ := Nd.of I h1 h2
  have nl := Paired.length h2
  have ks : KyAll X.K H (xs.map (·.2.1)) (kvs.map (·.1)) := keys_of_nd h2
  have sz : es.size = xs.length := by
    rw [← Array.length_toList, g4, List.length_map]
  refine sorted_keys (as := xs.map (·.2.1)) (ks := kvs.map (·.1)) I hu (fun R hR => ?_) ks (by rw [List.length_map]; exact hl) q
  refine PySem.W.kdu_collect (A := X.A.in1) (KdlSrc.rawDict (es := es) (ep := ep) hd) (I.ok.hd hc) ⟨o, g1, g2, g3⟩ (by rw [sz]; exact hz) fun h' tk acc kept it => ?_
  have e : acc.toList = (xs.map (·.2.1)).map Value.ref := by
    apply List.ext_getElem?
    intro i
    by_cases hi : i < xs.length
    · have ha : i < acc.size := by rw [it.1, sz]; exact hi
      obtain ⟨hj, ev⟩ := it.2 i acc[i] (Array.getElem?_eq_getElem ha)
      have e1 : acc.toList[i]? = some acc[i] := by rw [Array.getElem?_toList]; exact Array.getElem?_eq_getElem ha
      have e2 : es.toList[i]? = some es[i] := by rw [Array.getElem?_toList]; exact Array.getElem?_eq_getElem hj
      rw [g4, List.getElem?_map, List.getElem?_eq_getElem hi] at e2
      have e3 : entryOfKey (kyKind X.prog X.w) xs[i] = es[i] := Option.some.inj e2
      rw [e1, ev, ← e3, List.getElem?_map, List.getElem?_map, List.getElem?_eq_getElem hi]
      rfl
    · rw [List.getElem?_eq_none (by rw [Array.length_toList, it.1, sz]; omega), List.getElem?_eq_none (by rw [List.length_map, List.length_map]; omega)]
  rw [e]
  exact hR h' tk kept
/-! what the sorted list is -/
theorem kySort_perm (ks : List Ky) : (kySort ks).Perm ks := List.mergeSort_perm _ _
theorem kySort_len (ks : List Ky) : (kySort ks).length = ks.length := (kySort_perm ks).length_eq
end Jv
/-! {k: v for .. in ..}, k a key -/
namespace Jv
open PySem PySem.Spec PyProof.Rows L2
theorem hn_of {A : Around} {k : Nat} (hr : Room k A) : A.units + 9 < cLine := by
  have := hr.un
  omega
theorem hb_of {A : Around} {k : Nat} (hr : Room k A) : A.units + 64 < cLine := by
  have := hr.un
  omega
section
variable {X : Cx}
theorem dn_set {pn : List (Addr × Obj)} {sg : L2.St} {H : Hp} {s : Shared} {Er : Value → Shared → Prop} {D a : Addr} {kvs : List (Ky × V)} {k : Ky} {v : V} {r : Value} {Q : Unit → Shared → Prop} (I : Inv X pn sg H s) (hu : X.A.units + 9 < cLine) (hN : Nd X.K X.prog X.w H D kvs)
    (hk : KyAt X.K H a k) (hl : kvs.length < sizeLine) (rv : RelV v r) (q : ∀ s' H', (∀ b, b ≠ D → H' b = H b) → Nd X.K X.prog X.w H' D (putK kvs k v) → Inv X pn sg H' s' → Q () s') : wpAny (model X.prog X.w) X.A (dictSet D (.ref a) r) Q Er s := by
  obtain ⟨xs, h1, h2⟩ := hN.ex
  obtain ⟨hz, hd, hm⟩ := Nd.of I h1 h2
  have nl := Paired.length h2
  have h3 := nd_put h2 k hk rv
  refine wpAny_dictSet_heap (knd := kyKind X.prog X.w) (hsz := hz) (show X.A.units + 8 < cLine by omega) (hk.is I) hm fun h' dd hs => ?_
  have e9 : ∃ z, h'.get? D = some z := let ⟨z, _, _, hq, _⟩ := dd; ⟨z, hq⟩
  have ndup : (storedH xs k a r).length ≤ sizeLine := by
    rw [← Paired.length h3]
    have := length_putK kvs k v
    omega
  have mu : Mut (H D) := by
    rw [h1]
    exact True.intro
  refine q _ (upd H D (NdO X.prog X.w D (storedH xs k a r))) (fun b hb => upd_ne hb) ⟨_, upd_same, Paired.mapP h3 fun p x z => ⟨z.1, z.2.1.tupS fun b o e t => ?_, z.2.2⟩⟩ (d_write I mu hs e9 (ndO_ok ndup hd dd))
  have nb : b ≠ D := by
    rintro rfl
    rw [h1] at e
    cases e
    rcases t with ⟨ys, t⟩ | ⟨y1, y2, t⟩ <;> cases t
  rw [upd_ne nb]
  exact e
/-! ### d[k] -/
def getN : List (Ky × V) → Ky → Option V
  | [], _ => none
  | p :: ps, k => if p.1 = k then some p.2 else getN ps k
theorem nd_get {K : PySem.W.Frag} {H : Hp} {kvs : List (Ky × V)} {xs : List (Ky × Addr × Value)} (r : Paired (fun p q => p.1 = q.1 ∧ KyAt K H q.2.1 p.1 ∧ RelV p.2 q.2.2) kvs xs) {k : Ky} {v : V} (e : getN kvs k = some v) : ∃ p, atKey xs k = some p ∧ RelV v p.2 := by
  induction r with
  | nil => cases e
  | @cons p q ps qs h t ih =>
    obtain ⟨h1, h2, h3⟩ := h
    unfold getN at e
    by_cases z : p.1 = k
    · rw [if_pos z] at e
      cases e
      exact ⟨q.2, by simp [atKey, List.find?_cons, h1.symm.trans z], h3⟩
    · rw [if_neg z] at e
      obtain ⟨p', e1, e2⟩ := ih e
      have z' : ¬ q.1 = k := fun y => z (h1.trans y)
      exact ⟨p', by simpa [atKey, List.find?_cons, z'] using e1, e2⟩
def rNget (K : PySem.W.Frag) (P : Program) (w : World) : R2 := fun x y H Q => ∃ d a kvs k v, x = .ref d ∧ y = .ref a ∧ Nd K P w H d kvs ∧ KyAt K H a k ∧ getN kvs k = some v ∧ Q v H
theorem ix_nd (hu : X.A.units + 9 < cLine) : IxR X (rNget X.K X.prog X.w) := by
  intro vl sl pn s sg H x y v u Q I r1 r2 hyp hs
  obtain ⟨d, a, kvs, k, z, rfl, rfl, hN, hk, e, q⟩ := hyp
  cases (show v = Value.ref d from r1)
  cases (show u = Value.ref a from r2)
  obtain ⟨xs, h1, h2⟩ := hN.ex
  obtain ⟨hz, hd, hm⟩ := Nd.of I h1 h2
  obtain ⟨p, e1, e2⟩ := nd_get h2 e
  exact subscriptTail_builtinR (x := p.2) hm.typeIs slot_dict_getitem.lookup (wpAny_getItem_heap (knd := kyKind X.prog X.w) (Q := fun r s' => r = p.2 ∧ EP X pn sg Q r s') (show X.A.in1.units + 8 < cLine by show X.A.units + 1 + 8 < cLine; omega) (hk.is I) hm e1 ⟨rfl, z, H, I.tok _, e2, q⟩) hs
/-- the reading -/
def tDcN (K : PySem.W.Frag) (P : Program) (w : World) (wi : TI) (g : TG) (tt : TT) (tk tv : TE) (vs : List Nat) : TE := fun sg H Q => wi sg H fun J H1 => ∀ D, H1 D = none → ∃ W : Nat → Nat → Hp → Prop, (∃ m, W 0 m (upd H1 D (NdO P w D []))) ∧ ∀ i m H, W i m H →
  (J.stop i H ∧ Q (.ref D) H) ∨ (J.go i H ∧ ∃ Nx : Hp → Prop, (∀ H', Nx H' → ∃ m', m' < m ∧ W (i + 1) m' H') ∧ ∀ x H', J.yld i H x H' → g x (wipe sg vs) H' fun s2 H2 => wipe s2 vs = wipe sg vs ∧ tt s2 H2 fun b H3 =>
    if b = true then tk s2 H3 fun y H4 => tv s2 H4 fun z H5 => ∃ a kvs k, y = .ref a ∧ Nd K P w H5 D kvs ∧ KyAt K H5 a k ∧ kvs.length < sizeLine ∧ ∀ H6, (∀ b, b ≠ D → H6 b = H5 b) → Nd K P w H6 D (putK kvs k z) → Nx H6 else Nx H3)
theorem pe_dcN {kx vx tg it : Expr} {cs : List Expr} {sc : Scope} {own : List (Str × Nat)} {pos : Pos} {wi : TI} {g : TG} {tt : TT} {tk tv : TE} (hc : X.calm = true) (hu : X.A.units + 9 < cLine) (nd : X.N.Nodup) (hi : PI X tg it wi) (ok : BlkOk X.N X.env.scope sc own)
    (hg : ∀ (s : Shared) (H : Hp) (C : Addr) (cl : List (Str × Addr)) (fp : List Addr), PG (X.blk s H sc (compEnvC sc cl C X.env) fp) tg g) (ht : ∀ (s : Shared) (H : Hp) (C : Addr) (cl : List (Str × Addr)) (fp : List Addr), PTs (X.blk s H sc (compEnvC sc cl C X.env) fp) cs tt)
    (hk : ∀ (s : Shared) (H : Hp) (C : Addr) (cl : List (Str × Addr)) (fp : List Addr), PE (X.blk s H sc (compEnvC sc cl C X.env) fp) kx tk) (hv : ∀ (s : Shared) (H : Hp) (C : Addr) (cl : List (Str × Addr)) (fp : List Addr), PE (X.blk s H sc (compEnvC sc cl C X.env) fp) vx tv)
    (hs : ∀ x, foldedSetIterable it X.env x = pure x := by intro _; rfl) : PE X (.DictComp kx vx [⟨tg, it, cs, 0⟩] sc pos) (tDcN X.K X.prog X.w wi g tt tk tv (own.map (·.2))) := by
  refine ⟨fun pn s sg H Q I h => ?_⟩
  rw [arm_eval_DictComp]
  have clo : ∀ y ∈ sc.names, y.2 = .free → ∃ c, X.env.cells.lookup y.1 = some c := fun y hy e => (ok.free y hy e).elim (fun z => I.ok.has _ (.inl z)) fun z => I.ok.has _ (.inr z)
  refine wpAny_comprehension_free (use := none) rfl hs (closure_ok clo) ok.kind (fun y hy e => by rw [ok.uniq y hy, e]) (thn (hi.run pn s sg H _ I h) fun xv s1 hx => thn hx fun iv s2 h2 => ?_)
  obtain ⟨ia, fp, tn, J, H2, rfl, I2, T, st2, f2, q⟩ := h2
  refine wpAny_newObj_type (newEnv_comp ?_)
  -- the new dict, at D
  generalize eD : s2.heap.objs.size = D
  have nD : H2 D = none := I2.hok.fresh (Nat.le_of_eq eD)
  obtain ⟨W, ⟨m0, w0⟩, turn⟩ := q D nD
  generalize e3 : ({ s2 with heap := s2.heap.push { cls := .type "dict", data := .dict #[] } } : Shared) = s3
  have hp3 : s3.heap = s2.heap.push { cls := .type "dict", data := .dict #[] } := by rw [← e3]
  have I3 : Inv X pn sg (upd H2 D (NdO X.prog X.w D [])) s3 := by
    rw [← e3]
    refine I2.laid (t' := s2.toks) (fun b o e => Heap.get?_push_of_some _ e) (Nat.le_of_eq eD) (ndO_ok (Nat.zero_le _) ?_ (by rw [← eD]; exact Heap.DictOfH.new s2.heap))
    rw [← eD]
    exact beq_eq_false_iff_ne.mpr (Ne.symm (Nat.ne_of_lt I2.big))
  have low : ∀ b ∈ fp, b < s2.heap.objs.size := fun b hb => let ⟨o, e, _⟩ := T.obj _ _ st2 b hb; Heap.lt_size e
  have f3 : ∀ b ∈ fp, FpOk X pn (upd H2 D (NdO X.prog X.w D [])) b ∧ b < s3.heap.objs.size := fun b hb => by
    have lt := low b hb
    have ne : b ≠ D := by
      rw [← eD]
      exact Nat.ne_of_lt lt
    exact ⟨⟨by rw [upd_ne ne]; exact (f2 b hb).1, (f2 b hb).2⟩, by rw [hp3, Heap.size_push]; exact Nat.lt_succ_of_lt lt⟩
  have st3 : tn 0 s3.heap := T.keep _ _ _ st2 fun b _ o e => by rw [hp3]; exact Heap.get?_push_of_some _ e
  generalize eH : upd H2 D (NdO X.prog X.w D []) = H3 at I3 w0 f3
  have I4 := block_start I3 ok nd f3
  have pg := hg s3 H3 s3.heap.objs.size (cellsFrom (s3.heap.objs.size + 1) sc.names (cloFrom X.env.cells sc.names [])) fp
  have pt := ht s3 H3 s3.heap.objs.size (cellsFrom (s3.heap.objs.size + 1) sc.names (cloFrom X.env.cells sc.names [])) fp
  have pk := hk s3 H3 s3.heap.objs.size (cellsFrom (s3.heap.objs.size + 1) sc.names (cloFrom X.env.cells sc.names [])) fp
  have pv := hv s3 H3 s3.heap.objs.size (cellsFrom (s3.heap.objs.size + 1) sc.names (cloFrom X.env.cells sc.names [])) fp
  show codeAny _ _ (.compStart (.DictComp kx vx [⟨tg, it, cs, 0⟩] sc pos) 0 (.ref ia) (.ref D) (compEnvC sc (cellsFrom (s3.heap.objs.size + 1) sc.names (cloFrom X.env.cells sc.names [])) s3.heap.objs.size X.env))
    (compPost (model X.prog X.w) X.A X.xe none (EP X pn sg Q) (.ref D) s3.heap.objs.size) { s3 with heap := pushCells (s3.heap.push { cls := .type "dict", data := .dict #[] }) sc.names }
  have nf : ∀ b ∈ fp, H3 b = none := fun b hb => (f3 b hb).1.1
  generalize ec : compEnvC sc (cellsFrom (s3.heap.objs.size + 1) sc.names (cloFrom X.env.cells sc.names [])) s3.heap.objs.size X.env = ce at I4 pg pt pk pv ⊢
  have cl : ce.locals = s3.heap.objs.size := by
    rw [← ec]
    rfl
  generalize e4 : ({ s3 with heap := pushCells (s3.heap.push { cls := .type "dict", data := .dict #[] }) sc.names } : Shared) = s4 at I4 ⊢
  have st4 : tn 0 s4.heap := T.keep _ _ _ st3 fun b _ o e => by
    rw [← e4]
    exact pushCells_keeps _ _ _ _ (Heap.get?_push_of_some _ e)
  have fo : ∀ {sg' : L2.St} {H' : Hp} {s' : Shared}, Inv (X.blk s3 H3 sc ce fp) [] sg' H' s' → (∀ b ∈ fp, H' b = none) → ∀ b ∈ fp, FpOk (X.blk s3 H3 sc ce fp) [] H' b := fun {sg' H' s'} I' hn b hb =>
    ⟨hn b hb, (I'.ok.exf b hb).1, I'.ok.exfs b hb, .inl hb, (I'.ok.exf b hb).2, fun p hp => absurd hp (by simp)⟩
  refine codeAny_compStart_dict ?_ (T.self X.A 0 _ _ _ st4 ?_) <;>
  refine compLoop_anyD (fun n s' => ∃ i H', Inv (X.blk s3 H3 sc ce fp) [] (wipe sg (own.map (·.2))) H' s' ∧ tn i s'.heap ∧ (∀ b ∈ fp, H' b = none) ∧ W i n H') ?_ m0 ⟨0, H3, I4, st4, nf, w0⟩ <;>
  · rintro n s5 ⟨i, H5, I5, st5, n5, w5⟩
    rcases turn i n H5 w5 with ⟨stop, qq⟩ | ⟨go, Nx, hN, step⟩
    · refine thnF (T.done (X.blk s3 H3 sc ce fp) rfl rfl rfl hc i [] s5 _ H5 (fun _ _ => False) I5 (fo I5 n5) st5 stop) fun r s6 ⟨hr, I6⟩ => ?_
      subst hr
      have I7 : Inv X pn sg H5 s6 := I3.call' (ch := fp) I6.os I6.base I6.hok I6.bare fun b hb => ⟨(f3 b hb).1.2.2.2.1, (f3 b hb).1.2.1, (f3 b hb).1.2.2.2.2.1, (f3 b hb).1.2.2.2.2.2⟩
      have nC : H5 s3.heap.objs.size = none := by
        rw [← cl]
        exact I6.free
      obtain ⟨m, hn, _⟩ := I6.loc
      refine ⟨m, by rw [← cl]; exact hn, fun h'' sb => ?_⟩
      obtain ⟨g0, g1, g2, g3, g4, g5⟩ := I3.fpOk (b := s3.heap.objs.size) (Nat.le_refl _) nC
      exact ⟨.ref D, H5, I7.turned (t' := s6.toks) (fun b o hb e => (sb.2 b hb).trans e) g0 g1 g3 g4 g5, rfl, qq⟩
    · refine thnF (T.item (X.blk s3 H3 sc ce fp) rfl rfl rfl hc i [] s5 _ H5 (fun _ _ => False) I5 (fo I5 n5) st5 go) fun r s6 ⟨u, hr, h6⟩ => ?_
      subst hr
      refine thnF h6 fun _ s7 ⟨x, H7, I7, r7, y7, st7, n7⟩ => ?_
      have I8 := I7.pinned (fo I7 n7) (T.obj _ _ st7)
      refine thnF (pg.run _ s7 _ H7 x u _ I8 r7 (step x H7 y7)) fun _ s8 ⟨sg8, H8, I9, hw8, q8⟩ => ?_
      refine thnF (pt.run _ s8 sg8 H8 _ I9 q8) fun b s9 ⟨H9, I10, q9⟩ => ?_
      have fin : ∀ {s' : Shared} {H' : Hp}, Inv (X.blk s3 H3 sc ce fp) ([] ++ pinsAt fp s7.heap) sg8 H' s' → Nx H' → ∃ m, m < n ∧ ∃ i H', Inv (X.blk s3 H3 sc ce fp) [] (wipe sg (own.map (·.2))) H' s' ∧ tn i s'.heap ∧ (∀ b ∈ fp, H' b = none) ∧ W i m H' := fun {s' H'} I' nx => by
        obtain ⟨m', hm, w'⟩ := hN H' nx
        have pin : ∀ b ∈ fp, ∀ o, s7.heap.get? b = some o → s'.heap.get? b = some o ∧ H' b = none := fun b hb o e =>
          let z := I'.pin (b, o) (List.mem_append_right _ (List.mem_append_right _ (mem_pinsAt hb e)))
          ⟨z.1, z.2.1⟩
        have hl : (wipe sg (own.map (·.2))).length = sg8.length := by
          rw [← hw8, wipe_length]
        refine ⟨m', hm, i + 1, H', (I'.unpinned (pins := [])).weak hl (fun j v e => (wipe_some (by rw [hw8]; exact e)).1), T.keep _ _ _ st7 fun b hb o e => (pin b hb o e).1, fun b hb => ?_, w'⟩
        obtain ⟨o, e, _⟩ := T.obj _ _ st7 b hb
        exact (pin b hb o e).2
      cases b with
      | false => exact fin I10 (by simpa using q9)
      | true =>
        simp only [if_true] at q9
        refine thnF (pk.run _ s9 sg8 H9 _ I10 q9) fun z s10 ⟨yk, H10, I11, r10, q10⟩ => ?_
        refine thnF (pv.run _ s10 sg8 H10 _ I11 q10) fun z2 s11 ⟨yv, H11, I12, r11, a, kvs, k, ek, hD, hK, hl, nx⟩ => ?_
        subst ek
        cases (show z = Value.ref a from r10)
        exact dn_set (X := X.blk s3 H3 sc ce fp) I12 hu hD hK hl r11 fun s12 H12 hb hD2 I13 => fin I13 (nx H12 hb hD2)
end
/-! ### its turns -/
theorem dcn_it {J : It} {n : Nat} {Gd : Hp → Prop} {Y : Nat → Hp → V → Hp → Prop} {K : PySem.W.Frag} {P : Program} {w : World} (wk : Walk J n Gd Y) {g : TG} {tt : TT} {tk tv : TE} {vs : List Nat} {sg : L2.St} {H1 : Hp} {D : Addr} {Qd : Hp → Prop} (Pv : Nat → Hp → Prop)
    (h0 : Pv 0 (upd H1 D (NdO P w D []))) (hG : ∀ i H, i ≤ n → Pv i H → Gd H)
    (turn : ∀ i x H H', i < n → Pv i H → Y i H x H' → g x (wipe sg vs) H' fun s2 H2 => wipe s2 vs = wipe sg vs ∧ tt s2 H2 fun b H3 =>
      if b = true then tk s2 H3 fun y H4 => tv s2 H4 fun z H5 => ∃ a kvs k, y = .ref a ∧ Nd K P w H5 D kvs ∧ KyAt K H5 a k ∧ kvs.length < sizeLine ∧ ∀ H6, (∀ b, b ≠ D → H6 b = H5 b) → Nd K P w H6 D (putK kvs k z) → Pv (i + 1) H6 else Pv (i + 1) H3) (fin : ∀ H, Pv n H → Qd H) :
    ∃ W : Nat → Nat → Hp → Prop, (∃ m, W 0 m (upd H1 D (NdO P w D []))) ∧ ∀ i m H, W i m H → (J.stop i H ∧ Qd H) ∨ (J.go i H ∧ ∃ Nx : Hp → Prop, (∀ H', Nx H' → ∃ m', m' < m ∧ W (i + 1) m' H') ∧
      ∀ x H', J.yld i H x H' → g x (wipe sg vs) H' fun s2 H2 => wipe s2 vs = wipe sg vs ∧ tt s2 H2 fun b H3 =>
        if b = true then tk s2 H3 fun y H4 => tv s2 H4 fun z H5 => ∃ a kvs k, y = .ref a ∧ Nd K P w H5 D kvs ∧ KyAt K H5 a k ∧ kvs.length < sizeLine ∧ ∀ H6, (∀ b, b ≠ D → H6 b = H5 b) → Nd K P w H6 D (putK kvs k z) → Nx H6 else Nx H3) := by
  refine ⟨fun i m H => i + m = n ∧ Pv i H, ⟨n, Nat.zero_add n, h0⟩, fun i m H ⟨e, p⟩ => ?_⟩
  have gd := hG i H (by omega) p
  rcases Nat.eq_zero_or_pos m with z | z
  · have e' : i = n := by omega
    subst e'
    exact Or.inl ⟨wk.stops H gd, fin H p⟩
  · have lt : i < n := by omega
    exact Or.inr ⟨wk.goes i H lt gd, Pv (i + 1), fun H' p' => ⟨m - 1, by omega, by omega, p'⟩, fun x H' y => turn i x H H' lt p (wk.yields i H x H' lt gd y)⟩
/-- where but the dict nothing changes -/
theorem Nd.but {K : PySem.W.Frag} {P : Program} {w : World} {H H' : Hp} {d : Addr} {kvs : List (Ky × V)} (h : Nd K P w H d kvs) (hb : ∀ b, b ≠ d → H' b = H b) : TupS H H' := fun b o e t => by
  obtain ⟨u, e1, _⟩ := h.ex
  have n : b ≠ d := by
    rintro rfl
    rw [e1] at e
    cases e
    rcases t with ⟨ys, t⟩ | ⟨y1, y2, t⟩ <;> cases t
  rw [hb b n]
  exact e
theorem Nd.not_lst {K : PySem.W.Frag} {P : Program} {w : World} {H : Hp} {a d : Addr} {xs : List V} {kvs : List (Ky × V)} (h : Nd K P w H d kvs) (e : H a = some (.lst xs)) : a ≠ d := by
  rintro rfl
  obtain ⟨u, e1, _⟩ := h.ex
  rw [e1] at e
  cases e
theorem Nd.two {K : PySem.W.Frag} {P : Program} {w : World} {H : Hp} {a d : Addr} {kvs : List (Ky × V)} (h : Nd K P w H d kvs) (e : H a = none) : a ≠ d := by
  rintro rfl
  obtain ⟨u, e1, _⟩ := h.ex
  rw [e1] at e
  cases e
/-! ### what is put under keys, of any kind -/
section
variable {β γ : Type}
def putE : List (Ky × β) → Ky → β → List (Ky × β)
  | [], k, v => [(k, v)]
  | p :: ps, k, v => if p.1 = k then (p.1, v) :: ps else p :: putE ps k v
def getE : List (Ky × β) → Ky → Option β
  | [], _ => none
  | p :: ps, k => if p.1 = k then some p.2 else getE ps k
theorem putE_keys : ∀ {l : List (Ky × β)} {k : Ky} {v : β}, (putE l k v).map (·.1) = if k ∈ l.map (·.1) then l.map (·.1) else l.map (·.1) ++ [k]
  | [], k, v => rfl
  | p :: ps, k, v => by
    unfold putE
    by_cases z : p.1 = k
    · rw [if_pos z, if_pos (by rw [List.map_cons, z]; exact List.mem_cons_self)]
      rfl
    · rw [if_neg z, List.map_cons, List.map_cons, putE_keys (l := ps)]
      by_cases y : k ∈ ps.map (·.1)
      · rw [if_pos y, if_pos (List.mem_cons_of_mem _ y)]
      · rw [if_neg y, if_neg (fun q => (List.mem_cons.mp q).elim (fun e => z e.symm) y)]
        rfl
theorem putE_nodup {l : List (Ky × β)} (h : (l.map (·.1)).Nodup) (k : Ky) (v : β) : ((putE l k v).map (·.1)).Nodup := by
  rw [putE_keys]
  by_cases y : k ∈ l.map (·.1)
  · rw [if_pos y]
    exact h
  · rw [if_neg y]
    refine List.nodup_append.mpr ⟨h, List.nodup_cons.mpr ⟨fun z => (by cases z), List.nodup_nil⟩, fun a ha b hb => ?_⟩
    rw [List.mem_singleton.mp hb]
    rintro rfl
    exact y ha
theorem putE_new {l : List (Ky × β)} {k : Ky} {v : β} (h : k ∉ l.map (·.1)) : putE l k v = l ++ [(k, v)] := by
  induction l with
  | nil => rfl
  | cons p ps ih =>
    unfold putE
    rw [List.map_cons, List.mem_cons, not_or] at h
    rw [if_neg (fun z => h.1 z.symm), ih h.2]
    rfl
theorem getE_mem {l : List (Ky × β)} {k : Ky} (h : k ∈ l.map (·.1)) : ∃ v, getE l k = some v := by
  induction l with
  | nil => cases h
  | cons p ps ih =>
    unfold getE
    by_cases z : p.1 = k
    · exact ⟨p.2, if_pos z⟩
    · rw [if_neg z]
      exact ih ((List.mem_cons.mp h).resolve_left fun q => z q.symm)
theorem putK_E (l : List (Ky × V)) (hn : (l.map (·.1)).Nodup) (k : Ky) (v : V) : putK l k v = putE l k v := by
  induction l with
  | nil => rfl
  | cons p ps ih =>
    rw [List.map_cons, List.nodup_cons] at hn
    have ih' := ih hn.2
    unfold putK at ih' ⊢
    unfold putE
    by_cases z : p.1 = k
    · have rest : ps.map (fun kv => if kv.1 = k then (kv.1, v) else kv) = ps := by
        have nk : k ∉ ps.map (·.1) := by
          rw [← z]
          exact hn.1
        clear ih ih' hn
        induction ps with
        | nil => rfl
        | cons q qs ih2 =>
          rw [List.map_cons, List.mem_cons, not_or] at nk
          rw [List.map_cons, if_neg (fun y => nk.1 y.symm), ih2 nk.2]
      rw [if_pos (by simp [z]), if_pos z, List.map_cons, if_pos z, rest]
    · rw [if_neg z, List.any_cons, List.map_cons, if_neg z, decide_eq_false z, Bool.false_or, ← ih']
      split <;> rfl
end
end Jv
/-! data that stand in the heap: None, bools, ints, texts, lists, tuples, {} -/
namespace Jv
open PySem PySem.Spec PyProof.Rows L2
mutual
inductive Da (K : PySem.W.Frag) (H : Hp) : V → PyData → Prop
  | non : Da K H .non .none
  | bl (b : Bool) : Da K H (.bl b) (.bool b)
  | int (i : Int) : Da K H (.int i) (.int i)
  | str (x : Str) (hx : x.length ≤ 1000) : Da K H (.str x) (.str x)
  | lst {a : Addr} {xs : List V} {ds : List PyData} : SqL K H a xs → DaAll K H xs ds → ds.length ≤ 1000 → Da K H (.ref a) (.list ds)
  | tup {a : Addr} {xs : List V} {ds : List PyData} : SqT K H a xs → DaAll K H xs ds → ds.length ≤ 1000 → Da K H (.ref a) (.tuple ds)
  | dic {a : Addr} : H a = some (.dK []) → Da K H (.ref a) (.dict [])
inductive DaAll (K : PySem.W.Frag) (H : Hp) : List V → List PyData → Prop
  | nil : DaAll K H [] []
  | cons {v : V} {vs : List V} {d : PyData} {ds : List PyData} : Da K H v d → DaAll K H vs ds → DaAll K H (v :: vs) (d :: ds)
end
mutual
theorem Da.same {K : PySem.W.Frag} {H H' : Hp} (s : Same H H') : ∀ (d : PyData) (v : V), Da K H v d → Da K H' v d
  | .none, _, h => by cases h; exact .non
  | .bool b, _, h => by cases h; exact .bl b
  | .int i, _, h => by cases h; exact .int i
  | .str x, _, h => by cases h with | str x hx => exact .str x hx
  | .list ds, _, h => by
    cases h with
    | lst h1 h2 hz => exact .lst (s.seq h1) (DaAll.same s ds _ h2) hz
  | .tuple ds, _, h => by
    cases h with
    | tup h1 h2 hz => exact .tup (sqT_same s h1) (DaAll.same s ds _ h2) hz
  | .dict kvs, _, h => by
    cases h with
    | dic h1 => exact .dic (s _ _ h1)
theorem DaAll.same {K : PySem.W.Frag} {H H' : Hp} (s : Same H H') : ∀ (ds : List PyData) (vs : List V), DaAll K H vs ds → DaAll K H' vs ds
  | [], _, h => by cases h; exact .nil
  | d :: ds, _, h => by
    cases h with
    | cons h1 h2 => exact .cons (Da.same s d _ h1) (DaAll.same s ds _ h2)
end
theorem DaAll.len {K : PySem.W.Frag} {H : Hp} : ∀ {ds : List PyData} {vs : List V}, DaAll K H vs ds → vs.length = ds.length
  | [], _, h => by cases h; rfl
  | d :: ds, _, h => by
    cases h with
    | cons h1 h2 =>
      rw [List.length_cons, List.length_cons, DaAll.len h2]
theorem DaAll.get {K : PySem.W.Frag} {H : Hp} : ∀ {ds : List PyData} {vs : List V} {i : Nat} {v : V}, DaAll K H vs ds → vs[i]? = some v → ∃ d, ds[i]? = some d ∧ Da K H v d
  | [], _, _, _, h, e => by
    cases h
    simp at e
  | d :: ds, _, i, v, h, e => by
    cases h with
    | cons h1 h2 =>
      cases i with
      | zero =>
        simp at e
        subst e
        exact ⟨d, rfl, h1⟩
      | succ i =>
        obtain ⟨d', a, b⟩ := DaAll.get h2 (i := i) (by simpa using e)
        exact ⟨d', by simpa using a, b⟩
theorem DaAll.getD {K : PySem.W.Frag} {H : Hp} : ∀ {ds : List PyData} {vs : List V} {i : Nat} {d : PyData}, DaAll K H vs ds → ds[i]? = some d → ∃ v, vs[i]? = some v ∧ Da K H v d
  | [], _, _, _, h, e => by simp at e
  | d :: ds, _, i, d', h, e => by
    cases h with
    | cons h1 h2 =>
      cases i with
      | zero =>
        simp at e
        subst e
        exact ⟨_, rfl, h1⟩
      | succ i =>
        obtain ⟨v, a, b⟩ := DaAll.getD h2 (i := i) (by simpa using e)
        exact ⟨v, by simpa using a, b⟩
theorem DaAll.app {K : PySem.W.Frag} {H : Hp} : ∀ {ds es : List PyData} {vs ws : List V}, DaAll K H vs ds → DaAll K H ws es → DaAll K H (vs ++ ws) (ds ++ es)
  | [], _, _, _, h, g => by cases h; exact g
  | d :: ds, _, _, _, h, g => by
    cases h with
    | cons h1 h2 => exact .cons h1 (DaAll.app h2 g)
theorem DaAll.take {K : PySem.W.Frag} {H : Hp} : ∀ {ds : List PyData} {vs : List V} (n : Nat), DaAll K H vs ds → DaAll K H (vs.take n) (ds.take n)
  | _, _, 0, _ => by simpa using DaAll.nil
  | [], _, n + 1, h => by cases h; exact .nil
  | d :: ds, _, n + 1, h => by
    cases h with
    | cons h1 h2 => exact .cons h1 (DaAll.take n h2)
theorem DaAll.drop {K : PySem.W.Frag} {H : Hp} : ∀ {ds : List PyData} {vs : List V} (n : Nat), DaAll K H vs ds → DaAll K H (vs.drop n) (ds.drop n)
  | _, _, 0, h => by simpa using h
  | [], _, n + 1, h => by cases h; exact .nil
  | d :: ds, _, n + 1, h => by
    cases h with
    | cons h1 h2 => exact DaAll.drop n h2
theorem daStrs {K : PySem.W.Frag} {H : Hp} : ∀ xs : List Str, (∀ x ∈ xs, x.length ≤ 1000) → DaAll K H (xs.map V.str) (xs.map .str)
  | [], _ => .nil
  | x :: xs, h => .cons (.str x (h x List.mem_cons_self)) (daStrs xs fun y hy => h y (List.mem_cons_of_mem _ hy))
theorem ofStrs {K : PySem.W.Frag} {H : Hp} : ∀ {xs : List Str} {vs : List V}, DaAll K H vs (xs.map .str) → vs = xs.map V.str
  | [], _, h => by
    have h : DaAll K H _ [] := h
    cases h
    rfl
  | x :: xs, _, h => by
    have h : DaAll K H _ (.str x :: xs.map .str) := h
    cases h with
    | cons h1 h2 =>
      cases h1
      rw [ofStrs h2]
      rfl
mutual
theorem Da.reads {X : Cx} {pn : List (Addr × Obj)} {sg : L2.St} {H : Hp} {s : Shared} (I : Inv X pn sg H s) : ∀ (d : PyData) (v : V) (u : Value), Da X.K H v d → RelV v u → ∃ as, Reads s.heap u d as
  | .none, _, _, h, r => by
    cases h
    cases r
    exact ⟨_, Reads.none⟩
  | .bool b, _, _, h, r => by
    cases h
    cases r
    exact ⟨_, Reads.bool b⟩
  | .int i, _, _, h, r => by
    cases h
    obtain ⟨t, rfl⟩ := r
    exact ⟨_, Reads.int i t⟩
  | .str x, _, _, h, r => by
    cases h
    obtain ⟨t, rfl⟩ := r
    exact ⟨_, Reads.str x t⟩
  | .list ds, _, _, h, r => by
    cases h with
    | lst h1 h2 hz =>
      cases r
      obtain ⟨its, rv, ⟨o, n, ho, hc, _, hd⟩, _⟩ := I.list h1
      obtain ⟨zs, hr⟩ := DaAll.reads I ds _ its h2 rv
      exact ⟨_, Reads.list ho hc hd hr⟩
  | .tuple ds, _, _, h, r => by
    cases h with
    | tup h1 h2 hz =>
      cases r
      obtain ⟨its, rv, ⟨o, ho, hc, n, hd⟩, _⟩ := I.tuple h1
      obtain ⟨zs, hr⟩ := DaAll.reads I ds _ its h2 rv
      exact ⟨_, Reads.tuple ho hc hd hr⟩
  | .dict kvs, _, _, h, r => by
    cases h with
    | dic h1 =>
      cases r
      obtain ⟨_, _, vs, rel, o, es, ep, ho, hx, hd, _, hp, _⟩ := (show ObjOk X.prog X.w H s.heap _ (.dK []) from I.hok _ _ h1)
      cases rel
      have e0 : es.toList = [] := by
        cases hp' : es.toList with
        | nil => rfl
        | cons z zs =>
          rw [hp'] at hp
          cases hp
      exact ⟨_, Reads.dict (as := []) (bs := []) ho hx.1 hd (by rw [e0]; exact .nil) (by rw [e0]; exact .nil)⟩
theorem DaAll.reads {X : Cx} {pn : List (Addr × Obj)} {sg : L2.St} {H : Hp} {s : Shared} (I : Inv X pn sg H s) : ∀ (ds : List PyData) (vs : List V) (us : List Value), DaAll X.K H vs ds → Vals vs us → ∃ as, ReadsAll s.heap us ds as
  | [], _, _, h, r => by
    cases h
    cases r
    exact ⟨_, ReadsAll.nil⟩
  | d :: ds, _, _, h, r => by
    cases h with
    | cons h1 h2 =>
      cases r with
      | cons r1 r2 =>
        obtain ⟨zs, q1⟩ := Da.reads I d _ _ h1 r1
        obtain ⟨ws, q2⟩ := DaAll.reads I ds _ _ h2 r2
        exact ⟨_, ReadsAll.cons q1 q2⟩
end
/-! ### ==, !=, repr -/
def rEqA (K : PySem.W.Frag) : R2 := fun x y H Q => ∃ d e, Da K H x d ∧ Da K H y e ∧ SeqAt.shaped d = true ∧ SeqAt.shaped e = true ∧ Q (.bl (PyData.eqv d e)) H
theorem op_eqA {X : Cx} (hu : X.A.units + 64 < cLine) : OpR X (compareOp .Eq) (rEqA X.K) := by
  intro pn s sg H vx vy ux uy Qq I r1 r2 hyp
  obtain ⟨d, e, h1, h2, s1, s2, q⟩ := hyp
  obtain ⟨as, q1⟩ := Da.reads I d _ _ h1 r1
  obtain ⟨bs, q2⟩ := Da.reads I e _ _ h2 r2
  exact PyProof.Rows.eq_dataH q1 q2 s1 s2 hu ⟨.bl _, H, I, rfl, q⟩
def rNeA (K : PySem.W.Frag) : R2 := fun x y H Q => ∃ d e, Da K H x d ∧ Da K H y e ∧ SeqAt.shaped d = true ∧ SeqAt.shaped e = true ∧ Q (.bl (!PyData.eqv d e)) H
theorem op_neA {X : Cx} (hu : X.A.units + 64 < cLine) : OpR X (compareOp .NotEq) (rNeA X.K) := by
  intro pn s sg H vx vy ux uy Qq I r1 r2 hyp
  obtain ⟨d, e, h1, h2, s1, s2, q⟩ := hyp
  obtain ⟨as, q1⟩ := Da.reads I d _ _ h1 r1
  obtain ⟨bs, q2⟩ := Da.reads I e _ _ h2 r2
  exact PyProof.Rows.ne_dataH q1 q2 s1 s2 hu ⟨.bl _, H, I, rfl, q⟩
/-! ### kinds -/
def dTup : PyData → Bool
  | .tuple _ => true
  | _ => false
def dStr : PyData → Bool
  | .str _ => true
  | _ => false
def dBl : PyData → Bool
  | .bool _ => true
  | _ => false
def dNum : PyData → Bool
  | .int _ => true
  | .bool _ => true
  | _ => false
theorem tyT {K : PySem.W.Frag} {H : Hp} {a : Addr} {xs : List V} (h : SqT K H a xs) : TyX K H (.ref a) (.type "tuple") := by
  rcases h with (h | ⟨o, h⟩) | h
  · exact .base (.tup h)
  · exact .fTuple h
  · obtain ⟨o, its, n, h1, h2, _⟩ := h
    exact .kTuple h1 h2
theorem tyL {K : PySem.W.Frag} {H : Hp} {a : Addr} {xs : List V} (h : SqL K H a xs) : TyX K H (.ref a) (.type "list") := by
  rcases h with (h | ⟨o, h⟩) | h
  · exact .base (.lst h)
  · exact .base (.frz h)
  · obtain ⟨o, its, n, h1, h2, _⟩ := h
    exact .kList h1 h2
theorem Da.isi {K : PySem.W.Frag} {H : Hp} {v : V} {d : PyData} (h : Da K H v d) : ∃ t, TyX K H v t ∧ PySem.W.kitOne K t (.type "tuple") = some (dTup d) ∧ PySem.W.kitOne K t (.type "str") = some (dStr d) ∧
    PySem.W.kitOne K t (.type "bool") = some (dBl d) ∧ PySem.W.kitOne K t (.type "int") = some (dNum d) := by
  cases h with
  | non => exact ⟨_, .base .non, kit_ty (show kitB "NoneType" "tuple" = some false by decide +kernel), kit_ty (show kitB "NoneType" "str" = some false by decide +kernel), kit_ty (show kitB "NoneType" "bool" = some false by decide +kernel), kit_ty (show kitB "NoneType" "int" = some false by decide +kernel)⟩
  | bl b => exact ⟨_, .base (.bl b), kit_ty (show kitB "bool" "tuple" = some false by decide +kernel), kit_ty (show kitB "bool" "str" = some false by decide +kernel), kit_ty (show kitB "bool" "bool" = some true by decide +kernel), kit_ty (show kitB "bool" "int" = some true by decide +kernel)⟩
  | int i => exact ⟨_, .base (.int i), kit_ty (show kitB "int" "tuple" = some false by decide +kernel), kit_ty (show kitB "int" "str" = some false by decide +kernel), kit_ty (show kitB "int" "bool" = some false by decide +kernel), kit_ty (show kitB "int" "int" = some true by decide +kernel)⟩
  | str x hx => exact ⟨_, .base (.str x), kit_ty (show kitB "str" "tuple" = some false by decide +kernel), kit_ty (show kitB "str" "str" = some true by decide +kernel), kit_ty (show kitB "str" "bool" = some false by decide +kernel), kit_ty (show kitB "str" "int" = some false by decide +kernel)⟩
  | lst h1 _ _ => exact ⟨_, tyL h1, kit_ty (show kitB "list" "tuple" = some false by decide +kernel), kit_ty (show kitB "list" "str" = some false by decide +kernel), kit_ty (show kitB "list" "bool" = some false by decide +kernel), kit_ty (show kitB "list" "int" = some false by decide +kernel)⟩
  | tup h1 _ _ => exact ⟨_, tyT h1, kit_ty (show kitB "tuple" "tuple" = some true by decide +kernel), kit_ty (show kitB "tuple" "str" = some false by decide +kernel), kit_ty (show kitB "tuple" "bool" = some false by decide +kernel), kit_ty (show kitB "tuple" "int" = some false by decide +kernel)⟩
  | dic h1 => exact ⟨_, .base (.dK h1), kit_ty (show kitB "dict" "tuple" = some false by decide +kernel), kit_ty (show kitB "dict" "str" = some false by decide +kernel), kit_ty (show kitB "dict" "bool" = some false by decide +kernel), kit_ty (show kitB "dict" "int" = some false by decide +kernel)⟩
def rReprA (K : PySem.W.Frag) : List V → Hp → VK → Prop := fun xs H Q => ∃ (a : Addr) (d : PyData), xs = [.ref a] ∧ Da K H (.ref a) d ∧ d.showable = true ∧ d.depth ≤ 60 ∧ d.shown.length ≤ sizeLine ∧ Q (.str d.shown) H
end Jv
namespace Jv
open PySem PySem.Spec PyProof.Rows L2
/-! ### tuples of texts -/
def within (xs ys : List Str) : Bool := decide (ys.length ≤ xs.length) && decide (xs.drop (xs.length - ys.length) = ys)
def below (xs ys : List Str) : Bool := decide (xs.take ys.length = ys)
theorem eqvAll_strs : ∀ xs ys : List Str, PyData.eqvAll (xs.map PyData.str) (ys.map PyData.str) = decide (xs = ys)
  | [], [] => rfl
  | [], y :: ys => rfl
  | x :: xs, [] => rfl
  | x :: xs, y :: ys => by
    show (PyData.eqv (.str x) (.str y) && PyData.eqvAll (xs.map PyData.str) (ys.map PyData.str)) = _
    rw [eqvAll_strs xs ys]
    show ((x == y) && decide (xs = ys)) = _
    by_cases h : x = y
    · subst h
      simp
    · have : (x == y) = false := by simpa using h
      rw [this]
      simp [h]
theorem eqv_strs (xs ys : List Str) : PyData.eqv (.tuple (xs.map .str)) (.tuple (ys.map .str)) = decide (xs = ys) := eqvAll_strs xs ys
theorem canLay_strs : ∀ xs : List Str, (∀ x ∈ xs, PyData.strOk x = true) → PyData.canLayAll0 (xs.map PyData.str) = true
  | [], _ => rfl
  | x :: xs, h => by
    show (PyData.strOk x && PyData.canLayAll0 (xs.map PyData.str)) = true
    rw [h x List.mem_cons_self, canLay_strs xs fun y hy => h y (List.mem_cons_of_mem _ hy)]
    rfl
theorem depth_strs : ∀ xs : List Str, PyData.depthAll (xs.map PyData.str) = 0
  | [] => rfl
  | x :: xs => by
    show max 0 (PyData.depthAll (xs.map PyData.str)) = 0
    rw [depth_strs xs]
    rfl
theorem shaped_strs {xs : List Str} (h : ∀ x ∈ xs, PyData.strOk x = true) : SeqAt.shaped (.tuple (xs.map .str)) = true := by
  show (PyData.canLayAll0 (xs.map PyData.str) && decide (PyData.depthAll (xs.map PyData.str) + 1 ≤ 64)) = true
  rw [canLay_strs xs h, depth_strs xs]
  rfl
theorem cut_from (xs : List V) {k : Nat} (h : k ≤ xs.length) : cutV xs (some (k : Int)) none = xs.drop k := by
  unfold cutV
  rw [HT.sIx_nat, HT.sIx_none, Nat.min_eq_left h]
  exact List.take_of_length_le (by rw [List.length_drop]; exact Nat.le_refl _)
theorem cut_to (xs : List V) (k : Nat) : cutV xs none (some (k : Int)) = xs.take k := by
  unfold cutV
  rw [HT.sIx_nat, HT.sIx_none]
  show ((xs.drop 0).take (min k xs.length - 0)) = _
  rw [List.drop_zero, Nat.sub_zero]
  by_cases h : k ≤ xs.length
  · rw [Nat.min_eq_left h]
  · rw [Nat.min_eq_right (by omega), List.take_of_length_le (Nat.le_refl _), List.take_of_length_le (by omega)]
theorem within_iff (xs ys : List Str) : within xs ys = true ↔ ∀ k, k < ys.length → k < xs.length ∧ xs[xs.length - 1 - k]? = ys[ys.length - 1 - k]? := by
  unfold within
  rw [Bool.and_eq_true, decide_eq_true_eq, decide_eq_true_eq]
  constructor
  · rintro ⟨h1, h2⟩ k hk
    refine ⟨by omega, ?_⟩
    have e : xs[xs.length - 1 - k]? = (xs.drop (xs.length - ys.length))[ys.length - 1 - k]? := by
      rw [List.getElem?_drop]
      congr 1
      omega
    rw [e, h2]
  · intro h
    have h1 : ys.length ≤ xs.length := by
      by_cases z : ys.length = 0
      · omega
      · have := (h (ys.length - 1) (by omega)).1
        omega
    refine ⟨h1, List.ext_getElem? fun i => ?_⟩
    rw [List.getElem?_drop]
    by_cases hi : i < ys.length
    · have := (h (ys.length - 1 - i) (by omega)).2
      rw [show xs.length - 1 - (ys.length - 1 - i) = xs.length - ys.length + i by omega, show ys.length - 1 - (ys.length - 1 - i) = i by omega] at this
      exact this
    · rw [List.getElem?_eq_none (by omega), List.getElem?_eq_none (by omega)]
theorem below_rev (xs ys : List Str) : below xs ys = within xs.reverse ys.reverse := by
  unfold below within
  rw [List.length_reverse, List.length_reverse, List.drop_reverse]
  by_cases h : ys.length ≤ xs.length
  · rw [decide_eq_true h, Bool.true_and, show xs.length - (xs.length - ys.length) = ys.length by omega]
    by_cases e : xs.take ys.length = ys
    · rw [decide_eq_true e, decide_eq_true (by rw [e])]
    · rw [decide_eq_false e, decide_eq_false fun z => e (List.reverse_inj.mp z)]
  · rw [decide_eq_false h, Bool.false_and]
    refine decide_eq_false fun z => ?_
    have := congrArg List.length z
    rw [List.length_take] at this
    omega
theorem lenStrs (xs : List Str) : ((xs.map V.str).length : Int) = (xs.length : Int) := by rw [List.length_map]
/-- a tuple of texts that stands in the heap -/
theorem da_strs {K : PySem.W.Frag} {H : Hp} {v : V} {xs : List Str} (h : Da K H v (.tuple (xs.map .str))) : ∃ a, v = .ref a ∧ SqT K H a (xs.map V.str) ∧ xs.length ≤ 1000 := by
  cases h with
  | tup h1 h2 hz =>
    have e := ofStrs h2
    subst e
    exact ⟨_, rfl, h1, by rw [List.length_map] at hz; exact hz⟩
theorem da_strs_len {K : PySem.W.Frag} {H : Hp} : ∀ {xs : List Str} {vs : List V}, DaAll K H vs (xs.map .str) → ∀ x ∈ xs, x.length ≤ 1000
  | [], _, _ => fun x hx => by cases hx
  | y :: ys, _, h => by
    have h : DaAll K H _ (.str y :: ys.map .str) := h
    cases h with
    | cons h1 h2 =>
      intro x hx
      rcases List.mem_cons.mp hx with e | e
      · subst e
        cases h1 with
        | str _ z => exact z
      · exact da_strs_len h2 x e
end Jv
/-! sites as the document tells them: addresses, writes, pages; their keys and effects -/
namespace Jv
open PySem PySem.Spec PyProof.Rows L2
structure Ad where
  host : List Str
  path : List Str
  sec : Bool
structure Wr where
  name : Str
  val : Option Str
  dom : Option (List Str)
  fold : Option (List Str)
  grd : Bool
structure Pg where
  ad : Ad
  ws : List Wr
def optS : Option Str → PyData
  | none => .none
  | some x => .str x
def optT : Option (List Str) → PyData
  | none => .none
  | some d => .tuple (d.map .str)
def optV : Option Str → V
  | none => .non
  | some x => .str x
def Ad.py (a : Ad) : PyData := .tuple [.tuple (a.host.map .str), .tuple (a.path.map .str), .bool a.sec]
def Wr.py (w : Wr) : PyData := .tuple [.str w.name, optS w.val, optT w.dom, optT w.fold, .bool w.grd]
def Pg.py (p : Pg) : PyData := .tuple [p.ad.py, .tuple (p.ws.map Wr.py)]
def sitePy (s : List Pg) : PyData := .tuple (s.map Pg.py)
def okStrs (xs : List Str) : Prop := ∀ x ∈ xs, PyData.strOk x = true
def Ad.Ok (a : Ad) : Prop := okStrs a.host ∧ okStrs a.path
def Wr.Ok (w : Wr) : Prop := PyData.strOk w.name = true ∧ (∀ x, w.val = some x → PyData.strOk x = true) ∧ (∀ d, w.dom = some d → okStrs d) ∧ ∀ d, w.fold = some d → okStrs d
def Pg.Ok (p : Pg) : Prop := p.ad.Ok ∧ p.ws.length ≤ 5 ∧ ∀ w ∈ p.ws, w.Ok
def SiteOk (s : List Pg) : Prop := s.length ≤ 5 ∧ ∀ p ∈ s, p.Ok
/-! ### keys and effects -/
def takenM (a : Ad) (w : Wr) : Bool := !(w.grd && !a.sec) && (match w.dom with
  | none => true
  | some d => within a.host d)
def keyM (a : Ad) (w : Wr) : Ky := ⟨w.name, w.dom.getD a.host, w.fold.getD a.path.dropLast, w.dom.isNone⟩
/-- what a page has taken: the key, the value, guarded -/
def takenL (a : Ad) : List Wr → List (Ky × Option Str × Bool)
  | [] => []
  | w :: ws => if takenM a w then (keyM a w, w.val, w.grd) :: takenL a ws else takenL a ws
theorem takenL_len (a : Ad) : ∀ ws : List Wr, (takenL a ws).length ≤ ws.length
  | [] => Nat.le_refl _
  | w :: ws => by
    have := takenL_len a ws
    unfold takenL
    split
    · rw [List.length_cons, List.length_cons]
      omega
    · rw [List.length_cons]
      omega
theorem takenL_app (a : Ad) : ∀ xs ys : List Wr, takenL a (xs ++ ys) = takenL a xs ++ takenL a ys
  | [], _ => rfl
  | w :: ws, ys => by
    show (if takenM a w then (keyM a w, w.val, w.grd) :: takenL a (ws ++ ys) else takenL a (ws ++ ys)) = (if takenM a w then (keyM a w, w.val, w.grd) :: takenL a ws else takenL a ws) ++ takenL a ys
    rw [takenL_app a ws ys]
    split <;> rfl
/-! ### as they stand -/
variable {K : PySem.W.Frag} {H : Hp} {v : V}
theorem da_cons {vs : List V} {d : PyData} {ds : List PyData} (h : DaAll K H vs (d :: ds)) : ∃ x r, vs = x :: r ∧ Da K H x d ∧ DaAll K H r ds := by
  cases h with
  | cons h1 h2 => exact ⟨_, _, rfl, h1, h2⟩
theorem da_nil {vs : List V} (h : DaAll K H vs []) : vs = [] := by
  cases h
  rfl
theorem da_bl {b : Bool} (h : Da K H v (.bool b)) : v = .bl b := by
  cases h
  rfl
theorem da_str {x : Str} (h : Da K H v (.str x)) : v = .str x := by
  cases h
  rfl
theorem da_ad {a : Ad} (h : Da K H v a.py) : ∃ b x y, v = .ref b ∧ SqT K H b [x, y, .bl a.sec] ∧ Da K H x (.tuple (a.host.map .str)) ∧ Da K H y (.tuple (a.path.map .str)) := by
  have h : Da K H v (.tuple [.tuple (a.host.map .str), .tuple (a.path.map .str), .bool a.sec]) := h
  cases h with
  | tup h1 h2 _ =>
    obtain ⟨x1, r1, rfl, p1, g1⟩ := da_cons h2
    obtain ⟨x2, r2, rfl, p2, g2⟩ := da_cons g1
    obtain ⟨x3, r3, rfl, p3, g3⟩ := da_cons g2
    have e3 := da_bl p3
    subst e3
    have e4 := da_nil g3
    subst e4
    exact ⟨_, _, _, rfl, h1, p1, p2⟩
theorem da_optS {o : Option Str} (h : Da K H v (optS o)) : v = optV o := by
  cases o with
  | none =>
    have h : Da K H v .none := h
    cases h
    rfl
  | some x =>
    have h : Da K H v (.str x) := h
    cases h
    rfl
theorem da_wr {w : Wr} (h : Da K H v w.py) : ∃ b x y, v = .ref b ∧ SqT K H b [.str w.name, optV w.val, x, y, .bl w.grd] ∧ Da K H x (optT w.dom) ∧ Da K H y (optT w.fold) := by
  have h : Da K H v (.tuple [.str w.name, optS w.val, optT w.dom, optT w.fold, .bool w.grd]) := h
  cases h with
  | tup h1 h2 _ =>
    obtain ⟨x1, r1, rfl, p1, g1⟩ := da_cons h2
    obtain ⟨x2, r2, rfl, p2, g2⟩ := da_cons g1
    obtain ⟨x3, r3, rfl, p3, g3⟩ := da_cons g2
    obtain ⟨x4, r4, rfl, p4, g4⟩ := da_cons g3
    obtain ⟨x5, r5, rfl, p5, g5⟩ := da_cons g4
    have e1 := da_str p1
    subst e1
    have e2 := da_optS p2
    subst e2
    have e5 := da_bl p5
    subst e5
    have e6 := da_nil g5
    subst e6
    exact ⟨_, _, _, rfl, h1, p3, p4⟩
theorem da_pg {p : Pg} (h : Da K H v p.py) : ∃ b x y, v = .ref b ∧ SqT K H b [x, y] ∧ Da K H x p.ad.py ∧ Da K H y (.tuple (p.ws.map Wr.py)) := by
  have h : Da K H v (.tuple [p.ad.py, .tuple (p.ws.map Wr.py)]) := h
  cases h with
  | tup h1 h2 _ =>
    obtain ⟨x1, r1, rfl, p1, g1⟩ := da_cons h2
    obtain ⟨x2, r2, rfl, p2, g2⟩ := da_cons g1
    have e4 := da_nil g2
    subst e4
    exact ⟨_, _, _, rfl, h1, p1, p2⟩
theorem da_seq {α : Type} {f : α → PyData} {l : List α} (h : Da K H v (.tuple (l.map f))) : ∃ b xs, v = .ref b ∧ SqT K H b xs ∧ xs.length = l.length ∧ DaAll K H xs (l.map f) := by
  cases h with
  | tup h1 h2 _ => exact ⟨_, _, rfl, h1, by rw [DaAll.len h2, List.length_map], h2⟩
theorem da_nth {α : Type} {f : α → PyData} {l : List α} {xs : List V} {i : Nat} {x : V} (h : DaAll K H xs (l.map f)) (e : xs[i]? = some x) : ∃ a, l[i]? = some a ∧ Da K H x (f a) := by
  obtain ⟨d, e1, e2⟩ := DaAll.get h e
  rw [List.getElem?_map] at e1
  cases q : l[i]? with
  | none =>
    rw [q] at e1
    cases e1
  | some a =>
    rw [q] at e1
    cases e1
    exact ⟨a, rfl, e2⟩
/-- (key, value, guarded), one by one -/
def TwAt (K : PySem.W.Frag) (H : Hp) (x : V) (t : Ky × Option Str × Bool) : Prop := ∃ b c, x = .ref b ∧ SqT K H b [.ref c, optV t.2.1, .bl t.2.2] ∧ KyAt K H c t.1
theorem TwAt.same {H' : Hp} {x : V} {t : Ky × Option Str × Bool} (s : Same H H') (h : TwAt K H x t) : TwAt K H' x t := by
  obtain ⟨b, c, e, h1, h2⟩ := h
  exact ⟨b, c, e, sqT_same s h1, h2.same s⟩
theorem TwAt.tupS {H' : Hp} {x : V} {t : Ky × Option Str × Bool} (s : TupS H H') (h : TwAt K H x t) : TwAt K H' x t := by
  obtain ⟨b, c, e, h1, h2⟩ := h
  exact ⟨b, c, e, s.sq h1, h2.tupS s⟩
theorem tupS_lst {D : Addr} {acc : List V} {o : HO} (d : H D = some (.lst acc)) : TupS H (upd H D o) := fun b u e t => by
  have n : b ≠ D := by
    rintro rfl
    rw [d] at e
    cases e
    rcases t with ⟨ys, t⟩ | ⟨y1, y2, t⟩ <;> cases t
  rw [upd_ne n]
  exact e
abbrev TwAll (K : PySem.W.Frag) (H : Hp) : List V → List (Ky × Option Str × Bool) → Prop := Paired (TwAt K H)
theorem TwAll.same {H' : Hp} {xs : List V} {ts : List (Ky × Option Str × Bool)} (s : Same H H') (h : TwAll K H xs ts) : TwAll K H' xs ts := Paired.mapP h fun _ _ z => z.same s
theorem TwAll.tupS {H' : Hp} {xs : List V} {ts : List (Ky × Option Str × Bool)} (s : TupS H H') (h : TwAll K H xs ts) : TwAll K H' xs ts := Paired.mapP h fun _ _ z => z.tupS s
theorem TwAll.snoc {xs : List V} {ts : List (Ky × Option Str × Bool)} {x : V} {t : Ky × Option Str × Bool} (h : TwAll K H xs ts) (g : TwAt K H x t) : TwAll K H (xs ++ [x]) (ts ++ [t]) := Paired.snoc h g
end Jv
/-! enumerate over a tuple -/
namespace Jv
open PySem PySem.Spec PyProof.Rows L2
theorem enum_makes {v : Value} {o : Obj} {H : Heap → Prop} (B : Begins v o H) : Meets (Builtin.«enumerate.__new__» ⟨[.type "enumerate", v], []⟩) (fun _ R s => H s.heap ∧
    R (.ok (.ret (.ref (s.heap.push o).objs.size))) { s with heap := (s.heap.push o).push { cls := .type "enumerate", data := .fields #[.none, .bool false, .ref s.heap.objs.size, rawInt 0, .none, .none] } }) := by
  refine .of_wp fun pr wo Ar R s ⟨h1, h2⟩ => ?_
  obtain ⟨hp, g, d, tk, os⟩ := s
  have sb := sub_enumerate
  have it : ∀ {A' : Around} {E Q : Value → Shared → Prop}, Q (.ref hp.objs.size) ⟨(hp.push o), g, d, tk, os⟩ → wpAny (model pr wo) A' (pyIter v) Q E ⟨hp, g, d, tk, os⟩ := fun q => B.iter pr wo _ _ ⟨hp, g, d, tk, os⟩ _ h1 q
  wp_walk
  refine wpAny_stack_any fun st => wpAny_pure ?_
  split
  · rename_i c _ _ _ _ _
    cases (c == Value.type "enumerate") <;> (wp_walk using it; exact ⟨_, rfl, h2⟩)
  · wp_walk using it
    exact ⟨_, rfl, h2⟩
theorem enum_begins {pr : Program} {wo : World} {A : Around} {E : Value → Shared → Prop} {s : Shared} {v : Value} {o : Obj} {H : Heap → Prop} {Q : Value → Shared → Prop} (B : Begins v o H) (h1 : H s.heap)
    (q : ∀ h', IsEnum h' (s.heap.objs.size + 1) s.heap.objs.size 0 .none → h'.get? s.heap.objs.size = some o → (∀ b o', s.heap.get? b = some o' → h'.get? b = some o') → Q (.ref (s.heap.objs.size + 1)) { s with heap := h' }) :
    wpAny (model pr wo) A (call (.type "enumerate") [v]) Q E s := by
  refine callType_new F.called_enumerate (by decide) (F.typeCall_enumerate_1 _) (F.newCall_enumerate_1 _) (fun obj => F.args_object_init_2 obj _) F.entry_enumerate_new (enum_makes B) ⟨h1, ?_⟩
  have z : (s.heap.push o).objs.size = s.heap.objs.size + 1 := by rw [Heap.size_push]
  have ge : ((s.heap.push o).push { cls := .type "enumerate", data := .fields #[.none, .bool false, .ref s.heap.objs.size, rawInt 0, .none, .none] }).get? (s.heap.push o).objs.size = some { cls := .type "enumerate", data := .fields #[.none, .bool false, .ref s.heap.objs.size, rawInt 0, .none, .none] } := Heap.get?_push_size _ rfl
  rw [z] at ge
  show _ ∧ _
  rw [z]
  exact ⟨⟨_, ge, rfl⟩, q _ ge (Heap.get?_push_of_some _ (Heap.get?_push_size _ B.free)) fun b o' e => Heap.get?_push_of_some _ (Heap.get?_push_of_some _ e)⟩
/-- the tuple at a, each item in a new pair behind its number -/
def Jte (K : PySem.W.Frag) (a : Addr) : It where
  go := fun i H => ∃ (xs : List V) (x : V), SqT K H a xs ∧ xs[i]? = some x
  yld := fun i H v H' => ∃ (T : Addr) (x : V), v = .ref T ∧ H T = none ∧ H' = upd H T (.tup [.int (i : Nat), x]) ∧ ∀ xs, SqT K H a xs → xs[i]? = some x
  stop := fun i H => ∃ xs : List V, SqT K H a xs ∧ xs.length = i
theorem turn_jte {P : Program} {w : World} {K : PySem.W.Frag} {elts : List Expr} {kk : Nat} {tpos : Pos} (a e it : Addr) : Turn P w K (.Tuple elts kk tpos) (Jte K a) [e, it] e (fun i h => (∃ old, IsEnum h e it ((i : Nat) : Int) old) ∧ h.IsTupleIter it a i ∧ e ≠ it ∧ a ≠ it) where
  mem := by simp
  obj := fun i h st b hb => by
    obtain ⟨⟨old, he⟩, ⟨o, ho, hc, hd⟩, _⟩ := st
    rcases (by simpa using hb : b = e ∨ b = it) with z | z
    · subst z
      exact ⟨_, he, fun v q => nomatch q⟩
    · subst z
      exact ⟨o, ho, fun v q => by rw [hd] at q; cases q⟩
  keep := fun i h h' st k => let ⟨⟨old, he⟩, hi, ne⟩ := st
    ⟨⟨old, k e (by simp) _ he⟩, hi.at fun o q => k it (by simp) o q, ne⟩
  self := fun A i s Q E st h => let ⟨⟨_, he⟩, _⟩ := st; (wpAny_pyIter_enum he) h
  item := by
    intro X hP hw hK hc i pins s σ H E I hf ⟨⟨old, he⟩, hit, ne, na⟩ ⟨xs, x, hq, hx⟩
    subst hP hw hK
    obtain ⟨its, rv, p, hz⟩ := I.tuple hq
    obtain ⟨u, hu, ru⟩ := rv.get hx
    have le : e < s.heap.objs.size := Heap.lt_size he
    have li : it < s.heap.objs.size := by
      obtain ⟨_, z, _⟩ := hit
      exact Heap.lt_size z
    have hlt : i < its.toArray.size := by
      rcases Nat.lt_or_ge i its.length with z | z
      · simpa using z
      · rw [List.getElem?_eq_none z] at hu
        cases hu
    by_cases ea : e = a
    · obtain ⟨o, ho, hc', _⟩ := (show s.heap.IsTuple a its.toArray from p)
      rw [← ea, he] at ho
      cases ho
      injection hc' with z
      exact absurd z (by decide)
    · refine wpAny_pyNext_enum_itemD (Draws.tuple (A := X.A.in1) (show X.A.in1.handled = none from I.ok.hd hc) it a na its.toArray) he ⟨hit, p⟩ hlt ne (by simp [ne, ea]) fun y h' tk hy ho st' hT hsz hk => ?_
      obtain rfl : y = u := by
        have z : its.toArray[i]? = some y := hy
        rw [show its.toArray[i]? = its[i]? by simp, hu] at z
        exact (Option.some.inj z).symm
      refine ⟨_, rfl, wpAny_letOwnedTupleGo_enum (s := { s with heap := h', toks := tk + 1 }) ho fun h2 he' sb => ?_⟩
      have hT2 : h2.get? s.heap.objs.size = some { cls := .type "tuple", data := .seq #[.int i tk, y] } := (sb.2 _ (Nat.ne_of_gt le)).trans hT
      have I1 : Inv X pins σ (upd H s.heap.objs.size (.tup [.int (i : Nat), x])) { s with heap := h2, toks := tk + 1 } := I.turnedNew (ch := [e, it])
        (fun b ob hb z => (sb.2 b (fun z => hb (by simp [z]))).trans (hk b ob (fun z => hb (by simp [z])) (fun z => hb (by simp [z])) z)) hf (Nat.le_refl _) ⟨by show 2 ≤ sizeLine; decide, [.int i tk, y], .cons ⟨_, rfl⟩ (.cons ru .nil), ⟨_, hT2, rfl, _, rfl⟩⟩
      refine ⟨.ref s.heap.objs.size, _, I1, rfl, ⟨_, x, rfl, I.hok.fresh (Nat.le_refl _), rfl, fun ys hy => by rw [I.tuple_inj hy hq]; exact hx⟩, ⟨⟨y, ?_⟩, st'.1.at fun o z => (sb.2 it (Ne.symm ne)).trans z, ne, na⟩, fun b hb => ?_⟩
      · rw [show ((i + 1 : Nat) : Int) = (i : Int) + 1 by omega]
        exact he'
      · have lb : b < s.heap.objs.size := by
          rcases (by simpa using hb : b = e ∨ b = it) with z | z <;> rw [z] <;> assumption
        rw [upd_ne (Nat.ne_of_lt lb)]
        exact (hf b hb).1
  done := by
    intro X hP hw hK hc i pins s σ H E I hf ⟨⟨old, he⟩, hit, ne, na⟩ ⟨xs, hq, hx⟩
    subst hP hw hK
    obtain ⟨its, rv, p, hz⟩ := I.tuple hq
    obtain ⟨f0, f1, f2, f3, f4, f5⟩ := hf it (by simp)
    have z : its.toArray.size = i := by
      rw [← hx, rv.length]
      simp
    subst z
    exact wpAny_pyNext_enum_endD (Draws.tuple (A := X.A.in1) (show X.A.in1.handled = none from I.ok.hd hc) it a na its.toArray) he ⟨hit, p⟩ fun h' eb => ⟨rfl, I.turned (t' := s.toks) (fun b o hb q => eb b o hb q) f0 f1 f3 f4 f5⟩
def iJt (K : PySem.W.Frag) (ta : TA) : TI := fun σ H R => ta σ H fun vs H1 => ∃ a xs, vs = [.ref a] ∧ SqT K H1 a xs ∧ R (Jte K a) H1
theorem pi_jenum {X : Cx} {e : Expr} {ta : TA} {p pos tpos : Pos} {elts : List Expr} {kk : Nat} (hg : Gl X "enumerate") (hm : X.mg "enumerate" = none) (ha : PA X [e] ta) (hs : starEach [e] X.env = [(false, eval e X.env)] := by rfl) : PI X (.Tuple elts kk tpos) (.Call (.Name "enumerate" p) [e] [] pos) (iJt X.K ta) := by
  refine ⟨fun pins s σ H R I h => Call_ (ld_blt I hg hm boot_enumerate (PyProof.Rows.callWith_type1 (thn (ha.run pos pins s σ H _ I h) fun us s1 ⟨vs, H1, I1, r1, a, xs, ex, hq, q⟩ => ?_) hs rfl))⟩
  subst ex
  cases r1 with
  | cons r rr =>
    cases rr
    cases r
    obtain ⟨its, rv, p', hz⟩ := I1.tuple hq
    have la : a ≠ s1.heap.objs.size := by
      obtain ⟨o, z, _⟩ := (show s1.heap.IsTuple a its.toArray from p')
      exact Nat.ne_of_lt (Heap.lt_size z)
    refine enum_begins (begins_tuple a its.toArray) p' fun h' he hi hk => wpAny_pyIter_enum he ⟨s1.heap.objs.size + 1, [s1.heap.objs.size + 1, s1.heap.objs.size], _, _, H1, rfl, I1.kept (t' := s1.toks) hk, turn_jte a (s1.heap.objs.size + 1) s1.heap.objs.size, ⟨⟨.none, he⟩, ⟨_, hi, rfl, rfl⟩, Nat.succ_ne_self _, la⟩, fun b hb => ?_, q⟩
    have lb : s1.heap.objs.size ≤ b := by
      rcases (by simpa using hb : b = s1.heap.objs.size + 1 ∨ b = s1.heap.objs.size) with z | z
      · rw [z]
        exact Nat.le_succ _
      · rw [z]
        exact Nat.le_refl _
    exact I1.fpOk lb (I1.hok.fresh lb)
theorem walk_jte {K : PySem.W.Frag} {a : Addr} {xs : List V} : Walk (Jte K a) xs.length (fun H => SqT K H a xs) (YPair (fun i => some (.int (i : Nat))) (fun i => xs[i]?)) :=
  ⟨fun i _ hi q => ⟨xs, xs[i], q, by simp [hi]⟩, fun _ q => ⟨xs, q, rfl⟩, fun i H v H' _ q ⟨T, x, h1, h2, h3, h4⟩ => ⟨T, .int (i : Nat), x, h1, h2, h3, rfl, h4 xs q⟩⟩
end Jv
/-! own exceptions: class C(B) over own B over ValueError; __init__ says B.__init__(self, text) and keeps one field -/
namespace Jv
open PySem PySem.Spec PyProof.Rows L2
/-- B.__init__(self, ..), B an own class that has no __init__ of its own -/
structure BaseI (K : PySem.W.Frag) (mg : Str → Option Value) (x : Str) (B : Addr) : Prop where
  gB : mg x = some (.ref B)
  ga : PySem.W.specialIn K (.ref B) "__getattribute__" = some (some (.builtin "type.__getattribute__"))
  rd : PySem.W.readsIn K B (.type "type") = true
  fi : PySem.W.findCls K (.ref B) (.type "type") "__init__" = some (.val (.builtin "ValueError.__init__"))
section
variable {X : Cx}
theorem pe_jinit {pl : Sem Bool} {x : Str} {B : Addr} {e : Expr} {es : List Expr} {ta : TA} {p1 p2 pos : Pos} (b : BaseI X.K X.mg x B) (ha : PA X (e :: es) ta) (hg : Gl X x := by rfl) (hdb : (x == ("__debug__" : Str)) = false := by decide)
    (hc : eval (.Call (.Attribute (.Name x p1) "__init__" p2) (e :: es) [] pos) X.env = (do
      let ov ← eval (.Name x p1) X.env
      standAt p2.atName
      let (f, first) ← holding [ov] (getMethod ov "__init__" pl)
      callWith pos f first (backTo pos (starEach (e :: es) X.env)) (backToKw pos (keywordEach [] X.env))) := by rfl)
    (he : starEach (e :: es) X.env = (false, eval e X.env) :: starEach es X.env := by rfl) (hpl : (backTo pos (starEach es X.env)).any (·.1) = false := by rfl) :
    PE X (.Call (.Attribute (.Name x p1) "__init__" p2) (e :: es) [] pos) (tVeI X.K ta) := by
  refine ⟨fun pn s sg H Q I h => PySem.W.methodCall_KW (ld_glob I hg b.gB ?_ hdb) hc⟩
  refine PySem.W.method_cls I.kIn b.ga (PySem.W.cls_value I.kIn b.rd b.fi rfl ?_)
  show wpAny _ _ (callWith pos (Value.builtin "ValueError.__init__") [] (backTo pos (starEach (e :: es) X.env)) []) _ _ _
  refine PyProof.Rows.callWith_method1 (thn (ha.run pos pn _ sg H _ (I.tok _) h) fun us s1 ⟨vs, H1, I1, r1, a, C, ws, ev, hl, T, ea, q⟩ => ?_) he hpl
  subst ev
  cases r1 with
  | @cons _ u0 _ ur ra rw' =>
    obtain rfl : u0 = Value.ref a := ra
    refine oinit_ok T I1 ea ?_ fun s' J => ⟨.non, H1, J, rfl, q⟩
    rw [← Paired.length rw', sizeLine_eq]
    omega
end
/-- what __init__(self, f) leaves -/
def spInit (K : PySem.W.Frag) (f : Str) : Sp := fun vs H Q _ => ∃ (a C : Addr) (y : V), vs = [.ref a, y] ∧ H a = some (exo a C none) ∧ OexC K C ∧ PySem.W.findIn K (.ref C) f = some none ∧
  ∀ dx, H dx = none → dx ≠ a → Q .non (upd (upd H dx (exd dx [(f, y)])) a (exo a C (some dx)))
structure Exn (P : Program) (w : World) (K : PySem.W.Frag) (mg : Str → Option Value) (base : Heap) (x f : Str) (C : Addr) : Prop where
  gC : mg x = some (.ref C)
  T : OexC K C
  noF : PySem.W.findIn K (.ref C) f = some none
  ini : ∃ fI fd, PySem.W.findIn K (.ref C) "__init__" = some (some (.ref fI)) ∧ PySem.W.typeIn K (.ref fI) = some (.type "function") ∧ Binds K fd ["self", f] [] ∧ FnOk P w K mg base CX0 1 fI fd ["self", f] (spInit K f)
/-- raise C(e) -/
theorem ps_raiseE {X : Cx} {x f : Str} {C : Addr} {W : WX} {e : Expr} {te : TE} {p pos pos2 : Pos} (N : Exn X.prog X.w X.K X.mg X.base x f C) (hr : Room 2 X.A) (tk : Takes X W) (he : PE X e te) (hcalm : X.calm = true := by rfl) (hg : Gl X x := by rfl) (hdb : (x == ("__debug__" : Str)) = false := by decide)
    (hs : starEach (e :: []) X.env = (false, eval e X.env) :: starEach [] X.env := by rfl) (hpl : (backTo pos (starEach [] X.env)).any (·.1) = false := by rfl) :
    PS X (.Raise (some (.Call (.Name x p) [e] [] pos)) none pos2) (fun _ sg H => tMkO C (spInit X.K f) [] (tCons te tNil) sg H fun cls d H' => W cls d sg H') := by
  obtain ⟨fI, fd, i1, i2, i3, i4⟩ := N.ini
  exact ps_raise hcalm tk (pmk_oex N.T i1 i2 i4 hr i3 .nil pass0 hg N.gC (pa_cons he pa_nil hs) hdb hs hpl)
/-- its reading, behind the argument y -/
theorem mk_read {P : Program} {w : World} {K : PySem.W.Frag} {mg : Str → Option Value} {base : Heap} {x f : Str} {C : Addr} {H1 : Hp} {y : V} {Wq : XK} (N : Exn P w K mg base x f C) (q : ∀ d Hx, H1 d = none → Same H1 Hx → Hx d = some (.xd [(f, y)]) → Wq (.ref C) (some d) Hx) :
    [y].length ≤ 1000 ∧ ∀ a, H1 a = none → spInit K f (.ref a :: ([y] ++ [])) (upd H1 a (exo a C none))
      (fun v H2 => v = .non ∧ ∃ (d : Addr) (fs : List (Str × V)), H2 a = some (exo a C (some d)) ∧ H2 d = some (exd d fs) ∧ H1 d = none ∧ Wq (.ref C) (some d) (upd (del H2 a) d (.xd fs))) (fun _ _ _ => False) := by
  refine ⟨by show 1 ≤ 1000; decide, fun a na => ⟨a, C, y, rfl, upd_same, N.T, N.noF, fun dx nd ne => ⟨rfl, dx, [(f, y)], upd_same, ?_, ?_, ?_⟩⟩⟩
  · rw [upd_ne ne]
    exact upd_same
  · rw [upd_ne ne] at nd
    exact nd
  · have nd1 : H1 dx = none := by
      rw [upd_ne ne] at nd
      exact nd
    refine q dx _ nd1 (fun b o e => ?_) upd_same
    have n1 : b ≠ a := ne_of_none e na
    have n2 : b ≠ dx := ne_of_none e nd1
    rw [upd_ne n2, del_ne n1, upd_ne n1, upd_ne n2, upd_ne n1]
    exact e
end Jv
/-! defs that may raise, by their names -/
namespace Jv
open PySem PySem.Spec PyProof.Rows L2
def OkX (P : Program) (w : World) (K : PySem.W.Frag) (mg : Str → Option Value) (base : Heap) (x : Str) (ps : List Str) (k : Nat) (sp : Sp) : Prop :=
  ∃ f fd, mg x = some (.ref f) ∧ PySem.W.keepIn K (.ref f) = true ∧ Binds K fd ps [] ∧ FnOk P w K mg base (L2.CX P w) k f fd ps sp
section
variable {P : Program} {w : World} {K : PySem.W.Frag} {mg : Str → Option Value} {base : Heap} {x : Str} {st : Stmt} {N ps : List Str} {k : Nat} {sp : Sp}
theorem Dn.okX (D : Dn K mg x st ps) (S : FnScope N ps (defScope st)) (many : ∀ vs H Q E, sp vs H Q E → vs.length = ps.length)
    (walk : ∀ (f : Addr) (cdv : Value) (A : Around) (out : List Env) (s : Shared) (H : Hp) (vs : List V) (Q : VK) (E : XK), Room k (A.deeper (envOfC x (defScope st) s.heap.objs.size f cdv)) → sp vs H Q E →
      ∃ t, PSs (cxOf (L2.CX P w) P w K mg base N x (defScope st) f cdv A out s H E) (defBody st) t ∧ t { nx := fun _ H' => Q .non H', rt := Q } (start N vs) H) : OkX P w K mg base x ps (k + 1) sp := by
  obtain ⟨f, fd, a, F, b⟩ := D
  exact ⟨f, fd, a, F.kp, b, Fun.okX F S many (walk f)⟩
theorem OkX.imp {sp' : Sp} (F : OkX P w K mg base x ps k sp) (h : ∀ vs H Q E, sp' vs H Q E → sp vs H Q E) : OkX P w K mg base x ps k sp' := by
  obtain ⟨f, fd, a, b, c, d⟩ := F
  exact ⟨f, fd, a, b, c, d.imp h⟩
end
section
variable {X : Cx} {x : Str} {ps : List Str} {k : Nat} {sp : Sp} {W : WX} {p pos : Pos} {e : Expr} {es : List Expr} {t : TA}
/-- what it raises goes on -/
theorem pe_okX (h : OkX X.prog X.w X.K X.mg X.base x ps k sp) (hr : Room k X.A) (tk : Takes X W) (ha : PA X (e :: es) t) (hg : Gl X x := by rfl) (hdb : (x == ("__debug__" : Str)) = false := by decide)
    (he : starEach (e :: es) X.env = (false, eval e X.env) :: starEach es X.env := by rfl) (hpl : (backTo pos (starEach es X.env)).any (·.1) = false := by rfl) :
    PE X (.Call (.Name x p) (e :: es) [] pos) (tCallS sp (WE W) t) := by
  obtain ⟨f, fd, a, b, c, d⟩ := h
  exact pe_callS d hr hg a b c (fun σ => passAt tk σ) ha hdb he hpl
/-- nothing is raised here -/
theorem pe_okX0 (h : OkX X.prog X.w X.K X.mg X.base x ps k sp) (hr : Room k X.A) (ha : PA X (e :: es) t) (hg : Gl X x := by rfl) (hdb : (x == ("__debug__" : Str)) = false := by decide)
    (he : starEach (e :: es) X.env = (false, eval e X.env) :: starEach es X.env := by rfl) (hpl : (backTo pos (starEach es X.env)).any (·.1) = false := by rfl) :
    PE X (.Call (.Name x p) (e :: es) [] pos) (tCall sp [] E0 t) := by
  obtain ⟨f, fd, a, b, c, d⟩ := h
  exact pe_call d hr hg a b c .nil passL ha hdb he hpl
end
/-- the j-th def in the class that c tells -/
def clsDef (c : Stmt) (j : Nat) : Stmt := match c with
  | .ClassDef _ _ _ body _ _ _ _ _ _ _ => body.getD j (.Pass ⟨0, 0, 0, 0⟩)
  | _ => .Pass ⟨0, 0, 0, 0⟩
/-- an error that keeps one field, as the text has it -/
structure ExnD (K : PySem.W.Frag) (mg : Str → Option Value) (x f qual : Str) (st : Stmt) (C : Addr) : Prop where
  gC : mg x = some (.ref C)
  T : OexC K C
  noF : PySem.W.findIn K (.ref C) f = some none
  ini : ∃ fI fd, PySem.W.findIn K (.ref C) "__init__" = some (some (.ref fI)) ∧ PySem.W.typeIn K (.ref fI) = some (.type "function") ∧ Binds K fd ["self", f] [] ∧ Fun K "__init__" qual st fI fd
theorem ExnD.exn {P : Program} {w : World} {K : PySem.W.Frag} {mg : Str → Option Value} {base : Heap} {x f qual : Str} {st : Stmt} {C : Addr} (D : ExnD K mg x f qual st C) (S : FnScope ["self", f] ["self", f] (defScope st))
    (walk : ∀ (fI : Addr) (cdv : Value) (A : Around) (out : List Env) (s : Shared) (H : Hp) (vs : List V) (Q : VK) (E : XK), Room 0 (A.deeper (envOfC qual (defScope st) s.heap.objs.size fI cdv)) → spInit K f vs H Q E →
      ∃ t, PSs (cxOf CX0 P w K mg base ["self", f] qual (defScope st) fI cdv A out s H E).nox (defBody st) t ∧ t { nx := fun _ H' => Q .non H', rt := Q } (start ["self", f] vs) H) : Exn P w K mg base x f C := by
  obtain ⟨fI, fd, a, b, c, F⟩ := D.ini
  refine ⟨D.gC, D.T, D.noF, fI, fd, a, b, c, F.ok S (fun vs H Q E h => ?_) (walk fI)⟩
  obtain ⟨a, C, y, rfl, _⟩ := h
  rfl
/-- an error without a field of its own -/
structure ExnQ (K : PySem.W.Frag) (mg : Str → Option Value) (x : Str) (C : Addr) : Prop where
  gC : mg x = some (.ref C)
  kC : PySem.W.keepIn K (.ref C) = true
  q : ∃ bmB, ExcBaseFacts "ValueError" "ValueError.__new__" "ValueError.__init__" bmB ∧ PySem.W.excIn K C bmB "ValueError.__new__" = true
  exC : PySem.W.subIn K (.ref C) (.type "BaseException") = some true
  tyC : PySem.W.typeIn K (.ref C) = some (.type "type")
theorem ps_raiseQ {X : Cx} {x m : Str} {j : Nat} {C : Addr} {W : WX} {p p2 pos pos2 : Pos} (N : ExnQ X.K X.mg x C) (tk : Takes X W) (hcalm : X.calm = true := by rfl) (hg : Gl X x := by rfl) (hdb : (x == ("__debug__" : Str)) = false := by decide) :
    PS X (.Raise (some (.Call (.Name x p) [.Constant (.str m) j p2] [] pos)) none pos2) (fun _ sg H => W (.ref C) none sg H) := by
  obtain ⟨bmB, F, q⟩ := N.q
  exact ps_raise hcalm tk (pmk_own F q N.gC N.kC (raises_own N.exC N.tyC) hg hdb)
end Jv
namespace S1
open PySem PySem.Spec PyProof.Rows L2 Jv
def topS (i : Nat) : Stmt := PySem.Challenge.pw_jarvisits_k25_whole_mended_sites.main.body.getD i (.Pass ⟨0, 0, 0, 0⟩)
abbrev st_is_word : Stmt := topS 13
abbrev N_is_word : List Str := ["thing", "signs", "sign"]
abbrev P_is_word : List Str := ["thing", "signs"]
theorem sc_is_word : FnScope N_is_word P_is_word (defScope st_is_word) := ⟨rfl, rfl, rfl, by decide +kernel, rfl, by decide +kernel, by decide +kernel⟩ -- level 1, cells signs
abbrev st_is_label : Stmt := topS 14
abbrev N_is_label : List Str := ["thing"]
abbrev P_is_label : List Str := ["thing"]
theorem sc_is_label : FnScope N_is_label P_is_label (defScope st_is_label) := ⟨rfl, rfl, rfl, by decide +kernel, rfl, by decide +kernel, by decide +kernel⟩ -- level 2
abbrev st_is_host : Stmt := topS 15
abbrev N_is_host : List Str := ["thing", "label"]
abbrev P_is_host : List Str := ["thing"]
theorem sc_is_host : FnScope N_is_host P_is_host (defScope st_is_host) := ⟨rfl, rfl, rfl, by decide +kernel, rfl, by decide +kernel, by decide +kernel⟩ -- level 3
abbrev st_is_path : Stmt := topS 16
abbrev N_is_path : List Str := ["thing", "segment"]
abbrev P_is_path : List Str := ["thing"]
theorem sc_is_path : FnScope N_is_path P_is_path (defScope st_is_path) := ⟨rfl, rfl, rfl, by decide +kernel, rfl, by decide +kernel, by decide +kernel⟩ -- level 3
abbrev st_is_address : Stmt := topS 17
abbrev N_is_address : List Str := ["thing", "host", "path", "secure"]
abbrev P_is_address : List Str := ["thing"]
theorem sc_is_address : FnScope N_is_address P_is_address (defScope st_is_address) := ⟨rfl, rfl, rfl, by decide +kernel, rfl, by decide +kernel, by decide +kernel⟩ -- level 4
abbrev st_is_within : Stmt := topS 18
abbrev N_is_within : List Str := ["host", "other", "further"]
abbrev P_is_within : List Str := ["host", "other"]
theorem sc_is_within : FnScope N_is_within P_is_within (defScope st_is_within) := ⟨rfl, rfl, rfl, by decide +kernel, rfl, by decide +kernel, by decide +kernel⟩ -- level 1
abbrev st_is_name : Stmt := topS 22
abbrev N_is_name : List Str := ["thing"]
abbrev P_is_name : List Str := ["thing"]
theorem sc_is_name : FnScope N_is_name P_is_name (defScope st_is_name) := ⟨rfl, rfl, rfl, by decide +kernel, rfl, by decide +kernel, by decide +kernel⟩ -- level 2
abbrev st_need_name : Stmt := topS 23
abbrev N_need_name : List Str := ["thing"]
abbrev P_need_name : List Str := ["thing"]
theorem sc_need_name : FnScope N_need_name P_need_name (defScope st_need_name) := ⟨rfl, rfl, rfl, by decide +kernel, rfl, by decide +kernel, by decide +kernel⟩ -- level 3
abbrev st_is_number_below : Stmt := topS 24
abbrev N_is_number_below : List Str := ["thing", "many"]
abbrev P_is_number_below : List Str := ["thing", "many"]
theorem sc_is_number_below : FnScope N_is_number_below P_is_number_below (defScope st_is_number_below) := ⟨rfl, rfl, rfl, by decide +kernel, rfl, by decide +kernel, by decide +kernel⟩ -- level 1
abbrev st_is_write : Stmt := topS 25
abbrev N_is_write : List Str := ["thing", "name", "value", "domain", "folder", "guarded"]
abbrev P_is_write : List Str := ["thing"]
theorem sc_is_write : FnScope N_is_write P_is_write (defScope st_is_write) := ⟨rfl, rfl, rfl, by decide +kernel, rfl, by decide +kernel, by decide +kernel⟩ -- level 4
abbrev st__need_page_form : Stmt := topS 26
abbrev N__need_page_form : List Str := ["thing", "at", "address", "writes", "number", "write"]
abbrev P__need_page_form : List Str := ["thing", "at"]
theorem sc__need_page_form : FnScope N__need_page_form P__need_page_form (defScope st__need_page_form) := ⟨rfl, rfl, rfl, by decide +kernel, rfl, by decide +kernel, by decide +kernel⟩ -- level 5
abbrev st_need_site : Stmt := topS 27
abbrev N_need_site : List Str := ["thing", "at", "page"]
abbrev P_need_site : List Str := ["thing"]
theorem sc_need_site : FnScope N_need_site P_need_site (defScope st_need_site) := ⟨rfl, rfl, rfl, by decide +kernel, rfl, by decide +kernel, by decide +kernel⟩ -- level 6
abbrev st_need_page : Stmt := topS 28
abbrev N_need_page : List Str := ["site", "thing"]
abbrev P_need_page : List Str := ["site", "thing"]
theorem sc_need_page : FnScope N_need_page P_need_page (defScope st_need_page) := ⟨rfl, rfl, rfl, by decide +kernel, rfl, by decide +kernel, by decide +kernel⟩ -- level 2
abbrev st__is_taken : Stmt := topS 29
abbrev N__is_taken : List Str := ["address", "write", "host", "_", "secure", "domain", "guarded"]
abbrev P__is_taken : List Str := ["address", "write"]
theorem sc__is_taken : FnScope N__is_taken P__is_taken (defScope st__is_taken) := ⟨rfl, rfl, rfl, by decide +kernel, rfl, by decide +kernel, by decide +kernel⟩ -- level 2
abbrev st__key : Stmt := topS 30
abbrev N__key : List Str := ["address", "write", "host", "path", "_", "name", "domain", "folder", "kept_folder"]
abbrev P__key : List Str := ["address", "write"]
theorem sc__key : FnScope N__key P__key (defScope st__key) := ⟨rfl, rfl, rfl, by decide +kernel, rfl, by decide +kernel, by decide +kernel⟩ -- level 1
abbrev st_taken_writes : Stmt := topS 31
abbrev N_taken_writes : List Str := ["page", "address", "writes", "write"]
abbrev P_taken_writes : List Str := ["page"]
theorem sc_taken_writes : FnScope N_taken_writes P_taken_writes (defScope st_taken_writes) := ⟨rfl, rfl, rfl, by decide +kernel, rfl, by decide +kernel, by decide +kernel⟩ -- level 3, cells address
abbrev st_keys_of : Stmt := topS 32
abbrev N_keys_of : List Str := ["site", "page", "key", "_"]
abbrev P_keys_of : List Str := ["site"]
theorem sc_keys_of : FnScope N_keys_of P_keys_of (defScope st_keys_of) := ⟨rfl, rfl, rfl, by decide +kernel, rfl, by decide +kernel, by decide +kernel⟩ -- level 7
abbrev st_effects : Stmt := topS 33
abbrev N_effects : List Str := ["site", "page", "found", "key", "value", "guarded"]
abbrev P_effects : List Str := ["site", "page"]
theorem sc_effects : FnScope N_effects P_effects (defScope st_effects) := ⟨rfl, rfl, rfl, by decide +kernel, rfl, by decide +kernel, by decide +kernel⟩ -- level 7, cells found
abbrev st_effects_of_pages : Stmt := topS 34
abbrev N_effects_of_pages : List Str := ["site", "page"]
abbrev P_effects_of_pages : List Str := ["site"]
theorem sc_effects_of_pages : FnScope N_effects_of_pages P_effects_of_pages (defScope st_effects_of_pages) := ⟨rfl, rfl, rfl, by decide +kernel, rfl, by decide +kernel, by decide +kernel⟩ -- level 8, cells site
abbrev st_need_few_keys : Stmt := topS 37
abbrev N_need_few_keys : List Str := ["keys"]
abbrev P_need_few_keys : List Str := ["keys"]
theorem sc_need_few_keys : FnScope N_need_few_keys P_need_few_keys (defScope st_need_few_keys) := ⟨rfl, rfl, rfl, by decide +kernel, rfl, by decide +kernel, by decide +kernel⟩ -- level 1
abbrev st__need_page_and_name : Stmt := topS 39
abbrev N__need_page_and_name : List Str := ["site", "page", "name", "keys"]
abbrev P__need_page_and_name : List Str := ["site", "page", "name"]
theorem sc__need_page_and_name : FnScope N__need_page_and_name P__need_page_and_name (defScope st__need_page_and_name) := ⟨rfl, rfl, rfl, by decide +kernel, rfl, by decide +kernel, by decide +kernel⟩ -- level 8
abbrev st_lacking : Stmt := topS 40
abbrev N_lacking : List Str := ["site", "page", "name", "effects_of", "own", "put", "key", "found"]
abbrev P_lacking : List Str := ["site", "page", "name"]
theorem sc_lacking : FnScope N_lacking P_lacking (defScope st_lacking) := ⟨rfl, rfl, rfl, by decide +kernel, rfl, by decide +kernel, by decide +kernel⟩ -- level 9, cells effects_of name own
abbrev st_signs_out : Stmt := topS 41
abbrev N_signs_out : List Str := ["site", "page", "name"]
abbrev P_signs_out : List Str := ["site", "page", "name"]
theorem sc_signs_out : FnScope N_signs_out P_signs_out (defScope st_signs_out) := ⟨rfl, rfl, rfl, by decide +kernel, rfl, by decide +kernel, by decide +kernel⟩ -- level 10
abbrev st_beyond : Stmt := topS 42
abbrev N_beyond : List Str := ["site", "page", "name", "lacked", "host", "key"]
abbrev P_beyond : List Str := ["site", "page", "name"]
theorem sc_beyond : FnScope N_beyond P_beyond (defScope st_beyond) := ⟨rfl, rfl, rfl, by decide +kernel, rfl, by decide +kernel, by decide +kernel⟩ -- level 10, cells host
abbrev st__removing : Stmt := topS 43
abbrev N__removing : List Str := ["key", "name", "domain", "folder", "alone"]
abbrev P__removing : List Str := ["key"]
theorem sc__removing : FnScope N__removing P__removing (defScope st__removing) := ⟨rfl, rfl, rfl, by decide +kernel, rfl, by decide +kernel, by decide +kernel⟩ -- level 1
abbrev st_mended : Stmt := topS 44
abbrev N_mended : List Str := ["site", "page", "name", "lacked", "address", "writes", "more", "key"]
abbrev P_mended : List Str := ["site", "page", "name"]
theorem sc_mended : FnScope N_mended P_mended (defScope st_mended) := ⟨rfl, rfl, rfl, by decide +kernel, rfl, by decide +kernel, by decide +kernel⟩ -- level 11
abbrev st__law_mixed : Stmt := topS 46
abbrev N__law_mixed : List Str := ["cell", "k"]
abbrev P__law_mixed : List Str := ["cell", "k"]
theorem sc__law_mixed : FnScope N__law_mixed P__law_mixed (defScope st__law_mixed) := ⟨rfl, rfl, rfl, by decide +kernel, rfl, by decide +kernel, by decide +kernel⟩ -- level 1
abbrev st__law_begin : Stmt := topS 47
abbrev N__law_begin : List Str := ["script", "cells", "cell"]
abbrev P__law_begin : List Str := ["script"]
theorem sc__law_begin : FnScope N__law_begin P__law_begin (defScope st__law_begin) := ⟨rfl, rfl, rfl, by decide +kernel, rfl, by decide +kernel, by decide +kernel⟩ -- level 1
abbrev st__law_draw : Stmt := topS 48
abbrev N__law_draw : List Str := ["state", "many", "at", "place", "left", "number"]
abbrev P__law_draw : List Str := ["state", "many"]
theorem sc__law_draw : FnScope N__law_draw P__law_draw (defScope st__law_draw) := ⟨rfl, rfl, rfl, by decide +kernel, rfl, by decide +kernel, by decide +kernel⟩ -- level 2
abbrev st__law_key : Stmt := topS 49
abbrev N__law_key : List Str := ["page", "write", "host", "path", "secure", "writes", "name", "value", "domain", "folder", "guarded"]
abbrev P__law_key : List Str := ["page", "write"]
theorem sc__law_key : FnScope N__law_key P__law_key (defScope st__law_key) := ⟨rfl, rfl, rfl, by decide +kernel, rfl, by decide +kernel, by decide +kernel⟩ -- level 1
abbrev st__law_visited : Stmt := topS 50
abbrev N__law_visited : List Str := ["kept", "page", "found", "write", "term", "known", "one", "worth"]
abbrev P__law_visited : List Str := ["kept", "page"]
theorem sc__law_visited : FnScope N__law_visited P__law_visited (defScope st__law_visited) := ⟨rfl, rfl, rfl, by decide +kernel, rfl, by decide +kernel, by decide +kernel⟩ -- level 2
abbrev st__law_behind : Stmt := topS 51
abbrev N__law_behind : List Str := ["site", "row", "kept", "number"]
abbrev P__law_behind : List Str := ["site", "row"]
theorem sc__law_behind : FnScope N__law_behind P__law_behind (defScope st__law_behind) := ⟨rfl, rfl, rfl, by decide +kernel, rfl, by decide +kernel, by decide +kernel⟩ -- level 3
abbrev st__law_host : Stmt := topS 52
abbrev N__law_host : List Str := ["state", "some"]
abbrev P__law_host : List Str := ["state"]
theorem sc__law_host : FnScope N__law_host P__law_host (defScope st__law_host) := ⟨rfl, rfl, rfl, by decide +kernel, rfl, by decide +kernel, by decide +kernel⟩ -- level 3
abbrev st__law_path : Stmt := topS 53
abbrev N__law_path : List Str := ["state"]
abbrev P__law_path : List Str := ["state"]
theorem sc__law_path : FnScope N__law_path P__law_path (defScope st__law_path) := ⟨rfl, rfl, rfl, by decide +kernel, rfl, by decide +kernel, by decide +kernel⟩ -- level 3
abbrev st__law_write : Stmt := topS 54
abbrev N__law_write : List Str := ["state", "host", "name", "value", "domain", "folder"]
abbrev P__law_write : List Str := ["state", "host"]
theorem sc__law_write : FnScope N__law_write P__law_write (defScope st__law_write) := ⟨rfl, rfl, rfl, by decide +kernel, rfl, by decide +kernel, by decide +kernel⟩ -- level 4
abbrev st__law_page : Stmt := topS 55
abbrev N__law_page : List Str := ["state", "host", "writes", "k"]
abbrev P__law_page : List Str := ["state"]
theorem sc__law_page : FnScope N__law_page P__law_page (defScope st__law_page) := ⟨rfl, rfl, rfl, by decide +kernel, rfl, by decide +kernel, by decide +kernel⟩ -- level 5, cells host state
abbrev st__law_site : Stmt := topS 56
abbrev N__law_site : List Str := ["state", "most", "found", "k", "page"]
abbrev P__law_site : List Str := ["state", "most"]
theorem sc__law_site : FnScope N__law_site P__law_site (defScope st__law_site) := ⟨rfl, rfl, rfl, by decide +kernel, rfl, by decide +kernel, by decide +kernel⟩ -- level 6
abbrev st__law_keys : Stmt := topS 57
abbrev N__law_keys : List Str := ["site", "found", "page", "write", "term"]
abbrev P__law_keys : List Str := ["site"]
theorem sc__law_keys : FnScope N__law_keys P__law_keys (defScope st__law_keys) := ⟨rfl, rfl, rfl, by decide +kernel, rfl, by decide +kernel, by decide +kernel⟩ -- level 2
abbrev st__law_rows : Stmt := topS 58
abbrev N__law_rows : List Str := ["many", "most", "found", "last", "k", "longer", "row", "number"]
abbrev P__law_rows : List Str := ["many", "most"]
theorem sc__law_rows : FnScope N__law_rows P__law_rows (defScope st__law_rows) := ⟨rfl, rfl, rfl, by decide +kernel, rfl, by decide +kernel, by decide +kernel⟩ -- level 1, cells row
abbrev st__law_signed : Stmt := topS 59
abbrev N__law_signed : List Str := ["whole", "number", "name", "row", "kept", "term", "worth"]
abbrev P__law_signed : List Str := ["whole", "number", "name"]
theorem sc__law_signed : FnScope N__law_signed P__law_signed (defScope st__law_signed) := ⟨rfl, rfl, rfl, by decide +kernel, rfl, by decide +kernel, by decide +kernel⟩ -- level 4, cells name
abbrev st__law_due : Stmt := topS 60
abbrev N__law_due : List Str := ["whole", "number", "name", "address", "writes", "left", "more", "word", "domain", "folder", "alone"]
abbrev P__law_due : List Str := ["whole", "number", "name"]
theorem sc__law_due : FnScope N__law_due P__law_due (defScope st__law_due) := ⟨rfl, rfl, rfl, by decide +kernel, rfl, by decide +kernel, by decide +kernel⟩ -- level 11, cells name
abbrev st__law_is_least : Stmt := topS 61
abbrev N__law_is_least : List Str := ["whole", "number", "name", "many", "address", "writes", "at", "lesser"]
abbrev P__law_is_least : List Str := ["whole", "number", "name", "many"]
theorem sc__law_is_least : FnScope N__law_is_least P__law_is_least (defScope st__law_is_least) := ⟨rfl, rfl, rfl, by decide +kernel, rfl, by decide +kernel, by decide +kernel⟩ -- level 5
abbrev st__law_right : Stmt := topS 62
abbrev N__law_right : List Str := ["state", "whole", "number", "name", "kept", "due", "found", "row", "term", "worth", "k"]
abbrev P__law_right : List Str := ["state", "whole", "number", "name"]
theorem sc__law_right : FnScope N__law_right P__law_right (defScope st__law_right) := ⟨rfl, rfl, rfl, by decide +kernel, rfl, by decide +kernel, by decide +kernel⟩ -- level 12, cells name state whole
abbrev st_law : Stmt := topS 63
abbrev N_law : List Str := ["script", "state", "turn", "whole", "number"]
abbrev P_law : List Str := ["script"]
theorem sc_law : FnScope N_law P_law (defScope st_law) := ⟨rfl, rfl, rfl, by decide +kernel, rfl, by decide +kernel, by decide +kernel⟩ -- level 13
abbrev st_BadSite : Stmt := clsDef (topS 2) 0
theorem sc_BadSite : FnScope ["self", "place"] ["self", "place"] (defScope st_BadSite) := ⟨rfl, rfl, rfl, by decide +kernel, rfl, by decide +kernel, by decide +kernel⟩
abbrev st_BadName : Stmt := clsDef (topS 3) 0
theorem sc_BadName : FnScope ["self", "given"] ["self", "given"] (defScope st_BadName) := ⟨rfl, rfl, rfl, by decide +kernel, rfl, by decide +kernel, by decide +kernel⟩
abbrev st_BadPage : Stmt := clsDef (topS 4) 0
theorem sc_BadPage : FnScope ["self", "given"] ["self", "given"] (defScope st_BadPage) := ⟨rfl, rfl, rfl, by decide +kernel, rfl, by decide +kernel, by decide +kernel⟩
abbrev st_TooMany : Stmt := clsDef (topS 5) 0
theorem sc_TooMany : FnScope ["self", "most"] ["self", "most"] (defScope st_TooMany) := ⟨rfl, rfl, rfl, by decide +kernel, rfl, by decide +kernel, by decide +kernel⟩
def sgs : Str := "abcdefghijklmnopqrstuvwxyz0123456789"
def lts : Str := "abcdefghijklmnopqrstuvwxyz"
structure Txt (K : PySem.W.Frag) (mg : Str → Option Value) : Prop where
  d_is_word : Dn K mg "is_word" st_is_word P_is_word
  d_is_label : Dn K mg "is_label" st_is_label P_is_label
  d_is_host : Dn K mg "is_host" st_is_host P_is_host
  d_is_path : Dn K mg "is_path" st_is_path P_is_path
  d_is_address : Dn K mg "is_address" st_is_address P_is_address
  d_is_within : Dn K mg "is_within" st_is_within P_is_within
  d_is_name : Dn K mg "is_name" st_is_name P_is_name
  d_need_name : Dn K mg "need_name" st_need_name P_need_name
  d_is_number_below : Dn K mg "is_number_below" st_is_number_below P_is_number_below
  d_is_write : Dn K mg "is_write" st_is_write P_is_write
  d__need_page_form : Dn K mg "_need_page_form" st__need_page_form P__need_page_form
  d_need_site : Dn K mg "need_site" st_need_site P_need_site
  d_need_page : Dn K mg "need_page" st_need_page P_need_page
  d__is_taken : Dn K mg "_is_taken" st__is_taken P__is_taken
  d__key : Dn K mg "_key" st__key P__key
  d_taken_writes : Dn K mg "taken_writes" st_taken_writes P_taken_writes
  d_keys_of : Dn K mg "keys_of" st_keys_of P_keys_of
  d_effects : Dn K mg "effects" st_effects P_effects
  d_effects_of_pages : Dn K mg "effects_of_pages" st_effects_of_pages P_effects_of_pages
  d_need_few_keys : Dn K mg "need_few_keys" st_need_few_keys P_need_few_keys
  d__need_page_and_name : Dn K mg "_need_page_and_name" st__need_page_and_name P__need_page_and_name
  d_lacking : Dn K mg "lacking" st_lacking P_lacking
  d_signs_out : Dn K mg "signs_out" st_signs_out P_signs_out
  d_beyond : Dn K mg "beyond" st_beyond P_beyond
  d__removing : Dn K mg "_removing" st__removing P__removing
  d_mended : Dn K mg "mended" st_mended P_mended
  d__law_mixed : Dn K mg "_law_mixed" st__law_mixed P__law_mixed
  d__law_begin : Dn K mg "_law_begin" st__law_begin P__law_begin
  d__law_draw : Dn K mg "_law_draw" st__law_draw P__law_draw
  d__law_key : Dn K mg "_law_key" st__law_key P__law_key
  d__law_visited : Dn K mg "_law_visited" st__law_visited P__law_visited
  d__law_behind : Dn K mg "_law_behind" st__law_behind P__law_behind
  d__law_host : Dn K mg "_law_host" st__law_host P__law_host
  d__law_path : Dn K mg "_law_path" st__law_path P__law_path
  d__law_write : Dn K mg "_law_write" st__law_write P__law_write
  d__law_page : Dn K mg "_law_page" st__law_page P__law_page
  d__law_site : Dn K mg "_law_site" st__law_site P__law_site
  d__law_keys : Dn K mg "_law_keys" st__law_keys P__law_keys
  d__law_rows : Dn K mg "_law_rows" st__law_rows P__law_rows
  d__law_signed : Dn K mg "_law_signed" st__law_signed P__law_signed
  d__law_due : Dn K mg "_law_due" st__law_due P__law_due
  d__law_is_least : Dn K mg "_law_is_least" st__law_is_least P__law_is_least
  d__law_right : Dn K mg "_law_right" st__law_right P__law_right
  d_law : Dn K mg "law" st_law P_law
  z_all : mg "all" = none
  z_any : mg "any" = none
  z_bool : mg "bool" = none
  z_enumerate : mg "enumerate" = none
  z_int : mg "int" = none
  z_isinstance : mg "isinstance" = none
  z_len : mg "len" = none
  z_list : mg "list" = none
  z_min : mg "min" = none
  z_range : mg "range" = none
  z_repr : mg "repr" = none
  z_set : mg "set" = none
  z_sorted : mg "sorted" = none
  z_str : mg "str" = none
  z_tuple : mg "tuple" = none
  b_JarError : ∃ B, BaseI K mg "JarError" B
  x_BadSite : ∃ C, ExnD K mg "BadSite" "place" "BadSite.__init__" st_BadSite C
  x_BadName : ∃ C, ExnD K mg "BadName" "given" "BadName.__init__" st_BadName C
  x_BadPage : ∃ C, ExnD K mg "BadPage" "given" "BadPage.__init__" st_BadPage C
  x_TooMany : ∃ C, ExnD K mg "TooMany" "most" "TooMany.__init__" st_TooMany C
  c_LETTERS : Gc mg "LETTERS" (.str lts)
  c_SIGNS : Gc mg "SIGNS" (.str sgs)
  c_LONGEST_WORD : Gc mg "LONGEST_WORD" (.int 6)
  c_LEAST_LABELS : Gc mg "LEAST_LABELS" (.int 2)
  c_MOST_LABELS : Gc mg "MOST_LABELS" (.int 5)
  c_MOST_SEGMENTS : Gc mg "MOST_SEGMENTS" (.int 4)
  c_MOST_PAGES : Gc mg "MOST_PAGES" (.int 5)
  c_MOST_WRITES : Gc mg "MOST_WRITES" (.int 5)
  c_MOST_KEYS : Gc mg "MOST_KEYS" (.int 6)
/-! ### what is asked of data -/
def okW (z x : Str) : Bool := decide ((1 : Int) ≤ (x.length : Int)) && decide ((x.length : Int) ≤ 6) && x.cps.toList.all fun c => decide (c ∈ z.cps.toList)
def okD (z : Str) : PyData → Bool
  | .str x => okW z x
  | _ => false
def okT (lo hi : Int) : PyData → Bool
  | .tuple ds => decide (lo ≤ (ds.length : Int)) && decide ((ds.length : Int) ≤ hi) && ds.all (okD sgs)
  | _ => false
def okA : PyData → Bool
  | .tuple [h, p, s] => okT 2 5 h && okT 0 4 p && dBl s
  | _ => false
def isNon : PyData → Bool
  | .none => true
  | _ => false
def okWr : PyData → Bool
  | .tuple [n, v, d, f, g] => okD lts n && dBl g && (isNon v || okD sgs v) && (isNon d || okT 2 5 d) && (isNon f || okT 0 4 f)
  | _ => false
theorem walk_signs {x : Str} {f : Nat → V} : Walk (Its x) (x.cps.toList.map f).length (fun _ => True) (fun i H v H' => H' = H ∧ ∃ c, x.cps.toList[i]? = some c ∧ v = .str ⟨#[c]⟩) := by
  have e : (x.cps.toList.map f).length = x.cps.size := by simp
  rw [e]
  exact walk_str.mono (fun _ h => h) fun i H v H' _ _ ⟨a, c, b, d⟩ => ⟨a, c, by simpa using b, d⟩
theorem all_map (f : Nat → Bool) (l : List Nat) : (l.map f).all id = l.all f := by
  rw [List.all_map]
  rfl
theorem all_mapD (f : PyData → Bool) (l : List PyData) : (l.map f).all id = l.all f := by
  rw [List.all_map]
  rfl
theorem sz1000 {n : Nat} (h : n ≤ 1000) : n ≤ sizeLine := Nat.le_trans h (by decide)
theorem small100 {n : Nat} (h : n ≤ 1000) : n ≤ 100000 := Nat.le_trans h (by decide)
theorem same_new {H : Hp} {p : Addr} {o : HO} (h : H p = none) : Same H (upd H p o) := fun b x e => by
  rw [upd_ne (ne_of_none e h)]
  exact e
section
variable {P : Program} {w : World} {K : PySem.W.Frag} {mg : Str → Option Value} {base : Heap}
/-- a def that tells f of one thing and changes nothing -/
def spOne (K : PySem.W.Frag) (f : PyData → Bool) : Sp := fun vs H Q _ => ∃ v d, vs = [v] ∧ Da K H v d ∧ ∀ H', Same H H' → Q (.bl (f d)) H'
def spWord (K : PySem.W.Frag) : Sp := fun vs H Q _ => ∃ v d z, vs = [v, .str z] ∧ Da K H v d ∧ ∀ H', Same H H' → Q (.bl (okD z d)) H'
theorem ok_is_word (T : Txt K mg) : Ok P w K mg base "is_word" P_is_word 1 (spWord K) := by
  refine T.d_is_word.ok sc_is_word (fun vs H Q E h => ?_) (fun f cdv A out s H vs Q E hr h => ?_)
  · obtain ⟨v, d, z, rfl, _⟩ := h
    rfl
  · obtain ⟨v, d, z, rfl, hd, q⟩ := h
    refine ⟨_, (pss_cons (ps_if (PW.pt (pw_or (pt_not (pt_val (pe_callB call_isi (by rfl) T.z_isinstance (by decide +kernel) (pa_cons (pv 0) (pa_cons (pe_bltn (v := .ty "str") (by rfl) T.z_str (by decide +kernel) rfl) pa_nil))))) (pw_or1 (pt_not (pt_chain op_le op_le pe_int (pe_callB call_len (by rfl) T.z_len (by decide +kernel) (pa_cons (pv 0) pa_nil)) (pe_gc T.c_LONGEST_WORD)))))) (pss_one (ps_ret pe_bl)) pss_nil)
    (pss_one (ps_ret (pe_callB (cr_all rfl) (by rfl) T.z_all (by decide +kernel) (pa_cons (pe_lc (own := [("sign", 2)]) (g := gName 2) (tt := tYes) rfl sc_is_word.nd (pi_str (pv 0)) (blkOk_by (N := N_is_word) (sc := defScope st_is_word) (by decide +kernel)) (fun _ _ _ _ _ => pg_name (i := 2) sc_is_word.nd rfl (Or.inl rfl)) (fun _ _ _ _ _ => pts_nil) (fun _ _ _ _ _ => (pe_cmpR op_in_sign (pv 2) (pv 1) (by rfl)))) pa_nil))))), ?_⟩
    obtain ⟨t, ty, _, ks, _⟩ := Da.isi hd
    refine ⟨v, rfl, v, .ty "str", t, .type "str", dStr d, rfl, .ty "str", ty, ks, dStr d, rfl, ?_⟩
    cases hd with
    | str x hx =>
      have e : okD z (.str x) = okW z x := rfl
      rw [e] at q
      refine iteF ⟨.str x, rfl, .str x, x.length, rfl, ⟨sz1000 hx, rfl⟩, 1, x.length, rfl, rfl, _, rfl, ite2 (fun h1 => ?_) (fun h1 => ?_)⟩
      · refine ⟨x.length, 6, rfl, rfl, _, rfl, ?_⟩
        by_cases h2 : (x.length : Int) ≤ 6
        · rw [decide_eq_true h2]
          refine iteF ?_
          refine ⟨.str x, rfl, x, rfl, fun D nD => lc_pure (ys := x.cps.toList.map fun c => .bl (decide (c ∈ z.cps.toList))) walk_signs nD ?_ (fun _ _ => trivial) (fun _ => rfl) (fun i v y H1 H2 e s1 g k hk => ?_) (fun H1 s1 d => ?_)⟩
          · rw [List.length_map]
            exact Nat.le_trans hx (by decide)
          · obtain ⟨rfl, c, e1, rfl⟩ := g
            rw [List.getElem?_map, e1] at e
            cases e
            exact ⟨_, rfl, _, rfl, c, z, rfl, rfl, hk _ (Same.refl _)⟩
          · refine ⟨D, x.cps.toList.map (fun c => decide (c ∈ z.cps.toList)), rfl, SqL.of ?_, ?_⟩
            · rw [List.map_map]
              exact d
            · rw [all_map]
              have e2 : okW z x = x.cps.toList.all fun c => decide (c ∈ z.cps.toList) := by
                unfold okW
                rw [h1, decide_eq_true h2]
                rfl
              rw [← e2]
              exact q H1 s1
        · rw [decide_eq_false h2]
          have e2 : okW z x = false := by
            unfold okW
            rw [decide_eq_false h2]
            simp
          rw [e2] at q
          exact iteT (q H (Same.refl H))
      · have e2 : okW z x = false := by
          unfold okW
          rw [Bool.eq_false_iff.mpr h1]
          rfl
        rw [e2] at q
        exact ⟨_, rfl, iteT (q H (Same.refl H))⟩
    | non => exact iteT (iteT (q H (Same.refl H)))
    | int i => exact iteT (iteT (q H (Same.refl H)))
    | bl b => exact iteT (iteT (q H (Same.refl H)))
    | tup _ _ _ => exact iteT (iteT (q H (Same.refl H)))
    | lst _ _ _ => exact iteT (iteT (q H (Same.refl H)))
    | dic _ => exact iteT (iteT (q H (Same.refl H)))
theorem ok_is_label (T : Txt K mg) : Ok P w K mg base "is_label" P_is_label 2 (spOne K (okD sgs)) := by
  have ok_is_word : Ok P w K mg base "is_word" P_is_word 1 (spWord K) := ok_is_word T
  refine T.d_is_label.ok sc_is_label (fun vs H Q E h => ?_) (fun f cdv A out s H vs Q E hr h => ?_)
  · obtain ⟨v, d, rfl, _⟩ := h
    rfl
  · obtain ⟨v, d, rfl, hd, q⟩ := h
    refine ⟨_, (pss_one (ps_ret (pe_ok ok_is_word (hr.mono (by decide)) (pa_cons (pv 0) (pa_cons (pe_gc T.c_SIGNS) pa_nil))))), ?_⟩
    exact ⟨v, rfl, v, d, sgs, rfl, hd, q⟩
theorem ok_is_name (T : Txt K mg) : Ok P w K mg base "is_name" P_is_name 2 (spOne K (okD lts)) := by
  have ok_is_word : Ok P w K mg base "is_word" P_is_word 1 (spWord K) := ok_is_word T
  refine T.d_is_name.ok sc_is_name (fun vs H Q E h => ?_) (fun f cdv A out s H vs Q E hr h => ?_)
  · obtain ⟨v, d, rfl, _⟩ := h
    rfl
  · obtain ⟨v, d, rfl, hd, q⟩ := h
    refine ⟨_, (pss_one (ps_ret (pe_ok ok_is_word (hr.mono (by decide)) (pa_cons (pv 0) (pa_cons (pe_gc T.c_LETTERS) pa_nil))))), ?_⟩
    exact ⟨v, rfl, v, d, lts, rfl, hd, q⟩
theorem ok_is_host (T : Txt K mg) : Ok P w K mg base "is_host" P_is_host 3 (spOne K (okT 2 5)) := by
  have ok_is_label : Ok P w K mg base "is_label" P_is_label 2 (spOne K (okD sgs)) := ok_is_label T
  refine T.d_is_host.ok sc_is_host (fun vs H Q E h => ?_) (fun f cdv A out s H vs Q E hr h => ?_)
  · obtain ⟨v, d, rfl, _⟩ := h
    rfl
  · obtain ⟨v, d, rfl, hd, q⟩ := h
    refine ⟨_, (pss_cons (ps_if (PW.pt (pw_or (pt_not (pt_val (pe_callB call_isi (by rfl) T.z_isinstance (by decide +kernel) (pa_cons (pv 0) (pa_cons (pe_bltn (v := .ty "tuple") (by rfl) T.z_tuple (by decide +kernel) rfl) pa_nil))))) (pw_or1 (pt_not (pt_chain op_le op_le (pe_gc T.c_LEAST_LABELS) (pe_callB call_len (by rfl) T.z_len (by decide +kernel) (pa_cons (pv 0) pa_nil)) (pe_gc T.c_MOST_LABELS)))))) (pss_one (ps_ret pe_bl)) pss_nil)
    (pss_one (ps_ret (pe_callB (cr_all rfl) (by rfl) T.z_all (by decide +kernel) (pa_cons (pe_lc (own := [("label", 1)]) (g := gName 1) (tt := tYes) rfl sc_is_host.nd (pi_tup (pv 0)) (blkOk_by (N := N_is_host) (sc := defScope st_is_host) (by decide +kernel)) (fun _ _ _ _ _ => pg_name (i := 1) sc_is_host.nd rfl (Or.inl rfl)) (fun _ _ _ _ _ => pts_nil) (fun _ _ _ _ _ => (pe_ok ok_is_label (hr.mono (by decide)) (pa_cons (pv 1) pa_nil)))) pa_nil))))), ?_⟩
    obtain ⟨t, ty, ks, _, _, _⟩ := Da.isi hd
    refine ⟨v, rfl, v, .ty "tuple", t, .type "tuple", dTup d, rfl, .ty "tuple", ty, ks, dTup d, rfl, ?_⟩
    cases hd with
    | @tup a xs ds h1 h3 hz =>
      have nl := DaAll.len h3
      have e0 : okT 2 5 (.tuple ds) = (decide ((2 : Int) ≤ (ds.length : Int)) && decide ((ds.length : Int) ≤ 5) && ds.all (okD sgs)) := rfl
      rw [e0, ← nl] at q
      refine iteF ⟨.ref a, rfl, .ref a, xs.length, rfl, Or.inr ⟨xs, h1, rfl⟩, 2, xs.length, rfl, rfl, _, rfl, ite2 (fun g1 => ?_) (fun g1 => ?_)⟩
      · refine ⟨xs.length, 5, rfl, rfl, _, rfl, ?_⟩
        by_cases g2 : (xs.length : Int) ≤ 5
        · rw [decide_eq_true g2]
          rw [g1, decide_eq_true g2] at q
          refine iteF ?_
          refine ⟨.ref a, rfl, a, rfl, ⟨xs, h1⟩, fun D nD => lc_pure (ys := ds.map fun d => .bl (okD sgs d)) (by rw [List.length_map, ← nl]; exact walk_tup) nD ?_ (fun H1 s1 => sqT_same s1 h1) (fun _ => rfl) (fun i x y H1 H2 e s1 g k hk => ?_) (fun H1 s1 d => ?_)⟩
          · rw [List.length_map]
            exact small100 hz
          · obtain ⟨rfl, e1⟩ := g
            obtain ⟨d, e2, hx⟩ := DaAll.get h3 e1
            rw [List.getElem?_map, e2] at e
            cases e
            exact ⟨x, rfl, x, d, rfl, Da.same s1 _ _ hx, fun H' s' => hk H' s'⟩
          · refine ⟨D, ds.map (okD sgs), rfl, SqL.of ?_, ?_⟩
            · rw [List.map_map]
              exact d
            · rw [all_mapD]
              exact q H1 s1
        · rw [decide_eq_false g2]
          rw [g1, decide_eq_false g2] at q
          exact iteT (q H (Same.refl H))
      · rw [Bool.eq_false_iff.mpr g1] at q
        exact ⟨_, rfl, iteT (q H (Same.refl H))⟩
    | non => exact iteT (iteT (q H (Same.refl H)))
    | int i => exact iteT (iteT (q H (Same.refl H)))
    | bl b => exact iteT (iteT (q H (Same.refl H)))
    | str _ _ => exact iteT (iteT (q H (Same.refl H)))
    | lst _ _ _ => exact iteT (iteT (q H (Same.refl H)))
    | dic _ => exact iteT (iteT (q H (Same.refl H)))
theorem ok_is_path (T : Txt K mg) : Ok P w K mg base "is_path" P_is_path 3 (spOne K (okT 0 4)) := by
  have ok_is_label : Ok P w K mg base "is_label" P_is_label 2 (spOne K (okD sgs)) := ok_is_label T
  refine T.d_is_path.ok sc_is_path (fun vs H Q E h => ?_) (fun f cdv A out s H vs Q E hr h => ?_)
  · obtain ⟨v, d, rfl, _⟩ := h
    rfl
  · obtain ⟨v, d, rfl, hd, q⟩ := h
    refine ⟨_, (pss_cons (ps_if (PW.pt (pw_or (pt_not (pt_val (pe_callB call_isi (by rfl) T.z_isinstance (by decide +kernel) (pa_cons (pv 0) (pa_cons (pe_bltn (v := .ty "tuple") (by rfl) T.z_tuple (by decide +kernel) rfl) pa_nil))))) (pw_or1 (pt_cmpR op_gt (pe_callB call_len (by rfl) T.z_len (by decide +kernel) (pa_cons (pv 0) pa_nil)) (pe_gc T.c_MOST_SEGMENTS) (nomark _))))) (pss_one (ps_ret pe_bl)) pss_nil)
    (pss_one (ps_ret (pe_callB (cr_all rfl) (by rfl) T.z_all (by decide +kernel) (pa_cons (pe_lc (own := [("segment", 1)]) (g := gName 1) (tt := tYes) rfl sc_is_path.nd (pi_tup (pv 0)) (blkOk_by (N := N_is_path) (sc := defScope st_is_path) (by decide +kernel)) (fun _ _ _ _ _ => pg_name (i := 1) sc_is_path.nd rfl (Or.inl rfl)) (fun _ _ _ _ _ => pts_nil) (fun _ _ _ _ _ => (pe_ok ok_is_label (hr.mono (by decide)) (pa_cons (pv 1) pa_nil)))) pa_nil))))), ?_⟩
    obtain ⟨t, ty, ks, _, _, _⟩ := Da.isi hd
    refine ⟨v, rfl, v, .ty "tuple", t, .type "tuple", dTup d, rfl, .ty "tuple", ty, ks, dTup d, rfl, ?_⟩
    cases hd with
    | @tup a xs ds h1 h3 hz =>
      have nl := DaAll.len h3
      have e0 : okT 0 4 (.tuple ds) = (decide ((0 : Int) ≤ (ds.length : Int)) && decide ((ds.length : Int) ≤ 4) && ds.all (okD sgs)) := rfl
      rw [e0, ← nl, decide_eq_true (Int.natCast_nonneg xs.length)] at q
      refine iteF ⟨.ref a, rfl, .ref a, xs.length, rfl, Or.inr ⟨xs, h1, rfl⟩, xs.length, 4, rfl, rfl, _, rfl, ?_⟩
      by_cases g2 : (xs.length : Int) ≤ 4
      · rw [decide_eq_false (show ¬ (4 : Int) < xs.length by omega)]
        rw [decide_eq_true g2] at q
        refine iteF ?_
        refine ⟨.ref a, rfl, a, rfl, ⟨xs, h1⟩, fun D nD => lc_pure (ys := ds.map fun d => .bl (okD sgs d)) (by rw [List.length_map, ← nl]; exact walk_tup) nD ?_ (fun H1 s1 => sqT_same s1 h1) (fun _ => rfl) (fun i x y H1 H2 e s1 g k hk => ?_) (fun H1 s1 d => ?_)⟩
        · rw [List.length_map]
          exact small100 hz
        · obtain ⟨rfl, e1⟩ := g
          obtain ⟨d, e2, hx⟩ := DaAll.get h3 e1
          rw [List.getElem?_map, e2] at e
          cases e
          exact ⟨x, rfl, x, d, rfl, Da.same s1 _ _ hx, fun H' s' => hk H' s'⟩
        · refine ⟨D, ds.map (okD sgs), rfl, SqL.of ?_, ?_⟩
          · rw [List.map_map]
            exact d
          · rw [all_mapD]
            exact q H1 s1
      · rw [decide_eq_true (show (4 : Int) < xs.length by omega)]
        rw [decide_eq_false g2] at q
        exact iteT (q H (Same.refl H))
    | non => exact iteT (iteT (q H (Same.refl H)))
    | int i => exact iteT (iteT (q H (Same.refl H)))
    | bl b => exact iteT (iteT (q H (Same.refl H)))
    | str _ _ => exact iteT (iteT (q H (Same.refl H)))
    | lst _ _ _ => exact iteT (iteT (q H (Same.refl H)))
    | dic _ => exact iteT (iteT (q H (Same.refl H)))
theorem okA_not3 : ∀ {ds : List PyData}, ds.length ≠ 3 → okA (.tuple ds) = false
  | [], _ => rfl
  | [_], _ => rfl
  | [_, _], _ => rfl
  | [_, _, _], h => absurd rfl h
  | _ :: _ :: _ :: _ :: _, _ => rfl
theorem ok_is_address (T : Txt K mg) : Ok P w K mg base "is_address" P_is_address 4 (spOne K okA) := by
  have ok_is_host : Ok P w K mg base "is_host" P_is_host 3 (spOne K (okT 2 5)) := ok_is_host T
  have ok_is_path : Ok P w K mg base "is_path" P_is_path 3 (spOne K (okT 0 4)) := ok_is_path T
  refine T.d_is_address.ok sc_is_address (fun vs H Q E h => ?_) (fun f cdv A out s H vs Q E hr h => ?_)
  · obtain ⟨v, d, rfl, _⟩ := h
    rfl
  · obtain ⟨v, d, rfl, hd, q⟩ := h
    refine ⟨_, (pss_cons (ps_if (PW.pt (pw_or (pt_not (pt_val (pe_callB call_isi (by rfl) T.z_isinstance (by decide +kernel) (pa_cons (pv 0) (pa_cons (pe_bltn (v := .ty "tuple") (by rfl) T.z_tuple (by decide +kernel) rfl) pa_nil))))) (pw_or1 (pt_cmpR op_ne (pe_callB call_len (by rfl) T.z_len (by decide +kernel) (pa_cons (pv 0) pa_nil)) pe_int (nomark _))))) (pss_one (ps_ret pe_bl)) pss_nil)
    (pss_cons (ps_asg (pv 0) (pg_tup rfl (pgs_cons (pg_name (i := 1) sc_is_address.nd rfl (Or.inl rfl)) (pgs_cons (pg_name (i := 2) sc_is_address.nd rfl (Or.inl rfl)) (pgs_cons (pg_name (i := 3) sc_is_address.nd rfl (Or.inl rfl)) pgs_nil)))))
    (pss_one (ps_ret (pe_and (pe_ok ok_is_host (hr.mono (by decide)) (pa_cons (pv 1) pa_nil)) (pe_and (pe_ok ok_is_path (hr.mono (by decide)) (pa_cons (pv 2) pa_nil)) (pe_one (pe_callB call_isi (by rfl) T.z_isinstance (by decide +kernel) (pa_cons (pv 3) (pa_cons (pe_bltn (v := .ty "bool") (by rfl) T.z_bool (by decide +kernel) rfl) pa_nil)))))))))), ?_⟩
    obtain ⟨t, ty, ks, _, _, _⟩ := Da.isi hd
    refine ⟨v, rfl, v, .ty "tuple", t, .type "tuple", dTup d, rfl, .ty "tuple", ty, ks, dTup d, rfl, ?_⟩
    cases hd with
    | @tup a xs ds h1 h3 hz =>
      have nl := DaAll.len h3
      refine iteF ⟨.ref a, rfl, .ref a, xs.length, rfl, Or.inr ⟨xs, h1, rfl⟩, rfl, _, rfl, ?_⟩
      by_cases g : xs.length = 3
      · rw [decide_eq_true (show V.int (xs.length : Int) = V.int 3 by rw [g]; rfl)]
        refine iteF ?_
        match xs, ds, h3, nl, g with
        | [x0, x1, x2], [d0, d1, d2], .cons p0 (.cons p1 (.cons p2 .nil)), _, _ =>
          refine ⟨.ref a, rfl, a, [x0, x1, x2], rfl, h1, rfl, x0, [x1, x2], rfl, x1, [x2], rfl, x2, [], rfl, rfl, ?_⟩
          refine ⟨x0, rfl, x0, d0, rfl, p0, fun H1 s1 => ⟨okT 2 5 d0, rfl, ?_⟩⟩
          have e0 : okA (.tuple [d0, d1, d2]) = (okT 2 5 d0 && okT 0 4 d1 && dBl d2) := rfl
          rw [e0] at q
          cases b0 : okT 2 5 d0 with
          | false =>
            rw [b0] at q
            exact iteF (q H1 s1)
          | true =>
            rw [b0] at q
            refine iteT ⟨x1, rfl, x1, d1, rfl, Da.same s1 _ _ p1, fun H2 s2 => ⟨okT 0 4 d1, rfl, ?_⟩⟩
            cases b1 : okT 0 4 d1 with
            | false =>
              rw [b1] at q
              exact iteF (q H2 (s1.trans s2))
            | true =>
              rw [b1] at q
              obtain ⟨t2, ty2, _, _, ks2, _⟩ := Da.isi (Da.same (s1.trans s2) _ _ p2)
              exact iteT ⟨x2, rfl, x2, .ty "bool", t2, .type "bool", dBl d2, rfl, .ty "bool", ty2, ks2, q H2 (s1.trans s2)⟩
      · rw [decide_eq_false (show ¬ V.int (xs.length : Int) = V.int 3 from fun z => g (by have := V.int.inj z; omega))]
        rw [okA_not3 (by omega)] at q
        exact iteT (q H (Same.refl H))
    | non => exact iteT (iteT (q H (Same.refl H)))
    | int i => exact iteT (iteT (q H (Same.refl H)))
    | bl b => exact iteT (iteT (q H (Same.refl H)))
    | str _ _ => exact iteT (iteT (q H (Same.refl H)))
    | lst _ _ _ => exact iteT (iteT (q H (Same.refl H)))
    | dic _ => exact iteT (iteT (q H (Same.refl H)))
end
end S1
namespace S1
open PySem PySem.Spec PyProof.Rows L2 Jv
def isNum (m : Int) : PyData → Bool
  | .int i => decide (0 ≤ i) && decide (i < m)
  | _ => false
theorem Da.nonV {K : PySem.W.Frag} {H : Hp} {v : V} {d : PyData} (h : Da K H v d) : decide (v = .non) = isNon d := by
  cases h <;> rfl
theorem okWr_not5 : ∀ {ds : List PyData}, ds.length ≠ 5 → okWr (.tuple ds) = false
  | [], _ => rfl
  | [_], _ => rfl
  | [_, _], _ => rfl
  | [_, _, _], _ => rfl
  | [_, _, _, _], _ => rfl
  | [_, _, _, _, _], h => absurd rfl h
  | _ :: _ :: _ :: _ :: _ :: _ :: _, _ => rfl
section
variable {P : Program} {w : World} {K : PySem.W.Frag} {mg : Str → Option Value} {base : Heap}
def spTwo (K : PySem.W.Frag) (f : List Str → List Str → Bool) : Sp := fun vs H Q _ => ∃ v u xs ys, vs = [v, u] ∧ Da K H v (.tuple (xs.map .str)) ∧ Da K H u (.tuple (ys.map .str)) ∧ (∀ x ∈ xs, PyData.strOk x = true) ∧ (∀ x ∈ ys, PyData.strOk x = true) ∧
  ∀ H', Same H H' → Q (.bl (f xs ys)) H'
theorem ok_is_within (T : Txt K mg) : Ok P w K mg base "is_within" P_is_within 1 (spTwo K within) := by
  refine T.d_is_within.ok sc_is_within (fun vs H Q E h => ?_) (fun f cdv A out s H vs Q E hr h => ?_)
  · obtain ⟨a, b, xs, ys, rfl, _⟩ := h
    rfl
  · obtain ⟨v, u, xs, ys, rfl, ha, hb, ox, oy, q⟩ := h
    refine ⟨_, (pss_cons (ps_set (i := 2) sc_is_within.nd rfl (Or.inl rfl) (pe_op op_sub (pe_callB call_len (by rfl) T.z_len (by decide +kernel) (pa_cons (pv 0) pa_nil)) (pe_callB call_len (by rfl) T.z_len (by decide +kernel) (pa_cons (pv 1) pa_nil))))
    (pss_one (ps_ret (pe_and (pe_cmpR op_ge (pv 2) pe_int (nomark _)) (pe_one (pe_cmpR (op_eqA hr.units) (pe_slice sl_tupA (pv 0) (po_some (pv 2)) po_none) (pv 1) (nomark _))))))), ?_⟩
    have hb0 := hb
    obtain ⟨a, rfl, ta, na⟩ := da_strs ha
    obtain ⟨b, rfl, tb, nb⟩ := da_strs hb
    have lx : ∀ x ∈ xs, x.length ≤ 1000 := by
      cases ha with
      | tup h1 h2 hz => exact da_strs_len h2
    refine ⟨.ref a, rfl, .ref a, _, rfl, Or.inr ⟨_, ta, rfl⟩, .ref b, rfl, .ref b, _, rfl, Or.inr ⟨_, tb, rfl⟩, _, _, rfl, rfl, ?_⟩
    refine ⟨_, rfl, _, 0, rfl, rfl, _, rfl, ?_⟩
    rw [lenStrs, lenStrs]
    by_cases h : ys.length ≤ xs.length
    · have e : within xs ys = decide (xs.drop (xs.length - ys.length) = ys) := by
        unfold within
        rw [decide_eq_true h, Bool.true_and]
      rw [e] at q
      rw [decide_eq_true (show (0 : Int) ≤ (xs.length : Int) - (ys.length : Int) by omega)]
      refine iteT ⟨.ref a, rfl, _, rfl, (xs.length : Int) - (ys.length : Int), rfl, ?_⟩
      rw [show (xs.length : Int) - (ys.length : Int) = ((xs.length - ys.length : Nat) : Int) by omega]
      refine ⟨a, xs.map V.str, rfl, ta, fun c => ?_, fun _ p np => ?_⟩
      · have z : xs.drop (xs.length - ys.length) = xs := by
          have c1 := c.1
          rw [HT.sIx_nat, List.length_map] at c1
          rw [show xs.length - ys.length = 0 by omega]
          rfl
        rw [z] at q
        refine ⟨.ref b, rfl, _, _, ha, hb0, shaped_strs ox, shaped_strs oy, ?_⟩
        rw [eqv_strs]
        exact q H (Same.refl H)
      · rw [cut_from _ (by rw [List.length_map]; omega), ← List.map_drop]
        have sm : Same H (upd H p (.tup ((xs.drop (xs.length - ys.length)).map V.str))) := same_new np
        refine ⟨.ref b, rfl, _, _, .tup (SqT.of upd_same) (daStrs _ fun x hx => lx x (List.mem_of_mem_drop hx)) ?_, Da.same sm _ _ hb0, shaped_strs fun x hx => ox x (List.mem_of_mem_drop hx), shaped_strs oy, ?_⟩
        · rw [List.length_map, List.length_drop]
          omega
        · rw [eqv_strs]
          exact q _ sm
    · have e : within xs ys = false := by
        unfold within
        rw [decide_eq_false h]
        rfl
      rw [e] at q
      rw [decide_eq_false (show ¬ (0 : Int) ≤ (xs.length : Int) - (ys.length : Int) by omega)]
      exact iteF (q H (Same.refl H))
def spNum (K : PySem.W.Frag) : Sp := fun vs H Q _ => ∃ v d m, vs = [v, .int m] ∧ Da K H v d ∧ ∀ H', Same H H' → Q (.bl (isNum m d)) H'
theorem ok_is_number_below (T : Txt K mg) : Ok P w K mg base "is_number_below" P_is_number_below 1 (spNum K) := by
  refine T.d_is_number_below.ok sc_is_number_below (fun vs H Q E h => ?_) (fun f cdv A out s H vs Q E hr h => ?_)
  · obtain ⟨v, d, m, rfl, _⟩ := h
    rfl
  · obtain ⟨v, d, m, rfl, hd, q⟩ := h
    have q := q H (Same.refl H)
    refine ⟨_, (pss_one (ps_ret (pe_and (pe_callB call_isi (by rfl) T.z_isinstance (by decide +kernel) (pa_cons (pv 0) (pa_cons (pe_bltn (v := .ty "int") (by rfl) T.z_int (by decide +kernel) rfl) pa_nil))) (pe_and (pe_not (pe_callB call_isi (by rfl) T.z_isinstance (by decide +kernel) (pa_cons (pv 0) (pa_cons (pe_bltn (v := .ty "bool") (by rfl) T.z_bool (by decide +kernel) rfl) pa_nil)))) (pe_one (pe_chain op_le op_lt pe_int (pv 0) (pv 1))))))), ?_⟩
    obtain ⟨t, ty, _, _, kb, ki⟩ := Da.isi hd
    refine ⟨v, rfl, v, .ty "int", t, .type "int", dNum d, rfl, .ty "int", ty, ki, dNum d, rfl, ?_⟩
    cases hd with
    | int i =>
      refine iteT ⟨.int i, rfl, .int i, .ty "bool", t, .type "bool", false, rfl, .ty "bool", ty, kb, false, rfl, true, rfl, iteT ⟨.int i, rfl, 0, i, rfl, rfl, _, rfl, ite2 (fun h1 => ?_) (fun h1 => ?_)⟩⟩
      · refine ⟨.int m, rfl, i, m, rfl, rfl, ?_⟩
        have e : isNum m (.int i) = decide (i < m) := by
          show (decide (0 ≤ i) && decide (i < m)) = _
          rw [h1, Bool.true_and]
        rw [e] at q
        exact q
      · have e : isNum m (.int i) = false := by
          show (decide (0 ≤ i) && decide (i < m)) = _
          rw [Bool.eq_false_iff.mpr h1, Bool.false_and]
        rw [e] at q
        exact q
    | bl b => exact iteT ⟨.bl b, rfl, .bl b, .ty "bool", t, .type "bool", true, rfl, .ty "bool", ty, kb, true, rfl, false, rfl, iteF q⟩
    | non => exact iteF q
    | str _ _ => exact iteF q
    | tup _ _ _ => exact iteF q
    | lst _ _ _ => exact iteF q
    | dic _ => exact iteF q
theorem ok_is_write (T : Txt K mg) : Ok P w K mg base "is_write" P_is_write 4 (spOne K okWr) := by
  have ok_is_name : Ok P w K mg base "is_name" P_is_name 2 (spOne K (okD lts)) := ok_is_name T
  have ok_is_label : Ok P w K mg base "is_label" P_is_label 2 (spOne K (okD sgs)) := ok_is_label T
  have ok_is_host : Ok P w K mg base "is_host" P_is_host 3 (spOne K (okT 2 5)) := ok_is_host T
  have ok_is_path : Ok P w K mg base "is_path" P_is_path 3 (spOne K (okT 0 4)) := ok_is_path T
  refine T.d_is_write.ok sc_is_write (fun vs H Q E h => ?_) (fun f cdv A out s H vs Q E hr h => ?_)
  · obtain ⟨v, d, rfl, _⟩ := h
    rfl
  · obtain ⟨v, d, rfl, hd, q⟩ := h
    refine ⟨_, (pss_cons (ps_if (PW.pt (pw_or (pt_not (pt_val (pe_callB call_isi (by rfl) T.z_isinstance (by decide +kernel) (pa_cons (pv 0) (pa_cons (pe_bltn (v := .ty "tuple") (by rfl) T.z_tuple (by decide +kernel) rfl) pa_nil))))) (pw_or1 (pt_cmpR op_ne (pe_callB call_len (by rfl) T.z_len (by decide +kernel) (pa_cons (pv 0) pa_nil)) pe_int (nomark _))))) (pss_one (ps_ret pe_bl)) pss_nil)
    (pss_cons (ps_asg (pv 0) (pg_tup rfl (pgs_cons (pg_name (i := 1) sc_is_write.nd rfl (Or.inl rfl)) (pgs_cons (pg_name (i := 2) sc_is_write.nd rfl (Or.inl rfl)) (pgs_cons (pg_name (i := 3) sc_is_write.nd rfl (Or.inl rfl)) (pgs_cons (pg_name (i := 4) sc_is_write.nd rfl (Or.inl rfl)) (pgs_cons (pg_name (i := 5) sc_is_write.nd rfl (Or.inl rfl)) pgs_nil)))))))
    (pss_cons (ps_if (PW.pt (pw_or (pt_not (pt_val (pe_ok ok_is_name (hr.mono (by decide)) (pa_cons (pv 1) pa_nil)))) (pw_or1 (pt_not (pt_val (pe_callB call_isi (by rfl) T.z_isinstance (by decide +kernel) (pa_cons (pv 5) (pa_cons (pe_bltn (v := .ty "bool") (by rfl) T.z_bool (by decide +kernel) rfl) pa_nil)))))))) (pss_one (ps_ret pe_bl)) pss_nil)
    (pss_cons (ps_if (PW.pt (pw_and (pt_cmpR op_notN (pv 2) pe_non (nomark _)) (pw_and1 (pt_not (pt_val (pe_ok ok_is_label (hr.mono (by decide)) (pa_cons (pv 2) pa_nil))))))) (pss_one (ps_ret pe_bl)) pss_nil)
    (pss_cons (ps_if (PW.pt (pw_and (pt_cmpR op_notN (pv 3) pe_non (nomark _)) (pw_and1 (pt_not (pt_val (pe_ok ok_is_host (hr.mono (by decide)) (pa_cons (pv 3) pa_nil))))))) (pss_one (ps_ret pe_bl)) pss_nil)
    (pss_one (ps_ret (pe_or (pe_cmpR op_isN (pv 4) pe_non (nomark _)) (pe_one (pe_ok ok_is_path (hr.mono (by decide)) (pa_cons (pv 4) pa_nil))))))))))), ?_⟩
    obtain ⟨t, ty, ks, _, _, _⟩ := Da.isi hd
    refine ⟨v, rfl, v, .ty "tuple", t, .type "tuple", dTup d, rfl, .ty "tuple", ty, ks, dTup d, rfl, ?_⟩
    cases hd with
    | @tup a xs ds h1 h3 hz =>
      have nl := DaAll.len h3
      refine iteF ⟨.ref a, rfl, .ref a, xs.length, rfl, Or.inr ⟨xs, h1, rfl⟩, rfl, _, rfl, ?_⟩
      by_cases g : xs.length = 5
      · rw [decide_eq_true (show V.int (xs.length : Int) = V.int 5 by rw [g]; rfl)]
        refine iteF ?_
        match xs, ds, h3, nl, g with
        | [x0, x1, x2, x3, x4], [d0, d1, d2, d3, d4], .cons p0 (.cons p1 (.cons p2 (.cons p3 (.cons p4 .nil)))), _, _ =>
          have e0 : okWr (.tuple [d0, d1, d2, d3, d4]) = (okD lts d0 && dBl d4 && (isNon d1 || okD sgs d1) && (isNon d2 || okT 2 5 d2) && (isNon d3 || okT 0 4 d3)) := rfl
          rw [e0] at q
          refine ⟨.ref a, rfl, a, [x0, x1, x2, x3, x4], rfl, h1, rfl, x0, _, rfl, x1, _, rfl, x2, _, rfl, x3, _, rfl, x4, [], rfl, rfl, ?_⟩
          -- the name, guarded
          refine ⟨x0, rfl, x0, d0, rfl, p0, fun H1 s1 => ⟨okD lts d0, rfl, ?_⟩⟩
          cases b0 : okD lts d0 with
          | false =>
            rw [b0] at q
            exact iteT (iteT (q H1 s1))
          | true =>
            rw [b0] at q
            obtain ⟨t2, ty2, _, _, ks2, _⟩ := Da.isi (Da.same s1 _ _ p4)
            refine iteF ⟨x4, rfl, x4, .ty "bool", t2, .type "bool", dBl d4, rfl, .ty "bool", ty2, ks2, dBl d4, rfl, ?_⟩
            cases b4 : dBl d4 with
            | false =>
              rw [b4] at q
              exact iteT (q H1 s1)
            | true =>
              rw [b4] at q
              refine iteF ?_
              -- the value
              have n1 := Da.nonV p1
              refine ⟨x1, rfl, rfl, _, rfl, ?_⟩
              rw [n1]
              have rest : ∀ H2, Same H H2 → (isNon d1 || okD sgs d1) = true → tIfS (tAnd (tTest (tOp (fun x y H Q => y = V.non ∧ Q (V.bl (!decide (x = V.non))) H) (tVar 3) (tC V.non))) (tNot (tB (tCall (spOne K (okT 2 5)) [] E0 (tCons (tVar 3) tNil))))) (tRet (tC (V.bl false))) tNext
                  { nx := tRet (tOrV (tOp (fun x y H Q => y = V.non ∧ Q (V.bl (decide (x = V.non))) H) (tVar 4) (tC V.non)) (tCall (spOne K (okT 0 4)) [] E0 (tCons (tVar 4) tNil))) { nx := fun _ H' => Q .non H', rt := Q }, rt := Q } [some (.ref a), some x0, some x1, some x2, some x3, some x4] H2 := by
                intro H2 s2 c1
                rw [c1] at q
                refine ⟨x2, rfl, rfl, _, rfl, ?_⟩
                rw [Da.nonV p2]
                have last : ∀ H3, Same H H3 → (isNon d2 || okT 2 5 d2) = true → tRet (tOrV (tOp (fun x y H Q => y = V.non ∧ Q (V.bl (decide (x = V.non))) H) (tVar 4) (tC V.non)) (tCall (spOne K (okT 0 4)) [] E0 (tCons (tVar 4) tNil))) { nx := fun _ H' => Q .non H', rt := Q } [some (.ref a), some x0, some x1, some x2, some x3, some x4] H3 := by
                  intro H3 s3 c2
                  rw [c2] at q
                  refine ⟨x3, rfl, rfl, _, rfl, ?_⟩
                  rw [Da.nonV p3]
                  cases b3 : isNon d3 with
                  | true =>
                    rw [b3] at q
                    exact iteT (q H3 s3)
                  | false =>
                    rw [b3] at q
                    exact iteF ⟨x3, rfl, x3, d3, rfl, Da.same s3 _ _ p3, fun H4 s4 => q H4 (s3.trans s4)⟩
                cases b2 : isNon d2 with
                | true => exact iteF (iteF (last H2 s2 (by rw [b2]; rfl)))
                | false =>
                  refine iteT ⟨x2, rfl, x2, d2, rfl, Da.same s2 _ _ p2, fun H3 s3 => ⟨okT 2 5 d2, rfl, ?_⟩⟩
                  cases c2 : okT 2 5 d2 with
                  | true => exact iteF (last H3 (s2.trans s3) (by rw [c2, Bool.or_true]))
                  | false =>
                    rw [b2, c2] at q
                    exact iteT (q H3 (s2.trans s3))
              cases b1 : isNon d1 with
              | true => exact iteF (iteF (rest H1 s1 (by rw [b1]; rfl)))
              | false =>
                refine iteT ⟨x1, rfl, x1, d1, rfl, Da.same s1 _ _ p1, fun H2 s2 => ⟨okD sgs d1, rfl, ?_⟩⟩
                cases c1 : okD sgs d1 with
                | true => exact iteF (rest H2 (s1.trans s2) (by rw [c1, Bool.or_true]))
                | false =>
                  rw [b1, c1] at q
                  exact iteT (q H2 (s1.trans s2))
      · rw [decide_eq_false (show ¬ V.int (xs.length : Int) = V.int 5 from fun z => g (by have := V.int.inj z; omega))]
        rw [okWr_not5 (by omega)] at q
        exact iteT (q H (Same.refl H))
    | non => exact iteT (iteT (q H (Same.refl H)))
    | int i => exact iteT (iteT (q H (Same.refl H)))
    | bl b => exact iteT (iteT (q H (Same.refl H)))
    | str _ _ => exact iteT (iteT (q H (Same.refl H)))
    | lst _ _ _ => exact iteT (iteT (q H (Same.refl H)))
    | dic _ => exact iteT (iteT (q H (Same.refl H)))
end
end S1
namespace S1
open PySem PySem.Spec PyProof.Rows L2 Jv
/-- the number of the first that is no write -/
def badFrom : Nat → List PyData → Option Nat
  | _, [] => none
  | n, d :: ds => if okWr d then badFrom (n + 1) ds else some n
def pageBad (n : Int) : PyData → Option (List Int)
  | .tuple [a, .tuple ws] => if okA a && decide ((ws.length : Int) ≤ 5) then (badFrom 0 ws).map (fun j : Nat => [n, (j : Int)]) else some [n]
  | _ => some [n]
def pagesBad : Nat → List PyData → Option (List Int)
  | _, [] => none
  | n, d :: ds => match pageBad n d with
    | some p => some p
    | none => pagesBad (n + 1) ds
def siteBad : PyData → Option (List Int)
  | .tuple ds => if decide ((1 : Int) ≤ (ds.length : Int)) && decide ((ds.length : Int) ≤ 5) then pagesBad 0 ds else some []
  | _ => some []
theorem badFrom_get : ∀ {ds : List PyData} {n i : Nat} {d : PyData}, (∀ j e, j < i → ds[j]? = some e → okWr e = true) → ds[i]? = some d → okWr d = false → badFrom n ds = some (n + i)
  | [], _, _, _, _, h, _ => by simp at h
  | e :: es, n, 0, d, _, h, b => by
    simp at h
    subst h
    unfold badFrom
    rw [b]
    rfl
  | e :: es, n, i + 1, d, a, h, b => by
    unfold badFrom
    rw [a 0 e (Nat.succ_pos _) rfl, if_pos rfl, badFrom_get (n := n + 1) (i := i) (fun j x hj hx => a (j + 1) x (Nat.succ_lt_succ hj) (by simpa using hx)) (by simpa using h) b]
    congr 1
    omega
theorem badFrom_none : ∀ {ds : List PyData} {n : Nat}, (∀ j e, j < ds.length → ds[j]? = some e → okWr e = true) → badFrom n ds = none
  | [], _, _ => rfl
  | e :: es, n, a => by
    unfold badFrom
    rw [a 0 e (Nat.succ_pos _) rfl, if_pos rfl]
    exact badFrom_none fun j x hj hx => a (j + 1) x (Nat.succ_lt_succ hj) (by simpa using hx)
theorem pagesBad_get : ∀ {ds : List PyData} {n i : Nat} {d : PyData} {p : List Int}, (∀ (j : Nat) e, j < i → ds[j]? = some e → pageBad ((n + j : Nat) : Int) e = none) → ds[i]? = some d → pageBad ((n + i : Nat) : Int) d = some p → pagesBad n ds = some p
  | [], _, _, _, _, _, h, _ => by simp at h
  | e :: es, n, 0, d, p, _, h, b => by
    simp at h
    subst h
    unfold pagesBad
    rw [show pageBad (n : Int) e = some p from b]
  | e :: es, n, i + 1, d, p, a, h, b => by
    unfold pagesBad
    rw [show pageBad (n : Int) e = none from a 0 e (Nat.succ_pos _) rfl]
    refine pagesBad_get (n := n + 1) (i := i) (fun j x hj hx => ?_) (by simpa using h) ?_
    · rw [show n + 1 + j = n + (j + 1) by omega]
      exact a (j + 1) x (Nat.succ_lt_succ hj) (by simpa using hx)
    · rw [show n + 1 + i = n + (i + 1) by omega]
      exact b
theorem pagesBad_none : ∀ {ds : List PyData} {n : Nat}, (∀ (j : Nat) e, j < ds.length → ds[j]? = some e → pageBad ((n + j : Nat) : Int) e = none) → pagesBad n ds = none
  | [], _, _ => rfl
  | e :: es, n, a => by
    unfold pagesBad
    rw [show pageBad (n : Int) e = none from a 0 e (Nat.succ_pos _) rfl]
    refine pagesBad_none fun j x hj hx => ?_
    rw [show n + 1 + j = n + (j + 1) by omega]
    exact a (j + 1) x (Nat.succ_lt_succ hj) (by simpa using hx)
/-- none: it ends and has changed nothing; a place: it raises the error of the class C, which keeps it -/
def Told (K : PySem.W.Frag) (C : Addr) (f : Str) (H : Hp) (Q : Hp → Prop) (E : XK) : Option (List Int) → Prop
  | none => ∀ H', Same H H' → Q H'
  | some ns => ∀ H' d t, Same H H' → H' d = some (.xd [(f, .ref t)]) → SqT K H' t (ns.map V.int) → E (.ref C) (some d) H'
section
variable {P : Program} {w : World} {K : PySem.W.Frag} {mg : Str → Option Value} {base : Heap} {C : Addr}
theorem told_raise {x f : Str} {H H1 : Hp} {Q : Hp → Prop} {E : XK} {ns : List Int} {p : Addr} (N : Exn P w K mg base x f C) (q : Told K C f H Q E (some ns)) (s : Same H H1) (np : H1 p = none) : [V.ref p].length ≤ 1000 ∧ ∀ a, upd H1 p (.tup (ns.map V.int)) a = none → spInit K f (.ref a :: ([V.ref p] ++ [])) (upd (upd H1 p (.tup (ns.map V.int))) a (exo a C none))
      (fun v H2 => v = .non ∧ ∃ (d : Addr) (fs : List (Str × V)), H2 a = some (exo a C (some d)) ∧ H2 d = some (exd d fs) ∧ upd H1 p (.tup (ns.map V.int)) d = none ∧ E (.ref C) (some d) (upd (del H2 a) d (.xd fs))) (fun _ _ _ => False) :=
  mk_read N fun d Hx nd sx ed => q Hx d p ((s.trans (same_new np)).trans sx) ed (SqT.of (sx _ _ upd_same))
theorem exn_BadSite (T : Txt K mg) (D : ExnD K mg "BadSite" "place" "BadSite.__init__" st_BadSite C) : Exn P w K mg base "BadSite" "place" C := by
  obtain ⟨B, b⟩ := T.b_JarError
  refine D.exn sc_BadSite fun fI cdv A out s H vs Q E hr h => ?_
  obtain ⟨a, C', y, rfl, ea, hT, hno, q⟩ := h
  refine ⟨_, pss_cons (ps_expr (pe_jinit b (pa_cons (pv 0) (pa_cons pe_str pa_nil)))) (pss_one (ps_ost (pv 0) (pv 1))), ?_⟩
  exact ⟨.ref a, rfl, a, C', [_], rfl, (by decide), hT, ea, y, rfl, .ref a, rfl, a, C', rfl, hT, hno, Or.inl ⟨ea, fun dx n ne => q dx n ne⟩⟩
theorem exn_BadPage (T : Txt K mg) (D : ExnD K mg "BadPage" "given" "BadPage.__init__" st_BadPage C) : Exn P w K mg base "BadPage" "given" C := by
  obtain ⟨B, b⟩ := T.b_JarError
  refine D.exn sc_BadPage fun fI cdv A out s H vs Q E hr h => ?_
  obtain ⟨a, C', y, rfl, ea, hT, hno, q⟩ := h
  refine ⟨_, pss_cons (ps_expr (pe_jinit b (pa_cons (pv 0) (pa_cons pe_str pa_nil)))) (pss_one (ps_ost (pv 0) (pv 1))), ?_⟩
  exact ⟨.ref a, rfl, a, C', [_], rfl, (by decide), hT, ea, y, rfl, .ref a, rfl, a, C', rfl, hT, hno, Or.inl ⟨ea, fun dx n ne => q dx n ne⟩⟩
theorem len1 {v : V} : [v].length ≤ sizeLine := sz1000 (by show 1 ≤ 1000; decide)
theorem len2 {v u : V} : [v, u].length ≤ sizeLine := sz1000 (by show 2 ≤ 1000; decide)
theorem pageBad_not2 {n : Int} : ∀ {ds : List PyData}, ds.length ≠ 2 → pageBad n (.tuple ds) = some [n]
  | [], _ => rfl
  | [_], _ => rfl
  | [_, _], h => absurd rfl h
  | _ :: b :: _ :: _, _ => by cases b <;> rfl
theorem pageBad_a {n : Int} {d e : PyData} (h : okA d = false) : pageBad n (.tuple [d, e]) = some [n] := by
  cases e <;> simp [pageBad, h]
theorem pageBad_w {n : Int} {d : PyData} {ws : List PyData} (h : okA d = true) (hw : (ws.length : Int) ≤ 5) : pageBad n (.tuple [d, .tuple ws]) = (badFrom 0 ws).map (fun j : Nat => [n, (j : Int)]) := by
  simp only [pageBad, h, decide_eq_true hw, Bool.and_true, if_true]
theorem pageBad_m {n : Int} {d : PyData} {ws : List PyData} (h : okA d = true) (hw : ¬ (ws.length : Int) ≤ 5) : pageBad n (.tuple [d, .tuple ws]) = some [n] := by
  simp only [pageBad, decide_eq_false hw, Bool.and_false, Bool.false_eq_true, if_false]
def spPF (K : PySem.W.Frag) (C : Addr) : Sp := fun vs H Q E => ∃ v d n, vs = [v, .int n] ∧ Da K H v d ∧ Told K C "place" H (Q .non) E (pageBad n d)
theorem ok_need_page_form (T : Txt K mg) (n_BadSite : Exn P w K mg base "BadSite" "place" C) : OkX P w K mg base "_need_page_form" P__need_page_form 5 (spPF K C) := by
  have ok_is_address : Ok P w K mg base "is_address" P_is_address 4 (spOne K okA) := ok_is_address T
  have ok_is_write : Ok P w K mg base "is_write" P_is_write 4 (spOne K okWr) := ok_is_write T
  refine T.d__need_page_form.okX sc__need_page_form (fun vs H Q E h => ?_) (fun f cdv A out s H vs Q E hr h => ?_)
  · obtain ⟨v, d, n, rfl, _⟩ := h
    rfl
  · obtain ⟨v, d, n, rfl, hd, q⟩ := h
    refine ⟨_, (pss_cons (ps_if (PW.pt (pw_or (pt_not (pt_val (pe_callB call_isi (by rfl) T.z_isinstance (by decide +kernel) (pa_cons (pv 0) (pa_cons (pe_bltn (v := .ty "tuple") (by rfl) T.z_tuple (by decide +kernel) rfl) pa_nil))))) (pw_or1 (pt_cmpR op_ne (pe_callB call_len (by rfl) T.z_len (by decide +kernel) (pa_cons (pv 0) pa_nil)) pe_int (nomark _))))) (pss_one (ps_raiseE n_BadSite (hr.mono (by decide)) (takes_of rfl rfl rfl rfl) (pe_tup (pa_cons (pv 1) pa_nil)))) pss_nil)
    (pss_cons (ps_asg (pv 0) (pg_tup rfl (pgs_cons (pg_name (i := 2) sc__need_page_form.nd rfl (Or.inl rfl)) (pgs_cons (pg_name (i := 3) sc__need_page_form.nd rfl (Or.inl rfl)) pgs_nil))))
    (pss_cons (ps_if (PW.pt (pw_or (pt_not (pt_val (pe_ok ok_is_address (hr.mono (by decide)) (pa_cons (pv 2) pa_nil)))) (pw_or (pt_not (pt_val (pe_callB call_isi (by rfl) T.z_isinstance (by decide +kernel) (pa_cons (pv 3) (pa_cons (pe_bltn (v := .ty "tuple") (by rfl) T.z_tuple (by decide +kernel) rfl) pa_nil))))) (pw_or1 (pt_cmpR op_gt (pe_callB call_len (by rfl) T.z_len (by decide +kernel) (pa_cons (pv 3) pa_nil)) (pe_gc T.c_MOST_WRITES) (nomark _)))))) (pss_one (ps_raiseE n_BadSite (hr.mono (by decide)) (takes_of rfl rfl rfl rfl) (pe_tup (pa_cons (pv 1) pa_nil)))) pss_nil)
    (pss_one (ps_for (passes_of rfl) rfl (pi_jenum (by rfl) T.z_enumerate (pa_cons (pv 3) pa_nil)) (pg_tup rfl (pgs_cons (pg_name (i := 4) sc__need_page_form.nd rfl (Or.inl rfl)) (pgs_cons (pg_name (i := 5) sc__need_page_form.nd rfl (Or.inl rfl)) pgs_nil))) (pss_one (ps_if (pt_not (pt_val (pe_ok ok_is_write (hr.mono (by decide)) (pa_cons (pv 5) pa_nil)))) (pss_one (ps_raiseE n_BadSite (hr.mono (by decide)) (takes_of rfl rfl rfl rfl) (pe_tup (pa_cons (pv 1) (pa_cons (pv 4) pa_nil))))) pss_nil))))))), ?_⟩
    obtain ⟨t, ty, ks, _, _, _⟩ := Da.isi hd
    refine ⟨v, rfl, v, .ty "tuple", t, .type "tuple", dTup d, rfl, .ty "tuple", ty, ks, dTup d, rfl, ?_⟩
    have one : ∀ {H1 : Hp} {Q' : Hp → Prop} {E' : XK}, Same H H1 → Told K C "place" H Q' E' (some [n]) → ∀ (p : Addr), H1 p = none → _ := fun s q p np => told_raise (P := P) (w := w) (mg := mg) (base := base) n_BadSite q s np
    cases hd with
    | @tup a xs ds h1 h3 hz =>
      have nl := DaAll.len h3
      refine iteF ⟨.ref a, rfl, .ref a, xs.length, rfl, Or.inr ⟨xs, h1, rfl⟩, rfl, _, rfl, ?_⟩
      by_cases g : xs.length = 2
      · rw [decide_eq_true (show V.int (xs.length : Int) = V.int 2 by rw [g]; rfl)]
        refine iteF ?_
        match xs, ds, h3, nl, g with
        | [x0, x1], [d0, d1], .cons p0 (.cons p1 .nil), _, _ =>
          refine ⟨.ref a, rfl, a, [x0, x1], rfl, h1, rfl, x0, _, rfl, x1, [], rfl, rfl, ?_⟩
          refine ⟨x0, rfl, x0, d0, rfl, p0, fun H1 s1 => ⟨okA d0, rfl, ?_⟩⟩
          cases b0 : okA d0 with
          | false =>
            rw [pageBad_a b0] at q
            exact iteT ⟨.int n, rfl, len1, one s1 q⟩
          | true =>
            have p2 := Da.same s1 _ _ p1
            obtain ⟨t2, ty2, ks2, _, _, _⟩ := Da.isi p2
            refine iteF ⟨x1, rfl, x1, .ty "tuple", t2, .type "tuple", dTup d1, rfl, .ty "tuple", ty2, ks2, dTup d1, rfl, ?_⟩
            cases p2 with
            | @tup b ys es g1 g3 gz =>
              have ml := DaAll.len g3
              refine iteF ⟨.ref b, rfl, .ref b, ys.length, rfl, Or.inr ⟨ys, g1, rfl⟩, ys.length, 5, rfl, rfl, _, rfl, ?_⟩
              by_cases g2 : (ys.length : Int) ≤ 5
              · rw [decide_eq_false (show ¬ (5 : Int) < ys.length by omega)]
                rw [pageBad_w b0 (by rw [← ml]; exact g2)] at q
                refine iteF ⟨.ref b, rfl, b, ys, rfl, g1, for_it walk_jte (fun i σ H' => (∃ c d, σ = [some (.ref a), some (.int n), some x0, some (.ref b), c, d]) ∧ Same H H' ∧ SqT K H' b ys ∧ DaAll K H' ys es ∧ ∀ j e, j < i → es[j]? = some e → okWr e = true)
                  ⟨⟨_, _, rfl⟩, s1, g1, g3, fun j e hj => absurd hj (Nat.not_lt_zero _)⟩ (fun i σ H' hi pv => pv.2.2.1) (fun i x σ H1 H2 hlt pv y => ?_) fun σ H1 pv => ?_⟩
                · obtain ⟨⟨c, d, rfl⟩, sa, sb, da, all⟩ := pv
                  obtain ⟨T', u, z, rfl, nT, rfl, hu, hz'⟩ := y
                  cases hu
                  obtain ⟨e, e1, e2⟩ := DaAll.get da hz'
                  have st : Same H1 (upd H1 T' (.tup [.int (i : Nat), z])) := same_new nT
                  refine ⟨T', [_, _], rfl, SqT.of upd_same, rfl, _, _, rfl, _, _, rfl, rfl, ?_⟩
                  refine ⟨z, rfl, z, e, rfl, Da.same st _ _ e2, fun H2 s2 => ⟨okWr e, rfl, ?_⟩⟩
                  cases bw : okWr e with
                  | false =>
                    rw [badFrom_get (n := 0) all e1 bw] at q
                    refine iteT ⟨.int n, rfl, .int i, rfl, len2, fun p np => told_raise (ns := [n, (i : Int)]) (Q := Q .non) n_BadSite ?_ ((sa.trans st).trans s2) np⟩
                    rw [Option.map_some, Nat.zero_add] at q
                    exact q
                  | true =>
                    refine iteF ⟨⟨_, _, rfl⟩, (sa.trans st).trans s2, sqT_same s2 (sqT_same st sb), DaAll.same s2 _ _ (DaAll.same st _ _ da), fun j x hj hx => ?_⟩
                    rcases Nat.lt_or_ge j i with w | w
                    · exact all j x w hx
                    · rw [show j = i by omega, e1] at hx
                      cases hx
                      exact bw
                · obtain ⟨⟨c, d, rfl⟩, sa, sb, da, all⟩ := pv
                  rw [badFrom_none (n := 0) (by rw [← ml]; exact all)] at q
                  exact q H1 sa
              · rw [decide_eq_true (show (5 : Int) < ys.length by omega)]
                rw [pageBad_m b0 (by rw [← ml]; exact g2)] at q
                exact iteT ⟨.int n, rfl, len1, one s1 q⟩
            | non => exact iteT ⟨.int n, rfl, len1, one s1 q⟩
            | bl _ => exact iteT ⟨.int n, rfl, len1, one s1 q⟩
            | int _ => exact iteT ⟨.int n, rfl, len1, one s1 q⟩
            | str _ _ => exact iteT ⟨.int n, rfl, len1, one s1 q⟩
            | lst _ _ _ => exact iteT ⟨.int n, rfl, len1, one s1 q⟩
            | dic _ => exact iteT ⟨.int n, rfl, len1, one s1 q⟩
      · rw [decide_eq_false (show ¬ V.int (xs.length : Int) = V.int 2 from fun z => g (by injection z with z; omega))]
        rw [pageBad_not2 (by rw [← nl]; exact g)] at q
        exact iteT ⟨.int n, rfl, len1, one (Same.refl H) q⟩
    | non => exact iteT ⟨.int n, rfl, len1, one (Same.refl H) q⟩
    | bl _ => exact iteT ⟨.int n, rfl, len1, one (Same.refl H) q⟩
    | int _ => exact iteT ⟨.int n, rfl, len1, one (Same.refl H) q⟩
    | str _ _ => exact iteT ⟨.int n, rfl, len1, one (Same.refl H) q⟩
    | lst _ _ _ => exact iteT ⟨.int n, rfl, len1, one (Same.refl H) q⟩
    | dic _ => exact iteT ⟨.int n, rfl, len1, one (Same.refl H) q⟩
def spSite (K : PySem.W.Frag) (C : Addr) : Sp := fun vs H Q E => ∃ v d, vs = [v] ∧ Da K H v d ∧ Told K C "place" H (Q v) E (siteBad d)
theorem ok_need_site (T : Txt K mg) (n_BadSite : Exn P w K mg base "BadSite" "place" C) : OkX P w K mg base "need_site" P_need_site 6 (spSite K C) := by
  have ok__need_page_form : OkX P w K mg base "_need_page_form" P__need_page_form 5 (spPF K C) := ok_need_page_form T n_BadSite
  refine T.d_need_site.okX sc_need_site (fun vs H Q E h => ?_) (fun f cdv A out s H vs Q E hr h => ?_)
  · obtain ⟨v, d, rfl, _⟩ := h
    rfl
  · obtain ⟨v, d, rfl, hd, q⟩ := h
    refine ⟨_, (pss_cons (ps_if (PW.pt (pw_or (pt_not (pt_val (pe_callB call_isi (by rfl) T.z_isinstance (by decide +kernel) (pa_cons (pv 0) (pa_cons (pe_bltn (v := .ty "tuple") (by rfl) T.z_tuple (by decide +kernel) rfl) pa_nil))))) (pw_or1 (pt_not (pt_chain op_le op_le pe_int (pe_callB call_len (by rfl) T.z_len (by decide +kernel) (pa_cons (pv 0) pa_nil)) (pe_gc T.c_MOST_PAGES)))))) (pss_one (ps_raiseE n_BadSite (hr.mono (by decide)) (takes_of rfl rfl rfl rfl) (pe_tup pa_nil))) pss_nil)
    (pss_cons (ps_for (passes_of rfl) rfl (pi_jenum (by rfl) T.z_enumerate (pa_cons (pv 0) pa_nil)) (pg_tup rfl (pgs_cons (pg_name (i := 1) sc_need_site.nd rfl (Or.inl rfl)) (pgs_cons (pg_name (i := 2) sc_need_site.nd rfl (Or.inl rfl)) pgs_nil))) (pss_one (ps_expr (pe_okX ok__need_page_form (hr.mono (by decide)) (takes_of rfl rfl rfl rfl) (pa_cons (pv 2) (pa_cons (pv 1) pa_nil))))))
    (pss_one (ps_ret (pv 0))))), ?_⟩
    obtain ⟨t, ty, ks, _, _, _⟩ := Da.isi hd
    refine ⟨v, rfl, v, .ty "tuple", t, .type "tuple", dTup d, rfl, .ty "tuple", ty, ks, dTup d, rfl, ?_⟩
    have one : ∀ {Q' : Hp → Prop} {E' : XK}, Told K C "place" H Q' E' (some []) → ∀ (p : Addr), H p = none → _ := fun q p np => told_raise (P := P) (w := w) (mg := mg) (base := base) (ns := []) n_BadSite q (Same.refl H) np
    have l0 : ([] : List V).length ≤ sizeLine := Nat.zero_le _
    cases hd with
    | @tup a xs ds h1 h3 hz =>
      have nl := DaAll.len h3
      have hd0 : Da K H (.ref a) (.tuple ds) := .tup h1 h3 hz
      have e0 : siteBad (.tuple ds) = if decide ((1 : Int) ≤ (ds.length : Int)) && decide ((ds.length : Int) ≤ 5) then pagesBad 0 ds else some [] := rfl
      rw [e0, ← nl] at q
      refine iteF ⟨.ref a, rfl, .ref a, xs.length, rfl, Or.inr ⟨xs, h1, rfl⟩, 1, xs.length, rfl, rfl, _, rfl, ?_⟩
      by_cases g1 : (1 : Int) ≤ xs.length
      · rw [decide_eq_true g1]
        rw [decide_eq_true g1] at q
        refine iteT ⟨xs.length, 5, rfl, rfl, _, rfl, ?_⟩
        by_cases g2 : (xs.length : Int) ≤ 5
        · rw [decide_eq_true g2]
          rw [decide_eq_true g2] at q
          have q : Told K C "place" H (Q (.ref a)) E (pagesBad 0 ds) := q
          refine iteF ⟨.ref a, rfl, a, xs, rfl, h1, for_it walk_jte (fun i σ H' => (∃ c d, σ = [some (.ref a), c, d]) ∧ Same H H' ∧ SqT K H' a xs ∧ DaAll K H' xs ds ∧ ∀ (j : Nat) e, j < i → ds[j]? = some e → pageBad ((0 + j : Nat) : Int) e = none)
            ⟨⟨_, _, rfl⟩, Same.refl H, h1, h3, fun j e hj => absurd hj (Nat.not_lt_zero _)⟩ (fun i σ H' hi pv => pv.2.2.1) (fun i x σ H1 H2 hlt pv y => ?_) fun σ H1 pv => ?_⟩
          · obtain ⟨⟨c, d, rfl⟩, sa, sb, da, all⟩ := pv
            obtain ⟨T', u, z, rfl, nT, rfl, hu, hz'⟩ := y
            cases hu
            obtain ⟨e, e1, e2⟩ := DaAll.get da hz'
            have st : Same H1 (upd H1 T' (.tup [.int (i : Nat), z])) := same_new nT
            refine ⟨T', [_, _], rfl, SqT.of upd_same, rfl, _, _, rfl, _, _, rfl, rfl, ?_⟩
            refine ⟨z, rfl, .int (i : Nat), rfl, z, e, (i : Nat), rfl, Da.same st _ _ e2, ?_⟩
            cases bp : pageBad ((i : Nat) : Int) e with
            | none =>
              intro H2 s2
              refine ⟨⟨_, _, rfl⟩, (sa.trans st).trans s2, sqT_same s2 (sqT_same st sb), DaAll.same s2 _ _ (DaAll.same st _ _ da), fun j x hj hx => ?_⟩
              rcases Nat.lt_or_ge j i with w | w
              · exact all j x w hx
              · rw [show j = i by omega, e1] at hx
                cases hx
                rw [show j = i by omega, Nat.zero_add]
                exact bp
            | some p =>
              rw [pagesBad_get (n := 0) (p := p) all e1 (by rw [Nat.zero_add]; exact bp)] at q
              exact fun H2 dd t' s2 => q H2 dd t' ((sa.trans st).trans s2)
          · obtain ⟨⟨c, d, rfl⟩, sa, sb, da, all⟩ := pv
            rw [pagesBad_none (n := 0) (by rw [← nl]; exact all)] at q
            exact ⟨.ref a, rfl, q H1 sa⟩
        · rw [decide_eq_false g2]
          rw [decide_eq_false g2] at q
          exact iteT ⟨l0, one q⟩
      · rw [decide_eq_false g1]
        rw [decide_eq_false g1] at q
        exact iteF ⟨_, rfl, iteT ⟨l0, one q⟩⟩
    | non => exact iteT ⟨l0, one q⟩
    | bl _ => exact iteT ⟨l0, one q⟩
    | int _ => exact iteT ⟨l0, one q⟩
    | str _ _ => exact iteT ⟨l0, one q⟩
    | lst _ _ _ => exact iteT ⟨l0, one q⟩
    | dic _ => exact iteT ⟨l0, one q⟩
/-- the number itself, or the error that keeps what was given -/
def spPg (K : PySem.W.Frag) (C : Addr) : Sp := fun vs H Q E => ∃ a xs u d, vs = [.ref a, u] ∧ SqT K H a xs ∧ Da K H u d ∧
  if isNum xs.length d then ∀ H', Same H H' → Q u H' else ∀ H' dd, Same H H' → H' dd = some (.xd [("given", u)]) → E (.ref C) (some dd) H'
theorem ok_need_page (T : Txt K mg) (n_BadPage : Exn P w K mg base "BadPage" "given" C) : OkX P w K mg base "need_page" P_need_page 3 (spPg K C) := by
  have ok_is_number_below : Ok P w K mg base "is_number_below" P_is_number_below 1 (spNum K) := ok_is_number_below T
  refine T.d_need_page.okX sc_need_page (fun vs H Q E h => ?_) (fun f cdv A out s H vs Q E hr h => ?_)
  · obtain ⟨a, xs, u, d, rfl, _⟩ := h
    rfl
  · obtain ⟨a, xs, u, d, rfl, hq, hd, q⟩ := h
    refine ⟨_, (pss_cons (ps_if (pt_not (pt_val (pe_ok ok_is_number_below (hr.mono (by decide)) (pa_cons (pv 1) (pa_cons (pe_callB call_len (by rfl) T.z_len (by decide +kernel) (pa_cons (pv 0) pa_nil)) pa_nil))))) (pss_one (ps_raiseE n_BadPage (hr.mono (by decide)) (takes_of rfl rfl rfl rfl) (pv 1))) pss_nil)
    (pss_one (ps_ret (pv 1)))), ?_⟩
    refine ⟨u, rfl, .ref a, rfl, .ref a, xs.length, rfl, Or.inr ⟨xs, hq, rfl⟩, u, d, xs.length, rfl, hd, fun H1 s1 => ⟨isNum xs.length d, rfl, ?_⟩⟩
    cases b : isNum xs.length d with
    | true =>
      rw [b] at q
      exact iteF ⟨u, rfl, q H1 s1⟩
    | false =>
      rw [b] at q
      exact iteT ⟨u, rfl, mk_read n_BadPage fun dd Hx nd sx ed => q Hx dd (s1.trans sx) ed⟩
end
end S1
namespace S1
open PySem PySem.Spec PyProof.Rows L2 Jv
theorem optT_str {K : PySem.W.Frag} {H : Hp} {v : V} {xs : List Str} (h : Da K H v (optT (some xs))) : ∃ a, v = .ref a ∧ SqT K H a (xs.map V.str) ∧ xs.length ≤ 1000 := da_strs h
theorem cut_last (xs : List Str) : cutV (xs.map V.str) none (some (-1)) = xs.dropLast.map V.str := by
  unfold cutV
  rw [HT.sIx_none]
  have e : HT.sIx (xs.map V.str).length (xs.map V.str).length (some (-1)) = xs.length - 1 := by
    show (if (-1 : Int) < 0 then (-1 + ((xs.map V.str).length : Int)).toNat else min (-1 : Int).toNat (xs.map V.str).length) = _
    rw [if_pos (by decide), List.length_map]
    omega
  rw [e, List.drop_zero, Nat.sub_zero, List.dropLast_eq_take, List.map_take]
theorem cut_whole {xs : List Str} (h : HT.sIx (xs.map V.str).length (xs.map V.str).length (some (-1)) = (xs.map V.str).length) : xs.dropLast = xs := by
  have e : HT.sIx (xs.map V.str).length (xs.map V.str).length (some (-1)) = xs.length - 1 := by
    show (if (-1 : Int) < 0 then (-1 + ((xs.map V.str).length : Int)).toNat else min (-1 : Int).toNat (xs.map V.str).length) = _
    rw [if_pos (by decide), List.length_map]
    omega
  rw [e, List.length_map] at h
  have : xs = [] := List.eq_nil_of_length_eq_zero (by omega)
  rw [this]
  rfl
theorem len4 {a b c d : V} : [a, b, c, d].length ≤ sizeLine := sz1000 (by show 4 ≤ 1000; decide)
section
variable {P : Program} {w : World} {K : PySem.W.Frag} {mg : Str → Option Value} {base : Heap} {C : Addr}
def spTk (K : PySem.W.Frag) : Sp := fun vs H Q _ => ∃ v u a wr, vs = [v, u] ∧ Da K H v (Ad.py a) ∧ Da K H u (Wr.py wr) ∧ a.Ok ∧ wr.Ok ∧ ∀ H', Same H H' → Q (.bl (takenM a wr)) H'
theorem ok_is_taken (T : Txt K mg) : Ok P w K mg base "_is_taken" P__is_taken 2 (spTk K) := by
  have ok_is_within : Ok P w K mg base "is_within" P_is_within 1 (spTwo K within) := ok_is_within T
  refine T.d__is_taken.ok sc__is_taken (fun vs H Q E h => ?_) (fun f cdv A out s H vs Q E hr h => ?_)
  · obtain ⟨v, u, a, wr, rfl, _⟩ := h
    rfl
  · obtain ⟨v, u, a, wr, rfl, ha, hw, oa, ow, q⟩ := h
    refine ⟨_, (pss_cons (ps_asg (pv 0) (pg_tup rfl (pgs_cons (pg_name (i := 2) sc__is_taken.nd rfl (Or.inl rfl)) (pgs_cons (pg_name (i := 3) sc__is_taken.nd rfl (Or.inl rfl)) (pgs_cons (pg_name (i := 4) sc__is_taken.nd rfl (Or.inl rfl)) pgs_nil)))))
    (pss_cons (ps_asg (pv 1) (pg_tup rfl (pgs_cons (pg_name (i := 3) sc__is_taken.nd rfl (Or.inl rfl)) (pgs_cons (pg_name (i := 3) sc__is_taken.nd rfl (Or.inl rfl)) (pgs_cons (pg_name (i := 5) sc__is_taken.nd rfl (Or.inl rfl)) (pgs_cons (pg_name (i := 3) sc__is_taken.nd rfl (Or.inl rfl)) (pgs_cons (pg_name (i := 6) sc__is_taken.nd rfl (Or.inl rfl)) pgs_nil)))))))
    (pss_cons (ps_if (PW.pt (pw_and (pt_val (pv 6)) (pw_and1 (pt_not (pt_val (pv 4)))))) (pss_one (ps_ret pe_bl)) pss_nil)
    (pss_one (ps_ret (pe_or (pe_cmpR op_isN (pv 5) pe_non (nomark _)) (pe_one (pe_ok ok_is_within (hr.mono (by decide)) (pa_cons (pv 2) (pa_cons (pv 5) pa_nil)))))))))), ?_⟩
    obtain ⟨b, x, y, rfl, a1, a2, a3⟩ := da_ad ha
    obtain ⟨c, z, z', rfl, w1, w2, w3⟩ := da_wr hw
    refine ⟨.ref b, rfl, b, _, rfl, a1, rfl, _, _, rfl, _, _, rfl, _, _, rfl, rfl, ?_⟩
    refine ⟨.ref c, rfl, c, _, rfl, w1, rfl, _, _, rfl, _, _, rfl, _, _, rfl, _, _, rfl, _, _, rfl, rfl, ?_⟩
    obtain ⟨host, path, sec⟩ := a
    obtain ⟨nm, val, dom, fold, grd⟩ := wr
    have last : (grd && !sec) = false → tRet (tOrV (tOp (fun x y H Q => y = V.non ∧ Q (V.bl (decide (x = V.non))) H) (tVar 5) (tC V.non)) (tCall (spTwo K within) [] E0 (tCons (tVar 2) (tCons (tVar 5) tNil)))) { nx := fun _ H' => Q .non H', rt := Q }
        [some (.ref b), some (.ref c), some x, some z', some (.bl sec), some z, some (.bl grd)] H := by
      intro g
      refine ⟨z, rfl, rfl, _, rfl, ?_⟩
      rw [Da.nonV w2]
      cases dom with
      | none =>
        have e : takenM ⟨host, path, sec⟩ ⟨nm, val, none, fold, grd⟩ = true := by
          show (!(grd && !sec) && true) = true
          rw [g]
          rfl
        rw [e] at q
        exact iteT (q H (Same.refl H))
      | some d =>
        have e : takenM ⟨host, path, sec⟩ ⟨nm, val, some d, fold, grd⟩ = within host d := by
          show (!(grd && !sec) && within host d) = _
          rw [g]
          rfl
        rw [e] at q
        exact iteF ⟨x, rfl, z, rfl, x, z, host, d, rfl, a2, w2, oa.1, ow.2.2.1 d rfl, q⟩
    refine ⟨.bl grd, rfl, grd, rfl, ?_⟩
    cases grd with
    | false => exact iteF (iteF (last rfl))
    | true =>
      refine iteT ⟨.bl sec, rfl, sec, rfl, ?_⟩
      cases sec with
      | true => exact iteF (last rfl)
      | false => exact iteT (q H (Same.refl H))
def spKy (K : PySem.W.Frag) : Sp := fun vs H Q _ => ∃ v u a wr, vs = [v, u] ∧ Da K H v (Ad.py a) ∧ Da K H u (Wr.py wr) ∧ ∀ H' k, Same H H' → KyAt K H' k (keyM a wr) → Q (.ref k) H'
theorem ok_key (T : Txt K mg) : Ok P w K mg base "_key" P__key 1 (spKy K) := by
  refine T.d__key.ok sc__key (fun vs H Q E h => ?_) (fun f cdv A out s H vs Q E hr h => ?_)
  · obtain ⟨v, u, a, wr, rfl, _⟩ := h
    rfl
  · obtain ⟨v, u, a, wr, rfl, ha, hw, q⟩ := h
    refine ⟨_, (pss_cons (ps_asg (pv 0) (pg_tup rfl (pgs_cons (pg_name (i := 2) sc__key.nd rfl (Or.inl rfl)) (pgs_cons (pg_name (i := 3) sc__key.nd rfl (Or.inl rfl)) (pgs_cons (pg_name (i := 4) sc__key.nd rfl (Or.inl rfl)) pgs_nil)))))
    (pss_cons (ps_asg (pv 1) (pg_tup rfl (pgs_cons (pg_name (i := 5) sc__key.nd rfl (Or.inl rfl)) (pgs_cons (pg_name (i := 4) sc__key.nd rfl (Or.inl rfl)) (pgs_cons (pg_name (i := 6) sc__key.nd rfl (Or.inl rfl)) (pgs_cons (pg_name (i := 7) sc__key.nd rfl (Or.inl rfl)) (pgs_cons (pg_name (i := 4) sc__key.nd rfl (Or.inl rfl)) pgs_nil)))))))
    (pss_cons (ps_set (i := 8) sc__key.nd rfl (Or.inl rfl) (pe_ifExp (pt_cmpR op_isN (pv 7) pe_non (nomark _)) (pe_slice sl_tupA (pv 3) po_none (po_some (pe_un un_neg pe_int))) (pv 7)))
    (pss_cons (ps_if (pt_cmpR op_isN (pv 6) pe_non (nomark _)) (pss_one (ps_ret (pe_tup (pa_cons (pv 5) (pa_cons (pv 2) (pa_cons (pv 8) (pa_cons pe_bl pa_nil))))))) pss_nil)
    (pss_one (ps_ret (pe_tup (pa_cons (pv 5) (pa_cons (pv 6) (pa_cons (pv 8) (pa_cons pe_bl pa_nil))))))))))), ?_⟩
    obtain ⟨b, x, y, rfl, a1, a2, a3⟩ := da_ad ha
    obtain ⟨c, z, z', rfl, w1, w2, w3⟩ := da_wr hw
    refine ⟨.ref b, rfl, b, _, rfl, a1, rfl, _, _, rfl, _, _, rfl, _, _, rfl, rfl, ?_⟩
    refine ⟨.ref c, rfl, c, _, rfl, w1, rfl, _, _, rfl, _, _, rfl, _, _, rfl, _, _, rfl, _, _, rfl, rfl, ?_⟩
    obtain ⟨host, path, sec⟩ := a
    obtain ⟨nm, val, dom, fold, grd⟩ := wr
    obtain ⟨hx, rfl, h1, _⟩ := da_strs a2
    obtain ⟨hy, rfl, h2, _⟩ := da_strs a3
    -- behind the folder
    have last : ∀ H1 kf fo, Same H H1 → SqT K H1 kf (fo.map V.str) → fo = fold.getD path.dropLast → tIfS (tTest (tOp (fun x y H Q => y = V.non ∧ Q (V.bl (decide (x = V.non))) H) (tVar 6) (tC V.non))) (tRet (tTup (tCons (tVar 5) (tCons (tVar 2) (tCons (tVar 8) (tCons (tC (.bl true)) tNil)))))) tNext
        { nx := tRet (tTup (tCons (tVar 5) (tCons (tVar 6) (tCons (tVar 8) (tCons (tC (.bl false)) tNil))))) { nx := fun _ H' => Q .non H', rt := Q }, rt := Q } [some (.ref b), some (.ref c), some (.ref hx), some (.ref hy), some (.bl grd), some (.str nm), some z, some z', some (.ref kf)] H1 := by
      intro H1 kf fo s1 k1 k2
      refine ⟨z, rfl, rfl, _, rfl, ?_⟩
      rw [Da.nonV w2]
      cases dom with
      | none =>
        refine iteT ⟨.str nm, rfl, .ref hx, rfl, .ref kf, rfl, len4, fun p np => ?_⟩
        have s2 : Same H1 (upd H1 p (.tup [.str nm, .ref hx, .ref kf, .bl true])) := same_new np
        exact q _ p (s1.trans s2) ⟨hx, kf, SqT.of upd_same, sqT_same (s1.trans s2) h1, by rw [show (keyM ⟨host, path, sec⟩ ⟨nm, val, none, fold, grd⟩).fold = fo from k2.symm]; exact sqT_same s2 k1⟩
      | some d =>
        obtain ⟨zz, rfl, hz, _⟩ := optT_str w2
        refine iteF ⟨.str nm, rfl, .ref zz, rfl, .ref kf, rfl, len4, fun p np => ?_⟩
        have s2 : Same H1 (upd H1 p (.tup [.str nm, .ref zz, .ref kf, .bl false])) := same_new np
        exact q _ p (s1.trans s2) ⟨zz, kf, SqT.of upd_same, sqT_same (s1.trans s2) hz, by rw [show (keyM ⟨host, path, sec⟩ ⟨nm, val, some d, fold, grd⟩).fold = fo from k2.symm]; exact sqT_same s2 k1⟩
    refine ⟨z', rfl, rfl, _, rfl, ?_⟩
    rw [Da.nonV w3]
    cases fold with
    | none =>
      refine iteT ⟨.ref hy, rfl, 1, rfl, -1, rfl, hy, path.map V.str, rfl, h2, fun cw => ?_, fun _ p np => ?_⟩
      · exact last H hy path (Same.refl H) h2 (cut_whole cw.2).symm
      · exact last _ p path.dropLast (same_new np) (SqT.of (by rw [← cut_last]; exact upd_same)) rfl
    | some fo =>
      obtain ⟨zz, rfl, hz, _⟩ := optT_str w3
      exact iteF ⟨.ref zz, rfl, last H zz fo (Same.refl H) hz rfl⟩
def spTw (K : PySem.W.Frag) : Sp := fun vs H Q _ => ∃ v p, vs = [v] ∧ Da K H v (Pg.py p) ∧ p.Ok ∧ ∀ H' D xs, Same H H' → H D = none → H' D = some (.lst xs) → TwAll K H' xs (takenL p.ad p.ws) → Q (.ref D) H'
theorem ok_taken_writes (T : Txt K mg) : Ok P w K mg base "taken_writes" P_taken_writes 3 (spTw K) := by
  have ok__is_taken : Ok P w K mg base "_is_taken" P__is_taken 2 (spTk K) := ok_is_taken T
  have ok__key : Ok P w K mg base "_key" P__key 1 (spKy K) := ok_key T
  refine T.d_taken_writes.ok sc_taken_writes (fun vs H Q E h => ?_) (fun f cdv A out s H vs Q E hr h => ?_)
  · obtain ⟨v, p, rfl, _⟩ := h
    rfl
  · obtain ⟨v, p, rfl, hp, op, q⟩ := h
    refine ⟨_, (pss_cons (ps_asg (pv 0) (pg_tup rfl (pgs_cons (pg_name (i := 1) sc_taken_writes.nd rfl (Or.inr rfl)) (pgs_cons (pg_name (i := 2) sc_taken_writes.nd rfl (Or.inl rfl)) pgs_nil))))
    (pss_one (ps_ret (pe_lc (own := [("write", 3)]) (g := gName 3) rfl sc_taken_writes.nd (pi_tup (pv 2)) (blkOk_by (N := N_taken_writes) (sc := defScope st_taken_writes) (by decide +kernel)) (fun _ _ _ _ _ => pg_name (i := 3) sc_taken_writes.nd rfl (Or.inl rfl)) (fun _ _ _ _ _ => pts_one (pt_val (pe_ok ok__is_taken (hr.mono (by decide)) (pa_cons (pv 1) (pa_cons (pv 3) pa_nil))))) (fun _ _ _ _ _ => (pe_tup (pa_cons (pe_ok ok__key (hr.mono (by decide)) (pa_cons (pv 1) (pa_cons (pv 3) pa_nil))) (pa_cons (pe_ix (show IxR _ (rIxT K) from ix_tup) (pv 3) pe_int (fun _ _ => rfl)) (pa_cons (pe_ix (show IxR _ (rIxT K) from ix_tup) (pv 3) pe_int (fun _ _ => rfl)) pa_nil))))))))), ?_⟩
    obtain ⟨b, x, y, rfl, h1, h2, h3⟩ := da_pg hp
    obtain ⟨c, xs, rfl, h4, nl, h5⟩ := da_seq h3
    obtain ⟨oa, most, ow⟩ := op
    refine ⟨.ref b, rfl, b, _, rfl, h1, rfl, _, _, rfl, _, _, rfl, rfl, ?_⟩
    refine ⟨.ref c, rfl, c, rfl, ⟨xs, h4⟩, fun D nD => ?_⟩
    have sD : ∀ {H1 : Hp} {o : HO}, Same H H1 → Same H (upd H1 D o) := fun {H1 o} s b u e => by
      rw [upd_ne (ne_of_none e nD)]
      exact s b u e
    refine lc_it (walk_tup (xs := xs)) (fun i H1 => Same H H1 ∧ ∃ acc, H1 D = some (.lst acc) ∧ TwAll K H1 acc (takenL p.ad (p.ws.take i)) ∧ acc.length ≤ i) ⟨sD (Same.refl H), [], upd_same, .nil, Nat.zero_le _⟩ (fun i H1 hi pv => sqT_same pv.1 h4) (fun i u H1 H2 hi pv yy => ?_) (fun H1 pv => ?_)
    · obtain ⟨rfl, e1⟩ := yy
      obtain ⟨s1, acc, d1, tw, al⟩ := pv
      obtain ⟨wr, e2, hw⟩ := da_nth h5 e1
      have step : takenL p.ad (p.ws.take (i + 1)) = takenL p.ad (p.ws.take i) ++ (if takenM p.ad wr then [(keyM p.ad wr, wr.val, wr.grd)] else []) := by
        rw [List.take_add_one, e2, takenL_app]
        rfl
      have okw := ow wr (List.mem_of_getElem? e2)
      have ilt : i < xs.length := hi
      refine ⟨rfl, x, rfl, u, rfl, x, u, p.ad, wr, rfl, Da.same s1 _ _ h2, Da.same s1 _ _ hw, oa, okw, fun H3 s3 => ⟨takenM p.ad wr, rfl, ?_⟩⟩
      have d3 := s3 _ _ d1
      cases tk : takenM p.ad wr with
      | false =>
        rw [tk] at step
        refine iteF ⟨s1.trans s3, acc, d3, ?_, Nat.le_succ_of_le al⟩
        rw [step]
        show TwAll K H3 acc (takenL p.ad (p.ws.take i) ++ [])
        rw [List.append_nil]
        exact tw.same s3
      | true =>
        rw [tk] at step
        have s13 := s1.trans s3
        refine iteT ⟨x, rfl, u, rfl, x, u, p.ad, wr, rfl, Da.same s13 _ _ h2, Da.same s13 _ _ hw, fun H4 k s4 kat => ?_⟩
        obtain ⟨g, z, z', rfl, w1, _, _⟩ := da_wr (Da.same (s13.trans s4) _ _ hw)
        refine ⟨.ref g, rfl, g, _, 1, _, rfl, rfl, w1, rfl, .ref g, rfl, g, _, 4, _, rfl, rfl, w1, rfl, sz1000 (by show 3 ≤ 1000; decide), fun q' nq => ?_⟩
        have s5 : Same H4 (upd H4 q' (.tup [.ref k, optV wr.val, .bl wr.grd])) := same_new nq
        have d5 := s5 _ _ (s4 _ _ d3)
        refine ⟨acc, d5, Nat.lt_of_le_of_lt al (Nat.lt_of_lt_of_le ilt (by rw [nl]; exact Nat.le_trans most (by decide))), sD ((s13.trans s4).trans s5), acc ++ [.ref q'], upd_same, ?_, by rw [List.length_append]; exact Nat.succ_le_succ al⟩
        rw [step]
        refine TwAll.tupS (tupS_lst d5) (TwAll.snoc ((tw.same (s3.trans s4)).same s5) ⟨q', k, rfl, SqT.of upd_same, kat.same s5⟩)
    · obtain ⟨s1, acc, d1, tw, al⟩ := pv
      rw [nl, List.take_length] at tw
      exact q H1 D acc s1 nD d1 tw
end
end S1
namespace S1
open PySem PySem.Spec PyProof.Rows L2 Jv
/-! ### data without a fault is a site -/
theorem sgs_low : ∀ c ∈ sgs.cps.toList, c < 0x110000 := by decide +kernel
theorem lts_low : ∀ c ∈ lts.cps.toList, c < 0x110000 := by decide +kernel
theorem okW_str {z x : Str} (low : ∀ c ∈ z.cps.toList, c < 0x110000) (h : okW z x = true) : PyData.strOk x = true := by
  unfold okW at h
  rw [Bool.and_eq_true] at h
  unfold PyData.strOk
  rw [Array.all_eq_true']
  intro c hc
  have := List.all_eq_true.mp h.2 c (Array.mem_toList_iff.mpr hc)
  exact decide_eq_true (low c (of_decide_eq_true this))
theorem words_of : ∀ {ds : List PyData}, ds.all (okD sgs) = true → ∃ xs : List Str, ds = xs.map .str ∧ okStrs xs
  | [], _ => ⟨[], rfl, fun _ h => by cases h⟩
  | d :: ds, h => by
    rw [List.all_cons, Bool.and_eq_true] at h
    obtain ⟨xs, rfl, ok⟩ := words_of h.2
    cases d with
    | str x =>
      refine ⟨x :: xs, rfl, fun y hy => ?_⟩
      rcases List.mem_cons.mp hy with rfl | hy
      · exact okW_str sgs_low h.1
      · exact ok y hy
    | _ => exact absurd h.1 Bool.false_ne_true
theorem okT_of {lo hi : Int} {d : PyData} (h : okT lo hi d = true) : ∃ xs : List Str, d = .tuple (xs.map .str) ∧ okStrs xs := by
  cases d with
  | tuple ds =>
    have e : okT lo hi (.tuple ds) = (decide (lo ≤ (ds.length : Int)) && decide ((ds.length : Int) ≤ hi) && ds.all (okD sgs)) := rfl
    rw [e, Bool.and_eq_true] at h
    obtain ⟨xs, rfl, ok⟩ := words_of h.2
    exact ⟨xs, rfl, ok⟩
  | _ => exact absurd h Bool.false_ne_true
theorem okA_of {d : PyData} (h : okA d = true) : ∃ a : Ad, d = a.py ∧ a.Ok := by
  cases d with
  | tuple ds =>
    match ds, h with
    | [x, y, z], h =>
      have e : okA (.tuple [x, y, z]) = (okT 2 5 x && okT 0 4 y && dBl z) := rfl
      rw [e, Bool.and_eq_true, Bool.and_eq_true] at h
      obtain ⟨xs, rfl, o1⟩ := okT_of h.1.1
      obtain ⟨ys, rfl, o2⟩ := okT_of h.1.2
      cases z with
      | bool b => exact ⟨⟨xs, ys, b⟩, rfl, o1, o2⟩
      | _ => exact absurd h.2 Bool.false_ne_true
  | _ => exact absurd h Bool.false_ne_true
theorem okWr_of {d : PyData} (h : okWr d = true) : ∃ w : Wr, d = w.py ∧ w.Ok := by
  cases d with
  | tuple ds =>
    match ds, h with
    | [n, v, d, f, g], h =>
      have e : okWr (.tuple [n, v, d, f, g]) = (okD lts n && dBl g && (isNon v || okD sgs v) && (isNon d || okT 2 5 d) && (isNon f || okT 0 4 f)) := rfl
      rw [e, Bool.and_eq_true, Bool.and_eq_true, Bool.and_eq_true, Bool.and_eq_true] at h
      obtain ⟨⟨⟨⟨h1, h2⟩, h3⟩, h4⟩, h5⟩ := h
      obtain ⟨x, rfl, o1⟩ : ∃ x, n = .str x ∧ PyData.strOk x = true := by
        cases n with
        | str x => exact ⟨x, rfl, okW_str lts_low h1⟩
        | _ => exact absurd h1 Bool.false_ne_true
      obtain ⟨b, rfl⟩ : ∃ b, g = .bool b := by
        cases g with
        | bool b => exact ⟨b, rfl⟩
        | _ => exact absurd h2 Bool.false_ne_true
      obtain ⟨vo, rfl, o2⟩ : ∃ vo, v = optS vo ∧ ∀ x, vo = some x → PyData.strOk x = true := by
        cases v with
        | none => exact ⟨none, rfl, fun x e => by cases e⟩
        | str x => exact ⟨some x, rfl, fun y e => by cases e; exact okW_str sgs_low h3⟩
        | _ => exact absurd h3 Bool.false_ne_true
      have opt : ∀ {lo hi : Int} {z : PyData}, (isNon z || okT lo hi z) = true → ∃ zo, z = optT zo ∧ ∀ x, zo = some x → okStrs x := by
        intro lo hi z hz
        cases q : isNon z with
        | true =>
          cases z with
          | none => exact ⟨none, rfl, fun x e => by cases e⟩
          | _ => exact absurd q Bool.false_ne_true
        | false =>
          rw [q, Bool.false_or] at hz
          obtain ⟨xs, rfl, o⟩ := okT_of hz
          exact ⟨some xs, rfl, fun y e => by cases e; exact o⟩
      obtain ⟨dO, rfl, o3⟩ := opt h4
      obtain ⟨fO, rfl, o4⟩ := opt h5
      exact ⟨⟨x, vo, dO, fO, b⟩, rfl, o1, o2, o3, o4⟩
  | _ => exact absurd h Bool.false_ne_true
theorem writes_of : ∀ {ds : List PyData} {n : Nat}, badFrom n ds = none → ∃ ws : List Wr, ds = ws.map Wr.py ∧ ∀ w ∈ ws, w.Ok
  | [], _, _ => ⟨[], rfl, fun _ h => by cases h⟩
  | d :: ds, n, h => by
    unfold badFrom at h
    cases q : okWr d with
    | false =>
      rw [q] at h
      cases h
    | true =>
      rw [q, if_pos rfl] at h
      obtain ⟨ws, rfl, ok⟩ := writes_of h
      obtain ⟨w, rfl, o⟩ := okWr_of q
      refine ⟨w :: ws, rfl, fun y hy => ?_⟩
      rcases List.mem_cons.mp hy with rfl | hy
      · exact o
      · exact ok y hy
theorem page_of {n : Int} {d : PyData} (h : pageBad n d = none) : ∃ p : Pg, d = p.py ∧ p.Ok := by
  cases d with
  | tuple ds =>
    by_cases l : ds.length = 2
    · match ds, l, h with
      | [a, b], _, h =>
        cases qa : okA a with
        | false =>
          rw [pageBad_a qa] at h
          cases h
        | true =>
          cases b with
          | tuple ws =>
            by_cases hw : (ws.length : Int) ≤ 5
            · rw [pageBad_w qa hw] at h
              cases q : badFrom 0 ws with
              | some j =>
                rw [q] at h
                cases h
              | none =>
                obtain ⟨wl, rfl, ok⟩ := writes_of q
                obtain ⟨ad, rfl, oa⟩ := okA_of qa
                rw [List.length_map] at hw
                exact ⟨⟨ad, wl⟩, rfl, oa, by show wl.length ≤ 5; omega, ok⟩
            · rw [pageBad_m qa hw] at h
              cases h
          | _ => cases h
    · rw [pageBad_not2 l] at h
      cases h
  | _ => cases h
theorem pages_of : ∀ {ds : List PyData} {n : Nat}, pagesBad n ds = none → ∃ ps : List Pg, ds = ps.map Pg.py ∧ ∀ p ∈ ps, p.Ok
  | [], _, _ => ⟨[], rfl, fun _ h => by cases h⟩
  | d :: ds, n, h => by
    unfold pagesBad at h
    cases q : pageBad n d with
    | some p =>
      rw [q] at h
      cases h
    | none =>
      rw [q] at h
      obtain ⟨ps, rfl, ok⟩ := pages_of h
      obtain ⟨p, rfl, o⟩ := page_of q
      refine ⟨p :: ps, rfl, fun y hy => ?_⟩
      rcases List.mem_cons.mp hy with rfl | hy
      · exact o
      · exact ok y hy
theorem site_of {d : PyData} (h : siteBad d = none) : ∃ s : List Pg, d = sitePy s ∧ SiteOk s := by
  cases d with
  | tuple ds =>
    have e : siteBad (.tuple ds) = if decide ((1 : Int) ≤ (ds.length : Int)) && decide ((ds.length : Int) ≤ 5) then pagesBad 0 ds else some [] := rfl
    rw [e] at h
    by_cases c : (decide ((1 : Int) ≤ (ds.length : Int)) && decide ((ds.length : Int) ≤ 5)) = true
    · rw [if_pos c] at h
      obtain ⟨ps, rfl, ok⟩ := pages_of h
      rw [Bool.and_eq_true, decide_eq_true_eq, decide_eq_true_eq, List.length_map] at c
      exact ⟨ps, rfl, by omega, ok⟩
    · rw [if_neg c] at h
      cases h
  | _ => cases h
end S1
namespace S1
open PySem PySem.Spec PyProof.Rows L2 Jv
theorem isNum_of {m : Nat} {d : PyData} (h : isNum (m : Int) d = true) : ∃ n : Nat, d = .int (n : Int) ∧ n < m := by
  cases d with
  | int i =>
    have e : isNum (m : Int) (.int i) = (decide (0 ≤ i) && decide (i < (m : Int))) := rfl
    rw [e, Bool.and_eq_true, decide_eq_true_eq, decide_eq_true_eq] at h
    exact ⟨i.toNat, by congr 1; omega, by omega⟩
  | _ => exact absurd h Bool.false_ne_true
theorem paired_get {α β : Type} {R : α → β → Prop} {xs : List α} {ys : List β} (h : Paired R xs ys) : ∀ {i : Nat} {x : α}, xs[i]? = some x → ∃ y, ys[i]? = some y ∧ R x y := by
  induction h with
  | nil => exact fun e => by simp at e
  | @cons p q ps qs r t ih =>
    intro i x e
    cases i with
    | zero =>
      simp at e
      subst e
      exact ⟨q, rfl, r⟩
    | succ i => simpa using ih (i := i) (by simpa using e)
section
variable {P : Program} {w : World} {K : PySem.W.Frag} {mg : Str → Option Value} {base : Heap} {C1 C2 C3 : Addr}
/-- the error that keeps what was given -/
def Given (C : Addr) (f : Str) (H : Hp) (u : V) (E : XK) : Prop := ∀ H' dd, Same H H' → H' dd = some (.xd [(f, u)]) → E (.ref C) (some dd) H'
def spKeyOf (K : PySem.W.Frag) (C1 C2 C3 : Addr) : Sp := fun vs H Q E => ∃ v u z d e f, vs = [v, u, z] ∧ Da K H v d ∧ Da K H u e ∧ Da K H z f ∧ (∀ ns, siteBad d = some ns → Told K C1 "place" H (fun _ => False) E (some ns)) ∧
  ∀ s, siteBad d = none → d = sitePy s → (isNum (s.length : Int) e = false → Given C2 "given" H u E) ∧ ∀ (n : Nat) p, e = .int (n : Int) → s[n]? = some p → (isNum (p.ws.length : Int) f = false → ∀ H', Same H H' → E (.ref C3) none H') ∧
    ∀ (j : Nat) wr, f = .int (j : Int) → p.ws[j]? = some wr → if takenM p.ad wr = true then ∀ H' k, Same H H' → KyAt K H' k (keyM p.ad wr) → Q (.ref k) H' else ∀ H', Same H H' → Q .non H'
/-- what a page leaves on its keys -/
def EffAt (K : PySem.W.Frag) (H : Hp) (v : V) : Option (Str × Bool) → Prop
  | none => v = .non
  | some t => ∃ b, v = .ref b ∧ SqT K H b [.str t.1, .bl t.2]
abbrev EffAll (K : PySem.W.Frag) (H : Hp) : List (Ky × V) → List (Ky × Option (Str × Bool)) → Prop := Paired fun p q => p.1 = q.1 ∧ EffAt K H p.2 q.2
def effOf (t : Ky × Option Str × Bool) : Option (Str × Bool) := t.2.1.map fun x => (x, t.2.2)
def foundM (ts : List (Ky × Option Str × Bool)) : List (Ky × Option (Str × Bool)) := ts.foldl (fun l t => putE l t.1 (effOf t)) []
def effM (ts : List (Ky × Option Str × Bool)) : List (Ky × Option (Str × Bool)) := (kySort ((foundM ts).map (·.1))).map fun k => (k, (getE (foundM ts) k).getD none)
theorem foundM_snoc (ts : List (Ky × Option Str × Bool)) (t : Ky × Option Str × Bool) : foundM (ts ++ [t]) = putE (foundM ts) t.1 (effOf t) := by
  unfold foundM
  rw [List.foldl_append]
  rfl
theorem found_nodup (ts : List (Ky × Option Str × Bool)) : ((foundM ts).map (·.1)).Nodup := by
  have all : ∀ (ts : List (Ky × Option Str × Bool)) (l : List (Ky × Option (Str × Bool))), (l.map (·.1)).Nodup → ((ts.foldl (fun l t => putE l t.1 (effOf t)) l).map (·.1)).Nodup := by
    intro ts
    induction ts with
    | nil => exact fun l h => h
    | cons t ts ih => exact fun l h => ih _ (putE_nodup h _ _)
  exact all ts [] List.nodup_nil
theorem EffAll.keys {H : Hp} {kvs : List (Ky × V)} {l : List (Ky × Option (Str × Bool))} (h : EffAll K H kvs l) : kvs.map (·.1) = l.map (·.1) := by
  induction h with
  | nil => rfl
  | cons r t ih => rw [List.map_cons, List.map_cons, ih, r.1]
theorem EffAt.tupS {H H' : Hp} {v : V} {e : Option (Str × Bool)} (s : TupS H H') (h : EffAt K H v e) : EffAt K H' v e := by
  cases e with
  | none => exact h
  | some t =>
    obtain ⟨b, h1, h2⟩ := h
    exact ⟨b, h1, s.sq h2⟩
theorem EffAll.tupS {H H' : Hp} {kvs : List (Ky × V)} {l : List (Ky × Option (Str × Bool))} (s : TupS H H') (h : EffAll K H kvs l) : EffAll K H' kvs l := Paired.mapP h fun _ _ z => ⟨z.1, z.2.tupS s⟩
theorem EffAll.put {H : Hp} {kvs : List (Ky × V)} {l : List (Ky × Option (Str × Bool))} {k : Ky} {v : V} {e : Option (Str × Bool)} (h : EffAll K H kvs l) (g : EffAt K H v e) : EffAll K H (putE kvs k v) (putE l k e) := by
  induction h with
  | nil => exact .cons ⟨rfl, g⟩ .nil
  | @cons p q ps qs r t ih =>
    unfold putE
    by_cases z : p.1 = k
    · rw [if_pos z, if_pos (r.1.symm.trans z)]
      exact .cons ⟨r.1, g⟩ t
    · rw [if_neg z, if_neg (fun y => z (r.1.trans y))]
      exact .cons r ih
theorem EffAll.get {H : Hp} {kvs : List (Ky × V)} {l : List (Ky × Option (Str × Bool))} {k : Ky} {e : Option (Str × Bool)} (h : EffAll K H kvs l) (g : getE l k = some e) : ∃ v, getN kvs k = some v ∧ EffAt K H v e := by
  induction h with
  | nil => cases g
  | @cons p q ps qs r t ih =>
    unfold getE at g
    unfold getN
    by_cases z : p.1 = k
    · rw [if_pos (r.1.symm.trans z)] at g
      cases g
      exact ⟨p.2, if_pos z, r.2⟩
    · rw [if_neg (fun y => z (r.1.trans y))] at g
      rw [if_neg z]
      exact ih g
def spEff (K : PySem.W.Frag) (P : Program) (w : World) (C1 C2 : Addr) : Sp := fun vs H Q E => ∃ v u d e, vs = [v, u] ∧ Da K H v d ∧ Da K H u e ∧ (∀ ns, siteBad d = some ns → Told K C1 "place" H (fun _ => False) E (some ns)) ∧
  ∀ s, siteBad d = none → d = sitePy s → (isNum (s.length : Int) e = false → Given C2 "given" H u E) ∧ ∀ (n : Nat) p, e = .int (n : Int) → s[n]? = some p → ∀ H' D kvs, Same H H' → H D = none → Nd K P w H' D kvs → EffAll K H' kvs (effM (takenL p.ad p.ws)) → Q (.ref D) H'
theorem ok_effects (T : Txt K mg) (n1 : Exn P w K mg base "BadSite" "place" C1) (n2 : Exn P w K mg base "BadPage" "given" C2) : OkX P w K mg base "effects" P_effects 7 (spEff K P w C1 C2) := by
  have ok_need_site : OkX P w K mg base "need_site" P_need_site 6 (spSite K C1) := ok_need_site T n1
  have ok_need_page : OkX P w K mg base "need_page" P_need_page 3 (spPg K C2) := ok_need_page T n2
  have ok_taken_writes : Ok P w K mg base "taken_writes" P_taken_writes 3 (spTw K) := ok_taken_writes T
  refine T.d_effects.okX sc_effects (fun vs H Q E h => ?_) (fun f cdv A out s H vs Q E hr h => ?_)
  · obtain ⟨v, u, d, e, rfl, _⟩ := h
    rfl
  · obtain ⟨v, u, d, e, rfl, hd, he, q1, q2⟩ := h
    refine ⟨_, (pss_cons (ps_expr (pe_okX ok_need_site (hr.mono (by decide)) (takes_of rfl rfl rfl rfl) (pa_cons (pv 0) pa_nil)))
    (pss_cons (ps_set (i := 2) sc_effects.nd rfl (Or.inr rfl) pe_dnewN)
    (pss_cons (ps_for (passes_of rfl) rfl (pi_list (pe_ok ok_taken_writes (hr.mono (by decide)) (pa_cons (pe_ix ix_tup (pv 0) (pe_okX ok_need_page (hr.mono (by decide)) (takes_of rfl rfl rfl rfl) (pa_cons (pv 0) (pa_cons (pv 1) pa_nil))) (fun _ _ => rfl)) pa_nil))) (pg_tup rfl (pgs_cons (pg_name (i := 3) sc_effects.nd rfl (Or.inl rfl)) (pgs_cons (pg_name (i := 4) sc_effects.nd rfl (Or.inl rfl)) (pgs_cons (pg_name (i := 5) sc_effects.nd rfl (Or.inl rfl)) pgs_nil)))) (pss_one (ps_asg (pe_ifExp (pt_cmpR op_isN (pv 4) pe_non (nomark _)) pe_non (pe_tup (pa_cons (pv 4) (pa_cons (pv 5) pa_nil)))) (pg_sub (pv 2) (pv 3) (show PSet _ (rNput K P w) from set_nd (hn_of hr))))))
    (pss_one (ps_ret (pe_dcN (own := [("key", 3)]) (g := gName 3) (tt := tYes) rfl (hn_of hr) sc_effects.nd (pi_list (pe_callB (show CallR _ _ (rSortD K P w) from cr_sortD rfl (hb_of hr)) (by rfl) T.z_sorted (by decide +kernel) (pa_cons (pv 2) pa_nil))) (blkOk_by (N := N_effects) (sc := defScope st_effects) (by decide +kernel)) (fun _ _ _ _ _ => pg_name (i := 3) sc_effects.nd rfl (Or.inl rfl)) (fun _ _ _ _ _ => pts_nil) (fun _ _ _ _ _ => (pv 3)) (fun _ _ _ _ _ => (pe_ix (show IxR _ (rNget K P w) from ix_nd (hn_of hr)) (pv 2) (pv 3) (fun _ _ => rfl))))))))), ?_⟩
    refine ⟨v, rfl, v, d, rfl, hd, ?_⟩
    cases hb : siteBad d with
    | some ns => exact q1 ns hb
    | none =>
      intro H1 s1 F nF
      have s2 : Same H1 (upd H1 F (NdO P w F [])) := same_new nF
      have nd0 : Nd K P w (upd H1 F (NdO P w F [])) F [] := nd_new
      have s12 := s1.trans s2
      obtain ⟨si, rfl, okS⟩ := site_of hb
      obtain ⟨qa, qb⟩ := q2 si hb rfl
      obtain ⟨a, xs, rfl, h1, nl, h2⟩ := da_seq (Da.same s12 _ _ hd)
      have he1 := Da.same s12 _ _ he
      refine ⟨.ref a, rfl, .ref a, rfl, u, rfl, a, xs, u, e, rfl, h1, he1, ?_⟩
      rw [nl]
      cases hn : isNum (si.length : Int) e with
      | false => exact fun H' dd s3 e3 => qa hn H' dd (s12.trans s3) e3
      | true =>
        obtain ⟨n, rfl, ln⟩ := isNum_of hn
        obtain rfl : u = .int (n : Int) := by
          cases he
          rfl
        intro H3 s3
        have ex : xs[n]? = some xs[n] := List.getElem?_eq_getElem (by omega)
        obtain ⟨p, ep, hp⟩ := da_nth h2 ex
        have okP := okS.2 p (List.mem_of_getElem? ep)
        refine ⟨a, xs, n, xs[n], rfl, rfl, sqT_same s3 h1, atI_nat ex, xs[n], p, rfl, Da.same s3 _ _ hp, okP, fun H4 L ts s4 _ dL tw => ?_⟩
        have tl5 : (takenL p.ad p.ws).length ≤ 5 := Nat.le_trans (takenL_len _ _) okP.2.1
        have tl := Paired.length tw
        generalize et : takenL p.ad p.ws = tl0 at tw tl5 tl
        have sA := (s12.trans s3).trans s4
        refine ⟨L, rfl, ⟨_, SqL.of dL⟩, for_it walk_list (fun i σ H' => (∃ x y z, σ = [some (.ref a), some (.int (n : Int)), some (.ref F), x, y, z]) ∧ Same H H' ∧ H' L = some (.lst ts) ∧ TwAll K H' ts tl0 ∧ ∃ kvs, Nd K P w H' F kvs ∧ EffAll K H' kvs (foundM (tl0.take i)) ∧ kvs.length ≤ i)
          ⟨⟨_, _, _, rfl⟩, sA, dL, tw, [], nd0.same (s3.trans s4), .nil, Nat.zero_le _⟩ (fun i σ H' hi pv => SqL.of pv.2.2.1) (fun i x σ H5 H6 hlt pv y => ?_) fun σ H5 pv => ?_⟩
        · obtain ⟨⟨y1, y2, y3, rfl⟩, sB, lB, tB, kvs, ndB, eB, kl⟩ := pv
          obtain ⟨rfl, ei⟩ := y
          obtain ⟨t, et', b, c, rfl, t1, t2⟩ : ∃ t, tl0[i]? = some t ∧ TwAt K H6 x t := by
            obtain ⟨t, h1, h2⟩ := paired_get tB ei
            exact ⟨t, h1, h2⟩
          refine ⟨b, _, rfl, t1, rfl, _, _, rfl, _, _, rfl, _, _, rfl, rfl, ?_⟩
          have keysN : (kvs.map (·.1)).Nodup := by
            rw [eB.keys]
            exact found_nodup _
          have step : foundM (tl0.take (i + 1)) = putE (foundM (tl0.take i)) t.1 (effOf t) := by
            rw [List.take_add_one, et', ← foundM_snoc]
            rfl
          have ilt : i < ts.length := hlt
          -- the value stands: it is put in
          have put : ∀ (v : V) (H7 : Hp), Same H6 H7 → EffAt K H7 v (effOf t) → rNput K P w (.ref F) (.ref c) v H7 fun H8 => (∃ x y z, [some (.ref a), some (.int (n : Int)), some (.ref F), some (.ref c), some (optV t.2.1), some (.bl t.2.2)] = [some (.ref a), some (.int (n : Int)), some (.ref F), x, y, z]) ∧ Same H H8 ∧ H8 L = some (.lst ts) ∧ TwAll K H8 ts tl0 ∧
              ∃ kvs, Nd K P w H8 F kvs ∧ EffAll K H8 kvs (foundM (tl0.take (i + 1))) ∧ kvs.length ≤ i + 1 := by
            intro v H7 s7 ev
            have nd7 := ndB.same s7
            refine ⟨F, c, kvs, t.1, rfl, rfl, nd7, t2.same s7, Nat.lt_of_le_of_lt kl (Nat.lt_of_le_of_lt (by omega : i ≤ 5) (by decide)), fun H8 hb8 nd8 => ?_⟩
            have u8 := nd7.but hb8
            refine ⟨⟨_, _, _, rfl⟩, fun b' o eb => ?_, ?_, (tB.same s7).tupS u8, _, nd8, ?_, ?_⟩
            · have nb : b' ≠ F := by
                rintro rfl
                rw [s1 _ _ eb] at nF
                cases nF
              rw [hb8 b' nb]
              exact (sB.trans s7) _ _ eb
            · rw [hb8 L (ndB.not_lst lB)]
              exact s7 _ _ lB
            · rw [putK_E _ keysN, step]
              exact EffAll.put (EffAll.tupS u8 (EffAll.tupS (Same.tupS s7) eB)) (ev.tupS u8)
            · exact Nat.le_trans (length_putK _ _ _) (Nat.succ_le_succ kl)
          refine ⟨optV t.2.1, rfl, rfl, _, rfl, ?_⟩
          obtain ⟨k, o, g⟩ := t
          cases o with
          | none => exact iteT ⟨.ref F, rfl, .ref c, rfl, put .non H6 (Same.refl _) rfl⟩
          | some z =>
            refine iteF ⟨.str z, rfl, .bl g, rfl, len2, fun q' nq => ?_⟩
            exact ⟨.ref F, rfl, .ref c, rfl, put (.ref q') _ (same_new nq) ⟨q', rfl, SqT.of upd_same⟩⟩
        · obtain ⟨⟨y1, y2, y3, rfl⟩, sB, lB, tB, kvs, ndB, eB, kl⟩ := pv
          rw [tl, List.take_length] at eB
          rw [tl] at kl
          refine ⟨.ref F, rfl, F, kvs, rfl, ndB, by omega, fun q' as kall nq => ⟨q', rfl, ⟨_, SqL.of upd_same⟩, fun D2 nD2 => ?_⟩⟩
          rw [eB.keys] at kall
          have sq : Same H5 (upd H5 q' (.lst (as.map V.ref))) := same_new nq
          have al := Paired.length kall
          have kn : (kySort ((foundM tl0).map (·.1))).Nodup := (kySort_perm _).nodup_iff.mpr (found_nodup tl0)
          have fl : ((foundM tl0).map (·.1)).length ≤ 5 := by
            rw [← eB.keys, List.length_map]
            omega
          have el : (effM tl0).length = as.length := by
            rw [al]
            exact List.length_map _
          have ek : ∀ i, ((effM tl0).take i).map (·.1) = (kySort ((foundM tl0).map (·.1))).take i := fun i => by
            unfold effM
            rw [← List.map_take, List.map_map]
            exact List.map_id _
          refine dcn_it walk_list (fun i H' => Same (upd H5 q' (.lst (as.map V.ref))) H' ∧ ∃ kvs2, Nd K P w H' D2 kvs2 ∧ EffAll K H' kvs2 ((effM tl0).take i)) ⟨same_new nD2, [], nd_new, .nil⟩ (fun i H' hi pv => SqL.of (pv.1 _ _ upd_same)) (fun i x H6 H7 hlt pv y => ?_) fun H6 pv => ?_
          · obtain ⟨rfl, ei⟩ := y
            obtain ⟨s6, kvs2, nd2, ef2⟩ := pv
            obtain ⟨ai, ea, rfl⟩ : ∃ ai, as[i]? = some ai ∧ x = .ref ai := by
              rw [List.getElem?_map] at ei
              cases q : as[i]? with
              | none =>
                rw [q] at ei
                cases ei
              | some ai =>
                rw [q] at ei
                cases ei
                exact ⟨ai, rfl, rfl⟩
            obtain ⟨k, ek1, kat⟩ := paired_get kall ea
            obtain ⟨e, ge⟩ := getE_mem (l := foundM tl0) (k := k) ((kySort_perm _).mem_iff.mp (List.mem_of_getElem? ek1))
            obtain ⟨v', gv, ev⟩ := eB.get ge
            have s56 := sq.trans s6
            have k2 : k ∉ kvs2.map (·.1) := by
              rw [ef2.keys, ek]
              intro hm
              obtain ⟨j, hj⟩ := List.getElem?_of_mem hm
              rw [List.getElem?_take] at hj
              split at hj
              · rename_i lt
                have := (List.getElem?_inj (Nat.lt_trans lt (List.getElem?_eq_some_iff.mp ek1).1) kn).mp (hj.trans ek1.symm)
                omega
              · cases hj
            have kn2 : (kvs2.map (·.1)).Nodup := by
              rw [ef2.keys, ek]
              exact kn.sublist (List.take_sublist _ _)
            have l2 : kvs2.length ≤ 5 := by
              have := Paired.length ef2
              rw [List.length_take, el, al, kySort_len] at this
              omega
            refine ⟨rfl, ?_⟩
            unfold tYes
            refine iteT ⟨.ref ai, rfl, .ref F, rfl, .ref ai, rfl, F, ai, kvs, k, v', rfl, rfl, ndB.same s56, kat.same s56, gv, ai, kvs2, k, rfl, nd2, kat.same s56, Nat.lt_of_le_of_lt l2 (by decide), fun H8 hb8 nd8 => ?_⟩
            have u8 := nd2.but hb8
            refine ⟨fun b o eb => ?_, _, nd8, ?_⟩
            · have nb : b ≠ D2 := by
                rintro rfl
                rw [nD2] at eb
                cases eb
              rw [hb8 b nb]
              exact s6 _ _ eb
            · have st : (effM tl0).take (i + 1) = (effM tl0).take i ++ [(k, e)] := by
                have e1 : (effM tl0)[i]? = some (k, e) := by
                  unfold effM
                  rw [List.getElem?_map, ek1]
                  show some (k, (getE (foundM tl0) k).getD none) = _
                  rw [ge]
                  rfl
                rw [List.take_add_one, e1]
                rfl
              rw [putK_E _ kn2, putE_new k2, st]
              exact Paired.snoc (EffAll.tupS u8 ef2) ⟨rfl, (ev.tupS (Same.tupS s56)).tupS u8⟩
          · obtain ⟨s6, kvs2, nd2, ef2⟩ := pv
            rw [List.length_map, ← el, List.take_length] at ef2
            have nD0 : H D2 = none := by
              cases z : H D2 with
              | none => rfl
              | some o =>
                rw [(sB.trans sq) _ _ z] at nD2
                cases nD2
            exact (qb n p rfl ep) H6 D2 kvs2 ((sB.trans sq).trans s6) nD0 nd2 (by rw [et]; exact ef2)
end
end S1
/-! sets of keys (name, domain, folder, alone) -/
namespace Jv
open PySem PySem.Spec PyProof.Rows L2
section
variable {P : Program} {w : World} {A : Around} {E : Value → Shared → Prop} {s : Shared}
/-! ### what is asked of a key -/
theorem nested_each {h : Heap} : ∀ {ks : List NestedKey} {vs : List Value}, NestedAll h ks vs → ∀ v ∈ vs, ∃ k ∈ ks, NestedIs h k v
  | _, _, .nil => fun v hv => by cases hv
  | _, _, .cons h1 h2 => fun v hv => by
    rcases List.mem_cons.mp hv with rfl | hv
    · exact ⟨_, List.mem_cons_self, h1⟩
    · obtain ⟨k, m, n⟩ := nested_each h2 v hv
      exact ⟨k, List.mem_cons_of_mem _ m, n⟩
theorem depth_mem : ∀ {ks : List NestedKey} {k : NestedKey}, k ∈ ks → k.depth ≤ NestedKey.depthAll ks
  | [], _, h => by cases h
  | q :: qs, k, h => by
    show k.depth ≤ max q.depth (NestedKey.depthAll qs)
    rcases List.mem_cons.mp h with rfl | h
    · exact Nat.le_max_left _ _
    · exact Nat.le_trans (depth_mem h) (Nat.le_max_right _ _)
theorem no_class : ∀ (n : Nat) {k : NestedKey} {v : Value} {Q : Bool → Shared → Prop}, NestedIs s.heap k v → k.depth ≤ n → Q false s → wpAny (model P w) A (ofAClassStatement n v) Q E s
  | n, _, _, Q, .none, _, q => by
    cases n <;> exact wpAny_pure q
  | n, _, _, Q, .bool _, _, q => by
    cases n <;> exact wpAny_pure q
  | n, _, _, Q, .int _ _, _, q => by
    cases n <;> exact wpAny_pure q
  | n, _, _, Q, .text _ _, _, q => by
    cases n <;> exact wpAny_pure q
  | 0, _, _, Q, .tup _ _ _ _, hd, q => absurd (show NestedKey.depthAll _ + 1 ≤ 0 from hd) (Nat.not_succ_le_zero _)
  | n + 1, _, _, Q, .tup (a := a) (o := o) (vs := vs) (n := m) (ks := ks) ho hc hv hall, hd, q => by
    have hT : s.TypeIs (.ref a) "tuple" := ⟨o, ho, hc⟩
    unfold ofAClassStatement
    refine wpAny_bind (wpAny_typeOf hT ?_)
    dsimp only
    rw [if_pos (show (("tuple" : String) == "tuple") = true by decide)]
    refine wpAny_bind (wpAny_pure ?_)
    simp only [Bool.not_true, Bool.false_eq_true, if_false]
    try refine wpAny_bind (wpAny_pure ?_)
    show wpAny _ _ (seqItems? (.ref a) >>= _) _ _ s
    refine wpAny_bind (wpAny_seqItems ho hv ?_)
    dsimp only
    refine wpAny_bind ?_
    show wpAny _ _ (forIn vs _ _) _ _ s
    rw [← Array.forIn_toList]
    refine wpAny_forIn_list _ (fun l r s' => r.1 = none ∧ s' = s ∧ ∀ v ∈ l, v ∈ vs.toList) _ ?_ ?_ _ _ ⟨rfl, rfl, fun v hv => hv⟩
    · rintro v l r s' ⟨_, es, al⟩
      rw [es]
      obtain ⟨k', m1, is⟩ := nested_each hall v (al v List.mem_cons_self)
      have d1 : k'.depth ≤ n := by
        have := depth_mem m1
        have : NestedKey.depthAll ks + 1 ≤ n + 1 := hd
        omega
      refine wpAny_bind (no_class n is d1 ?_)
      simp only [Bool.false_eq_true, if_false]
      exact wpAny_pure ⟨rfl, rfl, fun u hu => al u (List.mem_cons_of_mem _ hu)⟩
    · rintro ⟨r1, r2⟩ s' ⟨hr, rfl, _⟩
      simp only at hr
      subst hr
      exact wpAny_pure q
/-- its first item is a text: it hashes by the run -/
theorem by_run {k : Ky} {a : Addr} {Q : Bool → Shared → Prop} (hk : (kyKind P w).is s.heap k a) (q : Q false s) : wpAny (model P w) A (hashByValue 8 (.ref a)) Q E s := by
  obtain ⟨hi, _⟩ := hk
  have hi : NestedIs s.heap (.tup [.text k.name, .tup (k.dom.map .text), .tup (k.fold.map .text), .num (if k.alone = true then 1 else 0)]) (.ref a) := hi
  cases hi with
  | @tup _ o vs n _ ho hc hv hall =>
    have hT : s.TypeIs (.ref a) "tuple" := ⟨o, ho, hc⟩
    obtain ⟨l, rfl⟩ : ∃ l : List Value, vs = l.toArray := ⟨vs.toList, by simp⟩
    have hall : NestedAll s.heap [.text k.name, .tup (k.dom.map .text), .tup (k.fold.map .text), .num (if k.alone = true then 1 else 0)] l := by simpa using hall
    cases hall with
    | @cons _ v0 _ l2 h1 h2 =>
      cases h1
      unfold hashByValue
      refine wpAny_bind (wpAny_specialOf hT F.slot_tuple_hash.lookup ?_)
      show wpAny _ _ (seqItems? (.ref a) >>= _) _ _ s
      refine wpAny_bind (wpAny_seqItems ho hv ?_)
      refine wpAny_bind ?_
      show wpAny _ _ (forIn (Value.str k.name _ :: l2).toArray _ _) _ _ s
      rw [← Array.forIn_toList]
      refine wpAny_forIn_list _ (fun l r s' => (l = Value.str k.name _ :: l2 ∧ s' = s)) _ ?_ ?_ _ _ ⟨rfl, rfl⟩
      · rintro v l r s' ⟨e, es⟩
        cases e
        rw [es]
        show wpAny _ _ (hashByValue 7 (.str k.name _) >>= _) _ _ s
        refine wpAny_bind (wpAny_pure ?_)
        simp only [Bool.not_false, if_true]
        exact wpAny_pure (wpAny_pure q)
      · rintro r s' ⟨e, _⟩
        cases e
theorem not_seen {k : Ky} {b : Addr} {Q : Bool → Shared → Prop} (hk : (kyKind P w).is s.heap k b) {ys : List Value} (hy : ∀ y ∈ ys, ∃ k' c, y = Value.ref c ∧ (kyKind P w).is s.heap k' c) (q : Q false s) : wpAny (model P w) A (searchCouldBeSeen (.ref b) ys) Q E s := by
  unfold searchCouldBeSeen
  refine wpAny_bind (wpAny_forIn_list _ (fun l r s' => r.1 = none ∧ s' = s ∧ ∀ y ∈ l, y ∈ ys) _ ?_ ?_ _ _ ⟨rfl, rfl, fun y hy => hy⟩)
  · rintro v l r s' ⟨_, es, al⟩
    rw [es]
    obtain ⟨k', c, rfl, hc⟩ := hy v (al v List.mem_cons_self)
    have al' : ∀ y ∈ l, y ∈ ys := fun u hu => al u (List.mem_cons_of_mem _ hu)
    dsimp only
    by_cases hv : (b == c || (carriedByValue (.ref b) && carriedByValue (.ref c))) = true
    · exact wp_if_pos hv (wpAny_pure ⟨rfl, rfl, al'⟩)
    · refine wp_if_neg hv (wpAny_bind ((kyKind P w).quiet hk ?_))
      simp only [Bool.not_true, Bool.false_eq_true, if_false]
      refine wpAny_bind ((kyKind P w).quiet hc ?_)
      simp only [Bool.not_true, Bool.false_eq_true, if_false]
      refine wpAny_bind (no_class 8 hk.1 hk.2 ?_)
      simp only [Bool.false_eq_true, if_false]
      refine wpAny_bind (no_class 8 hc.1 hc.2 ?_)
      simp only [Bool.false_eq_true, if_false]
      exact wpAny_pure ⟨rfl, rfl, al'⟩
  · rintro ⟨r1, r2⟩ s' ⟨hr, es, _⟩
    rw [es]
    simp only at hr
    subst hr
    exact wpAny_pure q
/-! ### the set -/
abbrev kh (P : Program) (w : World) (k : Ky) : Int := (kyKind P w).hash k
def rowK (P : Program) (w : World) (p : Addr × Ky) : Int × Value := (kh P w p.2, Value.ref p.1)
structure KsR (P : Program) (w : World) (h : Heap) (a : Addr) (L : List (Addr × Ky)) (es : Array (Int × Value)) (ep : Nat) (t : SetTable) : Prop where
  at_ : ∃ o, h.get? a = some o ∧ o.ExactSet ∧ o.data = .set es ep t
  rows : es.toList = L.map (rowK P w)
  tab : TabOk t (L.map fun p => kh P w p.2)
  one : (L.map (·.2)).Nodup
  keys : ∀ p ∈ L, (kyKind P w).is h p.2 p.1
  led : w.params.followText "set-order" = true ∨ t.led = true
  room : L.length * 5 < t.mask * 3
  few : L.length < 64
variable {a : Addr} {L : List (Addr × Ky)} {es : Array (Int × Value)} {ep : Nat} {t : SetTable}
theorem KsR.size (R : KsR P w s.heap a L es ep t) : es.size = L.length := by
  rw [← Array.length_toList, R.rows, List.length_map]
theorem fits_of {n : Nat} (hp : t.place.size = n) (hd : t.dummies = #[]) (hm : n ≤ t.mask) : t.fits n = true := by
  unfold SetTable.fits SetTable.fill
  rw [hd, hp]
  simpa using hm
theorem KsR.place (R : KsR P w s.heap a L es ep t) : t.place.size = L.length := by
  rw [R.tab.sz, List.length_map]
theorem KsR.fits (R : KsR P w s.heap a L es ep t) : t.fits es.size = true := fits_of (by rw [R.place, R.size]) R.tab.dm (by have := R.size; have := R.room; omega)
theorem KsR.row (R : KsR P w s.heap a L es ep t) {i : Nat} {p : Addr × Ky} (h : L[i]? = some p) : es[i]? = some (rowK P w p) := by
  rw [← Array.getElem?_toList, R.rows, List.getElem?_map, h]
  rfl
def prb (m : Nat) (h : Int) (c : Nat) : SetTable.Probe := nth m (runAt m (SetTable.bits h % (m + 1)) (SetTable.bits h)) c
theorem prb_add (m : Nat) (h : Int) (c q : Nat) : nth m (prb m h c) q = prb m h (c + q) := (nth_add m c _ q).symm
theorem nth_dummy (m : Nat) : ∀ (c : Nat) (p : SetTable.Probe), p.dummy = none → (nth m p c).dummy = none
  | 0, _, h => h
  | c + 1, p, h => nth_dummy m c (adv m p) (by
    unfold adv
    split <;> exact h)
theorem prb_j (m : Nat) (h : Int) (c : Nat) : (prb m h c).j = way m h c := rfl
theorem prb_dummy (m : Nat) (h : Int) (c : Nat) : (prb m h c).dummy = none := nth_dummy m c (runAt m (SetTable.bits h % (m + 1)) (SetTable.bits h)) rfl
/-- from the c-th place on: the key, or the K-th place, which is free -/
theorem KsR.seek (R : KsR P w s.heap a L es ep t) {x : Addr} {k : Ky} (hx : (kyKind P w).is s.heap k x) (hu : A.units + 8 < cLine) {K : Nat} (hF : K < 10 * SetTable.turns t.mask) (hK : way t.mask (kh P w k) K ∉ t.place.toList) (hB : ∀ c, c < K → way t.mask (kh P w k) c ∈ t.place.toList)
    {Q : SetFound → Shared → Prop} (yes : k ∈ L.map (·.2) → Q (.there none) s) (no : k ∉ L.map (·.2) → Q (.free (way t.mask (kh P w k) K) false) s) :
    ∀ (f c : Nat) (st : Option SetTable.Probe), st.getD (t.probeStart (kh P w k)) = prb t.mask (kh P w k) c → c ≤ K → K - c < f →
      (∀ (i : Nat) p, L[i]? = some p → p.2 = k → ∃ c', c ≤ c' ∧ c' < K ∧ t.place.toList[i]? = some (way t.mask (kh P w k) c')) → wpAny (model P w) A (setSearchFrom a (.ref x) (kh P w k) true f st) Q E s
  | 0, c, st, _, _, hf, _ => absurd hf (Nat.not_lt_zero _)
  | f + 1, c, st, est, hc, hf, ahead => by
    obtain ⟨o, ho, hex, hd⟩ := R.at_
    rw [setSearchFrom_succ]
    refine wpAny_bind (wpAny_setState_of ho hd R.fits ?_)
    dsimp only
    have gw : ¬ t.gaveWay = true := by
      unfold SetTable.gaveWay
      rw [mask_odd R.tab.mok]
      decide
    refine wp_if_neg gw ?_
    try refine wpAny_bind (wpAny_pure ?_)
    have ej : ∀ q, (nth t.mask (prb t.mask (kh P w k) c) q).j = way t.mask (kh P w k) (c + q) := fun q => by rw [prb_add, prb_j]
    have hashes : ∀ (i : Nat) p, L[i]? = some p → (es[i]?.map (·.1)).getD 0 = kh P w p.2 := fun i p hp => by
      rw [R.row hp, Option.map_some, Option.getD_some]
      exact congrArg Prod.fst (show rowK P w p = (kh P w p.2, Value.ref p.1) from rfl)
    have spec := go_spec t R.tab.ris R.tab.dm (fun i => (es[i]?.map (·.1)).getD 0) (kh P w k) (10 * SetTable.turns t.mask) (K - c) (prb t.mask (kh P w k) c) (prb_dummy _ _ _) (Nat.lt_of_le_of_lt (Nat.sub_le _ _) hF)
      (fun q hq => by rw [ej]; exact hB (c + q) (by omega)) (by rw [ej, show c + (K - c) = K by omega]; exact hK)
    have free_of : ∀ {k' : Nat}, (∀ (i : Nat) (p : Addr × Ky), L[i]? = some p → p.2 = k → ∃ c', c ≤ c' ∧ c' < K ∧ t.place.toList[i]? = some (way t.mask (kh P w k) c')) → (∀ (q i' : Nat), q < k' → t.place.toList[i']? = some (way t.mask (kh P w k) (c + q)) → (es[i']?.map (·.1)).getD 0 ≠ kh P w k) →
        ∀ (i : Nat) (p : Addr × Ky), L[i]? = some p → p.2 = k → ∃ c', c + k' ≤ c' ∧ c' < K ∧ t.place.toList[i]? = some (way t.mask (kh P w k) c') := by
      intro k' ah hno i p hp hk
      obtain ⟨c', a1, a2, a3⟩ := ah i p hp hk
      rcases Nat.lt_or_ge c' (c + k') with z | z
      · refine absurd ?_ (hno (c' - c) i (by omega) (by rw [show c + (c' - c) = c' by omega]; exact a3))
        rw [hashes i p hp, hk]
      · exact ⟨c', z, a2, a3⟩
    rcases spec with ⟨q, i, hq, hi, hh, hno, hpr⟩ | ⟨hno, hpr⟩
    · rw [ej] at hi
      have hpr : t.probe (fun i => (es[i]?.map (·.1)).getD 0) (kh P w k) (st.getD (t.probeStart (kh P w k))) = some (.candidate (way t.mask (kh P w k) (c + q)) i (prb t.mask (kh P w k) (c + (q + 1)))) := by
        rw [est, ← ej, ← prb_add]
        exact hpr
      rw [hpr]
      dsimp only
      have il : i < L.length := by
        have h1 := (List.getElem?_eq_some_iff.mp hi).1
        rw [Array.length_toList, R.place] at h1
        exact h1
      obtain ⟨p, hp⟩ : ∃ p, L[i]? = some p := ⟨_, List.getElem?_eq_getElem il⟩
      have pm : p ∈ L := List.mem_of_getElem? hp
      have next := free_of ahead (k' := q) fun q' i' h1 h2 => hno q' i' h1 (by rw [ej]; exact h2)
      have live : t.slot (way t.mask (kh P w k) (c + q)) = .live i := slot_live R.tab.ris hi
      have rest : wpAny (model P w) A (searchRest a (.ref x) (kh P w k) true f es t (way t.mask (kh P w k) (c + q)) i (prb t.mask (kh P w k) (c + (q + 1)))) Q E s := by
        unfold searchRest
        rw [R.row hp]
        unfold rowK
        dsimp only
        refine wpAny_bind (wpAny_holding ((kyKind P w).eqBool hu (R.keys p pm) hx (wpAny_bind (wpAny_setState_of ho hd R.fits ?_))))
        dsimp only
        by_cases ek : p.2 = k
        · exact wp_if_pos (by simp [ek]) (wpAny_pure (yes (List.mem_map.mpr ⟨p, pm, ek⟩)))
        · refine wp_if_neg (by simp [ek]) ?_
          try refine wpAny_bind (wpAny_pure ?_)
          rw [sameMem]
          dsimp only
          simp only [if_true, live, R.row hp, rowK]
          refine wpAny_bind (wpAny_isSame_ref_self (wpAny_bind (wpAny_pure ?_)))
          simp only [if_true]
          refine wp_if_neg (by simp [ek]) (R.seek hx hu hF hK hB yes no f (c + (q + 1)) _ rfl (by omega) (by omega) fun i0 p0 h0 k0 => ?_)
          obtain ⟨c', a1, a2, a3⟩ := next i0 p0 h0 k0
          refine ⟨c', ?_, a2, a3⟩
          rcases Nat.eq_or_lt_of_le a1 with z | z
          · rw [← z] at a3
            have s0 := (slot_live R.tab.ris a3).symm.trans live
            injection s0 with s0
            rw [s0, hp] at h0
            cases h0
            exact absurd k0 ek
          · omega
      by_cases hl : t.led = true
      · refine wp_if_neg (by simp [hl]) ?_
        try refine wpAny_bind (wpAny_pure ?_)
        exact rest
      · refine wp_if_pos (by simp [hl]) (wpAny_bind (not_seen hx (fun y hy => ?_) ?_))
        · obtain ⟨e, he, ee⟩ := List.mem_map.mp hy
          have he2 : e ∈ es.toList := (by simpa using he : e ∈ es ∧ e.1 = kh P w k).1 |> Array.mem_toList_iff.mpr
          rw [R.rows] at he2
          obtain ⟨p2, hp2, e2⟩ := List.mem_map.mp he2
          exact ⟨p2.2, p2.1, by rw [← ee, ← e2]; rfl, R.keys p2 hp2⟩
        · refine wp_if_neg (by decide) ?_
          try refine wpAny_bind (wpAny_pure ?_)
          exact rest
    · have hpr : t.probe (fun i => (es[i]?.map (·.1)).getD 0) (kh P w k) (st.getD (t.probeStart (kh P w k))) = some (.empty (way t.mask (kh P w k) K) none) := by
        have e2 : way t.mask (kh P w k) K = (nth t.mask (prb t.mask (kh P w k) c) (K - c)).j := by rw [ej, show c + (K - c) = K by omega]
        rw [est, e2]
        exact hpr
      rw [hpr]
      dsimp only
      refine wpAny_pure (no fun hm => ?_)
      obtain ⟨p0, m0, k0⟩ := List.mem_map.mp hm
      obtain ⟨i0, h0⟩ := List.getElem?_of_mem m0
      obtain ⟨c', a1, a2, a3⟩ := free_of ahead (k' := K - c) (fun q' i' h1 h2 => hno q' i' h1 (by rw [ej]; exact h2)) i0 p0 h0 k0
      omega
theorem KsR.find (R : KsR P w s.heap a L es ep t) {x : Addr} {k : Ky} (hx : (kyKind P w).is s.heap k x) (hu : A.units + 8 < cLine) {Q : SetFound → Shared → Prop} (yes : k ∈ L.map (·.2) → Q (.there none) s)
    (no : ∀ K, k ∉ L.map (·.2) → way t.mask (kh P w k) K ∉ t.place.toList → (∀ c, c < K → way t.mask (kh P w k) c ∈ t.place.toList) → Q (.free (way t.mask (kh P w k) K) false) s) : wpAny (model P w) A (setSearch a (.ref x) (kh P w k) true) Q E s := by
  have rm := R.room
  obtain ⟨K, hF, hK, hB⟩ := R.tab.first (by rw [List.length_map]; omega) (kh P w k)
  have big : K < 100000 := by
    have : 10 * SetTable.turns t.mask ≤ 1420 := by
      unfold SetTable.turns
      rcases R.tab.mok with e | e | e <;> omega
    omega
  unfold setSearch
  refine R.seek hx hu hF hK hB yes (fun n => no K n hK hB) 100000 0 none rfl (Nat.zero_le _) (by omega) fun i p hp hk => ?_
  have il : i < t.place.toList.length := by
    rw [Array.length_toList, R.place]
    exact (List.getElem?_eq_some_iff.mp hp).1
  have hj := List.getElem?_eq_getElem il
  obtain ⟨c, hc, e⟩ := R.tab.before hK (i := i) (by rw [List.getElem?_map, hp, ← hk]; rfl) hj
  exact ⟨c, Nat.zero_le _, hc, by rw [hj, e]⟩
theorem k_same {h h' : Heap} {k : Ky} {a b : Addr} {o : Obj} {es : Array (Int × Value)} {ep : Nat} {t : SetTable} (hb : (kyKind P w).is h k b) (ho : h.get? a = some o) (hd : o.data = .set es ep t) (hs : Heap.SameBut a h h') : (kyKind P w).is h' k b :=
  ⟨NestedIs.at (fun c oc vs n hc hv => (hs.2 c fun e => by
    rw [e, ho] at hc
    cases hc
    rw [hd] at hv
    cases hv).trans hc) _ _ hb.1, hb.2⟩
theorem rows_by {f : Addr × Ky → Int × Value} {L : List (Addr × Ky)} {es : Array (Int × Value)} {order : Array Nat} (hr : es.toList = L.map f) (hp : order.toList.Perm (List.range L.length)) :
    ∃ L2 : List (Addr × Ky), (order.filterMap (es[·]?)).toList = L2.map f ∧ L2.Perm L ∧ (L2.map fun p => (f p).1) = order.toList.map fun i => (es.map (·.1)).getD i 0 := by
  have get : ∀ i, es[i]? = (L[i]?).map f := fun i => by rw [← Array.getElem?_toList, hr, List.getElem?_map]
  refine ⟨order.toList.filterMap fun i => L[i]?, ?_, ?_, ?_⟩
  · rw [Array.toList_filterMap, List.map_filterMap]
    congr 1
    funext i
    exact get i
  · have all : ∀ n, n ≤ L.length → (List.range n).filterMap (fun i => L[i]?) = L.take n := by
      intro n
      induction n with
      | zero => exact fun _ => rfl
      | succ n ih =>
        intro hn
        rw [List.range_succ, List.filterMap_append, ih (Nat.le_of_succ_le hn), List.take_add_one, List.getElem?_eq_getElem hn, List.filterMap_cons_some (List.getElem?_eq_getElem hn)]
        rfl
    have z := hp.filterMap (fun i => L[i]?)
    rw [all _ (Nat.le_refl _), List.take_length] at z
    exact z
  · have low : ∀ i ∈ order.toList, i < L.length := fun i hi => List.mem_range.mp (hp.mem_iff.mp hi)
    generalize order.toList = l at low
    clear hp
    induction l with
    | nil => rfl
    | cons i l ih =>
      have il := low i List.mem_cons_self
      rw [List.filterMap_cons_some (List.getElem?_eq_getElem il), List.map_cons, List.map_cons, ih fun j hj => low j (List.mem_cons_of_mem _ hj)]
      congr 1
      have e : (es.map (·.1))[i]? = some (f L[i]).1 := by
        rw [Array.getElem?_map, get, List.getElem?_eq_getElem il]
        rfl
      simp [Array.getD_eq_getD_getElem?, e]
/-- what is asked of a table before it is laid anew, or left -/
structure Bare (P : Program) (w : World) (h : Heap) (a : Addr) (L : List (Addr × Ky)) (es : Array (Int × Value)) (ep : Nat) (t : SetTable) : Prop where
  at_ : ∃ o, h.get? a = some o ∧ o.ExactSet ∧ o.data = .set es ep t
  rows : es.toList = L.map (rowK P w)
  tab : TabOk t (L.map fun p => kh P w p.2)
  one : (L.map (·.2)).Nodup
  keys : ∀ p ∈ L, (kyKind P w).is h p.2 p.1
  led : w.params.followText "set-order" = true ∨ t.led = true
  fit : L.length ≤ t.mask
  few : L.length < 64
theorem Bare.relay (B : Bare P w s.heap a L es ep t) {wanted M : Nat} (hw : SetTable.sizeAbove wanted - 1 = M) (hM : MaskOk M) (hw2 : SetTable.sizeAbove wanted ≤ 128) (hn : L.length * 5 < M * 3) {Q : Unit → Shared → Prop}
    (q : ∀ h' L' es' ep' t', Heap.SameBut a s.heap h' → KsR P w h' a L' es' ep' t' → L'.Perm L → Q () { s with heap := h' }) : wpAny (model P w) A (setRelay a wanted) Q E s := by
  obtain ⟨o, ho, hex, hd⟩ := B.at_
  have n1 : es.size = L.length := by rw [← Array.length_toList, B.rows, List.length_map]
  have n2 : t.place.size = L.length := by rw [B.tab.sz, List.length_map]
  have fit := B.fit
  obtain ⟨t', order, e, hp, T, em, el, ep', ed⟩ := relaid_ok t (hs := es.map (·.1)) (wanted := wanted) hw hM (by rw [Array.size_map, n1]; omega)
  rw [Array.size_map, n1] at hp
  obtain ⟨L2, r1, r2, r3⟩ := rows_by B.rows hp
  have r3 : (L2.map fun p => kh P w p.2) = order.toList.map fun i => (es.map (·.1)).getD i 0 := r3
  rw [← r3] at T
  have n3 : (order.filterMap (es[·]?)).size = es.size := by rw [← Array.length_toList, r1, List.length_map, r2.length_eq, n1]
  rw [setRelay_eq]
  refine wpAny_bind (wpAny_setState_of ho hd (fits_of (by rw [n2, n1]) B.tab.dm (by rw [n1]; exact fit)) ?_)
  dsimp only
  refine wp_if_neg (by rw [sizeLine_eq]; omega) ?_
  try refine wpAny_bind (wpAny_pure ?_)
  rw [e]
  dsimp only
  refine wpAny_bind (wp_if_neg (by rw [n3]; simp) ?_)
  try refine wpAny_bind (wpAny_pure ?_)
  refine wpAny_pure ?_
  dsimp only
  have sb : Heap.SameBut a s.heap (s.heap.update a (Obj.putSet (order.filterMap (es[·]?)) t')) := Heap.SameBut.update ..
  have bf := B.few
  refine wpAny_storeSet_of ho hd (q _ L2 _ (ep + 1) t' sb ⟨⟨_, store_at ho hd, ⟨hex.1, hex.2.1, hex.2.2⟩, rfl⟩, r1, T, (r2.map (·.2)).nodup_iff.mpr B.one, fun p m => k_same (B.keys p (r2.mem_iff.mp m)) ho hd sb, by rw [el]; exact B.led, ?_, by rw [r2.length_eq]; exact bf⟩ r2) (by rw [n3, n1, sizeLine_eq]; omega)
  rw [r2.length_eq, em]
  exact hn
/-- behind the storing -/
theorem Bare.done (B : Bare P w s.heap a L es ep t) {n : Nat} (hn : L.length = n + 1) (hf : t.fill = L.length) (hr : n * 5 < t.mask * 3) (hfew : n < 63) {Q : Bool → Shared → Prop}
    (q : ∀ h' L' es' ep' t', Heap.SameBut a s.heap h' → KsR P w h' a L' es' ep' t' → L'.Perm L → Q true { s with heap := h' }) :
    wpAny (model P w) A (do
      if !false && t.tooFull then setRelay a (SetTable.grown (n + 1))
      return true) Q E s := by
  by_cases full : t.tooFull = true
  · have big : L.length * 5 ≥ t.mask * 3 := by
      have h := full
      unfold SetTable.tooFull at h
      rw [decide_eq_true_eq, hf] at h
      exact h
    have two : (t.mask = 7 ∧ n = 4) ∨ (t.mask = 31 ∧ n = 18) := by
      rcases B.tab.mok with e | e | e
      · left
        rw [e] at big hr
        exact ⟨e, by omega⟩
      · right
        rw [e] at big hr
        exact ⟨e, by omega⟩
      · rw [e] at big hr
        omega
    refine wp_if_pos (by simp [full]) (wpAny_bind ?_)
    have go : ∀ M, SetTable.sizeAbove (SetTable.grown (n + 1)) - 1 = M → MaskOk M → SetTable.sizeAbove (SetTable.grown (n + 1)) ≤ 128 → L.length * 5 < M * 3 → wpAny (model P w) A (setRelay a (SetTable.grown (n + 1))) (fun _ s' => wpAny (model P w) A (pure true) Q E s') E s :=
      fun M h1 h2 h3 h4 => B.relay h1 h2 h3 h4 fun h' L' es' ep' t' sb R pm => wpAny_pure (q h' L' es' ep' t' sb R pm)
    rcases two with ⟨_, e⟩ | ⟨_, e⟩
    · exact go 31 (by rw [e, size_20]) (.inr (.inl rfl)) (by rw [e, size_20]; decide) (by omega)
    · exact go 127 (by rw [e, size_76]) (.inr (.inr rfl)) (by rw [e, size_76]; decide) (by omega)
  · refine wp_if_neg (by simp [full]) (wpAny_pure (q s.heap L es ep t (Heap.SameBut.refl a s.heap) ⟨B.at_, B.rows, B.tab, B.one, B.keys, B.led, ?_, B.few⟩ (List.Perm.refl _)))
    have h := full
    unfold SetTable.tooFull at h
    rw [decide_eq_true_eq, hf] at h
    omega
theorem KsR.add (R : KsR P w s.heap a L es ep t) {x : Addr} {k : Ky} (hx : (kyKind P w).is s.heap k x) (hu : A.units + 8 < cLine) (hfew : L.length < 63) {Q : Bool → Shared → Prop}
    (q : ∀ b h' L' es' ep' t', Heap.SameBut a s.heap h' → KsR P w h' a L' es' ep' t' → (k ∈ L.map (·.2) → L' = L) → (k ∉ L.map (·.2) → L'.Perm ((x, k) :: L)) → Q b { s with heap := h' }) : wpAny (model P w) A (setAddHashed a (.ref x) (kh P w k)) Q E s := by
  obtain ⟨o, ho, hex, hd⟩ := R.at_
  have rm := R.room
  unfold setAddHashed
  refine wpAny_holding ?_
  rw [show (100000 : Nat) = 99999 + 1 from rfl, setAddHashedIn_succ]
  refine wpAny_bind (wpAny_setState_of ho hd R.fits ?_)
  dsimp only
  refine wp_if_neg (by simp [byScan, Value.scannable]) ?_
  try refine wpAny_bind (wpAny_pure ?_)
  refine wpAny_bind (R.find hx hu (fun hm => ?_) fun K hm hK hB => ?_)
  · dsimp only
    exact wpAny_pure (q false s.heap L es ep t (Heap.SameBut.refl a s.heap) R (fun _ => rfl) fun z => absurd hm z)
  · dsimp only
    refine wpAny_bind (wpAny_setState_of ho hd R.fits ?_)
    dsimp only
    obtain ⟨q1, q2, q3, q4, q5, q6, q7, q8, q9⟩ := R.tab.put hK hB
    generalize t.put (way t.mask (kh P w k) K) = pt at q1 q3 q4 q5 q6 q7 q8 q9 ⊢
    obtain ⟨t1, p⟩ := pt
    dsimp only at q1 q3 q4 q5 q6 q7 q8 q9 ⊢
    subst q1
    have rin : (SetTable.insertAt es (SetTable.below t.place (way t.mask (kh P w k) K)) (kh P w k, Value.ref x)).toList = (L.take (SetTable.below t.place (way t.mask (kh P w k) K)) ++ (x, k) :: L.drop (SetTable.below t.place (way t.mask (kh P w k) K))).map (rowK P w) := by
      rw [SetTable.toList_insertAt, R.rows, List.map_append, List.map_cons, List.map_take, List.map_drop]
      rfl
    generalize SetTable.below t.place (way t.mask (kh P w k) K) = p at q2 q3 rin ⊢
    have pm := put_perm L p (x, k)
    have hh : (L.take p ++ (x, k) :: L.drop p).map (fun p => kh P w p.2) = (L.map fun p => kh P w p.2).take p ++ kh P w k :: (L.map fun p => kh P w p.2).drop p := by rw [List.map_append, List.map_cons, List.map_take, List.map_drop]
    rw [← hh] at q3
    generalize L.take p ++ (x, k) :: L.drop p = L1 at pm q3 rin
    have n1 : L1.length = L.length + 1 := pm.length_eq
    generalize SetTable.insertAt es p (kh P w k, Value.ref x) = es1 at rin ⊢
    have n2 : es1.size = L.length + 1 := by rw [← Array.length_toList, rin, List.length_map, n1]
    have one1 : (L1.map (·.2)).Nodup := (pm.map (·.2)).nodup_iff.mpr (by rw [List.map_cons]; exact List.nodup_cons.mpr ⟨hm, R.one⟩)
    -- whatever it tells of hashes
    have fin : ∀ t2 : SetTable, TabOk t2 (L1.map fun p => kh P w p.2) → t2.mask = t.mask → t2.led = t.led → t2.fill = L1.length → wpAny (model P w) A (do
        storeSet a es1 t2
        if !false && t2.tooFull then setRelay a (SetTable.grown (es.size + 1))
        return true) Q E s := by
      intro t2 T2 m2 l2 f2
      refine wpAny_bind (wpAny_storeSet_of ho hd ?_ (by rw [n2, sizeLine_eq]; omega))
      have sb : Heap.SameBut a s.heap (s.heap.update a (Obj.putSet es1 t2)) := Heap.SameBut.update ..
      have ho1 := store_at (es' := es1) (t' := t2) ho hd
      generalize s.heap.update a (Obj.putSet es1 t2) = h1 at sb ho1 ⊢
      have B : Bare P w h1 a L1 es1 (ep + 1) t2 := ⟨⟨_, ho1, ⟨hex.1, hex.2.1, hex.2.2⟩, rfl⟩, rin, T2, one1, fun p hp => by
        rcases List.mem_cons.mp (pm.mem_iff.mp hp) with e | hp
        · rw [e]
          exact k_same hx ho hd sb
        · exact k_same (R.keys p hp) ho hd sb, by rw [l2]; exact R.led, by rw [n1, m2]; omega, by omega⟩
      rw [R.size]
      exact Bare.done (s := { s with heap := h1 }) B n1 f2 (by rw [m2]; exact rm) hfew fun h' L' es' ep' t' sb' R' pm' => q true h' L' es' ep' t' (sb.trans sb') R' (fun z => absurd z hm) fun _ => pm'.trans pm
    have f1 : t1.fill = L1.length := by rw [q9, List.length_map, n1]
    by_cases hp : t1.plain = true
    · first
        | (refine wpAny_bind (wp_if_pos hp (by_run hx ?_)))
        | (refine wp_if_pos hp (wpAny_bind (by_run hx ?_)))
      simp only [Bool.false_eq_true, if_false]
      exact fin { t1 with plain := false } ⟨q3.ris, q3.dm, q3.sz, q3.mok, q3.bd, q3.reach⟩ q4 q5 f1
    · first
        | (refine wpAny_bind (wp_if_neg hp (wpAny_pure ?_)))
        | (refine wp_if_neg hp (wpAny_bind (wpAny_pure ?_)))
        | (refine wp_if_neg hp ?_)
      simp only [if_true]
      exact fin t1 q3 q4 q5 f1
end
end Jv
/-! a set of keys as an object that is tracked; sorted(set) -/
namespace Jv
open PySem PySem.Spec PyProof.Rows L2
structure Ks0 (P : Program) (w : World) (h : Heap) (a : Addr) (L : List (Addr × Ky)) : Prop where
  ex : ∃ es ep t, (∃ o, h.get? a = some o ∧ o.ExactSet ∧ o.data = .set es ep t) ∧ es.toList = L.map (rowK P w) ∧ TabOk t (L.map fun p => kh P w p.2) ∧ (L.map (·.2)).Nodup ∧ (w.params.followText "set-order" = true ∨ t.led = true) ∧ L.length * 5 < t.mask * 3 ∧ L.length < 64
def KsO (P : Program) (w : World) (a : Addr) (L : List (Addr × Ky)) : HO := .ext fun h => Ks0 P w h a L
theorem ksO_ok {P : Program} {w : World} {H : Hp} {h : Heap} {a : Addr} {L : List (Addr × Ky)} {es : Array (Int × Value)} {ep : Nat} {t : SetTable} (R : KsR P w h a L es ep t) : ObjOk P w H h a (KsO P w a L) := by
  obtain ⟨o, ho, r⟩ := R.at_
  refine ⟨⟨es, ep, t, ⟨o, ho, r⟩, R.rows, R.tab, R.one, R.led, R.room, R.few⟩, ⟨o, ho⟩, fun g1 g2 q k => ?_⟩
  obtain ⟨es', ep', t', ⟨o', ho', r'⟩, z⟩ := Ks0.ex q
  exact ⟨es', ep', t', ⟨o', k _ ho', r'⟩, z⟩
/-- at d: a set of these keys -/
structure Ks (K : PySem.W.Frag) (P : Program) (w : World) (H : Hp) (d : Addr) (L : List (Addr × Ky)) : Prop where
  at_ : H d = some (KsO P w d L)
  keys : ∀ p ∈ L, KyAt K H p.1 p.2
section
variable {X : Cx} {pn : List (Addr × Obj)} {sg : L2.St} {H : Hp} {s : Shared} {d : Addr} {L : List (Addr × Ky)}
theorem Ks.of (I : Inv X pn sg H s) (h : Ks X.K X.prog X.w H d L) : ∃ es ep t, KsR X.prog X.w s.heap d L es ep t := by
  obtain ⟨⟨es, ep, t, h1, h2, h3, h4, h5, h6, h7⟩, _, _⟩ := (show ObjOk X.prog X.w H s.heap d (KsO X.prog X.w d L) from I.hok d _ h.at_)
  exact ⟨es, ep, t, h1, h2, h3, h4, fun p hp => (h.keys p hp).is I, h5, h6, h7⟩
/-- sorted(set) -/
def rSortS (K : PySem.W.Frag) (P : Program) (w : World) : List V → Hp → VK → Prop := fun vs H Q => ∃ (d : Addr) (L : List (Addr × Ky)), vs = [.ref d] ∧ Ks K P w H d L ∧
  ∀ (L1 : List (Addr × Ky)) p as, L1.Perm L → KyAll K H as (kySort (L1.map (·.2))) → H p = none → Q (.ref p) (upd H p (.lst (as.map V.ref)))
theorem refs_perm : ∀ {vs : List Value} {L : List (Addr × Ky)}, vs.Perm (L.map fun p => Value.ref p.1) → ∃ L1 : List (Addr × Ky), vs = L1.map (fun p => Value.ref p.1) ∧ L1.Perm L := by
  intro vs L h
  obtain ⟨L1, h1, h2⟩ : ∃ L1 : List (Addr × Ky), L1.Perm L ∧ L1.map (fun p => Value.ref p.1) = vs := by
    generalize e : (L.map fun p => Value.ref p.1) = us at h
    induction h generalizing L with
    | nil =>
      cases L with
      | nil => exact ⟨[], .nil, rfl⟩
      | cons _ _ => cases e
    | cons x h ih =>
      cases L with
      | nil => cases e
      | cons p L =>
        injection e with e1 e2
        obtain ⟨L1, a, b⟩ := ih e2
        exact ⟨p :: L1, a.cons p, by rw [List.map_cons, b, ← e1]⟩
    | swap x y l =>
      cases L with
      | nil => cases e
      | cons p L =>
        cases L with
        | nil => cases e
        | cons q L =>
          injection e with e1 e2
          injection e2 with e2 e3
          exact ⟨q :: p :: L, .swap _ _ _, by rw [List.map_cons, List.map_cons, ← e1, ← e2, e3]⟩
    | trans h1 h2 ih1 ih2 =>
      obtain ⟨L2, a, b⟩ := ih2 e
      obtain ⟨L1, c, d⟩ := ih1 b
      exact ⟨L1, c.trans a, d⟩
  exact ⟨L1, h2.symm, h1⟩
theorem ky_each {K : PySem.W.Frag} : ∀ {L1 : List (Addr × Ky)}, (∀ p ∈ L1, KyAt K H p.1 p.2) → KyAll K H (L1.map (·.1)) (L1.map (·.2))
  | [], _ => .nil
  | p :: L1, all => .cons (all p List.mem_cons_self) (ky_each fun r hr => all r (List.mem_cons_of_mem _ hr))
theorem cr_sortS (hc : X.calm = true) (hu : X.A.units + 64 < cLine) : CallR X (.builtin "sorted") (rSortS X.K X.prog X.w) := by
  intro pn s sg H vxs uxs Qq I r1 hyp
  obtain ⟨d, L, rfl, hS, q⟩ := hyp
  obtain ⟨u, rfl, r2⟩ := vals1 r1
  cases (show u = Value.ref d from r2)
  obtain ⟨es, ep, t, R⟩ := hS.of I
  obtain ⟨o, ho, hex, hd⟩ := R.at_
  have few := R.few
  have n1 := R.size
  refine sorted_keysG (H := H) (pn := pn) (sg := sg) hu (fun as ks => ∃ L1 : List (Addr × Ky), L1.Perm L ∧ as = L1.map (·.1) ∧ ks = L1.map (·.2)) (fun Rq hR => ?_) (fun as ks ⟨L1, pm, e1, e2⟩ => ?_) fun as ks ⟨L1, pm, e1, e2⟩ p bs hb np => ?_
  · refine collect_set (A := X.A.in1) (I.ok.hd hc) ⟨o, ho, hex.1, hd⟩ R.fits (by rw [n1]; unfold scanBound; omega) R.tab.ris R.led fun s1 vs kk hz hg hos pm => ?_
    have er : es.toList.map (·.2) = L.map fun p => Value.ref p.1 := by
      rw [R.rows, List.map_map]
      rfl
    rw [er] at pm
    obtain ⟨L1, rfl, pl⟩ := refs_perm pm
    have I1 : Inv X pn sg H s1 := I.call' (ch := []) hos (Un.kept kk) (I.hok.kept kk) (by rw [hg]; exact I.bare) (fun _ z => nomatch z)
    have z := hR s1 (L1.map (·.1)) (L1.map (·.2)) ⟨L1, pl, rfl, rfl⟩ I1
    rw [List.map_map] at z
    exact z
  · subst e1 e2
    refine ⟨?_, by rw [List.length_map, pm.length_eq]; omega⟩
    exact ky_each fun p hp => hS.keys p (pm.mem_iff.mp hp)
  · subst e2
    exact q L1 p bs pm hb np
/-- D.add(x) -/
theorem ks_add {Er : Value → Shared → Prop} {D x : Addr} {k : Ky} {Q : Value → Shared → Prop} (I : Inv X pn sg H s) (hu : X.A.units + 10 < cLine) (hS : Ks X.K X.prog X.w H D L) (hk : KyAt X.K H x k) (few : L.length < 63)
    (q : ∀ s' H' L', (∀ b, b ≠ D → H' b = H b) → Ks X.K X.prog X.w H' D L' → (k ∈ L.map (·.2) → L' = L) → (k ∉ L.map (·.2) → L'.Perm ((x, k) :: L)) → Inv X pn sg H' s' → Q .none s') : wpAny (model X.prog X.w) X.A (call (.builtin "set.add") [.ref D, .ref x]) Q Er s := by
  obtain ⟨es, ep, t, R⟩ := hS.of I
  obtain ⟨o, ho, hex, hd⟩ := R.at_
  have hT : s.TypeIs (.ref D) "set" := ⟨o, ho, hex.1⟩
  refine wpAny_call_entry F.slot_set_add hT F.entry_set_add ?_ (F.args_set_add_2 _ _)
  unfold Builtin.«set.add» Builtin.Frozenset.oneOther
  simp only [List.isEmpty_nil, bind_assoc]
  unfold Builtin.Frozenset.addrOf setAdd
  refine wpAny_bind (wpAny_pure ?_)
  try dsimp only
  refine wpAny_bind (wpAny_pure ?_)
  try dsimp only
  refine wpAny_bind (wpAny_holding (wpAny_bind ((kyKind X.prog X.w).pyHash (show X.A.units + 1 + 8 < cLine by omega) (hk.is I) ?_)))
  have I1 : Inv X pn sg H { s with toks := s.toks + (kyKind X.prog X.w).draws k } := I.tok _
  obtain ⟨es1, ep1, t1, R1⟩ := hS.of I1
  refine KsR.add (s := { s with toks := s.toks + (kyKind X.prog X.w).draws k }) R1 (hk.is I1) (show X.A.units + 1 + 8 < cLine by omega) few fun b h' L' es' ep' t' sb R' same more => ?_
  show wpAny _ _ (ret Value.none) _ _ _
  refine wpAny_pure ⟨_, rfl, ?_⟩
  have e9 : ∃ z, h'.get? D = some z := let ⟨z, hq, _⟩ := R'.at_; ⟨z, hq⟩
  have mu : Mut (H D) := by
    rw [hS.at_]
    exact True.intro
  have hb : ∀ b, b ≠ D → upd H D (KsO X.prog X.w D L') b = H b := fun b hb => upd_ne hb
  have up : TupS H (upd H D (KsO X.prog X.w D L')) := fun b o e tt => by
    have n : b ≠ D := by
      rintro rfl
      rw [hS.at_] at e
      cases e
      rcases tt with ⟨ys, tt⟩ | ⟨y1, y2, tt⟩ <;> cases tt
    rw [hb b n]
    exact e
  refine q _ _ L' hb ⟨upd_same, fun p hp => ?_⟩ same more (d_write I1 mu sb e9 (ksO_ok R'))
  by_cases m : k ∈ L.map (·.2)
  · rw [same m] at hp
    exact (hS.keys p hp).tupS up
  · rcases List.mem_cons.mp ((more m).mem_iff.mp hp) with e | hp
    · rw [e]
      exact hk.tupS up
    · exact (hS.keys p hp).tupS up
end
end Jv
/-! {e for a in x for b in y}, e a key -/
namespace Jv
open PySem PySem.Spec PyProof.Rows L2
abbrev two (e ta ia tb ib : Expr) (sc : Scope) (pos : Pos) : Expr := .SetComp e [⟨ta, ia, [], 0⟩, ⟨tb, ib, [], 0⟩] sc pos
theorem turn_a (e ta ia tb ib : Expr) (sc : Scope) (pos : Pos) (it acc : Value) (env : Env) : compTurn (two e ta ia tb ib sc pos) 0 it acc env = (do
    standAt ia.pos
    match ← pyNext it with
    | none => pure (.done .next)
    | some v =>
      letOwnedTupleGo ta it v
      assign ta env v
      let y ← eval ib env
      standAt ib.pos
      let y ← foldedSetIterable ib env y
      let _ ← runOwn (.compStart (two e ta ia tb ib sc pos) 1 (← holding [y] (pyIter y)) acc env) env
      again (.compLoop (two e ta ia tb ib sc pos) 0 it acc env)) := by rfl
theorem turn_b (e ta ia tb ib : Expr) (sc : Scope) (pos : Pos) (it acc : Value) (env : Env) : compTurn (two e ta ia tb ib sc pos) 1 it acc env = (do
    standAt ib.pos
    match ← pyNext it with
    | none => pure (.done .next)
    | some v =>
      letOwnedTupleGo tb it v
      assign tb env v
      (do let y ← eval e env; standAt e.pos; let _ ← call (.builtin "set.add") [acc, y])
      again (.compLoop (two e ta ia tb ib sc pos) 1 it acc env)) := by rfl
section
variable {P : Program} {w : World} {A : Around} {R : Result → Shared → Prop} {s : Shared} {e ta ia tb ib : Expr} {sc : Scope} {pos : Pos} {it acc : Value} {env : Env}
abbrev Ne (P : Program) (w : World) (A : Around) (env : Env) (R : Result → Shared → Prop) : Value → Shared → Prop := notedBy (model P w) A env fun x s' => R (.error x) s'
theorem loop_a (hs : ∀ x, foldedSetIterable ib env x = pure x) (I : Nat → Shared → Prop)
    (turn : ∀ n s, I n s → wpAny (model P w) A (pyNext it) (fun r s1 => match r with
      | none => R (.ok .next) s1
      | some v => wpAny (model P w) A (letOwnedTupleGo ta it v) (fun _ s2 => wpAny (model P w) A (assign ta env v) (fun _ s3 => wpAny (model P w) A (eval ib env) (fun y s4 => wpAny (model P w) A (pyIter y) (fun it1 s5 =>
          codeAny (model P w) A (.compStart (two e ta ia tb ib sc pos) 1 it1 acc env) (fun r s' => match r with
            | .ok _ => ∃ m, m < n ∧ I m s'
            | .error _ => False) s5) (Ne P w A env R) s4) (Ne P w A env R) s3) (Ne P w A env R) s2) (Ne P w A env R) s1) (Ne P w A env R) s) (n : Nat) (h : I n s) : codeAny (model P w) A (.compLoop (two e ta ia tb ib sc pos) 0 it acc env) R s := by
  refine codeAny_loop rfl I (fun n s hI => ?_) n h
  show wpAny _ A ((compTurn (two e ta ia tb ib sc pos) 0 it acc env).onRaise (fun x => do noteFrame x env; theTreesLotGoes x)) _ _ s
  refine wpAny_noted ?_
  rw [turn_a]
  refine wpAny_bind (wpAny_standAt (wpAny_bind (wpAny_mono (turn n s hI) (fun r s1 h1 => ?_) fun _ _ z => z)))
  cases r with
  | none => exact wpAny_pure h1
  | some v =>
    refine wpAny_bind (wpAny_mono h1 (fun _ s2 h2 => wpAny_bind (wpAny_mono h2 (fun _ s3 h3 => wpAny_bind (wpAny_mono h3 (fun y s4 h4 => ?_) fun _ _ z => z)) fun _ _ z => z)) fun _ _ z => z)
    refine wpAny_bind (wpAny_standAt (wpAny_bind (wpAny_of_eq (hs y) (wpAny_bind (wpAny_holding (wpAny_mono h4 (fun it1 s5 h5 => ?_) fun _ _ z => z))))))
    refine wpAny_bind (wpAny_runOwn ?_)
    rw [Around.mark_none]
    refine codeAny_mono h5 fun r s' hr => ?_
    cases r with
    | ok f => exact wpAny_pure ⟨rfl, hr⟩
    | error x => exact hr.elim
theorem loop_b (I : Nat → Shared → Prop)
    (turn : ∀ n s, I n s → wpAny (model P w) A (pyNext it) (fun r s1 => match r with
      | none => R (.ok .next) s1
      | some v => wpAny (model P w) A (letOwnedTupleGo tb it v) (fun _ s2 => wpAny (model P w) A (assign tb env v) (fun _ s3 => wpAny (model P w) A (eval e env) (fun y s4 => wpAny (model P w) A (call (.builtin "set.add") [acc, y]) (fun _ s5 =>
          ∃ m, m < n ∧ I m s5) (Ne P w A env R) s4) (Ne P w A env R) s3) (Ne P w A env R) s2) (Ne P w A env R) s1) (Ne P w A env R) s) (n : Nat) (h : I n s) : codeAny (model P w) A (.compLoop (two e ta ia tb ib sc pos) 1 it acc env) R s := by
  refine codeAny_loop rfl I (fun n s hI => ?_) n h
  show wpAny _ A ((compTurn (two e ta ia tb ib sc pos) 1 it acc env).onRaise (fun x => do noteFrame x env; theTreesLotGoes x)) _ _ s
  refine wpAny_noted ?_
  rw [turn_b]
  refine wpAny_bind (wpAny_standAt (wpAny_bind (wpAny_mono (turn n s hI) (fun r s1 h1 => ?_) fun _ _ z => z)))
  cases r with
  | none => exact wpAny_pure h1
  | some v =>
    refine wpAny_bind (wpAny_mono h1 (fun _ s2 h2 => wpAny_bind (wpAny_mono h2 (fun _ s3 h3 => ?_) fun _ _ z => z)) fun _ _ z => z)
    exact wpAny_bind (wpAny_bind (wpAny_mono h3 (fun y s4 h4 => wpAny_bind (wpAny_standAt (wpAny_bind (wpAny_mono h4 (fun _ s5 h5 => wpAny_pure (wpAny_pure ⟨rfl, h5⟩)) fun _ _ z => z)))) fun _ _ z => z))
theorem start_b (h0 : codeAny (model P w) A (.compLoop (two e ta ia tb ib sc pos) 1 it acc env) R s)
    (h : wpAny (model P w) A (pyIter it) (fun it' s' => codeAny (model P w) A (.compLoop (two e ta ia tb ib sc pos) 1 it' acc env) R s') (Ne P w A env R) s) : codeAny (model P w) A (.compStart (two e ta ia tb ib sc pos) 1 it acc env) R s := by
  refine codeAny_of_tree ?_
  show wpAny _ _ ((compStart (two e ta ia tb ib sc pos) 1 it acc env).onRaise (fun x => do noteFrame x env; standAt theWindowsPlace)) _ _ s
  refine wpAny_notedAt ?_
  unfold compStart
  show wpAny _ _ (ask >>= _) _ _ s
  refine wpAny_bind (wpAny_askSetting (wpAny_ite ?_))
  split
  · first
      | exact wpAny_bind (wpAny_pure (wpAny_pure ⟨rfl, h0⟩))
      | exact wpAny_pure ⟨rfl, h0⟩
  · first
      | exact wpAny_bind (wpAny_rule (wpAny_bind (wpAny_standAt (wpAny_bind (wpAny_mono h (fun _ _ z => wpAny_pure ⟨rfl, z⟩) fun _ _ x => x)))))
      | (refine wpAny_bind (wpAny_rule ?_); show wpAny _ _ (standAt ib.pos >>= _) _ _ s; exact wpAny_bind (wpAny_standAt (wpAny_bind (wpAny_mono h (fun _ _ z => wpAny_pure ⟨rfl, z⟩) fun _ _ x => x))))
end
theorem ks_fresh {P : Program} {w : World} {h : Heap} {a : Addr} (ho : h.get? a = some { cls := .type "set", dict := none, data := .set #[] 0 (.fresh 0 0 (!w.params.followText "set-order")) }) : KsR P w h a [] #[] 0 (.fresh 0 0 (!w.params.followText "set-order")) where
  at_ := ⟨_, ho, ⟨rfl, rfl, rfl⟩, rfl⟩
  rows := rfl
  tab := ⟨List.Pairwise.nil, rfl, rfl, Or.inl rfl, fun x hx => (by cases hx), fun i h j hi => (by simp at hi)⟩
  one := List.nodup_nil
  keys := fun p hp => (by cases hp)
  led := by
    show _ ∨ (!w.params.followText "set-order") = true
    cases w.params.followText "set-order"
    · exact Or.inr rfl
    · exact Or.inl rfl
  room := by
    show 0 * 5 < 7 * 3
    decide
  few := by
    show 0 < 64
    decide
section
variable {X : Cx}
/-- the reading -/
def tSc2 (K : PySem.W.Frag) (P : Program) (w : World) (wi : TI) (g : TG) (wi1 : TI) (g1 : TG) (te : TE) (vs vs1 : List Nat) : TE := fun sg H Q => wi sg H fun J H1 => ∀ D, H1 D = none → ∃ W : Nat → Nat → Hp → Prop, (∃ m, W 0 m (upd H1 D (KsO P w D []))) ∧ ∀ i m H, W i m H →
  (J.stop i H ∧ Q (.ref D) H) ∨ (J.go i H ∧ ∃ Nx : Hp → Prop, (∀ H', Nx H' → ∃ m', m' < m ∧ W (i + 1) m' H') ∧ ∀ x H', J.yld i H x H' → g x (wipe sg vs) H' fun s2 H2 => wipe s2 vs = wipe sg vs ∧
    wi1 s2 H2 fun J1 H4 => ∃ W1 : Nat → Nat → Hp → Prop, (∃ m, W1 0 m H4) ∧ ∀ j k H, W1 j k H → (J1.stop j H ∧ Nx H) ∨ (J1.go j H ∧ ∃ Nx1 : Hp → Prop, (∀ H', Nx1 H' → ∃ k', k' < k ∧ W1 (j + 1) k' H') ∧
      ∀ x H', J1.yld j H x H' → g1 x (wipe s2 vs1) H' fun s3 H5 => wipe s3 vs1 = wipe s2 vs1 ∧ te s3 H5 fun y H7 => ∃ a L k, y = .ref a ∧ Ks K P w H7 D L ∧ KyAt K H7 a k ∧ L.length < 63 ∧
        ∀ H8 L', (∀ b, b ≠ D → H8 b = H7 b) → Ks K P w H8 D L' → (k ∈ L.map (·.2) → L' = L) → (k ∉ L.map (·.2) → L'.Perm ((a, k) :: L)) → Nx1 H8))
theorem pe_sc2 {e ta ia tb ib : Expr} {sc : Scope} {own : List (Str × Nat)} {vs1 : List Nat} {pos : Pos} {wi wi1 : TI} {g g1 : TG} {te : TE} (hc : X.calm = true) (hu : X.A.units + 10 < cLine) (nd : X.N.Nodup) (hi : PI X ta ia wi) (ok : BlkOk X.N X.env.scope sc own) (hv : ∀ i ∈ vs1, i ∈ own.map (·.2))
    (hg : ∀ (s : Shared) (H : Hp) (C : Addr) (cl : List (Str × Addr)) (fp : List Addr), PG (X.blk s H sc (compEnvC sc cl C X.env) fp) ta g) (hi1 : ∀ (s : Shared) (H : Hp) (C : Addr) (cl : List (Str × Addr)) (fp : List Addr), PI (X.blk s H sc (compEnvC sc cl C X.env) fp) tb ib wi1)
    (hg1 : ∀ (s : Shared) (H : Hp) (C : Addr) (cl : List (Str × Addr)) (fp : List Addr), PG (X.blk s H sc (compEnvC sc cl C X.env) fp) tb g1) (he : ∀ (s : Shared) (H : Hp) (C : Addr) (cl : List (Str × Addr)) (fp : List Addr), PE (X.blk s H sc (compEnvC sc cl C X.env) fp) e te)
    (hs : ∀ x, foldedSetIterable ia X.env x = pure x := by intro _; rfl) (hs1 : ∀ env x, foldedSetIterable ib env x = pure x := by intro _ _; rfl) : PE X (two e ta ia tb ib sc pos) (tSc2 X.K X.prog X.w wi g wi1 g1 te (own.map (·.2)) vs1) := by
  refine ⟨fun pn s sg H Q I h => ?_⟩
  rw [PpSet.eval_SetComp]
  have clo : ∀ y ∈ sc.names, y.2 = .free → ∃ c, X.env.cells.lookup y.1 = some c := fun y hy z => (ok.free y hy z).elim (fun z => I.ok.has _ (.inl z)) fun z => I.ok.has _ (.inr z)
  refine wpAny_comprehension_free (use := none) rfl hs (closure_ok clo) ok.kind (fun y hy z => by rw [ok.uniq y hy, z]) (thn (hi.run pn s sg H _ I h) fun xv s1 hx => thn hx fun iv s2 h2 => ?_)
  obtain ⟨ja, fp, tn, J, H2, rfl, I2, T, st2, f2, q⟩ := h2
  refine PpSet.newSet_ok (newEnv_comp ?_)
  -- the new set, at D
  generalize eD : s2.heap.objs.size = D
  have nD : H2 D = none := I2.hok.fresh (Nat.le_of_eq eD)
  obtain ⟨W, ⟨m0, w0⟩, turn⟩ := q D nD
  generalize e3 : ({ s2 with heap := s2.heap.push { cls := .type "set", dict := none, data := .set #[] 0 (.fresh 0 0 (!X.w.params.followText "set-order")) } } : Shared) = s3
  have hp3 : s3.heap = s2.heap.push { cls := .type "set", dict := none, data := .set #[] 0 (.fresh 0 0 (!X.w.params.followText "set-order")) } := by rw [← e3]
  have I3 : Inv X pn sg (upd H2 D (KsO X.prog X.w D [])) s3 := by
    rw [← e3]
    refine I2.laid (t' := s2.toks) (fun b o z => Heap.get?_push_of_some _ z) (Nat.le_of_eq eD) (ksO_ok (ks_fresh ?_))
    rw [← eD]
    exact Heap.get?_push_size _ rfl
  have low : ∀ b ∈ fp, b < s2.heap.objs.size := fun b hb => let ⟨o, z, _⟩ := T.obj _ _ st2 b hb; Heap.lt_size z
  have f3 : ∀ b ∈ fp, FpOk X pn (upd H2 D (KsO X.prog X.w D [])) b ∧ b < s3.heap.objs.size := fun b hb => by
    have lt := low b hb
    have ne : b ≠ D := by
      rw [← eD]
      exact Nat.ne_of_lt lt
    exact ⟨⟨by rw [upd_ne ne]; exact (f2 b hb).1, (f2 b hb).2⟩, by rw [hp3, Heap.size_push]; exact Nat.lt_succ_of_lt lt⟩
  have st3 : tn 0 s3.heap := T.keep _ _ _ st2 fun b _ o z => by rw [hp3]; exact Heap.get?_push_of_some _ z
  generalize eH : upd H2 D (KsO X.prog X.w D []) = H3 at I3 w0 f3
  have I4 := block_start I3 ok nd f3
  have pg := hg s3 H3 s3.heap.objs.size (cellsFrom (s3.heap.objs.size + 1) sc.names (cloFrom X.env.cells sc.names [])) fp
  have pj := hi1 s3 H3 s3.heap.objs.size (cellsFrom (s3.heap.objs.size + 1) sc.names (cloFrom X.env.cells sc.names [])) fp
  have pb := hg1 s3 H3 s3.heap.objs.size (cellsFrom (s3.heap.objs.size + 1) sc.names (cloFrom X.env.cells sc.names [])) fp
  have pe := he s3 H3 s3.heap.objs.size (cellsFrom (s3.heap.objs.size + 1) sc.names (cloFrom X.env.cells sc.names [])) fp
  show codeAny _ _ (.compStart (two e ta ia tb ib sc pos) 0 (.ref ja) (.ref D) (compEnvC sc (cellsFrom (s3.heap.objs.size + 1) sc.names (cloFrom X.env.cells sc.names [])) s3.heap.objs.size X.env))
    (compPost (model X.prog X.w) X.A X.xe none (EP X pn sg Q) (.ref D) s3.heap.objs.size) { s3 with heap := pushCells (s3.heap.push { cls := .type "dict", data := .dict #[] }) sc.names }
  have nf : ∀ b ∈ fp, H3 b = none := fun b hb => (f3 b hb).1.1
  generalize ec : compEnvC sc (cellsFrom (s3.heap.objs.size + 1) sc.names (cloFrom X.env.cells sc.names [])) s3.heap.objs.size X.env = ce at I4 pg pj pb pe ⊢
  have cl : ce.locals = s3.heap.objs.size := by
    rw [← ec]
    rfl
  generalize e4 : ({ s3 with heap := pushCells (s3.heap.push { cls := .type "dict", data := .dict #[] }) sc.names } : Shared) = s4 at I4 ⊢
  have st4 : tn 0 s4.heap := T.keep _ _ _ st3 fun b _ o z => by
    rw [← e4]
    exact pushCells_keeps _ _ _ _ (Heap.get?_push_of_some _ z)
  have fo : ∀ {sg' : L2.St} {H' : Hp} {s' : Shared}, Inv (X.blk s3 H3 sc ce fp) [] sg' H' s' → (∀ b ∈ fp, H' b = none) → ∀ b ∈ fp, FpOk (X.blk s3 H3 sc ce fp) [] H' b := fun {sg' H' s'} I' hn b hb =>
    ⟨hn b hb, (I'.ok.exf b hb).1, I'.ok.exfs b hb, .inl hb, (I'.ok.exf b hb).2, fun p hp => absurd hp (by simp)⟩
  have loop : codeAny (model X.prog X.w) X.A (.compLoop (two e ta ia tb ib sc pos) 0 (.ref ja) (.ref D) ce) (compPost (model X.prog X.w) X.A X.xe none (EP X pn sg Q) (.ref D) s3.heap.objs.size) s4 := by
    refine loop_a (hs1 ce) (fun n s' => ∃ i H', Inv (X.blk s3 H3 sc ce fp) [] (wipe sg (own.map (·.2))) H' s' ∧ tn i s'.heap ∧ (∀ b ∈ fp, H' b = none) ∧ W i n H') ?_ m0 ⟨0, H3, I4, st4, nf, w0⟩
    rintro n s5 ⟨i, H5, I5, st5, n5, w5⟩
    rcases turn i n H5 w5 with ⟨stop, qq⟩ | ⟨go, Nx, hN, step⟩
    · refine thnF (T.done (X.blk s3 H3 sc ce fp) rfl rfl rfl hc i [] s5 _ H5 (fun _ _ => False) I5 (fo I5 n5) st5 stop) fun r s6 ⟨hr, I6⟩ => ?_
      subst hr
      have I7 : Inv X pn sg H5 s6 := I3.call' (ch := fp) I6.os I6.base I6.hok I6.bare fun b hb => ⟨(f3 b hb).1.2.2.2.1, (f3 b hb).1.2.1, (f3 b hb).1.2.2.2.2.1, (f3 b hb).1.2.2.2.2.2⟩
      have nC : H5 s3.heap.objs.size = none := by
        rw [← cl]
        exact I6.free
      obtain ⟨m, hn, _⟩ := I6.loc
      refine ⟨m, by rw [← cl]; exact hn, fun h'' sb => ?_⟩
      obtain ⟨g0, g1', g2, g3, g4, g5⟩ := I3.fpOk (b := s3.heap.objs.size) (Nat.le_refl _) nC
      exact ⟨.ref D, H5, I7.turned (t' := s6.toks) (fun b o hb z => (sb.2 b hb).trans z) g0 g1' g3 g4 g5, rfl, qq⟩
    · refine thnF (T.item (X.blk s3 H3 sc ce fp) rfl rfl rfl hc i [] s5 _ H5 (fun _ _ => False) I5 (fo I5 n5) st5 go) fun r s6 ⟨u, hr, h6⟩ => ?_
      subst hr
      refine thnF h6 fun _ s7 ⟨x, H7, I7, r7, y7, st7, n7⟩ => ?_
      have I8 := I7.pinned (fo I7 n7) (T.obj _ _ st7)
      refine thnF (pg.run _ s7 _ H7 x u _ I8 r7 (step x H7 y7)) fun _ s8 ⟨sg8, H8, I9, hw8, q8⟩ => ?_
      -- from the slots of the turn back to those of the block
      have back : ∀ (j : Nat) v, (wipe sg (own.map (·.2)))[j]? = some (some v) → (wipe sg8 vs1)[j]? = some (some v) := fun j v z => by
        rw [← hw8] at z
        obtain ⟨z1, z2⟩ := wipe_some z
        rw [wipe_out fun y => z2 (hv j y)]
        exact z1
      have len : (wipe sg (own.map (·.2))).length = (wipe sg8 vs1).length := by rw [wipe_length sg8 vs1, ← hw8, wipe_length]
      have fin : ∀ {s' : Shared} {H' : Hp}, Inv (X.blk s3 H3 sc ce fp) ([] ++ pinsAt fp s7.heap) (wipe sg8 vs1) H' s' → Nx H' → ∃ m, m < n ∧ ∃ i H', Inv (X.blk s3 H3 sc ce fp) [] (wipe sg (own.map (·.2))) H' s' ∧ tn i s'.heap ∧ (∀ b ∈ fp, H' b = none) ∧ W i m H' := fun {s' H'} I' nx => by
        obtain ⟨m', hm, w'⟩ := hN H' nx
        have pin : ∀ b ∈ fp, ∀ o, s7.heap.get? b = some o → s'.heap.get? b = some o ∧ H' b = none := fun b hb o z =>
          let y := I'.pin (b, o) (List.mem_append_right _ (List.mem_append_right _ (mem_pinsAt hb z)))
          ⟨y.1, y.2.1⟩
        refine ⟨m', hm, i + 1, H', (I'.unpinned (pins := [])).weak len back, T.keep _ _ _ st7 fun b hb o z => (pin b hb o z).1, fun b hb => ?_, w'⟩
        obtain ⟨o, z, _⟩ := T.obj _ _ st7 b hb
        exact (pin b hb o z).2
      refine thnF (pj.run _ s8 sg8 H8 _ I9 q8) fun xv s10 hx => thnF hx fun iv s11 h11 => ?_
      obtain ⟨jb, fq, tm, J1, H11, rfl, I11, T1, st11, f11, W1, ⟨m1, w1⟩, turn1⟩ := h11
      have fo1 : ∀ {H' : Hp}, (∀ b ∈ fq, H' b = none) → ∀ b ∈ fq, FpOk (X.blk s3 H3 sc ce fp) ([] ++ pinsAt fp s7.heap) H' b := fun hn b hb => ⟨hn b hb, (f11 b hb).2⟩
      have inner : codeAny (model X.prog X.w) X.A (.compLoop (two e ta ia tb ib sc pos) 1 (.ref jb) (.ref D) ce) (fun r s' => match r with
          | .ok _ => ∃ m, m < n ∧ ∃ i H', Inv (X.blk s3 H3 sc ce fp) [] (wipe sg (own.map (·.2))) H' s' ∧ tn i s'.heap ∧ (∀ b ∈ fp, H' b = none) ∧ W i m H'
          | .error _ => False) s11 := by
        refine loop_b (fun k s' => ∃ j H', Inv (X.blk s3 H3 sc ce fp) ([] ++ pinsAt fp s7.heap) (wipe sg8 vs1) H' s' ∧ tm j s'.heap ∧ (∀ b ∈ fq, H' b = none) ∧ W1 j k H') ?_ m1 ⟨0, H11, I11.weak (wipe_length _ _) (fun j v z => (wipe_some z).1), st11, fun b hb => (f11 b hb).1, w1⟩
        rintro k s12 ⟨j, H12, I12, st12, n12, w12⟩
        rcases turn1 j k H12 w12 with ⟨stop1, nx⟩ | ⟨go1, Nx1, hN1, step1⟩
        · refine thnF (T1.done (X.blk s3 H3 sc ce fp) rfl rfl rfl hc j _ s12 (wipe sg8 vs1) H12 (fun _ _ => False) I12 (fo1 n12) st12 stop1) fun r s13 ⟨hr, I13⟩ => ?_
          subst hr
          exact fin I13 nx
        · refine thnF (T1.item (X.blk s3 H3 sc ce fp) rfl rfl rfl hc j _ s12 (wipe sg8 vs1) H12 (fun _ _ => False) I12 (fo1 n12) st12 go1) fun r s13 ⟨u1, hr, h13⟩ => ?_
          subst hr
          refine thnF h13 fun _ s14 ⟨x1, H14, I14, r14, y14, st14, n14⟩ => ?_
          have I15 := I14.pinned (fo1 n14) (T1.obj _ _ st14)
          refine thnF (pb.run _ s14 (wipe sg8 vs1) H14 x1 u1 _ I15 r14 (step1 x1 H14 y14)) fun _ s15 ⟨sg15, H15, I16, hw15, q15⟩ => ?_
          have fin1 : ∀ {s' : Shared} {H' : Hp}, Inv (X.blk s3 H3 sc ce fp) (([] ++ pinsAt fp s7.heap) ++ pinsAt fq s14.heap) sg15 H' s' → Nx1 H' → ∃ m, m < k ∧ ∃ j H', Inv (X.blk s3 H3 sc ce fp) ([] ++ pinsAt fp s7.heap) (wipe sg8 vs1) H' s' ∧ tm j s'.heap ∧ (∀ b ∈ fq, H' b = none) ∧ W1 j m H' := fun {s' H'} I' nx => by
            obtain ⟨m', hm, w'⟩ := hN1 H' nx
            have pin : ∀ b ∈ fq, ∀ o, s14.heap.get? b = some o → s'.heap.get? b = some o ∧ H' b = none := fun b hb o z =>
              let y := I'.pin (b, o) (List.mem_append_right _ (List.mem_append_right _ (mem_pinsAt hb z)))
              ⟨y.1, y.2.1⟩
            refine ⟨m', hm, j + 1, H', I'.unpinned.weak (by rw [← hw15, wipe_length]) (fun j v z => (wipe_some (by rw [hw15]; exact z)).1), T1.keep _ _ _ st14 fun b hb o z => (pin b hb o z).1, fun b hb => ?_, w'⟩
            obtain ⟨o, z, _⟩ := T1.obj _ _ st14 b hb
            exact (pin b hb o z).2
          refine thnF (pe.run _ s15 sg15 H15 _ I16 q15) fun z s17 ⟨yv, H17, I17, r17, a, L, kk, ey, hS, hK, few, nx⟩ => ?_
          subst ey
          cases (show z = Value.ref a from r17)
          exact ks_add (X := X.blk s3 H3 sc ce fp) I17 hu hS hK few fun s18 H18 L' hb hS' e1 e2 I18 => fin1 I18 (nx H18 L' hb hS' e1 e2)
      exact start_b inner (T1.self X.A 0 _ _ _ st11 inner)
  exact PpSet.codeAny_compStart_set loop (T.self X.A 0 _ _ _ st4 loop)
end
theorem ha_of {A : Around} {k : Nat} (hr : Room k A) : A.units + 10 < cLine := by
  have := hr.un
  omega
/-! ### its turns -/
section
variable {J J1 : It} {n : Nat} {Gd : Hp → Prop} {Y : Nat → Hp → V → Hp → Prop} {K : PySem.W.Frag} {P : Program} {w : World}
theorem in_it (wk : Walk J1 n Gd Y) {g1 : TG} {te : TE} {vs1 : List Nat} {s2 : L2.St} {H4 : Hp} {D : Addr} {Nx : Hp → Prop} (Pv : Nat → Hp → Prop) (h0 : Pv 0 H4) (hG : ∀ i H, i ≤ n → Pv i H → Gd H)
    (turn : ∀ j x H H', j < n → Pv j H → Y j H x H' → g1 x (wipe s2 vs1) H' fun s3 H5 => wipe s3 vs1 = wipe s2 vs1 ∧ te s3 H5 fun y H7 => ∃ a L k, y = .ref a ∧ Ks K P w H7 D L ∧ KyAt K H7 a k ∧ L.length < 63 ∧
        ∀ H8 L', (∀ b, b ≠ D → H8 b = H7 b) → Ks K P w H8 D L' → (k ∈ L.map (·.2) → L' = L) → (k ∉ L.map (·.2) → L'.Perm ((a, k) :: L)) → Pv (j + 1) H8) (fin : ∀ H, Pv n H → Nx H) :
    ∃ W1 : Nat → Nat → Hp → Prop, (∃ m, W1 0 m H4) ∧ ∀ j k H, W1 j k H → (J1.stop j H ∧ Nx H) ∨ (J1.go j H ∧ ∃ Nx1 : Hp → Prop, (∀ H', Nx1 H' → ∃ k', k' < k ∧ W1 (j + 1) k' H') ∧
      ∀ x H', J1.yld j H x H' → g1 x (wipe s2 vs1) H' fun s3 H5 => wipe s3 vs1 = wipe s2 vs1 ∧ te s3 H5 fun y H7 => ∃ a L k, y = .ref a ∧ Ks K P w H7 D L ∧ KyAt K H7 a k ∧ L.length < 63 ∧
        ∀ H8 L', (∀ b, b ≠ D → H8 b = H7 b) → Ks K P w H8 D L' → (k ∈ L.map (·.2) → L' = L) → (k ∉ L.map (·.2) → L'.Perm ((a, k) :: L)) → Nx1 H8) := by
  refine ⟨fun i m H => i + m = n ∧ Pv i H, ⟨n, Nat.zero_add n, h0⟩, fun i m H ⟨e, p⟩ => ?_⟩
  have gd := hG i H (by omega) p
  rcases Nat.eq_zero_or_pos m with z | z
  · have e' : i = n := by omega
    subst e'
    exact Or.inl ⟨wk.stops H gd, fin H p⟩
  · have lt : i < n := by omega
    exact Or.inr ⟨wk.goes i H lt gd, Pv (i + 1), fun H' p' => ⟨m - 1, by omega, by omega, p'⟩, fun x H' y => turn i x H H' lt p (wk.yields i H x H' lt gd y)⟩
theorem out_it (wk : Walk J n Gd Y) {g g1 : TG} {wi1 : TI} {te : TE} {vs vs1 : List Nat} {sg : L2.St} {H0 : Hp} {D : Addr} {Qd : Hp → Prop} (Pv : Nat → Hp → Prop) (h0 : Pv 0 H0) (hG : ∀ i H, i ≤ n → Pv i H → Gd H)
    (turn : ∀ i x H H', i < n → Pv i H → Y i H x H' → g x (wipe sg vs) H' fun s2 H2 => wipe s2 vs = wipe sg vs ∧
      wi1 s2 H2 fun J1 H4 => ∃ W1 : Nat → Nat → Hp → Prop, (∃ m, W1 0 m H4) ∧ ∀ j k H, W1 j k H → (J1.stop j H ∧ Pv (i + 1) H) ∨ (J1.go j H ∧ ∃ Nx1 : Hp → Prop, (∀ H', Nx1 H' → ∃ k', k' < k ∧ W1 (j + 1) k' H') ∧
        ∀ x H', J1.yld j H x H' → g1 x (wipe s2 vs1) H' fun s3 H5 => wipe s3 vs1 = wipe s2 vs1 ∧ te s3 H5 fun y H7 => ∃ a L k, y = .ref a ∧ Ks K P w H7 D L ∧ KyAt K H7 a k ∧ L.length < 63 ∧
          ∀ H8 L', (∀ b, b ≠ D → H8 b = H7 b) → Ks K P w H8 D L' → (k ∈ L.map (·.2) → L' = L) → (k ∉ L.map (·.2) → L'.Perm ((a, k) :: L)) → Nx1 H8)) (fin : ∀ H, Pv n H → Qd H) :
    ∃ W : Nat → Nat → Hp → Prop, (∃ m, W 0 m H0) ∧ ∀ i m H, W i m H → (J.stop i H ∧ Qd H) ∨ (J.go i H ∧ ∃ Nx : Hp → Prop, (∀ H', Nx H' → ∃ m', m' < m ∧ W (i + 1) m' H') ∧ ∀ x H', J.yld i H x H' → g x (wipe sg vs) H' fun s2 H2 => wipe s2 vs = wipe sg vs ∧
      wi1 s2 H2 fun J1 H4 => ∃ W1 : Nat → Nat → Hp → Prop, (∃ m, W1 0 m H4) ∧ ∀ j k H, W1 j k H → (J1.stop j H ∧ Nx H) ∨ (J1.go j H ∧ ∃ Nx1 : Hp → Prop, (∀ H', Nx1 H' → ∃ k', k' < k ∧ W1 (j + 1) k' H') ∧
        ∀ x H', J1.yld j H x H' → g1 x (wipe s2 vs1) H' fun s3 H5 => wipe s3 vs1 = wipe s2 vs1 ∧ te s3 H5 fun y H7 => ∃ a L k, y = .ref a ∧ Ks K P w H7 D L ∧ KyAt K H7 a k ∧ L.length < 63 ∧
          ∀ H8 L', (∀ b, b ≠ D → H8 b = H7 b) → Ks K P w H8 D L' → (k ∈ L.map (·.2) → L' = L) → (k ∉ L.map (·.2) → L'.Perm ((a, k) :: L)) → Nx1 H8)) := by
  refine ⟨fun i m H => i + m = n ∧ Pv i H, ⟨n, Nat.zero_add n, h0⟩, fun i m H ⟨e, p⟩ => ?_⟩
  have gd := hG i H (by omega) p
  rcases Nat.eq_zero_or_pos m with z | z
  · have e' : i = n := by omega
    subst e'
    exact Or.inl ⟨wk.stops H gd, fin H p⟩
  · have lt : i < n := by omega
    exact Or.inr ⟨wk.goes i H lt gd, Pv (i + 1), fun H' p' => ⟨m - 1, by omega, by omega, p'⟩, fun x H' y => turn i x H H' lt p (wk.yields i H x H' lt gd y)⟩
end
end Jv
/-! the keys sorted: one list, however they stood -/
namespace Jv
open PySem PySem.Spec PyProof.Rows L2
theorem toks_strs : ∀ {xs ys : List Str} {r q : List (Int ⊕ List Nat)}, PySem.W.keyToksAll (xs.map .str) ++ r = PySem.W.keyToksAll (ys.map .str) ++ q → xs = ys ∧ r = q
  | [], [], r, q, h => ⟨rfl, (List.cons.inj (show Sum.inl (0 : Int) :: r = Sum.inl 0 :: q from h)).2⟩
  | [], y :: ys, r, q, h => by
    have h : Sum.inl (0 : Int) :: r = Sum.inl (1 : Int) :: (Sum.inr y.cps.toList :: (PySem.W.keyToksAll (ys.map .str) ++ q)) := by simpa [PySem.W.keyToksAll, PySem.W.keyToks] using h
    injection h with h
    cases h
  | x :: xs, [], r, q, h => by
    have h : Sum.inl (1 : Int) :: (Sum.inr x.cps.toList :: (PySem.W.keyToksAll (xs.map .str) ++ r)) = Sum.inl (0 : Int) :: q := by simpa [PySem.W.keyToksAll, PySem.W.keyToks] using h
    injection h with h
    cases h
  | x :: xs, y :: ys, r, q, h => by
    have h : Sum.inl (1 : Int) :: (Sum.inr x.cps.toList :: (PySem.W.keyToksAll (xs.map .str) ++ r)) = Sum.inl (1 : Int) :: (Sum.inr y.cps.toList :: (PySem.W.keyToksAll (ys.map .str) ++ q)) := by simpa [PySem.W.keyToksAll, PySem.W.keyToks] using h
    obtain ⟨_, h⟩ := List.cons.inj h
    obtain ⟨h1, h⟩ := List.cons.inj h
    obtain ⟨e, f⟩ := toks_strs h
    obtain ⟨a⟩ := x
    obtain ⟨b⟩ := y
    have h1 : a.toList = b.toList := Sum.inr.inj h1
    have : a = b := Array.toList_inj.mp h1
    exact ⟨by rw [this, e], f⟩
theorem toks_inj {a b : Ky} (h : PySem.W.keyToks a.py = PySem.W.keyToks b.py) : a = b := by
  obtain ⟨n, d, f, l⟩ := a
  obtain ⟨n', d', f', l'⟩ := b
  have e : ∀ (n : Str) (d f : List Str) (l : Bool), PySem.W.keyToks (Ky.py ⟨n, d, f, l⟩) = Sum.inl (1 : Int) :: Sum.inr n.cps.toList :: Sum.inl (1 : Int) :: (PySem.W.keyToksAll (d.map .str) ++ (Sum.inl (1 : Int) :: (PySem.W.keyToksAll (f.map .str) ++ [Sum.inl (1 : Int), Sum.inl (if l = true then 1 else 0), Sum.inl 0]))) := by
    intro n d f l
    simp [Ky.py, PySem.W.keyToks, PySem.W.keyToksAll]
  rw [e, e] at h
  obtain ⟨_, h⟩ := List.cons.inj h
  obtain ⟨h1, h⟩ := List.cons.inj h
  obtain ⟨_, h⟩ := List.cons.inj h
  obtain ⟨h2, h⟩ := toks_strs h
  obtain ⟨_, h⟩ := List.cons.inj h
  obtain ⟨h3, h⟩ := toks_strs h
  obtain ⟨_, h⟩ := List.cons.inj h
  obtain ⟨h4, _⟩ := List.cons.inj h
  obtain ⟨x⟩ := n
  obtain ⟨y⟩ := n'
  have h1 : x.toList = y.toList := Sum.inr.inj h1
  have h4 : (if l = true then (1 : Int) else 0) = if l' = true then 1 else 0 := Sum.inl.inj h4
  have h5 : l = l' := by
    revert h4
    cases l <;> cases l' <;> decide
  rw [Array.toList_inj.mp h1, h2, h3, h5]
theorem ky_anti (a b : Ky) (h1 : kyLe a b = true) (h2 : kyLe b a = true) : a = b := by
  have h1 : (!(PyProof.Rows.listOrd PyProof.Rows.itemOrd).blt (PySem.W.keyToks b.py) (PySem.W.keyToks a.py)) = true := h1
  have h2 : (!(PyProof.Rows.listOrd PyProof.Rows.itemOrd).blt (PySem.W.keyToks a.py) (PySem.W.keyToks b.py)) = true := h2
  rw [Bool.not_eq_true'] at h1 h2
  exact toks_inj ((PyProof.Rows.listOrd PyProof.Rows.itemOrd).total _ _ h2 h1)
theorem kySort_one {ks ls : List Ky} (h : ks.Perm ls) : kySort ks = kySort ls := by
  have T := PySem.W.sortLe_total (PyProof.Rows.listOrd PyProof.Rows.itemOrd) false fun k : Ky => PySem.W.keyToks k.py
  have tot : ∀ a b : Ky, (kyLe a b || kyLe b a) = true := fun a b => by
    rw [Bool.or_eq_true]
    exact T.total a b
  exact PySem.W.Srt.the_of_perm kyLe T.trans tot ky_anti ((kySort_perm ks).trans h) (List.pairwise_mergeSort (le := kyLe) T.trans tot ks)
end Jv
namespace S1
open PySem PySem.Spec PyProof.Rows L2 Jv
def siteTw (s : List Pg) : List Ky := s.flatMap fun p => (takenL p.ad p.ws).map (·.1)
section
variable {P : Program} {w : World} {K : PySem.W.Frag} {mg : Str → Option Value} {base : Heap} {C1 C2 C3 : Addr}
def spKeys (K : PySem.W.Frag) (C1 : Addr) : Sp := fun vs H Q E => ∃ v d, vs = [v] ∧ Da K H v d ∧ (∀ ns, siteBad d = some ns → Told K C1 "place" H (fun _ => False) E (some ns)) ∧
  ∀ s, siteBad d = none → d = sitePy s → ∀ H' t as ks, Same H H' → SqT K H' t (as.map V.ref) → KyAll K H' as ks → (∀ ls : List Ky, ls.Nodup → (∀ k, k ∈ ls ↔ k ∈ siteTw s) → ks = kySort ls) → Q (.ref t) H'
/-- what the set has got: from the pages ahead, and some of a page's writes -/
def SetGot (K : PySem.W.Frag) (P : Program) (w : World) (H : Hp) (D : Addr) (ks : List Ky) (m : Nat) : Prop := ∃ L : List (Addr × Ky), Ks K P w H D L ∧ (L.map (·.2)).Nodup ∧ (∀ k, k ∈ L.map (·.2) ↔ k ∈ ks) ∧ L.length ≤ m
theorem SetGot.put {H8 : Hp} {D a : Addr} {L L' : List (Addr × Ky)} {ks : List Ky} {m : Nat} {k : Ky} (hS : Ks K P w H8 D L') (n : (L.map (·.2)).Nodup) (g : ∀ k, k ∈ L.map (·.2) ↔ k ∈ ks) (l : L.length ≤ m) (e1 : k ∈ L.map (·.2) → L' = L) (e2 : k ∉ L.map (·.2) → L'.Perm ((a, k) :: L)) :
    SetGot K P w H8 D (ks ++ [k]) (m + 1) := by
  by_cases z : k ∈ L.map (·.2)
  · have e := e1 z
    subst e
    refine ⟨L', hS, n, fun k' => ?_, Nat.le_succ_of_le l⟩
    rw [List.mem_append, List.mem_singleton, g k']
    refine ⟨Or.inl, fun y => y.elim id fun e => ?_⟩
    rw [e]
    exact (g k).mp z
  · have pm := (e2 z).map (·.2)
    refine ⟨L', hS, pm.nodup_iff.mpr (by rw [List.map_cons]; exact List.nodup_cons.mpr ⟨z, n⟩), fun k' => ?_, ?_⟩
    · rw [pm.mem_iff, List.map_cons, List.mem_cons, List.mem_append, List.mem_singleton, g k']
      exact ⟨fun y => y.elim Or.inr Or.inl, fun y => y.elim Or.inr Or.inl⟩
    · rw [(e2 z).length_eq, List.length_cons]
      exact Nat.succ_le_succ l
theorem siteTw_snoc (s : List Pg) (p : Pg) : siteTw (s ++ [p]) = siteTw s ++ (takenL p.ad p.ws).map (·.1) := by
  unfold siteTw
  rw [List.flatMap_append]
  simp
theorem ok_keys_of (T : Txt K mg) (n1 : Exn P w K mg base "BadSite" "place" C1) : OkX P w K mg base "keys_of" P_keys_of 7 (spKeys K C1) := by
  have ok_need_site : OkX P w K mg base "need_site" P_need_site 6 (spSite K C1) := ok_need_site T n1
  have ok_taken_writes : Ok P w K mg base "taken_writes" P_taken_writes 3 (spTw K) := ok_taken_writes T
  refine T.d_keys_of.okX sc_keys_of (fun vs H Q E h => ?_) (fun f cdv A out s H vs Q E hr h => ?_)
  · obtain ⟨v, d, rfl, _⟩ := h
    rfl
  · obtain ⟨v, d, rfl, hd, q1, q2⟩ := h
    refine ⟨_, (pss_cons (ps_expr (pe_okX ok_need_site (hr.mono (by decide)) (takes_of rfl rfl rfl rfl) (pa_cons (pv 0) pa_nil)))
    (pss_one (ps_ret (pe_callTy call_tuple_of (by rfl) T.z_tuple (by decide +kernel) (pa_cons (pe_callB (show CallR _ _ (rSortS K P w) from cr_sortS rfl (hb_of hr)) (by rfl) T.z_sorted (by decide +kernel) (pa_cons (pe_sc2 (own := [("page", 1), ("key", 2), ("_", 3)]) (vs1 := [2, 3]) (g := gName 1) (g1 := gTup K 3 (gCons (gName 2) (gCons (gName 3) (gCons (gName 3) gNil)))) (wi1 := (iList K (tCall (spTw K) [] E0 (tCons (tVar 1) tNil)))) rfl (ha_of hr) sc_keys_of.nd (pi_tup (pv 0)) (blkOk_by (N := N_keys_of) (sc := defScope st_keys_of) (by decide +kernel)) (by decide) (fun _ _ _ _ _ => pg_name (i := 1) sc_keys_of.nd rfl (Or.inl rfl)) (fun _ _ _ _ _ => (pi_list (pe_ok ok_taken_writes (hr.mono (by decide)) (pa_cons (pv 1) pa_nil)))) (fun _ _ _ _ _ => pg_tup rfl (pgs_cons (pg_name (i := 2) sc_keys_of.nd rfl (Or.inl rfl)) (pgs_cons (pg_name (i := 3) sc_keys_of.nd rfl (Or.inl rfl)) (pgs_cons (pg_name (i := 3) sc_keys_of.nd rfl (Or.inl rfl)) pgs_nil)))) (fun _ _ _ _ _ => (pv 2))) pa_nil)) pa_nil))))), ?_⟩
    refine ⟨v, rfl, v, d, rfl, hd, ?_⟩
    cases hb : siteBad d with
    | some ns => exact q1 ns hb
    | none =>
      intro H1 s1
      obtain ⟨si, rfl, okS⟩ := site_of hb
      have q := q2 si hb rfl
      obtain ⟨a, xs, rfl, h1, nl, h2⟩ := da_seq (Da.same s1 _ _ hd)
      refine ⟨.ref a, rfl, a, rfl, ⟨xs, h1⟩, fun D nD => ?_⟩
      have n5 : si.length ≤ 5 := okS.1
      refine out_it walk_tup (fun i H' => Same H1 H' ∧ SetGot K P w H' D (siteTw (si.take i)) (5 * i)) ⟨same_new nD, [], ⟨upd_same, fun p hp => by cases hp⟩, List.nodup_nil, fun k => Iff.rfl, Nat.zero_le _⟩ (fun i H' hi pv => sqT_same pv.1 h1) (fun i x H2 H3 hlt pv y => ?_) (fun H2 pv => ?_)
      · obtain ⟨rfl, ex⟩ := y
        obtain ⟨s2, L0, hS0, nd0, got0, len0⟩ := pv
        obtain ⟨p, ep, hp⟩ := da_nth h2 ex
        have okP := okS.2 p (List.mem_of_getElem? ep)
        have t5 : (takenL p.ad p.ws).length ≤ 5 := Nat.le_trans (takenL_len _ _) okP.2.1
        have ilt : i < xs.length := hlt
        have step : siteTw (si.take (i + 1)) = siteTw (si.take i) ++ (takenL p.ad p.ws).map (·.1) := by
          rw [List.take_add_one, ep]
          exact siteTw_snoc _ _
        refine ⟨rfl, x, rfl, x, p, rfl, Da.same s2 _ _ hp, okP, fun H4 T' ts s4 _ dT tw => ?_⟩
        have tl := Paired.length tw
        generalize et : takenL p.ad p.ws = tl0 at tw t5 tl step
        have dD := s4 _ _ hS0.at_
        have hS4 : Ks K P w H4 D L0 := ⟨dD, fun p hp => (hS0.keys p hp).same s4⟩
        refine ⟨T', rfl, ⟨_, SqL.of dT⟩, in_it walk_list (fun j H' => Same H1 H' ∧ H' T' = some (.lst ts) ∧ TwAll K H' ts tl0 ∧ SetGot K P w H' D (siteTw (si.take i) ++ (tl0.take j).map (·.1)) (5 * i + j)) ⟨s2.trans s4, dT, tw, L0, hS4, nd0, fun k => by rw [got0 k]; simp, len0⟩ (fun j H' hj pv => SqL.of pv.2.1) (fun j x H5 H6 jlt pv y => ?_) fun H5 pv => ?_⟩
        · obtain ⟨rfl, ej⟩ := y
          obtain ⟨s5, d5, t5', L, hS, nd, got, ln⟩ := pv
          obtain ⟨t, e1, b, c, rfl, g1, g2⟩ : ∃ t, tl0[j]? = some t ∧ TwAt K H6 x t := paired_get t5' ej
          have jl : j < ts.length := jlt
          refine ⟨b, _, rfl, g1, rfl, _, _, rfl, _, _, rfl, _, _, rfl, rfl, rfl, .ref c, rfl, c, L, t.1, rfl, hS, g2, by omega, fun H8 L' hb8 hS8 m1 m2 => ?_⟩
          have up : TupS H6 H8 := fun b' o eb tt => by
            have nb : b' ≠ D := by
              rintro rfl
              rw [hS.at_] at eb
              cases eb
              rcases tt with ⟨ys, tt⟩ | ⟨y1, y2, tt⟩ <;> cases tt
            rw [hb8 b' nb]
            exact eb
          have nT : T' ≠ D := by
            rintro rfl
            rw [hS.at_] at d5
            cases d5
          refine ⟨fun b' o eb => ?_, by rw [hb8 T' nT]; exact d5, t5'.tupS up, ?_⟩
          · have nb : b' ≠ D := by
              rintro rfl
              rw [nD] at eb
              cases eb
            rw [hb8 b' nb]
            exact s5 _ _ eb
          · have e : siteTw (si.take i) ++ (tl0.take (j + 1)).map (·.1) = (siteTw (si.take i) ++ (tl0.take j).map (·.1)) ++ [t.1] := by
              rw [List.take_add_one, e1, List.map_append, List.append_assoc]
              rfl
            rw [e]
            exact SetGot.put hS8 nd got ln m1 m2
        · obtain ⟨s5, d5, t5', L, hS, nd, got, ln⟩ := pv
          rw [tl, List.take_length] at got
          rw [step]
          exact ⟨s5, L, hS, nd, got, by omega⟩
      · obtain ⟨s2, L, hS, nd, got, ln⟩ := pv
        rw [nl, List.take_length] at got
        refine ⟨D, L, rfl, hS, fun L1 p as pm kall np => ?_⟩
        refine ⟨p, as.map V.ref, rfl, Or.inl ⟨SqL.of upd_same, fun t nt => ?_⟩⟩
        have s3 : Same H2 (upd H2 p (.lst (as.map V.ref))) := same_new np
        have s4 : Same (upd H2 p (.lst (as.map V.ref))) (upd (upd H2 p (.lst (as.map V.ref))) t (.tup (as.map V.ref))) := same_new nt
        refine q _ t as _ (((s1.trans s2).trans s3).trans s4) (SqT.of upd_same) (kall.same (s3.trans s4)) fun ls nl' hl => kySort_one ?_
        refine (List.perm_ext_iff_of_nodup ((pm.map (·.2)).nodup_iff.mpr nd) nl').mpr fun k => ?_
        rw [(pm.map (·.2)).mem_iff, got k, hl k]
end
end S1
/-! sets of keys: set(), in, add; data < data; d.pop(k, x) -/
namespace Jv
open PySem PySem.Spec PyProof.Rows L2
def rLenJ (K : PySem.W.Frag) : List V → Hp → VK → Prop := fun xs H Q => ∃ x n, xs = [x] ∧ LenV K x H n ∧ Q (V.int (n : Nat)) H
theorem hx_of {A : Around} {k : Nat} (hr : Room k A) : A.units + 20 < cLine := by
  have := hr.un
  omega
section
variable {P : Program} {w : World} {A : Around} {E : Value → Shared → Prop} {s : Shared} {a : Addr} {L : List (Addr × Ky)} {es : Array (Int × Value)} {ep : Nat} {t : SetTable}
/-- as KsR.seek, where nothing is to be put in -/
theorem KsR.seekF (R : KsR P w s.heap a L es ep t) {x : Addr} {k : Ky} (hx : (kyKind P w).is s.heap k x) (hu : A.units + 8 < cLine) {K : Nat} (hF : K < 10 * SetTable.turns t.mask) (hK : way t.mask (kh P w k) K ∉ t.place.toList) (hB : ∀ c, c < K → way t.mask (kh P w k) c ∈ t.place.toList)
    {Q : SetFound → Shared → Prop} (yes : k ∈ L.map (·.2) → ∀ i, Q (.there (some i)) s) (no : k ∉ L.map (·.2) → Q (.free (way t.mask (kh P w k) K) false) s) :
    ∀ (f c : Nat) (st : Option SetTable.Probe), st.getD (t.probeStart (kh P w k)) = prb t.mask (kh P w k) c → c ≤ K → K - c < f →
      (∀ (i : Nat) p, L[i]? = some p → p.2 = k → ∃ c', c ≤ c' ∧ c' < K ∧ t.place.toList[i]? = some (way t.mask (kh P w k) c')) → wpAny (model P w) A (setSearchFrom a (.ref x) (kh P w k) false f st) Q E s
  | 0, c, st, _, _, hf, _ => absurd hf (Nat.not_lt_zero _)
  | f + 1, c, st, est, hc, hf, ahead => by
    obtain ⟨o, ho, hex, hd⟩ := R.at_
    rw [setSearchFrom_succ]
    refine wpAny_bind (wpAny_setState_of ho hd R.fits ?_)
    dsimp only
    have gw : ¬ t.gaveWay = true := by
      unfold SetTable.gaveWay
      rw [mask_odd R.tab.mok]
      decide
    refine wp_if_neg gw ?_
    try refine wpAny_bind (wpAny_pure ?_)
    have ej : ∀ q, (nth t.mask (prb t.mask (kh P w k) c) q).j = way t.mask (kh P w k) (c + q) := fun q => by rw [prb_add, prb_j]
    have hashes : ∀ (i : Nat) p, L[i]? = some p → (es[i]?.map (·.1)).getD 0 = kh P w p.2 := fun i p hp => by
      rw [R.row hp, Option.map_some, Option.getD_some]
      exact congrArg Prod.fst (show rowK P w p = (kh P w p.2, Value.ref p.1) from rfl)
    have spec := go_spec t R.tab.ris R.tab.dm (fun i => (es[i]?.map (·.1)).getD 0) (kh P w k) (10 * SetTable.turns t.mask) (K - c) (prb t.mask (kh P w k) c) (prb_dummy _ _ _) (Nat.lt_of_le_of_lt (Nat.sub_le _ _) hF)
      (fun q hq => by rw [ej]; exact hB (c + q) (by omega)) (by rw [ej, show c + (K - c) = K by omega]; exact hK)
    have free_of : ∀ {k' : Nat}, (∀ (i : Nat) (p : Addr × Ky), L[i]? = some p → p.2 = k → ∃ c', c ≤ c' ∧ c' < K ∧ t.place.toList[i]? = some (way t.mask (kh P w k) c')) → (∀ (q i' : Nat), q < k' → t.place.toList[i']? = some (way t.mask (kh P w k) (c + q)) → (es[i']?.map (·.1)).getD 0 ≠ kh P w k) →
        ∀ (i : Nat) (p : Addr × Ky), L[i]? = some p → p.2 = k → ∃ c', c + k' ≤ c' ∧ c' < K ∧ t.place.toList[i]? = some (way t.mask (kh P w k) c') := by
      intro k' ah hno i p hp hk
      obtain ⟨c', a1, a2, a3⟩ := ah i p hp hk
      rcases Nat.lt_or_ge c' (c + k') with z | z
      · refine absurd ?_ (hno (c' - c) i (by omega) (by rw [show c + (c' - c) = c' by omega]; exact a3))
        rw [hashes i p hp, hk]
      · exact ⟨c', z, a2, a3⟩
    rcases spec with ⟨q, i, hq, hi, hh, hno, hpr⟩ | ⟨hno, hpr⟩
    · rw [ej] at hi
      have hpr : t.probe (fun i => (es[i]?.map (·.1)).getD 0) (kh P w k) (st.getD (t.probeStart (kh P w k))) = some (.candidate (way t.mask (kh P w k) (c + q)) i (prb t.mask (kh P w k) (c + (q + 1)))) := by
        rw [est, ← ej, ← prb_add]
        exact hpr
      rw [hpr]
      dsimp only
      have il : i < L.length := by
        have h1 := (List.getElem?_eq_some_iff.mp hi).1
        rw [Array.length_toList, R.place] at h1
        exact h1
      obtain ⟨p, hp⟩ : ∃ p, L[i]? = some p := ⟨_, List.getElem?_eq_getElem il⟩
      have pm : p ∈ L := List.mem_of_getElem? hp
      have next := free_of ahead (k' := q) fun q' i' h1 h2 => hno q' i' h1 (by rw [ej]; exact h2)
      have live : t.slot (way t.mask (kh P w k) (c + q)) = .live i := slot_live R.tab.ris hi
      have rest : wpAny (model P w) A (searchRest a (.ref x) (kh P w k) false f es t (way t.mask (kh P w k) (c + q)) i (prb t.mask (kh P w k) (c + (q + 1)))) Q E s := by
        unfold searchRest
        rw [R.row hp]
        unfold rowK
        dsimp only
        refine wpAny_bind (wpAny_holding ((kyKind P w).eqBool hu (R.keys p pm) hx (wpAny_bind (wpAny_setState_of ho hd R.fits ?_))))
        dsimp only
        refine wp_if_neg (by simp) ?_
        try refine wpAny_bind (wpAny_pure ?_)
        rw [sameMem]
        dsimp only
        simp only [if_true, live, R.row hp, rowK]
        refine wpAny_bind (wpAny_isSame_ref_self (wpAny_bind (wpAny_pure ?_)))
        simp only [if_true]
        by_cases ek : p.2 = k
        · exact wp_if_pos (by simp [ek]) (wpAny_pure (yes (List.mem_map.mpr ⟨p, pm, ek⟩) i))
        · refine wp_if_neg (by simp [ek]) (R.seekF hx hu hF hK hB yes no f (c + (q + 1)) _ rfl (by omega) (by omega) fun i0 p0 h0 k0 => ?_)
          obtain ⟨c', a1, a2, a3⟩ := next i0 p0 h0 k0
          refine ⟨c', ?_, a2, a3⟩
          rcases Nat.eq_or_lt_of_le a1 with z | z
          · rw [← z] at a3
            have s0 := (slot_live R.tab.ris a3).symm.trans live
            injection s0 with s0
            rw [s0, hp] at h0
            cases h0
            exact absurd k0 ek
          · omega
      by_cases hl : t.led = true
      · refine wp_if_neg (by simp [hl]) ?_
        try refine wpAny_bind (wpAny_pure ?_)
        exact rest
      · refine wp_if_pos (by simp [hl]) (wpAny_bind (not_seen hx (fun y hy => ?_) ?_))
        · obtain ⟨e, he, ee⟩ := List.mem_map.mp hy
          have he2 : e ∈ es.toList := (by simpa using he : e ∈ es ∧ e.1 = kh P w k).1 |> Array.mem_toList_iff.mpr
          rw [R.rows] at he2
          obtain ⟨p2, hp2, e2⟩ := List.mem_map.mp he2
          exact ⟨p2.2, p2.1, by rw [← ee, ← e2]; rfl, R.keys p2 hp2⟩
        · refine wp_if_neg (by decide) ?_
          try refine wpAny_bind (wpAny_pure ?_)
          exact rest
    · have hpr : t.probe (fun i => (es[i]?.map (·.1)).getD 0) (kh P w k) (st.getD (t.probeStart (kh P w k))) = some (.empty (way t.mask (kh P w k) K) none) := by
        have e2 : way t.mask (kh P w k) K = (nth t.mask (prb t.mask (kh P w k) c) (K - c)).j := by rw [ej, show c + (K - c) = K by omega]
        rw [est, e2]
        exact hpr
      rw [hpr]
      dsimp only
      refine wpAny_pure (no fun hm => ?_)
      obtain ⟨p0, m0, k0⟩ := List.mem_map.mp hm
      obtain ⟨i0, h0⟩ := List.getElem?_of_mem m0
      obtain ⟨c', a1, a2, a3⟩ := free_of ahead (k' := K - c) (fun q' i' h1 h2 => hno q' i' h1 (by rw [ej]; exact h2)) i0 p0 h0 k0
      omega
theorem KsR.there (R : KsR P w s.heap a L es ep t) {x : Addr} {k : Ky} (hx : (kyKind P w).is s.heap k x) (hu : A.units + 8 < cLine) {Q : Option Nat → Shared → Prop} (q : ∀ r : Option Nat, r.isSome = decide (k ∈ L.map (·.2)) → Q r s) : wpAny (model P w) A (setFind a (.ref x) (kh P w k)) Q E s := by
  obtain ⟨o, ho, hex, hd⟩ := R.at_
  have rm := R.room
  obtain ⟨K, hF, hK, hB⟩ := R.tab.first (by rw [List.length_map]; omega) (kh P w k)
  have big : K < 100000 := by
    have : 10 * SetTable.turns t.mask ≤ 1420 := by
      unfold SetTable.turns
      rcases R.tab.mok with e | e | e <;> omega
    omega
  unfold setFind
  rw [show (100000 : Nat) = 99999 + 1 from rfl]
  show wpAny _ _ (setState a >>= _) _ _ _
  refine wpAny_bind (wpAny_setState_of ho hd R.fits ?_)
  dsimp only
  refine wp_if_neg (by simp [byScan, Value.scannable]) ?_
  try refine wpAny_bind (wpAny_pure ?_)
  unfold setSearch
  refine wpAny_bind (R.seekF hx hu hF hK hB (fun hm i => ?_) (fun hm => ?_) 100000 0 none rfl (Nat.zero_le _) (by omega) fun i p hp hk => ?_)
  · exact wpAny_pure (q (some i) (by rw [decide_eq_true hm]; rfl))
  · exact wpAny_pure (q none (by rw [decide_eq_false hm]; rfl))
  · have il : i < t.place.toList.length := by
      rw [Array.length_toList, R.place]
      exact (List.getElem?_eq_some_iff.mp hp).1
    have hj := List.getElem?_eq_getElem il
    obtain ⟨c, hc, e⟩ := R.tab.before hK (i := i) (by rw [List.getElem?_map, hp, ← hk]; rfl) hj
    exact ⟨c, Nat.zero_le _, hc, by rw [hj, e]⟩
end
section
variable {X : Cx}
/-! ### set() -/
def rKs0 (P : Program) (w : World) : List V → Hp → VK → Prop := fun xs H Q => xs = [] ∧ ∀ p, H p = none → Q (.ref p) (upd H p (KsO P w p []))
theorem cr_ks0 : CallR X (.type "set") (rKs0 X.prog X.w) := by
  intro pn sg s H vxs uxs Qq I r1 hyp
  obtain ⟨rfl, q⟩ := hyp
  cases r1
  refine setR_new fun _ => ?_
  exact ⟨.ref _, _, I.laid (t' := _) (fun b u e => Heap.get?_push_of_some _ e) (Nat.le_refl _) (ksO_ok (ks_fresh (Heap.get?_push_size _ rfl))), rfl, q _ (I.hok.fresh (Nat.le_refl _))⟩
theorem ks_new {K : PySem.W.Frag} {P : Program} {w : World} {H : Hp} {p : Addr} : Ks K P w (upd H p (KsO P w p [])) p [] := ⟨upd_same, fun q hq => by cases hq⟩
/-! ### k in found -/
def rKsIn (K : PySem.W.Frag) (P : Program) (w : World) (f : Bool → Bool) : R2 := fun x y H Q => ∃ a d L k, x = .ref a ∧ y = .ref d ∧ Ks K P w H d L ∧ KyAt K H a k ∧ Q (.bl (f (decide (k ∈ L.map (·.2))))) H
theorem op_ksIn (hu : X.A.units + 20 < cLine) : OpR X (compareOp .In) (rKsIn X.K X.prog X.w id) := by
  intro pn s sg H vx vy ux uy Qq I r1 r2 hyp
  obtain ⟨a, d, L, k, rfl, rfl, hS, hk, q⟩ := hyp
  cases (show ux = Value.ref a from r1)
  cases (show uy = Value.ref d from r2)
  obtain ⟨es, ep, t, R⟩ := hS.of I
  obtain ⟨o, ho, hex, hd⟩ := R.at_
  have hT : s.TypeIs (.ref d) "set" := ⟨o, ho, hex.1⟩
  show wpAny _ _ (do return Value.bool (← contains (.ref d) (.ref a))) _ _ s
  refine wpAny_bind ?_
  unfold contains
  try with_reducible refine wpAny_holding ?_
  refine wpAny_bind (wpAny_specialOf hT F.slot_set_contains.lookup ?_)
  show wpAny _ _ (if (some (Value.builtin "set.__contains__") == some Value.none) = true then _ else _) _ _ s
  rw [if_neg (by rw [beq_builtin_none]; exact Bool.false_ne_true)]
  refine wpAny_bind (wpAny_callSpecialUnlessNone?_slot (name := Str.ofString "__contains__") hT F.slot_set_contains
    (wpAny_call_entry F.slot_set_contains hT entry_set_contains ?_ (F.args_set_contains_2 _ _)))
  unfold Builtin.«frozenset.__contains__» Builtin.Frozenset.oneOther
  simp only [List.isEmpty_nil, bind_assoc]
  unfold Builtin.Frozenset.addrOf Builtin.Frozenset.withSetAsKey setContains
  refine wpAny_bind (wpAny_pure ?_)
  try dsimp only
  refine wpAny_bind (wpAny_pure ?_)
  try dsimp only
  refine wpAny_bind (wpAny_tryCatch ?_)
  refine wpAny_holding ?_
  refine wpAny_bind ((kyKind X.prog X.w).pyHash (show X.A.units + 1 + 8 < cLine by omega) (hk.is I) ?_)
  have I1 : Inv X pn sg H { s with toks := s.toks + (kyKind X.prog X.w).draws k } := I.tok _
  obtain ⟨es1, ep1, t1, R1⟩ := hS.of I1
  refine wpAny_bind (KsR.there (s := { s with toks := s.toks + (kyKind X.prog X.w).draws k }) R1 (hk.is I1) (show X.A.units + 1 + 8 < cLine by omega) fun r hr => ?_)
  refine wpAny_pure ?_
  show wpAny _ _ (ret (Value.bool r.isSome)) _ _ _
  rw [hr]
  exact wpAny_pure ⟨_, rfl, wpAny_truthy_bool (wpAny_pure ⟨.bl _, H, I1, rfl, q⟩)⟩
/-! ### o.m(..) of things whose type is told otherwise -/
def TyEv (X : Cx) (T : String) (ty : V → Hp → Prop) : Prop := ∀ (pn : List (Addr × Obj)) (sg : L2.St) (H : Hp) (s : Shared) (x : V) (v : Value), Inv X pn sg H s → RelV x v → ty x H → s.TypeIs v T ∧ ∀ a, v = .ref a → ∃ ob, s.heap.get? a = some ob ∧ ob.dict = none
def tBT (ty : V → Hp → Prop) (r : V → List V → Hp → VK → Prop) (to : TE) (t : TA) : TE := fun sg H Q => to sg H fun x H1 => ty x H1 ∧ t sg H1 fun xs H2 => r x xs H2 Q
def tBT0 (ty : V → Hp → Prop) (r : V → List V → Hp → VK → Prop) (to : TE) : TE := fun sg H Q => to sg H fun x H1 => ty x H1 ∧ r x [] H1 Q
section
variable {o e : Expr} {es : List Expr} {to : TE} {t : TA} {name : Str} {apos cpos : Pos} {T id : String} {r : V → List V → Hp → VK → Prop} {ty : V → Hp → Prop}
theorem pe_bt0 (pa : PlainAttrs T) (slot : Slot T name id) (hty : typeOf (.builtin id) = pure (.type "method_descriptor")) (hm : MtR X id r) (ev : TyEv X T ty) (ho : PE X o to)
    (hbase : attributeBase o name X.env (eval o X.env) = eval o X.env := by rfl) (hline : (apos.endLine == cpos.line) = true := by rfl) : PE X (.Call (.Attribute o name apos) [] [] cpos) (tBT0 ty r to) := by
  refine ⟨fun pn s sg H Q I h => ?_⟩
  refine wpAny_Call_method0_late hbase hline (thn (ho.run pn s sg H _ I h) fun v s1 ⟨x, H1, I1, r1, tx, q1⟩ => ?_)
  obtain ⟨h1, h2⟩ := ev _ _ _ _ _ _ I1 r1 tx
  exact ⟨T, id, pa, slot, hty, h1, h2, Calls.callWith_builtin rfl (PySem.evalArgs_none (hm pn s1 sg H1 x [] v [] Q I1 r1 .nil q1))⟩
theorem pe_bt (pa : PlainAttrs T) (slot : Slot T name id) (hty : typeOf (.builtin id) = pure (.type "method_descriptor")) (hm : MtR X id r) (ev : TyEv X T ty) (ho : PE X o to) (ha : PA X (e :: es) t)
    (hbase : attributeBase o name X.env (eval o X.env) = eval o X.env := by rfl)
    (hfew : ((backTo cpos (starEach (e :: es) X.env)).all (fun x => !x.1) && (backToKw cpos (keywordEach [] X.env)).all (fun x => x.1.isSome) && decide ((e :: es).length + ([] : List Keyword).length + (if ([] : List Keyword).isEmpty then 0 else 1) < 30)) = true := by rfl)
    (hline : (apos.endLine == cpos.line) = true := by rfl) (hs : starEach (e :: es) X.env = (false, eval e X.env) :: starEach es X.env := by rfl) (hpl : (backTo cpos (starEach es X.env)).any (·.1) = false := by rfl) :
    PE X (.Call (.Attribute o name apos) (e :: es) [] cpos) (tBT ty r to t) := by
  refine ⟨fun pn s sg H Q I h => ?_⟩
  refine wpAny_Call_method_late hbase hfew hline rfl (thn (ho.run pn s sg H _ I h) fun v s1 ⟨x, H1, I1, r1, tx, q1⟩ => ?_)
  obtain ⟨h1, h2⟩ := ev _ _ _ _ _ _ I1 r1 tx
  refine ⟨T, id, pa, slot, hty, h1, h2, ?_⟩
  have hA := ha.run cpos pn s1 sg H1 _ I1 q1
  rw [hs] at hA ⊢
  refine Calls.callWith_builtin (by show (false || (backTo cpos (starEach es X.env)).any (·.1)) = false; rw [hpl] <;> rfl) (Calls.evalArgs_plain ?_)
  exact thn hA fun us s2 ⟨vs, H2, I2, r2, q2⟩ => hm pn s2 sg H2 x vs v us Q I2 r1 r2 q2
end
def isKs (K : PySem.W.Frag) (P : Program) (w : World) : V → Hp → Prop := fun x H => ∃ d L, x = .ref d ∧ Ks K P w H d L
def isNd (K : PySem.W.Frag) (P : Program) (w : World) : V → Hp → Prop := fun x H => ∃ d kvs, x = .ref d ∧ Nd K P w H d kvs
theorem ev_ks : TyEv X "set" (isKs X.K X.prog X.w) := by
  rintro pn sg H s x v I r ⟨d, L, rfl, hS⟩
  cases (show v = Value.ref d from r)
  obtain ⟨es, ep, t, R⟩ := hS.of I
  obtain ⟨o, ho, hex, _⟩ := R.at_
  refine ⟨⟨o, ho, hex.1⟩, fun a e => ?_⟩
  cases e
  exact ⟨o, ho, hex.2.1⟩
theorem ev_nd : TyEv X "dict" (isNd X.K X.prog X.w) := by
  rintro pn sg H s x v I r ⟨d, kvs, rfl, hN⟩
  cases (show v = Value.ref d from r)
  obtain ⟨xs, h1, h2⟩ := hN.ex
  obtain ⟨_, _, o, es, ep, g1, g2, _⟩ := Nd.of I h1 h2
  refine ⟨⟨o, g1, g2.1⟩, fun a e => ?_⟩
  cases e
  exact ⟨o, g1, g2.2.1⟩
/-! ### found.add(k) -/
def rKsAdd (K : PySem.W.Frag) (P : Program) (w : World) : V → List V → Hp → VK → Prop := fun x xs H Q => ∃ d L a k, x = .ref d ∧ xs = [.ref a] ∧ Ks K P w H d L ∧ KyAt K H a k ∧ L.length < 63 ∧
  ∀ H' L', (∀ b, b ≠ d → H' b = H b) → Ks K P w H' d L' → (k ∈ L.map (·.2) → L' = L) → (k ∉ L.map (·.2) → L'.Perm ((a, k) :: L)) → Q .non H'
theorem mt_ksAdd (hu : X.A.units + 20 < cLine) : MtR X "set.add" (rKsAdd X.K X.prog X.w) := by
  intro pn s sg H x xs v us Q I rx rxs hyp
  obtain ⟨d, L, a, k, rfl, rfl, hS, hk, few, q⟩ := hyp
  cases (show v = Value.ref d from rx)
  obtain ⟨u, rfl, r2⟩ := vals1 rxs
  cases (show u = Value.ref a from r2)
  exact ks_add I (by omega) hS hk few fun s' H' L' hb hS' m1 m2 I' => ⟨.non, H', I', rfl, q H' L' hb hS' m1 m2⟩
/-! ### d.pop(k, x) -/
theorem getN_none {K : PySem.W.Frag} {H : Hp} {kvs : List (Ky × V)} {xs : List (Ky × Addr × Value)} (r : Paired (fun p q => p.1 = q.1 ∧ KyAt K H q.2.1 p.1 ∧ RelV p.2 q.2.2) kvs xs) {k : Ky} : (atKey xs k = none → getN kvs k = none) ∧ ∀ p, atKey xs k = some p → ∃ v, getN kvs k = some v ∧ RelV v p.2 := by
  induction r with
  | nil => exact ⟨fun _ => rfl, fun p e => by cases e⟩
  | @cons p q ps qs h t ih =>
    obtain ⟨h1, h2, h3⟩ := h
    unfold getN
    by_cases z : p.1 = k
    · have z' : q.1 = k := h1.symm.trans z
      have e : atKey (q :: qs) k = some q.2 := by simp [atKey, List.find?_cons, z']
      rw [if_pos z, e]
      exact ⟨fun y => by (cases y), fun p' y => by (cases y; exact ⟨_, rfl, h3⟩)⟩
    · have z' : ¬ q.1 = k := fun y => z (h1.trans y)
      have e : atKey (q :: qs) k = atKey qs k := by simp [atKey, List.find?_cons, z']
      rw [if_neg z, e]
      exact ih
def dropN (kvs : List (Ky × V)) (k : Ky) : List (Ky × V) := kvs.filter fun p => decide (p.1 ≠ k)
theorem nd_drop {K : PySem.W.Frag} {H : Hp} {kvs : List (Ky × V)} {xs : List (Ky × Addr × Value)} (r : Paired (fun p q => p.1 = q.1 ∧ KyAt K H q.2.1 p.1 ∧ RelV p.2 q.2.2) kvs xs) (k : Ky) : Paired (fun p q => p.1 = q.1 ∧ KyAt K H q.2.1 p.1 ∧ RelV p.2 q.2.2) (dropN kvs k) (DT.dropH xs k) := by
  unfold dropN DT.dropH
  induction r with
  | nil => exact .nil
  | @cons p q ps qs h t ih =>
    by_cases z : p.1 = k
    · rw [List.filter_cons_of_neg (by simp [z]), List.filter_cons_of_neg (by simp [← h.1, z])]
      exact ih
    · rw [List.filter_cons_of_pos (by simp [z]), List.filter_cons_of_pos (by simp [← h.1, z])]
      exact .cons h ih
def rPopN (K : PySem.W.Frag) (P : Program) (w : World) : V → List V → Hp → VK → Prop := fun x xs H Q => ∃ d kvs a k y, x = .ref d ∧ xs = [.ref a, y] ∧ Nd K P w H d kvs ∧ KyAt K H a k ∧ (getN kvs k = none → Q y H) ∧
  ∀ v, getN kvs k = some v → ∀ H', (∀ b, b ≠ d → H' b = H b) → Nd K P w H' d (dropN kvs k) → Q v H'
theorem mt_popN (hu : X.A.units + 20 < cLine) : MtR X "dict.pop" (rPopN X.K X.prog X.w) := by
  intro pn s sg H x xs v us Q I rx rxs hyp
  obtain ⟨d, kvs, a, k, y, rfl, rfl, hN, hk, q1, q2⟩ := hyp
  cases (show v = Value.ref d from rx)
  obtain ⟨u1, u2, rfl, r1, r2⟩ := vals2 rxs
  cases (show u1 = Value.ref a from r1)
  obtain ⟨xs, h1, h2⟩ := hN.ex
  obtain ⟨hz, hd, hm⟩ := Nd.of I h1 h2
  have all := getN_none h2 (k := k)
  refine call_meetsIn PySem.F.slot_dict_pop hm.typeIs PySem.F.entry_dict_pop (PySem.F.args_dict_pop_3 _ _ _) (DT.meetsPop (knd := kyKind X.prog X.w) (k := k) u2 hd)
    ⟨xs, (show X.A.units + 1 + 8 < cLine by omega), hk.is I, hm, hz, fun hn tk => ?_, fun p hp h' tk dd hs => ?_⟩
  · show EP X pn sg Q u2 _
    exact ⟨y, H, I.tok tk, r2, q1 (all.1 hn)⟩
  · obtain ⟨z, e1, e2⟩ := all.2 p hp
    have e9 : ∃ z, h'.get? d = some z := let ⟨z, _, _, hq, _⟩ := dd; ⟨z, hq⟩
    have mu : Mut (H d) := by
      rw [h1]
      exact True.intro
    have hz2 : (DT.dropH xs k).length ≤ sizeLine := Nat.le_trans (List.length_filter_le _ _) hz
    have up : TupS H (upd H d (NdO X.prog X.w d (DT.dropH xs k))) := fun b o e t => by
      have nb : b ≠ d := by
        rintro rfl
        rw [h1] at e
        cases e
        rcases t with ⟨ys, t⟩ | ⟨y1, y2, t⟩ <;> cases t
      rw [upd_ne nb]
      exact e
    have I2 : Inv X pn sg (upd H d (NdO X.prog X.w d (DT.dropH xs k))) { s with heap := h', toks := tk } := d_write I mu hs e9 (ndO_ok hz2 hd dd)
    show EP X pn sg Q p.2 _
    exact ⟨z, _, I2, e2, q2 z e1 _ (fun b hb => upd_ne hb) ⟨_, upd_same, Paired.mapP (nd_drop h2 k) fun p x z => ⟨z.1, z.2.1.tupS up, z.2.2⟩⟩⟩
/-! ### data < data -/
def rLtA (K : PySem.W.Frag) : R2 := fun x y H Q => ∃ d e, Da K H x d ∧ Da K H y e ∧ PySem.W.alike d e = true ∧ d ≠ .none ∧ d.depth ≤ 60 ∧ Q (.bl (PySem.W.dataLt d e)) H
theorem op_ltA (hu : X.A.units + 64 < cLine) : OpR X (compareOp .Lt) (rLtA X.K) := by
  intro pn s sg H vx vy ux uy Qq I r1 r2 hyp
  obtain ⟨d, e, h1, h2, al, nn, dp, q⟩ := hyp
  obtain ⟨as, q1⟩ := Da.reads I d _ _ h1 r1
  obtain ⟨bs, q2⟩ := Da.reads I e _ _ h2 r2
  exact PySem.W.lt_data q1 q2 al nn (by have := Nat.min_le_left d.depth e.depth; omega) ⟨.bl _, H, I, rfl, q⟩
end
end Jv
/-! for k, v in d.items(): keys (name, domain, folder, alone) -/
namespace Jv
open PySem PySem.Spec PyProof.Rows L2
abbrev NdPair (kvs : List (Ky × V)) (xs : List (Ky × Addr × Value)) : Prop := Paired (fun (p : Ky × V) (q : Ky × Addr × Value) => p.1 = q.1 ∧ RelV p.2 q.2.2) kvs xs
theorem ndPair_of {K : PySem.W.Frag} {H : Hp} {kvs : List (Ky × V)} {xs : List (Ky × Addr × Value)} (r : Paired (fun p q => p.1 = q.1 ∧ KyAt K H q.2.1 p.1 ∧ RelV p.2 q.2.2) kvs xs) : NdPair kvs xs := Paired.mapP r fun _ _ z => ⟨z.1, z.2.2⟩
theorem pairedGet {α β : Type} {R : α → β → Prop} {xs : List α} {ys : List β} (h : Paired R xs ys) : ∀ {i : Nat} {x : α}, xs[i]? = some x → ∃ y, ys[i]? = some y ∧ R x y := by
  induction h with
  | nil => exact fun e => by simp at e
  | @cons p q ps qs r t ih =>
    intro i x e
    cases i with
    | zero =>
      simp at e
      subst e
      exact ⟨q, rfl, r⟩
    | succ i => simpa using ih (i := i) (by simpa using e)
/-- the pairs of the dict at d while it stands locked: the key's own tuple, and the value, in a new tuple -/
def Jtn (P : Program) (w : World) (d : Addr) (o : Obj) (kvs : List (Ky × V)) (xs : List (Ky × Addr × Value)) : It :=
  ⟨fun i H => H d = some (.frz o (NdO P w d xs)) ∧ i < kvs.length, fun i H x H' => ∃ T k v q, kvs[i]? = some (k, v) ∧ xs[i]? = some q ∧ x = .ref T ∧ H T = none ∧ H' = upd H T (.tup [.ref q.2.1, v]), fun i H => H d = some (.frz o (NdO P w d xs)) ∧ kvs.length ≤ i⟩
section
variable {X : Cx} {pn : List (Addr × Obj)} {sg : L2.St} {H : Hp} {s : Shared} {d : Addr} {o : Obj} {kvs : List (Ky × V)} {xs : List (Ky × Addr × Value)}
theorem frzN (I : Inv X pn sg H s) (h : H d = some (.frz o (NdO X.prog X.w d xs))) : (d == sysModules) = false ∧ ∃ es ep, DT.Raw s.heap d es ep ∧ s.heap.get? d = some o ∧ o.data = .dict es ep ∧ es.size = xs.length ∧ ∀ (i : Nat) q, xs[i]? = some q → ∃ e, es[i]? = some e ∧ e.key = .ref q.2.1 ∧ e.val = q.2.2 := by
  obtain ⟨h0, ⟨hz, hd, o', es, ep, g1, g2, g3, g4, g5⟩, _, _⟩ := (show ObjOk X.prog X.w H s.heap d (.frz o (NdO X.prog X.w d xs)) from I.hok d _ h)
  rw [h0] at g1
  cases g1
  refine ⟨hd, es, ep, ⟨o, h0, g2, g3⟩, h0, g3, ?_, fun i q e => ?_⟩
  · rw [← Array.length_toList, g4, List.length_map]
  · refine ⟨entryOfKey (kyKind X.prog X.w) q, ?_, rfl, rfl⟩
    rw [← Array.getElem?_toList, g4, List.getElem?_map, e]
    rfl
end
theorem raw_eq {h : Heap} {d : Addr} {o : Obj} {es es' : Array DictEntry} {ep ep' : Nat} (h1 : o.data = .dict es ep) (h2 : o.data = .dict es' ep') : es' = es ∧ ep' = ep := by
  rw [h1] at h2
  cases h2
  exact ⟨rfl, rfl⟩
theorem turn_jtn {P : Program} {w : World} {K : PySem.W.Frag} {d : Addr} {o : Obj} {es : Array DictEntry} {ep : Nat} {kvs : List (Ky × V)} {xs : List (Ky × Addr × Value)} {elts : List Expr} {kk : Nat} {tpos : Pos} (it : Addr) (hod : o.data = .dict es ep) (pr : NdPair kvs xs) :
    Turn P w K (.Tuple elts kk tpos) (Jtn P w d o kvs xs) [it] it (fun i h => ∃ ok ov, IsItemIter h it d i kvs.length ep ok ov) where
  mem := by simp
  obj := fun i h st b hb => by
    have e : b = it := by simpa using hb
    subst e
    obtain ⟨ok, ov, e⟩ := st
    exact ⟨_, e, fun v z => nomatch z⟩
  keep := fun i h h' st k => let ⟨ok, ov, e⟩ := st; ⟨ok, ov, k it (by simp) _ e⟩
  item := by
    intro X hP hw hK hc i pins s σ H E I hf st hg
    subst hP hw hK
    obtain ⟨hd, hi⟩ := hg
    obtain ⟨hs, es', ep', raw, ho, hdt, hsz, get⟩ := frzN I hd
    obtain ⟨rfl, rfl⟩ := raw_eq (h := s.heap) (d := d) hod hdt
    have hl := Paired.length pr
    obtain ⟨⟨k, v⟩, hkv⟩ : ∃ p, kvs[i]? = some p := ⟨kvs[i], List.getElem?_eq_getElem hi⟩
    obtain ⟨q, eq, _, rq⟩ := pairedGet pr hkv
    obtain ⟨e, ee, ek, ev⟩ := get i q eq
    obtain ⟨ok, ov, he⟩ := st
    have hn : kvs.length = es'.size := by omega
    rw [hn] at he
    have hie : i < es'.size := by omega
    obtain rfl : es'[i] = e := by
      rw [Array.getElem?_eq_getElem hie] at ee
      exact Option.some.inj ee
    have hlt : it < s.heap.objs.size := Heap.lt_size he
    refine DT.nextI he raw hie fun h' hO hT hz hk => ?_
    refine ⟨_, rfl, wpAny_letOwnedTupleGo_items (s := { s with heap := h' }) hO fun h'' he' sb => ?_⟩
    have hT2 : h''.get? s.heap.objs.size = some { cls := .type "tuple", data := .seq #[.ref q.2.1, q.2.2] } := by
      rw [← ek, ← ev]
      exact (sb.2 _ (Nat.ne_of_gt hlt)).trans hT
    have new : ObjOk X.prog X.w (upd H s.heap.objs.size (.tup [.ref q.2.1, v])) h'' s.heap.objs.size (.tup [.ref q.2.1, v]) :=
      ⟨by show 2 ≤ sizeLine; decide, [.ref q.2.1, q.2.2], .cons rfl (.cons rq .nil), ⟨_, hT2, rfl, _, rfl⟩⟩
    have I1 : Inv X pins σ (upd H s.heap.objs.size (.tup [.ref q.2.1, v])) { s with heap := h'' } :=
      I.turnedNew (t' := s.toks) (ch := [it]) (fun b ob hb e => (sb.2 b (by simpa using hb)).trans (hk b ob (by simpa using hb) e)) hf (Nat.le_refl _) new
    refine ⟨.ref s.heap.objs.size, _, I1, rfl, ⟨_, k, v, q, hkv, eq, rfl, I.hok.fresh (Nat.le_refl _), rfl⟩, ⟨es'[i].key, es'[i].val, ?_⟩, fun b hb => ?_⟩
    · rw [hn]
      exact he'
    · have e : b = it := by simpa using hb
      rw [e, upd_ne (Nat.ne_of_lt hlt)]
      exact (hf it (by simp)).1
  done := by
    intro X hP hw hK hc i pins s σ H E I hf st hg
    subst hP hw hK
    obtain ⟨hd, hi⟩ := hg
    obtain ⟨f0, f1, f2, f3, f4, f5⟩ := hf it (by simp)
    obtain ⟨hs, es', ep', raw, ho, hdt, hsz, get⟩ := frzN I hd
    obtain ⟨rfl, rfl⟩ := raw_eq (h := s.heap) (d := d) hod hdt
    have hl := Paired.length pr
    obtain ⟨ok, ov, he⟩ := st
    have hn : kvs.length = es'.size := by omega
    rw [hn] at he
    exact DT.endI (I.ok.hd hc) he raw (by omega) fun h' eb => ⟨rfl, I.turned (t' := s.toks) (fun b ob hb e => eb b ob hb e) f0 f1 f3 f4 f5⟩
  self := fun A i s Q E st h => let ⟨_, _, e⟩ := st; PySem.W.kcp_self e h
/-- the dict is locked ahead of it -/
def iJtn (P : Program) (w : World) (td : TE) : TI := fun σ H R => td σ H fun x H1 => ∃ d o kvs xs, x = .ref d ∧ H1 d = some (.frz o (NdO P w d xs)) ∧ NdPair kvs xs ∧ R (Jtn P w d o kvs xs) H1
theorem pi_jtn {X : Cx} {e : Expr} {td : TE} {apos cpos : Pos} {elts : List Expr} {kk : Nat} {tpos : Pos} (he : PE X e td) (hbase : attributeBase e "items" X.env (eval e X.env) = eval e X.env := by rfl) (hline : (apos.endLine == cpos.line) = true := by rfl) :
    PI X (.Tuple elts kk tpos) (.Call (.Attribute e "items" apos) [] [] cpos) (iJtn X.prog X.w td) := by
  refine ⟨fun pins s σ H R I h => ?_⟩
  refine wpAny_Call_method (T := "dict") (id := "dict.items") hbase rfl hline F.plainAttrs_dict F.slot_dict_items F.type_dict_items (thn (he.run pins s σ H _ I h) fun u s1 ⟨x, H1, I1, rx, d, o, kvs, xs, ex, hd, pr, q⟩ => ?_)
  subst ex
  obtain rfl : u = Value.ref d := rx
  obtain ⟨hs, es, ep, raw, ho, hdt, hsz, get⟩ := frzN I1 hd
  have hl := Paired.length pr
  refine ⟨raw.typeIs, fun b e => ?_, ?_⟩
  · cases e
    obtain ⟨ob, g1, g2, _⟩ := raw
    exact ⟨ob, g1, g2.2.1⟩
  have I2 : Inv X pins σ H1 { s1 with heap := s1.heap.push { cls := .type "dict_items", data := .fields #[.ref d] } } := I1.kept (t' := s1.toks) fun b ob q => Heap.get?_push_of_some _ q
  have fin : wpAny (model X.prog X.w) X.A (pyIter (.ref s1.heap.objs.size)) (PIE X pins σ (.Tuple elts kk tpos) R) X.xe { s1 with heap := s1.heap.push { cls := .type "dict_items", data := .fields #[.ref d] } } := by
    refine DT.iterI (s := { s1 with heap := s1.heap.push { cls := .type "dict_items", data := .fields #[.ref d] } }) (d := d) (es := es) (ep := ep) ⟨_, Heap.get?_push_size _ rfl, rfl, rfl⟩ (raw.push _) (pi_one (tk := s1.toks) I2 _ (turn_jtn _ hdt pr) ⟨.none, .none, ?_⟩ q)
    rw [show kvs.length = es.size by omega]
    exact Heap.get?_push_size _ rfl
  show wpAny _ _ (callWith cpos (.builtin "dict.items") [.ref d] [] []) _ X.xe s1
  exact method_meetsIn F.slot_dict_items F.entry_dict_items rfl (PySem.evalArgs_none ⟨rfl, raw.typeIs, F.args_dict_items_1 _, _, DT.meetsItems (es := es) (ep := ep) hs, ⟨raw, fin⟩⟩)
def YNd (kvs : List (Ky × V)) (xs : List (Ky × Addr × Value)) : Nat → Hp → V → Hp → Prop := fun i H x H' => ∃ T k v q, kvs[i]? = some (k, v) ∧ xs[i]? = some q ∧ x = .ref T ∧ H T = none ∧ H' = upd H T (.tup [.ref q.2.1, v])
theorem walk_jtn {P : Program} {w : World} {d : Addr} {o : Obj} {kvs : List (Ky × V)} {xs : List (Ky × Addr × Value)} : Walk (Jtn P w d o kvs xs) kvs.length (fun H => H d = some (.frz o (NdO P w d xs))) (YNd kvs xs) :=
  ⟨fun _ _ hi q => ⟨q, hi⟩, fun _ q => ⟨q, Nat.le_refl _⟩, fun _ _ _ _ _ _ y => y⟩
end Jv
/-! dicts of nested keys: len, in, clear(), the keys one by one, list(items()) -/
namespace Jv
open PySem PySem.Spec PyProof.Rows L2
abbrev NdPr (K : PySem.W.Frag) (H : Hp) (kvs : List (Ky × V)) (xs : List (Ky × Addr × Value)) : Prop := Paired (fun p q => p.1 = q.1 ∧ KyAt K H q.2.1 p.1 ∧ RelV p.2 q.2.2) kvs xs
theorem atKey_mem {K : PySem.W.Frag} {H : Hp} {kvs : List (Ky × V)} {xs : List (Ky × Addr × Value)} (r : NdPr K H kvs xs) (k : Ky) : (atKey xs k).isSome = decide (k ∈ kvs.map (·.1)) := by
  induction r with
  | nil => rfl
  | @cons p q ps qs h t ih =>
    obtain ⟨h1, _, _⟩ := h
    by_cases z : p.1 = k
    · have z' : q.1 = k := h1.symm.trans z
      have e : atKey (q :: qs) k = some q.2 := by simp [atKey, List.find?_cons, z']
      rw [e]
      simp [z]
    · have z' : ¬ q.1 = k := fun y => z (h1.trans y)
      have e : atKey (q :: qs) k = atKey qs k := by simp [atKey, List.find?_cons, z']
      have z2 : ¬ k = p.1 := fun y => z y.symm
      rw [e, ih]
      simp [z2]
/-- a dict that is locked (it is gone through) -/
structure NdF (K : PySem.W.Frag) (P : Program) (w : World) (H : Hp) (d : Addr) (o : Obj) (kvs : List (Ky × V)) : Prop where
  ex : ∃ xs, H d = some (.frz o (NdO P w d xs)) ∧ NdPr K H kvs xs
theorem NdF.same {K : PySem.W.Frag} {P : Program} {w : World} {H H' : Hp} {d : Addr} {o : Obj} {kvs : List (Ky × V)} (s : Same H H') (h : NdF K P w H d o kvs) : NdF K P w H' d o kvs := by
  obtain ⟨xs, h1, h2⟩ := h.ex
  exact ⟨xs, s _ _ h1, Paired.mapP h2 fun p q z => ⟨z.1, z.2.1.same s, z.2.2⟩⟩
section
variable {X : Cx} {pn : List (Addr × Obj)} {sg : L2.St} {H : Hp} {s : Shared} {d : Addr} {o : Obj} {kvs : List (Ky × V)} {xs : List (Ky × Addr × Value)}
theorem keys_is (I : Inv X pn sg H s) (h2 : NdPr X.K H kvs xs) : ∀ x ∈ xs, (kyKind X.prog X.w).is s.heap x.1 x.2.1 := by
  induction h2 with
  | nil => intro x hx; cases hx
  | @cons p q ps qs hq t ih =>
    intro x hx
    rcases List.mem_cons.mp hx with e | hx
    · subst e
      exact KyAt.is I (by rw [← hq.1]; exact hq.2.1)
    · exact ih x hx
theorem frz_of (I : Inv X pn sg H s) (h : H d = some (.frz o (NdO X.prog X.w d xs))) (h2 : NdPr X.K H kvs xs) : xs.length ≤ sizeLine ∧ (d == sysModules) = false ∧ s.heap.DictOfH (kyKind X.prog X.w) d xs := by
  obtain ⟨h0, ⟨hz, hd, o', es, ep, g1, g2, g3, g4, g5⟩, _, _⟩ := (show ObjOk X.prog X.w H s.heap d (.frz o (NdO X.prog X.w d xs)) from I.hok d _ h)
  exact ⟨hz, hd, o', es, ep, g1, g2, g3, g4, keys_is I h2, g5⟩
end
section
variable {X : Cx}
def rLenN (K : PySem.W.Frag) (P : Program) (w : World) : List V → Hp → VK → Prop := fun vs H Q => ∃ d kvs, vs = [.ref d] ∧ Nd K P w H d kvs ∧ Q (.int (kvs.length : Nat)) H
theorem cr_lenN : CallR X (.builtin "len") (rLenN X.K X.prog X.w) := by
  intro pn s sg H vs us Q I r hyp
  obtain ⟨d, kvs, rfl, hN, q⟩ := hyp
  obtain ⟨u, rfl, r1⟩ := vals1 r
  cases (show u = Value.ref d from r1)
  obtain ⟨xs, h1, h2⟩ := hN.ex
  obtain ⟨hz, hd, hm⟩ := Nd.of I h1 h2
  have hl := Paired.length h2
  refine call_len_dictH hd hm (by rw [sizeLine_eq] at hz; omega) ?_
  rw [← hl]
  exact ⟨.int ((kvs.length : Nat) : Int), H, I.tok _, ⟨_, rfl⟩, q⟩
def rInN (K : PySem.W.Frag) (P : Program) (w : World) : R2 := fun x y H Q => ∃ a d kvs k, x = .ref a ∧ y = .ref d ∧ Nd K P w H d kvs ∧ KyAt K H a k ∧ Q (.bl (decide (k ∈ kvs.map (·.1)))) H
theorem op_inN (hu : X.A.units + 20 < cLine) : OpR X (compareOp .In) (rInN X.K X.prog X.w) := by
  intro pn s sg H vx vy ux uy Q I r1 r2 hyp
  obtain ⟨a, d, kvs, k, rfl, rfl, hN, hk, q⟩ := hyp
  cases (show ux = Value.ref a from r1)
  cases (show uy = Value.ref d from r2)
  obtain ⟨xs, h1, h2⟩ := hN.ex
  obtain ⟨hz, hd, hm⟩ := Nd.of I h1 h2
  show wpAny _ _ (do return Value.bool (← contains (.ref d) (.ref a))) _ _ s
  refine wpAny_bind (wpAny_contains_heap (knd := kyKind X.prog X.w) (k := k) (show X.A.units + 1 + 8 < cLine by omega) (hk.is I) hd hm ?_)
  rw [atKey_mem h2]
  exact wpAny_pure ⟨.bl _, H, I.tok _, rfl, q⟩
def rNgetF (K : PySem.W.Frag) (P : Program) (w : World) : R2 := fun x y H Q => ∃ d o a kvs k v, x = .ref d ∧ y = .ref a ∧ NdF K P w H d o kvs ∧ KyAt K H a k ∧ getN kvs k = some v ∧ Q v H
theorem ix_ndF (hu : X.A.units + 9 < cLine) : IxR X (rNgetF X.K X.prog X.w) := by
  intro vl sl pn s sg H x y v u Q I r1 r2 hyp hs
  obtain ⟨d, o, a, kvs, k, z, rfl, rfl, hN, hk, e, q⟩ := hyp
  cases (show v = Value.ref d from r1)
  cases (show u = Value.ref a from r2)
  obtain ⟨xs, h1, h2⟩ := hN.ex
  obtain ⟨hz, hd, hm⟩ := frz_of I h1 h2
  obtain ⟨p, e1, e2⟩ := nd_get h2 e
  exact subscriptTail_builtinR (x := p.2) hm.typeIs slot_dict_getitem.lookup (wpAny_getItem_heap (knd := kyKind X.prog X.w) (Q := fun r s' => r = p.2 ∧ EP X pn sg Q r s') (show X.A.in1.units + 8 < cLine by show X.A.units + 1 + 8 < cLine; omega) (hk.is I) hm e1 ⟨rfl, z, H, I.tok _, e2, q⟩) hs
def rClearN (K : PySem.W.Frag) (P : Program) (w : World) : V → List V → Hp → VK → Prop := fun x vs H Q => ∃ d kvs, x = .ref d ∧ vs = [] ∧ Nd K P w H d kvs ∧ ∀ H', (∀ b, b ≠ d → H' b = H b) → Nd K P w H' d [] → Q .non H'
theorem mt_clearN : MtR X "dict.clear" (rClearN X.K X.prog X.w) := by
  intro pn s sg H x vs v us Q I rx rv hyp
  obtain ⟨d, kvs, rfl, rfl, hN, q⟩ := hyp
  obtain rfl : v = Value.ref d := rx
  have hus := rv.zero
  subst hus
  obtain ⟨xs, h1, h2⟩ := hN.ex
  obtain ⟨hz, hd, hm⟩ := Nd.of I h1 h2
  obtain ⟨o, es, ep, g1, g2, g3, g4, g5, g6⟩ := id hm
  have sz : es.size = xs.length := by rw [← Array.length_toList, g4, List.length_map]
  refine call_meetsIn PySem.F.slot_dict_clear hm.typeIs PySem.F.entry_dict_clear (PySem.F.args_dict_clear_1 _) (meets_dict_clear_raw d) ⟨es, ep, ⟨o, g1, g2, g3⟩, by rw [sz]; exact hz, fun h' hr hs => ?_⟩
  obtain ⟨o2, k1, k2, k3⟩ := hr
  have mu : Mut (H d) := by
    rw [h1]
    exact True.intro
  have dd : h'.DictOfH (kyKind X.prog X.w) d [] := ⟨o2, #[], ep + 1, k1, k2, k3, rfl, (fun x hx => absurd hx (List.not_mem_nil)), List.nodup_nil⟩
  have I2 : Inv X pn sg (upd H d (NdO X.prog X.w d [])) { s with heap := h', toks := s.toks } := d_write I mu hs ⟨o2, k1⟩ (ndO_ok (Nat.zero_le _) hd dd)
  show EP X pn sg Q .none _
  exact ⟨.non, _, I2, rfl, q _ (fun b hb => upd_ne hb) ⟨[], upd_same, .nil⟩⟩
end
/-! ### the keys, one by one -/
def Jkn (P : Program) (w : World) (d : Addr) (o : Obj) (kvs : List (Ky × V)) (xs : List (Ky × Addr × Value)) : It :=
  ⟨fun i H => H d = some (.frz o (NdO P w d xs)) ∧ i < kvs.length, fun i H x H' => H' = H ∧ ∃ k v q, kvs[i]? = some (k, v) ∧ xs[i]? = some q ∧ x = .ref q.2.1, fun i H => H d = some (.frz o (NdO P w d xs)) ∧ kvs.length ≤ i⟩
theorem turn_jkn {P : Program} {w : World} {K : PySem.W.Frag} {tg : Expr} {d : Addr} {o : Obj} {es : Array DictEntry} {ep : Nat} {kvs : List (Ky × V)} {xs : List (Ky × Addr × Value)} (it : Addr) (hod : o.data = .dict es ep) (pr : NdPair kvs xs) : Turn P w K tg (Jkn P w d o kvs xs) [it] it (fun i h => h.IsKeyIter it d i kvs.length ep) where
  mem := by simp
  obj := fun i h st b hb => by
    have e : b = it := by simpa using hb
    subst e
    obtain ⟨oi, e, c, dd⟩ := st
    exact ⟨oi, e, fun v z => by rw [dd] at z; cases z⟩
  keep := fun i h h' st k => st.at fun oi e => k it (by simp) oi e
  item := by
    intro X hP hw hK hc i pins s σ H E I hf st hg
    subst hP hw hK
    obtain ⟨hd, hi⟩ := hg
    obtain ⟨f0, f1, f2, f3, f4, f5⟩ := hf it (by simp)
    obtain ⟨hs, es', ep', raw, ho, hdt, hsz, get⟩ := frzN I hd
    obtain ⟨rfl, rfl⟩ := raw_eq (h := s.heap) (d := d) hod hdt
    have hl := Paired.length pr
    obtain ⟨⟨k, v⟩, hkv⟩ : ∃ p, kvs[i]? = some p := ⟨kvs[i], List.getElem?_eq_getElem hi⟩
    obtain ⟨q, eq, _, rq⟩ := pairedGet pr hkv
    obtain ⟨en, hen, hkey, ev⟩ := get i q eq
    refine next_key_item st ho hdt (by omega) hen fun h' st' sb => ?_
    have I1 : Inv X pins σ H { s with heap := h' } := I.turned (t' := s.toks) (fun b ob hb e => (sb.2 b hb).trans e) f0 f1 f3 f4 f5
    obtain ⟨oi, e, c, dd⟩ := id st'
    exact ⟨en.key, rfl, go_of (s := { s with heap := h' }) e c dd (by decide) ⟨.ref q.2.1, H, I1, hkey, ⟨rfl, k, v, q, hkv, eq, rfl⟩, st', fun b hb => (hf b hb).1⟩⟩
  done := by
    intro X hP hw hK hc i pins s σ H E I hf st hg
    subst hP hw hK
    obtain ⟨hd, hi⟩ := hg
    obtain ⟨f0, f1, f2, f3, f4, f5⟩ := hf it (by simp)
    obtain ⟨hs, es', ep', raw, ho, hdt, hsz, get⟩ := frzN I hd
    obtain ⟨rfl, rfl⟩ := raw_eq (h := s.heap) (d := d) hod hdt
    have hl := Paired.length pr
    exact next_key_end (I.ok.hd hc) st ho hdt (by omega) hi fun h' eb => ⟨rfl, I.turned (t' := s.toks) (fun b ob hb e => eb b ob hb e) f0 f1 f3 f4 f5⟩
  self := fun A i s Q E st h => by
    refine wpAny_pyIter_slot st.typeIs F.slot_dict_keyiterator_iter (wpAny_call_entry F.slot_dict_keyiterator_iter st.typeIs F.entry_dict_keyiterator_iter ?_ (F.args_dict_keyiterator_iter_1 _))
    show wpAny _ _ (ret (.ref it)) _ _ s
    exact wpAny_pure ⟨_, rfl, "dict_keyiterator", _, st.typeIs, F.slot_dict_keyiterator_next.lookup, h⟩
def iJkn (P : Program) (w : World) (td : TE) : TI := fun σ H R => td σ H fun x H1 => ∃ d o kvs xs, x = .ref d ∧ H1 d = some (.frz o (NdO P w d xs)) ∧ NdPair kvs xs ∧ R (Jkn P w d o kvs xs) H1
theorem pi_jkn {X : Cx} {tg e : Expr} {td : TE} (he : PE X e td) : PI X tg e (iJkn X.prog X.w td) := by
  refine ⟨fun pins s σ H R I h => ?_⟩
  refine thn (he.run pins s σ H _ I h) fun u s1 ⟨x, H1, I1, rx, d, o, kvs, xs, ex, hd, pr, q⟩ => ?_
  subst ex
  obtain rfl : u = Value.ref d := rx
  obtain ⟨hs, es, ep, raw, ho, hdt, hsz, get⟩ := frzN I1 hd
  have hl := Paired.length pr
  obtain ⟨o', ho', hx, hdt'⟩ := id raw
  refine iter_keys hs ho' hx hdt' (pi_one (tk := s1.toks) I1 _ (turn_jkn _ hdt pr) ?_ q)
  rw [show kvs.length = es.size by omega]
  exact ⟨_, Heap.get?_push_size _ rfl, rfl, rfl⟩
theorem walk_jkn {P : Program} {w : World} {d : Addr} {o : Obj} {kvs : List (Ky × V)} {xs : List (Ky × Addr × Value)} : Walk (Jkn P w d o kvs xs) kvs.length (fun H => H d = some (.frz o (NdO P w d xs))) (fun i H x H' => H' = H ∧ ∃ k v q, kvs[i]? = some (k, v) ∧ xs[i]? = some q ∧ x = .ref q.2.1) :=
  ⟨fun i H hi q => ⟨q, hi⟩, fun H q => ⟨q, Nat.le_refl _⟩, fun i H x H' _ _ y => y⟩
end Jv
/-! list(d.items()) of a dict with nested keys -/
namespace Jv
open PySem PySem.Spec PyProof.Rows L2 L2.DX
theorem paired_by {α β : Type} {R : α → β → Prop} : ∀ {xs : List α} {ys : List β}, xs.length = ys.length → (∀ (i : Nat) x y, xs[i]? = some x → ys[i]? = some y → R x y) → Paired R xs ys
  | [], [], _, _ => .nil
  | [], _ :: _, h, _ => by simp at h
  | _ :: _, [], h, _ => by simp at h
  | x :: xs, y :: ys, h, g => .cons (g 0 x y rfl rfl) (paired_by (by simpa using h) fun i a b ha hb => g (i + 1) a b (by simpa using ha) (by simpa using hb))
def rItemsN (K : PySem.W.Frag) (P : Program) (w : World) : V → List V → Hp → VK → Prop := fun x xs H Q => ∃ d kvs, x = .ref d ∧ xs = [] ∧ Nd K P w H d kvs ∧ ∀ p, H p = none → Q (.ref p) (upd H p (itemsO p d))
section
variable {X : Cx}
theorem mt_itemsN : MtR X "dict.items" (rItemsN X.K X.prog X.w) := by
  intro pins s σ H x xs v us Q I rx rxs h
  obtain ⟨d, kvs, rfl, rfl, hN, q⟩ := h
  cases rx
  cases rxs
  obtain ⟨xs', h1, h2⟩ := hN.ex
  obtain ⟨hz, hd, o, es, ep, g1, g2, g3, _⟩ := Nd.of I h1 h2
  refine DT.callItems (es := es) (ep := ep) hd ⟨o, g1, g2, g3⟩ ?_
  have hf : H s.heap.objs.size = none := I.hok.fresh (Nat.le_refl _)
  exact ⟨.ref s.heap.objs.size, upd H s.heap.objs.size (itemsO s.heap.objs.size d), I.laid (t' := s.toks) (fun b u e => Heap.get?_push_of_some _ e) (Nat.le_refl _) (itemsO_ok (Heap.get?_push_size _ rfl)), rfl, q _ hf⟩
/-- a pair (key, value) at y -/
def KvAt (K : PySem.W.Frag) (H : Hp) (y : V) (kv : Ky × V) : Prop := ∃ T a, y = .ref T ∧ H T = some (.tup [.ref a, kv.2]) ∧ KyAt K H a kv.1
def rListIt (K : PySem.W.Frag) (P : Program) (w : World) : List V → Hp → VK → Prop := fun vs H Q => ∃ p d kvs, vs = [.ref p] ∧ H p = some (itemsO p d) ∧ Nd K P w H d kvs ∧ ∀ H' L ys, Same H H' → H L = none → H' L = some (.lst ys) → Paired (KvAt K H') ys kvs → Q (.ref L) H'
theorem cr_listIt (hc : X.calm = true) : CallR X (.type "list") (rListIt X.K X.prog X.w) := by
  intro pins s σ H vs us Q I r hyp
  obtain ⟨p, d, kvs, rfl, hp, hN, q⟩ := hyp
  obtain ⟨u, rfl, r1⟩ := vals1 r
  cases (show u = Value.ref p from r1)
  obtain ⟨xs, h1, h2⟩ := hN.ex
  obtain ⟨hz, hd, o, es, ep, g1, g2, g3, g4, g5⟩ := Nd.of I h1 h2
  obtain ⟨hv, _, _⟩ := (show ObjOk X.prog X.w H s.heap p (itemsO p d) from I.hok p _ hp)
  have sz : es.size = xs.length := by rw [← Array.length_toList, g4, List.length_map]
  have nl := Paired.length h2
  refine PySem.W.dil_call (es := es) (ep := ep) (I.ok.hd hc) hv ⟨o, g1, g2, g3⟩ (by rw [sz]; exact hz) fun h' tk acc c as hk hL hl hG hacc => ?_
  have nL : H s.heap.objs.size = none := I.hok.fresh (Nat.le_refl _)
  have eacc : acc = (as.map Value.ref).toArray := by rw [← hacc]
  have I1 : Inv X pins σ (upd H s.heap.objs.size (.lst (as.map V.ref))) { s with heap := h', toks := tk } :=
    I.laid (t' := tk) (fun b u e => hk b u e) (Nat.le_refl _) (show ObjOk X.prog X.w _ h' _ (.lst (as.map V.ref)) from ⟨by rw [List.length_map, hl, sz]; exact hz, as.map Value.ref, c, vals_refs as, by rw [hL, eacc] <;> rfl⟩)
  have s1 : Same H (upd H s.heap.objs.size (.lst (as.map V.ref))) := fun b x e => by rw [upd_ne (ne_of_none e nL)]; exact e
  obtain ⟨H2, I2, k2, t2⟩ := takeT (P := fun a vs => ∃ (j : Nat) (k : Ky) (v : V) (q : Ky × Addr × Value), as[j]? = some a ∧ kvs[j]? = some (k, v) ∧ xs[j]? = some q ∧ vs = [V.ref q.2.1, v]) I as _ I1 (hG.rise.imp fun h => Nat.ne_of_lt h) fun a ha => by
    obtain ⟨j, hj⟩ := List.mem_iff_getElem?.mp ha
    obtain ⟨hje, ge⟩ := hG.pairs j a hj
    have lo := hG.above a ha
    have ex : xs[j]? = some (xs[j]'(by omega)) := List.getElem?_eq_getElem (by omega)
    have ek : kvs[j]? = some (kvs[j]'(by omega)) := List.getElem?_eq_getElem (by omega)
    obtain ⟨q', eq', rr⟩ := pairedGet h2 ek
    rw [ex] at eq'
    cases eq'
    have ee : es[j]? = some (entryOfKey (kyKind X.prog X.w) (xs[j]'(by omega))) := by
      rw [← Array.getElem?_toList, g4, List.getElem?_map, ex]
      rfl
    rw [Array.getElem?_eq_getElem hje] at ee
    have e9 := Option.some.inj ee
    refine ⟨Nat.le_of_lt lo, ?_, _, ⟨j, _, _, _, hj, ek, ex, rfl⟩, fun H2 => ?_⟩
    · rw [upd_ne (Nat.ne_of_gt lo)]
      exact I.hok.fresh (Nat.le_of_lt lo)
    · rw [e9] at ge
      exact ⟨by show 2 ≤ sizeLine; decide, [.ref (xs[j]'(by omega)).2.1, (xs[j]'(by omega)).2.2], .cons rfl (.cons rr.2.2 .nil), ⟨_, ge, rfl, _, rfl⟩⟩
  have s12 : Same H H2 := s1.trans k2
  refine ⟨.ref s.heap.objs.size, H2, I2, rfl, q H2 _ (as.map V.ref) s12 nL (k2 _ _ upd_same) (paired_by (by rw [List.length_map]; omega) fun i y kv hy hkv => ?_)⟩
  rw [List.getElem?_map] at hy
  cases ea : as[i]? with
  | none =>
    rw [ea] at hy
    cases hy
  | some a =>
    rw [ea] at hy
    cases hy
    obtain ⟨vs, ⟨j, k, v, q', ej, ek, ex, rfl⟩, hT⟩ := t2 a (List.mem_of_getElem? ea)
    have hij : i = j := (List.getElem?_inj (List.getElem?_eq_some_iff.mp ea).1 (hG.rise.imp fun h => Nat.ne_of_lt h)).mp (ea.trans ej.symm)
    subst hij
    rw [hkv] at ek
    cases ek
    obtain ⟨q2, eq2, rr⟩ := pairedGet h2 hkv
    rw [ex] at eq2
    cases eq2
    exact ⟨a, q'.2.1, rfl, hT, rr.2.1.same s12⟩
end
end Jv
/-! data without lists and dicts; sorted(l, key=f), f a def of the text -/
namespace Jv
open PySem PySem.Spec PyProof.Rows L2
mutual
def flat : PyData → Bool
  | .list _ => false
  | .dict _ => false
  | .tuple ds => flatAll ds
  | .none => true
  | .bool _ => true
  | .int _ => true
  | .str _ => true
def flatAll : List PyData → Bool
  | [] => true
  | d :: ds => flat d && flatAll ds
end
mutual
theorem Da.tupS {K : PySem.W.Frag} {H H' : Hp} (s : TupS H H') : ∀ (d : PyData) (v : V), flat d = true → Da K H v d → Da K H' v d
  | .none, _, _, h => by cases h; exact .non
  | .bool b, _, _, h => by cases h; exact .bl b
  | .int i, _, _, h => by cases h; exact .int i
  | .str x, _, _, h => by cases h with | str x hx => exact .str x hx
  | .list ds, _, f, _ => absurd f (by simp [flat])
  | .dict kvs, _, f, _ => absurd f (by simp [flat])
  | .tuple ds, _, f, h => by
    cases h with
    | tup h1 h2 hz => exact .tup (s.sq h1) (DaAll.tupS s ds _ (by simpa [flat] using f) h2) hz
theorem DaAll.tupS {K : PySem.W.Frag} {H H' : Hp} (s : TupS H H') : ∀ (ds : List PyData) (vs : List V), flatAll ds = true → DaAll K H vs ds → DaAll K H' vs ds
  | [], _, _, h => by cases h; exact .nil
  | d :: ds, _, f, h => by
    rw [flatAll, Bool.and_eq_true] at f
    cases h with
    | cons h1 h2 => exact .cons (Da.tupS s d _ f.1 h1) (DaAll.tupS s ds _ f.2 h2)
end
theorem flatAll_of {ds : List PyData} (h : ∀ d ∈ ds, flat d = true) : flatAll ds = true := by
  induction ds with
  | nil => rfl
  | cons d ds ih => rw [flatAll, h d List.mem_cons_self, ih fun e he => h e (List.mem_cons_of_mem _ he)]; rfl
theorem flat_strs (xs : List Str) : flat (.tuple (xs.map .str)) = true := by
  rw [flat]
  refine flatAll_of fun d hd => ?_
  obtain ⟨x, _, rfl⟩ := List.mem_map.mp hd
  rfl
theorem tupS_mut {H : Hp} {a : Addr} {o u : HO} (h : H a = some o) (nt : ∀ xs, o ≠ .tup xs) (nf : ∀ u v, o ≠ .frz u v) : TupS H (upd H a u) := fun b x e t => by
  have n : b ≠ a := by
    rintro rfl
    rw [h] at e
    cases e
    rcases t with ⟨ys, t⟩ | ⟨y1, y2, t⟩
    · exact nt _ t
    · exact nf _ _ t
  rw [upd_ne n]
  exact e
section
variable {prog : Program} {w : World} {A : Around} {E : Value → Shared → Prop} {s : Shared} {a kS : Addr} {b : Bool} {vs : List Value} {keys : Array Value} {e e1 : Nat} {P : PySem.Fin → Shared → Prop}
/-- the heap behind a sort with keys -/
def skHeap (h : Heap) (kS a : Addr) (out : List Value) : Heap := (h.update kS (Obj.mapSeq fun _ => (#[] : Array Value))).update a (Obj.mapSeq fun _ => out.toArray)
theorem sk_tail {st : SortSt} {out : List Value} (nk : s.heap.get? kS = some (seqObj "list" keys e)) (na : s.heap.get? a = some (seqObj "list" #[] e1)) (hka : kS ≠ a)
    (hsz : keys.size ≤ sizeLine) (hz : out.length ≤ sizeLine) (hfl : failedOf st = none) (ho : (if b = true then ((arrOf st).map (·.2)).reverse else (arrOf st).map (·.2)) = out.toArray)
    (h : ∀ tk, P (.done (.ret .none)) { s with heap := skHeap s.heap kS a out, toks := tk }) : wpAny (model prog w) A (ksk_tail a b e1 (.ref kS) st) P E s := by
  have s1 := Heap.SameBut.update s.heap kS (Obj.mapSeq fun _ => (#[] : Array Value))
  have na1 : (s.heap.update kS (Obj.mapSeq fun _ => (#[] : Array Value))).get? a = some (seqObj "list" #[] e1) := (s1.2 a hka.symm).trans na
  have hz2 : out.toArray.size ≤ sizeLine + 1 := by
    rw [List.size_toArray]
    exact Nat.le_succ_of_le hz
  unfold ksk_tail
  try dsimp only
  rw [ho]
  refine wpAny_bind (listUpdate_at nk rfl ?_ hsz (Nat.zero_le _))
  refine wpAny_bind (wpAny_letGo ?_)
  refine wpAny_bind (seqEpoch_at na1 rfl ?_)
  refine wpAny_bind (listUpdate_at na1 rfl ?_ (Nat.zero_le _) hz2)
  rw [hfl]
  simp only [bne_self_eq_false, Bool.false_eq_true, if_false]
  exact wpAny_pure (h _)
theorem sk_end {κ : PyProof.Rows.KeyKind} (nk : s.heap.get? kS = some (seqObj "list" keys e)) (na : s.heap.get? a = some (seqObj "list" #[] e1)) (hka : kS ≠ a)
    (S : PySem.W.SortsAt prog w A s κ keys.toList) (hsz : keys.size = vs.length) (hZ : vs.length ≤ sizeLine)
    (h : ∀ tk, P (.done (.ret .none)) { s with heap := skHeap s.heap kS a (PySem.W.sortVals κ b keys.toList vs), toks := tk }) : wpAny (model prog w) A (ksk_end a b vs.toArray e1 (.ref kS) keys) P E s := by
  obtain ⟨kd, h1, h2⟩ := S.kind
  have hkl : keys.toList.length = vs.length := by
    rw [Array.length_toList]
    exact hsz
  have hK : PyProof.Rows.KeysOf κ (keys.zip vs.toArray) := PySem.W.keysOf_zip S.keys
  have hol : (PySem.W.sortVals κ b keys.toList vs).length = vs.length := PySem.W.sortVals_length b hkl
  have start : (if b = true then (keys.zip vs.toArray).reverse else keys.zip vs.toArray).Perm (keys.zip vs.toArray) := by
    cases b with
    | false => exact Array.Perm.refl _
    | true => exact Array.perm_iff_toList_perm.mpr (by rw [if_pos rfl, Array.toList_reverse]; exact List.reverse_perm _)
  have hss : (if b = true then (keys.zip vs.toArray).reverse else keys.zip vs.toArray).size = vs.length := by rw [start.size_eq, Array.size_zip, hsz, List.size_toArray, Nat.min_self]
  have fin : ∀ st' : SortSt, (arrOf st').Perm (if b = true then (keys.zip vs.toArray).reverse else keys.zip vs.toArray) → SortedToK κ (arrOf st') (if b = true then (keys.zip vs.toArray).reverse else keys.zip vs.toArray).size →
      Stable κ (arrOf st') (if b = true then (keys.zip vs.toArray).reverse else keys.zip vs.toArray) → (if b = true then ((arrOf st').map (·.2)).reverse else (arrOf st').map (·.2)) = (PySem.W.sortVals κ b keys.toList vs).toArray := by
    intro st' hp hs ht
    have q := congrArg List.toArray (PySem.W.sort_out (rev := b) (keys := keys) (items := vs.toArray) (xs := arrOf st') (κ := κ) hK hp hs ht)
    rw [Array.toArray_toList] at q
    exact q
  have more : ∀ t : Sem PySem.Fin, wpAny (model prog w) A t P E s → wpAny (model prog w) A (if b = true then (do let _ ← rule "list.sort.reverse"; t) else t) P E s := by
    intro t ht
    split
    · exact wpAny_bind (wpAny_rule ht)
    · exact ht
  unfold ksk_end
  try dsimp only
  refine more _ ?_
  by_cases hl2 : vs.toArray.size < 2
  · rw [if_pos hl2, if_pos hl2]
    refine wpAny_bind (wpAny_pure ?_)
    rw [StateT.run_pure]
    refine wpAny_bind (wpAny_pure ?_)
    try dsimp only
    refine sk_tail (st := SortSt.mk' general' (if b = true then (keys.zip vs.toArray).reverse else keys.zip vs.toArray) #[] 7 none) nk na hka (by rw [hsz]; exact hZ) (by rw [hol]; exact hZ) rfl (fin _ (Array.Perm.refl _) ?_ (Stable.refl _)) h
    intro i j hij hj
    rw [hss] at hj
    rw [List.size_toArray] at hl2
    have : i = j := by omega
    subst this
    exact KeyOrd.kle_refl _
  · rw [if_neg hl2, if_neg hl2]
    rw [List.size_toArray] at hl2
    refine wpAny_bind (h2 (by omega) _ ?_)
    refine wpAny_bind (wpAny_mono (H.wpS_sortRunsSt (κ := κ) (kd := kd) (a₀ := if b = true then (keys.zip vs.toArray).reverse else keys.zip vs.toArray)
      (st := SortSt.mk' kd (if b = true then (keys.zip vs.toArray).reverse else keys.zip vs.toArray) #[] 7 none)
      (Q := fun _ st' => failedOf st' = none ∧ (if b = true then ((arrOf st').map (·.2)).reverse else (arrOf st').map (·.2)) = (PySem.W.sortVals κ b keys.toList vs).toArray)
      h1 (hK.perm start) ⟨Array.Perm.refl _, rfl, rfl⟩ rfl (Stable.refl _) (by rw [hss]; omega) fun st' a1 a2 a3 a4 => ⟨a2, fin st' a1 a3 a4⟩) ?_ fun _ _ q => q)
    rintro ⟨⟨⟩, st'⟩ s' ⟨rfl, hf, ho⟩
    try dsimp only at ho ⊢
    exact sk_tail nk na hka (by rw [hsz]; exact hZ) (by rw [hol]; exact hZ) hf ho h
end
/-! ### over what is tracked -/
/-- the list that is being sorted: empty, and not touched -/
def skA (a : Addr) (e : Nat) : HO := .ext fun h => h.get? a = some (seqObj "list" #[] e)
theorem skA_ok {P : Program} {w : World} {H : Hp} {h : Heap} {a : Addr} {e : Nat} (q : h.get? a = some (seqObj "list" #[] e)) : ObjOk P w H h a (skA a e) := ⟨q, ⟨_, q⟩, fun h1 h2 x k => k _ x⟩
section
variable {X : Cx} {pn : List (Addr × Obj)} {sg : L2.St}
theorem run_in2 {H : Hp} {s : Shared} {Q : VK} {Er : Value → Shared → Prop} {u : Value} {v : V} {x : Str} {k : Nat} {sp : Sp} {f : Addr} {fd : FuncData} (F : FnOk X.prog X.w X.K X.mg X.base CX0 k f fd [x] sp) (hr : Room (k + 2) X.A) (hb : Binds X.K fd [x] [])
    (I : Inv X pn sg H s) (r : RelV v u) (h : sp [v] H Q E0) : wpAny (model X.prog X.w) X.A.in1.in1 (call (.ref f) [u]) (EP X pn sg Q) Er s := by
  have r2 : Vals [v] [u] := .cons r .nil
  refine wpAny_call (codeAny_mono (F.run X.A.in1.in1 X.stack s H ⟨[u], []⟩ [u] [v] Q E0 hr.in1.in1 I.env0.in1.in1 (hb s [u] I.kIn rfl) r2 h) fun r s' hq => ?_)
  match r, hq with
  | .error _, q => exact q.elim
  | .ok (.ret u), q => exact I.after q
  | .ok .next, q => exact q.elim
  | .ok .brk, q => exact q.elim
  | .ok .cont, q => exact q.elim
theorem lstAt {H : Hp} {s : Shared} {a : Addr} {xs : List V} (I : Inv X pn sg H s) (h : H a = some (.lst xs)) : xs.length ≤ sizeLine ∧ ∃ its n, Vals xs its ∧ s.heap.get? a = some (seqObj "list" its.toArray n) := I.hok a _ h
theorem reads_each {β : Type} {key : β → PyData} {H : Hp} {s : Shared} (I : Inv X pn sg H s) : ∀ {ks : List V} {bs : List β} {us : List Value}, Paired (fun v b => Da X.K H v (key b)) ks bs → Vals ks us → PySem.W.EachIs (fun u d => ∃ as, Reads s.heap u d as) us (bs.map key)
  | _, _, _, .nil, .nil => .nil
  | _, _, _, .cons h t, .cons r1 r2 => .cons (Da.reads I _ _ _ h r1) (reads_each I t r2)
theorem each_it {β : Type} {It : V → β → Prop} : ∀ {xs : List V} {bs : List β} {us : List Value}, Paired It xs bs → Vals xs us → PySem.W.EachIs (fun u b => ∃ v, RelV v u ∧ It v b) us bs
  | _, _, _, .nil, .nil => .nil
  | _, _, _, .cons h t, .cons r1 r2 => .cons ⟨_, r1, h⟩ (each_it t r2)
theorem it_each {β : Type} {It : V → β → Prop} : ∀ {us : List Value} {bs : List β}, PySem.W.EachIs (fun u b => ∃ v, RelV v u ∧ It v b) us bs → ∃ xs, Vals xs us ∧ Paired It xs bs
  | _, _, .nil => ⟨[], .nil, .nil⟩
  | _, _, .cons ⟨v, r, h⟩ t => by
    obtain ⟨xs, a, b⟩ := it_each t
    exact ⟨v :: xs, .cons r a, .cons h b⟩
theorem Paired.take {α β : Type} {R : α → β → Prop} {xs : List α} {ys : List β} (h : Paired R xs ys) : ∀ n : Nat, Paired R (xs.take n) (ys.take n) := by
  induction h with
  | nil => intro n; simp only [List.take_nil]; exact .nil
  | cons r t ih =>
    intro n
    cases n with
    | zero => exact .nil
    | succ n => exact .cons r (ih n)
/-- sorted(l, key=f) -/
def rSortK {β : Type} (K : PySem.W.Frag) (f : Addr) (It : Hp → V → β → Prop) (key : β → PyData) : List V → List V → Hp → VK → Prop := fun vs zs H Q => ∃ (l : Addr) (xs : List V) (bs : List β), vs = [.ref l] ∧ zs = [.ref f] ∧ SqL K H l xs ∧ Paired (It H) xs bs ∧ bs.length ≤ 1000 ∧
  ∀ H' p ys, Same H H' → H p = none → H' p = some (.lst ys) → Paired (It H') ys (bs.mergeSort (PySem.W.dataLe false key)) → Q (.ref p) H'
theorem cr_sortK {β : Type} {It : Hp → V → β → Prop} {key : β → PyData} {x : Str} {k : Nat} {sp : Sp} {f : Addr} {fd : FuncData} (F : FnOk X.prog X.w X.K X.mg X.base CX0 k f fd [x] sp) (hr : Room (k + 2) X.A) (hb : Binds X.K fd [x] [])
    (mono : ∀ H H' v b, TupS H H' → It H v b → It H' v b) (hsp : ∀ (H : Hp) (v : V) (b : β) (Q : VK), It H v b → (∀ H' u, Same H H' → Da X.K H' u (key b) → Q u H') → sp [v] H Q E0)
    (al : ∀ b b', PySem.W.alike (key b) (key b') = true) (tup : ∀ b, ∃ x r, key b = .tuple (x :: r)) (fl : ∀ b, flat (key b) = true) (dp : ∀ b, (key b).depth ≤ 60) : CallRK X (.builtin "sorted") ["key"] (rSortK X.K f It key) := by
  intro pn s sg H vs zs us ws Q I rv rz hyp
  obtain ⟨l, xs, bs, rfl, rfl, hL, pr, hz, q⟩ := hyp
  obtain ⟨u, rfl, r1⟩ := vals1 rv
  cases (show u = Value.ref l from r1)
  obtain ⟨u2, rfl, r2⟩ := vals1 rz
  cases (show u2 = Value.ref f from r2)
  obtain ⟨its, rits, pl, _⟩ := I.list hL
  have nx := Paired.length pr
  have ni : its.length = xs.length := rits.length.symm
  have hZ : its.length ≤ sizeLine := by
    rw [ni, nx]
    exact Nat.le_trans hz (by decide)
  refine PySem.W.sorted_of_sort pl.isList hZ (ksk_s1 _ _) (fun z => ksk_l1 _ _) fun E' => ?_
  show wpAny _ _ (Builtin.«list.sort» ⟨[.ref (s.heap.objs.size + 1)], [(Str.ofString "key", .ref f)]⟩) _ _ _
  rw [ksk_t1]
  -- the copy
  have nA : H (s.heap.objs.size + 1) = none := I.hok.fresh (Nat.le_succ _)
  have I0 : Inv X pn sg (upd H (s.heap.objs.size + 1) (.lst xs)) { s with heap := PySem.W.copyHeap s.heap its, toks := s.toks } := I.laid (fun b o z => PySem.W.copyHeap_old z) (Nat.le_succ _) ⟨by rw [nx]; exact Nat.le_trans hz (by decide), its, 0, rits, PySem.W.copyHeap_at _ _⟩
  have ho := PySem.W.copyHeap_at s.heap its
  generalize PySem.W.copyHeap s.heap its = h0 at I0 ho ⊢
  have sA : Same H (upd H (s.heap.objs.size + 1) (.lst xs)) := fun b o z => by rw [upd_ne (ne_of_none z nA)]; exact z
  generalize s.heap.objs.size + 1 = a at nA I0 ho sA ⊢
  obtain ⟨e1, ho1⟩ : ∃ e1, (h0.update a (Obj.mapSeq fun _ => (#[] : Array Value))).get? a = some (seqObj "list" #[] e1) := ⟨_, get?_update_seq ho fun _ => #[]⟩
  have I1 : Inv X pn sg (upd (upd H a (.lst xs)) a (skA a e1)) { s with heap := h0.update a (Obj.mapSeq fun _ => (#[] : Array Value)), toks := s.toks } := d_write (s := { s with heap := h0, toks := s.toks }) (ob := skA a e1) I0 (by rw [upd_same]; exact True.intro) (Heap.SameBut.update h0 a (Obj.mapSeq fun _ => (#[] : Array Value))) ⟨_, ho1⟩ (skA_ok ho1)
  have sB : Same H (upd (upd H a (.lst xs)) a (skA a e1)) := fun b o z => by rw [upd_ne (ne_of_none z nA)]; exact sA b o z
  have aB : upd (upd H a (.lst xs)) a (skA a e1) a = some (skA a e1) := upd_same
  generalize upd (upd H a (.lst xs)) a (skA a e1) = H1 at I1 sB aB
  unfold ksk_tree
  refine wpAny_bind (listItems_at ho rfl ?_)
  refine wpAny_bind (listUpdate_at ho rfl ?_ (by rw [List.size_toArray]; exact hZ) (Nat.zero_le _))
  refine wpAny_bind (seqEpoch_at ho1 rfl ?_)
  generalize h0.update a (Obj.mapSeq fun _ => (#[] : Array Value)) = h1 at I1 ho1 ⊢
  refine wpAny_bind (wpAny_newTuple ?_ (by show its.length ≤ _; exact hZ))
  refine wpAny_bind (wpAny_newList ?_ (Nat.zero_le _))
  refine wpAny_holding ?_
  have I2 : Inv X pn sg H1 { s with heap := h1.push (seqObj "tuple" its.toArray 0), toks := s.toks } := I1.kept (t' := s.toks) fun b o z => Heap.get?_push_of_some _ z
  have kAt : ((h1.push (seqObj "tuple" its.toArray 0)).push (seqObj "list" #[] 0)).get? (h1.push (seqObj "tuple" its.toArray 0)).objs.size = some (seqObj "list" #[] 0) := Heap.get?_push_size _ rfl
  have nK : H1 (h1.push (seqObj "tuple" its.toArray 0)).objs.size = none := I2.hok.fresh (Nat.le_refl _)
  have I3 : Inv X pn sg (upd H1 (h1.push (seqObj "tuple" its.toArray 0)).objs.size (.lst [])) { s with heap := (h1.push (seqObj "tuple" its.toArray 0)).push (seqObj "list" #[] 0), toks := s.toks } := I2.laid (fun b o z => Heap.get?_push_of_some _ z) (Nat.le_refl _) ⟨Nat.zero_le _, [], 0, .nil, kAt⟩
  show wpAny _ _ (ksk_rest a (.ref f) false its.toArray e1 (.ref (h1.push (seqObj "tuple" its.toArray 0)).objs.size)) _ _ { s with heap := (h1.push (seqObj "tuple" its.toArray 0)).push (seqObj "list" #[] 0) }
  generalize (h1.push (seqObj "tuple" its.toArray 0)).objs.size = kS at nK I3 ⊢
  generalize (h1.push (seqObj "tuple" its.toArray 0)).push (seqObj "list" #[] 0) = h2 at I3 ⊢
  have hka : kS ≠ a := by
    rintro rfl
    rw [aB] at nK
    cases nK
  unfold ksk_rest
  refine wpAny_bind (wpAny_rule ?_)
  first
    | rw [List.forIn_toArray]
    | (rw [← Array.forIn_toList]; simp only [List.toList_toArray])
    | rw [← Array.forIn_toList]
  have tS : ∀ {H2 : Hp} {ks : List V} {u : HO}, H2 kS = some (.lst ks) → TupS H2 (upd H2 kS u) := fun h => tupS_mut h (fun _ z => nomatch z) fun _ _ z => nomatch z
  refine wpAny_bind (ksk_fold (fun i s' => ∃ H' ks, Inv X pn sg H' s' ∧ (∀ b o, b ≠ kS → H1 b = some o → H' b = some o) ∧ H' kS = some (.lst ks) ∧ Paired (fun v b => Da X.K H' v (key b)) ks (bs.take i)) its 0 _
    ⟨_, [], I3, fun b o hb z => by rw [upd_ne hb]; exact z, upd_same, .nil⟩ ?step ?done)
  case step =>
    rintro j y s' hy ⟨H', ks, I', keep, atK, pk⟩
    simp only [Nat.zero_add] at pk ⊢
    have hj : j < its.length := (List.getElem?_eq_some_iff.mp hy).1
    have ex : xs[j]? = some (xs[j]'(by omega)) := List.getElem?_eq_getElem (by omega)
    obtain ⟨u', hu, ru⟩ := rits.get ex
    rw [hy] at hu
    cases hu
    obtain ⟨b, eb, hb'⟩ := pairedGet pr ex
    have up : TupS H H' := fun c o z t => keep c o (by rintro rfl; rw [sB _ _ z] at nK; cases nK) (sB _ _ z)
    have it' := mono _ _ _ _ up hb'
    refine wpAny_bind (wpAny_attempt (wpAny_mono (run_in2 (Q := fun v H2 => Same H' H2 ∧ Da X.K H2 v (key b)) F hr hb I' ru (hsp _ _ b _ it' fun H2 v s2 hd => ⟨s2, hd⟩)) (fun uv s2 he => ?_) fun _ _ z => z))
    obtain ⟨v, H2, I2', rv', s2', hd⟩ := he
    try dsimp only
    have atK2 := s2' _ _ atK
    obtain ⟨zk, kits, n, rk, gk⟩ := lstAt I2' atK2
    have lk : ks.length = j := by
      have := Paired.length pk
      rw [List.length_take] at this
      omega
    obtain ⟨c2, hc2⟩ : ∃ c2, (s2.heap.update kS (Obj.mapSeq (·.push uv))).get? kS = some (seqObj "list" (kits.toArray.push uv) c2) := ⟨_, get?_update_seq gk (·.push uv)⟩
    have lk2 : kits.toArray.size = j := by rw [List.size_toArray, ← rk.length, lk]
    refine wpAny_bind (listUpdate_at gk rfl ?_ (by rw [lk2]; omega) (by show (kits.toArray.push uv).size ≤ _; rw [Array.size_push, lk2]; omega))
    have e9 : kits.toArray.push uv = (kits ++ [uv]).toArray := by simp
    rw [e9] at hc2
    refine wpAny_pure ⟨rfl, _, ks ++ [v], d_write (ob := .lst (ks ++ [v])) I2' (by rw [atK2]; exact True.intro) (Heap.SameBut.update s2.heap kS (Obj.mapSeq (·.push uv))) ⟨_, hc2⟩ ⟨by rw [List.length_append, lk]; show j + 1 ≤ _; omega, kits ++ [uv], c2, rk.append (.cons rv' .nil), hc2⟩, fun c o hc z => ?_, upd_same, ?_⟩
    · rw [upd_ne hc]
      exact s2' _ _ (keep c o hc z)
    · rw [List.take_add_one, eb]
      exact Paired.snoc (Paired.mapP pk fun z d hz => Da.tupS (tS atK2) _ _ (fl d) (Da.same s2' _ _ hz)) (Da.tupS (tS atK2) _ _ (fl b) hd)
  case done =>
    rintro s' ⟨H', ks, I', keep, atK, pk⟩
    rw [Nat.zero_add, List.take_of_length_le (by omega)] at pk
    obtain ⟨zk, kits, n, rk, gk⟩ := lstAt I' atK
    obtain ⟨ga', _, _⟩ := (show ObjOk X.prog X.w H' s'.heap a (skA a e1) from I'.hok a _ (keep a _ (Ne.symm hka) aB))
    have ga' : s'.heap.get? a = some (seqObj "list" #[] e1) := ga'
    try dsimp only
    refine wpAny_bind (listItems_at gk rfl ?_)
    have lk : kits.length = its.length := by
      rw [← rk.length, Paired.length pk]
      omega
    have hk' : PySem.W.EachIs (fun u d => ∃ as, Reads s'.heap u d as) kits (bs.map key) := reads_each I' pk rk
    have hal : PySem.W.AllAlike (bs.map key) := PySem.W.AllAlike.of al
    have hr' := hr.un
    have S : PySem.W.SortsAt X.prog X.w X.A.in1.in1 s' (PySem.W.dataKind s'.heap (bs.map key)) kits.toArray.toList := by
      rw [List.toList_toArray]
      exact PySem.W.SortsAt.data hk' hal (PySem.W.Sortable.tuples tup) fun d hd => by
        obtain ⟨b, _, rfl⟩ := List.mem_map.mp hd
        have := dp b
        show X.A.units + 1 + 1 + (key b).depth < cLine
        omega
    · refine sk_end gk ga' hka S (by rw [List.size_toArray, lk]) hZ fun tk => ⟨rfl, ?_⟩
      rw [List.toList_toArray]
      have ko : PySem.W.KeyedOut false (bs.map key) its (PySem.W.sortVals (PySem.W.dataKind s'.heap (bs.map key)) false kits its) := ⟨s'.heap, kits, hal, rfl, hk'⟩
      have ol : (PySem.W.sortVals (PySem.W.dataKind s'.heap (bs.map key)) false kits its).length = its.length := PySem.W.sortVals_length false lk
      generalize PySem.W.sortVals (PySem.W.dataKind s'.heap (bs.map key)) false kits its = out at ko ol
      have up : TupS H H' := fun c o z t => keep c o (by rintro rfl; rw [sB _ _ z] at nK; cases nK) (sB _ _ z)
      obtain ⟨ys, ry, py⟩ := it_each (PySem.W.keyedOut_each key ko (each_it (Paired.mapP pr fun v b h => mono _ _ _ _ up h) rits))
      have g1 := get?_update_seq gk fun _ => (#[] : Array Value)
      have I4 : Inv X pn sg (upd H' kS (.lst [])) { s' with heap := s'.heap.update kS (Obj.mapSeq fun _ => (#[] : Array Value)), toks := s'.toks } := d_write I' (by rw [atK]; exact True.intro) (Heap.SameBut.update s'.heap kS (Obj.mapSeq fun _ => (#[] : Array Value))) ⟨_, g1⟩ ⟨Nat.zero_le _, [], _, .nil, g1⟩
      have na1 : (s'.heap.update kS (Obj.mapSeq fun _ => (#[] : Array Value))).get? a = some (seqObj "list" #[] e1) := ((Heap.SameBut.update s'.heap kS (Obj.mapSeq fun _ => (#[] : Array Value))).2 a hka.symm).trans ga'
      have g2 := get?_update_seq na1 fun _ => out.toArray
      have atA : upd H' kS (.lst []) a = some (skA a e1) := by
        rw [upd_ne hka.symm]
        exact keep a _ (Ne.symm hka) aB
      have I5 : Inv X pn sg (upd (upd H' kS (.lst [])) a (.lst ys)) { s' with heap := skHeap s'.heap kS a out, toks := tk } := d_write (s := { s' with heap := s'.heap.update kS (Obj.mapSeq fun _ => (#[] : Array Value)), toks := s'.toks }) (ob := .lst ys) (t' := tk) I4 (by rw [atA]; exact True.intro) (Heap.SameBut.update (s'.heap.update kS (Obj.mapSeq fun _ => (#[] : Array Value))) a (Obj.mapSeq fun _ => out.toArray)) ⟨_, g2⟩ ⟨by rw [ry.length, ol]; exact hZ, out, _, ry, g2⟩
      refine ⟨.ref a, _, I5, rfl, q _ a ys (fun c o z => ?_) nA upd_same (Paired.mapP py fun v b h => mono _ _ _ _ ?_ h)⟩
      · rw [upd_ne (ne_of_none z nA), upd_ne (show c ≠ kS by rintro rfl; rw [sB _ _ z] at nK; cases nK)]
        exact keep c o (by rintro rfl; rw [sB _ _ z] at nK; cases nK) (sB _ _ z)
      · exact (tS atK).trans (tupS_mut atA (fun _ z => nomatch z) fun _ _ z => nomatch z)
end
end Jv
/-! jars as the document tells them -/
namespace Jv
open PySem PySem.Spec PyProof.Rows L2
/-- what is kept -/
structure Kp where
  key : Ky
  val : Str
  grd : Bool
  deriving DecidableEq
def Kp.py (k : Kp) : PyData := .tuple [k.key.py, .str k.val, .bool k.grd]
def jarPy (js : List Kp) : PyData := .tuple (js.map Kp.py)
/-- by what the kept ones ascend -/
def placePy (k : Ky) : PyData := .tuple [.str k.name, .int (-(k.fold.length : Int)), .tuple (k.fold.map .str)]
def jarSort (js : List Kp) : List Kp := js.mergeSort (PySem.W.dataLe false fun k => placePy k.key)
/-- the kept ones by age -/
abbrev Tab := List (Ky × Str × Bool)
def doW (t : Tab) (w : Ky × Option Str × Bool) : Tab := match w.2.1 with
  | none => t.filter fun p => decide (p.1 ≠ w.1)
  | some v => putE t w.1 (v, w.2.2)
def doWs (t : Tab) (ws : List (Ky × Option Str × Bool)) : Tab := ws.foldl doW t
def Tab.kp (p : Ky × Str × Bool) : Kp := ⟨p.1, p.2.1, p.2.2⟩
def kpTab (k : Kp) : Ky × Str × Bool := (k.key, k.val, k.grd)
def jarOfT (t : Tab) : List Kp := jarSort (t.map Tab.kp)
def jarAfterM (js : List Kp) (ws : List (Ky × Option Str × Bool)) : List Kp := jarOfT (doWs (js.foldl (fun t k => putE t k.key (k.val, k.grd)) []) ws)
def takenP (p : Pg) : List (Ky × Option Str × Bool) := takenL p.ad p.ws
def rowTab (s : List Pg) (t : Tab) (row : List Nat) : Tab := row.foldl (fun t n => match s[n]? with
  | some p => doWs t (takenP p)
  | none => t) t
def behindM (s : List Pg) (row : List Nat) : List Kp := jarOfT (rowTab s [] row)
def goesM (k : Kp) (a : Ad) : Bool := !(k.grd && !a.sec) && (decide (a.host = k.key.dom) || (!k.key.alone && within a.host k.key.dom)) && below a.path k.key.fold
def sentM (js : List Kp) (a : Ad) : List (Str × Str) := (js.filter fun k => goesM k a).map fun k => (k.key.name, k.val)
def sentPy (l : List (Str × Str)) : PyData := .tuple (l.map fun p => .tuple [.str p.1, .str p.2])
def readM (js : List Kp) (a : Ad) (n : Str) : Option Str := ((sentM js a).find? fun p => decide (p.1 = n)).map (·.2)
theorem jarSort_perm (js : List Kp) : (jarSort js).Perm js := List.mergeSort_perm _ _
theorem place_alike (a b : Ky) : PySem.W.alike (placePy a) (placePy b) = true := by
  unfold placePy
  simp [PySem.W.alike, PySem.W.alikeAll, alike_texts]
theorem place_flat (a : Ky) : flat (placePy a) = true := by
  show flatAll [.str a.name, .int (-(a.fold.length : Int)), .tuple (a.fold.map .str)] = true
  rw [flatAll, flatAll, flatAll, flat_strs]
  rfl
theorem place_depth (a : Ky) : (placePy a).depth ≤ 60 := by
  unfold placePy
  simp [PyData.depth, PyData.depthAll, pdepth_texts]
theorem ky_flat (a : Ky) : flat a.py = true := by
  show flatAll [.str a.name, .tuple (a.dom.map .str), .tuple (a.fold.map .str), .bool a.alone] = true
  rw [flatAll, flatAll, flatAll, flatAll, flat_strs, flat_strs]
  rfl
theorem kp_flat (k : Kp) : flat k.py = true := by
  show flatAll [k.key.py, .str k.val, .bool k.grd] = true
  rw [flatAll, flatAll, flatAll, ky_flat]
  rfl
theorem jar_flat (js : List Kp) : flat (jarPy js) = true := by
  show flatAll (js.map Kp.py) = true
  refine flatAll_of fun d hd => ?_
  obtain ⟨k, _, rfl⟩ := List.mem_map.mp hd
  exact kp_flat k
variable {K : PySem.W.Frag} {H : Hp} {v : V}
/-- a key by what is read of it, with bounds -/
structure Ky.Sz (k : Ky) : Prop where
  n : k.name.length ≤ 1000
  d : k.dom.length ≤ 1000 ∧ ∀ x ∈ k.dom, x.length ≤ 1000
  f : k.fold.length ≤ 1000 ∧ ∀ x ∈ k.fold, x.length ≤ 1000
theorem KyAt.da {a : Addr} {k : Ky} (h : KyAt K H a k) (z : k.Sz) : Da K H (.ref a) k.py := by
  obtain ⟨b, c, h1, h2, h3⟩ := h.ex
  exact .tup h1 (.cons (.str _ z.n) (.cons (.tup h2 (daStrs _ z.d.2) (by rw [List.length_map]; exact z.d.1)) (.cons (.tup h3 (daStrs _ z.f.2) (by rw [List.length_map]; exact z.f.1)) (.cons (.bl _) .nil)))) (by show 4 ≤ 1000; decide)
theorem daStr_len {x : Str} (h : Da K H v (.str x)) : x.length ≤ 1000 := by
  cases h with
  | str _ hx => exact hx
theorem daStrs_len : ∀ {xs : List Str} {vs : List V}, DaAll K H vs (xs.map .str) → ∀ x ∈ xs, x.length ≤ 1000
  | [], _, _ => fun x hx => by cases hx
  | y :: ys, _, h => fun x hx => by
    have h : DaAll K H _ (.str y :: ys.map .str) := h
    cases h with
    | cons h1 h2 =>
      rcases List.mem_cons.mp hx with rfl | hx
      · exact daStr_len h1
      · exact daStrs_len h2 x hx
theorem da_texts {xs : List Str} (h : Da K H v (.tuple (xs.map .str))) : ∃ b, v = .ref b ∧ SqT K H b (xs.map V.str) ∧ xs.length ≤ 1000 ∧ ∀ x ∈ xs, x.length ≤ 1000 := by
  cases h with
  | tup h1 h2 hz =>
    have l := daStrs_len h2
    have e := ofStrs h2
    subst e
    exact ⟨_, rfl, h1, by simpa using hz, l⟩
theorem da_ky {k : Ky} (h : Da K H v k.py) : ∃ a, v = .ref a ∧ KyAt K H a k ∧ k.Sz := by
  have h : Da K H v (.tuple [.str k.name, .tuple (k.dom.map .str), .tuple (k.fold.map .str), .bool k.alone]) := h
  cases h with
  | tup h1 h2 _ =>
    obtain ⟨x1, r1, rfl, p1, g1⟩ := da_cons h2
    obtain ⟨x2, r2, rfl, p2, g2⟩ := da_cons g1
    obtain ⟨x3, r3, rfl, p3, g3⟩ := da_cons g2
    obtain ⟨x4, r4, rfl, p4, g4⟩ := da_cons g3
    have e5 := da_nil g4
    subst e5
    have z1 := daStr_len p1
    have e1 := da_str p1
    subst e1
    obtain ⟨b, rfl, s2, z2⟩ := da_texts p2
    obtain ⟨c, rfl, s3, z3⟩ := da_texts p3
    have e4 := da_bl p4
    subst e4
    exact ⟨_, rfl, ⟨b, c, h1, s2, s3⟩, z1, z2, z3⟩
/-- a kept one at b -/
def KpAt (K : PySem.W.Frag) (H : Hp) (x : V) (k : Kp) : Prop := ∃ b a, x = .ref b ∧ SqT K H b [.ref a, .str k.val, .bl k.grd] ∧ KyAt K H a k.key ∧ k.key.Sz ∧ k.val.length ≤ 1000
theorem da_kp {k : Kp} (h : Da K H v k.py) : KpAt K H v k := by
  have h : Da K H v (.tuple [k.key.py, .str k.val, .bool k.grd]) := h
  cases h with
  | tup h1 h2 _ =>
    obtain ⟨x1, r1, rfl, p1, g1⟩ := da_cons h2
    obtain ⟨x2, r2, rfl, p2, g2⟩ := da_cons g1
    obtain ⟨x3, r3, rfl, p3, g3⟩ := da_cons g2
    have e5 := da_nil g3
    subst e5
    obtain ⟨a, rfl, ka, kz⟩ := da_ky p1
    have z2 := daStr_len p2
    have e2 := da_str p2
    subst e2
    have e3 := da_bl p3
    subst e3
    exact ⟨_, a, rfl, h1, ka, kz, z2⟩
theorem KpAt.da {k : Kp} (h : KpAt K H v k) : Da K H v k.py := by
  obtain ⟨b, a, rfl, h1, h2, h3, h4⟩ := h
  exact .tup h1 (.cons (h2.da h3) (.cons (.str _ h4) (.cons (.bl _) .nil))) (by show 3 ≤ 1000; decide)
theorem KpAt.tupS {H' : Hp} {k : Kp} (s : TupS H H') (h : KpAt K H v k) : KpAt K H' v k := by
  obtain ⟨b, a, e, h1, h2, h3⟩ := h
  exact ⟨b, a, e, s.sq h1, h2.tupS s, h3⟩
theorem kps_da : ∀ {xs : List V} {js : List Kp}, Paired (KpAt K H) xs js → DaAll K H xs (js.map Kp.py)
  | _, _, .nil => .nil
  | _, _, .cons h t => .cons h.da (kps_da t)
theorem da_kps : ∀ {js : List Kp} {xs : List V}, DaAll K H xs (js.map Kp.py) → Paired (KpAt K H) xs js
  | [], _, h => by
    have h : DaAll K H _ [] := h
    cases h
    exact .nil
  | j :: js, _, h => by
    have h : DaAll K H _ (j.py :: js.map Kp.py) := h
    cases h with
    | cons h1 h2 => exact .cons (da_kp h1) (da_kps h2)
theorem da_jar {js : List Kp} (h : Da K H v (jarPy js)) : ∃ b xs, v = .ref b ∧ SqT K H b xs ∧ Paired (KpAt K H) xs js ∧ js.length ≤ 1000 := by
  have h : Da K H v (.tuple (js.map Kp.py)) := h
  cases h with
  | tup h1 h2 hz => exact ⟨_, _, rfl, h1, da_kps h2, by simpa using hz⟩
end Jv
/-! the one order of a jar: by place, and of one place by age; the one sorted list of kept ones -/
namespace Jv
open PySem PySem.Spec PyProof.Rows L2
/-! ### tables -/
section
variable {β : Type}
theorem getE_put (l : List (Ky × β)) (k k' : Ky) (v : β) : getE (putE l k v) k' = if k = k' then some v else getE l k' := by
  induction l with
  | nil =>
    unfold putE
    by_cases h : k = k'
    · rw [if_pos h]
      unfold getE
      rw [if_pos h]
    · rw [if_neg h]
      unfold getE
      rw [if_neg h]
      rfl
  | cons p l ih =>
    unfold putE
    by_cases z : p.1 = k
    · rw [if_pos z]
      by_cases h : k = k'
      · rw [if_pos h]
        unfold getE
        rw [if_pos (z.trans h)]
      · rw [if_neg h]
        unfold getE
        rw [if_neg (fun y => h (z.symm.trans y)), if_neg (fun y => h (z.symm.trans y))]
    · rw [if_neg z]
      unfold getE
      by_cases y : p.1 = k'
      · rw [if_pos y, if_pos y, if_neg (fun h => z (y.trans h.symm))]
      · rw [if_neg y, if_neg y]
        exact ih
theorem getE_drop (l : List (Ky × β)) (k k' : Ky) : getE (l.filter fun p => decide (p.1 ≠ k)) k' = if k = k' then none else getE l k' := by
  induction l with
  | nil =>
    rw [List.filter_nil]
    unfold getE
    split <;> rfl
  | cons p l ih =>
    by_cases z : p.1 = k
    · rw [List.filter_cons_of_neg (by simp [z]), ih]
      by_cases h : k = k'
      · rw [if_pos h, if_pos h]
      · rw [if_neg h, if_neg h]
        conv => rhs; unfold getE
        rw [if_neg (fun y => h (z.symm.trans y))]
    · rw [List.filter_cons_of_pos (by simp [z])]
      conv => lhs; unfold getE
      conv => rhs; unfold getE
      by_cases y : p.1 = k'
      · rw [if_pos y, if_pos y, if_neg (fun h => z (y.trans h.symm))]
      · rw [if_neg y, if_neg y]
        exact ih
theorem getE_iff {l : List (Ky × β)} (hn : (l.map (·.1)).Nodup) (k : Ky) (v : β) : (k, v) ∈ l ↔ getE l k = some v := by
  induction l with
  | nil =>
    unfold getE
    simp
  | cons p l ih =>
    rw [List.map_cons] at hn
    obtain ⟨n1, n2⟩ := List.nodup_cons.mp hn
    unfold getE
    by_cases z : p.1 = k
    · rw [if_pos z]
      refine ⟨fun h => ?_, fun h => ?_⟩
      · rcases List.mem_cons.mp h with e | e
        · rw [← e]
        · exact absurd (List.mem_map.mpr ⟨_, e, rfl⟩) (z ▸ n1)
      · obtain ⟨a, b⟩ := p
        cases h
        subst z
        exact List.mem_cons_self
    · rw [if_neg z, ← ih n2]
      refine ⟨fun h => ?_, fun h => List.mem_cons_of_mem _ h⟩
      rcases List.mem_cons.mp h with e | e
      · exact absurd (by rw [← e]) z
      · exact e
/-- of one place -/
def ofC (c : Str × List Str) (k : Ky) : Bool := decide ((k.name, k.fold) = c)
theorem putE_ofC (c : Str × List Str) (l : List (Ky × β)) (k : Ky) (v : β) : (putE l k v).filter (fun p => ofC c p.1) = if ofC c k then putE (l.filter fun p => ofC c p.1) k v else l.filter fun p => ofC c p.1 := by
  induction l with
  | nil =>
    rw [show putE ([] : List (Ky × β)) k v = [(k, v)] from rfl]
    cases h : ofC c k with
    | true =>
      rw [List.filter_cons_of_pos (p := fun p : Ky × β => ofC c p.1) (a := (k, v)) h]
      rfl
    | false =>
      rw [List.filter_cons_of_neg (p := fun p : Ky × β => ofC c p.1) (a := (k, v)) (by rw [h]; exact Bool.false_ne_true)]
      rfl
  | cons p l ih =>
    by_cases z : p.1 = k
    · have e : putE (p :: l) k v = (p.1, v) :: l := by
        unfold putE
        rw [if_pos z]
      rw [e]
      cases h : ofC c k with
      | true =>
        have hp : ofC c p.1 = true := by rw [z]; exact h
        rw [List.filter_cons_of_pos (p := fun p : Ky × β => ofC c p.1) (a := (p.1, v)) hp, List.filter_cons_of_pos (p := fun p : Ky × β => ofC c p.1) (a := p) hp, if_pos rfl]
        conv => rhs; unfold putE
        rw [if_pos z]
      | false =>
        have hp : ¬ ofC c p.1 = true := by rw [z, h]; exact Bool.false_ne_true
        rw [List.filter_cons_of_neg (p := fun p : Ky × β => ofC c p.1) (a := (p.1, v)) hp, List.filter_cons_of_neg (p := fun p : Ky × β => ofC c p.1) (a := p) hp]
        rfl
    · have e : putE (p :: l) k v = p :: putE l k v := by
        conv => lhs; unfold putE
        rw [if_neg z]
      rw [e]
      by_cases hp : ofC c p.1 = true
      · rw [List.filter_cons_of_pos (p := fun p : Ky × β => ofC c p.1) hp, List.filter_cons_of_pos (p := fun p : Ky × β => ofC c p.1) hp, ih]
        split
        · conv => rhs; unfold putE
          rw [if_neg z]
        · rfl
      · rw [List.filter_cons_of_neg (p := fun p : Ky × β => ofC c p.1) hp, List.filter_cons_of_neg (p := fun p : Ky × β => ofC c p.1) hp]
        exact ih
end
/-- the same by age, place by place -/
def Alike (t t' : Tab) : Prop := ∀ c, t.filter (fun p => ofC c p.1) = t'.filter fun p => ofC c p.1
theorem Alike.doW {t t' : Tab} (h : Alike t t') (w : Ky × Option Str × Bool) : Alike (Jv.doW t w) (Jv.doW t' w) := fun c => by
  obtain ⟨k, o, g⟩ := w
  cases o with
  | none =>
    show (t.filter fun p => decide (p.1 ≠ k)).filter _ = (t'.filter fun p => decide (p.1 ≠ k)).filter _
    rw [List.filter_filter, List.filter_filter]
    have e : ∀ l : Tab, l.filter (fun a => ofC c a.1 && decide (a.1 ≠ k)) = (l.filter fun a => ofC c a.1).filter fun a => decide (a.1 ≠ k) := fun l => by
      rw [List.filter_filter]
      congr 1
      funext a
      rw [Bool.and_comm]
    rw [e, e, h c]
  | some v =>
    show (putE t k (v, g)).filter _ = (putE t' k (v, g)).filter _
    rw [putE_ofC, putE_ofC, h c]
theorem Alike.doWs {t t' : Tab} (h : Alike t t') (ws : List (Ky × Option Str × Bool)) : Alike (Jv.doWs t ws) (Jv.doWs t' ws) := by
  induction ws generalizing t t' with
  | nil => exact h
  | cons w ws ih => exact ih (h.doW w)
theorem doW_nodup {t : Tab} (h : (t.map (·.1)).Nodup) (w : Ky × Option Str × Bool) : ((doW t w).map (·.1)).Nodup := by
  obtain ⟨k, o, g⟩ := w
  cases o with
  | none => exact h.sublist (List.Sublist.map _ List.filter_sublist)
  | some v => exact putE_nodup h _ _
theorem doWs_nodup {t : Tab} (h : (t.map (·.1)).Nodup) (ws : List (Ky × Option Str × Bool)) : ((doWs t ws).map (·.1)).Nodup := by
  induction ws generalizing t with
  | nil => exact h
  | cons w ws ih => exact ih (doW_nodup h w)
/-! ### orders -/
theorem place_toks {a b : Ky} (h : PySem.W.keyToks (placePy a) = PySem.W.keyToks (placePy b)) : a.name = b.name ∧ a.fold = b.fold := by
  have e : ∀ k : Ky, PySem.W.keyToks (placePy k) = Sum.inl (1 : Int) :: Sum.inr k.name.cps.toList :: Sum.inl (1 : Int) :: Sum.inl (-(k.fold.length : Int)) :: Sum.inl (1 : Int) :: (PySem.W.keyToksAll (k.fold.map .str) ++ [Sum.inl (0 : Int)]) := fun k => by
    simp [placePy, PySem.W.keyToks, PySem.W.keyToksAll]
  rw [e, e] at h
  obtain ⟨_, h⟩ := List.cons.inj h
  obtain ⟨h1, h⟩ := List.cons.inj h
  obtain ⟨_, h⟩ := List.cons.inj h
  obtain ⟨_, h⟩ := List.cons.inj h
  obtain ⟨_, h⟩ := List.cons.inj h
  obtain ⟨h2, _⟩ := toks_strs h
  exact ⟨by
    obtain ⟨n, d, f, l⟩ := a
    obtain ⟨n', d', f', l'⟩ := b
    obtain ⟨x⟩ := n
    obtain ⟨y⟩ := n'
    have h1 : x.toList = y.toList := Sum.inr.inj h1
    show (⟨x⟩ : Str) = ⟨y⟩
    rw [Array.toList_inj.mp h1], h2⟩
abbrev plLe (a b : Kp) : Bool := PySem.W.dataLe false (fun k : Kp => placePy k.key) a b
theorem plLe_total : (∀ a b : Kp, (plLe a b || plLe b a) = true) ∧ ∀ a b c : Kp, plLe a b = true → plLe b c = true → plLe a c = true := by
  have T := PySem.W.sortLe_total (PyProof.Rows.listOrd PyProof.Rows.itemOrd) false fun k : Kp => PySem.W.keyToks (placePy k.key)
  exact ⟨fun a b => by
    rw [Bool.or_eq_true]
    exact T.total a b, T.trans⟩
theorem plLe_anti {a b : Kp} (h1 : plLe a b = true) (h2 : plLe b a = true) : a.key.name = b.key.name ∧ a.key.fold = b.key.fold := by
  have h1 : (!(PyProof.Rows.listOrd PyProof.Rows.itemOrd).blt (PySem.W.keyToks (placePy b.key)) (PySem.W.keyToks (placePy a.key))) = true := h1
  have h2 : (!(PyProof.Rows.listOrd PyProof.Rows.itemOrd).blt (PySem.W.keyToks (placePy a.key)) (PySem.W.keyToks (placePy b.key))) = true := h2
  rw [Bool.not_eq_true'] at h1 h2
  exact place_toks ((PyProof.Rows.listOrd PyProof.Rows.itemOrd).total _ _ h2 h1)
theorem plLe_same {a b : Kp} (h : a.key.name = b.key.name ∧ a.key.fold = b.key.fold) : plLe a b = true := by
  have e : placePy a.key = placePy b.key := by
    unfold placePy
    rw [h.1, h.2]
  have t := plLe_total.1 a a
  rw [Bool.or_self] at t
  have t : (!(PyProof.Rows.listOrd PyProof.Rows.itemOrd).blt (PySem.W.keyToks (placePy a.key)) (PySem.W.keyToks (placePy a.key))) = true := t
  show (!(PyProof.Rows.listOrd PyProof.Rows.itemOrd).blt (PySem.W.keyToks (placePy b.key)) (PySem.W.keyToks (placePy a.key))) = true
  rw [← e]
  exact t
/-- two rows in order of place, of each place alike, are one -/
theorem sorted_one : ∀ {l l' : List Kp}, l.Pairwise (fun a b => plLe a b = true) → l'.Pairwise (fun a b => plLe a b = true) → (∀ c, l.filter (fun k => ofC c k.key) = l'.filter fun k => ofC c k.key) → l = l'
  | [], [], _, _, _ => rfl
  | [], b :: l', _, _, h => by
    have := h (b.key.name, b.key.fold)
    rw [List.filter_cons_of_pos (by unfold ofC; exact decide_eq_true rfl)] at this
    cases this
  | a :: l, [], _, _, h => by
    have := h (a.key.name, a.key.fold)
    rw [List.filter_cons_of_pos (by unfold ofC; exact decide_eq_true rfl)] at this
    cases this
  | a :: l, b :: l', hl, hl', h => by
    have le1 : plLe b a = true := by
      have m : a ∈ (b :: l') := by
        have : a ∈ (a :: l).filter fun k => ofC (a.key.name, a.key.fold) k.key := List.mem_filter.mpr ⟨List.mem_cons_self, by unfold ofC; exact decide_eq_true rfl⟩
        rw [h] at this
        exact (List.mem_filter.mp this).1
      rcases List.mem_cons.mp m with e | m
      · rw [e]
        exact plLe_same ⟨rfl, rfl⟩
      · exact (List.pairwise_cons.mp hl').1 a m
    have le2 : plLe a b = true := by
      have m : b ∈ (a :: l) := by
        have : b ∈ (b :: l').filter fun k => ofC (b.key.name, b.key.fold) k.key := List.mem_filter.mpr ⟨List.mem_cons_self, by unfold ofC; exact decide_eq_true rfl⟩
        rw [← h] at this
        exact (List.mem_filter.mp this).1
      rcases List.mem_cons.mp m with e | m
      · rw [e]
        exact plLe_same ⟨rfl, rfl⟩
      · exact (List.pairwise_cons.mp hl).1 b m
    obtain ⟨e1, e2⟩ := plLe_anti le2 le1
    have h0 := h (a.key.name, a.key.fold)
    rw [List.filter_cons_of_pos (by unfold ofC; exact decide_eq_true rfl), List.filter_cons_of_pos (by unfold ofC; rw [e1, e2]; exact decide_eq_true rfl)] at h0
    obtain ⟨ab, _⟩ := List.cons.inj h0
    subst ab
    rw [sorted_one (List.pairwise_cons.mp hl).2 (List.pairwise_cons.mp hl').2 fun c => ?_]
    have hc := h c
    by_cases z : ofC c a.key = true
    · rw [List.filter_cons_of_pos (p := fun k : Kp => ofC c k.key) z, List.filter_cons_of_pos (p := fun k : Kp => ofC c k.key) z] at hc
      exact (List.cons.inj hc).2
    · rw [List.filter_cons_of_neg (p := fun k : Kp => ofC c k.key) z, List.filter_cons_of_neg (p := fun k : Kp => ofC c k.key) z] at hc
      exact hc
theorem jarSort_sorted (l : List Kp) : (jarSort l).Pairwise fun a b => plLe a b = true := List.pairwise_mergeSort (le := plLe) plLe_total.2 plLe_total.1 l
theorem jarSort_ofC (l : List Kp) (c : Str × List Str) : (jarSort l).filter (fun k => ofC c k.key) = l.filter fun k => ofC c k.key := by
  have p : ((jarSort l).filter fun k => ofC c k.key).Perm (l.filter fun k => ofC c k.key) := (jarSort_perm l).filter _
  have pw : (l.filter fun k => ofC c k.key).Pairwise fun a b => plLe a b = true := by
    refine List.pairwise_of_forall_mem_list fun a ha b hb => ?_
    have ea := of_decide_eq_true (show decide _ = true from (List.mem_filter.mp ha).2)
    have eb := of_decide_eq_true (show decide _ = true from (List.mem_filter.mp hb).2)
    have e := ea.trans eb.symm
    exact plLe_same ⟨congrArg Prod.fst e, congrArg Prod.snd e⟩
  have s : (l.filter fun k => ofC c k.key).Sublist (jarSort l) := List.sublist_mergeSort (le := plLe) plLe_total.2 plLe_total.1 pw List.filter_sublist
  have s2 := s.filter fun k => ofC c k.key
  rw [List.filter_filter] at s2
  have e2 : (fun a : Kp => ofC c a.key && ofC c a.key) = fun a => ofC c a.key := funext fun a => Bool.and_self _
  rw [e2] at s2
  exact (s2.eq_of_length p.length_eq.symm).symm
theorem filter_kp (t : Tab) (c : Str × List Str) : (t.map Tab.kp).filter (fun k => ofC c k.key) = (t.filter fun p => ofC c p.1).map Tab.kp := by
  rw [List.filter_map]
  rfl
theorem jarOfT_alike {t t' : Tab} (h : Alike t t') : jarOfT t = jarOfT t' := sorted_one (jarSort_sorted _) (jarSort_sorted _) fun c => by
  rw [jarOfT, jarOfT, jarSort_ofC, jarSort_ofC, filter_kp, filter_kp, h c]
theorem puts_app : ∀ (l : Tab) (t : Tab), ((t ++ l).map (·.1)).Nodup → l.foldl (fun t p => putE t p.1 p.2) t = t ++ l
  | [], t, _ => by rw [List.append_nil]; rfl
  | p :: l, t, h => by
    have h1 : p.1 ∉ t.map (·.1) := by
      rw [List.map_append, List.nodup_append] at h
      intro m
      exact h.2.2 _ m _ (by simp) rfl
    show l.foldl _ (putE t p.1 p.2) = _
    rw [putE_new h1, puts_app l (t ++ [(p.1, p.2)]) (by rw [List.append_assoc]; exact h), List.append_assoc]
    rfl
theorem kp_tab (p : Ky × Str × Bool) : kpTab (Tab.kp p) = p := rfl
theorem table_back (js : List Kp) (h : (js.map (·.key)).Nodup) : js.foldl (fun t k => putE t k.key (k.val, k.grd)) [] = js.map kpTab := by
  have e : ∀ (js : List Kp) (t : Tab), js.foldl (fun t k => putE t k.key (k.val, k.grd)) t = (js.map kpTab).foldl (fun t p => putE t p.1 p.2) t := by
    intro js
    induction js with
    | nil => exact fun _ => rfl
    | cons j js ih => exact fun t => ih _
  rw [e, puts_app _ _ (by rw [List.nil_append, List.map_map]; exact h), List.nil_append]
theorem jarOfT_keys (t : Tab) (h : (t.map (·.1)).Nodup) : ((jarOfT t).map (·.key)).Nodup := by
  have p : ((jarOfT t).map (·.key)).Perm ((t.map Tab.kp).map (·.key)) := (jarSort_perm _).map _
  rw [p.nodup_iff, List.map_map]
  exact h
/-- a jar goes on as its table does -/
theorem jarAfter_table {t : Tab} (h : (t.map (·.1)).Nodup) (ws : List (Ky × Option Str × Bool)) : jarAfterM (jarOfT t) ws = jarOfT (doWs t ws) := by
  unfold jarAfterM
  rw [table_back _ (jarOfT_keys t h)]
  refine jarOfT_alike (Alike.doWs (fun c => ?_) ws)
  have e : ((jarOfT t).map kpTab).filter (fun p => ofC c p.1) = ((jarOfT t).filter fun k => ofC c k.key).map kpTab := by
    rw [List.filter_map]
    rfl
  rw [e, jarOfT, jarSort_ofC, filter_kp, List.map_map]
  exact (List.map_congr_left fun p _ => kp_tab p).trans (List.map_id _)
/-! ### the one sorted list of kept ones -/
theorem kp_toks {a b : Kp} (h : PySem.W.keyToks a.py = PySem.W.keyToks b.py) : a = b := by
  have e : ∀ k : Kp, PySem.W.keyToks k.py = Sum.inl (1 : Int) :: (PySem.W.keyToks k.key.py ++ (Sum.inl (1 : Int) :: Sum.inr k.val.cps.toList :: Sum.inl (1 : Int) :: Sum.inl (if k.grd then 1 else 0) :: [Sum.inl (0 : Int)])) := fun k => by
    simp [Kp.py, PySem.W.keyToks, PySem.W.keyToksAll]
  have ek : ∀ (k : Ky) (r : List (Int ⊕ List Nat)), PySem.W.keyToks k.py ++ r = Sum.inl (1 : Int) :: Sum.inr k.name.cps.toList :: Sum.inl (1 : Int) :: (PySem.W.keyToksAll (k.dom.map .str) ++ (Sum.inl (1 : Int) :: (PySem.W.keyToksAll (k.fold.map .str) ++ (Sum.inl (1 : Int) :: Sum.inl (if k.alone then 1 else 0) :: Sum.inl (0 : Int) :: r)))) := fun k r => by
    simp [Ky.py, PySem.W.keyToks, PySem.W.keyToksAll]
  have bl : ∀ {x y : Bool}, (if x then (1 : Int) else 0) = (if y then 1 else 0) → x = y := fun {x y} h => by
    revert h
    cases x <;> cases y <;> decide
  have st : ∀ {x y : Str}, x.cps.toList = y.cps.toList → x = y := fun {x y} h => by
    obtain ⟨x⟩ := x
    obtain ⟨y⟩ := y
    have h : x.toList = y.toList := h
    rw [Array.toList_inj.mp h]
  obtain ⟨⟨n, d, f, l⟩, v, g⟩ := a
  obtain ⟨⟨n', d', f', l'⟩, v', g'⟩ := b
  rw [e, e, ek, ek] at h
  obtain ⟨_, h⟩ := List.cons.inj h
  obtain ⟨_, h⟩ := List.cons.inj h
  obtain ⟨h1, h⟩ := List.cons.inj h
  obtain ⟨_, h⟩ := List.cons.inj h
  obtain ⟨h2, h⟩ := toks_strs h
  obtain ⟨_, h⟩ := List.cons.inj h
  obtain ⟨h3, h⟩ := toks_strs h
  obtain ⟨_, h⟩ := List.cons.inj h
  obtain ⟨h4, h⟩ := List.cons.inj h
  obtain ⟨_, h⟩ := List.cons.inj h
  obtain ⟨_, h⟩ := List.cons.inj h
  obtain ⟨h5, h⟩ := List.cons.inj h
  obtain ⟨_, h⟩ := List.cons.inj h
  obtain ⟨h6, _⟩ := List.cons.inj h
  have e1 : n = n' := st (Sum.inr.inj h1)
  have e2 : d = d' := h2
  have e3 : f = f' := h3
  have e4 : l = l' := bl (Sum.inl.inj h4)
  have e5 : v = v' := st (Sum.inr.inj h5)
  have e6 : g = g' := bl (Sum.inl.inj h6)
  rw [e1, e2, e3, e4, e5, e6]
abbrev kpOrd (a b : Kp) : Bool := PySem.W.dataLe false Kp.py a b
def kpSort (l : List Kp) : List Kp := l.mergeSort (PySem.W.dataLe false Kp.py)
theorem kpSort_perm (l : List Kp) : (kpSort l).Perm l := List.mergeSort_perm _ _
theorem kp_anti (a b : Kp) (h1 : kpOrd a b = true) (h2 : kpOrd b a = true) : a = b := by
  have h1 : (!(PyProof.Rows.listOrd PyProof.Rows.itemOrd).blt (PySem.W.keyToks b.py) (PySem.W.keyToks a.py)) = true := h1
  have h2 : (!(PyProof.Rows.listOrd PyProof.Rows.itemOrd).blt (PySem.W.keyToks a.py) (PySem.W.keyToks b.py)) = true := h2
  rw [Bool.not_eq_true'] at h1 h2
  exact kp_toks ((PyProof.Rows.listOrd PyProof.Rows.itemOrd).total _ _ h2 h1)
theorem kpSort_one {ks ls : List Kp} (h : ks.Perm ls) : kpSort ks = kpSort ls := by
  have T := PySem.W.sortLe_total (PyProof.Rows.listOrd PyProof.Rows.itemOrd) false fun k : Kp => PySem.W.keyToks k.py
  have tot : ∀ a b : Kp, (kpOrd a b || kpOrd b a) = true := fun a b => by
    rw [Bool.or_eq_true]
    exact T.total a b
  exact PySem.W.Srt.the_of_perm kpOrd T.trans tot kp_anti ((kpSort_perm ks).trans h) (List.pairwise_mergeSort (le := kpOrd) T.trans tot ks)
end Jv
/-! dicts whose keys are flat data of any kind that is told (KC): hosts, paths, addresses, jars, rows -/
namespace Jv
open PySem PySem.Spec PyProof.Rows L2 L2.DX
/-! ### keys -/
mutual
def nkD : PyData → NestedKey
  | .none => .none
  | .bool b => .num (if b = true then 1 else 0)
  | .int i => .num i
  | .str x => .text x
  | .tuple ds => .tup (nkAll ds)
  | .list _ => .none
  | .dict _ => .none
def nkAll : List PyData → List NestedKey
  | [] => []
  | d :: ds => nkD d :: nkAll ds
end
theorem nkAll_map : ∀ ds : List PyData, nkAll ds = ds.map nkD
  | [] => rfl
  | d :: ds => by rw [nkAll, nkAll_map ds, List.map_cons]
class KC (T : Type) where
  py : T → PyData
  fl : ∀ a, flat (py a) = true
  inj : ∀ a b : T, nkD (py a) = nkD (py b) → a = b
  dp : ∀ a, (nkD (py a)).depth ≤ 8
  tp : ∀ a, ∃ ds, py a = .tuple ds
mutual
theorem Da.nested {X : Cx} {pn : List (Addr × Obj)} {sg : L2.St} {H : Hp} {s : Shared} (I : Inv X pn sg H s) : ∀ (d : PyData) (v : V) (u : Value), flat d = true → Da X.K H v d → RelV v u → NestedIs s.heap (nkD d) u
  | .none, _, _, _, h, r => by
    cases h
    cases r
    exact .none
  | .bool b, _, _, _, h, r => by
    cases h
    cases r
    exact .bool rfl
  | .int i, _, _, _, h, r => by
    cases h
    obtain ⟨t, rfl⟩ := (show ∃ t, _ = Value.int i t from r)
    exact .int i t
  | .str x, _, _, _, h, r => by
    cases h
    obtain ⟨t, rfl⟩ := (show ∃ t, _ = Value.str x t from r)
    exact .text x t
  | .list ds, _, _, f, h, r => absurd f (by simp [flat])
  | .dict kvs, _, _, f, h, r => absurd f (by simp [flat])
  | .tuple ds, _, u, f, h, r => by
    cases h with
    | @tup a xs _ h1 h2 h3 =>
      cases (show u = Value.ref a from r)
      obtain ⟨i1, r1, ⟨o1, g1, c1, n1, d1⟩, _⟩ := I.tuple h1
      exact .tup g1 c1 d1 (by simpa using DaAll.nested I ds xs i1 f h2 r1)
theorem DaAll.nested {X : Cx} {pn : List (Addr × Obj)} {sg : L2.St} {H : Hp} {s : Shared} (I : Inv X pn sg H s) : ∀ (ds : List PyData) (vs : List V) (us : List Value), flatAll ds = true → DaAll X.K H vs ds → Vals vs us → NestedAll s.heap (nkAll ds) us
  | [], _, _, _, h, r => by
    cases h
    cases r
    exact .nil
  | d :: ds, _, _, f, h, r => by
    cases h with
    | cons h1 h2 =>
      cases r with
      | cons r1 r2 =>
        have e : flatAll (d :: ds) = (flat d && flatAll ds) := rfl
        rw [e, Bool.and_eq_true] at f
        exact .cons (Da.nested I d _ _ f.1 h1 r1) (DaAll.nested I ds _ _ f.2 h2 r2)
end
abbrev gkKind (T : Type) [DecidableEq T] [KC T] (prog : Program) (w : World) : HeapKind prog w T := pull (nestedKind prog w) (fun k : T => nkD (KC.py k)) fun a b e => KC.inj a b e
/-- a key that stands at a -/
structure GyAt {T : Type} [DecidableEq T] [KC T] (K : PySem.W.Frag) (H : Hp) (a : Addr) (k : T) : Prop where
  da : Da K H (.ref a) (KC.py k)
section
variable {T : Type} [DecidableEq T] [KC T]
theorem GyAt.tupS {K : PySem.W.Frag} {H H' : Hp} {a : Addr} {k : T} (s : TupS H H') (h : GyAt K H a k) : GyAt K H' a k := ⟨Da.tupS s _ _ (KC.fl k) h.da⟩
theorem GyAt.same {K : PySem.W.Frag} {H H' : Hp} {a : Addr} {k : T} (s : Same H H') (h : GyAt K H a k) : GyAt K H' a k := h.tupS (Same.tupS s)
theorem GyAt.is {X : Cx} {pn : List (Addr × Obj)} {sg : L2.St} {H : Hp} {s : Shared} {a : Addr} {k : T} (I : Inv X pn sg H s) (h : GyAt X.K H a k) : (gkKind T X.prog X.w).is s.heap k a :=
  ⟨Da.nested I _ _ _ (KC.fl k) h.da rfl, KC.dp k⟩
end
section
variable {KT : Type} [DecidableEq KT] [KC KT]
/-! ### the dict -/
def NdOG (KT : Type) [DecidableEq KT] [KC KT] (P : Program) (w : World) (a : Addr) (xs : List (KT × Addr × Value)) : HO := .ext fun h => xs.length ≤ sizeLine ∧ (a == sysModules) = false ∧
  ∃ o es ep, h.get? a = some o ∧ o.ExactDict ∧ o.data = .dict es ep ∧ es.toList = xs.map (entryOfKey (gkKind KT P w)) ∧ (xs.map (·.1)).Nodup
theorem ndO_okG {P : Program} {w : World} {H : Hp} {h : Heap} {a : Addr} {xs : List (KT × Addr × Value)} (hz : xs.length ≤ sizeLine) (hd : (a == sysModules) = false) (hm : h.DictOfH (gkKind KT P w) a xs) : ObjOk P w H h a (NdOG KT P w a xs) := by
  obtain ⟨o, es, ep, h1, h2, h3, h4, _, h5⟩ := hm
  refine ⟨⟨hz, hd, o, es, ep, h1, h2, h3, h4, h5⟩, ⟨o, h1⟩, fun g1 g2 q k => ?_⟩
  obtain ⟨z1, z2, o', es', ep', q1, q2⟩ := q
  exact ⟨z1, z2, o', es', ep', k _ q1, q2⟩
/-- at d: a dict of these keys, in their order, and values -/
structure NdG (KT : Type) [DecidableEq KT] [KC KT] (K : PySem.W.Frag) (P : Program) (w : World) (H : Hp) (d : Addr) (kvs : List (KT × V)) : Prop where
  ex : ∃ xs : List (KT × Addr × Value), H d = some (NdOG KT P w d xs) ∧ Paired (fun p q => p.1 = q.1 ∧ GyAt K H q.2.1 p.1 ∧ RelV p.2 q.2.2) kvs xs
theorem NdG.move {K : PySem.W.Frag} {P : Program} {w : World} {H H' : Hp} {d : Addr} {kvs : List (KT × V)} (s : TupS H H') (e : H' d = H d) (h : NdG KT K P w H d kvs) : NdG KT K P w H' d kvs := by
  obtain ⟨xs, h1, h2⟩ := h.ex
  exact ⟨xs, e.trans h1, Paired.mapP h2 fun p q z => ⟨z.1, z.2.1.tupS s, z.2.2⟩⟩
theorem NdG.same {K : PySem.W.Frag} {P : Program} {w : World} {H H' : Hp} {d : Addr} {kvs : List (KT × V)} (s : Same H H') (h : NdG KT K P w H d kvs) : NdG KT K P w H' d kvs := by
  obtain ⟨xs, h1, h2⟩ := h.ex
  exact ⟨xs, s _ _ h1, Paired.mapP h2 fun p q z => ⟨z.1, z.2.1.same s, z.2.2⟩⟩
theorem NdG.there {K : PySem.W.Frag} {P : Program} {w : World} {H : Hp} {d : Addr} {kvs : List (KT × V)} (h : NdG KT K P w H d kvs) : ∃ o, H d = some o ∧ ∀ xs, o ≠ .tup xs := by
  obtain ⟨xs, h1, h2⟩ := h.ex
  exact ⟨_, h1, fun ys z => by cases z⟩
theorem NdG.of {X : Cx} {pn : List (Addr × Obj)} {sg : L2.St} {H : Hp} {s : Shared} {d : Addr} {xs : List (KT × Addr × Value)} {kvs : List (KT × V)} (I : Inv X pn sg H s) (h1 : H d = some (NdOG KT X.prog X.w d xs))
    (h2 : Paired (fun p q => p.1 = q.1 ∧ GyAt X.K H q.2.1 p.1 ∧ RelV p.2 q.2.2) kvs xs) : xs.length ≤ sizeLine ∧ (d == sysModules) = false ∧ s.heap.DictOfH (gkKind KT X.prog X.w) d xs := by
  obtain ⟨⟨hz, hd, o, es, ep, g1, g2, g3, g4, g5⟩, _, _⟩ := (show ObjOk X.prog X.w H s.heap d (NdOG KT X.prog X.w d xs) from I.hok d _ h1)
  refine ⟨hz, hd, o, es, ep, g1, g2, g3, g4, ?_, g5⟩
  have all : ∀ {l : List (KT × V)} {m : List (KT × Addr × Value)}, Paired (fun p q => p.1 = q.1 ∧ GyAt X.K H q.2.1 p.1 ∧ RelV p.2 q.2.2) l m → ∀ x ∈ m, (gkKind KT X.prog X.w).is s.heap x.1 x.2.1 := by
    intro l m q
    induction q with
    | nil => intro x hx; cases hx
    | @cons p q ps qs hq t ih =>
      intro x hx
      rcases List.mem_cons.mp hx with e | hx
      · subst e
        exact GyAt.is I (by rw [← hq.1]; exact hq.2.1)
      · exact ih x hx
  exact all h2
/-! ### {} -/
def tDNewNG (KT : Type) [DecidableEq KT] [KC KT] (P : Program) (w : World) : TE := fun _ H Q => ∀ p, H p = none → Q (.ref p) (upd H p (NdOG KT P w p []))
theorem pe_dnewNG {X : Cx} {pos : Pos} : PE X (.Dict [] [] pos) (tDNewNG KT X.prog X.w) := ⟨fun pn s sg H Q I h => by
  have big : (s.heap.objs.size == sysModules) = false := beq_eq_false_iff_ne.mpr (Ne.symm (Nat.ne_of_lt I.big))
  refine wpAny_Dict_empty ⟨.ref s.heap.objs.size, _, I.laid (a := s.heap.objs.size) (o := NdOG KT X.prog X.w s.heap.objs.size []) (t' := s.toks) (fun _ _ q => Heap.get?_push_of_some _ q) (Nat.le_refl _) ?_, rfl, h _ (I.hok.fresh (Nat.le_refl _))⟩
  exact ndO_okG (Nat.zero_le _) big (Heap.DictOfH.new s.heap)⟩
theorem nd_newG {K : PySem.W.Frag} {P : Program} {w : World} {H : Hp} {p : Addr} : NdG KT K P w (upd H p (NdOG KT P w p [])) p [] := ⟨[], upd_same, .nil⟩
/-! ### d[k] = v -/
theorem nd_putG {K : PySem.W.Frag} {H : Hp} {kvs : List (KT × V)} {xs : List (KT × Addr × Value)} (r : Paired (fun p q => p.1 = q.1 ∧ GyAt K H q.2.1 p.1 ∧ RelV p.2 q.2.2) kvs xs) (k : KT) {b : Addr} {y : V} {u : Value} (hb : GyAt K H b k) (ry : RelV y u) :
    Paired (fun p q => p.1 = q.1 ∧ GyAt K H q.2.1 p.1 ∧ RelV p.2 q.2.2) (putK kvs k y) (storedH xs k b u) := by
  have e : (kvs.any fun kv => decide (kv.1 = k)) = (atKey xs k).isSome := by
    clear ry hb
    induction r with
    | nil => rfl
    | @cons p q ps qs h t ih =>
      rw [List.any_cons, ih]
      by_cases z : p.1 = k
      · have z' : q.1 = k := h.1.symm.trans z
        simp [atKey, List.find?_cons, z, z']
      · have z' : ¬ q.1 = k := fun x => z (h.1.trans x)
        simp [atKey, List.find?_cons, z, z']
  unfold putK storedH
  rw [e]
  by_cases q : (atKey xs k).isSome = true
  · rw [if_pos q, if_pos q]
    clear e q
    induction r with
    | nil => exact .nil
    | @cons p q ps qs h t ih =>
      rw [List.map_cons, List.map_cons]
      refine .cons ?_ ih
      obtain ⟨h1, h2, h3⟩ := h
      unfold putAt
      by_cases z : p.1 = k
      · rw [if_pos z, if_pos (h1.symm.trans z)]
        exact ⟨h1, h2, ry⟩
      · rw [if_neg z, if_neg (fun x => z (h1.trans x))]
        exact ⟨h1, h2, h3⟩
  · rw [if_neg q, if_neg q]
    exact Paired.snoc r ⟨rfl, hb, ry⟩
def rNputG (KT : Type) [DecidableEq KT] [KC KT] (K : PySem.W.Frag) (P : Program) (w : World) : TSet := fun o i v H Q => ∃ d a kvs k, o = .ref d ∧ i = .ref a ∧ NdG KT K P w H d kvs ∧ GyAt K H a k ∧ kvs.length < sizeLine ∧
  ∀ H', (∀ b, b ≠ d → H' b = H b) → NdG KT K P w H' d (putK kvs k v) → Q H'
theorem set_ndG {X : Cx} (hu : X.A.units + 9 < cLine) : PSet X (rNputG KT X.K X.prog X.w) := by
  intro pn s sg H vo vi vv uo ui uv Qq I r1 r2 r3 hyp
  obtain ⟨d, a, kvs, k, rfl, rfl, hN, hk, hl, q⟩ := hyp
  cases (show uo = Value.ref d from r1)
  cases (show ui = Value.ref a from r2)
  obtain ⟨xs, h1, h2⟩ := hN.ex
  obtain ⟨hz, hd, hm⟩ := NdG.of I h1 h2
  have nl := Paired.length h2
  have h3 := nd_putG h2 k hk r3
  refine wpAny_setItem_heap (knd := gkKind KT X.prog X.w) (hsz := hz) (show X.A.in1.units + 8 < cLine by show X.A.units + 1 + 8 < cLine; omega) (hk.is I) hm fun h' dd hs => ?_
  have e9 : ∃ z, h'.get? d = some z := let ⟨z, _, _, hq, _⟩ := dd; ⟨z, hq⟩
  have ndup : (storedH xs k a uv).length ≤ sizeLine := by
    rw [← Paired.length h3]
    have := length_putK kvs k vv
    omega
  have mu : Mut (H d) := by
    rw [h1]
    exact True.intro
  refine ⟨upd H d (NdOG KT X.prog X.w d (storedH xs k a uv)), d_write I mu hs e9 (ndO_okG ndup hd dd), q _ (fun b hb => upd_ne hb) ⟨_, upd_same, Paired.mapP h3 fun p x z => ⟨z.1, z.2.1.tupS fun b o e t => ?_, z.2.2⟩⟩⟩
  have nb : b ≠ d := by
    rintro rfl
    rw [h1] at e
    cases e
    rcases t with ⟨ys, t⟩ | ⟨y1, y2, t⟩ <;> cases t
  rw [upd_ne nb]
  exact e

section
variable {X : Cx}
theorem dn_setG {pn : List (Addr × Obj)} {sg : L2.St} {H : Hp} {s : Shared} {Er : Value → Shared → Prop} {D a : Addr} {kvs : List (KT × V)} {k : KT} {v : V} {r : Value} {Q : Unit → Shared → Prop} (I : Inv X pn sg H s) (hu : X.A.units + 9 < cLine) (hN : NdG KT X.K X.prog X.w H D kvs)
    (hk : GyAt X.K H a k) (hl : kvs.length < sizeLine) (rv : RelV v r) (q : ∀ s' H', (∀ b, b ≠ D → H' b = H b) → NdG KT X.K X.prog X.w H' D (putK kvs k v) → Inv X pn sg H' s' → Q () s') : wpAny (model X.prog X.w) X.A (dictSet D (.ref a) r) Q Er s := by
  obtain ⟨xs, h1, h2⟩ := hN.ex
  obtain ⟨hz, hd, hm⟩ := NdG.of I h1 h2
  have nl := Paired.length h2
  have h3 := nd_putG h2 k hk rv
  refine wpAny_dictSet_heap (knd := gkKind KT X.prog X.w) (hsz := hz) (show X.A.units + 8 < cLine by omega) (hk.is I) hm fun h' dd hs => ?_
  have e9 : ∃ z, h'.get? D = some z := let ⟨z, _, _, hq, _⟩ := dd; ⟨z, hq⟩
  have ndup : (storedH xs k a r).length ≤ sizeLine := by
    rw [← Paired.length h3]
    have := length_putK kvs k v
    omega
  have mu : Mut (H D) := by
    rw [h1]
    exact True.intro
  refine q _ (upd H D (NdOG KT X.prog X.w D (storedH xs k a r))) (fun b hb => upd_ne hb) ⟨_, upd_same, Paired.mapP h3 fun p x z => ⟨z.1, z.2.1.tupS fun b o e t => ?_, z.2.2⟩⟩ (d_write I mu hs e9 (ndO_okG ndup hd dd))
  have nb : b ≠ D := by
    rintro rfl
    rw [h1] at e
    cases e
    rcases t with ⟨ys, t⟩ | ⟨y1, y2, t⟩ <;> cases t
  rw [upd_ne nb]
  exact e
/-! ### d[k] -/
def getNG : List (KT × V) → KT → Option V
  | [], _ => none
  | p :: ps, k => if p.1 = k then some p.2 else getNG ps k
theorem nd_getG {K : PySem.W.Frag} {H : Hp} {kvs : List (KT × V)} {xs : List (KT × Addr × Value)} (r : Paired (fun p q => p.1 = q.1 ∧ GyAt K H q.2.1 p.1 ∧ RelV p.2 q.2.2) kvs xs) {k : KT} {v : V} (e : getNG kvs k = some v) : ∃ p, atKey xs k = some p ∧ RelV v p.2 := by
  induction r with
  | nil => cases e
  | @cons p q ps qs h t ih =>
    obtain ⟨h1, h2, h3⟩ := h
    unfold getNG at e
    by_cases z : p.1 = k
    · rw [if_pos z] at e
      cases e
      exact ⟨q.2, by simp [atKey, List.find?_cons, h1.symm.trans z], h3⟩
    · rw [if_neg z] at e
      obtain ⟨p', e1, e2⟩ := ih e
      have z' : ¬ q.1 = k := fun y => z (h1.trans y)
      exact ⟨p', by simpa [atKey, List.find?_cons, z'] using e1, e2⟩
def rNgetG (KT : Type) [DecidableEq KT] [KC KT] (K : PySem.W.Frag) (P : Program) (w : World) : R2 := fun x y H Q => ∃ d a kvs k v, x = .ref d ∧ y = .ref a ∧ NdG KT K P w H d kvs ∧ GyAt K H a k ∧ getNG kvs k = some v ∧ Q v H
theorem ix_ndG (hu : X.A.units + 9 < cLine) : IxR X (rNgetG KT X.K X.prog X.w) := by
  intro vl sl pn s sg H x y v u Q I r1 r2 hyp hs
  obtain ⟨d, a, kvs, k, z, rfl, rfl, hN, hk, e, q⟩ := hyp
  cases (show v = Value.ref d from r1)
  cases (show u = Value.ref a from r2)
  obtain ⟨xs, h1, h2⟩ := hN.ex
  obtain ⟨hz, hd, hm⟩ := NdG.of I h1 h2
  obtain ⟨p, e1, e2⟩ := nd_getG h2 e
  exact subscriptTail_builtinR (x := p.2) hm.typeIs slot_dict_getitem.lookup (wpAny_getItem_heap (knd := gkKind KT X.prog X.w) (Q := fun r s' => r = p.2 ∧ EP X pn sg Q r s') (show X.A.in1.units + 8 < cLine by show X.A.units + 1 + 8 < cLine; omega) (hk.is I) hm e1 ⟨rfl, z, H, I.tok _, e2, q⟩) hs
/-- the reading -/
def tDcNG (KT : Type) [DecidableEq KT] [KC KT] (K : PySem.W.Frag) (P : Program) (w : World) (wi : TI) (g : TG) (tt : TT) (tk tv : TE) (vs : List Nat) : TE := fun sg H Q => wi sg H fun J H1 => ∀ D, H1 D = none → ∃ W : Nat → Nat → Hp → Prop, (∃ m, W 0 m (upd H1 D (NdOG KT P w D []))) ∧ ∀ i m H, W i m H →
  (J.stop i H ∧ Q (.ref D) H) ∨ (J.go i H ∧ ∃ Nx : Hp → Prop, (∀ H', Nx H' → ∃ m', m' < m ∧ W (i + 1) m' H') ∧ ∀ x H', J.yld i H x H' → g x (wipe sg vs) H' fun s2 H2 => wipe s2 vs = wipe sg vs ∧ tt s2 H2 fun b H3 =>
    if b = true then tk s2 H3 fun y H4 => tv s2 H4 fun z H5 => ∃ a kvs k, y = .ref a ∧ NdG KT K P w H5 D kvs ∧ GyAt K H5 a k ∧ kvs.length < sizeLine ∧ ∀ H6, (∀ b, b ≠ D → H6 b = H5 b) → NdG KT K P w H6 D (putK kvs k z) → Nx H6 else Nx H3)
theorem pe_dcNG {kx vx tg it : Expr} {cs : List Expr} {sc : Scope} {own : List (Str × Nat)} {pos : Pos} {wi : TI} {g : TG} {tt : TT} {tk tv : TE} (hc : X.calm = true) (hu : X.A.units + 9 < cLine) (nd : X.N.Nodup) (hi : PI X tg it wi) (ok : BlkOk X.N X.env.scope sc own)
    (hg : ∀ (s : Shared) (H : Hp) (C : Addr) (cl : List (Str × Addr)) (fp : List Addr), PG (X.blk s H sc (compEnvC sc cl C X.env) fp) tg g) (ht : ∀ (s : Shared) (H : Hp) (C : Addr) (cl : List (Str × Addr)) (fp : List Addr), PTs (X.blk s H sc (compEnvC sc cl C X.env) fp) cs tt)
    (hk : ∀ (s : Shared) (H : Hp) (C : Addr) (cl : List (Str × Addr)) (fp : List Addr), PE (X.blk s H sc (compEnvC sc cl C X.env) fp) kx tk) (hv : ∀ (s : Shared) (H : Hp) (C : Addr) (cl : List (Str × Addr)) (fp : List Addr), PE (X.blk s H sc (compEnvC sc cl C X.env) fp) vx tv)
    (hs : ∀ x, foldedSetIterable it X.env x = pure x := by intro _; rfl) : PE X (.DictComp kx vx [⟨tg, it, cs, 0⟩] sc pos) (tDcNG KT X.K X.prog X.w wi g tt tk tv (own.map (·.2))) := by
  refine ⟨fun pn s sg H Q I h => ?_⟩
  rw [arm_eval_DictComp]
  have clo : ∀ y ∈ sc.names, y.2 = .free → ∃ c, X.env.cells.lookup y.1 = some c := fun y hy e => (ok.free y hy e).elim (fun z => I.ok.has _ (.inl z)) fun z => I.ok.has _ (.inr z)
  refine wpAny_comprehension_free (use := none) rfl hs (closure_ok clo) ok.kind (fun y hy e => by rw [ok.uniq y hy, e]) (thn (hi.run pn s sg H _ I h) fun xv s1 hx => thn hx fun iv s2 h2 => ?_)
  obtain ⟨ia, fp, tn, J, H2, rfl, I2, T, st2, f2, q⟩ := h2
  refine wpAny_newObj_type (newEnv_comp ?_)
  -- the new dict, at D
  generalize eD : s2.heap.objs.size = D
  have nD : H2 D = none := I2.hok.fresh (Nat.le_of_eq eD)
  obtain ⟨W, ⟨m0, w0⟩, turn⟩ := q D nD
  generalize e3 : ({ s2 with heap := s2.heap.push { cls := .type "dict", data := .dict #[] } } : Shared) = s3
  have hp3 : s3.heap = s2.heap.push { cls := .type "dict", data := .dict #[] } := by rw [← e3]
  have I3 : Inv X pn sg (upd H2 D (NdOG KT X.prog X.w D [])) s3 := by
    rw [← e3]
    refine I2.laid (t' := s2.toks) (fun b o e => Heap.get?_push_of_some _ e) (Nat.le_of_eq eD) (ndO_okG (Nat.zero_le _) ?_ (by rw [← eD]; exact Heap.DictOfH.new s2.heap))
    rw [← eD]
    exact beq_eq_false_iff_ne.mpr (Ne.symm (Nat.ne_of_lt I2.big))
  have low : ∀ b ∈ fp, b < s2.heap.objs.size := fun b hb => let ⟨o, e, _⟩ := T.obj _ _ st2 b hb; Heap.lt_size e
  have f3 : ∀ b ∈ fp, FpOk X pn (upd H2 D (NdOG KT X.prog X.w D [])) b ∧ b < s3.heap.objs.size := fun b hb => by
    have lt := low b hb
    have ne : b ≠ D := by
      rw [← eD]
      exact Nat.ne_of_lt lt
    exact ⟨⟨by rw [upd_ne ne]; exact (f2 b hb).1, (f2 b hb).2⟩, by rw [hp3, Heap.size_push]; exact Nat.lt_succ_of_lt lt⟩
  have st3 : tn 0 s3.heap := T.keep _ _ _ st2 fun b _ o e => by rw [hp3]; exact Heap.get?_push_of_some _ e
  generalize eH : upd H2 D (NdOG KT X.prog X.w D []) = H3 at I3 w0 f3
  have I4 := block_start I3 ok nd f3
  have pg := hg s3 H3 s3.heap.objs.size (cellsFrom (s3.heap.objs.size + 1) sc.names (cloFrom X.env.cells sc.names [])) fp
  have pt := ht s3 H3 s3.heap.objs.size (cellsFrom (s3.heap.objs.size + 1) sc.names (cloFrom X.env.cells sc.names [])) fp
  have pk := hk s3 H3 s3.heap.objs.size (cellsFrom (s3.heap.objs.size + 1) sc.names (cloFrom X.env.cells sc.names [])) fp
  have pv := hv s3 H3 s3.heap.objs.size (cellsFrom (s3.heap.objs.size + 1) sc.names (cloFrom X.env.cells sc.names [])) fp
  show codeAny _ _ (.compStart (.DictComp kx vx [⟨tg, it, cs, 0⟩] sc pos) 0 (.ref ia) (.ref D) (compEnvC sc (cellsFrom (s3.heap.objs.size + 1) sc.names (cloFrom X.env.cells sc.names [])) s3.heap.objs.size X.env))
    (compPost (model X.prog X.w) X.A X.xe none (EP X pn sg Q) (.ref D) s3.heap.objs.size) { s3 with heap := pushCells (s3.heap.push { cls := .type "dict", data := .dict #[] }) sc.names }
  have nf : ∀ b ∈ fp, H3 b = none := fun b hb => (f3 b hb).1.1
  generalize ec : compEnvC sc (cellsFrom (s3.heap.objs.size + 1) sc.names (cloFrom X.env.cells sc.names [])) s3.heap.objs.size X.env = ce at I4 pg pt pk pv ⊢
  have cl : ce.locals = s3.heap.objs.size := by
    rw [← ec]
    rfl
  generalize e4 : ({ s3 with heap := pushCells (s3.heap.push { cls := .type "dict", data := .dict #[] }) sc.names } : Shared) = s4 at I4 ⊢
  have st4 : tn 0 s4.heap := T.keep _ _ _ st3 fun b _ o e => by
    rw [← e4]
    exact pushCells_keeps _ _ _ _ (Heap.get?_push_of_some _ e)
  have fo : ∀ {sg' : L2.St} {H' : Hp} {s' : Shared}, Inv (X.blk s3 H3 sc ce fp) [] sg' H' s' → (∀ b ∈ fp, H' b = none) → ∀ b ∈ fp, FpOk (X.blk s3 H3 sc ce fp) [] H' b := fun {sg' H' s'} I' hn b hb =>
    ⟨hn b hb, (I'.ok.exf b hb).1, I'.ok.exfs b hb, .inl hb, (I'.ok.exf b hb).2, fun p hp => absurd hp (by simp)⟩
  refine codeAny_compStart_dict ?_ (T.self X.A 0 _ _ _ st4 ?_) <;>
  refine compLoop_anyD (fun n s' => ∃ i H', Inv (X.blk s3 H3 sc ce fp) [] (wipe sg (own.map (·.2))) H' s' ∧ tn i s'.heap ∧ (∀ b ∈ fp, H' b = none) ∧ W i n H') ?_ m0 ⟨0, H3, I4, st4, nf, w0⟩ <;>
  · rintro n s5 ⟨i, H5, I5, st5, n5, w5⟩
    rcases turn i n H5 w5 with ⟨stop, qq⟩ | ⟨go, Nx, hN, step⟩
    · refine thnF (T.done (X.blk s3 H3 sc ce fp) rfl rfl rfl hc i [] s5 _ H5 (fun _ _ => False) I5 (fo I5 n5) st5 stop) fun r s6 ⟨hr, I6⟩ => ?_
      subst hr
      have I7 : Inv X pn sg H5 s6 := I3.call' (ch := fp) I6.os I6.base I6.hok I6.bare fun b hb => ⟨(f3 b hb).1.2.2.2.1, (f3 b hb).1.2.1, (f3 b hb).1.2.2.2.2.1, (f3 b hb).1.2.2.2.2.2⟩
      have nC : H5 s3.heap.objs.size = none := by
        rw [← cl]
        exact I6.free
      obtain ⟨m, hn, _⟩ := I6.loc
      refine ⟨m, by rw [← cl]; exact hn, fun h'' sb => ?_⟩
      obtain ⟨g0, g1, g2, g3, g4, g5⟩ := I3.fpOk (b := s3.heap.objs.size) (Nat.le_refl _) nC
      exact ⟨.ref D, H5, I7.turned (t' := s6.toks) (fun b o hb e => (sb.2 b hb).trans e) g0 g1 g3 g4 g5, rfl, qq⟩
    · refine thnF (T.item (X.blk s3 H3 sc ce fp) rfl rfl rfl hc i [] s5 _ H5 (fun _ _ => False) I5 (fo I5 n5) st5 go) fun r s6 ⟨u, hr, h6⟩ => ?_
      subst hr
      refine thnF h6 fun _ s7 ⟨x, H7, I7, r7, y7, st7, n7⟩ => ?_
      have I8 := I7.pinned (fo I7 n7) (T.obj _ _ st7)
      refine thnF (pg.run _ s7 _ H7 x u _ I8 r7 (step x H7 y7)) fun _ s8 ⟨sg8, H8, I9, hw8, q8⟩ => ?_
      refine thnF (pt.run _ s8 sg8 H8 _ I9 q8) fun b s9 ⟨H9, I10, q9⟩ => ?_
      have fin : ∀ {s' : Shared} {H' : Hp}, Inv (X.blk s3 H3 sc ce fp) ([] ++ pinsAt fp s7.heap) sg8 H' s' → Nx H' → ∃ m, m < n ∧ ∃ i H', Inv (X.blk s3 H3 sc ce fp) [] (wipe sg (own.map (·.2))) H' s' ∧ tn i s'.heap ∧ (∀ b ∈ fp, H' b = none) ∧ W i m H' := fun {s' H'} I' nx => by
        obtain ⟨m', hm, w'⟩ := hN H' nx
        have pin : ∀ b ∈ fp, ∀ o, s7.heap.get? b = some o → s'.heap.get? b = some o ∧ H' b = none := fun b hb o e =>
          let z := I'.pin (b, o) (List.mem_append_right _ (List.mem_append_right _ (mem_pinsAt hb e)))
          ⟨z.1, z.2.1⟩
        have hl : (wipe sg (own.map (·.2))).length = sg8.length := by
          rw [← hw8, wipe_length]
        refine ⟨m', hm, i + 1, H', (I'.unpinned (pins := [])).weak hl (fun j v e => (wipe_some (by rw [hw8]; exact e)).1), T.keep _ _ _ st7 fun b hb o e => (pin b hb o e).1, fun b hb => ?_, w'⟩
        obtain ⟨o, e, _⟩ := T.obj _ _ st7 b hb
        exact (pin b hb o e).2
      cases b with
      | false => exact fin I10 (by simpa using q9)
      | true =>
        simp only [if_true] at q9
        refine thnF (pk.run _ s9 sg8 H9 _ I10 q9) fun z s10 ⟨yk, H10, I11, r10, q10⟩ => ?_
        refine thnF (pv.run _ s10 sg8 H10 _ I11 q10) fun z2 s11 ⟨yv, H11, I12, r11, a, kvs, k, ek, hD, hK, hl, nx⟩ => ?_
        subst ek
        cases (show z = Value.ref a from r10)
        exact dn_setG (X := X.blk s3 H3 sc ce fp) I12 hu hD hK hl r11 fun s12 H12 hb hD2 I13 => fin I13 (nx H12 hb hD2)
end

/-! ### its turns -/
theorem dcn_itG {J : It} {n : Nat} {Gd : Hp → Prop} {Y : Nat → Hp → V → Hp → Prop} {K : PySem.W.Frag} {P : Program} {w : World} (wk : Walk J n Gd Y) {g : TG} {tt : TT} {tk tv : TE} {vs : List Nat} {sg : L2.St} {H1 : Hp} {D : Addr} {Qd : Hp → Prop} (Pv : Nat → Hp → Prop)
    (h0 : Pv 0 (upd H1 D (NdOG KT P w D []))) (hG : ∀ i H, i ≤ n → Pv i H → Gd H)
    (turn : ∀ i x H H', i < n → Pv i H → Y i H x H' → g x (wipe sg vs) H' fun s2 H2 => wipe s2 vs = wipe sg vs ∧ tt s2 H2 fun b H3 =>
      if b = true then tk s2 H3 fun y H4 => tv s2 H4 fun z H5 => ∃ a kvs k, y = .ref a ∧ NdG KT K P w H5 D kvs ∧ GyAt K H5 a k ∧ kvs.length < sizeLine ∧ ∀ H6, (∀ b, b ≠ D → H6 b = H5 b) → NdG KT K P w H6 D (putK kvs k z) → Pv (i + 1) H6 else Pv (i + 1) H3) (fin : ∀ H, Pv n H → Qd H) :
    ∃ W : Nat → Nat → Hp → Prop, (∃ m, W 0 m (upd H1 D (NdOG KT P w D []))) ∧ ∀ i m H, W i m H → (J.stop i H ∧ Qd H) ∨ (J.go i H ∧ ∃ Nx : Hp → Prop, (∀ H', Nx H' → ∃ m', m' < m ∧ W (i + 1) m' H') ∧
      ∀ x H', J.yld i H x H' → g x (wipe sg vs) H' fun s2 H2 => wipe s2 vs = wipe sg vs ∧ tt s2 H2 fun b H3 =>
        if b = true then tk s2 H3 fun y H4 => tv s2 H4 fun z H5 => ∃ a kvs k, y = .ref a ∧ NdG KT K P w H5 D kvs ∧ GyAt K H5 a k ∧ kvs.length < sizeLine ∧ ∀ H6, (∀ b, b ≠ D → H6 b = H5 b) → NdG KT K P w H6 D (putK kvs k z) → Nx H6 else Nx H3) := by
  refine ⟨fun i m H => i + m = n ∧ Pv i H, ⟨n, Nat.zero_add n, h0⟩, fun i m H ⟨e, p⟩ => ?_⟩
  have gd := hG i H (by omega) p
  rcases Nat.eq_zero_or_pos m with z | z
  · have e' : i = n := by omega
    subst e'
    exact Or.inl ⟨wk.stops H gd, fin H p⟩
  · have lt : i < n := by omega
    exact Or.inr ⟨wk.goes i H lt gd, Pv (i + 1), fun H' p' => ⟨m - 1, by omega, by omega, p'⟩, fun x H' y => turn i x H H' lt p (wk.yields i H x H' lt gd y)⟩
/-- where but the dict nothing changes -/
theorem NdG.but {K : PySem.W.Frag} {P : Program} {w : World} {H H' : Hp} {d : Addr} {kvs : List (KT × V)} (h : NdG KT K P w H d kvs) (hb : ∀ b, b ≠ d → H' b = H b) : TupS H H' := fun b o e t => by
  obtain ⟨u, e1, _⟩ := h.ex
  have n : b ≠ d := by
    rintro rfl
    rw [e1] at e
    cases e
    rcases t with ⟨ys, t⟩ | ⟨y1, y2, t⟩ <;> cases t
  rw [hb b n]
  exact e
theorem NdG.not_lst {K : PySem.W.Frag} {P : Program} {w : World} {H : Hp} {a d : Addr} {xs : List V} {kvs : List (KT × V)} (h : NdG KT K P w H d kvs) (e : H a = some (.lst xs)) : a ≠ d := by
  rintro rfl
  obtain ⟨u, e1, _⟩ := h.ex
  rw [e1] at e
  cases e
theorem NdG.two {K : PySem.W.Frag} {P : Program} {w : World} {H : Hp} {a d : Addr} {kvs : List (KT × V)} (h : NdG KT K P w H d kvs) (e : H a = none) : a ≠ d := by
  rintro rfl
  obtain ⟨u, e1, _⟩ := h.ex
  rw [e1] at e
  cases e
/-! ### what is put under keys, of any kind -/
section
variable {β γ : Type}
def putEG : List (KT × β) → KT → β → List (KT × β)
  | [], k, v => [(k, v)]
  | p :: ps, k, v => if p.1 = k then (p.1, v) :: ps else p :: putEG ps k v
def getEG : List (KT × β) → KT → Option β
  | [], _ => none
  | p :: ps, k => if p.1 = k then some p.2 else getEG ps k
theorem putE_keysG : ∀ {l : List (KT × β)} {k : KT} {v : β}, (putEG l k v).map (·.1) = if k ∈ l.map (·.1) then l.map (·.1) else l.map (·.1) ++ [k]
  | [], k, v => rfl
  | p :: ps, k, v => by
    unfold putEG
    by_cases z : p.1 = k
    · rw [if_pos z, if_pos (by rw [List.map_cons, z]; exact List.mem_cons_self)]
      rfl
    · rw [if_neg z, List.map_cons, List.map_cons, putE_keysG (l := ps)]
      by_cases y : k ∈ ps.map (·.1)
      · rw [if_pos y, if_pos (List.mem_cons_of_mem _ y)]
      · rw [if_neg y, if_neg (fun q => (List.mem_cons.mp q).elim (fun e => z e.symm) y)]
        rfl
theorem putE_nodupG {l : List (KT × β)} (h : (l.map (·.1)).Nodup) (k : KT) (v : β) : ((putEG l k v).map (·.1)).Nodup := by
  rw [putE_keysG]
  by_cases y : k ∈ l.map (·.1)
  · rw [if_pos y]
    exact h
  · rw [if_neg y]
    refine List.nodup_append.mpr ⟨h, List.nodup_cons.mpr ⟨fun z => (by cases z), List.nodup_nil⟩, fun a ha b hb => ?_⟩
    rw [List.mem_singleton.mp hb]
    rintro rfl
    exact y ha
theorem putE_newG {l : List (KT × β)} {k : KT} {v : β} (h : k ∉ l.map (·.1)) : putEG l k v = l ++ [(k, v)] := by
  induction l with
  | nil => rfl
  | cons p ps ih =>
    unfold putEG
    rw [List.map_cons, List.mem_cons, not_or] at h
    rw [if_neg (fun z => h.1 z.symm), ih h.2]
    rfl
theorem getE_memG {l : List (KT × β)} {k : KT} (h : k ∈ l.map (·.1)) : ∃ v, getEG l k = some v := by
  induction l with
  | nil => cases h
  | cons p ps ih =>
    unfold getEG
    by_cases z : p.1 = k
    · exact ⟨p.2, if_pos z⟩
    · rw [if_neg z]
      exact ih ((List.mem_cons.mp h).resolve_left fun q => z q.symm)
theorem putK_EG (l : List (KT × V)) (hn : (l.map (·.1)).Nodup) (k : KT) (v : V) : putK l k v = putEG l k v := by
  induction l with
  | nil => rfl
  | cons p ps ih =>
    rw [List.map_cons, List.nodup_cons] at hn
    have ih' := ih hn.2
    unfold putK at ih' ⊢
    unfold putEG
    by_cases z : p.1 = k
    · have rest : ps.map (fun kv => if kv.1 = k then (kv.1, v) else kv) = ps := by
        have nk : k ∉ ps.map (·.1) := by
          rw [← z]
          exact hn.1
        clear ih ih' hn
        induction ps with
        | nil => rfl
        | cons q qs ih2 =>
          rw [List.map_cons, List.mem_cons, not_or] at nk
          rw [List.map_cons, if_neg (fun y => nk.1 y.symm), ih2 nk.2]
      rw [if_pos (by simp [z]), if_pos z, List.map_cons, if_pos z, rest]
    · rw [if_neg z, List.any_cons, List.map_cons, if_neg z, decide_eq_false z, Bool.false_or, ← ih']
      split <;> rfl
end

abbrev NdPairG (kvs : List (KT × V)) (xs : List (KT × Addr × Value)) : Prop := Paired (fun (p : KT × V) (q : KT × Addr × Value) => p.1 = q.1 ∧ RelV p.2 q.2.2) kvs xs
theorem ndPair_ofG {K : PySem.W.Frag} {H : Hp} {kvs : List (KT × V)} {xs : List (KT × Addr × Value)} (r : Paired (fun p q => p.1 = q.1 ∧ GyAt K H q.2.1 p.1 ∧ RelV p.2 q.2.2) kvs xs) : NdPairG kvs xs := Paired.mapP r fun _ _ z => ⟨z.1, z.2.2⟩
/-- the pairs of the dict at d while it stands locked: the key's own tuple, and the value, in a new tuple -/
def JtnG (P : Program) (w : World) (d : Addr) (o : Obj) (kvs : List (KT × V)) (xs : List (KT × Addr × Value)) : It :=
  ⟨fun i H => H d = some (.frz o (NdOG KT P w d xs)) ∧ i < kvs.length, fun i H x H' => ∃ TT k v q, kvs[i]? = some (k, v) ∧ xs[i]? = some q ∧ x = .ref TT ∧ H TT = none ∧ H' = upd H TT (.tup [.ref q.2.1, v]), fun i H => H d = some (.frz o (NdOG KT P w d xs)) ∧ kvs.length ≤ i⟩
section
variable {X : Cx} {pn : List (Addr × Obj)} {sg : L2.St} {H : Hp} {s : Shared} {d : Addr} {o : Obj} {kvs : List (KT × V)} {xs : List (KT × Addr × Value)}
theorem frzNG (I : Inv X pn sg H s) (h : H d = some (.frz o (NdOG KT X.prog X.w d xs))) : (d == sysModules) = false ∧ ∃ es ep, DT.Raw s.heap d es ep ∧ s.heap.get? d = some o ∧ o.data = .dict es ep ∧ es.size = xs.length ∧ ∀ (i : Nat) q, xs[i]? = some q → ∃ e, es[i]? = some e ∧ e.key = .ref q.2.1 ∧ e.val = q.2.2 := by
  obtain ⟨h0, ⟨hz, hd, o', es, ep, g1, g2, g3, g4, g5⟩, _, _⟩ := (show ObjOk X.prog X.w H s.heap d (.frz o (NdOG KT X.prog X.w d xs)) from I.hok d _ h)
  rw [h0] at g1
  cases g1
  refine ⟨hd, es, ep, ⟨o, h0, g2, g3⟩, h0, g3, ?_, fun i q e => ?_⟩
  · rw [← Array.length_toList, g4, List.length_map]
  · refine ⟨entryOfKey (gkKind KT X.prog X.w) q, ?_, rfl, rfl⟩
    rw [← Array.getElem?_toList, g4, List.getElem?_map, e]
    rfl
end
theorem turn_jtnG {P : Program} {w : World} {K : PySem.W.Frag} {d : Addr} {o : Obj} {es : Array DictEntry} {ep : Nat} {kvs : List (KT × V)} {xs : List (KT × Addr × Value)} {elts : List Expr} {kk : Nat} {tpos : Pos} (it : Addr) (hod : o.data = .dict es ep) (pr : NdPairG kvs xs) :
    Turn P w K (.Tuple elts kk tpos) (JtnG P w d o kvs xs) [it] it (fun i h => ∃ ok ov, IsItemIter h it d i kvs.length ep ok ov) where
  mem := by simp
  obj := fun i h st b hb => by
    have e : b = it := by simpa using hb
    subst e
    obtain ⟨ok, ov, e⟩ := st
    exact ⟨_, e, fun v z => nomatch z⟩
  keep := fun i h h' st k => let ⟨ok, ov, e⟩ := st; ⟨ok, ov, k it (by simp) _ e⟩
  item := by
    intro X hP hw hK hc i pins s σ H E I hf st hg
    subst hP hw hK
    obtain ⟨hd, hi⟩ := hg
    obtain ⟨hs, es', ep', raw, ho, hdt, hsz, get⟩ := frzNG I hd
    obtain ⟨rfl, rfl⟩ := raw_eq (h := s.heap) (d := d) hod hdt
    have hl := Paired.length pr
    obtain ⟨⟨k, v⟩, hkv⟩ : ∃ p, kvs[i]? = some p := ⟨kvs[i], List.getElem?_eq_getElem hi⟩
    obtain ⟨q, eq, _, rq⟩ := pairedGet pr hkv
    obtain ⟨e, ee, ek, ev⟩ := get i q eq
    obtain ⟨ok, ov, he⟩ := st
    have hn : kvs.length = es'.size := by omega
    rw [hn] at he
    have hie : i < es'.size := by omega
    obtain rfl : es'[i] = e := by
      rw [Array.getElem?_eq_getElem hie] at ee
      exact Option.some.inj ee
    have hlt : it < s.heap.objs.size := Heap.lt_size he
    refine DT.nextI he raw hie fun h' hO hT hz hk => ?_
    refine ⟨_, rfl, wpAny_letOwnedTupleGo_items (s := { s with heap := h' }) hO fun h'' he' sb => ?_⟩
    have hT2 : h''.get? s.heap.objs.size = some { cls := .type "tuple", data := .seq #[.ref q.2.1, q.2.2] } := by
      rw [← ek, ← ev]
      exact (sb.2 _ (Nat.ne_of_gt hlt)).trans hT
    have new : ObjOk X.prog X.w (upd H s.heap.objs.size (.tup [.ref q.2.1, v])) h'' s.heap.objs.size (.tup [.ref q.2.1, v]) :=
      ⟨by show 2 ≤ sizeLine; decide, [.ref q.2.1, q.2.2], .cons rfl (.cons rq .nil), ⟨_, hT2, rfl, _, rfl⟩⟩
    have I1 : Inv X pins σ (upd H s.heap.objs.size (.tup [.ref q.2.1, v])) { s with heap := h'' } :=
      I.turnedNew (t' := s.toks) (ch := [it]) (fun b ob hb e => (sb.2 b (by simpa using hb)).trans (hk b ob (by simpa using hb) e)) hf (Nat.le_refl _) new
    refine ⟨.ref s.heap.objs.size, _, I1, rfl, ⟨_, k, v, q, hkv, eq, rfl, I.hok.fresh (Nat.le_refl _), rfl⟩, ⟨es'[i].key, es'[i].val, ?_⟩, fun b hb => ?_⟩
    · rw [hn]
      exact he'
    · have e : b = it := by simpa using hb
      rw [e, upd_ne (Nat.ne_of_lt hlt)]
      exact (hf it (by simp)).1
  done := by
    intro X hP hw hK hc i pins s σ H E I hf st hg
    subst hP hw hK
    obtain ⟨hd, hi⟩ := hg
    obtain ⟨f0, f1, f2, f3, f4, f5⟩ := hf it (by simp)
    obtain ⟨hs, es', ep', raw, ho, hdt, hsz, get⟩ := frzNG I hd
    obtain ⟨rfl, rfl⟩ := raw_eq (h := s.heap) (d := d) hod hdt
    have hl := Paired.length pr
    obtain ⟨ok, ov, he⟩ := st
    have hn : kvs.length = es'.size := by omega
    rw [hn] at he
    exact DT.endI (I.ok.hd hc) he raw (by omega) fun h' eb => ⟨rfl, I.turned (t' := s.toks) (fun b ob hb e => eb b ob hb e) f0 f1 f3 f4 f5⟩
  self := fun A i s Q E st h => let ⟨_, _, e⟩ := st; PySem.W.kcp_self e h
/-- the dict is locked ahead of it -/
def iJtnG (KT : Type) [DecidableEq KT] [KC KT] (P : Program) (w : World) (td : TE) : TI := fun σ H R => td σ H fun x H1 => ∃ d o kvs xs, x = .ref d ∧ H1 d = some (.frz o (NdOG KT P w d xs)) ∧ NdPairG kvs xs ∧ R (JtnG P w d o kvs xs) H1
theorem pi_jtnG {X : Cx} {e : Expr} {td : TE} {apos cpos : Pos} {elts : List Expr} {kk : Nat} {tpos : Pos} (he : PE X e td) (hbase : attributeBase e "items" X.env (eval e X.env) = eval e X.env := by rfl) (hline : (apos.endLine == cpos.line) = true := by rfl) :
    PI X (.Tuple elts kk tpos) (.Call (.Attribute e "items" apos) [] [] cpos) (iJtnG KT X.prog X.w td) := by
  refine ⟨fun pins s σ H R I h => ?_⟩
  refine wpAny_Call_method (T := "dict") (id := "dict.items") hbase rfl hline F.plainAttrs_dict F.slot_dict_items F.type_dict_items (thn (he.run pins s σ H _ I h) fun u s1 ⟨x, H1, I1, rx, d, o, kvs, xs, ex, hd, pr, q⟩ => ?_)
  subst ex
  obtain rfl : u = Value.ref d := rx
  obtain ⟨hs, es, ep, raw, ho, hdt, hsz, get⟩ := frzNG I1 hd
  have hl := Paired.length pr
  refine ⟨raw.typeIs, fun b e => ?_, ?_⟩
  · cases e
    obtain ⟨ob, g1, g2, _⟩ := raw
    exact ⟨ob, g1, g2.2.1⟩
  have I2 : Inv X pins σ H1 { s1 with heap := s1.heap.push { cls := .type "dict_items", data := .fields #[.ref d] } } := I1.kept (t' := s1.toks) fun b ob q => Heap.get?_push_of_some _ q
  have fin : wpAny (model X.prog X.w) X.A (pyIter (.ref s1.heap.objs.size)) (PIE X pins σ (.Tuple elts kk tpos) R) X.xe { s1 with heap := s1.heap.push { cls := .type "dict_items", data := .fields #[.ref d] } } := by
    refine DT.iterI (s := { s1 with heap := s1.heap.push { cls := .type "dict_items", data := .fields #[.ref d] } }) (d := d) (es := es) (ep := ep) ⟨_, Heap.get?_push_size _ rfl, rfl, rfl⟩ (raw.push _) (pi_one (tk := s1.toks) I2 _ (turn_jtnG _ hdt pr) ⟨.none, .none, ?_⟩ q)
    rw [show kvs.length = es.size by omega]
    exact Heap.get?_push_size _ rfl
  show wpAny _ _ (callWith cpos (.builtin "dict.items") [.ref d] [] []) _ X.xe s1
  exact method_meetsIn F.slot_dict_items F.entry_dict_items rfl (PySem.evalArgs_none ⟨rfl, raw.typeIs, F.args_dict_items_1 _, _, DT.meetsItems (es := es) (ep := ep) hs, ⟨raw, fin⟩⟩)
def YNdG (kvs : List (KT × V)) (xs : List (KT × Addr × Value)) : Nat → Hp → V → Hp → Prop := fun i H x H' => ∃ TT k v q, kvs[i]? = some (k, v) ∧ xs[i]? = some q ∧ x = .ref TT ∧ H TT = none ∧ H' = upd H TT (.tup [.ref q.2.1, v])
theorem walk_jtnG {P : Program} {w : World} {d : Addr} {o : Obj} {kvs : List (KT × V)} {xs : List (KT × Addr × Value)} : Walk (JtnG P w d o kvs xs) kvs.length (fun H => H d = some (.frz o (NdOG KT P w d xs))) (YNdG kvs xs) :=
  ⟨fun _ _ hi q => ⟨q, hi⟩, fun _ q => ⟨q, Nat.le_refl _⟩, fun _ _ _ _ _ _ y => y⟩

abbrev NdPrG (K : PySem.W.Frag) (H : Hp) (kvs : List (KT × V)) (xs : List (KT × Addr × Value)) : Prop := Paired (fun p q => p.1 = q.1 ∧ GyAt K H q.2.1 p.1 ∧ RelV p.2 q.2.2) kvs xs
theorem atKey_memG {K : PySem.W.Frag} {H : Hp} {kvs : List (KT × V)} {xs : List (KT × Addr × Value)} (r : NdPrG K H kvs xs) (k : KT) : (atKey xs k).isSome = decide (k ∈ kvs.map (·.1)) := by
  induction r with
  | nil => rfl
  | @cons p q ps qs h t ih =>
    obtain ⟨h1, _, _⟩ := h
    by_cases z : p.1 = k
    · have z' : q.1 = k := h1.symm.trans z
      have e : atKey (q :: qs) k = some q.2 := by simp [atKey, List.find?_cons, z']
      rw [e]
      simp [z]
    · have z' : ¬ q.1 = k := fun y => z (h1.trans y)
      have e : atKey (q :: qs) k = atKey qs k := by simp [atKey, List.find?_cons, z']
      have z2 : ¬ k = p.1 := fun y => z y.symm
      rw [e, ih]
      simp [z2]
/-- a dict that is locked (it is gone through) -/
structure NdFG (KT : Type) [DecidableEq KT] [KC KT] (K : PySem.W.Frag) (P : Program) (w : World) (H : Hp) (d : Addr) (o : Obj) (kvs : List (KT × V)) : Prop where
  ex : ∃ xs, H d = some (.frz o (NdOG KT P w d xs)) ∧ NdPrG K H kvs xs
theorem NdFG.same {K : PySem.W.Frag} {P : Program} {w : World} {H H' : Hp} {d : Addr} {o : Obj} {kvs : List (KT × V)} (s : Same H H') (h : NdFG KT K P w H d o kvs) : NdFG KT K P w H' d o kvs := by
  obtain ⟨xs, h1, h2⟩ := h.ex
  exact ⟨xs, s _ _ h1, Paired.mapP h2 fun p q z => ⟨z.1, z.2.1.same s, z.2.2⟩⟩
section
variable {X : Cx} {pn : List (Addr × Obj)} {sg : L2.St} {H : Hp} {s : Shared} {d : Addr} {o : Obj} {kvs : List (KT × V)} {xs : List (KT × Addr × Value)}
theorem keys_isG (I : Inv X pn sg H s) (h2 : NdPrG X.K H kvs xs) : ∀ x ∈ xs, (gkKind KT X.prog X.w).is s.heap x.1 x.2.1 := by
  induction h2 with
  | nil => intro x hx; cases hx
  | @cons p q ps qs hq t ih =>
    intro x hx
    rcases List.mem_cons.mp hx with e | hx
    · subst e
      exact GyAt.is I (by rw [← hq.1]; exact hq.2.1)
    · exact ih x hx
theorem frz_ofG (I : Inv X pn sg H s) (h : H d = some (.frz o (NdOG KT X.prog X.w d xs))) (h2 : NdPrG X.K H kvs xs) : xs.length ≤ sizeLine ∧ (d == sysModules) = false ∧ s.heap.DictOfH (gkKind KT X.prog X.w) d xs := by
  obtain ⟨h0, ⟨hz, hd, o', es, ep, g1, g2, g3, g4, g5⟩, _, _⟩ := (show ObjOk X.prog X.w H s.heap d (.frz o (NdOG KT X.prog X.w d xs)) from I.hok d _ h)
  exact ⟨hz, hd, o', es, ep, g1, g2, g3, g4, keys_isG I h2, g5⟩
end
section
variable {X : Cx}
def rLenNG (KT : Type) [DecidableEq KT] [KC KT] (K : PySem.W.Frag) (P : Program) (w : World) : List V → Hp → VK → Prop := fun vs H Q => ∃ d kvs, vs = [.ref d] ∧ NdG KT K P w H d kvs ∧ Q (.int (kvs.length : Nat)) H
theorem cr_lenNG : CallR X (.builtin "len") (rLenNG KT X.K X.prog X.w) := by
  intro pn s sg H vs us Q I r hyp
  obtain ⟨d, kvs, rfl, hN, q⟩ := hyp
  obtain ⟨u, rfl, r1⟩ := vals1 r
  cases (show u = Value.ref d from r1)
  obtain ⟨xs, h1, h2⟩ := hN.ex
  obtain ⟨hz, hd, hm⟩ := NdG.of I h1 h2
  have hl := Paired.length h2
  refine call_len_dictH hd hm (by rw [sizeLine_eq] at hz; omega) ?_
  rw [← hl]
  exact ⟨.int ((kvs.length : Nat) : Int), H, I.tok _, ⟨_, rfl⟩, q⟩
def rInNG (KT : Type) [DecidableEq KT] [KC KT] (K : PySem.W.Frag) (P : Program) (w : World) : R2 := fun x y H Q => ∃ a d kvs k, x = .ref a ∧ y = .ref d ∧ NdG KT K P w H d kvs ∧ GyAt K H a k ∧ Q (.bl (decide (k ∈ kvs.map (·.1)))) H
theorem op_inNG (hu : X.A.units + 20 < cLine) : OpR X (compareOp .In) (rInNG KT X.K X.prog X.w) := by
  intro pn s sg H vx vy ux uy Q I r1 r2 hyp
  obtain ⟨a, d, kvs, k, rfl, rfl, hN, hk, q⟩ := hyp
  cases (show ux = Value.ref a from r1)
  cases (show uy = Value.ref d from r2)
  obtain ⟨xs, h1, h2⟩ := hN.ex
  obtain ⟨hz, hd, hm⟩ := NdG.of I h1 h2
  show wpAny _ _ (do return Value.bool (← contains (.ref d) (.ref a))) _ _ s
  refine wpAny_bind (wpAny_contains_heap (knd := gkKind KT X.prog X.w) (k := k) (show X.A.units + 1 + 8 < cLine by omega) (hk.is I) hd hm ?_)
  rw [atKey_memG h2]
  exact wpAny_pure ⟨.bl _, H, I.tok _, rfl, q⟩
def rNgetFG (KT : Type) [DecidableEq KT] [KC KT] (K : PySem.W.Frag) (P : Program) (w : World) : R2 := fun x y H Q => ∃ d o a kvs k v, x = .ref d ∧ y = .ref a ∧ NdFG KT K P w H d o kvs ∧ GyAt K H a k ∧ getNG kvs k = some v ∧ Q v H
theorem ix_ndFG (hu : X.A.units + 9 < cLine) : IxR X (rNgetFG KT X.K X.prog X.w) := by
  intro vl sl pn s sg H x y v u Q I r1 r2 hyp hs
  obtain ⟨d, o, a, kvs, k, z, rfl, rfl, hN, hk, e, q⟩ := hyp
  cases (show v = Value.ref d from r1)
  cases (show u = Value.ref a from r2)
  obtain ⟨xs, h1, h2⟩ := hN.ex
  obtain ⟨hz, hd, hm⟩ := frz_ofG I h1 h2
  obtain ⟨p, e1, e2⟩ := nd_getG h2 e
  exact subscriptTail_builtinR (x := p.2) hm.typeIs slot_dict_getitem.lookup (wpAny_getItem_heap (knd := gkKind KT X.prog X.w) (Q := fun r s' => r = p.2 ∧ EP X pn sg Q r s') (show X.A.in1.units + 8 < cLine by show X.A.units + 1 + 8 < cLine; omega) (hk.is I) hm e1 ⟨rfl, z, H, I.tok _, e2, q⟩) hs
def rClearNG (KT : Type) [DecidableEq KT] [KC KT] (K : PySem.W.Frag) (P : Program) (w : World) : V → List V → Hp → VK → Prop := fun x vs H Q => ∃ d kvs, x = .ref d ∧ vs = [] ∧ NdG KT K P w H d kvs ∧ ∀ H', (∀ b, b ≠ d → H' b = H b) → NdG KT K P w H' d [] → Q .non H'
theorem mt_clearNG : MtR X "dict.clear" (rClearNG KT X.K X.prog X.w) := by
  intro pn s sg H x vs v us Q I rx rv hyp
  obtain ⟨d, kvs, rfl, rfl, hN, q⟩ := hyp
  obtain rfl : v = Value.ref d := rx
  have hus := rv.zero
  subst hus
  obtain ⟨xs, h1, h2⟩ := hN.ex
  obtain ⟨hz, hd, hm⟩ := NdG.of I h1 h2
  obtain ⟨o, es, ep, g1, g2, g3, g4, g5, g6⟩ := id hm
  have sz : es.size = xs.length := by rw [← Array.length_toList, g4, List.length_map]
  refine call_meetsIn PySem.F.slot_dict_clear hm.typeIs PySem.F.entry_dict_clear (PySem.F.args_dict_clear_1 _) (meets_dict_clear_raw d) ⟨es, ep, ⟨o, g1, g2, g3⟩, by rw [sz]; exact hz, fun h' hr hs => ?_⟩
  obtain ⟨o2, k1, k2, k3⟩ := hr
  have mu : Mut (H d) := by
    rw [h1]
    exact True.intro
  have dd : h'.DictOfH (gkKind KT X.prog X.w) d [] := ⟨o2, #[], ep + 1, k1, k2, k3, rfl, (fun x hx => absurd hx (List.not_mem_nil)), List.nodup_nil⟩
  have I2 : Inv X pn sg (upd H d (NdOG KT X.prog X.w d [])) { s with heap := h', toks := s.toks } := d_write I mu hs ⟨o2, k1⟩ (ndO_okG (Nat.zero_le _) hd dd)
  show EP X pn sg Q .none _
  exact ⟨.non, _, I2, rfl, q _ (fun b hb => upd_ne hb) ⟨[], upd_same, .nil⟩⟩
end
/-! ### the keys, one by one -/
def JknG (P : Program) (w : World) (d : Addr) (o : Obj) (kvs : List (KT × V)) (xs : List (KT × Addr × Value)) : It :=
  ⟨fun i H => H d = some (.frz o (NdOG KT P w d xs)) ∧ i < kvs.length, fun i H x H' => H' = H ∧ ∃ k v q, kvs[i]? = some (k, v) ∧ xs[i]? = some q ∧ x = .ref q.2.1, fun i H => H d = some (.frz o (NdOG KT P w d xs)) ∧ kvs.length ≤ i⟩
theorem turn_jknG {P : Program} {w : World} {K : PySem.W.Frag} {tg : Expr} {d : Addr} {o : Obj} {es : Array DictEntry} {ep : Nat} {kvs : List (KT × V)} {xs : List (KT × Addr × Value)} (it : Addr) (hod : o.data = .dict es ep) (pr : NdPairG kvs xs) : Turn P w K tg (JknG P w d o kvs xs) [it] it (fun i h => h.IsKeyIter it d i kvs.length ep) where
  mem := by simp
  obj := fun i h st b hb => by
    have e : b = it := by simpa using hb
    subst e
    obtain ⟨oi, e, c, dd⟩ := st
    exact ⟨oi, e, fun v z => by rw [dd] at z; cases z⟩
  keep := fun i h h' st k => st.at fun oi e => k it (by simp) oi e
  item := by
    intro X hP hw hK hc i pins s σ H E I hf st hg
    subst hP hw hK
    obtain ⟨hd, hi⟩ := hg
    obtain ⟨f0, f1, f2, f3, f4, f5⟩ := hf it (by simp)
    obtain ⟨hs, es', ep', raw, ho, hdt, hsz, get⟩ := frzNG I hd
    obtain ⟨rfl, rfl⟩ := raw_eq (h := s.heap) (d := d) hod hdt
    have hl := Paired.length pr
    obtain ⟨⟨k, v⟩, hkv⟩ : ∃ p, kvs[i]? = some p := ⟨kvs[i], List.getElem?_eq_getElem hi⟩
    obtain ⟨q, eq, _, rq⟩ := pairedGet pr hkv
    obtain ⟨en, hen, hkey, ev⟩ := get i q eq
    refine next_key_item st ho hdt (by omega) hen fun h' st' sb => ?_
    have I1 : Inv X pins σ H { s with heap := h' } := I.turned (t' := s.toks) (fun b ob hb e => (sb.2 b hb).trans e) f0 f1 f3 f4 f5
    obtain ⟨oi, e, c, dd⟩ := id st'
    exact ⟨en.key, rfl, go_of (s := { s with heap := h' }) e c dd (by decide) ⟨.ref q.2.1, H, I1, hkey, ⟨rfl, k, v, q, hkv, eq, rfl⟩, st', fun b hb => (hf b hb).1⟩⟩
  done := by
    intro X hP hw hK hc i pins s σ H E I hf st hg
    subst hP hw hK
    obtain ⟨hd, hi⟩ := hg
    obtain ⟨f0, f1, f2, f3, f4, f5⟩ := hf it (by simp)
    obtain ⟨hs, es', ep', raw, ho, hdt, hsz, get⟩ := frzNG I hd
    obtain ⟨rfl, rfl⟩ := raw_eq (h := s.heap) (d := d) hod hdt
    have hl := Paired.length pr
    exact next_key_end (I.ok.hd hc) st ho hdt (by omega) hi fun h' eb => ⟨rfl, I.turned (t' := s.toks) (fun b ob hb e => eb b ob hb e) f0 f1 f3 f4 f5⟩
  self := fun A i s Q E st h => by
    refine wpAny_pyIter_slot st.typeIs F.slot_dict_keyiterator_iter (wpAny_call_entry F.slot_dict_keyiterator_iter st.typeIs F.entry_dict_keyiterator_iter ?_ (F.args_dict_keyiterator_iter_1 _))
    show wpAny _ _ (ret (.ref it)) _ _ s
    exact wpAny_pure ⟨_, rfl, "dict_keyiterator", _, st.typeIs, F.slot_dict_keyiterator_next.lookup, h⟩
def iJknG (KT : Type) [DecidableEq KT] [KC KT] (P : Program) (w : World) (td : TE) : TI := fun σ H R => td σ H fun x H1 => ∃ d o kvs xs, x = .ref d ∧ H1 d = some (.frz o (NdOG KT P w d xs)) ∧ NdPairG kvs xs ∧ R (JknG P w d o kvs xs) H1
theorem pi_jknG {X : Cx} {tg e : Expr} {td : TE} (he : PE X e td) : PI X tg e (iJknG KT X.prog X.w td) := by
  refine ⟨fun pins s σ H R I h => ?_⟩
  refine thn (he.run pins s σ H _ I h) fun u s1 ⟨x, H1, I1, rx, d, o, kvs, xs, ex, hd, pr, q⟩ => ?_
  subst ex
  obtain rfl : u = Value.ref d := rx
  obtain ⟨hs, es, ep, raw, ho, hdt, hsz, get⟩ := frzNG I1 hd
  have hl := Paired.length pr
  obtain ⟨o', ho', hx, hdt'⟩ := id raw
  refine iter_keys hs ho' hx hdt' (pi_one (tk := s1.toks) I1 _ (turn_jknG _ hdt pr) ?_ q)
  rw [show kvs.length = es.size by omega]
  exact ⟨_, Heap.get?_push_size _ rfl, rfl, rfl⟩
theorem walk_jknG {P : Program} {w : World} {d : Addr} {o : Obj} {kvs : List (KT × V)} {xs : List (KT × Addr × Value)} : Walk (JknG P w d o kvs xs) kvs.length (fun H => H d = some (.frz o (NdOG KT P w d xs))) (fun i H x H' => H' = H ∧ ∃ k v q, kvs[i]? = some (k, v) ∧ xs[i]? = some q ∧ x = .ref q.2.1) :=
  ⟨fun i H hi q => ⟨q, hi⟩, fun H q => ⟨q, Nat.le_refl _⟩, fun i H x H' _ _ y => y⟩

section
variable {X : Cx}
theorem getN_noneG {K : PySem.W.Frag} {H : Hp} {kvs : List (KT × V)} {xs : List (KT × Addr × Value)} (r : Paired (fun p q => p.1 = q.1 ∧ GyAt K H q.2.1 p.1 ∧ RelV p.2 q.2.2) kvs xs) {k : KT} : (atKey xs k = none → getNG kvs k = none) ∧ ∀ p, atKey xs k = some p → ∃ v, getNG kvs k = some v ∧ RelV v p.2 := by
  induction r with
  | nil => exact ⟨fun _ => rfl, fun p e => by cases e⟩
  | @cons p q ps qs h t ih =>
    obtain ⟨h1, h2, h3⟩ := h
    unfold getNG
    by_cases z : p.1 = k
    · have z' : q.1 = k := h1.symm.trans z
      have e : atKey (q :: qs) k = some q.2 := by simp [atKey, List.find?_cons, z']
      rw [if_pos z, e]
      exact ⟨fun y => by (cases y), fun p' y => by (cases y; exact ⟨_, rfl, h3⟩)⟩
    · have z' : ¬ q.1 = k := fun y => z (h1.trans y)
      have e : atKey (q :: qs) k = atKey qs k := by simp [atKey, List.find?_cons, z']
      rw [if_neg z, e]
      exact ih
def dropNG (kvs : List (KT × V)) (k : KT) : List (KT × V) := kvs.filter fun p => decide (p.1 ≠ k)
theorem nd_dropG {K : PySem.W.Frag} {H : Hp} {kvs : List (KT × V)} {xs : List (KT × Addr × Value)} (r : Paired (fun p q => p.1 = q.1 ∧ GyAt K H q.2.1 p.1 ∧ RelV p.2 q.2.2) kvs xs) (k : KT) : Paired (fun p q => p.1 = q.1 ∧ GyAt K H q.2.1 p.1 ∧ RelV p.2 q.2.2) (dropNG kvs k) (DT.dropH xs k) := by
  unfold dropNG DT.dropH
  induction r with
  | nil => exact .nil
  | @cons p q ps qs h t ih =>
    by_cases z : p.1 = k
    · rw [List.filter_cons_of_neg (by simp [z]), List.filter_cons_of_neg (by simp [← h.1, z])]
      exact ih
    · rw [List.filter_cons_of_pos (by simp [z]), List.filter_cons_of_pos (by simp [← h.1, z])]
      exact .cons h ih
def rPopNG (KT : Type) [DecidableEq KT] [KC KT] (K : PySem.W.Frag) (P : Program) (w : World) : V → List V → Hp → VK → Prop := fun x xs H Q => ∃ d kvs a k y, x = .ref d ∧ xs = [.ref a, y] ∧ NdG KT K P w H d kvs ∧ GyAt K H a k ∧ (getNG kvs k = none → Q y H) ∧
  ∀ v, getNG kvs k = some v → ∀ H', (∀ b, b ≠ d → H' b = H b) → NdG KT K P w H' d (dropNG kvs k) → Q v H'
theorem mt_popNG (hu : X.A.units + 20 < cLine) : MtR X "dict.pop" (rPopNG KT X.K X.prog X.w) := by
  intro pn s sg H x xs v us Q I rx rxs hyp
  obtain ⟨d, kvs, a, k, y, rfl, rfl, hN, hk, q1, q2⟩ := hyp
  cases (show v = Value.ref d from rx)
  obtain ⟨u1, u2, rfl, r1, r2⟩ := vals2 rxs
  cases (show u1 = Value.ref a from r1)
  obtain ⟨xs, h1, h2⟩ := hN.ex
  obtain ⟨hz, hd, hm⟩ := NdG.of I h1 h2
  have all := getN_noneG h2 (k := k)
  refine call_meetsIn PySem.F.slot_dict_pop hm.typeIs PySem.F.entry_dict_pop (PySem.F.args_dict_pop_3 _ _ _) (DT.meetsPop (knd := gkKind KT X.prog X.w) (k := k) u2 hd)
    ⟨xs, (show X.A.units + 1 + 8 < cLine by omega), hk.is I, hm, hz, fun hn tk => ?_, fun p hp h' tk dd hs => ?_⟩
  · show EP X pn sg Q u2 _
    exact ⟨y, H, I.tok tk, r2, q1 (all.1 hn)⟩
  · obtain ⟨z, e1, e2⟩ := all.2 p hp
    have e9 : ∃ z, h'.get? d = some z := let ⟨z, _, _, hq, _⟩ := dd; ⟨z, hq⟩
    have mu : Mut (H d) := by
      rw [h1]
      exact True.intro
    have hz2 : (DT.dropH xs k).length ≤ sizeLine := Nat.le_trans (List.length_filter_le _ _) hz
    have up : TupS H (upd H d (NdOG KT X.prog X.w d (DT.dropH xs k))) := fun b o e t => by
      have nb : b ≠ d := by
        rintro rfl
        rw [h1] at e
        cases e
        rcases t with ⟨ys, t⟩ | ⟨y1, y2, t⟩ <;> cases t
      rw [upd_ne nb]
      exact e
    have I2 : Inv X pn sg (upd H d (NdOG KT X.prog X.w d (DT.dropH xs k))) { s with heap := h', toks := tk } := d_write I mu hs e9 (ndO_okG hz2 hd dd)
    show EP X pn sg Q p.2 _
    exact ⟨z, _, I2, e2, q2 z e1 _ (fun b hb => upd_ne hb) ⟨_, upd_same, Paired.mapP (nd_dropG h2 k) fun p x z => ⟨z.1, z.2.1.tupS up, z.2.2⟩⟩⟩
def isNdG (KT : Type) [DecidableEq KT] [KC KT] (K : PySem.W.Frag) (P : Program) (w : World) : V → Hp → Prop := fun x H => ∃ d kvs, x = .ref d ∧ NdG KT K P w H d kvs
theorem ev_ndG : TyEv X "dict" (isNdG KT X.K X.prog X.w) := by
  rintro pn sg H s x v I r ⟨d, kvs, rfl, hN⟩
  cases (show v = Value.ref d from r)
  obtain ⟨xs, h1, h2⟩ := hN.ex
  obtain ⟨_, _, o, es, ep, g1, g2, _⟩ := NdG.of I h1 h2
  refine ⟨⟨o, g1, g2.1⟩, fun a e => ?_⟩
  cases e
  exact ⟨o, g1, g2.2.1⟩
end

section
variable {β : Type}
theorem getE_putG (l : List (KT × β)) (k k' : KT) (v : β) : getEG (putEG l k v) k' = if k = k' then some v else getEG l k' := by
  induction l with
  | nil =>
    unfold putEG
    by_cases h : k = k'
    · rw [if_pos h]
      unfold getEG
      rw [if_pos h]
    · rw [if_neg h]
      unfold getEG
      rw [if_neg h]
      rfl
  | cons p l ih =>
    unfold putEG
    by_cases z : p.1 = k
    · rw [if_pos z]
      by_cases h : k = k'
      · rw [if_pos h]
        unfold getEG
        rw [if_pos (z.trans h)]
      · rw [if_neg h]
        unfold getEG
        rw [if_neg (fun y => h (z.symm.trans y)), if_neg (fun y => h (z.symm.trans y))]
    · rw [if_neg z]
      unfold getEG
      by_cases y : p.1 = k'
      · rw [if_pos y, if_pos y, if_neg (fun h => z (y.trans h.symm))]
      · rw [if_neg y, if_neg y]
        exact ih
theorem getE_dropG (l : List (KT × β)) (k k' : KT) : getEG (l.filter fun p => decide (p.1 ≠ k)) k' = if k = k' then none else getEG l k' := by
  induction l with
  | nil =>
    rw [List.filter_nil]
    unfold getEG
    split <;> rfl
  | cons p l ih =>
    by_cases z : p.1 = k
    · rw [List.filter_cons_of_neg (by simp [z]), ih]
      by_cases h : k = k'
      · rw [if_pos h, if_pos h]
      · rw [if_neg h, if_neg h]
        conv => rhs; unfold getEG
        rw [if_neg (fun y => h (z.symm.trans y))]
    · rw [List.filter_cons_of_pos (by simp [z])]
      conv => lhs; unfold getEG
      conv => rhs; unfold getEG
      by_cases y : p.1 = k'
      · rw [if_pos y, if_pos y, if_neg (fun h => z (y.trans h.symm))]
      · rw [if_neg y, if_neg y]
        exact ih
theorem getE_iffG {l : List (KT × β)} (hn : (l.map (·.1)).Nodup) (k : KT) (v : β) : (k, v) ∈ l ↔ getEG l k = some v := by
  induction l with
  | nil =>
    unfold getEG
    simp
  | cons p l ih =>
    rw [List.map_cons] at hn
    obtain ⟨n1, n2⟩ := List.nodup_cons.mp hn
    unfold getEG
    by_cases z : p.1 = k
    · rw [if_pos z]
      refine ⟨fun h => ?_, fun h => ?_⟩
      · rcases List.mem_cons.mp h with e | e
        · rw [← e]
        · exact absurd (List.mem_map.mpr ⟨_, e, rfl⟩) (z ▸ n1)
      · obtain ⟨a, b⟩ := p
        cases h
        subst z
        exact List.mem_cons_self
    · rw [if_neg z, ← ih n2]
      refine ⟨fun h => ?_, fun h => List.mem_cons_of_mem _ h⟩
      rcases List.mem_cons.mp h with e | e
      · exact absurd (by rw [← e]) z
      · exact e
end

def rItemsNG (KT : Type) [DecidableEq KT] [KC KT] (K : PySem.W.Frag) (P : Program) (w : World) : V → List V → Hp → VK → Prop := fun x xs H Q => ∃ d kvs, x = .ref d ∧ xs = [] ∧ NdG KT K P w H d kvs ∧ ∀ p, H p = none → Q (.ref p) (upd H p (itemsO p d))
section
variable {X : Cx}
theorem mt_itemsNG : MtR X "dict.items" (rItemsNG KT X.K X.prog X.w) := by
  intro pins s σ H x xs v us Q I rx rxs h
  obtain ⟨d, kvs, rfl, rfl, hN, q⟩ := h
  cases rx
  cases rxs
  obtain ⟨xs', h1, h2⟩ := hN.ex
  obtain ⟨hz, hd, o, es, ep, g1, g2, g3, _⟩ := NdG.of I h1 h2
  refine DT.callItems (es := es) (ep := ep) hd ⟨o, g1, g2, g3⟩ ?_
  have hf : H s.heap.objs.size = none := I.hok.fresh (Nat.le_refl _)
  exact ⟨.ref s.heap.objs.size, upd H s.heap.objs.size (itemsO s.heap.objs.size d), I.laid (t' := s.toks) (fun b u e => Heap.get?_push_of_some _ e) (Nat.le_refl _) (itemsO_ok (Heap.get?_push_size _ rfl)), rfl, q _ hf⟩
/-- a pair (key, value) at y -/
def KvAtG (K : PySem.W.Frag) (H : Hp) (y : V) (kv : KT × V) : Prop := ∃ TT a, y = .ref TT ∧ H TT = some (.tup [.ref a, kv.2]) ∧ GyAt K H a kv.1
def rListItG (KT : Type) [DecidableEq KT] [KC KT] (K : PySem.W.Frag) (P : Program) (w : World) : List V → Hp → VK → Prop := fun vs H Q => ∃ p d kvs, vs = [.ref p] ∧ H p = some (itemsO p d) ∧ NdG KT K P w H d kvs ∧ ∀ H' L ys, Same H H' → H L = none → H' L = some (.lst ys) → Paired (KvAtG K H') ys kvs → Q (.ref L) H'
theorem cr_listItG (hc : X.calm = true) : CallR X (.type "list") (rListItG KT X.K X.prog X.w) := by
  intro pins s σ H vs us Q I r hyp
  obtain ⟨p, d, kvs, rfl, hp, hN, q⟩ := hyp
  obtain ⟨u, rfl, r1⟩ := vals1 r
  cases (show u = Value.ref p from r1)
  obtain ⟨xs, h1, h2⟩ := hN.ex
  obtain ⟨hz, hd, o, es, ep, g1, g2, g3, g4, g5⟩ := NdG.of I h1 h2
  obtain ⟨hv, _, _⟩ := (show ObjOk X.prog X.w H s.heap p (itemsO p d) from I.hok p _ hp)
  have sz : es.size = xs.length := by rw [← Array.length_toList, g4, List.length_map]
  have nl := Paired.length h2
  refine PySem.W.dil_call (es := es) (ep := ep) (I.ok.hd hc) hv ⟨o, g1, g2, g3⟩ (by rw [sz]; exact hz) fun h' tk acc c as hk hL hl hG hacc => ?_
  have nL : H s.heap.objs.size = none := I.hok.fresh (Nat.le_refl _)
  have eacc : acc = (as.map Value.ref).toArray := by rw [← hacc]
  have I1 : Inv X pins σ (upd H s.heap.objs.size (.lst (as.map V.ref))) { s with heap := h', toks := tk } :=
    I.laid (t' := tk) (fun b u e => hk b u e) (Nat.le_refl _) (show ObjOk X.prog X.w _ h' _ (.lst (as.map V.ref)) from ⟨by rw [List.length_map, hl, sz]; exact hz, as.map Value.ref, c, vals_refs as, by rw [hL, eacc] <;> rfl⟩)
  have s1 : Same H (upd H s.heap.objs.size (.lst (as.map V.ref))) := fun b x e => by rw [upd_ne (ne_of_none e nL)]; exact e
  obtain ⟨H2, I2, k2, t2⟩ := takeT (P := fun a vs => ∃ (j : Nat) (k : KT) (v : V) (q : KT × Addr × Value), as[j]? = some a ∧ kvs[j]? = some (k, v) ∧ xs[j]? = some q ∧ vs = [V.ref q.2.1, v]) I as _ I1 (hG.rise.imp fun h => Nat.ne_of_lt h) fun a ha => by
    obtain ⟨j, hj⟩ := List.mem_iff_getElem?.mp ha
    obtain ⟨hje, ge⟩ := hG.pairs j a hj
    have lo := hG.above a ha
    have ex : xs[j]? = some (xs[j]'(by omega)) := List.getElem?_eq_getElem (by omega)
    have ek : kvs[j]? = some (kvs[j]'(by omega)) := List.getElem?_eq_getElem (by omega)
    obtain ⟨q', eq', rr⟩ := pairedGet h2 ek
    rw [ex] at eq'
    cases eq'
    have ee : es[j]? = some (entryOfKey (gkKind KT X.prog X.w) (xs[j]'(by omega))) := by
      rw [← Array.getElem?_toList, g4, List.getElem?_map, ex]
      rfl
    rw [Array.getElem?_eq_getElem hje] at ee
    have e9 := Option.some.inj ee
    refine ⟨Nat.le_of_lt lo, ?_, _, ⟨j, _, _, _, hj, ek, ex, rfl⟩, fun H2 => ?_⟩
    · rw [upd_ne (Nat.ne_of_gt lo)]
      exact I.hok.fresh (Nat.le_of_lt lo)
    · rw [e9] at ge
      exact ⟨by show 2 ≤ sizeLine; decide, [.ref (xs[j]'(by omega)).2.1, (xs[j]'(by omega)).2.2], .cons rfl (.cons rr.2.2 .nil), ⟨_, ge, rfl, _, rfl⟩⟩
  have s12 : Same H H2 := s1.trans k2
  refine ⟨.ref s.heap.objs.size, H2, I2, rfl, q H2 _ (as.map V.ref) s12 nL (k2 _ _ upd_same) (paired_by (by rw [List.length_map]; omega) fun i y kv hy hkv => ?_)⟩
  rw [List.getElem?_map] at hy
  cases ea : as[i]? with
  | none =>
    rw [ea] at hy
    cases hy
  | some a =>
    rw [ea] at hy
    cases hy
    obtain ⟨vs, ⟨j, k, v, q', ej, ek, ex, rfl⟩, hT⟩ := t2 a (List.mem_of_getElem? ea)
    have hij : i = j := (List.getElem?_inj (List.getElem?_eq_some_iff.mp ea).1 (hG.rise.imp fun h => Nat.ne_of_lt h)).mp (ea.trans ej.symm)
    subst hij
    rw [hkv] at ek
    cases ek
    obtain ⟨q2, eq2, rr⟩ := pairedGet h2 hkv
    rw [ex] at eq2
    cases eq2
    exact ⟨a, q'.2.1, rfl, hT, rr.2.1.same s12⟩
end

end
end Jv
/-! a dict from what is kept to (value, guarded), the elder ones first -/
namespace Jv
open PySem PySem.Spec PyProof.Rows L2
/-- a pair of a text and a truth value at v -/
def VgAt (K : PySem.W.Frag) (H : Hp) (v : V) (p : Str × Bool) : Prop := ∃ b, v = .ref b ∧ SqT K H b [.str p.1, .bl p.2]
theorem VgAt.tupS {K : PySem.W.Frag} {H H' : Hp} {v : V} {p : Str × Bool} (s : TupS H H') (h : VgAt K H v p) : VgAt K H' v p := by
  obtain ⟨b, e, h⟩ := h
  exact ⟨b, e, s.sq h⟩
abbrev TabPr (K : PySem.W.Frag) (H : Hp) : List (Ky × V) → Tab → Prop := Paired fun p q => p.1 = q.1 ∧ VgAt K H p.2 q.2
structure TabSz (t : Tab) : Prop where
  sz : ∀ q ∈ t, q.1.Sz ∧ q.2.1.length ≤ 1000
  nd : (t.map (·.1)).Nodup
structure TabAt (K : PySem.W.Frag) (P : Program) (w : World) (H : Hp) (d : Addr) (t : Tab) : Prop where
  ex : ∃ kvs, Nd K P w H d kvs ∧ TabPr K H kvs t
  ok : TabSz t
/-- all but d is as it was -/
def But1 (d : Addr) (H H' : Hp) : Prop := ∀ b o, b ≠ d → H b = some o → H' b = some o
theorem But1.refl (d : Addr) (H : Hp) : But1 d H H := fun _ _ _ h => h
theorem But1.trans {d : Addr} {H H1 H2 : Hp} (a : But1 d H H1) (b : But1 d H1 H2) : But1 d H H2 := fun x o h e => b x o h (a x o h e)
theorem Same.but1 {d : Addr} {H H1 : Hp} (a : Same H H1) : But1 d H H1 := fun x o _ e => a x o e
theorem But1.same {d : Addr} {H0 H H1 : Hp} (n : H0 d = none) (s : Same H0 H) (b : But1 d H H1) : Same H0 H1 := fun x o e => b x o (ne_of_none e n) (s _ _ e)
section
variable {K : PySem.W.Frag} {P : Program} {w : World} {H H' : Hp} {d : Addr}
theorem TabPr.keys {kvs : List (Ky × V)} {t : Tab} (h : TabPr K H kvs t) : kvs.map (·.1) = t.map (·.1) := by
  induction h with
  | nil => rfl
  | cons r t ih => rw [List.map_cons, List.map_cons, ih, r.1]
theorem TabPr.tupS {kvs : List (Ky × V)} {t : Tab} (s : TupS H H') (h : TabPr K H kvs t) : TabPr K H' kvs t := Paired.mapP h fun _ _ z => ⟨z.1, z.2.tupS s⟩
theorem Nd.tupB {kvs : List (Ky × V)} (h : Nd K P w H d kvs) (b : But1 d H H') : TupS H H' := fun x o e t => by
  refine b x o ?_ e
  rintro rfl
  obtain ⟨u, e1, n1⟩ := h.there
  obtain ⟨xs, e2, _⟩ := h.ex
  rw [e2] at e
  cases e
  rcases t with ⟨ys, t⟩ | ⟨y1, y2, t⟩ <;> cases t
theorem TabAt.same {t : Tab} (s : Same H H') (h : TabAt K P w H d t) : TabAt K P w H' d t := by
  obtain ⟨kvs, h1, h2⟩ := h.ex
  exact ⟨⟨kvs, h1.same s, h2.tupS (Same.tupS s)⟩, h.ok⟩
theorem TabAt.tupB {t : Tab} (h : TabAt K P w H d t) (b : But1 d H H') : TupS H H' := by
  obtain ⟨kvs, h1, _⟩ := h.ex
  exact h1.tupB b
theorem TabAt.there {t : Tab} (h : TabAt K P w H d t) : ∃ o, H d = some o := by
  obtain ⟨kvs, h1, _⟩ := h.ex
  obtain ⟨o, e, _⟩ := h1.there
  exact ⟨o, e⟩
theorem TabPr.get {kvs : List (Ky × V)} {t : Tab} (h : TabPr K H kvs t) {k : Ky} : getN kvs k = none → k ∉ t.map (·.1) := by
  induction h with
  | nil => exact fun _ m => by cases m
  | @cons p q ps qs r t ih =>
    intro e m
    unfold getN at e
    by_cases z : p.1 = k
    · rw [if_pos z] at e
      cases e
    · rw [if_neg z] at e
      rcases List.mem_cons.mp m with y | y
      · exact z (r.1.trans y.symm)
      · exact ih e y
theorem filter_all {t : Tab} {k : Ky} (h : k ∉ t.map (·.1)) : t.filter (fun p => decide (p.1 ≠ k)) = t := by
  refine List.filter_eq_self.mpr fun p hp => ?_
  refine decide_eq_true fun e => h ?_
  rw [← e]
  exact List.mem_map.mpr ⟨p, hp, rfl⟩
theorem TabPr.drop {kvs : List (Ky × V)} {t : Tab} (h : TabPr K H kvs t) (k : Ky) : TabPr K H (dropN kvs k) (t.filter fun p => decide (p.1 ≠ k)) := by
  unfold dropN
  induction h with
  | nil => exact .nil
  | @cons p q ps qs r t ih =>
    by_cases z : p.1 = k
    · rw [List.filter_cons_of_neg (by simp [z]), List.filter_cons_of_neg (by simp [← r.1, z])]
      exact ih
    · rw [List.filter_cons_of_pos (by simp [z]), List.filter_cons_of_pos (by simp [← r.1, z])]
      exact .cons r ih
theorem TabPr.put {kvs : List (Ky × V)} {t : Tab} (h : TabPr K H kvs t) {k : Ky} {v : V} {e : Str × Bool} (g : VgAt K H v e) : TabPr K H (putE kvs k v) (putE t k e) := by
  induction h with
  | nil => exact .cons ⟨rfl, g⟩ .nil
  | @cons p q ps qs r t ih =>
    unfold putE
    by_cases z : p.1 = k
    · rw [if_pos z, if_pos (r.1.symm.trans z)]
      exact .cons ⟨r.1, g⟩ t
    · rw [if_neg z, if_neg (fun y => z (r.1.trans y))]
      exact .cons r ih
theorem TabSz.drop {t : Tab} (h : TabSz t) (k : Ky) : TabSz (t.filter fun p => decide (p.1 ≠ k)) :=
  ⟨fun q hq => h.sz q (List.mem_filter.mp hq).1, h.nd.sublist (List.filter_sublist.map _)⟩
theorem putE_mem {t : Tab} {k : Ky} {e : Str × Bool} : ∀ q ∈ putE t k e, q ∈ t ∨ (q.1 = k ∧ q.2 = e) := by
  induction t with
  | nil => exact fun q hq => Or.inr (by rw [List.mem_singleton.mp hq]; exact ⟨rfl, rfl⟩)
  | cons p ps ih =>
    intro q hq
    unfold putE at hq
    by_cases z : p.1 = k
    · rw [if_pos z] at hq
      rcases List.mem_cons.mp hq with e | hq
      · exact Or.inr (by rw [e]; exact ⟨z, rfl⟩)
      · exact Or.inl (List.mem_cons_of_mem _ hq)
    · rw [if_neg z] at hq
      rcases List.mem_cons.mp hq with e | hq
      · exact Or.inl (by rw [e]; exact List.mem_cons_self)
      · exact (ih q hq).imp (List.mem_cons_of_mem _) id
theorem TabSz.put {t : Tab} (h : TabSz t) {k : Ky} {e : Str × Bool} (hk : k.Sz) (he : e.1.length ≤ 1000) : TabSz (putE t k e) := by
  refine ⟨fun q hq => ?_, putE_nodup h.nd _ _⟩
  rcases putE_mem q hq with m | ⟨m1, m2⟩
  · exact h.sz q m
  · rw [m1, m2]
    exact ⟨hk, he⟩
def wSz (x : Ky × Option Str × Bool) : Prop := x.1.Sz ∧ ∀ v, x.2.1 = some v → v.length ≤ 1000
theorem TabSz.doW {t : Tab} (h : TabSz t) {x : Ky × Option Str × Bool} (hx : wSz x) : TabSz (doW t x) := by
  obtain ⟨k, o, g⟩ := x
  cases o with
  | none => exact h.drop k
  | some v => exact h.put hx.1 (hx.2 v rfl)
theorem TabSz.doWs {ws : List (Ky × Option Str × Bool)} : ∀ {t : Tab}, TabSz t → (∀ x ∈ ws, wSz x) → TabSz (doWs t ws) := by
  induction ws with
  | nil => exact fun h _ => h
  | cons x ws ih => exact fun h hx => ih (h.doW (hx x List.mem_cons_self)) fun y hy => hx y (List.mem_cons_of_mem _ hy)
theorem doWs_snoc (t : Tab) (ws : List (Ky × Option Str × Bool)) (x : Ky × Option Str × Bool) : doWs t (ws ++ [x]) = doW (doWs t ws) x := by
  unfold doWs
  rw [List.foldl_append]
  rfl
theorem doWs_app (t : Tab) (ws us : List (Ky × Option Str × Bool)) : doWs t (ws ++ us) = doWs (doWs t ws) us := by
  unfold doWs
  rw [List.foldl_append]
theorem tab_len {t : Tab} {kvs : List (Ky × V)} (h : TabPr K H kvs t) : kvs.length = t.length := Paired.length h
theorem doW_len (t : Tab) (x : Ky × Option Str × Bool) : (doW t x).length ≤ t.length + 1 := by
  obtain ⟨k, o, g⟩ := x
  cases o with
  | none => exact Nat.le_succ_of_le (List.length_filter_le _ _)
  | some v =>
    show (putE t k (v, g)).length ≤ _
    have e : (putE t k (v, g)).length = ((putE t k (v, g)).map (·.1)).length := (List.length_map _).symm
    rw [e, putE_keys]
    split <;> simp
theorem doWs_len (ws : List (Ky × Option Str × Bool)) : ∀ t : Tab, (doWs t ws).length ≤ t.length + ws.length := by
  induction ws with
  | nil => exact fun t => Nat.le_refl _
  | cons x ws ih =>
    intro t
    have h1 := ih (doW t x)
    have h2 := doW_len t x
    show (doWs (doW t x) ws).length ≤ _
    rw [List.length_cons]
    omega
theorem doW_keys {t : Tab} {x : Ky × Option Str × Bool} : ∀ k ∈ (doW t x).map (·.1), k ∈ t.map (·.1) ∨ k = x.1 := by
  obtain ⟨k0, o, g⟩ := x
  intro k hk
  cases o with
  | none =>
    obtain ⟨q, hq, rfl⟩ := List.mem_map.mp hk
    exact Or.inl (List.mem_map.mpr ⟨q, (List.mem_filter.mp hq).1, rfl⟩)
  | some v =>
    have hk : k ∈ (putE t k0 (v, g)).map (·.1) := hk
    rw [putE_keys] at hk
    split at hk
    · exact Or.inl hk
    · rcases List.mem_append.mp hk with m | m
      · exact Or.inl m
      · exact Or.inr (List.mem_singleton.mp m)
theorem doWs_keys {ws : List (Ky × Option Str × Bool)} : ∀ {t : Tab}, ∀ k ∈ (doWs t ws).map (·.1), k ∈ t.map (·.1) ∨ k ∈ ws.map (·.1) := by
  induction ws with
  | nil => exact fun k hk => Or.inl hk
  | cons x ws ih =>
    intro t k hk
    rcases ih k hk with m | m
    · rcases doW_keys k m with m | m
      · exact Or.inl m
      · exact Or.inr (by rw [m]; exact List.mem_cons_self)
    · exact Or.inr (List.mem_cons_of_mem _ m)
theorem nodup_le : ∀ {l D : List Ky}, l.Nodup → (∀ x ∈ l, x ∈ D) → l.length ≤ D.length
  | [], _, _, _ => Nat.zero_le _
  | x :: l, D, h, s => by
    rw [List.nodup_cons] at h
    have m := s x List.mem_cons_self
    have h2 := nodup_le (D := D.erase x) h.2 fun y hy => by
      refine (List.mem_erase_of_ne ?_).mpr (s y (List.mem_cons_of_mem _ hy))
      rintro rfl
      exact h.1 hy
    rw [List.length_erase_of_mem m] at h2
    have : 0 < D.length := List.length_pos_of_mem m
    rw [List.length_cons]
    omega
theorem TwAt.ky {x : V} {t : Ky × Option Str × Bool} (h : TwAt K H x t) : ∃ b c, x = .ref b ∧ SqT K H b [.ref c, optV t.2.1, .bl t.2.2] ∧ KyAt K H c t.1 := h
theorem KpAt.sqS {v : V} {k : Kp} (s : ∀ b ys, SqT K H b ys → SqT K H' b ys) (h : KpAt K H v k) : KpAt K H' v k := by
  obtain ⟨b, a, e, h1, ⟨c, d, g1, g2, g3⟩, h3⟩ := h
  exact ⟨b, a, e, s _ _ h1, ⟨c, d, s _ _ g1, s _ _ g2, s _ _ g3⟩, h3⟩
def siteKs (s : List Pg) : List Ky := s.flatMap fun p => (takenP p).map (·.1)
theorem siteKs_len {s : List Pg} (h : SiteOk s) : (siteKs s).length ≤ 25 := by
  have all : ∀ l : List Pg, (∀ p ∈ l, p.ws.length ≤ 5) → (siteKs l).length ≤ 5 * l.length := by
    intro l
    induction l with
    | nil => exact fun _ => Nat.le_refl _
    | cons p l ih =>
      intro hl
      have h1 := ih fun q hq => hl q (List.mem_cons_of_mem _ hq)
      have h2 := takenL_len p.ad p.ws
      have h3 := hl p List.mem_cons_self
      unfold siteKs at h1 ⊢
      rw [List.flatMap_cons, List.length_append, List.length_map, List.length_cons]
      have h4 : (takenP p).length ≤ 5 := Nat.le_trans h2 h3
      omega
  have := all s fun p hp => (h.2 p hp).2.1
  have := h.1
  omega
theorem rowTab_snoc (s : List Pg) (t : Tab) (row : List Nat) (n : Nat) (p : Pg) (h : s[n]? = some p) : rowTab s t (row ++ [n]) = doWs (rowTab s t row) (takenP p) := by
  unfold rowTab
  rw [List.foldl_append, List.foldl_cons, List.foldl_nil, h]
theorem rowTab_keys {s : List Pg} {row : List Nat} : ∀ {t : Tab}, ∀ k ∈ (rowTab s t row).map (·.1), k ∈ t.map (·.1) ∨ k ∈ siteKs s := by
  induction row with
  | nil => exact fun k hk => Or.inl hk
  | cons n ns ih =>
    intro t k hk
    rcases ih k hk with m | m
    · dsimp only at m
      cases e : s[n]? with
      | none =>
        rw [e] at m
        exact Or.inl m
      | some p =>
        rw [e] at m
        rcases doWs_keys k m with m | m
        · exact Or.inl m
        · exact Or.inr (List.mem_flatMap.mpr ⟨p, List.mem_of_getElem? e, m⟩)
    · exact Or.inr m
theorem rowTab_len {s : List Pg} {row : List Nat} (hs : SiteOk s) (ok : TabSz (rowTab s [] row)) : (rowTab s [] row).length ≤ 25 := by
  have e : (rowTab s [] row).length = ((rowTab s [] row).map (·.1)).length := (List.length_map _).symm
  rw [e]
  refine Nat.le_trans (nodup_le ok.nd fun k hk => ?_) (siteKs_len hs)
  exact (rowTab_keys k hk).resolve_left fun m => (by cases m)
/-- the list of taken writes at v -/
def WrAt (K : PySem.W.Frag) (H : Hp) (v : V) (ts : List (Ky × Option Str × Bool)) : Prop := ∃ L xs, v = .ref L ∧ H L = some (.lst xs) ∧ TwAll K H xs ts
theorem WrAt.but {d : Addr} {v : V} {ts : List (Ky × Option Str × Bool)} (b : But1 d H H') (t : TupS H H') (n : ∀ L xs, v = .ref L → H L = some (.lst xs) → L ≠ d) (h : WrAt K H v ts) : WrAt K H' v ts := by
  obtain ⟨L, xs, e, h1, h2⟩ := h
  exact ⟨L, xs, e, b _ _ (n L xs e h1) h1, h2.tupS t⟩
theorem wSz_taken {a : Ad} {ws : List Wr} (ha : (∀ x ∈ a.host, x.length ≤ 1000) ∧ a.host.length ≤ 1000 ∧ (∀ x ∈ a.path, x.length ≤ 1000) ∧ a.path.length ≤ 1000)
    (hw : ∀ w ∈ ws, w.name.length ≤ 1000 ∧ (∀ x, w.val = some x → x.length ≤ 1000) ∧ (∀ l, w.dom = some l → l.length ≤ 1000 ∧ ∀ x ∈ l, x.length ≤ 1000) ∧ ∀ l, w.fold = some l → l.length ≤ 1000 ∧ ∀ x ∈ l, x.length ≤ 1000) : ∀ x ∈ takenL a ws, wSz x := by
  induction ws with
  | nil => exact fun x hx => by cases hx
  | cons y ws ih =>
    intro x hx
    have ih := ih fun z hz => hw z (List.mem_cons_of_mem _ hz)
    unfold takenL at hx
    split at hx
    · rcases List.mem_cons.mp hx with rfl | hx
      · obtain ⟨h1, h2, h3, h4⟩ := hw y List.mem_cons_self
        refine ⟨⟨h1, ?_, ?_⟩, h2⟩
        · show (y.dom.getD a.host).length ≤ 1000 ∧ ∀ x ∈ y.dom.getD a.host, x.length ≤ 1000
          cases e : y.dom with
          | none => exact ⟨ha.2.1, ha.1⟩
          | some l => exact h3 l e
        · show (y.fold.getD a.path.dropLast).length ≤ 1000 ∧ ∀ x ∈ y.fold.getD a.path.dropLast, x.length ≤ 1000
          cases e : y.fold with
          | none => exact ⟨by rw [Option.getD_none, List.length_dropLast]; omega, fun x hx => ha.2.2.1 x (List.dropLast_subset _ hx)⟩
          | some l => exact h4 l e
      · exact ih x hx
    · exact ih x hx
theorem wSz_page {v : V} {p : Pg} (h : Da K H v p.py) : ∀ x ∈ takenP p, wSz x := by
  obtain ⟨b, x, y, rfl, h1, h2, h3⟩ := da_pg h
  obtain ⟨c, ws, rfl, h4, nl, h5⟩ := da_seq h3
  obtain ⟨e, hx, hy, rfl, g1, g2, g3⟩ := da_ad h2
  obtain ⟨_, rfl, _, z1, z2⟩ := da_texts g2
  obtain ⟨_, rfl, _, z3, z4⟩ := da_texts g3
  refine wSz_taken ⟨z2, z1, z4, z3⟩ fun wr hw => ?_
  obtain ⟨i, hi⟩ := List.getElem?_of_mem hw
  obtain ⟨u, hu, hd⟩ := DaAll.getD h5 (i := i) (d := wr.py) (by rw [List.getElem?_map, hi]; rfl)
  have hd : Da K H u (.tuple [.str wr.name, optS wr.val, optT wr.dom, optT wr.fold, .bool wr.grd]) := hd
  cases hd with
  | tup q1 q2 _ =>
    obtain ⟨x1, r1, rfl, p1, k1⟩ := da_cons q2
    obtain ⟨x2, r2, rfl, p2, k2⟩ := da_cons k1
    obtain ⟨x3, r3, rfl, p3, k3⟩ := da_cons k2
    obtain ⟨x4, r4, rfl, p4, k4⟩ := da_cons k3
    refine ⟨daStr_len p1, fun x e => ?_, fun l e => ?_, fun l e => ?_⟩
    · rw [e] at p2
      exact daStr_len p2
    · rw [e] at p3
      obtain ⟨_, _, _, a1, a2⟩ := da_texts p3
      exact ⟨a1, a2⟩
    · rw [e] at p4
      obtain ⟨_, _, _, a1, a2⟩ := da_texts p4
      exact ⟨a1, a2⟩
/-- the dict as a list of what is kept -/
theorem tab_nil_at {p : Addr} : TabAt K P w (upd H p (NdO P w p [])) p [] := ⟨⟨[], nd_new, .nil⟩, fun q hq => (by cases hq), List.nodup_nil⟩
end
end Jv
/-! jars sorted by putting in one by one -/
namespace Jv
open PySem PySem.Spec PyProof.Rows L2
def kpLe (a b : Kp) : Bool := PySem.W.dataLe false (fun k : Kp => placePy k.key) a b
def insK (a : Kp) : List Kp → List Kp
  | [] => [a]
  | b :: bs => if kpLe a b then a :: b :: bs else b :: insK a bs
def sortK : List Kp → List Kp
  | [] => []
  | a :: as => insK a (sortK as)
theorem kpLe_trans (a b c : Kp) (h1 : kpLe a b = true) (h2 : kpLe b c = true) : kpLe a c = true :=
  (PySem.W.sortLe_total (PyProof.Rows.listOrd PyProof.Rows.itemOrd) false fun k : Kp => PySem.W.keyToks (placePy k.key)).trans a b c h1 h2
theorem kpLe_total (a b : Kp) : (kpLe a b || kpLe b a) = true := by
  rw [Bool.or_eq_true]
  exact (PySem.W.sortLe_total (PyProof.Rows.listOrd PyProof.Rows.itemOrd) false fun k : Kp => PySem.W.keyToks (placePy k.key)).total a b
theorem insK_at {a : Kp} : ∀ {l1 l2 : List Kp}, (∀ b ∈ l1, (!kpLe a b) = true) → (∀ b ∈ l2, kpLe a b = true) → insK a (l1 ++ l2) = l1 ++ a :: l2
  | [], [], _, _ => rfl
  | [], b :: bs, _, h => by
    show (if kpLe a b then a :: b :: bs else b :: insK a bs) = a :: b :: bs
    rw [if_pos (h b List.mem_cons_self)]
  | c :: l1, l2, h1, h2 => by
    have hc := h1 c List.mem_cons_self
    show (if kpLe a c then a :: c :: (l1 ++ l2) else c :: insK a (l1 ++ l2)) = c :: (l1 ++ a :: l2)
    rw [if_neg (by simpa using hc), insK_at (fun b hb => h1 b (List.mem_cons_of_mem _ hb)) h2]
theorem jarSort_K : ∀ js : List Kp, jarSort js = sortK js
  | [] => by
    show List.mergeSort [] _ = []
    exact List.mergeSort_nil
  | a :: as => by
    obtain ⟨l1, l2, e1, e2, h⟩ := List.mergeSort_cons (le := kpLe) kpLe_trans kpLe_total a as
    have e1 : jarSort (a :: as) = l1 ++ a :: l2 := e1
    have e2 : jarSort as = l1 ++ l2 := e2
    have s : (jarSort (a :: as)).Pairwise fun x y => kpLe x y = true := List.pairwise_mergeSort (le := kpLe) kpLe_trans kpLe_total _
    rw [e1, List.pairwise_append] at s
    show _ = insK a (sortK as)
    rw [← jarSort_K as, e1, e2, insK_at h fun b hb => (List.pairwise_cons.mp s.2.1).1 b hb]
def behindK (s : List Pg) (row : List Nat) : List Kp := sortK ((rowTab s [] row).map Tab.kp)
theorem behindM_K (s : List Pg) (row : List Nat) : behindM s row = behindK s row := jarSort_K _
def jarAfterK (js : List Kp) (ws : List (Ky × Option Str × Bool)) : List Kp := sortK ((doWs (js.foldl (fun t k => putE t k.key (k.val, k.grd)) []) ws).map Tab.kp)
theorem jarAfterM_K (js : List Kp) (ws : List (Ky × Option Str × Bool)) : jarAfterM js ws = jarAfterK js ws := jarSort_K _
end Jv
/-! what a reading makes of data, whatever the heap: the slots hold data, nothing that stands is changed -/
namespace Jv
open PySem PySem.Spec PyProof.Rows L2
abbrev Rho := List (Option PyData)
structure EnvD (K : PySem.W.Frag) (H : Hp) (sg : L2.St) (r : Rho) : Prop where
  at_ : ∀ (i : Nat) d, r[i]? = some (some d) → ∃ v, sg[i]? = some (some v) ∧ Da K H v d
  len : sg.length = r.length
section
variable {K : PySem.W.Frag} {r : Rho}
theorem EnvD.same {H H' : Hp} {sg : L2.St} (s : Same H H') (e : EnvD K H sg r) : EnvD K H' sg r :=
  ⟨fun i d h => let ⟨v, a, b⟩ := e.at_ i d h; ⟨v, a, Da.same s _ _ b⟩, e.len⟩
theorem EnvD.set {H : Hp} {sg : L2.St} {v : V} {d : PyData} (e : EnvD K H sg r) (i : Nat) (hv : Da K H v d) : EnvD K H (sg.set i (some v)) (r.set i (some d)) := by
  refine ⟨fun j d' h => ?_, by rw [List.length_set, List.length_set, e.len]⟩
  by_cases z : i = j
  · subst z
    have hl : i < r.length := by
      have := (List.getElem?_eq_some_iff.mp h).1
      rwa [List.length_set] at this
    rw [List.getElem?_set_self hl] at h
    cases h
    exact ⟨v, List.getElem?_set_self (by rw [e.len]; exact hl), hv⟩
  · rw [List.getElem?_set_ne z] at h
    obtain ⟨u, a, b⟩ := e.at_ j d' h
    exact ⟨u, by rw [List.getElem?_set_ne z]; exact a, b⟩
theorem EnvD.nil {H : Hp} : EnvD K H [] [] := ⟨fun i d h => by simp at h, rfl⟩
theorem EnvD.cons {H : Hp} {sg : L2.St} {v : V} {d : PyData} (h : Da K H v d) (e : EnvD K H sg r) : EnvD K H (some v :: sg) (some d :: r) := by
  refine ⟨fun i d' q => ?_, by rw [List.length_cons, List.length_cons, e.len]⟩
  cases i with
  | zero =>
    cases q
    exact ⟨v, rfl, h⟩
  | succ i => exact e.at_ i d' q
theorem EnvD.no {H : Hp} {sg : L2.St} (e : EnvD K H sg r) : EnvD K H (none :: sg) (none :: r) := by
  refine ⟨fun i d' q => ?_, by rw [List.length_cons, List.length_cons, e.len]⟩
  cases i with
  | zero => cases q
  | succ i => exact e.at_ i d' q
def EvR (K : PySem.W.Frag) (t : TE) (r : Rho) (d : PyData) : Prop := ∀ sg H, EnvD K H sg r → ∀ Q : VK, (∀ H' v, Same H H' → Da K H' v d → Q v H') → t sg H Q
def EvA (K : PySem.W.Frag) (t : TA) (r : Rho) (ds : List PyData) : Prop := ∀ sg H, EnvD K H sg r → ∀ Q : List V → Hp → Prop, (∀ H' vs, Same H H' → DaAll K H' vs ds → Q vs H') → t sg H Q
def EvT (K : PySem.W.Frag) (t : TT) (r : Rho) (b : Bool) : Prop := ∀ sg H, EnvD K H sg r → ∀ Q : Bool → Hp → Prop, (∀ H', Same H H' → Q b H') → t sg H Q
/-- the block ends by returning the data d -/
def RunR (K : PySem.W.Frag) (t : TS) (r : Rho) (d : PyData) : Prop := ∀ sg H (D : Ends), EnvD K H sg r → (∀ H' v, Same H H' → Da K H' v d → D.rt v H') → t D sg H
theorem run_start {t : TS} {D : Ends} {sg : L2.St} {H : Hp} {d : PyData} (r : Rho) (en : EnvD K H sg r) (q : ∀ H' v, Same H H' → Da K H' v d → D.rt v H') (h : RunR K t r d) : t D sg H := h sg H D en q
theorem EvR.to {t : TE} {d e : PyData} (h : EvR K t r d) (z : d = e) : EvR K t r e := z ▸ h
/-! ### expressions -/
theorem ev_var {i : Nat} {d : PyData} (h : r[i]? = some (some d)) : EvR K (tVar i) r d := fun sg H e Q q => let ⟨v, a, b⟩ := e.at_ i d h; ⟨v, a, q H v (Same.refl H) b⟩
theorem ev_str {x : Str} (h : x.length ≤ 1000) : EvR K (tC (.str x)) r (.str x) := fun sg H e Q q => q H _ (Same.refl H) (.str x h)
theorem ev_non : EvR K (tC .non) r .none := fun sg H e Q q => q H _ (Same.refl H) .non
theorem ev_bl {b : Bool} : EvR K (tC (.bl b)) r (.bool b) := fun sg H e Q q => q H _ (Same.refl H) (.bl b)
theorem ev_int {i : Int} : EvR K (tC (.int i)) r (.int i) := fun sg H e Q q => q H _ (Same.refl H) (.int i)
theorem eva_nil : EvA K tNil r [] := fun sg H e Q q => q H [] (Same.refl H) .nil
theorem eva_cons {t : TE} {u : TA} {d : PyData} {ds : List PyData} (h : EvR K t r d) (g : EvA K u r ds) : EvA K (tCons t u) r (d :: ds) := fun sg H e Q q =>
  h sg H e _ fun H1 v s1 hv => g sg H1 (e.same s1) _ fun H2 vs s2 hvs => q H2 (v :: vs) (s1.trans s2) (.cons (Da.same s2 _ _ hv) hvs)
theorem ev_tup {u : TA} {ds : List PyData} (h : EvA K u r ds) (l : ds.length ≤ 1000) : EvR K (tTup u) r (.tuple ds) := fun sg H e Q q =>
  h sg H e _ fun H1 vs s1 hvs => ⟨by rw [DaAll.len hvs]; exact Nat.le_trans l (by decide), fun p np => by
    have s2 : Same H1 (upd H1 p (.tup vs)) := fun b x z => by rw [upd_ne (ne_of_none z np)]; exact z
    exact q _ _ (s1.trans s2) (.tup (SqT.of upd_same) (DaAll.same s2 _ _ hvs) l)⟩
theorem ev_lst {u : TA} {ds : List PyData} (h : EvA K u r ds) (l : ds.length ≤ 1000) : EvR K (tLst u) r (.list ds) := fun sg H e Q q =>
  h sg H e _ fun H1 vs s1 hvs => ⟨by rw [DaAll.len hvs]; exact Nat.le_trans l (by decide), fun p np => by
    have s2 : Same H1 (upd H1 p (.lst vs)) := fun b x z => by rw [upd_ne (ne_of_none z np)]; exact z
    exact q _ _ (s1.trans s2) (.lst (SqL.of upd_same) (DaAll.same s2 _ _ hvs) l)⟩
theorem ev_eq {t u : TE} {d e : PyData} {b : Bool} (h : EvR K t r d) (g : EvR K u r e) (s1 : SeqAt.shaped d = true) (s2 : SeqAt.shaped e = true) (z : PyData.eqv d e = b) : EvR K (tOp (rEqA K) t u) r (.bool b) := fun sg H en Q q =>
  h sg H en _ fun H1 v k1 hv => g sg H1 (en.same k1) _ fun H2 w k2 hw => ⟨d, e, Da.same k2 _ _ hv, hw, s1, s2, by rw [z]; exact q H2 _ (k1.trans k2) (.bl b)⟩
theorem ev_ne {t u : TE} {d e : PyData} {b : Bool} (h : EvR K t r d) (g : EvR K u r e) (s1 : SeqAt.shaped d = true) (s2 : SeqAt.shaped e = true) (z : (!PyData.eqv d e) = b) : EvR K (tOp (rNeA K) t u) r (.bool b) := fun sg H en Q q =>
  h sg H en _ fun H1 v k1 hv => g sg H1 (en.same k1) _ fun H2 w k2 hw => ⟨d, e, Da.same k2 _ _ hv, hw, s1, s2, by rw [z]; exact q H2 _ (k1.trans k2) (.bl b)⟩
theorem lay_of {d : PyData} (s : SeqAt.shaped d = true) : d.canLay0 = true := (Bool.and_eq_true _ _ ▸ (show (d.canLay0 && decide (d.depth ≤ 64)) = true from s) : _ ∧ _).1
theorem ev_eqT {t u : TE} {d : PyData} (h : EvR K t r d) (g : EvR K u r d) (s : SeqAt.shaped d = true) : EvR K (tOp (rEqA K) t u) r (.bool true) := ev_eq h g s s (SeqAt.eqv_refl d (lay_of s))
theorem ev_neF {t u : TE} {d : PyData} (h : EvR K t r d) (g : EvR K u r d) (s : SeqAt.shaped d = true) : EvR K (tOp (rNeA K) t u) r (.bool false) := ev_ne h g s s (by rw [SeqAt.eqv_refl d (lay_of s)]; rfl)
theorem ev_andT {t u : TE} {b : Bool} (h : EvR K t r (.bool true)) (g : EvR K u r (.bool b)) : EvR K (tAndV t u) r (.bool b) := fun sg H e Q q =>
  h sg H e _ fun H1 v s1 hv => by
    cases hv
    exact ⟨true, rfl, g sg H1 (e.same s1) _ fun H2 w s2 hw => q H2 w (s1.trans s2) hw⟩
theorem ev_ixT {t u : TE} {ds : List PyData} {i : Nat} {d : PyData} (h : EvR K t r (.tuple ds)) (g : EvR K u r (.int (i : Nat))) (e : ds[i]? = some d) : EvR K (tOp (rIxT K) t u) r d := fun sg H en Q q =>
  h sg H en _ fun H1 v s1 hv => g sg H1 (en.same s1) _ fun H2 w s2 hw => by
    cases hw
    cases Da.same s2 _ _ hv with
    | tup h1 h2 hz =>
      obtain ⟨x, ex, dx⟩ := DaAll.getD h2 e
      exact ⟨_, _, _, x, rfl, rfl, h1, atI_nat ex, q H2 x (s1.trans s2) dx⟩
theorem ev_isN {t : TE} (h : EvR K t r .none) : EvR K (tOp (fun x y H Q => y = V.non ∧ Q (V.bl (decide (x = V.non))) H) t (tC .non)) r (.bool true) := fun sg H e Q q =>
  h sg H e _ fun H1 v s1 hv => by
    cases hv
    exact ⟨rfl, q H1 _ s1 (.bl _)⟩
/-! ### tests -/
theorem evt_test {t : TE} {b : Bool} (h : EvR K t r (.bool b)) : EvT K (tTest t) r b := fun sg H e Q q => h sg H e _ fun H1 v s1 hv => by
  cases hv
  exact ⟨b, rfl, q H1 s1⟩
theorem evt_b {t : TE} {b : Bool} (h : EvR K t r (.bool b)) : EvT K (tB t) r b := fun sg H e Q q => h sg H e _ fun H1 v s1 hv => by
  cases hv
  exact ⟨b, rfl, q H1 s1⟩
theorem evt_or {t u : TT} {b : Bool} (h : EvT K t r false) (g : EvT K u r b) : EvT K (tOr t u) r b := fun sg H e Q q => h sg H e _ fun H1 s1 => iteF (g sg H1 (e.same s1) _ fun H2 s2 => q H2 (s1.trans s2))
theorem evt_not {t : TT} {b : Bool} (h : EvT K t r b) : EvT K (tNot t) r (!b) := fun sg H e Q q => h sg H e _ fun H1 s1 => q H1 s1
/-! ### blocks -/
theorem run_asg {t : TE} {u : TS} {i : Nat} {d e : PyData} (h : EvR K t r d) (g : RunR K u (r.set i (some d)) e) : RunR K (tSeq (tAsg t (gName i)) u) r e := fun sg H D en q =>
  h sg H en _ fun H1 v s1 hv => g _ H1 D ((en.same s1).set i hv) fun H2 w s2 hw => q H2 w (s1.trans s2) hw
theorem run_par {t : TA} {u : TS} {i j : Nat} {d d' e : PyData} (h : EvA K t r [d, d']) (g : RunR K u ((r.set i (some d)).set j (some d')) e) : RunR K (tSeq (tPar i j t) u) r e := fun sg H D en q =>
  h sg H en _ fun H1 vs s1 hv => by
    obtain ⟨x, r1, rfl, p1, g1⟩ := da_cons hv
    obtain ⟨y, r2, rfl, p2, g2⟩ := da_cons g1
    have e5 := da_nil g2
    subst e5
    exact ⟨x, y, rfl, g _ H1 D (((en.same s1).set i p1).set j p2) fun H2 w s2 hw => q H2 w (s1.trans s2) hw⟩
theorem run_two {t : TE} {u : TS} {i j : Nat} {d d' e : PyData} (h : EvR K t r (.tuple [d, d'])) (g : RunR K u ((r.set i (some d)).set j (some d')) e) : RunR K (tSeq (tAsg t (gTup K 2 (gCons (gName i) (gCons (gName j) gNil)))) u) r e := fun sg H D en q =>
  h sg H en _ fun H1 v s1 hv => by
    cases hv with
    | tup h1 h2 hz =>
      obtain ⟨x, r1, rfl, p1, g1⟩ := da_cons h2
      obtain ⟨y, r2, rfl, p2, g2⟩ := da_cons g1
      have e5 := da_nil g2
      subst e5
      exact ⟨_, _, rfl, h1, rfl, x, _, rfl, y, _, rfl, rfl, g _ H1 D (((en.same s1).set i p1).set j p2) fun H2 w s2 hw => q H2 w (s1.trans s2) hw⟩
theorem run_ifF {c : TT} {t u : TS} {e : PyData} (h : EvT K c r false) (g : RunR K u r e) : RunR K (tSeq (tIfS c t tNext) u) r e := fun sg H D en q =>
  h sg H en _ fun H1 s1 => iteF (g sg H1 D (en.same s1) fun H2 w s2 hw => q H2 w (s1.trans s2) hw)
theorem run_ret {t : TE} {e : PyData} (h : EvR K t r e) : RunR K (tRet t) r e := fun sg H D en q => h sg H en _ q
end
/-! ### what has to be shown of written sites and jars -/
def okValsW : List Wr → (Str → Prop) → Prop
  | [], _ => True
  | w :: ws, f => (match w.val with
    | none => True
    | some x => f x) ∧ okValsW ws f
def okValsP : List Pg → (Str → Prop) → Prop
  | [], _ => True
  | p :: ps, f => okValsW p.ws f ∧ okValsP ps f
def okValsJ : List Kp → (Str → Prop) → Prop
  | [], _ => True
  | k :: ks, f => f k.val ∧ okValsJ ks f
def nodupB : List Ky → Bool
  | [] => true
  | k :: ks => !ks.contains k && nodupB ks
theorem nodupB_of : ∀ {l : List Ky}, nodupB l = true → l.Nodup
  | [], _ => List.nodup_nil
  | k :: ks, h => by
    unfold nodupB at h
    rw [Bool.and_eq_true] at h
    refine List.nodup_cons.mpr ⟨fun m => ?_, nodupB_of h.2⟩
    have := h.1
    rw [show ks.contains k = true from List.contains_iff_mem.mpr m] at this
    cases this
def ascB : List Ky → Bool
  | [] => true
  | [_] => true
  | a :: b :: ks => !PySem.W.dataLt (placePy b) (placePy a) && ascB (b :: ks)
theorem ascB_of : ∀ {l : List Ky}, ascB l = true → ∀ (i : Nat) a b, l[i]? = some a → l[i + 1]? = some b → PySem.W.dataLt (placePy b) (placePy a) = false
  | [], _, i, a, b, h, _ => by simp at h
  | [x], _, i, a, b, _, h => by simp at h
  | x :: y :: ks, h, i, a, b, h1, h2 => by
    unfold ascB at h
    rw [Bool.and_eq_true] at h
    cases i with
    | zero =>
      simp at h1 h2
      subst h1 h2
      simpa using h.1
    | succ i => exact ascB_of h.2 i a b (by simpa using h1) (by simpa using h2)
/-! ### that data can be compared -/
theorem depth_mono {d : PyData} {ds : List PyData} : PyData.depthAll (d :: ds) = max d.depth (PyData.depthAll ds) := by
  rw [PyData.depthAll]
theorem shaped_tup {ds : List PyData} (h : PyData.canLayAll0 ds = true) (z : PyData.depthAll ds ≤ 60) : SeqAt.shaped (.tuple ds) = true := by
  show (PyData.canLayAll0 ds && decide (PyData.depthAll ds + 1 ≤ 64)) = true
  rw [h, Bool.true_and]
  exact decide_eq_true (by omega)
end Jv
/-! more of what a reading makes of data: sums and parts of tuples, a list that is added to -/
namespace Jv
open PySem PySem.Spec PyProof.Rows L2
theorem same_new {H : Hp} {p : Addr} {o : HO} (np : H p = none) : Same H (upd H p o) := fun b x z => by rw [upd_ne (ne_of_none z np)]; exact z
section
variable {K : PySem.W.Frag} {r : Rho}
theorem ev_ixL {t u : TE} {ds : List PyData} {i : Nat} {d : PyData} (h : EvR K t r (.list ds)) (g : EvR K u r (.int (i : Nat))) (e : ds[i]? = some d) : EvR K (tOp (rIxL K) t u) r d := fun sg H en Q q =>
  h sg H en _ fun H1 v s1 hv => g sg H1 (en.same s1) _ fun H2 w s2 hw => by
    cases hw
    cases Da.same s2 _ _ hv with
    | lst h1 h2 hz =>
      obtain ⟨x, ex, dx⟩ := DaAll.getD h2 e
      exact ⟨_, _, _, x, rfl, rfl, h1, atI_nat ex, q H2 x (s1.trans s2) dx⟩
theorem ev_cat {t u : TE} {as bs : List PyData} (h : EvR K t r (.tuple as)) (g : EvR K u r (.tuple bs)) (l : as.length + bs.length ≤ 1000) : EvR K (tOp (rCatA K) t u) r (.tuple (as ++ bs)) := fun sg H en Q q =>
  h sg H en _ fun H1 v s1 hv => g sg H1 (en.same s1) _ fun H2 w s2 hw => by
    have hv2 := Da.same s2 _ _ hv
    cases hv2 with
    | @tup pa xs _ h1 h2 hz =>
      cases id hw with
      | @tup pb ys _ g1 g2 gz =>
        have la := DaAll.len h2
        have lb := DaAll.len g2
        refine ⟨_, _, _, _, rfl, rfl, h1, g1, by rw [la, lb]; exact Nat.le_trans l (by decide), fun e => ?_, fun n e => ?_, fun n m p np => ?_⟩
        · subst e
          cases h2
          exact q H2 _ (s1.trans s2) hw
        · subst e
          cases g2
          rw [List.append_nil] at *
          exact q H2 _ (s1.trans s2) (.tup h1 h2 hz)
        · have s3 := same_new (o := HO.tup (xs ++ ys)) np
          exact q _ _ ((s1.trans s2).trans s3) (.tup (SqT.of upd_same) (DaAll.same s3 _ _ (DaAll.app h2 g2)) (by rw [List.length_append]; exact l))
/-- a part from a number on -/
theorem ev_slT {t : TE} {ds es : List PyData} {i : Nat} (h : EvR K t r (.tuple ds)) (e : es = ds.drop i) : EvR K (tSl (rSlA K) t (tPart (tC (.int (i : Nat)))) tNoPart) r (.tuple es) := fun sg H en Q q =>
  h sg H en _ fun H1 v s1 hv => by
    subst e
    refine ⟨_, rfl, ?_⟩
    cases id hv with
    | @tup pa xs _ h1 h2 hz =>
      have len := DaAll.len h2
      refine ⟨_, _, rfl, h1, fun z => ?_, fun z p np => ?_⟩
      · rw [HT.sIx_nat] at z
        have e0 : ds.drop i = ds := by
          have := z.1
          rw [len] at this
          by_cases i0 : i = 0
          · subst i0; rfl
          · have : ds.length = 0 := by omega
            rw [List.length_eq_zero_iff.mp this]; simp
        rw [e0] at q
        exact q H1 _ s1 hv
      · have s3 := same_new (o := HO.tup (cutV xs (some (i : Int)) none)) np
        refine q _ _ (s1.trans s3) (.tup (SqT.of upd_same) (DaAll.same s3 _ _ ?_) (by rw [List.length_drop]; omega))
        unfold cutV
        rw [HT.sIx_nat, HT.sIx_none]
        have := DaAll.take (ds.length - min i ds.length) (DaAll.drop (min i ds.length) h2)
        rw [len]
        have e1 : (ds.drop (min i ds.length)).take (ds.length - min i ds.length) = ds.drop i := by
          rw [List.take_of_length_le (by rw [List.length_drop]; exact Nat.le_refl _)]
          by_cases c : i ≤ ds.length
          · rw [Nat.min_eq_left c]
          · rw [Nat.min_eq_right (by omega), List.drop_of_length_le (Nat.le_refl _), List.drop_of_length_le (by omega)]
        rw [e1] at this
        exact this
theorem ev_slL {t : TE} {ds es : List PyData} {i : Nat} (h : EvR K t r (.list ds)) (e : es = ds.drop i) : EvR K (tSl (rSlL K) t (tPart (tC (.int (i : Nat)))) tNoPart) r (.list es) := fun sg H en Q q =>
  h sg H en _ fun H1 v s1 hv => by
    subst e
    refine ⟨_, rfl, ?_⟩
    cases id hv with
    | @lst pa xs _ h1 h2 hz =>
      have len := DaAll.len h2
      refine ⟨_, _, rfl, h1, fun p np => ?_⟩
      have s3 := same_new (o := HO.lst (cutV xs (some (i : Int)) none)) np
      refine q _ _ (s1.trans s3) (.lst (SqL.of upd_same) (DaAll.same s3 _ _ ?_) (by rw [List.length_drop]; omega))
      unfold cutV
      rw [HT.sIx_nat, HT.sIx_none]
      have := DaAll.take (ds.length - min i ds.length) (DaAll.drop (min i ds.length) h2)
      rw [len]
      have e1 : (ds.drop (min i ds.length)).take (ds.length - min i ds.length) = ds.drop i := by
        rw [List.take_of_length_le (by rw [List.length_drop]; exact Nat.le_refl _)]
        by_cases c : i ≤ ds.length
        · rw [Nat.min_eq_left c]
        · rw [Nat.min_eq_right (by omega), List.drop_of_length_le (Nat.le_refl _), List.drop_of_length_le (by omega)]
      rw [e1] at this
      exact this
theorem ev_ixLz {t : TE} {ds : List PyData} {z : Int} {d : PyData} (h : EvR K t r (.list ds)) (p : Int.ofNat z.toNat = z) (e : ds[z.toNat]? = some d) : EvR K (tOp (rIxL K) t (tC (.int z))) r d := ev_ixL h ((show (z.toNat : Int) = z from p) ▸ ev_int) e
theorem ev_ixTz {t : TE} {ds : List PyData} {z : Int} {d : PyData} (h : EvR K t r (.tuple ds)) (p : Int.ofNat z.toNat = z) (e : ds[z.toNat]? = some d) : EvR K (tOp (rIxT K) t (tC (.int z))) r d := ev_ixT h ((show (z.toNat : Int) = z from p) ▸ ev_int) e
theorem ev_slTz {t : TE} {ds es : List PyData} {z : Int} (h : EvR K t r (.tuple ds)) (p : Int.ofNat z.toNat = z) (e : es = ds.drop z.toNat) : EvR K (tSl (rSlA K) t (tPart (tC (.int z))) tNoPart) r (.tuple es) := by
  have := ev_slT h e
  rw [show (z.toNat : Int) = z from p] at this
  exact this
theorem ev_slLz {t : TE} {ds es : List PyData} {z : Int} (h : EvR K t r (.list ds)) (p : Int.ofNat z.toNat = z) (e : es = ds.drop z.toNat) : EvR K (tSl (rSlL K) t (tPart (tC (.int z))) tNoPart) r (.list es) := by
  have := ev_slL h e
  rw [show (z.toNat : Int) = z from p] at this
  exact this
theorem strOk_shaped {x : Str} (h : PyData.strOk x = true) : SeqAt.shaped (.str x) = true := by
  show (PyData.canLay0 (.str x) && decide (PyData.depth (.str x) ≤ 64)) = true
  rw [PyData.canLay0, h]
  rfl
/-- a list is made and at once added to -/
theorem run_lstApp {ta : TA} {t : TE} {u : TS} {i : Nat} {ds : List PyData} {d e : PyData} (hi : i < r.length) (h : EvA K ta r ds) (g : EvR K t (r.set i (some (.list ds))) d) (f : flat d = true) (l : ds.length < 1000) (k : RunR K u (r.set i (some (.list (ds ++ [d])))) e) :
    RunR K (tSeq (tAsg (tLst ta) (gName i)) (tSeq (tDrop (tBM K "list" rAppend (tVar i) (tCons t tNil))) u)) r e := fun sg H D en q =>
  h sg H en _ fun H1 vs s1 hvs => ⟨by rw [DaAll.len hvs]; exact Nat.le_trans (Nat.le_of_lt l) (by decide), fun p np => by
    have s2 := same_new (o := HO.lst vs) np
    have e2 : EnvD K (upd H1 p (.lst vs)) (sg.set i (some (.ref p))) (r.set i (some (.list ds))) := ((en.same s1).same s2).set i (.lst (SqL.of upd_same) (DaAll.same s2 _ _ hvs) (Nat.le_of_lt l))
    have hl : i < sg.length := by rw [en.len]; exact hi
    refine ⟨.ref p, List.getElem?_set_self hl, Or.inl ⟨rfl, vs, SqL.of upd_same⟩, g _ _ e2 _ fun H3 y s3 hy => ?_⟩
    have hp : H3 p = some (.lst vs) := s3 _ _ upd_same
    refine ⟨p, vs, y, rfl, rfl, hp, by rw [DaAll.len hvs]; exact Nat.lt_of_lt_of_le l (by decide), ?_⟩
    have s4 : Same H1 (upd H3 p (.lst (vs ++ [y]))) := fun b x z => by
      have nb : b ≠ p := by rintro rfl; rw [np] at z; cases z
      rw [upd_ne nb]
      exact s3 _ _ (s2 _ _ z)
    have s5 : TupS H3 (upd H3 p (.lst (vs ++ [y]))) := tupS_mut hp (fun xs z => by cases z) (fun a b z => by cases z)
    refine k _ _ D ?_ fun H4 w s6 hw => q H4 w ((s1.trans s4).trans s6) hw
    refine ((en.same s1).same s4).set i (.lst (SqL.of upd_same) (DaAll.app (DaAll.same s4 _ _ hvs) (.cons (Da.tupS s5 _ _ f hy) .nil)) ?_)
    rw [List.length_append]
    exact l⟩
end
end Jv
/-! set(t), t a tuple of nested keys; its length -/
namespace Jv
open PySem PySem.Spec PyProof.Rows L2
/-- L holds just what the first i of ks hold -/
structure Had (ks : List (Addr × Ky)) (i : Nat) (L : List (Addr × Ky)) : Prop where
  sub : ∀ p ∈ L, p ∈ ks
  all : ∀ (j : Nat) p, j < i → ks[j]? = some p → p.2 ∈ L.map (·.2)
  len : L.length ≤ i
theorem Had.start (ks : List (Addr × Ky)) : Had ks 0 [] := ⟨fun p h => (nomatch h), fun j p h => absurd h (Nat.not_lt_zero j), Nat.le_refl 0⟩
theorem Had.old {ks L : List (Addr × Ky)} {i : Nat} {p : Addr × Ky} (g : Had ks i L) (e : ks[i]? = some p) (m : p.2 ∈ L.map (·.2)) : Had ks (i + 1) L :=
  ⟨g.sub, fun j q hj hq => (by
    rcases Nat.lt_or_ge j i with l | l
    · exact g.all j q l hq
    · obtain rfl : j = i := by omega
      obtain rfl := Option.some.inj (e.symm.trans hq)
      exact m), Nat.le_succ_of_le g.len⟩
theorem Had.new {ks L L' : List (Addr × Ky)} {i : Nat} {p : Addr × Ky} (g : Had ks i L) (e : ks[i]? = some p) (pm : L'.Perm (p :: L)) : Had ks (i + 1) L' :=
  ⟨fun q hq => (List.mem_cons.mp (pm.mem_iff.mp hq)).elim (fun z => z ▸ List.mem_of_getElem? e) (g.sub q), fun j q hj hq => (by
    rw [(pm.map (·.2)).mem_iff, List.map_cons]
    rcases Nat.lt_or_ge j i with l | l
    · exact List.mem_cons_of_mem _ (g.all j q l hq)
    · obtain rfl : j = i := by omega
      obtain rfl := Option.some.inj (e.symm.trans hq)
      exact List.mem_cons_self), by rw [pm.length_eq]; exact Nat.succ_le_succ g.len⟩
section
variable {P : Program} {w : World}
theorem is_keep {h h' : Heap} {k : Ky} {b : Addr} (hb : (kyKind P w).is h k b) (hk : ∀ c o, h.get? c = some o → h'.get? c = some o) : (kyKind P w).is h' k b := ⟨NestedIs.at (fun c oc vs n hc _ => hk c oc hc) _ _ hb.1, hb.2⟩
theorem KsR.keep {h h' : Heap} {a : Addr} {L : List (Addr × Ky)} {es : Array (Int × Value)} {ep : Nat} {t : SetTable} (R : KsR P w h a L es ep t) (ha : ∀ o, h.get? a = some o → h'.get? a = some o) (hk : ∀ p ∈ L, (kyKind P w).is h' p.2 p.1) : KsR P w h' a L es ep t :=
  ⟨let ⟨o, ho, r⟩ := R.at_; ⟨o, ha o ho, r⟩, R.rows, R.tab, R.one, hk, R.led, R.room, R.few⟩
theorem ks_loop {A : Around} {I S : Addr} {fp wr : List Addr} {G : Array GenState → Array GenState → Prop} {n : Nat} {Pv : Nat → Value → Prop} {St : Nat → Shared → Prop} {R : Result → Shared → Prop} {ks : List (Addr × Ky)} {h0 : Heap}
    (W : WalksS P w A.in1 I fp wr G n Pv St) (far : S ∉ fp) (hn : n = ks.length) (few : ks.length < 63) (val : ∀ i v, Pv i v → ∃ p, ks[i]? = some p ∧ v = .ref p.1) (hk : ∀ p ∈ ks, (kyKind P w).is h0 p.2 p.1) (newS : h0.get? S = none) (newW : ∀ b ∈ wr, h0.get? b = none) (hu : A.in1.units + 8 < cLine) :
    ∀ (m i : Nat) (s s0 : Shared), n - i = m → i ≤ n → St i s → Moved (S :: wr) G s0 s → (∀ b o, h0.get? b = some o → s.heap.get? b = some o) → (∃ L es ep t, KsR P w s.heap S L es ep t ∧ Had ks i L) →
      (∀ s' L es ep t, Moved (S :: wr) G s0 s' → KsR P w s'.heap S L es ep t → Had ks n L → (∀ b o, h0.get? b = some o → s'.heap.get? b = some o) → R (.ok (.ret .none)) s') →
      codeAny (model P w) A (.builtin "set.update.loop" ⟨[.ref S, .ref I], []⟩) R s
  | m, i, s, s0, em, hi, st, mv, kp, ⟨L, es, ep, t, hR, g⟩, q => by
    have outS : S ∉ wr := fun z => far (W.sub _ z)
    have on : ∀ {s' : Shared}, Moved wr G s s' → Moved (S :: wr) G s0 s' ∧ (∀ b o, h0.get? b = some o → s'.heap.get? b = some o) ∧ KsR P w s'.heap S L es ep t := fun {s'} hm => by
      have kp' : ∀ b o, h0.get? b = some o → s'.heap.get? b = some o := fun b o e => hm.heap b o (fun z => by rw [newW b z] at e; cases e) (kp b o e)
      exact ⟨Moved.trans W.gtrans mv (hm.mono fun b hb => List.mem_cons_of_mem _ hb), kp', hR.keep (fun o e => hm.heap S o outS e) fun p hp => is_keep (hk p (g.sub p hp)) kp'⟩
    refine codeAny_builtin F.entry_set_update_loop ?_
    rw [Around.under_plainId F.plain_set_update_loop _]
    show wpAny _ A.in1 (pyNext (.ref I) >>= _) _ _ s
    by_cases hl : i < n
    · refine wpAny_bind (W.item i s _ _ hl st fun v s' hP st' hm => ?_)
      obtain ⟨p, ep', rfl⟩ := val i v hP
      obtain ⟨mv', kp', hR'⟩ := on hm
      have hx := is_keep (hk p (List.mem_of_getElem? ep')) kp'
      show wpAny _ A.in1 (holding [Value.ref p.1] (setAdd S (.ref p.1)) >>= _) _ _ s'
      refine wpAny_bind (wpAny_holding ?_)
      unfold setAdd
      refine wpAny_holding (wpAny_bind ((kyKind P w).pyHash hu hx ?_))
      refine KsR.add (s := { s' with toks := s'.toks + (kyKind P w).draws p.2 }) hR' hx hu (by have := g.len; omega) fun b h' L' es' ep'' t' sb R2 same more => ?_
      have g' : Had ks (i + 1) L' := by
        by_cases z : p.2 ∈ L.map (·.2)
        · rw [same z]
          exact g.old ep' z
        · exact g.new ep' (more z)
      have kp2 : ∀ b o, h0.get? b = some o → h'.get? b = some o := fun b o e => (sb.2 b fun z => by rw [z, newS] at e; cases e).trans (kp' b o e)
      refine wpAny_pure ⟨plainId_quiet F.plain_set_update_loop _, ?_⟩
      refine ks_loop W far hn few val hk newS newW hu (m - 1) (i + 1) _ s0 (by omega) hl (W.frame _ s' _ _ st' (Nat.le_add_right _ _) fun b hb o e => (sb.2 b fun z => far (z ▸ hb)).trans e) (mv'.then_heap (Nat.le_add_right _ _) fun b o hb e => (sb.2 b fun z => hb (z ▸ List.mem_cons_self)).trans e) kp2 ⟨L', es', ep'', t', R2, g'⟩ q
    · obtain rfl : i = n := by omega
      refine wpAny_bind (W.done s _ _ st fun s' hm => ?_)
      obtain ⟨mv', kp', hR'⟩ := on hm
      show wpAny _ A.in1 (ret Value.none) _ _ s'
      exact wpAny_pure (q s' L es ep t mv' hR' g kp')
  termination_by m i => n - i
/-- set(t) -/
theorem call_set_kys {A : Around} {E : Value → Shared → Prop} {s : Shared} {l : Addr} {items : Array Value} (ks : List (Addr × Ky)) {Q : Value → Shared → Prop} (hh : A.handled = none) (hl : s.heap.IsTuple l items) (hit : items.toList = ks.map fun p => Value.ref p.1) (hk : ∀ p ∈ ks, (kyKind P w).is s.heap p.2 p.1) (few : ks.length < 63) (hu : A.units + 12 < cLine)
    (h : ∀ (h' : Heap) (tk : Nat) L es ep t, KsR P w h' s.heap.objs.size L es ep t → Had ks ks.length L → (∀ b o, s.heap.get? b = some o → h'.get? b = some o) → Q (.ref s.heap.objs.size) { s with heap := h', toks := tk }) : wpAny (model P w) A (call (.type "set") [.ref l]) Q E s := by
  have hn : items.size = ks.length := by
    rw [← Array.length_toList, hit, List.length_map]
  obtain ⟨mc, mt, mro⟩ := F.called_set.mro
  have f1 := F.called_set.made
  have f2 := F.called_set.sub
  have f3 := F.called_set.notType
  have f4 := F.called_set.canCreate
  have f5 := F.typeCall_set_1 (.ref l)
  refine wpAny_call (codeAny_of_tree ?_)
  show wpAny _ _ (callAny (.type "set") _) _ _ _
  refine wpAny_pure ⟨Code.quiet_builtin _ (by decide +kernel), codeAny_builtin F.entry_type_call ?_⟩
  rw [Around.under_plain (weight_type_call_type "set" [.ref l] []) rfl]
  repeat (any_goals (first | assumption | wp_step))
  refine codeAny_mono (code_set_led1 (.ref l) (E := E) (Q₁ := fun obj s₁ => obj = .ref s.heap.objs.size ∧ s₁ = { s with heap := s.heap.push { cls := .type "set", dict := none, data := .set #[] 0 (.fresh 0 0 (!w.params.followText "set-order")) } }) ⟨rfl, rfl⟩) fun r s₁ hr => ?_
  match r, hr with
  | .error e, hr => exact hr
  | .ok .next, hr => exact hr.elim
  | .ok .brk, hr => exact hr.elim
  | .ok .cont, hr => exact hr.elim
  | .ok (.ret obj), hr =>
    obtain ⟨rfl, rfl⟩ := hr
    have hS : (s.heap.push { cls := .type "set", dict := none, data := .set #[] 0 (.fresh 0 0 (!w.params.followText "set-order")) }).get? s.heap.objs.size = some { cls := .type "set", dict := none, data := .set #[] 0 (.fresh 0 0 (!w.params.followText "set-order")) } := Heap.get?_push_size _ rfl
    have hT : Shared.TypeIs { s with heap := s.heap.push { cls := .type "set", dict := none, data := .set #[] 0 (.fresh 0 0 (!w.params.followText "set-order")) } } (.ref s.heap.objs.size) "set" := ⟨_, hS, rfl⟩
    have g1 := F.called_set.init.lookup
    have g2 := F.called_set.init.bind (.ref s.heap.objs.size)
    repeat (any_goals (first | assumption | wp_step))
    refine codeAny_mono (codeAny_call_builtin (R := wants (fun r s₂ => r = .none ∧ ∃ h' tk L es ep t, s₂ = { s with heap := h', toks := tk } ∧ KsR P w h' s.heap.objs.size L es ep t ∧ Had ks ks.length L ∧ (∀ b o, s.heap.get? b = some o → h'.get? b = some o)) E) F.called_set.init.plain F.entry_set_init (check_set_init_1 hT ?_)) fun r₂ s₂ hr₂ => ?_
    · obtain ⟨ol, hol, hcl, nl, hdl⟩ := hl
      obtain ⟨ocls, odict, odata, oslots⟩ := ol
      simp only at hcl hdl
      subst hcl hdl
      have hol' : (s.heap.push { cls := .type "set", dict := none, data := .set #[] 0 (.fresh 0 0 (!w.params.followText "set-order")) }).get? l = some { cls := .type "tuple", dict := odict, data := .seq items nl, slots := oslots } := Heap.get?_push_of_some _ hol
      have u1 := F.sub_tuple_set
      have u2 := F.sub_tuple_frozenset
      have u3 : (Value.type "tuple" == Value.type "dict") = false := by decide
      have ht1 : (s.heap.push { cls := .type "set", dict := none, data := .set #[] 0 (.fresh 0 0 (!w.params.followText "set-order")) }).IsTuple l items := ⟨_, Heap.get?_push_of_some _ hol, rfl, nl, rfl⟩
      unfold Builtin.«set.__init__» noKeywords Builtin.Frozenset.updateFrom
      generalize hPI : pyIter = PI
      wp_walk
      subst hPI
      refine wpAny_pyIter_tuple ht1 (wpAny_bind (wpAny_runValue ?_))
      have lS : l < s.heap.objs.size := Heap.lt_size hol
      have zS : (s.heap.push { cls := .type "set", dict := none, data := .set #[] 0 (.fresh 0 0 (!w.params.followText "set-order")) }).objs.size = s.heap.objs.size + 1 := Heap.size_push ..
      have none_ : ∀ b, s.heap.objs.size ≤ b → s.heap.get? b = none := fun b hb => by
        cases z : s.heap.get? b with
        | none => rfl
        | some o => exact absurd (Heap.lt_size z) (Nat.not_lt_of_le hb)
      have val : ∀ (i : Nat) (v : Value), items[i]? = some v → ∃ p, ks[i]? = some p ∧ v = .ref p.1 := fun i v hv => by
        rw [← Array.getElem?_toList, hit, List.getElem?_map] at hv
        obtain ⟨p, e1, e2⟩ := Option.map_eq_some_iff.mp hv
        exact ⟨p, e1, e2.symm⟩
      have hI : (s.heap.push { cls := .type "set", dict := none, data := .set #[] 0 (.fresh 0 0 (!w.params.followText "set-order")) }).objs.size ≠ l := by
        rw [zS]
        exact Nat.ne_of_gt (Nat.lt_succ_of_lt lS)
      have W := (Walks.tuple (prog := P) (w := w) (A := A.in1.in1.in1) (by simp [hh]) _ l (Ne.symm hI) items).toS
      refine ks_loop (A := A.in1.in1) (h0 := s.heap) W (fun z => ?_) hn few val hk (none_ _ (Nat.le_refl _)) (fun b hb => none_ b ?_) (show A.units + 1 + 1 + 1 + 8 < cLine by omega) (items.size - 0) 0 _ _ rfl (Nat.zero_le _) ⟨⟨_, Heap.get?_push_size _ rfl, rfl, rfl⟩, ht1.push _⟩ ⟨fun b o _ e => e, W.grefl _, rfl, rfl, Nat.le_refl _⟩ (fun b o e => Heap.get?_push_of_some _ (Heap.get?_push_of_some _ e)) ⟨[], #[], 0, _, ks_fresh (Heap.get?_push_of_some _ hS), Had.start ks⟩ ?_
      · rcases List.mem_cons.mp z with z | z
        · rw [zS] at z
          exact Nat.ne_of_lt (Nat.lt_succ_self _) z
        · exact Nat.ne_of_lt lS (List.mem_singleton.mp z).symm
      · rw [List.mem_singleton.mp hb, zS]
        exact Nat.le_succ _
      · intro s' L es ep t hm k1 g kp
        obtain ⟨h', g2, d', tk', os'⟩ := s'
        obtain rfl : g2 = s.gens := hm.gens
        obtain rfl : d' = s.drawn := hm.drawn
        obtain rfl : os' = s.os := hm.os
        rw [hn] at g
        exact wpAny_pure (wpAny_pure ⟨rfl, h', tk', L, es, ep, t, rfl, k1, g, kp⟩)
    · match r₂, hr₂ with
      | .error e, z => exact z
      | .ok .next, z => exact z.elim
      | .ok .brk, z => exact z.elim
      | .ok .cont, z => exact z.elim
      | .ok (.ret r), ⟨e1, h', tk, L, es, ep, t, e2, k1, k2, k3⟩ =>
        subst e1 e2
        repeat (any_goals (first | assumption | wp_step))
        exact h _ _ _ _ _ _ k1 k2 k3
end
section
variable {X : Cx} {pn : List (Addr × Obj)} {sg : L2.St} {H : Hp} {s : Shared}
theorem refs_of : ∀ {as : List Addr} {us : List Value}, Vals (as.map V.ref) us → us = as.map Value.ref
  | [], _, h => by
    have h : Vals [] _ := h
    cases h
    rfl
  | a :: as, _, h => by
    have h : Vals (V.ref a :: as.map V.ref) _ := h
    cases h with
    | cons r t =>
      cases r
      rw [refs_of t]
      rfl
theorem zip_fst {α β : Type} {R : α → β → Prop} : ∀ {as : List α} {bs : List β}, Paired R as bs → (as.zip bs).map (·.1) = as ∧ (as.zip bs).map (·.2) = bs ∧ ∀ p ∈ as.zip bs, R p.1 p.2
  | _, _, .nil => ⟨rfl, rfl, fun p h => (nomatch h)⟩
  | _, _, .cons r t => by
    obtain ⟨h1, h2, h3⟩ := zip_fst t
    refine ⟨by rw [List.zip_cons_cons, List.map_cons, h1], by rw [List.zip_cons_cons, List.map_cons, h2], fun p hp => ?_⟩
    rcases List.mem_cons.mp hp with rfl | hp
    · exact r
    · exact h3 p hp
/-- set(t) of keys -/
def rKsOf (K : PySem.W.Frag) (P : Program) (w : World) : List V → Hp → VK → Prop := fun vs H Q => ∃ (t : Addr) (as : List Addr) (ks : List Ky), vs = [.ref t] ∧ SqT K H t (as.map V.ref) ∧ KyAll K H as ks ∧ ks.length < 63 ∧
  ∀ p L, H p = none → Ks K P w (upd H p (KsO P w p L)) p L → (∀ k, k ∈ L.map (·.2) ↔ k ∈ ks) → (L.map (·.2)).Nodup → Q (.ref p) (upd H p (KsO P w p L))
theorem cr_ksOf (hc : X.calm = true) (hu : X.A.units + 20 < cLine) : CallR X (.type "set") (rKsOf X.K X.prog X.w) := by
  intro pn s sg H vxs uxs Qq I r1 hyp
  obtain ⟨t, as, ks, rfl, ht, hall, few, q⟩ := hyp
  obtain ⟨u, rfl, r2⟩ := vals1 r1
  cases (show u = Value.ref t from r2)
  obtain ⟨its, rits, la, _⟩ := I.tuple ht
  obtain ⟨z1, z2, z3⟩ := zip_fst hall
  have lz : (as.zip ks).length = ks.length := by
    have := congrArg List.length z2
    rwa [List.length_map] at this
  have hm : ∀ k, k ∈ (as.zip ks).map (·.2) ↔ k ∈ ks := fun k => by rw [z2]
  refine call_set_kys (as.zip ks) (I.ok.hd hc) la ?_ (fun p hp => (z3 p hp).is I) (by omega) (by omega) fun h' tk L es ep tb R g kp => ?_
  · rw [List.toList_toArray, refs_of rits, ← z1, List.map_map, z1]
    rfl
  · have nf : H s.heap.objs.size = none := I.hok.fresh (Nat.le_refl _)
    have mem : ∀ k, k ∈ L.map (·.2) ↔ k ∈ ks := fun k => by
      constructor
      · intro h
        obtain ⟨p, hp, rfl⟩ := List.mem_map.mp h
        exact (hm _).mp (List.mem_map_of_mem (g.sub p hp))
      · intro h
        obtain ⟨p, hp, rfl⟩ := List.mem_map.mp ((hm k).mpr h)
        obtain ⟨j, hj⟩ := List.getElem?_of_mem hp
        exact g.all j p (List.getElem?_eq_some_iff.mp hj).1 hj
    have new := same_new (o := KsO X.prog X.w s.heap.objs.size L) nf
    refine ⟨.ref _, _, I.laid (t' := tk) kp (Nat.le_refl _) (ksO_ok R), rfl, q _ L nf ⟨upd_same, fun p hp => ?_⟩ mem R.one⟩
    exact (z3 p (g.sub p hp)).same new
/-- len of such a set -/
def rLenKs (K : PySem.W.Frag) (P : Program) (w : World) : List V → Hp → VK → Prop := fun vs H Q => ∃ (d : Addr) (L : List (Addr × Ky)), vs = [.ref d] ∧ Ks K P w H d L ∧ Q (.int (L.length : Nat)) H
theorem cr_lenKs : CallR X (.builtin "len") (rLenKs X.K X.prog X.w) := by
  intro pn s sg H vxs uxs Qq I r1 hyp
  obtain ⟨d, L, rfl, hS, q⟩ := hyp
  obtain ⟨u, rfl, r2⟩ := vals1 r1
  cases (show u = Value.ref d from r2)
  obtain ⟨es, ep, t, R⟩ := hS.of I
  obtain ⟨o, ho, hex, hd⟩ := R.at_
  have n1 := R.size
  have few := R.few
  exact call_len_set ho hex hd R.fits (by rw [n1] <;> omega) ⟨.int (L.length : Nat), H, I.tok _, ⟨_, by rw [n1]⟩, q⟩
end
end Jv
/-! d.get(k), d.get(k, x), k not in d: dicts of keys, and of flat data of any kind -/
namespace Jv
open PySem PySem.Spec PyProof.Rows L2
theorem ifT {b : Bool} {p q : Prop} (h : b = true) (x : p) : if b = true then p else q := by rw [if_pos h]; exact x
theorem ifF {b : Bool} {p q : Prop} (h : b = false) (x : q) : if b = true then p else q := by rw [if_neg (by rw [h]; exact Bool.false_ne_true)]; exact x
section
variable {X : Cx}
theorem h20_of {A : Around} {k : Nat} (hr : Room k A) : A.units + 20 < cLine := by
  have := hr.un
  omega
def rGetN (K : PySem.W.Frag) (P : Program) (w : World) : V → List V → Hp → VK → Prop := fun x xs H Q => ∃ d kvs a k, x = .ref d ∧ xs = [.ref a] ∧ Nd K P w H d kvs ∧ KyAt K H a k ∧ Q ((getN kvs k).getD .non) H
theorem mt_getN (hu : X.A.units + 20 < cLine) : MtR X "dict.get" (rGetN X.K X.prog X.w) := by
  intro pn s sg H x xs v us Q I rx rxs hyp
  obtain ⟨d, kvs, a, k, rfl, rfl, hN, hk, q⟩ := hyp
  cases (show v = Value.ref d from rx)
  obtain ⟨u1, rfl, r1⟩ := vals1 rxs
  cases (show u1 = Value.ref a from r1)
  obtain ⟨xs, h1, h2⟩ := hN.ex
  obtain ⟨hz, hd, hm⟩ := Nd.of I h1 h2
  have all := getN_none h2 (k := k)
  refine call_meetsIn F.slot_dict_get hm.typeIs F.entry_dict_get (F.args_dict_get_2 _ _) (meetsH_dict_get (kyKind X.prog X.w) d a hd) ⟨(show X.A.units + 1 + 8 < cLine by omega), k, xs, hk.is I, hm, ?_⟩
  cases e : atKey xs k with
  | none =>
    rw [all.1 e] at q
    exact ⟨.non, H, I.tok _, rfl, q⟩
  | some p =>
    obtain ⟨z, e1, e2⟩ := all.2 p e
    rw [e1] at q
    exact ⟨z, H, I.tok _, e2, q⟩
def rNotInN (K : PySem.W.Frag) (P : Program) (w : World) : R2 := fun x y H Q => ∃ a d kvs k, x = .ref a ∧ y = .ref d ∧ Nd K P w H d kvs ∧ KyAt K H a k ∧ Q (.bl (!decide (k ∈ kvs.map (·.1)))) H
theorem op_notInN (hu : X.A.units + 20 < cLine) : OpR X (compareOp .NotIn) (rNotInN X.K X.prog X.w) := by
  intro pn s sg H vx vy ux uy Q I r1 r2 hyp
  obtain ⟨a, d, kvs, k, rfl, rfl, hN, hk, q⟩ := hyp
  cases (show ux = Value.ref a from r1)
  cases (show uy = Value.ref d from r2)
  obtain ⟨xs, h1, h2⟩ := hN.ex
  obtain ⟨hz, hd, hm⟩ := Nd.of I h1 h2
  show wpAny _ _ (do return Value.bool (!(← contains (.ref d) (.ref a)))) _ _ s
  refine wpAny_bind (wpAny_contains_heap (knd := kyKind X.prog X.w) (k := k) (show X.A.units + 1 + 8 < cLine by omega) (hk.is I) hd hm ?_)
  rw [atKey_mem h2]
  exact wpAny_pure ⟨.bl _, H, I.tok _, rfl, q⟩
/-! flat data of any kind as keys -/
variable {KT : Type} [DecidableEq KT] [KC KT]
def rGetG (KT : Type) [DecidableEq KT] [KC KT] (K : PySem.W.Frag) (P : Program) (w : World) : V → List V → Hp → VK → Prop := fun x xs H Q => ∃ (d : Addr) (kvs : List (KT × V)) (a : Addr) (k : KT), x = .ref d ∧ xs = [.ref a] ∧ NdG KT K P w H d kvs ∧ GyAt K H a k ∧ Q ((getNG kvs k).getD .non) H
theorem mt_getG (hu : X.A.units + 20 < cLine) : MtR X "dict.get" (rGetG KT X.K X.prog X.w) := by
  intro pn s sg H x xs v us Q I rx rxs hyp
  obtain ⟨d, kvs, a, k, rfl, rfl, hN, hk, q⟩ := hyp
  cases (show v = Value.ref d from rx)
  obtain ⟨u1, rfl, r1⟩ := vals1 rxs
  cases (show u1 = Value.ref a from r1)
  obtain ⟨xs, h1, h2⟩ := hN.ex
  obtain ⟨hz, hd, hm⟩ := NdG.of I h1 h2
  have all := getN_noneG h2 (k := k)
  refine call_meetsIn F.slot_dict_get hm.typeIs F.entry_dict_get (F.args_dict_get_2 _ _) (meetsH_dict_get (gkKind KT X.prog X.w) d a hd) ⟨(show X.A.units + 1 + 8 < cLine by omega), k, xs, hk.is I, hm, ?_⟩
  cases e : atKey xs k with
  | none =>
    rw [all.1 e] at q
    exact ⟨.non, H, I.tok _, rfl, q⟩
  | some p =>
    obtain ⟨z, e1, e2⟩ := all.2 p e
    rw [e1] at q
    exact ⟨z, H, I.tok _, e2, q⟩
def rGet2G (KT : Type) [DecidableEq KT] [KC KT] (K : PySem.W.Frag) (P : Program) (w : World) : V → List V → Hp → VK → Prop := fun x xs H Q => ∃ (d : Addr) (kvs : List (KT × V)) (a : Addr) (k : KT) (y : V), x = .ref d ∧ xs = [.ref a, y] ∧ NdG KT K P w H d kvs ∧ GyAt K H a k ∧ Q ((getNG kvs k).getD y) H
theorem mt_get2G (hu : X.A.units + 20 < cLine) : MtR X "dict.get" (rGet2G KT X.K X.prog X.w) := by
  intro pn s sg H x xs v us Q I rx rxs hyp
  obtain ⟨d, kvs, a, k, y, rfl, rfl, hN, hk, q⟩ := hyp
  cases (show v = Value.ref d from rx)
  obtain ⟨u1, u2, rfl, r1, r2⟩ := vals2 rxs
  cases (show u1 = Value.ref a from r1)
  obtain ⟨xs, h1, h2⟩ := hN.ex
  obtain ⟨hz, hd, hm⟩ := NdG.of I h1 h2
  have all := getN_noneG h2 (k := k)
  refine call_meetsIn F.slot_dict_get hm.typeIs F.entry_dict_get (F.args_dict_get_3 _ _ _) (meetsH_dict_get_default (gkKind KT X.prog X.w) d a hd u2) ⟨(show X.A.units + 1 + 8 < cLine by omega), k, xs, hk.is I, hm, ?_⟩
  cases e : atKey xs k with
  | none =>
    rw [all.1 e] at q
    exact ⟨y, H, I.tok _, r2, q⟩
  | some p =>
    obtain ⟨z, e1, e2⟩ := all.2 p e
    rw [e1] at q
    exact ⟨z, H, I.tok _, e2, q⟩
def rNotInG (KT : Type) [DecidableEq KT] [KC KT] (K : PySem.W.Frag) (P : Program) (w : World) : R2 := fun x y H Q => ∃ (a d : Addr) (kvs : List (KT × V)) (k : KT), x = .ref a ∧ y = .ref d ∧ NdG KT K P w H d kvs ∧ GyAt K H a k ∧ Q (.bl (!decide (k ∈ kvs.map (·.1)))) H
theorem op_notInG (hu : X.A.units + 20 < cLine) : OpR X (compareOp .NotIn) (rNotInG KT X.K X.prog X.w) := by
  intro pn s sg H vx vy ux uy Q I r1 r2 hyp
  obtain ⟨a, d, kvs, k, rfl, rfl, hN, hk, q⟩ := hyp
  cases (show ux = Value.ref a from r1)
  cases (show uy = Value.ref d from r2)
  obtain ⟨xs, h1, h2⟩ := hN.ex
  obtain ⟨hz, hd, hm⟩ := NdG.of I h1 h2
  show wpAny _ _ (do return Value.bool (!(← contains (.ref d) (.ref a)))) _ _ s
  refine wpAny_bind (wpAny_contains_heap (knd := gkKind KT X.prog X.w) (k := k) (show X.A.units + 1 + 8 < cLine by omega) (hk.is I) hd hm ?_)
  rw [atKey_memG h2]
  exact wpAny_pure ⟨.bl _, H, I.tok _, rfl, q⟩
end
end Jv
namespace S1
open PySem PySem.Spec PyProof.Rows L2 Jv
section
variable {P : Program} {w : World} {K : PySem.W.Frag} {mg : Str → Option Value} {base : Heap} {C : Addr}
theorem exn_TooMany (T : Txt K mg) (D : ExnD K mg "TooMany" "most" "TooMany.__init__" st_TooMany C) : Exn P w K mg base "TooMany" "most" C := by
  obtain ⟨B, b⟩ := T.b_JarError
  refine D.exn sc_TooMany fun fI cdv A out s H vs Q E hr h => ?_
  obtain ⟨a, C', y, rfl, ea, hT, hno, q⟩ := h
  refine ⟨_, pss_cons (ps_expr (pe_jinit b (pa_cons (pv 0) (pa_cons pe_str pa_nil)))) (pss_one (ps_ost (pv 0) (pv 1))), ?_⟩
  exact ⟨.ref a, rfl, a, C', [_], rfl, (by decide), hT, ea, y, rfl, .ref a, rfl, a, C', rfl, hT, hno, Or.inl ⟨ea, fun dx n ne => q dx n ne⟩⟩
/-- few keys pass, more are refused -/
def spFew (K : PySem.W.Frag) (C : Addr) : Sp := fun vs H Q E => ∃ (t : Addr) (as : List Addr) (ks : List Ky), vs = [.ref t] ∧ SqT K H t (as.map V.ref) ∧ KyAll K H as ks ∧ ks.Nodup ∧ ks.length < 63 ∧
  (ks.length ≤ 6 → ∀ H', Same H H' → Q .non H') ∧ (6 < ks.length → ∀ H' d, Same H H' → H' d = some (.xd [("most", .int 6)]) → E (.ref C) (some d) H')
theorem ok_need_few (T : Txt K mg) (n_TooMany : Exn P w K mg base "TooMany" "most" C) : OkX P w K mg base "need_few_keys" P_need_few_keys 3 (spFew K C) := by
  refine T.d_need_few_keys.okX sc_need_few_keys (fun vs H Q E h => ?_) (fun f cdv A out s H vs Q E hr h => ?_)
  · obtain ⟨t, as, ks, rfl, _⟩ := h
    rfl
  · obtain ⟨t, as, ks, rfl, h1, h2, nd, few, q1, q2⟩ := h
    refine ⟨_, (pss_one (ps_if (pt_cmpR op_gt (pe_callB (show CallR _ _ (rLenKs K P w) from cr_lenKs) (by rfl) T.z_len (by decide +kernel) (pa_cons (pe_callTy (show CallR _ _ (rKsOf K P w) from cr_ksOf rfl (hx_of hr)) (by rfl) T.z_set (by decide +kernel) (pa_cons (pv 0) pa_nil)) pa_nil)) (pe_gc T.c_MOST_KEYS) (nomark _)) (pss_one (ps_raiseE n_TooMany (hr.mono (by decide)) (takes_of rfl rfl rfl rfl) (pe_gc T.c_MOST_KEYS))) pss_nil)), ?_⟩
    refine ⟨.ref t, rfl, t, as, ks, rfl, h1, h2, few, fun p L np hL mem ndL => ?_⟩
    have len : L.length = ks.length := by
      have a1 := nodup_le ndL fun k hk => (mem k).mp hk
      have a2 := nodup_le nd fun k hk => (mem k).mpr hk
      rw [List.length_map] at a1 a2
      omega
    have s1 : Same H (upd H p (KsO P w p L)) := same_new np
    refine ⟨p, L, rfl, hL, _, _, rfl, rfl, _, rfl, ?_⟩
    rw [len]
    by_cases h6 : 6 < ks.length
    · refine ifT (decide_eq_true (by omega)) (mk_read n_TooMany fun dd Hx nd sx ed => q2 h6 Hx dd (s1.trans sx) ed)
    · exact ifF (decide_eq_false (by omega)) (q1 (by omega) _ s1)
end
end S1
namespace S1
open PySem PySem.Spec PyProof.Rows L2 Jv
/-! ### the state that is drawn from -/
def kvS (c l : Addr) (m r : Int) : List (Key × V) := [(Sum.inr ("cells" : Str), V.ref c), (Sum.inr ("lefts" : Str), V.ref l), (Sum.inr ("at" : Str), V.int m), (Sum.inr ("room" : Str), V.int r)]
theorem kq {a b : String} (h : (Str.ofString a : Str) ≠ Str.ofString b) {x y : V} : ¬ ((Sum.inr (Str.ofString a) : Key), x).1 = (Sum.inr (Str.ofString b) : Key) := fun z => h (Sum.inr.inj z)
theorem kvS_cells (c l : Addr) (m r : Int) : valV (kvS c l m r) (Sum.inr ("cells" : Str)) = some (.ref c) := valV_pos rfl
theorem kvS_lefts (c l : Addr) (m r : Int) : valV (kvS c l m r) (Sum.inr ("lefts" : Str)) = some (.ref l) := by
  unfold kvS
  rw [valV_neg (fun z => absurd (Sum.inr.inj z) (by decide +kernel)), valV_pos rfl]
theorem kvS_at (c l : Addr) (m r : Int) : valV (kvS c l m r) (Sum.inr ("at" : Str)) = some (.int m) := by
  unfold kvS
  rw [valV_neg (fun z => absurd (Sum.inr.inj z) (by decide +kernel)), valV_neg (fun z => absurd (Sum.inr.inj z) (by decide +kernel)), valV_pos rfl]
theorem kvS_put (c l : Addr) (m r z : Int) : putK (kvS c l m r) (Sum.inr ("at" : Str)) (.int z) = kvS c l z r := by
  have h1 : ¬ (Sum.inr ("cells" : Str) : Key) = Sum.inr ("at" : Str) := fun z => absurd (Sum.inr.inj z) (by decide +kernel)
  have h2 : ¬ (Sum.inr ("lefts" : Str) : Key) = Sum.inr ("at" : Str) := fun z => absurd (Sum.inr.inj z) (by decide +kernel)
  have h4 : ¬ (Sum.inr ("room" : Str) : Key) = Sum.inr ("at" : Str) := fun z => absurd (Sum.inr.inj z) (by decide +kernel)
  unfold putK kvS
  simp [h1, h2, h4]
theorem get_cells {H : Hp} {d c l : Addr} {m r : Int} (h : H d = some (.dK (kvS c l m r))) : DGet H d (.str "cells") (some (.ref c)) := by
  rw [← kvS_cells c l m r]
  exact DGet.k (k := Sum.inr ("cells" : Str)) h
theorem get_lefts {H : Hp} {d c l : Addr} {m r : Int} (h : H d = some (.dK (kvS c l m r))) : DGet H d (.str "lefts") (some (.ref l)) := by
  rw [← kvS_lefts c l m r]
  exact DGet.k (k := Sum.inr ("lefts" : Str)) h
theorem get_at {H : Hp} {d c l : Addr} {m r : Int} (h : H d = some (.dK (kvS c l m r))) : DGet H d (.str "at") (some (.int m)) := by
  rw [← kvS_at c l m r]
  exact DGet.k (k := Sum.inr ("at" : Str)) h
theorem put_at {H : Hp} {d c l : Addr} {m r : Int} (z : Int) (h : H d = some (.dK (kvS c l m r))) : DPut H d (.str "at") (.int z) (upd H d (.dK (kvS c l z r))) := by
  rw [← kvS_put c l m r z]
  exact DPut.k (k := Sum.inr ("at" : Str)) h (by show 4 < sizeLine; decide)
structure St (H : Hp) (d l c : Addr) (n : Int) : Prop where
  ex : ∃ (cells lefts : List Int) (m r : Int), H d = some (.dK (kvS c l m r)) ∧ H c = some (.lst (cells.map V.int)) ∧ H l = some (.lst (lefts.map V.int)) ∧ lefts.length = cells.length ∧ 0 < cells.length ∧ cells.length ≤ 1000 ∧ c ≠ l ∧ 0 ≤ m ∧ m ≤ n
theorem St.mono {H : Hp} {d l c : Addr} {n k : Int} (h : St H d l c n) (e : n ≤ k) : St H d l c k := by
  obtain ⟨cells, lefts, m, r, a1, a2, a3, a4, a5, a6, a7, a8, a9⟩ := h.ex
  exact ⟨cells, lefts, m, r, a1, a2, a3, a4, a5, a6, a7, a8, by omega⟩
theorem St.keep {H H' : Hp} {d l c : Addr} {n : Int} (h : St H d l c n) (e1 : H' d = H d) (e2 : H' l = H l) (e3 : H' c = H c) : St H' d l c n := by
  obtain ⟨cells, lefts, m, r, a1, a2, a3, rest⟩ := h.ex
  exact ⟨cells, lefts, m, r, e1.trans a1, e3.trans a2, e2.trans a3, rest⟩
theorem St.same {H H' : Hp} {d l c : Addr} {n : Int} (h : St H d l c n) (s : Same H H') : St H' d l c n := by
  obtain ⟨cells, lefts, m, r, a1, a2, a3, rest⟩ := h.ex
  exact ⟨cells, lefts, m, r, s _ _ a1, s _ _ a2, s _ _ a3, rest⟩
theorem St.fresh {H : Hp} {d l c D : Addr} {n : Int} (h : St H d l c n) (nD : H D = none) : D ≠ d ∧ D ≠ l ∧ D ≠ c := by
  obtain ⟨cells, lefts, m, r, a1, a2, a3, rest⟩ := h.ex
  exact ⟨(ne_of_none a1 nD).symm, (ne_of_none a3 nD).symm, (ne_of_none a2 nD).symm⟩
theorem St.upd {H : Hp} {d l c D : Addr} {n : Int} {o : HO} (h : St H d l c n) (e : D ≠ d ∧ D ≠ l ∧ D ≠ c) : St (upd H D o) d l c n :=
  h.keep (upd_ne e.1.symm) (upd_ne e.2.1.symm) (upd_ne e.2.2.symm)
/-- all but the dict and the leftovers is as it was -/
def But (d l : Addr) (H H' : Hp) : Prop := ∀ b o, b ≠ d → b ≠ l → H b = some o → H' b = some o
theorem But.refl (d l : Addr) (H : Hp) : But d l H H := fun _ _ _ _ h => h
theorem But.trans {d l : Addr} {H H1 H2 : Hp} (a : But d l H H1) (b : But d l H1 H2) : But d l H H2 := fun x o h1 h2 e => b x o h1 h2 (a x o h1 h2 e)
theorem Same.but {d l : Addr} {H H1 : Hp} (a : Same H H1) : But d l H H1 := fun x o _ _ e => a x o e
theorem But.at {d l c : Addr} {H H' : Hp} {n : Int} {a : Addr} {xs : List V} (e : But d l H H') (s : St H d l c n) (h : H a = some (.tup xs)) : H' a = some (.tup xs) := by
  obtain ⟨cells, lefts, m, r, a1, a2, a3, rest⟩ := s.ex
  exact e a _ (ne_of h a1 (by intro z; cases z)) (ne_of h a3 (by intro z; cases z)) h
/-! ### numbers -/
theorem fmod_in (a : Int) {b : Int} (h : 0 < b) : 0 ≤ a.fmod b ∧ a.fmod b < b := by
  rw [Int.fmod_eq_emod_of_nonneg a (by omega)]
  exact ⟨Int.emod_nonneg _ (by omega), Int.emod_lt_of_pos _ h⟩
def mix1 (c : Int) : Int := c.fmod 2147483647
def mix2 (c k : Int) : Int := c * (48271 + 2 * k * k) + 69621 * k + 11
def mix3 (z : Int) : Int := z.fmod 2147483647
def mix4 (z : Int) : Int := (z * 69621).fmod 2147483629
def mix (c k : Int) : Int := mix4 (mix3 (mix2 (mix1 c) k))
theorem mix_in (c k : Int) : 0 ≤ mix c k ∧ mix c k < 2147483629 := fmod_in _ (by decide)
section
variable {P : Program} {w : World} {K : PySem.W.Frag} {mg : Str → Option Value} {base : Heap}
def spMixed : Sp := fun vs H Q _ => ∃ c k : Int, vs = [.int c, .int k] ∧ 0 ≤ k ∧ k < 2 ^ 60 ∧ Q (.int (mix c k)) H
theorem ok_law_mixed (T : Txt K mg) : Ok P w K mg base "_law_mixed" P__law_mixed 1 spMixed := by
  refine T.d__law_mixed.ok sc__law_mixed (fun vs H Q E h => ?_) (fun f cdv A out s H vs Q E hr h => ?_)
  · obtain ⟨c, k, rfl, _⟩ := h
    rfl
  · obtain ⟨c, k, rfl, h1, h2, q⟩ := h
    refine ⟨_, (pss_cons (ps_set (i := 0) sc__law_mixed.nd rfl (Or.inl rfl) (pe_op op_modN (pe_callTy call_int1 (by rfl) T.z_int (by decide +kernel) (pa_cons (pv 0) pa_nil)) pe_int))
    (pss_one (ps_ret (pe_op op_modN (pe_op op_mul (pe_op op_modN (pe_op op_add (pe_op op_add (pe_op op_mul (pv 0) (pe_op op_add pe_int (pe_op op_mul (pe_op op_mul pe_int (pv 1)) (pv 1)))) (pe_op op_mul pe_int (pv 1))) pe_int) pe_int) pe_int) pe_int)))), ?_⟩
    refine ⟨.int c, rfl, Or.inl ⟨c, rfl, _, _, rfl, rfl, (show (2147483647 : Int) ≠ 0 by decide), ?_⟩⟩
    have r1 : 0 ≤ mix1 c ∧ mix1 c < 2147483647 := fmod_in c (by decide)
    have r3 : 0 ≤ mix3 (mix2 (mix1 c) k) ∧ mix3 (mix2 (mix1 c) k) < 2147483647 := fmod_in _ (by decide)
    refine ⟨.int (mix1 c), rfl, .int k, rfl, 2, k, rfl, rfl, .inl ⟨by decide, by decide⟩, .int k, rfl, 2 * k, k, rfl, rfl, .inr ⟨by omega, by omega⟩, 48271, 2 * k * k, rfl, rfl, mix1 c, 48271 + 2 * k * k, rfl, rfl, .inl ⟨by omega, by omega⟩, ?_⟩
    refine ⟨.int k, rfl, 69621, k, rfl, rfl, .inl ⟨by decide, by decide⟩, _, _, rfl, rfl, _, _, rfl, rfl, _, _, rfl, rfl, (show (2147483647 : Int) ≠ 0 by decide), ?_⟩
    refine ⟨mix3 (mix2 (mix1 c) k), 69621, rfl, rfl, .inr ⟨by decide, by decide⟩, _, _, rfl, rfl, (show (2147483629 : Int) ≠ 0 by decide), ?_⟩
    exact q
/-- a number below many is drawn -/
def spDraw : Sp := fun vs H Q _ => ∃ (d l c : Addr) (n many : Int), vs = [.ref d, .int many] ∧ St H d l c n ∧ n < 2 ^ 50 ∧ 0 < many ∧ many < 2 ^ 20 ∧
  ∀ H' i, But d l H H' → St H' d l c (n + 1) → 0 ≤ i → i < many → Q (.int i) H'
theorem ok_law_draw (T : Txt K mg) : Ok P w K mg base "_law_draw" P__law_draw 2 spDraw := by
  have ok__law_mixed : Ok P w K mg base "_law_mixed" P__law_mixed 1 spMixed := ok_law_mixed T
  refine T.d__law_draw.ok sc__law_draw (fun vs H Q E h => ?_) (fun f cdv A out s H vs Q E hr h => ?_)
  · obtain ⟨d, l, c, n, many, rfl, _⟩ := h
    rfl
  · obtain ⟨d, l, c, n, many, rfl, hS, hn, hm1, hm2, q⟩ := h
    refine ⟨_, (pss_cons (ps_set (i := 2) sc__law_draw.nd rfl (Or.inl rfl) (pe_dget (hu_of hr) (pv 0) pe_str (fun _ _ => rfl)))
    (pss_cons (ps_dput (hu_of hr) (pv 0) pe_str (pe_op op_add (pv 2) pe_int) rfl)
    (pss_cons (ps_set (i := 3) sc__law_draw.nd rfl (Or.inl rfl) (pe_op op_modN (pe_callTy call_int1 (by rfl) T.z_int (by decide +kernel) (pa_cons (pv 2) pa_nil)) (pe_callB call_len (by rfl) T.z_len (by decide +kernel) (pa_cons (pe_dget (hu_of hr) (pv 0) pe_str (fun _ _ => rfl)) pa_nil))))
    (pss_cons (ps_set (i := 4) sc__law_draw.nd rfl (Or.inl rfl) (pe_ix ix_list (pe_dget (hu_of hr) (pv 0) pe_str (fun _ _ => rfl)) (pv 3) (fun _ _ => rfl)))
    (pss_cons (ps_if (pt_cmpR op_gt (pv 4) pe_int (nomark _)) (pss_cons (ps_asg (pe_op op_fdivN (pv 4) (pv 1)) (pg_sub (pe_dget (hu_of hr) (pv 0) pe_str (fun _ _ => rfl)) (pv 3) set_list))
      (pss_one (ps_ret (pe_op op_modN (pe_callTy call_int1 (by rfl) T.z_int (by decide +kernel) (pa_cons (pv 4) pa_nil)) (pv 1))))) pss_nil)
    (pss_cons (ps_set (i := 5) sc__law_draw.nd rfl (Or.inl rfl) (pe_ok ok__law_mixed (hr.mono (by decide)) (pa_cons (pe_ok ok__law_mixed (hr.mono (by decide)) (pa_cons (pe_ix ix_list (pe_dget (hu_of hr) (pv 0) pe_str (fun _ _ => rfl)) (pv 3) (fun _ _ => rfl)) (pa_cons (pv 2) pa_nil))) (pa_cons (pe_op op_add pe_int (pv 2)) pa_nil))))
    (pss_one (ps_ret (pe_op op_modN (pe_op op_fdivN (pe_callTy call_int1 (by rfl) T.z_int (by decide +kernel) (pa_cons (pe_op op_add (pe_op op_mul (pv 5) pe_int) (pe_ok ok__law_mixed (hr.mono (by decide)) (pa_cons (pv 5) (pa_cons (pe_op op_add pe_int (pv 2)) pa_nil)))) pa_nil)) pe_int) (pv 1)))))))))), ?_⟩
    obtain ⟨cells, lefts, m, r, a1, a2, a3, a4, a5, a6, a7, a8, a9⟩ := hS.ex
    have ndl : d ≠ l := ne_of a1 a3 (by intro z; cases z)
    have ndc : d ≠ c := ne_of a1 a2 (by intro z; cases z)
    -- at = state["at"]
    refine ⟨.ref d, rfl, d, .int m, rfl, get_at a1, ?_⟩
    -- state["at"] = at + 1
    refine ⟨.int m, rfl, m, 1, rfl, rfl, .ref d, rfl, d, upd H d (.dK (kvS c l (m + 1) r)), rfl, put_at (m + 1) a1, ?_⟩
    have b1 : upd H d (.dK (kvS c l (m + 1) r)) d = some (.dK (kvS c l (m + 1) r)) := upd_same
    have b2 : upd H d (.dK (kvS c l (m + 1) r)) c = some (.lst (cells.map V.int)) := (upd_ne ndc.symm).trans a2
    have b3 : upd H d (.dK (kvS c l (m + 1) r)) l = some (.lst (lefts.map V.int)) := (upd_ne ndl.symm).trans a3
    have but1 : But d l H (upd H d (.dK (kvS c l (m + 1) r))) := fun b o h1 _ e => by
      rw [upd_ne h1]
      exact e
    generalize upd H d (.dK (kvS c l (m + 1) r)) = H1 at b1 b2 b3 but1 ⊢
    -- place = int(at) % len(cells)
    have lc : ((cells.map V.int).length : Int) = (cells.length : Int) := by rw [List.length_map]
    refine ⟨.int m, rfl, Or.inl ⟨m, rfl, .ref d, rfl, d, .ref c, rfl, get_cells b1, .ref c, _, rfl, Or.inl ⟨_, SqL.of b2, rfl⟩, m, (cells.length : Int), rfl, congrArg V.int lc, (show (cells.length : Int) ≠ 0 by omega), ?_⟩⟩
    obtain ⟨p1, p2⟩ := fmod_in m (show (0 : Int) < (cells.length : Int) by omega)
    obtain ⟨pl, hpl⟩ : ∃ pl : Nat, m.fmod (cells.length : Int) = (pl : Int) := ⟨(m.fmod (cells.length : Int)).toNat, by omega⟩
    have ltp : pl < cells.length := by omega
    have gc : (cells.map V.int)[pl]? = some (.int cells[pl]) := by
      rw [List.getElem?_map, List.getElem?_eq_getElem ltp]
      rfl
    have gl : (lefts.map V.int)[pl]? = some (.int (lefts[pl]'(by omega))) := by
      rw [List.getElem?_map, List.getElem?_eq_getElem (by omega)]
      rfl
    show gName 3 (V.int (m.fmod (cells.length : Int))) _ _ _
    rw [hpl]
    -- left = state["lefts"][place]
    refine ⟨.ref d, rfl, d, .ref l, rfl, get_lefts b1, .int (pl : Int), rfl, l, _, (pl : Int), _, rfl, rfl, SqL.of b3, atI_nat gl, ?_⟩
    generalize lefts[pl]'(by omega) = left
    -- if left > 0
    refine ⟨.int left, rfl, left, 0, rfl, rfl, _, rfl, ite2 (fun h => ?_) (fun h => ?_)⟩
    · -- state["lefts"][place] = left // many; return int(left) % many
      refine ⟨.int left, rfl, .int many, rfl, left, many, rfl, rfl, ⟨by omega, by omega⟩, .ref d, rfl, d, .ref l, rfl, get_lefts b1, .int (pl : Int), rfl, l, _, (pl : Int), pl, rfl, rfl, b3, ?_, ?_⟩
      · unfold ixN
        rw [if_pos (by omega), if_pos (by rw [List.length_map]; omega), Int.toNat_natCast]
      · refine ⟨.int left, rfl, Or.inl ⟨left, rfl, .int many, rfl, left, many, rfl, rfl, (show many ≠ 0 by omega), ?_⟩⟩
        obtain ⟨i1, i2⟩ := fmod_in left hm1
        refine q _ _ (but1.trans fun b o h1 h2 e => by rw [upd_ne h2]; exact e) ⟨⟨cells, lefts.set pl (left.fdiv many), m + 1, r, ?_, ?_, ?_, ?_, a5, a6, a7, by omega, by omega⟩⟩ i1 i2
        · exact (upd_ne ndl).trans b1
        · exact (upd_ne a7).trans b2
        · rw [upd_same, List.map_set]
        · rw [List.length_set]
          exact a4
    · -- the mixed ones
      refine ⟨.ref d, rfl, d, .ref c, rfl, get_cells b1, .int (pl : Int), rfl, c, _, (pl : Int), _, rfl, rfl, SqL.of b2, atI_nat gc, .int m, rfl, ?_⟩
      refine ⟨cells[pl], m, rfl, a8, by omega, .int m, rfl, 40, m, rfl, rfl, ?_⟩
      refine ⟨mix cells[pl] m, 40 + m, rfl, by omega, by omega, ?_⟩
      obtain ⟨n1, n2⟩ := mix_in (mix cells[pl] m) (40 + m)
      generalize mix (mix cells[pl] m) (40 + m) = number at n1 n2 ⊢
      refine ⟨.int number, rfl, number, 2147483647, rfl, rfl, .inl ⟨by omega, by omega⟩, .int number, rfl, .int m, rfl, 7, m, rfl, rfl, ?_⟩
      refine ⟨number, 7 + m, rfl, by omega, by omega, _, _, rfl, rfl, Or.inl ⟨_, rfl, _, 64, rfl, rfl, ⟨by decide, by decide⟩, ?_⟩⟩
      refine ⟨.int many, rfl, _, many, rfl, rfl, (show many ≠ 0 by omega), ?_⟩
      obtain ⟨i1, i2⟩ := fmod_in ((number * 2147483647 + mix number (7 + m)).fdiv 64) hm1
      exact q _ _ but1 ⟨⟨cells, lefts, m + 1, r, b1, b2, b3, a4, a5, a6, a7, by omega, by omega⟩⟩ i1 i2
end
theorem dpAll_ints {K : PySem.W.Frag} {H : Hp} : ∀ xs : List Int, DpAll K H (xs.map V.int) (xs.map PyData.int)
  | [] => .nil
  | x :: xs => .cons (.int x) (dpAll_ints xs)
theorem canLay_ints : ∀ xs : List Int, PyData.canLayAll0 (xs.map PyData.int) = true
  | [] => rfl
  | x :: xs => canLay_ints xs
theorem depth_ints : ∀ xs : List Int, PyData.depthAll (xs.map PyData.int) = 0
  | [] => rfl
  | x :: xs => by
    show max 0 (PyData.depthAll (xs.map PyData.int)) = 0
    rw [depth_ints xs]
    rfl
theorem shaped_ints (xs : List Int) : SeqAt.shaped (.list (xs.map .int)) = true := by
  show (PyData.canLayAll0 (xs.map PyData.int) && decide (PyData.depthAll (xs.map PyData.int) + 1 ≤ 64)) = true
  rw [canLay_ints xs, depth_ints xs]
  rfl
def leftOf (c : Int) : Int := if c ≥ 10 ^ 18 then c else 0
section
variable {P : Program} {w : World} {K : PySem.W.Frag} {mg : Str → Option Value} {base : Heap}
theorem begin_rest {Q : VK} {H H1 : Hp} {a c : Addr} {cells : List Int} (sm : Same H H1) (hc : H1 c = some (.lst (cells.map V.int))) (h0 : 0 < cells.length) (h1 : cells.length ≤ 63) (q : ∀ H' d l c, Same H H' → St H' d l c 0 → Q (.ref d) H') :
    tDisp [(tC (V.str ("cells" : Str)), tVar 1), (tC (V.str ("lefts" : Str)), tLc (iList K (tVar 1)) (gName 2) tYes (tIf (tTest (tOp (rI0 fun i j => V.bl (decide (j ≤ i))) (tVar 2) (tOp (rI CPow fun i j => V.int (i ^ j.toNat)) (tC (V.int 10)) (tC (V.int 18)))))
      (tVar 2) (tC (V.int 0))) [2]), (tC (V.str ("at" : Str)), tC (V.int 0)), (tC (V.str ("room" : Str)), tC (V.int 0))] [some (.ref a), some (.ref c), none] H1 Q := by
  intro d nd
  have s1 := same_new (o := .dK []) nd
  have c1 := s1 _ _ hc
  refine ⟨.ref c, rfl, .ref c, rfl, c, rfl, ⟨_, SqL.of c1⟩, fun D nD => lc_pure (ys := cells.map fun z => .int (leftOf z)) (by rw [List.length_map, ← List.length_map (f := V.int) (as := cells)]; exact walk_list (K := K)) nD ?_ (fun G sG => SqL.of (sG _ _ c1)) (fun _ => rfl) (fun i x y G G' e sG g k hk => ?_) (fun G sG dG => ?_)⟩
  · rw [List.length_map]
    omega
  · obtain ⟨rfl, e1⟩ := g
    rw [List.getElem?_map] at e e1
    cases e2 : cells[i]? with
    | none =>
      rw [e2] at e
      cases e
    | some z =>
      rw [e2] at e e1
      cases e
      cases e1
      have hk : k (.int (leftOf z)) G' := hk _ (Same.refl _)
      refine ⟨.int z, rfl, 10, 18, rfl, rfl, ⟨by decide, by decide, by decide⟩, z, _, rfl, rfl, _, rfl, ?_⟩
      have e3 : ((10 : Int) ^ (18 : Int).toNat) = 10 ^ 18 := rfl
      rw [e3]
      by_cases hz : z ≥ 10 ^ 18
      · rw [show leftOf z = z from if_pos hz] at hk
        rw [decide_eq_true hz]
        exact iteT ⟨_, rfl, hk⟩
      · rw [show leftOf z = 0 from if_neg hz] at hk
        rw [decide_eq_false hz]
        exact iteF hk
  · have d1 : G d = some (.dK []) := sG _ _ upd_same
    refine ⟨d1, [(Sum.inr ("cells" : Str), .ref c), (Sum.inr ("lefts" : Str), .ref D), (Sum.inr ("at" : Str), .int 0), (Sum.inr ("room" : Str), .int 0)], rfl, by show 4 ≤ 15; decide, ?_⟩
    have n1 : d ≠ D := ne_of_none upd_same nD
    have n2 : c ≠ D := ne_of_none c1 nD
    have n3 : c ≠ d := ne_of_none hc nd
    have sm2 : Same H (upd G d (.dK (mergeK [] [(Sum.inr ("cells" : Str), V.ref c), (Sum.inr ("lefts" : Str), V.ref D), (Sum.inr ("at" : Str), V.int 0), (Sum.inr ("room" : Str), V.int 0)]))) := fun b o e => by
      rw [upd_ne (ne_of_none (sm _ _ e) nd)]
      exact sG _ _ (s1 _ _ (sm _ _ e))
    have em : mergeK [] [(Sum.inr ("cells" : Str), V.ref c), (Sum.inr ("lefts" : Str), V.ref D), (Sum.inr ("at" : Str), V.int 0), (Sum.inr ("room" : Str), V.int 0)] = kvS c D 0 0 := by
      have h1 : ¬ (Sum.inr ("cells" : Str) : Key) = Sum.inr ("at" : Str) := fun z => absurd (Sum.inr.inj z) (by decide +kernel)
      have h2 : ¬ (Sum.inr ("lefts" : Str) : Key) = Sum.inr ("at" : Str) := fun z => absurd (Sum.inr.inj z) (by decide +kernel)
      have h3 : ¬ (Sum.inr ("cells" : Str) : Key) = Sum.inr ("lefts" : Str) := fun z => absurd (Sum.inr.inj z) (by decide +kernel)
      have h4 : ¬ (Sum.inr ("cells" : Str) : Key) = Sum.inr ("room" : Str) := fun z => absurd (Sum.inr.inj z) (by decide +kernel)
      have h5 : ¬ (Sum.inr ("lefts" : Str) : Key) = Sum.inr ("room" : Str) := fun z => absurd (Sum.inr.inj z) (by decide +kernel)
      have h6 : ¬ (Sum.inr ("at" : Str) : Key) = Sum.inr ("room" : Str) := fun z => absurd (Sum.inr.inj z) (by decide +kernel)
      unfold mergeK kvS
      simp [putK, h1, h2, h3, h4, h5, h6]
    refine q _ d D c sm2 ⟨⟨cells, cells.map leftOf, 0, 0, ?_, ?_, ?_, ?_, h0, by omega, n2, by omega, by omega⟩⟩
    · rw [upd_same, em]
    · rw [upd_ne n3]
      exact sG _ _ c1
    · rw [upd_ne n1.symm, dG, List.map_map]
      rfl
    · rw [List.length_map]
def spBegin (K : PySem.W.Frag) : Sp := fun vs H Q _ => ∃ (a : Addr) (ns : List Int), vs = [.ref a] ∧ SqL K H a (ns.map V.int) ∧ ns.length ≤ 63 ∧ ∀ H' d l c, Same H H' → St H' d l c 0 → Q (.ref d) H'
theorem ok_law_begin (T : Txt K mg) : Ok P w K mg base "_law_begin" P__law_begin 1 (spBegin K) := by
  refine T.d__law_begin.ok sc__law_begin (fun vs H Q E h => ?_) (fun f cdv A out s H vs Q E hr h => ?_)
  · obtain ⟨a, ns, rfl, _⟩ := h
    rfl
  · obtain ⟨a, ns, rfl, hS, hn, q⟩ := h
    refine ⟨_, (pss_cons (ps_set (i := 1) sc__law_begin.nd rfl (Or.inl rfl) (pe_ifExp (pt_cmpR (op_neD hr.units) (pv 0) (pe_lst pa_nil) (nomark _)) (pe_callTy call_list_of (by rfl) T.z_list (by decide +kernel) (pa_cons (pv 0) pa_nil)) (pe_lst (pa_cons pe_int pa_nil))))
    (pss_one (ps_ret (pe_disp (pps_cons pe_str (pv 1) (pps_cons pe_str (pe_lc (own := [("cell", 2)]) (g := gName 2) (tt := tYes) rfl sc__law_begin.nd (pi_list (pv 1)) (blkOk_by (N := N__law_begin) (sc := defScope st__law_begin) (by decide +kernel)) (fun _ _ _ _ _ => pg_name (i := 2) sc__law_begin.nd rfl (Or.inl rfl)) (fun _ _ _ _ _ => pts_nil) (fun _ _ _ _ _ => (pe_ifExp (pt_cmpR op_ge (pv 2) (pe_op op_pow pe_int pe_int) (nomark _)) (pv 2) pe_int))) (pps_cons pe_str pe_int (pps_cons pe_str pe_int pps_nil)))) (by rfl) (by rfl) (fun z => by cases z) (by decide))))), ?_⟩
    refine ⟨.ref a, rfl, Nat.zero_le _, fun p0 n0 => ?_⟩
    have s0 := same_new (o := .lst []) n0
    refine ⟨_, _, .lst (s0.seq hS) (dpAll_ints ns), .lst (SqL.of upd_same) .nil, shaped_ints ns, rfl, _, rfl, ?_⟩
    cases ns with
    | nil =>
      show (if false = true then _ else _)
      refine iteF ⟨by show 1 ≤ sizeLine; decide, fun c nc => ?_⟩
      exact begin_rest (cells := [0]) (s0.trans (same_new nc)) upd_same (by decide) (by decide) q
    | cons z zs =>
      show (if true = true then _ else _)
      refine iteT ⟨.ref a, rfl, a, _, rfl, Or.inl (s0.seq hS), fun c nc => ?_⟩
      exact begin_rest (cells := z :: zs) (s0.trans (same_new nc)) upd_same (Nat.zero_lt_succ _) hn q
end
end S1
namespace S1
open PySem PySem.Spec PyProof.Rows L2 Jv
/-! ### one of some written things is drawn -/
theorem EnvD.blank {K : PySem.W.Frag} {H : Hp} {sg : L2.St} {n : Nat} (h : sg.length = n) : EnvD K H sg (List.replicate n none) := by
  refine ⟨fun i d e => ?_, by rw [List.length_replicate, h]⟩
  rw [List.getElem?_replicate] at e
  split at e <;> cases e
theorem EnvD.skip {K : PySem.W.Frag} {H : Hp} {sg : L2.St} {r : Rho} {o : Option V} (e : EnvD K H sg r) : EnvD K H (o :: sg) (none :: r) := by
  refine ⟨fun i y q => ?_, by rw [List.length_cons, List.length_cons, e.len]⟩
  cases i with
  | zero => cases q
  | succ i => exact e.at_ i y q
theorem But.tupS {H H' : Hp} {d l c : Addr} {n : Int} (b : But d l H H') (S : St H d l c n) : TupS H H' := fun x o e t => by
  obtain ⟨cells, lefts, m, r, a1, a2, a3, rest⟩ := S.ex
  refine b x o (fun z => ?_) (fun z => ?_) e
  · subst z
    rw [a1] at e
    cases e
    rcases t with ⟨xs, z⟩ | ⟨u, v, z⟩ <;> cases z
  · subst z
    rw [a3] at e
    cases e
    rcases t with ⟨xs, z⟩ | ⟨u, v, z⟩ <;> cases z
def noInt : List PyData → Bool
  | [] => false
  | .int _ :: _ => false
  | _ => true
section
variable {K : PySem.W.Frag} {H H' : Hp} {d l c : Addr} {n : Int}
theorem da_int {i : Int} {y : PyData} (h : Da K H (.int i) y) : y = .int i := by
  cases h
  rfl
theorem da_pick {v : V} {ds : List PyData} (h : Da K H v (.list ds)) (fl : flatAll ds = true) (z : noInt ds = true) (S : St H d l c n) (b : But d l H H') : Da K H' v (.list ds) := by
  have t := b.tupS S
  obtain ⟨cells, lefts, m, r, a1, a2, a3, rest⟩ := S.ex
  cases h with
  | @lst p xs _ h1 h2 hz =>
    refine .lst ?_ (DaAll.tupS t _ _ fl h2) hz
    rcases h1 with (h1 | ⟨o, h1⟩) | h1
    · refine .inl (.inl (b p _ (fun e => ?_) (fun e => ?_) h1))
      · subst e
        rw [a1] at h1
        cases h1
      · subst e
        rw [a3] at h1
        injection h1 with h1
        injection h1 with h1
        subst h1
        cases lefts with
        | nil =>
          cases h2
          cases z
        | cons i is =>
          cases h2 with
          | cons g1 g2 =>
            rw [da_int g1] at z
            cases z
    · exact .inl (.inr ⟨o, t p _ h1 (.inr ⟨_, _, rfl⟩)⟩)
    · exact .inr h1
theorem asg_ev {t : TE} {i : Nat} {u : TS} {D : Ends} {sg : L2.St} {y : PyData} {r : Rho} (e : EvR K t r y) (en : EnvD K H sg r) (k : ∀ H1 v, Same H H1 → Da K H1 v y → u D (sg.set i (some v)) H1) : tSeq (tAsg t (gName i)) u D sg H := e sg H en _ k
/-- one of them -/
theorem pick {t : TE} {r : Rho} {ds : List PyData} {sg : L2.St} {many : Int} {Q : VK} (e : EvR K t r (.list ds)) (en : EnvD K H sg r) (h0 : sg[0]? = some (some (.ref d))) (S : St H d l c n) (hn : n < 2 ^ 50) (lm : (ds.length : Int) = many) (h2 : ds.length < 1000) (fl : flatAll ds = true) (z : noInt ds = true)
    (q : ∀ (H' : Hp) (x : V) (i : Nat) (y : PyData), But d l H H' → St H' d l c (n + 1) → ds[i]? = some y → Da K H' x y → Q x H') : tOp (rIxL K) t (tCall spDraw [] E0 (tCons (tVar 0) (tCons (tC (.int many)) tNil))) sg H Q := by
  have h1 : 0 < ds.length := by
    cases ds with
    | nil => cases z
    | cons => exact Nat.zero_lt_succ _
  refine e sg H en _ fun H1 v s1 hv => ⟨.ref d, h0, d, l, c, n, many, rfl, S.same s1, hn, by omega, by omega, fun H2 i b2 S2 i1 i2 => ?_⟩
  have hv2 := da_pick hv fl z (S.same s1) b2
  cases hv2 with
  | @lst p xs _ g1 g2 gz =>
    obtain ⟨m, rfl⟩ : ∃ m : Nat, i = m := ⟨i.toNat, by omega⟩
    have hm : m < ds.length := by omega
    obtain ⟨x, ex, dx⟩ := DaAll.getD g2 (List.getElem?_eq_getElem hm)
    exact ⟨_, xs, _, x, rfl, rfl, g1, atI_nat ex, q H2 x m _ ((Same.but s1).trans b2) S2 (List.getElem?_eq_getElem hm) dx⟩
/-- the last k of a tuple -/
theorem ev_slEnd {t : TE} {r : Rho} {ds : List PyData} {k : Nat} (h : EvR K t r (.tuple ds)) (k0 : 0 < k) : EvR K (tSl (rSlA K) t (tPart (tUn (rU fun i => .int (-i)) (tC (.int (k : Nat))))) tNoPart) r (.tuple (ds.drop (ds.length - k))) := fun sg H en Q q =>
  h sg H en _ fun H1 v s1 hv => by
    refine ⟨_, rfl, _, rfl, ?_⟩
    cases id hv with
    | @tup pa xs _ h1 h2 hz =>
      have len := DaAll.len h2
      have e1 : HT.sIx xs.length 0 (some (-(k : Int))) = xs.length - k := by
        show (if -(k : Int) < 0 then (-(k : Int) + (xs.length : Int)).toNat else _) = _
        rw [if_pos (by omega)]
        omega
      refine ⟨_, _, rfl, h1, fun z => ?_, fun z p np => ?_⟩
      · rw [e1] at z
        have e0 : ds.drop (ds.length - k) = ds := by
          rw [← len, z.1]
          rfl
        rw [e0] at q
        exact q H1 _ s1 hv
      · have s3 := same_new (o := HO.tup (cutV xs (some (-(k : Int))) none)) np
        refine q _ _ (s1.trans s3) (.tup (SqT.of upd_same) (DaAll.same s3 _ _ ?_) (by rw [List.length_drop]; omega))
        unfold cutV
        rw [e1, HT.sIx_none, List.take_of_length_le (by rw [List.length_drop]; exact Nat.le_refl _), len]
        exact DaAll.drop _ h2
end
def hostsM : List (List Str) := [["b", "c"], ["a", "b", "c"], ["a", "b", "c"], ["x", "b", "c"], ["y", "a", "b", "c"], ["b", "d"]]
def pathsM : List (List Str) := [[], ["p"], ["p", "q"], ["p"], ["q"], ["p", "q", "r"]]
def tupPy (xs : List Str) : PyData := .tuple (xs.map .str)
theorem picked {α : Type} {f : α → PyData} {ls : List α} {i : Nat} {y : PyData} (h : (ls.map f)[i]? = some y) : ∃ a ∈ ls, y = f a := by
  rw [List.getElem?_map] at h
  cases e : ls[i]? with
  | none =>
    rw [e] at h
    cases h
  | some a =>
    rw [e] at h
    cases h
    exact ⟨a, List.mem_of_getElem? e, rfl⟩
section
variable {P : Program} {w : World} {K : PySem.W.Frag} {mg : Str → Option Value} {base : Heap}
/-- one of some tuples of texts -/
def spOneOf (K : PySem.W.Frag) (ls : List (List Str)) : Sp := fun vs H Q _ => ∃ (d l c : Addr) (n : Int), vs = [.ref d] ∧ St H d l c n ∧ n < 2 ^ 50 ∧ ∀ H' v xs, But d l H H' → St H' d l c (n + 1) → xs ∈ ls → Da K H' v (tupPy xs) → Q v H'
theorem ok_law_host (T : Txt K mg) : Ok P w K mg base "_law_host" P__law_host 3 (spOneOf K hostsM) := by
  have ok__law_draw : Ok P w K mg base "_law_draw" P__law_draw 2 spDraw := ok_law_draw T
  refine T.d__law_host.ok sc__law_host (fun vs H Q E h => ?_) (fun f cdv A out s H vs Q E hr h => ?_)
  · obtain ⟨d, l, c, n, rfl, _⟩ := h
    rfl
  · obtain ⟨d, l, c, n, rfl, hS, hn, q⟩ := h
    refine ⟨_, (pss_cons (ps_set (i := 1) sc__law_host.nd rfl (Or.inl rfl) (pe_lst (pa_cons (pe_tup (pa_cons pe_str (pa_cons pe_str pa_nil))) (pa_cons (pe_tup (pa_cons pe_str (pa_cons pe_str (pa_cons pe_str pa_nil)))) (pa_cons (pe_tup (pa_cons pe_str (pa_cons pe_str (pa_cons pe_str pa_nil)))) (pa_cons (pe_tup (pa_cons pe_str (pa_cons pe_str (pa_cons pe_str pa_nil)))) (pa_cons (pe_tup (pa_cons pe_str (pa_cons pe_str (pa_cons pe_str (pa_cons pe_str pa_nil))))) (pa_cons (pe_tup (pa_cons pe_str (pa_cons pe_str pa_nil))) pa_nil))))))))
    (pss_one (ps_ret (pe_ix ix_list (pv 1) (pe_ok ok__law_draw (hr.mono (by decide)) (pa_cons (pv 0) (pa_cons pe_int pa_nil))) (fun _ _ => rfl))))), ?_⟩
    refine asg_ev (K := K) (r := [none, none]) (y := .list (hostsM.map tupPy)) (EvR.to (d := ?d1) ?x1 (show _ = PyData.list (hostsM.map tupPy) from ?x2)) (EnvD.blank (n := 2) rfl) fun H1 v s1 hv => ?_
    case x1 => repeat' (first | with_reducible exact eva_nil | with_reducible refine eva_cons (d := ?_) (ds := ?_) ?_ ?_ | ((with_reducible refine ev_var (d := ?_) ?_); exact rfl) | with_reducible exact ev_non | with_reducible exact ev_bl | with_reducible exact ev_int | ((with_reducible refine ev_str ?_); exact Nat.le_of_ble_eq_true rfl) | with_reducible refine ev_tup (ds := ?_) ?_ ?_ | with_reducible refine ev_lst (ds := ?_) ?_ ?_ | with_reducible refine ev_ixLz (ds := ?_) (d := ?_) ?_ ?_ ?_ | with_reducible refine ev_ixTz (ds := ?_) (d := ?_) ?_ ?_ ?_ | with_reducible refine ev_slTz (ds := ?_) (es := ?_) ?_ ?_ ?_ | with_reducible refine ev_slLz (ds := ?_) (es := ?_) ?_ ?_ ?_ | with_reducible refine ev_cat (as := ?_) (bs := ?_) ?_ ?_ ?_ | exact Nat.le_of_ble_eq_true rfl | exact rfl | exact ev_int)
    case x2 => rfl
    refine pick (K := K) (r := [none, some (.list (hostsM.map tupPy))]) (ev_var rfl) (EnvD.skip (EnvD.cons hv EnvD.nil)) rfl (hS.same s1) hn rfl (by decide) (by rfl) rfl fun H2 x i y b2 S2 ey dx => ?_
    obtain ⟨xs, hm, rfl⟩ := picked ey
    exact q _ x _ ((Same.but s1).trans b2) S2 hm dx
theorem ok_law_path (T : Txt K mg) : Ok P w K mg base "_law_path" P__law_path 3 (spOneOf K pathsM) := by
  have ok__law_draw : Ok P w K mg base "_law_draw" P__law_draw 2 spDraw := ok_law_draw T
  refine T.d__law_path.ok sc__law_path (fun vs H Q E h => ?_) (fun f cdv A out s H vs Q E hr h => ?_)
  · obtain ⟨d, l, c, n, rfl, _⟩ := h
    rfl
  · obtain ⟨d, l, c, n, rfl, hS, hn, q⟩ := h
    refine ⟨_, (pss_one (ps_ret (pe_ix ix_list (pe_lst (pa_cons (pe_tup pa_nil) (pa_cons (pe_tup (pa_cons pe_str pa_nil)) (pa_cons (pe_tup (pa_cons pe_str (pa_cons pe_str pa_nil))) (pa_cons (pe_tup (pa_cons pe_str pa_nil)) (pa_cons (pe_tup (pa_cons pe_str pa_nil)) (pa_cons (pe_tup (pa_cons pe_str (pa_cons pe_str (pa_cons pe_str pa_nil)))) pa_nil))))))) (pe_ok ok__law_draw (hr.mono (by decide)) (pa_cons (pv 0) (pa_cons pe_int pa_nil))) (fun _ _ => rfl)))), ?_⟩
    refine pick (K := K) (r := [none]) (ds := pathsM.map tupPy) (EvR.to (d := ?d1) ?x1 (show _ = PyData.list (pathsM.map tupPy) from ?x2)) (EnvD.blank (n := 1) rfl) rfl hS hn rfl (by decide) (by rfl) rfl fun H2 x i y b2 S2 ey dx => ?_
    case x1 => repeat' (first | with_reducible exact eva_nil | with_reducible refine eva_cons (d := ?_) (ds := ?_) ?_ ?_ | ((with_reducible refine ev_var (d := ?_) ?_); exact rfl) | with_reducible exact ev_non | with_reducible exact ev_bl | with_reducible exact ev_int | ((with_reducible refine ev_str ?_); exact Nat.le_of_ble_eq_true rfl) | with_reducible refine ev_tup (ds := ?_) ?_ ?_ | with_reducible refine ev_lst (ds := ?_) ?_ ?_ | with_reducible refine ev_ixLz (ds := ?_) (d := ?_) ?_ ?_ ?_ | with_reducible refine ev_ixTz (ds := ?_) (d := ?_) ?_ ?_ ?_ | with_reducible refine ev_slTz (ds := ?_) (es := ?_) ?_ ?_ ?_ | with_reducible refine ev_slLz (ds := ?_) (es := ?_) ?_ ?_ ?_ | with_reducible refine ev_cat (as := ?_) (bs := ?_) ?_ ?_ ?_ | exact Nat.le_of_ble_eq_true rfl | exact rfl | exact ev_int)
    case x2 => rfl
    obtain ⟨xs, hm, rfl⟩ := picked ey
    exact q _ x _ b2 S2 hm dx
end
end S1
/-! loops and comprehensions over data -/
namespace Jv
open PySem PySem.Spec PyProof.Rows L2
section
variable {K : PySem.W.Frag} {r : Rho}
theorem EnvD.setN {H : Hp} {sg : L2.St} {x : Option V} {i : Nat} (e : EnvD K H sg r) (h : r[i]? = some none) : EnvD K H (sg.set i x) r := by
  refine ⟨fun j d q => ?_, by rw [List.length_set, e.len]⟩
  have n : i ≠ j := by
    rintro rfl
    rw [h] at q
    cases q
  obtain ⟨v, a, b⟩ := e.at_ j d q
  exact ⟨v, by rw [List.getElem?_set_ne n]; exact a, b⟩
theorem EnvD.drop {H : Hp} {sg : L2.St} (i : Nat) (e : EnvD K H sg r) : EnvD K H sg (r.set i none) := by
  refine ⟨fun j d q => ?_, by rw [List.length_set, e.len]⟩
  by_cases n : i = j
  · subst n
    rw [List.getElem?_set] at q
    split at q
    · split at q
      · cases q
      · cases q
    · exact absurd rfl ‹_›
  · rw [List.getElem?_set_ne n] at q
    exact e.at_ j d q
theorem EnvD.wipe1 {H : Hp} {sg : L2.St} {j : Nat} {v : V} {d : PyData} (e : EnvD K H sg r) (hv : Da K H v d) : EnvD K H ((wipe sg [j]).set j (some v)) (r.set j (some d)) := by
  show EnvD K H ((sg.set j none).set j (some v)) (r.set j (some d))
  rw [List.set_set]
  exact e.set j hv
theorem wipe_one {sg : L2.St} {j : Nat} (x : V) : wipe ((wipe sg [j]).set j (some x)) [j] = wipe sg [j] := by
  show (((sg.set j none).set j (some x)).set j none) = sg.set j none
  rw [List.set_set, List.set_set]
/-- a comprehension over what is walked -/
theorem ev_lcW {β : Type} {J : It} {n : Nat} {Gd : Hp → Prop} {Y : Nat → Hp → V → Hp → Prop} {sg : L2.St} {H1 : Hp} {te : TE} {j : Nat} {Q : VK} (bs : List β) (a c : β → PyData) (wk : Walk J n Gd Y) (hn : n = bs.length) (hz : n ≤ 1000)
    (hGd : ∀ H, Same H1 H → Gd H) (hY : ∀ i H x H', i < n → Same H1 H → Y i H x H' → H' = H ∧ ∃ b, bs[i]? = some b ∧ Da K H x (a b)) (en : EnvD K H1 sg r)
    (g : ∀ b ∈ bs, EvR K te (r.set j (some (a b))) (c b)) (f : ∀ b ∈ bs, flat (c b) = true) (q : ∀ H' v, Same H1 H' → Da K H' v (.list (bs.map c)) → Q v H') :
    ∀ D, H1 D = none → ∃ W : Nat → Nat → Hp → Prop, (∃ m, W 0 m (upd H1 D (.lst []))) ∧ ∀ i m H, W i m H → (J.stop i H ∧ Q (.ref D) H) ∨ (J.go i H ∧ ∃ Nx : Hp → Prop, (∀ H', Nx H' → ∃ m', m' < m ∧ W (i + 1) m' H') ∧
      ∀ x H', J.yld i H x H' → gName j x (wipe sg [j]) H' fun s2 H2 => wipe s2 [j] = wipe sg [j] ∧ tYes s2 H2 fun b H3 => if b = true then te s2 H3 fun y H4 => ∃ acc, H4 D = some (.lst acc) ∧ acc.length < sizeLine ∧ Nx (upd H4 D (.lst (acc ++ [y]))) else Nx H3) := by
  intro D nD
  have sD : ∀ {H : Hp} {o : HO}, Same H1 H → Same H1 (upd H D o) := fun {H o} s b u e => by
    rw [upd_ne (ne_of_none e nD)]
    exact s b u e
  refine lc_map wk (fun i acc H => Same H1 H ∧ DaAll K H acc ((bs.take i).map c)) ⟨sD (Same.refl _), .nil⟩ (fun i acc H _ g _ => hGd H g.1) (fun x => wipe_one x) (fun i acc H hi g => ?_) (fun i x acc H H' hi g0 d y k hk => ?_) (fun acc H g0 d => ?_)
  · rw [DaAll.len g.2, List.length_map, List.length_take]
    exact Nat.lt_of_lt_of_le (Nat.lt_of_le_of_lt (Nat.min_le_left _ _) (Nat.lt_of_lt_of_le hi hz)) (by decide)
  · obtain ⟨rfl, b, eb, db⟩ := hY i H x H' hi g0.1 y
    have mb : b ∈ bs := List.mem_of_getElem? eb
    refine g b mb _ H' ((en.same g0.1).wipe1 db) _ fun H4 v s4 hv => hk v H4 (s4 _ _ d) ⟨sD (g0.1.trans s4), ?_⟩
    have t : TupS H4 (upd H4 D (.lst (acc ++ [v]))) := tupS_mut (s4 _ _ d) (fun xs z => by cases z) (fun a b z => by cases z)
    have fa : flatAll ((bs.take i).map c) = true := flatAll_of fun x hx => by
      obtain ⟨b', hb', rfl⟩ := List.mem_map.mp hx
      exact f b' (List.mem_of_mem_take hb')
    rw [List.take_add_one, eb]
    show DaAll K _ (acc ++ [v]) (((bs.take i) ++ [b]).map c)
    rw [List.map_append]
    exact DaAll.app (DaAll.tupS t _ _ fa (DaAll.same s4 _ _ g0.2)) (.cons (Da.tupS t _ _ (f b mb) hv) .nil)
  · have e := g0.2
    rw [hn, List.take_length] at e
    exact q H _ g0.1 (.lst (SqL.of d) e (by rw [List.length_map, ← hn]; exact hz))
theorem ev_lcR {te : TE} {j n : Nat} {z : Int} (c : Nat → PyData) (p : Int.ofNat n = z) (hz : n ≤ 1000) (g : ∀ k, k < n → EvR K te (r.set j (some (.int k))) (c k)) (f : ∀ k, k < n → flat (c k) = true) :
    EvR K (tLc (iRng1 (tCons (tC (.int z)) tNil)) (gName j) tYes te [j]) r (.list ((List.range n).map c)) := fun sg H en Q q => by
  subst p
  refine ⟨(n : Int), rfl, by omega, by omega, ?_⟩
  show ∀ D, H D = none → _
  refine ev_lcW (List.range n) (fun k => .int k) c walk_range (by rw [List.length_range]; rfl) hz (fun _ _ => trivial) (fun i H x H' hi s y => ⟨y.1, i, ?_, ?_⟩) en (fun b hb => g b (List.mem_range.mp hb)) (fun b hb => f b (List.mem_range.mp hb)) q
  · exact List.getElem?_range (show i < n from hi)
  · rw [y.2]
    show Da K H (.int (0 + (i : Int))) (.int (i : Int))
    rw [Int.zero_add]
    exact .int _
theorem ev_lcT {β : Type} {t te : TE} {j : Nat} (bs : List β) (a c : β → PyData) (h : EvR K t r (.tuple (bs.map a))) (g : ∀ b ∈ bs, EvR K te (r.set j (some (a b))) (c b)) (f : ∀ b ∈ bs, flat (c b) = true) :
    EvR K (tLc (iTup K t) (gName j) tYes te [j]) r (.list (bs.map c)) := fun sg H en Q q => by
  refine h sg H en _ fun H1 v s1 hv => ?_
  cases hv with
  | @tup pa xs _ h1 h2 hz =>
    have len := DaAll.len h2
    rw [List.length_map] at len hz
    refine ⟨_, rfl, ⟨xs, h1⟩, ?_⟩
    refine ev_lcW bs a c (walk_tup (xs := xs)) len (by omega) (fun H' s => sqT_same s h1) (fun i H x H' hi s y => ⟨y.1, ?_⟩) (en.same s1) g f (fun H' v s => q H' v (s1.trans s))
    obtain ⟨d, ed, dd⟩ := DaAll.get h2 y.2
    rw [List.getElem?_map] at ed
    cases eb : bs[i]? with
    | none => rw [eb] at ed; cases ed
    | some b =>
      rw [eb] at ed
      cases ed
      exact ⟨b, rfl, Da.same s _ _ dd⟩
/-- tuple(..) of a list -/
theorem ev_tupL {t : TE} {ds : List PyData} (h : EvR K t r (.list ds)) : EvR K (tCB (fun xs H Q => ∃ p ys, xs = [V.ref p] ∧ ((SqL K H p ys ∧ ∀ (l : Addr), H l = none → Q (V.ref l) (upd H l (HO.tup ys))) ∨ SqT K H p ys ∧ Q (V.ref p) H)) (tCons t tNil)) r (.tuple ds) := fun sg H en Q q =>
  h sg H en _ fun H1 v s1 hv => by
    cases hv with
    | @lst pa xs _ h1 h2 hz =>
      refine ⟨pa, xs, rfl, Or.inl ⟨h1, fun l nl => ?_⟩⟩
      have s2 := same_new (o := HO.tup xs) nl
      exact q _ _ (s1.trans s2) (.tup (SqT.of upd_same) (DaAll.same s2 _ _ h2) hz)
/-! ### steps -/
def StepR (K : PySem.W.Frag) (t : TS) (r r' : Rho) : Prop := ∀ sg H (D : Ends), EnvD K H sg r → (∀ sg' H', Same H H' → EnvD K H' sg' r' → D.nx sg' H') → t D sg H
theorem step_asg {t : TE} {i : Nat} {d : PyData} (h : EvR K t r d) : StepR K (tAsg t (gName i)) r (r.set i (some d)) := fun sg H D en q => h sg H en _ fun H1 v s1 hv => q _ H1 s1 ((en.same s1).set i hv)
theorem run_step {t u : TS} {r' : Rho} {e : PyData} (h : StepR K t r r') (g : RunR K u r' e) : RunR K (tSeq t u) r e := fun sg H D en q => h sg H _ en fun sg' H' s en' => g sg' H' D en' fun H2 v s2 hv => q H2 v (s.trans s2) hv
/-- for i in range(n): a body that changes nothing that stands -/
theorem step_forR {tb : TS} {j n : Nat} {z : Int} (R Rb : Nat → Rho) (p : Int.ofNat n = z) (hz : n ≤ 1000) (h : ∀ k, k < n → StepR K tb ((R k).set j (some (.int k))) (Rb k)) (e : ∀ k, k < n → (Rb k).set j none = R (k + 1)) :
    StepR K (tFor (iRng1 (tCons (tC (.int z)) tNil)) (gName j) tb) (R 0) (R n) := fun sg H D en q => by
  subst p
  refine ⟨(n : Int), rfl, by omega, by omega, ?_⟩
  refine for_it walk_range (fun k s' H' => Same H H' ∧ EnvD K H' s' (R k)) ⟨Same.refl _, en⟩ (fun _ _ _ _ _ => trivial) (fun i x s' H' H2 hi g y => ?_) (fun s' H' g => q _ _ g.1 g.2)
  obtain ⟨rfl, rfl⟩ := y
  have e1 : EnvD K H2 (s'.set j (some (.int (0 + (i : Int))))) ((R i).set j (some (.int (i : Int)))) := g.2.set j (by rw [Int.zero_add]; exact .int _)
  refine h i hi _ _ _ e1 fun s2 H3 s3 e3 => ⟨g.1.trans s3, ?_⟩
  have := e3.drop j
  rw [e i hi] at this
  exact this
/-- for x in a list of data -/
theorem step_forL {β : Type} {t : TE} {tb : TS} {j : Nat} (bs : List β) (a : β → PyData) (R Rb : Nat → Rho) (hl : EvR K t (R 0) (.list (bs.map a))) (h : ∀ k b, bs[k]? = some b → StepR K tb ((R k).set j (some (a b))) (Rb k)) (e : ∀ k, k < bs.length → (Rb k).set j none = R (k + 1)) :
    StepR K (tFor (iList K t) (gName j) tb) (R 0) (R bs.length) := fun sg H D en q => by
  refine hl sg H en _ fun H1 v s1 hv => ?_
  cases hv with
  | @lst pa xs _ h1 h2 hz =>
    have len := DaAll.len h2
    rw [List.length_map] at len hz
    refine ⟨_, rfl, ⟨xs, h1⟩, ?_⟩
    refine for_it (walk_list (xs := xs)) (fun k s' H' => Same H1 H' ∧ EnvD K H' s' (R k)) ⟨Same.refl _, en.same s1⟩ (fun i s' H' _ g => g.1.seq h1) (fun i x s' H' H2 hi g y => ?_) (fun s' H' g => q _ _ (s1.trans g.1) (by rw [← len]; exact g.2))
    obtain ⟨rfl, ex⟩ := y
    obtain ⟨d, ed, dd⟩ := DaAll.get h2 ex
    rw [List.getElem?_map] at ed
    cases eb : bs[i]? with
    | none => rw [eb] at ed; cases ed
    | some b =>
      rw [eb] at ed
      cases ed
      refine h i b eb _ _ _ (g.2.set j (Da.same g.1 _ _ dd)) fun s2 H3 s3 e3 => ⟨g.1.trans s3, ?_⟩
      have := e3.drop j
      rw [e i (by omega)] at this
      exact this
/-- s[k] of a written string -/
theorem ev_ixS {t u : TE} {x : Str} {k c : Nat} (h : EvR K t r (.str x)) (g : EvR K u r (.int (k : Nat))) (l : x.length ≤ 1000) (e : x.cps.toList[k]? = some c) : EvR K (tOp rIxS t u) r (.str ⟨#[c]⟩) := fun sg H en Q q =>
  h sg H en _ fun H1 v s1 hv => g sg H1 (en.same s1) _ fun H2 w s2 hw => by
    cases hv
    cases hw
    exact ⟨x, _, c, rfl, rfl, Nat.le_trans l (by decide), atI_nat e, q H2 _ (s1.trans s2) (.str _ (show 1 ≤ 1000 by decide))⟩
theorem ev_addS {t u : TE} {x y : Str} (h : EvR K t r (.str x)) (g : EvR K u r (.str y)) (l : x.length + y.length ≤ 1000) : EvR K (tOp (fun a b H Q => ∃ i j, a = V.str i ∧ b = V.str j ∧ i.length + j.length ≤ sizeLine ∧ Q (V.str (i ++ j)) H) t u) r (.str (x ++ y)) := fun sg H en Q q =>
  h sg H en _ fun H1 v s1 hv => g sg H1 (en.same s1) _ fun H2 w s2 hw => by
    cases hv
    cases hw
    exact ⟨x, y, rfl, rfl, Nat.le_trans l (by decide), q H2 _ (s1.trans s2) (.str _ (by rw [Str.length_append]; exact l))⟩
/-- a thing and an empty list are told at once; the list is added to in a loop, the thing made of a list that is made ahead -/
theorem run_lstLoop {th tl tt : TE} {u : TS} {n : Nat} {z : Int} {d e : PyData} (sm : Nat → PyData) (pg : Nat → PyData) (p : Int.ofNat n = z) (hz : n ≤ 1000) (hl : 4 < r.length) (n3 : r[3]? = some none) (n4 : r[4]? = some none)
    (h : EvR K th r d) (hA : ∀ k, k < n → EvR K tl (((r.set 1 (some d)).set 2 (some (.list ((List.range k).map pg)))).set 3 (some (.int k))) (sm k))
    (hB : ∀ k, k < n → EvR K tt ((((r.set 1 (some d)).set 2 (some (.list ((List.range k).map pg)))).set 3 (some (.int k))).set 4 (some (sm k))) (pg k)) (f : ∀ k, flat (pg k) = true)
    (g : RunR K u ((r.set 1 (some d)).set 2 (some (.list ((List.range n).map pg)))) e) :
    RunR K (tSeq (tAsg (tTup (tCons th (tCons (tLst tNil) tNil))) (gTup K 2 (gCons (gName 1) (gCons (gName 2) gNil)))) (tSeq (tFor (iRng1 (tCons (tC (.int z)) tNil)) (gName 3) (tSeq (tAsg tl (gName 4)) (tDrop (tBM K "list" rAppend (tVar 2) (tCons tt tNil))))) u)) r e := fun sg H D en q => by
  refine h sg H en _ fun H1 v s1 hv => ⟨Nat.zero_le _, fun l nl => ?_⟩
  have s2 := same_new (o := HO.lst []) nl
  refine ⟨by show 2 ≤ sizeLine; decide, fun t nt => ?_⟩
  have s3 := same_new (o := HO.tup [v, .ref l]) nt
  refine ⟨t, _, rfl, SqT.of upd_same, rfl, v, _, rfl, .ref l, _, rfl, rfl, ?_⟩
  have lt : l ≠ t := by
    rintro rfl
    rw [upd_same] at nt
    cases nt
  subst p
  have e1 : EnvD K H1 (sg.set 1 (some v)) (r.set 1 (some d)) := (en.same s1).set 1 hv
  have hsl : 2 < sg.length := by rw [en.len]; omega
  refine ⟨(n : Int), rfl, by omega, by omega, ?_⟩
  have fa : ∀ k, flatAll ((List.range k).map pg) = true := fun k => flatAll_of fun x hx => by
    obtain ⟨b, _, rfl⟩ := List.mem_map.mp hx
    exact f b
  -- what the slots hold while the loop runs
  have env : ∀ {H' : Hp} {xs : List V} {k : Nat} {x y : Option V}, Same H1 H' → H' l = some (.lst xs) → DaAll K H' xs ((List.range k).map pg) → k ≤ n → EnvD K H' ((((sg.set 1 (some v)).set 2 (some (.ref l))).set 3 x).set 4 y) ((r.set 1 (some d)).set 2 (some (.list ((List.range k).map pg)))) := by
    intro H' xs k x y s hl' hx hk
    have e2 : EnvD K H' ((sg.set 1 (some v)).set 2 (some (.ref l))) ((r.set 1 (some d)).set 2 (some (.list ((List.range k).map pg)))) := (e1.same s).set 2 (.lst (SqL.of hl') hx (by rw [List.length_map, List.length_range]; omega))
    refine (e2.setN (i := 3) ?_).setN (i := 4) ?_
    · rw [List.getElem?_set_ne (by decide), List.getElem?_set_ne (by decide)]; exact n3
    · rw [List.getElem?_set_ne (by decide), List.getElem?_set_ne (by decide)]; exact n4
  refine for_it walk_range (fun k s' H' => Same H1 H' ∧ (∃ xs, H' l = some (.lst xs) ∧ DaAll K H' xs ((List.range k).map pg)) ∧ ∃ x y, s' = (((sg.set 1 (some v)).set 2 (some (.ref l))).set 3 x).set 4 y) ⟨s2.trans s3, ⟨[], s3 _ _ upd_same, .nil⟩, sg[3]?.getD none, sg[4]?.getD none, ?_⟩ (fun _ _ _ _ _ => trivial) (fun i x s' H' H2 hi g0 y => ?_) (fun s' H' g0 => ?_)
  · have e3 : sg[3]? = some (sg[3]?.getD none) := by
      rw [List.getElem?_eq_getElem (show 3 < sg.length by rw [en.len]; omega)]; rfl
    have e4 : sg[4]? = some (sg[4]?.getD none) := by
      rw [List.getElem?_eq_getElem (show 4 < sg.length by rw [en.len]; omega)]; rfl
    refine List.ext_getElem? fun j => ?_
    by_cases j4 : j = 4
    · subst j4
      rw [List.getElem?_set_self (by rw [List.length_set, List.length_set, List.length_set, en.len]; omega), List.getElem?_set_ne (by decide), List.getElem?_set_ne (by decide)]
      exact e4
    · rw [List.getElem?_set_ne (Ne.symm j4)]
      by_cases j3 : j = 3
      · subst j3
        rw [List.getElem?_set_self (by rw [List.length_set, List.length_set, en.len]; omega), List.getElem?_set_ne (by decide), List.getElem?_set_ne (by decide)]
        exact e3
      · rw [List.getElem?_set_ne (Ne.symm j3)]
  · obtain ⟨rfl, rfl⟩ := y
    obtain ⟨sm0, ⟨xs, hx, dx⟩, x, y, rfl⟩ := g0
    have e2 : EnvD K H2 (((((sg.set 1 (some v)).set 2 (some (.ref l))).set 3 x).set 4 y).set 3 (some (.int (0 + (i : Int))))) (((r.set 1 (some d)).set 2 (some (.list ((List.range i).map pg)))).set 3 (some (.int i))) := (env sm0 hx dx (Nat.le_of_lt hi)).set 3 (by rw [Int.zero_add]; exact .int _)
    refine hA i hi _ _ e2 _ fun H3 a s4 ha => ?_
    have e3 := (e2.same s4).set 4 ha
    have l2 : ((((((sg.set 1 (some v)).set 2 (some (.ref l))).set 3 x).set 4 y).set 3 (some (.int (0 + (i : Int))))).set 4 (some a))[2]? = some (some (.ref l)) := by
      rw [List.getElem?_set_ne (by decide), List.getElem?_set_ne (by decide), List.getElem?_set_ne (by decide), List.getElem?_set_ne (by decide)]
      exact List.getElem?_set_self (by rw [List.length_set]; exact hsl)
    refine ⟨.ref l, l2, Or.inl ⟨rfl, xs, SqL.of (s4 _ _ hx)⟩, hB i hi _ _ e3 _ fun H4 b s5 hb => ?_⟩
    have hx4 : H4 l = some (.lst xs) := s5 _ _ (s4 _ _ hx)
    refine ⟨l, xs, b, rfl, rfl, hx4, ?_, ?_⟩
    · rw [DaAll.len dx, List.length_map, List.length_range]
      exact Nat.lt_of_lt_of_le (Nat.lt_of_lt_of_le hi hz) (by decide)
    · have s6 : Same H1 (upd H4 l (.lst (xs ++ [b]))) := fun c o ec => by
        rw [upd_ne (ne_of_none ec nl)]
        exact s5 _ _ (s4 _ _ (sm0 _ _ ec))
      have t : TupS H4 (upd H4 l (.lst (xs ++ [b]))) := tupS_mut hx4 (fun xs z => by cases z) (fun a b z => by cases z)
      refine ⟨s6, ⟨xs ++ [b], upd_same, ?_⟩, some (.int (0 + (i : Int))), some a, ?_⟩
      · rw [List.range_succ, List.map_append]
        exact DaAll.app (DaAll.tupS t _ _ (fa i) (DaAll.same s5 _ _ (DaAll.same s4 _ _ dx))) (.cons (Da.tupS t _ _ (f i) hb) .nil)
      · rw [List.set_comm _ _ (show (4 : Nat) ≠ 3 by decide), List.set_set, List.set_set]
  · obtain ⟨sm0, ⟨xs, hx, dx⟩, x, y, rfl⟩ := g0
    exact g _ _ D (env sm0 hx dx (Nat.le_refl n)) fun H2 w s4 hw => q H2 w ((s1.trans sm0).trans s4) hw
end
end Jv
namespace S1
open PySem PySem.Spec PyProof.Rows L2 Jv
/-! ### statements told by data alone: what the slots hold, lists of one's own, the state -/
def Mask (A : List Addr) (H : Hp) : Hp := fun b => if b ∈ A then none else H b
theorem mask_same {A : List Addr} {H : Hp} : Same (Mask A H) H := fun b o e => by
  unfold Mask at e
  split at e
  · cases e
  · exact e
theorem mask_mono {A : List Addr} {H H' : Hp} (s : Same H H') : Same (Mask A H) (Mask A H') := fun b o e => by
  unfold Mask at e ⊢
  split at e
  · cases e
  · rename_i h
    rw [if_neg h]
    exact s b o e
theorem mask_out {A : List Addr} {H : Hp} {b : Addr} (h : b ∉ A) : Mask A H b = H b := if_neg h
theorem mask_nil (H : Hp) : Mask [] H = H := funext fun b => if_neg (fun h => by cases h)
/-- no tuple stands at a -/
def Hard (H : Hp) (a : Addr) : Prop := ∃ o, H a = some o ∧ (∀ xs, o ≠ .tup xs) ∧ ∀ u v, o ≠ .frz u v
theorem Hard.same {H H' : Hp} {a : Addr} (s : Same H H') (h : Hard H a) : Hard H' a := by
  obtain ⟨o, h1, h2⟩ := h
  exact ⟨o, s _ _ h1, h2⟩
theorem mask_tupS {A : List Addr} {H : Hp} (hard : ∀ a ∈ A, Hard H a) : TupS H (Mask A H) := fun b o e t => by
  have nb : b ∉ A := fun hb => by
    obtain ⟨u, h1, h2, h3⟩ := hard b hb
    rw [e] at h1
    cases h1
    rcases t with ⟨xs, rfl⟩ | ⟨u, v, rfl⟩
    · exact h2 _ rfl
    · exact h3 _ _ rfl
  rw [mask_out nb]
  exact e
inductive Sl
  | no
  | da (d : PyData)
  | ow (ds : List PyData)
  | ob (p : Hp → V → Prop)
  | st (n : Int)
structure Sx where
  d : Addr
  l : Addr
  c : Addr
def Sx.A : Option Sx → List Addr
  | none => []
  | some z => [z.d, z.l]
def Mono (p : Hp → V → Prop) : Prop := ∀ H H' v, Same H H' → p H v → p H' v
section
variable {K : PySem.W.Frag}
def Holds (K : PySem.W.Frag) (S : Option Sx) (A : List Addr) (H : Hp) (x : Option (Option V)) : Sl → Prop
  | .no => True
  | .da d => ∃ v, x = some (some v) ∧ Da K (Mask A H) v d
  | .ow ds => ∃ D vs, x = some (some (.ref D)) ∧ D ∈ A ∧ D ∉ Sx.A S ∧ H D = some (.lst vs) ∧ DaAll K (Mask A H) vs ds
  | .ob p => Mono p ∧ ∃ v, x = some (some v) ∧ p (Mask A H) v
  | .st n => ∃ z, S = some z ∧ x = some (some (.ref z.d)) ∧ St H z.d z.l z.c n ∧ z.c ∉ A
structure EnvA (K : PySem.W.Frag) (S : Option Sx) (H0 : Hp) (A : List Addr) (H : Hp) (sg : L2.St) (r : List Sl) : Prop where
  len : sg.length = r.length
  base : ∀ a ∈ Sx.A S, a ∈ A
  new : ∀ a ∈ A, a ∈ Sx.A S ∨ H0 a = none
  hard : ∀ a ∈ A, Hard H a
  fr : Same (Mask (Sx.A S) H0) (Mask A H)
  at_ : ∀ (i : Nat) s, r[i]? = some s → Holds K S A H sg[i]? s
  two : ∀ (i j : Nat) ds es D, i ≠ j → r[i]? = some (.ow ds) → r[j]? = some (.ow es) → sg[i]? = some (some (.ref D)) → sg[j]? = some (some (.ref D)) → False
  one : ∀ (i j : Nat) n m, i ≠ j → r[i]? = some (.st n) → r[j]? = some (.st m) → False
variable {S : Option Sx} {H0 H H' : Hp} {A : List Addr} {sg : L2.St} {r : List Sl}
theorem Holds.same {x : Option (Option V)} {s : Sl} (k : Same H H') (h : Holds K S A H x s) : Holds K S A H' x s := by
  cases s with
  | no => trivial
  | da d =>
    obtain ⟨v, h1, h2⟩ := h
    exact ⟨v, h1, Da.same (mask_mono k) _ _ h2⟩
  | ow ds =>
    obtain ⟨D, vs, h1, h2, h3, h4, h5⟩ := h
    exact ⟨D, vs, h1, h2, h3, k _ _ h4, DaAll.same (mask_mono k) _ _ h5⟩
  | ob p =>
    obtain ⟨m, v, h1, h2⟩ := h
    exact ⟨m, v, h1, m _ _ _ (mask_mono k) h2⟩
  | st n =>
    obtain ⟨z, h1, h2, h3, h4⟩ := h
    exact ⟨z, h1, h2, h3.same k, h4⟩
theorem EnvA.same (k : Same H H') (e : EnvA K S H0 A H sg r) : EnvA K S H0 A H' sg r :=
  ⟨e.len, e.base, e.new, fun a ha => (e.hard a ha).same k, fun b o h => mask_mono k b o (e.fr b o h), fun i s h => (e.at_ i s h).same k, e.two, e.one⟩
/-- what is known of fewer slots -/
def Wk (r r' : List Sl) : Prop := r.length = r'.length ∧ ∀ (i : Nat) s, r'[i]? = some s → s = .no ∨ r[i]? = some s
theorem EnvA.weak {r' : List Sl} (w : Wk r r') (e : EnvA K S H0 A H sg r) : EnvA K S H0 A H sg r' := by
  refine ⟨e.len.trans w.1, e.base, e.new, e.hard, e.fr, fun i s h => ?_, fun i j ds es D n h1 h2 => ?_, fun i j a b n h1 h2 => ?_⟩
  · rcases w.2 i s h with rfl | h
    · trivial
    · exact e.at_ i s h
  · rcases w.2 i _ h1 with z | h1
    · cases z
    · rcases w.2 j _ h2 with z | h2
      · cases z
      · exact e.two i j ds es D n h1 h2
  · rcases w.2 i _ h1 with z | h1
    · cases z
    · rcases w.2 j _ h2 with z | h2
      · cases z
      · exact e.one i j _ _ n h1 h2
theorem Wk.refl (r : List Sl) : Wk r r := ⟨rfl, fun i s h => Or.inr h⟩
def wkB : List Sl → List Sl → Prop
  | [], [] => True
  | s :: r, s' :: r' => (s' = .no ∨ s = s') ∧ wkB r r'
  | _, _ => False
theorem wk_of : ∀ {r r' : List Sl}, wkB r r' → Wk r r'
  | [], [], _ => ⟨rfl, fun i s h => by simp at h⟩
  | s :: r, s' :: r', h => by
    obtain ⟨h1, h2⟩ := h
    obtain ⟨w1, w2⟩ := wk_of h2
    refine ⟨by simp [w1], fun i x hx => ?_⟩
    cases i with
    | zero =>
      simp at hx
      subst hx
      rcases h1 with h1 | h1
      · exact .inl h1
      · exact .inr (by simp [h1])
    | succ i => simpa using w2 i x (by simpa using hx)
  | [], _ :: _, h => h.elim
  | _ :: _, [], h => h.elim
/-- a slot is stored that is no list of one's own -/
theorem EnvA.put {i : Nat} {s : Sl} {x : Option V} (e : EnvA K S H0 A H sg r) (h : Holds K S A H (some x) s) (n : ∀ ds, s ≠ .ow ds) (n2 : ∀ m, s ≠ .st m) : EnvA K S H0 A H (sg.set i x) (r.set i s) := by
  refine ⟨by rw [List.length_set, List.length_set, e.len], e.base, e.new, e.hard, e.fr, fun j s' hj => ?_, fun a b ds es D nab h1 h2 g1 g2 => ?_, fun a b _ _ nab h1 h2 => ?_⟩
  · by_cases z : i = j
    · subst z
      have hl : i < r.length := by
        have := (List.getElem?_eq_some_iff.mp hj).1
        rwa [List.length_set] at this
      rw [List.getElem?_set_self hl] at hj
      cases hj
      rw [List.getElem?_set_self (by rw [e.len]; exact hl)]
      exact h
    · rw [List.getElem?_set_ne z] at hj
      rw [List.getElem?_set_ne z]
      exact e.at_ j s' hj
  · have ne : ∀ {c : Nat} {cs : List PyData}, (r.set i s)[c]? = some (.ow cs) → i ≠ c ∧ r[c]? = some (.ow cs) := fun {c cs} hc => by
      by_cases z : i = c
      · subst z
        have hl : i < r.length := by
          have := (List.getElem?_eq_some_iff.mp hc).1
          rwa [List.length_set] at this
        rw [List.getElem?_set_self hl] at hc
        exact absurd (Option.some.inj hc) (n cs)
      · exact ⟨z, by rw [List.getElem?_set_ne z] at hc; exact hc⟩
    obtain ⟨a1, a2⟩ := ne h1
    obtain ⟨b1, b2⟩ := ne h2
    rw [List.getElem?_set_ne a1] at g1
    rw [List.getElem?_set_ne b1] at g2
    exact e.two a b ds es D nab a2 b2 g1 g2
  · have ne : ∀ {c : Nat} {m : Int}, (r.set i s)[c]? = some (.st m) → r[c]? = some (.st m) := fun {c m} hc => by
      by_cases z : i = c
      · subst z
        have hl : i < r.length := by
          have := (List.getElem?_eq_some_iff.mp hc).1
          rwa [List.length_set] at this
        rw [List.getElem?_set_self hl] at hc
        exact absurd (Option.some.inj hc) (n2 m)
      · rw [List.getElem?_set_ne z] at hc
        exact hc
    exact e.one a b _ _ nab (ne h1) (ne h2)
theorem EnvA.setD {i : Nat} {v : V} {d : PyData} (e : EnvA K S H0 A H sg r) (h : Da K (Mask A H) v d) : EnvA K S H0 A H (sg.set i (some v)) (r.set i (.da d)) := e.put ⟨v, rfl, h⟩ (fun _ z => by cases z) fun _ z => by cases z
theorem EnvA.setN {i : Nat} {x : Option V} (e : EnvA K S H0 A H sg r) : EnvA K S H0 A H (sg.set i x) (r.set i .no) := e.put trivial (fun _ z => by cases z) fun _ z => by cases z
/-- a new list becomes one's own -/
theorem EnvA.own {i D : Nat} {vs : List V} {ds : List PyData} (e : EnvA K S H0 A H sg r) (k : Same H H') (nD : H D = none) (hD : H' D = some (.lst vs)) (hv : DaAll K (Mask A H') vs ds) (nv : Mask A H' D = none ∨ DaAll K (Mask (D :: A) H') vs ds) : EnvA K S H0 (D :: A) H' (sg.set i (some (.ref D))) (r.set i (.ow ds)) := by
  have nA : D ∉ A := fun h => by
    obtain ⟨o, h1, _⟩ := e.hard D h
    rw [nD] at h1
    cases h1
  have nS : D ∉ Sx.A S := fun h => nA (e.base D h)
  have n0 : H0 D = none := by
    cases z : H0 D with
    | none => rfl
    | some o =>
      have := e.fr D o (by rw [mask_out nS]; exact z)
      rw [mask_out nA, nD] at this
      cases this
  have big : Same (Mask A H) (Mask (D :: A) H') := fun b o h => by
    have nb : b ≠ D := by
      rintro rfl
      rw [mask_out nA, nD] at h
      cases h
    have nb2 : b ∉ A := fun z => by
      unfold Mask at h
      rw [if_pos z] at h
      cases h
    rw [mask_out nb2] at h
    rw [mask_out (fun z => by
      rcases List.mem_cons.mp z with z | z
      · exact nb z
      · exact nb2 z)]
    exact k _ _ h
  have hv' : DaAll K (Mask (D :: A) H') vs ds := by
    rcases nv with z | z
    · rw [mask_out nA, hD] at z
      cases z
    · exact z
  have old : ∀ {x : Option (Option V)} {s : Sl}, Holds K S A H x s → Holds K S (D :: A) H' x s := fun {x s} h => by
    cases s with
    | no => trivial
    | da d =>
      obtain ⟨v, h1, h2⟩ := h
      exact ⟨v, h1, Da.same big _ _ h2⟩
    | ow ds =>
      obtain ⟨D', vs, h1, h2, h3, h4, h5⟩ := h
      exact ⟨D', vs, h1, List.mem_cons_of_mem _ h2, h3, k _ _ h4, DaAll.same big _ _ h5⟩
    | ob p =>
      obtain ⟨m, v, h1, h2⟩ := h
      exact ⟨m, v, h1, m _ _ _ big h2⟩
    | st n =>
      obtain ⟨z, h1, h2, h3, h4⟩ := h
      refine ⟨z, h1, h2, h3.same k, fun q => ?_⟩
      rcases List.mem_cons.mp q with q | q
      · obtain ⟨cells, lefts, m, r', a1, a2, a3, _⟩ := h3.ex
        rw [q, nD] at a2
        cases a2
      · exact h4 q
  refine ⟨by rw [List.length_set, List.length_set, e.len], fun a ha => List.mem_cons_of_mem _ (e.base a ha), fun a ha => ?_, fun a ha => ?_, fun b o h => big b o (e.fr b o h), fun j s' hj => ?_, fun a b ds' es D' nab h1 h2 g1 g2 => ?_, fun a b _ _ nab h1 h2 => ?_⟩
  · rcases List.mem_cons.mp ha with rfl | ha
    · exact .inr n0
    · exact e.new a ha
  · rcases List.mem_cons.mp ha with rfl | ha
    · exact ⟨_, hD, (fun _ z => by cases z), fun _ _ z => by cases z⟩
    · exact (e.hard a ha).same k
  · by_cases z : i = j
    · subst z
      have hl : i < r.length := by
        have := (List.getElem?_eq_some_iff.mp hj).1
        rwa [List.length_set] at this
      rw [List.getElem?_set_self hl] at hj
      cases hj
      rw [List.getElem?_set_self (by rw [e.len]; exact hl)]
      exact ⟨D, vs, rfl, List.mem_cons_self, nS, hD, hv'⟩
    · rw [List.getElem?_set_ne z] at hj
      rw [List.getElem?_set_ne z]
      exact old (e.at_ j s' hj)
  · -- the new one is no older one
    have fresh : ∀ {c : Nat} {cs : List PyData}, r[c]? = some (.ow cs) → sg[c]? ≠ some (some (.ref D)) := fun {c cs} hc hz => by
      obtain ⟨D2, _, h1, h2, _⟩ := e.at_ c _ hc
      rw [hz] at h1
      cases h1
      exact nA h2
    have get : ∀ {c : Nat} {cs : List PyData}, i ≠ c → (r.set i (.ow ds))[c]? = some (.ow cs) → r[c]? = some (.ow cs) := fun {c cs} n hc => by
      rw [List.getElem?_set_ne n] at hc
      exact hc
    by_cases za : i = a
    · subst za
      have lb : i ≠ b := nab
      rw [List.getElem?_set_ne lb] at g2
      have hl : i < r.length := by
        have := (List.getElem?_eq_some_iff.mp h1).1
        rwa [List.length_set] at this
      rw [List.getElem?_set_self (by rw [e.len]; exact hl)] at g1
      cases g1
      exact fresh (get lb h2) g2
    · rw [List.getElem?_set_ne za] at g1
      by_cases zb : i = b
      · subst zb
        have hl : i < r.length := by
          have := (List.getElem?_eq_some_iff.mp h2).1
          rwa [List.length_set] at this
        rw [List.getElem?_set_self (by rw [e.len]; exact hl)] at g2
        cases g2
        exact fresh (get za h1) g1
      · rw [List.getElem?_set_ne zb] at g2
        exact e.two a b ds' es D' nab (get za h1) (get zb h2) g1 g2
  · have ne : ∀ {c : Nat} {m : Int}, (r.set i (.ow ds))[c]? = some (.st m) → r[c]? = some (.st m) := fun {c m} hc => by
      by_cases z : i = c
      · subst z
        have hl : i < r.length := by
          have := (List.getElem?_eq_some_iff.mp hc).1
          rwa [List.length_set] at this
        rw [List.getElem?_set_self hl] at hc
        cases hc
      · rw [List.getElem?_set_ne z] at hc
        exact hc
    exact e.one a b _ _ nab (ne h1) (ne h2)
/-- one's own list is changed -/
theorem EnvA.mut {i : Nat} {D : Addr} {vs : List V} {es : List PyData} {ds : List PyData} (e : EnvA K S H0 A H sg r) (hi : r[i]? = some (.ow ds)) (hs : sg[i]? = some (some (.ref D))) (hv : DaAll K (Mask A H) vs es) : EnvA K S H0 A (upd H D (.lst vs)) sg (r.set i (.ow es)) := by
  obtain ⟨D', vs', h1, hA, nS, hD, hd⟩ := e.at_ i _ hi
  rw [hs] at h1
  cases h1
  have big : Same (Mask A H) (Mask A (upd H D (.lst vs))) := fun b o h => by
    have nb2 : b ∉ A := fun z => by
      unfold Mask at h
      rw [if_pos z] at h
      cases h
    rw [mask_out nb2] at h ⊢
    have nbD : b ≠ D := fun z => by
      subst z
      exact nb2 hA
    rw [upd_ne nbD]
    exact h
  have hl : i < r.length := (List.getElem?_eq_some_iff.mp hi).1
  refine ⟨by rw [List.length_set, e.len], e.base, e.new, fun a ha => ?_, fun b o h => big b o (e.fr b o h), fun j s' hj => ?_, fun a b ds' es' D' nab h1 h2 g1 g2 => ?_, fun a b _ _ nab h1 h2 => ?_⟩
  · by_cases z : a = D
    · subst z
      exact ⟨_, upd_same, (fun _ z => by cases z), fun _ _ z => by cases z⟩
    · obtain ⟨o, h1, h2⟩ := e.hard a ha
      exact ⟨o, by rw [upd_ne z]; exact h1, h2⟩
  · by_cases z : i = j
    · subst z
      rw [List.getElem?_set_self hl] at hj
      cases hj
      exact ⟨D, vs, hs, hA, nS, upd_same, DaAll.same big _ _ hv⟩
    · rw [List.getElem?_set_ne z] at hj
      have old := e.at_ j s' hj
      cases s' with
      | no => trivial
      | da d =>
        obtain ⟨v, h1, h2⟩ := old
        exact ⟨v, h1, Da.same big _ _ h2⟩
      | ow ds' =>
        obtain ⟨D2, vs2, h1, h2, h3, h4, h5⟩ := old
        refine ⟨D2, vs2, h1, h2, h3, ?_, DaAll.same big _ _ h5⟩
        rw [upd_ne (fun q => by
          subst q
          exact e.two i j ds ds' _ z hi hj hs h1)]
        exact h4
      | ob p =>
        obtain ⟨m, v, h1, h2⟩ := old
        exact ⟨m, v, h1, m _ _ _ big h2⟩
      | st n =>
        obtain ⟨z', h1, h2, h3, h4⟩ := old
        refine ⟨z', h1, h2, h3.upd ⟨fun q => ?_, fun q => ?_, fun q => h4 (q ▸ hA)⟩, h4⟩
        · exact nS (by rw [h1, q]; exact List.mem_cons_self)
        · exact nS (by rw [h1, q]; exact List.mem_cons_of_mem _ List.mem_cons_self)
  · have get : ∀ {c : Nat} {cs : List PyData}, (r.set i (.ow es))[c]? = some (.ow cs) → ∃ ds', r[c]? = some (.ow ds') := fun {c cs} hc => by
      by_cases z : i = c
      · subst z
        exact ⟨ds, hi⟩
      · rw [List.getElem?_set_ne z] at hc
        exact ⟨_, hc⟩
    obtain ⟨_, q1⟩ := get h1
    obtain ⟨_, q2⟩ := get h2
    exact e.two a b _ _ D' nab q1 q2 g1 g2
  · have ne : ∀ {c : Nat} {m : Int}, (r.set i (.ow es))[c]? = some (.st m) → r[c]? = some (.st m) := fun {c m} hc => by
      by_cases z : i = c
      · subst z
        rw [List.getElem?_set_self hl] at hc
        cases hc
      · rw [List.getElem?_set_ne z] at hc
        exact hc
    exact e.one a b _ _ nab (ne h1) (ne h2)
/-- a number is drawn -/
theorem EnvA.drawn {i : Nat} {n m : Int} {z : Sx} (e : EnvA K (some z) H0 A H sg r) (hi : r[i]? = some (.st n)) (b : But z.d z.l H H') (s : St H' z.d z.l z.c m) : EnvA K (some z) H0 A H' sg (r.set i (.st m)) ∧ Same (Mask A H) (Mask A H') := by
  have inA : z.d ∈ A ∧ z.l ∈ A := ⟨e.base _ List.mem_cons_self, e.base _ (List.mem_cons_of_mem _ List.mem_cons_self)⟩
  have big : Same (Mask A H) (Mask A H') := fun x o h => by
    have nx : x ∉ A := fun q => by
      unfold Mask at h
      rw [if_pos q] at h
      cases h
    rw [mask_out nx] at h ⊢
    exact b x o (fun q => nx (q ▸ inA.1)) (fun q => nx (q ▸ inA.2)) h
  obtain ⟨z', h1, hs, hSt, hc⟩ := e.at_ i _ hi
  cases h1
  have hl : i < r.length := (List.getElem?_eq_some_iff.mp hi).1
  refine ⟨⟨by rw [List.length_set, e.len], e.base, e.new, fun a ha => ?_, fun x o h => big x o (e.fr x o h), fun j s' hj => ?_, fun a b' ds' es' D' nab h1 h2 g1 g2 => ?_, fun a b' _ _ nab h1 h2 => ?_⟩, big⟩
  · obtain ⟨cells, lefts, m', r', a1, a2, a3, _⟩ := s.ex
    by_cases za : a = z.d
    · subst za
      exact ⟨_, a1, (fun _ z => by cases z), fun _ _ z => by cases z⟩
    · by_cases zl : a = z.l
      · subst zl
        exact ⟨_, a3, (fun _ z => by cases z), fun _ _ z => by cases z⟩
      · obtain ⟨o, h1, h2⟩ := e.hard a ha
        exact ⟨o, b a o za zl h1, h2⟩
  · by_cases q : i = j
    · subst q
      rw [List.getElem?_set_self hl] at hj
      cases hj
      exact ⟨z, rfl, hs, s, hc⟩
    · rw [List.getElem?_set_ne q] at hj
      have old := e.at_ j s' hj
      cases s' with
      | no => trivial
      | da d =>
        obtain ⟨v, h1, h2⟩ := old
        exact ⟨v, h1, Da.same big _ _ h2⟩
      | ow ds' =>
        obtain ⟨D2, vs2, h1, h2, h3, h4, h5⟩ := old
        exact ⟨D2, vs2, h1, h2, h3, b D2 _ (fun q => h3 (q ▸ List.mem_cons_self)) (fun q => h3 (q ▸ List.mem_cons_of_mem _ List.mem_cons_self)) h4, DaAll.same big _ _ h5⟩
      | ob p =>
        obtain ⟨mm, v, h1, h2⟩ := old
        exact ⟨mm, v, h1, mm _ _ _ big h2⟩
      | st n' =>
        exact (e.one i j _ _ q hi hj).elim
  · have get : ∀ {c : Nat} {cs : List PyData}, (r.set i (.st m))[c]? = some (.ow cs) → r[c]? = some (.ow cs) := fun {c cs} hc => by
      by_cases z : i = c
      · subst z
        rw [List.getElem?_set_self hl] at hc
        cases hc
      · rw [List.getElem?_set_ne z] at hc
        exact hc
    exact e.two a b' _ _ D' nab (get h1) (get h2) g1 g2
  · have ne : ∀ {c : Nat} {k : Int}, (r.set i (.st m))[c]? = some (.st k) → ∃ k', r[c]? = some (.st k') := fun {c k} hc => by
      by_cases z : i = c
      · subst z
        exact ⟨_, hi⟩
      · rw [List.getElem?_set_ne z] at hc
        exact ⟨_, hc⟩
    obtain ⟨_, q1⟩ := ne h1
    obtain ⟨_, q2⟩ := ne h2
    exact e.one a b' _ _ nab q1 q2
end
end S1
/-! x in l, l.index(x), l.count(x): lists of data -/
namespace Jv
open PySem PySem.Spec PyProof.Rows L2
theorem h65_of {A : Around} {k : Nat} (hr : Room k A) : A.units + 65 < cLine := by
  have := hr.un
  omega
section
variable {X : Cx}
def rInA (K : PySem.W.Frag) : R2 := fun x y H Q => ∃ d ds, Da K H x d ∧ Da K H y (.list ds) ∧ SeqAt.shaped d = true ∧ SeqAt.shaped (.list ds) = true ∧ Q (.bl (ds.any (PyData.eqv · d))) H
theorem op_inA (hu : X.A.units + 65 < cLine) : OpR X (compareOp .In) (rInA X.K) := by
  intro pn sh sg H x y v u Q I r1 r2 hyp
  obtain ⟨d, ds, a1, a2, b1, b2, q⟩ := hyp
  obtain ⟨_, e1⟩ := Da.reads I d x v a1 r1
  obtain ⟨_, e2⟩ := Da.reads I (.list ds) y u a2 r2
  exact SeqAt.in_list_reads e2 e1 (SeqAt.canLay_of_shaped b2) (SeqAt.canLay_of_shaped b1) (room_in_shaped b1 hu) ⟨.bl _, H, I, rfl, q⟩
def rNotInA (K : PySem.W.Frag) : R2 := fun x y H Q => ∃ d ds, Da K H x d ∧ Da K H y (.list ds) ∧ SeqAt.shaped d = true ∧ SeqAt.shaped (.list ds) = true ∧ Q (.bl (!ds.any (PyData.eqv · d))) H
theorem op_notInA (hu : X.A.units + 65 < cLine) : OpR X (compareOp .NotIn) (rNotInA X.K) := by
  intro pn sh sg H x y v u Q I r1 r2 hyp
  obtain ⟨d, ds, a1, a2, b1, b2, q⟩ := hyp
  obtain ⟨_, e1⟩ := Da.reads I d x v a1 r1
  obtain ⟨_, e2⟩ := Da.reads I (.list ds) y u a2 r2
  exact SeqAt.notIn_list_reads e2 e1 (SeqAt.canLay_of_shaped b2) (SeqAt.canLay_of_shaped b1) (room_in_shaped b1 hu) ⟨.bl _, H, I, rfl, q⟩
/-- l.count(x) -/
def rCntA (K : PySem.W.Frag) : V → List V → Hp → VK → Prop := fun x xs H Q => ∃ (a : Addr) (y : V) (d : PyData) (ds : List PyData), x = .ref a ∧ xs = [y] ∧ Da K H (.ref a) (.list ds) ∧ Da K H y d ∧ SeqAt.shaped (.list ds) = true ∧ SeqAt.shaped d = true ∧ PyData.plainAll ds = true ∧ d.plain = true ∧ Q (.int (ds.countP (PyData.eqv · d) : Nat)) H
theorem mt_countA (hu : X.A.units + 65 < cLine) : MtR X "list.count" (rCntA X.K) := by
  intro pn sh sg H x xs v us Q I rx rxs hyp
  obtain ⟨a, y, d, ds, rfl, rfl, a1, a2, b1, b2, c1, c2, q⟩ := hyp
  cases rx
  obtain ⟨uy, rfl, ry⟩ := rxs.one
  obtain ⟨_, e2⟩ := Da.reads I d y uy a2 ry
  obtain ⟨_, e1⟩ := Da.reads I (.list ds) (.ref a) (.ref a) a1 rfl
  have room : X.A.units + 1 + min (PyData.depthAll ds) d.depth < cLine := room_in_shaped b2 hu
  cases e1 with
  | list ho hc hd hr => exact PySem.SeqAt.count_list_data ⟨_, ho, hc, _, hd⟩ hr e2 c1 c2 room ⟨.int _, H, I.tok _, ⟨_, rfl⟩, q⟩
/-- l.index(x), x there: the first place -/
def rIxA (K : PySem.W.Frag) : V → List V → Hp → VK → Prop := fun x xs H Q => ∃ (a : Addr) (y : V) (d : PyData) (ds : List PyData) (j : Nat), x = .ref a ∧ xs = [y] ∧ Da K H (.ref a) (.list ds) ∧ Da K H y d ∧ ds.length ≤ 1000 ∧ SeqAt.shaped d = true ∧ PyData.plainAll ds = true ∧ d.plain = true ∧ SeqAt.dataPlace ds d = some j ∧ Q (.int (j : Nat)) H
theorem mt_ixA (hu : X.A.units + 65 < cLine) : MtR X "list.index" (rIxA X.K) := by
  intro pn sh sg H x xs v us Q I rx rxs hyp
  obtain ⟨a, y, d, ds, j, rfl, rfl, a1, a2, hz, b2, c1, c2, hp, q⟩ := hyp
  cases rx
  obtain ⟨uy, rfl, ry⟩ := rxs.one
  obtain ⟨_, e2⟩ := Da.reads I d y uy a2 ry
  obtain ⟨_, e1⟩ := Da.reads I (.list ds) (.ref a) (.ref a) a1 rfl
  have room : X.A.units + 1 + min (PyData.depthAll ds) d.depth < cLine := room_in_shaped b2 hu
  cases e1 with
  | @list _ o vs n _ _ ho hc hd hr =>
    obtain ⟨oc, dd, od, sl⟩ := o
    dsimp only at hc hd
    subst hc hd
    obtain ⟨hj, h1, h2⟩ := SeqAt.hit_at hr c1 hp
    have hl : vs.size = ds.length := SeqAt.len_at hr
    refine call_meets PySem.F.slot_list_index ⟨_, ho, rfl⟩ PySem.F.entry_list_index (PySem.F.args_list_index_2 _ _)
      (SeqAt.list_indexAt a vs n dd sl uy (fun u => PyData.eqv (SeqAt.readOf sh.heap u) d) j hj (by omega) h1 h2) ⟨ho, SeqAt.items_plain hr e2 c1 c2 room, ⟨.int (j : Nat), H, I.tok _, ⟨_, rfl⟩, q⟩⟩
/-! ### truth values -/
theorem da_bools {K : PySem.W.Frag} {H : Hp} : ∀ bs : List Bool, DaAll K H (bs.map V.bl) (bs.map PyData.bool)
  | [] => .nil
  | b :: bs => .cons (.bl b) (da_bools bs)
theorem plain_bools : ∀ bs : List Bool, PyData.plainAll (bs.map PyData.bool) = true
  | [] => rfl
  | b :: bs => by rw [List.map_cons, PyData.plainAll, plain_bools bs]; rfl
end
end Jv
namespace S1
open PySem PySem.Spec PyProof.Rows L2 Jv
/-! ### statements told by data alone: the rules -/
def vw : Sl → Option PyData
  | .da d => some d
  | .ow ds => if ds.length ≤ 1000 then some (.list ds) else none
  | _ => none
def view (r : List Sl) : Rho := r.map vw
inductive Rt
  | da (d : PyData)
  | lst (ds : List PyData)
  | ob (p : Hp → V → Prop)
structure Po where
  nx : List Sl → Prop
  ct : List Sl → Prop := fun _ => False
  bk : List Sl → Prop := fun _ => False
  rt : Rt → List Sl → Prop := fun _ _ => False
section
variable {K : PySem.W.Frag} {S : Option Sx} {H0 H H' : Hp} {A A' : List Addr} {sg : L2.St} {r r1 r2 : List Sl} {P : Po}
theorem EnvA.view (e : EnvA K S H0 A H sg r) : EnvD K H sg (view r) := by
  refine ⟨fun i d h => ?_, by rw [e.len]; exact (List.length_map _).symm⟩
  unfold S1.view at h
  rw [List.getElem?_map] at h
  obtain ⟨s, hs, hd⟩ := Option.map_eq_some_iff.mp h
  have hh := e.at_ i s hs
  cases s with
  | no => cases hd
  | da d' =>
    cases hd
    obtain ⟨v, h1, h2⟩ := hh
    exact ⟨v, h1, Da.same mask_same _ _ h2⟩
  | ow ds =>
    obtain ⟨D, vs, h1, _, _, h4, h5⟩ := hh
    simp only [vw] at hd
    split at hd
    · rename_i hl
      cases hd
      exact ⟨.ref D, h1, .lst (SqL.of h4) (DaAll.same mask_same _ _ h5) hl⟩
    · cases hd
  | ob p => cases hd
  | st n => cases hd
def RetAt (K : PySem.W.Frag) (S : Option Sx) (A : List Addr) (H : Hp) (v : V) : Rt → Prop
  | .da d => Da K (Mask A H) v d
  | .lst ds => ∃ D vs, v = .ref D ∧ D ∈ A ∧ D ∉ Sx.A S ∧ H D = some (.lst vs) ∧ DaAll K (Mask A H) vs ds
  | .ob p => p (Mask A H) v
structure Gv (K : PySem.W.Frag) (S : Option Sx) (H0 : Hp) (A : List Addr) (H : Hp) (P : Po) (D : Ends) : Prop where
  nx : ∀ A' H' sg r, P.nx r → Same (Mask A H) (Mask A' H') → EnvA K S H0 A' H' sg r → D.nx sg H'
  ct : ∀ A' H' sg r, P.ct r → Same (Mask A H) (Mask A' H') → EnvA K S H0 A' H' sg r → D.ct sg H'
  bk : ∀ A' H' sg r, P.bk r → Same (Mask A H) (Mask A' H') → EnvA K S H0 A' H' sg r → D.bk sg H'
  rt : ∀ A' H' sg r x v, P.rt x r → Same (Mask A H) (Mask A' H') → EnvA K S H0 A' H' sg r → RetAt K S A' H' v x → D.rt v H'
theorem Gv.from {D : Ends} (s : Same (Mask A H) (Mask A' H')) (g : Gv K S H0 A H P D) : Gv K S H0 A' H' P D :=
  ⟨fun _ _ _ _ p s' e => g.nx _ _ _ _ p (s.trans s') e, fun _ _ _ _ p s' e => g.ct _ _ _ _ p (s.trans s') e, fun _ _ _ _ p s' e => g.bk _ _ _ _ p (s.trans s') e, fun _ _ _ _ _ _ p s' e q => g.rt _ _ _ _ _ _ p (s.trans s') e q⟩
/-- the block t, from slots that hold r -/
def Bk (K : PySem.W.Frag) (S : Option Sx) (r : List Sl) (t : TS) (P : Po) : Prop := ∀ H0 A H sg (D : Ends), EnvA K S H0 A H sg r → Gv K S H0 A H P D → t D sg H
def StepM (K : PySem.W.Frag) (S : Option Sx) (r : List Sl) (t : TS) (r1 : List Sl) : Prop := ∀ H0 A H sg (D : Ends), EnvA K S H0 A H sg r → (∀ A' H' sg', Same (Mask A H) (Mask A' H') → EnvA K S H0 A' H' sg' r1 → D.nx sg' H') → t D sg H
theorem bk_then {t u : TS} (h : StepM K S r t r1) (g : Bk K S r1 u P) : Bk K S r (tSeq t u) P := fun H0 A H sg D e gv => h H0 A H sg _ e fun A' H' sg' s e' => g H0 A' H' sg' D e' (gv.from s)
theorem bk_end {t : TS} (h : StepM K S r t r1) (n : P.nx r1) : Bk K S r t P := fun H0 A H sg D e gv => h H0 A H sg _ e fun A' H' sg' s e' => gv.nx A' H' sg' r1 n s e'
theorem bk_seq {t u : TS} (h : Bk K S r t ⟨fun r1 => Bk K S r1 u P, P.ct, P.bk, P.rt⟩) : Bk K S r (tSeq t u) P := fun H0 A H sg D e gv => h H0 A H sg { D with nx := u D } e ⟨fun A' H' sg' r' n s e' => n H0 A' H' sg' D e' (gv.from s), gv.ct, gv.bk, gv.rt⟩
theorem bk_weak {t : TS} (w : Wk r r1) (h : Bk K S r1 t P) : Bk K S r t P := fun H0 A H sg D e gv => h H0 A H sg D (e.weak w) gv
theorem bk_next (n : P.nx r) : Bk K S r tNext P := fun H0 A H sg D e gv => gv.nx A H sg r n (Same.refl _) e
theorem bk_nextS {u : TS} (h : Bk K S r u P) : Bk K S r (tSeq tNext u) P := h
theorem bk_cont (n : P.ct r) : Bk K S r tCont P := fun H0 A H sg D e gv => gv.ct A H sg r n (Same.refl _) e
theorem bk_contS {u : TS} (n : P.ct r) : Bk K S r (tSeq tCont u) P := fun H0 A H sg D e gv => gv.ct A H sg r n (Same.refl _) e
theorem bk_break (n : P.bk r) : Bk K S r tBreak P := fun H0 A H sg D e gv => gv.bk A H sg r n (Same.refl _) e
/-! ### what an expression makes -/
theorem flat_mask {v : V} {d : PyData} (e : EnvA K S H0 A H sg r) (h : Da K H v d) (f : flat d = true) : Da K (Mask A H) v d := Da.tupS (mask_tupS e.hard) _ _ f h
theorem flatA_mask {vs : List V} {ds : List PyData} (e : EnvA K S H0 A H sg r) (h : DaAll K H vs ds) (f : flatAll ds = true) : DaAll K (Mask A H) vs ds := DaAll.tupS (mask_tupS e.hard) _ _ f h
/-- flat data by an expression that may draw -/
def ExM (K : PySem.W.Frag) (S : Option Sx) (r : List Sl) (te : TE) (r1 : List Sl) (Φ : PyData → Prop) : Prop := ∀ H0 A H sg (Q : VK), EnvA K S H0 A H sg r → (∀ A' H' v d, Same (Mask A H) (Mask A' H') → EnvA K S H0 A' H' sg r1 → Φ d → Da K (Mask A' H') v d → Q v H') → te sg H Q
theorem ex_ev {te : TE} {d : PyData} (h : EvR K te (view r) d) (f : flat d = true) : ExM K S r te r (· = d) := fun H0 A H sg Q e q => h sg H e.view Q fun H' v s hv => q A H' v d (mask_mono s) (e.same s) rfl (flat_mask (e.same s) hv f)
theorem bk_ex {te : TE} {i : Nat} {u : TS} {Φ : PyData → Prop} (h : ExM K S r te r1 Φ) (g : ∀ d, Φ d → Bk K S (r1.set i (.da d)) u P) : Bk K S r (tSeq (tAsg te (gName i)) u) P := fun H0 A H sg D e gv => h H0 A H sg _ e fun A' H' v d s e' f hv => g d f H0 A' H' _ D (e'.setD hv) (gv.from s)
theorem bk_ex1 {te : TE} {i : Nat} {Φ : PyData → Prop} (h : ExM K S r te r1 Φ) (g : ∀ d, Φ d → P.nx (r1.set i (.da d))) : Bk K S r (tAsg te (gName i)) P := fun H0 A H sg D e gv => h H0 A H sg _ e fun A' H' v d s e' f hv => gv.nx A' H' _ _ (g d f) s (e'.setD hv)
theorem st_asg {te : TE} {i : Nat} {d : PyData} (h : EvR K te (view r) d) (f : flat d = true) : StepM K S r (tAsg te (gName i)) (r.set i (.da d)) := fun H0 A H sg D e q => h sg H e.view _ fun H' v s hv => q A H' _ (mask_mono s) ((e.same s).setD (flat_mask (e.same s) hv f))
theorem bk_ret {te : TE} {d : PyData} (h : EvR K te (view r) d) (f : flat d = true) (p : P.rt (.da d) r) : Bk K S r (tRet te) P := fun H0 A H sg D e gv => h sg H e.view _ fun H' v s hv => gv.rt A H' sg r _ v p (mask_mono s) (e.same s) (flat_mask (e.same s) hv f)
theorem bk_retS {te : TE} {d : PyData} {u : TS} (h : EvR K te (view r) d) (f : flat d = true) (p : P.rt (.da d) r) : Bk K S r (tSeq (tRet te) u) P := fun H0 A H sg D e gv => h sg H e.view _ fun H' v s hv => gv.rt A H' sg r _ v p (mask_mono s) (e.same s) (flat_mask (e.same s) hv f)
theorem bk_retE {te : TE} {Φ : PyData → Prop} (h : ExM K S r te r1 Φ) (p : ∀ d, Φ d → P.rt (.da d) r1) : Bk K S r (tRet te) P := fun H0 A H sg D e gv => h H0 A H sg _ e fun A' H' v d s e' f hv => gv.rt A' H' sg r1 _ v (p d f) s e' hv
theorem bk_retN (p : P.rt (.da .none) r) : Bk K S r tRetN P := fun H0 A H sg D e gv => gv.rt A H sg r _ .non p (Same.refl _) e .non
/-- one's own list is told -/
theorem bk_retL {i : Nat} {ds : List PyData} (h : r[i]? = some (.ow ds)) (p : P.rt (.lst ds) r) : Bk K S r (tRet (tVar i)) P := fun H0 A H sg D e gv => by
  obtain ⟨a, vs, h1, h2⟩ := e.at_ i _ h
  exact ⟨.ref a, h1, gv.rt A H sg r _ _ p (Same.refl _) e ⟨a, vs, rfl, h2⟩⟩
/-! ### tests -/
theorem bk_if {c : TT} {t u : TS} {b : Bool} (h : EvT K c (view r) b) (g1 : b = true → Bk K S r t P) (g2 : b = false → Bk K S r u P) : Bk K S r (tIfS c t u) P := fun H0 A H sg D e gv => h sg H e.view _ fun H' s => by
  cases b with
  | true => exact iteT (g1 rfl H0 A H' sg D (e.same s) (gv.from (mask_mono s)))
  | false => exact iteF (g2 rfl H0 A H' sg D (e.same s) (gv.from (mask_mono s)))
theorem bk_ifS {c : TT} {t u w : TS} {b : Bool} (h : EvT K c (view r) b) (g1 : b = true → Bk K S r (tSeq t w) P) (g2 : b = false → Bk K S r (tSeq u w) P) : Bk K S r (tSeq (tIfS c t u) w) P := fun H0 A H sg D e gv => h sg H e.view _ fun H' s => by
  cases b with
  | true => exact iteT (g1 rfl H0 A H' sg D (e.same s) (gv.from (mask_mono s)))
  | false => exact iteF (g2 rfl H0 A H' sg D (e.same s) (gv.from (mask_mono s)))
/-! ### lists of one's own -/
/-- a new list -/
def EvF (K : PySem.W.Frag) (t : TE) (ρ : Rho) (ds : List PyData) : Prop := ∀ sg H, EnvD K H sg ρ → ∀ Q : VK, (∀ H' D vs, Same H H' → H D = none → H' D = some (.lst vs) → DaAll K H' vs ds → Q (.ref D) H') → t sg H Q
theorem EvF.evr {t : TE} {ρ : Rho} {ds : List PyData} (h : EvF K t ρ ds) (l : ds.length ≤ 1000) : EvR K t ρ (.list ds) := fun sg H en Q q => h sg H en Q fun H' D vs s _ hD hv => q H' _ s (.lst (SqL.of hD) hv l)
theorem EvF.to {t : TE} {ρ : Rho} {ds es : List PyData} (h : EvF K t ρ ds) (e : ds = es) : EvF K t ρ es := e ▸ h
theorem st_new {te : TE} {i : Nat} {ds : List PyData} (h : EvF K te (view r) ds) (f : flatAll ds = true) : StepM K S r (tAsg te (gName i)) (r.set i (.ow ds)) := fun H0 A H sg D e q => h sg H e.view _ fun H' a vs s na ha hv => by
  have e' := e.same s
  have hv' := flatA_mask e' hv f
  have e2 : EnvA K S H0 (a :: A) H' (sg.set i (some (.ref a))) (r.set i (.ow ds)) := e.own s na ha hv' (.inr (DaAll.tupS (mask_tupS fun b hb => by
    rcases List.mem_cons.mp hb with rfl | hb
    · exact ⟨_, ha, (fun _ z => by cases z), fun _ _ z => by cases z⟩
    · exact e'.hard b hb) _ _ f hv))
  have nA : a ∉ A := fun h => by
    obtain ⟨o, h1, _⟩ := e.hard a h
    rw [na] at h1
    cases h1
  refine q (a :: A) H' _ (fun b o hb => ?_) e2
  have nb : b ≠ a := by
    rintro rfl
    rw [mask_out nA, na] at hb
    cases hb
  have nb2 : b ∉ A := fun z => by
    unfold Mask at hb
    rw [if_pos z] at hb
    cases hb
  rw [mask_out nb2] at hb
  rw [mask_out (fun z => (List.mem_cons.mp z).elim nb nb2)]
  exact s _ _ hb
theorem mut_big {D : Addr} {o : HO} (h : D ∈ A) : Same (Mask A H) (Mask A (upd H D o)) := fun b u hb => by
  have nb : b ∉ A := fun z => by
    unfold Mask at hb
    rw [if_pos z] at hb
    cases hb
  have nbD : b ≠ D := fun z => nb (z ▸ h)
  rw [mask_out nb] at hb ⊢
  rw [upd_ne nbD]
  exact hb
theorem st_app {te : TE} {i : Nat} {ds : List PyData} {d : PyData} (hi : r[i]? = some (.ow ds)) (h : EvR K te (view r) d) (f : flat d = true) (l : ds.length < 100000) : StepM K S r (tDrop (tBM K "list" rAppend (tVar i) (tCons te tNil))) (r.set i (.ow (ds ++ [d]))) := fun H0 A H sg D e q => by
  obtain ⟨a, vs, h1, h2, h3, h4, h5⟩ := e.at_ i _ hi
  refine ⟨.ref a, h1, Or.inl ⟨rfl, vs, SqL.of h4⟩, h sg H e.view _ fun H' v s hv => ⟨a, vs, v, rfl, rfl, s _ _ h4, ?_, ?_⟩⟩
  · rw [DaAll.len h5]
    exact Nat.lt_trans l (by decide)
  · have e' := e.same s
    exact q A _ sg ((mask_mono s).trans (mut_big h2)) (e'.mut hi h1 (DaAll.app (DaAll.same (mask_mono s) _ _ h5) (.cons (flat_mask e' hv f) .nil)))
/-- it is changed no more -/
theorem bk_freeze {i : Nat} {ds : List PyData} {t : TS} (hi : r[i]? = some (.ow ds)) (l : ds.length ≤ 1000) (h : Bk K S (r.set i (.da (.list ds))) t P) : Bk K S r t P := fun H0 A H sg D e gv => by
  obtain ⟨a, vs, h1, h2, h3, h4, h5⟩ := e.at_ i _ hi
  have hl : i < r.length := (List.getElem?_eq_some_iff.mp hi).1
  let B := A.filter fun b => decide (b ≠ a)
  have mB : ∀ b, b ∈ B ↔ b ∈ A ∧ b ≠ a := fun b => by
    show b ∈ A.filter _ ↔ _
    rw [List.mem_filter, decide_eq_true_eq]
  have big : Same (Mask A H) (Mask B H) := fun b o hb => by
    have nb : b ∉ A := fun z => by
      unfold Mask at hb
      rw [if_pos z] at hb
      cases hb
    rw [mask_out nb] at hb
    rw [mask_out fun z => nb ((mB b).mp z).1]
    exact hb
  have ha : Mask B H a = some (.lst vs) := by
    rw [mask_out fun z => ((mB a).mp z).2 rfl]
    exact h4
  refine h H0 B H sg D ?_ (gv.from big)
  refine ⟨by rw [List.length_set, e.len], fun b hb => (mB b).mpr ⟨e.base b hb, fun z => h3 (z ▸ hb)⟩, fun b hb => e.new b ((mB b).mp hb).1, fun b hb => e.hard b ((mB b).mp hb).1, fun b o hb => big b o (e.fr b o hb), fun j s hj => ?_, fun j k ds' es D' n g1 g2 k1 k2 => ?_, fun j k n m ne g1 g2 => ?_⟩
  · by_cases z : i = j
    · subst z
      rw [List.getElem?_set_self hl] at hj
      cases hj
      exact ⟨.ref a, h1, .lst (SqL.of ha) (DaAll.same big _ _ h5) l⟩
    · rw [List.getElem?_set_ne z] at hj
      have old := e.at_ j s hj
      cases s with
      | no => trivial
      | da d =>
        obtain ⟨v, g1, g2⟩ := old
        exact ⟨v, g1, Da.same big _ _ g2⟩
      | ow ds' =>
        obtain ⟨D2, vs2, g1, g2, g3, g4, g5⟩ := old
        refine ⟨D2, vs2, g1, (mB D2).mpr ⟨g2, fun q => ?_⟩, g3, g4, DaAll.same big _ _ g5⟩
        subst q
        exact e.two i j _ _ _ z hi hj h1 g1
      | ob p =>
        obtain ⟨m, v, g1, g2⟩ := old
        exact ⟨m, v, g1, m _ _ _ big g2⟩
      | st n =>
        obtain ⟨z', g1, g2, g3, g4⟩ := old
        exact ⟨z', g1, g2, g3, fun q => g4 ((mB _).mp q).1⟩
  · have get : ∀ {c : Nat} {cs : List PyData}, (r.set i (.da (.list ds)))[c]? = some (.ow cs) → r[c]? = some (.ow cs) := fun {c cs} hc => by
      by_cases z : i = c
      · subst z
        rw [List.getElem?_set_self hl] at hc
        cases hc
      · rw [List.getElem?_set_ne z] at hc
        exact hc
    exact e.two j k _ _ D' n (get g1) (get g2) k1 k2
  · have get : ∀ {c : Nat} {m : Int}, (r.set i (.da (.list ds)))[c]? = some (.st m) → r[c]? = some (.st m) := fun {c m} hc => by
      by_cases z : i = c
      · subst z
        rw [List.getElem?_set_self hl] at hc
        cases hc
      · rw [List.getElem?_set_ne z] at hc
        exact hc
    exact e.one j k _ _ ne (get g1) (get g2)
/-! ### targets -/
def TgM (K : PySem.W.Frag) (S : Option Sx) (r : List Sl) (g : TG) (d : PyData) (r2 : List Sl) : Prop := ∀ H0 A H sg v (Q : L2.St → Hp → Prop), EnvA K S H0 A H sg r → Da K (Mask A H) v d → (∀ sg', EnvA K S H0 A H sg' r2 → Q sg' H) → g v sg H Q
def TgsM (K : PySem.W.Frag) (S : Option Sx) (r : List Sl) (g : TGs) (ds : List PyData) (r2 : List Sl) : Prop := ∀ H0 A H sg vs (Q : L2.St → Hp → Prop), EnvA K S H0 A H sg r → DaAll K (Mask A H) vs ds → (∀ sg', EnvA K S H0 A H sg' r2 → Q sg' H) → g vs sg H Q
theorem tg_name {j : Nat} {d : PyData} : TgM K S r (gName j) d (r.set j (.da d)) := fun H0 A H sg v Q e hv q => q _ (e.setD hv)
theorem tgs_nil : TgsM K S r gNil [] r := fun H0 A H sg vs Q e hv q => by
  have := da_nil hv
  subst this
  exact ⟨rfl, q _ e⟩
theorem tgs_cons {g : TG} {gs : TGs} {d : PyData} {ds : List PyData} (h : TgM K S r g d r1) (k : TgsM K S r1 gs ds r2) : TgsM K S r (gCons g gs) (d :: ds) r2 := fun H0 A H sg vs Q e hv q => by
  obtain ⟨x, rs, rfl, p1, p2⟩ := da_cons hv
  exact ⟨x, rs, rfl, h H0 A H sg x _ e p1 fun sg' e' => k H0 A H sg' rs Q e' p2 q⟩
theorem tg_tup {gs : TGs} {ds : List PyData} {n : Nat} (k : TgsM K S r gs ds r2) (hn : ds.length = n) : TgM K S r (gTup K n gs) (.tuple ds) r2 := fun H0 A H sg v Q e hv q => by
  cases hv with
  | tup h1 h2 hz => exact ⟨_, _, rfl, sqT_same mask_same h1, (DaAll.len h2).trans hn, k H0 A H sg _ Q e h2 q⟩
/-- target = e -/
theorem bk_tg {te : TE} {g : TG} {d : PyData} {u : TS} (h : EvR K te (view r) d) (f : flat d = true) (k : TgM K S r g d r2) (b : Bk K S r2 u P) : Bk K S r (tSeq (tAsg te g) u) P := fun H0 A H sg D e gv => h sg H e.view _ fun H' v s hv => k H0 A H' sg v _ (e.same s) (flat_mask (e.same s) hv f) fun sg' e' => b H0 A H' sg' D e' (gv.from (mask_mono s))
theorem bk_tgE {te : TE} {g : TG} {u : TS} {Φ : PyData → Prop} (h : ExM K S r te r1 Φ) (k : ∀ d, Φ d → ∃ r2, TgM K S r1 g d r2 ∧ Bk K S r2 u P) : Bk K S r (tSeq (tAsg te g) u) P := fun H0 A H sg D e gv => h H0 A H sg _ e fun A' H' v d s e' f hv => by
  obtain ⟨r2, k1, b⟩ := k d f
  exact k1 H0 A' H' sg v _ e' hv fun sg' e2 => b H0 A' H' sg' D e2 (gv.from s)
theorem st_par {i j : Nat} {ta : TA} {d d' : PyData} (h : EvA K ta (view r) [d, d']) (f : flat d = true) (f' : flat d' = true) : StepM K S r (tPar i j ta) ((r.set i (.da d)).set j (.da d')) := fun H0 A H sg D e q => h sg H e.view _ fun H' vs s hv => by
  obtain ⟨x, r1, rfl, p1, g1⟩ := da_cons hv
  obtain ⟨y, r2, rfl, p2, g2⟩ := da_cons g1
  have e5 := da_nil g2
  subst e5
  have e' := e.same s
  exact ⟨x, y, rfl, q A H' _ (mask_mono s) ((e'.setD (flat_mask e' p1 f)).setD (flat_mask e' p2 f'))⟩
/-! ### loops -/
/-- what is walked: the data items, whatever is done meanwhile with one's own things -/
def ItM (K : PySem.W.Frag) (S : Option Sx) (r : List Sl) (wi : TI) (items : List PyData) : Prop := ∀ H0 A H sg (R : It → Hp → Prop), EnvA K S H0 A H sg r →
  (∀ (J : It) (Gd : Hp → Prop) (Y : Nat → Hp → V → Hp → Prop) H', Same H H' → Walk J items.length Gd Y → (∀ A2 H2, Same (Mask A H') (Mask A2 H2) → Gd H2) →
    (∀ i H2 x H3 A2, i < items.length → Same (Mask A H') (Mask A2 H2) → (∀ a ∈ A2, Hard H2 a) → Y i H2 x H3 → Same H2 H3 ∧ ∃ d, items[i]? = some d ∧ Da K (Mask A2 H3) x d) → R J H') → wi sg H R
theorem bk_for {wi : TI} {g : TG} {tb : TS} {items : List PyData} (hi : ItM K S r wi items) (Inv : Nat → List Sl → Prop) (h0 : ∃ r0, Wk r r0 ∧ Inv 0 r0)
    (step : ∀ k r1 d, items[k]? = some d → Inv k r1 → ∃ r2, TgM K S r1 g d r2 ∧ Bk K S r2 tb ⟨fun r' => ∃ r'', Wk r' r'' ∧ Inv (k + 1) r'', fun r' => ∃ r'', Wk r' r'' ∧ Inv (k + 1) r'', P.nx, P.rt⟩)
    (fin : ∀ r1, Inv items.length r1 → P.nx r1) : Bk K S r (tFor wi g tb) P := fun H0 A H sg D e gv => by
  refine hi H0 A H sg _ e fun J Gd Y H1 s1 wk hG hY => ?_
  obtain ⟨r0, w0, h0⟩ := h0
  have e1 := (e.same s1).weak w0
  have gv1 := gv.from (mask_mono s1)
  refine for_it wk (fun k σ H2 => ∃ A2 r2, Same (Mask A H1) (Mask A2 H2) ∧ EnvA K S H0 A2 H2 σ r2 ∧ Inv k r2) ⟨A, r0, Same.refl _, e1, h0⟩ (fun i σ H2 _ ⟨A2, r2, s, _, _⟩ => hG A2 H2 s) (fun i x σ H2 H3 hlt ⟨A2, r2, s, e2, iv⟩ y => ?_) (fun σ H2 ⟨A2, r2, s, e2, iv⟩ => gv1.nx A2 H2 σ r2 (fin r2 iv) s e2)
  obtain ⟨s3, d, hd, hx⟩ := hY i H2 x H3 A2 hlt s e2.hard y
  obtain ⟨r3, tg, b⟩ := step i r2 d hd iv
  have e3 := e2.same s3
  refine tg H0 A2 H3 σ x _ e3 hx fun sg' e4 => b H0 A2 H3 sg' _ e4 ?_
  have s13 := s.trans (mask_mono (A := A2) s3)
  exact ⟨fun A' H' sg'' r' ⟨r'', w, iv'⟩ s' e' => ⟨A', r'', s13.trans s', e'.weak w, iv'⟩, fun A' H' sg'' r' ⟨r'', w, iv'⟩ s' e' => ⟨A', r'', s13.trans s', e'.weak w, iv'⟩, fun A' H' sg'' r' p s' e' => gv1.nx A' H' sg'' r' p (s13.trans s') e', fun A' H' sg'' r' x v p s' e' q => gv1.rt A' H' sg'' r' x v p (s13.trans s') e' q⟩
theorem bk_while {c : TT} {tb : TS} (I : Nat → List Sl → Prop) (h0 : ∃ m, I m r) (step : ∀ m r1, I m r1 → ∃ b, EvT K c (view r1) b ∧ (b = true → Bk K S r1 tb ⟨fun r' => ∃ m' r'', m' < m ∧ Wk r' r'' ∧ I m' r'', fun r' => ∃ m' r'', m' < m ∧ Wk r' r'' ∧ I m' r'', P.nx, P.rt⟩) ∧ (b = false → P.nx r1)) : Bk K S r (tWhile c tb) P := fun H0 A H sg D e gv => by
  obtain ⟨m0, i0⟩ := h0
  refine ⟨fun m σ H2 => ∃ A2 r2, Same (Mask A H) (Mask A2 H2) ∧ EnvA K S H0 A2 H2 σ r2 ∧ I m r2, ⟨m0, A, r, Same.refl _, e, i0⟩, fun m σ H2 ⟨A2, r2, s, e2, iv⟩ => ?_⟩
  obtain ⟨b, hb, h1, h2⟩ := step m r2 iv
  refine hb σ H2 e2.view _ fun H3 s3 => ?_
  have e3 := e2.same s3
  have s13 := s.trans (mask_mono (A := A2) s3)
  cases b with
  | true =>
    rw [if_pos rfl]
    refine ⟨fun σ' H' => ∃ m', m' < m ∧ ∃ A2 r2, Same (Mask A H) (Mask A2 H') ∧ EnvA K S H0 A2 H' σ' r2 ∧ I m' r2, fun σ' H' h => h, h1 rfl H0 A2 H3 σ _ e3 ?_⟩
    exact ⟨fun A' H' sg'' r' ⟨m', r'', lt, w, iv'⟩ s' e' => ⟨m', lt, A', r'', s13.trans s', e'.weak w, iv'⟩, fun A' H' sg'' r' ⟨m', r'', lt, w, iv'⟩ s' e' => ⟨m', lt, A', r'', s13.trans s', e'.weak w, iv'⟩, fun A' H' sg'' r' p s' e' => gv.nx A' H' sg'' r' p (s13.trans s') e', fun A' H' sg'' r' x v p s' e' q => gv.rt A' H' sg'' r' x v p (s13.trans s') e' q⟩
  | false =>
    rw [if_neg Bool.false_ne_true]
    exact gv.nx A2 H3 σ r2 (h2 rfl) s13 e3
/-! ### what is walked -/
theorem it_var {i : Nat} {ds : List PyData} (h : r[i]? = some (.da (.list ds))) : ItM K S r (iList K (tVar i)) ds := fun H0 A H sg R e q => by
  obtain ⟨v, h1, h2⟩ := e.at_ i _ h
  cases h2 with
  | @lst a xs _ g1 g2 g3 =>
    have len := DaAll.len g2
    refine ⟨.ref a, h1, a, rfl, ⟨xs, mask_same.seq g1⟩, q (Itl K a) _ (YAt xs) H (Same.refl H) (len ▸ walk_list (xs := xs)) (fun A2 H2 s => (s.trans mask_same).seq g1) fun i H2 x H3 A2 hi s hd y => ?_⟩
    obtain ⟨rfl, ex⟩ := y
    obtain ⟨d, ed, hdd⟩ := DaAll.get g2 ex
    exact ⟨Same.refl _, d, ed, Da.same s _ _ hdd⟩
theorem it_new {te : TE} {ds : List PyData} (h : EvF K te (view r) ds) (f : flatAll ds = true) : ItM K S r (iList K te) ds := fun H0 A H sg R e q => h sg H e.view _ fun H' a xs s na ha hv => by
  have len := DaAll.len hv
  have e' := e.same s
  have nA : a ∉ A := fun h => by
    obtain ⟨o, h1, _⟩ := e.hard a h
    rw [na] at h1
    cases h1
  have g2 := flatA_mask e' hv f
  have g1 : Mask A H' a = some (.lst xs) := by
    rw [mask_out nA]
    exact ha
  refine ⟨a, rfl, ⟨xs, SqL.of ha⟩, q (Itl K a) _ (YAt xs) H' s (len ▸ walk_list (xs := xs)) (fun A2 H2 s => (s.trans mask_same).seq (SqL.of g1)) fun i H2 x H3 A2 hi s hd y => ?_⟩
  obtain ⟨rfl, ex⟩ := y
  obtain ⟨d, ed, hdd⟩ := DaAll.get g2 ex
  exact ⟨Same.refl _, d, ed, Da.same s _ _ hdd⟩
theorem it_tup {te : TE} {ds : List PyData} (h : EvR K te (view r) (.tuple ds)) (f : flatAll ds = true) : ItM K S r (iTup K te) ds := fun H0 A H sg R e q => h sg H e.view _ fun H' v s hv => by
  have e' := e.same s
  have hm := flat_mask e' hv (show flat (.tuple ds) = true from f)
  cases hm with
  | @tup a xs _ g1 g2 g3 =>
    have len := DaAll.len g2
    refine ⟨a, rfl, ⟨xs, sqT_same mask_same g1⟩, q (Itt K a) _ (YAt xs) H' s (len ▸ walk_tup (xs := xs)) (fun A2 H2 s => sqT_same (s.trans mask_same) g1) fun i H2 x H3 A2 hi s hd y => ?_⟩
    obtain ⟨rfl, ex⟩ := y
    obtain ⟨d, ed, hdd⟩ := DaAll.get g2 ex
    exact ⟨Same.refl _, d, ed, Da.same s _ _ hdd⟩
theorem it_rng {te : TE} {n : Nat} (h : EvR K te (view r) (.int (n : Nat))) (l : n < 2 ^ 62) : ItM K S r (iRng1 (tCons te tNil)) ((List.range n).map fun k : Nat => .int (k : Nat)) := fun H0 A H sg R e q => h sg H e.view _ fun H' v s hv => by
  cases hv
  refine ⟨(n : Int), rfl, by omega, by omega, ?_⟩
  rw [Int.toNat_natCast]
  refine q (Itr 0 n) _ _ H' s (by rw [List.length_map, List.length_range]; exact walk_range) (fun _ _ _ => trivial) fun i H2 x H3 A2 hi s hd y => ?_
  obtain ⟨rfl, rfl⟩ := y
  rw [List.length_map, List.length_range] at hi
  refine ⟨Same.refl _, .int (i : Nat), by rw [List.getElem?_map, List.getElem?_range hi]; rfl, ?_⟩
  show Da K (Mask A2 H3) (.int (0 + (i : Int))) _
  rw [Int.zero_add]
  exact .int _
theorem it_rng2 {te tf : TE} {m n : Nat} (h : EvR K te (view r) (.int (m : Nat))) (h2 : EvR K tf (view r) (.int (n : Nat))) (l : m < 2 ^ 62) (l2 : n < 2 ^ 62) : ItM K S r (iRng2 (tCons te (tCons tf tNil))) ((List.range (n - m)).map fun k : Nat => .int ((m + k : Nat) : Int)) := fun H0 A H sg R e q => h sg H e.view _ fun H1 v s1 hv => h2 sg H1 (e.same s1).view _ fun H' v' s2 hv' => by
  cases hv
  cases hv'
  refine ⟨(m : Int), (n : Int), rfl, ⟨by omega, by omega, by omega, by omega⟩, ?_⟩
  have e1 : ((n : Int) - (m : Int)).toNat = n - m := by omega
  rw [e1]
  refine q (Itr m (n - m)) _ _ H' (s1.trans s2) (by rw [List.length_map, List.length_range]; exact walk_range) (fun _ _ _ => trivial) fun i H2 x H3 A2 hi s hd y => ?_
  obtain ⟨rfl, rfl⟩ := y
  rw [List.length_map, List.length_range] at hi
  refine ⟨Same.refl _, .int ((m + i : Nat) : Int), by rw [List.getElem?_map, List.getElem?_range hi]; rfl, ?_⟩
  show Da K (Mask A2 H3) (.int ((m : Int) + (i : Int))) _
  rw [show (m : Int) + (i : Int) = ((m + i : Nat) : Int) by omega]
  exact .int _
theorem hard_fresh {T : Addr} (hd : ∀ a ∈ A, Hard H a) (n : H T = none) : T ∉ A := fun h => by
  obtain ⟨o, h1, _⟩ := hd T h
  rw [n] at h1
  cases h1
theorem pair_mask {T : Addr} {x y : V} {d d' : PyData} (hd : ∀ a ∈ A, Hard H a) (n : H T = none) (h1 : Da K (Mask A H) x d) (h2 : Da K (Mask A H) y d') : Da K (Mask A (upd H T (.tup [x, y]))) (.ref T) (.tuple [d, d']) := by
  have s : Same (Mask A H) (Mask A (upd H T (.tup [x, y]))) := mask_mono (same_new n)
  refine .tup (SqT.of ?_) (.cons (Da.same s _ _ h1) (.cons (Da.same s _ _ h2) .nil)) (by show 2 ≤ 1000; decide)
  rw [mask_out (hard_fresh hd n)]
  exact upd_same
theorem it_enumT {te : TE} {ds : List PyData} (h : EvR K te (view r) (.tuple ds)) (f : flatAll ds = true) : ItM K S r (iJt K (tCons te tNil)) ((List.range ds.length).map fun k => .tuple [.int (k : Nat), ds.getD k .none]) := fun H0 A H sg R e q => h sg H e.view _ fun H' v s hv => by
  have e' := e.same s
  have hm := flat_mask e' hv (show flat (.tuple ds) = true from f)
  cases hm with
  | @tup a xs _ g1 g2 g3 =>
    have len := DaAll.len g2
    refine ⟨a, xs, rfl, sqT_same mask_same g1, q (Jte K a) _ _ H' s (by rw [List.length_map, List.length_range, ← len]; exact walk_jte (xs := xs)) (fun A2 H2 s => sqT_same (s.trans mask_same) g1) fun i H2 x H3 A2 hi s hd y => ?_⟩
    obtain ⟨T, u, z, rfl, nT, rfl, hu, hz⟩ := y
    cases hu
    rw [List.length_map, List.length_range] at hi
    obtain ⟨d, ed, hdd⟩ := DaAll.get g2 hz
    refine ⟨same_new nT, .tuple [.int (i : Nat), d], ?_, pair_mask hd nT (.int _) (Da.same s _ _ hdd)⟩
    rw [List.getElem?_map, List.getElem?_range hi, Option.map_some, List.getD_eq_getElem?_getD, ed]
    rfl
theorem it_enumL {te : TE} {ds : List PyData} (h : EvF K te (view r) ds) (f : flatAll ds = true) : ItM K S r (iEnum K (tCons te tNil)) ((List.range ds.length).map fun k => .tuple [.int (k : Nat), ds.getD k .none]) := fun H0 A H sg R e q => h sg H e.view _ fun H' a xs s na ha hv => by
  have len := DaAll.len hv
  have e' := e.same s
  have nA : a ∉ A := hard_fresh e.hard na
  have g2 := flatA_mask e' hv f
  have g1 : Mask A H' a = some (.lst xs) := by
    rw [mask_out nA]
    exact ha
  refine ⟨a, xs, rfl, SqL.of ha, q (Ite K a) _ _ H' s (by rw [List.length_map, List.length_range, ← len]; exact walk_enum (xs := xs)) (fun A2 H2 s => (s.trans mask_same).seq (SqL.of g1)) fun i H2 x H3 A2 hi s hd y => ?_⟩
  obtain ⟨T, u, z, rfl, nT, rfl, hu, hz⟩ := y
  cases hu
  rw [List.length_map, List.length_range] at hi
  obtain ⟨d, ed, hdd⟩ := DaAll.get g2 hz
  refine ⟨same_new nT, .tuple [.int (i : Nat), d], ?_, pair_mask hd nT (.int _) (Da.same s _ _ hdd)⟩
  rw [List.getElem?_map, List.getElem?_range hi, Option.map_some, List.getD_eq_getElem?_getD, ed]
  rfl
theorem it_str {te : TE} {x : Str} (h : EvR K te (view r) (.str x)) : ItM K S r (iStr te) (x.cps.toList.map fun c => .str ⟨#[c]⟩) := fun H0 A H sg R e q => h sg H e.view _ fun H' v s hv => by
  cases hv
  refine ⟨x, rfl, q (Its x) _ _ H' s (by rw [List.length_map, Array.length_toList]; exact walk_str) (fun _ _ _ => trivial) fun i H2 v H3 A2 hi s hd y => ?_⟩
  obtain ⟨rfl, c, ec, rfl⟩ := y
  refine ⟨Same.refl _, .str ⟨#[c]⟩, ?_, .str _ (by show 1 ≤ 1000; decide)⟩
  rw [List.getElem?_map, Array.getElem?_toList, ec]
  rfl
/-! ### draws -/
theorem ex_draw {i : Nat} {n many : Int} {tm : TE} (hi : r[i]? = some (.st n)) (hm : EvR K tm (view r) (.int many)) (m0 : 0 < many) (m1 : many < 2 ^ 20) (hn : n < 2 ^ 50) : ExM K S r (tCall spDraw [] E0 (tCons (tVar i) (tCons tm tNil))) (r.set i (.st (n + 1))) (fun d => ∃ k : Nat, d = .int (k : Nat) ∧ (k : Int) < many) := fun H0 A H sg Q e q => by
  obtain ⟨z, rfl, h1, hS, hc⟩ := e.at_ i _ hi
  refine ⟨.ref z.d, h1, hm sg H e.view _ fun H1 v s hv => ?_⟩
  cases hv
  have e1 := e.same s
  refine ⟨z.d, z.l, z.c, n, many, rfl, hS.same s, hn, m0, m1, fun H2 k b S2 k0 k1 => ?_⟩
  obtain ⟨e2, s2⟩ := e1.drawn hi b S2
  obtain ⟨k, rfl⟩ : ∃ k' : Nat, k = k' := ⟨k.toNat, by omega⟩
  exact q A H2 _ (.int (k : Nat)) ((mask_mono s).trans s2) e2 ⟨k, rfl, k1⟩ (.int _)
/-! ### the start -/
def HoldsL (K : PySem.W.Frag) (S : Option Sx) (A : List Addr) (H : Hp) : L2.St → List Sl → Prop
  | [], [] => True
  | x :: xs, s :: ss => Holds K S A H (some x) s ∧ HoldsL K S A H xs ss
  | _, _ => False
theorem HoldsL.at_ : ∀ {sg : L2.St} {r : List Sl}, HoldsL K S A H sg r → sg.length = r.length ∧ ∀ (i : Nat) s, r[i]? = some s → Holds K S A H sg[i]? s
  | [], [], _ => ⟨rfl, fun i s h => by simp at h⟩
  | x :: xs, s :: ss, h => by
    obtain ⟨h1, h2⟩ := h
    obtain ⟨l, g⟩ := HoldsL.at_ h2
    refine ⟨by simp [l], fun i s' hi => ?_⟩
    cases i with
    | zero =>
      simp at hi
      subst hi
      exact h1
    | succ i => simpa using g i s' (by simpa using hi)
  | [], _ :: _, h => h.elim
  | _ :: _, [], h => h.elim
def noOwn : List Sl → Prop
  | [] => True
  | .ow _ :: _ => False
  | .st _ :: _ => False
  | _ :: r => noOwn r
theorem noOwn_at : ∀ {r : List Sl}, noOwn r → ∀ (i : Nat) s, r[i]? = some s → (∀ ds, s ≠ .ow ds) ∧ ∀ n, s ≠ .st n
  | [], _, i, s, h => by simp at h
  | x :: r, h, i, s, hi => by
    cases i with
    | zero =>
      simp at hi
      subst hi
      cases x with
      | ow ds => exact h.elim
      | st n => exact h.elim
      | no => exact ⟨(fun _ z => by cases z), (fun _ z => by cases z)⟩
      | da d => exact ⟨(fun _ z => by cases z), (fun _ z => by cases z)⟩
      | ob p => exact ⟨(fun _ z => by cases z), (fun _ z => by cases z)⟩
    | succ i =>
      have h' : noOwn r := by
        cases x with
        | ow ds => exact h.elim
        | st n => exact h.elim
        | no => exact h
        | da d => exact h
        | ob p => exact h
      exact noOwn_at h' i s (by simpa using hi)
theorem env0 (h : HoldsL K none [] H sg r) (n : noOwn r) : EnvA K none H [] H sg r := by
  obtain ⟨l, g⟩ := h.at_
  exact ⟨l, fun a ha => (by cases ha), fun a ha => (by cases ha), fun a ha => (by cases ha), Same.refl _, g, fun i j ds es D ne h1 _ _ _ => ((noOwn_at n i _ h1).1 ds rfl).elim, fun i j a b ne h1 _ => ((noOwn_at n i _ h1).2 a rfl).elim⟩
theorem same_end (s : Same (Mask [] H) (Mask A H')) : Same H H' := by
  rw [mask_nil] at s
  exact s.trans mask_same
theorem hold_da {v : V} {d : PyData} (h : Da K H v d) : Holds K none [] H (some (some v)) (.da d) := ⟨v, rfl, by rw [mask_nil]; exact h⟩
/-- the body of a def that draws nothing -/
theorem bk_run {t : TS} {Q : VK} {N : Hp → Prop} (b : Bk K none r t P) (h : HoldsL K none [] H sg r) (n : noOwn r) (pc : ∀ r', ¬ P.ct r') (pb : ∀ r', ¬ P.bk r') (pn : ∀ r', P.nx r' → ∀ H', Same H H' → N H') (pr : ∀ x r', P.rt x r' → (match x with
    | .da d => ∀ H' v, Same H H' → Da K H' v d → Q v H'
    | .lst ds => ∀ H' D vs, Same H H' → H D = none → H' D = some (.lst vs) → DaAll K H' vs ds → Q (.ref D) H'
    | .ob p => ∀ H' v A, Same H H' → p (Mask A H') v → Q v H')) : t { nx := fun _ H' => N H', rt := Q } sg H := by
  refine b H [] H sg _ (env0 h n) ⟨fun A' H' sg' r' p s e => pn r' p H' (same_end s), fun A' H' sg' r' p _ _ => (pc r' p).elim, fun A' H' sg' r' p _ _ => (pb r' p).elim, fun A' H' sg' r' x v p s e q => ?_⟩
  · have k := pr x r' p
    cases x with
    | da d => exact k H' v (same_end s) (Da.same mask_same _ _ q)
    | lst ds =>
      obtain ⟨D, vs, rfl, h1, h2, h3, h4⟩ := q
      exact k H' D vs (same_end s) ((e.new D h1).resolve_left h2) h3 (DaAll.same mask_same _ _ h4)
    | ob p => exact k H' v A' (same_end s) q
end
end S1
namespace S1
open PySem PySem.Spec PyProof.Rows L2 Jv
/-! ### comprehensions, told by data alone -/
section
variable {K : PySem.W.Frag}
def ItR (K : PySem.W.Frag) (ρ : Rho) (wi : TI) (items : List PyData) : Prop := ∀ sg H (R : It → Hp → Prop), EnvD K H sg ρ →
  (∀ (J : It) (Gd : Hp → Prop) (Y : Nat → Hp → V → Hp → Prop) H', Same H H' → Walk J items.length Gd Y → (∀ H2, Same H' H2 → Gd H2) →
    (∀ i H2 x H3, i < items.length → Same H' H2 → Y i H2 x H3 → Same H2 H3 ∧ ∃ d, items[i]? = some d ∧ Da K H3 x d) → R J H') → wi sg H R
variable {ρ ρ' : Rho}
theorem itr_list {te : TE} {ds : List PyData} (h : EvR K te ρ (.list ds)) : ItR K ρ (iList K te) ds := fun sg H R en q => h sg H en _ fun H' v s hv => by
  cases hv with
  | @lst a xs _ g1 g2 g3 =>
    have len := DaAll.len g2
    refine ⟨a, rfl, ⟨xs, g1⟩, q (Itl K a) _ (YAt xs) H' s (len ▸ walk_list (xs := xs)) (fun H2 s => s.seq g1) fun i H2 x H3 hi s y => ?_⟩
    obtain ⟨rfl, ex⟩ := y
    obtain ⟨d, ed, hdd⟩ := DaAll.get g2 ex
    exact ⟨Same.refl _, d, ed, Da.same s _ _ hdd⟩
theorem itr_tup {te : TE} {ds : List PyData} (h : EvR K te ρ (.tuple ds)) : ItR K ρ (iTup K te) ds := fun sg H R en q => h sg H en _ fun H' v s hv => by
  cases hv with
  | @tup a xs _ g1 g2 g3 =>
    have len := DaAll.len g2
    refine ⟨a, rfl, ⟨xs, g1⟩, q (Itt K a) _ (YAt xs) H' s (len ▸ walk_tup (xs := xs)) (fun H2 s => sqT_same s g1) fun i H2 x H3 hi s y => ?_⟩
    obtain ⟨rfl, ex⟩ := y
    obtain ⟨d, ed, hdd⟩ := DaAll.get g2 ex
    exact ⟨Same.refl _, d, ed, Da.same s _ _ hdd⟩
theorem itr_rng {te : TE} {n : Nat} (h : EvR K te ρ (.int (n : Nat))) (l : n < 2 ^ 62) : ItR K ρ (iRng1 (tCons te tNil)) ((List.range n).map fun k : Nat => .int (k : Nat)) := fun sg H R en q => h sg H en _ fun H' v s hv => by
  cases hv
  refine ⟨(n : Int), rfl, by omega, by omega, ?_⟩
  rw [Int.toNat_natCast]
  refine q (Itr 0 n) _ _ H' s (by rw [List.length_map, List.length_range]; exact walk_range) (fun _ _ => trivial) fun i H2 x H3 hi s y => ?_
  obtain ⟨rfl, rfl⟩ := y
  rw [List.length_map, List.length_range] at hi
  refine ⟨Same.refl _, .int (i : Nat), by rw [List.getElem?_map, List.getElem?_range hi]; rfl, ?_⟩
  show Da K H3 (.int (0 + (i : Int))) _
  rw [Int.zero_add]
  exact .int _
theorem itr_str {te : TE} {x : Str} (h : EvR K te ρ (.str x)) : ItR K ρ (iStr te) (x.cps.toList.map fun c => .str ⟨#[c]⟩) := fun sg H R en q => h sg H en _ fun H' v s hv => by
  cases hv
  refine ⟨x, rfl, q (Its x) _ _ H' s (by rw [List.length_map, Array.length_toList]; exact walk_str) (fun _ _ => trivial) fun i H2 v H3 hi s y => ?_⟩
  obtain ⟨rfl, c, ec, rfl⟩ := y
  refine ⟨Same.refl _, .str ⟨#[c]⟩, ?_, .str _ (by show 1 ≤ 1000; decide)⟩
  rw [List.getElem?_map, Array.getElem?_toList, ec]
  rfl
def wipeR (ρ : Rho) : List Nat → Rho
  | [] => ρ
  | v :: vs => (wipeR ρ vs).set v none
theorem envD_wipe {H : Hp} {sg : L2.St} (e : EnvD K H sg ρ) : ∀ vs : List Nat, EnvD K H (wipe sg vs) (wipeR ρ vs)
  | [] => e
  | v :: vs => by
    have h := envD_wipe e vs
    refine ⟨fun i d q => ?_, by show ((L2.wipe sg vs).set v none).length = ((wipeR ρ vs).set v none).length; rw [List.length_set, List.length_set, h.len]⟩
    have q : ((wipeR ρ vs).set v none)[i]? = some (some d) := q
    show ∃ x, ((L2.wipe sg vs).set v none)[i]? = some (some x) ∧ _
    by_cases z : v = i
    · subst z
      rw [List.getElem?_set] at q
      split at q
      · split at q <;> cases q
      · exact absurd rfl ‹_›
    · rw [List.getElem?_set_ne z] at q ⊢
      exact h.at_ i d q
theorem wipe_set {sg : L2.St} {j : Nat} {x : Option V} : ∀ {vs : List Nat}, j ∈ vs → wipe (sg.set j x) vs = wipe sg vs
  | v :: vs, h => by
    show ((wipe (sg.set j x) vs).set v none) = ((wipe sg vs).set v none)
    by_cases z : j ∈ vs
    · rw [wipe_set z]
    · have e : j = v := (List.mem_cons.mp h).resolve_right z
      subst e
      have out : ∀ {us : List Nat} {s : L2.St}, j ∉ us → wipe (s.set j x) us = (wipe s us).set j x := by
        intro us
        induction us with
        | nil => intro s _; rfl
        | cons u us ih =>
          intro s hu
          show (wipe (s.set j x) us).set u none = ((wipe s us).set u none).set j x
          have nu : j ≠ u := fun q => hu (by rw [q]; exact List.mem_cons_self)
          rw [ih fun q => hu (List.mem_cons_of_mem _ q), List.set_comm _ _ nu]
      rw [out z, List.set_set]
theorem wipe_wipe {sg : L2.St} : ∀ {us vs : List Nat}, (∀ u ∈ us, u ∈ vs) → wipe (wipe sg us) vs = wipe sg vs
  | [], _, _ => rfl
  | u :: us, vs, h => by
    show wipe ((wipe sg us).set u none) vs = wipe sg vs
    rw [wipe_set (h u List.mem_cons_self), wipe_wipe fun x hx => h x (List.mem_cons_of_mem _ hx)]
/-- a target within a comprehension -/
def TgE (K : PySem.W.Frag) (vs : List Nat) (ρ : Rho) (g : TG) (d : PyData) (ρ' : Rho) : Prop := ∀ sg H v (Q : L2.St → Hp → Prop), EnvD K H sg ρ → Da K H v d → (∀ s2, EnvD K H s2 ρ' → wipe s2 vs = wipe sg vs → Q s2 H) → g v sg H Q
def TgsE (K : PySem.W.Frag) (vs : List Nat) (ρ : Rho) (g : TGs) (ds : List PyData) (ρ' : Rho) : Prop := ∀ sg H us (Q : L2.St → Hp → Prop), EnvD K H sg ρ → DaAll K H us ds → (∀ s2, EnvD K H s2 ρ' → wipe s2 vs = wipe sg vs → Q s2 H) → g us sg H Q
theorem te_name {vs : List Nat} {j : Nat} {d : PyData} (h : j ∈ vs) : TgE K vs ρ (gName j) d (ρ.set j (some d)) := fun sg H v Q en hv q => q _ (en.set j hv) (wipe_set h)
theorem tes_nil {vs : List Nat} : TgsE K vs ρ gNil [] ρ := fun sg H us Q en hv q => by
  have := da_nil hv
  subst this
  exact ⟨rfl, q _ en rfl⟩
theorem tes_cons {vs : List Nat} {ρ2 : Rho} {g : TG} {gs : TGs} {d : PyData} {ds : List PyData} (h : TgE K vs ρ g d ρ2) (k : TgsE K vs ρ2 gs ds ρ') : TgsE K vs ρ (gCons g gs) (d :: ds) ρ' := fun sg H us Q en hv q => by
  obtain ⟨x, rs, rfl, p1, p2⟩ := da_cons hv
  exact ⟨x, rs, rfl, h sg H x _ en p1 fun s2 e2 w2 => k s2 H rs _ e2 p2 fun s3 e3 w3 => q s3 e3 (w3.trans w2)⟩
theorem te_tup {vs : List Nat} {gs : TGs} {ds : List PyData} {n : Nat} (k : TgsE K vs ρ gs ds ρ') (hn : ds.length = n) : TgE K vs ρ (gTup K n gs) (.tuple ds) ρ' := fun sg H v Q en hv q => by
  cases hv with
  | tup h1 h2 hz => exact ⟨_, _, rfl, h1, (DaAll.len h2).trans hn, k sg H _ Q en h2 q⟩
/-- [c for a in bs if p] -/
theorem evf_lc {β : Type} {wi : TI} {g : TG} {tt : TT} {te : TE} {vs : List Nat} (bs : List β) (a c : β → PyData) (p : β → Bool) (hi : ItR K ρ wi (bs.map a)) (l : bs.length ≤ 100000)
    (step : ∀ b ∈ bs, ∃ ρ2, TgE K vs (wipeR ρ vs) g (a b) ρ2 ∧ EvT K tt ρ2 (p b) ∧ (p b = true → EvR K te ρ2 (c b) ∧ flat (c b) = true)) : EvF K (tLc wi g tt te vs) ρ ((bs.filter p).map c) := fun sg H en Q q => by
  refine hi sg H _ en fun J Gd Y H1 s1 wk hG hY D nD => ?_
  have sD : ∀ {H : Hp} {o : HO}, Same H1 H → Same H1 (upd H D o) := fun {H o} s b u e => by
    rw [upd_ne (ne_of_none e nD)]
    exact s b u e
  have fl : ∀ n, flatAll (((bs.take n).filter p).map c) = true := fun n => flatAll_of fun x hx => by
    obtain ⟨b, hb, rfl⟩ := List.mem_map.mp hx
    obtain ⟨hb1, hb2⟩ := List.mem_filter.mp hb
    obtain ⟨_, _, _, h⟩ := step b (List.mem_of_mem_take hb1)
    exact (h hb2).2
  have nD0 : H D = none := by
    cases z : H D with
    | none => rfl
    | some o =>
      rw [s1 _ _ z] at nD
      cases nD
  have ln : (bs.map a).length = bs.length := List.length_map _
  refine lc_it wk (fun i H2 => Same H1 H2 ∧ ∃ acc, H2 D = some (.lst acc) ∧ DaAll K H2 acc (((bs.take i).filter p).map c)) ⟨sD (Same.refl _), [], upd_same, .nil⟩ (fun i H2 _ g => hG H2 g.1) (fun i x H2 H3 hlt g2 y => ?_) (fun H2 g2 => ?_)
  · obtain ⟨s2, acc, hD, hacc⟩ := g2
    obtain ⟨s3, d, ed, hd⟩ := hY i H2 x H3 hlt s2 y
    rw [List.getElem?_map] at ed
    obtain ⟨b, eb, rfl⟩ := Option.map_eq_some_iff.mp ed
    obtain ⟨ρ2, htg, ht, he⟩ := step b (List.mem_of_getElem? eb)
    have en3 : EnvD K H3 sg ρ := (en.same s1).same (s2.trans s3)
    have snoc : (bs.take (i + 1)).filter p = (bs.take i).filter p ++ (if p b = true then [b] else []) := by
      rw [List.take_add_one, eb, List.filter_append]
      congr 1
      show List.filter p [b] = _
      rw [List.filter_cons]
      rfl
    refine htg _ H3 x _ (envD_wipe en3 vs) hd fun σ4 en4 w4 => ⟨w4.trans (wipe_wipe fun u hu => hu), ht σ4 H3 en4 _ fun H4 s4 => ?_⟩
    have s14 := (s2.trans s3).trans s4
    have hD4 := s4 _ _ (s3 _ _ hD)
    cases pb : p b with
    | false =>
      rw [pb] at snoc
      refine iteF ⟨s14, acc, hD4, ?_⟩
      rw [snoc]
      simp only [Bool.false_eq_true, if_false, List.append_nil]
      exact DaAll.same (s3.trans s4) _ _ hacc
    | true =>
      rw [pb, if_pos rfl] at snoc
      obtain ⟨ev, fc⟩ := he pb
      refine iteT (ev σ4 H4 (en4.same s4) _ fun H5 v s5 hv => ⟨acc, s5 _ _ hD4, ?_, sD (s14.trans s5), acc ++ [v], upd_same, ?_⟩)
      · rw [DaAll.len hacc, List.length_map]
        refine Nat.lt_of_le_of_lt (List.length_filter_le _ _) ?_
        rw [List.length_take]
        exact Nat.lt_of_le_of_lt (show min i bs.length ≤ 100000 by omega) (by decide)
      · have up : TupS H5 (upd H5 D (.lst (acc ++ [v]))) := tupS_mut (s5 _ _ hD4) (fun _ z => by cases z) fun _ _ z => by cases z
        rw [snoc, List.map_append]
        exact DaAll.app (DaAll.tupS up _ _ (fl i) (DaAll.same ((s3.trans s4).trans s5) _ _ hacc)) (.cons (Da.tupS up _ _ fc hv) .nil)
  · obtain ⟨s2, acc, hD, hacc⟩ := g2
    rw [ln, List.take_length] at hacc
    exact q H2 D acc (s1.trans s2) nD0 hD hacc
theorem evt_yes : EvT K tYes ρ true := fun sg H en Q q => q H (Same.refl H)
theorem evf_lst {u : TA} {ds : List PyData} (h : EvA K u ρ ds) (l : ds.length ≤ 1000) : EvF K (tLst u) ρ ds := fun sg H e Q q =>
  h sg H e _ fun H1 vs s1 hvs => ⟨by rw [DaAll.len hvs]; exact Nat.le_trans l (by decide), fun p np => q _ p vs (s1.trans (Jv.same_new np)) (by
    cases z : H p with
    | none => rfl
    | some o =>
      rw [s1 _ _ z] at np
      cases np) upd_same (DaAll.same (Jv.same_new np) _ _ hvs)⟩
theorem evt_and {t u : TT} {b c : Bool} (h : EvT K t ρ b) (g : b = true → EvT K u ρ c) (hc : b = false → c = false) : EvT K (tAnd t u) ρ c := fun sg H e Q q => h sg H e _ fun H1 s1 => by
  cases b with
  | true => exact iteT (g rfl sg H1 (e.same s1) _ fun H2 s2 => q H2 (s1.trans s2))
  | false =>
    rw [hc rfl] at q
    exact iteF (q H1 s1)
theorem evt_orB {t u : TT} {b c : Bool} (h : EvT K t ρ b) (g : b = false → EvT K u ρ c) (hc : b = true → c = true) : EvT K (tOr t u) ρ c := fun sg H e Q q => h sg H e _ fun H1 s1 => by
  cases b with
  | false => exact iteF (g rfl sg H1 (e.same s1) _ fun H2 s2 => q H2 (s1.trans s2))
  | true =>
    rw [hc rfl] at q
    exact iteT (q H1 s1)
end
/-! ### new lists -/
section
variable {K : PySem.W.Frag} {S : Option Sx} {r r1 r2 : List Sl} {P : Po}
def NwM (K : PySem.W.Frag) (S : Option Sx) (r : List Sl) (t : TE) (ds : List PyData) : Prop := ∀ H0 A H sg (Q : VK), EnvA K S H0 A H sg r → (∀ H' a vs, Same H H' → H a = none → H' a = some (.lst vs) → DaAll K (Mask (a :: A) H') vs ds → Q (.ref a) H') → t sg H Q
def LvM (K : PySem.W.Frag) (S : Option Sx) (r : List Sl) (t : TE) (ds : List PyData) : Prop := ∀ H0 A H sg (Q : VK), EnvA K S H0 A H sg r → (∀ H' a vs, Same H H' → H' a = some (.lst vs) → DaAll K (Mask A H') vs ds → Q (.ref a) H') → t sg H Q
theorem mask_in {A : List Addr} {H : Hp} {b : Addr} {o : HO} (h : Mask A H b = some o) : b ∉ A ∧ H b = some o := by
  unfold Mask at h
  split at h
  · cases h
  · exact ⟨‹_›, h⟩
theorem mask_less {A : List Addr} {H : Hp} {a : Addr} : Same (Mask (a :: A) H) (Mask A H) := fun b o h => by
  obtain ⟨h1, h2⟩ := mask_in h
  rw [mask_out fun z => h1 (List.mem_cons_of_mem _ z)]
  exact h2
/-- a thing that is made new is nobody else's -/
theorem mask_more {A : List Addr} {H H' : Hp} {a : Addr} (s : Same H H') (na : H a = none) : Same (Mask A H) (Mask (a :: A) H') := fun b o h => by
  obtain ⟨h1, h2⟩ := mask_in h
  rw [mask_out fun z => (List.mem_cons.mp z).elim (fun q => by rw [q, na] at h2; cases h2) h1]
  exact s _ _ h2
theorem nw_ev {t : TE} {ds : List PyData} (h : EvF K t (view r) ds) (f : flatAll ds = true) : NwM K S r t ds := fun H0 A H sg Q e q => h sg H e.view Q fun H' a vs s na ha hv => q H' a vs s na ha (DaAll.tupS (mask_tupS fun b hb => by
    rcases List.mem_cons.mp hb with rfl | hb
    · exact ⟨_, ha, (fun _ z => by cases z), fun _ _ z => by cases z⟩
    · exact (e.hard b hb).same s) _ _ f hv)
theorem lv_nw {t : TE} {ds : List PyData} (h : NwM K S r t ds) : LvM K S r t ds := fun H0 A H sg Q e q => h H0 A H sg Q e fun H' a vs s _ ha hv => q H' a vs s ha (DaAll.same mask_less _ _ hv)
theorem lv_var {i : Nat} {ds : List PyData} (h : r[i]? = some (.ow ds)) : LvM K S r (tVar i) ds := fun H0 A H sg Q e q => by
  obtain ⟨a, vs, h1, h2, h3, h4, h5⟩ := e.at_ i _ h
  exact ⟨.ref a, h1, q H a vs (Same.refl H) h4 h5⟩
theorem none_of {H H' : Hp} {p : Addr} (s : Same H H') (n : H' p = none) : H p = none := by
  cases z : H p with
  | none => rfl
  | some o =>
    rw [s _ _ z] at n
    cases n
theorem nw_cat {t u : TE} {as bs : List PyData} (h : LvM K S r t as) (g : LvM K S r u bs) (l : as.length + bs.length ≤ 100000) : NwM K S r (tOp rCat t u) (as ++ bs) := fun H0 A H sg Q e q =>
  h H0 A H sg _ e fun H1 a vs s1 ha hv => g H0 A H1 sg _ (e.same s1) fun H2 b ws s2 hb hw => ⟨a, b, vs, ws, rfl, rfl, s2 _ _ ha, hb, by rw [DaAll.len hv, DaAll.len hw]; exact Nat.le_trans l (by decide), fun p np => by
    have s3 := Jv.same_new (o := HO.lst (vs ++ ws)) np
    exact q _ p _ ((s1.trans s2).trans s3) (none_of (s1.trans s2) np) upd_same (DaAll.app (DaAll.same ((mask_mono s2).trans (mask_more s3 np)) _ _ hv) (DaAll.same (mask_more s3 np) _ _ hw))⟩
theorem EnvA.newly {H0 H H' : Hp} {A : List Addr} {sg : L2.St} {a : Addr} {vs : List V} {i : Nat} {ds : List PyData} (e : EnvA K S H0 A H sg r) (s : Same H H') (na : H a = none) (ha : H' a = some (.lst vs)) (hv : DaAll K (Mask (a :: A) H') vs ds) :
    EnvA K S H0 (a :: A) H' (sg.set i (some (.ref a))) (r.set i (.ow ds)) ∧ Same (Mask A H) (Mask (a :: A) H') :=
  ⟨e.own s na ha (DaAll.same mask_less _ _ hv) (.inr hv), mask_more s na⟩
theorem st_nw {te : TE} {i : Nat} {ds : List PyData} (h : NwM K S r te ds) : StepM K S r (tAsg te (gName i)) (r.set i (.ow ds)) := fun H0 A H sg D e q => h H0 A H sg _ e fun H' a vs s na ha hv => by
  obtain ⟨e', b⟩ := e.newly (i := i) s na ha hv
  exact q _ H' _ b e'
theorem bk_retNw {te : TE} {ds : List PyData} (h : NwM K S r te ds) (p : ∀ i, i ∉ List.range r.length → True) (pr : P.rt (.lst ds) r) : Bk K S r (tRet te) P := fun H0 A H sg D e gv => h H0 A H sg _ e fun H' a vs s na ha hv => by
  obtain ⟨e', b⟩ := e.newly (i := r.length) s na ha hv
  rw [List.set_eq_of_length_le (by rw [e.len]; exact Nat.le_refl _), List.set_eq_of_length_le (Nat.le_refl _)] at e'
  have nA := hard_fresh e.hard na
  exact gv.rt _ H' sg r _ _ pr b e' ⟨a, vs, rfl, List.mem_cons_self, fun z => nA (e.base a z), ha, hv⟩
/-- one's own list goes over into another slot, and its own slot is forgotten -/
theorem EnvA.move {H0 H : Hp} {A : List Addr} {sg : L2.St} {i j : Nat} {ds : List PyData} {x : Option V} (e : EnvA K S H0 A H sg r) (hi : r[i]? = some (.ow ds)) (hx : sg[i]? = some x) (n : i ≠ j) : EnvA K S H0 A H (sg.set j x) ((r.set i .no).set j (.ow ds)) := by
  have hl : i < r.length := (List.getElem?_eq_some_iff.mp hi).1
  have look : ∀ {c : Nat} {s : Sl}, ((r.set i .no).set j (.ow ds))[c]? = some s → (j = c ∧ s = .ow ds) ∨ (j ≠ c ∧ ((i = c ∧ s = .no) ∨ (i ≠ c ∧ r[c]? = some s))) := fun {c s} h => by
    by_cases z : j = c
    · subst z
      rw [List.getElem?_set] at h
      simp only [if_true] at h
      split at h
      · exact .inl ⟨rfl, (Option.some.inj h).symm⟩
      · cases h
    · rw [List.getElem?_set_ne z] at h
      by_cases y : i = c
      · subst y
        rw [List.getElem?_set_self hl] at h
        exact .inr ⟨z, .inl ⟨rfl, (Option.some.inj h).symm⟩⟩
      · rw [List.getElem?_set_ne y] at h
        exact .inr ⟨z, .inr ⟨y, h⟩⟩
  have at_j : ∀ {s : Sl}, ((r.set i .no).set j (.ow ds))[j]? = some s → (sg.set j x)[j]? = some x := fun {s} h => by
    have hj := (List.getElem?_eq_some_iff.mp h).1
    rw [List.length_set, List.length_set] at hj
    exact List.getElem?_set_self (by rw [e.len]; exact hj)
  refine ⟨by rw [List.length_set, List.length_set, List.length_set, e.len], e.base, e.new, e.hard, e.fr, fun c s h => ?_, fun c c' es fs D ne h1 h2 g1 g2 => ?_, fun c c' n m ne h1 h2 => ?_⟩
  · rcases look h with ⟨rfl, rfl⟩ | ⟨nj, ⟨rfl, rfl⟩ | ⟨ni, hc⟩⟩
    · rw [at_j h, ← hx]
      exact e.at_ i _ hi
    · trivial
    · rw [List.getElem?_set_ne nj]
      exact e.at_ c s hc
  · rcases look h1 with ⟨rfl, q1⟩ | ⟨nj, ⟨_, q1⟩ | ⟨ni, hc⟩⟩
    · rw [at_j h1] at g1
      rcases look h2 with ⟨rfl, q2⟩ | ⟨nj2, ⟨_, q2⟩ | ⟨ni2, hc2⟩⟩
      · exact ne rfl
      · cases q2
      · rw [List.getElem?_set_ne nj2] at g2
        exact e.two i c' _ _ D ni2 hi hc2 (hx.trans g1) g2
    · cases q1
    · rw [List.getElem?_set_ne nj] at g1
      rcases look h2 with ⟨rfl, q2⟩ | ⟨nj2, ⟨_, q2⟩ | ⟨ni2, hc2⟩⟩
      · rw [at_j h2] at g2
        exact e.two i c _ _ D ni hi hc (hx.trans g2) g1
      · cases q2
      · rw [List.getElem?_set_ne nj2] at g2
        exact e.two c c' _ _ D ne hc hc2 g1 g2
  · rcases look h1 with ⟨_, q⟩ | ⟨_, ⟨_, q⟩ | ⟨_, hc⟩⟩
    · cases q
    · cases q
    · rcases look h2 with ⟨_, q⟩ | ⟨_, ⟨_, q⟩ | ⟨_, hc2⟩⟩
      · cases q
      · cases q
      · exact e.one c c' _ _ ne hc hc2
theorem st_move {i j : Nat} {ds : List PyData} (hi : r[i]? = some (.ow ds)) (n : i ≠ j) : StepM K S r (tAsg (tVar i) (gName j)) ((r.set i .no).set j (.ow ds)) := fun H0 A H sg D e q => by
  obtain ⟨a, vs, h1, h2⟩ := e.at_ i _ hi
  exact ⟨.ref a, h1, q A H _ (Same.refl _) (e.move hi h1 n)⟩
/-- x, y = [..], [..] -/
theorem st_parNN {i j : Nat} {t u : TE} {as bs : List PyData} (h : NwM K S r t as) (g : NwM K S r u bs) (f : flatAll bs = true) (hij : i ≠ j) : StepM K S r (tPar i j (tCons t (tCons u tNil))) ((r.set i (.ow as)).set j (.ow bs)) := fun H0 A H sg D e q =>
  h H0 A H sg _ e fun H1 a vs s1 na ha hv => g H0 A H1 sg _ (e.same s1) fun H2 b ws s2 nb hb hw => by
    have nb0 := none_of s1 nb
    refine ⟨_, _, rfl, ?_⟩
    have e1 : EnvA K S H0 (a :: A) H2 (sg.set i (some (.ref a))) (r.set i (.ow as)) := (e.newly (i := i) s1 na ha hv).1.same s2
    have e0 : EnvA K S H0 (a :: A) H1 (sg.set i (some (.ref a))) (r.set i (.ow as)) := (e.newly (i := i) s1 na ha hv).1
    have k : DaAll K (Mask (b :: a :: A) H2) ws bs := by
      refine DaAll.tupS (TupS.trans (Same.tupS mask_same) (mask_tupS fun c hc => ?_)) _ _ f hw
      rcases List.mem_cons.mp hc with rfl | hc
      · exact ⟨_, hb, (fun _ z => by cases z), fun _ _ z => by cases z⟩
      · exact e1.hard c hc
    obtain ⟨e2, b2⟩ := e0.newly (i := j) s2 nb hb k
    exact q _ H2 _ ((mask_more s1 na).trans b2) e2
/-- last, found = longer, found + longer -/
theorem st_parMN {i j k : Nat} {u : TE} {as bs : List PyData} (hk : r[k]? = some (.ow as)) (g : NwM K S r u bs) (nk : k ≠ i) (hij : i ≠ j) : StepM K S r (tPar i j (tCons (tVar k) (tCons u tNil))) (((r.set k .no).set i (.ow as)).set j (.ow bs)) := fun H0 A H sg D e q => by
  obtain ⟨a, vs, h1, h2⟩ := e.at_ k _ hk
  refine ⟨.ref a, h1, g H0 A H sg _ e fun H2 b ws s2 nb hb hw => ⟨_, _, rfl, ?_⟩⟩
  obtain ⟨e2, b2⟩ := (e.move hk h1 nk).newly (i := j) s2 nb hb hw
  exact q _ H2 _ b2 e2
theorem st_ext {te : TE} {i : Nat} {ds es : List PyData} (hi : r[i]? = some (.ow ds)) (h : NwM K S r te es) (l : ds.length + es.length ≤ 100000) : StepM K S r (tDrop (tBM K "list" rExtend (tVar i) (tCons te tNil))) (r.set i (.ow (ds ++ es))) := fun H0 A H sg D e q => by
  obtain ⟨a, vs, h1, h2, h3, h4, h5⟩ := e.at_ i _ hi
  refine ⟨.ref a, h1, Or.inl ⟨rfl, vs, SqL.of h4⟩, h H0 A H sg _ e fun H' b ws s nb hb hw => ⟨a, b, vs, ws, rfl, rfl, s _ _ h4, hb, ?_, ?_⟩⟩
  · rw [DaAll.len h5, DaAll.len hw]
    exact Nat.le_trans l (by decide)
  · exact q A _ sg ((mask_mono s).trans (mut_big h2)) ((e.same s).mut hi h1 (DaAll.app (DaAll.same (mask_mono s) _ _ h5) (DaAll.same mask_less _ _ hw)))
end
end S1
/-! y = {k: v for .. in ..}, k a key: stored within the comprehension's frame -/
namespace Jv
open PySem PySem.Spec PyProof.Rows L2
section
variable {X : Cx}
theorem dc_core {pn : List (Addr × Obj)} {s : Shared} {sg : L2.St} {H : Hp} {Q : VK} {kx vx tg it : Expr} {cs : List Expr} {sc : Scope} {own : List (Str × Nat)} {pos pos' : Pos} {wi : TI} {g : TG} {tt : TT} {tk tv : TE} {use : Option (Value → Sem Unit)} {Qf : Value → Shared → Prop} (hc : X.calm = true) (hu : X.A.units + 9 < cLine) (nd : X.N.Nodup) (hi : PI X tg it wi) (ok : BlkOk X.N X.env.scope sc own)
    (hg : ∀ (s : Shared) (H : Hp) (C : Addr) (cl : List (Str × Addr)) (fp : List Addr), PG (X.blk s H sc (compEnvC sc cl C X.env) fp) tg g) (ht : ∀ (s : Shared) (H : Hp) (C : Addr) (cl : List (Str × Addr)) (fp : List Addr), PTs (X.blk s H sc (compEnvC sc cl C X.env) fp) cs tt)
    (hk : ∀ (s : Shared) (H : Hp) (C : Addr) (cl : List (Str × Addr)) (fp : List Addr), PE (X.blk s H sc (compEnvC sc cl C X.env) fp) kx tk) (hv : ∀ (s : Shared) (H : Hp) (C : Addr) (cl : List (Str × Addr)) (fp : List Addr), PE (X.blk s H sc (compEnvC sc cl C X.env) fp) vx tv)
    (hs : ∀ x, foldedSetIterable it X.env x = pure x) (I : Inv X pn sg H s) (h : tDcN X.K X.prog X.w wi g tt tk tv (own.map (·.2)) sg H Q)
    (last : ∀ D C s' m H', Inv X pn sg H' s' → Q (.ref D) H' → s'.heap.Ns C m → FpOk X pn H' C → compPost (model X.prog X.w) X.A X.xe use Qf (.ref D) C (.ok .next) s') :
    wpAny (model X.prog X.w) X.A (comprehension (.DictComp kx vx [⟨tg, it, cs, 0⟩] sc pos) sc X.env pos' (newObj (.type "dict") (.dict #[])) false (eval it X.env) use) Qf X.xe s := by
  have clo : ∀ y ∈ sc.names, y.2 = .free → ∃ c, X.env.cells.lookup y.1 = some c := fun y hy e => (ok.free y hy e).elim (fun z => I.ok.has _ (.inl z)) fun z => I.ok.has _ (.inr z)
  refine wpAny_comprehension_free (use := use) rfl hs (closure_ok clo) ok.kind (fun y hy e => by rw [ok.uniq y hy, e]) (thn (hi.run pn s sg H _ I h) fun xv s1 hx => thn hx fun iv s2 h2 => ?_)
  obtain ⟨ia, fp, tn, J, H2, rfl, I2, T, st2, f2, q⟩ := h2
  refine wpAny_newObj_type (newEnv_comp ?_)
  -- the new dict, at D
  generalize eD : s2.heap.objs.size = D
  have nD : H2 D = none := I2.hok.fresh (Nat.le_of_eq eD)
  obtain ⟨W, ⟨m0, w0⟩, turn⟩ := q D nD
  generalize e3 : ({ s2 with heap := s2.heap.push { cls := .type "dict", data := .dict #[] } } : Shared) = s3
  have hp3 : s3.heap = s2.heap.push { cls := .type "dict", data := .dict #[] } := by rw [← e3]
  have I3 : Inv X pn sg (upd H2 D (NdO X.prog X.w D [])) s3 := by
    rw [← e3]
    refine I2.laid (t' := s2.toks) (fun b o e => Heap.get?_push_of_some _ e) (Nat.le_of_eq eD) (ndO_ok (Nat.zero_le _) ?_ (by rw [← eD]; exact Heap.DictOfH.new s2.heap))
    rw [← eD]
    exact beq_eq_false_iff_ne.mpr (Ne.symm (Nat.ne_of_lt I2.big))
  have low : ∀ b ∈ fp, b < s2.heap.objs.size := fun b hb => let ⟨o, e, _⟩ := T.obj _ _ st2 b hb; Heap.lt_size e
  have f3 : ∀ b ∈ fp, FpOk X pn (upd H2 D (NdO X.prog X.w D [])) b ∧ b < s3.heap.objs.size := fun b hb => by
    have lt := low b hb
    have ne : b ≠ D := by
      rw [← eD]
      exact Nat.ne_of_lt lt
    exact ⟨⟨by rw [upd_ne ne]; exact (f2 b hb).1, (f2 b hb).2⟩, by rw [hp3, Heap.size_push]; exact Nat.lt_succ_of_lt lt⟩
  have st3 : tn 0 s3.heap := T.keep _ _ _ st2 fun b _ o e => by rw [hp3]; exact Heap.get?_push_of_some _ e
  generalize eH : upd H2 D (NdO X.prog X.w D []) = H3 at I3 w0 f3
  have I4 := block_start I3 ok nd f3
  have pg := hg s3 H3 s3.heap.objs.size (cellsFrom (s3.heap.objs.size + 1) sc.names (cloFrom X.env.cells sc.names [])) fp
  have pt := ht s3 H3 s3.heap.objs.size (cellsFrom (s3.heap.objs.size + 1) sc.names (cloFrom X.env.cells sc.names [])) fp
  have pk := hk s3 H3 s3.heap.objs.size (cellsFrom (s3.heap.objs.size + 1) sc.names (cloFrom X.env.cells sc.names [])) fp
  have pv := hv s3 H3 s3.heap.objs.size (cellsFrom (s3.heap.objs.size + 1) sc.names (cloFrom X.env.cells sc.names [])) fp
  show codeAny _ _ (.compStart (.DictComp kx vx [⟨tg, it, cs, 0⟩] sc pos) 0 (.ref ia) (.ref D) (compEnvC sc (cellsFrom (s3.heap.objs.size + 1) sc.names (cloFrom X.env.cells sc.names [])) s3.heap.objs.size X.env))
    (compPost (model X.prog X.w) X.A X.xe use Qf (.ref D) s3.heap.objs.size) { s3 with heap := pushCells (s3.heap.push { cls := .type "dict", data := .dict #[] }) sc.names }
  have nf : ∀ b ∈ fp, H3 b = none := fun b hb => (f3 b hb).1.1
  generalize ec : compEnvC sc (cellsFrom (s3.heap.objs.size + 1) sc.names (cloFrom X.env.cells sc.names [])) s3.heap.objs.size X.env = ce at I4 pg pt pk pv ⊢
  have cl : ce.locals = s3.heap.objs.size := by
    rw [← ec]
    rfl
  generalize e4 : ({ s3 with heap := pushCells (s3.heap.push { cls := .type "dict", data := .dict #[] }) sc.names } : Shared) = s4 at I4 ⊢
  have st4 : tn 0 s4.heap := T.keep _ _ _ st3 fun b _ o e => by
    rw [← e4]
    exact pushCells_keeps _ _ _ _ (Heap.get?_push_of_some _ e)
  have fo : ∀ {sg' : L2.St} {H' : Hp} {s' : Shared}, Inv (X.blk s3 H3 sc ce fp) [] sg' H' s' → (∀ b ∈ fp, H' b = none) → ∀ b ∈ fp, FpOk (X.blk s3 H3 sc ce fp) [] H' b := fun {sg' H' s'} I' hn b hb =>
    ⟨hn b hb, (I'.ok.exf b hb).1, I'.ok.exfs b hb, .inl hb, (I'.ok.exf b hb).2, fun p hp => absurd hp (by simp)⟩
  refine codeAny_compStart_dict ?_ (T.self X.A 0 _ _ _ st4 ?_) <;>
  refine compLoop_anyD (fun n s' => ∃ i H', Inv (X.blk s3 H3 sc ce fp) [] (wipe sg (own.map (·.2))) H' s' ∧ tn i s'.heap ∧ (∀ b ∈ fp, H' b = none) ∧ W i n H') ?_ m0 ⟨0, H3, I4, st4, nf, w0⟩ <;>
  · rintro n s5 ⟨i, H5, I5, st5, n5, w5⟩
    rcases turn i n H5 w5 with ⟨stop, qq⟩ | ⟨go, Nx, hN, step⟩
    · refine thnF (T.done (X.blk s3 H3 sc ce fp) rfl rfl rfl hc i [] s5 _ H5 (fun _ _ => False) I5 (fo I5 n5) st5 stop) fun r s6 ⟨hr, I6⟩ => ?_
      subst hr
      have I7 : Inv X pn sg H5 s6 := I3.call' (ch := fp) I6.os I6.base I6.hok I6.bare fun b hb => ⟨(f3 b hb).1.2.2.2.1, (f3 b hb).1.2.1, (f3 b hb).1.2.2.2.2.1, (f3 b hb).1.2.2.2.2.2⟩
      have nC : H5 s3.heap.objs.size = none := by
        rw [← cl]
        exact I6.free
      obtain ⟨m, hn, _⟩ := I6.loc
      exact last D s3.heap.objs.size s6 m H5 I7 qq (by rw [← cl]; exact hn) (I3.fpOk (Nat.le_refl _) nC)
    · refine thnF (T.item (X.blk s3 H3 sc ce fp) rfl rfl rfl hc i [] s5 _ H5 (fun _ _ => False) I5 (fo I5 n5) st5 go) fun r s6 ⟨u, hr, h6⟩ => ?_
      subst hr
      refine thnF h6 fun _ s7 ⟨x, H7, I7, r7, y7, st7, n7⟩ => ?_
      have I8 := I7.pinned (fo I7 n7) (T.obj _ _ st7)
      refine thnF (pg.run _ s7 _ H7 x u _ I8 r7 (step x H7 y7)) fun _ s8 ⟨sg8, H8, I9, hw8, q8⟩ => ?_
      refine thnF (pt.run _ s8 sg8 H8 _ I9 q8) fun b s9 ⟨H9, I10, q9⟩ => ?_
      have fin : ∀ {s' : Shared} {H' : Hp}, Inv (X.blk s3 H3 sc ce fp) ([] ++ pinsAt fp s7.heap) sg8 H' s' → Nx H' → ∃ m, m < n ∧ ∃ i H', Inv (X.blk s3 H3 sc ce fp) [] (wipe sg (own.map (·.2))) H' s' ∧ tn i s'.heap ∧ (∀ b ∈ fp, H' b = none) ∧ W i m H' := fun {s' H'} I' nx => by
        obtain ⟨m', hm, w'⟩ := hN H' nx
        have pin : ∀ b ∈ fp, ∀ o, s7.heap.get? b = some o → s'.heap.get? b = some o ∧ H' b = none := fun b hb o e =>
          let z := I'.pin (b, o) (List.mem_append_right _ (List.mem_append_right _ (mem_pinsAt hb e)))
          ⟨z.1, z.2.1⟩
        have hl : (wipe sg (own.map (·.2))).length = sg8.length := by
          rw [← hw8, wipe_length]
        refine ⟨m', hm, i + 1, H', (I'.unpinned (pins := [])).weak hl (fun j v e => (wipe_some (by rw [hw8]; exact e)).1), T.keep _ _ _ st7 fun b hb o e => (pin b hb o e).1, fun b hb => ?_, w'⟩
        obtain ⟨o, e, _⟩ := T.obj _ _ st7 b hb
        exact (pin b hb o e).2
      cases b with
      | false => exact fin I10 (by simpa using q9)
      | true =>
        simp only [if_true] at q9
        refine thnF (pk.run _ s9 sg8 H9 _ I10 q9) fun z s10 ⟨yk, H10, I11, r10, q10⟩ => ?_
        refine thnF (pv.run _ s10 sg8 H10 _ I11 q10) fun z2 s11 ⟨yv, H11, I12, r11, a, kvs, k, ek, hD, hK, hl, nx⟩ => ?_
        subst ek
        cases (show z = Value.ref a from r10)
        exact dn_set (X := X.blk s3 H3 sc ce fp) I12 hu hD hK hl r11 fun s12 H12 hb hD2 I13 => fin I13 (nx H12 hb hD2)

theorem ps_setDc {i : Nat} {y : Str} {py spos : Pos} {kx vx tg it : Expr} {cs : List Expr} {sc : Scope} {own : List (Str × Nat)} {pos : Pos} {wi : TI} {g : TG} {tt : TT} {tk tv : TE} (hc : X.calm = true) (hu : X.A.units + 9 < cLine) (nd : X.N.Nodup) (hy : X.N[i]? = some y) (hyl : X.env.scope.names.lookup y = some .local)
    (hsw : swapsWith (.DictComp kx vx [⟨tg, it, cs, 0⟩] sc pos) (some (.Name y py)) spos.line X.env = pure true) (hi : PI X tg it wi) (ok : BlkOk X.N X.env.scope sc own)
    (hg : ∀ (s : Shared) (H : Hp) (C : Addr) (cl : List (Str × Addr)) (fp : List Addr), PG (X.blk s H sc (compEnvC sc cl C X.env) fp) tg g) (ht : ∀ (s : Shared) (H : Hp) (C : Addr) (cl : List (Str × Addr)) (fp : List Addr), PTs (X.blk s H sc (compEnvC sc cl C X.env) fp) cs tt)
    (hk : ∀ (s : Shared) (H : Hp) (C : Addr) (cl : List (Str × Addr)) (fp : List Addr), PE (X.blk s H sc (compEnvC sc cl C X.env) fp) kx tk) (hv : ∀ (s : Shared) (H : Hp) (C : Addr) (cl : List (Str × Addr)) (fp : List Addr), PE (X.blk s H sc (compEnvC sc cl C X.env) fp) vx tv)
    (hs : ∀ x, foldedSetIterable it X.env x = pure x := by intro _; rfl) : PS X (.Assign [.Name y py] (.DictComp kx vx [⟨tg, it, cs, 0⟩] sc pos) spos) (tAsg (tDcN X.K X.prog X.w wi g tt tk tv (own.map (·.2))) (gName i)) := by
  refine ⟨fun pn s sg H D I h => ?_⟩
  rw [exec_Assign_Name_used _ _ _ _ hsw]
  refine wpAny_bind (wpAny_standAt (wpAny_bind ?_))
  show wpAny _ X.A (do let _ ← comprehension (.DictComp kx vx [⟨tg, it, cs, 0⟩] sc pos) sc X.env (firstIterPos [⟨tg, it, cs, 0⟩] pos) (newObj (.type "dict") (.dict #[])) false (eval it X.env) (some (assign (.Name y py) X.env))) _ _ s
  have h : tDcN X.K X.prog X.w wi g tt tk tv (own.map (·.2)) sg H (fun x H1 => gName i x sg H1 D.nx) := h
  refine wpAny_bind (thn (dc_core (Qf := fun _ s' => SP X pn D .next s') hc hu nd hi ok hg ht hk hv hs I h fun L C s' m H' I' q hn f => ?_) fun _ s' hq => wpAny_pure (wpAny_pure hq))
  show wpAny _ _ (assign (.Name y py) X.env (.ref L)) _ _ _
  refine wpAny_assign_Name (store_ok2 (v := V.ref L) I' nd hy (.inl hyl) rfl (fun s2 I2 ⟨a, sb, ha⟩ => ?_) (.inr hyl))
  obtain ⟨f0, f1, f2, f3, f4, f5⟩ := f
  have aC : C ≠ a := by
    rcases ha with z | z
    · rw [z]
      exact f1
    · exact fun e => f4 y a z e.symm
  refine ⟨m, hn.sameBut sb aC, fun h3 sb3 => ?_⟩
  exact ⟨_, H', I2.turned (t' := s2.toks) (fun b o hb e => (sb3.2 b hb).trans e) f0 f1 f3 f4 f5, q⟩
theorem sw_dict {kx vx : Expr} {gs : List Comprehension} {sc : Scope} {pos py : Pos} {y : Str} {l : Nat} {env : Env} (hk : env.scope.kind = .function) (hy : env.scope.names.lookup y = some .local) (hl : (py.line == pos.line) = true)
    (ha : (sc.names.any fun (n, k) => n == y && (k == .local || k == .cell)) = false) : swapsWith (.DictComp kx vx gs sc pos) (some (.Name y py)) l env = pure true := by
  have ky : env.kindOf y = some .local := hy
  have hb : env.blockKind = .function := by
    unfold Env.blockKind
    rw [hk]
    rfl
  unfold swapsWith
  simp only [hb, ky, ha, Expr.pos, hl]
  rfl
end
end Jv
namespace S1
open PySem PySem.Spec PyProof.Rows L2 Jv
def okKey : PyData → Bool
  | .tuple [n, d, f, a] => okD lts n && okT 2 5 d && okT 0 4 f && dBl a
  | _ => false
def okKept : PyData → Bool
  | .tuple [k, v, g] => okKey k && okD sgs v && dBl g
  | _ => false
theorem okKey_not4 : ∀ {ds : List PyData}, ds.length ≠ 4 → okKey (.tuple ds) = false
  | [], _ => rfl
  | [_], _ => rfl
  | [_, _], _ => rfl
  | [_, _, _], _ => rfl
  | [_, _, _, _], h => absurd rfl h
  | _ :: _ :: _ :: _ :: _ :: _, _ => rfl
theorem okKept_not3 : ∀ {ds : List PyData}, ds.length ≠ 3 → okKept (.tuple ds) = false
  | [], _ => rfl
  | [_], _ => rfl
  | [_, _], _ => rfl
  | [_, _, _], h => absurd rfl h
  | _ :: _ :: _ :: _ :: _, _ => rfl
section
variable {P : Program} {w : World} {K : PySem.W.Frag} {mg : Str → Option Value} {base : Heap} {C C1 C2 : Addr}
def spPlace (K : PySem.W.Frag) : Sp := fun vs H Q _ => ∃ v k, vs = [v] ∧ KpAt K H v k ∧ ∀ H' u, Same H H' → Da K H' u (placePy k.key) → Q u H'
/-- what makes a jar: each can be kept, no key twice, each behind the one ahead -/
structure JarOk (js : List Kp) : Prop where
  kp : ∀ k ∈ js, okKept k.py = true
  nd : (js.map (·.key)).Nodup
  asc : ∀ (i : Nat) k k', js[i]? = some k → js[i + 1]? = some k' → PySem.W.dataLt (placePy k'.key) (placePy k.key) = false
  few : js.length ≤ 60
def spJar (K : PySem.W.Frag) : Sp := fun vs H Q _ => ∃ v js, vs = [v] ∧ Da K H v (jarPy js) ∧ JarOk js ∧ ∀ H', Same H H' → Q v H'
theorem place_tup (k : Ky) : ∃ x r, placePy k = .tuple (x :: r) := ⟨_, _, rfl⟩
end
end S1
namespace S1
open PySem PySem.Spec PyProof.Rows L2 Jv
section
variable {P : Program} {w : World} {K : PySem.W.Frag} {mg : Str → Option Value} {base : Heap} {C C1 C2 : Addr}
/-- taken writes are done in a dict -/
def spDo (K : PySem.W.Frag) (P : Program) (w : World) : Sp := fun vs H Q _ => ∃ d L t xs ts, vs = [.ref d, .ref L] ∧ TabAt K P w H d t ∧ H L = some (.lst xs) ∧ TwAll K H xs ts ∧ (∀ x ∈ ts, wSz x) ∧ t.length + ts.length ≤ 1000 ∧
  ∀ H', But1 d H H' → TabAt K P w H' d (doWs t ts) → Q .non H'
/-- the jar of a dict -/
def spJarOf (K : PySem.W.Frag) (P : Program) (w : World) : Sp := fun vs H Q _ => ∃ d t, vs = [.ref d] ∧ TabAt K P w H d t ∧ t.length ≤ 1000 ∧ ∀ H' v, Same H H' → Da K H' v (jarPy (jarOfT t)) → Q v H'
theorem kp_of {H : Hp} {k : Ky} {a : Addr} {e : Str × Bool} {p : Addr} (ka : KyAt K H a k) (z : k.Sz) (ze : e.1.length ≤ 1000) (hp : SqT K H p [.ref a, .str e.1, .bl e.2]) : KpAt K H (.ref p) (Tab.kp (k, e)) := ⟨p, a, rfl, hp, ka, z, ze⟩
end
end S1
namespace S1
open PySem PySem.Spec PyProof.Rows L2 Jv
section
variable {P : Program} {w : World} {K : PySem.W.Frag} {mg : Str → Option Value} {base : Heap} {C C1 C2 C3 : Addr}
def fromJar (js : List Kp) : Tab := js.foldl (fun t k => putE t k.key (k.val, k.grd)) []
theorem fromJar_snoc (js : List Kp) (k : Kp) : fromJar (js ++ [k]) = putE (fromJar js) k.key (k.val, k.grd) := by
  unfold fromJar
  rw [List.foldl_append]
  rfl
/-- the jar behind taken writes, from a jar -/
def spAfter (K : PySem.W.Frag) : Sp := fun vs H Q _ => ∃ v js L xs ts, vs = [v, .ref L] ∧ Da K H v (jarPy js) ∧ H L = some (.lst xs) ∧ TwAll K H xs ts ∧ (∀ x ∈ ts, wSz x) ∧ js.length + ts.length ≤ 1000 ∧
  ∀ H' u, Same H H' → Da K H' u (jarPy (jarAfterM js ts)) → Q u H'
def spVisited (K : PySem.W.Frag) : Sp := fun vs H Q _ => ∃ v js v2 s n p, vs = [v, v2, .int (n : Nat)] ∧ Da K H v (jarPy js) ∧ JarOk js ∧ Da K H v2 (sitePy s) ∧ siteBad (sitePy s) = none ∧ s[n]? = some p ∧
  ∀ H' u, Same H H' → Da K H' u (jarPy (jarAfterM js (takenP p))) → Q u H'
theorem sitePy_inj {s s' : List Pg} (h : sitePy s = sitePy s') (ok : ∀ {a b : Pg}, a.py = b.py → a = b) : s = s' := by
  unfold sitePy at h
  injection h with h
  induction s generalizing s' with
  | nil =>
    cases s' with
    | nil => rfl
    | cons _ _ => simp at h
  | cons a s ih =>
    cases s' with
    | nil => simp at h
    | cons b s' =>
      rw [List.map_cons, List.map_cons] at h
      injection h with h1 h2
      rw [ok h1, ih h2]
theorem strs_inj {a b : List Str} (h : a.map PyData.str = b.map PyData.str) : a = b := by
  induction a generalizing b with
  | nil =>
    cases b with
    | nil => rfl
    | cons _ _ => simp at h
  | cons x a ih =>
    cases b with
    | nil => simp at h
    | cons y b =>
      rw [List.map_cons, List.map_cons] at h
      injection h with h1 h2
      injection h1 with h1
      rw [h1, ih h2]
theorem ad_inj {a b : Ad} (h : a.py = b.py) : a = b := by
  obtain ⟨h1, p1, s1⟩ := a
  obtain ⟨h2, p2, s2⟩ := b
  unfold Ad.py at h
  injection h with h
  injection h with e1 h
  injection h with e2 h
  injection h with e3 _
  injection e1 with e1
  injection e2 with e2
  injection e3 with e3
  have e1 : h1 = h2 := strs_inj e1
  have e2 : p1 = p2 := strs_inj e2
  have e3 : s1 = s2 := e3
  rw [e1, e2, e3]
theorem optS_inj {a b : Option Str} (h : optS a = optS b) : a = b := by
  cases a with
  | none =>
    cases b with
    | none => rfl
    | some _ => cases h
  | some x =>
    cases b with
    | none => cases h
    | some y =>
      have h : PyData.str x = .str y := h
      injection h with h
      rw [h]
theorem optT_inj {a b : Option (List Str)} (h : optT a = optT b) : a = b := by
  cases a with
  | none =>
    cases b with
    | none => rfl
    | some _ => cases h
  | some x =>
    cases b with
    | none => cases h
    | some y =>
      have h : PyData.tuple (x.map .str) = .tuple (y.map .str) := h
      injection h with h
      rw [strs_inj h]
theorem wr_inj {a b : Wr} (h : a.py = b.py) : a = b := by
  obtain ⟨n1, v1, d1, f1, g1⟩ := a
  obtain ⟨n2, v2, d2, f2, g2⟩ := b
  unfold Wr.py at h
  injection h with h
  injection h with e1 h
  injection h with e2 h
  injection h with e3 h
  injection h with e4 h
  injection h with e5 _
  injection e1 with e1
  injection e5 with e5
  have e1 : n1 = n2 := e1
  have e5 : g1 = g2 := e5
  have e2 : v1 = v2 := optS_inj e2
  have e3 : d1 = d2 := optT_inj e3
  have e4 : f1 = f2 := optT_inj e4
  rw [e1, e2, e3, e4, e5]
theorem wrs_inj {a b : List Wr} (h : a.map Wr.py = b.map Wr.py) : a = b := by
  induction a generalizing b with
  | nil =>
    cases b with
    | nil => rfl
    | cons _ _ => simp at h
  | cons x a ih =>
    cases b with
    | nil => simp at h
    | cons y b =>
      rw [List.map_cons, List.map_cons] at h
      injection h with h1 h2
      rw [wr_inj h1, ih h2]
theorem pg_inj {a b : Pg} (h : a.py = b.py) : a = b := by
  obtain ⟨a1, w1⟩ := a
  obtain ⟨a2, w2⟩ := b
  unfold Pg.py at h
  injection h with h
  injection h with e1 h
  injection h with e2 _
  injection e2 with e2
  have e1 : a1 = a2 := ad_inj e1
  have e2 : w1 = w2 := wrs_inj e2
  rw [e1, e2]
theorem site_ok {s : List Pg} (h : siteBad (sitePy s) = none) : SiteOk s := by
  obtain ⟨s', e, ok⟩ := site_of h
  rw [sitePy_inj e pg_inj]
  exact ok
def rowPy (row : List Nat) : PyData := .tuple (row.map fun n : Nat => .int (n : Int))
def spRow (K : PySem.W.Frag) : Sp := fun vs H Q _ => ∃ a xs u row, vs = [.ref a, u] ∧ SqT K H a xs ∧ Da K H u (rowPy row) ∧ (∀ n ∈ row, n < xs.length) ∧ ∀ H', Same H H' → Q .non H'
end
end S1
namespace S1
open PySem PySem.Spec PyProof.Rows L2 Jv
section
variable {P : Program} {w : World} {K : PySem.W.Frag} {mg : Str → Option Value} {base : Heap} {C C1 C2 C3 : Addr}
def spBehind (K : PySem.W.Frag) : Sp := fun vs H Q _ => ∃ v u s row, vs = [v, u] ∧ Da K H v (sitePy s) ∧ siteBad (sitePy s) = none ∧ Da K H u (rowPy row) ∧ (∀ n ∈ row, n < s.length) ∧
  ∀ H' z, Same H H' → Da K H' z (jarPy (behindM s row)) → Q z H'
end
end S1
namespace S1
open PySem PySem.Spec PyProof.Rows L2 Jv
theorem okKey_of {k : Ky} (h : okKey k.py = true) : okW lts k.name = true ∧ okStrs k.dom ∧ okStrs k.fold := by
  have e : okKey k.py = (okD lts (.str k.name) && okT 2 5 (.tuple (k.dom.map .str)) && okT 0 4 (.tuple (k.fold.map .str)) && dBl (.bool k.alone)) := rfl
  rw [e, Bool.and_eq_true, Bool.and_eq_true, Bool.and_eq_true] at h
  obtain ⟨⟨⟨h1, h2⟩, h3⟩, _⟩ := h
  obtain ⟨xs, e1, o1⟩ := okT_of h2
  obtain ⟨ys, e2, o2⟩ := okT_of h3
  injection e1 with e1
  injection e2 with e2
  rw [strs_inj e1, strs_inj e2]
  exact ⟨h1, o1, o2⟩
theorem okKept_of {k : Kp} (h : okKept k.py = true) : okKey k.key.py = true ∧ okW sgs k.val = true := by
  have e : okKept k.py = (okKey k.key.py && okD sgs (.str k.val) && dBl (.bool k.grd)) := rfl
  rw [e, Bool.and_eq_true, Bool.and_eq_true] at h
  exact h.1
/-! ### written sites and jars -/
def okT' (lo hi : Int) (xs : List Str) : Bool := decide (lo ≤ (xs.length : Int)) && decide ((xs.length : Int) ≤ hi) && xs.all fun x => okW sgs x
theorem okT_py (lo hi : Int) (xs : List Str) : okT lo hi (.tuple (xs.map .str)) = okT' lo hi xs := by
  show (decide (lo ≤ ((xs.map PyData.str).length : Int)) && decide (((xs.map PyData.str).length : Int) ≤ hi) && (xs.map PyData.str).all (okD sgs)) = _
  rw [List.length_map, List.all_map]
  rfl
def wrShape (w : Wr) : Bool := okW lts w.name && (match w.dom with
  | none => true
  | some d => okT' 2 5 d) && (match w.fold with
  | none => true
  | some d => okT' 0 4 d)
def pgShape (p : Pg) : Bool := okT' 2 5 p.ad.host && okT' 0 4 p.ad.path && decide (p.ws.length ≤ 5) && p.ws.all wrShape
def siteShape (s : List Pg) : Bool := decide (1 ≤ s.length) && decide (s.length ≤ 5) && s.all pgShape
theorem wr_ok {w : Wr} (h : wrShape w = true) (v : ∀ x, w.val = some x → okW sgs x = true) : okWr w.py = true := by
  obtain ⟨n, vl, d, f, g⟩ := w
  have e : okWr (Wr.py ⟨n, vl, d, f, g⟩) = (okD lts (.str n) && dBl (.bool g) && (isNon (optS vl) || okD sgs (optS vl)) && (isNon (optT d) || okT 2 5 (optT d)) && (isNon (optT f) || okT 0 4 (optT f))) := rfl
  unfold wrShape at h
  rw [Bool.and_eq_true, Bool.and_eq_true] at h
  obtain ⟨⟨h1, h2⟩, h3⟩ := h
  rw [e, Bool.and_eq_true, Bool.and_eq_true, Bool.and_eq_true, Bool.and_eq_true]
  refine ⟨⟨⟨⟨h1, rfl⟩, ?_⟩, ?_⟩, ?_⟩
  · cases vl with
    | none => rfl
    | some x => exact v x rfl
  · cases d with
    | none => rfl
    | some x =>
      show (false || okT 2 5 (.tuple (x.map .str))) = true
      rw [okT_py]
      exact h2
  · cases f with
    | none => rfl
    | some x =>
      show (false || okT 0 4 (.tuple (x.map .str))) = true
      rw [okT_py]
      exact h3
theorem writes_ok : ∀ {ws : List Wr} {n : Nat}, ws.all wrShape = true → okValsW ws (fun x => okW sgs x = true) → badFrom n (ws.map Wr.py) = none
  | [], _, _, _ => rfl
  | w :: ws, n, h, v => by
    rw [List.all_cons, Bool.and_eq_true] at h
    obtain ⟨v1, v2⟩ := v
    show (if okWr w.py then badFrom (n + 1) (ws.map Wr.py) else some n) = none
    rw [if_pos (wr_ok h.1 fun x e => by rw [e] at v1; exact v1)]
    exact writes_ok h.2 v2
theorem pages_ok : ∀ {s : List Pg} {n : Nat}, s.all pgShape = true → okValsP s (fun x => okW sgs x = true) → pagesBad n (s.map Pg.py) = none
  | [], _, _, _ => rfl
  | p :: s, n, h, v => by
    rw [List.all_cons, Bool.and_eq_true] at h
    obtain ⟨h0, h⟩ := h
    obtain ⟨v1, v2⟩ := v
    unfold pgShape at h0
    rw [Bool.and_eq_true, Bool.and_eq_true, Bool.and_eq_true] at h0
    obtain ⟨⟨⟨h1, h2⟩, h3⟩, h4⟩ := h0
    have a : okA p.ad.py = true := by
      have e : okA p.ad.py = (okT 2 5 (.tuple (p.ad.host.map .str)) && okT 0 4 (.tuple (p.ad.path.map .str)) && dBl (.bool p.ad.sec)) := rfl
      rw [e, okT_py, okT_py, h1, h2]
      rfl
    have b : pageBad (n : Int) p.py = none := by
      have l : (((p.ws.map Wr.py).length : Int)) ≤ 5 := by
        rw [List.length_map]
        have := of_decide_eq_true h3
        omega
      show pageBad (n : Int) (.tuple [p.ad.py, .tuple (p.ws.map Wr.py)]) = none
      rw [pageBad_w a l, writes_ok h4 v1]
      rfl
    show (match pageBad (n : Int) p.py with
      | some q => some q
      | none => pagesBad (n + 1) (s.map Pg.py)) = none
    rw [b]
    exact pages_ok h v2
theorem site_good {s : List Pg} (h : siteShape s = true) (v : okValsP s (fun x => okW sgs x = true)) : siteBad (sitePy s) = none := by
  unfold siteShape at h
  rw [Bool.and_eq_true, Bool.and_eq_true] at h
  obtain ⟨⟨h1, h2⟩, h3⟩ := h
  have h1 := of_decide_eq_true h1
  have h2 := of_decide_eq_true h2
  have e : siteBad (sitePy s) = if decide ((1 : Int) ≤ ((s.map Pg.py).length : Int)) && decide (((s.map Pg.py).length : Int) ≤ 5) then pagesBad 0 (s.map Pg.py) else some [] := rfl
  rw [e, List.length_map, decide_eq_true (by omega), decide_eq_true (by omega)]
  exact pages_ok h3 v
def kyShape (k : Ky) : Bool := okW lts k.name && okT' 2 5 k.dom && okT' 0 4 k.fold
theorem ky_ok {k : Ky} (h : kyShape k = true) : okKey k.py = true := by
  have e : okKey k.py = (okD lts (.str k.name) && okT 2 5 (.tuple (k.dom.map .str)) && okT 0 4 (.tuple (k.fold.map .str)) && dBl (.bool k.alone)) := rfl
  rw [e, okT_py, okT_py]
  unfold kyShape at h
  rw [Bool.and_eq_true, Bool.and_eq_true] at h
  rw [show okD lts (.str k.name) = true from h.1.1, h.1.2, h.2]
  rfl
def jarShape (js : List Kp) : Bool := (js.all fun k => kyShape k.key) && nodupB (js.map (·.key)) && ascB (js.map (·.key)) && decide (js.length ≤ 60)
theorem kepts_ok : ∀ {js : List Kp}, (js.all fun k => kyShape k.key) = true → okValsJ js (fun x => okW sgs x = true) → ∀ k ∈ js, okKept k.py = true
  | [], _, _ => fun k hk => by cases hk
  | j :: js, h, v => fun k hk => by
    rw [List.all_cons, Bool.and_eq_true] at h
    obtain ⟨v1, v2⟩ := v
    rcases List.mem_cons.mp hk with rfl | hk
    · have e : okKept k.py = (okKey k.key.py && okD sgs (.str k.val) && dBl (.bool k.grd)) := rfl
      rw [e, ky_ok h.1, show okD sgs (.str k.val) = true from v1]
      rfl
    · exact kepts_ok h.2 v2 k hk
theorem jar_good {js : List Kp} (h : jarShape js = true) (v : okValsJ js (fun x => okW sgs x = true)) : JarOk js := by
  unfold jarShape at h
  rw [Bool.and_eq_true, Bool.and_eq_true, Bool.and_eq_true] at h
  obtain ⟨⟨⟨h1, h2⟩, h3⟩, h4⟩ := h
  refine ⟨kepts_ok h1 v, nodupB_of h2, fun i k k' e e' => ?_, of_decide_eq_true h4⟩
  exact ascB_of h3 i k.key k'.key (by rw [List.getElem?_map, e]; rfl) (by rw [List.getElem?_map, e']; rfl)
theorem strs_lay {xs : List Str} (h : okStrs xs) : PyData.canLay0 (.tuple (xs.map .str)) = true := canLay_strs xs h
theorem kp_lay {k : Kp} (h : okKept k.py = true) : PyData.canLay0 k.py = true := by
  obtain ⟨h1, h2⟩ := okKept_of h
  obtain ⟨a1, a2, a3⟩ := okKey_of h1
  have e : PyData.canLay0 k.py = ((PyData.strOk k.key.name && (PyData.canLay0 (.tuple (k.key.dom.map .str)) && (PyData.canLay0 (.tuple (k.key.fold.map .str)) && (true && true)))) && (PyData.strOk k.val && (true && true))) := rfl
  rw [e, okW_str lts_low a1, okW_str sgs_low h2, strs_lay a2, strs_lay a3]
  rfl
theorem kp_depth (k : Kp) : k.py.depth = 3 := by
  show max k.key.py.depth (max 0 (max 0 0)) + 1 = 3
  rw [Ky.pdepth]
  rfl
theorem jar_depth : ∀ js : List Kp, PyData.depthAll (js.map Kp.py) ≤ 3
  | [] => Nat.zero_le _
  | j :: js => by
    rw [List.map_cons, depth_mono, kp_depth]
    have := jar_depth js
    omega
theorem jar_lay : ∀ {js : List Kp}, (∀ k ∈ js, okKept k.py = true) → PyData.canLayAll0 (js.map Kp.py) = true
  | [], _ => rfl
  | j :: js, h => by
    show (PyData.canLay0 j.py && PyData.canLayAll0 (js.map Kp.py)) = true
    rw [kp_lay (h j List.mem_cons_self), jar_lay fun k hk => h k (List.mem_cons_of_mem _ hk)]
    rfl
theorem jar_shaped {js : List Kp} (h : ∀ k ∈ js, okKept k.py = true) : SeqAt.shaped (jarPy js) = true := shaped_tup (jar_lay h) (Nat.le_trans (jar_depth js) (by decide))
theorem pairs_depth : ∀ l : List (Str × Str), PyData.depthAll (l.map fun p => PyData.tuple [.str p.1, .str p.2]) ≤ 1
  | [] => Nat.zero_le _
  | p :: l => by
    rw [List.map_cons, depth_mono]
    have := pairs_depth l
    have e : (PyData.tuple [.str p.1, .str p.2]).depth = 1 := rfl
    omega
def okPairs : List (Str × Str) → Prop
  | [] => True
  | p :: l => (PyData.strOk p.1 = true ∧ PyData.strOk p.2 = true) ∧ okPairs l
theorem pairs_lay : ∀ {l : List (Str × Str)}, okPairs l → PyData.canLayAll0 (l.map fun p => PyData.tuple [.str p.1, .str p.2]) = true
  | [], _ => rfl
  | p :: l, h => by
    obtain ⟨⟨h1, h2⟩, h3⟩ := h
    show ((PyData.strOk p.1 && (PyData.strOk p.2 && true)) && PyData.canLayAll0 (l.map fun p => PyData.tuple [.str p.1, .str p.2])) = true
    rw [h1, h2, pairs_lay h3]
    rfl
theorem sent_shaped {l : List (Str × Str)} (h : okPairs l) : SeqAt.shaped (sentPy l) = true := shaped_tup (pairs_lay h) (Nat.le_trans (pairs_depth l) (by decide))
def okSents : List (List (Str × Str)) → Prop
  | [] => True
  | l :: ls => okPairs l ∧ okSents ls
theorem sents_shaped {ls : List (List (Str × Str))} (h : okSents ls) : SeqAt.shaped (.list (ls.map sentPy)) = true := by
  have a : ∀ {ls : List (List (Str × Str))}, okSents ls → PyData.canLayAll0 (ls.map sentPy) = true := by
    intro ls
    induction ls with
    | nil => exact fun _ => rfl
    | cons l ls ih =>
      intro h
      show (PyData.canLay0 (sentPy l) && PyData.canLayAll0 (ls.map sentPy)) = true
      rw [ih h.2, show PyData.canLay0 (sentPy l) = true from pairs_lay h.1]
      rfl
  have b : ∀ ls : List (List (Str × Str)), PyData.depthAll (ls.map sentPy) ≤ 2 := by
    intro ls
    induction ls with
    | nil => exact Nat.zero_le _
    | cons l ls ih =>
      rw [List.map_cons, depth_mono]
      have e : (sentPy l).depth ≤ 2 := by
        show PyData.depthAll (l.map fun p => PyData.tuple [.str p.1, .str p.2]) + 1 ≤ 2
        have := pairs_depth l
        omega
      omega
  show (PyData.canLayAll0 (ls.map sentPy) && decide (PyData.depthAll (ls.map sentPy) + 1 ≤ 64)) = true
  have := b ls
  rw [a h, decide_eq_true (by omega)]
  rfl
end S1
namespace S1
open PySem PySem.Spec PyProof.Rows L2 Jv
theorem EnvD.one {K : PySem.W.Frag} {H : Hp} {sg : L2.St} {v : V} {y : PyData} {i n : Nat} (h : sg[i]? = some (some v)) (dv : Da K H v y) (hl : sg.length = n) : EnvD K H sg ((List.replicate n none).set i (some y)) := by
  refine ⟨fun j z q => ?_, by rw [List.length_set, List.length_replicate, hl]⟩
  by_cases e : i = j
  · subst e
    rw [List.getElem?_set] at q
    split at q
    · split at q
      · cases q
        exact ⟨v, h, dv⟩
      · cases q
    · exact absurd rfl ‹_›
  · rw [List.getElem?_set_ne e, List.getElem?_replicate] at q
    split at q <;> cases q
theorem ev_lenT {K : PySem.W.Frag} {r : Rho} {t : TE} {ds : List PyData} (h : EvR K t r (.tuple ds)) : EvR K (tCB (rLen K) (tCons t tNil)) r (.int (ds.length : Nat)) := fun sg H en Q q =>
  h sg H en _ fun H1 v s1 hv => by
    cases hv with
    | @tup pa xs _ h1 h2 hz => exact ⟨_, ds.length, rfl, Or.inr ⟨xs, h1, (DaAll.len h2).symm⟩, q H1 _ s1 (.int _)⟩
theorem ev_gtI {K : PySem.W.Frag} {r : Rho} {t u : TE} {i j : Int} (h : EvR K t r (.int i)) (g : EvR K u r (.int j)) : EvR K (tOp (rI0 fun i j => .bl (decide (j < i))) t u) r (.bool (decide (j < i))) := fun sg H en Q q =>
  h sg H en _ fun H1 v s1 hv => g sg H1 (en.same s1) _ fun H2 w s2 hw => by
    cases hv
    cases hw
    exact ⟨i, j, rfl, rfl, q H2 _ (s1.trans s2) (.bl _)⟩
theorem ev_if {K : PySem.W.Frag} {r : Rho} {c : TT} {t u : TE} {b : Bool} {y : PyData} (h : EvT K c r b) (g : b = true → EvR K t r y) (k : b = false → EvR K u r y) : EvR K (tIf c t u) r y := fun sg H en Q q =>
  h sg H en _ fun H1 s1 => by
    cases b with
    | true => exact iteT (g rfl sg H1 (en.same s1) _ fun H2 w s2 hw => q H2 w (s1.trans s2) hw)
    | false => exact iteF (k rfl sg H1 (en.same s1) _ fun H2 w s2 hw => q H2 w (s1.trans s2) hw)
theorem asg_pick {K : PySem.W.Frag} {H : Hp} {d l c : Addr} {n : Int} {t : TE} {r : Rho} {ds : List PyData} {sg : L2.St} {many : Int} {i : Nat} {u : TS} {D : Ends} (e : EvR K t r (.list ds)) (en : EnvD K H sg r) (h0 : sg[0]? = some (some (.ref d))) (S : St H d l c n) (hn : n < 2 ^ 50) (lm : (ds.length : Int) = many) (h2 : ds.length < 1000) (fl : flatAll ds = true) (z : noInt ds = true)
    (q : ∀ (H' : Hp) (x : V) (j : Nat) (y : PyData), But d l H H' → St H' d l c (n + 1) → ds[j]? = some y → Da K H' x y → u D (sg.set i (some x)) H') : tSeq (tAsg (tOp (rIxL K) t (tCall spDraw [] E0 (tCons (tVar 0) (tCons (tC (.int many)) tNil)))) (gName i)) u D sg H := pick e en h0 S hn lm h2 fl z q
theorem cons_ev {K : PySem.W.Frag} {H : Hp} {t : TE} {u : TA} {y : PyData} {sg : L2.St} {r : Rho} {k : List V → Hp → Prop} (e : EvR K t r y) (en : EnvD K H sg r) (q : ∀ H1 v, Same H H1 → Da K H1 v y → u sg H1 fun vs H2 => k (v :: vs) H2) : tCons t u sg H k := e sg H en _ q
theorem asg_lst_draw {K : PySem.W.Frag} {H : Hp} {ta : TA} {u : TS} {D : Ends} {sg : L2.St} {i : Nat} {many : Int} (h : ta sg H fun vs H1 => vs.length ≤ sizeLine ∧ ∀ p, H1 p = none → tCall spDraw [] E0 (tCons (tVar 0) (tCons (tC (.int many)) tNil)) sg (upd H1 p (.lst vs)) fun y H2 => rIxL K (.ref p) y H2 fun x H3 => u D (sg.set i (some x)) H3) :
    tSeq (tAsg (tOp (rIxL K) (tLst ta) (tCall spDraw [] E0 (tCons (tVar 0) (tCons (tC (.int many)) tNil)))) (gName i)) u D sg H := h
def namesM : List Str := ["id", "id", "id", "k"]
def valsM : List (Option Str) := [some "u", some "v", some "u", none, some "w1", none]
def domsM (host : List Str) : List (Option (List Str)) := [none, some (host.drop (host.length - 2)), some host, none, some (if 2 < host.length then host.drop 1 else host), some ["b", "c"]]
def foldsM (xs : List Str) : List (Option (List Str)) := [none, some [], none, some ["p"], some xs]
theorem flat_optT (o : Option (List Str)) : flat (optT o) = true := by
  cases o with
  | none => rfl
  | some d => exact flat_strs d
theorem flat_optS (o : Option Str) : flat (optS o) = true := by
  cases o <;> rfl
theorem flatAll_map {α : Type} {f : α → PyData} (l : List α) (h : ∀ a, flat (f a) = true) : flatAll (l.map f) = true := flatAll_of fun y hy => by
  obtain ⟨a, _, rfl⟩ := List.mem_map.mp hy
  exact h a
def optTok (lo : Int) (hi : Int) : Option (List Str) → Bool
  | none => true
  | some d => okT' lo hi d
theorem names_ok : ∀ x ∈ namesM, okW lts x = true := by decide +kernel
theorem vals_ok : ∀ o ∈ valsM, (match o with
  | none => true
  | some x => okW sgs x) = true := by decide +kernel
theorem doms_ok : ∀ h ∈ hostsM, ∀ o ∈ domsM h, optTok 2 5 o = true := by decide +kernel
theorem folds_ok : ∀ x ∈ pathsM, ∀ o ∈ foldsM x, optTok 0 4 o = true := by decide +kernel
/-- a write that has the form -/
def wrFit (w : Wr) : Prop := wrShape w = true ∧ ∀ x, w.val = some x → okW sgs x = true
theorem wr_fit {nm : Str} {vl : Option Str} {dm fd : Option (List Str)} {g : Bool} {h xs : List Str} (h1 : nm ∈ namesM) (h2 : vl ∈ valsM) (hh : h ∈ hostsM) (h3 : dm ∈ domsM h) (hx : xs ∈ pathsM) (h4 : fd ∈ foldsM xs) : wrFit ⟨nm, vl, dm, fd, g⟩ := by
  refine ⟨?_, fun x e => ?_⟩
  · have e1 := names_ok nm h1
    have e3 := doms_ok h hh dm h3
    have e4 := folds_ok xs hx fd h4
    unfold wrShape
    rw [e1]
    cases dm <;> cases fd <;> first | rfl | (show (true && _ && _) = true; simp only [optTok] at e3 e4; simp [e3, e4])
  · have := vals_ok vl h2
    cases e
    exact this
section
variable {P : Program} {w : World} {K : PySem.W.Frag} {mg : Str → Option Value} {base : Heap}
def spWrite (K : PySem.W.Frag) : Sp := fun vs H Q _ => ∃ (d l c : Addr) (n : Int) (v : V) (host : List Str), vs = [.ref d, v] ∧ St H d l c n ∧ n < 2 ^ 49 ∧ host ∈ hostsM ∧ Da K H v (tupPy host) ∧ ∀ (H' : Hp) (u : V) (w : Wr), But d l H H' → St H' d l c (n + 6) → wrFit w → Da K H' u w.py → Q u H'
theorem ok_law_write (T : Txt K mg) : Ok P w K mg base "_law_write" P__law_write 4 (spWrite K) := by
  have ok__law_draw : Ok P w K mg base "_law_draw" P__law_draw 2 spDraw := ok_law_draw T
  have ok__law_path : Ok P w K mg base "_law_path" P__law_path 3 (spOneOf K pathsM) := ok_law_path T
  refine T.d__law_write.ok sc__law_write (fun vs H Q E h => ?_) (fun f cdv A out s H vs Q E hr h => ?_)
  · obtain ⟨d, l, c, n, v, host, rfl, _⟩ := h
    rfl
  · obtain ⟨d, l, c, n, v, host, rfl, hS, hn, hm, hv, q⟩ := h
    refine ⟨_, (pss_cons (ps_set (i := 2) sc__law_write.nd rfl (Or.inl rfl) (pe_ix ix_list (pe_lst (pa_cons pe_str (pa_cons pe_str (pa_cons pe_str (pa_cons pe_str pa_nil))))) (pe_ok ok__law_draw (hr.mono (by decide)) (pa_cons (pv 0) (pa_cons pe_int pa_nil))) (fun _ _ => rfl)))
    (pss_cons (ps_set (i := 3) sc__law_write.nd rfl (Or.inl rfl) (pe_ix ix_list (pe_lst (pa_cons pe_str (pa_cons pe_str (pa_cons pe_str (pa_cons pe_non (pa_cons pe_str (pa_cons pe_non pa_nil))))))) (pe_ok ok__law_draw (hr.mono (by decide)) (pa_cons (pv 0) (pa_cons pe_int pa_nil))) (fun _ _ => rfl)))
    (pss_cons (ps_set (i := 4) sc__law_write.nd rfl (Or.inl rfl) (pe_ix ix_list (pe_lst (pa_cons pe_non (pa_cons (pe_slice sl_tupA (pv 1) (po_some (pe_un un_neg pe_int)) po_none) (pa_cons (pv 1) (pa_cons pe_non (pa_cons (pe_ifExp (pt_cmpR op_gt (pe_callB call_len (by rfl) T.z_len (by decide +kernel) (pa_cons (pv 1) pa_nil)) pe_int (nomark _)) (pe_slice sl_tupA (pv 1) (po_some pe_int) po_none) (pv 1)) (pa_cons (pe_tup (pa_cons pe_str (pa_cons pe_str pa_nil))) pa_nil))))))) (pe_ok ok__law_draw (hr.mono (by decide)) (pa_cons (pv 0) (pa_cons pe_int pa_nil))) (fun _ _ => rfl)))
    (pss_cons (ps_set (i := 5) sc__law_write.nd rfl (Or.inl rfl) (pe_ix ix_list (pe_lst (pa_cons pe_non (pa_cons (pe_tup pa_nil) (pa_cons pe_non (pa_cons (pe_tup (pa_cons pe_str pa_nil)) (pa_cons (pe_ok ok__law_path (hr.mono (by decide)) (pa_cons (pv 0) pa_nil)) pa_nil)))))) (pe_ok ok__law_draw (hr.mono (by decide)) (pa_cons (pv 0) (pa_cons pe_int pa_nil))) (fun _ _ => rfl)))
    (pss_one (ps_ret (pe_tup (pa_cons (pv 2) (pa_cons (pv 3) (pa_cons (pv 4) (pa_cons (pv 5) (pa_cons (pe_cmpR op_eq (pe_ok ok__law_draw (hr.mono (by decide)) (pa_cons (pv 0) (pa_cons pe_int pa_nil))) pe_int (nomark _)) pa_nil)))))))))))), ?_⟩
    refine asg_pick (K := K) (r := [none, none, none, none, none, none]) (ds := namesM.map .str) (EvR.to (d := ?d1) ?x1 (show _ = PyData.list (namesM.map .str) from ?x2)) (EnvD.blank (n := 6) rfl) rfl hS (by omega) rfl (by decide) (by rfl) rfl fun H1 x1 i1 y1 b1 S1 e1 d1 => ?_
    case x1 => repeat' (first | with_reducible exact eva_nil | with_reducible refine eva_cons (d := ?_) (ds := ?_) ?_ ?_ | ((with_reducible refine ev_var (d := ?_) ?_); exact rfl) | with_reducible exact ev_non | with_reducible exact ev_bl | with_reducible exact ev_int | ((with_reducible refine ev_str ?_); exact Nat.le_of_ble_eq_true rfl) | with_reducible refine ev_tup (ds := ?_) ?_ ?_ | with_reducible refine ev_lst (ds := ?_) ?_ ?_ | with_reducible refine ev_ixLz (ds := ?_) (d := ?_) ?_ ?_ ?_ | with_reducible refine ev_ixTz (ds := ?_) (d := ?_) ?_ ?_ ?_ | with_reducible refine ev_slTz (ds := ?_) (es := ?_) ?_ ?_ ?_ | with_reducible refine ev_slLz (ds := ?_) (es := ?_) ?_ ?_ ?_ | with_reducible refine ev_cat (as := ?_) (bs := ?_) ?_ ?_ ?_ | exact Nat.le_of_ble_eq_true rfl | exact rfl | exact ev_int)
    case x2 => rfl
    obtain ⟨nm, m1, rfl⟩ := picked e1
    have hv1 := Da.tupS (b1.tupS hS) _ _ (flat_strs host) hv
    refine asg_pick (K := K) (r := [none, none, none, none, none, none]) (ds := valsM.map optS) (EvR.to (d := ?d2) ?x3 (show _ = PyData.list (valsM.map optS) from ?x4)) (EnvD.blank (n := 6) rfl) rfl S1 (by omega) rfl (by decide) (by rfl) rfl fun H2 x2 i2 y2 b2 S2 e2 d2 => ?_
    case x3 => repeat' (first | with_reducible exact eva_nil | with_reducible refine eva_cons (d := ?_) (ds := ?_) ?_ ?_ | ((with_reducible refine ev_var (d := ?_) ?_); exact rfl) | with_reducible exact ev_non | with_reducible exact ev_bl | with_reducible exact ev_int | ((with_reducible refine ev_str ?_); exact Nat.le_of_ble_eq_true rfl) | with_reducible refine ev_tup (ds := ?_) ?_ ?_ | with_reducible refine ev_lst (ds := ?_) ?_ ?_ | with_reducible refine ev_ixLz (ds := ?_) (d := ?_) ?_ ?_ ?_ | with_reducible refine ev_ixTz (ds := ?_) (d := ?_) ?_ ?_ ?_ | with_reducible refine ev_slTz (ds := ?_) (es := ?_) ?_ ?_ ?_ | with_reducible refine ev_slLz (ds := ?_) (es := ?_) ?_ ?_ ?_ | with_reducible refine ev_cat (as := ?_) (bs := ?_) ?_ ?_ ?_ | exact Nat.le_of_ble_eq_true rfl | exact rfl | exact ev_int)
    case x4 => rfl
    obtain ⟨vl, m2, rfl⟩ := picked e2
    have hv2 := Da.tupS (b2.tupS S1) _ _ (flat_strs host) hv1
    have d12 := Da.tupS (b2.tupS S1) _ _ rfl d1
    have et : ∀ r : Rho, r[1]? = some (some (tupPy host)) → EvR K (tOp (rI0 fun i j => .bl (decide (j < i))) (tCB (rLen K) (tCons (tVar 1) tNil)) (tC (.int 2))) r (.bool (decide (2 < host.length))) := fun r e => EvR.to (ev_gtI (ev_lenT (ev_var e)) ev_int) (congrArg PyData.bool (decide_eq_decide.mpr (by rw [List.length_map]; omega)))
    refine asg_pick (K := K) (r := [none, some (tupPy host), none, none, none, none]) (ds := (domsM host).map optT) (EvR.to (ev_lst (eva_cons ev_non (eva_cons (ev_slEnd (k := 2) (ev_var rfl) (by decide)) (eva_cons (ev_var rfl) (eva_cons ev_non (eva_cons (ev_if (b := decide (2 < host.length)) (y := optT (some (if 2 < host.length then host.drop 1 else host))) (evt_test (et _ rfl)) (fun e => ?x5) (fun e => ?x6)) (eva_cons (d := .tuple [.str "b", .str "c"]) ?x7 eva_nil)))))) (Nat.le_of_ble_eq_true rfl)) ?x8) (EnvD.skip (EnvD.cons hv2 (EnvD.blank (n := 4) rfl))) rfl S2 (by omega) rfl (Nat.le_of_ble_eq_true rfl) (flatAll_map _ flat_optT) rfl fun H3 x3 i3 y3 b3 S3 e3 d3 => ?_
    case x5 =>
      rw [if_pos (of_decide_eq_true e)]
      exact ev_slTz (z := 1) (ev_var rfl) rfl (by rw [List.map_drop]; rfl)
    case x6 =>
      rw [if_neg (of_decide_eq_false e)]
      exact ev_var rfl
    case x7 => exact ev_tup (eva_cons (ev_str (by decide)) (eva_cons (ev_str (by decide)) eva_nil)) (by decide)
    case x8 =>
      rw [List.length_map, ← List.map_drop]
      rfl
    obtain ⟨dm, m3, rfl⟩ := picked e3
    have t3 := b3.tupS S2
    have d13 := Da.tupS t3 _ _ rfl d12
    have d23 := Da.tupS t3 _ _ (flat_optS vl) d2
    -- the folder
    refine asg_lst_draw (cons_ev (K := K) (r := [none, none, none, none, none, none]) (y := .none) ev_non (EnvD.blank (n := 6) rfl) fun G1 z1 g1 w1 => ?_)
    refine cons_ev (K := K) (r := [none, none, none, none, none, none]) (y := .tuple []) (ev_tup eva_nil (by decide)) (EnvD.blank (n := 6) rfl) fun G2 z2 g2 w2 => ?_
    refine cons_ev (K := K) (r := [none, none, none, none, none, none]) (y := .none) ev_non (EnvD.blank (n := 6) rfl) fun G3 z3 g3 w3 => ?_
    refine cons_ev (K := K) (r := [none, none, none, none, none, none]) (y := .tuple [.str "p"]) (ev_tup (eva_cons (ev_str (by decide)) eva_nil) (by decide)) (EnvD.blank (n := 6) rfl) fun G4 z4 g4 w4 => ?_
    have s4 := ((g1.trans g2).trans g3).trans g4
    have S4 := S3.same s4
    refine ⟨.ref d, rfl, d, l, c, _, rfl, S4, by omega, fun H5 v5 xs b5 S5 hx dv5 => ?_⟩
    have t5 : TupS H3 H5 := (Same.tupS s4).trans (b5.tupS S4)
    refine ⟨by show 5 ≤ sizeLine; decide, fun p np => ?_⟩
    obtain ⟨f1, f2, f3⟩ := S5.fresh np
    have s6 := same_new (o := HO.lst [z1, z2, z3, z4, v5]) np
    refine ⟨.ref d, rfl, d, l, c, _, 5, rfl, S5.upd ⟨f1, f2, f3⟩, by omega, by decide, by decide, fun H6 i b6 S6 i1 i2 => ?_⟩
    have t6 : TupS H5 H6 := (Same.tupS s6).trans (b6.tupS (S5.upd ⟨f1, f2, f3⟩))
    have hp : H6 p = some (.lst [z1, z2, z3, z4, v5]) := b6 p _ f1 f2 upd_same
    have all : DaAll K H6 [z1, z2, z3, z4, v5] ((foldsM xs).map optT) := by
      have u4 : TupS G4 H6 := (b5.tupS S4).trans t6
      have u3 : TupS G3 H6 := (Same.tupS g4).trans u4
      have u2 : TupS G2 H6 := (Same.tupS g3).trans u3
      have u1 : TupS G1 H6 := (Same.tupS g2).trans u2
      exact .cons (Da.tupS u1 _ _ rfl w1) (.cons (Da.tupS u2 _ _ rfl w2) (.cons (Da.tupS u3 _ _ rfl w3) (.cons (Da.tupS u4 _ _ rfl w4) (.cons (Da.tupS t6 _ _ (flat_strs xs) dv5) .nil))))
    obtain ⟨m, rfl⟩ : ∃ m : Nat, i = m := ⟨i.toNat, by omega⟩
    have lm : m < ((foldsM xs).map optT).length := by
      show m < 5
      omega
    obtain ⟨x4, ex, dx⟩ := DaAll.getD all (List.getElem?_eq_getElem lm)
    refine ⟨p, _, _, x4, rfl, rfl, SqL.of hp, atI_nat ex, ?_⟩
    obtain ⟨fd, m4, e4⟩ := picked (List.getElem?_eq_getElem lm)
    rw [e4] at dx
    have t36 : TupS H3 H6 := t5.trans t6
    refine ⟨x1, rfl, x2, rfl, x3, rfl, x4, rfl, .ref d, rfl, d, l, c, _, 6, rfl, S6, by omega, by decide, by decide, fun H7 j b7 S7 j1 j2 => ⟨rfl, by show 5 ≤ sizeLine; decide, fun o no => ?_⟩⟩
    have t37 : TupS H3 (upd H7 o (.tup [x1, x2, x3, x4, .bl (decide (V.int j = V.int 0))])) := (t36.trans (b7.tupS S6)).trans (Same.tupS (same_new no))
    have t67 : TupS H6 (upd H7 o (.tup [x1, x2, x3, x4, .bl (decide (V.int j = V.int 0))])) := (b7.tupS S6).trans (Same.tupS (same_new no))
    obtain ⟨k1, k2, k3⟩ := S7.fresh no
    have bAll : But d l H (upd H7 o (.tup [x1, x2, x3, x4, .bl (decide (V.int j = V.int 0))])) := ((((((b1.trans b2).trans b3).trans (Same.but s4)).trans b5).trans ((Same.but s6).trans b6)).trans b7).trans (Same.but (same_new no))
    refine q _ _ ⟨nm, vl, dm, fd, decide (V.int j = V.int 0)⟩ bAll ((S7.upd ⟨k1, k2, k3⟩).mono (by omega)) (wr_fit m1 m2 hm m3 hx m4) ?_
    exact .tup (SqT.of upd_same) (.cons (Da.tupS t37 _ _ rfl d13) (.cons (Da.tupS t37 _ _ (flat_optS vl) d23) (.cons (Da.tupS t37 _ _ (flat_optT dm) d3) (.cons (Da.tupS t67 _ _ (flat_optT fd) dx) (.cons (.bl _) .nil))))) (by show 5 ≤ 1000; decide)
end
end S1
namespace S1
open PySem PySem.Spec PyProof.Rows L2 Jv
/-- a page that has the form -/
def pgFit (p : Pg) : Prop := pgShape p = true ∧ ∀ w ∈ p.ws, wrFit w
def siteFit (s : List Pg) : Prop := 1 ≤ s.length ∧ s.length ≤ 5 ∧ ∀ p ∈ s, pgFit p
theorem hosts_ok : ∀ h ∈ hostsM, okT' 2 5 h = true := by decide +kernel
theorem paths_ok : ∀ h ∈ pathsM, okT' 0 4 h = true := by decide +kernel
theorem pg_fit {h p : List Str} {g : Bool} {ws : List Wr} (h1 : h ∈ hostsM) (h2 : p ∈ pathsM) (h3 : ws.length ≤ 5) (h4 : ∀ w ∈ ws, wrFit w) : pgFit ⟨⟨h, p, g⟩, ws⟩ := by
  refine ⟨?_, h4⟩
  unfold pgShape
  dsimp only
  rw [hosts_ok h h1, paths_ok p h2, decide_eq_true h3, Bool.true_and, Bool.true_and, Bool.true_and]
  exact List.all_eq_true.mpr fun w hw => (h4 w hw).1
theorem fit_valsW : ∀ {ws : List Wr}, (∀ w ∈ ws, wrFit w) → okValsW ws fun x => okW sgs x = true
  | [], _ => trivial
  | w :: ws, h => ⟨by
    have e := (h w List.mem_cons_self).2
    cases q : w.val with
    | none => trivial
    | some x => exact e x q, fit_valsW fun u hu => h u (List.mem_cons_of_mem _ hu)⟩
theorem fit_valsP : ∀ {s : List Pg}, (∀ p ∈ s, pgFit p) → okValsP s fun x => okW sgs x = true
  | [], _ => trivial
  | p :: s, h => ⟨fit_valsW (h p List.mem_cons_self).2, fit_valsP fun u hu => h u (List.mem_cons_of_mem _ hu)⟩
theorem siteFit.good {s : List Pg} (h : siteFit s) : siteBad (sitePy s) = none := by
  obtain ⟨h1, h2, h3⟩ := h
  refine site_good ?_ (fit_valsP h3)
  unfold siteShape
  rw [decide_eq_true h1, decide_eq_true h2, Bool.true_and, Bool.true_and]
  exact List.all_eq_true.mpr fun p hp => (h3 p hp).1
theorem wr_flat (w : Wr) : flat w.py = true := by
  show flatAll [.str w.name, optS w.val, optT w.dom, optT w.fold, .bool w.grd] = true
  rw [flatAll, flatAll, flatAll, flatAll, flatAll, flat_optS, flat_optT, flat_optT]
  rfl
theorem ad_flat (a : Ad) : flat a.py = true := by
  show flatAll [.tuple (a.host.map .str), .tuple (a.path.map .str), .bool a.sec] = true
  rw [flatAll, flatAll, flatAll, flat_strs, flat_strs]
  rfl
theorem pg_flat (p : Pg) : flat p.py = true := by
  show flatAll [p.ad.py, .tuple (p.ws.map Wr.py)] = true
  rw [flatAll, flatAll, ad_flat, show flat (.tuple (p.ws.map Wr.py)) = flatAll (p.ws.map Wr.py) from rfl, flatAll_map p.ws wr_flat]
  rfl
theorem site_flat (s : List Pg) : flat (sitePy s) = true := flatAll_map s pg_flat
section
variable {P : Program} {w : World} {K : PySem.W.Frag} {mg : Str → Option Value} {base : Heap}
def spWide (K : PySem.W.Frag) : Sp := fun vs H Q _ => ∃ (d l c : Addr) (n : Int), vs = [.ref d] ∧ St H d l c n ∧ n < 2 ^ 48 ∧ ∀ (H' : Hp) (v : V) (s : List Pg), But d l H H' → St H' d l c (n + 171) → siteFit s → Da K H' v (sitePy s) → Q v H'
end
end S1
namespace S1
open PySem PySem.Spec PyProof.Rows L2 Jv
theorem okT_strs {lo hi : Int} {xs : List Str} (h : okT' lo hi xs = true) : okStrs xs := fun x hx => by
  unfold okT' at h
  rw [Bool.and_eq_true] at h
  exact okW_str sgs_low (List.all_eq_true.mp h.2 x hx)
theorem okT_len {lo hi : Int} {xs : List Str} (h : okT' lo hi xs = true) : lo ≤ (xs.length : Int) := by
  unfold okT' at h
  rw [Bool.and_eq_true, Bool.and_eq_true] at h
  exact of_decide_eq_true h.1.1
theorem end_within (host dom : List Str) : decide (host.drop (host.length - dom.length) = dom) = within host dom := by
  unfold within
  by_cases h : dom.length ≤ host.length
  · rw [decide_eq_true h, Bool.true_and]
  · rw [decide_eq_false h, Bool.false_and]
    refine decide_eq_false fun e => h ?_
    rw [← e, List.length_drop]
    omega
theorem strs_shaped {xs : List Str} (h : okStrs xs) : SeqAt.shaped (.tuple (xs.map .str)) = true := shaped_tup (canLay_strs xs h) (by rw [show PyData.depthAll (xs.map PyData.str) = 0 from depth_strs xs]; exact Nat.zero_le _)
section
variable {K : PySem.W.Frag} {H : Hp}
abbrev keyTA (K : PySem.W.Frag) : TA := tCons (tVar 6) (tCons (tIf (tTest (tOp (fun x y H Q => y = V.non ∧ Q (V.bl (decide (x = V.non))) H) (tVar 8) (tC .non))) (tVar 2) (tVar 8)) (tCons (tIf (tTest (tOp (fun x y H Q => y = V.non ∧ Q (V.bl (decide (x = V.non))) H) (tVar 9) (tC .non))) (tSl (rSlA K) (tVar 3) tNoPart (tPart (tUn (rU fun i => .int (-i)) (tC (.int 1))))) (tVar 9))
      (tCons (tOp (fun x y H Q => y = V.non ∧ Q (V.bl (decide (x = V.non))) H) (tVar 8) (tC .non)) tNil)))
theorem nonT {z : V} {o : Option (List Str)} (h : Da K H z (optT o)) : decide (z = .non) = o.isNone := by
  rw [Da.nonV h]
  cases o <;> rfl
theorem key_tail {nm : Str} {dom fold : Option (List Str)} {host path : List Str} {hx hy : Addr} {z z' : V} {Q : VK} {σ : L2.St} (w2 : Da K H z (optT dom)) (w3 : Da K H z' (optT fold)) (h1 : SqT K H hx (host.map V.str)) (h2 : SqT K H hy (path.map V.str))
    (q : ∀ H' k, Same H H' → KyAt K H' k ⟨nm, dom.getD host, fold.getD path.dropLast, dom.isNone⟩ → Q (.ref k) H') (e2 : σ[2]? = some (some (.ref hx))) (e3 : σ[3]? = some (some (.ref hy))) (e6 : σ[6]? = some (some (.str nm))) (e8 : σ[8]? = some (some z)) (e9 : σ[9]? = some (some z')) :
    tTup (keyTA K) σ H Q := by
  have fin : ∀ (H1 : Hp) (kd kf : Addr) (fo : List Str), Same H H1 → SqT K H1 kd ((dom.getD host).map V.str) → SqT K H1 kf (fo.map V.str) → fo = fold.getD path.dropLast → ([V.str nm, .ref kd, .ref kf, .bl (decide (z = V.non))].length ≤ sizeLine ∧ ∀ p, H1 p = none → Q (.ref p) (upd H1 p (.tup [V.str nm, .ref kd, .ref kf, .bl (decide (z = V.non))]))) := by
    intro H1 kd kf fo s1 k1 k2 k3
    refine ⟨by show 4 ≤ sizeLine; decide, fun p np => ?_⟩
    have s2 : Same H1 (upd H1 p (.tup [V.str nm, .ref kd, .ref kf, .bl (decide (z = V.non))])) := same_new np
    rw [k3] at k2
    refine q _ p (s1.trans s2) ⟨kd, kf, ?_, sqT_same s2 k1, sqT_same s2 k2⟩
    have eb : decide (z = V.non) = dom.isNone := nonT w2
    rw [eb]
    exact SqT.of upd_same
  have mid : ∀ (kd : Addr), SqT K H kd ((dom.getD host).map V.str) → tCons (tIf (tTest (tOp (fun x y H Q => y = V.non ∧ Q (V.bl (decide (x = V.non))) H) (tVar 9) (tC .non))) (tSl (rSlA K) (tVar 3) tNoPart (tPart (tUn (rU fun i => .int (-i)) (tC (.int 1))))) (tVar 9))
      (tCons (tOp (fun x y H Q => y = V.non ∧ Q (V.bl (decide (x = V.non))) H) (tVar 8) (tC .non)) tNil) σ H fun vs H1 => ([V.str nm, .ref kd] ++ vs).length ≤ sizeLine ∧ ∀ p, H1 p = none → Q (.ref p) (upd H1 p (.tup ([V.str nm, .ref kd] ++ vs))) := by
    intro kd hk
    refine ⟨z', e9, rfl, _, rfl, ?_⟩
    rw [nonT w3]
    cases fold with
    | none =>
      refine iteT ⟨.ref hy, e3, 1, rfl, -1, rfl, hy, path.map V.str, rfl, h2, fun cw => ?_, fun _ p np => ?_⟩
      · exact ⟨z, e8, rfl, fin H kd hy path (Same.refl H) hk h2 (cut_whole cw.2).symm⟩
      · exact ⟨z, e8, rfl, fin _ kd p path.dropLast (same_new np) (sqT_same (same_new np) hk) (SqT.of (by rw [← cut_last]; exact upd_same)) rfl⟩
    | some fo =>
      obtain ⟨zz, rfl, hz, _⟩ := optT_str w3
      exact iteF ⟨.ref zz, e9, z, e8, rfl, fin H kd zz fo (Same.refl H) hk hz rfl⟩
  refine ⟨.str nm, e6, z, e8, rfl, _, rfl, ?_⟩
  rw [nonT w2]
  cases dom with
  | none => exact iteT ⟨.ref hx, e2, mid hx h1⟩
  | some d =>
    obtain ⟨zz, rfl, hz, _⟩ := optT_str w2
    exact iteF ⟨.ref zz, e8, mid zz hz⟩
end
section
variable {P : Program} {w : World} {K : PySem.W.Frag} {mg : Str → Option Value} {base : Heap}
/-- the key of a write, as the law has it -/
def spLKey (K : PySem.W.Frag) : Sp := fun vs H Q _ => ∃ (v u : V) (p : Pg) (wr : Wr), vs = [v, u] ∧ Da K H v p.py ∧ Da K H u wr.py ∧ pgFit p ∧ wrFit wr ∧ (takenM p.ad wr = false → ∀ H', Same H H' → Q .non H') ∧ (takenM p.ad wr = true → ∀ H' k, Same H H' → KyAt K H' k (keyM p.ad wr) → Q (.ref k) H')
theorem ok_law_key (T : Txt K mg) : Ok P w K mg base "_law_key" P__law_key 1 (spLKey K) := by
  refine T.d__law_key.ok sc__law_key (fun vs H Q E h => ?_) (fun f cdv A out s H vs Q E hr h => ?_)
  · obtain ⟨v, u, p, wr, rfl, _⟩ := h
    rfl
  · obtain ⟨v, u, p, wr, rfl, hp, hw, fp, fw, q0, q1⟩ := h
    refine ⟨_, (pss_cons (ps_asg (pv 0) (pg_tup rfl (pgs_cons (pg_tup rfl (pgs_cons (pg_name (i := 2) sc__law_key.nd rfl (Or.inl rfl)) (pgs_cons (pg_name (i := 3) sc__law_key.nd rfl (Or.inl rfl)) (pgs_cons (pg_name (i := 4) sc__law_key.nd rfl (Or.inl rfl)) pgs_nil)))) (pgs_cons (pg_name (i := 5) sc__law_key.nd rfl (Or.inl rfl)) pgs_nil))))
    (pss_cons (ps_asg (pv 1) (pg_tup rfl (pgs_cons (pg_name (i := 6) sc__law_key.nd rfl (Or.inl rfl)) (pgs_cons (pg_name (i := 7) sc__law_key.nd rfl (Or.inl rfl)) (pgs_cons (pg_name (i := 8) sc__law_key.nd rfl (Or.inl rfl)) (pgs_cons (pg_name (i := 9) sc__law_key.nd rfl (Or.inl rfl)) (pgs_cons (pg_name (i := 10) sc__law_key.nd rfl (Or.inl rfl)) pgs_nil)))))))
    (pss_cons (ps_if (PW.pt (pw_or (PW.pt (pw_and (pt_val (pv 10)) (pw_and1 (pt_not (pt_val (pv 4)))))) (pw_or1 (PW.pt (pw_and (pt_cmpR op_notN (pv 8) pe_non (nomark _)) (pw_and1 (pt_cmpR (op_neA hr.units) (pe_slice sl_tupA (pv 2) (po_some (pe_un un_neg (pe_callB call_len (by rfl) T.z_len (by decide +kernel) (pa_cons (pv 8) pa_nil)))) po_none) (pv 8) (nomark _)))))))) (pss_one (ps_ret pe_non)) pss_nil)
    (pss_one (ps_ret (pe_tup (pa_cons (pv 6) (pa_cons (pe_ifExp (pt_cmpR op_isN (pv 8) pe_non (nomark _)) (pv 2) (pv 8)) (pa_cons (pe_ifExp (pt_cmpR op_isN (pv 9) pe_non (nomark _)) (pe_slice sl_tupA (pv 3) po_none (po_some (pe_un un_neg pe_int))) (pv 9)) (pa_cons (pe_cmpR op_isN (pv 8) pe_non (nomark _)) pa_nil)))))))))), ?_⟩
    obtain ⟨b0, x0, y0, rfl, p1, p2, p3⟩ := da_pg hp
    obtain ⟨⟨host, path, sec⟩, ws⟩ := p
    obtain ⟨b, x, y, rfl, a1, a2, a3⟩ := da_ad p2
    obtain ⟨c, z, z', rfl, w1, w2, w3⟩ := da_wr hw
    obtain ⟨nm, val, dom, fold, grd⟩ := wr
    obtain ⟨hx, rfl, h1, hl1, hs⟩ := da_texts a2
    obtain ⟨hy, rfl, h2, _⟩ := da_strs a3
    refine ⟨.ref b0, rfl, b0, _, rfl, p1, rfl, _, _, rfl, b, _, rfl, a1, rfl, _, _, rfl, _, _, rfl, _, _, rfl, rfl, _, _, rfl, rfl, ?_⟩
    refine ⟨.ref c, rfl, c, _, rfl, w1, rfl, _, _, rfl, _, _, rfl, _, _, rfl, _, _, rfl, _, _, rfl, rfl, ?_⟩
    have ok1 : okStrs host := okT_strs (lo := 2) (hi := 5) (by
      have := fp.1
      unfold pgShape at this
      rw [Bool.and_eq_true, Bool.and_eq_true, Bool.and_eq_true] at this
      exact this.1.1.1)
    have ret : takenM ⟨host, path, sec⟩ ⟨nm, val, dom, fold, grd⟩ = true → ∀ H1, Same H H1 → tTup (keyTA K) [some (.ref b0), some (.ref c), some (.ref hx), some (.ref hy), some (.bl sec), some y0, some (.str nm), some (optV val), some z, some z', some (.bl grd)] H1 Q := fun hT H1 s1 =>
      key_tail (Da.same s1 _ _ w2) (Da.same s1 _ _ w3) (sqT_same s1 h1) (sqT_same s1 h2) (fun H' k s2 ka => q1 hT H' k (s1.trans s2) ka) rfl rfl rfl rfl rfl
    have rest : (!(grd && !sec)) = true → tIfS (tAnd (tTest (tOp (fun x y H Q => y = V.non ∧ Q (V.bl (!decide (x = V.non))) H) (tVar 8) (tC .non))) (tTest (tOp (rNeA K) (tSl (rSlA K) (tVar 2) (tPart (tUn (rU fun i => .int (-i)) (tCB (rLen K) (tCons (tVar 8) tNil)))) tNoPart) (tVar 8)))) (tRet (tC .non)) tNext { nx := fun σ H1 => tTup (keyTA K) σ H1 Q, rt := Q } [some (.ref b0), some (.ref c), some (.ref hx), some (.ref hy), some (.bl sec), some y0, some (.str nm), some (optV val), some z, some z', some (.bl grd)] H := by
      intro hg
      refine ⟨z, rfl, rfl, _, rfl, ?_⟩
      rw [nonT w2]
      cases dom with
      | none => exact iteF (iteF (ret (by show (!(grd && !sec) && true) = true; rw [hg]; rfl) H (Same.refl H)))
      | some d =>
        obtain ⟨zz, rfl, hz, hzl⟩ := optT_str w2
        have fd : okT' 2 5 d = true := by
          have := fw.1
          unfold wrShape at this
          rw [Bool.and_eq_true, Bool.and_eq_true] at this
          exact this.1.2
        have ok2 := okT_strs fd
        have ld : 2 ≤ d.length := by
          have := okT_len fd
          omega
        have eT : takenM ⟨host, path, sec⟩ ⟨nm, val, some d, fold, grd⟩ = within host d := by
          show (!(grd && !sec) && within host d) = _
          rw [hg]
          rfl
        have fin : ∀ (H1 : Hp) (e : Addr), Same H H1 → Da K H1 (.ref e) (.tuple ((host.drop (host.length - d.length)).map .str)) → rNeA K (.ref e) (.ref zz) H1 fun x H2 => ∃ k, x = .bl k ∧ (if k = true then Q .non H2 else tTup (keyTA K) [some (.ref b0), some (.ref c), some (.ref hx), some (.ref hy), some (.bl sec), some y0, some (.str nm), some (optV val), some (.ref zz), some z', some (.bl grd)] H2 Q) := by
          intro H1 e s1 de
          refine ⟨_, PyData.tuple (d.map .str), de, Da.same s1 _ _ w2, strs_shaped fun x hx => ok1 x (List.mem_of_mem_drop hx), strs_shaped ok2, _, rfl, ?_⟩
          rw [eqv_strs, end_within]
          cases hw' : within host d with
          | true => exact iteF (ret (eT.trans hw') H1 s1)
          | false => exact iteT (q0 (eT.trans hw') H1 s1)
        have ix : HT.sIx (host.map V.str).length 0 (some (-(((d.map V.str).length : Nat) : Int))) = host.length - d.length := by
          rw [List.length_map, List.length_map]
          show (if -(d.length : Int) < 0 then (-(d.length : Int) + (host.length : Int)).toNat else _) = _
          rw [if_pos (by omega)]
          omega
        refine iteT ⟨.ref hx, rfl, .ref zz, rfl, .ref zz, _, rfl, Or.inr ⟨_, hz, rfl⟩, _, rfl, _, rfl, hx, _, rfl, h1, fun cw => ?_, fun _ p np => ?_⟩
        · have e0 : host.length - d.length = 0 := by
            have := cw.1
            rw [ix] at this
            exact this
          refine ⟨.ref zz, rfl, fin H hx (Same.refl H) ?_⟩
          rw [e0]
          exact a2
        · have s1 : Same H (upd H p (.tup (cutV (host.map V.str) (some (-(((d.map V.str).length : Nat) : Int))) none))) := same_new np
          refine ⟨.ref zz, rfl, fin _ p s1 ?_⟩
          refine .tup (SqT.of upd_same) ?_ (by rw [List.length_map, List.length_drop]; omega)
          unfold cutV
          rw [ix, HT.sIx_none, List.take_of_length_le (by rw [List.length_drop]; exact Nat.le_refl _), ← List.map_drop]
          exact daStrs _ fun x hx => hs x (List.mem_of_mem_drop hx)
    refine ⟨.bl grd, rfl, grd, rfl, ?_⟩
    cases grd with
    | false => exact iteF (iteF (rest rfl))
    | true =>
      refine iteT ⟨.bl sec, rfl, sec, rfl, ?_⟩
      cases sec with
      | true => exact iteF (rest rfl)
      | false => exact iteT (iteT (q0 rfl H (Same.refl H)))
end
end S1
namespace S1
open PySem PySem.Spec PyProof.Rows L2 Jv
section
variable {P : Program} {w : World} {K : PySem.W.Frag} {mg : Str → Option Value} {base : Heap}
theorem takenL_step {a : Ad} {ws : List Wr} {i : Nat} {wr : Wr} (e : ws[i]? = some wr) : takenL a (ws.take (i + 1)) = takenL a (ws.take i) ++ (if takenM a wr then [(keyM a wr, wr.val, wr.grd)] else []) := by
  rw [List.take_add_one, e, takenL_app]
  rfl
def spLEff (K : PySem.W.Frag) (P : Program) (w : World) : Sp := fun vs H Q _ => ∃ v p, vs = [v] ∧ Da K H v (Pg.py p) ∧ pgFit p ∧ ∀ H' D kvs, Same H H' → H D = none → Nd K P w H' D kvs → EffAll K H' kvs (foundM (takenP p)) → Q (.ref D) H'
end
end S1
namespace S1
open PySem PySem.Spec PyProof.Rows L2 Jv
section
variable {P : Program} {w : World} {K : PySem.W.Frag} {mg : Str → Option Value} {base : Heap}
theorem pgFit.len {p : Pg} (h : pgFit p) : p.ws.length ≤ 5 := by
  have := h.1
  unfold pgShape at this
  rw [Bool.and_eq_true, Bool.and_eq_true, Bool.and_eq_true] at this
  exact of_decide_eq_true this.1.2
/-- the dict's keys are these -/
def KeysAre (K : PySem.W.Frag) (P : Program) (w : World) (H : Hp) (F : Addr) (ks : List Ky) (m : Nat) : Prop := ∃ kvs, Nd K P w H F kvs ∧ (kvs.map (·.1)).Nodup ∧ (∀ k, k ∈ kvs.map (·.1) ↔ k ∈ ks) ∧ kvs.length ≤ m
theorem KeysAre.put {H : Hp} {F a : Addr} {ks : List Ky} {m : Nat} {k : Ky} {v : V} {Q : Hp → Prop} (h : KeysAre K P w H F ks m) (ka : KyAt K H a k) (hm : m < 1000) (q : ∀ H', TupS H H' → (∀ b, b ≠ F → H' b = H b) → KeysAre K P w H' F (ks ++ [k]) (m + 1) → Q H') : rNput K P w (.ref F) (.ref a) v H Q := by
  obtain ⟨kvs, nd, nn, hk, kl⟩ := h
  refine ⟨F, a, kvs, k, rfl, rfl, nd, ka, Nat.lt_of_le_of_lt kl (Nat.lt_of_lt_of_le hm (by decide)), fun H9 hb9 nd9 => ?_⟩
  refine q H9 (nd.but hb9) hb9 ⟨_, nd9, ?_, fun k' => ?_, Nat.le_trans (length_putK _ _ _) (Nat.succ_le_succ kl)⟩
  · rw [putK_E _ nn]
    exact putE_nodup nn _ _
  · rw [putK_E _ nn, putE_keys, List.mem_append, List.mem_singleton, ← hk k']
    split
    · rename_i z
      exact ⟨Or.inl, fun e => e.elim id fun e => e ▸ z⟩
    · rw [List.mem_append, List.mem_singleton]
def spLKeys (K : PySem.W.Frag) : Sp := fun vs H Q _ => ∃ v s, vs = [v] ∧ Da K H v (sitePy s) ∧ siteFit s ∧ ∀ H' t as ls, Same H H' → H t = none → H' t = some (.lst (as.map V.ref)) → KyAll K H' as (kySort ls) → ls.Nodup → (∀ k, k ∈ ls ↔ k ∈ siteTw s) → ls.length ≤ 25 → Q (.ref t) H'
theorem ok_law_keys (T : Txt K mg) : Ok P w K mg base "_law_keys" P__law_keys 2 (spLKeys K) := by
  have ok__law_key : Ok P w K mg base "_law_key" P__law_key 1 (spLKey K) := ok_law_key T
  refine T.d__law_keys.ok sc__law_keys (fun vs H Q E h => ?_) (fun f cdv A out s H vs Q E hr h => ?_)
  · obtain ⟨v, p, rfl, _⟩ := h
    rfl
  · obtain ⟨v, si, rfl, hp, fs, q⟩ := h
    refine ⟨_, (pss_cons (ps_set (i := 1) sc__law_keys.nd rfl (Or.inl rfl) pe_dnewN)
    (pss_cons (ps_for PassesOwn.never rfl (pi_tup (pv 0)) (pg_name (i := 2) sc__law_keys.nd rfl (Or.inl rfl)) (pss_one (ps_for PassesOwn.never rfl (pi_tup (pe_ix ix_tup (pv 2) pe_int (fun _ _ => rfl))) (pg_name (i := 3) sc__law_keys.nd rfl (Or.inl rfl)) (pss_cons (ps_set (i := 4) sc__law_keys.nd rfl (Or.inl rfl) (pe_ok ok__law_key (hr.mono (by decide)) (pa_cons (pv 2) (pa_cons (pv 3) pa_nil))))
        (pss_one (ps_if (pt_cmpR op_notN (pv 4) pe_non (nomark _)) (pss_one (ps_asg pe_bl (pg_sub (pv 1) (pv 4) (show PSet _ (rNput K P w) from set_nd (hn_of hr))))) pss_nil))))))
    (pss_one (ps_ret (pe_callB (show CallR _ _ (rSortD K P w) from cr_sortD rfl (hb_of hr)) (by rfl) T.z_sorted (by decide +kernel) (pa_cons (pv 1) pa_nil)))))), ?_⟩
    intro F nF
    have s0 : Same H (upd H F (NdO P w F [])) := same_new nF
    obtain ⟨a, ps, rfl, h1, nl1, h2⟩ := da_seq hp
    refine ⟨.ref a, rfl, a, rfl, ⟨ps, sqT_same s0 h1⟩, for_it (walk_tup (xs := ps)) (fun i σ H' => (∃ x y z, σ = [some (.ref a), some (.ref F), x, y, z]) ∧ Same H H' ∧ KeysAre K P w H' F (siteTw (si.take i)) (5 * i))
      ⟨⟨_, _, _, rfl⟩, s0, [], nd_new, List.nodup_nil, fun k => Iff.rfl, Nat.zero_le _⟩ (fun i σ H' hi pv => sqT_same pv.2.1 h1) (fun i u σ H5 H6 hlt pv yy => ?_) fun σ H5 pv => ?_⟩
    · obtain ⟨⟨y1, y2, y3, rfl⟩, sB, kB⟩ := pv
      obtain ⟨rfl, e1⟩ := yy
      obtain ⟨p, e2, dp⟩ := da_nth h2 e1
      have ilt : i < ps.length := hlt
      have fp := fs.2.2 p (List.mem_of_getElem? e2)
      have l5 := fp.len
      have step : siteTw (si.take (i + 1)) = siteTw (si.take i) ++ (takenL p.ad p.ws).map (·.1) := by
        rw [List.take_add_one, e2]
        exact siteTw_snoc _ _
      obtain ⟨b, x, y, rfl, p1, p2, p3⟩ := da_pg dp
      obtain ⟨c, xs, rfl, h4, nl, h5⟩ := da_seq p3
      refine ⟨.ref b, rfl, b, _, 1, .ref c, rfl, rfl, sqT_same sB p1, rfl, c, rfl, ⟨xs, sqT_same sB h4⟩, for_it (walk_tup (xs := xs)) (fun j σ H' => (∃ x y, σ = [some (.ref a), some (.ref F), some (.ref b), x, y]) ∧ Same H H' ∧ KeysAre K P w H' F (siteTw (si.take i) ++ (takenL p.ad (p.ws.take j)).map (·.1)) (5 * i + j))
        ⟨⟨_, _, rfl⟩, sB, ?_⟩ (fun j σ H' hj pv => sqT_same pv.2.1 h4) (fun j u' σ H7 H8 jlt pv yy => ?_) fun σ H7 pv => ?_⟩
      · show KeysAre K P w _ F (siteTw (si.take i) ++ []) (5 * i)
        rw [List.append_nil]
        exact kB
      · obtain ⟨⟨y1, y2, rfl⟩, sC, kC⟩ := pv
        obtain ⟨rfl, g1⟩ := yy
        obtain ⟨wr, g2, hw⟩ := da_nth h5 g1
        have st := takenL_step (a := p.ad) g2
        have jl : j < xs.length := jlt
        refine ⟨.ref b, rfl, u', rfl, .ref b, u', p, wr, rfl, Da.same sC _ _ dp, Da.same sC _ _ hw, fp, fp.2 wr (List.mem_of_getElem? g2), fun ht H9 s9 => ?_, fun ht H9 k s9 ka => ?_⟩
        · rw [ht] at st
          obtain ⟨kvs, nd, nn, hk, kl⟩ := kC
          refine ⟨.non, rfl, rfl, _, rfl, iteF ⟨⟨_, _, rfl⟩, sC.trans s9, kvs, nd.same s9, nn, fun k' => ?_, Nat.le_succ_of_le kl⟩⟩
          rw [st, hk k']
          simp
        · rw [ht] at st
          have k9 : KeysAre K P w H9 F (siteTw (si.take i) ++ (takenL p.ad (p.ws.take j)).map (·.1)) (5 * i + j) := by
            obtain ⟨kvs, nd, r⟩ := kC
            exact ⟨kvs, nd.same s9, r⟩
          refine ⟨.ref k, rfl, rfl, _, rfl, iteT ⟨.ref F, rfl, .ref k, rfl, k9.put ka (by have := fs.2.1; omega) fun H10 t10 hb10 kk => ⟨⟨_, _, rfl⟩, fun b' o eb => ?_, ?_⟩⟩⟩
          · have nb : b' ≠ F := by
              rintro rfl
              rw [nF] at eb
              cases eb
            rw [hb10 b' nb]
            exact (sC.trans s9) _ _ eb
          · rw [st]
            rw [List.append_assoc] at kk
            rw [Nat.add_assoc] at kk
            simpa using kk
      · obtain ⟨⟨y1, y2, rfl⟩, sC, kC⟩ := pv
        rw [nl, List.take_length] at kC
        refine ⟨⟨_, _, _, rfl⟩, sC, ?_⟩
        rw [step]
        obtain ⟨kvs, nd, nn, hk, kl⟩ := kC
        exact ⟨kvs, nd, nn, hk, by omega⟩
    · obtain ⟨⟨y1, y2, y3, rfl⟩, sB, kvs, nd, nn, hk, kl⟩ := pv
      rw [nl1, List.take_length] at hk
      have := fs.2.1
      refine ⟨.ref F, rfl, F, kvs, rfl, nd, by omega, fun q' as kall nq => ?_⟩
      have sq : Same H5 (upd H5 q' (.lst (as.map V.ref))) := same_new nq
      have nq0 : H q' = none := by
        cases z : H q' with
        | none => rfl
        | some o =>
          rw [sB _ _ z] at nq
          cases nq
      exact q _ q' as (kvs.map (·.1)) (sB.trans sq) nq0 upd_same (kall.same sq) nn hk (by rw [List.length_map]; omega)
end
end S1
/-! last visits -/
namespace S1
open PySem PySem.Spec PyProof.Rows L2 Jv
abbrev Eff := Option (Str × Bool)
def effP (p : Pg) (k : Ky) : Option Eff := getE (foundM (takenP p)) k
/-- the effect of the last page of the row that has one -/
def lastE (s : List Pg) : List Nat → Ky → Option Eff
  | [], _ => none
  | n :: r, k => match lastE s r k with
    | some e => some e
    | none => (s[n]?).bind fun p => effP p k
theorem lastE_cons (s : List Pg) (n : Nat) (r : List Nat) (k : Ky) : lastE s (n :: r) k = (match lastE s r k with
    | some e => some e
    | none => (s[n]?).bind fun p => effP p k) := rfl
theorem doWs_get (t : Tab) (ts : List (Ky × Option Str × Bool)) (k : Ky) : getE (doWs t ts) k = match getE (foundM ts) k with
    | some e => e
    | none => getE t k := by
  suffices h : ∀ us : List (Ky × Option Str × Bool), getE (doWs t us.reverse) k = match getE (foundM us.reverse) k with
      | some e => e
      | none => getE t k by
    have := h ts.reverse
    rwa [List.reverse_reverse] at this
  intro us
  induction us with
  | nil => rfl
  | cons w us ih =>
    rw [List.reverse_cons, foundM_snoc]
    have e : doWs t (us.reverse ++ [w]) = doW (doWs t us.reverse) w := by
      unfold doWs
      rw [List.foldl_append]
      rfl
    rw [e, getE_put]
    obtain ⟨k', o, g⟩ := w
    cases o with
    | none =>
      show getE (List.filter _ _) k = _
      rw [getE_drop]
      by_cases z : k' = k
      · rw [if_pos z, if_pos z]
        rfl
      · rw [if_neg z, if_neg z]
        exact ih
    | some v =>
      show getE (putE _ k' (v, g)) k = _
      rw [getE_put]
      by_cases z : k' = k
      · rw [if_pos z, if_pos z]
        rfl
      · rw [if_neg z, if_neg z]
        exact ih
theorem rowTab_get (s : List Pg) (k : Ky) : ∀ (row : List Nat) (t : Tab), getE (rowTab s t row) k = match lastE s row k with
    | some e => e
    | none => getE t k
  | [], t => rfl
  | n :: r, t => by
    show getE (rowTab s (match s[n]? with
      | some p => doWs t (takenP p)
      | none => t) r) k = _
    rw [rowTab_get s k r, lastE_cons]
    cases lastE s r k with
    | some e => rfl
    | none =>
      cases h : s[n]? with
      | none => rfl
      | some p =>
        show getE (doWs t (takenP p)) k = _
        rw [doWs_get]
        rfl
theorem rowTab_nodup (s : List Pg) : ∀ (row : List Nat) (t : Tab), (t.map (·.1)).Nodup → ((rowTab s t row).map (·.1)).Nodup
  | [], t, h => h
  | n :: r, t, h => by
    show ((rowTab s (match s[n]? with
      | some p => doWs t (takenP p)
      | none => t) r).map (·.1)).Nodup
    refine rowTab_nodup s r _ ?_
    cases s[n]? with
    | none => exact h
    | some p => exact doWs_nodup h _
theorem rowTab_app (s : List Pg) (t : Tab) (a b : List Nat) : rowTab s t (a ++ b) = rowTab s (rowTab s t a) b := by
  unfold rowTab
  rw [List.foldl_append]
/-- visit by visit -/
theorem behind_step {s : List Pg} {row : List Nat} {n : Nat} {p : Pg} (e : s[n]? = some p) : jarAfterM (behindM s row) (takenP p) = behindM s (row ++ [n]) := by
  unfold behindM
  rw [jarAfter_table (rowTab_nodup s row [] List.nodup_nil), rowTab_app]
  congr 1
  show doWs _ _ = (match s[n]? with
    | some p => doWs (rowTab s [] row) (takenP p)
    | none => rowTab s [] row)
  rw [e]
theorem found_keys (ts : List (Ky × Option Str × Bool)) (k : Ky) : k ∈ (foundM ts).map (·.1) ↔ k ∈ ts.map (·.1) := by
  suffices h : ∀ us : List (Ky × Option Str × Bool), k ∈ (foundM us.reverse).map (·.1) ↔ k ∈ us.reverse.map (·.1) by
    have := h ts.reverse
    rwa [List.reverse_reverse] at this
  intro us
  induction us with
  | nil => exact Iff.rfl
  | cons w us ih =>
    rw [List.reverse_cons, foundM_snoc, putE_keys, List.map_append, List.mem_append, ← ih]
    split
    · rename_i z
      refine ⟨Or.inl, fun h => h.elim id fun h => ?_⟩
      rw [show k = w.1 by simpa using h]
      exact z
    · rw [List.mem_append]
      simp
theorem getE_none {β : Type} {l : List (Ky × β)} {k : Ky} (h : k ∉ l.map (·.1)) : getE l k = none := by
  induction l with
  | nil => rfl
  | cons p l ih =>
    rw [List.map_cons, List.mem_cons, not_or] at h
    unfold getE
    rw [if_neg (fun z => h.1 z.symm)]
    exact ih h.2
theorem getE_some {β : Type} {l : List (Ky × β)} {k : Ky} {v : β} (h : getE l k = some v) : k ∈ l.map (·.1) := by
  by_cases z : k ∈ l.map (·.1)
  · exact z
  · rw [getE_none z] at h
    cases h
theorem lastE_key {s : List Pg} {k : Ky} {e : Eff} : ∀ {row : List Nat}, lastE s row k = some e → k ∈ siteTw s
  | [], h => by cases h
  | n :: r, h => by
    rw [lastE_cons] at h
    cases z : lastE s r k with
    | some e' => exact lastE_key z
    | none =>
      rw [z] at h
      cases q : s[n]? with
      | none =>
        rw [q] at h
        cases h
      | some p =>
        rw [q] at h
        have h : effP p k = some e := h
        have m := (found_keys _ k).mp (getE_some h)
        unfold siteTw
        exact List.mem_flatMap.mpr ⟨p, List.mem_of_getElem? q, m⟩
/-- what is kept behind the row, by last visits, of these keys -/
def keptT (s : List Pg) (row : List Nat) (ks : List Ky) : Tab := ks.filterMap fun k => match lastE s row k with
  | some (some e) => some (k, e)
  | _ => none
theorem mem_keptT {s : List Pg} {row : List Nat} {ks : List Ky} {k : Ky} {e : Str × Bool} : (k, e) ∈ keptT s row ks ↔ k ∈ ks ∧ lastE s row k = some (some e) := by
  unfold keptT
  rw [List.mem_filterMap]
  constructor
  · rintro ⟨k', hk, h⟩
    split at h
    · rename_i e' q
      cases h
      exact ⟨hk, q⟩
    · cases h
  · rintro ⟨hk, h⟩
    exact ⟨k, hk, by rw [h]⟩
theorem keptT_keys (s : List Pg) (row : List Nat) : ∀ ks : List Ky, ((keptT s row ks).map (·.1)).Sublist ks
  | [] => List.Sublist.slnil
  | k :: ks => by
    have ih := keptT_keys s row ks
    have e : keptT s row (k :: ks) = (match lastE s row k with
      | some (some e) => (k, e) :: keptT s row ks
      | _ => keptT s row ks) := by
      unfold keptT
      rw [List.filterMap_cons]
      rcases lastE s row k with _ | _ | e <;> rfl
    rw [e]
    rcases lastE s row k with _ | _ | e
    · exact List.Sublist.cons _ ih
    · exact List.Sublist.cons _ ih
    · exact List.Sublist.cons₂ _ ih
theorem kept_perm {s : List Pg} {row : List Nat} {ks : List Ky} (hn : ks.Nodup) (hk : ∀ k, k ∈ siteTw s → k ∈ ks) : (keptT s row ks).Perm (rowTab s [] row) := by
  have n2 := rowTab_nodup s row [] List.nodup_nil
  have n1 : ((keptT s row ks).map (·.1)).Nodup := hn.sublist (keptT_keys s row ks)
  have nd : ∀ {l : Tab}, (l.map (·.1)).Nodup → l.Nodup := fun {l} h => by
    induction l with
    | nil => exact List.nodup_nil
    | cons p l ih =>
      rw [List.map_cons] at h
      obtain ⟨a, b⟩ := List.nodup_cons.mp h
      exact List.nodup_cons.mpr ⟨fun m => a (List.mem_map.mpr ⟨p, m, rfl⟩), ih b⟩
  refine (List.perm_ext_iff_of_nodup (nd n1) (nd n2)).mpr fun ⟨k, e⟩ => ?_
  rw [mem_keptT, getE_iff n2, rowTab_get]
  constructor
  · rintro ⟨_, h⟩
    rw [h]
  · intro h
    cases q : lastE s row k with
    | none =>
      rw [q] at h
      cases h
    | some e' =>
      rw [q] at h
      have h : e' = some e := h
      exact ⟨hk k (lastE_key q), by rw [h]⟩
theorem jar_sorted {s : List Pg} {row : List Nat} {ks : List Ky} (hn : ks.Nodup) (hk : ∀ k, k ∈ siteTw s → k ∈ ks) : kpSort (behindM s row) = kpSort ((keptT s row ks).map Tab.kp) :=
  kpSort_one ((jarSort_perm _).trans ((kept_perm hn hk).map Tab.kp).symm)
/-! ### unlike pages in the order of their last visits -/
theorem lastE_app (s : List Pg) (k : Ky) : ∀ a b : List Nat, lastE s (a ++ b) k = match lastE s b k with
    | some e => some e
    | none => lastE s a k
  | [], b => by
    show lastE s b k = _
    cases lastE s b k <;> rfl
  | n :: a, b => by
    show (match lastE s (a ++ b) k with
      | some e => some e
      | none => (s[n]?).bind fun p => effP p k) = _
    rw [lastE_app s k a b]
    cases lastE s b k with
    | some e => rfl
    | none => rfl
theorem lastE_mem {s : List Pg} {k : Ky} {n : Nat} {e : Eff} : ∀ {r : List Nat}, n ∈ r → ((s[n]?).bind fun p => effP p k) = some e → ∃ e', lastE s r k = some e'
  | [], h, _ => by cases h
  | m :: r, h, q => by
    rw [lastE_cons]
    cases z : lastE s r k with
    | some e' => exact ⟨e', rfl⟩
    | none =>
      rcases List.mem_cons.mp h with rfl | h
      · exact ⟨e, q⟩
      · obtain ⟨e', h'⟩ := lastE_mem h q
        rw [z] at h'
        cases h'
theorem lastE_skip {s : List Pg} {k : Ky} {n : Nat} {a r : List Nat} (h : n ∈ r) : lastE s (a ++ n :: r) k = lastE s (a ++ r) k := by
  have e1 : lastE s (n :: r) k = (match lastE s r k with
    | some e => some e
    | none => (s[n]?).bind fun p => effP p k) := rfl
  rw [lastE_app, lastE_app, e1]
  cases z : lastE s r k with
  | some e => rfl
  | none =>
    cases q : (s[n]?).bind fun p => effP p k with
    | none => rfl
    | some e =>
      obtain ⟨e', h'⟩ := lastE_mem h q
      rw [z] at h'
      cases h'
theorem keptT_same {s : List Pg} {row row' : List Nat} {ks : List Ky} (h : ∀ k, lastE s row k = lastE s row' k) : keptT s row ks = keptT s row' ks := by
  unfold keptT
  congr 1
  funext k
  rw [h k]
end S1
/-! sorted(list | tuple) of flat data -/
namespace Jv
open PySem PySem.Spec PyProof.Rows L2
mutual
theorem Da.readsF {X : Cx} {pn : List (Addr × Obj)} {sg : L2.St} {H : Hp} {s : Shared} (I : Inv X pn sg H s) : ∀ (d : PyData) (v : V) (u : Value), flat d = true → Da X.K H v d → RelV v u → Reads s.heap u d []
  | .none, _, _, _, h, r => by
    cases h
    cases r
    exact Reads.none
  | .bool b, _, _, _, h, r => by
    cases h
    cases r
    exact Reads.bool b
  | .int i, _, _, _, h, r => by
    cases h
    obtain ⟨t, rfl⟩ := r
    exact Reads.int i t
  | .str x, _, _, _, h, r => by
    cases h
    obtain ⟨t, rfl⟩ := r
    exact Reads.str x t
  | .list ds, _, _, f, _, _ => by cases f
  | .tuple ds, _, _, f, h, r => by
    cases h with
    | tup h1 h2 hz =>
      cases r
      obtain ⟨its, rv, ⟨o, ho, hc, n, hd⟩, _⟩ := I.tuple h1
      exact Reads.tuple ho hc hd (DaAll.readsF I ds _ its f h2 rv)
  | .dict kvs, _, _, f, _, _ => by cases f
theorem DaAll.readsF {X : Cx} {pn : List (Addr × Obj)} {sg : L2.St} {H : Hp} {s : Shared} (I : Inv X pn sg H s) : ∀ (ds : List PyData) (vs : List V) (us : List Value), flatAll ds = true → DaAll X.K H vs ds → Vals vs us → ReadsAll s.heap us ds []
  | [], _, _, _, h, r => by
    cases h
    cases r
    exact ReadsAll.nil
  | d :: ds, _, _, f, h, r => by
    rw [flatAll, Bool.and_eq_true] at f
    cases h with
    | cons h1 h2 =>
      cases r with
      | cons r1 r2 => exact ReadsAll.cons (Da.readsF I d _ _ f.1 h1 r1) (DaAll.readsF I ds _ _ f.2 h2 r2)
end
theorem paired_da {K : PySem.W.Frag} {H : Hp} {β : Type} {enc : β → PyData} : ∀ {bs : List β} {xs : List V}, DaAll K H xs (bs.map enc) → Paired (fun v b => Da K H v (enc b)) xs bs
  | [], _, h => by
    have h : DaAll K H _ [] := h
    cases h
    exact .nil
  | b :: bs, _, h => by
    have h : DaAll K H _ (enc b :: bs.map enc) := h
    cases h with
    | cons h1 h2 => exact .cons h1 (paired_da h2)
theorem da_paired {K : PySem.W.Frag} {H : Hp} {β : Type} {enc : β → PyData} {bs : List β} {xs : List V} (h : Paired (fun v b => Da K H v (enc b)) xs bs) : DaAll K H xs (bs.map enc) := by
  induction h with
  | nil => exact .nil
  | cons r t ih => exact .cons r ih
/-- sorted(l) -/
def rSortDa {β : Type} (K : PySem.W.Frag) (enc : β → PyData) : List V → Hp → VK → Prop := fun vs H Q => ∃ (l : Addr) (xs : List V) (bs : List β), vs = [.ref l] ∧ (SqL K H l xs ∨ SqT K H l xs) ∧ DaAll K H xs (bs.map enc) ∧ bs.length ≤ 1000 ∧
  ∀ p ys, DaAll K H ys ((bs.mergeSort (PySem.W.dataLe false enc)).map enc) → H p = none → Q (.ref p) (upd H p (.lst ys))
theorem cr_sortDa {β : Type} {X : Cx} (enc : β → PyData) (hu : X.A.units + 64 < cLine) (al : ∀ b b', PySem.W.alike (enc b) (enc b') = true) (tup : ∀ b, ∃ x r, enc b = .tuple (x :: r)) (fl : ∀ b, flat (enc b) = true) (dp : ∀ b, (enc b).depth ≤ 60) : CallR X (.builtin "sorted") (rSortDa X.K enc) := by
  intro pn s sg H vs us Qq I r1 hyp
  obtain ⟨l, xs, bs, rfl, hL, pr, hz, q⟩ := hyp
  obtain ⟨u, rfl, r2⟩ := vals1 r1
  cases (show u = Value.ref l from r2)
  have nx : xs.length = bs.length := by rw [DaAll.len pr, List.length_map]
  obtain ⟨T, o, its, n, hT, ho, hc, hd, rv⟩ : ∃ (T : String) (o : Obj) (its : List Value) (n : Nat), (T = "list" ∨ T = "tuple") ∧ s.heap.get? l = some o ∧ o.cls = .type T ∧ o.data = .seq its.toArray n ∧ Vals xs its := by
    rcases hL with hL | hL
    · obtain ⟨its, rv, pl, _⟩ := I.list hL
      obtain ⟨o, ho, hc, n, hd⟩ := pl.isList
      exact ⟨_, o, its, n, .inl rfl, ho, hc, hd, rv⟩
    · obtain ⟨its, rv, ⟨o, ho, hc, n, hd⟩, _⟩ := I.tuple hL
      exact ⟨_, o, its, n, .inr rfl, ho, hc, hd, rv⟩
  have ni : its.length = bs.length := by rw [← rv.length, nx]
  have hZ : bs.length ≤ sizeLine := Nat.le_trans hz (by decide)
  refine Calls.call_function_entry PyProof.Rows.kind_sorted PyProof.Rows.plain_sorted PyProof.Rows.entry_sorted (PyProof.Rows.args_sorted1 _) ?_
  unfold Builtin.«sorted»
  refine wpAny_bind (m := checkCount "sorted" 1 1 _) (wpAny_pure (wpAny_bind (wpAny_collect_seq l hT ho hc hd (fun h' hk => ?_) (by rw [List.size_toArray, ni]; exact hZ))))
  have I1 : Inv X pn sg H { s with heap := h', toks := s.toks } := I.kept (t' := s.toks) hk
  rw [List.toList_toArray]
  refine wpAny_bind (wpAny_newList ?_ (by rw [ni]; exact hZ))
  have here : (h'.push (seqObj "list" its.toArray 0)).get? h'.objs.size = some (seqObj "list" its.toArray 0) := Heap.get?_push_size _ rfl
  have I2 : Inv X pn sg H { s with heap := h'.push (seqObj "list" its.toArray 0), toks := s.toks } := I1.kept (t' := s.toks) fun b o e => Heap.get?_push_of_some _ e
  have ea := each_it (It := fun v b => Da X.K H v (enc b)) (paired_da pr) rv
  have er : PySem.W.EachIs (fun v b => ∃ zs, Reads (h'.push (seqObj "list" its.toArray 0)) v (enc b) zs ∧ h'.objs.size ∉ zs) its bs :=
    ea.mono fun v b ⟨y, r, z⟩ => ⟨[], Da.readsF I2 _ _ _ (fl b) z r, by simp⟩
  refine wpAny_bind (wpAny_holding (PySem.W.list_sort_data (s := { s with heap := h'.push (seqObj "list" its.toArray 0) }) (R := fun u b => ∃ v, RelV v u ∧ Da X.K H v (enc b)) (enc := enc) here ea er
    (PySem.W.AllAlike.of al) (PySem.W.Sortable.tuples tup) hZ (fun k _ => ?_) fun out ol eo => ?_))
  · have := dp k
    show X.A.units + 1 + 1 + _ < cLine
    omega
  · obtain ⟨ys, ry, py⟩ := it_each eo
    obtain ⟨e', he'⟩ := PyProof.Rows.sortedHeap_at (vs := its) (out := out.toArray) here
    have bl : ys.length ≤ sizeLine := by
      rw [ry.length, ol]
      exact hZ
    refine wpAny_pure ⟨_, rfl, .ref h'.objs.size, upd H h'.objs.size (.lst ys), I1.laid (t' := s.toks) (fun b u e => ?_) (Nat.le_refl _) (show ObjOk X.prog X.w _ _ _ (.lst ys) from ⟨bl, out, e', ry, he'⟩), rfl, q _ ys (da_paired py) (I1.hok.fresh (Nat.le_refl _))⟩
    have low : b < h'.objs.size := Heap.lt_size e
    rw [PyProof.Rows.sortedHeap_old (Nat.ne_of_lt low) (by rw [size_push']; exact Nat.lt_succ_of_lt low)]
    exact Heap.get?_push_of_some _ e
end Jv
namespace S1
open PySem PySem.Spec PyProof.Rows L2 Jv
theorem kp_alike (a b : Kp) : PySem.W.alike a.py b.py = true := by
  unfold Kp.py
  have := Ky.alike a.key b.key
  simp [PySem.W.alike, PySem.W.alikeAll, this]
theorem kp_tup (a : Kp) : ∃ x r, a.py = .tuple (x :: r) := ⟨_, _, rfl⟩
theorem kp_dp (a : Kp) : a.py.depth ≤ 60 := by
  rw [kp_depth]
  decide
/-! ### what is kept has the form -/
theorem taken_mem {a : Ad} {t : Ky × Option Str × Bool} : ∀ {ws : List Wr}, t ∈ takenL a ws → ∃ wr ∈ ws, t = (keyM a wr, wr.val, wr.grd)
  | [], h => by cases h
  | wr :: ws, h => by
    unfold takenL at h
    split at h
    · rcases List.mem_cons.mp h with e | h
      · exact ⟨wr, List.mem_cons_self, e⟩
      · obtain ⟨u, hu, e⟩ := taken_mem h
        exact ⟨u, List.mem_cons_of_mem _ hu, e⟩
    · obtain ⟨u, hu, e⟩ := taken_mem h
      exact ⟨u, List.mem_cons_of_mem _ hu, e⟩
theorem okT_drop {hi : Int} {xs : List Str} (h : okT' 0 hi xs = true) : okT' 0 hi xs.dropLast = true := by
  unfold okT' at h ⊢
  rw [Bool.and_eq_true, Bool.and_eq_true, decide_eq_true_eq, decide_eq_true_eq, List.all_eq_true] at h ⊢
  obtain ⟨⟨h1, h2⟩, h3⟩ := h
  refine ⟨⟨by omega, ?_⟩, fun x hx => h3 x (List.dropLast_subset xs hx)⟩
  rw [List.length_dropLast]
  omega
theorem key_fit {p : Pg} {t : Ky × Option Str × Bool} (fp : pgFit p) (h : t ∈ takenP p) : kyShape t.1 = true ∧ ∀ x, t.2.1 = some x → okW sgs x = true := by
  obtain ⟨wr, hw, rfl⟩ := taken_mem h
  have fw := fp.2 wr hw
  refine ⟨?_, fw.2⟩
  have h1 := fp.1
  unfold pgShape at h1
  rw [Bool.and_eq_true, Bool.and_eq_true, Bool.and_eq_true] at h1
  obtain ⟨⟨⟨a1, a2⟩, _⟩, _⟩ := h1
  have h2 := fw.1
  unfold wrShape at h2
  rw [Bool.and_eq_true, Bool.and_eq_true] at h2
  obtain ⟨⟨b1, b2⟩, b3⟩ := h2
  unfold kyShape keyM
  dsimp only
  rw [b1, Bool.true_and, Bool.and_eq_true]
  constructor
  · cases e : wr.dom with
    | none => exact a1
    | some d =>
      rw [e] at b2
      exact b2
  · cases e : wr.fold with
    | none => exact okT_drop a2
    | some d =>
      rw [e] at b3
      exact b3
theorem okW_len {z x : Str} (h : okW z x = true) : x.length ≤ 6 := by
  unfold okW at h
  rw [Bool.and_eq_true, Bool.and_eq_true, decide_eq_true_eq, decide_eq_true_eq] at h
  omega
theorem okT_lens {lo hi : Int} {xs : List Str} (h : okT' lo hi xs = true) : (xs.length : Int) ≤ hi ∧ ∀ x ∈ xs, x.length ≤ 6 := by
  unfold okT' at h
  rw [Bool.and_eq_true, Bool.and_eq_true, decide_eq_true_eq, decide_eq_true_eq, List.all_eq_true] at h
  exact ⟨h.1.2, fun x hx => okW_len (h.2 x hx)⟩
theorem ky_sz {k : Ky} (h : kyShape k = true) : k.Sz := by
  unfold kyShape at h
  rw [Bool.and_eq_true, Bool.and_eq_true] at h
  obtain ⟨⟨h1, h2⟩, h3⟩ := h
  obtain ⟨d1, d2⟩ := okT_lens h2
  obtain ⟨f1, f2⟩ := okT_lens h3
  exact ⟨Nat.le_trans (okW_len h1) (by decide), ⟨by omega, fun x hx => Nat.le_trans (d2 x hx) (by decide)⟩, ⟨by omega, fun x hx => Nat.le_trans (f2 x hx) (by decide)⟩⟩
theorem found_val {k : Ky} {e : Str × Bool} {ts : List (Ky × Option Str × Bool)} (h : getE (foundM ts) k = some (some e)) : ∃ t ∈ ts, t.1 = k ∧ t.2.1 = some e.1 := by
  suffices g : ∀ us : List (Ky × Option Str × Bool), getE (foundM us.reverse) k = some (some e) → ∃ t ∈ us.reverse, t.1 = k ∧ t.2.1 = some e.1 by
    have := g ts.reverse
    rw [List.reverse_reverse] at this
    exact this h
  intro us
  induction us with
  | nil => exact fun h => by cases h
  | cons w us ih =>
    rw [List.reverse_cons, foundM_snoc, getE_put]
    intro h
    by_cases z : w.1 = k
    · rw [if_pos z] at h
      obtain ⟨k', o, g⟩ := w
      refine ⟨_, List.mem_append_right _ List.mem_cons_self, z, ?_⟩
      cases o with
      | none => cases h
      | some x =>
        cases h
        rfl
    · rw [if_neg z] at h
      obtain ⟨t, ht, r⟩ := ih h
      exact ⟨t, List.mem_append_left _ ht, r⟩
theorem site_key {s : List Pg} {k : Ky} (fs : siteFit s) (h : k ∈ siteTw s) : kyShape k = true := by
  unfold siteTw at h
  obtain ⟨p, hp, hk⟩ := List.mem_flatMap.mp h
  obtain ⟨t, ht, rfl⟩ := List.mem_map.mp hk
  exact (key_fit (fs.2.2 p hp) ht).1
theorem effP_val {p : Pg} {k : Ky} {e : Str × Bool} (fp : pgFit p) (h : effP p k = some (some e)) : kyShape k = true ∧ okW sgs e.1 = true := by
  obtain ⟨t, ht, rfl, e2⟩ := found_val h
  obtain ⟨a, b⟩ := key_fit fp ht
  exact ⟨a, b _ e2⟩
def effN (s : List Pg) (n : Nat) (k : Ky) : Option Eff := (s[n]?).bind fun p => effP p k
theorem lastE_val {s : List Pg} {k : Ky} {e : Str × Bool} (fs : siteFit s) : ∀ {row : List Nat}, lastE s row k = some (some e) → okW sgs e.1 = true
  | [], h => by cases h
  | n :: r, h => by
    rw [lastE_cons] at h
    cases z : lastE s r k with
    | some e' =>
      rw [z] at h
      exact lastE_val fs (z.trans h)
    | none =>
      rw [z] at h
      cases q : s[n]? with
      | none =>
        rw [q] at h
        cases h
      | some p =>
        rw [q] at h
        exact (effP_val (fs.2.2 p (List.mem_of_getElem? q)) h).2
def someM (s : List Pg) (row : List Nat) (k : Ky) : List Nat := row.filter fun n => (effN s n k).isSome
theorem lastE_some (s : List Pg) (k : Ky) : ∀ row : List Nat, (someM s row k = [] → lastE s row k = none) ∧ ∀ a m, someM s row k = a ++ [m] → lastE s row k = effN s m k
  | [] => ⟨fun _ => rfl, fun a m h => by
    have h : ([] : List Nat) = a ++ [m] := h
    simp at h⟩
  | n :: r => by
    obtain ⟨i1, i2⟩ := lastE_some s k r
    have e : someM s (n :: r) k = if (effN s n k).isSome then n :: someM s r k else someM s r k := by
      unfold someM
      rw [List.filter_cons]
    rw [lastE_cons, e]
    have ce : ((s[n]?).bind fun p => effP p k) = effN s n k := rfl
    rw [ce]
    by_cases hn : (effN s n k).isSome = true
    · rw [if_pos hn]
      refine ⟨fun h => (by cases h), fun a m h => ?_⟩
      cases a with
      | nil =>
        have h : n :: someM s r k = [m] := h
        obtain ⟨rfl, h2⟩ := List.cons.inj h
        rw [i1 h2]
      | cons x a =>
        have h : n :: someM s r k = x :: (a ++ [m]) := h
        obtain ⟨rfl, h2⟩ := List.cons.inj h
        have h3 := i2 a m h2
        have : m ∈ someM s r k := by
          rw [h2]
          exact List.mem_append_right _ List.mem_cons_self
        have hm := (List.mem_filter.mp this).2
        rw [h3]
        cases q : effN s m k with
        | none =>
          rw [q] at hm
          cases hm
        | some e' => rfl
    · rw [if_neg hn]
      have hz : effN s n k = none := by
        cases q : effN s n k with
        | none => rfl
        | some e' =>
          rw [q] at hn
          exact absurd rfl hn
      rw [hz]
      refine ⟨fun h => ?_, fun a m h => ?_⟩
      · rw [i1 h]
      · rw [i2 a m h]
        cases effN s m k <;> rfl
theorem keptT_step {s : List Pg} {row : List Nat} {ks : List Ky} {i : Nat} {k : Ky} (e : ks[i]? = some k) : keptT s row (ks.take (i + 1)) = keptT s row (ks.take i) ++ (match lastE s row k with
    | some (some e) => [(k, e)]
    | _ => []) := by
  unfold keptT
  rw [List.take_add_one, e, List.filterMap_append]
  congr 1
  show List.filterMap _ [k] = _
  rw [List.filterMap_cons]
  rcases lastE s row k with _ | _ | e <;> rfl
section
variable {P : Program} {w : World} {K : PySem.W.Frag}
/-- found on a page: the last effect there -/
theorem last_eff {H : Hp} {Q : VK} {σ : L2.St} {st D ai : Addr} {s : List Pg} {so : List Nat} {m : Nat} {p : Pg} {k : Ky} {e : Eff} (e0 : σ[0]? = some (some (.ref st))) (e4 : σ[4]? = some (some (.ref D))) (e3 : σ[3]? = some (some (.ref ai)))
    (dv : Da K H (.ref st) (sitePy s)) (hD : H D = some (.lst ((so ++ [m]).map fun n => V.int (n : Nat)))) (ep : s[m]? = some p) (fp : pgFit p) (ka : KyAt K H ai k) (ee : effP p k = some e) (q : ∀ H' v, Same H H' → EffAt K H' v e → Q v H') :
    tOp (rNget K P w) (tCall (spLEff K P w) [] E0 (tCons (tOp (rIxT K) (tVar 0) (tOp (rIxL K) (tVar 4) (tUn (rU fun i => .int (-i)) (tC (.int 1))))) tNil)) (tVar 3) σ H Q := by
  obtain ⟨b, xs, eb, h1, nl, h2⟩ := da_seq dv
  cases eb
  obtain ⟨v, ev, dp⟩ := DaAll.getD h2 (show (s.map Pg.py)[m]? = some p.py by rw [List.getElem?_map, ep]; rfl)
  refine ⟨.ref st, e0, .ref D, e4, 1, rfl, D, _, -1, .int (m : Nat), rfl, rfl, SqL.of hD, ?_, st, xs, (m : Nat), v, rfl, rfl, h1, atI_nat ev, v, p, rfl, dp, fp, fun H' F kvs s1 nF nd ea => ?_⟩
  · rw [List.map_append]
    exact atI_last _ _
  obtain ⟨v', gv, av⟩ := ea.get ee
  exact ⟨.ref ai, e3, F, ai, kvs, k, v', rfl, rfl, nd, ka.same s1, gv, q H' v' s1 av⟩
theorem last_eff_test {H : Hp} {Q : Bool → Hp → Prop} {σ : L2.St} {st D ai : Addr} {s : List Pg} {so : List Nat} {m : Nat} {p : Pg} {k : Ky} {e : Eff} (e0 : σ[0]? = some (some (.ref st))) (e4 : σ[4]? = some (some (.ref D))) (e3 : σ[3]? = some (some (.ref ai)))
    (dv : Da K H (.ref st) (sitePy s)) (hD : H D = some (.lst ((so ++ [m]).map fun n => V.int (n : Nat)))) (ep : s[m]? = some p) (fp : pgFit p) (ka : KyAt K H ai k) (ee : effP p k = some e) (q : ∀ H' v, Same H H' → EffAt K H' v e → Q (!decide (v = .non)) H') :
    tTest (tOp (fun x y H Q => y = V.non ∧ Q (V.bl (!decide (x = V.non))) H) (tOp (rNget K P w) (tCall (spLEff K P w) [] E0 (tCons (tOp (rIxT K) (tVar 0) (tOp (rIxL K) (tVar 4) (tUn (rU fun i => .int (-i)) (tC (.int 1))))) tNil)) (tVar 3)) (tC .non)) σ H Q :=
  last_eff e0 e4 e3 dv hD ep fp ka ee fun H' v s' av => ⟨rfl, _, rfl, q H' v s' av⟩
end
end S1
namespace S1
open PySem PySem.Spec PyProof.Rows L2 Jv
def rowPy' (row : List Nat) : PyData := .tuple (row.map fun n => .int (n : Nat))
theorem row_da {K : PySem.W.Frag} {H : Hp} {v : V} {row : List Nat} (h : Da K H v (rowPy row)) : ∃ b, v = .ref b ∧ SqT K H b (row.map fun n => V.int (n : Nat)) ∧ row.length ≤ 1000 := by
  obtain ⟨b, xs, e, h1, nl, h2⟩ := da_seq (f := fun n : Nat => PyData.int (n : Nat)) h
  have all : ∀ {l : List Nat} {xs : List V}, DaAll K H xs (l.map fun n : Nat => PyData.int (n : Nat)) → xs = l.map fun n => V.int (n : Nat) := by
    intro l
    induction l with
    | nil =>
      intro xs g
      have g : DaAll K H xs [] := g
      cases g
      rfl
    | cons n l ih =>
      intro xs g
      have g : DaAll K H xs (.int (n : Nat) :: l.map fun n : Nat => PyData.int (n : Nat)) := g
      cases g with
      | cons g1 g2 =>
        cases g1
        rw [ih g2]
        rfl
  rw [all h2] at h1
  refine ⟨b, e, h1, ?_⟩
  subst e
  have h : Da K H (.ref b) (.tuple (row.map fun n : Nat => PyData.int (n : Nat))) := h
  cases h with
  | tup _ _ hz => simpa using hz
section
variable {P : Program} {w : World} {K : PySem.W.Frag} {mg : Str → Option Value} {base : Heap}
/-- is it an effect of this page: by the number as a value -/
def hasE (s : List Pg) (k : Ky) : V → Bool
  | .int n => (effN s n.toNat k).isSome
  | _ => false
theorem has_filter (s : List Pg) (k : Ky) (row : List Nat) : (row.map fun n => V.int (n : Nat)).filter (hasE s k) = (someM s row k).map fun n => V.int (n : Nat) := by
  rw [List.filter_map]
  rfl
theorem dp_nats {H : Hp} (row : List Nat) : DpAll K H (row.map fun n => V.int (n : Nat)) (row.map fun n => PyData.int (n : Nat)) := by
  have := dpAll_ints (K := K) (H := H) (row.map fun n : Nat => (n : Int))
  rw [List.map_map, List.map_map] at this
  exact this
theorem shaped_nats (row : List Nat) : SeqAt.shaped (.list (row.map fun n => PyData.int (n : Nat))) = true := by
  have := shaped_ints (row.map fun n : Nat => (n : Int))
  rw [List.map_map] at this
  exact this
/-- what is kept, by last visits -/
def spKept (K : PySem.W.Frag) : Sp := fun vs H Q _ => ∃ v u s row, vs = [v, u] ∧ Da K H v (sitePy s) ∧ siteFit s ∧ Da K H u (rowPy row) ∧ (∀ n ∈ row, n < s.length) ∧ ∀ H' z, Same H H' → Da K H' z (.list ((kpSort (behindM s row)).map Kp.py)) → Q z H'
end
end S1
/-! repr of data of every kind -/
namespace Jv
open PySem PySem.Spec PyProof.Rows L2
mutual
/-- None, True, False, texts that can stand, tuples and lists of such -/
def plainD : PyData → Bool
  | .none => true
  | .bool _ => true
  | .int _ => false
  | .str x => PyData.strOk x
  | .list ds => plainAll ds
  | .tuple ds => plainAll ds
  | .dict _ => false
def plainAll : List PyData → Bool
  | [] => true
  | d :: ds => plainD d && plainAll ds
end
mutual
theorem plain_show : ∀ d : PyData, plainD d = true → d.showable = true ∧ d.canLay0 = true ∧ d.intsShort 8 = true
  | .none, _ => ⟨rfl, rfl, rfl⟩
  | .bool _, _ => ⟨rfl, rfl, rfl⟩
  | .int _, h => by cases h
  | .str x, h => ⟨rfl, h, rfl⟩
  | .list ds, h => plainAll_show ds h
  | .tuple ds, h => plainAll_show ds h
  | .dict _, h => by cases h
theorem plainAll_show : ∀ ds : List PyData, plainAll ds = true → PyData.showableAll ds = true ∧ PyData.canLayAll0 ds = true ∧ PyData.intsShortAll 8 ds = true
  | [], _ => ⟨rfl, rfl, rfl⟩
  | d :: ds, h => by
    rw [plainAll, Bool.and_eq_true] at h
    obtain ⟨a1, a2, a3⟩ := plain_show d h.1
    obtain ⟨b1, b2, b3⟩ := plainAll_show ds h.2
    exact ⟨by rw [PyData.showableAll, a1, b1]; rfl, by rw [PyData.canLayAll0, a2, b2]; rfl, by rw [PyData.intsShortAll, a3, b3]; rfl⟩
end
def rReprP (K : PySem.W.Frag) : List V → Hp → VK → Prop := fun xs H Q => ∃ (a : Addr) (d : PyData), xs = [.ref a] ∧ Da K H (.ref a) d ∧ plainD d = true ∧ d.depth ≤ 60 ∧ d.weight ≤ 1000000 ∧ Q (.str d.shown) H
theorem cr_reprP {X : Cx} (hg : X.A.guards = some []) (hu : X.A.units + 64 < cLine) : CallR X (.builtin "repr") (rReprP X.K) := by
  intro pn sh sg Hh vxs uxs Qq Iv r1 hyp
  obtain ⟨a, d, rfl, hd, h1, h3, h4, q⟩ := hyp
  obtain ⟨u, rfl, r2⟩ := vals1 r1
  cases (show u = Value.ref a from r2)
  obtain ⟨as, rr⟩ := Da.reads Iv d _ _ hd r2
  obtain ⟨p1, p2, p3⟩ := plain_show d h1
  have h5 : d.shown.length ≤ sizeLine := by
    have := PyData.shown_le 8 (by decide) d (PyData.leavesShort_of_canLay0 8 d p2 p3)
    rw [sizeLine_eq]
    omega
  exact repr_of_reads' rr p1 (PyData.noDict_hsm (PyData.hasDict_of_canLay d p2)) hg (by omega) (fun _ _ e => e) (fun h' u tk hk => ⟨.str d.shown, Hh, Iv.kept (t' := tk) hk, ⟨_, rfl⟩, q⟩) h5
theorem plainAll_of {ds : List PyData} (h : ∀ d ∈ ds, plainD d = true) : plainAll ds = true := by
  induction ds with
  | nil => rfl
  | cons d ds ih => rw [plainAll, h d List.mem_cons_self, ih fun e he => h e (List.mem_cons_of_mem _ he)]; rfl
theorem plain_strs {xs : List Str} (h : ∀ x ∈ xs, PyData.strOk x = true) : plainD (.tuple (xs.map .str)) = true := plainAll_of fun d hd => by
  obtain ⟨x, hx, rfl⟩ := List.mem_map.mp hd
  exact h x hx
end Jv
namespace S1
open PySem PySem.Spec PyProof.Rows L2 Jv
/-! ### that it can be shown: kinds, depth, weight -/
theorem weightAll_le {B : Nat} : ∀ {ds : List PyData}, (∀ d ∈ ds, d.weight ≤ B) → PyData.weightAll ds ≤ (B + 1) * ds.length
  | [], _ => Nat.zero_le _
  | d :: ds, h => by
    rw [PyData.weightAll, List.length_cons]
    have h1 := h d List.mem_cons_self
    have h2 := weightAll_le fun e he => h e (List.mem_cons_of_mem _ he)
    rw [Nat.mul_add, Nat.mul_one]
    omega
theorem depthAll_le {B : Nat} : ∀ {ds : List PyData}, (∀ d ∈ ds, d.depth ≤ B) → PyData.depthAll ds ≤ B
  | [], _ => Nat.zero_le _
  | d :: ds, h => by
    rw [depth_mono]
    have h1 := h d List.mem_cons_self
    have h2 := depthAll_le fun e he => h e (List.mem_cons_of_mem _ he)
    omega
/-- showable, not deep, not heavy -/
structure Small (d : PyData) (B : Nat) : Prop where
  pl : plainD d = true
  dp : d.depth ≤ 10
  wt : d.weight ≤ B
theorem small_strs {lo hi : Int} {xs : List Str} (h : okT' lo hi xs = true) (h5 : hi ≤ 5) : Small (.tuple (xs.map .str)) 40 := by
  obtain ⟨l1, l2⟩ := okT_lens h
  refine ⟨plain_strs (okT_strs h), ?_, ?_⟩
  · show PyData.depthAll (xs.map .str) + 1 ≤ 10
    rw [depth_strs]
    decide
  · show PyData.weightAll (xs.map .str) ≤ 40
    have := weightAll_le (B := 6) (ds := xs.map .str) fun d hd => by
      obtain ⟨x, hx, rfl⟩ := List.mem_map.mp hd
      exact l2 x hx
    rw [List.length_map] at this
    omega
theorem small_ky {k : Ky} (h : kyShape k = true) : Small k.py 100 := by
  unfold kyShape at h
  rw [Bool.and_eq_true, Bool.and_eq_true] at h
  obtain ⟨⟨h1, h2⟩, h3⟩ := h
  have a2 := small_strs h2 (by decide)
  have a3 := small_strs h3 (by decide)
  refine ⟨?_, ?_, ?_⟩
  · show (PyData.strOk k.name && (plainD (.tuple (k.dom.map .str)) && (plainD (.tuple (k.fold.map .str)) && (true && true)))) = true
    rw [okW_str lts_low h1, a2.pl, a3.pl]
    rfl
  · rw [Ky.pdepth]
    decide
  · have e : k.py.weight = k.name.cps.size + 1 + (PyData.weight (.tuple (k.dom.map .str)) + 1 + (PyData.weight (.tuple (k.fold.map .str)) + 1 + (0 + 1 + 0))) := rfl
    rw [e]
    have := okW_len h1
    have h6 : k.name.cps.size ≤ 6 := this
    have := a2.wt
    have := a3.wt
    omega
def effPy : Eff → PyData
  | none => .none
  | some e => .tuple [.str e.1, .bool e.2]
theorem effPy_depth : ∀ e : Eff, (effPy e).depth ≤ 1
  | none => Nat.zero_le _
  | some x => Nat.le_refl _
theorem small_eff {e : Eff} (h : ∀ x, e = some x → okW sgs x.1 = true) : Small (effPy e) 10 := by
  cases e with
  | none => exact ⟨rfl, by decide, by decide⟩
  | some x =>
    have hx := h x rfl
    refine ⟨?_, Nat.le_trans (effPy_depth _) (by decide), ?_⟩
    · show (PyData.strOk x.1 && (true && true)) = true
      rw [okW_str sgs_low hx]
      rfl
    · show x.1.cps.size + 1 + (0 + 1 + 0) ≤ 10
      have h6 : x.1.cps.size ≤ 6 := okW_len hx
      omega
def pairPy (x : Ky × Eff) : PyData := .tuple [x.1.py, effPy x.2]
theorem small_pair {x : Ky × Eff} (h : kyShape x.1 = true) (g : ∀ y, x.2 = some y → okW sgs y.1 = true) : Small (pairPy x) 200 := by
  have a := small_ky h
  have b := small_eff g
  refine ⟨?_, ?_, ?_⟩
  · show (plainD x.1.py && (plainD (effPy x.2) && true)) = true
    rw [a.pl, b.pl]
    rfl
  · show max x.1.py.depth (max (effPy x.2).depth 0) + 1 ≤ 10
    have h1 := Ky.pdepth x.1
    have h2 := effPy_depth x.2
    omega
  · show x.1.py.weight + 1 + ((effPy x.2).weight + 1 + 0) ≤ 200
    have := a.wt
    have := b.wt
    omega
theorem small_kp {k : Kp} (h : kyShape k.key = true) (g : okW sgs k.val = true) : Small k.py 200 := by
  have a := small_ky h
  refine ⟨?_, ?_, ?_⟩
  · show (plainD k.key.py && (PyData.strOk k.val && (true && true))) = true
    rw [a.pl, okW_str sgs_low g]
    rfl
  · rw [kp_depth]
    decide
  · show k.key.py.weight + 1 + (k.val.cps.size + 1 + (0 + 1 + 0)) ≤ 200
    have := a.wt
    have h6 : k.val.cps.size ≤ 6 := okW_len g
    omega
theorem small_all {α : Type} {f : α → PyData} {l : List α} (h : ∀ x ∈ l, Small (f x) 200) (d9 : ∀ x ∈ l, (f x).depth ≤ 9) (hl : l.length ≤ 1000) : Small (.list (l.map f)) 1000000 ∧ Small (.tuple (l.map f)) 1000000 := by
  have p : plainAll (l.map f) = true := plainAll_of fun d hd => by
    obtain ⟨x, hx, rfl⟩ := List.mem_map.mp hd
    exact (h x hx).pl
  have dd : PyData.depthAll (l.map f) ≤ 9 := depthAll_le fun d hd => by
    obtain ⟨x, hx, rfl⟩ := List.mem_map.mp hd
    exact d9 x hx
  have ww := weightAll_le (B := 200) (ds := l.map f) fun d hd => by
    obtain ⟨x, hx, rfl⟩ := List.mem_map.mp hd
    exact (h x hx).wt
  rw [List.length_map] at ww
  have w2 : PyData.weightAll (l.map f) ≤ 1000000 := by omega
  exact ⟨⟨p, Nat.succ_le_succ dd, w2⟩, ⟨p, Nat.succ_le_succ dd, w2⟩⟩
/-! ### jars behind rows are jars -/
theorem len_sub : ∀ {l m : List Ky}, l.Nodup → (∀ k ∈ l, k ∈ m) → l.length ≤ m.length
  | [], _, _, _ => Nat.zero_le _
  | a :: l, m, hn, h => by
    obtain ⟨n1, n2⟩ := List.nodup_cons.mp hn
    have hm := h a List.mem_cons_self
    have ih := len_sub (m := m.erase a) n2 fun k hk => (List.mem_erase_of_ne (fun e => n1 (by rw [← e]; exact hk))).mpr (h k (List.mem_cons_of_mem _ hk))
    rw [List.length_erase_of_mem hm] at ih
    have : 0 < m.length := List.length_pos_of_mem hm
    rw [List.length_cons]
    omega
theorem siteTw_len {s : List Pg} (fs : siteFit s) : (siteTw s).length ≤ 25 := by
  have all : ∀ {s : List Pg}, (∀ p ∈ s, pgFit p) → (siteTw s).length ≤ 5 * s.length := by
    intro s
    induction s with
    | nil => exact fun _ => Nat.zero_le _
    | cons p s ih =>
      intro h
      have h1 := ih fun q hq => h q (List.mem_cons_of_mem _ hq)
      have e : siteTw (p :: s) = (takenL p.ad p.ws).map (·.1) ++ siteTw s := rfl
      have h2 := takenL_len p.ad p.ws
      have h3 := (h p List.mem_cons_self).len
      rw [e, List.length_append, List.length_map, List.length_cons]
      omega
  have := all fs.2.2
  have := fs.2.1
  omega
theorem tab_fit {s : List Pg} (fs : siteFit s) (row : List Nat) : ∀ x ∈ rowTab s [] row, kyShape x.1 = true ∧ okW sgs x.2.1 = true := fun x hx => by
  have h := (getE_iff (rowTab_nodup s row [] List.nodup_nil) x.1 x.2).mp hx
  rw [rowTab_get] at h
  cases q : lastE s row x.1 with
  | none =>
    rw [q] at h
    cases h
  | some e =>
    rw [q] at h
    have h : e = some x.2 := h
    rw [h] at q
    exact ⟨site_key fs (lastE_key q), lastE_val fs q⟩
theorem tab_len {s : List Pg} (fs : siteFit s) (row : List Nat) : (rowTab s [] row).length ≤ 25 := by
  have := len_sub (rowTab_nodup s row [] List.nodup_nil) fun k hk => by
    obtain ⟨v, hv⟩ := getE_mem hk
    rw [rowTab_get] at hv
    cases q : lastE s row k with
    | none =>
      rw [q] at hv
      cases hv
    | some e => exact lastE_key q
  rw [List.length_map] at this
  exact Nat.le_trans this (siteTw_len fs)
theorem jar_mem {s : List Pg} (fs : siteFit s) {row : List Nat} {k : Kp} (h : k ∈ behindM s row) : kyShape k.key = true ∧ okW sgs k.val = true := by
  have h := (jarSort_perm _).mem_iff.mp h
  obtain ⟨x, hx, rfl⟩ := List.mem_map.mp h
  exact tab_fit fs row x hx
theorem jar_len {s : List Pg} (fs : siteFit s) (row : List Nat) : (behindM s row).length ≤ 25 := by
  have := (jarSort_perm ((rowTab s [] row).map Tab.kp)).length_eq
  rw [List.length_map] at this
  show (jarSort _).length ≤ 25
  rw [this]
  exact tab_len fs row
theorem jar_ok {s : List Pg} (fs : siteFit s) (row : List Nat) : JarOk (behindM s row) := by
  refine ⟨fun k hk => ?_, jarOfT_keys _ (rowTab_nodup s row [] List.nodup_nil), fun i a b ha hb => ?_, Nat.le_trans (jar_len fs row) (by decide)⟩
  · obtain ⟨a, b⟩ := jar_mem fs hk
    have e : okKept k.py = (okKey k.key.py && okD sgs (.str k.val) && dBl (.bool k.grd)) := rfl
    rw [e, ky_ok a, show okD sgs (.str k.val) = true from b]
    rfl
  · have p := jarSort_sorted ((rowTab s [] row).map Tab.kp)
    have h1 : (behindM s row).Pairwise fun a b => plLe a b = true := p
    obtain ⟨ia, ea⟩ := List.getElem?_eq_some_iff.mp ha
    obtain ⟨ib, eb⟩ := List.getElem?_eq_some_iff.mp hb
    have := List.pairwise_iff_getElem.mp h1 i (i + 1) ia ib (Nat.lt_succ_self i)
    rw [ea, eb] at this
    have this : (!(PyProof.Rows.listOrd PyProof.Rows.itemOrd).blt (PySem.W.keyToks (placePy b.key)) (PySem.W.keyToks (placePy a.key))) = true := this
    rw [Bool.not_eq_true'] at this
    exact this
theorem small_jarL {s : List Pg} (fs : siteFit s) (row : List Nat) : Small (.list ((kpSort (behindM s row)).map Kp.py)) 1000000 :=
  (small_all (fun x hx => let ⟨a, b⟩ := jar_mem fs ((kpSort_perm _).mem_iff.mp hx); small_kp a b) (fun x _ => by rw [kp_depth]; decide) (by rw [(kpSort_perm _).length_eq]; exact Nat.le_trans (jar_len fs row) (by decide))).1
theorem small_jar {s : List Pg} (fs : siteFit s) (row : List Nat) : Small (jarPy (behindM s row)) 1000000 :=
  (small_all (fun x hx => let ⟨a, b⟩ := jar_mem fs hx; small_kp a b) (fun x _ => by rw [kp_depth]; decide) (Nat.le_trans (jar_len fs row) (by decide))).2
theorem small_keys {s : List Pg} (fs : siteFit s) {ls : List Ky} (h : ∀ k ∈ ls, k ∈ siteTw s) (hl : ls.length ≤ 25) : Small (.tuple ((kySort ls).map Ky.py)) 1000000 :=
  (small_all (fun x hx => let a := small_ky (site_key fs (h x ((kySort_perm _).mem_iff.mp hx))); ⟨a.pl, a.dp, Nat.le_trans a.wt (by decide)⟩) (fun x _ => by rw [Ky.pdepth]; decide) (by rw [kySort_len]; omega)).2
theorem eff_fit {p : Pg} (fp : pgFit p) : ∀ x ∈ effM (takenP p), kyShape x.1 = true ∧ ∀ y, x.2 = some y → okW sgs y.1 = true := fun x hx => by
  unfold effM at hx
  obtain ⟨k, hk, rfl⟩ := List.mem_map.mp hx
  have hk := (kySort_perm _).mem_iff.mp hk
  obtain ⟨e, he⟩ := getE_mem hk
  have m := (found_keys _ k).mp hk
  obtain ⟨t, ht, rfl⟩ := List.mem_map.mp m
  refine ⟨(key_fit fp ht).1, fun y hy => ?_⟩
  dsimp only at hy
  rw [he] at hy
  have hy : e = some y := hy
  rw [hy] at he
  exact (effP_val fp he).2
theorem eff_len {p : Pg} (fp : pgFit p) : (foundM (takenP p)).length ≤ 5 := by
  have := len_sub (found_nodup (takenP p)) fun k hk => (found_keys (takenP p) k).mp hk
  rw [List.length_map, List.length_map] at this
  exact Nat.le_trans this (Nat.le_trans (takenL_len _ _) fp.len)
theorem effM_len (ts : List (Ky × Option Str × Bool)) : (effM ts).length = (foundM ts).length := by
  unfold effM
  rw [List.length_map, kySort_len, List.length_map]
theorem small_effs {p : Pg} (fp : pgFit p) : Small (.list ((effM (takenP p)).map pairPy)) 1000000 :=
  (small_all (fun x hx => let ⟨a, b⟩ := eff_fit fp x hx; small_pair a b) (fun x _ => by
    show max x.1.py.depth (max (effPy x.2).depth 0) + 1 ≤ 9
    have h1 := Ky.pdepth x.1
    have h2 := effPy_depth x.2
    omega) (by rw [effM_len]; exact Nat.le_trans (eff_len fp) (by decide))).1
end S1
namespace S1
open PySem PySem.Spec PyProof.Rows L2 Jv
/-! ### more of what is told by data alone -/
theorem map_at {α β : Type} {f : α → β} {l : List α} {i : Nat} {y : β} (h : (l.map f)[i]? = some y) : ∃ a, l[i]? = some a ∧ y = f a := by
  rw [List.getElem?_map] at h
  obtain ⟨a, h1, h2⟩ := Option.map_eq_some_iff.mp h
  exact ⟨a, h1, h2.symm⟩
theorem filter_yes {α : Type} (l : List α) : l.filter (fun _ => true) = l := List.filter_eq_self.mpr fun _ _ => rfl
section
variable {K : PySem.W.Frag} {ρ : Rho}
theorem da_isNon {H : Hp} {v : V} {d : PyData} (h : Da K H v d) : decide (v = .non) = isNon d := by
  cases h <;> rfl
theorem ev_isNone {t : TE} {d : PyData} (h : EvR K t ρ d) : EvR K (tOp (fun x y H Q => y = V.non ∧ Q (V.bl (decide (x = V.non))) H) t (tC .non)) ρ (.bool (isNon d)) := fun sg H en Q q => h sg H en _ fun H1 v s hv => ⟨rfl, by
  rw [da_isNon hv]
  exact q H1 _ s (.bl _)⟩
theorem ev_notNone {t : TE} {d : PyData} (h : EvR K t ρ d) : EvR K (tOp (fun x y H Q => y = V.non ∧ Q (V.bl (!decide (x = V.non))) H) t (tC .non)) ρ (.bool (!isNon d)) := fun sg H en Q q => h sg H en _ fun H1 v s hv => ⟨rfl, by
  rw [da_isNon hv]
  exact q H1 _ s (.bl _)⟩
theorem ev_notIn {t u : TE} {d : PyData} {ds : List PyData} {b : Bool} (h : EvR K t ρ d) (g : EvR K u ρ (.list ds)) (s1 : SeqAt.shaped d = true) (s2 : SeqAt.shaped (.list ds) = true) (e : ds.any (PyData.eqv · d) = b) : EvR K (tOp (rNotInA K) t u) ρ (.bool (!b)) := fun sg H en Q q =>
  h sg H en _ fun H1 v k1 hv => g sg H1 (en.same k1) _ fun H2 w k2 hw => ⟨d, ds, Da.same k2 _ _ hv, hw, s1, s2, by rw [e]; exact q H2 _ (k1.trans k2) (.bl _)⟩
theorem ev_in {t u : TE} {d : PyData} {ds : List PyData} {b : Bool} (h : EvR K t ρ d) (g : EvR K u ρ (.list ds)) (s1 : SeqAt.shaped d = true) (s2 : SeqAt.shaped (.list ds) = true) (e : ds.any (PyData.eqv · d) = b) : EvR K (tOp (rInA K) t u) ρ (.bool b) := fun sg H en Q q =>
  h sg H en _ fun H1 v k1 hv => g sg H1 (en.same k1) _ fun H2 w k2 hw => ⟨d, ds, Da.same k2 _ _ hv, hw, s1, s2, by rw [e]; exact q H2 _ (k1.trans k2) (.bl _)⟩
theorem ev_index {t u : TE} {d : PyData} {ds : List PyData} {j : Nat} (h : EvR K t ρ (.list ds)) (g : EvR K u ρ d) (s1 : SeqAt.shaped d = true) (p1 : PyData.plainAll ds = true) (p2 : d.plain = true) (l : ds.length ≤ 1000) (e : SeqAt.dataPlace ds d = some j) : EvR K (tBM K "list" (rIxA K) t (tCons u tNil)) ρ (.int (j : Nat)) := fun sg H en Q q =>
  h sg H en _ fun H1 v k1 hv => by
    cases id hv with
    | @lst a xs _ h1 h2 hz =>
      exact ⟨Or.inl ⟨rfl, xs, h1⟩, g sg H1 (en.same k1) _ fun H2 w k2 hw => ⟨a, w, d, ds, j, rfl, rfl, Da.same k2 _ _ hv, hw, l, s1, p1, p2, e, q H2 _ (k1.trans k2) (.int _)⟩⟩
theorem ev_lenL {t : TE} {ds : List PyData} (h : EvR K t ρ (.list ds)) : EvR K (tCB (rLen K) (tCons t tNil)) ρ (.int (ds.length : Nat)) := fun sg H en Q q => h sg H en _ fun H1 v s hv => by
  cases hv with
  | @lst a xs _ h1 h2 hz =>
    refine ⟨.ref a, ds.length, rfl, Or.inl ⟨xs, h1, (DaAll.len h2).symm⟩, q H1 _ s (.int _)⟩
theorem ev_addI {t u : TE} {i j k : Int} (h : EvR K t ρ (.int i)) (g : EvR K u ρ (.int j)) (e : i + j = k) : EvR K (tOp (rI0 fun i j => V.int (i + j)) t u) ρ (.int k) := fun sg H en Q q =>
  h sg H en _ fun H1 v k1 hv => g sg H1 (en.same k1) _ fun H2 w k2 hw => by
    cases hv
    cases hw
    subst e
    exact ⟨_, _, rfl, rfl, q H2 _ (k1.trans k2) (.int _)⟩
theorem ev_subI {t u : TE} {i j k : Int} (h : EvR K t ρ (.int i)) (g : EvR K u ρ (.int j)) (e : i - j = k) : EvR K (tOp (rI0 fun i j => V.int (i - j)) t u) ρ (.int k) := fun sg H en Q q =>
  h sg H en _ fun H1 v k1 hv => g sg H1 (en.same k1) _ fun H2 w k2 hw => by
    cases hv
    cases hw
    subst e
    exact ⟨_, _, rfl, rfl, q H2 _ (k1.trans k2) (.int _)⟩
/-- tuple(l) -/
theorem ev_tupOf {t : TE} {ds : List PyData} (h : EvR K t ρ (.list ds)) : EvR K (tCB (fun xs H Q => ∃ p ys, xs = [V.ref p] ∧ ((SqL K H p ys ∧ ∀ (l : Addr), H l = none → Q (V.ref l) (upd H l (HO.tup ys))) ∨ SqT K H p ys ∧ Q (V.ref p) H)) (tCons t tNil)) ρ (.tuple ds) := ev_tupL h
/-- list(x) -/
theorem evf_listL {t : TE} {ds : List PyData} (h : EvR K t ρ (.list ds)) : EvF K (tCB (fun xs H Q => ∃ p ys, xs = [V.ref p] ∧ (SqL K H p ys ∨ SqT K H p ys) ∧ ∀ l, H l = none → Q (V.ref l) (upd H l (.lst ys))) (tCons t tNil)) ρ ds := fun sg H en Q q => h sg H en _ fun H1 v s hv => by
  cases hv with
  | @lst a xs _ h1 h2 hz => exact ⟨a, xs, rfl, Or.inl h1, fun l nl => q _ l xs (s.trans (Jv.same_new nl)) (none_of s nl) upd_same (DaAll.same (Jv.same_new nl) _ _ h2)⟩
theorem evf_listT {t : TE} {ds : List PyData} (h : EvR K t ρ (.tuple ds)) : EvF K (tCB (fun xs H Q => ∃ p ys, xs = [V.ref p] ∧ (SqL K H p ys ∨ SqT K H p ys) ∧ ∀ l, H l = none → Q (V.ref l) (upd H l (.lst ys))) (tCons t tNil)) ρ ds := fun sg H en Q q => h sg H en _ fun H1 v s hv => by
  cases hv with
  | @tup a xs _ h1 h2 hz => exact ⟨a, xs, rfl, Or.inr h1, fun l nl => q _ l xs (s.trans (Jv.same_new nl)) (none_of s nl) upd_same (DaAll.same (Jv.same_new nl) _ _ h2)⟩
end
section
variable {K : PySem.W.Frag} {S : Option Sx} {r r1 r2 : List Sl} {P : Po}
theorem ev_own {i : Nat} {ds : List PyData} (h : r[i]? = some (.ow ds)) (l : ds.length ≤ 1000) : EvR K (tVar i) (view r) (.list ds) := ev_var (by
  unfold view
  rw [List.getElem?_map, h]
  show some (vw (.ow ds)) = _
  simp only [vw]
  rw [if_pos l])
theorem daAll_erase0 {H : Hp} : ∀ {vs : List V} {ds : List PyData} (j : Nat), DaAll K H vs ds → DaAll K H (vs.eraseIdx j) (ds.eraseIdx j)
  | _, _, _, .nil => .nil
  | _, _, 0, .cons _ t => t
  | _, _, j + 1, .cons h t => .cons h (daAll_erase0 j t)
theorem daAll_set0 {H : Hp} {v : V} {d : PyData} (hd : Da K H v d) : ∀ {vs : List V} {ds : List PyData} (j : Nat), DaAll K H vs ds → DaAll K H (vs.set j v) (ds.set j d)
  | _, _, _, .nil => .nil
  | _, _, 0, .cons _ t => .cons hd t
  | _, _, j + 1, .cons h t => .cons h (daAll_set0 hd j t)
theorem ixN_at {n j : Nat} (h : j < n) : ixN n (j : Int) = some j := by
  unfold ixN
  rw [if_pos (by omega), if_pos (by omega), Int.toNat_natCast]
/-- found.pop(j) -/
theorem st_pop {te : TE} {i j : Nat} {ds : List PyData} (hi : r[i]? = some (.ow ds)) (h : EvR K te (view r) (.int (j : Nat))) (l : j < ds.length) (l2 : ds.length ≤ 100000) : StepM K S r (tDrop (tBM K "list" rPopAt (tVar i) (tCons te tNil))) (r.set i (.ow (ds.eraseIdx j))) := fun H0 A H sg D e q => by
  obtain ⟨a, vs, h1, h2, h3, h4, h5⟩ := e.at_ i _ hi
  have len := DaAll.len h5
  refine ⟨.ref a, h1, Or.inl ⟨rfl, vs, SqL.of h4⟩, h sg H e.view _ fun H' v s hv => ?_⟩
  cases hv
  refine ⟨a, vs, j, j, vs[j]'(by omega), rfl, rfl, s _ _ h4, by omega, by omega, (ixN_seq (ixN_at (by omega))).1, List.getElem?_eq_getElem (by omega), ?_⟩
  exact q A _ sg ((mask_mono s).trans (mut_big h2)) ((e.same s).mut hi h1 (daAll_erase0 j (DaAll.same (mask_mono s) _ _ h5)))
/-- found[j] = x -/
theorem st_seti {te ti : TE} {i j : Nat} {ds : List PyData} {d : PyData} (hi : r[i]? = some (.ow ds)) (h : EvR K te (view r) d) (f : flat d = true) (hj : EvR K ti (view r) (.int (j : Nat))) (l : j < ds.length) : StepM K S r (tAsg te (gSub (tVar i) ti rSetL)) (r.set i (.ow (ds.set j d))) := fun H0 A H sg D e q => by
  obtain ⟨a, vs, h1, h2, h3, h4, h5⟩ := e.at_ i _ hi
  have len := DaAll.len h5
  refine h sg H e.view _ fun H1 v s hv => ⟨.ref a, h1, hj sg H1 (e.same s).view _ fun H2 w s2 hw => ?_⟩
  cases hw
  have s12 := s.trans s2
  refine ⟨a, vs, j, j, rfl, rfl, s12 _ _ h4, ixN_at (by omega), ?_⟩
  have e2 := e.same s12
  exact q A _ sg ((mask_mono s12).trans (mut_big h2)) (e2.mut hi h1 (daAll_set0 (flat_mask e2 (Da.same s2 _ _ hv) f) j (DaAll.same (mask_mono s12) _ _ h5)))
end
/-! ### the law's keys -/
def optKy (p : Pg) (wr : Wr) : PyData := if takenM p.ad wr then (keyM p.ad wr).py else .none
theorem optKy_flat (p : Pg) (wr : Wr) : flat (optKy p wr) = true := by
  unfold optKy
  split
  · exact ky_flat _
  · rfl
theorem memT {a : Ad} {wr : Wr} : ∀ {ws : List Wr}, wr ∈ ws → takenM a wr = true → (keyM a wr, wr.val, wr.grd) ∈ takenL a ws
  | w :: ws, h, e => by
    rw [takenL]
    rcases List.mem_cons.mp h with rfl | h
    · rw [if_pos e]
      exact List.mem_cons_self
    · have := memT h e
      split
      · exact List.mem_cons_of_mem _ this
      · exact this
theorem ev_lawKey {K : PySem.W.Frag} {ρ : Rho} {t u : TE} {p : Pg} {wr : Wr} (h : EvR K t ρ p.py) (g : EvR K u ρ wr.py) (fp : pgFit p) (hw : wr ∈ p.ws) : EvR K (tCall (spLKey K) [] E0 (tCons t (tCons u tNil))) ρ (optKy p wr) := fun sg H en Q q =>
  h sg H en _ fun H1 v k1 hv => g sg H1 (en.same k1) _ fun H2 w k2 hw2 => by
    refine ⟨v, w, p, wr, rfl, Da.same k2 _ _ hv, hw2, fp, fp.2 wr hw, fun e H3 s3 => ?_, fun e H3 k s3 hk => ?_⟩
    · unfold optKy at q
      rw [if_neg (by rw [e]; exact Bool.false_ne_true)] at q
      exact q H3 .non ((k1.trans k2).trans s3) .non
    · unfold optKy at q
      rw [if_pos e] at q
      have kf := (key_fit fp (memT (a := p.ad) hw e)).1
      exact q H3 _ ((k1.trans k2).trans s3) (hk.da (ky_sz kf))
end S1
namespace S1
open PySem PySem.Spec PyProof.Rows L2 Jv
section
variable {P : Program} {w : World} {K : PySem.W.Frag} {mg : Str → Option Value} {base : Heap} {C1 C2 : Addr}
/-- the dict of a page's effects -/
def EffD (K : PySem.W.Frag) (P : Program) (w : World) (H : Hp) (v : V) (p : Pg) : Prop := ∃ d kvs, v = .ref d ∧ Nd K P w H d kvs ∧ EffAll K H kvs (effM (takenP p))
theorem EffD.same {H H' : Hp} {v : V} {p : Pg} (s : Same H H') (h : EffD K P w H v p) : EffD K P w H' v p := by
  obtain ⟨d, kvs, e, h1, h2⟩ := h
  exact ⟨d, kvs, e, h1.same s, EffAll.tupS (Same.tupS s) h2⟩
def EffDs (K : PySem.W.Frag) (P : Program) (w : World) (H : Hp) : List V → List Pg → Prop := Paired (EffD K P w H)
theorem EffDs.same {H H' : Hp} {vs : List V} {ps : List Pg} (s : Same H H') (h : EffDs K P w H vs ps) : EffDs K P w H' vs ps := Paired.mapP h fun _ _ z => z.same s
theorem sitePy_injP {s s' : List Pg} (e : sitePy s = sitePy s') : s = s' := sitePy_inj e pg_inj
def spEffPs (K : PySem.W.Frag) (P : Program) (w : World) : Sp := fun vs H Q _ => ∃ v s, vs = [v] ∧ Da K H v (sitePy s) ∧ siteBad (sitePy s) = none ∧ ∀ H' D ds, Same H H' → H D = none → H' D = some (.lst ds) → EffDs K P w H' ds s → Q (.ref D) H'
theorem ok_effects_of (T : Txt K mg) (n1 : Exn P w K mg base "BadSite" "place" C1) (n2 : Exn P w K mg base "BadPage" "given" C2) : Ok P w K mg base "effects_of_pages" P_effects_of_pages 8 (spEffPs K P w) := by
  have ok_need_site : OkX P w K mg base "need_site" P_need_site 6 (spSite K C1) := ok_need_site T n1
  have ok_effects : OkX P w K mg base "effects" P_effects 7 (spEff K P w C1 C2) := ok_effects T n1 n2
  refine T.d_effects_of_pages.ok sc_effects_of_pages (fun vs H Q E h => ?_) (fun f cdv A out s H vs Q E hr h => ?_)
  · obtain ⟨v, s, rfl, _⟩ := h
    rfl
  · obtain ⟨v, si, rfl, hd, good, q⟩ := h
    refine ⟨_, (pss_one (ps_ret (pe_lc (own := [("page", 1)]) (g := gName 1) (tt := tYes) rfl sc_effects_of_pages.nd (pi_range1 (by rfl) T.z_range (pa_cons (pe_callB (show CallR _ (.builtin "len") (rLenJ K) from call_len) (by rfl) T.z_len (by decide +kernel) (pa_cons (pe_okX0 ok_need_site (hr.mono (by decide)) (pa_cons (pv 0) pa_nil)) pa_nil)) pa_nil)) (blkOk_by (N := N_effects_of_pages) (sc := defScope st_effects_of_pages) (by decide +kernel)) (fun _ _ _ _ _ => pg_name (i := 1) sc_effects_of_pages.nd rfl (Or.inl rfl)) (fun _ _ _ _ _ => pts_nil) (fun _ _ _ _ _ => (pe_okX0 ok_effects (hr.mono (by decide)) (pa_cons (pv 0) (pa_cons (pv 1) pa_nil))))))), ?_⟩
    obtain ⟨a, xs, rfl, h1, nl, h2⟩ := da_seq (show Da K H v (.tuple (si.map Pg.py)) from hd)
    have okS : SiteOk si := by
      obtain ⟨s', e, o⟩ := site_of good
      rw [sitePy_injP e]
      exact o
    have n5 := okS.1
    refine ⟨.ref a, rfl, .ref a, sitePy si, rfl, hd, ?_⟩
    rw [good]
    intro H1 s1
    refine ⟨.ref a, xs.length, rfl, Or.inr ⟨xs, sqT_same s1 h1, rfl⟩, (xs.length : Nat), rfl, by omega, by omega, fun D nD => ?_⟩
    rw [Int.toNat_natCast]
    have sD : ∀ {H2 : Hp} {o : HO}, Same H1 H2 → Same H1 (upd H2 D o) := fun {H2 o} s b u e => by
      rw [upd_ne (ne_of_none e nD)]
      exact s b u e
    refine lc_map walk_range (fun i acc G => Same H1 G ∧ EffDs K P w G acc (si.take i)) ⟨sD (Same.refl _), .nil⟩ (fun _ _ _ _ _ _ => trivial) (fun _ => rfl) (fun i acc G hi g => ?_) (fun i x acc G G' hi g dG y kk hkk => ?_) (fun acc G g dG => ?_)
    · rw [Paired.length g.2, List.length_take]
      exact Nat.lt_of_le_of_lt (show min i si.length ≤ 5 by omega) (by decide)
    · obtain ⟨sG, pr⟩ := g
      obtain ⟨rfl, hx⟩ := y
      obtain rfl : x = .int (i : Nat) := hx.trans (by show V.int (0 + (i : Int)) = _; rw [Int.zero_add])
      obtain ⟨p, ep⟩ : ∃ p, si[i]? = some p := ⟨si[i]'(by omega), List.getElem?_eq_getElem (by omega)⟩
      have s01 := s1.trans sG
      refine ⟨.ref a, rfl, .int (i : Nat), rfl, .ref a, .int (i : Nat), sitePy si, .int (i : Nat), rfl, Da.same s01 _ _ hd, .int _, (fun ns hb => by rw [good] at hb; cases hb), fun s' _ es => ?_⟩
      obtain rfl : si = s' := sitePy_injP es
      refine ⟨fun hz => ?_, fun n' p' en ep' H2 d kvs s2 nd Nd2 ef => ?_⟩
      · have num : isNum (si.length : Int) (.int (i : Nat)) = true := by
          show (decide ((0 : Int) ≤ (i : Int)) && decide ((i : Int) < (si.length : Int))) = true
          rw [decide_eq_true (by omega), decide_eq_true (by omega)]
          rfl
        rw [num] at hz
        cases hz
      · obtain rfl : i = n' := by
          injection en with en
          omega
        obtain rfl : p = p' := Option.some.inj (ep.symm.trans ep')
        have dG2 : H2 D = some (.lst acc) := s2 _ _ dG
        have nb : d ≠ D := (ne_of_none dG nd).symm
        have up : TupS H2 (upd H2 D (.lst (acc ++ [.ref d]))) := tupS_lst dG2
        refine hkk _ _ dG2 ⟨sD (sG.trans s2), ?_⟩
        rw [List.take_add_one, ep]
        refine Paired.snoc (Paired.mapP (EffDs.same s2 pr) fun z p z2 => ?_) ⟨d, kvs, rfl, Nd2.move up (upd_ne nb), EffAll.tupS up ef⟩
        obtain ⟨d', kvs', e', g1, g2⟩ := z2
        refine ⟨d', kvs', e', g1.move up (upd_ne fun z3 => ?_), EffAll.tupS up g2⟩
        subst z3
        obtain ⟨xs', w1, _⟩ := g1.ex
        rw [dG2] at w1
        cases w1
    · obtain ⟨sG, pr⟩ := g
      rw [nl, List.take_length] at pr
      exact q G D acc (s1.trans sG) (none_of s1 nD) dG pr
end
end S1
namespace S1
open PySem PySem.Spec PyProof.Rows L2 Jv
/-! ### expressions over slots that hold objects; comprehensions over such -/
section
variable {K : PySem.W.Frag} {S : Option Sx} {r r1 r2 : List Sl} {P : Po}
/-- data by an expression that draws nothing -/
def ExP (K : PySem.W.Frag) (S : Option Sx) (r : List Sl) (te : TE) (d : PyData) : Prop := ∀ H0 A H sg (Q : VK), EnvA K S H0 A H sg r → (∀ H' v, Same H H' → Da K (Mask A H') v d → Q v H') → te sg H Q
def ExT (K : PySem.W.Frag) (S : Option Sx) (r : List Sl) (tt : TT) (b : Bool) : Prop := ∀ H0 A H sg (Q : Bool → Hp → Prop), EnvA K S H0 A H sg r → (∀ H', Same H H' → Q b H') → tt sg H Q
theorem xp_ev {te : TE} {d : PyData} (h : EvR K te (view r) d) (f : flat d = true) : ExP K S r te d := fun H0 A H sg Q e q => h sg H e.view Q fun H' v s hv => q H' v s (flat_mask (e.same s) hv f)
theorem xt_ev {tt : TT} {b : Bool} (h : EvT K tt (view r) b) : ExT K S r tt b := fun H0 A H sg Q e q => h sg H e.view Q q
theorem xt_and {t u : TT} {b c : Bool} (h : ExT K S r t b) (g : b = true → ExT K S r u c) (hc : b = false → c = false) : ExT K S r (tAnd t u) c := fun H0 A H sg Q e q => h H0 A H sg _ e fun H1 s1 => by
  cases b with
  | true => exact iteT (g rfl H0 A H1 sg _ (e.same s1) fun H2 s2 => q H2 (s1.trans s2))
  | false =>
    rw [hc rfl] at q
    exact iteF (q H1 s1)
theorem xt_or {t u : TT} {b c : Bool} (h : ExT K S r t b) (g : b = false → ExT K S r u c) (hc : b = true → c = true) : ExT K S r (tOr t u) c := fun H0 A H sg Q e q => h H0 A H sg _ e fun H1 s1 => by
  cases b with
  | false => exact iteF (g rfl H0 A H1 sg _ (e.same s1) fun H2 s2 => q H2 (s1.trans s2))
  | true =>
    rw [hc rfl] at q
    exact iteT (q H1 s1)
theorem xt_not {t : TT} {b : Bool} (h : ExT K S r t b) : ExT K S r (tNot t) (!b) := fun H0 A H sg Q e q => h H0 A H sg _ e q
theorem xt_test {te : TE} {b : Bool} (h : ExP K S r te (.bool b)) : ExT K S r (tTest te) b := fun H0 A H sg Q e q => h H0 A H sg _ e fun H1 v s hv => by
  cases hv
  exact ⟨b, rfl, q H1 s⟩
theorem xt_b {te : TE} {b : Bool} (h : ExP K S r te (.bool b)) : ExT K S r (tB te) b := fun H0 A H sg Q e q => h H0 A H sg _ e fun H1 v s hv => by
  cases hv
  exact ⟨b, rfl, q H1 s⟩
theorem xp_isNone {t : TE} {d : PyData} (h : ExP K S r t d) : ExP K S r (tOp (fun x y H Q => y = V.non ∧ Q (V.bl (decide (x = V.non))) H) t (tC .non)) (.bool (isNon d)) := fun H0 A H sg Q e q => h H0 A H sg _ e fun H1 v s hv => ⟨rfl, by
  rw [da_isNon hv]
  exact q H1 _ s (.bl _)⟩
theorem xp_notNone {t : TE} {d : PyData} (h : ExP K S r t d) : ExP K S r (tOp (fun x y H Q => y = V.non ∧ Q (V.bl (!decide (x = V.non))) H) t (tC .non)) (.bool (!isNon d)) := fun H0 A H sg Q e q => h H0 A H sg _ e fun H1 v s hv => ⟨rfl, by
  rw [da_isNon hv]
  exact q H1 _ s (.bl _)⟩
theorem bk_ifX {c : TT} {t u : TS} {b : Bool} (h : ExT K S r c b) (g1 : b = true → Bk K S r t P) (g2 : b = false → Bk K S r u P) : Bk K S r (tIfS c t u) P := fun H0 A H sg D e gv => h H0 A H sg _ e fun H' s => by
  cases b with
  | true => exact iteT (g1 rfl H0 A H' sg D (e.same s) (gv.from (mask_mono s)))
  | false => exact iteF (g2 rfl H0 A H' sg D (e.same s) (gv.from (mask_mono s)))
theorem bk_ifXS {c : TT} {t u w : TS} {b : Bool} (h : ExT K S r c b) (g1 : b = true → Bk K S r (tSeq t w) P) (g2 : b = false → Bk K S r (tSeq u w) P) : Bk K S r (tSeq (tIfS c t u) w) P := fun H0 A H sg D e gv => h H0 A H sg _ e fun H' s => by
  cases b with
  | true => exact iteT (g1 rfl H0 A H' sg D (e.same s) (gv.from (mask_mono s)))
  | false => exact iteF (g2 rfl H0 A H' sg D (e.same s) (gv.from (mask_mono s)))
theorem st_asgX {te : TE} {i : Nat} {d : PyData} (h : ExP K S r te d) : StepM K S r (tAsg te (gName i)) (r.set i (.da d)) := fun H0 A H sg D e q => h H0 A H sg _ e fun H' v s hv => q A H' _ (mask_mono s) ((e.same s).setD hv)
theorem bk_retX {te : TE} {d : PyData} (h : ExP K S r te d) (p : P.rt (.da d) r) : Bk K S r (tRet te) P := fun H0 A H sg D e gv => h H0 A H sg _ e fun H' v s hv => gv.rt A H' sg r _ v p (mask_mono s) (e.same s) hv
/-- an object that is told by what is known of it -/
def ExO (K : PySem.W.Frag) (S : Option Sx) (r : List Sl) (te : TE) (p : Hp → V → Prop) : Prop := ∀ H0 A H sg (Q : VK), EnvA K S H0 A H sg r → (∀ H' v, Same H H' → p (Mask A H') v → Q v H') → te sg H Q
theorem st_asgO {te : TE} {i : Nat} {p : Hp → V → Prop} (m : Mono p) (h : ExO K S r te p) : StepM K S r (tAsg te (gName i)) (r.set i (.ob p)) := fun H0 A H sg D e q => h H0 A H sg _ e fun H' v s hv => q A H' _ (mask_mono s) ((e.same s).put ⟨m, v, rfl, hv⟩ (fun _ z => by cases z) fun _ z => by cases z)
theorem xo_var {i : Nat} {p : Hp → V → Prop} (h : r[i]? = some (.ob p)) : ExO K S r (tVar i) p := fun H0 A H sg Q e q => by
  obtain ⟨m, v, h1, h2⟩ := e.at_ i _ h
  exact ⟨v, h1, q H v (Same.refl H) h2⟩
theorem xp_var {i : Nat} {d : PyData} (h : r[i]? = some (.da d)) : ExP K S r (tVar i) d := fun H0 A H sg Q e q => by
  obtain ⟨v, h1, h2⟩ := e.at_ i _ h
  exact ⟨v, h1, q H v (Same.refl H) h2⟩
/-! ### comprehensions -/
def wipeS (r : List Sl) : List Nat → List Sl
  | [] => r
  | v :: vs => (wipeS r vs).set v .no
theorem EnvA.wiped {H0 H : Hp} {A : List Addr} {sg : L2.St} (e : EnvA K S H0 A H sg r) : ∀ vs : List Nat, EnvA K S H0 A H (wipe sg vs) (wipeS r vs)
  | [] => e
  | v :: vs => (EnvA.wiped e vs).setN
def TgW (K : PySem.W.Frag) (S : Option Sx) (vs : List Nat) (r : List Sl) (g : TG) (d : PyData) (r2 : List Sl) : Prop := ∀ H0 A H sg v (Q : L2.St → Hp → Prop), EnvA K S H0 A H sg r → Da K (Mask A H) v d → (∀ sg', EnvA K S H0 A H sg' r2 → wipe sg' vs = wipe sg vs → Q sg' H) → g v sg H Q
def TgsW (K : PySem.W.Frag) (S : Option Sx) (vs : List Nat) (r : List Sl) (g : TGs) (ds : List PyData) (r2 : List Sl) : Prop := ∀ H0 A H sg us (Q : L2.St → Hp → Prop), EnvA K S H0 A H sg r → DaAll K (Mask A H) us ds → (∀ sg', EnvA K S H0 A H sg' r2 → wipe sg' vs = wipe sg vs → Q sg' H) → g us sg H Q
theorem tw_name {vs : List Nat} {j : Nat} {d : PyData} (h : j ∈ vs) : TgW K S vs r (gName j) d (r.set j (.da d)) := fun H0 A H sg v Q e hv q => q _ (e.setD hv) (wipe_set h)
theorem tws_nil {vs : List Nat} : TgsW K S vs r gNil [] r := fun H0 A H sg us Q e hv q => by
  have := da_nil hv
  subst this
  exact ⟨rfl, q _ e rfl⟩
theorem tws_cons {vs : List Nat} {g : TG} {gs : TGs} {d : PyData} {ds : List PyData} (h : TgW K S vs r g d r1) (k : TgsW K S vs r1 gs ds r2) : TgsW K S vs r (gCons g gs) (d :: ds) r2 := fun H0 A H sg us Q e hv q => by
  obtain ⟨x, rs, rfl, p1, p2⟩ := da_cons hv
  exact ⟨x, rs, rfl, h H0 A H sg x _ e p1 fun s2 e2 w2 => k H0 A H s2 rs _ e2 p2 fun s3 e3 w3 => q s3 e3 (w3.trans w2)⟩
theorem tw_tup {vs : List Nat} {gs : TGs} {ds : List PyData} {n : Nat} (k : TgsW K S vs r gs ds r2) (hn : ds.length = n) : TgW K S vs r (gTup K n gs) (.tuple ds) r2 := fun H0 A H sg v Q e hv q => by
  cases hv with
  | tup h1 h2 hz => exact ⟨_, _, rfl, sqT_same mask_same h1, (DaAll.len h2).trans hn, k H0 A H sg _ Q e h2 q⟩
/-- an own list that is in no slot is put, or changed -/
theorem EnvA.side {H0 H H' : Hp} {A A' : List Addr} {sg : L2.St} (e : EnvA K S H0 A H sg r) {D : Addr} {xs : List V} (hA : ∀ a, a ∈ A' ↔ a = D ∨ a ∈ A) (n0 : D ∉ Sx.A S) (n1 : H0 D = none) (nS : ∀ (i : Nat) ds, r[i]? = some (.ow ds) → sg[i]? ≠ some (some (.ref D))) (nC : ∀ (i : Nat) n z, r[i]? = some (Sl.st n) → S = some z → z.c ≠ D) (nM : Mask A H D = none) (hD : H' D = some (.lst xs)) (k : ∀ b, b ≠ D → ∀ o, H b = some o → H' b = some o) : EnvA K S H0 A' H' sg r ∧ Same (Mask A H) (Mask A' H') := by
  have big : Same (Mask A H) (Mask A' H') := fun b o h => by
    obtain ⟨h1, h2⟩ := mask_in h
    have nb : b ≠ D := by
      rintro rfl
      rw [nM] at h
      cases h
    rw [mask_out fun z => ((hA b).mp z).elim nb h1]
    exact k b nb o h2
  refine ⟨⟨e.len, fun a ha => (hA a).mpr (.inr (e.base a ha)), fun a ha => ?_, fun a ha => ?_, fun b o h => big b o (e.fr b o h), fun i s h => ?_, e.two, e.one⟩, big⟩
  · rcases (hA a).mp ha with rfl | ha
    · exact .inr n1
    · exact e.new a ha
  · by_cases z : a = D
    · subst z
      exact ⟨_, hD, (fun _ z => by cases z), fun _ _ z => by cases z⟩
    · rcases (hA a).mp ha with rfl | ha
      · exact absurd rfl z
      · obtain ⟨o, h1, h2⟩ := e.hard a ha
        exact ⟨o, k a z o h1, h2⟩
  · have old := e.at_ i s h
    cases s with
    | no => trivial
    | da d =>
      obtain ⟨v, h1, h2⟩ := old
      exact ⟨v, h1, Da.same big _ _ h2⟩
    | ow ds =>
      obtain ⟨D2, vs, h1, h2, h3, h4, h5⟩ := old
      have nd : D2 ≠ D := fun z => nS i ds h (z ▸ h1)
      exact ⟨D2, vs, h1, (hA D2).mpr (.inr h2), h3, k D2 nd _ h4, DaAll.same big _ _ h5⟩
    | ob p =>
      obtain ⟨m, v, h1, h2⟩ := old
      exact ⟨m, v, h1, m _ _ _ big h2⟩
    | st n =>
      obtain ⟨z, h1, h2, h3, h4⟩ := old
      subst h1
      have d1 : z.d ≠ D := fun q => n0 (q ▸ List.mem_cons_self)
      have d2 : z.l ≠ D := fun q => n0 (q ▸ List.mem_cons_of_mem _ List.mem_cons_self)
      have d3 := nC i n z h rfl
      obtain ⟨cells, lefts, m, r', a1, a2, a3, rest⟩ := h3.ex
      exact ⟨z, rfl, h2, ⟨cells, lefts, m, r', k _ d1 _ a1, k _ d3 _ a2, k _ d2 _ a3, rest⟩, fun q => ((hA _).mp q).elim d3 h4⟩
theorem wipeS_at {i : Nat} {ds : List PyData} : ∀ {vs : List Nat}, (wipeS r vs)[i]? = some (.ow ds) → r[i]? = some (.ow ds) ∧ i ∉ vs
  | [], h => ⟨h, fun z => by cases z⟩
  | v :: vs, h => by
    have h : ((wipeS r vs).set v .no)[i]? = some (.ow ds) := h
    by_cases z : v = i
    · subst z
      rw [List.getElem?_set] at h
      simp only [if_true] at h
      split at h <;> cases h
    · rw [List.getElem?_set_ne z] at h
      obtain ⟨h1, h2⟩ := wipeS_at h
      exact ⟨h1, fun q => (List.mem_cons.mp q).elim (fun e => z e.symm) h2⟩
theorem wipe_at {sg : L2.St} {i : Nat} {x : V} : ∀ {vs : List Nat}, (wipe sg vs)[i]? = some (some x) → sg[i]? = some (some x) := fun h => (wipe_some h).1
/-- [c for a in bs if p], also over slots that hold objects -/
theorem nw_lcX {β : Type} {wi : TI} {g : TG} {tt : TT} {te : TE} {vs : List Nat} (bs : List β) (a c : β → PyData) (p : β → Bool) (hi : ItM K S r wi (bs.map a)) (l : bs.length ≤ 100000)
    (step : ∀ b ∈ bs, ∃ r2, TgW K S vs (wipeS r vs) g (a b) r2 ∧ ExT K S r2 tt (p b) ∧ (p b = true → ExP K S r2 te (c b))) : NwM K S r (tLc wi g tt te vs) ((bs.filter p).map c) := fun H0 A H sg Q e q => by
  refine hi H0 A H sg _ e fun J Gd Y H1 s1 wk hG hY D nD => ?_
  have e1 := e.same s1
  have nA := hard_fresh e1.hard nD
  have nS : D ∉ Sx.A S := fun z => nA (e.base D z)
  have nDH := none_of s1 nD
  have n0 : H0 D = none := by
    cases z : H0 D with
    | none => rfl
    | some o =>
      have := e.fr D o (by rw [mask_out nS]; exact z)
      rw [mask_out (hard_fresh e.hard nDH), nDH] at this
      cases this
  have slot : ∀ (i : Nat) ds, (wipeS r vs)[i]? = some (.ow ds) → (wipe sg vs)[i]? ≠ some (some (.ref D)) := fun i ds h hz => by
    obtain ⟨D2, _, h1, h2, _⟩ := (e1.wiped vs).at_ i _ h
    rw [hz] at h1
    cases h1
    exact nA h2
  have nC : ∀ (i : Nat) n z, (wipeS r vs)[i]? = some (Sl.st n) → S = some z → z.c ≠ D := fun i n z hn hz => by
    obtain ⟨z', h1, _, h3, _⟩ := (e1.wiped vs).at_ i _ hn
    rw [hz] at h1
    cases h1
    obtain ⟨cells, lefts, m, r', a1, a2, a3, rest⟩ := h3.ex
    rintro rfl
    rw [nD] at a2
    cases a2
  have ln : (bs.map a).length = bs.length := List.length_map _
  have sD : ∀ {H : Hp} {o : HO}, Same H1 H → Same H1 (upd H D o) := fun {H o} s b u e => by
    rw [upd_ne (ne_of_none e nD)]
    exact s b u e
  have allA : ∀ a, a ∈ D :: A ↔ a = D ∨ a ∈ A := fun a => List.mem_cons
  refine lc_it wk (fun i H2 => Same H1 H2 ∧ EnvA K S H0 (D :: A) H2 (wipe sg vs) (wipeS r vs) ∧ ∃ acc, H2 D = some (.lst acc) ∧ DaAll K (Mask (D :: A) H2) acc (((bs.take i).filter p).map c)) ⟨sD (Same.refl _), ?_, [], upd_same, .nil⟩ (fun i H2 _ g => hG (D :: A) H2 (mask_more g.1 nD)) (fun i x H2 H3 hlt g2 y => ?_) (fun H2 g2 => ?_)
  · refine ((e1.wiped vs).side allA nS n0 slot nC ?_ upd_same fun b nb o hb => by rw [upd_ne nb]; exact hb).1
    rw [mask_out nA]
    exact nD
  · obtain ⟨s2, e2, acc, hD, hacc⟩ := g2
    obtain ⟨s3, d, ed, hd⟩ := hY i H2 x H3 (D :: A) hlt (mask_more s2 nD) e2.hard y
    rw [List.getElem?_map] at ed
    obtain ⟨b, eb, rfl⟩ := Option.map_eq_some_iff.mp ed
    obtain ⟨r2, htg, ht, he⟩ := step b (List.mem_of_getElem? eb)
    have e3 := e2.same s3
    have snoc : (bs.take (i + 1)).filter p = (bs.take i).filter p ++ (if p b = true then [b] else []) := by
      rw [List.take_add_one, eb, List.filter_append]
      congr 1
      show List.filter p [b] = _
      rw [List.filter_cons]
      rfl
    refine htg H0 (D :: A) H3 _ x _ e3 hd fun σ4 e4 w4 => ⟨w4.trans (wipe_wipe fun u hu => hu), ht H0 _ H3 σ4 _ e4 fun H4 s4 => ?_⟩
    have s14 := (s2.trans s3).trans s4
    have hD4 := s4 _ _ (s3 _ _ hD)
    cases pb : p b with
    | false =>
      rw [pb] at snoc
      refine iteF ⟨s14, e3.same s4, acc, hD4, ?_⟩
      rw [snoc]
      simp only [Bool.false_eq_true, if_false, List.append_nil]
      exact DaAll.same (mask_mono (s3.trans s4)) _ _ hacc
    | true =>
      rw [pb, if_pos rfl] at snoc
      refine iteT (he pb H0 _ H4 σ4 _ (e4.same s4) fun H5 v s5 hv => ⟨acc, s5 _ _ hD4, ?_, sD (s14.trans s5), ?_, acc ++ [v], upd_same, ?_⟩)
      · rw [DaAll.len hacc, List.length_map]
        refine Nat.lt_of_le_of_lt (List.length_filter_le _ _) ?_
        rw [List.length_take]
        exact Nat.lt_of_le_of_lt (show min i bs.length ≤ 100000 by omega) (by decide)
      · refine (((e3.same s4).same s5).side (A' := D :: A) (fun a => ⟨fun z => .inr z, fun z => z.elim (fun q => q ▸ List.mem_cons_self) id⟩) nS n0 slot nC ?_ upd_same fun b nb o hb => by rw [upd_ne nb]; exact hb).1
        exact if_pos List.mem_cons_self
      · rw [snoc, List.map_append]
        have big : Same (Mask (D :: A) H5) (Mask (D :: A) (upd H5 D (.lst (acc ++ [v])))) := mut_big List.mem_cons_self
        exact DaAll.app (DaAll.same ((mask_mono ((s3.trans s4).trans s5)).trans big) _ _ hacc) (.cons (Da.same big _ _ hv) .nil)
  · obtain ⟨s2, e2, acc, hD, hacc⟩ := g2
    rw [ln, List.take_length] at hacc
    exact q H2 D acc (s1.trans s2) nDH hD hacc
/-- tuple(l) of a new list -/
theorem xp_tupNw {te : TE} {ds : List PyData} (h : NwM K S r te ds) (l : ds.length ≤ 1000) : ExP K S r (tCB (fun xs H Q => ∃ p ys, xs = [V.ref p] ∧ ((SqL K H p ys ∧ ∀ (l : Addr), H l = none → Q (V.ref l) (upd H l (HO.tup ys))) ∨ SqT K H p ys ∧ Q (V.ref p) H)) (tCons te tNil)) (.tuple ds) := fun H0 A H sg Q e q => h H0 A H sg _ e fun H' a vs s na ha hv => ⟨a, vs, rfl, Or.inl ⟨SqL.of ha, fun p np => by
    have s2 := Jv.same_new (o := HO.tup vs) np
    have nA : p ∉ A := hard_fresh (fun b hb => (e.hard b hb).same s) np
    refine q _ _ (s.trans s2) (.tup (SqT.of ?_) (DaAll.same (mask_less.trans (mask_mono s2)) _ _ hv) l)
    rw [mask_out nA]
    exact upd_same⟩⟩
end
end S1
namespace S1
open PySem PySem.Spec PyProof.Rows L2 Jv
/-! ### the keys of a site, each once, ascending -/
def ddK : List Ky → List Ky
  | [] => []
  | k :: ks => if k ∈ ks then ddK ks else k :: ddK ks
theorem ddK_mem : ∀ {ks : List Ky} {k : Ky}, k ∈ ddK ks ↔ k ∈ ks
  | [], k => Iff.rfl
  | a :: ks, k => by
    unfold ddK
    split
    · rename_i h
      rw [ddK_mem, List.mem_cons]
      exact ⟨Or.inr, fun z => z.elim (fun e => e ▸ h) id⟩
    · rw [List.mem_cons, List.mem_cons, ddK_mem]
theorem ddK_nodup : ∀ ks : List Ky, (ddK ks).Nodup
  | [] => List.nodup_nil
  | a :: ks => by
    unfold ddK
    split
    · exact ddK_nodup ks
    · rename_i h
      exact List.nodup_cons.mpr ⟨fun z => h (ddK_mem.mp z), ddK_nodup ks⟩
def keysM (s : List Pg) : List Ky := kySort (ddK (siteTw s))
theorem keysM_mem {s : List Pg} {k : Ky} : k ∈ keysM s ↔ k ∈ siteTw s := (kySort_perm _).mem_iff.trans ddK_mem
theorem keysM_nodup (s : List Pg) : (keysM s).Nodup := (kySort_perm _).nodup_iff.mpr (ddK_nodup _)
theorem siteTw_le {s : List Pg} (h : SiteOk s) : (siteTw s).length ≤ 25 := by
  have e : siteTw s = siteKs s := rfl
  rw [e]
  exact siteKs_len h
theorem keysM_len {s : List Pg} (h : SiteOk s) : (keysM s).length ≤ 25 := Nat.le_trans (nodup_le (keysM_nodup s) fun k hk => keysM_mem.mp hk) (siteTw_le h)
section
variable {P : Program} {w : World} {K : PySem.W.Frag} {mg : Str → Option Value} {base : Heap} {C1 C2 C3 C4 : Addr}
theorem siteOk_of {s : List Pg} (good : siteBad (sitePy s) = none) : SiteOk s := by
  obtain ⟨s', e, o⟩ := site_of good
  rw [sitePy_injP e]
  exact o
/-- too many keys -/
def Most (C : Addr) (H : Hp) (E : XK) : Prop := ∀ H' d, Same H H' → H' d = some (.xd [("most", .int 6)]) → E (.ref C) (some d) H'
theorem Given.same {C : Addr} {f : Str} {H H1 : Hp} {u : V} {E : XK} (s : Same H H1) (h : Given C f H u E) : Given C f H1 u E := fun H' dd s' e => h H' dd (s.trans s') e
theorem Most.same {C : Addr} {H H1 : Hp} {E : XK} (s : Same H H1) (h : Most C H E) : Most C H1 E := fun H' dd s' e => h H' dd (s.trans s') e
theorem Told.same {C : Addr} {f : Str} {H H1 : Hp} {Q : Hp → Prop} {E : XK} {o : Option (List Int)} (s : Same H H1) (h : Told K C f H Q E o) : Told K C f H1 Q E o := by
  cases o with
  | none => exact fun H' s' => h H' (s.trans s')
  | some ns => exact fun H' d t s' e1 e2 => h H' d t (s.trans s') e1 e2
/-- what is refused of a site, a number of a page, a name, in this order; then what is told -/
def Gate (K : PySem.W.Frag) (C1 C2 C3 C4 : Addr) (H : Hp) (E : XK) (d e f : PyData) (u z : V) (good : List Pg → Nat → Pg → Str → Prop) : Prop :=
  (∀ ns, siteBad d = some ns → Told K C1 "place" H (fun _ => False) E (some ns)) ∧ ∀ s, siteBad d = none → d = sitePy s →
    (isNum (s.length : Int) e = false → Given C2 "given" H u E) ∧ ∀ (n : Nat) p, e = .int (n : Int) → s[n]? = some p →
      (okD lts f = false → Given C3 "given" H z E) ∧ ∀ nm, f = .str nm → okW lts nm = true → (6 < (keysM s).length → Most C4 H E) ∧ ((keysM s).length ≤ 6 → good s n p nm)
theorem exn_BadName (T : Txt K mg) (D : ExnD K mg "BadName" "given" "BadName.__init__" st_BadName C) : Exn P w K mg base "BadName" "given" C := by
  obtain ⟨B, b⟩ := T.b_JarError
  refine D.exn sc_BadName fun fI cdv A out s H vs Q E hr h => ?_
  obtain ⟨a, C', y, rfl, ea, hT, hno, q⟩ := h
  refine ⟨_, pss_cons (ps_expr (pe_jinit b (pa_cons (pv 0) (pa_cons pe_str pa_nil)))) (pss_one (ps_ost (pv 0) (pv 1))), ?_⟩
  exact ⟨.ref a, rfl, a, C', [_], rfl, (by decide), hT, ea, y, rfl, .ref a, rfl, a, C', rfl, hT, hno, Or.inl ⟨ea, fun dx n ne => q dx n ne⟩⟩
def spNameX (K : PySem.W.Frag) (C : Addr) : Sp := fun vs H Q E => ∃ v d, vs = [v] ∧ Da K H v d ∧ if okD lts d = true then ∀ H', Same H H' → Q v H' else Given C "given" H v E
theorem ok_need_nameP (T : Txt K mg) (n_BadName : Exn P w K mg base "BadName" "given" C3) : OkX P w K mg base "need_name" P_need_name 3 (spNameX K C3) := by
  have ok_is_name : Ok P w K mg base "is_name" P_is_name 2 (spOne K (okD lts)) := ok_is_name T
  refine T.d_need_name.okX sc_need_name (fun vs H Q E h => ?_) (fun f cdv A out s H vs Q E hr h => ?_)
  · obtain ⟨v, d, rfl, _⟩ := h
    rfl
  · obtain ⟨v, d, rfl, hd, q⟩ := h
    refine ⟨_, (pss_cons (ps_if (pt_not (pt_val (pe_ok ok_is_name (hr.mono (by decide)) (pa_cons (pv 0) pa_nil)))) (pss_one (ps_raiseE n_BadName (hr.mono (by decide)) (takes_of rfl rfl rfl rfl) (pv 0))) pss_nil)
    (pss_one (ps_ret (pv 0)))), ?_⟩
    refine ⟨v, rfl, v, d, rfl, hd, fun H1 s1 => ⟨okD lts d, rfl, ?_⟩⟩
    cases b : okD lts d with
    | true =>
      rw [b] at q
      exact iteF ⟨v, rfl, q H1 s1⟩
    | false =>
      rw [b] at q
      exact iteT ⟨v, rfl, mk_read n_BadName fun dd Hx nd sx ed => q Hx dd (s1.trans sx) ed⟩
def spNPN (K : PySem.W.Frag) (C1 C2 C3 C4 : Addr) : Sp := fun vs H Q E => ∃ v u z d e f, vs = [v, u, z] ∧ Da K H v d ∧ Da K H u e ∧ Da K H z f ∧ Gate K C1 C2 C3 C4 H E d e f u z fun _ _ _ _ => ∀ H', Same H H' → Q .non H'
theorem ok_need_pn (T : Txt K mg) (n1 : Exn P w K mg base "BadSite" "place" C1) (n2 : Exn P w K mg base "BadPage" "given" C2) (n3 : Exn P w K mg base "BadName" "given" C3) (n4 : Exn P w K mg base "TooMany" "most" C4) : OkX P w K mg base "_need_page_and_name" P__need_page_and_name 8 (spNPN K C1 C2 C3 C4) := by
  have ok_keys_of : OkX P w K mg base "keys_of" P_keys_of 7 (spKeys K C1) := ok_keys_of T n1
  have ok_need_page : OkX P w K mg base "need_page" P_need_page 3 (spPg K C2) := ok_need_page T n2
  have ok_need_name : OkX P w K mg base "need_name" P_need_name 3 (spNameX K C3) := ok_need_nameP T n3
  have ok_need_few_keys : OkX P w K mg base "need_few_keys" P_need_few_keys 3 (spFew K C4) := ok_need_few T n4
  refine T.d__need_page_and_name.okX sc__need_page_and_name (fun vs H Q E h => ?_) (fun f cdv A out s H vs Q E hr h => ?_)
  · obtain ⟨v, u, z, d, e, f, rfl, _⟩ := h
    rfl
  · obtain ⟨v, u, z, d, e, f', rfl, hd, he, hf, g1, g2⟩ := h
    refine ⟨_, (pss_cons (ps_set (i := 3) sc__need_page_and_name.nd rfl (Or.inl rfl) (pe_okX ok_keys_of (hr.mono (by decide)) (takes_of rfl rfl rfl rfl) (pa_cons (pv 0) pa_nil)))
    (pss_cons (ps_expr (pe_okX ok_need_page (hr.mono (by decide)) (takes_of rfl rfl rfl rfl) (pa_cons (pv 0) (pa_cons (pv 1) pa_nil))))
    (pss_cons (ps_expr (pe_okX ok_need_name (hr.mono (by decide)) (takes_of rfl rfl rfl rfl) (pa_cons (pv 2) pa_nil)))
    (pss_one (ps_expr (pe_okX ok_need_few_keys (hr.mono (by decide)) (takes_of rfl rfl rfl rfl) (pa_cons (pv 3) pa_nil))))))), ?_⟩
    refine ⟨v, rfl, v, d, rfl, hd, g1, fun si good es H1 t as ks s1 ht hk all => ?_⟩
    subst es
    obtain ⟨q1, q2⟩ := g2 si good rfl
    have ek : ks = keysM si := all _ (ddK_nodup _) fun k => ddK_mem
    subst ek
    have kz := keysM_len (siteOk_of good)
    obtain ⟨a, xs, rfl, h1, nl, h2⟩ := da_seq (Da.same s1 _ _ (show Da K H v (.tuple (si.map Pg.py)) from hd))
    refine ⟨.ref a, rfl, u, rfl, a, xs, u, e, rfl, h1, Da.same s1 _ _ he, ?_⟩
    rw [nl]
    cases hn : isNum (si.length : Int) e with
    | false => exact fun H' dd s' ed => q1 hn H' dd (s1.trans s') ed
    | true =>
      obtain ⟨n, rfl, ln⟩ := isNum_of hn
      obtain ⟨p, ep⟩ : ∃ p, si[n]? = some p := ⟨si[n], List.getElem?_eq_getElem ln⟩
      obtain ⟨q3, q4⟩ := q2 n p rfl ep
      refine fun H2 s2 => ⟨z, rfl, z, f', rfl, Da.same (s1.trans s2) _ _ hf, ?_⟩
      cases ho : okD lts f' with
      | false => exact fun H' dd s' ed => q3 ho H' dd ((s1.trans s2).trans s') ed
      | true =>
        obtain ⟨nm, rfl, hw⟩ : ∃ nm, f' = .str nm ∧ okW lts nm = true := by
          cases f' with
          | str x => exact ⟨x, rfl, ho⟩
          | _ => exact absurd ho Bool.false_ne_true
        obtain ⟨q5, q6⟩ := q4 nm rfl hw
        intro H3 s3
        have s13 := s2.trans s3
        refine ⟨.ref t, rfl, t, as, keysM si, rfl, sqT_same s13 ht, hk.same s13, keysM_nodup si, by omega, fun l H' s4 => q6 l H' ((s1.trans s13).trans s4), fun l H' d s4 ed => q5 l H' d ((s1.trans s13).trans s4) ed⟩
/-! ### what passes is a site that has the form -/
theorem okWr_fit {wr : Wr} (h : okWr wr.py = true) : wrFit wr := by
  obtain ⟨n, v, d, f, g⟩ := wr
  have e : okWr (Wr.py ⟨n, v, d, f, g⟩) = (okD lts (.str n) && dBl (.bool g) && (isNon (optS v) || okD sgs (optS v)) && (isNon (optT d) || okT 2 5 (optT d)) && (isNon (optT f) || okT 0 4 (optT f))) := rfl
  rw [e, Bool.and_eq_true, Bool.and_eq_true, Bool.and_eq_true, Bool.and_eq_true] at h
  obtain ⟨⟨⟨⟨h1, _⟩, h3⟩, h4⟩, h5⟩ := h
  refine ⟨?_, fun x hx => ?_⟩
  · unfold wrShape
    rw [Bool.and_eq_true, Bool.and_eq_true]
    refine ⟨⟨h1, ?_⟩, ?_⟩
    · cases d with
      | none => rfl
      | some d =>
        have h4 : okT 2 5 (.tuple (d.map .str)) = true := h4
        rw [okT_py] at h4
        exact h4
    · cases f with
      | none => rfl
      | some d =>
        have h5 : okT 0 4 (.tuple (d.map .str)) = true := h5
        rw [okT_py] at h5
        exact h5
  · cases v with
    | none => cases hx
    | some y =>
      cases hx
      exact h3
theorem badFrom_all : ∀ {ws : List Wr} {n : Nat}, badFrom n (ws.map Wr.py) = none → ∀ wr ∈ ws, okWr wr.py = true
  | [], _, _, wr, h => by cases h
  | w :: ws, n, h, wr, hw => by
    rw [List.map_cons] at h
    unfold badFrom at h
    cases q : okWr w.py with
    | false =>
      rw [q] at h
      cases h
    | true =>
      rw [q, if_pos rfl] at h
      rcases List.mem_cons.mp hw with rfl | hw
      · exact q
      · exact badFrom_all h wr hw
theorem okA_fit {a : Ad} (h : okA a.py = true) : okT' 2 5 a.host = true ∧ okT' 0 4 a.path = true := by
  have e : okA a.py = (okT 2 5 (.tuple (a.host.map .str)) && okT 0 4 (.tuple (a.path.map .str)) && dBl (.bool a.sec)) := rfl
  rw [e, okT_py, okT_py, Bool.and_eq_true, Bool.and_eq_true] at h
  exact h.1
theorem pageBad_fit {n : Int} {p : Pg} (h : pageBad n p.py = none) : pgFit p := by
  have e : pageBad n p.py = pageBad n (.tuple [p.ad.py, .tuple (p.ws.map Wr.py)]) := rfl
  rw [e] at h
  cases qa : okA p.ad.py with
  | false =>
    rw [pageBad_a qa] at h
    cases h
  | true =>
    by_cases l : (((p.ws.map Wr.py).length : Nat) : Int) ≤ 5
    · rw [pageBad_w qa l, Option.map_eq_none_iff] at h
      have all := badFrom_all h
      obtain ⟨a1, a2⟩ := okA_fit qa
      rw [List.length_map] at l
      have fits : ∀ wr ∈ p.ws, wrFit wr := fun wr hw => okWr_fit (all wr hw)
      refine ⟨?_, fits⟩
      unfold pgShape
      rw [a1, a2, decide_eq_true (by omega), List.all_eq_true.mpr fun wr hw => (fits wr hw).1]
      rfl
    · rw [pageBad_m qa l] at h
      cases h
theorem pagesBad_fit : ∀ {s : List Pg} {n : Nat}, pagesBad n (s.map Pg.py) = none → ∀ p ∈ s, pgFit p
  | [], _, _, p, h => by cases h
  | x :: s, n, h, p, hp => by
    rw [List.map_cons] at h
    unfold pagesBad at h
    cases q : pageBad (n : Int) x.py with
    | some ns =>
      rw [q] at h
      cases h
    | none =>
      rw [q] at h
      rcases List.mem_cons.mp hp with rfl | hp
      · exact pageBad_fit q
      · exact pagesBad_fit h p hp
theorem fit_of_good {s : List Pg} (h : siteBad (sitePy s) = none) : siteFit s := by
  have e : siteBad (sitePy s) = if decide ((1 : Int) ≤ ((s.map Pg.py).length : Int)) && decide (((s.map Pg.py).length : Int) ≤ 5) then pagesBad 0 (s.map Pg.py) else some [] := rfl
  rw [e] at h
  split at h
  · rename_i l
    rw [Bool.and_eq_true, decide_eq_true_eq, decide_eq_true_eq, List.length_map] at l
    exact ⟨by omega, by omega, pagesBad_fit h⟩
  · cases h
/-! ### what is lacked -/
/-- some page leaves it -/
def setM (p : Pg) (k : Ky) : Bool := match effP p k with
  | some (some _) => true
  | _ => false
def putM (s : List Pg) (k : Ky) : Bool := s.any fun p => setM p k
/-- this page takes it out -/
def outM (p : Pg) (k : Ky) : Bool := match effP p k with
  | some none => true
  | _ => false
def lackM (s : List Pg) (p : Pg) (nm : Str) : List Ky := ((keysM s).filter (putM s)).filter fun k => decide (k.name = nm) && !outM p k
theorem effM_getE (ts : List (Ky × Option Str × Bool)) (k : Ky) : getE (effM ts) k = getE (foundM ts) k := by
  have all : ∀ (ks : List Ky), (∀ x ∈ ks, x ∈ (foundM ts).map (·.1)) → getE (ks.map fun k => (k, (getE (foundM ts) k).getD none)) k = if k ∈ ks then getE (foundM ts) k else none := by
    intro ks
    induction ks with
    | nil => intro _; rfl
    | cons a ks ih =>
      intro h
      rw [List.map_cons]
      show (if a = k then some ((getE (foundM ts) a).getD none) else getE (ks.map fun k => (k, (getE (foundM ts) k).getD none)) k) = _
      by_cases z : a = k
      · subst z
        rw [if_pos rfl, if_pos List.mem_cons_self]
        obtain ⟨v, hv⟩ := getE_mem (h a List.mem_cons_self)
        rw [hv]
        rfl
      · rw [if_neg z, ih fun x hx => h x (List.mem_cons_of_mem _ hx)]
        by_cases y : k ∈ ks
        · rw [if_pos y, if_pos (List.mem_cons_of_mem _ y)]
        · rw [if_neg y, if_neg fun q => (List.mem_cons.mp q).elim (fun e => z e.symm) y]
  unfold effM
  rw [all _ fun x hx => (kySort_perm _).mem_iff.mp hx]
  split
  · rfl
  · rename_i h
    exact (getE_none fun z => h ((kySort_perm _).mem_iff.mpr z)).symm
theorem effM_keys (ts : List (Ky × Option Str × Bool)) : (effM ts).map (·.1) = kySort ((foundM ts).map (·.1)) := by
  unfold effM
  rw [List.map_map]
  exact List.map_id _
theorem EffAll.getD {H : Hp} {kvs : List (Ky × V)} {l : List (Ky × Option (Str × Bool))} (h : EffAll K H kvs l) (k : Ky) : match getE l k with
    | none => getN kvs k = none
    | some e => ∃ v, getN kvs k = some v ∧ EffAt K H v e := by
  cases g : getE l k with
  | none =>
    induction h with
    | nil => rfl
    | @cons p q ps qs r t ih =>
      unfold getE at g
      unfold getN
      by_cases z : p.1 = k
      · rw [if_pos (r.1.symm.trans z)] at g
        cases g
      · rw [if_neg (fun y => z (r.1.trans y))] at g
        rw [if_neg z]
        exact ih g
  | some e => exact h.get g
theorem eff_isNon {H : Hp} {v : V} {e : Option (Str × Bool)} (h : EffAt K H v e) : decide (v = .non) = e.isNone := by
  cases e with
  | none =>
    have h : v = .non := h
    rw [h]
    rfl
  | some t =>
    obtain ⟨b, rfl, _⟩ := h
    rfl
/-! ### its parts -/
def EffsO (K : PySem.W.Frag) (P : Program) (w : World) (s : List Pg) : Hp → V → Prop := fun H v => ∃ D ds, v = .ref D ∧ SqL K H D ds ∧ EffDs K P w H ds s
theorem mono_effs (s : List Pg) : Mono (EffsO K P w s) := fun H H' v k ⟨D, ds, h1, h2, h3⟩ => ⟨D, ds, h1, k.seq h2, h3.same k⟩
theorem mono_eff (p : Pg) : Mono fun H v => EffD K P w H v p := fun H H' v k h => h.same k
section
variable {r : List Sl} {S : Option Sx}
/-- any([found.get(key) is not None for found in effects_of]) -/
theorem xt_put {i j o : Nat} {s : List Pg} {k : Ky} (hs : s.length ≤ 5) (hi : r[i]? = some (.ob (EffsO K P w s))) (hj : r[j]? = some (.da k.py)) (oi : o ≠ j) (ol : o < r.length) : ExT K S r (tB (tCB (rAny K) (tCons (tLc (iList K (tVar i)) (gName o) tYes (tOp (fun x y H Q => y = V.non ∧ Q (V.bl (!decide (x = V.non))) H) (tBT (isNd K P w) (rGetN K P w) (tVar o) (tCons (tVar j) tNil)) (tC .non)) [o]) tNil))) (putM s k) := fun H0 A H sg Q e q => by
  obtain ⟨_, v, h1, D, ds, rfl, h2, h3⟩ := e.at_ i _ hi
  obtain ⟨u, h4, h5⟩ := e.at_ j _ hj
  have h2 := mask_same.seq h2
  have h3 := h3.same mask_same
  obtain ⟨a, rfl, hk, _⟩ := da_ky (Da.same mask_same _ _ h5)
  have lj : j < sg.length := (List.getElem?_eq_some_iff.mp h4).1
  have len := Paired.length h3
  refine ⟨.ref D, h1, D, rfl, ⟨ds, h2⟩, fun L nL => ?_⟩
  refine lc_pure (ys := s.map fun p => V.bl (setM p k)) (by rw [List.length_map, ← len]; exact walk_list (xs := ds)) nL (by rw [List.length_map]; omega) (fun H2 s2 => s2.seq h2) (fun x => wipe_one x) (fun i' x y H2 H3 ey s2 yy kk hkk => ?_) (fun H2 s2 hL => ?_)
  · obtain ⟨rfl, ex⟩ := yy
    rw [List.getElem?_map] at ey
    obtain ⟨p, ep, rfl⟩ := Option.map_eq_some_iff.mp ey
    obtain ⟨p', ep', d, kvs, rfl, nd, ef⟩ := paired_get h3 ex
    obtain rfl : p = p' := Option.some.inj (ep.symm.trans ep')
    have sj : ((wipe sg [o]).set o (some (.ref d)))[j]? = some (some (.ref a)) := by
      rw [List.getElem?_set_ne oi]
      show (sg.set o none)[j]? = _
      rw [List.getElem?_set_ne oi]
      exact h4
    have so : o < sg.length → ((wipe sg [o]).set o (some (.ref d)))[o]? = some (some (.ref d)) := fun l => List.getElem?_set_self (by rw [wipe_length]; exact l)
    have lo : o < sg.length := by
      rw [e.len]
      exact ol
    · refine ⟨.ref d, so lo, ⟨d, kvs, rfl, nd.same s2⟩, .ref a, sj, d, kvs, a, k, rfl, rfl, nd.same s2, hk.same s2, rfl, ?_⟩
      have g := EffAll.getD ef k
      rw [effM_getE] at g
      have fin : (!decide ((getN kvs k).getD V.non = V.non)) = setM p k := by
        unfold setM effP
        cases ge : getE (foundM (takenP p)) k with
        | none =>
          rw [ge] at g
          rw [show getN kvs k = none from g]
          rfl
        | some eo =>
          rw [ge] at g
          obtain ⟨v, gv, ga⟩ := g
          rw [gv]
          show (!decide (v = V.non)) = _
          rw [eff_isNon ga]
          cases eo <;> rfl
      rw [fin]
      exact hkk H3 (Same.refl _)
  · refine ⟨L, s.map (fun p => setM p k), rfl, SqL.of (by rw [List.map_map]; exact hL), _, rfl, ?_⟩
    have e2 : (s.map fun p => setM p k).any id = putM s k := by
      rw [List.any_map]
      rfl
    rw [e2]
    exact q H2 s2
end
section
variable {r : List Sl} {S : Option Sx}
/-- key not in own or own[key] is not None -/
theorem xt_stay {i j : Nat} {p : Pg} {k : Ky} (hi : r[i]? = some (.ob fun H v => EffD K P w H v p)) (hj : r[j]? = some (.da k.py)) : ExT K S r (tOr (tTest (tOp (rNotInN K P w) (tVar j) (tVar i))) (tTest (tOp (fun x y H Q => y = V.non ∧ Q (V.bl (!decide (x = V.non))) H) (tOp (rNget K P w) (tVar i) (tVar j)) (tC .non)))) (!outM p k) := fun H0 A H sg Q e q => by
  obtain ⟨_, v, h1, h2⟩ := e.at_ i _ hi
  obtain ⟨d, kvs, rfl, nd, ef⟩ := h2.same mask_same
  obtain ⟨u, h4, h5⟩ := e.at_ j _ hj
  obtain ⟨a, rfl, hk, _⟩ := da_ky (Da.same mask_same _ _ h5)
  refine ⟨.ref a, h4, .ref d, h1, a, d, kvs, k, rfl, rfl, nd, hk, _, rfl, ?_⟩
  have g := EffAll.getD ef k
  rw [effM_getE] at g
  have km : k ∈ kvs.map (·.1) ↔ (getE (foundM (takenP p)) k).isSome := by
    rw [ef.keys, effM_keys, (kySort_perm _).mem_iff]
    cases ge : getE (foundM (takenP p)) k with
    | none => exact ⟨(fun z => by obtain ⟨v, hv⟩ := getE_mem z; rw [ge] at hv; cases hv), (fun z => by cases z)⟩
    | some e => exact ⟨fun _ => rfl, fun _ => getE_some ge⟩
  unfold outM effP at q
  cases ge : getE (foundM (takenP p)) k with
  | none =>
    rw [ge] at km q
    exact ifT (by rw [decide_eq_false fun z => by cases km.mp z]; rfl) (q H (Same.refl _))
  | some eo =>
    rw [ge] at km g q
    obtain ⟨v, gv, ga⟩ := g
    refine ifF (by rw [decide_eq_true (km.mpr rfl)]; rfl) ⟨.ref d, h1, .ref a, h4, d, a, kvs, k, v, rfl, rfl, nd, hk, gv, rfl, _, rfl, ?_⟩
    rw [eff_isNon ga]
    cases eo with
    | none => exact q H (Same.refl _)
    | some x => exact q H (Same.refl _)
end
theorem sitePy_flat (s : List Pg) : flat (sitePy s) = true := site_flat s
theorem keys_flat (ks : List Ky) : flatAll (ks.map Ky.py) = true := flatAll_map ks ky_flat
theorem keysM_fit {s : List Pg} (fs : siteFit s) : ∀ k ∈ keysM s, kyShape k = true := fun k hk => site_key fs (keysM_mem.mp hk)
theorem kys_da {H : Hp} : ∀ {as : List Addr} {ks : List Ky}, KyAll K H as ks → (∀ k ∈ ks, k.Sz) → DaAll K H (as.map V.ref) (ks.map Ky.py)
  | _, _, .nil, _ => .nil
  | _, _, .cons h t, z => .cons (h.da (z _ List.mem_cons_self)) (kys_da t fun k hk => z k (List.mem_cons_of_mem _ hk))
/-- keys_of, of what is a site -/
theorem ev_keysOf {ρ : Rho} {te : TE} {s : List Pg} {W : L2.St → XK} (h : EvR K te ρ (sitePy s)) (good : siteBad (sitePy s) = none) : EvR K (tCallS (spKeys K C1) W (tCons te tNil)) ρ (.tuple ((keysM s).map Ky.py)) := fun sg H en Q q => h sg H en _ fun H1 v s1 hv => by
  have fs := fit_of_good good
  refine ⟨v, sitePy s, rfl, hv, (fun ns hb => by rw [good] at hb; cases hb), fun s' _ es H2 t as ks s2 ht hk all => ?_⟩
  obtain rfl := sitePy_injP es
  obtain rfl : ks = keysM s := all _ (ddK_nodup _) fun k => ddK_mem
  exact q H2 _ (s1.trans s2) (.tup ht (kys_da hk fun k hk => ky_sz (keysM_fit fs k hk)) (by rw [List.length_map]; exact Nat.le_trans (keysM_len (siteOk_of good)) (by decide)))
theorem name_eqv {a b : Str} : PyData.eqv (.str a) (.str b) = decide (a = b) := rfl
theorem str_shaped {z x : Str} (low : ∀ c ∈ z.cps.toList, c < 0x110000) (h : okW z x = true) : SeqAt.shaped (.str x) = true := strOk_shaped (okW_str low h)
theorem kyShape_name {k : Ky} (h : kyShape k = true) : okW lts k.name = true := by
  unfold kyShape at h
  rw [Bool.and_eq_true, Bool.and_eq_true] at h
  exact h.1.1
def spLack (K : PySem.W.Frag) (C1 C2 C3 C4 : Addr) : Sp := fun vs H Q E => ∃ v u z d e f, vs = [v, u, z] ∧ Da K H v d ∧ Da K H u e ∧ Da K H z f ∧ Gate K C1 C2 C3 C4 H E d e f u z fun s _ p nm => ∀ H' v, Same H H' → Da K H' v (.tuple ((lackM s p nm).map Ky.py)) → Q v H'
theorem ok_lacking (T : Txt K mg) (n1 : Exn P w K mg base "BadSite" "place" C1) (n2 : Exn P w K mg base "BadPage" "given" C2) (n3 : Exn P w K mg base "BadName" "given" C3) (n4 : Exn P w K mg base "TooMany" "most" C4) : OkX P w K mg base "lacking" P_lacking 9 (spLack K C1 C2 C3 C4) := by
  have ok__need_page_and_name : OkX P w K mg base "_need_page_and_name" P__need_page_and_name 8 (spNPN K C1 C2 C3 C4) := ok_need_pn T n1 n2 n3 n4
  have ok_effects_of_pages : Ok P w K mg base "effects_of_pages" P_effects_of_pages 8 (spEffPs K P w) := ok_effects_of T n1 n2
  have ok_keys_of : OkX P w K mg base "keys_of" P_keys_of 7 (spKeys K C1) := ok_keys_of T n1
  refine T.d_lacking.okX sc_lacking (fun vs H Q E h => ?_) (fun f cdv A out s H vs Q E hr h => ?_)
  · obtain ⟨v, u, z, d, e, f, rfl, _⟩ := h
    rfl
  · obtain ⟨v, u, z, d, e, f', rfl, hd, he, hf, g1, g2⟩ := h
    refine ⟨_, (pss_cons (ps_expr (pe_okX ok__need_page_and_name (hr.mono (by decide)) (takes_of rfl rfl rfl rfl) (pa_cons (pv 0) (pa_cons (pv 1) (pa_cons (pv 2) pa_nil)))))
    (pss_cons (ps_set (i := 3) sc_lacking.nd rfl (Or.inr rfl) (pe_ok ok_effects_of_pages (hr.mono (by decide)) (pa_cons (pv 0) pa_nil)))
    (pss_cons (ps_set (i := 4) sc_lacking.nd rfl (Or.inr rfl) (pe_ix (show IxR _ (rIxL K) from ix_list) (pv 3) (pv 1) (fun _ _ => rfl)))
    (pss_cons (ps_setLc (i := 5) (own := [("key", 6)]) (g := gName 6) rfl sc_lacking.nd rfl rfl (sw_true rfl rfl rfl (by decide +kernel)) (pi_tup (pe_okX ok_keys_of (hr.mono (by decide)) (takes_of rfl rfl rfl rfl) (pa_cons (pv 0) pa_nil))) (blkOk_by (N := N_lacking) (sc := defScope st_lacking) (by decide +kernel)) (fun _ _ _ _ _ => pg_name (i := 6) sc_lacking.nd rfl (Or.inr rfl)) (fun _ _ _ _ _ => pts_one (pt_val (pe_callB (show CallR _ (.builtin "any") (rAny K) from cr_any rfl) (by rfl) T.z_any (by decide +kernel) (pa_cons (pe_lc (own := [("found", 7)]) (g := gName 7) (tt := tYes) rfl sc_lacking.nd (show PI _ _ _ (iList K (tVar 3)) from pi_list (pv 3)) (blkOk_by (N := N_lacking) (by kernel_rfl)) (fun _ _ _ _ _ => pg_name (i := 7) sc_lacking.nd rfl (Or.inl rfl)) (fun _ _ _ _ _ => pts_nil) (fun _ _ _ _ _ => (pe_cmpR op_notN (pe_bt PySem.F.plainAttrs_dict PySem.F.slot_dict_get PySem.F.type_dict_get (show MtR _ _ (rGetN K P w) from mt_getN (h20_of hr)) (show TyEv _ _ (isNd K P w) from ev_nd) (pv 7) (pa_cons (pv 6) pa_nil)) pe_non (nomark _)))) pa_nil)))) (fun _ _ _ _ _ => (pv 6)))
    (pss_one (ps_ret (pe_callTy call_tuple_of (by rfl) T.z_tuple (by decide +kernel) (pa_cons (pe_lc (own := [("key", 6)]) (g := gName 6) rfl sc_lacking.nd (pi_list (pv 5)) (blkOk_by (N := N_lacking) (sc := defScope st_lacking) (by decide +kernel)) (fun _ _ _ _ _ => pg_name (i := 6) sc_lacking.nd rfl (Or.inl rfl)) (fun _ _ _ _ _ => pts_one (PW.pt (pw_and (pt_cmpR (show OpR _ _ (rEqA K) from op_eqA hr.units) (pe_ix (show IxR _ (rIxT K) from ix_tup) (pv 6) pe_int (fun _ _ => rfl)) (pv 2) (nomark _)) (pw_and1 (PW.pt (pw_or (pt_cmpR (show OpR _ _ (rNotInN K P w) from op_notInN (h20_of hr)) (pv 6) (pv 4) (by rfl)) (pw_or1 (pt_cmpR op_notN (pe_ix (show IxR _ (rNget K P w) from ix_nd (hn_of hr)) (pv 4) (pv 6) (fun _ _ => rfl)) pe_non (nomark _))))))))) (fun _ _ _ _ _ => (pv 6))) pa_nil)))))))), ?_⟩
    refine ⟨v, rfl, u, rfl, z, rfl, v, u, z, d, e, f', rfl, hd, he, hf, g1, fun si good es => ⟨(g2 si good es).1, fun n p en ep => ⟨((g2 si good es).2 n p en ep).1, fun nm ef ow => ⟨(((g2 si good es).2 n p en ep).2 nm ef ow).1, fun l6 H1 s1 => ?_⟩⟩⟩⟩
    have q := (((g2 si good es).2 n p en ep).2 nm ef ow).2 l6
    clear g1 g2
    subst es en ef
    have fs := fit_of_good good
    have hd1 := Da.same s1 _ _ hd
    refine ⟨v, rfl, v, si, rfl, hd1, good, fun H2 D ds s2 nD hD hds => ?_⟩
    have s12 := s1.trans s2
    obtain rfl : u = .int (n : Int) := by
      cases he
      rfl
    obtain ⟨x, ex, hx⟩ : ∃ x, ds[n]? = some x ∧ EffD K P w H2 x p := by
      have len := Paired.length hds
      have ln := (List.getElem?_eq_some_iff.mp ep).1
      have ex : ds[n]? = some (ds[n]'(by omega)) := List.getElem?_eq_getElem (by omega)
      obtain ⟨p', ep', hp'⟩ := paired_get hds ex
      obtain rfl : p = p' := Option.some.inj (ep.symm.trans ep')
      exact ⟨_, ex, hp'⟩
    refine ⟨.ref D, rfl, .int (n : Nat), rfl, D, ds, n, x, rfl, rfl, SqL.of hD, atI_nat ex, ?_⟩
    dsimp only
    refine bk_run (K := K) (H := H2) (sg := [some v, some (.int (n : Int)), some z, some (.ref D), some x, none, none, none]) (r := [.da (sitePy si), .no, .da (.str nm), .ob (EffsO K P w si), .ob (fun H v => EffD K P w H v p), .no, .no, .no]) (N := fun H' => Q .non H') (Q := Q)
      (P := ⟨fun _ => False, fun _ => False, fun _ => False, fun y _ => y = .da (.tuple ((lackM si p nm).map Ky.py))⟩) ?_ ⟨hold_da (Da.same s12 _ _ hd), trivial, hold_da (Da.same s12 _ _ hf), ⟨mono_effs si, _, rfl, by rw [mask_nil]; exact ⟨D, ds, rfl, SqL.of hD, hds⟩⟩, ⟨mono_eff p, _, rfl, by rw [mask_nil]; exact hx⟩, trivial, trivial, trivial, trivial⟩ trivial (fun _ h => h) (fun _ h => h) (fun _ h => h.elim) (fun y r' h => by subst h; exact fun H' v s hv => q H' v (s12.trans s) hv)
    have fit := keysM_fit fs
    have kl := keysM_len (siteOk_of good)
    refine bk_then (st_nw (ds := ((keysM si).filter (putM si)).map Ky.py) (nw_lcX (keysM si) Ky.py Ky.py (putM si) (it_tup (ev_keysOf (ev_var rfl) good) (keys_flat _)) (by omega) (fun k hk => ⟨_, tw_name (by decide), xt_put fs.2.1 rfl rfl (by decide) (by show 7 < 8; decide), fun _ => xp_var rfl⟩))) ?_
    have kl2 : (((keysM si).filter (putM si)).map Ky.py).length ≤ 1000 := by
      rw [List.length_map]
      have := List.length_filter_le (putM si) (keysM si)
      omega
    refine bk_freeze (i := 5) rfl kl2 (bk_retX (xp_tupNw (nw_lcX ((keysM si).filter (putM si)) Ky.py Ky.py (fun k => decide (k.name = nm) && !outM p k) (it_var rfl) (by rw [List.length_map] at kl2; omega) (fun k hk => ⟨_, tw_name (by decide), ?_, fun _ => xp_var rfl⟩)) ?_) rfl)
    · have hk' := fit k (List.mem_filter.mp hk).1
      refine xt_and (b := decide (k.name = nm)) (xt_test (xp_ev (ev_eq (ev_ixTz (ds := [.str k.name, .tuple (k.dom.map .str), .tuple (k.fold.map .str), .bool k.alone]) (ev_var rfl) rfl rfl) (ev_var rfl) (str_shaped lts_low (kyShape_name hk')) (str_shaped lts_low ow) name_eqv) rfl)) (fun hb => ?_) (fun hb => by rw [hb]; rfl)
      rw [hb, Bool.true_and]
      exact xt_stay rfl rfl
    · rw [List.length_map] at kl2 ⊢
      exact Nat.le_trans (List.length_filter_le _ _) kl2
end
end S1
/-! repr of data, empty dicts among them -/
namespace Jv
open PySem PySem.Spec PyProof.Rows L2
/-- the interpreter's own table of modules is a dict that stands -/
def NoSys (K : PySem.W.Frag) : Prop := ∃ o, K.lookup sysModules = some o ∧ o.cls = .type "dict"
mutual
theorem Da.readsS {X : Cx} {pn : List (Addr × Obj)} {sg : L2.St} {H : Hp} {s : Shared} (N : NoSys X.K) (I : Inv X pn sg H s) : ∀ (d : PyData) (v : V) (u : Value), Da X.K H v d → RelV v u → ∃ as, Reads s.heap u d as ∧ sysModules ∉ as
  | .none, _, _, h, r => by
    cases h
    cases r
    exact ⟨_, Reads.none, fun z => nomatch z⟩
  | .bool b, _, _, h, r => by
    cases h
    cases r
    exact ⟨_, Reads.bool b, fun z => nomatch z⟩
  | .int i, _, _, h, r => by
    cases h
    obtain ⟨t, rfl⟩ := r
    exact ⟨_, Reads.int i t, fun z => nomatch z⟩
  | .str x, _, _, h, r => by
    cases h
    obtain ⟨t, rfl⟩ := r
    exact ⟨_, Reads.str x t, fun z => nomatch z⟩
  | .list ds, _, _, h, r => by
    cases h with
    | lst h1 h2 hz =>
      cases r
      obtain ⟨its, rv, ⟨o, n, ho, hc, _, hd⟩, _⟩ := I.list h1
      obtain ⟨zs, hr, nz⟩ := DaAll.readsS N I ds _ its h2 rv
      refine ⟨_, Reads.list ho hc hd hr, fun z => ?_⟩
      rcases List.mem_cons.mp z with e | e
      · obtain ⟨o2, l2, c2⟩ := N
        have g := I.kIn _ _ l2
        rw [e, ho] at g
        cases g
        rw [hc] at c2
        injection c2 with c3
        exact absurd c3 (by decide)
      · exact nz e
  | .tuple ds, _, _, h, r => by
    cases h with
    | tup h1 h2 hz =>
      cases r
      obtain ⟨its, rv, ⟨o, ho, hc, n, hd⟩, _⟩ := I.tuple h1
      obtain ⟨zs, hr, nz⟩ := DaAll.readsS N I ds _ its h2 rv
      exact ⟨_, Reads.tuple ho hc hd hr, nz⟩
  | .dict kvs, _, _, h, r => by
    cases h with
    | dic h1 =>
      cases r
      obtain ⟨_, ns, vs, rel, o, es, ep, ho, hx, hd, _, hp, _⟩ := (show ObjOk X.prog X.w H s.heap _ (.dK []) from I.hok _ _ h1)
      cases rel
      have e0 : es.toList = [] := by
        cases hp' : es.toList with
        | nil => rfl
        | cons z zs =>
          rw [hp'] at hp
          cases hp
      refine ⟨_, Reads.dict (as := []) (bs := []) ho hx.1 hd (by rw [e0]; exact .nil) (by rw [e0]; exact .nil), fun z => ?_⟩
      have z := List.mem_singleton.mp (by simpa using z)
      rw [← z] at ns
      exact absurd ns (by decide)
theorem DaAll.readsS {X : Cx} {pn : List (Addr × Obj)} {sg : L2.St} {H : Hp} {s : Shared} (N : NoSys X.K) (I : Inv X pn sg H s) : ∀ (ds : List PyData) (vs : List V) (us : List Value), DaAll X.K H vs ds → Vals vs us → ∃ as, ReadsAll s.heap us ds as ∧ sysModules ∉ as
  | [], _, _, h, r => by
    cases h
    cases r
    exact ⟨_, ReadsAll.nil, fun z => nomatch z⟩
  | d :: ds, _, _, h, r => by
    cases h with
    | cons h1 h2 =>
      cases r with
      | cons r1 r2 =>
        obtain ⟨zs, q1, m1⟩ := Da.readsS N I d _ _ h1 r1
        obtain ⟨ws, q2, m2⟩ := DaAll.readsS N I ds _ _ h2 r2
        exact ⟨_, ReadsAll.cons q1 q2, fun z => (List.mem_append.mp z).elim m1 m2⟩
end
theorem cr_reprA {X : Cx} (N : NoSys X.K) (hg : X.A.guards = some []) (hu : X.A.units + 64 < cLine) : CallR X (.builtin "repr") (rReprA X.K) := by
  intro pn sh sg Hh vxs uxs Qq Iv r1 hyp
  obtain ⟨a, d, rfl, hd, h1, h3, h4, q⟩ := hyp
  obtain ⟨u, rfl, r2⟩ := vals1 r1
  cases (show u = Value.ref a from r2)
  obtain ⟨as, rr, nm⟩ := Da.readsS N Iv d _ _ hd r2
  exact repr_of_reads' rr h1 (fun _ => nm) hg (by omega) (fun _ _ e => e) (fun h' u tk hk => ⟨.str d.shown, Hh, Iv.kept (t' := tk) hk, ⟨_, rfl⟩, q⟩) h4
end Jv
/-! repr of a dict with nested keys -/
namespace Jv
open PySem PySem.Spec PyProof.Rows L2
/-- the dict as data -/
def ndPy (ks : List Ky) (ds : List PyData) : PyData := .dict ((ks.map Ky.py).zip ds)
section
variable {X : Cx} {pn : List (Addr × Obj)} {sg : L2.St} {H : Hp} {s : Shared} {d : Addr} {kvs : List (Ky × V)} {ds : List PyData}
theorem keys_read (I : Inv X pn sg H s) {xs : List (Ky × Addr × Value)} (h : Paired (fun p q => p.1 = q.1 ∧ KyAt X.K H q.2.1 p.1 ∧ RelV p.2 q.2.2) kvs xs) : ReadsAll s.heap (xs.map fun q => Value.ref q.2.1) (kvs.map fun p => p.1.py) [] ∧ Vals (kvs.map (·.2)) (xs.map (·.2.2)) := by
  induction h with
  | nil => exact ⟨.nil, .nil⟩
  | @cons p q ps qs hp t ih => exact ⟨ReadsAll.cons (as := []) (bs := []) (hp.2.1.reads I) ih.1, .cons hp.2.2 ih.2⟩
theorem nd_reads (N : NoSys X.K) (I : Inv X pn sg H s) (hN : Nd X.K X.prog X.w H d kvs) (hv : DaAll X.K H (kvs.map (·.2)) ds) : ∃ as, Reads s.heap (.ref d) (ndPy (kvs.map (·.1)) ds) as ∧ sysModules ∉ as := by
  obtain ⟨xs, h1, h2⟩ := hN.ex
  obtain ⟨hz, hd, o, es, ep, g1, g2, g3, g4, _⟩ := Nd.of I h1 h2
  obtain ⟨r1, r2⟩ := keys_read I h2
  obtain ⟨bs, r3, nb⟩ := DaAll.readsS N I ds _ _ hv r2
  have nl : ds.length = kvs.length := by rw [← DaAll.len hv, List.length_map]
  have e1 : es.toList.map (·.key) = xs.map fun q => Value.ref q.2.1 := by
    rw [g4, List.map_map]
    rfl
  have e2 : es.toList.map (·.val) = xs.map (·.2.2) := by
    rw [g4, List.map_map]
    rfl
  have f1 : ((((kvs.map (·.1)).map Ky.py).zip ds).map (·.1)) = kvs.map fun p => p.1.py := by
    rw [List.map_fst_zip (by rw [List.length_map, List.length_map]; omega), List.map_map]
    rfl
  have f2 : ((((kvs.map (·.1)).map Ky.py).zip ds).map (·.2)) = ds := List.map_snd_zip (by rw [List.length_map, List.length_map]; omega)
  refine ⟨_, Reads.dict (as := []) (bs := bs) g1 g2.1 g3 (by rw [e1, f1]; exact r1) (by rw [e2, f2]; exact r3), fun z => ?_⟩
  rcases List.mem_cons.mp (show sysModules ∈ d :: bs from by simpa using z) with e | e
  · rw [← e] at hd
    exact absurd hd (by decide)
  · exact nb e
end
def rReprN (K : PySem.W.Frag) (P : Program) (w : World) : List V → Hp → VK → Prop := fun xs H Q => ∃ (d : Addr) (kvs : List (Ky × V)) (ds : List PyData), xs = [.ref d] ∧ Nd K P w H d kvs ∧ DaAll K H (kvs.map (·.2)) ds ∧ (ndPy (kvs.map (·.1)) ds).showable = true ∧ (ndPy (kvs.map (·.1)) ds).depth ≤ 60 ∧ (ndPy (kvs.map (·.1)) ds).shown.length ≤ sizeLine ∧
  Q (.str (ndPy (kvs.map (·.1)) ds).shown) H
theorem cr_reprN {X : Cx} (N : NoSys X.K) (hg : X.A.guards = some []) (hu : X.A.units + 64 < cLine) : CallR X (.builtin "repr") (rReprN X.K X.prog X.w) := by
  intro pn sh sg Hh vxs uxs Qq Iv r1 hyp
  obtain ⟨d, kvs, ds, rfl, hN, hv, h1, h3, h4, q⟩ := hyp
  obtain ⟨u, rfl, r2⟩ := vals1 r1
  cases (show u = Value.ref d from r2)
  obtain ⟨as, rr, nm⟩ := nd_reads N Iv hN hv
  exact repr_of_reads' rr h1 (fun _ => nm) hg (by omega) (fun _ _ e => e) (fun h' u tk hk => ⟨.str _, Hh, Iv.kept (t' := tk) hk, ⟨_, rfl⟩, q⟩) h4
end Jv
namespace S1
open PySem PySem.Spec PyProof.Rows L2 L2.DX Jv
section
variable {P : Program} {w : World} {K : PySem.W.Frag} {mg : Str → Option Value} {base : Heap}
theorem effAt_da {H : Hp} {v : V} {e : Eff} (h : EffAt K H v e) (g : ∀ x, e = some x → okW sgs x.1 = true) : Da K H v (effPy e) := by
  cases e with
  | none =>
    obtain rfl : v = .non := h
    exact .non
  | some x =>
    obtain ⟨b, rfl, hb⟩ := h
    exact .tup hb (.cons (.str _ (Nat.le_trans (okW_len (g x rfl)) (by decide))) (.cons (.bl _) .nil)) (by show 2 ≤ 1000; decide)
theorem pair_flat (x : Ky × Eff) : flat (pairPy x) = true := by
  show flatAll [x.1.py, effPy x.2] = true
  rw [flatAll, flatAll, ky_flat]
  cases x.2 <;> rfl
theorem kv_da {H : Hp} : ∀ {ys : List V} {kvs : List (Ky × V)} {l : List (Ky × Eff)}, Paired (KvAt K H) ys kvs → EffAll K H kvs l → (∀ x ∈ l, kyShape x.1 = true ∧ ∀ y, x.2 = some y → okW sgs y.1 = true) → DaAll K H ys (l.map pairPy)
  | _, _, _, .nil, .nil, _ => .nil
  | _, _, _, .cons h t, .cons g u, f => by
    obtain ⟨T, a, rfl, hT, ha⟩ := h
    obtain ⟨e1, e2⟩ := g
    obtain ⟨f1, f2⟩ := f _ List.mem_cons_self
    rw [e1] at ha
    exact .cons (.tup (SqT.of hT) (.cons (ha.da (ky_sz f1)) (.cons (effAt_da e2 f2) .nil)) (by show 2 ≤ 1000; decide)) (kv_da t u fun x hx => f x (List.mem_cons_of_mem _ hx))
theorem effM_get {ts : List (Ky × Option Str × Bool)} {j : Nat} {k : Ky} (h : (kySort ((foundM ts).map (·.1)))[j]? = some k) : ∃ e, getE (foundM ts) k = some e ∧ (effM ts)[j]? = some (k, e) := by
  obtain ⟨e, he⟩ := getE_mem ((kySort_perm _).mem_iff.mp (List.mem_of_getElem? h))
  refine ⟨e, he, ?_⟩
  unfold effM
  rw [List.getElem?_map, h]
  show some (k, (getE (foundM ts) k).getD none) = _
  rw [he]
  rfl
theorem kyall_da {H : Hp} : ∀ {as : List Addr} {ks : List Ky}, KyAll K H as ks → (∀ k ∈ ks, kyShape k = true) → DaAll K H (as.map V.ref) (ks.map Ky.py)
  | _, _, .nil, _ => .nil
  | _, _, .cons h t, f => .cons (h.da (ky_sz (f _ List.mem_cons_self))) (kyall_da t fun k hk => f k (List.mem_cons_of_mem _ hk))
/-- all keys of a site, each once -/
def keys0 (s : List Pg) : List Ky := (foundM (s.flatMap takenP)).map (·.1)
theorem keys0_iff (s : List Pg) (k : Ky) : k ∈ keys0 s ↔ k ∈ siteTw s := by
  unfold keys0 siteTw
  rw [found_keys, List.map_flatMap]
  rfl
/-- keys that can be shown -/
theorem keys_small {ks : List Ky} (f : ∀ k ∈ ks, kyShape k = true) (l : ks.length ≤ 25) : plainD (.tuple (ks.map Ky.py)) = true ∧ (PyData.tuple (ks.map Ky.py)).depth ≤ 10 ∧ (PyData.tuple (ks.map Ky.py)).weight ≤ 10000 := by
  have s := (small_all (l := ks) (f := Ky.py) (fun x hx => let a := small_ky (f x hx); ⟨a.pl, a.dp, Nat.le_trans a.wt (by decide)⟩) (fun x _ => by rw [Ky.pdepth]; decide) (by omega)).2
  refine ⟨s.pl, s.dp, ?_⟩
  have ww := weightAll_le (B := 100) (ds := ks.map Ky.py) fun d hd => by
    obtain ⟨x, hx, rfl⟩ := List.mem_map.mp hd
    exact (small_ky (f x hx)).wt
  rw [List.length_map] at ww
  show PyData.weightAll (ks.map Ky.py) ≤ 10000
  omega
/-- a dict of effects, as it is shown -/
abbrev effKeys (l : List (Ky × Eff)) : List Ky := l.map (·.1)
abbrev effVals (l : List (Ky × Eff)) : List PyData := l.map fun x => effPy x.2
theorem effAll_da {H : Hp} : ∀ {kvs : List (Ky × V)} {l : List (Ky × Eff)}, EffAll K H kvs l → (∀ x ∈ l, kyShape x.1 = true ∧ ∀ y, x.2 = some y → okW sgs y.1 = true) → DaAll K H (kvs.map (·.2)) (effVals l)
  | _, _, .nil, _ => .nil
  | _, _, .cons g u, f => .cons (effAt_da g.2 (f _ List.mem_cons_self).2) (effAll_da u fun x hx => f x (List.mem_cons_of_mem _ hx))
theorem zip_effs : ∀ l : List (Ky × Eff), ((effKeys l).map Ky.py).zip (effVals l) = l.map fun x => (x.1.py, effPy x.2)
  | [] => rfl
  | x :: l => by
    show (x.1.py, effPy x.2) :: ((effKeys l).map Ky.py).zip (effVals l) = _
    rw [zip_effs l]
    rfl
theorem dict_small {l : List (Ky × Eff)} (f : ∀ x ∈ l, kyShape x.1 = true ∧ ∀ y, x.2 = some y → okW sgs y.1 = true) (h5 : l.length ≤ 5) : (Jv.ndPy (effKeys l) (effVals l)).showable = true ∧ (Jv.ndPy (effKeys l) (effVals l)).depth ≤ 60 ∧ (Jv.ndPy (effKeys l) (effVals l)).shown.length ≤ sizeLine := by
  unfold Jv.ndPy
  rw [zip_effs]
  have all : PyData.showableKv (l.map fun x => (x.1.py, effPy x.2)) = true ∧ PyData.leavesShortKv 8 (l.map fun x => (x.1.py, effPy x.2)) = true ∧ PyData.weightKv (l.map fun x => (x.1.py, effPy x.2)) ≤ 112 * l.length ∧ PyData.depthKv (l.map fun x => (x.1.py, effPy x.2)) ≤ 10 := by
    clear h5
    induction l with
    | nil => exact ⟨rfl, rfl, Nat.zero_le _, Nat.zero_le _⟩
    | cons x l ih =>
      obtain ⟨i1, i2, i3, i4⟩ := ih fun y hy => f y (List.mem_cons_of_mem _ hy)
      obtain ⟨f1, f2⟩ := f x List.mem_cons_self
      have a := small_ky f1
      have b := small_eff f2
      obtain ⟨a1, a2, a3⟩ := plain_show _ a.pl
      obtain ⟨b1, b2, b3⟩ := plain_show _ b.pl
      rw [List.map_cons]
      refine ⟨?_, ?_, ?_, ?_⟩
      · rw [PyData.showableKv, a1, b1, i1]
        rfl
      · rw [PyData.leavesShortKv, PyData.leavesShort_of_canLay0 8 _ a2 a3, PyData.leavesShort_of_canLay0 8 _ b2 b3, i2]
        rfl
      · rw [PyData.weightKv, List.length_cons]
        have := a.wt
        have := b.wt
        omega
      · rw [PyData.depthKv]
        have := a.dp
        have := b.dp
        omega
  obtain ⟨a1, a2, a3, a4⟩ := all
  refine ⟨a1, ?_, ?_⟩
  · show PyData.depthKv _ + 1 ≤ 60
    omega
  · have := PyData.shown_le 8 (by decide) (.dict (l.map fun x => (x.1.py, effPy x.2))) (by rw [PyData.leavesShort]; exact a2)
    have e : (PyData.dict (l.map fun x => (x.1.py, effPy x.2))).weight = PyData.weightKv (l.map fun x => (x.1.py, effPy x.2)) := rfl
    rw [e] at this
    rw [sizeLine_eq]
    omega
end
end S1
namespace S1
open PySem PySem.Spec PyProof.Rows L2 Jv
/-! ### slices, truth, defs that tell of two tuples -/
section
variable {K : PySem.W.Frag} {ρ : Rho}
theorem cut_lo0 (l : List V) (c : Nat) : cutV l (some (c : Int)) none = l.drop c := by
  unfold cutV
  rw [HT.sIx_nat, HT.sIx_none, List.take_of_length_le (by rw [List.length_drop]; exact Nat.le_refl _)]
  by_cases h : c ≤ l.length
  · rw [Nat.min_eq_left h]
  · rw [Nat.min_eq_right (by omega), List.drop_of_length_le (Nat.le_refl _), List.drop_of_length_le (by omega)]
theorem cut_hi0 (l : List V) (c : Nat) : cutV l none (some (c : Int)) = l.take c := by
  unfold cutV
  have e0 : HT.sIx l.length 0 none = 0 := rfl
  rw [e0, HT.sIx_nat, List.drop_zero, Nat.sub_zero]
  by_cases h : c ≤ l.length
  · rw [Nat.min_eq_left h]
  · rw [Nat.min_eq_right (by omega), List.take_of_length_le (Nat.le_refl _), List.take_of_length_le (by omega)]
theorem ev_slFrom {t u : TE} {ds : List PyData} {c : Nat} (h : EvR K t ρ (.tuple ds)) (g : EvR K u ρ (.int (c : Nat))) : EvR K (tSl (rSlA K) t (tPart u) tNoPart) ρ (.tuple (ds.drop c)) := fun sg H en Q q =>
  h sg H en _ fun H1 v s1 hv => g sg H1 (en.same s1) _ fun H2 w s2 hw => by
    cases hw
    refine ⟨(c : Int), rfl, ?_⟩
    have hv2 := Da.same s2 _ _ hv
    cases id hv2 with
    | @tup pa xs _ h1 h2 hz =>
      have len := DaAll.len h2
      refine ⟨pa, xs, rfl, h1, fun z => ?_, fun z p np => ?_⟩
      · have e0 : ds.drop c = ds := by
          have := z.1
          rw [HT.sIx_nat, len] at this
          by_cases c0 : c = 0
          · rw [c0]; rfl
          · have : ds.length = 0 := by omega
            rw [List.length_eq_zero_iff.mp this]; simp
        rw [e0] at q
        exact q H2 _ (s1.trans s2) hv2
      · rw [cut_lo0]
        have s3 := Jv.same_new (o := HO.tup (xs.drop c)) np
        exact q _ _ ((s1.trans s2).trans s3) (.tup (SqT.of upd_same) (DaAll.drop c (DaAll.same s3 _ _ h2)) (by rw [List.length_drop]; omega))
theorem ev_slTo {t u : TE} {ds : List PyData} {c : Nat} (h : EvR K t ρ (.tuple ds)) (g : EvR K u ρ (.int (c : Nat))) : EvR K (tSl (rSlA K) t tNoPart (tPart u)) ρ (.tuple (ds.take c)) := fun sg H en Q q =>
  h sg H en _ fun H1 v s1 hv => g sg H1 (en.same s1) _ fun H2 w s2 hw => by
    cases hw
    refine ⟨(c : Int), rfl, ?_⟩
    have hv2 := Da.same s2 _ _ hv
    cases id hv2 with
    | @tup pa xs _ h1 h2 hz =>
      have len := DaAll.len h2
      refine ⟨pa, xs, rfl, h1, fun z => ?_, fun z p np => ?_⟩
      · have e0 : ds.take c = ds := by
          have := z.2
          rw [HT.sIx_nat, len] at this
          exact List.take_of_length_le (by omega)
        rw [e0] at q
        exact q H2 _ (s1.trans s2) hv2
      · rw [cut_hi0]
        have s3 := Jv.same_new (o := HO.tup (xs.take c)) np
        exact q _ _ ((s1.trans s2).trans s3) (.tup (SqT.of upd_same) (DaAll.take c (DaAll.same s3 _ _ h2)) (by rw [List.length_take]; omega))
/-- a tuple as a test: is there anything in it -/
theorem evt_truT {t : TE} {ds : List PyData} (h : EvR K t ρ (.tuple ds)) : EvT K (fun σ H Q => t σ H fun x H' => ∃ k, TruV K x H' k ∧ Q k H') ρ (!ds.isEmpty) := fun sg H en Q q => h sg H en _ fun H1 v s hv => by
  cases hv with
  | @tup pa xs _ h1 h2 hz =>
    have len := DaAll.len h2
    refine ⟨!ds.isEmpty, ?_, q H1 s⟩
    refine Or.inr (Or.inl ⟨xs, h1, ?_⟩)
    cases ds with
    | nil =>
      rw [List.eq_nil_of_length_eq_zero len]
      rfl
    | cons d ds =>
      cases xs with
      | nil => cases len
      | cons x xs => rfl
theorem ev_two {f : List Str → List Str → Bool} {t u : TE} {xs ys : List Str} (h : EvR K t ρ (.tuple (xs.map .str))) (g : EvR K u ρ (.tuple (ys.map .str))) (o1 : okStrs xs) (o2 : okStrs ys) : EvR K (tCall (spTwo K f) [] E0 (tCons t (tCons u tNil))) ρ (.bool (f xs ys)) := fun sg H en Q q =>
  h sg H en _ fun H1 v s1 hv => g sg H1 (en.same s1) _ fun H2 w s2 hw => ⟨v, w, xs, ys, rfl, Da.same s2 _ _ hv, hw, o1, o2, fun H3 s3 => q H3 _ ((s1.trans s2).trans s3) (.bl _)⟩
theorem ev_not {t : TE} {b : Bool} (h : EvR K t ρ (.bool b)) : EvR K (tNotV t) ρ (.bool (!b)) := fun sg H en Q q => h sg H en _ fun H1 v s hv => by
  cases hv
  exact ⟨b, rfl, q H1 _ s (.bl _)⟩
end
end S1
namespace S1
open PySem PySem.Spec PyProof.Rows L2 Jv
section
variable {P : Program} {w : World} {K : PySem.W.Frag} {mg : Str → Option Value} {base : Heap} {C1 C2 C3 C4 : Addr}
theorem kys_shapedT {ks : List Ky} (h : ∀ k ∈ ks, kyShape k = true) : SeqAt.shaped (.tuple (ks.map Ky.py)) = true := by
  refine shaped_tup (ds := ks.map Ky.py) ?_ ?_
  · have all : ∀ {ds : List PyData}, (∀ d ∈ ds, d.canLay0 = true) → PyData.canLayAll0 ds = true := by
      intro ds
      induction ds with
      | nil => exact fun _ => rfl
      | cons d ds ih =>
        intro g
        rw [PyData.canLayAll0, g d List.mem_cons_self, ih fun e he => g e (List.mem_cons_of_mem _ he)]
        rfl
    exact all fun d hd => by
      obtain ⟨k, hk, rfl⟩ := List.mem_map.mp hd
      exact (plain_show _ (small_ky (h k hk)).pl).2.1
  · exact Nat.le_trans (depthAll_le (B := 2) fun d hd => by
      obtain ⟨k, _, rfl⟩ := List.mem_map.mp hd
      exact Nat.le_of_eq (Ky.pdepth k)) (by decide)
theorem eqv_emptyT (ks : List Ky) : PyData.eqv (.tuple (ks.map Ky.py)) (.tuple []) = ks.isEmpty := by
  cases ks <;> rfl
theorem lackM_sub {s : List Pg} {p : Pg} {nm : Str} {k : Ky} (h : k ∈ lackM s p nm) : k ∈ keysM s ∧ putM s k = true ∧ k.name = nm ∧ outM p k = false := by
  unfold lackM at h
  obtain ⟨h1, h2⟩ := List.mem_filter.mp h
  obtain ⟨h3, h4⟩ := List.mem_filter.mp h1
  rw [Bool.and_eq_true, decide_eq_true_eq, Bool.not_eq_true'] at h2
  exact ⟨h3, h4, h2.1, h2.2⟩
theorem lackM_len {s : List Pg} (good : siteBad (sitePy s) = none) (p : Pg) (nm : Str) : (lackM s p nm).length ≤ 25 := by
  unfold lackM
  exact Nat.le_trans (List.length_filter_le _ _) (Nat.le_trans (List.length_filter_le _ _) (keysM_len (siteOk_of good)))
theorem lackM_fit {s : List Pg} (fs : siteFit s) {p : Pg} {nm : Str} : ∀ k ∈ lackM s p nm, kyShape k = true := fun k hk => keysM_fit fs k (lackM_sub hk).1
def spSigns (K : PySem.W.Frag) (C1 C2 C3 C4 : Addr) : Sp := fun vs H Q E => ∃ v u z d e f, vs = [v, u, z] ∧ Da K H v d ∧ Da K H u e ∧ Da K H z f ∧ Gate K C1 C2 C3 C4 H E d e f u z fun s _ p nm => ∀ H', Same H H' → Q (.bl (lackM s p nm).isEmpty) H'
theorem ok_signs_out (T : Txt K mg) (n1 : Exn P w K mg base "BadSite" "place" C1) (n2 : Exn P w K mg base "BadPage" "given" C2) (n3 : Exn P w K mg base "BadName" "given" C3) (n4 : Exn P w K mg base "TooMany" "most" C4) : OkX P w K mg base "signs_out" P_signs_out 10 (spSigns K C1 C2 C3 C4) := by
  have ok_lacking : OkX P w K mg base "lacking" P_lacking 9 (spLack K C1 C2 C3 C4) := ok_lacking T n1 n2 n3 n4
  refine T.d_signs_out.okX sc_signs_out (fun vs H Q E h => ?_) (fun f cdv A out s H vs Q E hr h => ?_)
  · obtain ⟨v, u, z, d, e, f, rfl, _⟩ := h
    rfl
  · obtain ⟨v, u, z, d, e, f', rfl, hd, he, hf, g1, g2⟩ := h
    refine ⟨_, (pss_one (ps_ret (pe_cmpR (show OpR _ _ (rEqA K) from op_eqA hr.units) (pe_okX ok_lacking (hr.mono (by decide)) (takes_of rfl rfl rfl rfl) (pa_cons (pv 0) (pa_cons (pv 1) (pa_cons (pv 2) pa_nil)))) (pe_tup pa_nil) (nomark _)))), ?_⟩
    refine ⟨v, rfl, u, rfl, z, rfl, v, u, z, d, e, f', rfl, hd, he, hf, g1, fun si good es => ⟨(g2 si good es).1, fun n p en ep => ⟨((g2 si good es).2 n p en ep).1, fun nm ef ow => ⟨(((g2 si good es).2 n p en ep).2 nm ef ow).1, fun l6 H1 x s1 hx => ?_⟩⟩⟩⟩
    have q := (((g2 si good es).2 n p en ep).2 nm ef ow).2 l6
    refine ⟨Nat.zero_le _, fun t nt => ?_⟩
    have st : Same H1 (upd H1 t (.tup [])) := same_new nt
    refine ⟨_, _, Da.same st _ _ hx, .tup (SqT.of upd_same) .nil (Nat.zero_le _), kys_shapedT (lackM_fit (fit_of_good (es ▸ good))), rfl, ?_⟩
    rw [eqv_emptyT]
    exact q _ (s1.trans st)
/-- what no write of the page can have -/
def beyM (s : List Pg) (p : Pg) (nm : Str) : List Ky := (lackM s p nm).filter fun k => !decide (p.ad.host = k.dom) && (k.alone || !within p.ad.host k.dom)
theorem kyShape_dom {k : Ky} (h : kyShape k = true) : okStrs k.dom := by
  unfold kyShape at h
  rw [Bool.and_eq_true, Bool.and_eq_true] at h
  exact okT_strs h.1.2
theorem pgFit_host {p : Pg} (h : pgFit p) : okStrs p.ad.host := by
  have h := h.1
  unfold pgShape at h
  rw [Bool.and_eq_true, Bool.and_eq_true, Bool.and_eq_true] at h
  exact okT_strs h.1.1.1
def spBey (K : PySem.W.Frag) (C1 C2 C3 C4 : Addr) : Sp := fun vs H Q E => ∃ v u z d e f, vs = [v, u, z] ∧ Da K H v d ∧ Da K H u e ∧ Da K H z f ∧ Gate K C1 C2 C3 C4 H E d e f u z fun s _ p nm => ∀ H' v, Same H H' → Da K H' v (.tuple ((beyM s p nm).map Ky.py)) → Q v H'
theorem ok_beyond (T : Txt K mg) (n1 : Exn P w K mg base "BadSite" "place" C1) (n2 : Exn P w K mg base "BadPage" "given" C2) (n3 : Exn P w K mg base "BadName" "given" C3) (n4 : Exn P w K mg base "TooMany" "most" C4) : OkX P w K mg base "beyond" P_beyond 10 (spBey K C1 C2 C3 C4) := by
  have ok_lacking : OkX P w K mg base "lacking" P_lacking 9 (spLack K C1 C2 C3 C4) := ok_lacking T n1 n2 n3 n4
  have ok_is_within : Ok P w K mg base "is_within" P_is_within 1 (spTwo K within) := ok_is_within T
  refine T.d_beyond.okX sc_beyond (fun vs H Q E h => ?_) (fun f cdv A out s H vs Q E hr h => ?_)
  · obtain ⟨v, u, z, d, e, f, rfl, _⟩ := h
    rfl
  · obtain ⟨v, u, z, d, e, f', rfl, hd, he, hf, g1, g2⟩ := h
    refine ⟨_, (pss_cons (ps_set (i := 3) sc_beyond.nd rfl (Or.inl rfl) (pe_okX ok_lacking (hr.mono (by decide)) (takes_of rfl rfl rfl rfl) (pa_cons (pv 0) (pa_cons (pv 1) (pa_cons (pv 2) pa_nil)))))
    (pss_cons (ps_set (i := 4) sc_beyond.nd rfl (Or.inr rfl) (pe_ix (show IxR _ (rIxT K) from ix_tup) (pe_ix (show IxR _ (rIxT K) from ix_tup) (pe_ix (show IxR _ (rIxT K) from ix_tup) (pv 0) (pv 1) (fun _ _ => rfl)) pe_int (fun _ _ => rfl)) pe_int (fun _ _ => rfl)))
    (pss_one (ps_ret (pe_callTy call_tuple_of (by rfl) T.z_tuple (by decide +kernel) (pa_cons (pe_lc (own := [("key", 5)]) (g := gName 5) rfl sc_beyond.nd (pi_tup (pv 3)) (blkOk_by (N := N_beyond) (sc := defScope st_beyond) (by decide +kernel)) (fun _ _ _ _ _ => pg_name (i := 5) sc_beyond.nd rfl (Or.inl rfl)) (fun _ _ _ _ _ => pts_one (PW.pt (pw_and (pt_cmpR (show OpR _ _ (rNeA K) from op_neA hr.units) (pv 4) (pe_ix (show IxR _ (rIxT K) from ix_tup) (pv 5) pe_int (fun _ _ => rfl)) (nomark _)) (pw_and1 (PW.pt (pw_or (pt_val (pe_ix (show IxR _ (rIxT K) from ix_tup) (pv 5) pe_int (fun _ _ => rfl))) (pw_or1 (pt_not (pt_val (pe_ok ok_is_within (hr.mono (by decide)) (pa_cons (pv 4) (pa_cons (pe_ix (show IxR _ (rIxT K) from ix_tup) (pv 5) pe_int (fun _ _ => rfl)) pa_nil)))))))))))) (fun _ _ _ _ _ => (pv 5))) pa_nil)))))), ?_⟩
    refine ⟨v, rfl, u, rfl, z, rfl, v, u, z, d, e, f', rfl, hd, he, hf, g1, fun si good es => ⟨(g2 si good es).1, fun n p en ep => ⟨((g2 si good es).2 n p en ep).1, fun nm ef ow => ⟨(((g2 si good es).2 n p en ep).2 nm ef ow).1, fun l6 H1 x s1 hx => ?_⟩⟩⟩⟩
    have q := (((g2 si good es).2 n p en ep).2 nm ef ow).2 l6
    clear g1 g2
    subst es en ef
    have fs := fit_of_good good
    have fp := fs.2.2 p (List.mem_of_getElem? ep)
    obtain rfl : u = .int (n : Int) := by
      cases he
      rfl
    unfold gName
    dsimp only
    refine bk_run (K := K) (H := H1) (sg := [some v, some (.int (n : Int)), some z, some x, none, none]) (r := [.da (sitePy si), .da (.int (n : Nat)), .da (.str nm), .da (.tuple ((lackM si p nm).map Ky.py)), .no, .no]) (N := fun H' => Q .non H') (Q := Q)
      (P := ⟨fun _ => False, fun _ => False, fun _ => False, fun y _ => y = .da (.tuple ((beyM si p nm).map Ky.py))⟩) ?_ ⟨hold_da (Da.same s1 _ _ hd), hold_da (.int _), hold_da (Da.same s1 _ _ hf), hold_da hx, trivial, trivial, trivial⟩ trivial (fun _ h => h) (fun _ h => h) (fun _ h => h.elim) (fun y r' h => by subst h; exact fun H' v s hv => q H' v (s1.trans s) hv)
    refine bk_then (st_asg (ev_ixTz (ds := [.tuple (p.ad.host.map .str), .tuple (p.ad.path.map .str), .bool p.ad.sec]) (ev_ixTz (ds := [p.ad.py, .tuple (p.ws.map Wr.py)]) (ev_ixT (ds := si.map Pg.py) (i := n) (d := p.py) (ev_var rfl) (ev_var rfl) (by rw [List.getElem?_map, ep]; rfl)) rfl rfl) rfl rfl) (flat_strs _)) ?_
    have ll := lackM_len good p nm
    refine bk_ret (ev_tupL (EvF.evr (evf_lc (lackM si p nm) Ky.py Ky.py (fun k => !decide (p.ad.host = k.dom) && (k.alone || !within p.ad.host k.dom)) (itr_tup (ev_var rfl)) (by omega) (fun k hk => ⟨_, te_name (by decide), ?_, fun _ => ⟨ev_var rfl, ky_flat _⟩⟩)) ?_)) (keys_flat _) rfl
    · have hk' := lackM_fit fs k hk
      have hd := kyShape_dom hk'
      have hh := pgFit_host fp
      refine evt_and (b := !decide (p.ad.host = k.dom)) (evt_test (ev_ne (ev_var rfl) (ev_ixTz (ds := [.str k.name, .tuple (k.dom.map .str), .tuple (k.fold.map .str), .bool k.alone]) (ev_var rfl) rfl rfl) (strs_shaped hh) (strs_shaped hd) (by rw [eqv_strs]))) (fun hb => ?_) (fun hb => by rw [hb]; rfl)
      rw [hb, Bool.true_and]
      refine evt_orB (b := k.alone) (evt_b (ev_ixTz (ds := [.str k.name, .tuple (k.dom.map .str), .tuple (k.fold.map .str), .bool k.alone]) (ev_var rfl) rfl rfl)) (fun ha => ?_) (fun ha => by rw [ha]; rfl)
      rw [ha, Bool.false_or]
      exact evt_not (evt_b (ev_two (ev_var rfl) (ev_ixTz (ds := [.str k.name, .tuple (k.dom.map .str), .tuple (k.fold.map .str), .bool k.alone]) (ev_var rfl) rfl rfl) hh hd))
    · rw [List.length_map]
      exact Nat.le_trans (List.length_filter_le _ _) (by omega)
end
end S1
namespace S1
open PySem PySem.Spec PyProof.Rows L2 Jv
section
variable {P : Program} {w : World} {K : PySem.W.Frag} {mg : Str → Option Value} {base : Heap} {C1 C2 C3 C4 : Addr}
/-- the write that takes out what is kept with a key -/
def remW (k : Ky) : Wr := ⟨k.name, none, if k.alone then none else some k.dom, some k.fold, false⟩
def spRem (K : PySem.W.Frag) : Sp := fun vs H Q _ => ∃ v k, vs = [v] ∧ Da K H v (Ky.py k) ∧ ∀ H' u, Same H H' → Da K H' u (remW k).py → Q u H'
theorem ok_removing (T : Txt K mg) : Ok P w K mg base "_removing" P__removing 1 (spRem K) := by
  refine T.d__removing.ok sc__removing (fun vs H Q E h => ?_) (fun f cdv A out s H vs Q E hr h => ?_)
  · obtain ⟨v, k, rfl, _⟩ := h
    rfl
  · obtain ⟨v, k, rfl, hv, q⟩ := h
    refine ⟨_, (pss_cons (ps_asg (pv 0) (pg_tup rfl (pgs_cons (pg_name (i := 1) sc__removing.nd rfl (Or.inl rfl)) (pgs_cons (pg_name (i := 2) sc__removing.nd rfl (Or.inl rfl)) (pgs_cons (pg_name (i := 3) sc__removing.nd rfl (Or.inl rfl)) (pgs_cons (pg_name (i := 4) sc__removing.nd rfl (Or.inl rfl)) pgs_nil))))))
    (pss_one (ps_ret (pe_tup (pa_cons (pv 1) (pa_cons pe_non (pa_cons (pe_ifExp (pt_val (pv 4)) pe_non (pv 2)) (pa_cons (pv 3) (pa_cons pe_bl pa_nil))))))))), ?_⟩
    refine bk_run (K := K) (r := [.da k.py, .no, .no, .no, .no]) (P := ⟨fun _ => False, fun _ => False, fun _ => False, fun y _ => y = .da (remW k).py⟩) ?_ ⟨hold_da hv, trivial, trivial, trivial, trivial, trivial⟩ trivial (fun _ h => h) (fun _ h => h) (fun _ h => h.elim) (fun y r' h => by subst h; exact fun H' v s hv => q H' v s hv)
    refine bk_tg (d := .tuple [.str k.name, .tuple (k.dom.map .str), .tuple (k.fold.map .str), .bool k.alone]) (ev_var rfl) (ky_flat k) (tg_tup (tgs_cons tg_name (tgs_cons tg_name (tgs_cons tg_name (tgs_cons tg_name tgs_nil)))) rfl) ?_
    refine bk_ret (ev_tup (ds := [.str k.name, .none, optT (if k.alone then none else some k.dom), .tuple (k.fold.map .str), .bool false]) (eva_cons (ev_var rfl) (eva_cons ev_non (eva_cons (ev_if (b := k.alone) (evt_b (ev_var rfl)) (fun h => ?_) (fun h => ?_)) (eva_cons (ev_var rfl) (eva_cons ev_bl eva_nil))))) (by show 5 ≤ 1000; decide)) (wr_flat (remW k)) rfl
    · rw [h]
      exact ev_non
    · rw [h]
      exact ev_var rfl
theorem ev_rem {ρ : Rho} {t : TE} {k : Ky} (h : EvR K t ρ k.py) : EvR K (tCall (spRem K) [] E0 (tCons t tNil)) ρ (remW k).py := fun sg H en Q q => h sg H en _ fun H1 v s1 hv => ⟨v, k, rfl, hv, fun H2 u s2 hu => q H2 u (s1.trans s2) hu⟩
/-- the page with the writes more, put into its place -/
def mendS (s : List Pg) (n : Nat) (p : Pg) (ks : List Ky) : List Pg := s.take n ++ [⟨p.ad, p.ws ++ ks.map remW⟩] ++ s.drop (n + 1)
/-- what is told: None, or the site that is mended -/
def mendM (s : List Pg) (n : Nat) (p : Pg) (nm : Str) : PyData := if (lackM s p nm).isEmpty then sitePy s else if !(beyM s p nm).isEmpty || decide (5 < p.ws.length + (lackM s p nm).length) then .none else sitePy (mendS s n p (lackM s p nm))
theorem mendM_flat (s : List Pg) (n : Nat) (p : Pg) (nm : Str) : flat (mendM s n p nm) = true := by
  unfold mendM
  split
  · exact site_flat s
  · split
    · rfl
    · exact site_flat _
/-- beyond, of what passes -/
theorem ev_beyond {ρ : Rho} {t u v : TE} {s : List Pg} {n : Nat} {p : Pg} {nm : Str} {W : L2.St → XK} (h : EvR K t ρ (sitePy s)) (g : EvR K u ρ (.int (n : Nat))) (k : EvR K v ρ (.str nm)) (good : siteBad (sitePy s) = none) (ep : s[n]? = some p) (ow : okW lts nm = true) (l6 : (keysM s).length ≤ 6) :
    EvR K (tCallS (spBey K C1 C2 C3 C4) W (tCons t (tCons u (tCons v tNil)))) ρ (.tuple ((beyM s p nm).map Ky.py)) := fun sg H en Q q => h sg H en _ fun H1 x s1 hx => g sg H1 (en.same s1) _ fun H2 y s2 hy => k sg H2 ((en.same s1).same s2) _ fun H3 z s3 hz => by
  refine ⟨x, y, z, sitePy s, .int (n : Nat), .str nm, rfl, Da.same (s2.trans s3) _ _ hx, Da.same s3 _ _ hy, hz, (fun ns hb => by rw [good] at hb; cases hb), fun s' _ es => ?_⟩
  obtain rfl := sitePy_injP es
  have ln := (List.getElem?_eq_some_iff.mp ep).1
  refine ⟨fun hn => ?_, fun n' p' en ep' => ?_⟩
  · have num : isNum (s.length : Int) (.int (n : Nat)) = true := by
      show (decide ((0 : Int) ≤ (n : Int)) && decide ((n : Int) < (s.length : Int))) = true
      rw [decide_eq_true (by omega), decide_eq_true (by omega)]
      rfl
    rw [num] at hn
    cases hn
  · obtain rfl : n = n' := by
      injection en with en
      omega
    obtain rfl : p = p' := Option.some.inj (ep.symm.trans ep')
    refine ⟨fun ho => ?_, fun nm' e1 _ => ⟨fun l => by omega, fun _ H4 v s4 hv => ?_⟩⟩
    · have ho : okW lts nm = false := ho
      rw [ow] at ho
      cases ho
    · cases e1
      exact q H4 v (((s1.trans s2).trans s3).trans s4) hv
def spMend (K : PySem.W.Frag) (C1 C2 C3 C4 : Addr) : Sp := fun vs H Q E => ∃ v u z d e f, vs = [v, u, z] ∧ Da K H v d ∧ Da K H u e ∧ Da K H z f ∧ Gate K C1 C2 C3 C4 H E d e f u z fun s n p nm => ∀ H' v, Same H H' → Da K H' v (mendM s n p nm) → Q v H'
theorem ok_mended (T : Txt K mg) (n1 : Exn P w K mg base "BadSite" "place" C1) (n2 : Exn P w K mg base "BadPage" "given" C2) (n3 : Exn P w K mg base "BadName" "given" C3) (n4 : Exn P w K mg base "TooMany" "most" C4) : OkX P w K mg base "mended" P_mended 11 (spMend K C1 C2 C3 C4) := by
  have ok_lacking : OkX P w K mg base "lacking" P_lacking 9 (spLack K C1 C2 C3 C4) := ok_lacking T n1 n2 n3 n4
  have ok_beyond : OkX P w K mg base "beyond" P_beyond 10 (spBey K C1 C2 C3 C4) := ok_beyond T n1 n2 n3 n4
  have ok__removing : Ok P w K mg base "_removing" P__removing 1 (spRem K) := ok_removing T
  refine T.d_mended.okX sc_mended (fun vs H Q E h => ?_) (fun f cdv A out s H vs Q E hr h => ?_)
  · obtain ⟨v, u, z, d, e, f, rfl, _⟩ := h
    rfl
  · obtain ⟨v, u, z, d, e, f', rfl, hd, he, hf, g1, g2⟩ := h
    refine ⟨_, (pss_cons (ps_set (i := 3) sc_mended.nd rfl (Or.inl rfl) (pe_okX ok_lacking (hr.mono (by decide)) (takes_of rfl rfl rfl rfl) (pa_cons (pv 0) (pa_cons (pv 1) (pa_cons (pv 2) pa_nil)))))
    (pss_cons (ps_if (pt_not (pt_truth (pv 3) (by intro _; rfl))) (pss_one (ps_ret (pv 0))) pss_nil)
    (pss_cons (ps_asg (pe_ix (show IxR _ (rIxT K) from ix_tup) (pv 0) (pv 1) (fun _ _ => rfl)) (pg_tup rfl (pgs_cons (pg_name (i := 4) sc_mended.nd rfl (Or.inl rfl)) (pgs_cons (pg_name (i := 5) sc_mended.nd rfl (Or.inl rfl)) pgs_nil))))
    (pss_cons (ps_if (PW.pt (pw_or (pt_truth (pe_okX ok_beyond (hr.mono (by decide)) (takes_of rfl rfl rfl rfl) (pa_cons (pv 0) (pa_cons (pv 1) (pa_cons (pv 2) pa_nil)))) (by intro _; rfl)) (pw_or1 (pt_cmpR op_gt (pe_op op_add (pe_callB call_len (by rfl) T.z_len (by decide +kernel) (pa_cons (pv 5) pa_nil)) (pe_callB call_len (by rfl) T.z_len (by decide +kernel) (pa_cons (pv 3) pa_nil))) (pe_gc T.c_MOST_WRITES) (nomark _))))) (pss_one (ps_ret pe_non)) pss_nil)
    (pss_cons (ps_set (i := 6) sc_mended.nd rfl (Or.inl rfl) (pe_callTy call_tuple_of (by rfl) T.z_tuple (by decide +kernel) (pa_cons (pe_lc (own := [("key", 7)]) (g := gName 7) (tt := tYes) rfl sc_mended.nd (pi_tup (pv 3)) (blkOk_by (N := N_mended) (sc := defScope st_mended) (by decide +kernel)) (fun _ _ _ _ _ => pg_name (i := 7) sc_mended.nd rfl (Or.inl rfl)) (fun _ _ _ _ _ => pts_nil) (fun _ _ _ _ _ => (pe_ok ok__removing (hr.mono (by decide)) (pa_cons (pv 7) pa_nil)))) pa_nil)))
    (pss_one (ps_ret (pe_op (show OpR _ _ (rCatA K) from op_catA) (pe_op (show OpR _ _ (rCatA K) from op_catA) (pe_slice (show SlR _ (rSlA K) from sl_tupA) (pv 0) po_none (po_some (pv 1))) (pe_tup (pa_cons (pe_tup (pa_cons (pv 4) (pa_cons (pe_op (show OpR _ _ (rCatA K) from op_catA) (pv 5) (pv 6)) pa_nil))) pa_nil))) (pe_slice (show SlR _ (rSlA K) from sl_tupA) (pv 0) (po_some (pe_op op_add (pv 1) pe_int)) po_none))))))))), ?_⟩
    refine ⟨v, rfl, u, rfl, z, rfl, v, u, z, d, e, f', rfl, hd, he, hf, g1, fun si good es => ⟨(g2 si good es).1, fun n p en ep => ⟨((g2 si good es).2 n p en ep).1, fun nm ef ow => ⟨(((g2 si good es).2 n p en ep).2 nm ef ow).1, fun l6 H1 x s1 hx => ?_⟩⟩⟩⟩
    have q := (((g2 si good es).2 n p en ep).2 nm ef ow).2 l6
    clear g1 g2
    subst es en ef
    have fs := fit_of_good good
    have fp := fs.2.2 p (List.mem_of_getElem? ep)
    obtain rfl : u = .int (n : Int) := by
      cases he
      rfl
    unfold gName
    dsimp only
    refine bk_run (K := K) (H := H1) (sg := [some v, some (.int (n : Int)), some z, some x, none, none, none, none]) (r := [.da (sitePy si), .da (.int (n : Nat)), .da (.str nm), .da (.tuple ((lackM si p nm).map Ky.py)), .no, .no, .no, .no]) (N := fun H' => Q .non H') (Q := Q)
      (P := ⟨fun _ => False, fun _ => False, fun _ => False, fun y _ => y = .da (mendM si n p nm)⟩) ?_ ⟨hold_da (Da.same s1 _ _ hd), hold_da (.int _), hold_da (Da.same s1 _ _ hf), hold_da hx, trivial, trivial, trivial, trivial, trivial⟩ trivial (fun _ h => h) (fun _ h => h) (fun _ h => h.elim) (fun y r' h => by subst h; exact fun H' v s hv => q H' v (s1.trans s) hv)
    have ll := lackM_len good p nm
    have l5 := fp.len
    have ie : ∀ ks : List Ky, (ks.map Ky.py).isEmpty = ks.isEmpty := fun ks => by cases ks <;> rfl
    refine bk_ifS (evt_not (evt_truT (ds := (lackM si p nm).map Ky.py) (ev_var rfl))) (fun hb => ?_) (fun hb => bk_nextS ?_)
    · rw [ie, Bool.not_not] at hb
      refine bk_retS (ev_var rfl) (site_flat si) ?_
      unfold mendM
      rw [if_pos hb]
    · rw [ie, Bool.not_not] at hb
      have ev1 : EvR K (tOp (rIxT K) (tVar 0) (tVar 1)) (view [.da (sitePy si), .da (.int (n : Nat)), .da (.str nm), .da (.tuple ((lackM si p nm).map Ky.py)), .no, .no, .no, .no]) p.py := ev_ixT (ds := si.map Pg.py) (i := n) (ev_var rfl) (ev_var rfl) (by rw [List.getElem?_map, ep]; rfl)
      refine bk_tg (d := .tuple [p.ad.py, .tuple (p.ws.map Wr.py)]) ev1 (pg_flat p) (tg_tup (tgs_cons tg_name (tgs_cons tg_name tgs_nil)) rfl) ?_
      refine bk_ifS (b := !(beyM si p nm).isEmpty || decide (5 < p.ws.length + (lackM si p nm).length)) (evt_orB (b := !(beyM si p nm).isEmpty) ?_ (fun hb2 => ?_) (fun hb2 => by rw [hb2]; rfl)) (fun hb2 => ?_) (fun hb2 => bk_nextS ?_)
      · rw [← ie]
        exact evt_truT (ev_beyond (ev_var rfl) (ev_var rfl) (ev_var rfl) good ep ow l6)
      · rw [hb2, Bool.false_or]
        refine evt_test (EvR.to (ev_gtI (i := ((p.ws.map Wr.py).length : Int) + (((lackM si p nm).map Ky.py).length : Int)) (j := 5) (ev_addI (ev_lenT (ds := p.ws.map Wr.py) (ev_var rfl)) (ev_lenT (ds := (lackM si p nm).map Ky.py) (ev_var rfl)) rfl) ev_int) ?_)
        rw [List.length_map, List.length_map]
        congr 1
        exact decide_eq_decide.mpr (by omega)
      · refine bk_retS ev_non rfl ?_
        unfold mendM
        rw [if_neg (by rw [hb]; exact Bool.false_ne_true), if_pos hb2]
      · refine bk_then (st_asg (d := .tuple (((lackM si p nm).filter fun _ => true).map fun k => (remW k).py)) (ev_tupL (EvF.evr (evf_lc (lackM si p nm) Ky.py (fun k => (remW k).py) (fun _ => true) (itr_tup (ev_var rfl)) (by omega) (fun k hk => ⟨_, te_name (by decide), evt_yes, fun _ => ⟨ev_rem (ev_var rfl), wr_flat _⟩⟩)) ?_)) (flatAll_map _ fun k => wr_flat _)) ?_
        · rw [List.length_map]
          exact Nat.le_trans (List.length_filter_le _ _) (by omega)
        · rw [filter_yes]
          have few : p.ws.length + (lackM si p nm).length ≤ 5 := by
            rw [Bool.or_eq_false_iff, decide_eq_false_iff_not] at hb2
            omega
          have l5s := fs.2.1
          have ln := (List.getElem?_eq_some_iff.mp ep).1
          refine bk_ret (d := sitePy (mendS si n p (lackM si p nm))) (EvR.to (ev_cat (ev_cat (ev_slTo (ds := si.map Pg.py) (ev_var rfl) (ev_var rfl)) (ev_tup (eva_cons (ev_tup (eva_cons (ev_var rfl) (eva_cons (ev_cat (as := p.ws.map Wr.py) (bs := (lackM si p nm).map fun k => (remW k).py) (ev_var rfl) (ev_var rfl) ?hA) eva_nil)) (by show 2 ≤ 1000; decide)) eva_nil) (by show 1 ≤ 1000; decide)) ?hB) (ev_slFrom (ds := si.map Pg.py) (c := n + 1) (ev_var rfl) (ev_addI (i := n) (j := 1) (ev_var rfl) ev_int rfl)) ?hC) ?hD) (site_flat _) ?hE
          case hA =>
            rw [List.length_map, List.length_map]
            omega
          case hB =>
            rw [List.length_take, List.length_map]
            show _ + 1 ≤ 1000
            omega
          case hC =>
            rw [List.length_append, List.length_take, List.length_drop, List.length_map]
            show _ + 1 + _ ≤ 1000
            omega
          case hD =>
            unfold mendS sitePy
            rw [List.map_append, List.map_append, List.map_take, List.map_drop]
            show PyData.tuple (_ ++ [PyData.tuple [p.ad.py, PyData.tuple _]] ++ _) = PyData.tuple (_ ++ [PyData.tuple [p.ad.py, PyData.tuple ((p.ws ++ (lackM si p nm).map remW).map Wr.py)]] ++ _)
            rw [List.map_append, List.map_map]
            rfl
          case hE =>
            show Rt.da _ = Rt.da (mendM si n p nm)
            unfold mendM
            rw [if_neg (by rw [hb]; exact Bool.false_ne_true), if_neg (by rw [hb2]; exact Bool.false_ne_true)]
end
end S1
namespace S1
open PySem PySem.Spec PyProof.Rows L2 Jv
/-! ### all rows of so many pages -/
def rowD (row : List Nat) : PyData := .tuple (row.map fun n : Nat => .int (n : Nat))
def longerM (many : Nat) (last : List (List Nat)) : List (List Nat) := last.flatMap fun row => (List.range many).map fun n => row ++ [n]
/-- the rows of so many visits, and all rows of fewer -/
def rowsAt (many : Nat) : Nat → List (List Nat) × List (List Nat)
  | 0 => ([[]], [[]])
  | k + 1 => (longerM many (rowsAt many k).1, (rowsAt many k).2 ++ longerM many (rowsAt many k).1)
def rowsM (many most : Nat) : List (List Nat) := (rowsAt many most).2
section
variable {P : Program} {w : World} {K : PySem.W.Frag} {mg : Str → Option Value} {base : Heap}
def rowsMost (many : Nat) : ∀ k, (rowsAt many k).1.length = many ^ k
  | 0 => rfl
  | k + 1 => by
    show (longerM many (rowsAt many k).1).length = _
    unfold longerM
    rw [List.length_flatMap]
    simp only [List.length_map, List.length_range]
    rw [List.map_const', List.sum_replicate_nat, rowsMost many k, Nat.pow_succ]
theorem pow_le {many k : Nat} (hm : many ≤ 5) (hk : k ≤ 4) : many ^ k ≤ 625 := Nat.le_trans (Nat.pow_le_pow_left hm k) (Nat.le_trans (Nat.pow_le_pow_right (by decide) hk) (by decide))
theorem rowsAll {many : Nat} (hm : many ≤ 5) : ∀ k, k ≤ 4 → (rowsAt many k).2.length ≤ 1 + 625 * k
  | 0, _ => Nat.le_refl _
  | k + 1, h => by
    show ((rowsAt many k).2 ++ longerM many (rowsAt many k).1).length ≤ _
    rw [List.length_append]
    have h1 := rowsAll hm k (by omega)
    have h2 : (longerM many (rowsAt many k).1).length = many ^ (k + 1) := rowsMost many (k + 1)
    have h3 := pow_le hm h
    omega
theorem row_flat (row : List Nat) : flat (rowD row) = true := flatAll_of fun x hx => by
  obtain ⟨n, _, rfl⟩ := List.mem_map.mp hx
  rfl
theorem rows_flat (rows : List (List Nat)) : flatAll (rows.map rowD) = true := flatAll_of fun x hx => by
  obtain ⟨n, _, rfl⟩ := List.mem_map.mp hx
  exact row_flat n
theorem longer_step {many : Nat} {last : List (List Nat)} {j : Nat} {row : List Nat} (h : last[j]? = some row) : longerM many (last.take (j + 1)) = longerM many (last.take j) ++ (List.range many).map fun n => row ++ [n] := by
  rw [List.take_add_one, h]
  unfold longerM
  rw [List.flatMap_append]
  simp
theorem rows_len {many : Nat} {last : List (List Nat)} : ∀ k, (∀ row ∈ last, row.length ≤ k) → ∀ row ∈ longerM many last, row.length ≤ k + 1 := fun k h row hr => by
  obtain ⟨r, h1, h2⟩ := List.mem_flatMap.mp hr
  obtain ⟨n, _, rfl⟩ := List.mem_map.mp h2
  have := h r h1
  rw [List.length_append]
  show r.length + 1 ≤ _
  omega
theorem rowsAt_len (many : Nat) : ∀ k, ∀ row ∈ (rowsAt many k).1, row.length ≤ k
  | 0 => fun row h => by
    rw [List.mem_singleton.mp h]
    exact Nat.le_refl _
  | k + 1 => rows_len k (rowsAt_len many k)
def spRows (K : PySem.W.Frag) : Sp := fun vs H Q _ => ∃ many most : Nat, vs = [.int (many : Nat), .int (most : Nat)] ∧ many ≤ 5 ∧ most ≤ 4 ∧ ∀ H' D xs, Same H H' → H D = none → H' D = some (.lst xs) → DaAll K H' xs ((rowsM many most).map rowD) → Q (.ref D) H'
theorem ok_law_rows (T : Txt K mg) : Ok P w K mg base "_law_rows" P__law_rows 1 (spRows K) := by
  refine T.d__law_rows.ok sc__law_rows (fun vs H Q E h => ?_) (fun f cdv A out s H vs Q E hr h => ?_)
  · obtain ⟨many, most, rfl, _⟩ := h
    rfl
  · obtain ⟨many, most, rfl, hm, hs, q⟩ := h
    refine ⟨_, (pss_cons (ps_par (i := 2) (j := 3) (by rfl) sc__law_rows.nd rfl rfl (by decide) rfl rfl (pa_cons (pe_lst (pa_cons (pe_tup pa_nil) pa_nil)) (pa_cons (pe_lst (pa_cons (pe_tup pa_nil) pa_nil)) pa_nil)) (by rfl))
    (pss_cons (ps_for PassesOwn.never rfl (pi_range1 (by rfl) T.z_range (pa_cons (pv 1) pa_nil)) (pg_name (i := 4) sc__law_rows.nd rfl (Or.inl rfl)) (pss_cons (ps_set (i := 5) sc__law_rows.nd rfl (Or.inl rfl) (pe_lst pa_nil))
      (pss_cons (ps_for PassesOwn.never rfl (pi_list (pv 3)) (pg_name (i := 6) sc__law_rows.nd rfl (Or.inr rfl)) (pss_one (ps_expr (pe_bm PySem.F.plainAttrs_list PySem.F.slot_list_extend PySem.F.type_list_extend mt_extend (pv 5) (pa_cons (pe_lc (own := [("number", 7)]) (g := gName 7) (tt := tYes) rfl sc__law_rows.nd (pi_range1 (by rfl) T.z_range (pa_cons (pv 0) pa_nil)) (blkOk_by (N := N__law_rows) (sc := defScope st__law_rows) (by decide +kernel)) (fun _ _ _ _ _ => pg_name (i := 7) sc__law_rows.nd rfl (Or.inl rfl)) (fun _ _ _ _ _ => pts_nil) (fun _ _ _ _ _ => (pe_op (show OpR _ _ (rCatA K) from op_catA) (pv 6) (pe_tup (pa_cons (pv 7) pa_nil))))) pa_nil)))))
      (pss_one (ps_par (i := 3) (j := 2) (by rfl) sc__law_rows.nd rfl rfl (by decide) rfl rfl (pa_cons (pv 5) (pa_cons (pe_op op_cat (pv 2) (pv 5)) pa_nil)) (by rfl))))))
    (pss_one (ps_ret (pv 2))))), ?_⟩
    refine bk_run (K := K) (r := [.da (.int (many : Nat)), .da (.int (most : Nat)), .no, .no, .no, .no, .no, .no]) (P := ⟨fun _ => False, fun _ => False, fun _ => False, fun x _ => x = .lst ((rowsM many most).map rowD)⟩) ?_ ⟨hold_da (.int _), hold_da (.int _), trivial, trivial, trivial, trivial, trivial, trivial, trivial⟩ trivial (fun _ h => h) (fun _ h => h) (fun _ h => h.elim) (fun x r' h => by subst h; exact q)
    refine bk_then (st_parNN (as := [.tuple []]) (bs := [.tuple []]) (nw_ev (evf_lst (eva_cons (ev_tup eva_nil (by decide)) eva_nil) (by decide)) rfl) (nw_ev (evf_lst (eva_cons (ev_tup eva_nil (by decide)) eva_nil) (by decide)) rfl) rfl (by decide)) ?_
    refine bk_seq (bk_for (it_rng (ev_var rfl) (by omega)) (fun k r1 => r1 = [.da (.int (many : Nat)), .da (.int (most : Nat)), .ow ((rowsAt many k).2.map rowD), .ow ((rowsAt many k).1.map rowD), .no, .no, .no, .no]) ⟨_, Wk.refl _, rfl⟩ (fun k r1 d hd e => ?_) (fun r1 e => ?_))
    · subst e
      obtain ⟨k', hk', rfl⟩ := map_at hd
      have kl : k < most := by
        have := (List.getElem?_eq_some_iff.mp hd).1
        rwa [List.length_map, List.length_range] at this
      have p1 := pow_le hm (show k ≤ 4 by omega)
      have p2 := pow_le hm (show k + 1 ≤ 4 by omega)
      have l1 := rowsMost many k
      have l2 : (longerM many (rowsAt many k).1).length = many ^ (k + 1) := rowsMost many (k + 1)
      have l3 := rowsAll hm k (by omega)
      refine ⟨_, tg_name, bk_then (st_nw (nw_ev (evf_lst eva_nil (by decide)) rfl)) (bk_freeze (i := 3) rfl (by rw [List.length_map]; omega) (bk_seq (bk_for (it_var rfl) (fun j r1 => r1 = [.da (.int (many : Nat)), .da (.int (most : Nat)), .ow ((rowsAt many k).2.map rowD), .da (.list ((rowsAt many k).1.map rowD)), .no, .ow ((longerM many ((rowsAt many k).1.take j)).map rowD), .no, .no]) ?_ (fun j r1 d hd e => ?_) (fun r1 e => ?_))))⟩
      · refine ⟨_, ?_, rfl⟩
        exact (wk_of (by repeat' first | exact trivial | refine ⟨.inr rfl, ?_⟩ | refine ⟨.inl rfl, ?_⟩))
      · subst e
        obtain ⟨row, hrow, rfl⟩ := map_at hd
        have lr := rowsAt_len many k row (List.mem_of_getElem? hrow)
        have hl : (longerM many ((rowsAt many k).1.take j)).length + many ≤ many ^ (k + 1) := by
          have e1 : (longerM many ((rowsAt many k).1.take (j + 1))).length ≤ (longerM many (rowsAt many k).1).length := by
            unfold longerM
            conv => rhs; rw [← List.take_append_drop (j + 1) (rowsAt many k).1, List.flatMap_append, List.length_append]
            omega
          rw [longer_step hrow, List.length_append, List.length_map, List.length_range, l2] at e1
          exact e1
        refine ⟨_, tg_name, bk_end (st_ext (ds := (longerM many ((rowsAt many k).1.take j)).map rowD) rfl (nw_ev (evf_lc (List.range many) (fun n : Nat => .int (n : Nat)) (fun n => rowD (row ++ [n])) (fun _ => true) (itr_rng (ev_var rfl) (by omega)) (by rw [List.length_range]; omega) (fun n _ => ⟨_, te_name List.mem_cons_self, evt_yes, fun _ => ⟨?_, row_flat _⟩⟩)) ?_) ?_) ?_⟩
        · refine EvR.to (ev_cat (as := row.map fun n : Nat => .int (n : Nat)) (bs := [.int (n : Nat)]) (ev_var rfl) (ev_tup (eva_cons (ev_var rfl) eva_nil) (by show 1 ≤ 1000; decide)) ?_) ?_
          · rw [List.length_map]
            show row.length + 1 ≤ 1000
            omega
          · unfold rowD
            rw [List.map_append]
            rfl
        · exact flatAll_of fun x hx => by
            obtain ⟨n, _, rfl⟩ := List.mem_map.mp hx
            exact row_flat _
        · rw [List.length_map, List.length_map, filter_yes, List.length_range]
          omega
        · refine ⟨_, ?_, rfl⟩
          rw [longer_step hrow, List.map_append, List.map_map, filter_yes]
          exact (wk_of (by repeat' first | exact trivial | refine ⟨.inr rfl, ?_⟩ | refine ⟨.inl rfl, ?_⟩))
      · subst e
        rw [List.length_map, List.take_length]
        refine bk_end (st_parMN (k := 5) rfl (nw_cat (lv_var rfl) (lv_var rfl) ?_) (by decide) (by decide)) ⟨_, Wk.refl _, ?_⟩
        · rw [List.length_map, List.length_map]
          omega
        · rw [← List.map_append]
          rfl
    · subst e
      rw [List.length_map, List.length_range]
      exact bk_retL (i := 2) rfl rfl
end
end S1
/-! a list or a tuple, gone through -/
namespace Jv
open PySem PySem.Spec PyProof.Rows L2
def iSeq (K : PySem.W.Frag) (tl : TE) : TI := fun σ H R => tl σ H fun x H1 => ∃ a, x = .ref a ∧ (((∃ xs, SqL K H1 a xs) ∧ R (Itl K a) H1) ∨ ((∃ xs, SqT K H1 a xs) ∧ R (Itt K a) H1))
theorem pi_seq {X : Cx} {tg l : Expr} {tl : TE} (hl : PE X l tl) : PI X tg l (iSeq X.K tl) := by
  refine ⟨fun pins s σ H R I h => ?_⟩
  refine thn (hl.run pins s σ H _ I h) fun v s1 ⟨x, H1, I1, r1, q1⟩ => ?_
  obtain ⟨a, e, q⟩ := q1
  subst e
  cases r1
  rcases q with ⟨⟨xs, hq⟩, q⟩ | ⟨⟨xs, hq⟩, q⟩
  · obtain ⟨its, rv, p, hz⟩ := I1.list hq
    refine wpAny_pyIter_list p.isList ?_
    refine ⟨s1.heap.objs.size, [s1.heap.objs.size], _, _, H1, rfl, I1.kept (t' := s1.toks) fun b o e => Heap.get?_push_of_some _ e, turn_list a _, ⟨_, Heap.get?_push_size _ rfl, rfl, rfl⟩, fun b hb => ?_, q⟩
    have e : b = s1.heap.objs.size := by simpa using hb
    subst e
    exact I1.fpOk (Nat.le_refl _) (I1.hok.fresh (Nat.le_refl _))
  · obtain ⟨its, rv, p, hz⟩ := I1.tuple hq
    refine wpAny_pyIter_tuple (show s1.heap.IsTuple a its.toArray from p) ?_
    refine ⟨s1.heap.objs.size, [s1.heap.objs.size], _, _, H1, rfl, I1.kept (t' := s1.toks) fun b o e => Heap.get?_push_of_some _ e, turn_tuple a _, ⟨_, Heap.get?_push_size _ rfl, rfl, rfl⟩, fun b hb => ?_, q⟩
    have e : b = s1.heap.objs.size := by simpa using hb
    subst e
    exact I1.fpOk (Nat.le_refl _) (I1.hok.fresh (Nat.le_refl _))
/-- either of both, with the same turns -/
theorem seq_it {K : PySem.W.Frag} {H0 H : Hp} {a : Addr} {xs : List V} {R : It → Hp → Prop} (s : Same H0 H) (h : SqL K H0 a xs ∨ SqT K H0 a xs) (k : ∀ (J : It) (Gd : Hp → Prop), Walk J xs.length Gd (fun i G x G' => G' = G ∧ xs[i]? = some x) → (∀ G, Same H0 G → Gd G) → R J H) :
    ((∃ xs, SqL K H a xs) ∧ R (Itl K a) H) ∨ ((∃ xs, SqT K H a xs) ∧ R (Itt K a) H) := by
  rcases h with h | h
  · exact .inl ⟨⟨xs, s.seq h⟩, k _ _ walk_list fun G sG => sG.seq h⟩
  · refine .inr ⟨⟨xs, ?_⟩, k _ _ walk_tup fun G sG => ?_⟩
    · rcases h with (h | ⟨o, h⟩) | h
      · exact Or.inl (Or.inl (s _ _ h))
      · exact Or.inl (Or.inr ⟨o, s _ _ h⟩)
      · exact Or.inr h
    · rcases h with (h | ⟨o, h⟩) | h
      · exact Or.inl (Or.inl (sG _ _ h))
      · exact Or.inl (Or.inr ⟨o, sG _ _ h⟩)
      · exact Or.inr h
theorem iSeq_it {K : PySem.W.Frag} {H0 H : Hp} {a : Addr} {xs : List V} {R : It → Hp → Prop} {σ : L2.St} {i : Nat} (e : σ[i]? = some (some (.ref a))) (s : Same H0 H) (h : SqL K H0 a xs ∨ SqT K H0 a xs) (k : ∀ (J : It) (Gd : Hp → Prop), Walk J xs.length Gd (fun i G x G' => G' = G ∧ xs[i]? = some x) → (∀ G, Same H0 G → Gd G) → R J H) :
    iSeq K (tVar i) σ H R := ⟨.ref a, e, a, rfl, seq_it s h k⟩
end Jv
namespace S1
open PySem PySem.Spec PyProof.Rows L2 Jv
/-! ### the law's own browser -/
section
variable {P : Program} {w : World} {K : PySem.W.Frag} {mg : Str → Option Value} {base : Heap}
/-- what is kept, as the law has it -/
def ktP (x : Ky × Str × Bool) : PyData := .tuple [x.1.py, .tuple [.str x.2.1, .bool x.2.2]]
theorem ktP_flat (x : Ky × Str × Bool) : flat (ktP x) = true := by
  show flatAll [x.1.py, .tuple [.str x.2.1, .bool x.2.2]] = true
  rw [flatAll, ky_flat]
  rfl
theorem kts_flatP (t : Tab) : flatAll (t.map ktP) = true := flatAll_of fun d hd => by
  obtain ⟨x, _, rfl⟩ := List.mem_map.mp hd
  exact ktP_flat x
structure KtOk (t : Tab) : Prop where
  nd : (t.map (·.1)).Nodup
  fit : ∀ x ∈ t, kyShape x.1 = true ∧ okW sgs x.2.1 = true
theorem ky_canLay {k : Ky} (h : kyShape k = true) : k.py.canLay0 = true := (plain_show _ (small_ky h).pl).2.1
theorem ky_shapedP {k : Ky} (h : kyShape k = true) : SeqAt.shaped k.py = true := by
  show (k.py.canLay0 && decide (k.py.depth ≤ 64)) = true
  rw [ky_canLay h, Ky.pdepth]
  rfl
theorem kys_canLay {ks : List Ky} (h : ∀ k ∈ ks, kyShape k = true) : PyData.canLayAll0 (ks.map Ky.py) = true ∧ PyData.depthAll (ks.map Ky.py) ≤ 2 := by
  refine ⟨layAll0_of fun d hd => ?_, depthAll_le fun d hd => ?_⟩
  · obtain ⟨k, hk, rfl⟩ := List.mem_map.mp hd
    exact ky_canLay (h k hk)
  · obtain ⟨k, _, rfl⟩ := List.mem_map.mp hd
    exact Nat.le_of_eq (Ky.pdepth k)
where
  layAll0_of {ds : List PyData} (h : ∀ d ∈ ds, d.canLay0 = true) : PyData.canLayAll0 ds = true := by
    induction ds with
    | nil => rfl
    | cons d ds ih =>
      rw [PyData.canLayAll0, h d List.mem_cons_self, ih fun e he => h e (List.mem_cons_of_mem _ he)]
      rfl
theorem kys_shapedP {ks : List Ky} (h : ∀ k ∈ ks, kyShape k = true) : SeqAt.shaped (.list (ks.map Ky.py)) = true := by
  obtain ⟨h1, h2⟩ := kys_canLay h
  show (PyData.canLayAll0 (ks.map Ky.py) && decide (PyData.depthAll (ks.map Ky.py) + 1 ≤ 64)) = true
  rw [h1, decide_eq_true (by omega)]
  rfl
theorem eqv_kyP (k k' : Ky) : PyData.eqv k.py k'.py = decide (k = k') := by
  obtain ⟨n, d, f, a⟩ := k
  obtain ⟨n', d', f', a'⟩ := k'
  have e : PyData.eqv (Ky.py ⟨n, d, f, a⟩) (Ky.py ⟨n', d', f', a'⟩) = (PyData.eqv (.str n) (.str n') && (PyData.eqv (.tuple (d.map .str)) (.tuple (d'.map .str)) && (PyData.eqv (.tuple (f.map .str)) (.tuple (f'.map .str)) && (PyData.eqv (.bool a) (.bool a') && true)))) := rfl
  have e1 : PyData.eqv (.str n) (.str n') = decide (n = n') := rfl
  have e2 : PyData.eqv (.bool a) (.bool a') = decide (a = a') := by cases a <;> cases a' <;> decide +kernel
  rw [e, e1, e2, eqv_strs, eqv_strs]
  by_cases h1 : n = n' <;> by_cases h2 : d = d' <;> by_cases h3 : f = f' <;> by_cases h4 : a = a' <;> simp [h1, h2, h3, h4]
theorem any_kyP (ks : List Ky) (k : Ky) : (ks.map Ky.py).any (PyData.eqv · k.py) = decide (k ∈ ks) := by
  induction ks with
  | nil => rfl
  | cons a ks ih =>
    rw [List.map_cons, List.any_cons, ih, eqv_kyP]
    by_cases e : a = k
    · subst e
      simp
    · rw [decide_eq_false e, Bool.false_or]
      refine decide_eq_decide.mpr ⟨List.mem_cons_of_mem _, fun h => (List.mem_cons.mp h).resolve_left fun z => e z.symm⟩
theorem key_placeP {ks : List Ky} {k : Ky} (h : k ∈ ks) : ∃ j, SeqAt.dataPlace (ks.map Ky.py) k.py = some j ∧ ks[j]? = some k := by
  unfold SeqAt.dataPlace
  cases e : (ks.map Ky.py).findIdx? (fun y => PyData.eqv y k.py) with
  | none =>
    rw [List.findIdx?_eq_none_iff] at e
    have := e k.py (List.mem_map_of_mem h)
    rw [eqv_kyP, decide_eq_true rfl] at this
    cases this
  | some j =>
    refine ⟨j, rfl, ?_⟩
    obtain ⟨hl, hp, _⟩ := List.findIdx?_eq_some_iff_getElem.mp e
    rw [List.getElem_map, eqv_kyP, decide_eq_true_eq] at hp
    rw [List.length_map] at hl
    rw [List.getElem?_eq_getElem hl, hp]
/-- taken out, where it stands -/
theorem filter_at : ∀ {t : Tab} {j : Nat} {x : Ky × Str × Bool}, (t.map (·.1)).Nodup → t[j]? = some x → t.filter (fun p => decide (p.1 ≠ x.1)) = t.eraseIdx j
  | [], _, _, _, h => by simp at h
  | y :: t, 0, x, nd, h => by
    simp at h
    subst h
    rw [List.map_cons, List.nodup_cons] at nd
    show (y :: t).filter _ = t
    rw [List.filter_cons, if_neg (by simp)]
    exact List.filter_eq_self.mpr fun z hz => decide_eq_true fun e => nd.1 (by rw [← e]; exact List.mem_map_of_mem hz)
  | y :: t, j + 1, x, nd, h => by
    rw [List.map_cons, List.nodup_cons] at nd
    have h' : t[j]? = some x := by simpa using h
    have ne : y.1 ≠ x.1 := fun e => nd.1 (by rw [e]; exact List.mem_map_of_mem (List.mem_of_getElem? h'))
    show (y :: t).filter _ = y :: t.eraseIdx j
    rw [List.filter_cons, if_pos (decide_eq_true ne), filter_at nd.2 h']
theorem putE_at {β : Type} : ∀ {t : List (Ky × β)} {j : Nat} {x : Ky × β} (v : β), (t.map (·.1)).Nodup → t[j]? = some x → putE t x.1 v = t.set j (x.1, v)
  | [], _, _, _, _, h => by simp at h
  | y :: t, 0, x, v, nd, h => by
    simp at h
    subst h
    show putE (y :: t) y.1 v = (y.1, v) :: t
    unfold putE
    rw [if_pos rfl]
  | y :: t, j + 1, x, v, nd, h => by
    rw [List.map_cons, List.nodup_cons] at nd
    have h' : t[j]? = some x := by simpa using h
    have ne : y.1 ≠ x.1 := fun e => nd.1 (by rw [e]; exact List.mem_map_of_mem (List.mem_of_getElem? h'))
    show putE (y :: t) x.1 v = y :: t.set j (x.1, v)
    unfold putE
    rw [if_neg ne, putE_at v nd.2 h']
theorem KtOk.doW {t : Tab} {x : Ky × Option Str × Bool} (h : KtOk t) (k : kyShape x.1 = true) (v : ∀ y, x.2.1 = some y → okW sgs y = true) : KtOk (Jv.doW t x) := by
  refine ⟨doW_nodup h.nd x, fun y hy => ?_⟩
  obtain ⟨kx, o, g⟩ := x
  cases o with
  | none => exact h.fit y (List.mem_filter.mp hy).1
  | some s =>
    rcases putE_mem _ hy with hy | ⟨e1, e2⟩
    · exact h.fit y hy
    · rw [e1, e2]
      exact ⟨k, v s rfl⟩
theorem takenL_take {a : Ad} {ws : List Wr} {i : Nat} {wr : Wr} (e : ws[i]? = some wr) : takenL a (ws.take (i + 1)) = takenL a (ws.take i) ++ (if takenM a wr then [(keyM a wr, wr.val, wr.grd)] else []) := by
  rw [List.take_add_one, e, takenL_app]
  rfl
theorem KtOk.doWs {t : Tab} (h : KtOk t) : ∀ {ws : List (Ky × Option Str × Bool)}, (∀ x ∈ ws, kyShape x.1 = true ∧ ∀ y, x.2.1 = some y → okW sgs y = true) → KtOk (Jv.doWs t ws) := by
  intro ws
  induction ws generalizing t with
  | nil => exact fun _ => h
  | cons x ws ih => exact fun g => ih (h.doW (g x List.mem_cons_self).1 (g x List.mem_cons_self).2) fun y hy => g y (List.mem_cons_of_mem _ hy)
theorem taken_sub {a : Ad} {ws : List Wr} {i : Nat} {x : Ky × Option Str × Bool} (h : x ∈ takenL a (ws.take i)) : x ∈ takenL a ws := by
  have e : takenL a ws = takenL a (ws.take i) ++ takenL a (ws.drop i) := by rw [← takenL_app, List.take_append_drop]
  rw [e]
  exact List.mem_append_left _ h
theorem map_eraseP {α β : Type} (f : α → β) : ∀ (l : List α) (j : Nat), (l.eraseIdx j).map f = (l.map f).eraseIdx j
  | [], _ => rfl
  | _ :: _, 0 => rfl
  | a :: l, j + 1 => by
    show f a :: (l.eraseIdx j).map f = f a :: (l.map f).eraseIdx j
    rw [map_eraseP f l j]
theorem map_setP {α β : Type} (f : α → β) (x : α) : ∀ (l : List α) (j : Nat), (l.set j x).map f = (l.map f).set j (f x)
  | [], _ => rfl
  | _ :: _, 0 => rfl
  | a :: l, j + 1 => by
    show f a :: (l.set j x).map f = f a :: (l.map f).set j (f x)
    rw [map_setP f x l j]
def spVisP (K : PySem.W.Frag) : Sp := fun vs H Q _ => ∃ v u t p, vs = [v, u] ∧ Da K H v (.list (t.map ktP)) ∧ KtOk t ∧ t.length ≤ 500 ∧ Da K H u p.py ∧ pgFit p ∧
  ∀ H' L xs, Same H H' → H L = none → H' L = some (.lst xs) → DaAll K H' xs ((doWs t (takenP p)).map ktP) → Q (.ref L) H'
theorem ok_law_visitedP (T : Txt K mg) : Ok P w K mg base "_law_visited" P__law_visited 2 (spVisP K) := by
  have ok__law_key : Ok P w K mg base "_law_key" P__law_key 1 (spLKey K) := ok_law_key T
  refine T.d__law_visited.ok sc__law_visited (fun vs H Q E h => ?_) (fun f cdv A out s H vs Q E hr h => ?_)
  · obtain ⟨v, u, t, p, rfl, _⟩ := h
    rfl
  · obtain ⟨v, u, t, p, rfl, hv, ft, hl, hp, fp, q⟩ := h
    refine ⟨_, (pss_cons (ps_set (i := 2) sc__law_visited.nd rfl (Or.inl rfl) (pe_callTy call_list_of (by rfl) T.z_list (by decide +kernel) (pa_cons (pv 0) pa_nil)))
    (pss_cons (ps_for PassesOwn.never rfl (pi_tup (pe_ix (show IxR _ (rIxT K) from ix_tup) (pv 1) pe_int (fun _ _ => rfl))) (pg_name (i := 3) sc__law_visited.nd rfl (Or.inl rfl)) (pss_cons (ps_set (i := 4) sc__law_visited.nd rfl (Or.inl rfl) (pe_ok ok__law_key (hr.mono (by decide)) (pa_cons (pv 1) (pa_cons (pv 3) pa_nil))))
      (pss_cons (ps_setLc (i := 5) (own := [("one", 6), ("worth", 7)]) (g := gTup K 2 (gCons (gName 6) (gCons (gName 7) gNil))) (tt := tYes) rfl sc__law_visited.nd rfl rfl (sw_true rfl rfl rfl (by decide +kernel)) (pi_list (pv 2)) (blkOk_by (N := N__law_visited) (sc := defScope st__law_visited) (by decide +kernel)) (fun _ _ _ _ _ => (pg_tup rfl (pgs_cons (pg_name (i := 6) sc__law_visited.nd rfl (Or.inl rfl)) (pgs_cons (pg_name (i := 7) sc__law_visited.nd rfl (Or.inl rfl)) pgs_nil)))) (fun _ _ _ _ _ => pts_nil) (fun _ _ _ _ _ => (pv 6)))
      (pss_cons (ps_if (PW.pt (pw_or (pt_cmpR op_isN (pv 4) pe_non (nomark _)) (pw_or1 (PW.pt (pw_and (pt_cmpR (show OpR _ _ (rNotInA K) from op_notInA (h65_of hr)) (pv 4) (pv 5) (by rfl)) (pw_and1 (pt_cmpR op_isN (pe_ix (show IxR _ (rIxT K) from ix_tup) (pv 3) pe_int (fun _ _ => rfl)) pe_non (nomark _)))))))) (pss_one ps_continue) pss_nil)
      (pss_one (ps_if (pt_cmpR (show OpR _ _ (rNotInA K) from op_notInA (h65_of hr)) (pv 4) (pv 5) (by rfl)) (pss_one (ps_expr (pe_bm PySem.F.plainAttrs_list PySem.F.slot_list_append PySem.F.type_list_append mt_append (pv 2) (pa_cons (pe_tup (pa_cons (pv 4) (pa_cons (pe_tup (pa_cons (pe_ix (show IxR _ (rIxT K) from ix_tup) (pv 3) pe_int (fun _ _ => rfl)) (pa_cons (pe_ix (show IxR _ (rIxT K) from ix_tup) (pv 3) pe_int (fun _ _ => rfl)) pa_nil))) pa_nil))) pa_nil)))) (pss_one (ps_if (pt_cmpR op_isN (pe_ix (show IxR _ (rIxT K) from ix_tup) (pv 3) pe_int (fun _ _ => rfl)) pe_non (nomark _)) (pss_one (ps_expr (pe_bm PySem.F.plainAttrs_list PySem.F.slot_list_pop PySem.F.type_list_pop mt_popAt (pv 2) (pa_cons (pe_bm PySem.F.plainAttrs_list PySem.F.slot_list_index PySem.F.type_list_index (show MtR _ _ (rIxA K) from mt_ixA (h65_of hr)) (pv 5) (pa_cons (pv 4) pa_nil)) pa_nil)))) (pss_one (ps_asg (pe_tup (pa_cons (pv 4) (pa_cons (pe_tup (pa_cons (pe_ix (show IxR _ (rIxT K) from ix_tup) (pv 3) pe_int (fun _ _ => rfl)) (pa_cons (pe_ix (show IxR _ (rIxT K) from ix_tup) (pv 3) pe_int (fun _ _ => rfl)) pa_nil))) pa_nil))) (pg_sub (pv 2) (pe_bm PySem.F.plainAttrs_list PySem.F.slot_list_index PySem.F.type_list_index (show MtR _ _ (rIxA K) from mt_ixA (h65_of hr)) (pv 5) (pa_cons (pv 4) pa_nil)) set_list)))))))))))
    (pss_one (ps_ret (pv 2))))), ?_⟩
    have l5 : p.ws.length ≤ 5 := fp.len
    refine bk_run (K := K) (r := [.da (.list (t.map ktP)), .da p.py, .no, .no, .no, .no, .no, .no]) (P := ⟨fun _ => False, fun _ => False, fun _ => False, fun x _ => x = .lst ((doWs t (takenP p)).map ktP)⟩) ?_ ⟨hold_da hv, hold_da hp, trivial, trivial, trivial, trivial, trivial, trivial, trivial⟩ trivial (fun _ h => h) (fun _ h => h) (fun _ h => h.elim) (fun x r' h => by subst h; exact q)
    refine bk_then (st_nw (nw_ev (evf_listL (ev_var rfl)) (kts_flatP t))) ?_
    refine bk_seq (bk_for (it_tup (ds := p.ws.map Wr.py) (ev_ixTz (ds := [p.ad.py, .tuple (p.ws.map Wr.py)]) (ev_var rfl) rfl rfl) (flatAll_map p.ws wr_flat)) (fun i r1 => r1 = [.da (.list (t.map ktP)), .da p.py, .ow ((doWs t (takenL p.ad (p.ws.take i))).map ktP), .no, .no, .no, .no, .no]) ⟨_, Wk.refl _, rfl⟩ (fun i r1 d hd e => ?_) (fun r1 e => ?_))
    · subst e
      obtain ⟨wr, hwr, rfl⟩ := map_at hd
      have mw := List.mem_of_getElem? hwr
      have step := takenL_take (a := p.ad) hwr
      have fit : ∀ x ∈ takenL p.ad p.ws, kyShape x.1 = true ∧ ∀ y, x.2.1 = some y → okW sgs y = true := fun x hx => key_fit fp hx
      have ok' : KtOk (doWs t (takenL p.ad (p.ws.take i))) := ft.doWs fun x hx => fit x (taken_sub hx)
      have il : i < p.ws.length := (List.getElem?_eq_some_iff.mp hwr).1
      have lt' : (doWs t (takenL p.ad (p.ws.take i))).length ≤ 505 := by
        have h1 := doWs_len (takenL p.ad (p.ws.take i)) t
        have h2 := takenL_len p.ad (p.ws.take i)
        rw [List.length_take] at h2
        omega
      have next : doWs t (takenL p.ad (p.ws.take (i + 1))) = if takenM p.ad wr then doW (doWs t (takenL p.ad (p.ws.take i))) (keyM p.ad wr, wr.val, wr.grd) else doWs t (takenL p.ad (p.ws.take i)) := by
        rw [step, doWs_app]
        split <;> rfl
      rw [next]
      generalize doWs t (takenL p.ad (p.ws.take i)) = t' at ok' lt' ⊢
      have lk : (t'.map ktP).length ≤ 1000 := by
        rw [List.length_map]
        omega
      refine ⟨_, tg_name, bk_then (st_asg (ev_lawKey (p := p) (wr := wr) (ev_var rfl) (ev_var rfl) fp mw) (optKy_flat p wr)) (bk_then (st_nw (ds := (t'.filter fun _ => true).map fun x => x.1.py) (nw_ev (evf_lc t' ktP (fun x => x.1.py) (fun _ => true) (itr_list (ev_own (r := [.da (.list (t.map ktP)), .da p.py, .ow (t'.map ktP), .da wr.py, .da (optKy p wr), .no, .no, .no]) rfl lk)) (by omega) (fun x _ => ⟨_, te_tup (tes_cons (te_name (by decide)) (tes_cons (te_name (by decide)) tes_nil)) rfl, evt_yes, fun _ => ⟨ev_var rfl, ky_flat _⟩⟩)) ?_)) ?_)⟩
      · exact flatAll_of fun d hd => by
          obtain ⟨x, _, rfl⟩ := List.mem_map.mp hd
          exact ky_flat _
      · have em : t'.map (fun x : Ky × Str × Bool => x.1.py) = (t'.map (·.1)).map Ky.py := by
          rw [List.map_map]
          rfl
        rw [filter_yes, em]
        cases tk : takenM p.ad wr with
        | false =>
          have ek : optKy p wr = .none := by
            unfold optKy
            rw [if_neg (by rw [tk]; exact Bool.false_ne_true)]
          rw [ek, if_neg Bool.false_ne_true]
          refine bk_ifS (b := true) (evt_orB (b := true) (evt_test (ev_isNone (d := .none) (ev_var rfl))) (fun h => nomatch h) fun _ => rfl) (fun _ => bk_contS ⟨_, ?_, rfl⟩) fun h => nomatch h
          exact (wk_of (by repeat' first | exact trivial | refine ⟨.inr rfl, ?_⟩ | refine ⟨.inl rfl, ?_⟩))
        | true =>
          have ek : optKy p wr = (keyM p.ad wr).py := by
            unfold optKy
            rw [if_pos tk]
          have kf := key_fit fp (memT (a := p.ad) mw tk)
          rw [ek]
          rw [if_pos rfl]
          generalize keyM p.ad wr = ky at kf ⊢
          obtain ⟨kf, vf⟩ := kf
          have vf : ∀ y, wr.val = some y → okW sgs y = true := vf
          have fitk : ∀ k ∈ t'.map (·.1), kyShape k = true := fun k hk => by
            obtain ⟨x, hx, rfl⟩ := List.mem_map.mp hk
            exact (ok'.fit x hx).1
          have lk2 : ((t'.map (·.1)).map Ky.py).length ≤ 1000 := by
            rw [List.length_map, List.length_map]
            omega
          have sk := ky_shapedP kf
          have sks := kys_shapedP fitk
          have evK : EvR K (tVar 4) (view [.da (.list (t.map ktP)), .da p.py, .ow (t'.map ktP), .da wr.py, .da ky.py, .ow ((t'.map (·.1)).map Ky.py), .no, .no]) ky.py := ev_var rfl
          have evL : EvR K (tVar 5) (view [.da (.list (t.map ktP)), .da p.py, .ow (t'.map ktP), .da wr.py, .da ky.py, .ow ((t'.map (·.1)).map Ky.py), .no, .no]) (.list ((t'.map (·.1)).map Ky.py)) := ev_own rfl lk2
          have evW : EvR K (tOp (rIxT K) (tVar 3) (tC (.int 1))) (view [.da (.list (t.map ktP)), .da p.py, .ow (t'.map ktP), .da wr.py, .da ky.py, .ow ((t'.map (·.1)).map Ky.py), .no, .no]) (optS wr.val) := ev_ixTz (ds := [.str wr.name, optS wr.val, optT wr.dom, optT wr.fold, .bool wr.grd]) (ev_var rfl) rfl rfl
          have evG : EvR K (tOp (rIxT K) (tVar 3) (tC (.int 4))) (view [.da (.list (t.map ktP)), .da p.py, .ow (t'.map ktP), .da wr.py, .da ky.py, .ow ((t'.map (·.1)).map Ky.py), .no, .no]) (.bool wr.grd) := ev_ixTz (ds := [.str wr.name, optS wr.val, optT wr.dom, optT wr.fold, .bool wr.grd]) (ev_var rfl) rfl rfl
          have evN : EvR K (tOp (rNotInA K) (tVar 4) (tVar 5)) (view [.da (.list (t.map ktP)), .da p.py, .ow (t'.map ktP), .da wr.py, .da ky.py, .ow ((t'.map (·.1)).map Ky.py), .no, .no]) (.bool (!decide (ky ∈ t'.map (·.1)))) := ev_notIn evK evL sk sks (any_kyP _ _)
          have nn : isNon ky.py = false := rfl
          by_cases km : ky ∈ t'.map (·.1)
          · rw [decide_eq_true km] at evN
            obtain ⟨j, hj, ej⟩ := key_placeP km
            rw [List.getElem?_map] at ej
            obtain ⟨y0, ey0, rfl⟩ := Option.map_eq_some_iff.mp ej
            have jl : j < t'.length := (List.getElem?_eq_some_iff.mp ey0).1
            have evJ : EvR K (tBM K "list" (rIxA K) (tVar 5) (tCons (tVar 4) tNil)) (view [.da (.list (t.map ktP)), .da p.py, .ow (t'.map ktP), .da wr.py, .da y0.1.py, .ow ((t'.map (·.1)).map Ky.py), .no, .no]) (.int (j : Nat)) := ev_index evL evK sk (PyData.plainAll_of_canLay0 _ (kys_canLay fitk).1) (PyData.plain_of_canLay0 _ (ky_canLay kf)) lk2 hj
            refine bk_ifS (b := false) (evt_orB (b := false) (evt_test (EvR.to (ev_isNone evK) rfl)) (fun _ => evt_and (b := false) (evt_test evN) (fun h => nomatch h) fun _ => rfl) fun h => nomatch h) (fun h => nomatch h) fun _ => bk_nextS ?_
            refine bk_if (b := false) (evt_test evN) (fun h => nomatch h) fun _ => ?_
            cases ev : wr.val with
            | none =>
              rw [ev] at evW
              refine bk_if (b := true) (evt_test (EvR.to (ev_isNone evW) rfl)) (fun _ => bk_end (st_pop (ds := t'.map ktP) rfl evJ (by rw [List.length_map]; exact jl) (by omega)) ⟨_, ?_, rfl⟩) fun h => nomatch h
              rw [show doW t' (y0.1, none, wr.grd) = t'.filter (fun p => decide (p.1 ≠ y0.1)) from rfl, filter_at ok'.nd ey0, map_eraseP]
              exact (wk_of (by repeat' first | exact trivial | refine ⟨.inr rfl, ?_⟩ | refine ⟨.inl rfl, ?_⟩))
            | some v =>
              rw [ev] at evW
              refine bk_if (b := false) (evt_test (EvR.to (ev_isNone evW) rfl)) (fun h => nomatch h) fun _ => bk_end (st_seti (ds := t'.map ktP) (d := ktP (y0.1, v, wr.grd)) rfl (ev_tup (eva_cons evK (eva_cons (ev_tup (eva_cons evW (eva_cons evG eva_nil)) (by show 2 ≤ 1000; decide)) eva_nil)) (by show 2 ≤ 1000; decide)) (ktP_flat _) evJ (by rw [List.length_map]; exact jl)) ⟨_, ?_, rfl⟩
              rw [show doW t' (y0.1, some v, wr.grd) = putE t' y0.1 (v, wr.grd) from rfl, putE_at _ ok'.nd ey0, map_setP]
              exact (wk_of (by repeat' first | exact trivial | refine ⟨.inr rfl, ?_⟩ | refine ⟨.inl rfl, ?_⟩))
          · rw [decide_eq_false km] at evN
            cases ev : wr.val with
            | none =>
              rw [ev] at evW
              refine bk_ifS (b := true) (evt_orB (b := false) (evt_test (EvR.to (ev_isNone evK) rfl)) (fun _ => evt_and (b := true) (evt_test evN) (fun _ => evt_test (EvR.to (ev_isNone evW) rfl)) fun h => nomatch h) fun h => nomatch h) (fun _ => bk_contS ⟨_, ?_, rfl⟩) fun h => nomatch h
              rw [show doW t' (ky, none, wr.grd) = t'.filter (fun p => decide (p.1 ≠ ky)) from rfl, filter_all km]
              exact (wk_of (by repeat' first | exact trivial | refine ⟨.inr rfl, ?_⟩ | refine ⟨.inl rfl, ?_⟩))
            | some v =>
              rw [ev] at evW
              refine bk_ifS (b := false) (evt_orB (b := false) (evt_test (EvR.to (ev_isNone evK) rfl)) (fun _ => evt_and (b := true) (evt_test evN) (fun _ => evt_test (EvR.to (ev_isNone evW) rfl)) fun h => nomatch h) fun h => nomatch h) (fun h => nomatch h) fun _ => bk_nextS ?_
              refine bk_if (b := true) (evt_test evN) (fun _ => bk_end (st_app (ds := t'.map ktP) (d := ktP (ky, v, wr.grd)) rfl (ev_tup (eva_cons evK (eva_cons (ev_tup (eva_cons evW (eva_cons evG eva_nil)) (by show 2 ≤ 1000; decide)) eva_nil)) (by show 2 ≤ 1000; decide)) (ktP_flat _) (by omega)) ⟨_, ?_, rfl⟩) fun h => nomatch h
              rw [show doW t' (ky, some v, wr.grd) = putE t' ky (v, wr.grd) from rfl, putE_new km, List.map_append]
              exact (wk_of (by repeat' first | exact trivial | refine ⟨.inr rfl, ?_⟩ | refine ⟨.inl rfl, ?_⟩))
    · subst e
      rw [List.length_map, List.take_length]
      exact bk_retL (i := 2) rfl rfl
theorem evf_visited {ρ : Rho} {a b : TE} {t : Tab} {p : Pg} (h : EvR K a ρ (.list (t.map ktP))) (g : EvR K b ρ p.py) (ft : KtOk t) (hl : t.length ≤ 500) (fp : pgFit p) : EvF K (tCall (spVisP K) [] E0 (tCons a (tCons b tNil))) ρ ((doWs t (takenP p)).map ktP) := fun sg H en Q q =>
  h sg H en _ fun H1 v k1 hv => g sg H1 (en.same k1) _ fun H2 w k2 hw => ⟨v, w, t, p, rfl, Da.same k2 _ _ hv, ft, hl, hw, fp, fun H3 L xs s3 nL hL hd => q H3 L xs ((k1.trans k2).trans s3) (none_of (k1.trans k2) nL) hL hd⟩
theorem tabOk {s : List Pg} (fs : siteFit s) (row : List Nat) : KtOk (rowTab s [] row) := ⟨rowTab_nodup s row [] List.nodup_nil, tab_fit fs row⟩
/-- numbers in a tuple or a list -/
def SeqD (K : PySem.W.Frag) (H : Hp) (v : V) (ds : List PyData) : Prop := Da K H v (.tuple ds) ∨ Da K H v (.list ds)
theorem it_seqT {r : List Sl} {S : Option Sx} {i : Nat} {ds : List PyData} (h : r[i]? = some (.da (.tuple ds))) : ItM K S r (iSeq K (tVar i)) ds := fun H0 A H sg R e q => by
  obtain ⟨v, h1, h2⟩ := e.at_ i _ h
  cases h2 with
  | @tup a xs _ g1 g2 g3 =>
    have len := DaAll.len g2
    refine ⟨.ref a, h1, a, rfl, Or.inr ⟨⟨xs, sqT_same mask_same g1⟩, q (Itt K a) _ (YAt xs) H (Same.refl H) (len ▸ walk_tup (xs := xs)) (fun A2 H2 s => sqT_same (s.trans mask_same) g1) fun i H2 x H3 A2 hi s hd y => ?_⟩⟩
    obtain ⟨rfl, ex⟩ := y
    obtain ⟨d, ed, hdd⟩ := DaAll.get g2 ex
    exact ⟨Same.refl _, d, ed, Da.same s _ _ hdd⟩
theorem it_seqL {r : List Sl} {S : Option Sx} {i : Nat} {ds : List PyData} (h : r[i]? = some (.da (.list ds))) : ItM K S r (iSeq K (tVar i)) ds := fun H0 A H sg R e q => by
  obtain ⟨v, h1, h2⟩ := e.at_ i _ h
  cases h2 with
  | @lst a xs _ g1 g2 g3 =>
    have len := DaAll.len g2
    refine ⟨.ref a, h1, a, rfl, Or.inl ⟨⟨xs, mask_same.seq g1⟩, q (Itl K a) _ (YAt xs) H (Same.refl H) (len ▸ walk_list (xs := xs)) (fun A2 H2 s => (s.trans mask_same).seq g1) fun i H2 x H3 A2 hi s hd y => ?_⟩⟩
    obtain ⟨rfl, ex⟩ := y
    obtain ⟨d, ed, hdd⟩ := DaAll.get g2 ex
    exact ⟨Same.refl _, d, ed, Da.same s _ _ hdd⟩
def natD (n : Nat) : PyData := .int (n : Nat)
def spBehP (K : PySem.W.Frag) : Sp := fun vs H Q _ => ∃ v u s row, vs = [v, u] ∧ Da K H v (sitePy s) ∧ siteFit s ∧ SeqD K H u (row.map natD) ∧ (∀ n ∈ row, n < s.length) ∧
  ∀ H' L xs, Same H H' → H L = none → H' L = some (.lst xs) → DaAll K H' xs ((rowTab s [] row).map ktP) → Q (.ref L) H'
theorem ok_law_behindP (T : Txt K mg) : Ok P w K mg base "_law_behind" P__law_behind 3 (spBehP K) := by
  have ok__law_visited : Ok P w K mg base "_law_visited" P__law_visited 2 (spVisP K) := ok_law_visitedP T
  refine T.d__law_behind.ok sc__law_behind (fun vs H Q E h => ?_) (fun f cdv A out s H vs Q E hr h => ?_)
  · obtain ⟨v, u, s, row, rfl, _⟩ := h
    rfl
  · obtain ⟨v, u, si, row, rfl, hv, fs, hu, hrow, q⟩ := h
    refine ⟨_, (pss_cons (ps_set (i := 2) sc__law_behind.nd rfl (Or.inl rfl) (pe_lst pa_nil))
    (pss_cons (ps_for PassesOwn.never rfl (pi_seq (pv 1)) (pg_name (i := 3) sc__law_behind.nd rfl (Or.inl rfl)) (pss_one (ps_set (i := 2) sc__law_behind.nd rfl (Or.inl rfl) (pe_ok ok__law_visited (hr.mono (by decide)) (pa_cons (pv 2) (pa_cons (pe_ix ix_tup (pv 0) (pv 3) (fun _ _ => rfl)) pa_nil))))))
    (pss_one (ps_ret (pv 2))))), ?_⟩
    have body : ∀ x, (x = .tuple (row.map natD) ∨ x = .list (row.map natD)) → Da K H u x → ItM K none (([.da (sitePy si), .da x, .no, .no] : List Sl).set 2 (.ow [])) (iSeq K (tVar 1)) (row.map natD) → tSeq (tAsg (tLst tNil) (gName 2)) (tSeq (tFor (iSeq K (tVar 1)) (gName 3) (tAsg (tCall (spVisP K) [] E0 (tCons (tVar 2) (tCons (tOp (rIxT K) (tVar 0) (tVar 3)) tNil))) (gName 2))) (tRet (tVar 2))) { nx := fun _ H' => Q .non H', rt := Q } [some v, some u, none, none] H := fun x _ hx hit => by
      refine bk_run (K := K) (r := [.da (sitePy si), .da x, .no, .no]) (P := ⟨fun _ => False, fun _ => False, fun _ => False, fun y _ => y = .lst ((rowTab si [] row).map ktP)⟩) (N := fun H' => Q .non H') ?_ ⟨hold_da hv, hold_da hx, trivial, trivial, trivial⟩ trivial (fun _ h => h) (fun _ h => h) (fun _ h => h.elim) (fun y r' h => by subst h; exact q)
      refine bk_then (st_nw (nw_ev (evf_lst eva_nil (by decide)) rfl)) ?_
      refine bk_seq (bk_for hit (fun i r1 => r1 = [.da (sitePy si), .da x, .ow ((rowTab si [] (row.take i)).map ktP), .no]) ⟨_, Wk.refl _, rfl⟩ (fun i r1 d hd e => ?_) (fun r1 e => ?_))
      · subst e
        obtain ⟨n, hn, rfl⟩ := map_at hd
        have nl := hrow n (List.mem_of_getElem? hn)
        obtain ⟨p, ep⟩ : ∃ p, si[n]? = some p := ⟨si[n], List.getElem?_eq_getElem nl⟩
        have lt := tab_len fs (row.take i)
        refine ⟨_, tg_name, bk_end (st_nw (nw_ev (evf_visited (t := rowTab si [] (row.take i)) (p := p) (ev_own rfl (by rw [List.length_map]; omega)) (ev_ixT (ds := si.map Pg.py) (i := n) (ev_var rfl) (ev_var rfl) (by rw [List.getElem?_map, ep]; rfl)) (tabOk fs _) (by omega) (fs.2.2 p (List.mem_of_getElem? ep))) (kts_flatP _))) ⟨_, ?_, rfl⟩⟩
        rw [List.take_add_one, hn, show (some n).toList = [n] from rfl, rowTab_snoc si [] (row.take i) n p ep]
        exact (wk_of (by repeat' first | exact trivial | refine ⟨.inr rfl, ?_⟩ | refine ⟨.inl rfl, ?_⟩))
      · subst e
        rw [List.length_map, List.take_length]
        exact bk_retL (i := 2) rfl rfl
    rcases hu with hu | hu
    · exact body _ (.inl rfl) hu (it_seqT rfl)
    · exact body _ (.inr rfl) hu (it_seqL rfl)
end
end S1
namespace S1
open PySem PySem.Spec PyProof.Rows L2 Jv
theorem da_either {K : PySem.W.Frag} {H : Hp} {v : V} {s : List Pg} (h : Da K H v (.list (s.map Pg.py)) ∨ Da K H v (sitePy s)) : ∃ a ps, v = .ref a ∧ (SqL K H a ps ∨ SqT K H a ps) ∧ ps.length = s.length ∧ DaAll K H ps (s.map Pg.py) := by
  rcases h with h | h
  · cases h with
    | lst h1 h2 _ => exact ⟨_, _, rfl, .inl h1, by rw [DaAll.len h2, List.length_map], h2⟩
  · obtain ⟨b, xs, e, h1, nl, h2⟩ := da_seq h
    exact ⟨b, xs, e, .inr h1, nl, h2⟩
section
variable {P : Program} {w : World} {K : PySem.W.Frag} {mg : Str → Option Value} {base : Heap}
/-- the keys of pages in a list or a tuple -/
def spLKeysS (K : PySem.W.Frag) : Sp := fun vs H Q _ => ∃ v s, vs = [v] ∧ (Da K H v (.list (s.map Pg.py)) ∨ Da K H v (sitePy s)) ∧ (s.length ≤ 5 ∧ ∀ p ∈ s, pgFit p) ∧ ∀ H' t as ls, Same H H' → H t = none → H' t = some (.lst (as.map V.ref)) → KyAll K H' as (kySort ls) → ls.Nodup → (∀ k, k ∈ ls ↔ k ∈ siteTw s) → ls.length ≤ 25 → Q (.ref t) H'
theorem ok_law_keysS (T : Txt K mg) : Ok P w K mg base "_law_keys" P__law_keys 2 (spLKeysS K) := by
  have ok__law_key : Ok P w K mg base "_law_key" P__law_key 1 (spLKey K) := ok_law_key T
  refine T.d__law_keys.ok sc__law_keys (fun vs H Q E h => ?_) (fun f cdv A out s H vs Q E hr h => ?_)
  · obtain ⟨v, p, rfl, _⟩ := h
    rfl
  · obtain ⟨v, si, rfl, hp, fs, q⟩ := h
    refine ⟨_, (pss_cons (ps_set (i := 1) sc__law_keys.nd rfl (Or.inl rfl) pe_dnewN)
    (pss_cons (ps_for PassesOwn.never rfl (pi_seq (pv 0)) (pg_name (i := 2) sc__law_keys.nd rfl (Or.inl rfl)) (pss_one (ps_for PassesOwn.never rfl (pi_tup (pe_ix ix_tup (pv 2) pe_int (fun _ _ => rfl))) (pg_name (i := 3) sc__law_keys.nd rfl (Or.inl rfl)) (pss_cons (ps_set (i := 4) sc__law_keys.nd rfl (Or.inl rfl) (pe_ok ok__law_key (hr.mono (by decide)) (pa_cons (pv 2) (pa_cons (pv 3) pa_nil))))
        (pss_one (ps_if (pt_cmpR op_notN (pv 4) pe_non (nomark _)) (pss_one (ps_asg pe_bl (pg_sub (pv 1) (pv 4) (show PSet _ (rNput K P w) from set_nd (hn_of hr))))) pss_nil))))))
    (pss_one (ps_ret (pe_callB (show CallR _ _ (rSortD K P w) from cr_sortD rfl (hb_of hr)) (by rfl) T.z_sorted (by decide +kernel) (pa_cons (pv 1) pa_nil)))))), ?_⟩
    intro F nF
    have s0 : Same H (upd H F (NdO P w F [])) := same_new nF
    obtain ⟨a, ps, rfl, h1, nl1, h2⟩ := da_either hp
    refine ⟨.ref a, rfl, a, rfl, ?_⟩
    rcases h1 with h1 | h1
    case' inl => refine .inl ⟨⟨ps, s0.seq h1⟩, for_it (walk_list (xs := ps)) (fun i σ H' => (∃ x y z, σ = [some (.ref a), some (.ref F), x, y, z]) ∧ Same H H' ∧ KeysAre K P w H' F (siteTw (si.take i)) (5 * i)) ⟨⟨_, _, _, rfl⟩, s0, [], nd_new, List.nodup_nil, fun k => Iff.rfl, Nat.zero_le _⟩ (fun i σ H' hi pv => pv.2.1.seq h1) (fun i u σ H5 H6 hlt pv yy => ?_) fun σ H5 pv => ?_⟩
    case' inr => refine .inr ⟨⟨ps, sqT_same s0 h1⟩, for_it (walk_tup (xs := ps)) (fun i σ H' => (∃ x y z, σ = [some (.ref a), some (.ref F), x, y, z]) ∧ Same H H' ∧ KeysAre K P w H' F (siteTw (si.take i)) (5 * i)) ⟨⟨_, _, _, rfl⟩, s0, [], nd_new, List.nodup_nil, fun k => Iff.rfl, Nat.zero_le _⟩ (fun i σ H' hi pv => sqT_same pv.2.1 h1) (fun i u σ H5 H6 hlt pv yy => ?_) fun σ H5 pv => ?_⟩
    · obtain ⟨⟨y1, y2, y3, rfl⟩, sB, kB⟩ := pv
      obtain ⟨rfl, e1⟩ := yy
      obtain ⟨p, e2, dp⟩ := da_nth h2 e1
      have ilt : i < ps.length := hlt
      have fp := fs.2 p (List.mem_of_getElem? e2)
      have l5 := fp.len
      have step : siteTw (si.take (i + 1)) = siteTw (si.take i) ++ (takenL p.ad p.ws).map (·.1) := by
        rw [List.take_add_one, e2]
        exact siteTw_snoc _ _
      obtain ⟨b, x, y, rfl, p1, p2, p3⟩ := da_pg dp
      obtain ⟨c, xs, rfl, h4, nl, h5⟩ := da_seq p3
      refine ⟨.ref b, rfl, b, _, 1, .ref c, rfl, rfl, sqT_same sB p1, rfl, c, rfl, ⟨xs, sqT_same sB h4⟩, for_it (walk_tup (xs := xs)) (fun j σ H' => (∃ x y, σ = [some (.ref a), some (.ref F), some (.ref b), x, y]) ∧ Same H H' ∧ KeysAre K P w H' F (siteTw (si.take i) ++ (takenL p.ad (p.ws.take j)).map (·.1)) (5 * i + j))
        ⟨⟨_, _, rfl⟩, sB, ?_⟩ (fun j σ H' hj pv => sqT_same pv.2.1 h4) (fun j u' σ H7 H8 jlt pv yy => ?_) fun σ H7 pv => ?_⟩
      · show KeysAre K P w _ F (siteTw (si.take i) ++ []) (5 * i)
        rw [List.append_nil]
        exact kB
      · obtain ⟨⟨y1, y2, rfl⟩, sC, kC⟩ := pv
        obtain ⟨rfl, g1⟩ := yy
        obtain ⟨wr, g2, hw⟩ := da_nth h5 g1
        have st := takenL_step (a := p.ad) g2
        have jl : j < xs.length := jlt
        refine ⟨.ref b, rfl, u', rfl, .ref b, u', p, wr, rfl, Da.same sC _ _ dp, Da.same sC _ _ hw, fp, fp.2 wr (List.mem_of_getElem? g2), fun ht H9 s9 => ?_, fun ht H9 k s9 ka => ?_⟩
        · rw [ht] at st
          obtain ⟨kvs, nd, nn, hk, kl⟩ := kC
          refine ⟨.non, rfl, rfl, _, rfl, iteF ⟨⟨_, _, rfl⟩, sC.trans s9, kvs, nd.same s9, nn, fun k' => ?_, Nat.le_succ_of_le kl⟩⟩
          rw [st, hk k']
          simp
        · rw [ht] at st
          have k9 : KeysAre K P w H9 F (siteTw (si.take i) ++ (takenL p.ad (p.ws.take j)).map (·.1)) (5 * i + j) := by
            obtain ⟨kvs, nd, r⟩ := kC
            exact ⟨kvs, nd.same s9, r⟩
          refine ⟨.ref k, rfl, rfl, _, rfl, iteT ⟨.ref F, rfl, .ref k, rfl, k9.put ka (by have := fs.1; omega) fun H10 t10 hb10 kk => ⟨⟨_, _, rfl⟩, fun b' o eb => ?_, ?_⟩⟩⟩
          · have nb : b' ≠ F := by
              rintro rfl
              rw [nF] at eb
              cases eb
            rw [hb10 b' nb]
            exact (sC.trans s9) _ _ eb
          · rw [st]
            rw [List.append_assoc] at kk
            rw [Nat.add_assoc] at kk
            simpa using kk
      · obtain ⟨⟨y1, y2, rfl⟩, sC, kC⟩ := pv
        rw [nl, List.take_length] at kC
        refine ⟨⟨_, _, _, rfl⟩, sC, ?_⟩
        rw [step]
        obtain ⟨kvs, nd, nn, hk, kl⟩ := kC
        exact ⟨kvs, nd, nn, hk, by omega⟩
    · obtain ⟨⟨y1, y2, y3, rfl⟩, sB, kvs, nd, nn, hk, kl⟩ := pv
      rw [nl1, List.take_length] at hk
      have := fs.1
      refine ⟨.ref F, rfl, F, kvs, rfl, nd, by omega, fun q' as kall nq => ?_⟩
      have sq : Same H5 (upd H5 q' (.lst (as.map V.ref))) := same_new nq
      have nq0 : H q' = none := by
        cases z : H q' with
        | none => rfl
        | some o =>
          rw [sB _ _ z] at nq
          cases nq
      exact q _ q' as (kvs.map (·.1)) (sB.trans sq) nq0 upd_same (kall.same sq) nn hk (by rw [List.length_map]; omega)
    · obtain ⟨⟨y1, y2, y3, rfl⟩, sB, kB⟩ := pv
      obtain ⟨rfl, e1⟩ := yy
      obtain ⟨p, e2, dp⟩ := da_nth h2 e1
      have ilt : i < ps.length := hlt
      have fp := fs.2 p (List.mem_of_getElem? e2)
      have l5 := fp.len
      have step : siteTw (si.take (i + 1)) = siteTw (si.take i) ++ (takenL p.ad p.ws).map (·.1) := by
        rw [List.take_add_one, e2]
        exact siteTw_snoc _ _
      obtain ⟨b, x, y, rfl, p1, p2, p3⟩ := da_pg dp
      obtain ⟨c, xs, rfl, h4, nl, h5⟩ := da_seq p3
      refine ⟨.ref b, rfl, b, _, 1, .ref c, rfl, rfl, sqT_same sB p1, rfl, c, rfl, ⟨xs, sqT_same sB h4⟩, for_it (walk_tup (xs := xs)) (fun j σ H' => (∃ x y, σ = [some (.ref a), some (.ref F), some (.ref b), x, y]) ∧ Same H H' ∧ KeysAre K P w H' F (siteTw (si.take i) ++ (takenL p.ad (p.ws.take j)).map (·.1)) (5 * i + j))
        ⟨⟨_, _, rfl⟩, sB, ?_⟩ (fun j σ H' hj pv => sqT_same pv.2.1 h4) (fun j u' σ H7 H8 jlt pv yy => ?_) fun σ H7 pv => ?_⟩
      · show KeysAre K P w _ F (siteTw (si.take i) ++ []) (5 * i)
        rw [List.append_nil]
        exact kB
      · obtain ⟨⟨y1, y2, rfl⟩, sC, kC⟩ := pv
        obtain ⟨rfl, g1⟩ := yy
        obtain ⟨wr, g2, hw⟩ := da_nth h5 g1
        have st := takenL_step (a := p.ad) g2
        have jl : j < xs.length := jlt
        refine ⟨.ref b, rfl, u', rfl, .ref b, u', p, wr, rfl, Da.same sC _ _ dp, Da.same sC _ _ hw, fp, fp.2 wr (List.mem_of_getElem? g2), fun ht H9 s9 => ?_, fun ht H9 k s9 ka => ?_⟩
        · rw [ht] at st
          obtain ⟨kvs, nd, nn, hk, kl⟩ := kC
          refine ⟨.non, rfl, rfl, _, rfl, iteF ⟨⟨_, _, rfl⟩, sC.trans s9, kvs, nd.same s9, nn, fun k' => ?_, Nat.le_succ_of_le kl⟩⟩
          rw [st, hk k']
          simp
        · rw [ht] at st
          have k9 : KeysAre K P w H9 F (siteTw (si.take i) ++ (takenL p.ad (p.ws.take j)).map (·.1)) (5 * i + j) := by
            obtain ⟨kvs, nd, r⟩ := kC
            exact ⟨kvs, nd.same s9, r⟩
          refine ⟨.ref k, rfl, rfl, _, rfl, iteT ⟨.ref F, rfl, .ref k, rfl, k9.put ka (by have := fs.1; omega) fun H10 t10 hb10 kk => ⟨⟨_, _, rfl⟩, fun b' o eb => ?_, ?_⟩⟩⟩
          · have nb : b' ≠ F := by
              rintro rfl
              rw [nF] at eb
              cases eb
            rw [hb10 b' nb]
            exact (sC.trans s9) _ _ eb
          · rw [st]
            rw [List.append_assoc] at kk
            rw [Nat.add_assoc] at kk
            simpa using kk
      · obtain ⟨⟨y1, y2, rfl⟩, sC, kC⟩ := pv
        rw [nl, List.take_length] at kC
        refine ⟨⟨_, _, _, rfl⟩, sC, ?_⟩
        rw [step]
        obtain ⟨kvs, nd, nn, hk, kl⟩ := kC
        exact ⟨kvs, nd, nn, hk, by omega⟩
    · obtain ⟨⟨y1, y2, y3, rfl⟩, sB, kvs, nd, nn, hk, kl⟩ := pv
      rw [nl1, List.take_length] at hk
      have := fs.1
      refine ⟨.ref F, rfl, F, kvs, rfl, nd, by omega, fun q' as kall nq => ?_⟩
      have sq : Same H5 (upd H5 q' (.lst (as.map V.ref))) := same_new nq
      have nq0 : H q' = none := by
        cases z : H q' with
        | none => rfl
        | some o =>
          rw [sB _ _ z] at nq
          cases nq
      exact q _ q' as (kvs.map (·.1)) (sB.trans sq) nq0 upd_same (kall.same sq) nn hk (by rw [List.length_map]; omega)
end
end S1
namespace S1
open PySem PySem.Spec PyProof.Rows L2 Jv
theorem lay_strs {xs : List Str} (h : okStrs xs) : PyData.canLay0 (.tuple (xs.map .str)) = true ∧ (PyData.tuple (xs.map .str)).depth ≤ 1 := by
  refine ⟨canLay_strs xs h, ?_⟩
  show PyData.depthAll (xs.map .str) + 1 ≤ 1
  rw [depth_strs]
  exact Nat.le_refl _
theorem lay_optT {o : Option (List Str)} (h : ∀ d, o = some d → okStrs d) : (optT o).canLay0 = true ∧ (optT o).depth ≤ 1 := by
  cases o with
  | none => exact ⟨rfl, Nat.zero_le _⟩
  | some d => exact lay_strs (h d rfl)
theorem wr_lay {wr : Wr} (h : wrFit wr) : wr.py.canLay0 = true ∧ wr.py.depth ≤ 2 := by
  obtain ⟨h1, h2⟩ := h
  unfold wrShape at h1
  rw [Bool.and_eq_true, Bool.and_eq_true] at h1
  obtain ⟨⟨a1, a2⟩, a3⟩ := h1
  obtain ⟨d1, d2⟩ := lay_optT (o := wr.dom) fun d e => by
    rw [e] at a2
    exact okT_strs a2
  obtain ⟨f1, f2⟩ := lay_optT (o := wr.fold) fun d e => by
    rw [e] at a3
    exact okT_strs a3
  have v : (optS wr.val).canLay0 = true ∧ (optS wr.val).depth = 0 := by
    cases e : wr.val with
    | none => exact ⟨rfl, rfl⟩
    | some x => exact ⟨okW_str sgs_low (h2 x e), rfl⟩
  constructor
  · show (PyData.strOk wr.name && ((optS wr.val).canLay0 && ((optT wr.dom).canLay0 && ((optT wr.fold).canLay0 && (true && true))))) = true
    rw [okW_str lts_low a1, v.1, d1, f1]
    rfl
  · show max 0 (max (optS wr.val).depth (max (optT wr.dom).depth (max (optT wr.fold).depth (max 0 0)))) + 1 ≤ 2
    rw [v.2]
    omega
theorem layAll_of {ds : List PyData} (h : ∀ d ∈ ds, d.canLay0 = true) : PyData.canLayAll0 ds = true := by
  induction ds with
  | nil => rfl
  | cons d ds ih =>
    rw [PyData.canLayAll0, h d List.mem_cons_self, ih fun e he => h e (List.mem_cons_of_mem _ he)]
    rfl
theorem depthAll_of {B : Nat} : ∀ {ds : List PyData}, (∀ d ∈ ds, d.depth ≤ B) → PyData.depthAll ds ≤ B
  | [], _ => Nat.zero_le _
  | d :: ds, h => by
    rw [depth_mono]
    have h1 := h d List.mem_cons_self
    have h2 := depthAll_of fun e he => h e (List.mem_cons_of_mem _ he)
    omega
theorem pg_lay {p : Pg} (h : pgFit p) : PyData.canLay0 p.py = true ∧ p.py.depth ≤ 4 := by
  have h1 := h.1
  unfold pgShape at h1
  rw [Bool.and_eq_true, Bool.and_eq_true, Bool.and_eq_true] at h1
  obtain ⟨⟨⟨a1, a2⟩, _⟩, _⟩ := h1
  obtain ⟨b1, b2⟩ := lay_strs (okT_strs a1)
  obtain ⟨c1, c2⟩ := lay_strs (okT_strs a2)
  have l : PyData.canLayAll0 (p.ws.map Wr.py) = true := layAll_of fun d hd => by
    obtain ⟨wr, hw, rfl⟩ := List.mem_map.mp hd
    exact (wr_lay (h.2 wr hw)).1
  have e : PyData.depthAll (p.ws.map Wr.py) ≤ 2 := depthAll_of fun d hd => by
    obtain ⟨wr, hw, rfl⟩ := List.mem_map.mp hd
    exact (wr_lay (h.2 wr hw)).2
  constructor
  · show ((PyData.canLay0 (.tuple (p.ad.host.map .str)) && (PyData.canLay0 (.tuple (p.ad.path.map .str)) && (true && true))) && (PyData.canLayAll0 (p.ws.map Wr.py) && true)) = true
    rw [b1, c1, l]
    rfl
  · show max (max (PyData.tuple (p.ad.host.map .str)).depth (max (PyData.tuple (p.ad.path.map .str)).depth (max 0 0)) + 1) (max (PyData.depthAll (p.ws.map Wr.py) + 1) 0) + 1 ≤ 4
    omega
theorem pages_shaped {ps : List Pg} (h : ∀ p ∈ ps, pgFit p) : SeqAt.shaped (.list (ps.map Pg.py)) = true := by
  show (PyData.canLayAll0 (ps.map Pg.py) && decide (PyData.depthAll (ps.map Pg.py) + 1 ≤ 64)) = true
  rw [layAll_of fun d hd => by
    obtain ⟨p, hp, rfl⟩ := List.mem_map.mp hd
    exact (pg_lay (h p hp)).1, Bool.true_and]
  have e : PyData.depthAll (ps.map Pg.py) ≤ 4 := depthAll_of fun d hd => by
    obtain ⟨p, hp, rfl⟩ := List.mem_map.mp hd
    exact (pg_lay (h p hp)).2
  exact decide_eq_true (by omega)
def pg0 : Pg := ⟨⟨["b", "c"], [], true⟩, []⟩
theorem pg0_fit : pgFit pg0 := ⟨by decide +kernel, fun wr hw => by cases hw⟩
/-- at most six keys -/
def fewKeys (s : List Pg) : Prop := ∃ ls : List Ky, ls.Nodup ∧ (∀ k, k ∈ ls ↔ k ∈ siteTw s) ∧ ls.length ≤ 6
section
variable {P : Program} {w : World} {K : PySem.W.Frag} {mg : Str → Option Value} {base : Heap}
def spPage (K : PySem.W.Frag) : Sp := fun vs H Q _ => ∃ (d l c : Addr) (n : Int), vs = [.ref d] ∧ St H d l c n ∧ n < 2 ^ 48 ∧ ∀ (H' : Hp) (v : V) (p : Pg), But d l H H' → St H' d l c (n + 30) → pgFit p → Da K H' v p.py → Q v H'
theorem ok_law_page (T : Txt K mg) : Ok P w K mg base "_law_page" P__law_page 5 (spPage K) := by
  have ok__law_draw : Ok P w K mg base "_law_draw" P__law_draw 2 spDraw := ok_law_draw T
  have ok__law_path : Ok P w K mg base "_law_path" P__law_path 3 (spOneOf K pathsM) := ok_law_path T
  have ok__law_host : Ok P w K mg base "_law_host" P__law_host 3 (spOneOf K hostsM) := ok_law_host T
  have ok__law_write : Ok P w K mg base "_law_write" P__law_write 4 (spWrite K) := ok_law_write T
  refine T.d__law_page.ok sc__law_page (fun vs H Q E h => ?_) (fun f cdv A out s H vs Q E hr h => ?_)
  · obtain ⟨d, l, c, n, rfl, _⟩ := h
    rfl
  · obtain ⟨d, l, c, n, rfl, hS, hn, q⟩ := h
    refine ⟨_, (pss_cons (ps_set (i := 1) sc__law_page.nd rfl (Or.inr rfl) (pe_ok ok__law_host (hr.mono (by decide)) (pa_cons (pv 0) pa_nil)))
    (pss_cons (ps_setLc (i := 2) (own := [("k", 3)]) (g := gName 3) (tt := tYes) rfl sc__law_page.nd rfl rfl (sw_true rfl rfl rfl (by decide +kernel)) (pi_range1 (by rfl) T.z_range (pa_cons (pe_op op_add pe_int (pe_ok ok__law_draw (hr.mono (by decide)) (pa_cons (pv 0) (pa_cons pe_int pa_nil)))) pa_nil)) (blkOk_by (N := N__law_page) (sc := defScope st__law_page) (by decide +kernel)) (fun _ _ _ _ _ => pg_name (i := 3) sc__law_page.nd rfl (Or.inl rfl)) (fun _ _ _ _ _ => pts_nil) (fun _ _ _ _ _ => (pe_ok ok__law_write (hr.mono (by decide)) (pa_cons (pv 0) (pa_cons (pv 1) pa_nil)))))
    (pss_one (ps_ret (pe_tup (pa_cons (pe_tup (pa_cons (pv 1) (pa_cons (pe_ok ok__law_path (hr.mono (by decide)) (pa_cons (pv 0) pa_nil)) (pa_cons (pe_cmpR op_gt (pe_ok ok__law_draw (hr.mono (by decide)) (pa_cons (pv 0) (pa_cons pe_int pa_nil))) pe_int (nomark _)) pa_nil)))) (pa_cons (pe_callTy call_tuple_of (by rfl) T.z_tuple (by decide +kernel) (pa_cons (pv 2) pa_nil)) pa_nil))))))), ?_⟩
    refine ⟨.ref d, rfl, d, l, c, _, rfl, hS, by omega, fun H3 xh host b3 S3 hh dh => ?_⟩
    have t3 := b3.tupS hS
    refine ⟨.ref d, rfl, d, l, c, _, 3, rfl, S3, by omega, by decide, by decide, fun H4 z b4 S4 z1 z2 => ⟨1, z, rfl, rfl, 1 + z, rfl, by omega, by omega, fun D nD => ?_⟩⟩
    have t4 := b4.tupS S3
    have dh4 := Da.tupS t4 _ _ (flat_strs host) dh
    obtain ⟨e1, e2, e3⟩ := S4.fresh nD
    obtain ⟨mz, hmz⟩ : ∃ mz : Nat, 1 + z = mz := ⟨(1 + z).toNat, by omega⟩
    rw [hmz]
    refine lc_map walk_range (fun j acc G => But d l H4 G ∧ St G d l c (n + 2 + 6 * j) ∧ ∃ ws : List Wr, DaAll K G acc (ws.map Wr.py) ∧ ws.length = j ∧ ∀ w ∈ ws, wrFit w)
      ⟨Same.but (same_new nD), (S4.upd ⟨e1, e2, e3⟩).mono (by omega), [], .nil, rfl, fun w hw => by cases hw⟩ (fun _ _ _ _ _ _ => trivial) (fun _ => rfl) (fun j acc G hj g => ?_) (fun j x acc G G' hj g dG y kk hkk => ?_) (fun acc G g dG => ?_)
    · obtain ⟨_, _, ws, h1, h2, _⟩ := g
      rw [DaAll.len h1, List.length_map]
      exact Nat.lt_of_lt_of_le (show ws.length < 100 by omega) (by decide)
    · obtain ⟨bG, SG, ws, h1, h2, h3⟩ := g
      obtain ⟨rfl, rfl⟩ := y
      have tG := bG.tupS S4
      refine ⟨.ref d, rfl, xh, rfl, d, l, c, _, xh, host, rfl, SG, by omega, hh, Da.tupS tG _ _ (flat_strs host) dh4, fun G1 u w bw Sw fw dw => ?_⟩
      have dG1 : G1 D = some (.lst acc) := bw D _ e1 e2 dG
      have up : TupS G1 (upd G1 D (.lst (acc ++ [u]))) := tupS_lst dG1
      refine hkk _ _ dG1 ⟨fun b' o' n1 n2 eb => ?_, (Sw.upd ⟨e1, e2, e3⟩).mono (by omega), ws ++ [w], ?_, by rw [List.length_append, h2]; rfl, fun w' hw' => ?_⟩
      · rw [upd_ne (ne_of_none eb nD)]
        exact (bG.trans bw) b' o' n1 n2 eb
      · rw [List.map_append]
        exact DaAll.app (DaAll.tupS ((bw.tupS SG).trans up) _ _ (flatAll_map ws wr_flat) h1) (.cons (Da.tupS up _ _ (wr_flat w) dw) .nil)
      · rcases List.mem_append.mp hw' with hw' | hw'
        · exact h3 w' hw'
        · rw [List.mem_singleton.mp hw']
          exact fw
    · obtain ⟨bG, SG, ws, h1, h2, h3⟩ := g
      have tG := bG.tupS S4
      refine ⟨xh, rfl, .ref d, rfl, d, l, c, _, rfl, SG, by omega, fun H6 vp path b6 S6 hp dp => ⟨.ref d, rfl, d, l, c, _, 4, rfl, S6, by omega, by decide, by decide, fun H7 zz b7 S7 zz1 zz2 => ⟨zz, 0, rfl, rfl, by show 3 ≤ sizeLine; decide, fun pa npa => ?_⟩⟩⟩
      have t6 := b6.tupS SG
      have t7 := b7.tupS S6
      have hD7 : H7 D = some (.lst acc) := b7 D _ e1 e2 (b6 D _ e1 e2 dG)
      have sa := same_new (o := HO.tup [xh, vp, .bl (decide (0 < zz))]) npa
      refine ⟨.ref D, rfl, D, acc, rfl, Or.inl ⟨SqL.of (sa _ _ hD7), fun pt npt => ⟨by show 2 ≤ sizeLine; decide, fun pp npp => ?_⟩⟩⟩
      have st := same_new (o := HO.tup acc) npt
      have sp := same_new (o := HO.tup [V.ref pa, V.ref pt]) npp
      have s9 := (sa.trans st).trans sp
      have all7 := Same.tupS s9
      refine q _ _ ⟨⟨host, path, decide (0 < zz)⟩, ws⟩ ((((((b3.trans b4).trans bG).trans b6).trans b7)).trans (Same.but s9)) ((S7.same s9).mono (by omega)) (pg_fit hh hp (by omega) h3) ?_
      have q1 := ((tG.trans t6).trans t7).trans all7
      have q2 := t7.trans all7
      have q3 := (t6.trans t7).trans all7
      refine .tup (SqT.of upd_same) (.cons (.tup (SqT.of (sp _ _ (st _ _ upd_same))) (.cons (Da.tupS q1 _ _ (flat_strs host) dh4) (.cons (Da.tupS q2 _ _ (flat_strs path) dp) (.cons (.bl _) .nil))) (by show 3 ≤ 1000; decide)) (.cons (.tup (SqT.of (sp _ _ upd_same)) (DaAll.tupS q3 _ _ (flatAll_map ws wr_flat) h1) ?_) .nil)) (by show 2 ≤ 1000; decide)
      rw [List.length_map]
      show ws.length ≤ 1000
      omega
/-- a site of few keys -/
def spSiteD (K : PySem.W.Frag) : Sp := fun vs H Q _ => ∃ (d l c : Addr) (n most : Int), vs = [.ref d, .int most] ∧ 0 < most ∧ most ≤ 5 ∧ St H d l c n ∧ n < 2 ^ 47 ∧ ∀ (H' : Hp) (v : V) (s : List Pg), But d l H H' → St H' d l c (n + 160) → siteFit s → fewKeys s → Da K H' v (sitePy s) → Q v H'
theorem ok_law_site (T : Txt K mg) : Ok P w K mg base "_law_site" P__law_site 6 (spSiteD K) := by
  have ok__law_draw : Ok P w K mg base "_law_draw" P__law_draw 2 spDraw := ok_law_draw T
  have ok__law_page : Ok P w K mg base "_law_page" P__law_page 5 (spPage K) := ok_law_page T
  have ok__law_keys : Ok P w K mg base "_law_keys" P__law_keys 2 (spLKeysS K) := ok_law_keysS T
  refine T.d__law_site.ok sc__law_site (fun vs H Q E h => ?_) (fun f cdv A out s H vs Q E hr h => ?_)
  · obtain ⟨d, l, c, n, most, rfl, _⟩ := h
    rfl
  · obtain ⟨d, l, c, n, most, rfl, m1, m2, hS, hn, q⟩ := h
    refine ⟨_, (pss_cons (ps_set (i := 2) sc__law_site.nd rfl (Or.inl rfl) (pe_lst pa_nil))
    (pss_cons (ps_for PassesOwn.never rfl (pi_range1 (by rfl) T.z_range (pa_cons (pe_op op_add pe_int (pe_ok ok__law_draw (hr.mono (by decide)) (pa_cons (pv 0) (pa_cons (pv 1) pa_nil)))) pa_nil)) (pg_name (i := 3) sc__law_site.nd rfl (Or.inl rfl)) (pss_cons (ps_set (i := 4) sc__law_site.nd rfl (Or.inl rfl) (pe_ok ok__law_page (hr.mono (by decide)) (pa_cons (pv 0) pa_nil)))
      (pss_one (ps_if (pt_cmpR op_lt (pe_callB call_len (by rfl) T.z_len (by decide +kernel) (pa_cons (pe_ok ok__law_keys (hr.mono (by decide)) (pa_cons (pe_op op_cat (pv 2) (pe_lst (pa_cons (pv 4) pa_nil))) pa_nil)) pa_nil)) pe_int (nomark _)) (pss_one (ps_expr (pe_bm PySem.F.plainAttrs_list PySem.F.slot_list_append PySem.F.type_list_append mt_append (pv 2) (pa_cons (pv 4) pa_nil)))) pss_nil))))
    (pss_one (ps_ret (pe_ifExp (pt_cmpR (op_neA hr.units) (pv 2) (pe_lst pa_nil) (nomark _)) (pe_callTy call_tuple_of (by rfl) T.z_tuple (by decide +kernel) (pa_cons (pv 2) pa_nil)) (pe_tup (pa_cons (pe_tup (pa_cons (pe_tup (pa_cons (pe_tup (pa_cons pe_str (pa_cons pe_str pa_nil))) (pa_cons (pe_tup pa_nil) (pa_cons pe_bl pa_nil)))) (pa_cons (pe_tup pa_nil) pa_nil))) pa_nil))))))), ?_⟩
    refine ⟨Nat.zero_le _, fun o no => ?_⟩
    obtain ⟨od, ol, oc⟩ := hS.fresh no
    have s0 : Same H (upd H o (.lst [])) := same_new no
    refine ⟨.ref d, rfl, .int most, rfl, d, l, c, n, most, rfl, hS.same s0, by omega, m1, by omega, fun H1 i b1 S1 i1 i2 => ⟨1, i, rfl, rfl, 1 + i, rfl, by omega, by omega, ?_⟩⟩
    have ho1 : H1 o = some (.lst []) := b1 o _ od ol upd_same
    have B1 : But d l H H1 := (Same.but s0).trans b1
    obtain ⟨m, hm⟩ : ∃ m : Nat, 1 + i = m := ⟨(1 + i).toNat, by omega⟩
    rw [hm]
    refine for_it walk_range (fun k s' H' => But d l H H' ∧ St H' d l c (n + 1 + 30 * k) ∧ (∃ vs ps, H' o = some (.lst vs) ∧ DaAll K H' vs (ps.map Pg.py) ∧ ps.length ≤ k ∧ (∀ p ∈ ps, pgFit p) ∧ fewKeys ps) ∧ ∃ x3 x4, s' = [some (.ref d), some (.int most), some (.ref o), x3, x4])
      ⟨B1, S1.mono (by omega), ⟨[], [], ho1, .nil, Nat.zero_le _, (fun p hp => by cases hp), [], List.nodup_nil, fun k => Iff.rfl, Nat.zero_le _⟩, none, none, rfl⟩ (fun _ _ _ _ _ => trivial) (fun k x s' H' H2 hk g y => ?_) (fun s' H' g => ?_)
    · obtain ⟨B, S, ⟨vs, ps, ho, hvs, hl, fit, few⟩, x3, x4, rfl⟩ := g
      obtain ⟨rfl, rfl⟩ := y
      refine ⟨.ref d, rfl, d, l, c, _, rfl, S, by omega, fun H3 vp p b3 S3 fp dp => ?_⟩
      have t3 := b3.tupS S
      have ho3 : H3 o = some (.lst vs) := b3 o _ od ol ho
      have hvs3 := DaAll.tupS t3 _ _ (flatAll_map ps pg_flat) hvs
      have lv : vs.length ≤ 5 := by
        rw [DaAll.len hvs, List.length_map]
        omega
      have hk5 : k + 1 ≤ 5 := by omega
      refine ⟨.ref o, rfl, vp, rfl, by show 1 ≤ sizeLine; decide, fun q1 nq1 => ?_⟩
      have sq1 : Same H3 (upd H3 q1 (.lst [vp])) := same_new nq1
      refine ⟨o, q1, vs, [vp], rfl, rfl, sq1 _ _ ho3, upd_same, Nat.le_trans (show vs.length + 1 ≤ 6 by omega) (by decide), fun q2 nq2 => ?_⟩
      have sq2 : Same (upd H3 q1 (.lst [vp])) (upd (upd H3 q1 (.lst [vp])) q2 (.lst (vs ++ [vp]))) := same_new nq2
      have s12 := sq1.trans sq2
      have fitS : ∀ x ∈ ps ++ [p], pgFit x := fun x hx => by
        rcases List.mem_append.mp hx with hx | hx
        · exact fit x hx
        · rw [List.mem_singleton.mp hx]
          exact fp
      have lS : (ps ++ [p]).length ≤ 5 := by
        rw [List.length_append]
        show ps.length + 1 ≤ 5
        omega
      have daS : ∀ {G : Hp}, Same H3 G → DaAll K G (vs ++ [vp]) ((ps ++ [p]).map Pg.py) := fun {G} sG => by
        rw [List.map_append]
        exact DaAll.app (DaAll.same sG _ _ hvs3) (.cons (Da.same sG _ _ dp) .nil)
      refine ⟨.ref q2, ps ++ [p], rfl, Or.inl (.lst (SqL.of upd_same) (daS s12) (by rw [List.length_map]; omega)), ⟨lS, fitS⟩, fun H5 t as ls s5 nt ht kall nn hk' l25 => ?_⟩
      have s35 := s12.trans s5
      refine ⟨.ref t, _, rfl, Or.inl ⟨_, SqL.of ht, rfl⟩, _, 7, rfl, rfl, _, rfl, ?_⟩
      have ho5 := s35 _ _ ho3
      have B5 := (B.trans b3).trans (Same.but s35)
      have S5 := S3.same s35
      by_cases h7 : (((as.map V.ref).length : Nat) : Int) < 7
      · rw [decide_eq_true h7]
        have uo := tupS_lst (o := HO.lst (vs ++ [vp])) ho5
        refine iteT ⟨.ref o, rfl, Or.inl ⟨rfl, vs, SqL.of ho5⟩, vp, rfl, o, vs, vp, rfl, rfl, ho5, Nat.lt_of_le_of_lt lv (by decide), fun b' o' n1' n2' eb => ?_, (S5.upd ⟨od, ol, oc⟩).mono (by omega), ⟨vs ++ [vp], ps ++ [p], upd_same, DaAll.tupS uo _ _ (flatAll_map _ pg_flat) (daS s35), ?_, fitS, ls, nn, hk', ?_⟩, _, _, rfl⟩
        · rw [upd_ne (ne_of_none eb no)]
          exact B5 b' o' n1' n2' eb
        · rw [List.length_append]
          show ps.length + 1 ≤ k + 1
          omega
        · have := Paired.length kall
          rw [kySort_len] at this
          rw [List.length_map] at h7
          omega
      · rw [decide_eq_false h7]
        exact iteF ⟨B5, S5.mono (by omega), ⟨vs, ps, ho5, DaAll.same s35 _ _ hvs3, Nat.le_succ_of_le hl, fit, few⟩, _, _, rfl⟩
    · obtain ⟨B, S, ⟨vs, ps, ho, hvs, hl, fit, few⟩, x3, x4, rfl⟩ := g
      have lp : ps.length ≤ 5 := by omega
      refine ⟨.ref o, rfl, Nat.zero_le _, fun q1 nq1 => ?_⟩
      have sq1 : Same H' (upd H' q1 (.lst [])) := same_new nq1
      refine ⟨.list (ps.map Pg.py), .list [], .lst (SqL.of (sq1 _ _ ho)) (DaAll.same sq1 _ _ hvs) (by rw [List.length_map]; omega), .lst (SqL.of upd_same) .nil (Nat.zero_le _), pages_shaped fit, rfl, _, rfl, ?_⟩
      cases ps with
      | nil =>
        have e : (!PyData.eqv (.list (([] : List Pg).map Pg.py)) (.list [])) = false := rfl
        rw [e]
        refine iteF ?_
        have ev : EvR K _ [none, none, none, none, none] (sitePy [pg0]) := ev_tup (eva_cons (ev_tup (eva_cons (ev_tup (eva_cons (ev_tup (eva_cons (ev_str (by decide)) (eva_cons (ev_str (by decide)) eva_nil)) (by decide)) (eva_cons (ev_tup eva_nil (by decide)) (eva_cons ev_bl eva_nil))) (by decide)) (eva_cons (ev_tup eva_nil (by decide)) eva_nil)) (by decide)) eva_nil) (by decide)
        refine ev _ _ (EnvD.blank (n := 5) rfl) _ fun H2 v s2 dv => ?_
        exact q _ v [pg0] ((B.trans (Same.but sq1)).trans (Same.but s2)) (((S.same sq1).same s2).mono (by omega)) ⟨by decide, by decide, fun p hp => by rw [List.mem_singleton.mp hp]; exact pg0_fit⟩ ⟨[], List.nodup_nil, fun k => Iff.rfl, Nat.zero_le _⟩ dv
      | cons p ps =>
        have e : (!PyData.eqv (.list ((p :: ps).map Pg.py)) (.list [])) = true := rfl
        rw [e]
        refine iteT ⟨.ref o, rfl, o, vs, rfl, Or.inl ⟨SqL.of (sq1 _ _ ho), fun t nt => ?_⟩⟩
        have st := same_new (o := HO.tup vs) nt
        have s2 := sq1.trans st
        exact q _ _ (p :: ps) (B.trans (Same.but s2)) ((S.same s2).mono (by omega)) ⟨by show 1 ≤ ps.length + 1; omega, lp, fit⟩ few (.tup (SqT.of upd_same) (DaAll.same s2 _ _ hvs) (by rw [List.length_map]; omega))
end
end S1
namespace S1
open PySem PySem.Spec PyProof.Rows L2 Jv
/-! ### the mathematics of signing out -/
theorem mem_rows1 {many q : Nat} (h : q < many) : [q] ∈ rowsM many 2 := by
  have h1 : [q] ∈ longerM many [[]] := by
    unfold longerM
    rw [List.mem_flatMap]
    exact ⟨[], List.mem_singleton.mpr rfl, List.mem_map.mpr ⟨q, List.mem_range.mpr h, rfl⟩⟩
  show [q] ∈ ([[]] ++ longerM many [[]]) ++ longerM many (longerM many [[]])
  exact List.mem_append_left _ (List.mem_append_right _ h1)
/-- the name is left behind the row -/
def leavesM (s : List Pg) (row : List Nat) (nm : Str) : Bool := (rowTab s [] row).any fun x => decide (x.1.name = nm)
theorem rowTab_at {s : List Pg} {row : List Nat} {x : Ky × Str × Bool} (h : x ∈ rowTab s [] row) : lastE s row x.1 = some (some x.2) := by
  have g := (getE_iff (rowTab_nodup s row [] List.nodup_nil) x.1 x.2).mp h
  rw [rowTab_get] at g
  cases e : lastE s row x.1 with
  | none =>
    rw [e] at g
    cases g
  | some o =>
    rw [e] at g
    have g : o = some x.2 := g
    rw [g]
theorem at_rowTab {s : List Pg} {row : List Nat} {k : Ky} {v : Str × Bool} (h : lastE s row k = some (some v)) : (k, v) ∈ rowTab s [] row := by
  refine (getE_iff (rowTab_nodup s row [] List.nodup_nil) k v).mpr ?_
  rw [rowTab_get, h]
theorem lastE_end {s : List Pg} {row : List Nat} {n : Nat} {p : Pg} (ep : s[n]? = some p) (k : Ky) : lastE s (row ++ [n]) k = match effP p k with
    | some e => some e
    | none => lastE s row k := by
  have h1 : lastE s [n] k = effP p k := by
    rw [lastE_cons]
    exact congrArg (fun o : Option Pg => o.bind fun p => effP p k) ep
  rw [lastE_app, h1]
  first
    | done
    | (cases effP p k <;> rfl)
theorem lastE_put {s : List Pg} {k : Ky} {v : Str × Bool} : ∀ {row : List Nat}, lastE s row k = some (some v) → putM s k = true
  | [], h => by cases h
  | n :: r, h => by
    rw [lastE_cons] at h
    cases e : lastE s r k with
    | some o =>
      rw [e] at h
      have h : o = some v := Option.some.inj h
      rw [h] at e
      exact lastE_put e
    | none =>
      rw [e] at h
      have h : (s[n]?).bind (fun p => effP p k) = some (some v) := h
      cases hn : s[n]? with
      | none =>
        rw [hn] at h
        cases h
      | some p =>
        rw [hn] at h
        have h : effP p k = some (some v) := h
        refine List.any_eq_true.mpr ⟨p, List.mem_of_getElem? hn, ?_⟩
        unfold setM
        rw [h]
/-- a page that lacks nothing leaves nothing of the name -/
theorem signs_leaves {s : List Pg} {n : Nat} {p : Pg} {nm : Str} (ep : s[n]? = some p) (h : lackM s p nm = []) (row : List Nat) : leavesM s (row ++ [n]) nm = false := by
  unfold leavesM
  rw [List.any_eq_false]
  intro x hx hn
  rw [decide_eq_true_eq] at hn
  have e := rowTab_at hx
  have key := lastE_key e
  have hput := lastE_put e
  rw [lastE_end ep] at e
  have hin : x.1 ∈ lackM s p nm := by
    unfold lackM
    refine List.mem_filter.mpr ⟨List.mem_filter.mpr ⟨keysM_mem.mpr key, hput⟩, ?_⟩
    rw [decide_eq_true hn, Bool.true_and]
    unfold outM
    cases g : effP p x.1 with
    | none => rfl
    | some o =>
      rw [g] at e
      have e : o = some x.2 := Option.some.inj e
      rw [e]
      rfl
  rw [h] at hin
  cases hin
/-! ### the page that is mended -/
theorem within_refl (h : List Str) : within h h = true := by
  unfold within
  simp
/-- what it can have is taken -/
theorem rem_taken {a : Ad} {k : Ky} (h : (!decide (a.host = k.dom) && (k.alone || !within a.host k.dom)) = false) : takenM a (remW k) = true ∧ keyM a (remW k) = k := by
  obtain ⟨nm, d, f, al⟩ := k
  have h : (!decide (a.host = d) && (al || !within a.host d)) = false := h
  cases al with
  | true =>
    rw [Bool.true_or, Bool.and_true, Bool.not_eq_false', decide_eq_true_eq] at h
    refine ⟨rfl, ?_⟩
    show Ky.mk nm ((none : Option (List Str)).getD a.host) ((some f).getD a.path.dropLast) (none : Option (List Str)).isNone = _
    rw [show (none : Option (List Str)).getD a.host = d from h]
    rfl
  | false =>
    have w : within a.host d = true := by
      rw [Bool.false_or] at h
      cases e : decide (a.host = d) with
      | true =>
        rw [decide_eq_true_eq] at e
        rw [e]
        exact within_refl d
      | false =>
        rw [e] at h
        simpa using h
    exact ⟨by show (!(false && !a.sec) && within a.host d) = true; rw [w]; rfl, rfl⟩
theorem taken_rem {a : Ad} : ∀ {ks : List Ky}, (∀ k ∈ ks, takenM a (remW k) = true ∧ keyM a (remW k) = k) → takenL a (ks.map remW) = ks.map fun k => (k, none, false)
  | [], _ => rfl
  | k :: ks, h => by
    obtain ⟨h1, h2⟩ := h k List.mem_cons_self
    rw [List.map_cons, List.map_cons, takenL, if_pos h1, h2, taken_rem fun x hx => h x (List.mem_cons_of_mem _ hx)]
    rfl
theorem found_rem (k : Ky) : ∀ (ks : List Ky) (ts : List (Ky × Option Str × Bool)), getE (foundM (ts ++ ks.map fun k => (k, (none : Option Str), false))) k = if k ∈ ks then some none else getE (foundM ts) k
  | [], ts => by
    rw [List.map_nil, List.append_nil]
    rfl
  | a :: ks, ts => by
    have e : ts ++ (a :: ks).map (fun k => (k, (none : Option Str), false)) = (ts ++ [(a, none, false)]) ++ ks.map fun k => (k, none, false) := by
      rw [List.map_cons, List.append_assoc]
      rfl
    rw [e, found_rem k ks, foundM_snoc, getE_put]
    by_cases z : a = k
    · subst z
      rw [if_pos rfl, if_pos List.mem_cons_self]
      split <;> rfl
    · rw [if_neg z]
      by_cases y : k ∈ ks
      · rw [if_pos y, if_pos (List.mem_cons_of_mem _ y)]
      · rw [if_neg y, if_neg fun q => (List.mem_cons.mp q).elim (fun e => z e.symm) y]
/-- the page with such writes more -/
def plusP (p : Pg) (ks : List Ky) : Pg := ⟨p.ad, p.ws ++ ks.map remW⟩
theorem plus_eff {p : Pg} {ks : List Ky} (h : ∀ k ∈ ks, takenM p.ad (remW k) = true ∧ keyM p.ad (remW k) = k) (k : Ky) : effP (plusP p ks) k = if k ∈ ks then some none else effP p k := by
  unfold effP
  have e : takenP (plusP p ks) = takenP p ++ ks.map fun k => (k, none, false) := by
    show takenL p.ad (p.ws ++ ks.map remW) = _
    rw [takenL_app, taken_rem h]
    rfl
  rw [e]
  exact found_rem _ _ _
theorem mendS_at {s : List Pg} {n : Nat} {p : Pg} {ks : List Ky} (hn : n < s.length) : mendS s n p ks = s.set n (plusP p ks) := by
  unfold mendS plusP
  rw [List.set_eq_take_append_cons_drop, if_pos hn]
  simp
theorem plus_keys {p : Pg} {ks : List Ky} (h : ∀ k ∈ ks, takenM p.ad (remW k) = true ∧ keyM p.ad (remW k) = k) (k : Ky) : k ∈ (takenP (plusP p ks)).map (·.1) ↔ k ∈ (takenP p).map (·.1) ∨ k ∈ ks := by
  have e : takenP (plusP p ks) = takenP p ++ ks.map fun k => (k, none, false) := by
    show takenL p.ad (p.ws ++ ks.map remW) = _
    rw [takenL_app, taken_rem h]
    rfl
  rw [e, List.map_append, List.mem_append, List.map_map]
  simp
theorem tw_mem {s : List Pg} {k : Ky} : k ∈ siteTw s ↔ ∃ p ∈ s, k ∈ (takenP p).map (·.1) := by
  unfold siteTw
  rw [List.mem_flatMap]
  rfl
theorem mem_set {s : List Pg} {n : Nat} {p p' q : Pg} (ep : s[n]? = some p) : q ∈ s.set n p' → q = p' ∨ q ∈ s := fun h => by
  rcases List.mem_or_eq_of_mem_set h with h | h
  · exact .inr h
  · exact .inl h
/-- its keys are those of the site -/
theorem set_tw {s : List Pg} {n : Nat} {p : Pg} {ks : List Ky} (ep : s[n]? = some p) (h : ∀ k ∈ ks, takenM p.ad (remW k) = true ∧ keyM p.ad (remW k) = k) (sub : ∀ k ∈ ks, k ∈ siteTw s) (k : Ky) : k ∈ siteTw (s.set n (plusP p ks)) ↔ k ∈ siteTw s := by
  have ln := (List.getElem?_eq_some_iff.mp ep).1
  have mp := List.mem_of_getElem? ep
  constructor
  · intro hk
    obtain ⟨q, hq, hk⟩ := tw_mem.mp hk
    rcases mem_set ep hq with rfl | hq
    · rcases (plus_keys h k).mp hk with hk | hk
      · exact tw_mem.mpr ⟨p, mp, hk⟩
      · exact sub k hk
    · exact tw_mem.mpr ⟨q, hq, hk⟩
  · intro hk
    obtain ⟨q, hq, hk⟩ := tw_mem.mp hk
    obtain ⟨i, hi⟩ := List.getElem?_of_mem hq
    by_cases z : i = n
    · subst z
      rw [ep] at hi
      cases hi
      exact tw_mem.mpr ⟨plusP p ks, List.mem_of_getElem? (List.getElem?_set_self ln), (plus_keys h k).mpr (.inl hk)⟩
    · exact tw_mem.mpr ⟨q, List.mem_of_getElem? (by rw [List.getElem?_set_ne (Ne.symm z)]; exact hi), hk⟩
theorem keysM_same {s s' : List Pg} (h : ∀ k, k ∈ siteTw s ↔ k ∈ siteTw s') : keysM s = keysM s' := by
  unfold keysM
  exact kySort_one ((List.perm_ext_iff_of_nodup (ddK_nodup _) (ddK_nodup _)).mpr fun k => by rw [ddK_mem, ddK_mem, h k])
/-- mended of all that is lacked, it lacks nothing -/
theorem mended_lacks {s : List Pg} {n : Nat} {p : Pg} {nm : Str} (ep : s[n]? = some p) (h : ∀ k ∈ lackM s p nm, takenM p.ad (remW k) = true ∧ keyM p.ad (remW k) = k) : lackM (s.set n (plusP p (lackM s p nm))) (plusP p (lackM s p nm)) nm = [] := by
  rw [List.eq_nil_iff_forall_not_mem]
  intro k hk
  obtain ⟨h1, h2, h3, h4⟩ := lackM_sub hk
  have hnot : k ∉ lackM s p nm := fun z => by
    unfold outM at h4
    rw [plus_eff h, if_pos z] at h4
    cases h4
  have e : effP (plusP p (lackM s p nm)) k = effP p k := by rw [plus_eff h, if_neg hnot]
  refine hnot ?_
  unfold lackM
  refine List.mem_filter.mpr ⟨List.mem_filter.mpr ⟨?_, ?_⟩, ?_⟩
  · rw [keysM_same (s' := s.set n (plusP p (lackM s p nm))) fun k => (set_tw ep h (fun k hk => keysM_mem.mp (lackM_sub hk).1) k).symm]
    exact h1
  · obtain ⟨q, hq, hs⟩ := List.any_eq_true.mp h2
    refine List.any_eq_true.mpr ?_
    rcases mem_set ep hq with rfl | hq
    · refine ⟨p, List.mem_of_getElem? ep, ?_⟩
      unfold setM at hs ⊢
      rw [e] at hs
      exact hs
    · exact ⟨q, hq, hs⟩
  · rw [decide_eq_true h3, Bool.true_and]
    unfold outM at h4 ⊢
    rw [e] at h4
    rw [h4]
    rfl
/-- with one of them left out, the name can stay -/
theorem lesser_leaves {s : List Pg} {n : Nat} {p : Pg} {nm : Str} {k : Ky} {ks : List Ky} (ep : s[n]? = some p) (hk : k ∈ lackM s p nm) (hks : ∀ x ∈ ks, takenM p.ad (remW x) = true ∧ keyM p.ad (remW x) = x) (nk : k ∉ ks) : ∃ q, q < s.length ∧ leavesM (s.set n (plusP p ks)) ([q] ++ [n]) nm = true := by
  obtain ⟨h1, h2, h3, h4⟩ := lackM_sub hk
  obtain ⟨pq, hq, hs⟩ := List.any_eq_true.mp h2
  obtain ⟨q, eq⟩ := List.getElem?_of_mem hq
  have ln := (List.getElem?_eq_some_iff.mp ep).1
  have lq := (List.getElem?_eq_some_iff.mp eq).1
  refine ⟨q, lq, ?_⟩
  have e : effP (plusP p ks) k = effP p k := by rw [plus_eff hks, if_neg nk]
  have kept : ∃ v, lastE (s.set n (plusP p ks)) ([q] ++ [n]) k = some (some v) := by
    rw [lastE_end (List.getElem?_set_self ln), e]
    unfold outM at h4
    cases g : effP p k with
    | some o =>
      rw [g] at h4
      cases o with
      | none => cases h4
      | some v => exact ⟨v, rfl⟩
    | none =>
      unfold setM at hs
      have e2 : (s.set n (plusP p ks))[q]? = some (if n = q then plusP p ks else pq) := by
        by_cases z : n = q
        · subst z
          rw [if_pos rfl]
          exact List.getElem?_set_self ln
        · rw [if_neg z, List.getElem?_set_ne z]
          exact eq
      have e3 : lastE (s.set n (plusP p ks)) [q] k = effP (if n = q then plusP p ks else pq) k := by
        rw [lastE_cons]
        show ((s.set n (plusP p ks))[q]?).bind (fun p => effP p k) = _
        rw [e2]
        rfl
      rw [show lastE (s.set n (plusP p ks)) [q] k = _ from e3]
      by_cases z : n = q
      · subst z
        rw [ep] at eq
        cases eq
        rw [g] at hs
        cases hs
      · rw [if_neg z]
        cases g2 : effP pq k with
        | none =>
          rw [g2] at hs
          cases hs
        | some o =>
          cases o with
          | none =>
            rw [g2] at hs
            cases hs
          | some v => exact ⟨v, rfl⟩
  obtain ⟨v, hv⟩ := kept
  exact List.any_eq_true.mpr ⟨(k, v), at_rowTab hv, decide_eq_true h3⟩
end S1
namespace S1
open PySem PySem.Spec PyProof.Rows L2 Jv
section
variable {P : Program} {w : World} {K : PySem.W.Frag} {mg : Str → Option Value} {base : Heap} {C1 C2 C3 C4 : Addr} {ρ : Rho}
theorem evf_rows {t u : TE} {many most : Nat} (h : EvR K t ρ (.int (many : Nat))) (g : EvR K u ρ (.int (most : Nat))) (l1 : many ≤ 5) (l2 : most ≤ 4) : EvF K (tCall (spRows K) [] E0 (tCons t (tCons u tNil))) ρ ((rowsM many most).map rowD) := fun sg H en Q q =>
  h sg H en _ fun H1 v s1 hv => g sg H1 (en.same s1) _ fun H2 w s2 hw => by
    cases hv
    cases hw
    exact ⟨many, most, rfl, l1, l2, fun H3 D xs s3 nD hD hx => q H3 D xs ((s1.trans s2).trans s3) (none_of (s1.trans s2) nD) hD hx⟩
theorem rowD_nat (row : List Nat) : rowD row = .tuple (row.map natD) := rfl
theorem evf_behindT {t u : TE} {s : List Pg} {row : List Nat} (h : EvR K t ρ (sitePy s)) (g : EvR K u ρ (rowD row)) (fs : siteFit s) (hr : ∀ n ∈ row, n < s.length) : EvF K (tCall (spBehP K) [] E0 (tCons t (tCons u tNil))) ρ ((rowTab s [] row).map ktP) := fun sg H en Q q =>
  h sg H en _ fun H1 v s1 hv => g sg H1 (en.same s1) _ fun H2 w s2 hw => ⟨v, w, s, row, rfl, Da.same s2 _ _ hv, fs, .inl hw, hr, fun H3 D xs s3 nD hD hx => q H3 D xs ((s1.trans s2).trans s3) (none_of (s1.trans s2) nD) hD hx⟩
theorem ones_shaped {α : Type} (l : List α) : SeqAt.shaped (.list (l.map fun _ => PyData.int 1)) = true := by
  have h1 : PyData.canLayAll0 (l.map fun _ => PyData.int 1) = true := by
    induction l with
    | nil => rfl
    | cons a l ih =>
      rw [List.map_cons, PyData.canLayAll0, ih]
      rfl
  have h2 : PyData.depthAll (l.map fun _ => PyData.int 1) ≤ 0 := depthAll_le fun d hd => by
    obtain ⟨_, _, rfl⟩ := List.mem_map.mp hd
    exact Nat.le_refl _
  show (PyData.canLayAll0 (l.map fun _ => PyData.int 1) && decide (PyData.depthAll (l.map fun _ => PyData.int 1) + 1 ≤ 64)) = true
  rw [h1, decide_eq_true (by omega)]
  rfl
theorem eqv_nilL {α : Type} (l : List α) (f : α → PyData) : PyData.eqv (.list (l.map f)) (.list []) = l.isEmpty := by
  cases l <;> rfl
theorem any_filter {α : Type} (l : List α) (p : α → Bool) : (l.filter p).isEmpty = !l.any p := by
  induction l with
  | nil => rfl
  | cons a l ih =>
    rw [List.filter_cons, List.any_cons]
    cases p a with
    | true => rfl
    | false =>
      rw [Bool.false_or, ← ih]
      rfl
theorem ktP_key {x : Ky × Str × Bool} : x.1.py = .tuple [.str x.1.name, .tuple (x.1.dom.map .str), .tuple (x.1.fold.map .str), .bool x.1.alone] := rfl
/-- how many visits a shortest row of at most two, and the page, take to leave the name; 0 if none does -/
def signedM (s : List Pg) (n : Nat) (nm : Str) : Nat := match (rowsM s.length 2).find? fun row => leavesM s (row ++ [n]) nm with
  | some row => row.length + 1
  | none => 0
theorem find_at {α : Type} {p : α → Bool} : ∀ {l : List α} {i : Nat} {x : α}, l[i]? = some x → p x = true → (∀ y ∈ l.take i, p y = false) → l.find? p = some x
  | a :: l, 0, x, h, hp, _ => by
    cases h
    rw [List.find?_cons, hp]
  | a :: l, i + 1, x, h, hp, hn => by
    rw [List.find?_cons, hn a (by rw [List.take_succ_cons]; exact List.mem_cons_self)]
    exact find_at (l := l) h hp fun y hy => hn y (by rw [List.take_succ_cons]; exact List.mem_cons_of_mem _ hy)
theorem longer_lt {many : Nat} {last : List (List Nat)} (h : ∀ row ∈ last, ∀ n ∈ row, n < many) : ∀ row ∈ longerM many last, ∀ n ∈ row, n < many := fun row hr n hn => by
  obtain ⟨r, h1, h2⟩ := List.mem_flatMap.mp hr
  obtain ⟨m, hm, rfl⟩ := List.mem_map.mp h2
  rcases List.mem_append.mp hn with hn | hn
  · exact h r h1 n hn
  · rw [List.mem_singleton.mp hn]
    exact List.mem_range.mp hm
theorem rowsAt_lt (many : Nat) : ∀ k, (∀ row ∈ (rowsAt many k).1, ∀ n ∈ row, n < many) ∧ ∀ row ∈ (rowsAt many k).2, ∀ n ∈ row, n < many
  | 0 => ⟨(fun row h n hn => by rw [List.mem_singleton.mp h] at hn; exact absurd hn (List.not_mem_nil)), (fun row h n hn => by rw [List.mem_singleton.mp h] at hn; exact absurd hn (List.not_mem_nil))⟩
  | k + 1 => by
    obtain ⟨h1, h2⟩ := rowsAt_lt many k
    refine ⟨longer_lt h1, fun row hr => ?_⟩
    rcases List.mem_append.mp hr with hr | hr
    · exact h2 row hr
    · exact longer_lt h1 row hr
theorem rowsAt_lens (many : Nat) : ∀ k, ∀ row ∈ (rowsAt many k).2, row.length ≤ k
  | 0 => fun row h => by
    rw [List.mem_singleton.mp h]
    exact Nat.le_refl _
  | k + 1 => fun row hr => by
    rcases List.mem_append.mp hr with hr | hr
    · exact Nat.le_succ_of_le (rowsAt_lens many k row hr)
    · exact rowsAt_len many (k + 1) row hr
def spSigned (K : PySem.W.Frag) : Sp := fun vs H Q _ => ∃ v s n nm, vs = [v, .int (n : Nat), .str nm] ∧ Da K H v (sitePy s) ∧ siteFit s ∧ n < s.length ∧ okW lts nm = true ∧ ∀ H', Same H H' → Q (.int (signedM s n nm : Nat)) H'
theorem ok_law_signed (T : Txt K mg) : Ok P w K mg base "_law_signed" P__law_signed 4 (spSigned K) := by
  have ok__law_rows : Ok P w K mg base "_law_rows" P__law_rows 1 (spRows K) := ok_law_rows T
  have ok__law_behind : Ok P w K mg base "_law_behind" P__law_behind 3 (spBehP K) := ok_law_behindP T
  refine T.d__law_signed.ok sc__law_signed (fun vs H Q E h => ?_) (fun f cdv A out s H vs Q E hr h => ?_)
  · obtain ⟨v, s, n, nm, rfl, _⟩ := h
    rfl
  · obtain ⟨v, si, n, nm, rfl, hv, fs, ln, ow, q⟩ := h
    refine ⟨_, (pss_cons (ps_for PassesOwn.never rfl (pi_list (pe_ok ok__law_rows (hr.mono (by decide)) (pa_cons (pe_callB call_len (by rfl) T.z_len (by decide +kernel) (pa_cons (pv 0) pa_nil)) (pa_cons pe_int pa_nil)))) (pg_name (i := 3) sc__law_signed.nd rfl (Or.inl rfl)) (pss_cons (ps_set (i := 4) sc__law_signed.nd rfl (Or.inl rfl) (pe_ok ok__law_behind (hr.mono (by decide)) (pa_cons (pv 0) (pa_cons (pe_op (show OpR _ _ (rCatA K) from op_catA) (pv 3) (pe_tup (pa_cons (pv 1) pa_nil))) pa_nil))))
      (pss_one (ps_if (pt_cmpR (show OpR _ _ (rNeA K) from op_neA hr.units) (pe_lc (own := [("term", 5), ("worth", 6)]) (g := gTup K 2 (gCons (gName 5) (gCons (gName 6) gNil))) rfl sc__law_signed.nd (pi_list (pv 4)) (blkOk_by (N := N__law_signed) (sc := defScope st__law_signed) (by decide +kernel)) (fun _ _ _ _ _ => (pg_tup rfl (pgs_cons (pg_name (i := 5) sc__law_signed.nd rfl (Or.inl rfl)) (pgs_cons (pg_name (i := 6) sc__law_signed.nd rfl (Or.inl rfl)) pgs_nil)))) (fun _ _ _ _ _ => pts_one (pt_cmpR (show OpR _ _ (rEqA K) from op_eqA hr.units) (pe_ix (show IxR _ (rIxT K) from ix_tup) (pv 5) pe_int (fun _ _ => rfl)) (pv 2) (nomark _))) (fun _ _ _ _ _ => pe_int)) (pe_lst pa_nil) (nomark _)) (pss_one (ps_ret (pe_op op_add (pe_callB call_len (by rfl) T.z_len (by decide +kernel) (pa_cons (pv 3) pa_nil)) pe_int))) pss_nil))))
    (pss_one (ps_ret pe_int))), ?_⟩
    have l5 := fs.2.1
    refine bk_run (K := K) (r := [.da (sitePy si), .da (.int (n : Nat)), .da (.str nm), .no, .no, .no, .no]) (P := ⟨fun _ => False, fun _ => False, fun _ => False, fun y _ => y = .da (.int (signedM si n nm : Nat))⟩) ?_ ⟨hold_da hv, hold_da (.int _), hold_da (.str _ (Nat.le_trans (okW_len ow) (by decide))), trivial, trivial, trivial, trivial, trivial⟩ trivial (fun _ h => h) (fun _ h => h) (fun _ h => h.elim) (fun y r' h => by
      subst h
      exact fun H' v s hv => by
        cases hv
        exact q H' s)
    refine bk_seq (bk_for (it_new (evf_rows (many := si.length) (most := 2) (EvR.to (ev_lenT (ds := si.map Pg.py) (ev_var rfl)) (by rw [List.length_map])) ev_int l5 (by decide)) (rows_flat _)) (fun i r1 => r1 = [.da (sitePy si), .da (.int (n : Nat)), .da (.str nm), .no, .no, .no, .no] ∧ ∀ row ∈ (rowsM si.length 2).take i, leavesM si (row ++ [n]) nm = false) ⟨_, Wk.refl _, rfl, fun row h => by simp at h⟩ (fun i r1 d hd e => ?_) (fun r1 e => ?_))
    · obtain ⟨rfl, none_⟩ := e
      obtain ⟨row, hrow, rfl⟩ := map_at hd
      have mrow := List.mem_of_getElem? hrow
      have lrow := rowsAt_lens si.length 2 row mrow
      have rlt : ∀ m ∈ row ++ [n], m < si.length := fun m hm => by
        rcases List.mem_append.mp hm with hm | hm
        · exact (rowsAt_lt si.length 2).2 row mrow m hm
        · rw [List.mem_singleton.mp hm]
          exact ln
      have evR : EvR K (tOp (rCatA K) (tVar 3) (tTup (tCons (tVar 1) tNil))) (view [.da (sitePy si), .da (.int (n : Nat)), .da (.str nm), .da (rowD row), .no, .no, .no]) (rowD (row ++ [n])) := EvR.to (ev_cat (as := row.map natD) (bs := [.int (n : Nat)]) (ev_var rfl) (ev_tup (eva_cons (ev_var rfl) eva_nil) (by show 1 ≤ 1000; decide)) (by
        rw [List.length_map]
        show row.length + 1 ≤ 1000
        omega)) (by
        rw [rowD_nat, List.map_append]
        rfl)
      refine ⟨_, tg_name, bk_then (st_nw (nw_ev (evf_behindT (row := row ++ [n]) (ev_var rfl) evR fs rlt) (kts_flatP _))) ?_⟩
      have lt := tab_len fs (row ++ [n])
      have fit := tab_fit fs (row ++ [n])
      refine bk_if (b := leavesM si (row ++ [n]) nm) (evt_test (EvR.to (ev_ne (EvF.evr (evf_lc (rowTab si [] (row ++ [n])) ktP (fun _ => .int 1) (fun x => decide (x.1.name = nm)) (itr_list (ev_own rfl (by rw [List.length_map]; omega))) (by omega) (fun x hx => ⟨_, te_tup (tes_cons (te_name (by decide)) (tes_cons (te_name (by decide)) tes_nil)) rfl, evt_test (ev_eq (ev_ixTz (ds := [.str x.1.name, .tuple (x.1.dom.map .str), .tuple (x.1.fold.map .str), .bool x.1.alone]) (ev_var rfl) rfl rfl) (ev_var rfl) (str_shaped lts_low (kyShape_name (fit x hx).1)) (str_shaped lts_low ow) name_eqv), fun _ => ⟨ev_int, rfl⟩⟩)) ?_) (ev_lst eva_nil (by decide)) (ones_shaped _) rfl rfl) ?_)) (fun hb => ?_) (fun hb => ?_)
      · rw [List.length_map]
        exact Nat.le_trans (List.length_filter_le _ _) (by omega)
      · rw [eqv_nilL, any_filter, Bool.not_not]
        rfl
      · refine bk_ret (EvR.to (ev_addI (i := (row.length : Int)) (j := 1) (EvR.to (ev_lenT (ds := row.map natD) (ev_var rfl)) (by rw [List.length_map])) ev_int rfl) rfl) rfl ?_
        show Rt.da _ = Rt.da _
        have e : (rowsM si.length 2).find? (fun row => leavesM si (row ++ [n]) nm) = some row := find_at hrow hb none_
        unfold signedM
        rw [e]
        rfl
      · refine bk_next ⟨_, ?_, rfl, fun row' h' => ?_⟩
        · exact (wk_of (by repeat' first | exact trivial | refine ⟨.inr rfl, ?_⟩ | refine ⟨.inl rfl, ?_⟩))
        · rw [List.take_add_one, hrow] at h'
          rcases List.mem_append.mp h' with h' | h'
          · exact none_ row' h'
          · rw [List.mem_singleton.mp h']
            exact hb
    · obtain ⟨rfl, none_⟩ := e
      rw [List.length_map, List.take_length] at none_
      refine bk_ret ev_int rfl ?_
      show Rt.da _ = Rt.da _
      have e : (rowsM si.length 2).find? (fun row => leavesM si (row ++ [n]) nm) = none := by
        rw [List.find?_eq_none]
        exact fun row h => by rw [none_ row h]; exact Bool.false_ne_true
      unfold signedM
      rw [e]
      rfl
end
end S1
/-! repr of plain data that need be no object -/
namespace Jv
open PySem PySem.Spec PyProof.Rows L2
def rReprQ (K : PySem.W.Frag) : List V → Hp → VK → Prop := fun xs H Q => ∃ (v : V) (d : PyData), xs = [v] ∧ Da K H v d ∧ plainD d = true ∧ d.depth ≤ 60 ∧ d.weight ≤ 1000000 ∧ Q (.str d.shown) H
theorem shown_fits {d : PyData} (h1 : plainD d = true) (h4 : d.weight ≤ 1000000) : d.shown.length ≤ sizeLine := by
  have := PyData.shown_le 8 (by decide) d (PyData.leavesShort_of_canLay0 8 d (plain_show d h1).2.1 (plain_show d h1).2.2)
  rw [sizeLine_eq]
  omega
theorem cr_reprQ {X : Cx} (hg : X.A.guards = some []) (hu : X.A.units + 64 < cLine) : CallR X (.builtin "repr") (rReprQ X.K) := by
  intro pn sh sg Hh vxs uxs Qq Iv r1 hyp
  obtain ⟨v, d, rfl, hd, h1, h3, h4, q⟩ := hyp
  cases id hd with
  | non =>
    obtain ⟨u, rfl, r2⟩ := vals1 r1
    cases (show u = Value.none from r2)
    exact PySem.P.repr_of_none ⟨.str _, Hh, Iv.tok _, ⟨_, rfl⟩, q⟩
  | bl b =>
    obtain ⟨u, rfl, r2⟩ := vals1 r1
    cases (show u = Value.bool b from r2)
    exact PySem.P.repr_of_bool ⟨.str _, Hh, Iv.tok _, ⟨_, rfl⟩, q⟩
  | int i => cases h1
  | str x hx =>
    obtain ⟨u, rfl, t, rfl⟩ := vals1 r1
    exact PySem.P.repr_of_str ⟨.str _, Hh, Iv.tok _, ⟨_, rfl⟩, q⟩ (hsz := shown_fits h1 h4)
  | lst _ _ _ => exact cr_reprP hg hu pn sh sg Hh _ uxs Qq Iv r1 ⟨_, _, rfl, hd, h1, h3, h4, q⟩
  | tup _ _ _ => exact cr_reprP hg hu pn sh sg Hh _ uxs Qq Iv r1 ⟨_, _, rfl, hd, h1, h3, h4, q⟩
  | dic _ => exact cr_reprP hg hu pn sh sg Hh _ uxs Qq Iv r1 ⟨_, _, rfl, hd, h1, h3, h4, q⟩
end Jv
namespace S1
open PySem PySem.Spec PyProof.Rows L2 Jv
/-! ### expressions that draw; the start of a def that draws; texts too long to be data -/
section
variable {K : PySem.W.Frag} {S : Option Sx} {r r1 r2 : List Sl} {P : Po}
/-- data by an expression that touches nothing but the state -/
def DrwE (K : PySem.W.Frag) (S : Option Sx) (r : List Sl) (te : TE) (i : Nat) (n m : Int) (Φ : PyData → Prop) : Prop := ∀ H0 A H sg (Q : VK) z, S = some z → EnvA K S H0 A H sg r → r[i]? = some (.st n) →
  (∀ H' v d, But z.d z.l H H' → St H' z.d z.l z.c m → Φ d → Da K (Mask A H') v d → Q v H') → te sg H Q
theorem ex_drw {te : TE} {i : Nat} {n m : Int} {Φ : PyData → Prop} (hi : r[i]? = some (.st n)) (h : DrwE K S r te i n m Φ) : ExM K S r te (r.set i (.st m)) Φ := fun H0 A H sg Q e q => by
  obtain ⟨z, rfl, h1, hS, hc⟩ := e.at_ i _ hi
  refine h H0 A H sg Q z rfl e hi fun H' v d b s f hv => ?_
  obtain ⟨e2, s2⟩ := e.drawn hi b s
  exact q A H' v d s2 e2 f hv
theorem drw_draw {i : Nat} {n many : Int} {tm : TE} (hm : EvR K tm (view r) (.int many)) (m0 : 0 < many) (m1 : many < 2 ^ 20) (hn : n < 2 ^ 50) : DrwE K S r (tCall spDraw [] E0 (tCons (tVar i) (tCons tm tNil))) i n (n + 1) (fun d => ∃ k : Nat, d = .int (k : Nat) ∧ (k : Int) < many) := fun H0 A H sg Q z hz e hi q => by
  obtain ⟨z', h0, h1, hS, hc⟩ := e.at_ i _ hi
  rw [hz] at h0
  cases h0
  refine ⟨.ref z.d, h1, hm sg H e.view _ fun H1 v s hv => ?_⟩
  cases hv
  refine ⟨z.d, z.l, z.c, n, many, rfl, hS.same s, hn, m0, m1, fun H2 k b S2 k0 k1 => ?_⟩
  obtain ⟨k, rfl⟩ : ∃ k' : Nat, k = k' := ⟨k.toNat, by omega⟩
  exact q H2 _ (.int (k : Nat)) ((Same.but s).trans b) S2 ⟨k, rfl, k1⟩ (.int _)
theorem drw_imp {te : TE} {i : Nat} {n m m' : Int} {Φ Ψ : PyData → Prop} (h : DrwE K S r te i n m Φ) (hm : m ≤ m') (f : ∀ d, Φ d → Ψ d) : DrwE K S r te i n m' Ψ := fun H0 A H sg Q z hz e hi q => h H0 A H sg Q z hz e hi fun H' v d b s p hv => q H' v d b (s.mono hm) (f d p) hv
theorem drw_ev {te : TE} {i : Nat} {n : Int} {d : PyData} (h : EvR K te (view r) d) (f : flat d = true) : DrwE K S r te i n n (· = d) := fun H0 A H sg Q z hz e hi q => h sg H e.view _ fun H' v s hv => by
  obtain ⟨z', h0, h1, hS, hc⟩ := e.at_ i _ hi
  rw [hz] at h0
  cases h0
  exact q H' v d (Same.but s) (hS.same s) rfl (flat_mask (e.same s) hv f)
theorem but_fresh {d l D : Addr} {H H' : Hp} {o : HO} (b : But d l H H') (n : H D = none) : But d l H (upd H' D o) := fun x o' n1 n2 e => by
  rw [upd_ne (ne_of_none e n)]
  exact b x o' n1 n2 e
/-- a comprehension over a range whose items are drawn -/
theorem drw_lc {ta : TE} {g : TG} {te : TE} {vs : List Nat} {i N : Nat} {n n1 : Int} {step : Int} {Φ : PyData → Prop} (hta : DrwE K S r ta i n n1 (fun d => ∃ k : Nat, d = .int (k : Nat) ∧ k ≤ N)) (lN : N ≤ 1000) (iv : i ∉ vs) (st0 : 0 ≤ step)
    (hs : ∀ (j : Nat) (m : Int), j < N → m = n1 + step * j → ∃ r2, TgW K S vs (wipeS (r.set i (.st m)) vs) g (.int (j : Nat)) r2 ∧ r2[i]? = some (.st m) ∧ DrwE K S r2 te i m (m + step) Φ) (fl : ∀ d, Φ d → flat d = true) :
    DrwE K S r (tLc (iRng1 (tCons ta tNil)) g tYes te vs) i n (n1 + step * N) (fun d => ∃ ds, d = .list ds ∧ ds.length ≤ N ∧ ∀ x ∈ ds, Φ x) := fun H0 A H sg Q z hz e hi q => by
  subst hz
  refine hta H0 A H sg _ z rfl e hi fun H1 v d b1 S1 ⟨k, ed, hk⟩ hv => ?_
  subst ed
  cases hv
  refine ⟨(k : Int), rfl, by omega, by omega, ?_⟩
  rw [Int.toNat_natCast]
  intro D nD
  obtain ⟨e1, m1⟩ := e.drawn hi b1 S1
  have nA := hard_fresh e1.hard nD
  have hl : i < r.length := (List.getElem?_eq_some_iff.mp hi).1
  obtain ⟨f1, f2, f3⟩ := S1.fresh nD
  have nDH : H D = none := by
    cases q2 : H D with
    | none => rfl
    | some o =>
      rw [b1 D o f1 f2 q2] at nD
      cases nD
  refine lc_it walk_range (fun j G => But z.d z.l H1 G ∧ St G z.d z.l z.c (n1 + step * j) ∧ ∃ acc ds, G D = some (.lst acc) ∧ DaAll K G acc ds ∧ ds.length = j ∧ ∀ x ∈ ds, Φ x) ⟨but_fresh (But.refl _ _ _) nD, by rw [show n1 + step * ((0 : Nat) : Int) = n1 by simp]; exact S1.upd ⟨f1, f2, f3⟩, [], [], upd_same, .nil, rfl, fun x hx => by cases hx⟩ (fun _ _ _ _ => trivial) (fun j x G G' hj g y => ?_) (fun G g => ?_)
  · obtain ⟨bG, SG, acc, ds, hD, hacc, ln, hds⟩ := g
    obtain ⟨rfl, rfl⟩ := y
    have e2 := (e1.drawn (List.getElem?_set_self hl) bG SG).1
    rw [List.set_set] at e2
    obtain ⟨r2, htg, hst, hte⟩ := hs j _ (by omega) rfl
    refine htg H0 A G' (wipe sg vs) _ _ (e2.wiped vs) (by show Da K (Mask A G') (.int (0 + (j : Int))) _; rw [Int.zero_add]; exact .int _) fun σ4 e4 w4 => ⟨w4.trans (wipe_wipe fun u hu => hu), ?_⟩
    dsimp only [tYes]
    rw [if_pos rfl]
    refine hte H0 A G' σ4 _ z rfl e4 hst fun G4 v d b4 S4 f hv => ⟨acc, b4 D _ f1 f2 hD, ?_, but_fresh (bG.trans b4) nD, ?_, acc ++ [v], ds ++ [d], upd_same, ?_, by rw [List.length_append, ln]; rfl, fun x hx => ?_⟩
    · rw [DaAll.len hacc, ln]
      exact Nat.lt_of_lt_of_le (show j < 1000 by omega) (by decide)
    · have e5 : n1 + step * j + step = n1 + step * ((j + 1 : Nat) : Int) := by
        rw [show ((j + 1 : Nat) : Int) = (j : Int) + 1 by omega, Int.mul_add, Int.mul_one, Int.add_assoc]
      rw [← e5]
      exact S4.upd ⟨f1, f2, f3⟩
    · have hD4 : G4 D = some (.lst acc) := b4 D _ f1 f2 hD
      have up : TupS G4 (upd G4 D (.lst (acc ++ [v]))) := tupS_lst hD4
      have fd : flatAll ds = true := flatAll_of fun x hx => fl x (hds x hx)
      refine DaAll.app (DaAll.tupS ((b4.tupS SG).trans up) _ _ fd hacc) (.cons (Da.tupS up _ _ (fl d f) (Da.same mask_same _ _ hv)) .nil)
    · rcases List.mem_append.mp hx with hx | hx
      · exact hds x hx
      · rw [List.mem_singleton.mp hx]
        exact f
  · obtain ⟨bG, SG, acc, ds, hD, hacc, ln, hds⟩ := g
    have e2 := (e1.drawn (List.getElem?_set_self hl) bG SG).1
    have fd : flatAll ds = true := flatAll_of fun x hx => fl x (hds x hx)
    refine q G _ (.list ds) (b1.trans bG) (SG.mono ?_) ⟨ds, rfl, by omega, hds⟩ (.lst (SqL.of (by rw [mask_out nA]; exact hD)) (flatA_mask e2 hacc fd) (by omega))
    have : step * (k : Int) ≤ step * (N : Int) := Int.mul_le_mul_of_nonneg_left (by omega) st0
    omega
/-- tuple(x) of a drawn list -/
theorem drw_tupL {te : TE} {i : Nat} {n m : Int} {Φ : List PyData → Prop} (h : DrwE K S r te i n m (fun d => ∃ ds, d = .list ds ∧ Φ ds)) (fl : ∀ ds, Φ ds → flatAll ds = true) : DrwE K S r (tCB (fun xs H Q => ∃ p ys, xs = [V.ref p] ∧ ((SqL K H p ys ∧ ∀ (l : Addr), H l = none → Q (V.ref l) (upd H l (HO.tup ys))) ∨ SqT K H p ys ∧ Q (V.ref p) H)) (tCons te tNil)) i n m (fun d => ∃ ds, d = .tuple ds ∧ Φ ds) := fun H0 A H sg Q z hz e hi q =>
  h H0 A H sg _ z hz e hi fun H1 v d b s ⟨ds, ed, f⟩ hv => by
    subst ed
    subst hz
    have e1 := (e.drawn hi b s).1
    cases hv with
    | @lst pa xs _ h1 h2 hl =>
      refine ⟨pa, xs, rfl, Or.inl ⟨mask_same.seq h1, fun l nl => ?_⟩⟩
      have s2 := Jv.same_new (o := HO.tup xs) nl
      have nA := hard_fresh e1.hard nl
      refine q _ _ (.tuple ds) (b.trans (Same.but s2)) (s.same s2) ⟨ds, rfl, f⟩ (.tup (SqT.of ?_) (DaAll.same (mask_mono s2) _ _ h2) hl)
      rw [mask_out nA]
      exact upd_same
theorem da_tupI {H : Hp} {v : V} {ds : List PyData} (h : Da K H v (.tuple ds)) : ∃ a xs, v = .ref a ∧ SqT K H a xs ∧ DaAll K H xs ds ∧ ds.length ≤ 1000 := by
  cases h with
  | tup h1 h2 h3 => exact ⟨_, _, rfl, h1, h2, h3⟩
/-- a drawn tuple and another -/
theorem drw_cat {te tu : TE} {i : Nat} {n m : Int} {Φ : List PyData → Prop} {bs : List PyData} (h : DrwE K S r te i n m (fun d => ∃ ds, d = .tuple ds ∧ Φ ds)) (g : EvR K tu (view (r.set i (.st m))) (.tuple bs)) (fl : ∀ ds, Φ ds → flatAll (ds ++ bs) = true) (ll : ∀ ds, Φ ds → (ds ++ bs).length ≤ 1000) : DrwE K S r (tOp (rCatA K) te tu) i n m (fun d => ∃ ds, d = .tuple (ds ++ bs) ∧ Φ ds) := fun H0 A H sg Q z hz e hi q =>
  h H0 A H sg _ z hz e hi fun H1 v d b s ⟨ds, ed, f⟩ hv => by
    subst ed
    subst hz
    have e1 := (e.drawn hi b s).1
    refine g sg H1 e1.view _ fun H2 w s2 hw => ?_
    have e2 := e1.same s2
    have both : EnvD K H2 [some v, some w] [some (.tuple ds), some (.tuple bs)] := ⟨fun k d hk => by
      match k, hk with
      | 0, hk =>
        cases hk
        exact ⟨v, rfl, Da.same s2 _ _ (Da.same mask_same _ _ hv)⟩
      | 1, hk =>
        cases hk
        exact ⟨w, rfl, hw⟩, rfl⟩
    have len : (ds ++ bs).length ≤ 1000 := ll ds f
    have k := ev_cat (K := K) (r := [some (.tuple ds), some (.tuple bs)]) (t := tVar 0) (u := tVar 1) (as := ds) (bs := bs) (ev_var rfl) (ev_var rfl) (by rw [List.length_append] at len; exact len)
    obtain ⟨_, h1, _, h2, h3⟩ := k _ _ both Q fun H3 u s3 hu => q H3 u _ ((b.trans (Same.but s2)).trans (Same.but s3)) ((s.same s2).same s3) ⟨ds, rfl, f⟩ (flat_mask (e2.same s3) hu (fl ds f))
    cases h1
    cases h2
    exact h3
/-! ### the start of a def that draws -/
theorem St.hard {H : Hp} {d l c : Addr} {n : Int} (h : St H d l c n) : Hard H d ∧ Hard H l ∧ c ≠ d ∧ c ≠ l := by
  obtain ⟨cells, lefts, m, r', a1, a2, a3, _, _, _, a7, _⟩ := h.ex
  refine ⟨⟨_, a1, (fun _ z => by cases z), fun _ _ z => by cases z⟩, ⟨_, a3, (fun _ z => by cases z), fun _ _ z => by cases z⟩, ?_, a7⟩
  rintro rfl
  rw [a1] at a2
  cases a2
def HoldsF (K : PySem.W.Frag) (H : Hp) (d : Addr) (n : Int) (x : Option V) : Sl → Prop
  | .no => True
  | .da d => flat d = true ∧ ∃ v, x = some v ∧ Da K H v d
  | .st m => x = some (.ref d) ∧ m = n
  | _ => False
def HoldsFL (K : PySem.W.Frag) (H : Hp) (d : Addr) (n : Int) : L2.St → List Sl → Prop
  | [], [] => True
  | x :: xs, s :: ss => HoldsF K H d n x s ∧ HoldsFL K H d n xs ss
  | _, _ => False
theorem HoldsFL.at_ {H : Hp} {d : Addr} {n : Int} : ∀ {sg : L2.St} {r : List Sl}, HoldsFL K H d n sg r → sg.length = r.length ∧ ∀ (i : Nat) s, r[i]? = some s → ∃ x, sg[i]? = some x ∧ HoldsF K H d n x s
  | [], [], _ => ⟨rfl, fun i s h => by simp at h⟩
  | x :: xs, s :: ss, h => by
    obtain ⟨h1, h2⟩ := h
    obtain ⟨l, g⟩ := HoldsFL.at_ h2
    refine ⟨by simp [l], fun i s' hi => ?_⟩
    cases i with
    | zero =>
      simp at hi
      subst hi
      exact ⟨x, rfl, h1⟩
    | succ i => simpa using g i s' (by simpa using hi)
def oneSt : List Sl → Bool
  | [] => true
  | .st _ :: r => r.all fun
    | .st _ => false
    | _ => true
  | _ :: r => oneSt r
theorem noSt_at {r : List Sl} (h : (r.all fun
    | .st _ => false
    | _ => true) = true) (j : Nat) (m : Int) : r[j]? ≠ some (.st m) := fun e => by
  have := List.all_eq_true.mp h _ (List.mem_of_getElem? e)
  cases this
theorem oneSt_at : ∀ {r : List Sl}, oneSt r = true → ∀ (i j : Nat) n m, i ≠ j → r[i]? = some (.st n) → r[j]? = some (.st m) → False
  | [], _, i, j, n, m, _, h, _ => by simp at h
  | .st k :: r, h, i, j, n, m, ne, h1, h2 => by
    match i, j, ne, h1, h2 with
    | 0, 0, ne, _, _ => exact ne rfl
    | 0, j + 1, _, _, h2 => exact noSt_at h j m (by simpa using h2)
    | i + 1, _, _, h1, _ => exact noSt_at h i n (by simpa using h1)
  | .no :: r, h, i, j, n, m, ne, h1, h2 => by
    match i, j, ne, h1, h2 with
    | i + 1, j + 1, ne, h1, h2 => exact oneSt_at (r := r) h i j n m (fun z => ne (by rw [z])) (by simpa using h1) (by simpa using h2)
  | .da d :: r, h, i, j, n, m, ne, h1, h2 => by
    match i, j, ne, h1, h2 with
    | i + 1, j + 1, ne, h1, h2 => exact oneSt_at (r := r) h i j n m (fun z => ne (by rw [z])) (by simpa using h1) (by simpa using h2)
  | .ow d :: r, h, i, j, n, m, ne, h1, h2 => by
    match i, j, ne, h1, h2 with
    | i + 1, j + 1, ne, h1, h2 => exact oneSt_at (r := r) h i j n m (fun z => ne (by rw [z])) (by simpa using h1) (by simpa using h2)
  | .ob d :: r, h, i, j, n, m, ne, h1, h2 => by
    match i, j, ne, h1, h2 with
    | i + 1, j + 1, ne, h1, h2 => exact oneSt_at (r := r) h i j n m (fun z => ne (by rw [z])) (by simpa using h1) (by simpa using h2)
theorem envD0 {H : Hp} {d l c : Addr} {n : Int} {sg : L2.St} (hS : St H d l c n) (h : HoldsFL K H d n sg r) (o : oneSt r = true) : EnvA K (some ⟨d, l, c⟩) H [d, l] H sg r := by
  obtain ⟨h1, h2, h3, h4⟩ := hS.hard
  obtain ⟨ll, g⟩ := h.at_
  have hard : ∀ a ∈ [d, l], Hard H a := fun a ha => by
    rcases List.mem_cons.mp ha with rfl | ha
    · exact h1
    · rw [List.mem_singleton.mp ha]
      exact h2
  refine ⟨ll, fun a ha => ha, fun a ha => .inl ha, hard, Same.refl _, fun i s hi => ?_, fun i j ds es D ne e1 _ _ _ => ?_, fun i j a b ne e1 e2 => oneSt_at o i j a b ne e1 e2⟩
  · obtain ⟨x, hx, k⟩ := g i s hi
    rw [hx]
    cases s with
    | no => trivial
    | da d' =>
      obtain ⟨f, v, rfl, hv⟩ := k
      exact ⟨v, rfl, Da.tupS (mask_tupS hard) _ _ f hv⟩
    | ow ds => exact k.elim
    | ob p => exact k.elim
    | st m =>
      obtain ⟨rfl, rfl⟩ := k
      refine ⟨⟨d, l, c⟩, rfl, rfl, hS, fun z => ?_⟩
      rcases List.mem_cons.mp z with z | z
      · exact h3 z
      · exact h4 (List.mem_singleton.mp z)
  · obtain ⟨x, hx, k⟩ := g i _ e1
    exact k.elim
/-- the body of a def that draws -/
theorem bk_runD {H : Hp} {d l c : Addr} {n : Int} {sg : L2.St} {t : TS} {Q : VK} {N : Hp → Prop} {i : Nat} (hS : St H d l c n) (b : Bk K (some ⟨d, l, c⟩) r t P) (h : HoldsFL K H d n sg r) (o : oneSt r = true) (pc : ∀ r', ¬ P.ct r') (pb : ∀ r', ¬ P.bk r') (pn : ∀ r', P.nx r' → ∃ m, r'[i]? = some (.st m) ∧ ∀ H', But d l H H' → St H' d l c m → N H')
    (pr : ∀ x r', P.rt x r' → ∃ m, r'[i]? = some (.st m) ∧ match x with
    | .da e => ∀ H' v, But d l H H' → St H' d l c m → Da K H' v e → Q v H'
    | .lst ds => ∀ H' D vs, But d l H H' → St H' d l c m → H D = none → H' D = some (.lst vs) → DaAll K H' vs ds → Q (.ref D) H'
    | .ob p => ∀ H' v A, But d l H H' → St H' d l c m → p (Mask A H') v → Q v H') : t { nx := fun _ H' => N H', rt := Q } sg H := by
  have but : ∀ {A' H'}, Same (Mask [d, l] H) (Mask A' H') → But d l H H' := fun {A' H'} s b' o' n1 n2 e => by
    refine mask_same b' o' (s b' o' ?_)
    rw [mask_out fun z => ?_]
    · exact e
    · rcases List.mem_cons.mp z with z | z
      · exact n1 z
      · exact n2 (List.mem_singleton.mp z)
  have stt : ∀ {A' H' sg' r' m}, EnvA K (some ⟨d, l, c⟩) H A' H' sg' r' → r'[i]? = some (.st m) → St H' d l c m := fun e hi => by
    obtain ⟨z, h1, _, h3, _⟩ := e.at_ i _ hi
    cases h1
    exact h3
  refine b H [d, l] H sg _ (envD0 hS h o) ⟨fun A' H' sg' r' p s e => ?_, fun A' H' sg' r' p _ _ => (pc r' p).elim, fun A' H' sg' r' p _ _ => (pb r' p).elim, fun A' H' sg' r' x v p s e q => ?_⟩
  · obtain ⟨m, h1, h2⟩ := pn r' p
    exact h2 H' (but s) (stt e h1)
  · obtain ⟨m, hm, k⟩ := pr x r' p
    cases x with
    | da d' => exact k H' v (but s) (stt e hm) (Da.same mask_same _ _ q)
    | lst ds =>
      obtain ⟨D, vs, rfl, h1, h2, h3, h4⟩ := q
      exact k H' D vs (but s) (stt e hm) ((e.new D h1).resolve_left h2) h3 (DaAll.same mask_same _ _ h4)
    | ob p => exact k H' v A' (but s) (stt e hm) q
/-! ### texts -/
/-- it is this text -/
def isTx (x : Str) : Hp → V → Prop := fun _ v => v = .str x
theorem isTx_mono (x : Str) : Mono (isTx x) := fun _ _ _ _ h => h
theorem xo_repr {t : TE} {d : PyData} (h : EvR K t (view r) d) (p : plainD d = true) (dp : d.depth ≤ 60) (wt : d.weight ≤ 1000000) : ExO K S r (tCB (rReprQ K) (tCons t tNil)) (isTx d.shown) := fun H0 A H sg Q e q => h sg H e.view _ fun H' v s hv => ⟨v, d, rfl, hv, p, dp, wt, q H' _ s rfl⟩
theorem xt_neS {t u : TE} {x y : Str} {b : Bool} (h : ExO K S r t (isTx x)) (g : ExO K S r u (isTx y)) (z : (!decide (x = y)) = b) : ExT K S r (tTest (tOp rNe t u)) b := fun H0 A H sg Q e q => h H0 A H sg _ e fun H1 v s1 hv => g H0 A H1 sg _ (e.same s1) fun H2 w s2 hw => by
  cases hv
  cases hw
  refine ⟨rfl, b, ?_, q H2 (s1.trans s2)⟩
  rw [← z]
  congr 2
  exact decide_eq_decide.mpr ⟨fun k => by cases k; rfl, fun k => by rw [k]⟩
theorem st_parO {t u : TE} {i j : Nat} {p : Hp → V → Prop} {d : PyData} (m : Mono p) (h : ExO K S r t p) (g : ExP K S r u d) : StepM K S r (tPar i j (tCons t (tCons u tNil))) ((r.set i (.ob p)).set j (.da d)) := fun H0 A H sg D e q => h H0 A H sg _ e fun H1 v s1 hv => g H0 A H1 sg _ (e.same s1) fun H2 w s2 hw =>
  ⟨v, w, rfl, q A H2 _ (mask_mono (s1.trans s2)) ((((e.same s1).same s2).put (s := .ob p) (x := some v) ⟨m, v, rfl, m _ _ _ (mask_mono s2) hv⟩ (fun _ z => by cases z) fun _ z => by cases z).setD hw)⟩
end
section
variable {K : PySem.W.Frag} {ρ : Rho}
theorem ev_neI {t u : TE} {i j : Int} {b : Bool} (h : EvR K t ρ (.int i)) (g : EvR K u ρ (.int j)) (z : (!decide (i = j)) = b) : EvR K (tOp rNe t u) ρ (.bool b) := fun sg H en Q q => h sg H en _ fun H1 v s1 hv => g sg H1 (en.same s1) _ fun H2 w s2 hw => by
  cases hv
  cases hw
  have e : (!decide (V.int i = V.int j)) = b := by
    rw [← z]
    congr 1
    exact decide_eq_decide.mpr ⟨fun k => by cases k; rfl, fun k => by rw [k]⟩
  exact ⟨rfl, by rw [e]; exact q H2 _ (s1.trans s2) (.bl b)⟩
theorem ev_eqI {t u : TE} {i j : Int} {b : Bool} (h : EvR K t ρ (.int i)) (g : EvR K u ρ (.int j)) (z : decide (i = j) = b) : EvR K (tOp rEq t u) ρ (.bool b) := fun sg H en Q q => h sg H en _ fun H1 v s1 hv => g sg H1 (en.same s1) _ fun H2 w s2 hw => by
  cases hv
  cases hw
  have e : decide (V.int i = V.int j) = b := by
    rw [← z]
    exact decide_eq_decide.mpr ⟨fun k => by cases k; rfl, fun k => by rw [k]⟩
  exact ⟨rfl, by rw [e]; exact q H2 _ (s1.trans s2) (.bl b)⟩
theorem ev_eqSt {t u : TE} {x y : Str} {b : Bool} (h : EvR K t ρ (.str x)) (g : EvR K u ρ (.str y)) (z : decide (x = y) = b) : EvR K (tOp rEq t u) ρ (.bool b) := fun sg H en Q q => h sg H en _ fun H1 v s1 hv => g sg H1 (en.same s1) _ fun H2 w s2 hw => by
  cases hv
  cases hw
  have e : decide (V.str x = V.str y) = b := by
    rw [← z]
    exact decide_eq_decide.mpr ⟨fun k => by cases k; rfl, fun k => by rw [k]⟩
  exact ⟨rfl, by rw [e]; exact q H2 _ (s1.trans s2) (.bl b)⟩
theorem ev_isNotTF {t u : TE} {c : Bool} {b : Bool} (h : EvR K t ρ (.bool c)) (g : EvR K u ρ (.bool b)) : EvR K (tOp rIsNotTF t u) ρ (.bool (c != b)) := fun sg H en Q q => h sg H en _ fun H1 v s1 hv => g sg H1 (en.same s1) _ fun H2 w s2 hw => by
  cases hv
  cases hw
  refine ⟨b, rfl, ?_⟩
  have e : (!decide (V.bl c = V.bl b)) = (c != b) := by cases c <;> cases b <;> rfl
  rw [e]
  exact q H2 _ (s1.trans s2) (.bl _)
end
end S1
namespace S1
open PySem PySem.Spec PyProof.Rows L2 Jv
section
variable {P : Program} {w : World} {K : PySem.W.Frag} {mg : Str → Option Value} {base : Heap} {C1 C2 C3 C4 : Addr} {ρ : Rho}
/-! ### the mathematics -/
theorem rem_fit {k : Ky} (h : kyShape k = true) : wrFit (remW k) := by
  unfold kyShape at h
  rw [Bool.and_eq_true, Bool.and_eq_true] at h
  obtain ⟨⟨h1, h2⟩, h3⟩ := h
  refine ⟨?_, fun x e => by cases e⟩
  obtain ⟨nm, d, f, al⟩ := k
  unfold wrShape remW
  cases al with
  | true =>
    show (okW lts nm && true && okT' 0 4 f) = true
    rw [show okW lts nm = true from h1, show okT' 0 4 f = true from h3]
    rfl
  | false =>
    show (okW lts nm && okT' 2 5 d && okT' 0 4 f) = true
    rw [show okW lts nm = true from h1, show okT' 2 5 d = true from h2, show okT' 0 4 f = true from h3]
    rfl
theorem plus_fit {p : Pg} {ks : List Ky} (h : pgFit p) (hk : ∀ k ∈ ks, kyShape k = true) (l : p.ws.length + ks.length ≤ 5) : pgFit (plusP p ks) := by
  have all : ∀ wr ∈ (plusP p ks).ws, wrFit wr := fun wr hw => by
    rcases List.mem_append.mp hw with hw | hw
    · exact h.2 wr hw
    · obtain ⟨k, hk', rfl⟩ := List.mem_map.mp hw
      exact rem_fit (hk k hk')
  refine ⟨?_, all⟩
  have h1 := h.1
  unfold pgShape at h1 ⊢
  rw [Bool.and_eq_true, Bool.and_eq_true, Bool.and_eq_true] at h1 ⊢
  refine ⟨⟨h1.1.1, ?_⟩, List.all_eq_true.mpr fun wr hw => (all wr hw).1⟩
  refine decide_eq_true ?_
  show (p.ws ++ ks.map remW).length ≤ 5
  rw [List.length_append, List.length_map]
  exact l
theorem set_fit {s : List Pg} {n : Nat} {p : Pg} {ks : List Ky} (fs : siteFit s) (ep : s[n]? = some p) (hk : ∀ k ∈ ks, kyShape k = true) (l : p.ws.length + ks.length ≤ 5) : siteFit (s.set n (plusP p ks)) := by
  refine ⟨by rw [List.length_set]; exact fs.1, by rw [List.length_set]; exact fs.2.1, fun q hq => ?_⟩
  rcases mem_set ep hq with rfl | hq
  · exact plus_fit (fs.2.2 p (List.mem_of_getElem? ep)) hk l
  · exact fs.2.2 q hq
theorem signed_pos {s : List Pg} {n : Nat} {nm : Str} {row : List Nat} (h : row ∈ rowsM s.length 2) (hl : leavesM s (row ++ [n]) nm = true) : signedM s n nm ≠ 0 := by
  unfold signedM
  cases e : (rowsM s.length 2).find? fun row => leavesM s (row ++ [n]) nm with
  | none =>
    rw [List.find?_eq_none] at e
    exact absurd hl (e row h)
  | some r => exact Nat.succ_ne_zero _
theorem signed_none {s : List Pg} {n : Nat} {nm : Str} (h : ∀ row, leavesM s (row ++ [n]) nm = false) : signedM s n nm = 0 := by
  unfold signedM
  rw [List.find?_eq_none.mpr fun row _ => by rw [h row]; exact Bool.false_ne_true]
theorem bey_none {s : List Pg} {p : Pg} {nm : Str} (h : (beyM s p nm).isEmpty = true) : ∀ k ∈ lackM s p nm, takenM p.ad (remW k) = true ∧ keyM p.ad (remW k) = k := fun k hk => by
  refine rem_taken ?_
  rw [List.isEmpty_iff] at h
  unfold beyM at h
  rw [List.filter_eq_nil_iff] at h
  simpa using h k hk
theorem lackM_nodup (s : List Pg) (p : Pg) (nm : Str) : (lackM s p nm).Nodup := by
  unfold lackM
  refine List.Nodup.sublist List.filter_sublist (List.Nodup.sublist List.filter_sublist ?_)
  unfold keysM
  exact (kySort_perm _).nodup_iff.mpr (ddK_nodup _)
theorem bey_nil {s : List Pg} {p : Pg} {nm : Str} (h : (lackM s p nm).isEmpty = true) : beyM s p nm = [] := by
  unfold beyM
  rw [List.isEmpty_iff.mp h]
  rfl
theorem mend_none {s : List Pg} {n : Nat} {p : Pg} (ep : s[n]? = some p) : mendS s n p [] = s := by
  have ln := (List.getElem?_eq_some_iff.mp ep).1
  rw [mendS_at ln]
  unfold plusP
  rw [List.map_nil, List.append_nil]
  have e : s[n] = p := (List.getElem?_eq_some_iff.mp ep).2
  rw [show (⟨p.ad, p.ws⟩ : Pg) = p from rfl, ← e, List.set_getElem_self]
theorem mendM_due {s : List Pg} {n : Nat} {p : Pg} {nm : Str} (fp : pgFit p) (ep : s[n]? = some p) : mendM s n p nm = if !(beyM s p nm).isEmpty || decide (5 < p.ws.length + (lackM s p nm).length) then .none else sitePy (mendS s n p (lackM s p nm)) := by
  unfold mendM
  by_cases z : (lackM s p nm).isEmpty = true
  · rw [if_pos z, bey_nil z, List.isEmpty_iff.mp z]
    have l5 := fp.len
    rw [if_neg (by simp; omega), mend_none ep]
  · rw [if_neg z]
theorem not_mem_erase {α : Type} : ∀ {l : List α} {i : Nat} {x : α}, l[i]? = some x → l.Nodup → x ∉ l.eraseIdx i
  | a :: l, 0, x, h, nd, hx => by
    cases h
    exact (List.nodup_cons.mp nd).1 hx
  | a :: l, i + 1, x, h, nd, hx => by
    have h : l[i]? = some x := h
    obtain ⟨n1, n2⟩ := List.nodup_cons.mp nd
    rcases List.mem_cons.mp hx with rfl | hx
    · exact n1 (List.mem_of_getElem? h)
    · exact not_mem_erase h n2 hx
theorem replace_at {α : Type} {a b : List α} {x y : α} {n : Nat} (h : a.length = n) : (a ++ x :: b).take n ++ [y] ++ (a ++ x :: b).drop (n + 1) = a ++ y :: b := by
  subst h
  have e : (a ++ x :: b).drop (a.length + 1) = b := by
    rw [show a ++ x :: b = (a ++ [x]) ++ b by simp]
    exact List.drop_left' (by simp)
  rw [List.take_left' rfl, e]
  simp
theorem small_optT {lo hi : Int} {o : Option (List Str)} (h : ∀ d, o = some d → okT' lo hi d = true) (h5 : hi ≤ 5) : Small (optT o) 40 ∧ (optT o).depth ≤ 1 := by
  cases o with
  | none => exact ⟨⟨rfl, by decide, by decide⟩, by decide⟩
  | some d =>
    refine ⟨small_strs (h d rfl) h5, ?_⟩
    show PyData.depthAll (d.map .str) + 1 ≤ 1
    rw [depth_strs]
    decide
theorem small_optS {o : Option Str} (h : ∀ x, o = some x → okW sgs x = true) : Small (optS o) 6 ∧ (optS o).depth = 0 := by
  cases o with
  | none => exact ⟨⟨rfl, by decide, by decide⟩, rfl⟩
  | some x => exact ⟨⟨okW_str sgs_low (h x rfl), by show 0 ≤ 10; decide, okW_len (h x rfl)⟩, rfl⟩
theorem small_wr {wr : Wr} (h : wrFit wr) : Small wr.py 200 ∧ wr.py.depth ≤ 2 := by
  obtain ⟨h1, h2⟩ := h
  unfold wrShape at h1
  rw [Bool.and_eq_true, Bool.and_eq_true] at h1
  obtain ⟨⟨a1, a2⟩, a3⟩ := h1
  obtain ⟨d1, d2⟩ := small_optT (lo := 2) (hi := 5) (o := wr.dom) (fun d e => by rw [e] at a2; exact a2) (by decide)
  obtain ⟨f1, f2⟩ := small_optT (lo := 0) (hi := 4) (o := wr.fold) (fun d e => by rw [e] at a3; exact a3) (by decide)
  obtain ⟨v1, v2⟩ := small_optS h2
  have dd : wr.py.depth ≤ 2 := by
    show max 0 (max (optS wr.val).depth (max (optT wr.dom).depth (max (optT wr.fold).depth (max 0 0)))) + 1 ≤ 2
    omega
  refine ⟨⟨?_, by omega, ?_⟩, dd⟩
  · show (PyData.strOk wr.name && (plainD (optS wr.val) && (plainD (optT wr.dom) && (plainD (optT wr.fold) && (true && true))))) = true
    rw [okW_str lts_low a1, v1.pl, d1.pl, f1.pl]
    rfl
  · show wr.name.cps.size + 1 + ((optS wr.val).weight + 1 + ((optT wr.dom).weight + 1 + ((optT wr.fold).weight + 1 + (0 + 1 + 0)))) ≤ 200
    have h6 : wr.name.cps.size ≤ 6 := okW_len a1
    have := v1.wt
    have := d1.wt
    have := f1.wt
    omega
theorem small_pg {p : Pg} (h : pgFit p) : plainD p.py = true ∧ p.py.depth ≤ 4 ∧ p.py.weight ≤ 2000 := by
  have h1 := h.1
  unfold pgShape at h1
  rw [Bool.and_eq_true, Bool.and_eq_true, Bool.and_eq_true] at h1
  obtain ⟨⟨⟨a1, a2⟩, a3⟩, _⟩ := h1
  have a3 := of_decide_eq_true a3
  have b := small_strs a1 (by decide)
  have c := small_strs a2 (by decide)
  have l : plainAll (p.ws.map Wr.py) = true := plainAll_of fun d hd => by
    obtain ⟨wr, hw, rfl⟩ := List.mem_map.mp hd
    exact (small_wr (h.2 wr hw)).1.pl
  have ww := weightAll_le (B := 200) (ds := p.ws.map Wr.py) fun d hd => by
    obtain ⟨wr, hw, rfl⟩ := List.mem_map.mp hd
    exact (small_wr (h.2 wr hw)).1.wt
  rw [List.length_map] at ww
  refine ⟨?_, (pg_lay h).2, ?_⟩
  · show (plainD (.tuple [.tuple (p.ad.host.map .str), .tuple (p.ad.path.map .str), .bool p.ad.sec]) && (plainAll (p.ws.map Wr.py) && true)) = true
    show ((plainD (.tuple (p.ad.host.map .str)) && (plainD (.tuple (p.ad.path.map .str)) && (true && true))) && (plainAll (p.ws.map Wr.py) && true)) = true
    rw [b.pl, c.pl, l]
    rfl
  · show (PyData.weight (.tuple (p.ad.host.map .str)) + 1 + (PyData.weight (.tuple (p.ad.path.map .str)) + 1 + (0 + 1 + 0))) + 1 + (PyData.weightAll (p.ws.map Wr.py) + 1 + 0) ≤ 2000
    have := b.wt
    have := c.wt
    omega
theorem small_site {s : List Pg} (h : siteFit s) : plainD (sitePy s) = true ∧ (sitePy s).depth ≤ 60 ∧ (sitePy s).weight ≤ 1000000 := by
  refine ⟨?_, ?_, ?_⟩
  · exact plainAll_of fun d hd => by
      obtain ⟨p, hp, rfl⟩ := List.mem_map.mp hd
      exact (small_pg (h.2.2 p hp)).1
  · have := depthAll_le (B := 4) (ds := s.map Pg.py) fun d hd => by
      obtain ⟨p, hp, rfl⟩ := List.mem_map.mp hd
      exact (small_pg (h.2.2 p hp)).2.1
    show PyData.depthAll (s.map Pg.py) + 1 ≤ 60
    omega
  · have := weightAll_le (B := 2000) (ds := s.map Pg.py) fun d hd => by
      obtain ⟨p, hp, rfl⟩ := List.mem_map.mp hd
      exact (small_pg (h.2.2 p hp)).2.2
    have := h.2.1
    rw [List.length_map] at *
    show PyData.weightAll (s.map Pg.py) ≤ 1000000
    omega
theorem nats_of {ds : List PyData} {many : Int} (h : ∀ x ∈ ds, ∃ k : Nat, x = .int (k : Nat) ∧ (k : Int) < many) : ∃ row : List Nat, ds = row.map natD ∧ ∀ k ∈ row, (k : Int) < many := by
  induction ds with
  | nil => exact ⟨[], rfl, fun k hk => by cases hk⟩
  | cons d ds ih =>
    obtain ⟨k, e, lt⟩ := h d List.mem_cons_self
    obtain ⟨row, e2, h2⟩ := ih fun x hx => h x (List.mem_cons_of_mem _ hx)
    subst e e2
    exact ⟨k :: row, rfl, fun x hx => (List.mem_cons.mp hx).elim (fun z => z ▸ lt) (h2 x)⟩
/-! ### the program's defs, called where nothing is raised -/
theorem gate_ok {H H' : Hp} {E : XK} {s : List Pg} {n : Nat} {p : Pg} {nm : Str} {v u : V} {R : List Pg → Nat → Pg → Str → Prop} (good : siteBad (sitePy s) = none) (ep : s[n]? = some p) (ow : okW lts nm = true) (l6 : (keysM s).length ≤ 6) (q : R s n p nm) : Gate K C1 C2 C3 C4 H E (sitePy s) (.int (n : Nat)) (.str nm) u v R := by
  refine ⟨(fun ns hb => by rw [good] at hb; cases hb), fun s' _ es => ?_⟩
  obtain rfl := sitePy_injP es
  have ln := (List.getElem?_eq_some_iff.mp ep).1
  refine ⟨fun hn => ?_, fun n' p' en ep' => ?_⟩
  · have num : isNum (s.length : Int) (.int (n : Nat)) = true := by
      show (decide ((0 : Int) ≤ (n : Int)) && decide ((n : Int) < (s.length : Int))) = true
      rw [decide_eq_true (by omega), decide_eq_true (by omega)]
      rfl
    rw [num] at hn
    cases hn
  · obtain rfl : n = n' := by
      injection en with en
      omega
    obtain rfl : p = p' := Option.some.inj (ep.symm.trans ep')
    refine ⟨fun ho => ?_, fun nm' e1 _ => ?_⟩
    · have ho : okW lts nm = false := ho
      rw [ow] at ho
      cases ho
    · cases e1
      exact ⟨fun l => by omega, fun _ => q⟩
section
variable {t u v : TE} {s : List Pg} {n : Nat} {p : Pg} {nm : Str}
theorem ev_lack0 (h : EvR K t ρ (sitePy s)) (g : EvR K u ρ (.int (n : Nat))) (k : EvR K v ρ (.str nm)) (good : siteBad (sitePy s) = none) (ep : s[n]? = some p) (ow : okW lts nm = true) (l6 : (keysM s).length ≤ 6) :
    EvR K (tCall (spLack K C1 C2 C3 C4) [] E0 (tCons t (tCons u (tCons v tNil)))) ρ (.tuple ((lackM s p nm).map Ky.py)) := fun sg H en Q q => h sg H en _ fun H1 x s1 hx => g sg H1 (en.same s1) _ fun H2 y s2 hy => k sg H2 ((en.same s1).same s2) _ fun H3 z s3 hz =>
  ⟨x, y, z, sitePy s, .int (n : Nat), .str nm, rfl, Da.same (s2.trans s3) _ _ hx, Da.same s3 _ _ hy, hz, gate_ok (H' := H3) good ep ow l6 fun H4 v s4 hv => q H4 v (((s1.trans s2).trans s3).trans s4) hv⟩
theorem ev_bey0 (h : EvR K t ρ (sitePy s)) (g : EvR K u ρ (.int (n : Nat))) (k : EvR K v ρ (.str nm)) (good : siteBad (sitePy s) = none) (ep : s[n]? = some p) (ow : okW lts nm = true) (l6 : (keysM s).length ≤ 6) :
    EvR K (tCall (spBey K C1 C2 C3 C4) [] E0 (tCons t (tCons u (tCons v tNil)))) ρ (.tuple ((beyM s p nm).map Ky.py)) := fun sg H en Q q => h sg H en _ fun H1 x s1 hx => g sg H1 (en.same s1) _ fun H2 y s2 hy => k sg H2 ((en.same s1).same s2) _ fun H3 z s3 hz =>
  ⟨x, y, z, sitePy s, .int (n : Nat), .str nm, rfl, Da.same (s2.trans s3) _ _ hx, Da.same s3 _ _ hy, hz, gate_ok (H' := H3) good ep ow l6 fun H4 v s4 hv => q H4 v (((s1.trans s2).trans s3).trans s4) hv⟩
theorem ev_mend0 (h : EvR K t ρ (sitePy s)) (g : EvR K u ρ (.int (n : Nat))) (k : EvR K v ρ (.str nm)) (good : siteBad (sitePy s) = none) (ep : s[n]? = some p) (ow : okW lts nm = true) (l6 : (keysM s).length ≤ 6) :
    EvR K (tCall (spMend K C1 C2 C3 C4) [] E0 (tCons t (tCons u (tCons v tNil)))) ρ (mendM s n p nm) := fun sg H en Q q => h sg H en _ fun H1 x s1 hx => g sg H1 (en.same s1) _ fun H2 y s2 hy => k sg H2 ((en.same s1).same s2) _ fun H3 z s3 hz =>
  ⟨x, y, z, sitePy s, .int (n : Nat), .str nm, rfl, Da.same (s2.trans s3) _ _ hx, Da.same s3 _ _ hy, hz, gate_ok (H' := H3) good ep ow l6 fun H4 v s4 hv => q H4 v (((s1.trans s2).trans s3).trans s4) hv⟩
theorem ev_signs0 (h : EvR K t ρ (sitePy s)) (g : EvR K u ρ (.int (n : Nat))) (k : EvR K v ρ (.str nm)) (good : siteBad (sitePy s) = none) (ep : s[n]? = some p) (ow : okW lts nm = true) (l6 : (keysM s).length ≤ 6) :
    EvR K (tCall (spSigns K C1 C2 C3 C4) [] E0 (tCons t (tCons u (tCons v tNil)))) ρ (.bool (lackM s p nm).isEmpty) := fun sg H en Q q => h sg H en _ fun H1 x s1 hx => g sg H1 (en.same s1) _ fun H2 y s2 hy => k sg H2 ((en.same s1).same s2) _ fun H3 z s3 hz =>
  ⟨x, y, z, sitePy s, .int (n : Nat), .str nm, rfl, Da.same (s2.trans s3) _ _ hx, Da.same s3 _ _ hy, hz, gate_ok (H' := H3) good ep ow l6 fun H4 s4 => q H4 _ (((s1.trans s2).trans s3).trans s4) (.bl _)⟩
theorem ev_signed (h : EvR K t ρ (sitePy s)) (g : EvR K u ρ (.int (n : Nat))) (k : EvR K v ρ (.str nm)) (fs : siteFit s) (ln : n < s.length) (ow : okW lts nm = true) : EvR K (tCall (spSigned K) [] E0 (tCons t (tCons u (tCons v tNil)))) ρ (.int (signedM s n nm : Nat)) := fun sg H en Q q => h sg H en _ fun H1 x s1 hx => g sg H1 (en.same s1) _ fun H2 y s2 hy => k sg H2 ((en.same s1).same s2) _ fun H3 z s3 hz => by
  cases hy
  cases hz
  exact ⟨x, s, n, nm, rfl, Da.same (s2.trans s3) _ _ hx, fs, ln, ow, fun H4 s4 => q H4 _ (((s1.trans s2).trans s3).trans s4) (.int _)⟩
end
end
end S1
namespace S1
open PySem PySem.Spec PyProof.Rows L2 Jv
section
variable {P : Program} {w : World} {K : PySem.W.Frag} {mg : Str → Option Value} {base : Heap} {C1 C2 C3 C4 : Addr} {ρ : Rho}
def spDue (K : PySem.W.Frag) : Sp := fun vs H Q _ => ∃ v s n p nm, vs = [v, .int (n : Nat), .str nm] ∧ Da K H v (sitePy s) ∧ siteFit s ∧ s[n]? = some p ∧ okW lts nm = true ∧ (keysM s).length ≤ 6 ∧ ∀ H' u, Same H H' → Da K H' u (mendM s n p nm) → Q u H'
theorem ok_law_due (T : Txt K mg) (n1 : Exn P w K mg base "BadSite" "place" C1) (n2 : Exn P w K mg base "BadPage" "given" C2) (n3 : Exn P w K mg base "BadName" "given" C3) (n4 : Exn P w K mg base "TooMany" "most" C4) : Ok P w K mg base "_law_due" P__law_due 11 (spDue K) := by
  have ok_lacking : OkX P w K mg base "lacking" P_lacking 9 (spLack K C1 C2 C3 C4) := ok_lacking T n1 n2 n3 n4
  have ok_beyond : OkX P w K mg base "beyond" P_beyond 10 (spBey K C1 C2 C3 C4) := ok_beyond T n1 n2 n3 n4
  refine T.d__law_due.ok sc__law_due (fun vs H Q E h => ?_) (fun f cdv A out s H vs Q E hr h => ?_)
  · obtain ⟨v, s, n, p, nm, rfl, _⟩ := h
    rfl
  · obtain ⟨v, si, n, p, nm, rfl, hv, fs, ep, ow, l6, q⟩ := h
    refine ⟨_, (pss_cons (ps_asg (pe_ix (show IxR _ (rIxT K) from ix_tup) (pv 0) (pv 1) (fun _ _ => rfl)) (pg_tup rfl (pgs_cons (pg_name (i := 3) sc__law_due.nd rfl (Or.inl rfl)) (pgs_cons (pg_name (i := 4) sc__law_due.nd rfl (Or.inl rfl)) pgs_nil))))
    (pss_cons (ps_set (i := 5) sc__law_due.nd rfl (Or.inl rfl) (pe_okX0 ok_lacking (hr.mono (by decide)) (pa_cons (pv 0) (pa_cons (pv 1) (pa_cons (pv 2) pa_nil)))))
    (pss_cons (ps_if (PW.pt (pw_or (pt_cmpR (show OpR _ _ (rNeA K) from op_neA hr.units) (pe_okX0 ok_beyond (hr.mono (by decide)) (pa_cons (pv 0) (pa_cons (pv 1) (pa_cons (pv 2) pa_nil)))) (pe_tup pa_nil) (nomark _)) (pw_or1 (pt_cmpR op_gt (pe_op op_add (pe_callB call_len (by rfl) T.z_len (by decide +kernel) (pa_cons (pv 4) pa_nil)) (pe_callB call_len (by rfl) T.z_len (by decide +kernel) (pa_cons (pv 5) pa_nil))) pe_int (nomark _))))) (pss_one (ps_ret pe_non)) pss_nil)
    (pss_cons (ps_setLc (i := 6) (own := [("word", 7), ("domain", 8), ("folder", 9), ("alone", 10)]) (g := gTup K 4 (gCons (gName 7) (gCons (gName 8) (gCons (gName 9) (gCons (gName 10) gNil))))) (tt := tYes) rfl sc__law_due.nd rfl rfl (sw_true rfl rfl rfl (by decide +kernel)) (pi_tup (pv 5)) (blkOk_by (N := N__law_due) (sc := defScope st__law_due) (by decide +kernel)) (fun _ _ _ _ _ => (pg_tup rfl (pgs_cons (pg_name (i := 7) sc__law_due.nd rfl (Or.inl rfl)) (pgs_cons (pg_name (i := 8) sc__law_due.nd rfl (Or.inl rfl)) (pgs_cons (pg_name (i := 9) sc__law_due.nd rfl (Or.inl rfl)) (pgs_cons (pg_name (i := 10) sc__law_due.nd rfl (Or.inl rfl)) pgs_nil)))))) (fun _ _ _ _ _ => pts_nil) (fun _ _ _ _ _ => (pe_tup (pa_cons (pv 2) (pa_cons pe_non (pa_cons (pe_ifExp (pt_val (pv 10)) pe_non (pv 8)) (pa_cons (pv 9) (pa_cons pe_bl pa_nil))))))))
    (pss_one (ps_ret (pe_op (show OpR _ _ (rCatA K) from op_catA) (pe_op (show OpR _ _ (rCatA K) from op_catA) (pe_slice (show SlR _ (rSlA K) from sl_tupA) (pv 0) po_none (po_some (pv 1))) (pe_tup (pa_cons (pe_tup (pa_cons (pv 3) (pa_cons (pe_op (show OpR _ _ (rCatA K) from op_catA) (pv 4) (pe_callTy call_tuple_of (by rfl) T.z_tuple (by decide +kernel) (pa_cons (pv 6) pa_nil))) pa_nil))) pa_nil))) (pe_slice (show SlR _ (rSlA K) from sl_tupA) (pv 0) (po_some (pe_op op_add (pv 1) pe_int)) po_none)))))))), ?_⟩
    have good := fs.good
    have fp := fs.2.2 p (List.mem_of_getElem? ep)
    have l5 := fp.len
    have l5s := fs.2.1
    have ln := (List.getElem?_eq_some_iff.mp ep).1
    have ll := lackM_len good p nm
    have ie : ∀ ks : List Ky, (ks.map Ky.py).isEmpty = ks.isEmpty := fun ks => by cases ks <;> rfl
    refine bk_run (K := K) (r := [.da (sitePy si), .da (.int (n : Nat)), .da (.str nm), .no, .no, .no, .no, .no, .no, .no, .no]) (P := ⟨fun _ => False, fun _ => False, fun _ => False, fun y _ => y = .da (mendM si n p nm)⟩) ?_ ⟨hold_da hv, hold_da (.int _), hold_da (.str _ (Nat.le_trans (okW_len ow) (by decide))), trivial, trivial, trivial, trivial, trivial, trivial, trivial, trivial, trivial⟩ trivial (fun _ h => h) (fun _ h => h) (fun _ h => h.elim) (fun y r' h => by subst h; exact fun H' v s hv => q H' v s hv)
    have ev1 : EvR K (tOp (rIxT K) (tVar 0) (tVar 1)) (view [.da (sitePy si), .da (.int (n : Nat)), .da (.str nm), .no, .no, .no, .no, .no, .no, .no, .no]) p.py := ev_ixT (ds := si.map Pg.py) (i := n) (ev_var rfl) (ev_var rfl) (by rw [List.getElem?_map, ep]; rfl)
    refine bk_tg (d := .tuple [p.ad.py, .tuple (p.ws.map Wr.py)]) ev1 (pg_flat p) (tg_tup (tgs_cons tg_name (tgs_cons tg_name tgs_nil)) rfl) ?_
    refine bk_then (st_asg (ev_lack0 (ev_var rfl) (ev_var rfl) (ev_var rfl) good ep ow l6) (show flat (.tuple ((lackM si p nm).map Ky.py)) = true from flatAll_map _ ky_flat)) ?_
    refine bk_ifS (b := !(beyM si p nm).isEmpty || decide (5 < p.ws.length + (lackM si p nm).length)) (evt_orB (b := !(beyM si p nm).isEmpty) (evt_test ?hN) (fun hb2 => ?_) (fun hb2 => by rw [hb2]; rfl)) (fun hb2 => ?_) (fun hb2 => bk_nextS ?_)
    case hN =>
      refine ev_ne (ev_bey0 (ev_var rfl) (ev_var rfl) (ev_var rfl) good ep ow l6) (ev_tup eva_nil (by decide)) (kys_shapedT ?_) rfl (by rw [eqv_emptyT])
      exact fun k hk => lackM_fit fs k (List.mem_filter.mp hk).1
    · rw [hb2, Bool.false_or]
      refine evt_test (EvR.to (ev_gtI (i := ((p.ws.map Wr.py).length : Int) + (((lackM si p nm).map Ky.py).length : Int)) (j := 5) (ev_addI (ev_lenT (ds := p.ws.map Wr.py) (ev_var rfl)) (ev_lenT (ds := (lackM si p nm).map Ky.py) (ev_var rfl)) rfl) ev_int) ?_)
      rw [List.length_map, List.length_map]
      congr 1
      exact decide_eq_decide.mpr (by omega)
    · refine bk_retS ev_non rfl ?_
      rw [mendM_due fp ep, if_pos hb2]
    · have few : p.ws.length + (lackM si p nm).length ≤ 5 := by
        rw [Bool.or_eq_false_iff, decide_eq_false_iff_not] at hb2
        omega
      refine bk_then (st_new (evf_lc (lackM si p nm) Ky.py (fun k => (remW k).py) (fun _ => true) (itr_tup (ev_var rfl)) (by omega) (fun k hk => ⟨_, te_tup (tes_cons (te_name (by decide)) (tes_cons (te_name (by decide)) (tes_cons (te_name (by decide)) (tes_cons (te_name (by decide)) tes_nil)))) rfl, evt_yes, fun _ => ⟨?hE, wr_flat _⟩⟩)) (flatAll_map _ fun k => wr_flat _)) ?_
      case hE =>
        have nk : k.name = nm := (lackM_sub hk).2.2.1
        refine EvR.to (ev_tup (ds := [.str nm, .none, optT (if k.alone then none else some k.dom), .tuple (k.fold.map .str), .bool false]) (eva_cons (ev_var rfl) (eva_cons ev_non (eva_cons (ev_if (b := k.alone) (evt_b (ev_var rfl)) (fun h => ?_) (fun h => ?_)) (eva_cons (ev_var rfl) (eva_cons ev_bl eva_nil))))) (by show 5 ≤ 1000; decide)) ?_
        · rw [h]
          exact ev_non
        · rw [h]
          exact ev_var rfl
        · rw [← nk]
          rfl
      rw [filter_yes]
      refine bk_ret (d := sitePy (mendS si n p (lackM si p nm))) (EvR.to (ev_cat (ev_cat (ev_slTo (ds := si.map Pg.py) (ev_var rfl) (ev_var rfl)) (ev_tup (eva_cons (ev_tup (eva_cons (ev_var rfl) (eva_cons (ev_cat (as := p.ws.map Wr.py) (bs := (lackM si p nm).map fun k => (remW k).py) (ev_var rfl) (ev_tupL (ev_own rfl (by rw [List.length_map]; omega))) ?hA) eva_nil)) (by show 2 ≤ 1000; decide)) eva_nil) (by show 1 ≤ 1000; decide)) ?hB) (ev_slFrom (ds := si.map Pg.py) (c := n + 1) (ev_var rfl) (ev_addI (i := n) (j := 1) (ev_var rfl) ev_int rfl)) ?hC) ?hD) (site_flat _) ?hE
      case hA =>
        rw [List.length_map, List.length_map]
        omega
      case hB =>
        rw [List.length_take, List.length_map]
        show _ + 1 ≤ 1000
        omega
      case hC =>
        rw [List.length_append, List.length_take, List.length_drop, List.length_map]
        show _ + 1 + _ ≤ 1000
        omega
      case hD =>
        unfold mendS sitePy
        rw [List.map_append, List.map_append, List.map_take, List.map_drop]
        show PyData.tuple (_ ++ [PyData.tuple [p.ad.py, PyData.tuple _]] ++ _) = PyData.tuple (_ ++ [PyData.tuple [p.ad.py, PyData.tuple ((p.ws ++ (lackM si p nm).map remW).map Wr.py)]] ++ _)
        rw [List.map_append, List.map_map]
        rfl
      case hE =>
        show Rt.da _ = Rt.da (mendM si n p nm)
        rw [mendM_due fp ep, if_neg (by rw [hb2]; exact Bool.false_ne_true)]
def spLeast (K : PySem.W.Frag) : Sp := fun vs H Q _ => ∃ v s n p nm ks, vs = [v, .int (n : Nat), .str nm, .int (ks.length : Nat)] ∧ Da K H v (sitePy (mendS s n p ks)) ∧ siteFit s ∧ s[n]? = some p ∧ okW lts nm = true ∧ ks = lackM s p nm ∧ p.ws.length + ks.length ≤ 5 ∧ (beyM s p nm).isEmpty = true ∧ ∀ H', Same H H' → Q (.bl true) H'
theorem ok_law_is_least (T : Txt K mg) : Ok P w K mg base "_law_is_least" P__law_is_least 5 (spLeast K) := by
  have ok__law_signed : Ok P w K mg base "_law_signed" P__law_signed 4 (spSigned K) := ok_law_signed T
  refine T.d__law_is_least.ok sc__law_is_least (fun vs H Q E h => ?_) (fun f cdv A out s H vs Q E hr h => ?_)
  · obtain ⟨v, s, n, p, nm, ks, rfl, _⟩ := h
    rfl
  · obtain ⟨v, si, n, p, nm, ks, rfl, hv, fs, ep, ow, eks, l5, nb, q⟩ := h
    refine ⟨_, (pss_cons (ps_asg (pe_ix (show IxR _ (rIxT K) from ix_tup) (pv 0) (pv 1) (fun _ _ => rfl)) (pg_tup rfl (pgs_cons (pg_name (i := 4) sc__law_is_least.nd rfl (Or.inl rfl)) (pgs_cons (pg_name (i := 5) sc__law_is_least.nd rfl (Or.inl rfl)) pgs_nil))))
    (pss_cons (ps_for PassesOwn.never rfl (pi_range2 (by rfl) T.z_range (pa_cons (pe_op op_sub (pe_callB call_len (by rfl) T.z_len (by decide +kernel) (pa_cons (pv 5) pa_nil)) (pv 3)) (pa_cons (pe_callB call_len (by rfl) T.z_len (by decide +kernel) (pa_cons (pv 5) pa_nil)) pa_nil))) (pg_name (i := 6) sc__law_is_least.nd rfl (Or.inl rfl)) (pss_cons (ps_set (i := 7) sc__law_is_least.nd rfl (Or.inl rfl) (pe_tup (pa_cons (pv 4) (pa_cons (pe_op (show OpR _ _ (rCatA K) from op_catA) (pe_slice (show SlR _ (rSlA K) from sl_tupA) (pv 5) po_none (po_some (pv 6))) (pe_slice (show SlR _ (rSlA K) from sl_tupA) (pv 5) (po_some (pe_op op_add (pv 6) pe_int)) po_none)) pa_nil))))
      (pss_cons (ps_set (i := 7) sc__law_is_least.nd rfl (Or.inl rfl) (pe_op (show OpR _ _ (rCatA K) from op_catA) (pe_op (show OpR _ _ (rCatA K) from op_catA) (pe_slice (show SlR _ (rSlA K) from sl_tupA) (pv 0) po_none (po_some (pv 1))) (pe_tup (pa_cons (pv 7) pa_nil))) (pe_slice (show SlR _ (rSlA K) from sl_tupA) (pv 0) (po_some (pe_op op_add (pv 1) pe_int)) po_none)))
      (pss_one (ps_if (pt_cmpR (show OpR _ _ (rEqA K) from op_eqA hr.units) (pe_ok ok__law_signed (hr.mono (by decide)) (pa_cons (pv 7) (pa_cons (pv 1) (pa_cons (pv 2) pa_nil)))) pe_int (nomark _)) (pss_one (ps_ret pe_bl)) pss_nil)))))
    (pss_one (ps_ret pe_bl)))), ?_⟩
    have l5s := fs.2.1
    have ln := (List.getElem?_eq_some_iff.mp ep).1
    have hks := bey_none nb
    have fitL : ∀ k ∈ ks, kyShape k = true := fun k hk => lackM_fit fs k (eks ▸ hk)
    have em : mendS si n p ks = si.set n (plusP p ks) := mendS_at ln
    rw [em] at hv
    have ep2 : (si.set n (plusP p ks))[n]? = some (plusP p ks) := List.getElem?_set_self ln
    have lw : (plusP p ks).ws.length = p.ws.length + ks.length := by
      show (p.ws ++ ks.map remW).length = _
      rw [List.length_append, List.length_map]
    refine bk_run (K := K) (r := [.da (sitePy (si.set n (plusP p ks))), .da (.int (n : Nat)), .da (.str nm), .da (.int (ks.length : Nat)), .no, .no, .no, .no]) (P := ⟨fun _ => False, fun _ => False, fun _ => False, fun y _ => y = .da (.bool true)⟩) ?_ ⟨hold_da hv, hold_da (.int _), hold_da (.str _ (Nat.le_trans (okW_len ow) (by decide))), hold_da (.int _), trivial, trivial, trivial, trivial, trivial⟩ trivial (fun _ h => h) (fun _ h => h) (fun _ h => h.elim) (fun y r' h => by
      subst h
      exact fun H' v s hv => by
        cases hv
        exact q H' s)
    have ev1 : EvR K (tOp (rIxT K) (tVar 0) (tVar 1)) (view [.da (sitePy (si.set n (plusP p ks))), .da (.int (n : Nat)), .da (.str nm), .da (.int (ks.length : Nat)), .no, .no, .no, .no]) (plusP p ks).py := ev_ixT (ds := (si.set n (plusP p ks)).map Pg.py) (i := n) (ev_var rfl) (ev_var rfl) (by rw [List.getElem?_map, ep2]; rfl)
    refine bk_tg (d := .tuple [p.ad.py, .tuple ((plusP p ks).ws.map Wr.py)]) ev1 (pg_flat (plusP p ks)) (tg_tup (tgs_cons tg_name (tgs_cons tg_name tgs_nil)) rfl) ?_
    refine bk_seq (bk_for (it_rng2 (m := p.ws.length) (n := p.ws.length + ks.length) (ev_subI (i := ((plusP p ks).ws.map Wr.py).length) (j := ks.length) (ev_lenT (ds := (plusP p ks).ws.map Wr.py) (ev_var rfl)) (ev_var rfl) (by rw [List.length_map, lw]; omega)) (EvR.to (ev_lenT (ds := (plusP p ks).ws.map Wr.py) (ev_var rfl)) (by rw [List.length_map, lw])) (by omega) (by omega)) (fun i r1 => r1 = [.da (sitePy (si.set n (plusP p ks))), .da (.int (n : Nat)), .da (.str nm), .da (.int (ks.length : Nat)), .da p.ad.py, .da (.tuple ((plusP p ks).ws.map Wr.py)), .no, .no]) ⟨_, Wk.refl _, rfl⟩ (fun i r1 d hd e => ?_) (fun r1 e => ?_))
    · subst e
      obtain ⟨i', hi', rfl⟩ := map_at hd
      obtain ⟨hi, ei⟩ := List.getElem?_eq_some_iff.mp hi'
      rw [List.length_range] at hi
      rw [List.getElem_range] at ei
      subst ei
      have hj : i < ks.length := by omega
      refine ⟨_, tg_name, ?_⟩
      let es := ks.eraseIdx i
      have esub : ∀ k ∈ es, k ∈ ks := fun k hk => List.mem_of_mem_eraseIdx hk
      have les : es.length ≤ ks.length := List.length_eraseIdx_le _ _
      have hws : (((plusP p ks).ws.map Wr.py).take (p.ws.length + i)) ++ (((plusP p ks).ws.map Wr.py).drop (p.ws.length + i + 1)) = (plusP p es).ws.map Wr.py := by
        rw [← List.map_take, ← List.map_drop, ← List.map_append]
        congr 1
        show (p.ws ++ ks.map remW).take (p.ws.length + i) ++ (p.ws ++ ks.map remW).drop (p.ws.length + i + 1) = p.ws ++ (ks.eraseIdx i).map remW
        rw [List.take_append, List.drop_append, List.take_of_length_le (by omega), List.drop_of_length_le (by omega), List.append_assoc, List.nil_append]
        congr 1
        rw [Nat.add_sub_cancel_left, show p.ws.length + i + 1 - p.ws.length = i + 1 by omega, ← List.map_take, ← List.map_drop, ← List.map_append, List.eraseIdx_eq_take_drop_succ]
      refine bk_then (st_asg (d := (plusP p es).py) (EvR.to (ev_tup (eva_cons (d := p.ad.py) (ev_var rfl) (eva_cons (ev_cat (ev_slTo (ds := (plusP p ks).ws.map Wr.py) (c := p.ws.length + i) (ev_var rfl) (ev_var rfl)) (ev_slFrom (ds := (plusP p ks).ws.map Wr.py) (c := p.ws.length + i + 1) (ev_var rfl) (ev_addI (i := (p.ws.length + i : Nat)) (j := 1) (ev_var rfl) ev_int rfl)) ?hA) eva_nil)) (by show 2 ≤ 1000; decide)) (by rw [hws]; rfl)) (pg_flat _)) ?_
      case hA =>
        rw [List.length_take, List.length_drop, List.length_map, lw]
        omega
      have e3 : ((si.set n (plusP p ks)).map Pg.py).take n ++ [(plusP p es).py] ++ ((si.set n (plusP p ks)).map Pg.py).drop (n + 1) = (si.set n (plusP p es)).map Pg.py := by
        have h1 : (si.set n (plusP p ks)).map Pg.py = (si.map Pg.py).take n ++ (plusP p ks).py :: (si.map Pg.py).drop (n + 1) := by
          rw [List.set_eq_take_append_cons_drop, if_pos ln, List.map_append, List.map_cons, List.map_take, List.map_drop]
        have h2 : (si.set n (plusP p es)).map Pg.py = (si.map Pg.py).take n ++ (plusP p es).py :: (si.map Pg.py).drop (n + 1) := by
          rw [List.set_eq_take_append_cons_drop, if_pos ln, List.map_append, List.map_cons, List.map_take, List.map_drop]
        have lt : ((si.map Pg.py).take n).length = n := by
          rw [List.length_take, List.length_map]
          omega
        rw [h1, h2]
        exact replace_at lt
      refine bk_then (st_asg (d := sitePy (si.set n (plusP p es))) (EvR.to (ev_cat (ev_cat (ev_slTo (ds := (si.set n (plusP p ks)).map Pg.py) (ev_var rfl) (ev_var rfl)) (ev_tup (eva_cons (ev_var rfl) eva_nil) (by show 1 ≤ 1000; decide)) ?hB) (ev_slFrom (ds := (si.set n (plusP p ks)).map Pg.py) (c := n + 1) (ev_var rfl) (ev_addI (i := n) (j := 1) (ev_var rfl) ev_int rfl)) ?hC) (by unfold sitePy; rw [e3])) (site_flat _)) ?_
      case hB =>
        rw [List.length_take, List.length_map, List.length_set]
        show _ + 1 ≤ 1000
        omega
      case hC =>
        rw [List.length_append, List.length_take, List.length_drop, List.length_map, List.length_set]
        show _ + 1 + _ ≤ 1000
        omega
      have fs2 : siteFit (si.set n (plusP p es)) := set_fit fs ep (fun k hk => fitL k (esub k hk)) (by omega)
      have pos : signedM (si.set n (plusP p es)) n nm ≠ 0 := by
        have ge : ks[i]? = some ks[i] := List.getElem?_eq_getElem hj
        have nk : ks[i] ∉ es := not_mem_erase ge (by rw [eks]; exact lackM_nodup si p nm)
        have inL : ks[i] ∈ lackM si p nm := by
          have := List.getElem_mem hj
          rwa [← eks]
        obtain ⟨qq, hq1, hq2⟩ := lesser_leaves (ks := es) ep inL (fun x hx => hks x (eks ▸ esub x hx)) nk
        exact signed_pos (row := [qq]) (by rw [List.length_set]; exact mem_rows1 hq1) hq2
      refine bk_if (b := false) (evt_test (ev_eq (ev_signed (ev_var rfl) (ev_var rfl) (ev_var rfl) fs2 (by rw [List.length_set]; exact ln) ow) (ev_int (i := 0)) rfl rfl ?hZ)) (fun hb => by cases hb) (fun _ => bk_next ⟨_, ?hW, rfl⟩)
      case hZ =>
        show decide ((signedM (si.set n (plusP p es)) n nm : Int) = 0) = false
        exact decide_eq_false (by omega)
      case hW => exact (wk_of (by repeat' first | exact trivial | refine ⟨.inr rfl, ?_⟩ | refine ⟨.inl rfl, ?_⟩))
    · subst e
      exact bk_ret ev_bl rfl rfl
section
variable {t u v x : TE} {s : List Pg} {n : Nat} {p : Pg} {nm : Str}
theorem ev_due (h : EvR K t ρ (sitePy s)) (g : EvR K u ρ (.int (n : Nat))) (k : EvR K v ρ (.str nm)) (fs : siteFit s) (ep : s[n]? = some p) (ow : okW lts nm = true) (l6 : (keysM s).length ≤ 6) : EvR K (tCall (spDue K) [] E0 (tCons t (tCons u (tCons v tNil)))) ρ (mendM s n p nm) := fun sg H en Q q => h sg H en _ fun H1 x s1 hx => g sg H1 (en.same s1) _ fun H2 y s2 hy => k sg H2 ((en.same s1).same s2) _ fun H3 z s3 hz => by
  cases hy
  cases hz
  exact ⟨x, s, n, p, nm, rfl, Da.same (s2.trans s3) _ _ hx, fs, ep, ow, l6, fun H4 u s4 hu => q H4 u (((s1.trans s2).trans s3).trans s4) hu⟩
theorem ev_least {ks : List Ky} (h : EvR K t ρ (sitePy (mendS s n p ks))) (g : EvR K u ρ (.int (n : Nat))) (k : EvR K v ρ (.str nm)) (i : EvR K x ρ (.int (ks.length : Nat))) (fs : siteFit s) (ep : s[n]? = some p) (ow : okW lts nm = true) (eks : ks = lackM s p nm) (l5 : p.ws.length + ks.length ≤ 5) (nb : (beyM s p nm).isEmpty = true) : EvR K (tCall (spLeast K) [] E0 (tCons t (tCons u (tCons v (tCons x tNil))))) ρ (.bool true) := fun sg H en Q q => h sg H en _ fun H1 x s1 hx => g sg H1 (en.same s1) _ fun H2 y s2 hy => k sg H2 ((en.same s1).same s2) _ fun H3 z s3 hz => i sg H3 (((en.same s1).same s2).same s3) _ fun H4 w s4 hw => by
  cases hy
  cases hz
  cases hw
  exact ⟨x, s, n, p, nm, ks, rfl, Da.same ((s2.trans s3).trans s4) _ _ hx, fs, ep, ow, eks, l5, nb, fun H5 s5 => q H5 _ ((((s1.trans s2).trans s3).trans s4).trans s5) (.bl _)⟩
end
def spRightM (K : PySem.W.Frag) : Sp := fun vs H Q _ => ∃ (d l c : Addr) (m : Int) (v : V) (s : List Pg) (n : Nat) (p : Pg) (nm : Str), vs = [.ref d, v, .int (n : Nat), .str nm] ∧ St H d l c m ∧ m < 2 ^ 47 ∧ Da K H v (sitePy s) ∧ siteFit s ∧ s[n]? = some p ∧ okW lts nm = true ∧ (keysM s).length ≤ 6 ∧ ∀ H', But d l H H' → St H' d l c (m + 20) → Q (.bl true) H'
theorem ok_law_rightM (T : Txt K mg) (n1 : Exn P w K mg base "BadSite" "place" C1) (n2 : Exn P w K mg base "BadPage" "given" C2) (n3 : Exn P w K mg base "BadName" "given" C3) (n4 : Exn P w K mg base "TooMany" "most" C4) : OkG P w K mg base "_law_right" P__law_right 12 (spRightM K) := by
  have ok__law_draw : Ok P w K mg base "_law_draw" P__law_draw 2 spDraw := ok_law_draw T
  have ok__law_due : Ok P w K mg base "_law_due" P__law_due 11 (spDue K) := ok_law_due T n1 n2 n3 n4
  have ok__law_is_least : Ok P w K mg base "_law_is_least" P__law_is_least 5 (spLeast K) := ok_law_is_least T
  have ok__law_signed : Ok P w K mg base "_law_signed" P__law_signed 4 (spSigned K) := ok_law_signed T
  have ok__law_behind : Ok P w K mg base "_law_behind" P__law_behind 3 (spBehP K) := ok_law_behindP T
  have ok_mended : OkX P w K mg base "mended" P_mended 11 (spMend K C1 C2 C3 C4) := ok_mended T n1 n2 n3 n4
  have ok_signs_out : OkX P w K mg base "signs_out" P_signs_out 10 (spSigns K C1 C2 C3 C4) := ok_signs_out T n1 n2 n3 n4
  refine T.d__law_right.okG sc__law_right (fun vs H Q E h => ?_) (fun f cdv A out s H vs Q E hgu hr h => ?_)
  · obtain ⟨d, l, c, m, v, s, n, p, nm, rfl, _⟩ := h
    rfl
  · obtain ⟨d, l, c, m, v, si, n, p, nm, rfl, hS, hm, hv, fs, ep, ow, l6, q⟩ := h
    refine ⟨_, (pss_cons (ps_par (i := 4) (j := 5) (by rfl) sc__law_right.nd rfl rfl (by decide) rfl rfl (pa_cons (pe_callB (show CallR _ _ (rReprQ K) from cr_reprQ hgu hr.units) (by rfl) T.z_repr (by decide +kernel) (pa_cons (pv 1) pa_nil)) (pa_cons (pe_ok ok__law_due (hr.mono (by decide)) (pa_cons (pv 1) (pa_cons (pv 2) (pa_cons (pv 3) pa_nil)))) pa_nil)) (by rfl))
    (pss_cons (ps_set (i := 6) sc__law_right.nd rfl (Or.inl rfl) (pe_okX0 ok_mended (hr.mono (by decide)) (pa_cons (pv 1) (pa_cons (pv 2) (pa_cons (pv 3) pa_nil)))))
    (pss_cons (ps_if (PW.pt (pw_or (pt_cmpR op_ne (pe_callB (show CallR _ _ (rReprQ K) from cr_reprQ hgu hr.units) (by rfl) T.z_repr (by decide +kernel) (pa_cons (pv 6) pa_nil)) (pe_callB (show CallR _ _ (rReprQ K) from cr_reprQ hgu hr.units) (by rfl) T.z_repr (by decide +kernel) (pa_cons (pv 5) pa_nil)) (nomark _)) (pw_or (pt_cmpR op_ne (pe_callB (show CallR _ _ (rReprQ K) from cr_reprQ hgu hr.units) (by rfl) T.z_repr (by decide +kernel) (pa_cons (pe_okX0 ok_mended (hr.mono (by decide)) (pa_cons (pv 1) (pa_cons (pv 2) (pa_cons (pv 3) pa_nil)))) pa_nil)) (pe_callB (show CallR _ _ (rReprQ K) from cr_reprQ hgu hr.units) (by rfl) T.z_repr (by decide +kernel) (pa_cons (pv 5) pa_nil)) (nomark _)) (pw_or1 (pt_cmpR op_ne (pe_callB (show CallR _ _ (rReprQ K) from cr_reprQ hgu hr.units) (by rfl) T.z_repr (by decide +kernel) (pa_cons (pv 1) pa_nil)) (pv 4) (nomark _)))))) (pss_one (ps_ret pe_bl)) pss_nil)
    (pss_cons (ps_if (pt_cmpR op_isN (pv 6) pe_non (nomark _)) (pss_one (ps_ret pe_bl)) pss_nil)
    (pss_cons (ps_if (PW.pt (pw_or (pt_cmpR op_ne (pe_ok ok__law_signed (hr.mono (by decide)) (pa_cons (pv 6) (pa_cons (pv 2) (pa_cons (pv 3) pa_nil)))) pe_int (nomark _)) (pw_or1 (pt_cmpR op_isNotTF (pe_okX0 ok_signs_out (hr.mono (by decide)) (pa_cons (pv 6) (pa_cons (pv 2) (pa_cons (pv 3) pa_nil)))) pe_bl (nomark _))))) (pss_one (ps_ret pe_bl)) pss_nil)
    (pss_cons (ps_set (i := 7) sc__law_right.nd rfl (Or.inl rfl) (pe_op op_catA (pe_callTy call_tuple_of (by rfl) T.z_tuple (by decide +kernel) (pa_cons (pe_lc (own := [("k", 10)]) (g := gName 10) (tt := tYes) rfl sc__law_right.nd (pi_range1 (by rfl) T.z_range (pa_cons (pe_ok ok__law_draw (hr.mono (by decide)) (pa_cons (pv 0) (pa_cons pe_int pa_nil))) pa_nil)) (blkOk_by (N := N__law_right) (sc := defScope st__law_right) (by decide +kernel)) (fun _ _ _ _ _ => pg_name (i := 10) sc__law_right.nd rfl (Or.inl rfl)) (fun _ _ _ _ _ => pts_nil) (fun _ _ _ _ _ => (pe_ok ok__law_draw (hr.mono (by decide)) (pa_cons (pv 0) (pa_cons (pe_callB (show CallR _ (.builtin "len") (rLenJ K) from call_len) (by rfl) T.z_len (by decide +kernel) (pa_cons (pv 1) pa_nil)) pa_nil))))) pa_nil)) (pe_tup (pa_cons (pv 2) pa_nil))))
    (pss_cons (ps_if (pt_cmpR (op_neA hr.units) (pe_lc (own := [("term", 8), ("worth", 9)]) (g := gTup K 2 (gCons (gName 8) (gCons (gName 9) gNil))) rfl sc__law_right.nd (pi_list (pe_ok ok__law_behind (hr.mono (by decide)) (pa_cons (pv 6) (pa_cons (pv 7) pa_nil)))) (blkOk_by (N := N__law_right) (sc := defScope st__law_right) (by decide +kernel)) (fun _ _ _ _ _ => (pg_tup rfl (pgs_cons (pg_name (i := 8) sc__law_right.nd rfl (Or.inl rfl)) (pgs_cons (pg_name (i := 9) sc__law_right.nd rfl (Or.inl rfl)) pgs_nil)))) (fun _ _ _ _ _ => pts_one (pt_cmpR op_eq (pe_ix (show IxR _ (rIxT K) from ix_tup) (pv 8) pe_int (fun _ _ => rfl)) (pv 3) (nomark _))) (fun _ _ _ _ _ => pe_int)) (pe_lst pa_nil) (nomark _)) (pss_one (ps_ret pe_bl)) pss_nil)
    (pss_one (ps_ret (pe_ok ok__law_is_least (hr.mono (by decide)) (pa_cons (pv 6) (pa_cons (pv 2) (pa_cons (pv 3) (pa_cons (pe_op op_sub (pe_callB call_len (by rfl) T.z_len (by decide +kernel) (pa_cons (pe_ix ix_tup (pe_ix ix_tup (pv 6) (pv 2) (fun _ _ => rfl)) pe_int (fun _ _ => rfl)) pa_nil)) (pe_callB call_len (by rfl) T.z_len (by decide +kernel) (pa_cons (pe_ix ix_tup (pe_ix ix_tup (pv 1) (pv 2) (fun _ _ => rfl)) pe_int (fun _ _ => rfl)) pa_nil))) pa_nil)))))))))))))), ?_⟩
    have good := fs.good
    have fp := fs.2.2 p (List.mem_of_getElem? ep)
    have l5 := fp.len
    have l5s := fs.2.1
    have ln := (List.getElem?_eq_some_iff.mp ep).1
    have len1 : nm.length ≤ 1000 := Nat.le_trans (okW_len ow) (by decide)
    have smW := small_site fs
    have fitL := lackM_fit fs (p := p) (nm := nm)
    have due := mendM_due (s := si) (n := n) (nm := nm) fp ep
    have em : mendS si n p (lackM si p nm) = si.set n (plusP p (lackM si p nm)) := mendS_at ln
    have smD : plainD (mendM si n p nm) = true ∧ (mendM si n p nm).depth ≤ 60 ∧ (mendM si n p nm).weight ≤ 1000000 := by
      rw [due]
      split
      · exact ⟨rfl, by decide, by decide⟩
      · rename_i hb
        rw [Bool.not_eq_true, Bool.or_eq_false_iff, decide_eq_false_iff_not] at hb
        rw [em]
        exact small_site (set_fit fs ep fitL (by omega))
    refine bk_runD (K := K) (i := 0) hS (r := [.st m, .da (sitePy si), .da (.int (n : Nat)), .da (.str nm), .no, .no, .no, .no, .no, .no, .no]) (P := ⟨fun _ => False, fun _ => False, fun _ => False, fun y r' => y = .da (.bool true) ∧ ∃ m', r'[0]? = some (.st m') ∧ m' ≤ m + 20⟩) ?_ ⟨⟨rfl, rfl⟩, ⟨site_flat si, _, rfl, hv⟩, ⟨rfl, _, rfl, .int _⟩, ⟨rfl, _, rfl, .str _ len1⟩, trivial, trivial, trivial, trivial, trivial, trivial, trivial, trivial⟩ rfl (fun _ h => h) (fun _ h => h) (fun _ h => h.elim) (fun y r' h => by
      obtain ⟨rfl, m', h1, h2⟩ := h
      exact ⟨m', h1, fun H' v b s hv => by
        cases hv
        exact q H' b (s.mono h2)⟩)
    refine bk_then (st_parO (isTx_mono _) (xo_repr (ev_var rfl) smW.1 smW.2.1 smW.2.2) (xp_ev (ev_due (ev_var rfl) (ev_var rfl) (ev_var rfl) fs ep ow l6) (mendM_flat _ _ _ _))) ?_
    refine bk_then (st_asg (ev_mend0 (ev_var rfl) (ev_var rfl) (ev_var rfl) good ep ow l6) (mendM_flat _ _ _ _)) ?_
    have nn : ∀ x : Str, (!decide (x = x)) = false := fun x => by rw [decide_eq_true rfl]; rfl
    refine bk_ifXS (b := false) (xt_or (b := false) (xt_neS (xo_repr (ev_var rfl) smD.1 smD.2.1 smD.2.2) (xo_repr (ev_var rfl) smD.1 smD.2.1 smD.2.2) (nn _)) (fun _ => xt_or (b := false) (xt_neS (xo_repr (ev_mend0 (ev_var rfl) (ev_var rfl) (ev_var rfl) good ep ow l6) smD.1 smD.2.1 smD.2.2) (xo_repr (ev_var rfl) smD.1 smD.2.1 smD.2.2) (nn _)) (fun _ => xt_neS (xo_repr (ev_var rfl) smW.1 smW.2.1 smW.2.2) (xo_var rfl) (nn _)) (fun h => by cases h)) (fun h => by cases h)) (fun h => by cases h) (fun _ => bk_nextS ?_)
    refine bk_ifS (evt_test (ev_isNone (ev_var rfl))) (fun hb => ?_) (fun hb => bk_nextS ?_)
    · exact bk_retS ev_bl rfl ⟨rfl, m, rfl, by omega⟩
    · rw [due] at hb
      by_cases bad : (!(beyM si p nm).isEmpty || decide (5 < p.ws.length + (lackM si p nm).length)) = true
      · rw [if_pos bad] at hb
        cases hb
      · have due2 : mendM si n p nm = sitePy (si.set n (plusP p (lackM si p nm))) := by rw [due, if_neg bad, em]
        rw [Bool.not_eq_true, Bool.or_eq_false_iff, decide_eq_false_iff_not, Bool.not_eq_false'] at bad
        obtain ⟨nb, few⟩ := bad
        have few : p.ws.length + (lackM si p nm).length ≤ 5 := by omega
        have hks := bey_none nb
        have fs2 : siteFit (si.set n (plusP p (lackM si p nm))) := set_fit fs ep fitL few
        have good2 := fs2.good
        have ep2 : (si.set n (plusP p (lackM si p nm)))[n]? = some (plusP p (lackM si p nm)) := List.getElem?_set_self ln
        have ln2 : n < (si.set n (plusP p (lackM si p nm))).length := by rw [List.length_set]; exact ln
        have lack2 := mended_lacks ep hks
        have l62 : (keysM (si.set n (plusP p (lackM si p nm)))).length ≤ 6 := by
          rw [keysM_same (set_tw ep hks fun k hk => keysM_mem.mp (lackM_sub hk).1)]
          exact l6
        have leaves := signs_leaves ep2 lack2
        rw [due2]
        refine bk_ifS (b := false) (evt_orB (b := false) (evt_test (ev_neI (ev_signed (ev_var rfl) (ev_var rfl) (ev_var rfl) fs2 ln2 ow) (ev_int (i := 0)) (by rw [signed_none leaves]; rfl))) (fun _ => evt_test (EvR.to (ev_isNotTF (ev_signs0 (ev_var rfl) (ev_var rfl) (ev_var rfl) good2 ep2 ow l62) ev_bl) (by rw [lack2]; rfl))) (fun h => by cases h)) (fun h => by cases h) (fun _ => bk_nextS ?_)
        have pos : (0 : Int) < (si.length : Int) := by omega
        refine bk_ex (ex_drw rfl (drw_cat (bs := [natD n]) (Φ := fun ds => ds.length ≤ 14 ∧ ∀ x ∈ ds, ∃ k : Nat, x = .int (k : Nat) ∧ (k : Int) < si.length) (drw_tupL (drw_imp (drw_lc (N := 14) (n1 := m + 1) (step := 1) (Φ := fun x => ∃ k : Nat, x = .int (k : Nat) ∧ (k : Int) < si.length) (drw_imp (drw_draw (many := 15) ev_int (by decide) (by decide) (by omega)) (Int.le_refl _) (fun d ⟨k, e, lt⟩ => ⟨k, e, by omega⟩)) (by decide) (by decide) (by decide) (fun j m' hj em' => ⟨_, tw_name List.mem_cons_self, rfl, drw_draw ?hL pos (by omega) (by omega)⟩) (fun d ⟨k, e, lt⟩ => by rw [e]; rfl)) (m' := m + 15) (by omega) (fun d h => h)) ?hF1) (ev_tup (eva_cons (ev_var rfl) eva_nil) (by show 1 ≤ 1000; decide)) ?hF ?hL2)) (fun d hd => ?_)
        case hL => exact EvR.to (ev_lenT (ds := si.map Pg.py) (ev_var rfl)) (by rw [List.length_map])
        case hF1 =>
          intro ds h
          exact flatAll_of fun x hx => by
            obtain ⟨k, e, _⟩ := h.2 x hx
            rw [e]
            rfl
        case hF =>
          intro ds h
          exact flatAll_of fun x hx => by
            rcases List.mem_append.mp hx with hx | hx
            · obtain ⟨k, e, _⟩ := h.2 x hx
              rw [e]
              rfl
            · rw [List.mem_singleton.mp hx]
              rfl
        case hL2 =>
          intro ds h
          rw [List.length_append]
          have := h.1
          show _ + 1 ≤ 1000
          omega
        obtain ⟨ds, ed, hl, hds⟩ := hd
        obtain ⟨row, er, hrow⟩ := nats_of hds
        subst er
        have ed : d = rowD (row ++ [n]) := by
          rw [ed, rowD_nat, List.map_append]
          rfl
        subst ed
        have rlt : ∀ q ∈ row ++ [n], q < (si.set n (plusP p (lackM si p nm))).length := fun q hq => by
          rw [List.length_set]
          rcases List.mem_append.mp hq with hq | hq
          · have := hrow q hq
            omega
          · rw [List.mem_singleton.mp hq]
            exact ln
        have lt := tab_len fs2 (row ++ [n])
        have fit := tab_fit fs2 (row ++ [n])
        refine bk_ifS (b := false) (evt_test (EvR.to (ev_ne (EvF.evr (evf_lc (rowTab (si.set n (plusP p (lackM si p nm))) [] (row ++ [n])) ktP (fun _ => .int 1) (fun x => decide (x.1.name = nm)) (itr_list (EvF.evr (evf_behindT (ev_var rfl) (ev_var rfl) fs2 rlt) (by rw [List.length_map]; omega))) (by omega) (fun x hx => ⟨_, te_tup (tes_cons (te_name (by decide)) (tes_cons (te_name (by decide)) tes_nil)) rfl, evt_test (ev_eqSt (ev_ixTz (ds := [.str x.1.name, .tuple (x.1.dom.map .str), .tuple (x.1.fold.map .str), .bool x.1.alone]) (ev_var rfl) rfl rfl) (ev_var rfl) rfl), fun _ => ⟨ev_int, rfl⟩⟩)) ?hG) (ev_lst eva_nil (by decide)) (ones_shaped _) rfl rfl) ?hH)) (fun h => by cases h) (fun _ => bk_nextS ?_)
        case hG =>
          rw [List.length_map]
          exact Nat.le_trans (List.length_filter_le _ _) (by omega)
        case hH =>
          rw [eqv_nilL, any_filter, Bool.not_not]
          exact congrArg PyData.bool (leaves row)
        refine bk_ret (ev_least (s := si) (p := p) (ks := lackM si p nm) (by rw [em]; exact ev_var rfl) (ev_var rfl) (ev_var rfl) (ev_subI (i := (((plusP p (lackM si p nm)).ws.map Wr.py).length : Nat)) (j := ((p.ws.map Wr.py).length : Nat)) (ev_lenT (ds := (plusP p (lackM si p nm)).ws.map Wr.py) (ev_ixTz (ds := [p.ad.py, .tuple ((plusP p (lackM si p nm)).ws.map Wr.py)]) (ev_ixT (ds := (si.set n (plusP p (lackM si p nm))).map Pg.py) (i := n) (ev_var rfl) (ev_var rfl) (by rw [List.getElem?_map, ep2]; rfl)) rfl rfl)) (ev_lenT (ds := p.ws.map Wr.py) (ev_ixTz (ds := [p.ad.py, .tuple (p.ws.map Wr.py)]) (ev_ixT (ds := si.map Pg.py) (i := n) (ev_var rfl) (ev_var rfl) (by rw [List.getElem?_map, ep]; rfl)) rfl rfl)) ?hM) fs ep ow rfl few nb) rfl ⟨rfl, _, rfl, by omega⟩
        rw [List.length_map, List.length_map]
        show ((p.ws ++ (lackM si p nm).map remW).length : Int) - _ = _
        rw [List.length_append, List.length_map]
        omega
end
end S1
namespace S1
open PySem PySem.Spec PyProof.Rows L2 Jv
/-! ### tests that draw; a loop whose count is had by hand; sites that are drawn -/
section
variable {K : PySem.W.Frag} {S : Option Sx} {r r1 r2 : List Sl} {P : Po}
def DrwT (K : PySem.W.Frag) (S : Option Sx) (r : List Sl) (tt : TT) (i : Nat) (n m : Int) (b : Bool) : Prop := ∀ H0 A H sg (Q : Bool → Hp → Prop) z, S = some z → EnvA K S H0 A H sg r → r[i]? = some (.st n) →
  (∀ H', But z.d z.l H H' → St H' z.d z.l z.c m → Q b H') → tt sg H Q
theorem dt_test {te : TE} {i : Nat} {n m : Int} {b : Bool} (h : DrwE K S r te i n m (· = .bool b)) : DrwT K S r (tTest te) i n m b := fun H0 A H sg Q z hz e hi q => h H0 A H sg _ z hz e hi fun H' v d bt s f hv => by
  subst f
  cases hv
  exact ⟨b, rfl, q H' bt s⟩
theorem dt_b {te : TE} {i : Nat} {n m : Int} {b : Bool} (h : DrwE K S r te i n m (· = .bool b)) : DrwT K S r (tB te) i n m b := fun H0 A H sg Q z hz e hi q => h H0 A H sg _ z hz e hi fun H' v d bt s f hv => by
  subst f
  cases hv
  exact ⟨b, rfl, q H' bt s⟩
theorem dt_not {t : TT} {i : Nat} {n m : Int} {b : Bool} (h : DrwT K S r t i n m b) : DrwT K S r (tNot t) i n m (!b) := fun H0 A H sg Q z hz e hi q => h H0 A H sg _ z hz e hi q
theorem dt_ev {t : TT} {i : Nat} {n : Int} {b : Bool} (h : EvT K t (view r) b) : DrwT K S r t i n n b := fun H0 A H sg Q z hz e hi q => h sg H e.view _ fun H' s => by
  obtain ⟨z', h0, h1, hS, hc⟩ := e.at_ i _ hi
  rw [hz] at h0
  cases h0
  exact q H' (Same.but s) (hS.same s)
/-- the first is false -/
theorem dt_orF {t u : TT} {i : Nat} {n m m2 : Int} {b : Bool} (h : DrwT K S r t i n m false) (g : DrwT K S (r.set i (.st m)) u i m m2 b) : DrwT K S r (tOr t u) i n m2 b := fun H0 A H sg Q z hz e hi q => h H0 A H sg _ z hz e hi fun H1 b1 s1 => by
  subst hz
  have hl : i < r.length := (List.getElem?_eq_some_iff.mp hi).1
  exact iteF (g H0 A H1 sg _ z rfl (e.drawn hi b1 s1).1 (List.getElem?_set_self hl) fun H2 b2 s2 => q H2 (b1.trans b2) s2)
theorem bk_ifD {c : TT} {t u : TS} {i : Nat} {n m : Int} {b : Bool} (hi : r[i]? = some (.st n)) (h : DrwT K S r c i n m b) (g1 : b = true → Bk K S (r.set i (.st m)) t P) (g2 : b = false → Bk K S (r.set i (.st m)) u P) : Bk K S r (tIfS c t u) P := fun H0 A H sg D e gv => by
  obtain ⟨z, rfl, h1, hS, hc⟩ := e.at_ i _ hi
  refine h H0 A H sg _ z rfl e hi fun H' bt s => ?_
  obtain ⟨e2, s2⟩ := e.drawn hi bt s
  cases b with
  | true => exact iteT (g1 rfl H0 A H' sg D e2 (gv.from s2))
  | false => exact iteF (g2 rfl H0 A H' sg D e2 (gv.from s2))
theorem bk_ifDS {c : TT} {t u w : TS} {i : Nat} {n m : Int} {b : Bool} (hi : r[i]? = some (.st n)) (h : DrwT K S r c i n m b) (g1 : b = true → Bk K S (r.set i (.st m)) (tSeq t w) P) (g2 : b = false → Bk K S (r.set i (.st m)) (tSeq u w) P) : Bk K S r (tSeq (tIfS c t u) w) P := fun H0 A H sg D e gv => by
  obtain ⟨z, rfl, h1, hS, hc⟩ := e.at_ i _ hi
  refine h H0 A H sg _ z rfl e hi fun H' bt s => ?_
  obtain ⟨e2, s2⟩ := e.drawn hi bt s
  cases b with
  | true => exact iteT (g1 rfl H0 A H' sg D e2 (gv.from s2))
  | false => exact iteF (g2 rfl H0 A H' sg D e2 (gv.from s2))
/-! ### a count had by hand -/
def iKn (n : Nat) : TI := fun _ H R => R (Itr 0 n) H
theorem it_kn (n : Nat) : ItM K S r (iKn n) ((List.range n).map fun k : Nat => .int (k : Nat)) := fun H0 A H sg R e q => by
  refine q (Itr 0 n) _ _ H (Same.refl _) (by rw [List.length_map, List.length_range]; exact walk_range) (fun _ _ _ => trivial) fun i H2 x H3 A2 hi s hd y => ?_
  obtain ⟨rfl, rfl⟩ := y
  rw [List.length_map, List.length_range] at hi
  refine ⟨Same.refl _, .int (i : Nat), by rw [List.getElem?_map, List.getElem?_range hi]; rfl, ?_⟩
  show Da K (Mask A2 H3) (.int (0 + (i : Int))) _
  rw [Int.zero_add]
  exact .int _
theorem rng_hand {te : TE} {g : TG} {tb rest : TS} {D : Ends} {sg : L2.St} {H : Hp} {n : Nat} (he : ∀ Q : VK, Q (.int (n : Nat)) H → te sg H Q) (hn : n < 2 ^ 62) (h : tSeq (tFor (iKn n) g tb) rest D sg H) : tSeq (tFor (iRng1 (tCons te tNil)) g tb) rest D sg H := by
  refine he _ ⟨(n : Int), rfl, by omega, by omega, ?_⟩
  rw [Int.toNat_natCast]
  exact h
end
end S1
namespace S1
open PySem PySem.Spec PyProof.Rows L2 Jv
section
variable {P : Program} {w : World} {K : PySem.W.Frag} {mg : Str → Option Value} {base : Heap} {C1 C2 C3 C4 : Addr} {S : Option Sx} {r : List Sl}
/-- few keys, told -/
theorem few_keysM {s : List Pg} (h : fewKeys s) : (keysM s).length ≤ 6 := by
  obtain ⟨ls, h1, h2, h3⟩ := h
  refine Nat.le_trans ?_ h3
  refine len_sub ?_ fun k hk => (h2 k).mpr (keysM_mem.mp hk)
  unfold keysM
  exact (kySort_perm _).nodup_iff.mpr (ddK_nodup _)
theorem drw_site {i : Nat} {n most : Int} {tm : TE} (hm : EvR K tm (view r) (.int most)) (m0 : 0 < most) (m1 : most ≤ 5) (hn : n < 2 ^ 47) : DrwE K S r (tCall (spSiteD K) [] E0 (tCons (tVar i) (tCons tm tNil))) i n (n + 160) (fun d => ∃ s, d = sitePy s ∧ siteFit s ∧ fewKeys s) := fun H0 A H sg Q z hz e hi q => by
  obtain ⟨z', h0, h1, hS, hc⟩ := e.at_ i _ hi
  rw [hz] at h0
  cases h0
  refine ⟨.ref z.d, h1, hm sg H e.view _ fun H1 v s hv => ?_⟩
  cases hv
  refine ⟨z.d, z.l, z.c, n, most, rfl, m0, m1, hS.same s, hn, fun H2 v si b S2 fs fk dv => ?_⟩
  subst hz
  have e2 := ((e.same s).drawn hi b S2).1
  exact q H2 v (sitePy si) ((Same.but s).trans b) S2 ⟨si, rfl, fs, fk⟩ (flat_mask e2 dv (site_flat si))
theorem drw_rightM {i : Nat} {n : Int} {tv tn ts : TE} {s : List Pg} {k : Nat} {p : Pg} {nm : Str} (hv : EvR K tv (view r) (sitePy s)) (hk : EvR K tn (view r) (.int (k : Nat))) (hs : EvR K ts (view r) (.str nm)) (hn : n < 2 ^ 47) (fs : siteFit s) (ep : s[k]? = some p) (ow : okW lts nm = true) (l6 : (keysM s).length ≤ 6) : DrwE K S r (tCall (spRightM K) [] E0 (tCons (tVar i) (tCons tv (tCons tn (tCons ts tNil))))) i n (n + 20) (· = .bool true) := fun H0 A H sg Q z hz e hi q => by
  obtain ⟨z', h0, h1, hS, hc⟩ := e.at_ i _ hi
  rw [hz] at h0
  cases h0
  refine ⟨.ref z.d, h1, hv sg H e.view _ fun H1 v s1 hv => hk sg H1 (e.same s1).view _ fun H2 u s2 hu => hs sg H2 ((e.same s1).same s2).view _ fun H3 x s3 hx => ?_⟩
  cases hu
  cases hx
  have s13 := (s1.trans s2).trans s3
  exact ⟨z.d, z.l, z.c, n, v, s, k, p, nm, rfl, hS.same s13, hn, Da.same (s2.trans s3) _ _ hv, fs, ep, ow, l6, fun H4 b S4 => q H4 _ (.bool true) ((Same.but s13).trans b) S4 rfl (.bl true)⟩
def spLaw (K : PySem.W.Frag) : Sp := fun vs H Q _ => ∃ (a : Addr) (ns : List Int), vs = [.ref a] ∧ SqL K H a (ns.map V.int) ∧ ns.length ≤ 63 ∧ ∀ H', Q (.bl true) H'
theorem ok_law25 (T : Txt K mg) (n1 : Exn P w K mg base "BadSite" "place" C1) (n2 : Exn P w K mg base "BadPage" "given" C2) (n3 : Exn P w K mg base "BadName" "given" C3) (n4 : Exn P w K mg base "TooMany" "most" C4) : OkG P w K mg base "law" P_law 13 (spLaw K) := by
  have ok__law_begin : Ok P w K mg base "_law_begin" P__law_begin 1 (spBegin K) := ok_law_begin T
  have ok__law_site : Ok P w K mg base "_law_site" P__law_site 6 (spSiteD K) := ok_law_site T
  have ok__law_right : OkG P w K mg base "_law_right" P__law_right 12 (spRightM K) := ok_law_rightM T n1 n2 n3 n4
  refine T.d_law.okG sc_law (fun vs H Q E h => ?_) (fun f cdv A out s H vs Q E hgu hr h => ?_)
  · obtain ⟨a, ns, rfl, _⟩ := h
    rfl
  · obtain ⟨a, ns, rfl, hS, hn, q⟩ := h
    refine ⟨_, (pss_cons (ps_set (i := 1) sc_law.nd rfl (Or.inl rfl) (pe_ok ok__law_begin (hr.mono (by decide)) (pa_cons (pv 0) pa_nil)))
    (pss_cons (ps_for PassesOwn.never rfl (pi_range1 (by rfl) T.z_range (pa_cons (pe_op op_add pe_int (pe_callB (call_min2 rfl) (by rfl) T.z_min (by decide +kernel) (pa_cons pe_int (pa_cons (pe_callB call_len (by rfl) T.z_len (by decide +kernel) (pa_cons (pv 0) pa_nil)) pa_nil)))) pa_nil)) (pg_name (i := 2) sc_law.nd rfl (Or.inl rfl)) (pss_cons (ps_set (i := 3) sc_law.nd rfl (Or.inl rfl) (pe_ok ok__law_site (hr.mono (by decide)) (pa_cons (pv 1) (pa_cons pe_int pa_nil))))
      (pss_cons (ps_for PassesOwn.never rfl (pi_range1 (by rfl) T.z_range (pa_cons (pe_callB call_len (by rfl) T.z_len (by decide +kernel) (pa_cons (pv 3) pa_nil)) pa_nil)) (pg_name (i := 4) sc_law.nd rfl (Or.inl rfl)) (pss_one (ps_if (pt_not (pt_val (pe_okG ok__law_right hgu (hr.mono (by decide)) (pa_cons (pv 1) (pa_cons (pv 3) (pa_cons (pv 4) (pa_cons pe_str pa_nil))))))) (pss_one (ps_ret pe_bl)) pss_nil)))
      (pss_one (ps_if (PW.pt (pw_or (pt_not (pt_val (pe_okG ok__law_right hgu (hr.mono (by decide)) (pa_cons (pv 1) (pa_cons (pv 3) (pa_cons pe_int (pa_cons pe_str pa_nil))))))) (pw_or1 (pt_not (pt_val (pe_okG ok__law_right hgu (hr.mono (by decide)) (pa_cons (pv 1) (pa_cons (pv 3) (pa_cons pe_int (pa_cons pe_str pa_nil)))))))))) (pss_one (ps_ret pe_bl)) pss_nil)))))
    (pss_one (ps_ret pe_bl)))), ?_⟩
    refine ⟨.ref a, rfl, a, ns, rfl, hS, hn, fun H1 d l c s1 hSt => ?_⟩
    have hS1 := s1.seq hS
    unfold gName
    dsimp only
    refine rng_hand (n := 3 + min 3 ns.length) (fun Q2 q2 => ?_) (by omega) ?_
    · refine ⟨.ref a, rfl, .ref a, _, rfl, Or.inl ⟨_, hS1, rfl⟩, 3, _, rfl, 3, _, rfl, rfl, ?_⟩
      have e : (3 : Int) + (if (((ns.map V.int).length : Nat) : Int) < 3 then (((ns.map V.int).length : Nat) : Int) else 3) = ((3 + min 3 ns.length : Nat) : Int) := by
        rw [List.length_map]
        split <;> omega
      show Q2 (.int (_ + _)) _
      rw [e]
      exact q2
    · refine bk_runD (K := K) (i := 1) hSt (r := [.no, .st 0, .no, .no, .no]) (P := ⟨fun _ => False, fun _ => False, fun _ => False, fun y r' => y = .da (.bool true) ∧ ∃ m', r'[1]? = some (.st m')⟩) ?_ ⟨trivial, ⟨rfl, rfl⟩, trivial, trivial, trivial, trivial⟩ rfl (fun _ h => h) (fun _ h => h) (fun _ h => h.elim) (fun y r' h => by
        obtain ⟨rfl, m', h1⟩ := h
        exact ⟨m', h1, fun H' v b s hv => by
          cases hv
          exact q H'⟩)
      refine bk_seq (bk_for (it_kn _) (fun k r1 => ∃ m : Int, m ≤ 1000 * (k : Int) ∧ r1 = [.no, .st m, .no, .no, .no]) ⟨_, Wk.refl _, 0, by omega, rfl⟩ (fun i r1 d hd e => ?_) (fun r1 e => ?_))
      · obtain ⟨m, hm, rfl⟩ := e
        obtain ⟨i', hi', rfl⟩ := map_at hd
        have hi := (List.getElem?_eq_some_iff.mp hi').1
        rw [List.length_range] at hi
        refine ⟨_, tg_name, ?_⟩
        refine bk_ex (ex_drw rfl (drw_site ev_int (by decide) (by decide) (by omega))) (fun d hd => ?_)
        obtain ⟨s, rfl, fs, fk⟩ := hd
        have l6 := few_keysM fk
        have l5 := fs.2.1
        refine bk_seq (bk_for (it_rng (EvR.to (ev_lenT (ds := s.map Pg.py) (ev_var rfl)) (by rw [List.length_map])) (by omega)) (fun j r1 => ∃ m2 : Int, m2 ≤ m + 160 + 20 * (j : Int) ∧ r1 = [.no, .st m2, .no, .da (sitePy s), .no]) ⟨_, ?hW0, m + 160, by omega, rfl⟩ (fun j r1 d hd e => ?_) (fun r1 e => ?_))
        case hW0 => exact (wk_of (by repeat' first | exact trivial | refine ⟨.inr rfl, ?_⟩ | refine ⟨.inl rfl, ?_⟩))
        · obtain ⟨m2, hm2, rfl⟩ := e
          obtain ⟨j', hj', rfl⟩ := map_at hd
          obtain ⟨hj, ej⟩ := List.getElem?_eq_some_iff.mp hj'
          rw [List.length_range] at hj
          rw [List.getElem_range] at ej
          subst ej
          obtain ⟨p, ep⟩ : ∃ p, s[j]? = some p := ⟨s[j], List.getElem?_eq_getElem hj⟩
          refine ⟨_, tg_name, ?_⟩
          refine bk_ifD (b := false) rfl (dt_not (b := true) (dt_b (drw_rightM (ev_var rfl) (ev_var rfl) (ev_str (by decide)) (by omega) fs ep (by decide +kernel) l6))) (fun h => by cases h) (fun _ => bk_next ⟨_, ?_, m2 + 20, ?_, rfl⟩)
          · exact (wk_of (by repeat' first | exact trivial | refine ⟨.inr rfl, ?_⟩ | refine ⟨.inl rfl, ?_⟩))
          · omega
        · obtain ⟨m2, hm2, rfl⟩ := e
          rw [List.length_map, List.length_range] at hm2
          have l1 := fs.1
          obtain ⟨p, ep⟩ : ∃ p, s[0]? = some p := ⟨s[0]'(by omega), List.getElem?_eq_getElem (by omega)⟩
          refine bk_ifD (b := false) rfl (dt_orF (dt_not (b := true) (dt_b (drw_rightM (ev_var rfl) (k := 0) ev_int (ev_str (by decide)) (by omega) fs ep (by decide +kernel) l6))) (dt_not (b := true) (dt_b (drw_rightM (ev_var rfl) (k := 0) ev_int (ev_str (by decide)) (by omega) fs ep (by decide +kernel) l6)))) (fun h => by cases h) (fun _ => bk_next ⟨_, ?_, m2 + 20 + 20, ?_, rfl⟩)
          · exact (wk_of (by repeat' first | exact trivial | refine ⟨.inr rfl, ?_⟩ | refine ⟨.inl rfl, ?_⟩))
          · omega
      · obtain ⟨m, hm, rfl⟩ := e
        exact bk_ret ev_bl rfl ⟨rfl, _, rfl⟩
end
end S1
/-! what the top has left, by names: defs without defaults, own errors, constants -/
namespace Jv
open PySem PySem.Spec PyProof.Rows L2 He
/-- the end, of a law that promises by names -/
theorem FnG.of {P : Program} {w : World} {K : PySem.W.Frag} {mg : Str → Option Value} {base : Heap} {k : Nat} {f : Addr} {fd : FuncData} {ps : List Str} {sp : Sp} (F : FnOk P w K mg base CX0 k f fd ps sp) : FnG P w K mg base k f fd ps sp :=
  ⟨F.len, fun A out s H ar us vs Q E _ hr en bd rv ask => F.run A out s H ar us vs Q E hr en bd rv ask⟩
theorem end_ok {P : Program} {w : World} {K : PySem.W.Frag} {mg : Str → Option Value} {base : Heap} {k : Nat} {x : Str} {f : Addr} {ps : List Str} {sp : Sp} (e : mg x = some (.ref f)) (F : Ok P w K mg base x ps k sp) : ∃ fd : FuncData, Binds K fd ps [] ∧ FnG P w K mg base k f fd ps sp := by
  obtain ⟨g, fd, a, _, b, c⟩ := F
  rw [e] at a
  cases a
  exact ⟨fd, b, FnG.of c⟩
theorem end_okG {P : Program} {w : World} {K : PySem.W.Frag} {mg : Str → Option Value} {base : Heap} {k : Nat} {x : Str} {f : Addr} {ps : List Str} {sp : Sp} (e : mg x = some (.ref f)) (F : OkG P w K mg base x ps k sp) : ∃ fd : FuncData, Binds K fd ps [] ∧ FnG P w K mg base k f fd ps sp := by
  obtain ⟨g, fd, a, _, b, c⟩ := F
  rw [e] at a
  cases a
  exact ⟨fd, b, c⟩
theorem fun_of {K : PySem.W.Frag} {x q : Str} {st : Stmt} {f : Addr} {fd : FuncData} (F : FunD K x q (defArgs st) (defBody st) (defScope st) [] [] f fd) : Fun K x q st f fd := by
  obtain ⟨oc, od, dV, kV, doc, pm, an, cdv, ct, osl, e, lk, hcd, hD, _⟩ := F.ex
  rcases hD with ⟨_, z⟩ | ⟨z, _⟩
  · rw [z] at e
    exact ⟨⟨oc, od, kV, doc, pm, an, cdv, ct, osl, e, lk, hcd⟩, F.kp⟩
  · exact absurd rfl z
/-- one def of the top; an error's maker -/
def dAt (x : Str) (st : Stmt) : DefD := ⟨(x, none), x, x, defArgs st, defBody st, defScope st, [], []⟩
def dIn (C q : Str) (st : Stmt) : DefD := ⟨(C, some "__init__"), "__init__", q, defArgs st, defBody st, defScope st, [], []⟩
section
variable {fa : List Fa} {fn : List DefD} {K : PySem.W.Frag} {h : Heap} {mg : Str → Option Value}
theorem dn_of (X : K.In h) (G : h.Ns mainGlobals mg) (c : SaysD fa fn K) {x : Str} {st : Stmt} {ps : List Str} (i j : Nat) (h1 : fa[i]? = some (.glo x)) (h2 : fn[j]? = some (dAt x st))
    (b : ∀ (kV doc pm : Value) (an : Option Addr) (cdv ct : Value) (us : List Value), us.length = ps.length → bindArgs (PySem.W.fnOf x x (defArgs st) (defBody st) (defScope st) .none kV doc pm an cdv ct) ⟨us, []⟩ = pure (ps.zip us)) : Dn K mg x st ps := by
  obtain ⟨fd, F⟩ := c.def_ j h2
  exact ⟨_, fd, glo_ok X G (c.fact i h1), fun_of F, FunD.bindsN F b⟩
/-- what is asked of an own error's class -/
def oexB (K : PySem.W.Frag) (C : Addr) : Bool := (match K.lookup C with
    | some ⟨.type t, _, .cls cd, sl⟩ => decide (t = "type") && (cd.hasDict && (!cd.hasDel && (match cd.mro, sl with
      | .ref D :: bm, ⟨[_, _, _, _, some (.builtin n), _]⟩ => decide (D = C) && (decide (n = "ValueError.__new__") && PySem.HandSPX.refsVE bm)
      | _, _ => false)))
    | _ => false) && (eqO (PySem.W.findIn K (.ref C) "__setattr__") (some (some (.builtin "object.__setattr__"))) && (decide (PySem.W.subIn K (.ref C) (.type "BaseException") = some true) && (decide (PySem.W.typeIn K (.ref C) = some (.type "type")) && PySem.W.keepIn K (.ref C))))
theorem oexB_ok {C : Addr} (e : oexB K C = true) : OexC K C := by
  obtain ⟨e1, e2⟩ := ba e
  obtain ⟨e2, e3⟩ := ba e2
  obtain ⟨e3, e4⟩ := ba e3
  obtain ⟨e4, e5⟩ := ba e4
  refine ⟨?_, eqO_ok e2, of_decide_eq_true e3, of_decide_eq_true e4, e5⟩
  split at e1
  · rename_i t dd cd sl lk
    obtain ⟨p1, y1⟩ := ba e1
    obtain ⟨p2, y2⟩ := ba y1
    obtain ⟨p3, p4⟩ := ba y2
    clear y1 y2 e1
    obtain ⟨nm, bs, mro, ns, qn, hd, sn, sb, ab, col, del⟩ := cd
    have a1 := p1
    have a2 : hd = true := p2
    have a3 : (!del) = true := p3
    have a4 := p4
    dsimp only at a4
    split at a4
    · rename_i D bm k0 k1 k2 k3 n k5
      obtain ⟨b1, b2⟩ := ba a4
      obtain ⟨b2, b3⟩ := ba b2
      have t1 := of_decide_eq_true a1
      have t2 := of_decide_eq_true b1
      have t3 := of_decide_eq_true b2
      have t4 : del = false := by
        cases del
        · rfl
        · cases a3
      rw [t1, t2, t3, t4, a2] at lk
      exact ⟨nm, qn, ns, bs, bm, sn, sb, ab, col, dd, k0, k1, k2, k3, k5, lk, b3⟩
    · cases a4
  · cases e1
def exnB (K : PySem.W.Frag) (x f : Str) : Bool := oexB K (ga K x) && (eqO (PySem.W.findIn K (.ref (ga K x)) f) (some none) && (eqO (PySem.W.findIn K (.ref (ga K x)) "__init__") (some (some (.ref (ma K (ga K x) "__init__")))) && decide (PySem.W.typeIn K (.ref (ma K (ga K x) "__init__")) = some (.type "function"))))
theorem exn_of (X : K.In h) (G : h.Ns mainGlobals mg) (c : SaysD fa fn K) {x f q : Str} {st : Stmt} (i j : Nat) (h1 : fa[i]? = some (.glo x)) (h2 : fn[j]? = some (dIn x q st)) (e : exnB K x f = true)
    (b : ∀ (kV doc pm : Value) (an : Option Addr) (cdv ct : Value) (us : List Value), us.length = (["self", f] : List Str).length → bindArgs (PySem.W.fnOf "__init__" q (defArgs st) (defBody st) (defScope st) .none kV doc pm an cdv ct) ⟨us, []⟩ = pure ((["self", f] : List Str).zip us)) : ∃ C, ExnD K mg x f q st C := by
  obtain ⟨e1, e2⟩ := ba e
  obtain ⟨e2, e3⟩ := ba e2
  obtain ⟨e3, e4⟩ := ba e3
  obtain ⟨fd, F⟩ := c.def_ j h2
  exact ⟨ga K x, glo_ok X G (c.fact i h1), oexB_ok e1, eqO_ok e2, _, fd, eqO_ok e3, of_decide_eq_true e4, FunD.bindsN F b, fun_of F⟩
def exqB (K : PySem.W.Frag) (x : Str) : Bool := (Fa.exc x).ok K
theorem exq_of (X : K.In h) (G : h.Ns mainGlobals mg) (c : SaysD fa fn K) {x : Str} (i : Nat) (h1 : fa[i]? = some (.glo x)) (e : exqB K x = true) (F : ExcBaseFacts "ValueError" "ValueError.__new__" "ValueError.__init__" veBase) : ∃ C, ExnQ K mg x C := by
  obtain ⟨a1, a2, a3, a4⟩ := exc_ok (K := K) e
  exact ⟨ga K x, glo_ok X G (c.fact i h1), a2, ⟨_, F, a1⟩, a3, a4⟩
def baseB (K : PySem.W.Frag) (x : Str) : Bool := eqO (PySem.W.specialIn K (.ref (ga K x)) "__getattribute__") (some (some (.builtin "type.__getattribute__"))) && (PySem.W.readsIn K (ga K x) (.type "type") && (match PySem.W.findCls K (.ref (ga K x)) (.type "type") "__init__" with
    | some (.val (.builtin n)) => decide (n = "ValueError.__init__")
    | _ => false))
theorem base_of (X : K.In h) (G : h.Ns mainGlobals mg) (c : SaysD fa fn K) {x : Str} (i : Nat) (h1 : fa[i]? = some (.glo x)) (e : baseB K x = true) : ∃ B, BaseI K mg x B := by
  obtain ⟨e1, e2⟩ := ba e
  obtain ⟨e2, e3⟩ := ba e2
  refine ⟨ga K x, glo_ok X G (c.fact i h1), eqO_ok e1, e2, ?_⟩
  split at e3
  · rename_i n en
    rw [en, of_decide_eq_true e3]
  · cases e3
theorem gcI_of (X : K.In h) (G : h.Ns mainGlobals mg) (c : SaysD fa fn K) {x : Str} {z : Int} (i : Nat) (h1 : fa[i]? = some (.int x z)) : Gc mg x (.int z) := by
  obtain ⟨t, e⟩ := int_ok X G (c.fact i h1)
  exact ⟨_, e, t, rfl⟩
theorem gcS_of (X : K.In h) (G : h.Ns mainGlobals mg) (c : SaysD fa fn K) {x z : Str} (i : Nat) (h1 : fa[i]? = some (.str x z)) : Gc mg x (.str z) := by
  obtain ⟨t, e⟩ := str_ok X G (c.fact i h1)
  exact ⟨_, e, t, rfl⟩
theorem free_of (X : K.In h) (G : h.Ns mainGlobals mg) (c : SaysD fa fn K) {x : Str} (i : Nat) (h1 : fa[i]? = some (.free x)) : mg x = none := free_ok X G (c.fact i h1)
end
/-! the look, the interpreter's own table with it -/
def asJ (g : Addr → Option Obj) (n : Nat) : List Addr := cStatics :: asD g n
abbrev AlJ : Type := AlD × Bool
def seeJ (n : Nat) (fa : List Fa) (fn : List DefD) (ex : PySem.W.Frag → Bool) (g : Addr → Option Obj) : AlJ := (obsD fa fn (frG g (asJ g n)), ex (frG g (asJ g n)))
def hookJ (n : Nat) (fa : List Fa) (fn : List DefD) (ex : PySem.W.Frag → Bool) : PySem.W.Hook where
  α := AlJ
  obs s := seeJ n fa fn ex s.heap.get?
  val _ := (valD fn, true)
  says _ h := ∃ K : PySem.W.Frag, K.In h ∧ SaysD fa fn K ∧ ex K = true
  of _ _ e := ⟨_, frG_in, congrArg Prod.fst e, congrArg Prod.snd e⟩
  keeps _ _ _ := fun ⟨K, hK, c⟩ k => ⟨K, hK.keeps k, c⟩
theorem seeJ_eq {n : Nat} {fa : List Fa} {fn : List DefD} {ex : PySem.W.Frag → Bool} {g : Addr → Option Obj} {s : Shared} (h : ∀ a, g a = s.heap.get? a) : seeJ n fa fn ex g = (hookJ n fa fn ex).obs s := by
  rw [show g = s.heap.get? from funext h] <;> rfl
end Jv
namespace S1
open PySem PySem.Spec PyProof.Rows L2 Jv
section
variable {P : Program} {w : World} {K : PySem.W.Frag} {mg : Str → Option Value} {base : Heap} {C : Addr}
theorem law_exs (T : Txt K mg) : OkG P w K mg base "law" P_law 13 (spLaw K) := by
  obtain ⟨C1, D1⟩ := T.x_BadSite
  obtain ⟨C2, D2⟩ := T.x_BadPage
  obtain ⟨C3, D3⟩ := T.x_BadName
  obtain ⟨C4, D4⟩ := T.x_TooMany
  exact ok_law25 T (exn_BadSite T D1) (exn_BadPage T D2) (exn_BadName T D3) (exn_TooMany T D4)
end
def faL : List He.Fa := ([.glo "is_word", .glo "is_label", .glo "is_host", .glo "is_path", .glo "is_address", .glo "is_within", .glo "is_name", .glo "need_name", .glo "is_number_below", .glo "is_write", .glo "_need_page_form", .glo "need_site", .glo "need_page", .glo "_is_taken", .glo "_key", .glo "taken_writes", .glo "keys_of", .glo "effects", .glo "effects_of_pages", .glo "need_few_keys", .glo "_need_page_and_name", .glo "lacking", .glo "signs_out", .glo "beyond", .glo "_removing", .glo "mended", .glo "_law_mixed", .glo "_law_begin", .glo "_law_draw", .glo "_law_key"] : List He.Fa) ++ ([.glo "_law_visited", .glo "_law_behind", .glo "_law_host", .glo "_law_path", .glo "_law_write", .glo "_law_page", .glo "_law_site", .glo "_law_keys", .glo "_law_rows", .glo "_law_signed", .glo "_law_due", .glo "_law_is_least", .glo "_law_right", .glo "law", .free "all", .free "any", .free "bool", .free "enumerate", .free "int", .free "isinstance", .free "len", .free "list", .free "min", .free "range", .free "repr", .free "set", .free "sorted", .free "str", .free "tuple", .glo "JarError"] : List He.Fa) ++ ([.glo "BadSite", .glo "BadName", .glo "BadPage", .glo "TooMany", .str "LETTERS" lts, .str "SIGNS" sgs, .int "LONGEST_WORD" 6, .int "LEAST_LABELS" 2, .int "MOST_LABELS" 5, .int "MOST_SEGMENTS" 4, .int "MOST_PAGES" 5, .int "MOST_WRITES" 5, .int "MOST_KEYS" 6] : List He.Fa)
def fnL : List He.DefD := ([dAt "is_word" st_is_word, dAt "is_label" st_is_label, dAt "is_host" st_is_host, dAt "is_path" st_is_path, dAt "is_address" st_is_address, dAt "is_within" st_is_within, dAt "is_name" st_is_name, dAt "need_name" st_need_name, dAt "is_number_below" st_is_number_below, dAt "is_write" st_is_write, dAt "_need_page_form" st__need_page_form, dAt "need_site" st_need_site, dAt "need_page" st_need_page, dAt "_is_taken" st__is_taken, dAt "_key" st__key, dAt "taken_writes" st_taken_writes, dAt "keys_of" st_keys_of, dAt "effects" st_effects, dAt "effects_of_pages" st_effects_of_pages, dAt "need_few_keys" st_need_few_keys, dAt "_need_page_and_name" st__need_page_and_name, dAt "lacking" st_lacking, dAt "signs_out" st_signs_out, dAt "beyond" st_beyond, dAt "_removing" st__removing, dAt "mended" st_mended, dAt "_law_mixed" st__law_mixed, dAt "_law_begin" st__law_begin, dAt "_law_draw" st__law_draw, dAt "_law_key" st__law_key] : List He.DefD) ++ ([dAt "_law_visited" st__law_visited, dAt "_law_behind" st__law_behind, dAt "_law_host" st__law_host, dAt "_law_path" st__law_path, dAt "_law_write" st__law_write, dAt "_law_page" st__law_page, dAt "_law_site" st__law_site, dAt "_law_keys" st__law_keys, dAt "_law_rows" st__law_rows, dAt "_law_signed" st__law_signed, dAt "_law_due" st__law_due, dAt "_law_is_least" st__law_is_least, dAt "_law_right" st__law_right, dAt "law" st_law, dIn "BadSite" "BadSite.__init__" st_BadSite, dIn "BadName" "BadName.__init__" st_BadName, dIn "BadPage" "BadPage.__init__" st_BadPage, dIn "TooMany" "TooMany.__init__" st_TooMany] : List He.DefD)
def looseL : List Str := (["JarError", "BadSite", "BadName", "BadPage", "TooMany", "LETTERS", "SIGNS", "LONGEST_WORD", "LEAST_LABELS", "MOST_LABELS", "MOST_SEGMENTS", "is_word", "is_label", "is_host", "is_path", "is_address", "is_within", "MOST_PAGES", "MOST_WRITES", "is_name", "need_name", "is_number_below", "is_write", "_need_page_form", "need_site", "need_page", "_is_taken", "_key", "taken_writes", "keys_of"] : List Str) ++ (["effects", "effects_of_pages", "MOST_KEYS", "need_few_keys", "_need_page_and_name", "lacking", "signs_out", "beyond", "_removing", "mended", "_law_mixed", "_law_begin", "_law_draw", "_law_key", "_law_visited", "_law_behind", "_law_host", "_law_path", "_law_write", "_law_page", "_law_site", "_law_keys", "_law_rows", "_law_signed", "_law_due", "_law_is_least", "_law_right"] : List Str)
def exL (K : PySem.W.Frag) : List Bool := [baseB K "JarError", exnB K "BadSite" "place", exnB K "BadName" "given", exnB K "BadPage" "given", exnB K "TooMany" "most"]
theorem exs {K : PySem.W.Frag} (e : (exL K).all id = true) (i : Nat) {b : Bool} (h : (exL K)[i]? = some b) : b = true := List.all_eq_true.mp e b (List.mem_of_getElem? h)
theorem txt_of {K : PySem.W.Frag} {h : Heap} {mg : Str → Option Value} (X : K.In h) (G : h.Ns mainGlobals mg) (c : He.SaysD faL fnL K) (e : (exL K).all id = true) : Txt K mg where
  d_is_word := dn_of X G c 0 0 rfl rfl (fun _ _ _ _ _ _ us hl => match us, hl with | [_, _], _ => rfl)
  d_is_label := dn_of X G c 1 1 rfl rfl (fun _ _ _ _ _ _ us hl => match us, hl with | [_], _ => rfl)
  d_is_host := dn_of X G c 2 2 rfl rfl (fun _ _ _ _ _ _ us hl => match us, hl with | [_], _ => rfl)
  d_is_path := dn_of X G c 3 3 rfl rfl (fun _ _ _ _ _ _ us hl => match us, hl with | [_], _ => rfl)
  d_is_address := dn_of X G c 4 4 rfl rfl (fun _ _ _ _ _ _ us hl => match us, hl with | [_], _ => rfl)
  d_is_within := dn_of X G c 5 5 rfl rfl (fun _ _ _ _ _ _ us hl => match us, hl with | [_, _], _ => rfl)
  d_is_name := dn_of X G c 6 6 rfl rfl (fun _ _ _ _ _ _ us hl => match us, hl with | [_], _ => rfl)
  d_need_name := dn_of X G c 7 7 rfl rfl (fun _ _ _ _ _ _ us hl => match us, hl with | [_], _ => rfl)
  d_is_number_below := dn_of X G c 8 8 rfl rfl (fun _ _ _ _ _ _ us hl => match us, hl with | [_, _], _ => rfl)
  d_is_write := dn_of X G c 9 9 rfl rfl (fun _ _ _ _ _ _ us hl => match us, hl with | [_], _ => rfl)
  d__need_page_form := dn_of X G c 10 10 rfl rfl (fun _ _ _ _ _ _ us hl => match us, hl with | [_, _], _ => rfl)
  d_need_site := dn_of X G c 11 11 rfl rfl (fun _ _ _ _ _ _ us hl => match us, hl with | [_], _ => rfl)
  d_need_page := dn_of X G c 12 12 rfl rfl (fun _ _ _ _ _ _ us hl => match us, hl with | [_, _], _ => rfl)
  d__is_taken := dn_of X G c 13 13 rfl rfl (fun _ _ _ _ _ _ us hl => match us, hl with | [_, _], _ => rfl)
  d__key := dn_of X G c 14 14 rfl rfl (fun _ _ _ _ _ _ us hl => match us, hl with | [_, _], _ => rfl)
  d_taken_writes := dn_of X G c 15 15 rfl rfl (fun _ _ _ _ _ _ us hl => match us, hl with | [_], _ => rfl)
  d_keys_of := dn_of X G c 16 16 rfl rfl (fun _ _ _ _ _ _ us hl => match us, hl with | [_], _ => rfl)
  d_effects := dn_of X G c 17 17 rfl rfl (fun _ _ _ _ _ _ us hl => match us, hl with | [_, _], _ => rfl)
  d_effects_of_pages := dn_of X G c 18 18 rfl rfl (fun _ _ _ _ _ _ us hl => match us, hl with | [_], _ => rfl)
  d_need_few_keys := dn_of X G c 19 19 rfl rfl (fun _ _ _ _ _ _ us hl => match us, hl with | [_], _ => rfl)
  d__need_page_and_name := dn_of X G c 20 20 rfl rfl (fun _ _ _ _ _ _ us hl => match us, hl with | [_, _, _], _ => rfl)
  d_lacking := dn_of X G c 21 21 rfl rfl (fun _ _ _ _ _ _ us hl => match us, hl with | [_, _, _], _ => rfl)
  d_signs_out := dn_of X G c 22 22 rfl rfl (fun _ _ _ _ _ _ us hl => match us, hl with | [_, _, _], _ => rfl)
  d_beyond := dn_of X G c 23 23 rfl rfl (fun _ _ _ _ _ _ us hl => match us, hl with | [_, _, _], _ => rfl)
  d__removing := dn_of X G c 24 24 rfl rfl (fun _ _ _ _ _ _ us hl => match us, hl with | [_], _ => rfl)
  d_mended := dn_of X G c 25 25 rfl rfl (fun _ _ _ _ _ _ us hl => match us, hl with | [_, _, _], _ => rfl)
  d__law_mixed := dn_of X G c 26 26 rfl rfl (fun _ _ _ _ _ _ us hl => match us, hl with | [_, _], _ => rfl)
  d__law_begin := dn_of X G c 27 27 rfl rfl (fun _ _ _ _ _ _ us hl => match us, hl with | [_], _ => rfl)
  d__law_draw := dn_of X G c 28 28 rfl rfl (fun _ _ _ _ _ _ us hl => match us, hl with | [_, _], _ => rfl)
  d__law_key := dn_of X G c 29 29 rfl rfl (fun _ _ _ _ _ _ us hl => match us, hl with | [_, _], _ => rfl)
  d__law_visited := dn_of X G c 30 30 rfl rfl (fun _ _ _ _ _ _ us hl => match us, hl with | [_, _], _ => rfl)
  d__law_behind := dn_of X G c 31 31 rfl rfl (fun _ _ _ _ _ _ us hl => match us, hl with | [_, _], _ => rfl)
  d__law_host := dn_of X G c 32 32 rfl rfl (fun _ _ _ _ _ _ us hl => match us, hl with | [_], _ => rfl)
  d__law_path := dn_of X G c 33 33 rfl rfl (fun _ _ _ _ _ _ us hl => match us, hl with | [_], _ => rfl)
  d__law_write := dn_of X G c 34 34 rfl rfl (fun _ _ _ _ _ _ us hl => match us, hl with | [_, _], _ => rfl)
  d__law_page := dn_of X G c 35 35 rfl rfl (fun _ _ _ _ _ _ us hl => match us, hl with | [_], _ => rfl)
  d__law_site := dn_of X G c 36 36 rfl rfl (fun _ _ _ _ _ _ us hl => match us, hl with | [_, _], _ => rfl)
  d__law_keys := dn_of X G c 37 37 rfl rfl (fun _ _ _ _ _ _ us hl => match us, hl with | [_], _ => rfl)
  d__law_rows := dn_of X G c 38 38 rfl rfl (fun _ _ _ _ _ _ us hl => match us, hl with | [_, _], _ => rfl)
  d__law_signed := dn_of X G c 39 39 rfl rfl (fun _ _ _ _ _ _ us hl => match us, hl with | [_, _, _], _ => rfl)
  d__law_due := dn_of X G c 40 40 rfl rfl (fun _ _ _ _ _ _ us hl => match us, hl with | [_, _, _], _ => rfl)
  d__law_is_least := dn_of X G c 41 41 rfl rfl (fun _ _ _ _ _ _ us hl => match us, hl with | [_, _, _, _], _ => rfl)
  d__law_right := dn_of X G c 42 42 rfl rfl (fun _ _ _ _ _ _ us hl => match us, hl with | [_, _, _, _], _ => rfl)
  d_law := dn_of X G c 43 43 rfl rfl (fun _ _ _ _ _ _ us hl => match us, hl with | [_], _ => rfl)
  z_all := free_of X G c 44 rfl
  z_any := free_of X G c 45 rfl
  z_bool := free_of X G c 46 rfl
  z_enumerate := free_of X G c 47 rfl
  z_int := free_of X G c 48 rfl
  z_isinstance := free_of X G c 49 rfl
  z_len := free_of X G c 50 rfl
  z_list := free_of X G c 51 rfl
  z_min := free_of X G c 52 rfl
  z_range := free_of X G c 53 rfl
  z_repr := free_of X G c 54 rfl
  z_set := free_of X G c 55 rfl
  z_sorted := free_of X G c 56 rfl
  z_str := free_of X G c 57 rfl
  z_tuple := free_of X G c 58 rfl
  b_JarError := base_of X G c 59 rfl (exs e 0 rfl)
  x_BadSite := exn_of X G c 60 44 rfl rfl (exs e 1 rfl) (fun _ _ _ _ _ _ us hl => match us, hl with | [_, _], _ => rfl)
  x_BadName := exn_of X G c 61 45 rfl rfl (exs e 2 rfl) (fun _ _ _ _ _ _ us hl => match us, hl with | [_, _], _ => rfl)
  x_BadPage := exn_of X G c 62 46 rfl rfl (exs e 3 rfl) (fun _ _ _ _ _ _ us hl => match us, hl with | [_, _], _ => rfl)
  x_TooMany := exn_of X G c 63 47 rfl rfl (exs e 4 rfl) (fun _ _ _ _ _ _ us hl => match us, hl with | [_, _], _ => rfl)
  c_LETTERS := gcS_of X G c 64 rfl
  c_SIGNS := gcS_of X G c 65 rfl
  c_LONGEST_WORD := gcI_of X G c 66 rfl
  c_LEAST_LABELS := gcI_of X G c 67 rfl
  c_MOST_LABELS := gcI_of X G c 68 rfl
  c_MOST_SEGMENTS := gcI_of X G c 69 rfl
  c_MOST_PAGES := gcI_of X G c 70 rfl
  c_MOST_WRITES := gcI_of X G c 71 rfl
  c_MOST_KEYS := gcI_of X G c 72 rfl
abbrev R : PySem.W.OpenRow := PySem.W.OpenLaw.row PySem.Challenge.rw_jarvisits_k25_whole_mended_sites
abbrev hk : PySem.W.Hook := hookJ 5 faL fnL fun K => (exL K).all id
def ob (s : PySem.W.SharedT) : AlJ := seeJ 5 faL fnL (fun K => (exL K).all id) (HandSHeadRun.getT s)
theorem ob_eq (s : PySem.W.SharedT) : ob s = hk.obs s.abs := seeJ_eq (HandSHeadRun.getT_eq s)
theorem run (w : World) : HandSHeadRun.RunEq R (PySem.W.view R.prog [63]) hk ob 12000 looseL w := by
  intro os
  kernel_rfl
end S1
open PySem PySem.W PySem.Calls PyProof.Rows
theorem PySem.Challenge.cw_jarvisits_k25_whole_mended_sites_holds : PySem.Challenge.rw_jarvisits_k25_whole_mended_sites.Holds := by
  w_on; o_law
  refine HandSHeadRun.head_any (r := OpenLaw.row PySem.Challenge.rw_jarvisits_k25_whole_mended_sites) (q := view (OpenLaw.row PySem.Challenge.rw_jarvisits_k25_whole_mended_sites).prog [63]) (H := S1.hk) (ob := S1.ob) (M := 12000) (loose := S1.looseL) (d := HandSHeadRun.topDef (OpenLaw.row PySem.Challenge.rw_jarvisits_k25_whole_mended_sites).prog 63) (kwd := []) S1.ob_eq
    (by kernel_rfl) (fun s => by kernel_rfl) S1.run (by kernel_rfl) (by kernel_rfl) (by kernel_rfl) (by rfl) (by first | assumption | decide +kernel) (by decide +kernel) ⟨rfl, rfl, rfl, rfl, rfl, by decide +kernel⟩ ?hw ?hc
  case hw => w_witness2
  case hc =>
    refine Jv.walk_ofG (l := PySem.Challenge.rw_jarvisits_k25_whole_mended_sites) (n := 63) (k := 13) (x := "script") rfl (by decide) (by kernel_rfl) ⟨rfl, by decide, by decide⟩ fun w mg fa h Y G hmg0 => ?_
    obtain ⟨K, KX, c, ce⟩ := Y
    have hmg : mg ("law" : PySem.Str) = some (.ref fa) := by
      have e : (HandSHeadRun.topDef (OpenLaw.row PySem.Challenge.rw_jarvisits_k25_whole_mended_sites).prog 63).name = ("law" : PySem.Str) := by kernel_rfl
      rw [← e]
      exact hmg0
    have T := S1.txt_of KX G c ce
    exact ⟨K, S1.spLaw K, KX, fun H a ns hl _ hS => ⟨a, ns, rfl, hS, hl, fun _ => rfl⟩, fun base _ _ => Jv.end_okG hmg (S1.law_exs T)⟩
