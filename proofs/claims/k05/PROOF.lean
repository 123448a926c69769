import PyProof.Rows.All
import Wide.All
import OpenK.AllK
import Wide.FinOn
import HandS.TupAny
import KE.SortKeyed
import KE.SortData
import HandS.SortKw
import HandS.Walk
import PyProof.SetRoads
import HandS.SetKeys
import HandS.DictTup
import KE.DataCmp
import HandS.SetBool
import HandS.TupSets
import HandS.DictComp
import KE.KDictKeyed
import KE.KDictCopyH
import KE.KDictSum
import PyProof.EqAt
import PyProof.ReprRoads
import HandS.ForMost
import HandS.Flow
import HandS.Style
import HandS.IsInst
import HandS.Wide
import HandS.ForExc
import HandS.Comp
import KE.GoesMore
import HandS.WordsExc
import HandS.ExcInit
import HandS.Codes
import HandS.TryOnly
import HandS.Head0
import HandS.Head1
import HandS.Head2
import HandS.HeadEnd
import HandS.HeadHook1
import HandS.HeadHook2
import HandS.HeadHook3
import HandS.HeadHook4
import PySem.Challenge.RW_jarvisits_k05_visits_by_hand
set_option Elab.async false
set_option linter.all false
set_option maxRecDepth 100000
set_option maxHeartbeats 0
/-! what all my proofs share: calls with the guards known, repr, is, powers, t[::-1] -/
namespace Jv
open PySem PySem.Spec PyProof.Rows L2

/-! ### is True, is False, of anything -/
def rIsTF : R2 := fun x y H Q => ∃ b : Bool, y = .bl b ∧ Q (.bl (decide (x = V.bl b))) H
theorem op_isTF {X : Cx} : OpR X (compareOp .Is) rIsTF := by
  intro pn sh sg Hh vx vy ux uy Qq Iv r1 r2 hyp
  obtain ⟨b, rfl, q⟩ := hyp
  cases (show uy = Value.bool b from r2)
  cases vx with
  | bl c =>
    cases (show ux = Value.bool c from r1)
    by_cases e : c = b
    · subst e
      refine wpAny_is_self rfl ⟨.bl true, Hh, Iv, rfl, ?_⟩
      have := q
      rw [decide_eq_true rfl] at this
      exact this
    · refine wpAny_is_other rfl (fun z => e (Value.bool.inj z)) ⟨.bl false, Hh, Iv, rfl, ?_⟩
      have := q
      rw [decide_eq_false (fun z => e (V.bl.inj z))] at this
      exact this
  | non =>
    cases (show ux = Value.none from r1)
    exact wpAny_is_other rfl (fun z => nomatch z) ⟨.bl false, Hh, Iv, rfl, by rw [decide_eq_false (fun z => nomatch z)] at q; exact q⟩
  | int i =>
    obtain ⟨t, rfl⟩ := (show ∃ t, ux = Value.int i t from r1)
    exact wpAny_is_other rfl (fun z => nomatch z) ⟨.bl false, Hh, Iv, rfl, by rw [decide_eq_false (fun z => nomatch z)] at q; exact q⟩
  | str i =>
    obtain ⟨t, rfl⟩ := (show ∃ t, ux = Value.str i t from r1)
    exact wpAny_is_other rfl (fun z => nomatch z) ⟨.bl false, Hh, Iv, rfl, by rw [decide_eq_false (fun z => nomatch z)] at q; exact q⟩
  | byt i =>
    obtain ⟨t, rfl⟩ := (show ∃ t, ux = Value.bytes i t from r1)
    exact wpAny_is_other rfl (fun z => nomatch z) ⟨.bl false, Hh, Iv, rfl, by rw [decide_eq_false (fun z => nomatch z)] at q; exact q⟩
  | flt i =>
    obtain ⟨t, rfl⟩ := (show ∃ t, ux = Value.float i t from r1)
    exact wpAny_is_other rfl (fun z => nomatch z) ⟨.bl false, Hh, Iv, rfl, by rw [decide_eq_false (fun z => nomatch z)] at q; exact q⟩
  | ref i =>
    cases (show ux = Value.ref i from r1)
    exact wpAny_is_other rfl (fun z => nomatch z) ⟨.bl false, Hh, Iv, rfl, by rw [decide_eq_false (fun z => nomatch z)] at q; exact q⟩
  | ty i =>
    cases (show ux = Value.type i from r1)
    exact wpAny_is_other rfl (fun z => nomatch z) ⟨.bl false, Hh, Iv, rfl, by rw [decide_eq_false (fun z => nomatch z)] at q; exact q⟩
def rIsNotTF : R2 := fun x y H Q => ∃ b : Bool, y = .bl b ∧ Q (.bl (!decide (x = V.bl b))) H
theorem op_isNotTF {X : Cx} : OpR X (compareOp .IsNot) rIsNotTF := by
  intro pn sh sg Hh vx vy ux uy Qq Iv r1 r2 hyp
  obtain ⟨b, rfl, q⟩ := hyp
  cases (show uy = Value.bool b from r2)
  cases vx with
  | bl c =>
    cases (show ux = Value.bool c from r1)
    by_cases e : c = b
    · subst e
      refine wpAny_isNot_self rfl ⟨.bl false, Hh, Iv, rfl, ?_⟩
      have := q
      rw [decide_eq_true rfl] at this
      exact this
    · refine wpAny_isNot_other rfl (fun z => e (Value.bool.inj z)) ⟨.bl true, Hh, Iv, rfl, ?_⟩
      have := q
      rw [decide_eq_false (fun z => e (V.bl.inj z))] at this
      exact this
  | non =>
    cases (show ux = Value.none from r1)
    exact wpAny_isNot_other rfl (fun z => nomatch z) ⟨.bl true, Hh, Iv, rfl, by rw [decide_eq_false (fun z => nomatch z)] at q; exact q⟩
  | int i =>
    obtain ⟨t, rfl⟩ := (show ∃ t, ux = Value.int i t from r1)
    exact wpAny_isNot_other rfl (fun z => nomatch z) ⟨.bl true, Hh, Iv, rfl, by rw [decide_eq_false (fun z => nomatch z)] at q; exact q⟩
  | str i =>
    obtain ⟨t, rfl⟩ := (show ∃ t, ux = Value.str i t from r1)
    exact wpAny_isNot_other rfl (fun z => nomatch z) ⟨.bl true, Hh, Iv, rfl, by rw [decide_eq_false (fun z => nomatch z)] at q; exact q⟩
  | byt i =>
    obtain ⟨t, rfl⟩ := (show ∃ t, ux = Value.bytes i t from r1)
    exact wpAny_isNot_other rfl (fun z => nomatch z) ⟨.bl true, Hh, Iv, rfl, by rw [decide_eq_false (fun z => nomatch z)] at q; exact q⟩
  | flt i =>
    obtain ⟨t, rfl⟩ := (show ∃ t, ux = Value.float i t from r1)
    exact wpAny_isNot_other rfl (fun z => nomatch z) ⟨.bl true, Hh, Iv, rfl, by rw [decide_eq_false (fun z => nomatch z)] at q; exact q⟩
  | ref i =>
    cases (show ux = Value.ref i from r1)
    exact wpAny_isNot_other rfl (fun z => nomatch z) ⟨.bl true, Hh, Iv, rfl, by rw [decide_eq_false (fun z => nomatch z)] at q; exact q⟩
  | ty i =>
    cases (show ux = Value.type i from r1)
    exact wpAny_isNot_other rfl (fun z => nomatch z) ⟨.bl true, Hh, Iv, rfl, by rw [decide_eq_false (fun z => nomatch z)] at q; exact q⟩

/-! ### repr -/
def rReprB : List V → Hp → VK → Prop := fun xs H Q => ∃ b : Bool, xs = [.bl b] ∧ Q (.str (if b then "True" else "False")) H
theorem cr_reprB {X : Cx} : CallR X (.builtin "repr") rReprB := by
  intro pn sh sg Hh vxs uxs Qq Iv r1 hyp
  obtain ⟨b, rfl, q⟩ := hyp
  obtain ⟨u, rfl, r2⟩ := vals1 r1
  cases (show u = Value.bool b from r2)
  exact PySem.P.repr_of_bool ⟨.str _, Hh, Iv.tok _, ⟨_, rfl⟩, q⟩
def rReprD (K : PySem.W.Frag) : List V → Hp → VK → Prop := fun xs H Q => ∃ (a : Addr) (d : PyData), xs = [.ref a] ∧ Dp K H (.ref a) d ∧ d.showable = true ∧ d.hasDict = false ∧ d.depth ≤ 60 ∧ d.shown.length ≤ sizeLine ∧ Q (.str d.shown) H
theorem cr_reprD {X : Cx} (hg : X.A.guards = some []) (hu : X.A.units + 64 < cLine) : CallR X (.builtin "repr") (rReprD X.K) := by
  intro pn sh sg Hh vxs uxs Qq Iv r1 hyp
  obtain ⟨a, d, rfl, hd, h1, h2, h3, h4, q⟩ := hyp
  obtain ⟨u, rfl, r2⟩ := vals1 r1
  cases (show u = Value.ref a from r2)
  obtain ⟨as, rr⟩ := Dp.reads Iv d _ _ hd r2
  exact repr_of_reads' rr h1 (PyData.noDict_hsm h2) hg (by omega) (fun _ _ e => e) (fun h' u tk hk => ⟨.str d.shown, Hh, Iv.kept (t' := tk) hk, ⟨_, rfl⟩, q⟩) h4

/-! ### powers of great ints -/
def CPowW (i j : Int) : Prop := 0 ≤ j ∧ (Builtin.Int.intBits i : Int) * j ≤ 2 ^ 27
theorem op_powW {X : Cx} : OpR X (binaryOp .Pow) (rI CPowW fun i j => .int (i ^ j.toNat)) := opI fun _ _ _ _ _ _ _ c q => pow_int c.1 c.2 q

/-! ### calls by the guards -/
/-- as FnOk, where nothing is being shown -/
structure FnG (P : Program) (w : World) (K : PySem.W.Frag) (mg : Str → Option Value) (base : Heap) (k : Nat) (f : Addr) (fd : FuncData) (ps : List Str) (sp : Sp) : Prop where
  many : ∀ vs H Q E, sp vs H Q E → vs.length = ps.length
  go : ∀ (A : Around) (out : List Env) (s : Shared) (H : Hp) (ar : Args) (us : List Value) (vs : List V) (Q : VK) (E : XK), A.guards = some [] → Room k A →
    Env0 P w K mg base A out s H → BindsTo s fd ar (ps.zip us) → Vals vs us → sp vs H Q E → codeAny (model P w) A (.call (.ref f) ar) (CR CX0 out P w H s Q E) s
theorem fnG_of {P : Program} {w : World} {K : PySem.W.Frag} {mg : Str → Option Value} {base : Heap} {x qual : Str} {st : Stmt} {f : Addr} {fd : FuncData} {N ps : List Str} {k : Nat} {sp : Sp}
    (F : Fun K x qual st f fd) (S : FnScope N ps (defScope st)) (many : ∀ vs H Q E, sp vs H Q E → vs.length = ps.length)
    (walk : ∀ (cdv : Value) (A : Around) (out : List Env) (s : Shared) (H : Hp) (vs : List V) (Q : VK) (E : XK), A.guards = some [] → Room k (A.deeper (envOfC qual (defScope st) s.heap.objs.size f cdv)) → sp vs H Q E →
      ∃ t, PSs (cxOf CX0 P w K mg base N qual (defScope st) f cdv A out s H E).nox (defBody st) t ∧ t { nx := fun _ H' => Q .non H', rt := Q } (start N vs) H) : FnG P w K mg base (k + 1) f fd ps sp := by
  obtain ⟨oc, od, kV, doc, pm, an, cdv, ct, osl, rfl, lk, cd⟩ := F.ex
  refine ⟨many, fun A out sh Hh ar us vs Q E hg rm en bd rv ask => ?_⟩
  have nv := many _ _ _ _ ask
  have inK : K.In sh.heap := en.mod.kin.keeps (fun b o q => (en.bs b o q).1)
  have noL : sh.heap.NoLimit := en.mod.nolimit.keeps (fun b o q => (en.bs b o q).1)
  have kinds : ∀ y ∈ ps.zip us, (defScope st).names.lookup y.1 = some .local ∨ ((defScope st).names.lookup y.1 = some .cell ∧ ((cellsFrom (sh.heap.objs.size + 1) (defScope st).names []).lookup y.1).isSome = true) := by
    rintro ⟨n, z⟩ hy
    rcases S.par n (List.of_mem_zip hy).1 with c | c
    · exact Or.inl c
    · exact Or.inr ⟨c, PySem.W.cellsFrom_some _ _ _ (Or.inl c)⟩
  refine codeAny_call_function rm.depth (inK _ _ lk) rfl S.co S.gen rfl (PySem.W.codeRec_of inK cd) (bd _ _ _ _ (wpAny_newFunctionEnv_cells S.kind kinds fun env he s1 ic => ?_))
  subst he
  refine ⟨noL.keeps ic.toInCall.keep, codeAny_func ?_⟩
  obtain ⟨t, ht, hq⟩ := walk cdv A out sh Hh vs Q E hg (rm.deeper _) ask
  have J0 := inv_start (CX := CX0) (mg := mg) (E := E) S rm.hd en nv rv ic
  refine wpAny_mono (ht.nox.run [] s1 (start N vs) Hh _ J0 hq) (fun fl s2 hs => ?_) fun _ _ q => q
  match fl, hs with
  | .ret u, ⟨v, sg, H2, J, ru, q⟩ => exact ⟨v, H2, J.os, J.bare, J.base, J.hok, ru, q⟩
  | .next, ⟨sg, H2, J, q⟩ => exact ⟨V.non, H2, J.os, J.bare, J.base, J.hok, rfl, q⟩
  | .brk, ⟨_, _, _, q⟩ => exact q.elim
  | .cont, ⟨_, _, _, q⟩ => exact q.elim

/-- a def of the top by its name -/
def Dn (K : PySem.W.Frag) (mg : Str → Option Value) (x : Str) (st : Stmt) (ps : List Str) : Prop := ∃ f fd, mg x = some (.ref f) ∧ Fun K x x st f fd ∧ Binds K fd ps []
/-- its promise -/
def Ok (P : Program) (w : World) (K : PySem.W.Frag) (mg : Str → Option Value) (base : Heap) (x : Str) (ps : List Str) (k : Nat) (sp : Sp) : Prop :=
  ∃ f fd, mg x = some (.ref f) ∧ PySem.W.keepIn K (.ref f) = true ∧ Binds K fd ps [] ∧ FnOk P w K mg base CX0 k f fd ps sp
def OkG (P : Program) (w : World) (K : PySem.W.Frag) (mg : Str → Option Value) (base : Heap) (x : Str) (ps : List Str) (k : Nat) (sp : Sp) : Prop :=
  ∃ f fd, mg x = some (.ref f) ∧ PySem.W.keepIn K (.ref f) = true ∧ Binds K fd ps [] ∧ FnG P w K mg base k f fd ps sp
section
variable {P : Program} {w : World} {K : PySem.W.Frag} {mg : Str → Option Value} {base : Heap} {x : Str} {st : Stmt} {N ps : List Str} {k : Nat} {sp : Sp}
theorem Dn.ok (D : Dn K mg x st ps) (S : FnScope N ps (defScope st)) (many : ∀ vs H Q E, sp vs H Q E → vs.length = ps.length)
    (walk : ∀ (f : Addr) (cdv : Value) (A : Around) (out : List Env) (s : Shared) (H : Hp) (vs : List V) (Q : VK) (E : XK), Room k (A.deeper (envOfC x (defScope st) s.heap.objs.size f cdv)) → sp vs H Q E →
      ∃ t, PSs (cxOf CX0 P w K mg base N x (defScope st) f cdv A out s H E).nox (defBody st) t ∧ t { nx := fun _ H' => Q .non H', rt := Q } (start N vs) H) : Ok P w K mg base x ps (k + 1) sp := by
  obtain ⟨f, fd, a, F, b⟩ := D
  exact ⟨f, fd, a, F.kp, b, F.ok S many (walk f)⟩
theorem Dn.okG (D : Dn K mg x st ps) (S : FnScope N ps (defScope st)) (many : ∀ vs H Q E, sp vs H Q E → vs.length = ps.length)
    (walk : ∀ (f : Addr) (cdv : Value) (A : Around) (out : List Env) (s : Shared) (H : Hp) (vs : List V) (Q : VK) (E : XK), A.guards = some [] → Room k (A.deeper (envOfC x (defScope st) s.heap.objs.size f cdv)) → sp vs H Q E →
      ∃ t, PSs (cxOf CX0 P w K mg base N x (defScope st) f cdv A out s H E).nox (defBody st) t ∧ t { nx := fun _ H' => Q .non H', rt := Q } (start N vs) H) : OkG P w K mg base x ps (k + 1) sp := by
  obtain ⟨f, fd, a, F, b⟩ := D
  exact ⟨f, fd, a, F.kp, b, fnG_of F S many (walk f)⟩
end
section
variable {X : Cx} {x : Str} {ps : List Str} {k : Nat} {sp : Sp} {p pos : Pos} {e : Expr} {es : List Expr} {t : TA}
theorem pe_ok (h : Ok X.prog X.w X.K X.mg X.base x ps k sp) (hr : Room k X.A) (ha : PA X (e :: es) t) (hg : Gl X x := by rfl) (hdb : (x == ("__debug__" : Str)) = false := by decide)
    (he : starEach (e :: es) X.env = (false, eval e X.env) :: starEach es X.env := by rfl) (hpl : (backTo pos (starEach es X.env)).any (·.1) = false := by rfl) :
    PE X (.Call (.Name x p) (e :: es) [] pos) (tCall sp [] E0 t) := by
  obtain ⟨f, fd, a, b, c, d⟩ := h
  exact pe_call d hr hg a b c .nil pass0 ha hdb he hpl
theorem pe_ok0 (h : Ok X.prog X.w X.K X.mg X.base x ps k sp) (hr : Room k X.A) (hg : Gl X x := by rfl) (hdb : (x == ("__debug__" : Str)) = false := by decide) :
    PE X (.Call (.Name x p) [] [] pos) (tCall sp [] E0 tNil) := by
  obtain ⟨f, fd, a, b, c, d⟩ := h
  exact pe_call0 d hr hg a b c .nil pass0 hdb
theorem run_g {pn : List (Addr × Obj)} {sg : L2.St} {H : Hp} {s : Shared} {Q : VK} {us : List Value} {vs : List V} {f : Addr} {fd : FuncData} (F : FnG X.prog X.w X.K X.mg X.base k f fd ps sp) (hgu : X.A.guards = some []) (hr : Room k X.A) (hb : Binds X.K fd ps [])
    (I : Inv X pn sg H s) (r : Vals vs us) (h : sp (vs ++ []) H Q E0) : wpAny (model X.prog X.w) X.A (call (.ref f) us) (EP X pn sg Q) X.xe s := by
  have r2 : Vals (vs ++ []) (us ++ []) := r.append .nil
  have nl : (us ++ []).length = ps.length := r2.length.symm.trans (F.many _ _ _ _ h)
  refine wpAny_call (codeAny_mono (F.go X.A X.stack s H ⟨us, []⟩ (us ++ []) (vs ++ []) Q E0 hgu hr I.env0 (hb s us I.kIn nl) r2 h) fun r s' hq => ?_)
  match r, hq with
  | .error _, q => exact q.elim
  | .ok (.ret u), q => exact I.after q
  | .ok .next, q => exact q.elim
  | .ok .brk, q => exact q.elim
  | .ok .cont, q => exact q.elim
theorem pe_okG (h : OkG X.prog X.w X.K X.mg X.base x ps k sp) (hgu : X.A.guards = some []) (hr : Room k X.A) (ha : PA X (e :: es) t) (hg : Gl X x := by rfl) (hdb : (x == ("__debug__" : Str)) = false := by decide)
    (he : starEach (e :: es) X.env = (false, eval e X.env) :: starEach es X.env := by rfl) (hpl : (backTo pos (starEach es X.env)).any (·.1) = false := by rfl) :
    PE X (.Call (.Name x p) (e :: es) [] pos) (tCall sp [] E0 t) := by
  obtain ⟨f, fd, a, b, c, d⟩ := h
  refine ⟨fun pn s sg H Q I q => wpAny_Call_Name_kw (ld_glob I hg a ?_ hdb)⟩
  refine PySem.W.callWith_K (h₀ := X.base) I.ok.mod.kin b (thn (ha.run pos pn s sg H _ I q) fun us s1 ⟨vs, H1, I1, r, q1⟩ => ⟨I1.kIn, run_g d hgu hr c I1 r q1⟩) he hpl
end
/-! ### the end: the law's call, the guards known -/
theorem law_callG {P : Program} {w : World} {K : PySem.W.Frag} {mg mb : Str → Option Value} {k : Nat} {fa a : Addr} {x : Str} {sp : Sp} {s1 : Shared} {vs : List Value} {ns : List Int}
    (inK : K.In s1.heap) (hns : s1.heap.Ns mainGlobals mg) (hb : s1.heap.Ns builtinsNs mb) (hbb : ∀ y : Str, y ≠ "__name__" → mb y = bootBuiltins y) (noL : s1.heap.NoLimit) (hgen : s1.gens = #[])
    (ha : s1.heap.get? a = some { cls := .type "list", data := .seq vs.toArray }) (hi : IntsAre vs ns) (hl : ns.length ≤ sizeLine) (hr : Room k callerA)
    (F : ∀ base : Heap, K.In base → base.Ns mainGlobals mg → ∃ fd : FuncData, Binds K fd [x] [] ∧ FnG P w K mg base k fa fd [x] sp)
    (ask : ∀ H : Hp, Only H → SqL K H a (ns.map V.int) → sp [.ref a] H (fun v _ => v = .bl true) fun _ _ _ => False) :
    codeAny (model P w) callerA (.call (.ref fa) ⟨[.ref a], []⟩) (fun r s' => r = .ok (.ret (.bool true)) ∧ OldK s1.heap s'.heap ∧ s'.os = s1.os ∧ AllBare s'.gens) s1 := by
  have rv := vals_ints hi
  -- the script is tracked, unless it is an object of the module
  obtain ⟨H, hH⟩ : ∃ H : Hp, H = fun b => if b = a ∧ K.lookup a = none then some (.frz { cls := .type "list", data := .seq vs.toArray } (.lst (ns.map V.int))) else none := ⟨_, rfl⟩
  have cases_ : ∀ b, H b = none ∨ (b = a ∧ K.lookup a = none ∧ H b = some (.frz { cls := .type "list", data := .seq vs.toArray } (.lst (ns.map V.int)))) := fun b => by
    by_cases c : b = a ∧ K.lookup a = none
    · refine Or.inr ⟨c.1, c.2, ?_⟩
      rw [hH]
      exact if_pos c
    · refine Or.inl ?_
      rw [hH]
      exact if_neg c
  have only : Only H := fun b => (cases_ b).elim Or.inl fun q => Or.inr ⟨_, _, q.2.2⟩
  have hS : SqL K H a (ns.map V.int) := by
    cases q : K.lookup a with
    | none =>
      refine Or.inl (Or.inr ⟨{ cls := .type "list", data := .seq vs.toArray }, ?_⟩)
      rw [hH]
      exact if_pos ⟨rfl, q⟩
    | some o =>
      have e := inK a o q
      rw [ha] at e
      cases e
      exact Or.inr ⟨_, vs.toArray, _, q, rfl, rfl, rfl, by rw [List.size_toArray, hi.length]; exact hl, by simpa using rv⟩
  have hok : HOk P w H s1.heap := fun b o q => by
    rcases cases_ b with c | ⟨c1, _, c3⟩
    · rw [c] at q
      cases q
    · rw [c3] at q
      cases q
      subst c1
      exact ⟨ha, by rw [List.length_map]; exact hl, vs, _, rv, ha⟩
  have low : ∀ {b : Addr} {o : Obj}, s1.heap.get? b = some o → H b = none → (hidT s1.heap H).get? b = some o := fun e n => hidT_get e n
  have notDict : ∀ {b : Addr} {o : Obj} {es : Array DictEntry} {ep : Nat}, s1.heap.get? b = some o → o.data = .dict es ep → H b = none := fun {b o es ep} e d => by
    rcases cases_ b with c | ⟨c1, _, _⟩
    · exact c
    · subst c1
      rw [ha] at e
      cases e
      cases (show Data.seq vs.toArray _ = Data.dict es ep from d)
  have nsLow : ∀ {b : Addr} {m : Str → Option Value}, s1.heap.Ns b m → (hidT s1.heap H).Ns b m := fun ⟨o, es, ep, e, d, r⟩ => ⟨o, es, ep, low e (notDict e d), d, r⟩
  have kLow : K.In (hidT s1.heap H) := fun b o e => low (inK b o e) (by
    rcases cases_ b with c | ⟨c1, c2, _⟩
    · exact c
    · subst c1
      rw [c2] at e
      cases e)
  obtain ⟨mc, c1, c2⟩ := noL
  have en : Env0 P w K mg (hidT s1.heap H) callerA [] s1 H :=
    ⟨rfl, ⟨kLow, nsLow hns, ⟨mb, nsLow hb, hbb⟩, ⟨mc, nsLow c1, c2⟩⟩, fun b o e => of_hidT e, Nat.le_of_eq (hidT_size _ _), trivial, fun b z => (by cases z), hok, .of_eq hgen⟩
  obtain ⟨fd, bd, Fg⟩ := F _ kLow (nsLow hns)
  refine codeAny_mono (Fg.go callerA [] s1 H ⟨[.ref a], []⟩ [.ref a] [.ref a] _ _ rfl hr en (bd s1 [.ref a] inK rfl) (.cons rfl .nil) (ask H only hS)) fun r s2 q => ?_
  match r, q with
  | .error _, q => exact q.elim
  | .ok .next, q => exact q.elim
  | .ok .brk, q => exact q.elim
  | .ok .cont, q => exact q.elim
  | .ok (.ret u), ⟨v, H2, os, bare, un, hok2, ru, q⟩ =>
    have q' : v = .bl true := q
    subst q'
    obtain rfl : u = Value.bool true := ru
    refine ⟨rfl, OldK.of_keep fun b o e => ?_, os, bare⟩
    rcases cases_ b with c | ⟨_, _, c3⟩
    · exact un.keep b o e c (fun z => by cases z) (fun z => by cases z)
    · have z2 := un.frzs b _ _ c3
      obtain ⟨e1, _⟩ := hok b _ c3
      obtain ⟨e2, _⟩ := hok2 b _ z2
      rw [e] at e1
      cases e1
      exact e2
theorem walk_ofG {l : PySem.W.OpenLaw} {n k : Nat} {q : Program} {loose : List Str} {XP : (Str → Option Value) → Heap → Prop} {YP : World → Heap → Prop} {d : DefRec} {x : Str}
    (hn : l.most = some n) (hn2 : n ≤ sizeLine) (hdf : d.params.defaults = []) (hr : Room k callerA)
    (F : ∀ (w : World) (mg : Str → Option Value) (fa : Addr) (h : Heap), YP w h → h.Ns mainGlobals mg → mg d.name = some (.ref fa) →
      ∃ (K : PySem.W.Frag) (sp : Sp), K.In h ∧ (∀ (H : Hp) (a : Addr) (ns : List Int), ns.length ≤ n → Only H → SqL K H a (ns.map V.int) → sp [.ref a] H (fun v _ => v = .bl true) fun _ _ _ => False) ∧
        ∀ base : Heap, K.In base → base.Ns mainGlobals mg → ∃ fd : FuncData, Binds K fd [x] [] ∧ FnG l.prog w K mg base k fa fd [x] sp) :
    PySem.W.WalkO q loose XP YP l.row.toRowW d [] (fun f vs => PySem.call f vs) := by
  refine Att.attach_call hn hdf fun w s0 s1 mg mb fa o pm cd doc a vs ns G Y ho hd hcd hmg hobj hints hlen hgen => ?_
  obtain ⟨K, sp, KX, ask, hF⟩ := F w mg fa _ Y G.T.g hmg
  exact law_callG KX G.T.g G.T.b G.T.builtins G.T.nolimit hgen hobj hints (Nat.le_trans hlen hn2) hr hF fun H hO hS => ask H a ns hlen hO hS
end Jv
/-! t[::-1] of a tuple -/
namespace Jv
open PySem PySem.Spec PyProof.Rows L2
theorem places_back (n : Nat) : Builtin.Slice.slicePlaces ((n : Int) - 1) (-1) (-1) = n := by
  unfold Builtin.Slice.slicePlaces
  rw [if_neg (by decide)]
  by_cases h : (n : Int) - 1 > -1
  · rw [if_pos h]
    have e : ((n : Int) - 1 - -1 - 1) / (- -1) = (n : Int) - 1 := by
      rw [show (- -1 : Int) = 1 by decide, Int.ediv_one]
      omega
    rw [e]
    omega
  · rw [if_neg h]
    omega
theorem range_back (n : Nat) : (List.range n).reverse = (List.range n).map fun i => n - 1 - i := by
  apply List.ext_getElem
  · simp
  · intro i h1 h2
    rw [List.getElem_map, List.getElem_reverse]
    simp
theorem pick_back (xs : Array Value) : ((List.range xs.size).filterMap fun (m : Nat) => xs[((xs.size : Int) - 1 + (m : Int) * -1).toNat]?).toArray = xs.toList.reverse.toArray := by
  have e : (List.range xs.size).filterMap (fun (m : Nat) => xs[((xs.size : Int) - 1 + (m : Int) * -1).toNat]?) = ((List.range xs.size).map fun i => xs.size - 1 - i).filterMap (xs[·]?) := by
    rw [List.filterMap_map]
    have g : (fun (m : Nat) => xs[((xs.size : Int) - 1 + (m : Int) * -1).toNat]?) = ((xs[·]?) ∘ fun i => xs.size - 1 - i) := by
      funext m
      by_cases hm : xs.size = 0
      · show xs[_]? = xs[_]?
        rw [Array.getElem?_eq_none (by omega), Array.getElem?_eq_none (by omega)]
      · show xs[_]? = xs[_]?
        have q : ((xs.size : Int) - 1 + (m : Int) * -1).toNat = xs.size - 1 - m := by omega
        rw [q]
    rw [g]
  rw [e, ← range_back, List.filterMap_reverse, PySem.W.krv_all]
section
variable {prog : Program} {w : World} {A : Around} {E : Value → Shared → Prop} {s : Shared}
theorem applied_back {sl : Addr} {vs : Value} {n : Nat} {Q : Int × Int × Nat → Shared → Prop} (hs : s.heap.IsSliceOf sl .none .none vs) (ps : IsPart vs (some (-1)))
    (h : Q ((n : Int) - 1, -1, n) s) : wpAny (model prog w) A (Builtin.Slice.sliceApplied (.ref sl) (pure (n : Int))) Q E s := by
  obtain ⟨os, o1, o2, o3⟩ := id hs
  unfold Builtin.Slice.sliceApplied Builtin.Slice.sliceFields
  refine wpAny_bind (wpAny_bind (wpAny_field o1 o3 (x := .none) rfl (wpAny_bind (wpAny_field o1 o3 (x := .none) rfl (wpAny_bind (wpAny_field o1 o3 (x := vs) rfl (wpAny_pure ?_)))))))
  refine wpAny_bind (HT.slicePart_ ps ?_)
  show wpAny _ _ (if ((-1 : Int) == 0) = true then _ else _) _ _ s
  rw [if_neg (by decide)]
  refine wpAny_bind (HT.slicePart_ .none (wpAny_bind (HT.slicePart_ .none (wpAny_bind (wpAny_pure ?_)))))
  show wpAny _ _ (pure ((n : Int) - 1, (-1 : Int), Builtin.Slice.slicePlaces ((n : Int) - 1) (-1) (-1))) _ _ s
  rw [places_back]
  exact wpAny_pure h
theorem getItem_back {t sl : Addr} {items : Array Value} {vs : Value} {Q : Value → Shared → Prop} (ht : IsTup s.heap t items) (hs : s.heap.IsSliceOf sl .none .none vs) (ps : IsPart vs (some (-1)))
    (h : Q (.ref s.heap.objs.size) { s with heap := s.heap.push { cls := .type "tuple", data := .seq items.toList.reverse.toArray } }) (small : items.size ≤ sizeLine) :
    wpAny (model prog w) A (getItem (.ref t) (.ref sl)) Q E s := by
  have ok : sizeOk (.seq items.toList.reverse.toArray) := by
    show items.toList.reverse.toArray.size ≤ sizeLine
    rw [List.size_toArray, List.length_reverse, Array.length_toList]
    exact small
  obtain ⟨os, o1, o2, o3⟩ := id hs
  have ty : s.TypeIs (.ref sl) "slice" := ⟨os, o1, o2⟩
  unfold getItem
  try (with_reducible refine wpAny_holding ?_)
  first
    | refine wpAny_bind (wpAny_pure ?_)
    | skip
  refine wpAny_bind (wpAny_sequenceKey ht.typeIs (by decide) (wpAny_bind ?_))
  refine wpAny_callSpecial?_slot (name := Str.ofString "__getitem__") ht.typeIs PyProof.Rows.slot_tuple_getitem ?_
  refine wpAny_call_entry PyProof.Rows.slot_tuple_getitem ht.typeIs entry_tuple_getitem ?_ (args_tuple_getitem _ _)
  show wpAny _ _ (Builtin.Tuple.tupleItemsOf (.ref t) >>= _) _ _ s
  refine wpAny_bind (tupleItemsOf_ ht (wpAny_bind (wpAny_typeOf ty ?_)))
  rw [if_pos (by decide)]
  refine wpAny_bind (applied_back hs ps ?_)
  have no : ¬ ((((items.size : Int) - 1) == 0 && (-1 : Int) == 1 && items.size == items.size) = true) := by
    intro q
    rw [Bool.and_eq_true, Bool.and_eq_true] at q
    exact absurd (eq_of_beq q.1.2) (by decide)
  show wpAny _ _ (if (((items.size : Int) - 1) == 0 && (-1 : Int) == 1 && items.size == items.size) = true then _ else _) _ _ s
  rw [if_neg no, pick_back]
  first
    | exact wpAny_bind (m := Builtin.Tuple.tupleExact _) (wpAny_newObj_type (wpAny_pure ⟨_, rfl, wpAny_pure h⟩) ok)
    | exact wpAny_bind (m := Builtin.Tuple.tupleExact _) (wpAny_newObj_type (wpAny_bind (wpAny_pure (wpAny_pure ⟨_, rfl, wpAny_pure h⟩))) ok)
    | exact wpAny_bind (wpAny_bind (m := Builtin.Tuple.tupleExact _) (wpAny_newObj_type (wpAny_pure (wpAny_pure ⟨_, rfl, wpAny_pure h⟩)) ok))
    | exact wpAny_bind (wpAny_bind (m := Builtin.Tuple.tupleExact _) (wpAny_newObj_type (wpAny_pure ⟨_, rfl, wpAny_pure h⟩) ok))
end
def tRevT (K : PySem.W.Frag) (te : TE) : TE := fun sg H Q => te sg H fun x H1 => ∃ a xs, x = .ref a ∧ SqT K H1 a xs ∧ ∀ p, H1 p = none → Q (.ref p) (upd H1 p (.tup xs.reverse))
section
variable {X : Cx}
theorem pe_revT {e : Expr} {te : TE} {k : Nat} {p1 p2 p3 pos : Pos} (he : PE X e te) : PE X (.Subscript e (.Slice none none (some (.UnaryOp .USub (.Constant (.int 1) k p1) p2)) p3) pos) (tRevT X.K te) := by
  have step : PO X (some (.UnaryOp .USub (.Constant (.int 1) k p1) p2)) (tPart (tUn (rU fun i => .int (-i)) (tC (.int 1)))) := po_some (pe_un un_neg pe_int)
  refine ⟨fun pn s sg H Q I h => Subscript_ (thn (he.run pn s sg H _ I h) fun v s1 ⟨x, H1, I1, r1, a, xs, ex, hx, q⟩ => ?_)⟩
  subst ex
  cases r1
  refine wpAny_Slice (thn (po_none.run pn s1 sg H1 (fun o H2 => o = none ∧ H2 = H1) I1 ⟨rfl, rfl⟩) fun vl s2 ⟨o1, H2, I2, pl, e1, e2⟩ => ?_)
  subst e1 e2
  refine thn (po_none.run pn s2 sg H2 (fun o G => o = none ∧ G = H2) I2 ⟨rfl, rfl⟩) fun vu s3 ⟨o2, H3, I3, pu, e3, e4⟩ => ?_
  subst e3 e4
  refine thn (step.run pn s3 sg H3 (fun o G => o = some (-1) ∧ G = H3) I3 ⟨1, rfl, -1, rfl, rfl, rfl⟩) fun vs s4 ⟨o3, H4, I4, ps, e5, e6⟩ => ?_
  subst e5 e6
  cases pl
  cases pu
  have I5 : Inv X pn sg H4 { s4 with heap := s4.heap.push { cls := .type "slice", data := .fields #[.none, .none, vs] } } := I4.kept (t' := s4.toks) fun b ob z => Heap.get?_push_of_some _ z
  obtain ⟨its, r, ht, hz⟩ := I5.tuple hx
  have nl := r.length
  refine tail_any (ops := [.ref a, .ref s4.heap.objs.size]) ht.typeIs (PyProof.Rows.slot_tuple_getitem.lookup) ?_ (by with_unfolding_all rfl)
  refine getItem_back ht (Heap.IsSliceOf.new _ .none .none vs) ps ?_ (by rw [List.size_toArray]; omega)
  have e0 : (its.toArray.toList.reverse.toArray) = its.reverse.toArray := rfl
  rw [e0]
  refine ⟨.ref _, _, I5.laid (t' := s4.toks) (o := .tup xs.reverse) (fun b ob z => Heap.get?_push_of_some _ z) (Nat.le_refl _) ?_, rfl, q _ (I5.hok.fresh (Nat.le_refl _))⟩
  exact ⟨by rw [List.length_reverse]; exact hz, _, r.reverse, _, Heap.get?_push_size _ rfl, rfl, _, rfl⟩
end
end Jv
/-! comprehensions by their walk; x == []; constants of the module -/
namespace Jv
open PySem PySem.Spec PyProof.Rows L2

/-! ### constants of the module -/
def Gc (mg : Str → Option Value) (x : Str) (v : V) : Prop := ∃ u, mg x = some u ∧ RelV v u
theorem pe_gc {X : Cx} {x : Str} {v : V} {pos : Pos} (h : Gc X.mg x v) (hg : Gl X x := by rfl) (hd : (x == ("__debug__" : Str)) = false := by decide) : PE X (.Name x pos) (tC v) := by
  obtain ⟨u, a, b⟩ := h
  exact pe_glob hg a b hd

/-! ### x == [], whatever x holds -/
def rEqE (K : PySem.W.Frag) : R2 := fun x y H Q => ∃ a b xs, x = .ref a ∧ y = .ref b ∧ SqL K H a xs ∧ SqL K H b [] ∧ Q (.bl xs.isEmpty) H
theorem op_eqE {X : Cx} (hu : X.A.units < cLine) : OpR X (compareOp .Eq) (rEqE X.K) := by
  intro pn sh sg Hh vx vy ux uy Qq Iv r1 r2 hyp
  obtain ⟨a, b, xs, rfl, rfl, ha, hb, q⟩ := hyp
  cases (show ux = Value.ref a from r1)
  cases (show uy = Value.ref b from r2)
  obtain ⟨its, ra, la, _⟩ := Iv.list ha
  obtain ⟨jts, rb, lb, _⟩ := Iv.list hb
  cases rb
  cases ra with
  | nil =>
    refine SeqAt.eq_listAt (e := fun _ => true) la.isList lb.isList rfl hu (fun i hi => ?_) ?_
    · exact absurd hi (Nat.not_lt_zero _)
    · exact ⟨.bl true, Hh, Iv, rfl, q⟩
  | cons r t => exact SeqAt.eq_list_lengthsAt la.isList lb.isList rfl hu ⟨.bl false, Hh, Iv, rfl, q⟩

/-! ### comprehensions -/
section
variable {J : It} {n : Nat} {Gd : Hp → Prop} {Y : Nat → Hp → V → Hp → Prop}
/-- without a test; the target one name -/
theorem lc_map (wk : Walk J n Gd Y) {j : Nat} {te : TE} {vs : List Nat} {sg : L2.St} {H1 : Hp} {D : Addr} {Qd : Hp → Prop} (G : Nat → List V → Hp → Prop)
    (h0 : G 0 [] (upd H1 D (.lst []))) (hG : ∀ i acc H, i ≤ n → G i acc H → H D = some (.lst acc) → Gd H) (hw : ∀ x, wipe ((wipe sg vs).set j (some x)) vs = wipe sg vs) (len : ∀ i acc H, i < n → G i acc H → acc.length < sizeLine)
    (turn : ∀ i x acc H H', i < n → G i acc H → H D = some (.lst acc) → Y i H x H' → ∀ k : V → Hp → Prop, (∀ y H4, H4 D = some (.lst acc) → G (i + 1) (acc ++ [y]) (upd H4 D (.lst (acc ++ [y]))) → k y H4) → te ((wipe sg vs).set j (some x)) H' k)
    (fin : ∀ acc H, G n acc H → H D = some (.lst acc) → Qd H) :
    ∃ W : Nat → Nat → Hp → Prop, (∃ m, W 0 m (upd H1 D (.lst []))) ∧ ∀ i m H, W i m H → (J.stop i H ∧ Qd H) ∨ (J.go i H ∧ ∃ Nx : Hp → Prop, (∀ H', Nx H' → ∃ m', m' < m ∧ W (i + 1) m' H') ∧
      ∀ x H', J.yld i H x H' → gName j x (wipe sg vs) H' fun s2 H2 => wipe s2 vs = wipe sg vs ∧ tYes s2 H2 fun b H3 => if b = true then te s2 H3 fun y H4 => ∃ acc, H4 D = some (.lst acc) ∧ acc.length < sizeLine ∧ Nx (upd H4 D (.lst (acc ++ [y]))) else Nx H3) := by
  refine lc_it wk (fun i H => ∃ acc, G i acc H ∧ H D = some (.lst acc)) ⟨[], h0, upd_same⟩ (fun i H hi ⟨acc, g, d⟩ => hG i acc H hi g d) (fun i x H H' hi ⟨acc, g, d⟩ y => ?_) (fun H ⟨acc, g, d⟩ => fin acc H g d)
  refine ⟨hw x, ?_⟩
  unfold tYes
  refine iteT ?_
  exact turn i x acc H H' hi g d y _ fun z H4 e g4 => ⟨acc, e, len i acc H hi g, acc ++ [z], g4, upd_same⟩
/-- the same where nothing that stands changes and the items made are known ahead -/
theorem lc_pure {ys : List V} (wk : Walk J ys.length Gd Y) {j : Nat} {te : TE} {vs : List Nat} {sg : L2.St} {H1 : Hp} {D : Addr} {Qd : Hp → Prop} (nD : H1 D = none) (hz : ys.length ≤ 100000)
    (hGd : ∀ H, Same H1 H → Gd H) (hw : ∀ x, wipe ((wipe sg vs).set j (some x)) vs = wipe sg vs)
    (turn : ∀ i x y H H', ys[i]? = some y → Same H1 H → Y i H x H' → ∀ k : V → Hp → Prop, (∀ H4, Same H H4 → k y H4) → te ((wipe sg vs).set j (some x)) H' k)
    (fin : ∀ H, Same H1 H → H D = some (.lst ys) → Qd H) :
    ∃ W : Nat → Nat → Hp → Prop, (∃ m, W 0 m (upd H1 D (.lst []))) ∧ ∀ i m H, W i m H → (J.stop i H ∧ Qd H) ∨ (J.go i H ∧ ∃ Nx : Hp → Prop, (∀ H', Nx H' → ∃ m', m' < m ∧ W (i + 1) m' H') ∧
      ∀ x H', J.yld i H x H' → gName j x (wipe sg vs) H' fun s2 H2 => wipe s2 vs = wipe sg vs ∧ tYes s2 H2 fun b H3 => if b = true then te s2 H3 fun y H4 => ∃ acc, H4 D = some (.lst acc) ∧ acc.length < sizeLine ∧ Nx (upd H4 D (.lst (acc ++ [y]))) else Nx H3) := by
  have sD : ∀ {H : Hp} {o : HO}, Same H1 H → Same H1 (upd H D o) := fun {H o} s b u e => by
    rw [upd_ne (ne_of_none e nD)]
    exact s b u e
  refine lc_map wk (fun i acc H => Same H1 H ∧ acc = ys.take i) ⟨sD (Same.refl _), rfl⟩ (fun i acc H _ g _ => hGd H g.1) hw (fun i acc H hi g => ?_) (fun i x acc H H' hi g d y k hk => ?_) (fun acc H g d => ?_)
  · rw [g.2, List.length_take]
    exact Nat.lt_of_lt_of_le (Nat.lt_of_le_of_lt (Nat.min_le_right _ _) (Nat.lt_succ_of_le hz)) (by decide)
  · have e : ys[i]? = some ys[i] := List.getElem?_eq_getElem hi
    refine turn i x ys[i] H H' e g.1 y k fun H4 s4 => hk _ _ (s4 _ _ d) ⟨sD (g.1.trans s4), ?_⟩
    rw [g.2, List.take_add_one, e]
    rfl
  · rw [g.2, List.take_length] at d
    exact fin H g.1 d
/-- a filter of what is walked, by a test that changes nothing -/
theorem lc_filt {xs : List V} {p : V → Bool} (wk : Walk J xs.length Gd Y) {j : Nat} {tt : TT} {te : TE} {vs : List Nat} {sg : L2.St} {H1 : Hp} {D : Addr} {Qd : Hp → Prop} (nD : H1 D = none) (hz : xs.length ≤ 100000)
    (hGd : ∀ H, Same H1 H → Gd H) (hw : ∀ x, wipe ((wipe sg vs).set j (some x)) vs = wipe sg vs) (hY : ∀ (i : Nat) (H : Hp) (x : V) (H' : Hp), Y i H x H' → H' = H ∧ xs[i]? = some x)
    (test : ∀ (i : Nat) (x : V) (H : Hp), xs[i]? = some x → Same H1 H → ∀ k : Bool → Hp → Prop, (∀ H4, Same H H4 → k (p x) H4) → tt ((wipe sg vs).set j (some x)) H k)
    (elt : ∀ (i : Nat) (x : V) (H : Hp), xs[i]? = some x → Same H1 H → ∀ k : V → Hp → Prop, (∀ H4, Same H H4 → k x H4) → te ((wipe sg vs).set j (some x)) H k)
    (fin : ∀ H, Same H1 H → H D = some (.lst (xs.filter p)) → Qd H) :
    ∃ W : Nat → Nat → Hp → Prop, (∃ m, W 0 m (upd H1 D (.lst []))) ∧ ∀ i m H, W i m H → (J.stop i H ∧ Qd H) ∨ (J.go i H ∧ ∃ Nx : Hp → Prop, (∀ H', Nx H' → ∃ m', m' < m ∧ W (i + 1) m' H') ∧
      ∀ x H', J.yld i H x H' → gName j x (wipe sg vs) H' fun s2 H2 => wipe s2 vs = wipe sg vs ∧ tt s2 H2 fun b H3 => if b = true then te s2 H3 fun y H4 => ∃ acc, H4 D = some (.lst acc) ∧ acc.length < sizeLine ∧ Nx (upd H4 D (.lst (acc ++ [y]))) else Nx H3) := by
  have sD : ∀ {H : Hp} {o : HO}, Same H1 H → Same H1 (upd H D o) := fun {H o} s b u e => by
    rw [upd_ne (ne_of_none e nD)]
    exact s b u e
  refine lc_it wk (fun i H => Same H1 H ∧ H D = some (.lst ((xs.take i).filter p))) ⟨sD (Same.refl _), upd_same⟩ (fun i H _ g => hGd H g.1) (fun i x H H' hi g y => ?_) (fun H g => ?_)
  · obtain ⟨e1, e2⟩ := hY i H x H' y
    subst e1
    refine ⟨hw x, test i x H' e2 g.1 _ fun H4 s4 => ?_⟩
    have step : (xs.take (i + 1)).filter p = (xs.take i).filter p ++ (if p x = true then [x] else []) := by
      rw [List.take_add_one, e2, List.filter_append]
      congr 1
      show List.filter p [x] = _
      rw [List.filter_cons]
      rfl
    by_cases hp : p x = true
    · rw [if_pos hp] at step ⊢
      refine elt i x H4 e2 (g.1.trans s4) _ fun H5 s5 => ⟨_, s5 _ _ (s4 _ _ g.2), ?_, sD ((g.1.trans s4).trans s5), ?_⟩
      · exact Nat.lt_of_le_of_lt (List.length_filter_le _ _) (Nat.lt_of_le_of_lt (by rw [List.length_take]; omega) (by decide : 100000 < sizeLine))
      · rw [step]
        exact upd_same
    · rw [if_neg hp] at step ⊢
      refine ⟨g.1.trans s4, ?_⟩
      rw [step, List.append_nil]
      exact s4 _ _ g.2
  · have d := g.2
    rw [List.take_length] at d
    exact fin H g.1 d
end
end Jv
/-! dicts with keys (name, domain, folder, alone) -/
namespace Jv
open PySem PySem.Spec PyProof.Rows L2

/-! ### keys -/
structure Ky where
  name : Str
  dom : List Str
  fold : List Str
  alone : Bool
  deriving DecidableEq
def Ky.py (k : Ky) : PyData := .tuple [.str k.name, .tuple (k.dom.map .str), .tuple (k.fold.map .str), .bool k.alone]
def Ky.nk (k : Ky) : NestedKey := .tup [.text k.name, .tup (k.dom.map .text), .tup (k.fold.map .text), .num (if k.alone = true then 1 else 0)]
theorem map_text_inj : ∀ {a b : List Str}, a.map NestedKey.text = b.map NestedKey.text → a = b
  | [], [], _ => rfl
  | [], _ :: _, e => by simp at e
  | _ :: _, [], e => by simp at e
  | x :: xs, y :: ys, e => by
    rw [List.map_cons, List.map_cons] at e
    injection e with e1 e2
    injection e1 with e1
    rw [e1, map_text_inj e2]
theorem Ky.nk_inj {a b : Ky} (e : a.nk = b.nk) : a = b := by
  obtain ⟨n, d, f, l⟩ := a
  obtain ⟨n', d', f', l'⟩ := b
  unfold Ky.nk at e
  injection e with e
  injection e with e1 e
  injection e with e2 e
  injection e with e3 e
  injection e with e4 _
  injection e1 with e1
  injection e2 with e2
  injection e3 with e3
  injection e4 with e4
  have h2 : d = d' := map_text_inj e2
  have h3 : f = f' := map_text_inj e3
  have h1 : n = n' := e1
  have e5 : (if l = true then (1 : Int) else 0) = if l' = true then 1 else 0 := e4
  have h4 : l = l' := by
    clear e4
    revert e5
    cases l <;> cases l' <;> decide
  rw [h1, h2, h3, h4]
theorem depth_texts : ∀ l : List Str, NestedKey.depthAll (l.map NestedKey.text) = 0
  | [] => rfl
  | x :: l => by
    show max 0 (NestedKey.depthAll (l.map NestedKey.text)) = 0
    rw [depth_texts l]
    rfl
theorem Ky.depth (k : Ky) : k.nk.depth = 2 := by
  show max 0 (max (NestedKey.depthAll (k.dom.map .text) + 1) (max (NestedKey.depthAll (k.fold.map .text) + 1) (max 0 0))) + 1 = 2
  rw [depth_texts, depth_texts]
  rfl
/-- a kind of key taken back along an injection -/
def pull {prog : Program} {w : World} {A B : Type} [DecidableEq A] [DecidableEq B] (knd : HeapKind prog w A) (f : B → A) (inj : ∀ a b, f a = f b → a = b) : HeapKind prog w B where
  is := fun h k a => knd.is h (f k) a
  hash := fun k => knd.hash (f k)
  draws := fun k => knd.draws (f k)
  room := knd.room
  inj := fun x y => inj _ _ (knd.inj x y)
  keeps := fun x ho hd hs => knd.keeps x ho hd hs
  pyHash := fun hu hk h => knd.pyHash hu hk h
  eqBool := fun {A E s x y a b Q} hu hx hy h => knd.eqBool hu hx hy (by
    have e : decide (f x = f y) = decide (x = y) := by
      by_cases z : x = y
      · rw [decide_eq_true z, decide_eq_true (by rw [z])]
      · rw [decide_eq_false z, decide_eq_false fun q => z (inj _ _ q)]
    rw [e]
    exact h)
  quiet := fun hk h => knd.quiet hk h
abbrev kyKind (prog : Program) (w : World) : HeapKind prog w Ky := pull (nestedKind prog w) Ky.nk fun _ _ e => Ky.nk_inj e

/-! ### keys that stand in the heap -/
structure KyAt (K : PySem.W.Frag) (H : Hp) (a : Addr) (k : Ky) : Prop where
  ex : ∃ b c : Addr, SqT K H a [.str k.name, .ref b, .ref c, .bl k.alone] ∧ SqT K H b (k.dom.map V.str) ∧ SqT K H c (k.fold.map V.str)
theorem sqT_same {K : PySem.W.Frag} {H H' : Hp} {a : Addr} {xs : List V} (e : Same H H') (h : SqT K H a xs) : SqT K H' a xs := by
  rcases h with (h | ⟨o, h⟩) | h
  · exact Or.inl (Or.inl (e _ _ h))
  · exact Or.inl (Or.inr ⟨o, e _ _ h⟩)
  · exact Or.inr h
/-- what is read of tuples is kept while all tuples stand -/
def TupS (H H' : Hp) : Prop := ∀ b o, H b = some o → (∃ xs, o = .tup xs) ∨ (∃ u v, o = .frz u v) → H' b = some o
theorem Same.tupS {H H' : Hp} (s : Same H H') : TupS H H' := fun b o e _ => s b o e
theorem TupS.trans {H H1 H2 : Hp} (a : TupS H H1) (b : TupS H1 H2) : TupS H H2 := fun c o e h => b c o (a c o e h) h
theorem TupS.sq {K : PySem.W.Frag} {H H' : Hp} {a : Addr} {xs : List V} (e : TupS H H') (h : SqT K H a xs) : SqT K H' a xs := by
  rcases h with (h | ⟨o, h⟩) | h
  · exact Or.inl (Or.inl (e _ _ h (Or.inl ⟨_, rfl⟩)))
  · exact Or.inl (Or.inr ⟨o, e _ _ h (Or.inr ⟨_, _, rfl⟩)⟩)
  · exact Or.inr h
theorem KyAt.tupS {K : PySem.W.Frag} {H H' : Hp} {a : Addr} {k : Ky} (s : TupS H H') (h : KyAt K H a k) : KyAt K H' a k := by
  obtain ⟨b, c, h1, h2, h3⟩ := h.ex
  exact ⟨b, c, s.sq h1, s.sq h2, s.sq h3⟩
theorem KyAt.same {K : PySem.W.Frag} {H H' : Hp} {a : Addr} {k : Ky} (s : Same H H') (h : KyAt K H a k) : KyAt K H' a k := h.tupS (Same.tupS s)
theorem nested_strs {h : Heap} : ∀ {xs : List Str} {us : List Value}, Vals (xs.map V.str) us → NestedAll h (xs.map .text) us
  | [], _, r => by
    cases r
    exact .nil
  | x :: xs, _, r => by
    rw [List.map_cons] at r
    cases r with
    | cons h1 h2 =>
      obtain ⟨t, rfl⟩ := (show ∃ t, _ = Value.str x t from h1)
      exact .cons (.text x t) (nested_strs h2)
theorem KyAt.is {X : Cx} {pn : List (Addr × Obj)} {sg : L2.St} {H : Hp} {s : Shared} {a : Addr} {k : Ky} (I : Inv X pn sg H s) (h : KyAt X.K H a k) : (kyKind X.prog X.w).is s.heap k a := by
  obtain ⟨b, c, h1, h2, h3⟩ := h.ex
  obtain ⟨i1, r1, ⟨o1, g1, c1, n1, d1⟩, _⟩ := I.tuple h1
  obtain ⟨i2, r2, ⟨o2, g2, c2, n2, d2⟩, _⟩ := I.tuple h2
  obtain ⟨i3, r3, ⟨o3, g3, c3, n3, d3⟩, _⟩ := I.tuple h3
  refine ⟨.tup g1 c1 d1 ?_, by rw [Ky.depth]; decide⟩
  cases r1 with
  | cons q1 r1 =>
    cases r1 with
    | cons q2 r1 =>
      cases r1 with
      | cons q3 r1 =>
        cases r1 with
        | cons q4 r1 =>
          cases r1
          obtain ⟨t, rfl⟩ := (show ∃ t, _ = Value.str k.name t from q1)
          cases (show _ = Value.ref b from q2)
          cases (show _ = Value.ref c from q3)
          cases (show _ = Value.bool k.alone from q4)
          exact .cons (.text _ _) (.cons (.tup g2 c2 d2 (by simpa using nested_strs r2)) (.cons (.tup g3 c3 d3 (by simpa using nested_strs r3)) (.cons (.bool rfl) .nil)))
theorem reads_strs {h : Heap} : ∀ {xs : List Str} {us : List Value}, Vals (xs.map V.str) us → ReadsAll h us (xs.map .str) []
  | [], _, r => by
    cases r
    exact .nil
  | x :: xs, _, r => by
    rw [List.map_cons] at r
    cases r with
    | cons h1 h2 =>
      obtain ⟨t, rfl⟩ := (show ∃ t, _ = Value.str x t from h1)
      exact .cons (as := []) (bs := []) (.str x t) (reads_strs h2)
theorem KyAt.reads {X : Cx} {pn : List (Addr × Obj)} {sg : L2.St} {H : Hp} {s : Shared} {a : Addr} {k : Ky} (I : Inv X pn sg H s) (h : KyAt X.K H a k) : Reads s.heap (.ref a) k.py [] := by
  obtain ⟨b, c, h1, h2, h3⟩ := h.ex
  obtain ⟨i1, r1, ⟨o1, g1, c1, n1, d1⟩, _⟩ := I.tuple h1
  obtain ⟨i2, r2, ⟨o2, g2, c2, n2, d2⟩, _⟩ := I.tuple h2
  obtain ⟨i3, r3, ⟨o3, g3, c3, n3, d3⟩, _⟩ := I.tuple h3
  refine .tuple g1 c1 d1 ?_
  cases r1 with
  | cons q1 r1 =>
    cases r1 with
    | cons q2 r1 =>
      cases r1 with
      | cons q3 r1 =>
        cases r1 with
        | cons q4 r1 =>
          cases r1
          obtain ⟨t, rfl⟩ := (show ∃ t, _ = Value.str k.name t from q1)
          cases (show _ = Value.ref b from q2)
          cases (show _ = Value.ref c from q3)
          cases (show _ = Value.bool k.alone from q4)
          exact .cons (as := []) (bs := []) (.str _ _) (.cons (as := []) (bs := []) (.tuple g2 c2 d2 (by simpa using reads_strs r2)) (.cons (as := []) (bs := []) (.tuple g3 c3 d3 (by simpa using reads_strs r3)) (.cons (as := []) (bs := []) (.bool _) .nil)))

/-! ### the dict -/
def NdO (P : Program) (w : World) (a : Addr) (xs : List (Ky × Addr × Value)) : HO := .ext fun h => xs.length ≤ sizeLine ∧ (a == sysModules) = false ∧
  ∃ o es ep, h.get? a = some o ∧ o.ExactDict ∧ o.data = .dict es ep ∧ es.toList = xs.map (entryOfKey (kyKind P w)) ∧ (xs.map (·.1)).Nodup
theorem ndO_ok {P : Program} {w : World} {H : Hp} {h : Heap} {a : Addr} {xs : List (Ky × Addr × Value)} (hz : xs.length ≤ sizeLine) (hd : (a == sysModules) = false) (hm : h.DictOfH (kyKind P w) a xs) : ObjOk P w H h a (NdO P w a xs) := by
  obtain ⟨o, es, ep, h1, h2, h3, h4, _, h5⟩ := hm
  refine ⟨⟨hz, hd, o, es, ep, h1, h2, h3, h4, h5⟩, ⟨o, h1⟩, fun g1 g2 q k => ?_⟩
  obtain ⟨z1, z2, o', es', ep', q1, q2⟩ := q
  exact ⟨z1, z2, o', es', ep', k _ q1, q2⟩
/-- at d: a dict of these keys, in their order, and values -/
structure Nd (K : PySem.W.Frag) (P : Program) (w : World) (H : Hp) (d : Addr) (kvs : List (Ky × V)) : Prop where
  ex : ∃ xs : List (Ky × Addr × Value), H d = some (NdO P w d xs) ∧ Paired (fun p q => p.1 = q.1 ∧ KyAt K H q.2.1 p.1 ∧ RelV p.2 q.2.2) kvs xs
theorem Nd.move {K : PySem.W.Frag} {P : Program} {w : World} {H H' : Hp} {d : Addr} {kvs : List (Ky × V)} (s : TupS H H') (e : H' d = H d) (h : Nd K P w H d kvs) : Nd K P w H' d kvs := by
  obtain ⟨xs, h1, h2⟩ := h.ex
  exact ⟨xs, e.trans h1, Paired.mapP h2 fun p q z => ⟨z.1, z.2.1.tupS s, z.2.2⟩⟩
theorem Nd.same {K : PySem.W.Frag} {P : Program} {w : World} {H H' : Hp} {d : Addr} {kvs : List (Ky × V)} (s : Same H H') (h : Nd K P w H d kvs) : Nd K P w H' d kvs := by
  obtain ⟨xs, h1, h2⟩ := h.ex
  exact ⟨xs, s _ _ h1, Paired.mapP h2 fun p q z => ⟨z.1, z.2.1.same s, z.2.2⟩⟩
theorem Nd.there {K : PySem.W.Frag} {P : Program} {w : World} {H : Hp} {d : Addr} {kvs : List (Ky × V)} (h : Nd K P w H d kvs) : ∃ o, H d = some o ∧ ∀ xs, o ≠ .tup xs := by
  obtain ⟨xs, h1, h2⟩ := h.ex
  exact ⟨_, h1, fun ys z => by cases z⟩
theorem Nd.of {X : Cx} {pn : List (Addr × Obj)} {sg : L2.St} {H : Hp} {s : Shared} {d : Addr} {xs : List (Ky × Addr × Value)} {kvs : List (Ky × V)} (I : Inv X pn sg H s) (h1 : H d = some (NdO X.prog X.w d xs))
    (h2 : Paired (fun p q => p.1 = q.1 ∧ KyAt X.K H q.2.1 p.1 ∧ RelV p.2 q.2.2) kvs xs) : xs.length ≤ sizeLine ∧ (d == sysModules) = false ∧ s.heap.DictOfH (kyKind X.prog X.w) d xs := by
  obtain ⟨⟨hz, hd, o, es, ep, g1, g2, g3, g4, g5⟩, _, _⟩ := (show ObjOk X.prog X.w H s.heap d (NdO X.prog X.w d xs) from I.hok d _ h1)
  refine ⟨hz, hd, o, es, ep, g1, g2, g3, g4, ?_, g5⟩
  have all : ∀ {l : List (Ky × V)} {m : List (Ky × Addr × Value)}, Paired (fun p q => p.1 = q.1 ∧ KyAt X.K H q.2.1 p.1 ∧ RelV p.2 q.2.2) l m → ∀ x ∈ m, (kyKind X.prog X.w).is s.heap x.1 x.2.1 := by
    intro l m q
    induction q with
    | nil => intro x hx; cases hx
    | @cons p q ps qs hq t ih =>
      intro x hx
      rcases List.mem_cons.mp hx with e | hx
      · subst e
        exact KyAt.is I (by rw [← hq.1]; exact hq.2.1)
      · exact ih x hx
  exact all h2
/-! ### {} -/
def tDNewN (P : Program) (w : World) : TE := fun _ H Q => ∀ p, H p = none → Q (.ref p) (upd H p (NdO P w p []))
theorem pe_dnewN {X : Cx} {pos : Pos} : PE X (.Dict [] [] pos) (tDNewN X.prog X.w) := ⟨fun pn s sg H Q I h => by
  have big : (s.heap.objs.size == sysModules) = false := beq_eq_false_iff_ne.mpr (Ne.symm (Nat.ne_of_lt I.big))
  refine wpAny_Dict_empty ⟨.ref s.heap.objs.size, _, I.laid (a := s.heap.objs.size) (o := NdO X.prog X.w s.heap.objs.size []) (t' := s.toks) (fun _ _ q => Heap.get?_push_of_some _ q) (Nat.le_refl _) ?_, rfl, h _ (I.hok.fresh (Nat.le_refl _))⟩
  exact ndO_ok (Nat.zero_le _) big (Heap.DictOfH.new s.heap)⟩
theorem nd_new {K : PySem.W.Frag} {P : Program} {w : World} {H : Hp} {p : Addr} : Nd K P w (upd H p (NdO P w p [])) p [] := ⟨[], upd_same, .nil⟩
/-! ### d[k] = v -/
theorem nd_put {K : PySem.W.Frag} {H : Hp} {kvs : List (Ky × V)} {xs : List (Ky × Addr × Value)} (r : Paired (fun p q => p.1 = q.1 ∧ KyAt K H q.2.1 p.1 ∧ RelV p.2 q.2.2) kvs xs) (k : Ky) {b : Addr} {y : V} {u : Value} (hb : KyAt K H b k) (ry : RelV y u) :
    Paired (fun p q => p.1 = q.1 ∧ KyAt K H q.2.1 p.1 ∧ RelV p.2 q.2.2) (putK kvs k y) (storedH xs k b u) := by
  have e : (kvs.any fun kv => decide (kv.1 = k)) = (atKey xs k).isSome := by
    clear ry hb
    induction r with
    | nil => rfl
    | @cons p q ps qs h t ih =>
      rw [List.any_cons, ih]
      by_cases z : p.1 = k
      · have z' : q.1 = k := h.1.symm.trans z
        simp [atKey, List.find?_cons, z, z']
      · have z' : ¬ q.1 = k := fun x => z (h.1.trans x)
        simp [atKey, List.find?_cons, z, z']
  unfold putK storedH
  rw [e]
  by_cases q : (atKey xs k).isSome = true
  · rw [if_pos q, if_pos q]
    clear e q
    induction r with
    | nil => exact .nil
    | @cons p q ps qs h t ih =>
      rw [List.map_cons, List.map_cons]
      refine .cons ?_ ih
      obtain ⟨h1, h2, h3⟩ := h
      unfold putAt
      by_cases z : p.1 = k
      · rw [if_pos z, if_pos (h1.symm.trans z)]
        exact ⟨h1, h2, ry⟩
      · rw [if_neg z, if_neg (fun x => z (h1.trans x))]
        exact ⟨h1, h2, h3⟩
  · rw [if_neg q, if_neg q]
    exact Paired.snoc r ⟨rfl, hb, ry⟩
def rNput (K : PySem.W.Frag) (P : Program) (w : World) : TSet := fun o i v H Q => ∃ d a kvs k, o = .ref d ∧ i = .ref a ∧ Nd K P w H d kvs ∧ KyAt K H a k ∧ kvs.length < sizeLine ∧
  ∀ H', (∀ b, b ≠ d → H' b = H b) → Nd K P w H' d (putK kvs k v) → Q H'
theorem set_nd {X : Cx} (hu : X.A.units + 9 < cLine) : PSet X (rNput X.K X.prog X.w) := by
  intro pn s sg H vo vi vv uo ui uv Qq I r1 r2 r3 hyp
  obtain ⟨d, a, kvs, k, rfl, rfl, hN, hk, hl, q⟩ := hyp
  cases (show uo = Value.ref d from r1)
  cases (show ui = Value.ref a from r2)
  obtain ⟨xs, h1, h2⟩ := hN.ex
  obtain ⟨hz, hd, hm⟩ := Nd.of I h1 h2
  have nl := Paired.length h2
  have h3 := nd_put h2 k hk r3
  refine wpAny_setItem_heap (knd := kyKind X.prog X.w) (hsz := hz) (show X.A.in1.units + 8 < cLine by show X.A.units + 1 + 8 < cLine; omega) (hk.is I) hm fun h' dd hs => ?_
  have e9 : ∃ z, h'.get? d = some z := let ⟨z, _, _, hq, _⟩ := dd; ⟨z, hq⟩
  have ndup : (storedH xs k a uv).length ≤ sizeLine := by
    rw [← Paired.length h3]
    have := length_putK kvs k vv
    omega
  have mu : Mut (H d) := by
    rw [h1]
    exact True.intro
  refine ⟨upd H d (NdO X.prog X.w d (storedH xs k a uv)), d_write I mu hs e9 (ndO_ok ndup hd dd), q _ (fun b hb => upd_ne hb) ⟨_, upd_same, Paired.mapP h3 fun p x z => ⟨z.1, z.2.1.tupS fun b o e t => ?_, z.2.2⟩⟩⟩
  have nb : b ≠ d := by
    rintro rfl
    rw [h1] at e
    cases e
    rcases t with ⟨ys, t⟩ | ⟨y1, y2, t⟩ <;> cases t
  rw [upd_ne nb]
  exact e
end Jv
/-! sorted of keys: of a dict's, of a list's -/
namespace Jv
open PySem PySem.Spec PyProof.Rows L2
theorem alike_texts : ∀ xs ys : List Str, PySem.W.alikeAll (xs.map .str) (ys.map .str) = true
  | [], _ => by simp [PySem.W.alikeAll]
  | _ :: _, [] => by simp [PySem.W.alikeAll]
  | x :: xs, y :: ys => by
    show PySem.W.alikeAll (.str x :: xs.map .str) (.str y :: ys.map .str) = true
    rw [PySem.W.alikeAll, alike_texts xs ys]
    simp [PySem.W.alike]
theorem Ky.alike (a b : Ky) : PySem.W.alike a.py b.py = true := by
  unfold Ky.py
  simp [PySem.W.alike, PySem.W.alikeAll, alike_texts]
theorem pdepth_texts : ∀ xs : List Str, PyData.depthAll (xs.map .str) = 0
  | [] => by simp [PyData.depthAll]
  | x :: xs => by
    show PyData.depthAll (.str x :: xs.map .str) = 0
    rw [PyData.depthAll, pdepth_texts xs]
    simp [PyData.depth]
theorem Ky.pdepth (k : Ky) : k.py.depth = 2 := by
  unfold Ky.py
  simp [PyData.depth, PyData.depthAll, pdepth_texts]
/-- the order of keys as data, and the one sorted list by it -/
abbrev kyLe (a b : Ky) : Bool := PySem.W.dataLe false Ky.py a b
def kySort (ks : List Ky) : List Ky := ks.mergeSort (PySem.W.dataLe false Ky.py)
abbrev KyAll (K : PySem.W.Frag) (H : Hp) : List Addr → List Ky → Prop := Paired fun a k => KyAt K H a k
theorem KyAll.same {K : PySem.W.Frag} {H H' : Hp} {as : List Addr} {ks : List Ky} (s : Same H H') (h : KyAll K H as ks) : KyAll K H' as ks := Paired.mapP h fun _ _ z => z.same s
section
variable {X : Cx} {pn : List (Addr × Obj)} {sg : L2.St} {H : Hp} {s : Shared}
theorem each_of {K : PySem.W.Frag} : ∀ {as : List Addr} {ks : List Ky}, KyAll K H as ks → PySem.W.EachIs (fun v k => ∃ a, v = Value.ref a ∧ KyAt K H a k) (as.map Value.ref) ks
  | _, _, .nil => .nil
  | _, _, .cons r t => .cons ⟨_, rfl, r⟩ (each_of t)
theorem of_each {K : PySem.W.Frag} : ∀ {vs : List Value} {ks : List Ky}, PySem.W.EachIs (fun v k => ∃ a, v = Value.ref a ∧ KyAt K H a k) vs ks → ∃ as, vs = as.map Value.ref ∧ KyAll K H as ks
  | _, _, .nil => ⟨[], rfl, .nil⟩
  | _, _, .cons ⟨a, e, r⟩ t => by
    obtain ⟨as, e2, r2⟩ := of_each t
    exact ⟨a :: as, by rw [e, e2]; rfl, .cons r r2⟩
theorem vals_refs : ∀ as : List Addr, Vals (as.map V.ref) (as.map Value.ref)
  | [] => .nil
  | _ :: as => .cons rfl (vals_refs as)
theorem sorted_keysG {Q : VK} {r : Addr} (hu : X.A.units + 64 < cLine) (Good : List Addr → List Ky → Prop)
    (col : ∀ R : List Value → Shared → Prop, (∀ s' as ks, Good as ks → Inv X pn sg H s' → R (as.map Value.ref) s') → wpAny (model X.prog X.w) X.A.in1 (collect (.ref r)) R X.xe s)
    (hk : ∀ as ks, Good as ks → KyAll X.K H as ks ∧ ks.length ≤ 1000) (q : ∀ as ks, Good as ks → ∀ p bs, KyAll X.K H bs (kySort ks) → H p = none → Q (.ref p) (upd H p (.lst (bs.map V.ref)))) :
    wpAny (model X.prog X.w) X.A (call (.builtin "sorted") [.ref r]) (EP X pn sg Q) X.xe s := by
  refine Calls.call_function_entry PyProof.Rows.kind_sorted PyProof.Rows.plain_sorted PyProof.Rows.entry_sorted (PyProof.Rows.args_sorted1 _) ?_
  unfold Builtin.«sorted»
  refine wpAny_bind (m := checkCount "sorted" 1 1 _) (wpAny_pure (wpAny_bind (col _ fun s1 as ks good I1 => ?_)))
  obtain ⟨hk, hl⟩ := hk as ks good
  have q := q as ks good
  have nl := Paired.length hk
  have hz : ks.length ≤ sizeLine := Nat.le_trans hl (by decide)
  refine wpAny_bind (wpAny_newList ?_ (by rw [List.length_map, nl]; exact hz))
  have here : (s1.heap.push (seqObj "list" (as.map Value.ref).toArray 0)).get? s1.heap.objs.size = some (seqObj "list" (as.map Value.ref).toArray 0) := Heap.get?_push_size _ rfl
  have I2 : Inv X pn sg H { s1 with heap := s1.heap.push (seqObj "list" (as.map Value.ref).toArray 0), toks := s1.toks } := I1.kept (t' := s1.toks) fun b o e => Heap.get?_push_of_some _ e
  have er : PySem.W.EachIs (fun v k => ∃ zs, Reads (s1.heap.push (seqObj "list" (as.map Value.ref).toArray 0)) v (Ky.py k) zs ∧ s1.heap.objs.size ∉ zs) (as.map Value.ref) ks :=
    (each_of hk).mono fun v k ⟨a, e, z⟩ => ⟨[], by rw [e]; exact z.reads I2, by simp⟩
  refine wpAny_bind (wpAny_holding (PySem.W.list_sort_data (s := { s1 with heap := s1.heap.push (seqObj "list" (as.map Value.ref).toArray 0) }) (R := fun v k => ∃ a, v = Value.ref a ∧ KyAt X.K H a k) (enc := Ky.py) here (each_of hk) er
    (PySem.W.AllAlike.of Ky.alike) (PySem.W.Sortable.tuples fun k => ⟨_, _, rfl⟩) hz (fun k _ => ?_) fun out ol eo => ?_))
  · rw [Ky.pdepth]
    show X.A.units + 1 + 1 + 2 < cLine
    omega
  · obtain ⟨bs, eb, hb⟩ := of_each eo
    obtain ⟨e', he'⟩ := PyProof.Rows.sortedHeap_at (vs := as.map Value.ref) (out := out.toArray) here
    have bl : (bs.map V.ref).length ≤ sizeLine := by
      have : out.length = ks.length := ol
      rw [eb, List.length_map] at this
      rw [List.length_map, this]
      exact hz
    refine wpAny_pure ⟨_, rfl, .ref s1.heap.objs.size, upd H s1.heap.objs.size (.lst (bs.map V.ref)), I1.laid (t' := s1.toks) (fun b u e => ?_) (Nat.le_refl _) (show ObjOk X.prog X.w _ _ _ (.lst (bs.map V.ref)) from ⟨bl, out, e', by rw [eb]; exact vals_refs bs, he'⟩), rfl, q _ bs hb (I1.hok.fresh (Nat.le_refl _))⟩
    have low : b < s1.heap.objs.size := Heap.lt_size e
    rw [PyProof.Rows.sortedHeap_old (Nat.ne_of_lt low) (by rw [size_push']; exact Nat.lt_succ_of_lt low)]
    exact Heap.get?_push_of_some _ e
theorem sorted_keys {Q : VK} {r : Addr} {as : List Addr} {ks : List Ky} (I : Inv X pn sg H s) (hu : X.A.units + 64 < cLine)
    (col : ∀ R : List Value → Shared → Prop, (∀ (h' : Heap) (tk : Nat), (∀ b o, s.heap.get? b = some o → h'.get? b = some o) → R (as.map Value.ref) { s with heap := h', toks := tk }) → wpAny (model X.prog X.w) X.A.in1 (collect (.ref r)) R X.xe s)
    (hk : KyAll X.K H as ks) (hl : ks.length ≤ 1000) (q : ∀ p bs, KyAll X.K H bs (kySort ks) → H p = none → Q (.ref p) (upd H p (.lst (bs.map V.ref)))) :
    wpAny (model X.prog X.w) X.A (call (.builtin "sorted") [.ref r]) (EP X pn sg Q) X.xe s :=
  sorted_keysG hu (fun a k => a = as ∧ k = ks) (fun R h => col R fun h' tk kept => h _ as ks ⟨rfl, rfl⟩ (I.kept kept)) (fun a k ⟨e1, e2⟩ => by rw [e1, e2]; exact ⟨hk, hl⟩) fun a k ⟨e1, e2⟩ => by rw [e2]; exact q
end
theorem keys_of_nd {K : PySem.W.Frag} {H : Hp} : ∀ {kvs : List (Ky × V)} {xs : List (Ky × Addr × Value)}, Paired (fun p q => p.1 = q.1 ∧ KyAt K H q.2.1 p.1 ∧ RelV p.2 q.2.2) kvs xs → KyAll K H (xs.map (·.2.1)) (kvs.map (·.1))
  | _, _, .nil => .nil
  | _, _, .cons h t => .cons h.2.1 (keys_of_nd t)
/-- sorted(d) -/
def rSortD (K : PySem.W.Frag) (P : Program) (w : World) : List V → Hp → VK → Prop := fun vs H Q => ∃ (d : Addr) (kvs : List (Ky × V)), vs = [.ref d] ∧ Nd K P w H d kvs ∧ kvs.length ≤ 1000 ∧
  ∀ p as, KyAll K H as (kySort (kvs.map (·.1))) → H p = none → Q (.ref p) (upd H p (.lst (as.map V.ref)))
theorem cr_sortD {X : Cx} (hc : X.calm = true) (hu : X.A.units + 64 < cLine) : CallR X (.builtin "sorted") (rSortD X.K X.prog X.w) := by
  intro pn s sg H vxs uxs Qq I r1 hyp
  obtain ⟨d, kvs, rfl, hN, hl, q⟩ := hyp
  obtain ⟨u, rfl, r2⟩ := vals1 r1
  cases (show u = Value.ref d from r2)
  obtain ⟨xs, h1, h2⟩ := hN.ex
  obtain ⟨hz, hd, o, es, ep, g1, g2, g3, g4, _, g5⟩ := Nd.of I h1 h2
  have nl := Paired.length h2
  have ks : KyAll X.K H (xs.map (·.2.1)) (kvs.map (·.1)) := keys_of_nd h2
  have sz : es.size = xs.length := by
    rw [← Array.length_toList, g4, List.length_map]
  refine sorted_keys (as := xs.map (·.2.1)) (ks := kvs.map (·.1)) I hu (fun R hR => ?_) ks (by rw [List.length_map]; exact hl) q
  refine PySem.W.kdu_collect (A := X.A.in1) (KdlSrc.rawDict (es := es) (ep := ep) hd) (I.ok.hd hc) ⟨o, g1, g2, g3⟩ (by rw [sz]; exact hz) fun h' tk acc kept it => ?_
  have e : acc.toList = (xs.map (·.2.1)).map Value.ref := by
    apply List.ext_getElem?
    intro i
    by_cases hi : i < xs.length
    · have ha : i < acc.size := by rw [it.1, sz]; exact hi
      obtain ⟨hj, ev⟩ := it.2 i acc[i] (Array.getElem?_eq_getElem ha)
      have e1 : acc.toList[i]? = some acc[i] := by rw [Array.getElem?_toList]; exact Array.getElem?_eq_getElem ha
      have e2 : es.toList[i]? = some es[i] := by rw [Array.getElem?_toList]; exact Array.getElem?_eq_getElem hj
      rw [g4, List.getElem?_map, List.getElem?_eq_getElem hi] at e2
      have e3 : entryOfKey (kyKind X.prog X.w) xs[i] = es[i] := Option.some.inj e2
      rw [e1, ev, ← e3, List.getElem?_map, List.getElem?_map, List.getElem?_eq_getElem hi]
      rfl
    · rw [List.getElem?_eq_none (by rw [Array.length_toList, it.1, sz]; omega), List.getElem?_eq_none (by rw [List.length_map, List.length_map]; omega)]
  rw [e]
  exact hR h' tk kept
/-! what the sorted list is -/
theorem kySort_perm (ks : List Ky) : (kySort ks).Perm ks := List.mergeSort_perm _ _
theorem kySort_len (ks : List Ky) : (kySort ks).length = ks.length := (kySort_perm ks).length_eq
end Jv
/-! {k: v for .. in ..}, k a key -/
namespace Jv
open PySem PySem.Spec PyProof.Rows L2
theorem hn_of {A : Around} {k : Nat} (hr : Room k A) : A.units + 9 < cLine := by
  have := hr.un
  omega
theorem hb_of {A : Around} {k : Nat} (hr : Room k A) : A.units + 64 < cLine := by
  have := hr.un
  omega
section
variable {X : Cx}
theorem dn_set {pn : List (Addr × Obj)} {sg : L2.St} {H : Hp} {s : Shared} {Er : Value → Shared → Prop} {D a : Addr} {kvs : List (Ky × V)} {k : Ky} {v : V} {r : Value} {Q : Unit → Shared → Prop} (I : Inv X pn sg H s) (hu : X.A.units + 9 < cLine) (hN : Nd X.K X.prog X.w H D kvs)
    (hk : KyAt X.K H a k) (hl : kvs.length < sizeLine) (rv : RelV v r) (q : ∀ s' H', (∀ b, b ≠ D → H' b = H b) → Nd X.K X.prog X.w H' D (putK kvs k v) → Inv X pn sg H' s' → Q () s') : wpAny (model X.prog X.w) X.A (dictSet D (.ref a) r) Q Er s := by
  obtain ⟨xs, h1, h2⟩ := hN.ex
  obtain ⟨hz, hd, hm⟩ := Nd.of I h1 h2
  have nl := Paired.length h2
  have h3 := nd_put h2 k hk rv
  refine wpAny_dictSet_heap (knd := kyKind X.prog X.w) (hsz := hz) (show X.A.units + 8 < cLine by omega) (hk.is I) hm fun h' dd hs => ?_
  have e9 : ∃ z, h'.get? D = some z := let ⟨z, _, _, hq, _⟩ := dd; ⟨z, hq⟩
  have ndup : (storedH xs k a r).length ≤ sizeLine := by
    rw [← Paired.length h3]
    have := length_putK kvs k v
    omega
  have mu : Mut (H D) := by
    rw [h1]
    exact True.intro
  refine q _ (upd H D (NdO X.prog X.w D (storedH xs k a r))) (fun b hb => upd_ne hb) ⟨_, upd_same, Paired.mapP h3 fun p x z => ⟨z.1, z.2.1.tupS fun b o e t => ?_, z.2.2⟩⟩ (d_write I mu hs e9 (ndO_ok ndup hd dd))
  have nb : b ≠ D := by
    rintro rfl
    rw [h1] at e
    cases e
    rcases t with ⟨ys, t⟩ | ⟨y1, y2, t⟩ <;> cases t
  rw [upd_ne nb]
  exact e
/-! ### d[k] -/
def getN : List (Ky × V) → Ky → Option V
  | [], _ => none
  | p :: ps, k => if p.1 = k then some p.2 else getN ps k
theorem nd_get {K : PySem.W.Frag} {H : Hp} {kvs : List (Ky × V)} {xs : List (Ky × Addr × Value)} (r : Paired (fun p q => p.1 = q.1 ∧ KyAt K H q.2.1 p.1 ∧ RelV p.2 q.2.2) kvs xs) {k : Ky} {v : V} (e : getN kvs k = some v) : ∃ p, atKey xs k = some p ∧ RelV v p.2 := by
  induction r with
  | nil => cases e
  | @cons p q ps qs h t ih =>
    obtain ⟨h1, h2, h3⟩ := h
    unfold getN at e
    by_cases z : p.1 = k
    · rw [if_pos z] at e
      cases e
      exact ⟨q.2, by simp [atKey, List.find?_cons, h1.symm.trans z], h3⟩
    · rw [if_neg z] at e
      obtain ⟨p', e1, e2⟩ := ih e
      have z' : ¬ q.1 = k := fun y => z (h1.trans y)
      exact ⟨p', by simpa [atKey, List.find?_cons, z'] using e1, e2⟩
def rNget (K : PySem.W.Frag) (P : Program) (w : World) : R2 := fun x y H Q => ∃ d a kvs k v, x = .ref d ∧ y = .ref a ∧ Nd K P w H d kvs ∧ KyAt K H a k ∧ getN kvs k = some v ∧ Q v H
theorem ix_nd (hu : X.A.units + 9 < cLine) : IxR X (rNget X.K X.prog X.w) := by
  intro vl sl pn s sg H x y v u Q I r1 r2 hyp hs
  obtain ⟨d, a, kvs, k, z, rfl, rfl, hN, hk, e, q⟩ := hyp
  cases (show v = Value.ref d from r1)
  cases (show u = Value.ref a from r2)
  obtain ⟨xs, h1, h2⟩ := hN.ex
  obtain ⟨hz, hd, hm⟩ := Nd.of I h1 h2
  obtain ⟨p, e1, e2⟩ := nd_get h2 e
  exact subscriptTail_builtinR (x := p.2) hm.typeIs slot_dict_getitem.lookup (wpAny_getItem_heap (knd := kyKind X.prog X.w) (Q := fun r s' => r = p.2 ∧ EP X pn sg Q r s') (show X.A.in1.units + 8 < cLine by show X.A.units + 1 + 8 < cLine; omega) (hk.is I) hm e1 ⟨rfl, z, H, I.tok _, e2, q⟩) hs
/-- the reading -/
def tDcN (K : PySem.W.Frag) (P : Program) (w : World) (wi : TI) (g : TG) (tt : TT) (tk tv : TE) (vs : List Nat) : TE := fun sg H Q => wi sg H fun J H1 => ∀ D, H1 D = none → ∃ W : Nat → Nat → Hp → Prop, (∃ m, W 0 m (upd H1 D (NdO P w D []))) ∧ ∀ i m H, W i m H →
  (J.stop i H ∧ Q (.ref D) H) ∨ (J.go i H ∧ ∃ Nx : Hp → Prop, (∀ H', Nx H' → ∃ m', m' < m ∧ W (i + 1) m' H') ∧ ∀ x H', J.yld i H x H' → g x (wipe sg vs) H' fun s2 H2 => wipe s2 vs = wipe sg vs ∧ tt s2 H2 fun b H3 =>
    if b = true then tk s2 H3 fun y H4 => tv s2 H4 fun z H5 => ∃ a kvs k, y = .ref a ∧ Nd K P w H5 D kvs ∧ KyAt K H5 a k ∧ kvs.length < sizeLine ∧ ∀ H6, (∀ b, b ≠ D → H6 b = H5 b) → Nd K P w H6 D (putK kvs k z) → Nx H6 else Nx H3)
theorem pe_dcN {kx vx tg it : Expr} {cs : List Expr} {sc : Scope} {own : List (Str × Nat)} {pos : Pos} {wi : TI} {g : TG} {tt : TT} {tk tv : TE} (hc : X.calm = true) (hu : X.A.units + 9 < cLine) (nd : X.N.Nodup) (hi : PI X tg it wi) (ok : BlkOk X.N X.env.scope sc own)
    (hg : ∀ (s : Shared) (H : Hp) (C : Addr) (cl : List (Str × Addr)) (fp : List Addr), PG (X.blk s H sc (compEnvC sc cl C X.env) fp) tg g) (ht : ∀ (s : Shared) (H : Hp) (C : Addr) (cl : List (Str × Addr)) (fp : List Addr), PTs (X.blk s H sc (compEnvC sc cl C X.env) fp) cs tt)
    (hk : ∀ (s : Shared) (H : Hp) (C : Addr) (cl : List (Str × Addr)) (fp : List Addr), PE (X.blk s H sc (compEnvC sc cl C X.env) fp) kx tk) (hv : ∀ (s : Shared) (H : Hp) (C : Addr) (cl : List (Str × Addr)) (fp : List Addr), PE (X.blk s H sc (compEnvC sc cl C X.env) fp) vx tv)
    (hs : ∀ x, foldedSetIterable it X.env x = pure x := by intro _; rfl) : PE X (.DictComp kx vx [⟨tg, it, cs, 0⟩] sc pos) (tDcN X.K X.prog X.w wi g tt tk tv (own.map (·.2))) := by
  refine ⟨fun pn s sg H Q I h => ?_⟩
  rw [arm_eval_DictComp]
  have clo : ∀ y ∈ sc.names, y.2 = .free → ∃ c, X.env.cells.lookup y.1 = some c := fun y hy e => (ok.free y hy e).elim (fun z => I.ok.has _ (.inl z)) fun z => I.ok.has _ (.inr z)
  refine wpAny_comprehension_free (use := none) rfl hs (closure_ok clo) ok.kind (fun y hy e => by rw [ok.uniq y hy, e]) (thn (hi.run pn s sg H _ I h) fun xv s1 hx => thn hx fun iv s2 h2 => ?_)
  obtain ⟨ia, fp, tn, J, H2, rfl, I2, T, st2, f2, q⟩ := h2
  refine wpAny_newObj_type (newEnv_comp ?_)
  -- the new dict, at D
  generalize eD : s2.heap.objs.size = D
  have nD : H2 D = none := I2.hok.fresh (Nat.le_of_eq eD)
  obtain ⟨W, ⟨m0, w0⟩, turn⟩ := q D nD
  generalize e3 : ({ s2 with heap := s2.heap.push { cls := .type "dict", data := .dict #[] } } : Shared) = s3
  have hp3 : s3.heap = s2.heap.push { cls := .type "dict", data := .dict #[] } := by rw [← e3]
  have I3 : Inv X pn sg (upd H2 D (NdO X.prog X.w D [])) s3 := by
    rw [← e3]
    refine I2.laid (t' := s2.toks) (fun b o e => Heap.get?_push_of_some _ e) (Nat.le_of_eq eD) (ndO_ok (Nat.zero_le _) ?_ (by rw [← eD]; exact Heap.DictOfH.new s2.heap))
    rw [← eD]
    exact beq_eq_false_iff_ne.mpr (Ne.symm (Nat.ne_of_lt I2.big))
  have low : ∀ b ∈ fp, b < s2.heap.objs.size := fun b hb => let ⟨o, e, _⟩ := T.obj _ _ st2 b hb; Heap.lt_size e
  have f3 : ∀ b ∈ fp, FpOk X pn (upd H2 D (NdO X.prog X.w D [])) b ∧ b < s3.heap.objs.size := fun b hb => by
    have lt := low b hb
    have ne : b ≠ D := by
      rw [← eD]
      exact Nat.ne_of_lt lt
    exact ⟨⟨by rw [upd_ne ne]; exact (f2 b hb).1, (f2 b hb).2⟩, by rw [hp3, Heap.size_push]; exact Nat.lt_succ_of_lt lt⟩
  have st3 : tn 0 s3.heap := T.keep _ _ _ st2 fun b _ o e => by rw [hp3]; exact Heap.get?_push_of_some _ e
  generalize eH : upd H2 D (NdO X.prog X.w D []) = H3 at I3 w0 f3
  have I4 := block_start I3 ok nd f3
  have pg := hg s3 H3 s3.heap.objs.size (cellsFrom (s3.heap.objs.size + 1) sc.names (cloFrom X.env.cells sc.names [])) fp
  have pt := ht s3 H3 s3.heap.objs.size (cellsFrom (s3.heap.objs.size + 1) sc.names (cloFrom X.env.cells sc.names [])) fp
  have pk := hk s3 H3 s3.heap.objs.size (cellsFrom (s3.heap.objs.size + 1) sc.names (cloFrom X.env.cells sc.names [])) fp
  have pv := hv s3 H3 s3.heap.objs.size (cellsFrom (s3.heap.objs.size + 1) sc.names (cloFrom X.env.cells sc.names [])) fp
  show codeAny _ _ (.compStart (.DictComp kx vx [⟨tg, it, cs, 0⟩] sc pos) 0 (.ref ia) (.ref D) (compEnvC sc (cellsFrom (s3.heap.objs.size + 1) sc.names (cloFrom X.env.cells sc.names [])) s3.heap.objs.size X.env))
    (compPost (model X.prog X.w) X.A X.xe none (EP X pn sg Q) (.ref D) s3.heap.objs.size) { s3 with heap := pushCells (s3.heap.push { cls := .type "dict", data := .dict #[] }) sc.names }
  have nf : ∀ b ∈ fp, H3 b = none := fun b hb => (f3 b hb).1.1
  generalize ec : compEnvC sc (cellsFrom (s3.heap.objs.size + 1) sc.names (cloFrom X.env.cells sc.names [])) s3.heap.objs.size X.env = ce at I4 pg pt pk pv ⊢
  have cl : ce.locals = s3.heap.objs.size := by
    rw [← ec]
    rfl
  generalize e4 : ({ s3 with heap := pushCells (s3.heap.push { cls := .type "dict", data := .dict #[] }) sc.names } : Shared) = s4 at I4 ⊢
  have st4 : tn 0 s4.heap := T.keep _ _ _ st3 fun b _ o e => by
    rw [← e4]
    exact pushCells_keeps _ _ _ _ (Heap.get?_push_of_some _ e)
  have fo : ∀ {sg' : L2.St} {H' : Hp} {s' : Shared}, Inv (X.blk s3 H3 sc ce fp) [] sg' H' s' → (∀ b ∈ fp, H' b = none) → ∀ b ∈ fp, FpOk (X.blk s3 H3 sc ce fp) [] H' b := fun {sg' H' s'} I' hn b hb =>
    ⟨hn b hb, (I'.ok.exf b hb).1, I'.ok.exfs b hb, .inl hb, (I'.ok.exf b hb).2, fun p hp => absurd hp (by simp)⟩
  refine codeAny_compStart_dict ?_ (T.self X.A 0 _ _ _ st4 ?_) <;>
  refine compLoop_anyD (fun n s' => ∃ i H', Inv (X.blk s3 H3 sc ce fp) [] (wipe sg (own.map (·.2))) H' s' ∧ tn i s'.heap ∧ (∀ b ∈ fp, H' b = none) ∧ W i n H') ?_ m0 ⟨0, H3, I4, st4, nf, w0⟩ <;>
  · rintro n s5 ⟨i, H5, I5, st5, n5, w5⟩
    rcases turn i n H5 w5 with ⟨stop, qq⟩ | ⟨go, Nx, hN, step⟩
    · refine thnF (T.done (X.blk s3 H3 sc ce fp) rfl rfl rfl hc i [] s5 _ H5 (fun _ _ => False) I5 (fo I5 n5) st5 stop) fun r s6 ⟨hr, I6⟩ => ?_
      subst hr
      have I7 : Inv X pn sg H5 s6 := I3.call' (ch := fp) I6.os I6.base I6.hok I6.bare fun b hb => ⟨(f3 b hb).1.2.2.2.1, (f3 b hb).1.2.1, (f3 b hb).1.2.2.2.2.1, (f3 b hb).1.2.2.2.2.2⟩
      have nC : H5 s3.heap.objs.size = none := by
        rw [← cl]
        exact I6.free
      obtain ⟨m, hn, _⟩ := I6.loc
      refine ⟨m, by rw [← cl]; exact hn, fun h'' sb => ?_⟩
      obtain ⟨g0, g1, g2, g3, g4, g5⟩ := I3.fpOk (b := s3.heap.objs.size) (Nat.le_refl _) nC
      exact ⟨.ref D, H5, I7.turned (t' := s6.toks) (fun b o hb e => (sb.2 b hb).trans e) g0 g1 g3 g4 g5, rfl, qq⟩
    · refine thnF (T.item (X.blk s3 H3 sc ce fp) rfl rfl rfl hc i [] s5 _ H5 (fun _ _ => False) I5 (fo I5 n5) st5 go) fun r s6 ⟨u, hr, h6⟩ => ?_
      subst hr
      refine thnF h6 fun _ s7 ⟨x, H7, I7, r7, y7, st7, n7⟩ => ?_
      have I8 := I7.pinned (fo I7 n7) (T.obj _ _ st7)
      refine thnF (pg.run _ s7 _ H7 x u _ I8 r7 (step x H7 y7)) fun _ s8 ⟨sg8, H8, I9, hw8, q8⟩ => ?_
      refine thnF (pt.run _ s8 sg8 H8 _ I9 q8) fun b s9 ⟨H9, I10, q9⟩ => ?_
      have fin : ∀ {s' : Shared} {H' : Hp}, Inv (X.blk s3 H3 sc ce fp) ([] ++ pinsAt fp s7.heap) sg8 H' s' → Nx H' → ∃ m, m < n ∧ ∃ i H', Inv (X.blk s3 H3 sc ce fp) [] (wipe sg (own.map (·.2))) H' s' ∧ tn i s'.heap ∧ (∀ b ∈ fp, H' b = none) ∧ W i m H' := fun {s' H'} I' nx => by
        obtain ⟨m', hm, w'⟩ := hN H' nx
        have pin : ∀ b ∈ fp, ∀ o, s7.heap.get? b = some o → s'.heap.get? b = some o ∧ H' b = none := fun b hb o e =>
          let z := I'.pin (b, o) (List.mem_append_right _ (List.mem_append_right _ (mem_pinsAt hb e)))
          ⟨z.1, z.2.1⟩
        have hl : (wipe sg (own.map (·.2))).length = sg8.length := by
          rw [← hw8, wipe_length]
        refine ⟨m', hm, i + 1, H', (I'.unpinned (pins := [])).weak hl (fun j v e => (wipe_some (by rw [hw8]; exact e)).1), T.keep _ _ _ st7 fun b hb o e => (pin b hb o e).1, fun b hb => ?_, w'⟩
        obtain ⟨o, e, _⟩ := T.obj _ _ st7 b hb
        exact (pin b hb o e).2
      cases b with
      | false => exact fin I10 (by simpa using q9)
      | true =>
        simp only [if_true] at q9
        refine thnF (pk.run _ s9 sg8 H9 _ I10 q9) fun z s10 ⟨yk, H10, I11, r10, q10⟩ => ?_
        refine thnF (pv.run _ s10 sg8 H10 _ I11 q10) fun z2 s11 ⟨yv, H11, I12, r11, a, kvs, k, ek, hD, hK, hl, nx⟩ => ?_
        subst ek
        cases (show z = Value.ref a from r10)
        exact dn_set (X := X.blk s3 H3 sc ce fp) I12 hu hD hK hl r11 fun s12 H12 hb hD2 I13 => fin I13 (nx H12 hb hD2)
end
/-! ### its turns -/
theorem dcn_it {J : It} {n : Nat} {Gd : Hp → Prop} {Y : Nat → Hp → V → Hp → Prop} {K : PySem.W.Frag} {P : Program} {w : World} (wk : Walk J n Gd Y) {g : TG} {tt : TT} {tk tv : TE} {vs : List Nat} {sg : L2.St} {H1 : Hp} {D : Addr} {Qd : Hp → Prop} (Pv : Nat → Hp → Prop)
    (h0 : Pv 0 (upd H1 D (NdO P w D []))) (hG : ∀ i H, i ≤ n → Pv i H → Gd H)
    (turn : ∀ i x H H', i < n → Pv i H → Y i H x H' → g x (wipe sg vs) H' fun s2 H2 => wipe s2 vs = wipe sg vs ∧ tt s2 H2 fun b H3 =>
      if b = true then tk s2 H3 fun y H4 => tv s2 H4 fun z H5 => ∃ a kvs k, y = .ref a ∧ Nd K P w H5 D kvs ∧ KyAt K H5 a k ∧ kvs.length < sizeLine ∧ ∀ H6, (∀ b, b ≠ D → H6 b = H5 b) → Nd K P w H6 D (putK kvs k z) → Pv (i + 1) H6 else Pv (i + 1) H3) (fin : ∀ H, Pv n H → Qd H) :
    ∃ W : Nat → Nat → Hp → Prop, (∃ m, W 0 m (upd H1 D (NdO P w D []))) ∧ ∀ i m H, W i m H → (J.stop i H ∧ Qd H) ∨ (J.go i H ∧ ∃ Nx : Hp → Prop, (∀ H', Nx H' → ∃ m', m' < m ∧ W (i + 1) m' H') ∧
      ∀ x H', J.yld i H x H' → g x (wipe sg vs) H' fun s2 H2 => wipe s2 vs = wipe sg vs ∧ tt s2 H2 fun b H3 =>
        if b = true then tk s2 H3 fun y H4 => tv s2 H4 fun z H5 => ∃ a kvs k, y = .ref a ∧ Nd K P w H5 D kvs ∧ KyAt K H5 a k ∧ kvs.length < sizeLine ∧ ∀ H6, (∀ b, b ≠ D → H6 b = H5 b) → Nd K P w H6 D (putK kvs k z) → Nx H6 else Nx H3) := by
  refine ⟨fun i m H => i + m = n ∧ Pv i H, ⟨n, Nat.zero_add n, h0⟩, fun i m H ⟨e, p⟩ => ?_⟩
  have gd := hG i H (by omega) p
  rcases Nat.eq_zero_or_pos m with z | z
  · have e' : i = n := by omega
    subst e'
    exact Or.inl ⟨wk.stops H gd, fin H p⟩
  · have lt : i < n := by omega
    exact Or.inr ⟨wk.goes i H lt gd, Pv (i + 1), fun H' p' => ⟨m - 1, by omega, by omega, p'⟩, fun x H' y => turn i x H H' lt p (wk.yields i H x H' lt gd y)⟩
/-- where but the dict nothing changes -/
theorem Nd.but {K : PySem.W.Frag} {P : Program} {w : World} {H H' : Hp} {d : Addr} {kvs : List (Ky × V)} (h : Nd K P w H d kvs) (hb : ∀ b, b ≠ d → H' b = H b) : TupS H H' := fun b o e t => by
  obtain ⟨u, e1, _⟩ := h.ex
  have n : b ≠ d := by
    rintro rfl
    rw [e1] at e
    cases e
    rcases t with ⟨ys, t⟩ | ⟨y1, y2, t⟩ <;> cases t
  rw [hb b n]
  exact e
theorem Nd.not_lst {K : PySem.W.Frag} {P : Program} {w : World} {H : Hp} {a d : Addr} {xs : List V} {kvs : List (Ky × V)} (h : Nd K P w H d kvs) (e : H a = some (.lst xs)) : a ≠ d := by
  rintro rfl
  obtain ⟨u, e1, _⟩ := h.ex
  rw [e1] at e
  cases e
theorem Nd.two {K : PySem.W.Frag} {P : Program} {w : World} {H : Hp} {a d : Addr} {kvs : List (Ky × V)} (h : Nd K P w H d kvs) (e : H a = none) : a ≠ d := by
  rintro rfl
  obtain ⟨u, e1, _⟩ := h.ex
  rw [e1] at e
  cases e
/-! ### what is put under keys, of any kind -/
section
variable {β γ : Type}
def putE : List (Ky × β) → Ky → β → List (Ky × β)
  | [], k, v => [(k, v)]
  | p :: ps, k, v => if p.1 = k then (p.1, v) :: ps else p :: putE ps k v
def getE : List (Ky × β) → Ky → Option β
  | [], _ => none
  | p :: ps, k => if p.1 = k then some p.2 else getE ps k
theorem putE_keys : ∀ {l : List (Ky × β)} {k : Ky} {v : β}, (putE l k v).map (·.1) = if k ∈ l.map (·.1) then l.map (·.1) else l.map (·.1) ++ [k]
  | [], k, v => rfl
  | p :: ps, k, v => by
    unfold putE
    by_cases z : p.1 = k
    · rw [if_pos z, if_pos (by rw [List.map_cons, z]; exact List.mem_cons_self)]
      rfl
    · rw [if_neg z, List.map_cons, List.map_cons, putE_keys (l := ps)]
      by_cases y : k ∈ ps.map (·.1)
      · rw [if_pos y, if_pos (List.mem_cons_of_mem _ y)]
      · rw [if_neg y, if_neg (fun q => (List.mem_cons.mp q).elim (fun e => z e.symm) y)]
        rfl
theorem putE_nodup {l : List (Ky × β)} (h : (l.map (·.1)).Nodup) (k : Ky) (v : β) : ((putE l k v).map (·.1)).Nodup := by
  rw [putE_keys]
  by_cases y : k ∈ l.map (·.1)
  · rw [if_pos y]
    exact h
  · rw [if_neg y]
    refine List.nodup_append.mpr ⟨h, List.nodup_cons.mpr ⟨fun z => (by cases z), List.nodup_nil⟩, fun a ha b hb => ?_⟩
    rw [List.mem_singleton.mp hb]
    rintro rfl
    exact y ha
theorem putE_new {l : List (Ky × β)} {k : Ky} {v : β} (h : k ∉ l.map (·.1)) : putE l k v = l ++ [(k, v)] := by
  induction l with
  | nil => rfl
  | cons p ps ih =>
    unfold putE
    rw [List.map_cons, List.mem_cons, not_or] at h
    rw [if_neg (fun z => h.1 z.symm), ih h.2]
    rfl
theorem getE_mem {l : List (Ky × β)} {k : Ky} (h : k ∈ l.map (·.1)) : ∃ v, getE l k = some v := by
  induction l with
  | nil => cases h
  | cons p ps ih =>
    unfold getE
    by_cases z : p.1 = k
    · exact ⟨p.2, if_pos z⟩
    · rw [if_neg z]
      exact ih ((List.mem_cons.mp h).resolve_left fun q => z q.symm)
theorem putK_E (l : List (Ky × V)) (hn : (l.map (·.1)).Nodup) (k : Ky) (v : V) : putK l k v = putE l k v := by
  induction l with
  | nil => rfl
  | cons p ps ih =>
    rw [List.map_cons, List.nodup_cons] at hn
    have ih' := ih hn.2
    unfold putK at ih' ⊢
    unfold putE
    by_cases z : p.1 = k
    · have rest : ps.map (fun kv => if kv.1 = k then (kv.1, v) else kv) = ps := by
        have nk : k ∉ ps.map (·.1) := by
          rw [← z]
          exact hn.1
        clear ih ih' hn
        induction ps with
        | nil => rfl
        | cons q qs ih2 =>
          rw [List.map_cons, List.mem_cons, not_or] at nk
          rw [List.map_cons, if_neg (fun y => nk.1 y.symm), ih2 nk.2]
      rw [if_pos (by simp [z]), if_pos z, List.map_cons, if_pos z, rest]
    · rw [if_neg z, List.any_cons, List.map_cons, if_neg z, decide_eq_false z, Bool.false_or, ← ih']
      split <;> rfl
end
end Jv
/-! sets of keys (name, domain, folder, alone) -/
namespace Jv
open PySem PySem.Spec PyProof.Rows L2
section
variable {P : Program} {w : World} {A : Around} {E : Value → Shared → Prop} {s : Shared}
/-! ### what is asked of a key -/
theorem nested_each {h : Heap} : ∀ {ks : List NestedKey} {vs : List Value}, NestedAll h ks vs → ∀ v ∈ vs, ∃ k ∈ ks, NestedIs h k v
  | _, _, .nil => fun v hv => by cases hv
  | _, _, .cons h1 h2 => fun v hv => by
    rcases List.mem_cons.mp hv with rfl | hv
    · exact ⟨_, List.mem_cons_self, h1⟩
    · obtain ⟨k, m, n⟩ := nested_each h2 v hv
      exact ⟨k, List.mem_cons_of_mem _ m, n⟩
theorem depth_mem : ∀ {ks : List NestedKey} {k : NestedKey}, k ∈ ks → k.depth ≤ NestedKey.depthAll ks
  | [], _, h => by cases h
  | q :: qs, k, h => by
    show k.depth ≤ max q.depth (NestedKey.depthAll qs)
    rcases List.mem_cons.mp h with rfl | h
    · exact Nat.le_max_left _ _
    · exact Nat.le_trans (depth_mem h) (Nat.le_max_right _ _)
theorem no_class : ∀ (n : Nat) {k : NestedKey} {v : Value} {Q : Bool → Shared → Prop}, NestedIs s.heap k v → k.depth ≤ n → Q false s → wpAny (model P w) A (ofAClassStatement n v) Q E s
  | n, _, _, Q, .none, _, q => by
    cases n <;> exact wpAny_pure q
  | n, _, _, Q, .bool _, _, q => by
    cases n <;> exact wpAny_pure q
  | n, _, _, Q, .int _ _, _, q => by
    cases n <;> exact wpAny_pure q
  | n, _, _, Q, .text _ _, _, q => by
    cases n <;> exact wpAny_pure q
  | 0, _, _, Q, .tup _ _ _ _, hd, q => absurd (show NestedKey.depthAll _ + 1 ≤ 0 from hd) (Nat.not_succ_le_zero _)
  | n + 1, _, _, Q, .tup (a := a) (o := o) (vs := vs) (n := m) (ks := ks) ho hc hv hall, hd, q => by
    have hT : s.TypeIs (.ref a) "tuple" := ⟨o, ho, hc⟩
    unfold ofAClassStatement
    refine wpAny_bind (wpAny_typeOf hT ?_)
    dsimp only
    rw [if_pos (show (("tuple" : String) == "tuple") = true by decide)]
    refine wpAny_bind (wpAny_pure ?_)
    simp only [Bool.not_true, Bool.false_eq_true, if_false]
    try refine wpAny_bind (wpAny_pure ?_)
    show wpAny _ _ (seqItems? (.ref a) >>= _) _ _ s
    refine wpAny_bind (wpAny_seqItems ho hv ?_)
    dsimp only
    refine wpAny_bind ?_
    show wpAny _ _ (forIn vs _ _) _ _ s
    rw [← Array.forIn_toList]
    refine wpAny_forIn_list _ (fun l r s' => r.1 = none ∧ s' = s ∧ ∀ v ∈ l, v ∈ vs.toList) _ ?_ ?_ _ _ ⟨rfl, rfl, fun v hv => hv⟩
    · rintro v l r s' ⟨_, es, al⟩
      rw [es]
      obtain ⟨k', m1, is⟩ := nested_each hall v (al v List.mem_cons_self)
      have d1 : k'.depth ≤ n := by
        have := depth_mem m1
        have : NestedKey.depthAll ks + 1 ≤ n + 1 := hd
        omega
      refine wpAny_bind (no_class n is d1 ?_)
      simp only [Bool.false_eq_true, if_false]
      exact wpAny_pure ⟨rfl, rfl, fun u hu => al u (List.mem_cons_of_mem _ hu)⟩
    · rintro ⟨r1, r2⟩ s' ⟨hr, rfl, _⟩
      simp only at hr
      subst hr
      exact wpAny_pure q
/-- its first item is a text: it hashes by the run -/
theorem by_run {k : Ky} {a : Addr} {Q : Bool → Shared → Prop} (hk : (kyKind P w).is s.heap k a) (q : Q false s) : wpAny (model P w) A (hashByValue 8 (.ref a)) Q E s := by
  obtain ⟨hi, _⟩ := hk
  have hi : NestedIs s.heap (.tup [.text k.name, .tup (k.dom.map .text), .tup (k.fold.map .text), .num (if k.alone = true then 1 else 0)]) (.ref a) := hi
  cases hi with
  | @tup _ o vs n _ ho hc hv hall =>
    have hT : s.TypeIs (.ref a) "tuple" := ⟨o, ho, hc⟩
    obtain ⟨l, rfl⟩ : ∃ l : List Value, vs = l.toArray := ⟨vs.toList, by simp⟩
    have hall : NestedAll s.heap [.text k.name, .tup (k.dom.map .text), .tup (k.fold.map .text), .num (if k.alone = true then 1 else 0)] l := by simpa using hall
    cases hall with
    | @cons _ v0 _ l2 h1 h2 =>
      cases h1
      unfold hashByValue
      refine wpAny_bind (wpAny_specialOf hT F.slot_tuple_hash.lookup ?_)
      show wpAny _ _ (seqItems? (.ref a) >>= _) _ _ s
      refine wpAny_bind (wpAny_seqItems ho hv ?_)
      refine wpAny_bind ?_
      show wpAny _ _ (forIn (Value.str k.name _ :: l2).toArray _ _) _ _ s
      rw [← Array.forIn_toList]
      refine wpAny_forIn_list _ (fun l r s' => (l = Value.str k.name _ :: l2 ∧ s' = s)) _ ?_ ?_ _ _ ⟨rfl, rfl⟩
      · rintro v l r s' ⟨e, es⟩
        cases e
        rw [es]
        show wpAny _ _ (hashByValue 7 (.str k.name _) >>= _) _ _ s
        refine wpAny_bind (wpAny_pure ?_)
        simp only [Bool.not_false, if_true]
        exact wpAny_pure (wpAny_pure q)
      · rintro r s' ⟨e, _⟩
        cases e
theorem not_seen {k : Ky} {b : Addr} {Q : Bool → Shared → Prop} (hk : (kyKind P w).is s.heap k b) {ys : List Value} (hy : ∀ y ∈ ys, ∃ k' c, y = Value.ref c ∧ (kyKind P w).is s.heap k' c) (q : Q false s) : wpAny (model P w) A (searchCouldBeSeen (.ref b) ys) Q E s := by
  unfold searchCouldBeSeen
  refine wpAny_bind (wpAny_forIn_list _ (fun l r s' => r.1 = none ∧ s' = s ∧ ∀ y ∈ l, y ∈ ys) _ ?_ ?_ _ _ ⟨rfl, rfl, fun y hy => hy⟩)
  · rintro v l r s' ⟨_, es, al⟩
    rw [es]
    obtain ⟨k', c, rfl, hc⟩ := hy v (al v List.mem_cons_self)
    have al' : ∀ y ∈ l, y ∈ ys := fun u hu => al u (List.mem_cons_of_mem _ hu)
    dsimp only
    by_cases hv : (b == c || (carriedByValue (.ref b) && carriedByValue (.ref c))) = true
    · exact wp_if_pos hv (wpAny_pure ⟨rfl, rfl, al'⟩)
    · refine wp_if_neg hv (wpAny_bind ((kyKind P w).quiet hk ?_))
      simp only [Bool.not_true, Bool.false_eq_true, if_false]
      refine wpAny_bind ((kyKind P w).quiet hc ?_)
      simp only [Bool.not_true, Bool.false_eq_true, if_false]
      refine wpAny_bind (no_class 8 hk.1 hk.2 ?_)
      simp only [Bool.false_eq_true, if_false]
      refine wpAny_bind (no_class 8 hc.1 hc.2 ?_)
      simp only [Bool.false_eq_true, if_false]
      exact wpAny_pure ⟨rfl, rfl, al'⟩
  · rintro ⟨r1, r2⟩ s' ⟨hr, es, _⟩
    rw [es]
    simp only at hr
    subst hr
    exact wpAny_pure q
/-! ### the set -/
abbrev kh (P : Program) (w : World) (k : Ky) : Int := (kyKind P w).hash k
def rowK (P : Program) (w : World) (p : Addr × Ky) : Int × Value := (kh P w p.2, Value.ref p.1)
structure KsR (P : Program) (w : World) (h : Heap) (a : Addr) (L : List (Addr × Ky)) (es : Array (Int × Value)) (ep : Nat) (t : SetTable) : Prop where
  at_ : ∃ o, h.get? a = some o ∧ o.ExactSet ∧ o.data = .set es ep t
  rows : es.toList = L.map (rowK P w)
  tab : TabOk t (L.map fun p => kh P w p.2)
  one : (L.map (·.2)).Nodup
  keys : ∀ p ∈ L, (kyKind P w).is h p.2 p.1
  led : w.params.followText "set-order" = true ∨ t.led = true
  room : L.length * 5 < t.mask * 3
  few : L.length < 64
variable {a : Addr} {L : List (Addr × Ky)} {es : Array (Int × Value)} {ep : Nat} {t : SetTable}
theorem KsR.size (R : KsR P w s.heap a L es ep t) : es.size = L.length := by
  rw [← Array.length_toList, R.rows, List.length_map]
theorem fits_of {n : Nat} (hp : t.place.size = n) (hd : t.dummies = #[]) (hm : n ≤ t.mask) : t.fits n = true := by
  unfold SetTable.fits SetTable.fill
  rw [hd, hp]
  simpa using hm
theorem KsR.place (R : KsR P w s.heap a L es ep t) : t.place.size = L.length := by
  rw [R.tab.sz, List.length_map]
theorem KsR.fits (R : KsR P w s.heap a L es ep t) : t.fits es.size = true := fits_of (by rw [R.place, R.size]) R.tab.dm (by have := R.size; have := R.room; omega)
theorem KsR.row (R : KsR P w s.heap a L es ep t) {i : Nat} {p : Addr × Ky} (h : L[i]? = some p) : es[i]? = some (rowK P w p) := by
  rw [← Array.getElem?_toList, R.rows, List.getElem?_map, h]
  rfl
def prb (m : Nat) (h : Int) (c : Nat) : SetTable.Probe := nth m (runAt m (SetTable.bits h % (m + 1)) (SetTable.bits h)) c
theorem prb_add (m : Nat) (h : Int) (c q : Nat) : nth m (prb m h c) q = prb m h (c + q) := (nth_add m c _ q).symm
theorem nth_dummy (m : Nat) : ∀ (c : Nat) (p : SetTable.Probe), p.dummy = none → (nth m p c).dummy = none
  | 0, _, h => h
  | c + 1, p, h => nth_dummy m c (adv m p) (by
    unfold adv
    split <;> exact h)
theorem prb_j (m : Nat) (h : Int) (c : Nat) : (prb m h c).j = way m h c := rfl
theorem prb_dummy (m : Nat) (h : Int) (c : Nat) : (prb m h c).dummy = none := nth_dummy m c (runAt m (SetTable.bits h % (m + 1)) (SetTable.bits h)) rfl
/-- from the c-th place on: the key, or the K-th place, which is free -/
theorem KsR.seek (R : KsR P w s.heap a L es ep t) {x : Addr} {k : Ky} (hx : (kyKind P w).is s.heap k x) (hu : A.units + 8 < cLine) {K : Nat} (hF : K < 10 * SetTable.turns t.mask) (hK : way t.mask (kh P w k) K ∉ t.place.toList) (hB : ∀ c, c < K → way t.mask (kh P w k) c ∈ t.place.toList)
    {Q : SetFound → Shared → Prop} (yes : k ∈ L.map (·.2) → Q (.there none) s) (no : k ∉ L.map (·.2) → Q (.free (way t.mask (kh P w k) K) false) s) :
    ∀ (f c : Nat) (st : Option SetTable.Probe), st.getD (t.probeStart (kh P w k)) = prb t.mask (kh P w k) c → c ≤ K → K - c < f →
      (∀ (i : Nat) p, L[i]? = some p → p.2 = k → ∃ c', c ≤ c' ∧ c' < K ∧ t.place.toList[i]? = some (way t.mask (kh P w k) c')) → wpAny (model P w) A (setSearchFrom a (.ref x) (kh P w k) true f st) Q E s
  | 0, c, st, _, _, hf, _ => absurd hf (Nat.not_lt_zero _)
  | f + 1, c, st, est, hc, hf, ahead => by
    obtain ⟨o, ho, hex, hd⟩ := R.at_
    rw [setSearchFrom_succ]
    refine wpAny_bind (wpAny_setState_of ho hd R.fits ?_)
    dsimp only
    have gw : ¬ t.gaveWay = true := by
      unfold SetTable.gaveWay
      rw [mask_odd R.tab.mok]
      decide
    refine wp_if_neg gw ?_
    try refine wpAny_bind (wpAny_pure ?_)
    have ej : ∀ q, (nth t.mask (prb t.mask (kh P w k) c) q).j = way t.mask (kh P w k) (c + q) := fun q => by rw [prb_add, prb_j]
    have hashes : ∀ (i : Nat) p, L[i]? = some p → (es[i]?.map (·.1)).getD 0 = kh P w p.2 := fun i p hp => by
      rw [R.row hp, Option.map_some, Option.getD_some]
      exact congrArg Prod.fst (show rowK P w p = (kh P w p.2, Value.ref p.1) from rfl)
    have spec := go_spec t R.tab.ris R.tab.dm (fun i => (es[i]?.map (·.1)).getD 0) (kh P w k) (10 * SetTable.turns t.mask) (K - c) (prb t.mask (kh P w k) c) (prb_dummy _ _ _) (Nat.lt_of_le_of_lt (Nat.sub_le _ _) hF)
      (fun q hq => by rw [ej]; exact hB (c + q) (by omega)) (by rw [ej, show c + (K - c) = K by omega]; exact hK)
    have free_of : ∀ {k' : Nat}, (∀ (i : Nat) (p : Addr × Ky), L[i]? = some p → p.2 = k → ∃ c', c ≤ c' ∧ c' < K ∧ t.place.toList[i]? = some (way t.mask (kh P w k) c')) → (∀ (q i' : Nat), q < k' → t.place.toList[i']? = some (way t.mask (kh P w k) (c + q)) → (es[i']?.map (·.1)).getD 0 ≠ kh P w k) →
        ∀ (i : Nat) (p : Addr × Ky), L[i]? = some p → p.2 = k → ∃ c', c + k' ≤ c' ∧ c' < K ∧ t.place.toList[i]? = some (way t.mask (kh P w k) c') := by
      intro k' ah hno i p hp hk
      obtain ⟨c', a1, a2, a3⟩ := ah i p hp hk
      rcases Nat.lt_or_ge c' (c + k') with z | z
      · refine absurd ?_ (hno (c' - c) i (by omega) (by rw [show c + (c' - c) = c' by omega]; exact a3))
        rw [hashes i p hp, hk]
      · exact ⟨c', z, a2, a3⟩
    rcases spec with ⟨q, i, hq, hi, hh, hno, hpr⟩ | ⟨hno, hpr⟩
    · rw [ej] at hi
      have hpr : t.probe (fun i => (es[i]?.map (·.1)).getD 0) (kh P w k) (st.getD (t.probeStart (kh P w k))) = some (.candidate (way t.mask (kh P w k) (c + q)) i (prb t.mask (kh P w k) (c + (q + 1)))) := by
        rw [est, ← ej, ← prb_add]
        exact hpr
      rw [hpr]
      dsimp only
      have il : i < L.length := by
        have h1 := (List.getElem?_eq_some_iff.mp hi).1
        rw [Array.length_toList, R.place] at h1
        exact h1
      obtain ⟨p, hp⟩ : ∃ p, L[i]? = some p := ⟨_, List.getElem?_eq_getElem il⟩
      have pm : p ∈ L := List.mem_of_getElem? hp
      have next := free_of ahead (k' := q) fun q' i' h1 h2 => hno q' i' h1 (by rw [ej]; exact h2)
      have live : t.slot (way t.mask (kh P w k) (c + q)) = .live i := slot_live R.tab.ris hi
      have rest : wpAny (model P w) A (searchRest a (.ref x) (kh P w k) true f es t (way t.mask (kh P w k) (c + q)) i (prb t.mask (kh P w k) (c + (q + 1)))) Q E s := by
        unfold searchRest
        rw [R.row hp]
        unfold rowK
        dsimp only
        refine wpAny_bind (wpAny_holding ((kyKind P w).eqBool hu (R.keys p pm) hx (wpAny_bind (wpAny_setState_of ho hd R.fits ?_))))
        dsimp only
        by_cases ek : p.2 = k
        · exact wp_if_pos (by simp [ek]) (wpAny_pure (yes (List.mem_map.mpr ⟨p, pm, ek⟩)))
        · refine wp_if_neg (by simp [ek]) ?_
          try refine wpAny_bind (wpAny_pure ?_)
          rw [sameMem]
          dsimp only
          simp only [if_true, live, R.row hp, rowK]
          refine wpAny_bind (wpAny_isSame_ref_self (wpAny_bind (wpAny_pure ?_)))
          simp only [if_true]
          refine wp_if_neg (by simp [ek]) (R.seek hx hu hF hK hB yes no f (c + (q + 1)) _ rfl (by omega) (by omega) fun i0 p0 h0 k0 => ?_)
          obtain ⟨c', a1, a2, a3⟩ := next i0 p0 h0 k0
          refine ⟨c', ?_, a2, a3⟩
          rcases Nat.eq_or_lt_of_le a1 with z | z
          · rw [← z] at a3
            have s0 := (slot_live R.tab.ris a3).symm.trans live
            injection s0 with s0
            rw [s0, hp] at h0
            cases h0
            exact absurd k0 ek
          · omega
      by_cases hl : t.led = true
      · refine wp_if_neg (by simp [hl]) ?_
        try refine wpAny_bind (wpAny_pure ?_)
        exact rest
      · refine wp_if_pos (by simp [hl]) (wpAny_bind (not_seen hx (fun y hy => ?_) ?_))
        · obtain ⟨e, he, ee⟩ := List.mem_map.mp hy
          have he2 : e ∈ es.toList := (by simpa using he : e ∈ es ∧ e.1 = kh P w k).1 |> Array.mem_toList_iff.mpr
          rw [R.rows] at he2
          obtain ⟨p2, hp2, e2⟩ := List.mem_map.mp he2
          exact ⟨p2.2, p2.1, by rw [← ee, ← e2]; rfl, R.keys p2 hp2⟩
        · refine wp_if_neg (by decide) ?_
          try refine wpAny_bind (wpAny_pure ?_)
          exact rest
    · have hpr : t.probe (fun i => (es[i]?.map (·.1)).getD 0) (kh P w k) (st.getD (t.probeStart (kh P w k))) = some (.empty (way t.mask (kh P w k) K) none) := by
        have e2 : way t.mask (kh P w k) K = (nth t.mask (prb t.mask (kh P w k) c) (K - c)).j := by rw [ej, show c + (K - c) = K by omega]
        rw [est, e2]
        exact hpr
      rw [hpr]
      dsimp only
      refine wpAny_pure (no fun hm => ?_)
      obtain ⟨p0, m0, k0⟩ := List.mem_map.mp hm
      obtain ⟨i0, h0⟩ := List.getElem?_of_mem m0
      obtain ⟨c', a1, a2, a3⟩ := free_of ahead (k' := K - c) (fun q' i' h1 h2 => hno q' i' h1 (by rw [ej]; exact h2)) i0 p0 h0 k0
      omega
theorem KsR.find (R : KsR P w s.heap a L es ep t) {x : Addr} {k : Ky} (hx : (kyKind P w).is s.heap k x) (hu : A.units + 8 < cLine) {Q : SetFound → Shared → Prop} (yes : k ∈ L.map (·.2) → Q (.there none) s)
    (no : ∀ K, k ∉ L.map (·.2) → way t.mask (kh P w k) K ∉ t.place.toList → (∀ c, c < K → way t.mask (kh P w k) c ∈ t.place.toList) → Q (.free (way t.mask (kh P w k) K) false) s) : wpAny (model P w) A (setSearch a (.ref x) (kh P w k) true) Q E s := by
  have rm := R.room
  obtain ⟨K, hF, hK, hB⟩ := R.tab.first (by rw [List.length_map]; omega) (kh P w k)
  have big : K < 100000 := by
    have : 10 * SetTable.turns t.mask ≤ 1420 := by
      unfold SetTable.turns
      rcases R.tab.mok with e | e | e <;> omega
    omega
  unfold setSearch
  refine R.seek hx hu hF hK hB yes (fun n => no K n hK hB) 100000 0 none rfl (Nat.zero_le _) (by omega) fun i p hp hk => ?_
  have il : i < t.place.toList.length := by
    rw [Array.length_toList, R.place]
    exact (List.getElem?_eq_some_iff.mp hp).1
  have hj := List.getElem?_eq_getElem il
  obtain ⟨c, hc, e⟩ := R.tab.before hK (i := i) (by rw [List.getElem?_map, hp, ← hk]; rfl) hj
  exact ⟨c, Nat.zero_le _, hc, by rw [hj, e]⟩
theorem k_same {h h' : Heap} {k : Ky} {a b : Addr} {o : Obj} {es : Array (Int × Value)} {ep : Nat} {t : SetTable} (hb : (kyKind P w).is h k b) (ho : h.get? a = some o) (hd : o.data = .set es ep t) (hs : Heap.SameBut a h h') : (kyKind P w).is h' k b :=
  ⟨NestedIs.at (fun c oc vs n hc hv => (hs.2 c fun e => by
    rw [e, ho] at hc
    cases hc
    rw [hd] at hv
    cases hv).trans hc) _ _ hb.1, hb.2⟩
theorem rows_by {f : Addr × Ky → Int × Value} {L : List (Addr × Ky)} {es : Array (Int × Value)} {order : Array Nat} (hr : es.toList = L.map f) (hp : order.toList.Perm (List.range L.length)) :
    ∃ L2 : List (Addr × Ky), (order.filterMap (es[·]?)).toList = L2.map f ∧ L2.Perm L ∧ (L2.map fun p => (f p).1) = order.toList.map fun i => (es.map (·.1)).getD i 0 := by
  have get : ∀ i, es[i]? = (L[i]?).map f := fun i => by rw [← Array.getElem?_toList, hr, List.getElem?_map]
  refine ⟨order.toList.filterMap fun i => L[i]?, ?_, ?_, ?_⟩
  · rw [Array.toList_filterMap, List.map_filterMap]
    congr 1
    funext i
    exact get i
  · have all : ∀ n, n ≤ L.length → (List.range n).filterMap (fun i => L[i]?) = L.take n := by
      intro n
      induction n with
      | zero => exact fun _ => rfl
      | succ n ih =>
        intro hn
        rw [List.range_succ, List.filterMap_append, ih (Nat.le_of_succ_le hn), List.take_add_one, List.getElem?_eq_getElem hn, List.filterMap_cons_some (List.getElem?_eq_getElem hn)]
        rfl
    have z := hp.filterMap (fun i => L[i]?)
    rw [all _ (Nat.le_refl _), List.take_length] at z
    exact z
  · have low : ∀ i ∈ order.toList, i < L.length := fun i hi => List.mem_range.mp (hp.mem_iff.mp hi)
    generalize order.toList = l at low
    clear hp
    induction l with
    | nil => rfl
    | cons i l ih =>
      have il := low i List.mem_cons_self
      rw [List.filterMap_cons_some (List.getElem?_eq_getElem il), List.map_cons, List.map_cons, ih fun j hj => low j (List.mem_cons_of_mem _ hj)]
      congr 1
      have e : (es.map (·.1))[i]? = some (f L[i]).1 := by
        rw [Array.getElem?_map, get, List.getElem?_eq_getElem il]
        rfl
      simp [Array.getD_eq_getD_getElem?, e]
/-- what is asked of a table before it is laid anew, or left -/
structure Bare (P : Program) (w : World) (h : Heap) (a : Addr) (L : List (Addr × Ky)) (es : Array (Int × Value)) (ep : Nat) (t : SetTable) : Prop where
  at_ : ∃ o, h.get? a = some o ∧ o.ExactSet ∧ o.data = .set es ep t
  rows : es.toList = L.map (rowK P w)
  tab : TabOk t (L.map fun p => kh P w p.2)
  one : (L.map (·.2)).Nodup
  keys : ∀ p ∈ L, (kyKind P w).is h p.2 p.1
  led : w.params.followText "set-order" = true ∨ t.led = true
  fit : L.length ≤ t.mask
  few : L.length < 64
theorem Bare.relay (B : Bare P w s.heap a L es ep t) {wanted M : Nat} (hw : SetTable.sizeAbove wanted - 1 = M) (hM : MaskOk M) (hw2 : SetTable.sizeAbove wanted ≤ 128) (hn : L.length * 5 < M * 3) {Q : Unit → Shared → Prop}
    (q : ∀ h' L' es' ep' t', Heap.SameBut a s.heap h' → KsR P w h' a L' es' ep' t' → L'.Perm L → Q () { s with heap := h' }) : wpAny (model P w) A (setRelay a wanted) Q E s := by
  obtain ⟨o, ho, hex, hd⟩ := B.at_
  have n1 : es.size = L.length := by rw [← Array.length_toList, B.rows, List.length_map]
  have n2 : t.place.size = L.length := by rw [B.tab.sz, List.length_map]
  have fit := B.fit
  obtain ⟨t', order, e, hp, T, em, el, ep', ed⟩ := relaid_ok t (hs := es.map (·.1)) (wanted := wanted) hw hM (by rw [Array.size_map, n1]; omega)
  rw [Array.size_map, n1] at hp
  obtain ⟨L2, r1, r2, r3⟩ := rows_by B.rows hp
  have r3 : (L2.map fun p => kh P w p.2) = order.toList.map fun i => (es.map (·.1)).getD i 0 := r3
  rw [← r3] at T
  have n3 : (order.filterMap (es[·]?)).size = es.size := by rw [← Array.length_toList, r1, List.length_map, r2.length_eq, n1]
  rw [setRelay_eq]
  refine wpAny_bind (wpAny_setState_of ho hd (fits_of (by rw [n2, n1]) B.tab.dm (by rw [n1]; exact fit)) ?_)
  dsimp only
  refine wp_if_neg (by rw [sizeLine_eq]; omega) ?_
  try refine wpAny_bind (wpAny_pure ?_)
  rw [e]
  dsimp only
  refine wpAny_bind (wp_if_neg (by rw [n3]; simp) ?_)
  try refine wpAny_bind (wpAny_pure ?_)
  refine wpAny_pure ?_
  dsimp only
  have sb : Heap.SameBut a s.heap (s.heap.update a (Obj.putSet (order.filterMap (es[·]?)) t')) := Heap.SameBut.update ..
  have bf := B.few
  refine wpAny_storeSet_of ho hd (q _ L2 _ (ep + 1) t' sb ⟨⟨_, store_at ho hd, ⟨hex.1, hex.2.1, hex.2.2⟩, rfl⟩, r1, T, (r2.map (·.2)).nodup_iff.mpr B.one, fun p m => k_same (B.keys p (r2.mem_iff.mp m)) ho hd sb, by rw [el]; exact B.led, ?_, by rw [r2.length_eq]; exact bf⟩ r2) (by rw [n3, n1, sizeLine_eq]; omega)
  rw [r2.length_eq, em]
  exact hn
/-- behind the storing -/
theorem Bare.done (B : Bare P w s.heap a L es ep t) {n : Nat} (hn : L.length = n + 1) (hf : t.fill = L.length) (hr : n * 5 < t.mask * 3) (hfew : n < 63) {Q : Bool → Shared → Prop}
    (q : ∀ h' L' es' ep' t', Heap.SameBut a s.heap h' → KsR P w h' a L' es' ep' t' → L'.Perm L → Q true { s with heap := h' }) :
    wpAny (model P w) A (do
      if !false && t.tooFull then setRelay a (SetTable.grown (n + 1))
      return true) Q E s := by
  by_cases full : t.tooFull = true
  · have big : L.length * 5 ≥ t.mask * 3 := by
      have h := full
      unfold SetTable.tooFull at h
      rw [decide_eq_true_eq, hf] at h
      exact h
    have two : (t.mask = 7 ∧ n = 4) ∨ (t.mask = 31 ∧ n = 18) := by
      rcases B.tab.mok with e | e | e
      · left
        rw [e] at big hr
        exact ⟨e, by omega⟩
      · right
        rw [e] at big hr
        exact ⟨e, by omega⟩
      · rw [e] at big hr
        omega
    refine wp_if_pos (by simp [full]) (wpAny_bind ?_)
    have go : ∀ M, SetTable.sizeAbove (SetTable.grown (n + 1)) - 1 = M → MaskOk M → SetTable.sizeAbove (SetTable.grown (n + 1)) ≤ 128 → L.length * 5 < M * 3 → wpAny (model P w) A (setRelay a (SetTable.grown (n + 1))) (fun _ s' => wpAny (model P w) A (pure true) Q E s') E s :=
      fun M h1 h2 h3 h4 => B.relay h1 h2 h3 h4 fun h' L' es' ep' t' sb R pm => wpAny_pure (q h' L' es' ep' t' sb R pm)
    rcases two with ⟨_, e⟩ | ⟨_, e⟩
    · exact go 31 (by rw [e, size_20]) (.inr (.inl rfl)) (by rw [e, size_20]; decide) (by omega)
    · exact go 127 (by rw [e, size_76]) (.inr (.inr rfl)) (by rw [e, size_76]; decide) (by omega)
  · refine wp_if_neg (by simp [full]) (wpAny_pure (q s.heap L es ep t (Heap.SameBut.refl a s.heap) ⟨B.at_, B.rows, B.tab, B.one, B.keys, B.led, ?_, B.few⟩ (List.Perm.refl _)))
    have h := full
    unfold SetTable.tooFull at h
    rw [decide_eq_true_eq, hf] at h
    omega
theorem KsR.add (R : KsR P w s.heap a L es ep t) {x : Addr} {k : Ky} (hx : (kyKind P w).is s.heap k x) (hu : A.units + 8 < cLine) (hfew : L.length < 63) {Q : Bool → Shared → Prop}
    (q : ∀ b h' L' es' ep' t', Heap.SameBut a s.heap h' → KsR P w h' a L' es' ep' t' → (k ∈ L.map (·.2) → L' = L) → (k ∉ L.map (·.2) → L'.Perm ((x, k) :: L)) → Q b { s with heap := h' }) : wpAny (model P w) A (setAddHashed a (.ref x) (kh P w k)) Q E s := by
  obtain ⟨o, ho, hex, hd⟩ := R.at_
  have rm := R.room
  unfold setAddHashed
  refine wpAny_holding ?_
  rw [show (100000 : Nat) = 99999 + 1 from rfl, setAddHashedIn_succ]
  refine wpAny_bind (wpAny_setState_of ho hd R.fits ?_)
  dsimp only
  refine wp_if_neg (by simp [byScan, Value.scannable]) ?_
  try refine wpAny_bind (wpAny_pure ?_)
  refine wpAny_bind (R.find hx hu (fun hm => ?_) fun K hm hK hB => ?_)
  · dsimp only
    exact wpAny_pure (q false s.heap L es ep t (Heap.SameBut.refl a s.heap) R (fun _ => rfl) fun z => absurd hm z)
  · dsimp only
    refine wpAny_bind (wpAny_setState_of ho hd R.fits ?_)
    dsimp only
    obtain ⟨q1, q2, q3, q4, q5, q6, q7, q8, q9⟩ := R.tab.put hK hB
    generalize t.put (way t.mask (kh P w k) K) = pt at q1 q3 q4 q5 q6 q7 q8 q9 ⊢
    obtain ⟨t1, p⟩ := pt
    dsimp only at q1 q3 q4 q5 q6 q7 q8 q9 ⊢
    subst q1
    have rin : (SetTable.insertAt es (SetTable.below t.place (way t.mask (kh P w k) K)) (kh P w k, Value.ref x)).toList = (L.take (SetTable.below t.place (way t.mask (kh P w k) K)) ++ (x, k) :: L.drop (SetTable.below t.place (way t.mask (kh P w k) K))).map (rowK P w) := by
      rw [SetTable.toList_insertAt, R.rows, List.map_append, List.map_cons, List.map_take, List.map_drop]
      rfl
    generalize SetTable.below t.place (way t.mask (kh P w k) K) = p at q2 q3 rin ⊢
    have pm := put_perm L p (x, k)
    have hh : (L.take p ++ (x, k) :: L.drop p).map (fun p => kh P w p.2) = (L.map fun p => kh P w p.2).take p ++ kh P w k :: (L.map fun p => kh P w p.2).drop p := by rw [List.map_append, List.map_cons, List.map_take, List.map_drop]
    rw [← hh] at q3
    generalize L.take p ++ (x, k) :: L.drop p = L1 at pm q3 rin
    have n1 : L1.length = L.length + 1 := pm.length_eq
    generalize SetTable.insertAt es p (kh P w k, Value.ref x) = es1 at rin ⊢
    have n2 : es1.size = L.length + 1 := by rw [← Array.length_toList, rin, List.length_map, n1]
    have one1 : (L1.map (·.2)).Nodup := (pm.map (·.2)).nodup_iff.mpr (by rw [List.map_cons]; exact List.nodup_cons.mpr ⟨hm, R.one⟩)
    -- whatever it tells of hashes
    have fin : ∀ t2 : SetTable, TabOk t2 (L1.map fun p => kh P w p.2) → t2.mask = t.mask → t2.led = t.led → t2.fill = L1.length → wpAny (model P w) A (do
        storeSet a es1 t2
        if !false && t2.tooFull then setRelay a (SetTable.grown (es.size + 1))
        return true) Q E s := by
      intro t2 T2 m2 l2 f2
      refine wpAny_bind (wpAny_storeSet_of ho hd ?_ (by rw [n2, sizeLine_eq]; omega))
      have sb : Heap.SameBut a s.heap (s.heap.update a (Obj.putSet es1 t2)) := Heap.SameBut.update ..
      have ho1 := store_at (es' := es1) (t' := t2) ho hd
      generalize s.heap.update a (Obj.putSet es1 t2) = h1 at sb ho1 ⊢
      have B : Bare P w h1 a L1 es1 (ep + 1) t2 := ⟨⟨_, ho1, ⟨hex.1, hex.2.1, hex.2.2⟩, rfl⟩, rin, T2, one1, fun p hp => by
        rcases List.mem_cons.mp (pm.mem_iff.mp hp) with e | hp
        · rw [e]
          exact k_same hx ho hd sb
        · exact k_same (R.keys p hp) ho hd sb, by rw [l2]; exact R.led, by rw [n1, m2]; omega, by omega⟩
      rw [R.size]
      exact Bare.done (s := { s with heap := h1 }) B n1 f2 (by rw [m2]; exact rm) hfew fun h' L' es' ep' t' sb' R' pm' => q true h' L' es' ep' t' (sb.trans sb') R' (fun z => absurd z hm) fun _ => pm'.trans pm
    have f1 : t1.fill = L1.length := by rw [q9, List.length_map, n1]
    by_cases hp : t1.plain = true
    · first
        | (refine wpAny_bind (wp_if_pos hp (by_run hx ?_)))
        | (refine wp_if_pos hp (wpAny_bind (by_run hx ?_)))
      simp only [Bool.false_eq_true, if_false]
      exact fin { t1 with plain := false } ⟨q3.ris, q3.dm, q3.sz, q3.mok, q3.bd, q3.reach⟩ q4 q5 f1
    · first
        | (refine wpAny_bind (wp_if_neg hp (wpAny_pure ?_)))
        | (refine wp_if_neg hp (wpAny_bind (wpAny_pure ?_)))
        | (refine wp_if_neg hp ?_)
      simp only [if_true]
      exact fin t1 q3 q4 q5 f1
end
end Jv
/-! a set of keys as an object that is tracked; sorted(set) -/
namespace Jv
open PySem PySem.Spec PyProof.Rows L2
structure Ks0 (P : Program) (w : World) (h : Heap) (a : Addr) (L : List (Addr × Ky)) : Prop where
  ex : ∃ es ep t, (∃ o, h.get? a = some o ∧ o.ExactSet ∧ o.data = .set es ep t) ∧ es.toList = L.map (rowK P w) ∧ TabOk t (L.map fun p => kh P w p.2) ∧ (L.map (·.2)).Nodup ∧ (w.params.followText "set-order" = true ∨ t.led = true) ∧ L.length * 5 < t.mask * 3 ∧ L.length < 64
def KsO (P : Program) (w : World) (a : Addr) (L : List (Addr × Ky)) : HO := .ext fun h => Ks0 P w h a L
theorem ksO_ok {P : Program} {w : World} {H : Hp} {h : Heap} {a : Addr} {L : List (Addr × Ky)} {es : Array (Int × Value)} {ep : Nat} {t : SetTable} (R : KsR P w h a L es ep t) : ObjOk P w H h a (KsO P w a L) := by
  obtain ⟨o, ho, r⟩ := R.at_
  refine ⟨⟨es, ep, t, ⟨o, ho, r⟩, R.rows, R.tab, R.one, R.led, R.room, R.few⟩, ⟨o, ho⟩, fun g1 g2 q k => ?_⟩
  obtain ⟨es', ep', t', ⟨o', ho', r'⟩, z⟩ := Ks0.ex q
  exact ⟨es', ep', t', ⟨o', k _ ho', r'⟩, z⟩
/-- at d: a set of these keys -/
structure Ks (K : PySem.W.Frag) (P : Program) (w : World) (H : Hp) (d : Addr) (L : List (Addr × Ky)) : Prop where
  at_ : H d = some (KsO P w d L)
  keys : ∀ p ∈ L, KyAt K H p.1 p.2
section
variable {X : Cx} {pn : List (Addr × Obj)} {sg : L2.St} {H : Hp} {s : Shared} {d : Addr} {L : List (Addr × Ky)}
theorem Ks.of (I : Inv X pn sg H s) (h : Ks X.K X.prog X.w H d L) : ∃ es ep t, KsR X.prog X.w s.heap d L es ep t := by
  obtain ⟨⟨es, ep, t, h1, h2, h3, h4, h5, h6, h7⟩, _, _⟩ := (show ObjOk X.prog X.w H s.heap d (KsO X.prog X.w d L) from I.hok d _ h.at_)
  exact ⟨es, ep, t, h1, h2, h3, h4, fun p hp => (h.keys p hp).is I, h5, h6, h7⟩
/-- sorted(set) -/
def rSortS (K : PySem.W.Frag) (P : Program) (w : World) : List V → Hp → VK → Prop := fun vs H Q => ∃ (d : Addr) (L : List (Addr × Ky)), vs = [.ref d] ∧ Ks K P w H d L ∧
  ∀ (L1 : List (Addr × Ky)) p as, L1.Perm L → KyAll K H as (kySort (L1.map (·.2))) → H p = none → Q (.ref p) (upd H p (.lst (as.map V.ref)))
theorem refs_perm : ∀ {vs : List Value} {L : List (Addr × Ky)}, vs.Perm (L.map fun p => Value.ref p.1) → ∃ L1 : List (Addr × Ky), vs = L1.map (fun p => Value.ref p.1) ∧ L1.Perm L := by
  intro vs L h
  obtain ⟨L1, h1, h2⟩ : ∃ L1 : List (Addr × Ky), L1.Perm L ∧ L1.map (fun p => Value.ref p.1) = vs := by
    generalize e : (L.map fun p => Value.ref p.1) = us at h
    induction h generalizing L with
    | nil =>
      cases L with
      | nil => exact ⟨[], .nil, rfl⟩
      | cons _ _ => cases e
    | cons x h ih =>
      cases L with
      | nil => cases e
      | cons p L =>
        injection e with e1 e2
        obtain ⟨L1, a, b⟩ := ih e2
        exact ⟨p :: L1, a.cons p, by rw [List.map_cons, b, ← e1]⟩
    | swap x y l =>
      cases L with
      | nil => cases e
      | cons p L =>
        cases L with
        | nil => cases e
        | cons q L =>
          injection e with e1 e2
          injection e2 with e2 e3
          exact ⟨q :: p :: L, .swap _ _ _, by rw [List.map_cons, List.map_cons, ← e1, ← e2, e3]⟩
    | trans h1 h2 ih1 ih2 =>
      obtain ⟨L2, a, b⟩ := ih2 e
      obtain ⟨L1, c, d⟩ := ih1 b
      exact ⟨L1, c.trans a, d⟩
  exact ⟨L1, h2.symm, h1⟩
theorem ky_each {K : PySem.W.Frag} : ∀ {L1 : List (Addr × Ky)}, (∀ p ∈ L1, KyAt K H p.1 p.2) → KyAll K H (L1.map (·.1)) (L1.map (·.2))
  | [], _ => .nil
  | p :: L1, all => .cons (all p List.mem_cons_self) (ky_each fun r hr => all r (List.mem_cons_of_mem _ hr))
theorem cr_sortS (hc : X.calm = true) (hu : X.A.units + 64 < cLine) : CallR X (.builtin "sorted") (rSortS X.K X.prog X.w) := by
  intro pn s sg H vxs uxs Qq I r1 hyp
  obtain ⟨d, L, rfl, hS, q⟩ := hyp
  obtain ⟨u, rfl, r2⟩ := vals1 r1
  cases (show u = Value.ref d from r2)
  obtain ⟨es, ep, t, R⟩ := hS.of I
  obtain ⟨o, ho, hex, hd⟩ := R.at_
  have few := R.few
  have n1 := R.size
  refine sorted_keysG (H := H) (pn := pn) (sg := sg) hu (fun as ks => ∃ L1 : List (Addr × Ky), L1.Perm L ∧ as = L1.map (·.1) ∧ ks = L1.map (·.2)) (fun Rq hR => ?_) (fun as ks ⟨L1, pm, e1, e2⟩ => ?_) fun as ks ⟨L1, pm, e1, e2⟩ p bs hb np => ?_
  · refine collect_set (A := X.A.in1) (I.ok.hd hc) ⟨o, ho, hex.1, hd⟩ R.fits (by rw [n1]; unfold scanBound; omega) R.tab.ris R.led fun s1 vs kk hz hg hos pm => ?_
    have er : es.toList.map (·.2) = L.map fun p => Value.ref p.1 := by
      rw [R.rows, List.map_map]
      rfl
    rw [er] at pm
    obtain ⟨L1, rfl, pl⟩ := refs_perm pm
    have I1 : Inv X pn sg H s1 := I.call' (ch := []) hos (Un.kept kk) (I.hok.kept kk) (by rw [hg]; exact I.bare) (fun _ z => nomatch z)
    have z := hR s1 (L1.map (·.1)) (L1.map (·.2)) ⟨L1, pl, rfl, rfl⟩ I1
    rw [List.map_map] at z
    exact z
  · subst e1 e2
    refine ⟨?_, by rw [List.length_map, pm.length_eq]; omega⟩
    exact ky_each fun p hp => hS.keys p (pm.mem_iff.mp hp)
  · subst e2
    exact q L1 p bs pm hb np
/-- D.add(x) -/
theorem ks_add {Er : Value → Shared → Prop} {D x : Addr} {k : Ky} {Q : Value → Shared → Prop} (I : Inv X pn sg H s) (hu : X.A.units + 10 < cLine) (hS : Ks X.K X.prog X.w H D L) (hk : KyAt X.K H x k) (few : L.length < 63)
    (q : ∀ s' H' L', (∀ b, b ≠ D → H' b = H b) → Ks X.K X.prog X.w H' D L' → (k ∈ L.map (·.2) → L' = L) → (k ∉ L.map (·.2) → L'.Perm ((x, k) :: L)) → Inv X pn sg H' s' → Q .none s') : wpAny (model X.prog X.w) X.A (call (.builtin "set.add") [.ref D, .ref x]) Q Er s := by
  obtain ⟨es, ep, t, R⟩ := hS.of I
  obtain ⟨o, ho, hex, hd⟩ := R.at_
  have hT : s.TypeIs (.ref D) "set" := ⟨o, ho, hex.1⟩
  refine wpAny_call_entry F.slot_set_add hT F.entry_set_add ?_ (F.args_set_add_2 _ _)
  unfold Builtin.«set.add» Builtin.Frozenset.oneOther
  simp only [List.isEmpty_nil, bind_assoc]
  unfold Builtin.Frozenset.addrOf setAdd
  refine wpAny_bind (wpAny_pure ?_)
  try dsimp only
  refine wpAny_bind (wpAny_pure ?_)
  try dsimp only
  refine wpAny_bind (wpAny_holding (wpAny_bind ((kyKind X.prog X.w).pyHash (show X.A.units + 1 + 8 < cLine by omega) (hk.is I) ?_)))
  have I1 : Inv X pn sg H { s with toks := s.toks + (kyKind X.prog X.w).draws k } := I.tok _
  obtain ⟨es1, ep1, t1, R1⟩ := hS.of I1
  refine KsR.add (s := { s with toks := s.toks + (kyKind X.prog X.w).draws k }) R1 (hk.is I1) (show X.A.units + 1 + 8 < cLine by omega) few fun b h' L' es' ep' t' sb R' same more => ?_
  show wpAny _ _ (ret Value.none) _ _ _
  refine wpAny_pure ⟨_, rfl, ?_⟩
  have e9 : ∃ z, h'.get? D = some z := let ⟨z, hq, _⟩ := R'.at_; ⟨z, hq⟩
  have mu : Mut (H D) := by
    rw [hS.at_]
    exact True.intro
  have hb : ∀ b, b ≠ D → upd H D (KsO X.prog X.w D L') b = H b := fun b hb => upd_ne hb
  have up : TupS H (upd H D (KsO X.prog X.w D L')) := fun b o e tt => by
    have n : b ≠ D := by
      rintro rfl
      rw [hS.at_] at e
      cases e
      rcases tt with ⟨ys, tt⟩ | ⟨y1, y2, tt⟩ <;> cases tt
    rw [hb b n]
    exact e
  refine q _ _ L' hb ⟨upd_same, fun p hp => ?_⟩ same more (d_write I1 mu sb e9 (ksO_ok R'))
  by_cases m : k ∈ L.map (·.2)
  · rw [same m] at hp
    exact (hS.keys p hp).tupS up
  · rcases List.mem_cons.mp ((more m).mem_iff.mp hp) with e | hp
    · rw [e]
      exact hk.tupS up
    · exact (hS.keys p hp).tupS up
end
end Jv
/-! {e for a in x for b in y}, e a key -/
namespace Jv
open PySem PySem.Spec PyProof.Rows L2
abbrev two (e ta ia tb ib : Expr) (sc : Scope) (pos : Pos) : Expr := .SetComp e [⟨ta, ia, [], 0⟩, ⟨tb, ib, [], 0⟩] sc pos
theorem turn_a (e ta ia tb ib : Expr) (sc : Scope) (pos : Pos) (it acc : Value) (env : Env) : compTurn (two e ta ia tb ib sc pos) 0 it acc env = (do
    standAt ia.pos
    match ← pyNext it with
    | none => pure (.done .next)
    | some v =>
      letOwnedTupleGo ta it v
      assign ta env v
      let y ← eval ib env
      standAt ib.pos
      let y ← foldedSetIterable ib env y
      let _ ← runOwn (.compStart (two e ta ia tb ib sc pos) 1 (← holding [y] (pyIter y)) acc env) env
      again (.compLoop (two e ta ia tb ib sc pos) 0 it acc env)) := by rfl
theorem turn_b (e ta ia tb ib : Expr) (sc : Scope) (pos : Pos) (it acc : Value) (env : Env) : compTurn (two e ta ia tb ib sc pos) 1 it acc env = (do
    standAt ib.pos
    match ← pyNext it with
    | none => pure (.done .next)
    | some v =>
      letOwnedTupleGo tb it v
      assign tb env v
      (do let y ← eval e env; standAt e.pos; let _ ← call (.builtin "set.add") [acc, y])
      again (.compLoop (two e ta ia tb ib sc pos) 1 it acc env)) := by rfl
section
variable {P : Program} {w : World} {A : Around} {R : Result → Shared → Prop} {s : Shared} {e ta ia tb ib : Expr} {sc : Scope} {pos : Pos} {it acc : Value} {env : Env}
abbrev Ne (P : Program) (w : World) (A : Around) (env : Env) (R : Result → Shared → Prop) : Value → Shared → Prop := notedBy (model P w) A env fun x s' => R (.error x) s'
theorem loop_a (hs : ∀ x, foldedSetIterable ib env x = pure x) (I : Nat → Shared → Prop)
    (turn : ∀ n s, I n s → wpAny (model P w) A (pyNext it) (fun r s1 => match r with
      | none => R (.ok .next) s1
      | some v => wpAny (model P w) A (letOwnedTupleGo ta it v) (fun _ s2 => wpAny (model P w) A (assign ta env v) (fun _ s3 => wpAny (model P w) A (eval ib env) (fun y s4 => wpAny (model P w) A (pyIter y) (fun it1 s5 =>
          codeAny (model P w) A (.compStart (two e ta ia tb ib sc pos) 1 it1 acc env) (fun r s' => match r with
            | .ok _ => ∃ m, m < n ∧ I m s'
            | .error _ => False) s5) (Ne P w A env R) s4) (Ne P w A env R) s3) (Ne P w A env R) s2) (Ne P w A env R) s1) (Ne P w A env R) s) (n : Nat) (h : I n s) : codeAny (model P w) A (.compLoop (two e ta ia tb ib sc pos) 0 it acc env) R s := by
  refine codeAny_loop rfl I (fun n s hI => ?_) n h
  show wpAny _ A ((compTurn (two e ta ia tb ib sc pos) 0 it acc env).onRaise (fun x => do noteFrame x env; theTreesLotGoes x)) _ _ s
  refine wpAny_noted ?_
  rw [turn_a]
  refine wpAny_bind (wpAny_standAt (wpAny_bind (wpAny_mono (turn n s hI) (fun r s1 h1 => ?_) fun _ _ z => z)))
  cases r with
  | none => exact wpAny_pure h1
  | some v =>
    refine wpAny_bind (wpAny_mono h1 (fun _ s2 h2 => wpAny_bind (wpAny_mono h2 (fun _ s3 h3 => wpAny_bind (wpAny_mono h3 (fun y s4 h4 => ?_) fun _ _ z => z)) fun _ _ z => z)) fun _ _ z => z)
    refine wpAny_bind (wpAny_standAt (wpAny_bind (wpAny_of_eq (hs y) (wpAny_bind (wpAny_holding (wpAny_mono h4 (fun it1 s5 h5 => ?_) fun _ _ z => z))))))
    refine wpAny_bind (wpAny_runOwn ?_)
    rw [Around.mark_none]
    refine codeAny_mono h5 fun r s' hr => ?_
    cases r with
    | ok f => exact wpAny_pure ⟨rfl, hr⟩
    | error x => exact hr.elim
theorem loop_b (I : Nat → Shared → Prop)
    (turn : ∀ n s, I n s → wpAny (model P w) A (pyNext it) (fun r s1 => match r with
      | none => R (.ok .next) s1
      | some v => wpAny (model P w) A (letOwnedTupleGo tb it v) (fun _ s2 => wpAny (model P w) A (assign tb env v) (fun _ s3 => wpAny (model P w) A (eval e env) (fun y s4 => wpAny (model P w) A (call (.builtin "set.add") [acc, y]) (fun _ s5 =>
          ∃ m, m < n ∧ I m s5) (Ne P w A env R) s4) (Ne P w A env R) s3) (Ne P w A env R) s2) (Ne P w A env R) s1) (Ne P w A env R) s) (n : Nat) (h : I n s) : codeAny (model P w) A (.compLoop (two e ta ia tb ib sc pos) 1 it acc env) R s := by
  refine codeAny_loop rfl I (fun n s hI => ?_) n h
  show wpAny _ A ((compTurn (two e ta ia tb ib sc pos) 1 it acc env).onRaise (fun x => do noteFrame x env; theTreesLotGoes x)) _ _ s
  refine wpAny_noted ?_
  rw [turn_b]
  refine wpAny_bind (wpAny_standAt (wpAny_bind (wpAny_mono (turn n s hI) (fun r s1 h1 => ?_) fun _ _ z => z)))
  cases r with
  | none => exact wpAny_pure h1
  | some v =>
    refine wpAny_bind (wpAny_mono h1 (fun _ s2 h2 => wpAny_bind (wpAny_mono h2 (fun _ s3 h3 => ?_) fun _ _ z => z)) fun _ _ z => z)
    exact wpAny_bind (wpAny_bind (wpAny_mono h3 (fun y s4 h4 => wpAny_bind (wpAny_standAt (wpAny_bind (wpAny_mono h4 (fun _ s5 h5 => wpAny_pure (wpAny_pure ⟨rfl, h5⟩)) fun _ _ z => z)))) fun _ _ z => z))
theorem start_b (h0 : codeAny (model P w) A (.compLoop (two e ta ia tb ib sc pos) 1 it acc env) R s)
    (h : wpAny (model P w) A (pyIter it) (fun it' s' => codeAny (model P w) A (.compLoop (two e ta ia tb ib sc pos) 1 it' acc env) R s') (Ne P w A env R) s) : codeAny (model P w) A (.compStart (two e ta ia tb ib sc pos) 1 it acc env) R s := by
  refine codeAny_of_tree ?_
  show wpAny _ _ ((compStart (two e ta ia tb ib sc pos) 1 it acc env).onRaise (fun x => do noteFrame x env; standAt theWindowsPlace)) _ _ s
  refine wpAny_notedAt ?_
  unfold compStart
  show wpAny _ _ (ask >>= _) _ _ s
  refine wpAny_bind (wpAny_askSetting (wpAny_ite ?_))
  split
  · first
      | exact wpAny_bind (wpAny_pure (wpAny_pure ⟨rfl, h0⟩))
      | exact wpAny_pure ⟨rfl, h0⟩
  · first
      | exact wpAny_bind (wpAny_rule (wpAny_bind (wpAny_standAt (wpAny_bind (wpAny_mono h (fun _ _ z => wpAny_pure ⟨rfl, z⟩) fun _ _ x => x)))))
      | (refine wpAny_bind (wpAny_rule ?_); show wpAny _ _ (standAt ib.pos >>= _) _ _ s; exact wpAny_bind (wpAny_standAt (wpAny_bind (wpAny_mono h (fun _ _ z => wpAny_pure ⟨rfl, z⟩) fun _ _ x => x))))
end
theorem ks_fresh {P : Program} {w : World} {h : Heap} {a : Addr} (ho : h.get? a = some { cls := .type "set", dict := none, data := .set #[] 0 (.fresh 0 0 (!w.params.followText "set-order")) }) : KsR P w h a [] #[] 0 (.fresh 0 0 (!w.params.followText "set-order")) where
  at_ := ⟨_, ho, ⟨rfl, rfl, rfl⟩, rfl⟩
  rows := rfl
  tab := ⟨List.Pairwise.nil, rfl, rfl, Or.inl rfl, fun x hx => (by cases hx), fun i h j hi => (by simp at hi)⟩
  one := List.nodup_nil
  keys := fun p hp => (by cases hp)
  led := by
    show _ ∨ (!w.params.followText "set-order") = true
    cases w.params.followText "set-order"
    · exact Or.inr rfl
    · exact Or.inl rfl
  room := by
    show 0 * 5 < 7 * 3
    decide
  few := by
    show 0 < 64
    decide
section
variable {X : Cx}
/-- the reading -/
def tSc2 (K : PySem.W.Frag) (P : Program) (w : World) (wi : TI) (g : TG) (wi1 : TI) (g1 : TG) (te : TE) (vs vs1 : List Nat) : TE := fun sg H Q => wi sg H fun J H1 => ∀ D, H1 D = none → ∃ W : Nat → Nat → Hp → Prop, (∃ m, W 0 m (upd H1 D (KsO P w D []))) ∧ ∀ i m H, W i m H →
  (J.stop i H ∧ Q (.ref D) H) ∨ (J.go i H ∧ ∃ Nx : Hp → Prop, (∀ H', Nx H' → ∃ m', m' < m ∧ W (i + 1) m' H') ∧ ∀ x H', J.yld i H x H' → g x (wipe sg vs) H' fun s2 H2 => wipe s2 vs = wipe sg vs ∧
    wi1 s2 H2 fun J1 H4 => ∃ W1 : Nat → Nat → Hp → Prop, (∃ m, W1 0 m H4) ∧ ∀ j k H, W1 j k H → (J1.stop j H ∧ Nx H) ∨ (J1.go j H ∧ ∃ Nx1 : Hp → Prop, (∀ H', Nx1 H' → ∃ k', k' < k ∧ W1 (j + 1) k' H') ∧
      ∀ x H', J1.yld j H x H' → g1 x (wipe s2 vs1) H' fun s3 H5 => wipe s3 vs1 = wipe s2 vs1 ∧ te s3 H5 fun y H7 => ∃ a L k, y = .ref a ∧ Ks K P w H7 D L ∧ KyAt K H7 a k ∧ L.length < 63 ∧
        ∀ H8 L', (∀ b, b ≠ D → H8 b = H7 b) → Ks K P w H8 D L' → (k ∈ L.map (·.2) → L' = L) → (k ∉ L.map (·.2) → L'.Perm ((a, k) :: L)) → Nx1 H8))
theorem pe_sc2 {e ta ia tb ib : Expr} {sc : Scope} {own : List (Str × Nat)} {vs1 : List Nat} {pos : Pos} {wi wi1 : TI} {g g1 : TG} {te : TE} (hc : X.calm = true) (hu : X.A.units + 10 < cLine) (nd : X.N.Nodup) (hi : PI X ta ia wi) (ok : BlkOk X.N X.env.scope sc own) (hv : ∀ i ∈ vs1, i ∈ own.map (·.2))
    (hg : ∀ (s : Shared) (H : Hp) (C : Addr) (cl : List (Str × Addr)) (fp : List Addr), PG (X.blk s H sc (compEnvC sc cl C X.env) fp) ta g) (hi1 : ∀ (s : Shared) (H : Hp) (C : Addr) (cl : List (Str × Addr)) (fp : List Addr), PI (X.blk s H sc (compEnvC sc cl C X.env) fp) tb ib wi1)
    (hg1 : ∀ (s : Shared) (H : Hp) (C : Addr) (cl : List (Str × Addr)) (fp : List Addr), PG (X.blk s H sc (compEnvC sc cl C X.env) fp) tb g1) (he : ∀ (s : Shared) (H : Hp) (C : Addr) (cl : List (Str × Addr)) (fp : List Addr), PE (X.blk s H sc (compEnvC sc cl C X.env) fp) e te)
    (hs : ∀ x, foldedSetIterable ia X.env x = pure x := by intro _; rfl) (hs1 : ∀ env x, foldedSetIterable ib env x = pure x := by intro _ _; rfl) : PE X (two e ta ia tb ib sc pos) (tSc2 X.K X.prog X.w wi g wi1 g1 te (own.map (·.2)) vs1) := by
  refine ⟨fun pn s sg H Q I h => ?_⟩
  rw [PpSet.eval_SetComp]
  have clo : ∀ y ∈ sc.names, y.2 = .free → ∃ c, X.env.cells.lookup y.1 = some c := fun y hy z => (ok.free y hy z).elim (fun z => I.ok.has _ (.inl z)) fun z => I.ok.has _ (.inr z)
  refine wpAny_comprehension_free (use := none) rfl hs (closure_ok clo) ok.kind (fun y hy z => by rw [ok.uniq y hy, z]) (thn (hi.run pn s sg H _ I h) fun xv s1 hx => thn hx fun iv s2 h2 => ?_)
  obtain ⟨ja, fp, tn, J, H2, rfl, I2, T, st2, f2, q⟩ := h2
  refine PpSet.newSet_ok (newEnv_comp ?_)
  -- the new set, at D
  generalize eD : s2.heap.objs.size = D
  have nD : H2 D = none := I2.hok.fresh (Nat.le_of_eq eD)
  obtain ⟨W, ⟨m0, w0⟩, turn⟩ := q D nD
  generalize e3 : ({ s2 with heap := s2.heap.push { cls := .type "set", dict := none, data := .set #[] 0 (.fresh 0 0 (!X.w.params.followText "set-order")) } } : Shared) = s3
  have hp3 : s3.heap = s2.heap.push { cls := .type "set", dict := none, data := .set #[] 0 (.fresh 0 0 (!X.w.params.followText "set-order")) } := by rw [← e3]
  have I3 : Inv X pn sg (upd H2 D (KsO X.prog X.w D [])) s3 := by
    rw [← e3]
    refine I2.laid (t' := s2.toks) (fun b o z => Heap.get?_push_of_some _ z) (Nat.le_of_eq eD) (ksO_ok (ks_fresh ?_))
    rw [← eD]
    exact Heap.get?_push_size _ rfl
  have low : ∀ b ∈ fp, b < s2.heap.objs.size := fun b hb => let ⟨o, z, _⟩ := T.obj _ _ st2 b hb; Heap.lt_size z
  have f3 : ∀ b ∈ fp, FpOk X pn (upd H2 D (KsO X.prog X.w D [])) b ∧ b < s3.heap.objs.size := fun b hb => by
    have lt := low b hb
    have ne : b ≠ D := by
      rw [← eD]
      exact Nat.ne_of_lt lt
    exact ⟨⟨by rw [upd_ne ne]; exact (f2 b hb).1, (f2 b hb).2⟩, by rw [hp3, Heap.size_push]; exact Nat.lt_succ_of_lt lt⟩
  have st3 : tn 0 s3.heap := T.keep _ _ _ st2 fun b _ o z => by rw [hp3]; exact Heap.get?_push_of_some _ z
  generalize eH : upd H2 D (KsO X.prog X.w D []) = H3 at I3 w0 f3
  have I4 := block_start I3 ok nd f3
  have pg := hg s3 H3 s3.heap.objs.size (cellsFrom (s3.heap.objs.size + 1) sc.names (cloFrom X.env.cells sc.names [])) fp
  have pj := hi1 s3 H3 s3.heap.objs.size (cellsFrom (s3.heap.objs.size + 1) sc.names (cloFrom X.env.cells sc.names [])) fp
  have pb := hg1 s3 H3 s3.heap.objs.size (cellsFrom (s3.heap.objs.size + 1) sc.names (cloFrom X.env.cells sc.names [])) fp
  have pe := he s3 H3 s3.heap.objs.size (cellsFrom (s3.heap.objs.size + 1) sc.names (cloFrom X.env.cells sc.names [])) fp
  show codeAny _ _ (.compStart (two e ta ia tb ib sc pos) 0 (.ref ja) (.ref D) (compEnvC sc (cellsFrom (s3.heap.objs.size + 1) sc.names (cloFrom X.env.cells sc.names [])) s3.heap.objs.size X.env))
    (compPost (model X.prog X.w) X.A X.xe none (EP X pn sg Q) (.ref D) s3.heap.objs.size) { s3 with heap := pushCells (s3.heap.push { cls := .type "dict", data := .dict #[] }) sc.names }
  have nf : ∀ b ∈ fp, H3 b = none := fun b hb => (f3 b hb).1.1
  generalize ec : compEnvC sc (cellsFrom (s3.heap.objs.size + 1) sc.names (cloFrom X.env.cells sc.names [])) s3.heap.objs.size X.env = ce at I4 pg pj pb pe ⊢
  have cl : ce.locals = s3.heap.objs.size := by
    rw [← ec]
    rfl
  generalize e4 : ({ s3 with heap := pushCells (s3.heap.push { cls := .type "dict", data := .dict #[] }) sc.names } : Shared) = s4 at I4 ⊢
  have st4 : tn 0 s4.heap := T.keep _ _ _ st3 fun b _ o z => by
    rw [← e4]
    exact pushCells_keeps _ _ _ _ (Heap.get?_push_of_some _ z)
  have fo : ∀ {sg' : L2.St} {H' : Hp} {s' : Shared}, Inv (X.blk s3 H3 sc ce fp) [] sg' H' s' → (∀ b ∈ fp, H' b = none) → ∀ b ∈ fp, FpOk (X.blk s3 H3 sc ce fp) [] H' b := fun {sg' H' s'} I' hn b hb =>
    ⟨hn b hb, (I'.ok.exf b hb).1, I'.ok.exfs b hb, .inl hb, (I'.ok.exf b hb).2, fun p hp => absurd hp (by simp)⟩
  have loop : codeAny (model X.prog X.w) X.A (.compLoop (two e ta ia tb ib sc pos) 0 (.ref ja) (.ref D) ce) (compPost (model X.prog X.w) X.A X.xe none (EP X pn sg Q) (.ref D) s3.heap.objs.size) s4 := by
    refine loop_a (hs1 ce) (fun n s' => ∃ i H', Inv (X.blk s3 H3 sc ce fp) [] (wipe sg (own.map (·.2))) H' s' ∧ tn i s'.heap ∧ (∀ b ∈ fp, H' b = none) ∧ W i n H') ?_ m0 ⟨0, H3, I4, st4, nf, w0⟩
    rintro n s5 ⟨i, H5, I5, st5, n5, w5⟩
    rcases turn i n H5 w5 with ⟨stop, qq⟩ | ⟨go, Nx, hN, step⟩
    · refine thnF (T.done (X.blk s3 H3 sc ce fp) rfl rfl rfl hc i [] s5 _ H5 (fun _ _ => False) I5 (fo I5 n5) st5 stop) fun r s6 ⟨hr, I6⟩ => ?_
      subst hr
      have I7 : Inv X pn sg H5 s6 := I3.call' (ch := fp) I6.os I6.base I6.hok I6.bare fun b hb => ⟨(f3 b hb).1.2.2.2.1, (f3 b hb).1.2.1, (f3 b hb).1.2.2.2.2.1, (f3 b hb).1.2.2.2.2.2⟩
      have nC : H5 s3.heap.objs.size = none := by
        rw [← cl]
        exact I6.free
      obtain ⟨m, hn, _⟩ := I6.loc
      refine ⟨m, by rw [← cl]; exact hn, fun h'' sb => ?_⟩
      obtain ⟨g0, g1', g2, g3, g4, g5⟩ := I3.fpOk (b := s3.heap.objs.size) (Nat.le_refl _) nC
      exact ⟨.ref D, H5, I7.turned (t' := s6.toks) (fun b o hb z => (sb.2 b hb).trans z) g0 g1' g3 g4 g5, rfl, qq⟩
    · refine thnF (T.item (X.blk s3 H3 sc ce fp) rfl rfl rfl hc i [] s5 _ H5 (fun _ _ => False) I5 (fo I5 n5) st5 go) fun r s6 ⟨u, hr, h6⟩ => ?_
      subst hr
      refine thnF h6 fun _ s7 ⟨x, H7, I7, r7, y7, st7, n7⟩ => ?_
      have I8 := I7.pinned (fo I7 n7) (T.obj _ _ st7)
      refine thnF (pg.run _ s7 _ H7 x u _ I8 r7 (step x H7 y7)) fun _ s8 ⟨sg8, H8, I9, hw8, q8⟩ => ?_
      -- from the slots of the turn back to those of the block
      have back : ∀ (j : Nat) v, (wipe sg (own.map (·.2)))[j]? = some (some v) → (wipe sg8 vs1)[j]? = some (some v) := fun j v z => by
        rw [← hw8] at z
        obtain ⟨z1, z2⟩ := wipe_some z
        rw [wipe_out fun y => z2 (hv j y)]
        exact z1
      have len : (wipe sg (own.map (·.2))).length = (wipe sg8 vs1).length := by rw [wipe_length sg8 vs1, ← hw8, wipe_length]
      have fin : ∀ {s' : Shared} {H' : Hp}, Inv (X.blk s3 H3 sc ce fp) ([] ++ pinsAt fp s7.heap) (wipe sg8 vs1) H' s' → Nx H' → ∃ m, m < n ∧ ∃ i H', Inv (X.blk s3 H3 sc ce fp) [] (wipe sg (own.map (·.2))) H' s' ∧ tn i s'.heap ∧ (∀ b ∈ fp, H' b = none) ∧ W i m H' := fun {s' H'} I' nx => by
        obtain ⟨m', hm, w'⟩ := hN H' nx
        have pin : ∀ b ∈ fp, ∀ o, s7.heap.get? b = some o → s'.heap.get? b = some o ∧ H' b = none := fun b hb o z =>
          let y := I'.pin (b, o) (List.mem_append_right _ (List.mem_append_right _ (mem_pinsAt hb z)))
          ⟨y.1, y.2.1⟩
        refine ⟨m', hm, i + 1, H', (I'.unpinned (pins := [])).weak len back, T.keep _ _ _ st7 fun b hb o z => (pin b hb o z).1, fun b hb => ?_, w'⟩
        obtain ⟨o, z, _⟩ := T.obj _ _ st7 b hb
        exact (pin b hb o z).2
      refine thnF (pj.run _ s8 sg8 H8 _ I9 q8) fun xv s10 hx => thnF hx fun iv s11 h11 => ?_
      obtain ⟨jb, fq, tm, J1, H11, rfl, I11, T1, st11, f11, W1, ⟨m1, w1⟩, turn1⟩ := h11
      have fo1 : ∀ {H' : Hp}, (∀ b ∈ fq, H' b = none) → ∀ b ∈ fq, FpOk (X.blk s3 H3 sc ce fp) ([] ++ pinsAt fp s7.heap) H' b := fun hn b hb => ⟨hn b hb, (f11 b hb).2⟩
      have inner : codeAny (model X.prog X.w) X.A (.compLoop (two e ta ia tb ib sc pos) 1 (.ref jb) (.ref D) ce) (fun r s' => match r with
          | .ok _ => ∃ m, m < n ∧ ∃ i H', Inv (X.blk s3 H3 sc ce fp) [] (wipe sg (own.map (·.2))) H' s' ∧ tn i s'.heap ∧ (∀ b ∈ fp, H' b = none) ∧ W i m H'
          | .error _ => False) s11 := by
        refine loop_b (fun k s' => ∃ j H', Inv (X.blk s3 H3 sc ce fp) ([] ++ pinsAt fp s7.heap) (wipe sg8 vs1) H' s' ∧ tm j s'.heap ∧ (∀ b ∈ fq, H' b = none) ∧ W1 j k H') ?_ m1 ⟨0, H11, I11.weak (wipe_length _ _) (fun j v z => (wipe_some z).1), st11, fun b hb => (f11 b hb).1, w1⟩
        rintro k s12 ⟨j, H12, I12, st12, n12, w12⟩
        rcases turn1 j k H12 w12 with ⟨stop1, nx⟩ | ⟨go1, Nx1, hN1, step1⟩
        · refine thnF (T1.done (X.blk s3 H3 sc ce fp) rfl rfl rfl hc j _ s12 (wipe sg8 vs1) H12 (fun _ _ => False) I12 (fo1 n12) st12 stop1) fun r s13 ⟨hr, I13⟩ => ?_
          subst hr
          exact fin I13 nx
        · refine thnF (T1.item (X.blk s3 H3 sc ce fp) rfl rfl rfl hc j _ s12 (wipe sg8 vs1) H12 (fun _ _ => False) I12 (fo1 n12) st12 go1) fun r s13 ⟨u1, hr, h13⟩ => ?_
          subst hr
          refine thnF h13 fun _ s14 ⟨x1, H14, I14, r14, y14, st14, n14⟩ => ?_
          have I15 := I14.pinned (fo1 n14) (T1.obj _ _ st14)
          refine thnF (pb.run _ s14 (wipe sg8 vs1) H14 x1 u1 _ I15 r14 (step1 x1 H14 y14)) fun _ s15 ⟨sg15, H15, I16, hw15, q15⟩ => ?_
          have fin1 : ∀ {s' : Shared} {H' : Hp}, Inv (X.blk s3 H3 sc ce fp) (([] ++ pinsAt fp s7.heap) ++ pinsAt fq s14.heap) sg15 H' s' → Nx1 H' → ∃ m, m < k ∧ ∃ j H', Inv (X.blk s3 H3 sc ce fp) ([] ++ pinsAt fp s7.heap) (wipe sg8 vs1) H' s' ∧ tm j s'.heap ∧ (∀ b ∈ fq, H' b = none) ∧ W1 j m H' := fun {s' H'} I' nx => by
            obtain ⟨m', hm, w'⟩ := hN1 H' nx
            have pin : ∀ b ∈ fq, ∀ o, s14.heap.get? b = some o → s'.heap.get? b = some o ∧ H' b = none := fun b hb o z =>
              let y := I'.pin (b, o) (List.mem_append_right _ (List.mem_append_right _ (mem_pinsAt hb z)))
              ⟨y.1, y.2.1⟩
            refine ⟨m', hm, j + 1, H', I'.unpinned.weak (by rw [← hw15, wipe_length]) (fun j v z => (wipe_some (by rw [hw15]; exact z)).1), T1.keep _ _ _ st14 fun b hb o z => (pin b hb o z).1, fun b hb => ?_, w'⟩
            obtain ⟨o, z, _⟩ := T1.obj _ _ st14 b hb
            exact (pin b hb o z).2
          refine thnF (pe.run _ s15 sg15 H15 _ I16 q15) fun z s17 ⟨yv, H17, I17, r17, a, L, kk, ey, hS, hK, few, nx⟩ => ?_
          subst ey
          cases (show z = Value.ref a from r17)
          exact ks_add (X := X.blk s3 H3 sc ce fp) I17 hu hS hK few fun s18 H18 L' hb hS' e1 e2 I18 => fin1 I18 (nx H18 L' hb hS' e1 e2)
      exact start_b inner (T1.self X.A 0 _ _ _ st11 inner)
  exact PpSet.codeAny_compStart_set loop (T.self X.A 0 _ _ _ st4 loop)
end
theorem ha_of {A : Around} {k : Nat} (hr : Room k A) : A.units + 10 < cLine := by
  have := hr.un
  omega
/-! ### its turns -/
section
variable {J J1 : It} {n : Nat} {Gd : Hp → Prop} {Y : Nat → Hp → V → Hp → Prop} {K : PySem.W.Frag} {P : Program} {w : World}
theorem in_it (wk : Walk J1 n Gd Y) {g1 : TG} {te : TE} {vs1 : List Nat} {s2 : L2.St} {H4 : Hp} {D : Addr} {Nx : Hp → Prop} (Pv : Nat → Hp → Prop) (h0 : Pv 0 H4) (hG : ∀ i H, i ≤ n → Pv i H → Gd H)
    (turn : ∀ j x H H', j < n → Pv j H → Y j H x H' → g1 x (wipe s2 vs1) H' fun s3 H5 => wipe s3 vs1 = wipe s2 vs1 ∧ te s3 H5 fun y H7 => ∃ a L k, y = .ref a ∧ Ks K P w H7 D L ∧ KyAt K H7 a k ∧ L.length < 63 ∧
        ∀ H8 L', (∀ b, b ≠ D → H8 b = H7 b) → Ks K P w H8 D L' → (k ∈ L.map (·.2) → L' = L) → (k ∉ L.map (·.2) → L'.Perm ((a, k) :: L)) → Pv (j + 1) H8) (fin : ∀ H, Pv n H → Nx H) :
    ∃ W1 : Nat → Nat → Hp → Prop, (∃ m, W1 0 m H4) ∧ ∀ j k H, W1 j k H → (J1.stop j H ∧ Nx H) ∨ (J1.go j H ∧ ∃ Nx1 : Hp → Prop, (∀ H', Nx1 H' → ∃ k', k' < k ∧ W1 (j + 1) k' H') ∧
      ∀ x H', J1.yld j H x H' → g1 x (wipe s2 vs1) H' fun s3 H5 => wipe s3 vs1 = wipe s2 vs1 ∧ te s3 H5 fun y H7 => ∃ a L k, y = .ref a ∧ Ks K P w H7 D L ∧ KyAt K H7 a k ∧ L.length < 63 ∧
        ∀ H8 L', (∀ b, b ≠ D → H8 b = H7 b) → Ks K P w H8 D L' → (k ∈ L.map (·.2) → L' = L) → (k ∉ L.map (·.2) → L'.Perm ((a, k) :: L)) → Nx1 H8) := by
  refine ⟨fun i m H => i + m = n ∧ Pv i H, ⟨n, Nat.zero_add n, h0⟩, fun i m H ⟨e, p⟩ => ?_⟩
  have gd := hG i H (by omega) p
  rcases Nat.eq_zero_or_pos m with z | z
  · have e' : i = n := by omega
    subst e'
    exact Or.inl ⟨wk.stops H gd, fin H p⟩
  · have lt : i < n := by omega
    exact Or.inr ⟨wk.goes i H lt gd, Pv (i + 1), fun H' p' => ⟨m - 1, by omega, by omega, p'⟩, fun x H' y => turn i x H H' lt p (wk.yields i H x H' lt gd y)⟩
theorem out_it (wk : Walk J n Gd Y) {g g1 : TG} {wi1 : TI} {te : TE} {vs vs1 : List Nat} {sg : L2.St} {H0 : Hp} {D : Addr} {Qd : Hp → Prop} (Pv : Nat → Hp → Prop) (h0 : Pv 0 H0) (hG : ∀ i H, i ≤ n → Pv i H → Gd H)
    (turn : ∀ i x H H', i < n → Pv i H → Y i H x H' → g x (wipe sg vs) H' fun s2 H2 => wipe s2 vs = wipe sg vs ∧
      wi1 s2 H2 fun J1 H4 => ∃ W1 : Nat → Nat → Hp → Prop, (∃ m, W1 0 m H4) ∧ ∀ j k H, W1 j k H → (J1.stop j H ∧ Pv (i + 1) H) ∨ (J1.go j H ∧ ∃ Nx1 : Hp → Prop, (∀ H', Nx1 H' → ∃ k', k' < k ∧ W1 (j + 1) k' H') ∧
        ∀ x H', J1.yld j H x H' → g1 x (wipe s2 vs1) H' fun s3 H5 => wipe s3 vs1 = wipe s2 vs1 ∧ te s3 H5 fun y H7 => ∃ a L k, y = .ref a ∧ Ks K P w H7 D L ∧ KyAt K H7 a k ∧ L.length < 63 ∧
          ∀ H8 L', (∀ b, b ≠ D → H8 b = H7 b) → Ks K P w H8 D L' → (k ∈ L.map (·.2) → L' = L) → (k ∉ L.map (·.2) → L'.Perm ((a, k) :: L)) → Nx1 H8)) (fin : ∀ H, Pv n H → Qd H) :
    ∃ W : Nat → Nat → Hp → Prop, (∃ m, W 0 m H0) ∧ ∀ i m H, W i m H → (J.stop i H ∧ Qd H) ∨ (J.go i H ∧ ∃ Nx : Hp → Prop, (∀ H', Nx H' → ∃ m', m' < m ∧ W (i + 1) m' H') ∧ ∀ x H', J.yld i H x H' → g x (wipe sg vs) H' fun s2 H2 => wipe s2 vs = wipe sg vs ∧
      wi1 s2 H2 fun J1 H4 => ∃ W1 : Nat → Nat → Hp → Prop, (∃ m, W1 0 m H4) ∧ ∀ j k H, W1 j k H → (J1.stop j H ∧ Nx H) ∨ (J1.go j H ∧ ∃ Nx1 : Hp → Prop, (∀ H', Nx1 H' → ∃ k', k' < k ∧ W1 (j + 1) k' H') ∧
        ∀ x H', J1.yld j H x H' → g1 x (wipe s2 vs1) H' fun s3 H5 => wipe s3 vs1 = wipe s2 vs1 ∧ te s3 H5 fun y H7 => ∃ a L k, y = .ref a ∧ Ks K P w H7 D L ∧ KyAt K H7 a k ∧ L.length < 63 ∧
          ∀ H8 L', (∀ b, b ≠ D → H8 b = H7 b) → Ks K P w H8 D L' → (k ∈ L.map (·.2) → L' = L) → (k ∉ L.map (·.2) → L'.Perm ((a, k) :: L)) → Nx1 H8)) := by
  refine ⟨fun i m H => i + m = n ∧ Pv i H, ⟨n, Nat.zero_add n, h0⟩, fun i m H ⟨e, p⟩ => ?_⟩
  have gd := hG i H (by omega) p
  rcases Nat.eq_zero_or_pos m with z | z
  · have e' : i = n := by omega
    subst e'
    exact Or.inl ⟨wk.stops H gd, fin H p⟩
  · have lt : i < n := by omega
    exact Or.inr ⟨wk.goes i H lt gd, Pv (i + 1), fun H' p' => ⟨m - 1, by omega, by omega, p'⟩, fun x H' y => turn i x H H' lt p (wk.yields i H x H' lt gd y)⟩
end
end Jv
/-! data that stand in the heap: None, bools, ints, texts, lists, tuples, {} -/
namespace Jv
open PySem PySem.Spec PyProof.Rows L2
mutual
inductive Da (K : PySem.W.Frag) (H : Hp) : V → PyData → Prop
  | non : Da K H .non .none
  | bl (b : Bool) : Da K H (.bl b) (.bool b)
  | int (i : Int) : Da K H (.int i) (.int i)
  | str (x : Str) (hx : x.length ≤ 1000) : Da K H (.str x) (.str x)
  | lst {a : Addr} {xs : List V} {ds : List PyData} : SqL K H a xs → DaAll K H xs ds → ds.length ≤ 1000 → Da K H (.ref a) (.list ds)
  | tup {a : Addr} {xs : List V} {ds : List PyData} : SqT K H a xs → DaAll K H xs ds → ds.length ≤ 1000 → Da K H (.ref a) (.tuple ds)
  | dic {a : Addr} : H a = some (.dK []) → Da K H (.ref a) (.dict [])
inductive DaAll (K : PySem.W.Frag) (H : Hp) : List V → List PyData → Prop
  | nil : DaAll K H [] []
  | cons {v : V} {vs : List V} {d : PyData} {ds : List PyData} : Da K H v d → DaAll K H vs ds → DaAll K H (v :: vs) (d :: ds)
end
mutual
theorem Da.same {K : PySem.W.Frag} {H H' : Hp} (s : Same H H') : ∀ (d : PyData) (v : V), Da K H v d → Da K H' v d
  | .none, _, h => by cases h; exact .non
  | .bool b, _, h => by cases h; exact .bl b
  | .int i, _, h => by cases h; exact .int i
  | .str x, _, h => by cases h with | str x hx => exact .str x hx
  | .list ds, _, h => by
    cases h with
    | lst h1 h2 hz => exact .lst (s.seq h1) (DaAll.same s ds _ h2) hz
  | .tuple ds, _, h => by
    cases h with
    | tup h1 h2 hz => exact .tup (sqT_same s h1) (DaAll.same s ds _ h2) hz
  | .dict kvs, _, h => by
    cases h with
    | dic h1 => exact .dic (s _ _ h1)
theorem DaAll.same {K : PySem.W.Frag} {H H' : Hp} (s : Same H H') : ∀ (ds : List PyData) (vs : List V), DaAll K H vs ds → DaAll K H' vs ds
  | [], _, h => by cases h; exact .nil
  | d :: ds, _, h => by
    cases h with
    | cons h1 h2 => exact .cons (Da.same s d _ h1) (DaAll.same s ds _ h2)
end
theorem DaAll.len {K : PySem.W.Frag} {H : Hp} : ∀ {ds : List PyData} {vs : List V}, DaAll K H vs ds → vs.length = ds.length
  | [], _, h => by cases h; rfl
  | d :: ds, _, h => by
    cases h with
    | cons h1 h2 =>
      rw [List.length_cons, List.length_cons, DaAll.len h2]
theorem DaAll.get {K : PySem.W.Frag} {H : Hp} : ∀ {ds : List PyData} {vs : List V} {i : Nat} {v : V}, DaAll K H vs ds → vs[i]? = some v → ∃ d, ds[i]? = some d ∧ Da K H v d
  | [], _, _, _, h, e => by
    cases h
    simp at e
  | d :: ds, _, i, v, h, e => by
    cases h with
    | cons h1 h2 =>
      cases i with
      | zero =>
        simp at e
        subst e
        exact ⟨d, rfl, h1⟩
      | succ i =>
        obtain ⟨d', a, b⟩ := DaAll.get h2 (i := i) (by simpa using e)
        exact ⟨d', by simpa using a, b⟩
theorem DaAll.getD {K : PySem.W.Frag} {H : Hp} : ∀ {ds : List PyData} {vs : List V} {i : Nat} {d : PyData}, DaAll K H vs ds → ds[i]? = some d → ∃ v, vs[i]? = some v ∧ Da K H v d
  | [], _, _, _, h, e => by simp at e
  | d :: ds, _, i, d', h, e => by
    cases h with
    | cons h1 h2 =>
      cases i with
      | zero =>
        simp at e
        subst e
        exact ⟨_, rfl, h1⟩
      | succ i =>
        obtain ⟨v, a, b⟩ := DaAll.getD h2 (i := i) (by simpa using e)
        exact ⟨v, by simpa using a, b⟩
theorem DaAll.app {K : PySem.W.Frag} {H : Hp} : ∀ {ds es : List PyData} {vs ws : List V}, DaAll K H vs ds → DaAll K H ws es → DaAll K H (vs ++ ws) (ds ++ es)
  | [], _, _, _, h, g => by cases h; exact g
  | d :: ds, _, _, _, h, g => by
    cases h with
    | cons h1 h2 => exact .cons h1 (DaAll.app h2 g)
theorem DaAll.take {K : PySem.W.Frag} {H : Hp} : ∀ {ds : List PyData} {vs : List V} (n : Nat), DaAll K H vs ds → DaAll K H (vs.take n) (ds.take n)
  | _, _, 0, _ => by simpa using DaAll.nil
  | [], _, n + 1, h => by cases h; exact .nil
  | d :: ds, _, n + 1, h => by
    cases h with
    | cons h1 h2 => exact .cons h1 (DaAll.take n h2)
theorem DaAll.drop {K : PySem.W.Frag} {H : Hp} : ∀ {ds : List PyData} {vs : List V} (n : Nat), DaAll K H vs ds → DaAll K H (vs.drop n) (ds.drop n)
  | _, _, 0, h => by simpa using h
  | [], _, n + 1, h => by cases h; exact .nil
  | d :: ds, _, n + 1, h => by
    cases h with
    | cons h1 h2 => exact DaAll.drop n h2
theorem daStrs {K : PySem.W.Frag} {H : Hp} : ∀ xs : List Str, (∀ x ∈ xs, x.length ≤ 1000) → DaAll K H (xs.map V.str) (xs.map .str)
  | [], _ => .nil
  | x :: xs, h => .cons (.str x (h x List.mem_cons_self)) (daStrs xs fun y hy => h y (List.mem_cons_of_mem _ hy))
theorem ofStrs {K : PySem.W.Frag} {H : Hp} : ∀ {xs : List Str} {vs : List V}, DaAll K H vs (xs.map .str) → vs = xs.map V.str
  | [], _, h => by
    have h : DaAll K H _ [] := h
    cases h
    rfl
  | x :: xs, _, h => by
    have h : DaAll K H _ (.str x :: xs.map .str) := h
    cases h with
    | cons h1 h2 =>
      cases h1
      rw [ofStrs h2]
      rfl
mutual
theorem Da.reads {X : Cx} {pn : List (Addr × Obj)} {sg : L2.St} {H : Hp} {s : Shared} (I : Inv X pn sg H s) : ∀ (d : PyData) (v : V) (u : Value), Da X.K H v d → RelV v u → ∃ as, Reads s.heap u d as
  | .none, _, _, h, r => by
    cases h
    cases r
    exact ⟨_, Reads.none⟩
  | .bool b, _, _, h, r => by
    cases h
    cases r
    exact ⟨_, Reads.bool b⟩
  | .int i, _, _, h, r => by
    cases h
    obtain ⟨t, rfl⟩ := r
    exact ⟨_, Reads.int i t⟩
  | .str x, _, _, h, r => by
    cases h
    obtain ⟨t, rfl⟩ := r
    exact ⟨_, Reads.str x t⟩
  | .list ds, _, _, h, r => by
    cases h with
    | lst h1 h2 hz =>
      cases r
      obtain ⟨its, rv, ⟨o, n, ho, hc, _, hd⟩, _⟩ := I.list h1
      obtain ⟨zs, hr⟩ := DaAll.reads I ds _ its h2 rv
      exact ⟨_, Reads.list ho hc hd hr⟩
  | .tuple ds, _, _, h, r => by
    cases h with
    | tup h1 h2 hz =>
      cases r
      obtain ⟨its, rv, ⟨o, ho, hc, n, hd⟩, _⟩ := I.tuple h1
      obtain ⟨zs, hr⟩ := DaAll.reads I ds _ its h2 rv
      exact ⟨_, Reads.tuple ho hc hd hr⟩
  | .dict kvs, _, _, h, r => by
    cases h with
    | dic h1 =>
      cases r
      obtain ⟨_, _, vs, rel, o, es, ep, ho, hx, hd, _, hp, _⟩ := (show ObjOk X.prog X.w H s.heap _ (.dK []) from I.hok _ _ h1)
      cases rel
      have e0 : es.toList = [] := by
        cases hp' : es.toList with
        | nil => rfl
        | cons z zs =>
          rw [hp'] at hp
          cases hp
      exact ⟨_, Reads.dict (as := []) (bs := []) ho hx.1 hd (by rw [e0]; exact .nil) (by rw [e0]; exact .nil)⟩
theorem DaAll.reads {X : Cx} {pn : List (Addr × Obj)} {sg : L2.St} {H : Hp} {s : Shared} (I : Inv X pn sg H s) : ∀ (ds : List PyData) (vs : List V) (us : List Value), DaAll X.K H vs ds → Vals vs us → ∃ as, ReadsAll s.heap us ds as
  | [], _, _, h, r => by
    cases h
    cases r
    exact ⟨_, ReadsAll.nil⟩
  | d :: ds, _, _, h, r => by
    cases h with
    | cons h1 h2 =>
      cases r with
      | cons r1 r2 =>
        obtain ⟨zs, q1⟩ := Da.reads I d _ _ h1 r1
        obtain ⟨ws, q2⟩ := DaAll.reads I ds _ _ h2 r2
        exact ⟨_, ReadsAll.cons q1 q2⟩
end
/-! ### ==, !=, repr -/
def rEqA (K : PySem.W.Frag) : R2 := fun x y H Q => ∃ d e, Da K H x d ∧ Da K H y e ∧ SeqAt.shaped d = true ∧ SeqAt.shaped e = true ∧ Q (.bl (PyData.eqv d e)) H
theorem op_eqA {X : Cx} (hu : X.A.units + 64 < cLine) : OpR X (compareOp .Eq) (rEqA X.K) := by
  intro pn s sg H vx vy ux uy Qq I r1 r2 hyp
  obtain ⟨d, e, h1, h2, s1, s2, q⟩ := hyp
  obtain ⟨as, q1⟩ := Da.reads I d _ _ h1 r1
  obtain ⟨bs, q2⟩ := Da.reads I e _ _ h2 r2
  exact PyProof.Rows.eq_dataH q1 q2 s1 s2 hu ⟨.bl _, H, I, rfl, q⟩
def rNeA (K : PySem.W.Frag) : R2 := fun x y H Q => ∃ d e, Da K H x d ∧ Da K H y e ∧ SeqAt.shaped d = true ∧ SeqAt.shaped e = true ∧ Q (.bl (!PyData.eqv d e)) H
theorem op_neA {X : Cx} (hu : X.A.units + 64 < cLine) : OpR X (compareOp .NotEq) (rNeA X.K) := by
  intro pn s sg H vx vy ux uy Qq I r1 r2 hyp
  obtain ⟨d, e, h1, h2, s1, s2, q⟩ := hyp
  obtain ⟨as, q1⟩ := Da.reads I d _ _ h1 r1
  obtain ⟨bs, q2⟩ := Da.reads I e _ _ h2 r2
  exact PyProof.Rows.ne_dataH q1 q2 s1 s2 hu ⟨.bl _, H, I, rfl, q⟩
/-! ### kinds -/
def dTup : PyData → Bool
  | .tuple _ => true
  | _ => false
def dStr : PyData → Bool
  | .str _ => true
  | _ => false
def dBl : PyData → Bool
  | .bool _ => true
  | _ => false
def dNum : PyData → Bool
  | .int _ => true
  | .bool _ => true
  | _ => false
theorem tyT {K : PySem.W.Frag} {H : Hp} {a : Addr} {xs : List V} (h : SqT K H a xs) : TyX K H (.ref a) (.type "tuple") := by
  rcases h with (h | ⟨o, h⟩) | h
  · exact .base (.tup h)
  · exact .fTuple h
  · obtain ⟨o, its, n, h1, h2, _⟩ := h
    exact .kTuple h1 h2
theorem tyL {K : PySem.W.Frag} {H : Hp} {a : Addr} {xs : List V} (h : SqL K H a xs) : TyX K H (.ref a) (.type "list") := by
  rcases h with (h | ⟨o, h⟩) | h
  · exact .base (.lst h)
  · exact .base (.frz h)
  · obtain ⟨o, its, n, h1, h2, _⟩ := h
    exact .kList h1 h2
theorem Da.isi {K : PySem.W.Frag} {H : Hp} {v : V} {d : PyData} (h : Da K H v d) : ∃ t, TyX K H v t ∧ PySem.W.kitOne K t (.type "tuple") = some (dTup d) ∧ PySem.W.kitOne K t (.type "str") = some (dStr d) ∧
    PySem.W.kitOne K t (.type "bool") = some (dBl d) ∧ PySem.W.kitOne K t (.type "int") = some (dNum d) := by
  cases h with
  | non => exact ⟨_, .base .non, kit_ty (show kitB "NoneType" "tuple" = some false by decide +kernel), kit_ty (show kitB "NoneType" "str" = some false by decide +kernel), kit_ty (show kitB "NoneType" "bool" = some false by decide +kernel), kit_ty (show kitB "NoneType" "int" = some false by decide +kernel)⟩
  | bl b => exact ⟨_, .base (.bl b), kit_ty (show kitB "bool" "tuple" = some false by decide +kernel), kit_ty (show kitB "bool" "str" = some false by decide +kernel), kit_ty (show kitB "bool" "bool" = some true by decide +kernel), kit_ty (show kitB "bool" "int" = some true by decide +kernel)⟩
  | int i => exact ⟨_, .base (.int i), kit_ty (show kitB "int" "tuple" = some false by decide +kernel), kit_ty (show kitB "int" "str" = some false by decide +kernel), kit_ty (show kitB "int" "bool" = some false by decide +kernel), kit_ty (show kitB "int" "int" = some true by decide +kernel)⟩
  | str x hx => exact ⟨_, .base (.str x), kit_ty (show kitB "str" "tuple" = some false by decide +kernel), kit_ty (show kitB "str" "str" = some true by decide +kernel), kit_ty (show kitB "str" "bool" = some false by decide +kernel), kit_ty (show kitB "str" "int" = some false by decide +kernel)⟩
  | lst h1 _ _ => exact ⟨_, tyL h1, kit_ty (show kitB "list" "tuple" = some false by decide +kernel), kit_ty (show kitB "list" "str" = some false by decide +kernel), kit_ty (show kitB "list" "bool" = some false by decide +kernel), kit_ty (show kitB "list" "int" = some false by decide +kernel)⟩
  | tup h1 _ _ => exact ⟨_, tyT h1, kit_ty (show kitB "tuple" "tuple" = some true by decide +kernel), kit_ty (show kitB "tuple" "str" = some false by decide +kernel), kit_ty (show kitB "tuple" "bool" = some false by decide +kernel), kit_ty (show kitB "tuple" "int" = some false by decide +kernel)⟩
  | dic h1 => exact ⟨_, .base (.dK h1), kit_ty (show kitB "dict" "tuple" = some false by decide +kernel), kit_ty (show kitB "dict" "str" = some false by decide +kernel), kit_ty (show kitB "dict" "bool" = some false by decide +kernel), kit_ty (show kitB "dict" "int" = some false by decide +kernel)⟩
def rReprA (K : PySem.W.Frag) : List V → Hp → VK → Prop := fun xs H Q => ∃ (a : Addr) (d : PyData), xs = [.ref a] ∧ Da K H (.ref a) d ∧ d.showable = true ∧ d.depth ≤ 60 ∧ d.shown.length ≤ sizeLine ∧ Q (.str d.shown) H
end Jv
/-! sets of keys: set(), in, add; data < data; d.pop(k, x) -/
namespace Jv
open PySem PySem.Spec PyProof.Rows L2
def rLenJ (K : PySem.W.Frag) : List V → Hp → VK → Prop := fun xs H Q => ∃ x n, xs = [x] ∧ LenV K x H n ∧ Q (V.int (n : Nat)) H
theorem hx_of {A : Around} {k : Nat} (hr : Room k A) : A.units + 20 < cLine := by
  have := hr.un
  omega
section
variable {P : Program} {w : World} {A : Around} {E : Value → Shared → Prop} {s : Shared} {a : Addr} {L : List (Addr × Ky)} {es : Array (Int × Value)} {ep : Nat} {t : SetTable}
/-- as KsR.seek, where nothing is to be put in -/
theorem KsR.seekF (R : KsR P w s.heap a L es ep t) {x : Addr} {k : Ky} (hx : (kyKind P w).is s.heap k x) (hu : A.units + 8 < cLine) {K : Nat} (hF : K < 10 * SetTable.turns t.mask) (hK : way t.mask (kh P w k) K ∉ t.place.toList) (hB : ∀ c, c < K → way t.mask (kh P w k) c ∈ t.place.toList)
    {Q : SetFound → Shared → Prop} (yes : k ∈ L.map (·.2) → ∀ i, Q (.there (some i)) s) (no : k ∉ L.map (·.2) → Q (.free (way t.mask (kh P w k) K) false) s) :
    ∀ (f c : Nat) (st : Option SetTable.Probe), st.getD (t.probeStart (kh P w k)) = prb t.mask (kh P w k) c → c ≤ K → K - c < f →
      (∀ (i : Nat) p, L[i]? = some p → p.2 = k → ∃ c', c ≤ c' ∧ c' < K ∧ t.place.toList[i]? = some (way t.mask (kh P w k) c')) → wpAny (model P w) A (setSearchFrom a (.ref x) (kh P w k) false f st) Q E s
  | 0, c, st, _, _, hf, _ => absurd hf (Nat.not_lt_zero _)
  | f + 1, c, st, est, hc, hf, ahead => by
    obtain ⟨o, ho, hex, hd⟩ := R.at_
    rw [setSearchFrom_succ]
    refine wpAny_bind (wpAny_setState_of ho hd R.fits ?_)
    dsimp only
    have gw : ¬ t.gaveWay = true := by
      unfold SetTable.gaveWay
      rw [mask_odd R.tab.mok]
      decide
    refine wp_if_neg gw ?_
    try refine wpAny_bind (wpAny_pure ?_)
    have ej : ∀ q, (nth t.mask (prb t.mask (kh P w k) c) q).j = way t.mask (kh P w k) (c + q) := fun q => by rw [prb_add, prb_j]
    have hashes : ∀ (i : Nat) p, L[i]? = some p → (es[i]?.map (·.1)).getD 0 = kh P w p.2 := fun i p hp => by
      rw [R.row hp, Option.map_some, Option.getD_some]
      exact congrArg Prod.fst (show rowK P w p = (kh P w p.2, Value.ref p.1) from rfl)
    have spec := go_spec t R.tab.ris R.tab.dm (fun i => (es[i]?.map (·.1)).getD 0) (kh P w k) (10 * SetTable.turns t.mask) (K - c) (prb t.mask (kh P w k) c) (prb_dummy _ _ _) (Nat.lt_of_le_of_lt (Nat.sub_le _ _) hF)
      (fun q hq => by rw [ej]; exact hB (c + q) (by omega)) (by rw [ej, show c + (K - c) = K by omega]; exact hK)
    have free_of : ∀ {k' : Nat}, (∀ (i : Nat) (p : Addr × Ky), L[i]? = some p → p.2 = k → ∃ c', c ≤ c' ∧ c' < K ∧ t.place.toList[i]? = some (way t.mask (kh P w k) c')) → (∀ (q i' : Nat), q < k' → t.place.toList[i']? = some (way t.mask (kh P w k) (c + q)) → (es[i']?.map (·.1)).getD 0 ≠ kh P w k) →
        ∀ (i : Nat) (p : Addr × Ky), L[i]? = some p → p.2 = k → ∃ c', c + k' ≤ c' ∧ c' < K ∧ t.place.toList[i]? = some (way t.mask (kh P w k) c') := by
      intro k' ah hno i p hp hk
      obtain ⟨c', a1, a2, a3⟩ := ah i p hp hk
      rcases Nat.lt_or_ge c' (c + k') with z | z
      · refine absurd ?_ (hno (c' - c) i (by omega) (by rw [show c + (c' - c) = c' by omega]; exact a3))
        rw [hashes i p hp, hk]
      · exact ⟨c', z, a2, a3⟩
    rcases spec with ⟨q, i, hq, hi, hh, hno, hpr⟩ | ⟨hno, hpr⟩
    · rw [ej] at hi
      have hpr : t.probe (fun i => (es[i]?.map (·.1)).getD 0) (kh P w k) (st.getD (t.probeStart (kh P w k))) = some (.candidate (way t.mask (kh P w k) (c + q)) i (prb t.mask (kh P w k) (c + (q + 1)))) := by
        rw [est, ← ej, ← prb_add]
        exact hpr
      rw [hpr]
      dsimp only
      have il : i < L.length := by
        have h1 := (List.getElem?_eq_some_iff.mp hi).1
        rw [Array.length_toList, R.place] at h1
        exact h1
      obtain ⟨p, hp⟩ : ∃ p, L[i]? = some p := ⟨_, List.getElem?_eq_getElem il⟩
      have pm : p ∈ L := List.mem_of_getElem? hp
      have next := free_of ahead (k' := q) fun q' i' h1 h2 => hno q' i' h1 (by rw [ej]; exact h2)
      have live : t.slot (way t.mask (kh P w k) (c + q)) = .live i := slot_live R.tab.ris hi
      have rest : wpAny (model P w) A (searchRest a (.ref x) (kh P w k) false f es t (way t.mask (kh P w k) (c + q)) i (prb t.mask (kh P w k) (c + (q + 1)))) Q E s := by
        unfold searchRest
        rw [R.row hp]
        unfold rowK
        dsimp only
        refine wpAny_bind (wpAny_holding ((kyKind P w).eqBool hu (R.keys p pm) hx (wpAny_bind (wpAny_setState_of ho hd R.fits ?_))))
        dsimp only
        refine wp_if_neg (by simp) ?_
        try refine wpAny_bind (wpAny_pure ?_)
        rw [sameMem]
        dsimp only
        simp only [if_true, live, R.row hp, rowK]
        refine wpAny_bind (wpAny_isSame_ref_self (wpAny_bind (wpAny_pure ?_)))
        simp only [if_true]
        by_cases ek : p.2 = k
        · exact wp_if_pos (by simp [ek]) (wpAny_pure (yes (List.mem_map.mpr ⟨p, pm, ek⟩) i))
        · refine wp_if_neg (by simp [ek]) (R.seekF hx hu hF hK hB yes no f (c + (q + 1)) _ rfl (by omega) (by omega) fun i0 p0 h0 k0 => ?_)
          obtain ⟨c', a1, a2, a3⟩ := next i0 p0 h0 k0
          refine ⟨c', ?_, a2, a3⟩
          rcases Nat.eq_or_lt_of_le a1 with z | z
          · rw [← z] at a3
            have s0 := (slot_live R.tab.ris a3).symm.trans live
            injection s0 with s0
            rw [s0, hp] at h0
            cases h0
            exact absurd k0 ek
          · omega
      by_cases hl : t.led = true
      · refine wp_if_neg (by simp [hl]) ?_
        try refine wpAny_bind (wpAny_pure ?_)
        exact rest
      · refine wp_if_pos (by simp [hl]) (wpAny_bind (not_seen hx (fun y hy => ?_) ?_))
        · obtain ⟨e, he, ee⟩ := List.mem_map.mp hy
          have he2 : e ∈ es.toList := (by simpa using he : e ∈ es ∧ e.1 = kh P w k).1 |> Array.mem_toList_iff.mpr
          rw [R.rows] at he2
          obtain ⟨p2, hp2, e2⟩ := List.mem_map.mp he2
          exact ⟨p2.2, p2.1, by rw [← ee, ← e2]; rfl, R.keys p2 hp2⟩
        · refine wp_if_neg (by decide) ?_
          try refine wpAny_bind (wpAny_pure ?_)
          exact rest
    · have hpr : t.probe (fun i => (es[i]?.map (·.1)).getD 0) (kh P w k) (st.getD (t.probeStart (kh P w k))) = some (.empty (way t.mask (kh P w k) K) none) := by
        have e2 : way t.mask (kh P w k) K = (nth t.mask (prb t.mask (kh P w k) c) (K - c)).j := by rw [ej, show c + (K - c) = K by omega]
        rw [est, e2]
        exact hpr
      rw [hpr]
      dsimp only
      refine wpAny_pure (no fun hm => ?_)
      obtain ⟨p0, m0, k0⟩ := List.mem_map.mp hm
      obtain ⟨i0, h0⟩ := List.getElem?_of_mem m0
      obtain ⟨c', a1, a2, a3⟩ := free_of ahead (k' := K - c) (fun q' i' h1 h2 => hno q' i' h1 (by rw [ej]; exact h2)) i0 p0 h0 k0
      omega
theorem KsR.there (R : KsR P w s.heap a L es ep t) {x : Addr} {k : Ky} (hx : (kyKind P w).is s.heap k x) (hu : A.units + 8 < cLine) {Q : Option Nat → Shared → Prop} (q : ∀ r : Option Nat, r.isSome = decide (k ∈ L.map (·.2)) → Q r s) : wpAny (model P w) A (setFind a (.ref x) (kh P w k)) Q E s := by
  obtain ⟨o, ho, hex, hd⟩ := R.at_
  have rm := R.room
  obtain ⟨K, hF, hK, hB⟩ := R.tab.first (by rw [List.length_map]; omega) (kh P w k)
  have big : K < 100000 := by
    have : 10 * SetTable.turns t.mask ≤ 1420 := by
      unfold SetTable.turns
      rcases R.tab.mok with e | e | e <;> omega
    omega
  unfold setFind
  rw [show (100000 : Nat) = 99999 + 1 from rfl]
  show wpAny _ _ (setState a >>= _) _ _ _
  refine wpAny_bind (wpAny_setState_of ho hd R.fits ?_)
  dsimp only
  refine wp_if_neg (by simp [byScan, Value.scannable]) ?_
  try refine wpAny_bind (wpAny_pure ?_)
  unfold setSearch
  refine wpAny_bind (R.seekF hx hu hF hK hB (fun hm i => ?_) (fun hm => ?_) 100000 0 none rfl (Nat.zero_le _) (by omega) fun i p hp hk => ?_)
  · exact wpAny_pure (q (some i) (by rw [decide_eq_true hm]; rfl))
  · exact wpAny_pure (q none (by rw [decide_eq_false hm]; rfl))
  · have il : i < t.place.toList.length := by
      rw [Array.length_toList, R.place]
      exact (List.getElem?_eq_some_iff.mp hp).1
    have hj := List.getElem?_eq_getElem il
    obtain ⟨c, hc, e⟩ := R.tab.before hK (i := i) (by rw [List.getElem?_map, hp, ← hk]; rfl) hj
    exact ⟨c, Nat.zero_le _, hc, by rw [hj, e]⟩
end
section
variable {X : Cx}
/-! ### set() -/
def rKs0 (P : Program) (w : World) : List V → Hp → VK → Prop := fun xs H Q => xs = [] ∧ ∀ p, H p = none → Q (.ref p) (upd H p (KsO P w p []))
theorem cr_ks0 : CallR X (.type "set") (rKs0 X.prog X.w) := by
  intro pn sg s H vxs uxs Qq I r1 hyp
  obtain ⟨rfl, q⟩ := hyp
  cases r1
  refine setR_new fun _ => ?_
  exact ⟨.ref _, _, I.laid (t' := _) (fun b u e => Heap.get?_push_of_some _ e) (Nat.le_refl _) (ksO_ok (ks_fresh (Heap.get?_push_size _ rfl))), rfl, q _ (I.hok.fresh (Nat.le_refl _))⟩
theorem ks_new {K : PySem.W.Frag} {P : Program} {w : World} {H : Hp} {p : Addr} : Ks K P w (upd H p (KsO P w p [])) p [] := ⟨upd_same, fun q hq => by cases hq⟩
/-! ### k in found -/
def rKsIn (K : PySem.W.Frag) (P : Program) (w : World) (f : Bool → Bool) : R2 := fun x y H Q => ∃ a d L k, x = .ref a ∧ y = .ref d ∧ Ks K P w H d L ∧ KyAt K H a k ∧ Q (.bl (f (decide (k ∈ L.map (·.2))))) H
theorem op_ksIn (hu : X.A.units + 20 < cLine) : OpR X (compareOp .In) (rKsIn X.K X.prog X.w id) := by
  intro pn s sg H vx vy ux uy Qq I r1 r2 hyp
  obtain ⟨a, d, L, k, rfl, rfl, hS, hk, q⟩ := hyp
  cases (show ux = Value.ref a from r1)
  cases (show uy = Value.ref d from r2)
  obtain ⟨es, ep, t, R⟩ := hS.of I
  obtain ⟨o, ho, hex, hd⟩ := R.at_
  have hT : s.TypeIs (.ref d) "set" := ⟨o, ho, hex.1⟩
  show wpAny _ _ (do return Value.bool (← contains (.ref d) (.ref a))) _ _ s
  refine wpAny_bind ?_
  unfold contains
  try with_reducible refine wpAny_holding ?_
  refine wpAny_bind (wpAny_specialOf hT F.slot_set_contains.lookup ?_)
  show wpAny _ _ (if (some (Value.builtin "set.__contains__") == some Value.none) = true then _ else _) _ _ s
  rw [if_neg (by rw [beq_builtin_none]; exact Bool.false_ne_true)]
  refine wpAny_bind (wpAny_callSpecialUnlessNone?_slot (name := Str.ofString "__contains__") hT F.slot_set_contains
    (wpAny_call_entry F.slot_set_contains hT entry_set_contains ?_ (F.args_set_contains_2 _ _)))
  unfold Builtin.«frozenset.__contains__» Builtin.Frozenset.oneOther
  simp only [List.isEmpty_nil, bind_assoc]
  unfold Builtin.Frozenset.addrOf Builtin.Frozenset.withSetAsKey setContains
  refine wpAny_bind (wpAny_pure ?_)
  try dsimp only
  refine wpAny_bind (wpAny_pure ?_)
  try dsimp only
  refine wpAny_bind (wpAny_tryCatch ?_)
  refine wpAny_holding ?_
  refine wpAny_bind ((kyKind X.prog X.w).pyHash (show X.A.units + 1 + 8 < cLine by omega) (hk.is I) ?_)
  have I1 : Inv X pn sg H { s with toks := s.toks + (kyKind X.prog X.w).draws k } := I.tok _
  obtain ⟨es1, ep1, t1, R1⟩ := hS.of I1
  refine wpAny_bind (KsR.there (s := { s with toks := s.toks + (kyKind X.prog X.w).draws k }) R1 (hk.is I1) (show X.A.units + 1 + 8 < cLine by omega) fun r hr => ?_)
  refine wpAny_pure ?_
  show wpAny _ _ (ret (Value.bool r.isSome)) _ _ _
  rw [hr]
  exact wpAny_pure ⟨_, rfl, wpAny_truthy_bool (wpAny_pure ⟨.bl _, H, I1, rfl, q⟩)⟩
/-! ### o.m(..) of things whose type is told otherwise -/
def TyEv (X : Cx) (T : String) (ty : V → Hp → Prop) : Prop := ∀ (pn : List (Addr × Obj)) (sg : L2.St) (H : Hp) (s : Shared) (x : V) (v : Value), Inv X pn sg H s → RelV x v → ty x H → s.TypeIs v T ∧ ∀ a, v = .ref a → ∃ ob, s.heap.get? a = some ob ∧ ob.dict = none
def tBT (ty : V → Hp → Prop) (r : V → List V → Hp → VK → Prop) (to : TE) (t : TA) : TE := fun sg H Q => to sg H fun x H1 => ty x H1 ∧ t sg H1 fun xs H2 => r x xs H2 Q
def tBT0 (ty : V → Hp → Prop) (r : V → List V → Hp → VK → Prop) (to : TE) : TE := fun sg H Q => to sg H fun x H1 => ty x H1 ∧ r x [] H1 Q
section
variable {o e : Expr} {es : List Expr} {to : TE} {t : TA} {name : Str} {apos cpos : Pos} {T id : String} {r : V → List V → Hp → VK → Prop} {ty : V → Hp → Prop}
theorem pe_bt0 (pa : PlainAttrs T) (slot : Slot T name id) (hty : typeOf (.builtin id) = pure (.type "method_descriptor")) (hm : MtR X id r) (ev : TyEv X T ty) (ho : PE X o to)
    (hbase : attributeBase o name X.env (eval o X.env) = eval o X.env := by rfl) (hline : (apos.endLine == cpos.line) = true := by rfl) : PE X (.Call (.Attribute o name apos) [] [] cpos) (tBT0 ty r to) := by
  refine ⟨fun pn s sg H Q I h => ?_⟩
  refine wpAny_Call_method0_late hbase hline (thn (ho.run pn s sg H _ I h) fun v s1 ⟨x, H1, I1, r1, tx, q1⟩ => ?_)
  obtain ⟨h1, h2⟩ := ev _ _ _ _ _ _ I1 r1 tx
  exact ⟨T, id, pa, slot, hty, h1, h2, Calls.callWith_builtin rfl (PySem.evalArgs_none (hm pn s1 sg H1 x [] v [] Q I1 r1 .nil q1))⟩
theorem pe_bt (pa : PlainAttrs T) (slot : Slot T name id) (hty : typeOf (.builtin id) = pure (.type "method_descriptor")) (hm : MtR X id r) (ev : TyEv X T ty) (ho : PE X o to) (ha : PA X (e :: es) t)
    (hbase : attributeBase o name X.env (eval o X.env) = eval o X.env := by rfl)
    (hfew : ((backTo cpos (starEach (e :: es) X.env)).all (fun x => !x.1) && (backToKw cpos (keywordEach [] X.env)).all (fun x => x.1.isSome) && decide ((e :: es).length + ([] : List Keyword).length + (if ([] : List Keyword).isEmpty then 0 else 1) < 30)) = true := by rfl)
    (hline : (apos.endLine == cpos.line) = true := by rfl) (hs : starEach (e :: es) X.env = (false, eval e X.env) :: starEach es X.env := by rfl) (hpl : (backTo cpos (starEach es X.env)).any (·.1) = false := by rfl) :
    PE X (.Call (.Attribute o name apos) (e :: es) [] cpos) (tBT ty r to t) := by
  refine ⟨fun pn s sg H Q I h => ?_⟩
  refine wpAny_Call_method_late hbase hfew hline rfl (thn (ho.run pn s sg H _ I h) fun v s1 ⟨x, H1, I1, r1, tx, q1⟩ => ?_)
  obtain ⟨h1, h2⟩ := ev _ _ _ _ _ _ I1 r1 tx
  refine ⟨T, id, pa, slot, hty, h1, h2, ?_⟩
  have hA := ha.run cpos pn s1 sg H1 _ I1 q1
  rw [hs] at hA ⊢
  refine Calls.callWith_builtin (by show (false || (backTo cpos (starEach es X.env)).any (·.1)) = false; rw [hpl] <;> rfl) (Calls.evalArgs_plain ?_)
  exact thn hA fun us s2 ⟨vs, H2, I2, r2, q2⟩ => hm pn s2 sg H2 x vs v us Q I2 r1 r2 q2
end
def isKs (K : PySem.W.Frag) (P : Program) (w : World) : V → Hp → Prop := fun x H => ∃ d L, x = .ref d ∧ Ks K P w H d L
def isNd (K : PySem.W.Frag) (P : Program) (w : World) : V → Hp → Prop := fun x H => ∃ d kvs, x = .ref d ∧ Nd K P w H d kvs
theorem ev_ks : TyEv X "set" (isKs X.K X.prog X.w) := by
  rintro pn sg H s x v I r ⟨d, L, rfl, hS⟩
  cases (show v = Value.ref d from r)
  obtain ⟨es, ep, t, R⟩ := hS.of I
  obtain ⟨o, ho, hex, _⟩ := R.at_
  refine ⟨⟨o, ho, hex.1⟩, fun a e => ?_⟩
  cases e
  exact ⟨o, ho, hex.2.1⟩
theorem ev_nd : TyEv X "dict" (isNd X.K X.prog X.w) := by
  rintro pn sg H s x v I r ⟨d, kvs, rfl, hN⟩
  cases (show v = Value.ref d from r)
  obtain ⟨xs, h1, h2⟩ := hN.ex
  obtain ⟨_, _, o, es, ep, g1, g2, _⟩ := Nd.of I h1 h2
  refine ⟨⟨o, g1, g2.1⟩, fun a e => ?_⟩
  cases e
  exact ⟨o, g1, g2.2.1⟩
/-! ### found.add(k) -/
def rKsAdd (K : PySem.W.Frag) (P : Program) (w : World) : V → List V → Hp → VK → Prop := fun x xs H Q => ∃ d L a k, x = .ref d ∧ xs = [.ref a] ∧ Ks K P w H d L ∧ KyAt K H a k ∧ L.length < 63 ∧
  ∀ H' L', (∀ b, b ≠ d → H' b = H b) → Ks K P w H' d L' → (k ∈ L.map (·.2) → L' = L) → (k ∉ L.map (·.2) → L'.Perm ((a, k) :: L)) → Q .non H'
theorem mt_ksAdd (hu : X.A.units + 20 < cLine) : MtR X "set.add" (rKsAdd X.K X.prog X.w) := by
  intro pn s sg H x xs v us Q I rx rxs hyp
  obtain ⟨d, L, a, k, rfl, rfl, hS, hk, few, q⟩ := hyp
  cases (show v = Value.ref d from rx)
  obtain ⟨u, rfl, r2⟩ := vals1 rxs
  cases (show u = Value.ref a from r2)
  exact ks_add I (by omega) hS hk few fun s' H' L' hb hS' m1 m2 I' => ⟨.non, H', I', rfl, q H' L' hb hS' m1 m2⟩
/-! ### d.pop(k, x) -/
theorem getN_none {K : PySem.W.Frag} {H : Hp} {kvs : List (Ky × V)} {xs : List (Ky × Addr × Value)} (r : Paired (fun p q => p.1 = q.1 ∧ KyAt K H q.2.1 p.1 ∧ RelV p.2 q.2.2) kvs xs) {k : Ky} : (atKey xs k = none → getN kvs k = none) ∧ ∀ p, atKey xs k = some p → ∃ v, getN kvs k = some v ∧ RelV v p.2 := by
  induction r with
  | nil => exact ⟨fun _ => rfl, fun p e => by cases e⟩
  | @cons p q ps qs h t ih =>
    obtain ⟨h1, h2, h3⟩ := h
    unfold getN
    by_cases z : p.1 = k
    · have z' : q.1 = k := h1.symm.trans z
      have e : atKey (q :: qs) k = some q.2 := by simp [atKey, List.find?_cons, z']
      rw [if_pos z, e]
      exact ⟨fun y => by (cases y), fun p' y => by (cases y; exact ⟨_, rfl, h3⟩)⟩
    · have z' : ¬ q.1 = k := fun y => z (h1.trans y)
      have e : atKey (q :: qs) k = atKey qs k := by simp [atKey, List.find?_cons, z']
      rw [if_neg z, e]
      exact ih
def dropN (kvs : List (Ky × V)) (k : Ky) : List (Ky × V) := kvs.filter fun p => decide (p.1 ≠ k)
theorem nd_drop {K : PySem.W.Frag} {H : Hp} {kvs : List (Ky × V)} {xs : List (Ky × Addr × Value)} (r : Paired (fun p q => p.1 = q.1 ∧ KyAt K H q.2.1 p.1 ∧ RelV p.2 q.2.2) kvs xs) (k : Ky) : Paired (fun p q => p.1 = q.1 ∧ KyAt K H q.2.1 p.1 ∧ RelV p.2 q.2.2) (dropN kvs k) (DT.dropH xs k) := by
  unfold dropN DT.dropH
  induction r with
  | nil => exact .nil
  | @cons p q ps qs h t ih =>
    by_cases z : p.1 = k
    · rw [List.filter_cons_of_neg (by simp [z]), List.filter_cons_of_neg (by simp [← h.1, z])]
      exact ih
    · rw [List.filter_cons_of_pos (by simp [z]), List.filter_cons_of_pos (by simp [← h.1, z])]
      exact .cons h ih
def rPopN (K : PySem.W.Frag) (P : Program) (w : World) : V → List V → Hp → VK → Prop := fun x xs H Q => ∃ d kvs a k y, x = .ref d ∧ xs = [.ref a, y] ∧ Nd K P w H d kvs ∧ KyAt K H a k ∧ (getN kvs k = none → Q y H) ∧
  ∀ v, getN kvs k = some v → ∀ H', (∀ b, b ≠ d → H' b = H b) → Nd K P w H' d (dropN kvs k) → Q v H'
theorem mt_popN (hu : X.A.units + 20 < cLine) : MtR X "dict.pop" (rPopN X.K X.prog X.w) := by
  intro pn s sg H x xs v us Q I rx rxs hyp
  obtain ⟨d, kvs, a, k, y, rfl, rfl, hN, hk, q1, q2⟩ := hyp
  cases (show v = Value.ref d from rx)
  obtain ⟨u1, u2, rfl, r1, r2⟩ := vals2 rxs
  cases (show u1 = Value.ref a from r1)
  obtain ⟨xs, h1, h2⟩ := hN.ex
  obtain ⟨hz, hd, hm⟩ := Nd.of I h1 h2
  have all := getN_none h2 (k := k)
  refine call_meetsIn PySem.F.slot_dict_pop hm.typeIs PySem.F.entry_dict_pop (PySem.F.args_dict_pop_3 _ _ _) (DT.meetsPop (knd := kyKind X.prog X.w) (k := k) u2 hd)
    ⟨xs, (show X.A.units + 1 + 8 < cLine by omega), hk.is I, hm, hz, fun hn tk => ?_, fun p hp h' tk dd hs => ?_⟩
  · show EP X pn sg Q u2 _
    exact ⟨y, H, I.tok tk, r2, q1 (all.1 hn)⟩
  · obtain ⟨z, e1, e2⟩ := all.2 p hp
    have e9 : ∃ z, h'.get? d = some z := let ⟨z, _, _, hq, _⟩ := dd; ⟨z, hq⟩
    have mu : Mut (H d) := by
      rw [h1]
      exact True.intro
    have hz2 : (DT.dropH xs k).length ≤ sizeLine := Nat.le_trans (List.length_filter_le _ _) hz
    have up : TupS H (upd H d (NdO X.prog X.w d (DT.dropH xs k))) := fun b o e t => by
      have nb : b ≠ d := by
        rintro rfl
        rw [h1] at e
        cases e
        rcases t with ⟨ys, t⟩ | ⟨y1, y2, t⟩ <;> cases t
      rw [upd_ne nb]
      exact e
    have I2 : Inv X pn sg (upd H d (NdO X.prog X.w d (DT.dropH xs k))) { s with heap := h', toks := tk } := d_write I mu hs e9 (ndO_ok hz2 hd dd)
    show EP X pn sg Q p.2 _
    exact ⟨z, _, I2, e2, q2 z e1 _ (fun b hb => upd_ne hb) ⟨_, upd_same, Paired.mapP (nd_drop h2 k) fun p x z => ⟨z.1, z.2.1.tupS up, z.2.2⟩⟩⟩
/-! ### data < data -/
def rLtA (K : PySem.W.Frag) : R2 := fun x y H Q => ∃ d e, Da K H x d ∧ Da K H y e ∧ PySem.W.alike d e = true ∧ d ≠ .none ∧ d.depth ≤ 60 ∧ Q (.bl (PySem.W.dataLt d e)) H
theorem op_ltA (hu : X.A.units + 64 < cLine) : OpR X (compareOp .Lt) (rLtA X.K) := by
  intro pn s sg H vx vy ux uy Qq I r1 r2 hyp
  obtain ⟨d, e, h1, h2, al, nn, dp, q⟩ := hyp
  obtain ⟨as, q1⟩ := Da.reads I d _ _ h1 r1
  obtain ⟨bs, q2⟩ := Da.reads I e _ _ h2 r2
  exact PySem.W.lt_data q1 q2 al nn (by have := Nat.min_le_left d.depth e.depth; omega) ⟨.bl _, H, I, rfl, q⟩
end
end Jv
/-! for k, v in d.items(): keys (name, domain, folder, alone) -/
namespace Jv
open PySem PySem.Spec PyProof.Rows L2
abbrev NdPair (kvs : List (Ky × V)) (xs : List (Ky × Addr × Value)) : Prop := Paired (fun (p : Ky × V) (q : Ky × Addr × Value) => p.1 = q.1 ∧ RelV p.2 q.2.2) kvs xs
theorem ndPair_of {K : PySem.W.Frag} {H : Hp} {kvs : List (Ky × V)} {xs : List (Ky × Addr × Value)} (r : Paired (fun p q => p.1 = q.1 ∧ KyAt K H q.2.1 p.1 ∧ RelV p.2 q.2.2) kvs xs) : NdPair kvs xs := Paired.mapP r fun _ _ z => ⟨z.1, z.2.2⟩
theorem pairedGet {α β : Type} {R : α → β → Prop} {xs : List α} {ys : List β} (h : Paired R xs ys) : ∀ {i : Nat} {x : α}, xs[i]? = some x → ∃ y, ys[i]? = some y ∧ R x y := by
  induction h with
  | nil => exact fun e => by simp at e
  | @cons p q ps qs r t ih =>
    intro i x e
    cases i with
    | zero =>
      simp at e
      subst e
      exact ⟨q, rfl, r⟩
    | succ i => simpa using ih (i := i) (by simpa using e)
/-- the pairs of the dict at d while it stands locked: the key's own tuple, and the value, in a new tuple -/
def Jtn (P : Program) (w : World) (d : Addr) (o : Obj) (kvs : List (Ky × V)) (xs : List (Ky × Addr × Value)) : It :=
  ⟨fun i H => H d = some (.frz o (NdO P w d xs)) ∧ i < kvs.length, fun i H x H' => ∃ T k v q, kvs[i]? = some (k, v) ∧ xs[i]? = some q ∧ x = .ref T ∧ H T = none ∧ H' = upd H T (.tup [.ref q.2.1, v]), fun i H => H d = some (.frz o (NdO P w d xs)) ∧ kvs.length ≤ i⟩
section
variable {X : Cx} {pn : List (Addr × Obj)} {sg : L2.St} {H : Hp} {s : Shared} {d : Addr} {o : Obj} {kvs : List (Ky × V)} {xs : List (Ky × Addr × Value)}
theorem frzN (I : Inv X pn sg H s) (h : H d = some (.frz o (NdO X.prog X.w d xs))) : (d == sysModules) = false ∧ ∃ es ep, DT.Raw s.heap d es ep ∧ s.heap.get? d = some o ∧ o.data = .dict es ep ∧ es.size = xs.length ∧ ∀ (i : Nat) q, xs[i]? = some q → ∃ e, es[i]? = some e ∧ e.key = .ref q.2.1 ∧ e.val = q.2.2 := by
  obtain ⟨h0, ⟨hz, hd, o', es, ep, g1, g2, g3, g4, g5⟩, _, _⟩ := (show ObjOk X.prog X.w H s.heap d (.frz o (NdO X.prog X.w d xs)) from I.hok d _ h)
  rw [h0] at g1
  cases g1
  refine ⟨hd, es, ep, ⟨o, h0, g2, g3⟩, h0, g3, ?_, fun i q e => ?_⟩
  · rw [← Array.length_toList, g4, List.length_map]
  · refine ⟨entryOfKey (kyKind X.prog X.w) q, ?_, rfl, rfl⟩
    rw [← Array.getElem?_toList, g4, List.getElem?_map, e]
    rfl
end
theorem raw_eq {h : Heap} {d : Addr} {o : Obj} {es es' : Array DictEntry} {ep ep' : Nat} (h1 : o.data = .dict es ep) (h2 : o.data = .dict es' ep') : es' = es ∧ ep' = ep := by
  rw [h1] at h2
  cases h2
  exact ⟨rfl, rfl⟩
theorem turn_jtn {P : Program} {w : World} {K : PySem.W.Frag} {d : Addr} {o : Obj} {es : Array DictEntry} {ep : Nat} {kvs : List (Ky × V)} {xs : List (Ky × Addr × Value)} {elts : List Expr} {kk : Nat} {tpos : Pos} (it : Addr) (hod : o.data = .dict es ep) (pr : NdPair kvs xs) :
    Turn P w K (.Tuple elts kk tpos) (Jtn P w d o kvs xs) [it] it (fun i h => ∃ ok ov, IsItemIter h it d i kvs.length ep ok ov) where
  mem := by simp
  obj := fun i h st b hb => by
    have e : b = it := by simpa using hb
    subst e
    obtain ⟨ok, ov, e⟩ := st
    exact ⟨_, e, fun v z => nomatch z⟩
  keep := fun i h h' st k => let ⟨ok, ov, e⟩ := st; ⟨ok, ov, k it (by simp) _ e⟩
  item := by
    intro X hP hw hK hc i pins s σ H E I hf st hg
    subst hP hw hK
    obtain ⟨hd, hi⟩ := hg
    obtain ⟨hs, es', ep', raw, ho, hdt, hsz, get⟩ := frzN I hd
    obtain ⟨rfl, rfl⟩ := raw_eq (h := s.heap) (d := d) hod hdt
    have hl := Paired.length pr
    obtain ⟨⟨k, v⟩, hkv⟩ : ∃ p, kvs[i]? = some p := ⟨kvs[i], List.getElem?_eq_getElem hi⟩
    obtain ⟨q, eq, _, rq⟩ := pairedGet pr hkv
    obtain ⟨e, ee, ek, ev⟩ := get i q eq
    obtain ⟨ok, ov, he⟩ := st
    have hn : kvs.length = es'.size := by omega
    rw [hn] at he
    have hie : i < es'.size := by omega
    obtain rfl : es'[i] = e := by
      rw [Array.getElem?_eq_getElem hie] at ee
      exact Option.some.inj ee
    have hlt : it < s.heap.objs.size := Heap.lt_size he
    refine DT.nextI he raw hie fun h' hO hT hz hk => ?_
    refine ⟨_, rfl, wpAny_letOwnedTupleGo_items (s := { s with heap := h' }) hO fun h'' he' sb => ?_⟩
    have hT2 : h''.get? s.heap.objs.size = some { cls := .type "tuple", data := .seq #[.ref q.2.1, q.2.2] } := by
      rw [← ek, ← ev]
      exact (sb.2 _ (Nat.ne_of_gt hlt)).trans hT
    have new : ObjOk X.prog X.w (upd H s.heap.objs.size (.tup [.ref q.2.1, v])) h'' s.heap.objs.size (.tup [.ref q.2.1, v]) :=
      ⟨by show 2 ≤ sizeLine; decide, [.ref q.2.1, q.2.2], .cons rfl (.cons rq .nil), ⟨_, hT2, rfl, _, rfl⟩⟩
    have I1 : Inv X pins σ (upd H s.heap.objs.size (.tup [.ref q.2.1, v])) { s with heap := h'' } :=
      I.turnedNew (t' := s.toks) (ch := [it]) (fun b ob hb e => (sb.2 b (by simpa using hb)).trans (hk b ob (by simpa using hb) e)) hf (Nat.le_refl _) new
    refine ⟨.ref s.heap.objs.size, _, I1, rfl, ⟨_, k, v, q, hkv, eq, rfl, I.hok.fresh (Nat.le_refl _), rfl⟩, ⟨es'[i].key, es'[i].val, ?_⟩, fun b hb => ?_⟩
    · rw [hn]
      exact he'
    · have e : b = it := by simpa using hb
      rw [e, upd_ne (Nat.ne_of_lt hlt)]
      exact (hf it (by simp)).1
  done := by
    intro X hP hw hK hc i pins s σ H E I hf st hg
    subst hP hw hK
    obtain ⟨hd, hi⟩ := hg
    obtain ⟨f0, f1, f2, f3, f4, f5⟩ := hf it (by simp)
    obtain ⟨hs, es', ep', raw, ho, hdt, hsz, get⟩ := frzN I hd
    obtain ⟨rfl, rfl⟩ := raw_eq (h := s.heap) (d := d) hod hdt
    have hl := Paired.length pr
    obtain ⟨ok, ov, he⟩ := st
    have hn : kvs.length = es'.size := by omega
    rw [hn] at he
    exact DT.endI (I.ok.hd hc) he raw (by omega) fun h' eb => ⟨rfl, I.turned (t' := s.toks) (fun b ob hb e => eb b ob hb e) f0 f1 f3 f4 f5⟩
  self := fun A i s Q E st h => let ⟨_, _, e⟩ := st; PySem.W.kcp_self e h
/-- the dict is locked ahead of it -/
def iJtn (P : Program) (w : World) (td : TE) : TI := fun σ H R => td σ H fun x H1 => ∃ d o kvs xs, x = .ref d ∧ H1 d = some (.frz o (NdO P w d xs)) ∧ NdPair kvs xs ∧ R (Jtn P w d o kvs xs) H1
theorem pi_jtn {X : Cx} {e : Expr} {td : TE} {apos cpos : Pos} {elts : List Expr} {kk : Nat} {tpos : Pos} (he : PE X e td) (hbase : attributeBase e "items" X.env (eval e X.env) = eval e X.env := by rfl) (hline : (apos.endLine == cpos.line) = true := by rfl) :
    PI X (.Tuple elts kk tpos) (.Call (.Attribute e "items" apos) [] [] cpos) (iJtn X.prog X.w td) := by
  refine ⟨fun pins s σ H R I h => ?_⟩
  refine wpAny_Call_method (T := "dict") (id := "dict.items") hbase rfl hline F.plainAttrs_dict F.slot_dict_items F.type_dict_items (thn (he.run pins s σ H _ I h) fun u s1 ⟨x, H1, I1, rx, d, o, kvs, xs, ex, hd, pr, q⟩ => ?_)
  subst ex
  obtain rfl : u = Value.ref d := rx
  obtain ⟨hs, es, ep, raw, ho, hdt, hsz, get⟩ := frzN I1 hd
  have hl := Paired.length pr
  refine ⟨raw.typeIs, fun b e => ?_, ?_⟩
  · cases e
    obtain ⟨ob, g1, g2, _⟩ := raw
    exact ⟨ob, g1, g2.2.1⟩
  have I2 : Inv X pins σ H1 { s1 with heap := s1.heap.push { cls := .type "dict_items", data := .fields #[.ref d] } } := I1.kept (t' := s1.toks) fun b ob q => Heap.get?_push_of_some _ q
  have fin : wpAny (model X.prog X.w) X.A (pyIter (.ref s1.heap.objs.size)) (PIE X pins σ (.Tuple elts kk tpos) R) X.xe { s1 with heap := s1.heap.push { cls := .type "dict_items", data := .fields #[.ref d] } } := by
    refine DT.iterI (s := { s1 with heap := s1.heap.push { cls := .type "dict_items", data := .fields #[.ref d] } }) (d := d) (es := es) (ep := ep) ⟨_, Heap.get?_push_size _ rfl, rfl, rfl⟩ (raw.push _) (pi_one (tk := s1.toks) I2 _ (turn_jtn _ hdt pr) ⟨.none, .none, ?_⟩ q)
    rw [show kvs.length = es.size by omega]
    exact Heap.get?_push_size _ rfl
  show wpAny _ _ (callWith cpos (.builtin "dict.items") [.ref d] [] []) _ X.xe s1
  exact method_meetsIn F.slot_dict_items F.entry_dict_items rfl (PySem.evalArgs_none ⟨rfl, raw.typeIs, F.args_dict_items_1 _, _, DT.meetsItems (es := es) (ep := ep) hs, ⟨raw, fin⟩⟩)
def YNd (kvs : List (Ky × V)) (xs : List (Ky × Addr × Value)) : Nat → Hp → V → Hp → Prop := fun i H x H' => ∃ T k v q, kvs[i]? = some (k, v) ∧ xs[i]? = some q ∧ x = .ref T ∧ H T = none ∧ H' = upd H T (.tup [.ref q.2.1, v])
theorem walk_jtn {P : Program} {w : World} {d : Addr} {o : Obj} {kvs : List (Ky × V)} {xs : List (Ky × Addr × Value)} : Walk (Jtn P w d o kvs xs) kvs.length (fun H => H d = some (.frz o (NdO P w d xs))) (YNd kvs xs) :=
  ⟨fun _ _ hi q => ⟨q, hi⟩, fun _ q => ⟨q, Nat.le_refl _⟩, fun _ _ _ _ _ _ y => y⟩
end Jv
/-! data without lists and dicts; sorted(l, key=f), f a def of the text -/
namespace Jv
open PySem PySem.Spec PyProof.Rows L2
mutual
def flat : PyData → Bool
  | .list _ => false
  | .dict _ => false
  | .tuple ds => flatAll ds
  | .none => true
  | .bool _ => true
  | .int _ => true
  | .str _ => true
def flatAll : List PyData → Bool
  | [] => true
  | d :: ds => flat d && flatAll ds
end
mutual
theorem Da.tupS {K : PySem.W.Frag} {H H' : Hp} (s : TupS H H') : ∀ (d : PyData) (v : V), flat d = true → Da K H v d → Da K H' v d
  | .none, _, _, h => by cases h; exact .non
  | .bool b, _, _, h => by cases h; exact .bl b
  | .int i, _, _, h => by cases h; exact .int i
  | .str x, _, _, h => by cases h with | str x hx => exact .str x hx
  | .list ds, _, f, _ => absurd f (by simp [flat])
  | .dict kvs, _, f, _ => absurd f (by simp [flat])
  | .tuple ds, _, f, h => by
    cases h with
    | tup h1 h2 hz => exact .tup (s.sq h1) (DaAll.tupS s ds _ (by simpa [flat] using f) h2) hz
theorem DaAll.tupS {K : PySem.W.Frag} {H H' : Hp} (s : TupS H H') : ∀ (ds : List PyData) (vs : List V), flatAll ds = true → DaAll K H vs ds → DaAll K H' vs ds
  | [], _, _, h => by cases h; exact .nil
  | d :: ds, _, f, h => by
    rw [flatAll, Bool.and_eq_true] at f
    cases h with
    | cons h1 h2 => exact .cons (Da.tupS s d _ f.1 h1) (DaAll.tupS s ds _ f.2 h2)
end
theorem flatAll_of {ds : List PyData} (h : ∀ d ∈ ds, flat d = true) : flatAll ds = true := by
  induction ds with
  | nil => rfl
  | cons d ds ih => rw [flatAll, h d List.mem_cons_self, ih fun e he => h e (List.mem_cons_of_mem _ he)]; rfl
theorem flat_strs (xs : List Str) : flat (.tuple (xs.map .str)) = true := by
  rw [flat]
  refine flatAll_of fun d hd => ?_
  obtain ⟨x, _, rfl⟩ := List.mem_map.mp hd
  rfl
theorem tupS_mut {H : Hp} {a : Addr} {o u : HO} (h : H a = some o) (nt : ∀ xs, o ≠ .tup xs) (nf : ∀ u v, o ≠ .frz u v) : TupS H (upd H a u) := fun b x e t => by
  have n : b ≠ a := by
    rintro rfl
    rw [h] at e
    cases e
    rcases t with ⟨ys, t⟩ | ⟨y1, y2, t⟩
    · exact nt _ t
    · exact nf _ _ t
  rw [upd_ne n]
  exact e
section
variable {prog : Program} {w : World} {A : Around} {E : Value → Shared → Prop} {s : Shared} {a kS : Addr} {b : Bool} {vs : List Value} {keys : Array Value} {e e1 : Nat} {P : PySem.Fin → Shared → Prop}
/-- the heap behind a sort with keys -/
def skHeap (h : Heap) (kS a : Addr) (out : List Value) : Heap := (h.update kS (Obj.mapSeq fun _ => (#[] : Array Value))).update a (Obj.mapSeq fun _ => out.toArray)
theorem sk_tail {st : SortSt} {out : List Value} (nk : s.heap.get? kS = some (seqObj "list" keys e)) (na : s.heap.get? a = some (seqObj "list" #[] e1)) (hka : kS ≠ a)
    (hsz : keys.size ≤ sizeLine) (hz : out.length ≤ sizeLine) (hfl : failedOf st = none) (ho : (if b = true then ((arrOf st).map (·.2)).reverse else (arrOf st).map (·.2)) = out.toArray)
    (h : ∀ tk, P (.done (.ret .none)) { s with heap := skHeap s.heap kS a out, toks := tk }) : wpAny (model prog w) A (ksk_tail a b e1 (.ref kS) st) P E s := by
  have s1 := Heap.SameBut.update s.heap kS (Obj.mapSeq fun _ => (#[] : Array Value))
  have na1 : (s.heap.update kS (Obj.mapSeq fun _ => (#[] : Array Value))).get? a = some (seqObj "list" #[] e1) := (s1.2 a hka.symm).trans na
  have hz2 : out.toArray.size ≤ sizeLine + 1 := by
    rw [List.size_toArray]
    exact Nat.le_succ_of_le hz
  unfold ksk_tail
  try dsimp only
  rw [ho]
  refine wpAny_bind (listUpdate_at nk rfl ?_ hsz (Nat.zero_le _))
  refine wpAny_bind (wpAny_letGo ?_)
  refine wpAny_bind (seqEpoch_at na1 rfl ?_)
  refine wpAny_bind (listUpdate_at na1 rfl ?_ (Nat.zero_le _) hz2)
  rw [hfl]
  simp only [bne_self_eq_false, Bool.false_eq_true, if_false]
  exact wpAny_pure (h _)
theorem sk_end {κ : PyProof.Rows.KeyKind} (nk : s.heap.get? kS = some (seqObj "list" keys e)) (na : s.heap.get? a = some (seqObj "list" #[] e1)) (hka : kS ≠ a)
    (S : PySem.W.SortsAt prog w A s κ keys.toList) (hsz : keys.size = vs.length) (hZ : vs.length ≤ sizeLine)
    (h : ∀ tk, P (.done (.ret .none)) { s with heap := skHeap s.heap kS a (PySem.W.sortVals κ b keys.toList vs), toks := tk }) : wpAny (model prog w) A (ksk_end a b vs.toArray e1 (.ref kS) keys) P E s := by
  obtain ⟨kd, h1, h2⟩ := S.kind
  have hkl : keys.toList.length = vs.length := by
    rw [Array.length_toList]
    exact hsz
  have hK : PyProof.Rows.KeysOf κ (keys.zip vs.toArray) := PySem.W.keysOf_zip S.keys
  have hol : (PySem.W.sortVals κ b keys.toList vs).length = vs.length := PySem.W.sortVals_length b hkl
  have start : (if b = true then (keys.zip vs.toArray).reverse else keys.zip vs.toArray).Perm (keys.zip vs.toArray) := by
    cases b with
    | false => exact Array.Perm.refl _
    | true => exact Array.perm_iff_toList_perm.mpr (by rw [if_pos rfl, Array.toList_reverse]; exact List.reverse_perm _)
  have hss : (if b = true then (keys.zip vs.toArray).reverse else keys.zip vs.toArray).size = vs.length := by rw [start.size_eq, Array.size_zip, hsz, List.size_toArray, Nat.min_self]
  have fin : ∀ st' : SortSt, (arrOf st').Perm (if b = true then (keys.zip vs.toArray).reverse else keys.zip vs.toArray) → SortedToK κ (arrOf st') (if b = true then (keys.zip vs.toArray).reverse else keys.zip vs.toArray).size →
      Stable κ (arrOf st') (if b = true then (keys.zip vs.toArray).reverse else keys.zip vs.toArray) → (if b = true then ((arrOf st').map (·.2)).reverse else (arrOf st').map (·.2)) = (PySem.W.sortVals κ b keys.toList vs).toArray := by
    intro st' hp hs ht
    have q := congrArg List.toArray (PySem.W.sort_out (rev := b) (keys := keys) (items := vs.toArray) (xs := arrOf st') (κ := κ) hK hp hs ht)
    rw [Array.toArray_toList] at q
    exact q
  have more : ∀ t : Sem PySem.Fin, wpAny (model prog w) A t P E s → wpAny (model prog w) A (if b = true then (do let _ ← rule "list.sort.reverse"; t) else t) P E s := by
    intro t ht
    split
    · exact wpAny_bind (wpAny_rule ht)
    · exact ht
  unfold ksk_end
  try dsimp only
  refine more _ ?_
  by_cases hl2 : vs.toArray.size < 2
  · rw [if_pos hl2, if_pos hl2]
    refine wpAny_bind (wpAny_pure ?_)
    rw [StateT.run_pure]
    refine wpAny_bind (wpAny_pure ?_)
    try dsimp only
    refine sk_tail (st := SortSt.mk' general' (if b = true then (keys.zip vs.toArray).reverse else keys.zip vs.toArray) #[] 7 none) nk na hka (by rw [hsz]; exact hZ) (by rw [hol]; exact hZ) rfl (fin _ (Array.Perm.refl _) ?_ (Stable.refl _)) h
    intro i j hij hj
    rw [hss] at hj
    rw [List.size_toArray] at hl2
    have : i = j := by omega
    subst this
    exact KeyOrd.kle_refl _
  · rw [if_neg hl2, if_neg hl2]
    rw [List.size_toArray] at hl2
    refine wpAny_bind (h2 (by omega) _ ?_)
    refine wpAny_bind (wpAny_mono (H.wpS_sortRunsSt (κ := κ) (kd := kd) (a₀ := if b = true then (keys.zip vs.toArray).reverse else keys.zip vs.toArray)
      (st := SortSt.mk' kd (if b = true then (keys.zip vs.toArray).reverse else keys.zip vs.toArray) #[] 7 none)
      (Q := fun _ st' => failedOf st' = none ∧ (if b = true then ((arrOf st').map (·.2)).reverse else (arrOf st').map (·.2)) = (PySem.W.sortVals κ b keys.toList vs).toArray)
      h1 (hK.perm start) ⟨Array.Perm.refl _, rfl, rfl⟩ rfl (Stable.refl _) (by rw [hss]; omega) fun st' a1 a2 a3 a4 => ⟨a2, fin st' a1 a3 a4⟩) ?_ fun _ _ q => q)
    rintro ⟨⟨⟩, st'⟩ s' ⟨rfl, hf, ho⟩
    try dsimp only at ho ⊢
    exact sk_tail nk na hka (by rw [hsz]; exact hZ) (by rw [hol]; exact hZ) hf ho h
end
/-! ### over what is tracked -/
/-- the list that is being sorted: empty, and not touched -/
def skA (a : Addr) (e : Nat) : HO := .ext fun h => h.get? a = some (seqObj "list" #[] e)
theorem skA_ok {P : Program} {w : World} {H : Hp} {h : Heap} {a : Addr} {e : Nat} (q : h.get? a = some (seqObj "list" #[] e)) : ObjOk P w H h a (skA a e) := ⟨q, ⟨_, q⟩, fun h1 h2 x k => k _ x⟩
section
variable {X : Cx} {pn : List (Addr × Obj)} {sg : L2.St}
theorem run_in2 {H : Hp} {s : Shared} {Q : VK} {Er : Value → Shared → Prop} {u : Value} {v : V} {x : Str} {k : Nat} {sp : Sp} {f : Addr} {fd : FuncData} (F : FnOk X.prog X.w X.K X.mg X.base CX0 k f fd [x] sp) (hr : Room (k + 2) X.A) (hb : Binds X.K fd [x] [])
    (I : Inv X pn sg H s) (r : RelV v u) (h : sp [v] H Q E0) : wpAny (model X.prog X.w) X.A.in1.in1 (call (.ref f) [u]) (EP X pn sg Q) Er s := by
  have r2 : Vals [v] [u] := .cons r .nil
  refine wpAny_call (codeAny_mono (F.run X.A.in1.in1 X.stack s H ⟨[u], []⟩ [u] [v] Q E0 hr.in1.in1 I.env0.in1.in1 (hb s [u] I.kIn rfl) r2 h) fun r s' hq => ?_)
  match r, hq with
  | .error _, q => exact q.elim
  | .ok (.ret u), q => exact I.after q
  | .ok .next, q => exact q.elim
  | .ok .brk, q => exact q.elim
  | .ok .cont, q => exact q.elim
theorem lstAt {H : Hp} {s : Shared} {a : Addr} {xs : List V} (I : Inv X pn sg H s) (h : H a = some (.lst xs)) : xs.length ≤ sizeLine ∧ ∃ its n, Vals xs its ∧ s.heap.get? a = some (seqObj "list" its.toArray n) := I.hok a _ h
theorem reads_each {β : Type} {key : β → PyData} {H : Hp} {s : Shared} (I : Inv X pn sg H s) : ∀ {ks : List V} {bs : List β} {us : List Value}, Paired (fun v b => Da X.K H v (key b)) ks bs → Vals ks us → PySem.W.EachIs (fun u d => ∃ as, Reads s.heap u d as) us (bs.map key)
  | _, _, _, .nil, .nil => .nil
  | _, _, _, .cons h t, .cons r1 r2 => .cons (Da.reads I _ _ _ h r1) (reads_each I t r2)
theorem each_it {β : Type} {It : V → β → Prop} : ∀ {xs : List V} {bs : List β} {us : List Value}, Paired It xs bs → Vals xs us → PySem.W.EachIs (fun u b => ∃ v, RelV v u ∧ It v b) us bs
  | _, _, _, .nil, .nil => .nil
  | _, _, _, .cons h t, .cons r1 r2 => .cons ⟨_, r1, h⟩ (each_it t r2)
theorem it_each {β : Type} {It : V → β → Prop} : ∀ {us : List Value} {bs : List β}, PySem.W.EachIs (fun u b => ∃ v, RelV v u ∧ It v b) us bs → ∃ xs, Vals xs us ∧ Paired It xs bs
  | _, _, .nil => ⟨[], .nil, .nil⟩
  | _, _, .cons ⟨v, r, h⟩ t => by
    obtain ⟨xs, a, b⟩ := it_each t
    exact ⟨v :: xs, .cons r a, .cons h b⟩
theorem Paired.take {α β : Type} {R : α → β → Prop} {xs : List α} {ys : List β} (h : Paired R xs ys) : ∀ n : Nat, Paired R (xs.take n) (ys.take n) := by
  induction h with
  | nil => intro n; simp only [List.take_nil]; exact .nil
  | cons r t ih =>
    intro n
    cases n with
    | zero => exact .nil
    | succ n => exact .cons r (ih n)
/-- sorted(l, key=f) -/
def rSortK {β : Type} (K : PySem.W.Frag) (f : Addr) (It : Hp → V → β → Prop) (key : β → PyData) : List V → List V → Hp → VK → Prop := fun vs zs H Q => ∃ (l : Addr) (xs : List V) (bs : List β), vs = [.ref l] ∧ zs = [.ref f] ∧ SqL K H l xs ∧ Paired (It H) xs bs ∧ bs.length ≤ 1000 ∧
  ∀ H' p ys, Same H H' → H p = none → H' p = some (.lst ys) → Paired (It H') ys (bs.mergeSort (PySem.W.dataLe false key)) → Q (.ref p) H'
theorem cr_sortK {β : Type} {It : Hp → V → β → Prop} {key : β → PyData} {x : Str} {k : Nat} {sp : Sp} {f : Addr} {fd : FuncData} (F : FnOk X.prog X.w X.K X.mg X.base CX0 k f fd [x] sp) (hr : Room (k + 2) X.A) (hb : Binds X.K fd [x] [])
    (mono : ∀ H H' v b, TupS H H' → It H v b → It H' v b) (hsp : ∀ (H : Hp) (v : V) (b : β) (Q : VK), It H v b → (∀ H' u, Same H H' → Da X.K H' u (key b) → Q u H') → sp [v] H Q E0)
    (al : ∀ b b', PySem.W.alike (key b) (key b') = true) (tup : ∀ b, ∃ x r, key b = .tuple (x :: r)) (fl : ∀ b, flat (key b) = true) (dp : ∀ b, (key b).depth ≤ 60) : CallRK X (.builtin "sorted") ["key"] (rSortK X.K f It key) := by
  intro pn s sg H vs zs us ws Q I rv rz hyp
  obtain ⟨l, xs, bs, rfl, rfl, hL, pr, hz, q⟩ := hyp
  obtain ⟨u, rfl, r1⟩ := vals1 rv
  cases (show u = Value.ref l from r1)
  obtain ⟨u2, rfl, r2⟩ := vals1 rz
  cases (show u2 = Value.ref f from r2)
  obtain ⟨its, rits, pl, _⟩ := I.list hL
  have nx := Paired.length pr
  have ni : its.length = xs.length := rits.length.symm
  have hZ : its.length ≤ sizeLine := by
    rw [ni, nx]
    exact Nat.le_trans hz (by decide)
  refine PySem.W.sorted_of_sort pl.isList hZ (ksk_s1 _ _) (fun z => ksk_l1 _ _) fun E' => ?_
  show wpAny _ _ (Builtin.«list.sort» ⟨[.ref (s.heap.objs.size + 1)], [(Str.ofString "key", .ref f)]⟩) _ _ _
  rw [ksk_t1]
  -- the copy
  have nA : H (s.heap.objs.size + 1) = none := I.hok.fresh (Nat.le_succ _)
  have I0 : Inv X pn sg (upd H (s.heap.objs.size + 1) (.lst xs)) { s with heap := PySem.W.copyHeap s.heap its, toks := s.toks } := I.laid (fun b o z => PySem.W.copyHeap_old z) (Nat.le_succ _) ⟨by rw [nx]; exact Nat.le_trans hz (by decide), its, 0, rits, PySem.W.copyHeap_at _ _⟩
  have ho := PySem.W.copyHeap_at s.heap its
  generalize PySem.W.copyHeap s.heap its = h0 at I0 ho ⊢
  have sA : Same H (upd H (s.heap.objs.size + 1) (.lst xs)) := fun b o z => by rw [upd_ne (ne_of_none z nA)]; exact z
  generalize s.heap.objs.size + 1 = a at nA I0 ho sA ⊢
  obtain ⟨e1, ho1⟩ : ∃ e1, (h0.update a (Obj.mapSeq fun _ => (#[] : Array Value))).get? a = some (seqObj "list" #[] e1) := ⟨_, get?_update_seq ho fun _ => #[]⟩
  have I1 : Inv X pn sg (upd (upd H a (.lst xs)) a (skA a e1)) { s with heap := h0.update a (Obj.mapSeq fun _ => (#[] : Array Value)), toks := s.toks } := d_write (s := { s with heap := h0, toks := s.toks }) (ob := skA a e1) I0 (by rw [upd_same]; exact True.intro) (Heap.SameBut.update h0 a (Obj.mapSeq fun _ => (#[] : Array Value))) ⟨_, ho1⟩ (skA_ok ho1)
  have sB : Same H (upd (upd H a (.lst xs)) a (skA a e1)) := fun b o z => by rw [upd_ne (ne_of_none z nA)]; exact sA b o z
  have aB : upd (upd H a (.lst xs)) a (skA a e1) a = some (skA a e1) := upd_same
  generalize upd (upd H a (.lst xs)) a (skA a e1) = H1 at I1 sB aB
  unfold ksk_tree
  refine wpAny_bind (listItems_at ho rfl ?_)
  refine wpAny_bind (listUpdate_at ho rfl ?_ (by rw [List.size_toArray]; exact hZ) (Nat.zero_le _))
  refine wpAny_bind (seqEpoch_at ho1 rfl ?_)
  generalize h0.update a (Obj.mapSeq fun _ => (#[] : Array Value)) = h1 at I1 ho1 ⊢
  refine wpAny_bind (wpAny_newTuple ?_ (by show its.length ≤ _; exact hZ))
  refine wpAny_bind (wpAny_newList ?_ (Nat.zero_le _))
  refine wpAny_holding ?_
  have I2 : Inv X pn sg H1 { s with heap := h1.push (seqObj "tuple" its.toArray 0), toks := s.toks } := I1.kept (t' := s.toks) fun b o z => Heap.get?_push_of_some _ z
  have kAt : ((h1.push (seqObj "tuple" its.toArray 0)).push (seqObj "list" #[] 0)).get? (h1.push (seqObj "tuple" its.toArray 0)).objs.size = some (seqObj "list" #[] 0) := Heap.get?_push_size _ rfl
  have nK : H1 (h1.push (seqObj "tuple" its.toArray 0)).objs.size = none := I2.hok.fresh (Nat.le_refl _)
  have I3 : Inv X pn sg (upd H1 (h1.push (seqObj "tuple" its.toArray 0)).objs.size (.lst [])) { s with heap := (h1.push (seqObj "tuple" its.toArray 0)).push (seqObj "list" #[] 0), toks := s.toks } := I2.laid (fun b o z => Heap.get?_push_of_some _ z) (Nat.le_refl _) ⟨Nat.zero_le _, [], 0, .nil, kAt⟩
  show wpAny _ _ (ksk_rest a (.ref f) false its.toArray e1 (.ref (h1.push (seqObj "tuple" its.toArray 0)).objs.size)) _ _ { s with heap := (h1.push (seqObj "tuple" its.toArray 0)).push (seqObj "list" #[] 0) }
  generalize (h1.push (seqObj "tuple" its.toArray 0)).objs.size = kS at nK I3 ⊢
  generalize (h1.push (seqObj "tuple" its.toArray 0)).push (seqObj "list" #[] 0) = h2 at I3 ⊢
  have hka : kS ≠ a := by
    rintro rfl
    rw [aB] at nK
    cases nK
  unfold ksk_rest
  refine wpAny_bind (wpAny_rule ?_)
  first
    | rw [List.forIn_toArray]
    | (rw [← Array.forIn_toList]; simp only [List.toList_toArray])
    | rw [← Array.forIn_toList]
  have tS : ∀ {H2 : Hp} {ks : List V} {u : HO}, H2 kS = some (.lst ks) → TupS H2 (upd H2 kS u) := fun h => tupS_mut h (fun _ z => nomatch z) fun _ _ z => nomatch z
  refine wpAny_bind (ksk_fold (fun i s' => ∃ H' ks, Inv X pn sg H' s' ∧ (∀ b o, b ≠ kS → H1 b = some o → H' b = some o) ∧ H' kS = some (.lst ks) ∧ Paired (fun v b => Da X.K H' v (key b)) ks (bs.take i)) its 0 _
    ⟨_, [], I3, fun b o hb z => by rw [upd_ne hb]; exact z, upd_same, .nil⟩ ?step ?done)
  case step =>
    rintro j y s' hy ⟨H', ks, I', keep, atK, pk⟩
    simp only [Nat.zero_add] at pk ⊢
    have hj : j < its.length := (List.getElem?_eq_some_iff.mp hy).1
    have ex : xs[j]? = some (xs[j]'(by omega)) := List.getElem?_eq_getElem (by omega)
    obtain ⟨u', hu, ru⟩ := rits.get ex
    rw [hy] at hu
    cases hu
    obtain ⟨b, eb, hb'⟩ := pairedGet pr ex
    have up : TupS H H' := fun c o z t => keep c o (by rintro rfl; rw [sB _ _ z] at nK; cases nK) (sB _ _ z)
    have it' := mono _ _ _ _ up hb'
    refine wpAny_bind (wpAny_attempt (wpAny_mono (run_in2 (Q := fun v H2 => Same H' H2 ∧ Da X.K H2 v (key b)) F hr hb I' ru (hsp _ _ b _ it' fun H2 v s2 hd => ⟨s2, hd⟩)) (fun uv s2 he => ?_) fun _ _ z => z))
    obtain ⟨v, H2, I2', rv', s2', hd⟩ := he
    try dsimp only
    have atK2 := s2' _ _ atK
    obtain ⟨zk, kits, n, rk, gk⟩ := lstAt I2' atK2
    have lk : ks.length = j := by
      have := Paired.length pk
      rw [List.length_take] at this
      omega
    obtain ⟨c2, hc2⟩ : ∃ c2, (s2.heap.update kS (Obj.mapSeq (·.push uv))).get? kS = some (seqObj "list" (kits.toArray.push uv) c2) := ⟨_, get?_update_seq gk (·.push uv)⟩
    have lk2 : kits.toArray.size = j := by rw [List.size_toArray, ← rk.length, lk]
    refine wpAny_bind (listUpdate_at gk rfl ?_ (by rw [lk2]; omega) (by show (kits.toArray.push uv).size ≤ _; rw [Array.size_push, lk2]; omega))
    have e9 : kits.toArray.push uv = (kits ++ [uv]).toArray := by simp
    rw [e9] at hc2
    refine wpAny_pure ⟨rfl, _, ks ++ [v], d_write (ob := .lst (ks ++ [v])) I2' (by rw [atK2]; exact True.intro) (Heap.SameBut.update s2.heap kS (Obj.mapSeq (·.push uv))) ⟨_, hc2⟩ ⟨by rw [List.length_append, lk]; show j + 1 ≤ _; omega, kits ++ [uv], c2, rk.append (.cons rv' .nil), hc2⟩, fun c o hc z => ?_, upd_same, ?_⟩
    · rw [upd_ne hc]
      exact s2' _ _ (keep c o hc z)
    · rw [List.take_add_one, eb]
      exact Paired.snoc (Paired.mapP pk fun z d hz => Da.tupS (tS atK2) _ _ (fl d) (Da.same s2' _ _ hz)) (Da.tupS (tS atK2) _ _ (fl b) hd)
  case done =>
    rintro s' ⟨H', ks, I', keep, atK, pk⟩
    rw [Nat.zero_add, List.take_of_length_le (by omega)] at pk
    obtain ⟨zk, kits, n, rk, gk⟩ := lstAt I' atK
    obtain ⟨ga', _, _⟩ := (show ObjOk X.prog X.w H' s'.heap a (skA a e1) from I'.hok a _ (keep a _ (Ne.symm hka) aB))
    have ga' : s'.heap.get? a = some (seqObj "list" #[] e1) := ga'
    try dsimp only
    refine wpAny_bind (listItems_at gk rfl ?_)
    have lk : kits.length = its.length := by
      rw [← rk.length, Paired.length pk]
      omega
    have hk' : PySem.W.EachIs (fun u d => ∃ as, Reads s'.heap u d as) kits (bs.map key) := reads_each I' pk rk
    have hal : PySem.W.AllAlike (bs.map key) := PySem.W.AllAlike.of al
    have hr' := hr.un
    have S : PySem.W.SortsAt X.prog X.w X.A.in1.in1 s' (PySem.W.dataKind s'.heap (bs.map key)) kits.toArray.toList := by
      rw [List.toList_toArray]
      exact PySem.W.SortsAt.data hk' hal (PySem.W.Sortable.tuples tup) fun d hd => by
        obtain ⟨b, _, rfl⟩ := List.mem_map.mp hd
        have := dp b
        show X.A.units + 1 + 1 + (key b).depth < cLine
        omega
    · refine sk_end gk ga' hka S (by rw [List.size_toArray, lk]) hZ fun tk => ⟨rfl, ?_⟩
      rw [List.toList_toArray]
      have ko : PySem.W.KeyedOut false (bs.map key) its (PySem.W.sortVals (PySem.W.dataKind s'.heap (bs.map key)) false kits its) := ⟨s'.heap, kits, hal, rfl, hk'⟩
      have ol : (PySem.W.sortVals (PySem.W.dataKind s'.heap (bs.map key)) false kits its).length = its.length := PySem.W.sortVals_length false lk
      generalize PySem.W.sortVals (PySem.W.dataKind s'.heap (bs.map key)) false kits its = out at ko ol
      have up : TupS H H' := fun c o z t => keep c o (by rintro rfl; rw [sB _ _ z] at nK; cases nK) (sB _ _ z)
      obtain ⟨ys, ry, py⟩ := it_each (PySem.W.keyedOut_each key ko (each_it (Paired.mapP pr fun v b h => mono _ _ _ _ up h) rits))
      have g1 := get?_update_seq gk fun _ => (#[] : Array Value)
      have I4 : Inv X pn sg (upd H' kS (.lst [])) { s' with heap := s'.heap.update kS (Obj.mapSeq fun _ => (#[] : Array Value)), toks := s'.toks } := d_write I' (by rw [atK]; exact True.intro) (Heap.SameBut.update s'.heap kS (Obj.mapSeq fun _ => (#[] : Array Value))) ⟨_, g1⟩ ⟨Nat.zero_le _, [], _, .nil, g1⟩
      have na1 : (s'.heap.update kS (Obj.mapSeq fun _ => (#[] : Array Value))).get? a = some (seqObj "list" #[] e1) := ((Heap.SameBut.update s'.heap kS (Obj.mapSeq fun _ => (#[] : Array Value))).2 a hka.symm).trans ga'
      have g2 := get?_update_seq na1 fun _ => out.toArray
      have atA : upd H' kS (.lst []) a = some (skA a e1) := by
        rw [upd_ne hka.symm]
        exact keep a _ (Ne.symm hka) aB
      have I5 : Inv X pn sg (upd (upd H' kS (.lst [])) a (.lst ys)) { s' with heap := skHeap s'.heap kS a out, toks := tk } := d_write (s := { s' with heap := s'.heap.update kS (Obj.mapSeq fun _ => (#[] : Array Value)), toks := s'.toks }) (ob := .lst ys) (t' := tk) I4 (by rw [atA]; exact True.intro) (Heap.SameBut.update (s'.heap.update kS (Obj.mapSeq fun _ => (#[] : Array Value))) a (Obj.mapSeq fun _ => out.toArray)) ⟨_, g2⟩ ⟨by rw [ry.length, ol]; exact hZ, out, _, ry, g2⟩
      refine ⟨.ref a, _, I5, rfl, q _ a ys (fun c o z => ?_) nA upd_same (Paired.mapP py fun v b h => mono _ _ _ _ ?_ h)⟩
      · rw [upd_ne (ne_of_none z nA), upd_ne (show c ≠ kS by rintro rfl; rw [sB _ _ z] at nK; cases nK)]
        exact keep c o (by rintro rfl; rw [sB _ _ z] at nK; cases nK) (sB _ _ z)
      · exact (tS atK).trans (tupS_mut atA (fun _ z => nomatch z) fun _ _ z => nomatch z)
end
end Jv
namespace Jv
open PySem PySem.Spec PyProof.Rows L2
/-! ### tuples of texts -/
def within (xs ys : List Str) : Bool := decide (ys.length ≤ xs.length) && decide (xs.drop (xs.length - ys.length) = ys)
def below (xs ys : List Str) : Bool := decide (xs.take ys.length = ys)
theorem eqvAll_strs : ∀ xs ys : List Str, PyData.eqvAll (xs.map PyData.str) (ys.map PyData.str) = decide (xs = ys)
  | [], [] => rfl
  | [], y :: ys => rfl
  | x :: xs, [] => rfl
  | x :: xs, y :: ys => by
    show (PyData.eqv (.str x) (.str y) && PyData.eqvAll (xs.map PyData.str) (ys.map PyData.str)) = _
    rw [eqvAll_strs xs ys]
    show ((x == y) && decide (xs = ys)) = _
    by_cases h : x = y
    · subst h
      simp
    · have : (x == y) = false := by simpa using h
      rw [this]
      simp [h]
theorem eqv_strs (xs ys : List Str) : PyData.eqv (.tuple (xs.map .str)) (.tuple (ys.map .str)) = decide (xs = ys) := eqvAll_strs xs ys
theorem canLay_strs : ∀ xs : List Str, (∀ x ∈ xs, PyData.strOk x = true) → PyData.canLayAll0 (xs.map PyData.str) = true
  | [], _ => rfl
  | x :: xs, h => by
    show (PyData.strOk x && PyData.canLayAll0 (xs.map PyData.str)) = true
    rw [h x List.mem_cons_self, canLay_strs xs fun y hy => h y (List.mem_cons_of_mem _ hy)]
    rfl
theorem depth_strs : ∀ xs : List Str, PyData.depthAll (xs.map PyData.str) = 0
  | [] => rfl
  | x :: xs => by
    show max 0 (PyData.depthAll (xs.map PyData.str)) = 0
    rw [depth_strs xs]
    rfl
theorem shaped_strs {xs : List Str} (h : ∀ x ∈ xs, PyData.strOk x = true) : SeqAt.shaped (.tuple (xs.map .str)) = true := by
  show (PyData.canLayAll0 (xs.map PyData.str) && decide (PyData.depthAll (xs.map PyData.str) + 1 ≤ 64)) = true
  rw [canLay_strs xs h, depth_strs xs]
  rfl
theorem cut_from (xs : List V) {k : Nat} (h : k ≤ xs.length) : cutV xs (some (k : Int)) none = xs.drop k := by
  unfold cutV
  rw [HT.sIx_nat, HT.sIx_none, Nat.min_eq_left h]
  exact List.take_of_length_le (by rw [List.length_drop]; exact Nat.le_refl _)
theorem cut_to (xs : List V) (k : Nat) : cutV xs none (some (k : Int)) = xs.take k := by
  unfold cutV
  rw [HT.sIx_nat, HT.sIx_none]
  show ((xs.drop 0).take (min k xs.length - 0)) = _
  rw [List.drop_zero, Nat.sub_zero]
  by_cases h : k ≤ xs.length
  · rw [Nat.min_eq_left h]
  · rw [Nat.min_eq_right (by omega), List.take_of_length_le (Nat.le_refl _), List.take_of_length_le (by omega)]
theorem within_iff (xs ys : List Str) : within xs ys = true ↔ ∀ k, k < ys.length → k < xs.length ∧ xs[xs.length - 1 - k]? = ys[ys.length - 1 - k]? := by
  unfold within
  rw [Bool.and_eq_true, decide_eq_true_eq, decide_eq_true_eq]
  constructor
  · rintro ⟨h1, h2⟩ k hk
    refine ⟨by omega, ?_⟩
    have e : xs[xs.length - 1 - k]? = (xs.drop (xs.length - ys.length))[ys.length - 1 - k]? := by
      rw [List.getElem?_drop]
      congr 1
      omega
    rw [e, h2]
  · intro h
    have h1 : ys.length ≤ xs.length := by
      by_cases z : ys.length = 0
      · omega
      · have := (h (ys.length - 1) (by omega)).1
        omega
    refine ⟨h1, List.ext_getElem? fun i => ?_⟩
    rw [List.getElem?_drop]
    by_cases hi : i < ys.length
    · have := (h (ys.length - 1 - i) (by omega)).2
      rw [show xs.length - 1 - (ys.length - 1 - i) = xs.length - ys.length + i by omega, show ys.length - 1 - (ys.length - 1 - i) = i by omega] at this
      exact this
    · rw [List.getElem?_eq_none (by omega), List.getElem?_eq_none (by omega)]
theorem below_rev (xs ys : List Str) : below xs ys = within xs.reverse ys.reverse := by
  unfold below within
  rw [List.length_reverse, List.length_reverse, List.drop_reverse]
  by_cases h : ys.length ≤ xs.length
  · rw [decide_eq_true h, Bool.true_and, show xs.length - (xs.length - ys.length) = ys.length by omega]
    by_cases e : xs.take ys.length = ys
    · rw [decide_eq_true e, decide_eq_true (by rw [e])]
    · rw [decide_eq_false e, decide_eq_false fun z => e (List.reverse_inj.mp z)]
  · rw [decide_eq_false h, Bool.false_and]
    refine decide_eq_false fun z => ?_
    have := congrArg List.length z
    rw [List.length_take] at this
    omega
theorem lenStrs (xs : List Str) : ((xs.map V.str).length : Int) = (xs.length : Int) := by rw [List.length_map]
/-- a tuple of texts that stands in the heap -/
theorem da_strs {K : PySem.W.Frag} {H : Hp} {v : V} {xs : List Str} (h : Da K H v (.tuple (xs.map .str))) : ∃ a, v = .ref a ∧ SqT K H a (xs.map V.str) ∧ xs.length ≤ 1000 := by
  cases h with
  | tup h1 h2 hz =>
    have e := ofStrs h2
    subst e
    exact ⟨_, rfl, h1, by rw [List.length_map] at hz; exact hz⟩
theorem da_strs_len {K : PySem.W.Frag} {H : Hp} : ∀ {xs : List Str} {vs : List V}, DaAll K H vs (xs.map .str) → ∀ x ∈ xs, x.length ≤ 1000
  | [], _, _ => fun x hx => by cases hx
  | y :: ys, _, h => by
    have h : DaAll K H _ (.str y :: ys.map .str) := h
    cases h with
    | cons h1 h2 =>
      intro x hx
      rcases List.mem_cons.mp hx with e | e
      · subst e
        cases h1 with
        | str _ z => exact z
      · exact da_strs_len h2 x e
end Jv
/-! sites as the document tells them: addresses, writes, pages; their keys and effects -/
namespace Jv
open PySem PySem.Spec PyProof.Rows L2
structure Ad where
  host : List Str
  path : List Str
  sec : Bool
structure Wr where
  name : Str
  val : Option Str
  dom : Option (List Str)
  fold : Option (List Str)
  grd : Bool
structure Pg where
  ad : Ad
  ws : List Wr
def optS : Option Str → PyData
  | none => .none
  | some x => .str x
def optT : Option (List Str) → PyData
  | none => .none
  | some d => .tuple (d.map .str)
def optV : Option Str → V
  | none => .non
  | some x => .str x
def Ad.py (a : Ad) : PyData := .tuple [.tuple (a.host.map .str), .tuple (a.path.map .str), .bool a.sec]
def Wr.py (w : Wr) : PyData := .tuple [.str w.name, optS w.val, optT w.dom, optT w.fold, .bool w.grd]
def Pg.py (p : Pg) : PyData := .tuple [p.ad.py, .tuple (p.ws.map Wr.py)]
def sitePy (s : List Pg) : PyData := .tuple (s.map Pg.py)
def okStrs (xs : List Str) : Prop := ∀ x ∈ xs, PyData.strOk x = true
def Ad.Ok (a : Ad) : Prop := okStrs a.host ∧ okStrs a.path
def Wr.Ok (w : Wr) : Prop := PyData.strOk w.name = true ∧ (∀ x, w.val = some x → PyData.strOk x = true) ∧ (∀ d, w.dom = some d → okStrs d) ∧ ∀ d, w.fold = some d → okStrs d
def Pg.Ok (p : Pg) : Prop := p.ad.Ok ∧ p.ws.length ≤ 5 ∧ ∀ w ∈ p.ws, w.Ok
def SiteOk (s : List Pg) : Prop := s.length ≤ 5 ∧ ∀ p ∈ s, p.Ok
/-! ### keys and effects -/
def takenM (a : Ad) (w : Wr) : Bool := !(w.grd && !a.sec) && (match w.dom with
  | none => true
  | some d => within a.host d)
def keyM (a : Ad) (w : Wr) : Ky := ⟨w.name, w.dom.getD a.host, w.fold.getD a.path.dropLast, w.dom.isNone⟩
/-- what a page has taken: the key, the value, guarded -/
def takenL (a : Ad) : List Wr → List (Ky × Option Str × Bool)
  | [] => []
  | w :: ws => if takenM a w then (keyM a w, w.val, w.grd) :: takenL a ws else takenL a ws
theorem takenL_len (a : Ad) : ∀ ws : List Wr, (takenL a ws).length ≤ ws.length
  | [] => Nat.le_refl _
  | w :: ws => by
    have := takenL_len a ws
    unfold takenL
    split
    · rw [List.length_cons, List.length_cons]
      omega
    · rw [List.length_cons]
      omega
theorem takenL_app (a : Ad) : ∀ xs ys : List Wr, takenL a (xs ++ ys) = takenL a xs ++ takenL a ys
  | [], _ => rfl
  | w :: ws, ys => by
    show (if takenM a w then (keyM a w, w.val, w.grd) :: takenL a (ws ++ ys) else takenL a (ws ++ ys)) = (if takenM a w then (keyM a w, w.val, w.grd) :: takenL a ws else takenL a ws) ++ takenL a ys
    rw [takenL_app a ws ys]
    split <;> rfl
/-! ### as they stand -/
variable {K : PySem.W.Frag} {H : Hp} {v : V}
theorem da_cons {vs : List V} {d : PyData} {ds : List PyData} (h : DaAll K H vs (d :: ds)) : ∃ x r, vs = x :: r ∧ Da K H x d ∧ DaAll K H r ds := by
  cases h with
  | cons h1 h2 => exact ⟨_, _, rfl, h1, h2⟩
theorem da_nil {vs : List V} (h : DaAll K H vs []) : vs = [] := by
  cases h
  rfl
theorem da_bl {b : Bool} (h : Da K H v (.bool b)) : v = .bl b := by
  cases h
  rfl
theorem da_str {x : Str} (h : Da K H v (.str x)) : v = .str x := by
  cases h
  rfl
theorem da_ad {a : Ad} (h : Da K H v a.py) : ∃ b x y, v = .ref b ∧ SqT K H b [x, y, .bl a.sec] ∧ Da K H x (.tuple (a.host.map .str)) ∧ Da K H y (.tuple (a.path.map .str)) := by
  have h : Da K H v (.tuple [.tuple (a.host.map .str), .tuple (a.path.map .str), .bool a.sec]) := h
  cases h with
  | tup h1 h2 _ =>
    obtain ⟨x1, r1, rfl, p1, g1⟩ := da_cons h2
    obtain ⟨x2, r2, rfl, p2, g2⟩ := da_cons g1
    obtain ⟨x3, r3, rfl, p3, g3⟩ := da_cons g2
    have e3 := da_bl p3
    subst e3
    have e4 := da_nil g3
    subst e4
    exact ⟨_, _, _, rfl, h1, p1, p2⟩
theorem da_optS {o : Option Str} (h : Da K H v (optS o)) : v = optV o := by
  cases o with
  | none =>
    have h : Da K H v .none := h
    cases h
    rfl
  | some x =>
    have h : Da K H v (.str x) := h
    cases h
    rfl
theorem da_wr {w : Wr} (h : Da K H v w.py) : ∃ b x y, v = .ref b ∧ SqT K H b [.str w.name, optV w.val, x, y, .bl w.grd] ∧ Da K H x (optT w.dom) ∧ Da K H y (optT w.fold) := by
  have h : Da K H v (.tuple [.str w.name, optS w.val, optT w.dom, optT w.fold, .bool w.grd]) := h
  cases h with
  | tup h1 h2 _ =>
    obtain ⟨x1, r1, rfl, p1, g1⟩ := da_cons h2
    obtain ⟨x2, r2, rfl, p2, g2⟩ := da_cons g1
    obtain ⟨x3, r3, rfl, p3, g3⟩ := da_cons g2
    obtain ⟨x4, r4, rfl, p4, g4⟩ := da_cons g3
    obtain ⟨x5, r5, rfl, p5, g5⟩ := da_cons g4
    have e1 := da_str p1
    subst e1
    have e2 := da_optS p2
    subst e2
    have e5 := da_bl p5
    subst e5
    have e6 := da_nil g5
    subst e6
    exact ⟨_, _, _, rfl, h1, p3, p4⟩
theorem da_pg {p : Pg} (h : Da K H v p.py) : ∃ b x y, v = .ref b ∧ SqT K H b [x, y] ∧ Da K H x p.ad.py ∧ Da K H y (.tuple (p.ws.map Wr.py)) := by
  have h : Da K H v (.tuple [p.ad.py, .tuple (p.ws.map Wr.py)]) := h
  cases h with
  | tup h1 h2 _ =>
    obtain ⟨x1, r1, rfl, p1, g1⟩ := da_cons h2
    obtain ⟨x2, r2, rfl, p2, g2⟩ := da_cons g1
    have e4 := da_nil g2
    subst e4
    exact ⟨_, _, _, rfl, h1, p1, p2⟩
theorem da_seq {α : Type} {f : α → PyData} {l : List α} (h : Da K H v (.tuple (l.map f))) : ∃ b xs, v = .ref b ∧ SqT K H b xs ∧ xs.length = l.length ∧ DaAll K H xs (l.map f) := by
  cases h with
  | tup h1 h2 _ => exact ⟨_, _, rfl, h1, by rw [DaAll.len h2, List.length_map], h2⟩
theorem da_nth {α : Type} {f : α → PyData} {l : List α} {xs : List V} {i : Nat} {x : V} (h : DaAll K H xs (l.map f)) (e : xs[i]? = some x) : ∃ a, l[i]? = some a ∧ Da K H x (f a) := by
  obtain ⟨d, e1, e2⟩ := DaAll.get h e
  rw [List.getElem?_map] at e1
  cases q : l[i]? with
  | none =>
    rw [q] at e1
    cases e1
  | some a =>
    rw [q] at e1
    cases e1
    exact ⟨a, rfl, e2⟩
/-- (key, value, guarded), one by one -/
def TwAt (K : PySem.W.Frag) (H : Hp) (x : V) (t : Ky × Option Str × Bool) : Prop := ∃ b c, x = .ref b ∧ SqT K H b [.ref c, optV t.2.1, .bl t.2.2] ∧ KyAt K H c t.1
theorem TwAt.same {H' : Hp} {x : V} {t : Ky × Option Str × Bool} (s : Same H H') (h : TwAt K H x t) : TwAt K H' x t := by
  obtain ⟨b, c, e, h1, h2⟩ := h
  exact ⟨b, c, e, sqT_same s h1, h2.same s⟩
theorem TwAt.tupS {H' : Hp} {x : V} {t : Ky × Option Str × Bool} (s : TupS H H') (h : TwAt K H x t) : TwAt K H' x t := by
  obtain ⟨b, c, e, h1, h2⟩ := h
  exact ⟨b, c, e, s.sq h1, h2.tupS s⟩
theorem tupS_lst {D : Addr} {acc : List V} {o : HO} (d : H D = some (.lst acc)) : TupS H (upd H D o) := fun b u e t => by
  have n : b ≠ D := by
    rintro rfl
    rw [d] at e
    cases e
    rcases t with ⟨ys, t⟩ | ⟨y1, y2, t⟩ <;> cases t
  rw [upd_ne n]
  exact e
abbrev TwAll (K : PySem.W.Frag) (H : Hp) : List V → List (Ky × Option Str × Bool) → Prop := Paired (TwAt K H)
theorem TwAll.same {H' : Hp} {xs : List V} {ts : List (Ky × Option Str × Bool)} (s : Same H H') (h : TwAll K H xs ts) : TwAll K H' xs ts := Paired.mapP h fun _ _ z => z.same s
theorem TwAll.tupS {H' : Hp} {xs : List V} {ts : List (Ky × Option Str × Bool)} (s : TupS H H') (h : TwAll K H xs ts) : TwAll K H' xs ts := Paired.mapP h fun _ _ z => z.tupS s
theorem TwAll.snoc {xs : List V} {ts : List (Ky × Option Str × Bool)} {x : V} {t : Ky × Option Str × Bool} (h : TwAll K H xs ts) (g : TwAt K H x t) : TwAll K H (xs ++ [x]) (ts ++ [t]) := Paired.snoc h g
end Jv
/-! jars as the document tells them -/
namespace Jv
open PySem PySem.Spec PyProof.Rows L2
/-- what is kept -/
structure Kp where
  key : Ky
  val : Str
  grd : Bool
  deriving DecidableEq
def Kp.py (k : Kp) : PyData := .tuple [k.key.py, .str k.val, .bool k.grd]
def jarPy (js : List Kp) : PyData := .tuple (js.map Kp.py)
/-- by what the kept ones ascend -/
def placePy (k : Ky) : PyData := .tuple [.str k.name, .int (-(k.fold.length : Int)), .tuple (k.fold.map .str)]
def jarSort (js : List Kp) : List Kp := js.mergeSort (PySem.W.dataLe false fun k => placePy k.key)
/-- the kept ones by age -/
abbrev Tab := List (Ky × Str × Bool)
def doW (t : Tab) (w : Ky × Option Str × Bool) : Tab := match w.2.1 with
  | none => t.filter fun p => decide (p.1 ≠ w.1)
  | some v => putE t w.1 (v, w.2.2)
def doWs (t : Tab) (ws : List (Ky × Option Str × Bool)) : Tab := ws.foldl doW t
def Tab.kp (p : Ky × Str × Bool) : Kp := ⟨p.1, p.2.1, p.2.2⟩
def kpTab (k : Kp) : Ky × Str × Bool := (k.key, k.val, k.grd)
def jarOfT (t : Tab) : List Kp := jarSort (t.map Tab.kp)
def jarAfterM (js : List Kp) (ws : List (Ky × Option Str × Bool)) : List Kp := jarOfT (doWs (js.foldl (fun t k => putE t k.key (k.val, k.grd)) []) ws)
def takenP (p : Pg) : List (Ky × Option Str × Bool) := takenL p.ad p.ws
def rowTab (s : List Pg) (t : Tab) (row : List Nat) : Tab := row.foldl (fun t n => match s[n]? with
  | some p => doWs t (takenP p)
  | none => t) t
def behindM (s : List Pg) (row : List Nat) : List Kp := jarOfT (rowTab s [] row)
def goesM (k : Kp) (a : Ad) : Bool := !(k.grd && !a.sec) && (decide (a.host = k.key.dom) || (!k.key.alone && within a.host k.key.dom)) && below a.path k.key.fold
def sentM (js : List Kp) (a : Ad) : List (Str × Str) := (js.filter fun k => goesM k a).map fun k => (k.key.name, k.val)
def sentPy (l : List (Str × Str)) : PyData := .tuple (l.map fun p => .tuple [.str p.1, .str p.2])
def readM (js : List Kp) (a : Ad) (n : Str) : Option Str := ((sentM js a).find? fun p => decide (p.1 = n)).map (·.2)
theorem jarSort_perm (js : List Kp) : (jarSort js).Perm js := List.mergeSort_perm _ _
theorem place_alike (a b : Ky) : PySem.W.alike (placePy a) (placePy b) = true := by
  unfold placePy
  simp [PySem.W.alike, PySem.W.alikeAll, alike_texts]
theorem place_flat (a : Ky) : flat (placePy a) = true := by
  show flatAll [.str a.name, .int (-(a.fold.length : Int)), .tuple (a.fold.map .str)] = true
  rw [flatAll, flatAll, flatAll, flat_strs]
  rfl
theorem place_depth (a : Ky) : (placePy a).depth ≤ 60 := by
  unfold placePy
  simp [PyData.depth, PyData.depthAll, pdepth_texts]
theorem ky_flat (a : Ky) : flat a.py = true := by
  show flatAll [.str a.name, .tuple (a.dom.map .str), .tuple (a.fold.map .str), .bool a.alone] = true
  rw [flatAll, flatAll, flatAll, flatAll, flat_strs, flat_strs]
  rfl
theorem kp_flat (k : Kp) : flat k.py = true := by
  show flatAll [k.key.py, .str k.val, .bool k.grd] = true
  rw [flatAll, flatAll, flatAll, ky_flat]
  rfl
theorem jar_flat (js : List Kp) : flat (jarPy js) = true := by
  show flatAll (js.map Kp.py) = true
  refine flatAll_of fun d hd => ?_
  obtain ⟨k, _, rfl⟩ := List.mem_map.mp hd
  exact kp_flat k
variable {K : PySem.W.Frag} {H : Hp} {v : V}
/-- a key by what is read of it, with bounds -/
structure Ky.Sz (k : Ky) : Prop where
  n : k.name.length ≤ 1000
  d : k.dom.length ≤ 1000 ∧ ∀ x ∈ k.dom, x.length ≤ 1000
  f : k.fold.length ≤ 1000 ∧ ∀ x ∈ k.fold, x.length ≤ 1000
theorem KyAt.da {a : Addr} {k : Ky} (h : KyAt K H a k) (z : k.Sz) : Da K H (.ref a) k.py := by
  obtain ⟨b, c, h1, h2, h3⟩ := h.ex
  exact .tup h1 (.cons (.str _ z.n) (.cons (.tup h2 (daStrs _ z.d.2) (by rw [List.length_map]; exact z.d.1)) (.cons (.tup h3 (daStrs _ z.f.2) (by rw [List.length_map]; exact z.f.1)) (.cons (.bl _) .nil)))) (by show 4 ≤ 1000; decide)
theorem daStr_len {x : Str} (h : Da K H v (.str x)) : x.length ≤ 1000 := by
  cases h with
  | str _ hx => exact hx
theorem daStrs_len : ∀ {xs : List Str} {vs : List V}, DaAll K H vs (xs.map .str) → ∀ x ∈ xs, x.length ≤ 1000
  | [], _, _ => fun x hx => by cases hx
  | y :: ys, _, h => fun x hx => by
    have h : DaAll K H _ (.str y :: ys.map .str) := h
    cases h with
    | cons h1 h2 =>
      rcases List.mem_cons.mp hx with rfl | hx
      · exact daStr_len h1
      · exact daStrs_len h2 x hx
theorem da_texts {xs : List Str} (h : Da K H v (.tuple (xs.map .str))) : ∃ b, v = .ref b ∧ SqT K H b (xs.map V.str) ∧ xs.length ≤ 1000 ∧ ∀ x ∈ xs, x.length ≤ 1000 := by
  cases h with
  | tup h1 h2 hz =>
    have l := daStrs_len h2
    have e := ofStrs h2
    subst e
    exact ⟨_, rfl, h1, by simpa using hz, l⟩
theorem da_ky {k : Ky} (h : Da K H v k.py) : ∃ a, v = .ref a ∧ KyAt K H a k ∧ k.Sz := by
  have h : Da K H v (.tuple [.str k.name, .tuple (k.dom.map .str), .tuple (k.fold.map .str), .bool k.alone]) := h
  cases h with
  | tup h1 h2 _ =>
    obtain ⟨x1, r1, rfl, p1, g1⟩ := da_cons h2
    obtain ⟨x2, r2, rfl, p2, g2⟩ := da_cons g1
    obtain ⟨x3, r3, rfl, p3, g3⟩ := da_cons g2
    obtain ⟨x4, r4, rfl, p4, g4⟩ := da_cons g3
    have e5 := da_nil g4
    subst e5
    have z1 := daStr_len p1
    have e1 := da_str p1
    subst e1
    obtain ⟨b, rfl, s2, z2⟩ := da_texts p2
    obtain ⟨c, rfl, s3, z3⟩ := da_texts p3
    have e4 := da_bl p4
    subst e4
    exact ⟨_, rfl, ⟨b, c, h1, s2, s3⟩, z1, z2, z3⟩
/-- a kept one at b -/
def KpAt (K : PySem.W.Frag) (H : Hp) (x : V) (k : Kp) : Prop := ∃ b a, x = .ref b ∧ SqT K H b [.ref a, .str k.val, .bl k.grd] ∧ KyAt K H a k.key ∧ k.key.Sz ∧ k.val.length ≤ 1000
theorem da_kp {k : Kp} (h : Da K H v k.py) : KpAt K H v k := by
  have h : Da K H v (.tuple [k.key.py, .str k.val, .bool k.grd]) := h
  cases h with
  | tup h1 h2 _ =>
    obtain ⟨x1, r1, rfl, p1, g1⟩ := da_cons h2
    obtain ⟨x2, r2, rfl, p2, g2⟩ := da_cons g1
    obtain ⟨x3, r3, rfl, p3, g3⟩ := da_cons g2
    have e5 := da_nil g3
    subst e5
    obtain ⟨a, rfl, ka, kz⟩ := da_ky p1
    have z2 := daStr_len p2
    have e2 := da_str p2
    subst e2
    have e3 := da_bl p3
    subst e3
    exact ⟨_, a, rfl, h1, ka, kz, z2⟩
theorem KpAt.da {k : Kp} (h : KpAt K H v k) : Da K H v k.py := by
  obtain ⟨b, a, rfl, h1, h2, h3, h4⟩ := h
  exact .tup h1 (.cons (h2.da h3) (.cons (.str _ h4) (.cons (.bl _) .nil))) (by show 3 ≤ 1000; decide)
theorem KpAt.tupS {H' : Hp} {k : Kp} (s : TupS H H') (h : KpAt K H v k) : KpAt K H' v k := by
  obtain ⟨b, a, e, h1, h2, h3⟩ := h
  exact ⟨b, a, e, s.sq h1, h2.tupS s, h3⟩
theorem kps_da : ∀ {xs : List V} {js : List Kp}, Paired (KpAt K H) xs js → DaAll K H xs (js.map Kp.py)
  | _, _, .nil => .nil
  | _, _, .cons h t => .cons h.da (kps_da t)
theorem da_kps : ∀ {js : List Kp} {xs : List V}, DaAll K H xs (js.map Kp.py) → Paired (KpAt K H) xs js
  | [], _, h => by
    have h : DaAll K H _ [] := h
    cases h
    exact .nil
  | j :: js, _, h => by
    have h : DaAll K H _ (j.py :: js.map Kp.py) := h
    cases h with
    | cons h1 h2 => exact .cons (da_kp h1) (da_kps h2)
theorem da_jar {js : List Kp} (h : Da K H v (jarPy js)) : ∃ b xs, v = .ref b ∧ SqT K H b xs ∧ Paired (KpAt K H) xs js ∧ js.length ≤ 1000 := by
  have h : Da K H v (.tuple (js.map Kp.py)) := h
  cases h with
  | tup h1 h2 hz => exact ⟨_, _, rfl, h1, da_kps h2, by simpa using hz⟩
end Jv
/-! a dict from what is kept to (value, guarded), the elder ones first -/
namespace Jv
open PySem PySem.Spec PyProof.Rows L2
/-- a pair of a text and a truth value at v -/
def VgAt (K : PySem.W.Frag) (H : Hp) (v : V) (p : Str × Bool) : Prop := ∃ b, v = .ref b ∧ SqT K H b [.str p.1, .bl p.2]
theorem VgAt.tupS {K : PySem.W.Frag} {H H' : Hp} {v : V} {p : Str × Bool} (s : TupS H H') (h : VgAt K H v p) : VgAt K H' v p := by
  obtain ⟨b, e, h⟩ := h
  exact ⟨b, e, s.sq h⟩
abbrev TabPr (K : PySem.W.Frag) (H : Hp) : List (Ky × V) → Tab → Prop := Paired fun p q => p.1 = q.1 ∧ VgAt K H p.2 q.2
structure TabSz (t : Tab) : Prop where
  sz : ∀ q ∈ t, q.1.Sz ∧ q.2.1.length ≤ 1000
  nd : (t.map (·.1)).Nodup
structure TabAt (K : PySem.W.Frag) (P : Program) (w : World) (H : Hp) (d : Addr) (t : Tab) : Prop where
  ex : ∃ kvs, Nd K P w H d kvs ∧ TabPr K H kvs t
  ok : TabSz t
/-- all but d is as it was -/
def But1 (d : Addr) (H H' : Hp) : Prop := ∀ b o, b ≠ d → H b = some o → H' b = some o
theorem But1.refl (d : Addr) (H : Hp) : But1 d H H := fun _ _ _ h => h
theorem But1.trans {d : Addr} {H H1 H2 : Hp} (a : But1 d H H1) (b : But1 d H1 H2) : But1 d H H2 := fun x o h e => b x o h (a x o h e)
theorem Same.but1 {d : Addr} {H H1 : Hp} (a : Same H H1) : But1 d H H1 := fun x o _ e => a x o e
theorem But1.same {d : Addr} {H0 H H1 : Hp} (n : H0 d = none) (s : Same H0 H) (b : But1 d H H1) : Same H0 H1 := fun x o e => b x o (ne_of_none e n) (s _ _ e)
section
variable {K : PySem.W.Frag} {P : Program} {w : World} {H H' : Hp} {d : Addr}
theorem TabPr.keys {kvs : List (Ky × V)} {t : Tab} (h : TabPr K H kvs t) : kvs.map (·.1) = t.map (·.1) := by
  induction h with
  | nil => rfl
  | cons r t ih => rw [List.map_cons, List.map_cons, ih, r.1]
theorem TabPr.tupS {kvs : List (Ky × V)} {t : Tab} (s : TupS H H') (h : TabPr K H kvs t) : TabPr K H' kvs t := Paired.mapP h fun _ _ z => ⟨z.1, z.2.tupS s⟩
theorem Nd.tupB {kvs : List (Ky × V)} (h : Nd K P w H d kvs) (b : But1 d H H') : TupS H H' := fun x o e t => by
  refine b x o ?_ e
  rintro rfl
  obtain ⟨u, e1, n1⟩ := h.there
  obtain ⟨xs, e2, _⟩ := h.ex
  rw [e2] at e
  cases e
  rcases t with ⟨ys, t⟩ | ⟨y1, y2, t⟩ <;> cases t
theorem TabAt.same {t : Tab} (s : Same H H') (h : TabAt K P w H d t) : TabAt K P w H' d t := by
  obtain ⟨kvs, h1, h2⟩ := h.ex
  exact ⟨⟨kvs, h1.same s, h2.tupS (Same.tupS s)⟩, h.ok⟩
theorem TabAt.tupB {t : Tab} (h : TabAt K P w H d t) (b : But1 d H H') : TupS H H' := by
  obtain ⟨kvs, h1, _⟩ := h.ex
  exact h1.tupB b
theorem TabAt.there {t : Tab} (h : TabAt K P w H d t) : ∃ o, H d = some o := by
  obtain ⟨kvs, h1, _⟩ := h.ex
  obtain ⟨o, e, _⟩ := h1.there
  exact ⟨o, e⟩
theorem TabPr.get {kvs : List (Ky × V)} {t : Tab} (h : TabPr K H kvs t) {k : Ky} : getN kvs k = none → k ∉ t.map (·.1) := by
  induction h with
  | nil => exact fun _ m => by cases m
  | @cons p q ps qs r t ih =>
    intro e m
    unfold getN at e
    by_cases z : p.1 = k
    · rw [if_pos z] at e
      cases e
    · rw [if_neg z] at e
      rcases List.mem_cons.mp m with y | y
      · exact z (r.1.trans y.symm)
      · exact ih e y
theorem filter_all {t : Tab} {k : Ky} (h : k ∉ t.map (·.1)) : t.filter (fun p => decide (p.1 ≠ k)) = t := by
  refine List.filter_eq_self.mpr fun p hp => ?_
  refine decide_eq_true fun e => h ?_
  rw [← e]
  exact List.mem_map.mpr ⟨p, hp, rfl⟩
theorem TabPr.drop {kvs : List (Ky × V)} {t : Tab} (h : TabPr K H kvs t) (k : Ky) : TabPr K H (dropN kvs k) (t.filter fun p => decide (p.1 ≠ k)) := by
  unfold dropN
  induction h with
  | nil => exact .nil
  | @cons p q ps qs r t ih =>
    by_cases z : p.1 = k
    · rw [List.filter_cons_of_neg (by simp [z]), List.filter_cons_of_neg (by simp [← r.1, z])]
      exact ih
    · rw [List.filter_cons_of_pos (by simp [z]), List.filter_cons_of_pos (by simp [← r.1, z])]
      exact .cons r ih
theorem TabPr.put {kvs : List (Ky × V)} {t : Tab} (h : TabPr K H kvs t) {k : Ky} {v : V} {e : Str × Bool} (g : VgAt K H v e) : TabPr K H (putE kvs k v) (putE t k e) := by
  induction h with
  | nil => exact .cons ⟨rfl, g⟩ .nil
  | @cons p q ps qs r t ih =>
    unfold putE
    by_cases z : p.1 = k
    · rw [if_pos z, if_pos (r.1.symm.trans z)]
      exact .cons ⟨r.1, g⟩ t
    · rw [if_neg z, if_neg (fun y => z (r.1.trans y))]
      exact .cons r ih
theorem TabSz.drop {t : Tab} (h : TabSz t) (k : Ky) : TabSz (t.filter fun p => decide (p.1 ≠ k)) :=
  ⟨fun q hq => h.sz q (List.mem_filter.mp hq).1, h.nd.sublist (List.filter_sublist.map _)⟩
theorem putE_mem {t : Tab} {k : Ky} {e : Str × Bool} : ∀ q ∈ putE t k e, q ∈ t ∨ (q.1 = k ∧ q.2 = e) := by
  induction t with
  | nil => exact fun q hq => Or.inr (by rw [List.mem_singleton.mp hq]; exact ⟨rfl, rfl⟩)
  | cons p ps ih =>
    intro q hq
    unfold putE at hq
    by_cases z : p.1 = k
    · rw [if_pos z] at hq
      rcases List.mem_cons.mp hq with e | hq
      · exact Or.inr (by rw [e]; exact ⟨z, rfl⟩)
      · exact Or.inl (List.mem_cons_of_mem _ hq)
    · rw [if_neg z] at hq
      rcases List.mem_cons.mp hq with e | hq
      · exact Or.inl (by rw [e]; exact List.mem_cons_self)
      · exact (ih q hq).imp (List.mem_cons_of_mem _) id
theorem TabSz.put {t : Tab} (h : TabSz t) {k : Ky} {e : Str × Bool} (hk : k.Sz) (he : e.1.length ≤ 1000) : TabSz (putE t k e) := by
  refine ⟨fun q hq => ?_, putE_nodup h.nd _ _⟩
  rcases putE_mem q hq with m | ⟨m1, m2⟩
  · exact h.sz q m
  · rw [m1, m2]
    exact ⟨hk, he⟩
def wSz (x : Ky × Option Str × Bool) : Prop := x.1.Sz ∧ ∀ v, x.2.1 = some v → v.length ≤ 1000
theorem TabSz.doW {t : Tab} (h : TabSz t) {x : Ky × Option Str × Bool} (hx : wSz x) : TabSz (doW t x) := by
  obtain ⟨k, o, g⟩ := x
  cases o with
  | none => exact h.drop k
  | some v => exact h.put hx.1 (hx.2 v rfl)
theorem TabSz.doWs {ws : List (Ky × Option Str × Bool)} : ∀ {t : Tab}, TabSz t → (∀ x ∈ ws, wSz x) → TabSz (doWs t ws) := by
  induction ws with
  | nil => exact fun h _ => h
  | cons x ws ih => exact fun h hx => ih (h.doW (hx x List.mem_cons_self)) fun y hy => hx y (List.mem_cons_of_mem _ hy)
theorem doWs_snoc (t : Tab) (ws : List (Ky × Option Str × Bool)) (x : Ky × Option Str × Bool) : doWs t (ws ++ [x]) = doW (doWs t ws) x := by
  unfold doWs
  rw [List.foldl_append]
  rfl
theorem doWs_app (t : Tab) (ws us : List (Ky × Option Str × Bool)) : doWs t (ws ++ us) = doWs (doWs t ws) us := by
  unfold doWs
  rw [List.foldl_append]
theorem tab_len {t : Tab} {kvs : List (Ky × V)} (h : TabPr K H kvs t) : kvs.length = t.length := Paired.length h
theorem doW_len (t : Tab) (x : Ky × Option Str × Bool) : (doW t x).length ≤ t.length + 1 := by
  obtain ⟨k, o, g⟩ := x
  cases o with
  | none => exact Nat.le_succ_of_le (List.length_filter_le _ _)
  | some v =>
    show (putE t k (v, g)).length ≤ _
    have e : (putE t k (v, g)).length = ((putE t k (v, g)).map (·.1)).length := (List.length_map _).symm
    rw [e, putE_keys]
    split <;> simp
theorem doWs_len (ws : List (Ky × Option Str × Bool)) : ∀ t : Tab, (doWs t ws).length ≤ t.length + ws.length := by
  induction ws with
  | nil => exact fun t => Nat.le_refl _
  | cons x ws ih =>
    intro t
    have h1 := ih (doW t x)
    have h2 := doW_len t x
    show (doWs (doW t x) ws).length ≤ _
    rw [List.length_cons]
    omega
theorem doW_keys {t : Tab} {x : Ky × Option Str × Bool} : ∀ k ∈ (doW t x).map (·.1), k ∈ t.map (·.1) ∨ k = x.1 := by
  obtain ⟨k0, o, g⟩ := x
  intro k hk
  cases o with
  | none =>
    obtain ⟨q, hq, rfl⟩ := List.mem_map.mp hk
    exact Or.inl (List.mem_map.mpr ⟨q, (List.mem_filter.mp hq).1, rfl⟩)
  | some v =>
    have hk : k ∈ (putE t k0 (v, g)).map (·.1) := hk
    rw [putE_keys] at hk
    split at hk
    · exact Or.inl hk
    · rcases List.mem_append.mp hk with m | m
      · exact Or.inl m
      · exact Or.inr (List.mem_singleton.mp m)
theorem doWs_keys {ws : List (Ky × Option Str × Bool)} : ∀ {t : Tab}, ∀ k ∈ (doWs t ws).map (·.1), k ∈ t.map (·.1) ∨ k ∈ ws.map (·.1) := by
  induction ws with
  | nil => exact fun k hk => Or.inl hk
  | cons x ws ih =>
    intro t k hk
    rcases ih k hk with m | m
    · rcases doW_keys k m with m | m
      · exact Or.inl m
      · exact Or.inr (by rw [m]; exact List.mem_cons_self)
    · exact Or.inr (List.mem_cons_of_mem _ m)
theorem nodup_le : ∀ {l D : List Ky}, l.Nodup → (∀ x ∈ l, x ∈ D) → l.length ≤ D.length
  | [], _, _, _ => Nat.zero_le _
  | x :: l, D, h, s => by
    rw [List.nodup_cons] at h
    have m := s x List.mem_cons_self
    have h2 := nodup_le (D := D.erase x) h.2 fun y hy => by
      refine (List.mem_erase_of_ne ?_).mpr (s y (List.mem_cons_of_mem _ hy))
      rintro rfl
      exact h.1 hy
    rw [List.length_erase_of_mem m] at h2
    have : 0 < D.length := List.length_pos_of_mem m
    rw [List.length_cons]
    omega
theorem TwAt.ky {x : V} {t : Ky × Option Str × Bool} (h : TwAt K H x t) : ∃ b c, x = .ref b ∧ SqT K H b [.ref c, optV t.2.1, .bl t.2.2] ∧ KyAt K H c t.1 := h
theorem KpAt.sqS {v : V} {k : Kp} (s : ∀ b ys, SqT K H b ys → SqT K H' b ys) (h : KpAt K H v k) : KpAt K H' v k := by
  obtain ⟨b, a, e, h1, ⟨c, d, g1, g2, g3⟩, h3⟩ := h
  exact ⟨b, a, e, s _ _ h1, ⟨c, d, s _ _ g1, s _ _ g2, s _ _ g3⟩, h3⟩
def siteKs (s : List Pg) : List Ky := s.flatMap fun p => (takenP p).map (·.1)
theorem siteKs_len {s : List Pg} (h : SiteOk s) : (siteKs s).length ≤ 25 := by
  have all : ∀ l : List Pg, (∀ p ∈ l, p.ws.length ≤ 5) → (siteKs l).length ≤ 5 * l.length := by
    intro l
    induction l with
    | nil => exact fun _ => Nat.le_refl _
    | cons p l ih =>
      intro hl
      have h1 := ih fun q hq => hl q (List.mem_cons_of_mem _ hq)
      have h2 := takenL_len p.ad p.ws
      have h3 := hl p List.mem_cons_self
      unfold siteKs at h1 ⊢
      rw [List.flatMap_cons, List.length_append, List.length_map, List.length_cons]
      have h4 : (takenP p).length ≤ 5 := Nat.le_trans h2 h3
      omega
  have := all s fun p hp => (h.2 p hp).2.1
  have := h.1
  omega
theorem rowTab_snoc (s : List Pg) (t : Tab) (row : List Nat) (n : Nat) (p : Pg) (h : s[n]? = some p) : rowTab s t (row ++ [n]) = doWs (rowTab s t row) (takenP p) := by
  unfold rowTab
  rw [List.foldl_append, List.foldl_cons, List.foldl_nil, h]
theorem rowTab_keys {s : List Pg} {row : List Nat} : ∀ {t : Tab}, ∀ k ∈ (rowTab s t row).map (·.1), k ∈ t.map (·.1) ∨ k ∈ siteKs s := by
  induction row with
  | nil => exact fun k hk => Or.inl hk
  | cons n ns ih =>
    intro t k hk
    rcases ih k hk with m | m
    · dsimp only at m
      cases e : s[n]? with
      | none =>
        rw [e] at m
        exact Or.inl m
      | some p =>
        rw [e] at m
        rcases doWs_keys k m with m | m
        · exact Or.inl m
        · exact Or.inr (List.mem_flatMap.mpr ⟨p, List.mem_of_getElem? e, m⟩)
    · exact Or.inr m
theorem rowTab_len {s : List Pg} {row : List Nat} (hs : SiteOk s) (ok : TabSz (rowTab s [] row)) : (rowTab s [] row).length ≤ 25 := by
  have e : (rowTab s [] row).length = ((rowTab s [] row).map (·.1)).length := (List.length_map _).symm
  rw [e]
  refine Nat.le_trans (nodup_le ok.nd fun k hk => ?_) (siteKs_len hs)
  exact (rowTab_keys k hk).resolve_left fun m => (by cases m)
/-- the list of taken writes at v -/
def WrAt (K : PySem.W.Frag) (H : Hp) (v : V) (ts : List (Ky × Option Str × Bool)) : Prop := ∃ L xs, v = .ref L ∧ H L = some (.lst xs) ∧ TwAll K H xs ts
theorem WrAt.but {d : Addr} {v : V} {ts : List (Ky × Option Str × Bool)} (b : But1 d H H') (t : TupS H H') (n : ∀ L xs, v = .ref L → H L = some (.lst xs) → L ≠ d) (h : WrAt K H v ts) : WrAt K H' v ts := by
  obtain ⟨L, xs, e, h1, h2⟩ := h
  exact ⟨L, xs, e, b _ _ (n L xs e h1) h1, h2.tupS t⟩
theorem wSz_taken {a : Ad} {ws : List Wr} (ha : (∀ x ∈ a.host, x.length ≤ 1000) ∧ a.host.length ≤ 1000 ∧ (∀ x ∈ a.path, x.length ≤ 1000) ∧ a.path.length ≤ 1000)
    (hw : ∀ w ∈ ws, w.name.length ≤ 1000 ∧ (∀ x, w.val = some x → x.length ≤ 1000) ∧ (∀ l, w.dom = some l → l.length ≤ 1000 ∧ ∀ x ∈ l, x.length ≤ 1000) ∧ ∀ l, w.fold = some l → l.length ≤ 1000 ∧ ∀ x ∈ l, x.length ≤ 1000) : ∀ x ∈ takenL a ws, wSz x := by
  induction ws with
  | nil => exact fun x hx => by cases hx
  | cons y ws ih =>
    intro x hx
    have ih := ih fun z hz => hw z (List.mem_cons_of_mem _ hz)
    unfold takenL at hx
    split at hx
    · rcases List.mem_cons.mp hx with rfl | hx
      · obtain ⟨h1, h2, h3, h4⟩ := hw y List.mem_cons_self
        refine ⟨⟨h1, ?_, ?_⟩, h2⟩
        · show (y.dom.getD a.host).length ≤ 1000 ∧ ∀ x ∈ y.dom.getD a.host, x.length ≤ 1000
          cases e : y.dom with
          | none => exact ⟨ha.2.1, ha.1⟩
          | some l => exact h3 l e
        · show (y.fold.getD a.path.dropLast).length ≤ 1000 ∧ ∀ x ∈ y.fold.getD a.path.dropLast, x.length ≤ 1000
          cases e : y.fold with
          | none => exact ⟨by rw [Option.getD_none, List.length_dropLast]; omega, fun x hx => ha.2.2.1 x (List.dropLast_subset _ hx)⟩
          | some l => exact h4 l e
      · exact ih x hx
    · exact ih x hx
theorem wSz_page {v : V} {p : Pg} (h : Da K H v p.py) : ∀ x ∈ takenP p, wSz x := by
  obtain ⟨b, x, y, rfl, h1, h2, h3⟩ := da_pg h
  obtain ⟨c, ws, rfl, h4, nl, h5⟩ := da_seq h3
  obtain ⟨e, hx, hy, rfl, g1, g2, g3⟩ := da_ad h2
  obtain ⟨_, rfl, _, z1, z2⟩ := da_texts g2
  obtain ⟨_, rfl, _, z3, z4⟩ := da_texts g3
  refine wSz_taken ⟨z2, z1, z4, z3⟩ fun wr hw => ?_
  obtain ⟨i, hi⟩ := List.getElem?_of_mem hw
  obtain ⟨u, hu, hd⟩ := DaAll.getD h5 (i := i) (d := wr.py) (by rw [List.getElem?_map, hi]; rfl)
  have hd : Da K H u (.tuple [.str wr.name, optS wr.val, optT wr.dom, optT wr.fold, .bool wr.grd]) := hd
  cases hd with
  | tup q1 q2 _ =>
    obtain ⟨x1, r1, rfl, p1, k1⟩ := da_cons q2
    obtain ⟨x2, r2, rfl, p2, k2⟩ := da_cons k1
    obtain ⟨x3, r3, rfl, p3, k3⟩ := da_cons k2
    obtain ⟨x4, r4, rfl, p4, k4⟩ := da_cons k3
    refine ⟨daStr_len p1, fun x e => ?_, fun l e => ?_, fun l e => ?_⟩
    · rw [e] at p2
      exact daStr_len p2
    · rw [e] at p3
      obtain ⟨_, _, _, a1, a2⟩ := da_texts p3
      exact ⟨a1, a2⟩
    · rw [e] at p4
      obtain ⟨_, _, _, a1, a2⟩ := da_texts p4
      exact ⟨a1, a2⟩
/-- the dict as a list of what is kept -/
theorem tab_nil_at {p : Addr} : TabAt K P w (upd H p (NdO P w p [])) p [] := ⟨⟨[], nd_new, .nil⟩, fun q hq => (by cases hq), List.nodup_nil⟩
end
end Jv
/-! jars sorted by putting in one by one -/
namespace Jv
open PySem PySem.Spec PyProof.Rows L2
def kpLe (a b : Kp) : Bool := PySem.W.dataLe false (fun k : Kp => placePy k.key) a b
def insK (a : Kp) : List Kp → List Kp
  | [] => [a]
  | b :: bs => if kpLe a b then a :: b :: bs else b :: insK a bs
def sortK : List Kp → List Kp
  | [] => []
  | a :: as => insK a (sortK as)
theorem kpLe_trans (a b c : Kp) (h1 : kpLe a b = true) (h2 : kpLe b c = true) : kpLe a c = true :=
  (PySem.W.sortLe_total (PyProof.Rows.listOrd PyProof.Rows.itemOrd) false fun k : Kp => PySem.W.keyToks (placePy k.key)).trans a b c h1 h2
theorem kpLe_total (a b : Kp) : (kpLe a b || kpLe b a) = true := by
  rw [Bool.or_eq_true]
  exact (PySem.W.sortLe_total (PyProof.Rows.listOrd PyProof.Rows.itemOrd) false fun k : Kp => PySem.W.keyToks (placePy k.key)).total a b
theorem insK_at {a : Kp} : ∀ {l1 l2 : List Kp}, (∀ b ∈ l1, (!kpLe a b) = true) → (∀ b ∈ l2, kpLe a b = true) → insK a (l1 ++ l2) = l1 ++ a :: l2
  | [], [], _, _ => rfl
  | [], b :: bs, _, h => by
    show (if kpLe a b then a :: b :: bs else b :: insK a bs) = a :: b :: bs
    rw [if_pos (h b List.mem_cons_self)]
  | c :: l1, l2, h1, h2 => by
    have hc := h1 c List.mem_cons_self
    show (if kpLe a c then a :: c :: (l1 ++ l2) else c :: insK a (l1 ++ l2)) = c :: (l1 ++ a :: l2)
    rw [if_neg (by simpa using hc), insK_at (fun b hb => h1 b (List.mem_cons_of_mem _ hb)) h2]
theorem jarSort_K : ∀ js : List Kp, jarSort js = sortK js
  | [] => by
    show List.mergeSort [] _ = []
    exact List.mergeSort_nil
  | a :: as => by
    obtain ⟨l1, l2, e1, e2, h⟩ := List.mergeSort_cons (le := kpLe) kpLe_trans kpLe_total a as
    have e1 : jarSort (a :: as) = l1 ++ a :: l2 := e1
    have e2 : jarSort as = l1 ++ l2 := e2
    have s : (jarSort (a :: as)).Pairwise fun x y => kpLe x y = true := List.pairwise_mergeSort (le := kpLe) kpLe_trans kpLe_total _
    rw [e1, List.pairwise_append] at s
    show _ = insK a (sortK as)
    rw [← jarSort_K as, e1, e2, insK_at h fun b hb => (List.pairwise_cons.mp s.2.1).1 b hb]
def behindK (s : List Pg) (row : List Nat) : List Kp := sortK ((rowTab s [] row).map Tab.kp)
theorem behindM_K (s : List Pg) (row : List Nat) : behindM s row = behindK s row := jarSort_K _
def jarAfterK (js : List Kp) (ws : List (Ky × Option Str × Bool)) : List Kp := sortK ((doWs (js.foldl (fun t k => putE t k.key (k.val, k.grd)) []) ws).map Tab.kp)
theorem jarAfterM_K (js : List Kp) (ws : List (Ky × Option Str × Bool)) : jarAfterM js ws = jarAfterK js ws := jarSort_K _
end Jv
/-! what a reading makes of data, whatever the heap: the slots hold data, nothing that stands is changed -/
namespace Jv
open PySem PySem.Spec PyProof.Rows L2
abbrev Rho := List (Option PyData)
structure EnvD (K : PySem.W.Frag) (H : Hp) (sg : L2.St) (r : Rho) : Prop where
  at_ : ∀ (i : Nat) d, r[i]? = some (some d) → ∃ v, sg[i]? = some (some v) ∧ Da K H v d
  len : sg.length = r.length
section
variable {K : PySem.W.Frag} {r : Rho}
theorem EnvD.same {H H' : Hp} {sg : L2.St} (s : Same H H') (e : EnvD K H sg r) : EnvD K H' sg r :=
  ⟨fun i d h => let ⟨v, a, b⟩ := e.at_ i d h; ⟨v, a, Da.same s _ _ b⟩, e.len⟩
theorem EnvD.set {H : Hp} {sg : L2.St} {v : V} {d : PyData} (e : EnvD K H sg r) (i : Nat) (hv : Da K H v d) : EnvD K H (sg.set i (some v)) (r.set i (some d)) := by
  refine ⟨fun j d' h => ?_, by rw [List.length_set, List.length_set, e.len]⟩
  by_cases z : i = j
  · subst z
    have hl : i < r.length := by
      have := (List.getElem?_eq_some_iff.mp h).1
      rwa [List.length_set] at this
    rw [List.getElem?_set_self hl] at h
    cases h
    exact ⟨v, List.getElem?_set_self (by rw [e.len]; exact hl), hv⟩
  · rw [List.getElem?_set_ne z] at h
    obtain ⟨u, a, b⟩ := e.at_ j d' h
    exact ⟨u, by rw [List.getElem?_set_ne z]; exact a, b⟩
theorem EnvD.nil {H : Hp} : EnvD K H [] [] := ⟨fun i d h => by simp at h, rfl⟩
theorem EnvD.cons {H : Hp} {sg : L2.St} {v : V} {d : PyData} (h : Da K H v d) (e : EnvD K H sg r) : EnvD K H (some v :: sg) (some d :: r) := by
  refine ⟨fun i d' q => ?_, by rw [List.length_cons, List.length_cons, e.len]⟩
  cases i with
  | zero =>
    cases q
    exact ⟨v, rfl, h⟩
  | succ i => exact e.at_ i d' q
theorem EnvD.no {H : Hp} {sg : L2.St} (e : EnvD K H sg r) : EnvD K H (none :: sg) (none :: r) := by
  refine ⟨fun i d' q => ?_, by rw [List.length_cons, List.length_cons, e.len]⟩
  cases i with
  | zero => cases q
  | succ i => exact e.at_ i d' q
def EvR (K : PySem.W.Frag) (t : TE) (r : Rho) (d : PyData) : Prop := ∀ sg H, EnvD K H sg r → ∀ Q : VK, (∀ H' v, Same H H' → Da K H' v d → Q v H') → t sg H Q
def EvA (K : PySem.W.Frag) (t : TA) (r : Rho) (ds : List PyData) : Prop := ∀ sg H, EnvD K H sg r → ∀ Q : List V → Hp → Prop, (∀ H' vs, Same H H' → DaAll K H' vs ds → Q vs H') → t sg H Q
def EvT (K : PySem.W.Frag) (t : TT) (r : Rho) (b : Bool) : Prop := ∀ sg H, EnvD K H sg r → ∀ Q : Bool → Hp → Prop, (∀ H', Same H H' → Q b H') → t sg H Q
/-- the block ends by returning the data d -/
def RunR (K : PySem.W.Frag) (t : TS) (r : Rho) (d : PyData) : Prop := ∀ sg H (D : Ends), EnvD K H sg r → (∀ H' v, Same H H' → Da K H' v d → D.rt v H') → t D sg H
theorem run_start {t : TS} {D : Ends} {sg : L2.St} {H : Hp} {d : PyData} (r : Rho) (en : EnvD K H sg r) (q : ∀ H' v, Same H H' → Da K H' v d → D.rt v H') (h : RunR K t r d) : t D sg H := h sg H D en q
theorem EvR.to {t : TE} {d e : PyData} (h : EvR K t r d) (z : d = e) : EvR K t r e := z ▸ h
/-! ### expressions -/
theorem ev_var {i : Nat} {d : PyData} (h : r[i]? = some (some d)) : EvR K (tVar i) r d := fun sg H e Q q => let ⟨v, a, b⟩ := e.at_ i d h; ⟨v, a, q H v (Same.refl H) b⟩
theorem ev_str {x : Str} (h : x.length ≤ 1000) : EvR K (tC (.str x)) r (.str x) := fun sg H e Q q => q H _ (Same.refl H) (.str x h)
theorem ev_non : EvR K (tC .non) r .none := fun sg H e Q q => q H _ (Same.refl H) .non
theorem ev_bl {b : Bool} : EvR K (tC (.bl b)) r (.bool b) := fun sg H e Q q => q H _ (Same.refl H) (.bl b)
theorem ev_int {i : Int} : EvR K (tC (.int i)) r (.int i) := fun sg H e Q q => q H _ (Same.refl H) (.int i)
theorem eva_nil : EvA K tNil r [] := fun sg H e Q q => q H [] (Same.refl H) .nil
theorem eva_cons {t : TE} {u : TA} {d : PyData} {ds : List PyData} (h : EvR K t r d) (g : EvA K u r ds) : EvA K (tCons t u) r (d :: ds) := fun sg H e Q q =>
  h sg H e _ fun H1 v s1 hv => g sg H1 (e.same s1) _ fun H2 vs s2 hvs => q H2 (v :: vs) (s1.trans s2) (.cons (Da.same s2 _ _ hv) hvs)
theorem ev_tup {u : TA} {ds : List PyData} (h : EvA K u r ds) (l : ds.length ≤ 1000) : EvR K (tTup u) r (.tuple ds) := fun sg H e Q q =>
  h sg H e _ fun H1 vs s1 hvs => ⟨by rw [DaAll.len hvs]; exact Nat.le_trans l (by decide), fun p np => by
    have s2 : Same H1 (upd H1 p (.tup vs)) := fun b x z => by rw [upd_ne (ne_of_none z np)]; exact z
    exact q _ _ (s1.trans s2) (.tup (SqT.of upd_same) (DaAll.same s2 _ _ hvs) l)⟩
theorem ev_lst {u : TA} {ds : List PyData} (h : EvA K u r ds) (l : ds.length ≤ 1000) : EvR K (tLst u) r (.list ds) := fun sg H e Q q =>
  h sg H e _ fun H1 vs s1 hvs => ⟨by rw [DaAll.len hvs]; exact Nat.le_trans l (by decide), fun p np => by
    have s2 : Same H1 (upd H1 p (.lst vs)) := fun b x z => by rw [upd_ne (ne_of_none z np)]; exact z
    exact q _ _ (s1.trans s2) (.lst (SqL.of upd_same) (DaAll.same s2 _ _ hvs) l)⟩
theorem ev_eq {t u : TE} {d e : PyData} {b : Bool} (h : EvR K t r d) (g : EvR K u r e) (s1 : SeqAt.shaped d = true) (s2 : SeqAt.shaped e = true) (z : PyData.eqv d e = b) : EvR K (tOp (rEqA K) t u) r (.bool b) := fun sg H en Q q =>
  h sg H en _ fun H1 v k1 hv => g sg H1 (en.same k1) _ fun H2 w k2 hw => ⟨d, e, Da.same k2 _ _ hv, hw, s1, s2, by rw [z]; exact q H2 _ (k1.trans k2) (.bl b)⟩
theorem ev_ne {t u : TE} {d e : PyData} {b : Bool} (h : EvR K t r d) (g : EvR K u r e) (s1 : SeqAt.shaped d = true) (s2 : SeqAt.shaped e = true) (z : (!PyData.eqv d e) = b) : EvR K (tOp (rNeA K) t u) r (.bool b) := fun sg H en Q q =>
  h sg H en _ fun H1 v k1 hv => g sg H1 (en.same k1) _ fun H2 w k2 hw => ⟨d, e, Da.same k2 _ _ hv, hw, s1, s2, by rw [z]; exact q H2 _ (k1.trans k2) (.bl b)⟩
theorem lay_of {d : PyData} (s : SeqAt.shaped d = true) : d.canLay0 = true := (Bool.and_eq_true _ _ ▸ (show (d.canLay0 && decide (d.depth ≤ 64)) = true from s) : _ ∧ _).1
theorem ev_eqT {t u : TE} {d : PyData} (h : EvR K t r d) (g : EvR K u r d) (s : SeqAt.shaped d = true) : EvR K (tOp (rEqA K) t u) r (.bool true) := ev_eq h g s s (SeqAt.eqv_refl d (lay_of s))
theorem ev_neF {t u : TE} {d : PyData} (h : EvR K t r d) (g : EvR K u r d) (s : SeqAt.shaped d = true) : EvR K (tOp (rNeA K) t u) r (.bool false) := ev_ne h g s s (by rw [SeqAt.eqv_refl d (lay_of s)]; rfl)
theorem ev_andT {t u : TE} {b : Bool} (h : EvR K t r (.bool true)) (g : EvR K u r (.bool b)) : EvR K (tAndV t u) r (.bool b) := fun sg H e Q q =>
  h sg H e _ fun H1 v s1 hv => by
    cases hv
    exact ⟨true, rfl, g sg H1 (e.same s1) _ fun H2 w s2 hw => q H2 w (s1.trans s2) hw⟩
theorem ev_ixT {t u : TE} {ds : List PyData} {i : Nat} {d : PyData} (h : EvR K t r (.tuple ds)) (g : EvR K u r (.int (i : Nat))) (e : ds[i]? = some d) : EvR K (tOp (rIxT K) t u) r d := fun sg H en Q q =>
  h sg H en _ fun H1 v s1 hv => g sg H1 (en.same s1) _ fun H2 w s2 hw => by
    cases hw
    cases Da.same s2 _ _ hv with
    | tup h1 h2 hz =>
      obtain ⟨x, ex, dx⟩ := DaAll.getD h2 e
      exact ⟨_, _, _, x, rfl, rfl, h1, atI_nat ex, q H2 x (s1.trans s2) dx⟩
theorem ev_isN {t : TE} (h : EvR K t r .none) : EvR K (tOp (fun x y H Q => y = V.non ∧ Q (V.bl (decide (x = V.non))) H) t (tC .non)) r (.bool true) := fun sg H e Q q =>
  h sg H e _ fun H1 v s1 hv => by
    cases hv
    exact ⟨rfl, q H1 _ s1 (.bl _)⟩
/-! ### tests -/
theorem evt_test {t : TE} {b : Bool} (h : EvR K t r (.bool b)) : EvT K (tTest t) r b := fun sg H e Q q => h sg H e _ fun H1 v s1 hv => by
  cases hv
  exact ⟨b, rfl, q H1 s1⟩
theorem evt_b {t : TE} {b : Bool} (h : EvR K t r (.bool b)) : EvT K (tB t) r b := fun sg H e Q q => h sg H e _ fun H1 v s1 hv => by
  cases hv
  exact ⟨b, rfl, q H1 s1⟩
theorem evt_or {t u : TT} {b : Bool} (h : EvT K t r false) (g : EvT K u r b) : EvT K (tOr t u) r b := fun sg H e Q q => h sg H e _ fun H1 s1 => iteF (g sg H1 (e.same s1) _ fun H2 s2 => q H2 (s1.trans s2))
theorem evt_not {t : TT} {b : Bool} (h : EvT K t r b) : EvT K (tNot t) r (!b) := fun sg H e Q q => h sg H e _ fun H1 s1 => q H1 s1
/-! ### blocks -/
theorem run_asg {t : TE} {u : TS} {i : Nat} {d e : PyData} (h : EvR K t r d) (g : RunR K u (r.set i (some d)) e) : RunR K (tSeq (tAsg t (gName i)) u) r e := fun sg H D en q =>
  h sg H en _ fun H1 v s1 hv => g _ H1 D ((en.same s1).set i hv) fun H2 w s2 hw => q H2 w (s1.trans s2) hw
theorem run_par {t : TA} {u : TS} {i j : Nat} {d d' e : PyData} (h : EvA K t r [d, d']) (g : RunR K u ((r.set i (some d)).set j (some d')) e) : RunR K (tSeq (tPar i j t) u) r e := fun sg H D en q =>
  h sg H en _ fun H1 vs s1 hv => by
    obtain ⟨x, r1, rfl, p1, g1⟩ := da_cons hv
    obtain ⟨y, r2, rfl, p2, g2⟩ := da_cons g1
    have e5 := da_nil g2
    subst e5
    exact ⟨x, y, rfl, g _ H1 D (((en.same s1).set i p1).set j p2) fun H2 w s2 hw => q H2 w (s1.trans s2) hw⟩
theorem run_two {t : TE} {u : TS} {i j : Nat} {d d' e : PyData} (h : EvR K t r (.tuple [d, d'])) (g : RunR K u ((r.set i (some d)).set j (some d')) e) : RunR K (tSeq (tAsg t (gTup K 2 (gCons (gName i) (gCons (gName j) gNil)))) u) r e := fun sg H D en q =>
  h sg H en _ fun H1 v s1 hv => by
    cases hv with
    | tup h1 h2 hz =>
      obtain ⟨x, r1, rfl, p1, g1⟩ := da_cons h2
      obtain ⟨y, r2, rfl, p2, g2⟩ := da_cons g1
      have e5 := da_nil g2
      subst e5
      exact ⟨_, _, rfl, h1, rfl, x, _, rfl, y, _, rfl, rfl, g _ H1 D (((en.same s1).set i p1).set j p2) fun H2 w s2 hw => q H2 w (s1.trans s2) hw⟩
theorem run_ifF {c : TT} {t u : TS} {e : PyData} (h : EvT K c r false) (g : RunR K u r e) : RunR K (tSeq (tIfS c t tNext) u) r e := fun sg H D en q =>
  h sg H en _ fun H1 s1 => iteF (g sg H1 D (en.same s1) fun H2 w s2 hw => q H2 w (s1.trans s2) hw)
theorem run_ret {t : TE} {e : PyData} (h : EvR K t r e) : RunR K (tRet t) r e := fun sg H D en q => h sg H en _ q
end
/-! ### what has to be shown of written sites and jars -/
def okValsW : List Wr → (Str → Prop) → Prop
  | [], _ => True
  | w :: ws, f => (match w.val with
    | none => True
    | some x => f x) ∧ okValsW ws f
def okValsP : List Pg → (Str → Prop) → Prop
  | [], _ => True
  | p :: ps, f => okValsW p.ws f ∧ okValsP ps f
def okValsJ : List Kp → (Str → Prop) → Prop
  | [], _ => True
  | k :: ks, f => f k.val ∧ okValsJ ks f
def nodupB : List Ky → Bool
  | [] => true
  | k :: ks => !ks.contains k && nodupB ks
theorem nodupB_of : ∀ {l : List Ky}, nodupB l = true → l.Nodup
  | [], _ => List.nodup_nil
  | k :: ks, h => by
    unfold nodupB at h
    rw [Bool.and_eq_true] at h
    refine List.nodup_cons.mpr ⟨fun m => ?_, nodupB_of h.2⟩
    have := h.1
    rw [show ks.contains k = true from List.contains_iff_mem.mpr m] at this
    cases this
def ascB : List Ky → Bool
  | [] => true
  | [_] => true
  | a :: b :: ks => !PySem.W.dataLt (placePy b) (placePy a) && ascB (b :: ks)
theorem ascB_of : ∀ {l : List Ky}, ascB l = true → ∀ (i : Nat) a b, l[i]? = some a → l[i + 1]? = some b → PySem.W.dataLt (placePy b) (placePy a) = false
  | [], _, i, a, b, h, _ => by simp at h
  | [x], _, i, a, b, _, h => by simp at h
  | x :: y :: ks, h, i, a, b, h1, h2 => by
    unfold ascB at h
    rw [Bool.and_eq_true] at h
    cases i with
    | zero =>
      simp at h1 h2
      subst h1 h2
      simpa using h.1
    | succ i => exact ascB_of h.2 i a b (by simpa using h1) (by simpa using h2)
/-! ### that data can be compared -/
theorem depth_mono {d : PyData} {ds : List PyData} : PyData.depthAll (d :: ds) = max d.depth (PyData.depthAll ds) := by
  rw [PyData.depthAll]
theorem shaped_tup {ds : List PyData} (h : PyData.canLayAll0 ds = true) (z : PyData.depthAll ds ≤ 60) : SeqAt.shaped (.tuple ds) = true := by
  show (PyData.canLayAll0 ds && decide (PyData.depthAll ds + 1 ≤ 64)) = true
  rw [h, Bool.true_and]
  exact decide_eq_true (by omega)
end Jv
/-! y = {k: v for .. in ..}, k a key: stored within the comprehension's frame -/
namespace Jv
open PySem PySem.Spec PyProof.Rows L2
section
variable {X : Cx}
theorem dc_core {pn : List (Addr × Obj)} {s : Shared} {sg : L2.St} {H : Hp} {Q : VK} {kx vx tg it : Expr} {cs : List Expr} {sc : Scope} {own : List (Str × Nat)} {pos pos' : Pos} {wi : TI} {g : TG} {tt : TT} {tk tv : TE} {use : Option (Value → Sem Unit)} {Qf : Value → Shared → Prop} (hc : X.calm = true) (hu : X.A.units + 9 < cLine) (nd : X.N.Nodup) (hi : PI X tg it wi) (ok : BlkOk X.N X.env.scope sc own)
    (hg : ∀ (s : Shared) (H : Hp) (C : Addr) (cl : List (Str × Addr)) (fp : List Addr), PG (X.blk s H sc (compEnvC sc cl C X.env) fp) tg g) (ht : ∀ (s : Shared) (H : Hp) (C : Addr) (cl : List (Str × Addr)) (fp : List Addr), PTs (X.blk s H sc (compEnvC sc cl C X.env) fp) cs tt)
    (hk : ∀ (s : Shared) (H : Hp) (C : Addr) (cl : List (Str × Addr)) (fp : List Addr), PE (X.blk s H sc (compEnvC sc cl C X.env) fp) kx tk) (hv : ∀ (s : Shared) (H : Hp) (C : Addr) (cl : List (Str × Addr)) (fp : List Addr), PE (X.blk s H sc (compEnvC sc cl C X.env) fp) vx tv)
    (hs : ∀ x, foldedSetIterable it X.env x = pure x) (I : Inv X pn sg H s) (h : tDcN X.K X.prog X.w wi g tt tk tv (own.map (·.2)) sg H Q)
    (last : ∀ D C s' m H', Inv X pn sg H' s' → Q (.ref D) H' → s'.heap.Ns C m → FpOk X pn H' C → compPost (model X.prog X.w) X.A X.xe use Qf (.ref D) C (.ok .next) s') :
    wpAny (model X.prog X.w) X.A (comprehension (.DictComp kx vx [⟨tg, it, cs, 0⟩] sc pos) sc X.env pos' (newObj (.type "dict") (.dict #[])) false (eval it X.env) use) Qf X.xe s := by
  have clo : ∀ y ∈ sc.names, y.2 = .free → ∃ c, X.env.cells.lookup y.1 = some c := fun y hy e => (ok.free y hy e).elim (fun z => I.ok.has _ (.inl z)) fun z => I.ok.has _ (.inr z)
  refine wpAny_comprehension_free (use := use) rfl hs (closure_ok clo) ok.kind (fun y hy e => by rw [ok.uniq y hy, e]) (thn (hi.run pn s sg H _ I h) fun xv s1 hx => thn hx fun iv s2 h2 => ?_)
  obtain ⟨ia, fp, tn, J, H2, rfl, I2, T, st2, f2, q⟩ := h2
  refine wpAny_newObj_type (newEnv_comp ?_)
  -- the new dict, at D
  generalize eD : s2.heap.objs.size = D
  have nD : H2 D = none := I2.hok.fresh (Nat.le_of_eq eD)
  obtain ⟨W, ⟨m0, w0⟩, turn⟩ := q D nD
  generalize e3 : ({ s2 with heap := s2.heap.push { cls := .type "dict", data := .dict #[] } } : Shared) = s3
  have hp3 : s3.heap = s2.heap.push { cls := .type "dict", data := .dict #[] } := by rw [← e3]
  have I3 : Inv X pn sg (upd H2 D (NdO X.prog X.w D [])) s3 := by
    rw [← e3]
    refine I2.laid (t' := s2.toks) (fun b o e => Heap.get?_push_of_some _ e) (Nat.le_of_eq eD) (ndO_ok (Nat.zero_le _) ?_ (by rw [← eD]; exact Heap.DictOfH.new s2.heap))
    rw [← eD]
    exact beq_eq_false_iff_ne.mpr (Ne.symm (Nat.ne_of_lt I2.big))
  have low : ∀ b ∈ fp, b < s2.heap.objs.size := fun b hb => let ⟨o, e, _⟩ := T.obj _ _ st2 b hb; Heap.lt_size e
  have f3 : ∀ b ∈ fp, FpOk X pn (upd H2 D (NdO X.prog X.w D [])) b ∧ b < s3.heap.objs.size := fun b hb => by
    have lt := low b hb
    have ne : b ≠ D := by
      rw [← eD]
      exact Nat.ne_of_lt lt
    exact ⟨⟨by rw [upd_ne ne]; exact (f2 b hb).1, (f2 b hb).2⟩, by rw [hp3, Heap.size_push]; exact Nat.lt_succ_of_lt lt⟩
  have st3 : tn 0 s3.heap := T.keep _ _ _ st2 fun b _ o e => by rw [hp3]; exact Heap.get?_push_of_some _ e
  generalize eH : upd H2 D (NdO X.prog X.w D []) = H3 at I3 w0 f3
  have I4 := block_start I3 ok nd f3
  have pg := hg s3 H3 s3.heap.objs.size (cellsFrom (s3.heap.objs.size + 1) sc.names (cloFrom X.env.cells sc.names [])) fp
  have pt := ht s3 H3 s3.heap.objs.size (cellsFrom (s3.heap.objs.size + 1) sc.names (cloFrom X.env.cells sc.names [])) fp
  have pk := hk s3 H3 s3.heap.objs.size (cellsFrom (s3.heap.objs.size + 1) sc.names (cloFrom X.env.cells sc.names [])) fp
  have pv := hv s3 H3 s3.heap.objs.size (cellsFrom (s3.heap.objs.size + 1) sc.names (cloFrom X.env.cells sc.names [])) fp
  show codeAny _ _ (.compStart (.DictComp kx vx [⟨tg, it, cs, 0⟩] sc pos) 0 (.ref ia) (.ref D) (compEnvC sc (cellsFrom (s3.heap.objs.size + 1) sc.names (cloFrom X.env.cells sc.names [])) s3.heap.objs.size X.env))
    (compPost (model X.prog X.w) X.A X.xe use Qf (.ref D) s3.heap.objs.size) { s3 with heap := pushCells (s3.heap.push { cls := .type "dict", data := .dict #[] }) sc.names }
  have nf : ∀ b ∈ fp, H3 b = none := fun b hb => (f3 b hb).1.1
  generalize ec : compEnvC sc (cellsFrom (s3.heap.objs.size + 1) sc.names (cloFrom X.env.cells sc.names [])) s3.heap.objs.size X.env = ce at I4 pg pt pk pv ⊢
  have cl : ce.locals = s3.heap.objs.size := by
    rw [← ec]
    rfl
  generalize e4 : ({ s3 with heap := pushCells (s3.heap.push { cls := .type "dict", data := .dict #[] }) sc.names } : Shared) = s4 at I4 ⊢
  have st4 : tn 0 s4.heap := T.keep _ _ _ st3 fun b _ o e => by
    rw [← e4]
    exact pushCells_keeps _ _ _ _ (Heap.get?_push_of_some _ e)
  have fo : ∀ {sg' : L2.St} {H' : Hp} {s' : Shared}, Inv (X.blk s3 H3 sc ce fp) [] sg' H' s' → (∀ b ∈ fp, H' b = none) → ∀ b ∈ fp, FpOk (X.blk s3 H3 sc ce fp) [] H' b := fun {sg' H' s'} I' hn b hb =>
    ⟨hn b hb, (I'.ok.exf b hb).1, I'.ok.exfs b hb, .inl hb, (I'.ok.exf b hb).2, fun p hp => absurd hp (by simp)⟩
  refine codeAny_compStart_dict ?_ (T.self X.A 0 _ _ _ st4 ?_) <;>
  refine compLoop_anyD (fun n s' => ∃ i H', Inv (X.blk s3 H3 sc ce fp) [] (wipe sg (own.map (·.2))) H' s' ∧ tn i s'.heap ∧ (∀ b ∈ fp, H' b = none) ∧ W i n H') ?_ m0 ⟨0, H3, I4, st4, nf, w0⟩ <;>
  · rintro n s5 ⟨i, H5, I5, st5, n5, w5⟩
    rcases turn i n H5 w5 with ⟨stop, qq⟩ | ⟨go, Nx, hN, step⟩
    · refine thnF (T.done (X.blk s3 H3 sc ce fp) rfl rfl rfl hc i [] s5 _ H5 (fun _ _ => False) I5 (fo I5 n5) st5 stop) fun r s6 ⟨hr, I6⟩ => ?_
      subst hr
      have I7 : Inv X pn sg H5 s6 := I3.call' (ch := fp) I6.os I6.base I6.hok I6.bare fun b hb => ⟨(f3 b hb).1.2.2.2.1, (f3 b hb).1.2.1, (f3 b hb).1.2.2.2.2.1, (f3 b hb).1.2.2.2.2.2⟩
      have nC : H5 s3.heap.objs.size = none := by
        rw [← cl]
        exact I6.free
      obtain ⟨m, hn, _⟩ := I6.loc
      exact last D s3.heap.objs.size s6 m H5 I7 qq (by rw [← cl]; exact hn) (I3.fpOk (Nat.le_refl _) nC)
    · refine thnF (T.item (X.blk s3 H3 sc ce fp) rfl rfl rfl hc i [] s5 _ H5 (fun _ _ => False) I5 (fo I5 n5) st5 go) fun r s6 ⟨u, hr, h6⟩ => ?_
      subst hr
      refine thnF h6 fun _ s7 ⟨x, H7, I7, r7, y7, st7, n7⟩ => ?_
      have I8 := I7.pinned (fo I7 n7) (T.obj _ _ st7)
      refine thnF (pg.run _ s7 _ H7 x u _ I8 r7 (step x H7 y7)) fun _ s8 ⟨sg8, H8, I9, hw8, q8⟩ => ?_
      refine thnF (pt.run _ s8 sg8 H8 _ I9 q8) fun b s9 ⟨H9, I10, q9⟩ => ?_
      have fin : ∀ {s' : Shared} {H' : Hp}, Inv (X.blk s3 H3 sc ce fp) ([] ++ pinsAt fp s7.heap) sg8 H' s' → Nx H' → ∃ m, m < n ∧ ∃ i H', Inv (X.blk s3 H3 sc ce fp) [] (wipe sg (own.map (·.2))) H' s' ∧ tn i s'.heap ∧ (∀ b ∈ fp, H' b = none) ∧ W i m H' := fun {s' H'} I' nx => by
        obtain ⟨m', hm, w'⟩ := hN H' nx
        have pin : ∀ b ∈ fp, ∀ o, s7.heap.get? b = some o → s'.heap.get? b = some o ∧ H' b = none := fun b hb o e =>
          let z := I'.pin (b, o) (List.mem_append_right _ (List.mem_append_right _ (mem_pinsAt hb e)))
          ⟨z.1, z.2.1⟩
        have hl : (wipe sg (own.map (·.2))).length = sg8.length := by
          rw [← hw8, wipe_length]
        refine ⟨m', hm, i + 1, H', (I'.unpinned (pins := [])).weak hl (fun j v e => (wipe_some (by rw [hw8]; exact e)).1), T.keep _ _ _ st7 fun b hb o e => (pin b hb o e).1, fun b hb => ?_, w'⟩
        obtain ⟨o, e, _⟩ := T.obj _ _ st7 b hb
        exact (pin b hb o e).2
      cases b with
      | false => exact fin I10 (by simpa using q9)
      | true =>
        simp only [if_true] at q9
        refine thnF (pk.run _ s9 sg8 H9 _ I10 q9) fun z s10 ⟨yk, H10, I11, r10, q10⟩ => ?_
        refine thnF (pv.run _ s10 sg8 H10 _ I11 q10) fun z2 s11 ⟨yv, H11, I12, r11, a, kvs, k, ek, hD, hK, hl, nx⟩ => ?_
        subst ek
        cases (show z = Value.ref a from r10)
        exact dn_set (X := X.blk s3 H3 sc ce fp) I12 hu hD hK hl r11 fun s12 H12 hb hD2 I13 => fin I13 (nx H12 hb hD2)

theorem ps_setDc {i : Nat} {y : Str} {py spos : Pos} {kx vx tg it : Expr} {cs : List Expr} {sc : Scope} {own : List (Str × Nat)} {pos : Pos} {wi : TI} {g : TG} {tt : TT} {tk tv : TE} (hc : X.calm = true) (hu : X.A.units + 9 < cLine) (nd : X.N.Nodup) (hy : X.N[i]? = some y) (hyl : X.env.scope.names.lookup y = some .local)
    (hsw : swapsWith (.DictComp kx vx [⟨tg, it, cs, 0⟩] sc pos) (some (.Name y py)) spos.line X.env = pure true) (hi : PI X tg it wi) (ok : BlkOk X.N X.env.scope sc own)
    (hg : ∀ (s : Shared) (H : Hp) (C : Addr) (cl : List (Str × Addr)) (fp : List Addr), PG (X.blk s H sc (compEnvC sc cl C X.env) fp) tg g) (ht : ∀ (s : Shared) (H : Hp) (C : Addr) (cl : List (Str × Addr)) (fp : List Addr), PTs (X.blk s H sc (compEnvC sc cl C X.env) fp) cs tt)
    (hk : ∀ (s : Shared) (H : Hp) (C : Addr) (cl : List (Str × Addr)) (fp : List Addr), PE (X.blk s H sc (compEnvC sc cl C X.env) fp) kx tk) (hv : ∀ (s : Shared) (H : Hp) (C : Addr) (cl : List (Str × Addr)) (fp : List Addr), PE (X.blk s H sc (compEnvC sc cl C X.env) fp) vx tv)
    (hs : ∀ x, foldedSetIterable it X.env x = pure x := by intro _; rfl) : PS X (.Assign [.Name y py] (.DictComp kx vx [⟨tg, it, cs, 0⟩] sc pos) spos) (tAsg (tDcN X.K X.prog X.w wi g tt tk tv (own.map (·.2))) (gName i)) := by
  refine ⟨fun pn s sg H D I h => ?_⟩
  rw [exec_Assign_Name_used _ _ _ _ hsw]
  refine wpAny_bind (wpAny_standAt (wpAny_bind ?_))
  show wpAny _ X.A (do let _ ← comprehension (.DictComp kx vx [⟨tg, it, cs, 0⟩] sc pos) sc X.env (firstIterPos [⟨tg, it, cs, 0⟩] pos) (newObj (.type "dict") (.dict #[])) false (eval it X.env) (some (assign (.Name y py) X.env))) _ _ s
  have h : tDcN X.K X.prog X.w wi g tt tk tv (own.map (·.2)) sg H (fun x H1 => gName i x sg H1 D.nx) := h
  refine wpAny_bind (thn (dc_core (Qf := fun _ s' => SP X pn D .next s') hc hu nd hi ok hg ht hk hv hs I h fun L C s' m H' I' q hn f => ?_) fun _ s' hq => wpAny_pure (wpAny_pure hq))
  show wpAny _ _ (assign (.Name y py) X.env (.ref L)) _ _ _
  refine wpAny_assign_Name (store_ok2 (v := V.ref L) I' nd hy (.inl hyl) rfl (fun s2 I2 ⟨a, sb, ha⟩ => ?_) (.inr hyl))
  obtain ⟨f0, f1, f2, f3, f4, f5⟩ := f
  have aC : C ≠ a := by
    rcases ha with z | z
    · rw [z]
      exact f1
    · exact fun e => f4 y a z e.symm
  refine ⟨m, hn.sameBut sb aC, fun h3 sb3 => ?_⟩
  exact ⟨_, H', I2.turned (t' := s2.toks) (fun b o hb e => (sb3.2 b hb).trans e) f0 f1 f3 f4 f5, q⟩
theorem sw_dict {kx vx : Expr} {gs : List Comprehension} {sc : Scope} {pos py : Pos} {y : Str} {l : Nat} {env : Env} (hk : env.scope.kind = .function) (hy : env.scope.names.lookup y = some .local) (hl : (py.line == pos.line) = true)
    (ha : (sc.names.any fun (n, k) => n == y && (k == .local || k == .cell)) = false) : swapsWith (.DictComp kx vx gs sc pos) (some (.Name y py)) l env = pure true := by
  have ky : env.kindOf y = some .local := hy
  have hb : env.blockKind = .function := by
    unfold Env.blockKind
    rw [hk]
    rfl
  unfold swapsWith
  simp only [hb, ky, ha, Expr.pos, hl]
  rfl
end
end Jv
/-! enumerate over a tuple -/
namespace Jv
open PySem PySem.Spec PyProof.Rows L2
theorem enum_makes {v : Value} {o : Obj} {H : Heap → Prop} (B : Begins v o H) : Meets (Builtin.«enumerate.__new__» ⟨[.type "enumerate", v], []⟩) (fun _ R s => H s.heap ∧
    R (.ok (.ret (.ref (s.heap.push o).objs.size))) { s with heap := (s.heap.push o).push { cls := .type "enumerate", data := .fields #[.none, .bool false, .ref s.heap.objs.size, rawInt 0, .none, .none] } }) := by
  refine .of_wp fun pr wo Ar R s ⟨h1, h2⟩ => ?_
  obtain ⟨hp, g, d, tk, os⟩ := s
  have sb := sub_enumerate
  have it : ∀ {A' : Around} {E Q : Value → Shared → Prop}, Q (.ref hp.objs.size) ⟨(hp.push o), g, d, tk, os⟩ → wpAny (model pr wo) A' (pyIter v) Q E ⟨hp, g, d, tk, os⟩ := fun q => B.iter pr wo _ _ ⟨hp, g, d, tk, os⟩ _ h1 q
  wp_walk
  refine wpAny_stack_any fun st => wpAny_pure ?_
  split
  · rename_i c _ _ _ _ _
    cases (c == Value.type "enumerate") <;> (wp_walk using it; exact ⟨_, rfl, h2⟩)
  · wp_walk using it
    exact ⟨_, rfl, h2⟩
theorem enum_begins {pr : Program} {wo : World} {A : Around} {E : Value → Shared → Prop} {s : Shared} {v : Value} {o : Obj} {H : Heap → Prop} {Q : Value → Shared → Prop} (B : Begins v o H) (h1 : H s.heap)
    (q : ∀ h', IsEnum h' (s.heap.objs.size + 1) s.heap.objs.size 0 .none → h'.get? s.heap.objs.size = some o → (∀ b o', s.heap.get? b = some o' → h'.get? b = some o') → Q (.ref (s.heap.objs.size + 1)) { s with heap := h' }) :
    wpAny (model pr wo) A (call (.type "enumerate") [v]) Q E s := by
  refine callType_new F.called_enumerate (by decide) (F.typeCall_enumerate_1 _) (F.newCall_enumerate_1 _) (fun obj => F.args_object_init_2 obj _) F.entry_enumerate_new (enum_makes B) ⟨h1, ?_⟩
  have z : (s.heap.push o).objs.size = s.heap.objs.size + 1 := by rw [Heap.size_push]
  have ge : ((s.heap.push o).push { cls := .type "enumerate", data := .fields #[.none, .bool false, .ref s.heap.objs.size, rawInt 0, .none, .none] }).get? (s.heap.push o).objs.size = some { cls := .type "enumerate", data := .fields #[.none, .bool false, .ref s.heap.objs.size, rawInt 0, .none, .none] } := Heap.get?_push_size _ rfl
  rw [z] at ge
  show _ ∧ _
  rw [z]
  exact ⟨⟨_, ge, rfl⟩, q _ ge (Heap.get?_push_of_some _ (Heap.get?_push_size _ B.free)) fun b o' e => Heap.get?_push_of_some _ (Heap.get?_push_of_some _ e)⟩
/-- the tuple at a, each item in a new pair behind its number -/
def Jte (K : PySem.W.Frag) (a : Addr) : It where
  go := fun i H => ∃ (xs : List V) (x : V), SqT K H a xs ∧ xs[i]? = some x
  yld := fun i H v H' => ∃ (T : Addr) (x : V), v = .ref T ∧ H T = none ∧ H' = upd H T (.tup [.int (i : Nat), x]) ∧ ∀ xs, SqT K H a xs → xs[i]? = some x
  stop := fun i H => ∃ xs : List V, SqT K H a xs ∧ xs.length = i
theorem turn_jte {P : Program} {w : World} {K : PySem.W.Frag} {elts : List Expr} {kk : Nat} {tpos : Pos} (a e it : Addr) : Turn P w K (.Tuple elts kk tpos) (Jte K a) [e, it] e (fun i h => (∃ old, IsEnum h e it ((i : Nat) : Int) old) ∧ h.IsTupleIter it a i ∧ e ≠ it ∧ a ≠ it) where
  mem := by simp
  obj := fun i h st b hb => by
    obtain ⟨⟨old, he⟩, ⟨o, ho, hc, hd⟩, _⟩ := st
    rcases (by simpa using hb : b = e ∨ b = it) with z | z
    · subst z
      exact ⟨_, he, fun v q => nomatch q⟩
    · subst z
      exact ⟨o, ho, fun v q => by rw [hd] at q; cases q⟩
  keep := fun i h h' st k => let ⟨⟨old, he⟩, hi, ne⟩ := st
    ⟨⟨old, k e (by simp) _ he⟩, hi.at fun o q => k it (by simp) o q, ne⟩
  self := fun A i s Q E st h => let ⟨⟨_, he⟩, _⟩ := st; (wpAny_pyIter_enum he) h
  item := by
    intro X hP hw hK hc i pins s σ H E I hf ⟨⟨old, he⟩, hit, ne, na⟩ ⟨xs, x, hq, hx⟩
    subst hP hw hK
    obtain ⟨its, rv, p, hz⟩ := I.tuple hq
    obtain ⟨u, hu, ru⟩ := rv.get hx
    have le : e < s.heap.objs.size := Heap.lt_size he
    have li : it < s.heap.objs.size := by
      obtain ⟨_, z, _⟩ := hit
      exact Heap.lt_size z
    have hlt : i < its.toArray.size := by
      rcases Nat.lt_or_ge i its.length with z | z
      · simpa using z
      · rw [List.getElem?_eq_none z] at hu
        cases hu
    by_cases ea : e = a
    · obtain ⟨o, ho, hc', _⟩ := (show s.heap.IsTuple a its.toArray from p)
      rw [← ea, he] at ho
      cases ho
      injection hc' with z
      exact absurd z (by decide)
    · refine wpAny_pyNext_enum_itemD (Draws.tuple (A := X.A.in1) (show X.A.in1.handled = none from I.ok.hd hc) it a na its.toArray) he ⟨hit, p⟩ hlt ne (by simp [ne, ea]) fun y h' tk hy ho st' hT hsz hk => ?_
      obtain rfl : y = u := by
        have z : its.toArray[i]? = some y := hy
        rw [show its.toArray[i]? = its[i]? by simp, hu] at z
        exact (Option.some.inj z).symm
      refine ⟨_, rfl, wpAny_letOwnedTupleGo_enum (s := { s with heap := h', toks := tk + 1 }) ho fun h2 he' sb => ?_⟩
      have hT2 : h2.get? s.heap.objs.size = some { cls := .type "tuple", data := .seq #[.int i tk, y] } := (sb.2 _ (Nat.ne_of_gt le)).trans hT
      have I1 : Inv X pins σ (upd H s.heap.objs.size (.tup [.int (i : Nat), x])) { s with heap := h2, toks := tk + 1 } := I.turnedNew (ch := [e, it])
        (fun b ob hb z => (sb.2 b (fun z => hb (by simp [z]))).trans (hk b ob (fun z => hb (by simp [z])) (fun z => hb (by simp [z])) z)) hf (Nat.le_refl _) ⟨by show 2 ≤ sizeLine; decide, [.int i tk, y], .cons ⟨_, rfl⟩ (.cons ru .nil), ⟨_, hT2, rfl, _, rfl⟩⟩
      refine ⟨.ref s.heap.objs.size, _, I1, rfl, ⟨_, x, rfl, I.hok.fresh (Nat.le_refl _), rfl, fun ys hy => by rw [I.tuple_inj hy hq]; exact hx⟩, ⟨⟨y, ?_⟩, st'.1.at fun o z => (sb.2 it (Ne.symm ne)).trans z, ne, na⟩, fun b hb => ?_⟩
      · rw [show ((i + 1 : Nat) : Int) = (i : Int) + 1 by omega]
        exact he'
      · have lb : b < s.heap.objs.size := by
          rcases (by simpa using hb : b = e ∨ b = it) with z | z <;> rw [z] <;> assumption
        rw [upd_ne (Nat.ne_of_lt lb)]
        exact (hf b hb).1
  done := by
    intro X hP hw hK hc i pins s σ H E I hf ⟨⟨old, he⟩, hit, ne, na⟩ ⟨xs, hq, hx⟩
    subst hP hw hK
    obtain ⟨its, rv, p, hz⟩ := I.tuple hq
    obtain ⟨f0, f1, f2, f3, f4, f5⟩ := hf it (by simp)
    have z : its.toArray.size = i := by
      rw [← hx, rv.length]
      simp
    subst z
    exact wpAny_pyNext_enum_endD (Draws.tuple (A := X.A.in1) (show X.A.in1.handled = none from I.ok.hd hc) it a na its.toArray) he ⟨hit, p⟩ fun h' eb => ⟨rfl, I.turned (t' := s.toks) (fun b o hb q => eb b o hb q) f0 f1 f3 f4 f5⟩
def iJt (K : PySem.W.Frag) (ta : TA) : TI := fun σ H R => ta σ H fun vs H1 => ∃ a xs, vs = [.ref a] ∧ SqT K H1 a xs ∧ R (Jte K a) H1
theorem pi_jenum {X : Cx} {e : Expr} {ta : TA} {p pos tpos : Pos} {elts : List Expr} {kk : Nat} (hg : Gl X "enumerate") (hm : X.mg "enumerate" = none) (ha : PA X [e] ta) (hs : starEach [e] X.env = [(false, eval e X.env)] := by rfl) : PI X (.Tuple elts kk tpos) (.Call (.Name "enumerate" p) [e] [] pos) (iJt X.K ta) := by
  refine ⟨fun pins s σ H R I h => Call_ (ld_blt I hg hm boot_enumerate (PyProof.Rows.callWith_type1 (thn (ha.run pos pins s σ H _ I h) fun us s1 ⟨vs, H1, I1, r1, a, xs, ex, hq, q⟩ => ?_) hs rfl))⟩
  subst ex
  cases r1 with
  | cons r rr =>
    cases rr
    cases r
    obtain ⟨its, rv, p', hz⟩ := I1.tuple hq
    have la : a ≠ s1.heap.objs.size := by
      obtain ⟨o, z, _⟩ := (show s1.heap.IsTuple a its.toArray from p')
      exact Nat.ne_of_lt (Heap.lt_size z)
    refine enum_begins (begins_tuple a its.toArray) p' fun h' he hi hk => wpAny_pyIter_enum he ⟨s1.heap.objs.size + 1, [s1.heap.objs.size + 1, s1.heap.objs.size], _, _, H1, rfl, I1.kept (t' := s1.toks) hk, turn_jte a (s1.heap.objs.size + 1) s1.heap.objs.size, ⟨⟨.none, he⟩, ⟨_, hi, rfl, rfl⟩, Nat.succ_ne_self _, la⟩, fun b hb => ?_, q⟩
    have lb : s1.heap.objs.size ≤ b := by
      rcases (by simpa using hb : b = s1.heap.objs.size + 1 ∨ b = s1.heap.objs.size) with z | z
      · rw [z]
        exact Nat.le_succ _
      · rw [z]
        exact Nat.le_refl _
    exact I1.fpOk lb (I1.hok.fresh lb)
theorem walk_jte {K : PySem.W.Frag} {a : Addr} {xs : List V} : Walk (Jte K a) xs.length (fun H => SqT K H a xs) (YPair (fun i => some (.int (i : Nat))) (fun i => xs[i]?)) :=
  ⟨fun i _ hi q => ⟨xs, xs[i], q, by simp [hi]⟩, fun _ q => ⟨xs, q, rfl⟩, fun i H v H' _ q ⟨T, x, h1, h2, h3, h4⟩ => ⟨T, .int (i : Nat), x, h1, h2, h3, rfl, h4 xs q⟩⟩
end Jv
/-! own exceptions: class C(B) over own B over ValueError; __init__ says B.__init__(self, text) and keeps one field -/
namespace Jv
open PySem PySem.Spec PyProof.Rows L2
/-- B.__init__(self, ..), B an own class that has no __init__ of its own -/
structure BaseI (K : PySem.W.Frag) (mg : Str → Option Value) (x : Str) (B : Addr) : Prop where
  gB : mg x = some (.ref B)
  ga : PySem.W.specialIn K (.ref B) "__getattribute__" = some (some (.builtin "type.__getattribute__"))
  rd : PySem.W.readsIn K B (.type "type") = true
  fi : PySem.W.findCls K (.ref B) (.type "type") "__init__" = some (.val (.builtin "ValueError.__init__"))
section
variable {X : Cx}
theorem pe_jinit {pl : Sem Bool} {x : Str} {B : Addr} {e : Expr} {es : List Expr} {ta : TA} {p1 p2 pos : Pos} (b : BaseI X.K X.mg x B) (ha : PA X (e :: es) ta) (hg : Gl X x := by rfl) (hdb : (x == ("__debug__" : Str)) = false := by decide)
    (hc : eval (.Call (.Attribute (.Name x p1) "__init__" p2) (e :: es) [] pos) X.env = (do
      let ov ← eval (.Name x p1) X.env
      standAt p2.atName
      let (f, first) ← holding [ov] (getMethod ov "__init__" pl)
      callWith pos f first (backTo pos (starEach (e :: es) X.env)) (backToKw pos (keywordEach [] X.env))) := by rfl)
    (he : starEach (e :: es) X.env = (false, eval e X.env) :: starEach es X.env := by rfl) (hpl : (backTo pos (starEach es X.env)).any (·.1) = false := by rfl) :
    PE X (.Call (.Attribute (.Name x p1) "__init__" p2) (e :: es) [] pos) (tVeI X.K ta) := by
  refine ⟨fun pn s sg H Q I h => PySem.W.methodCall_KW (ld_glob I hg b.gB ?_ hdb) hc⟩
  refine PySem.W.method_cls I.kIn b.ga (PySem.W.cls_value I.kIn b.rd b.fi rfl ?_)
  show wpAny _ _ (callWith pos (Value.builtin "ValueError.__init__") [] (backTo pos (starEach (e :: es) X.env)) []) _ _ _
  refine PyProof.Rows.callWith_method1 (thn (ha.run pos pn _ sg H _ (I.tok _) h) fun us s1 ⟨vs, H1, I1, r1, a, C, ws, ev, hl, T, ea, q⟩ => ?_) he hpl
  subst ev
  cases r1 with
  | @cons _ u0 _ ur ra rw' =>
    obtain rfl : u0 = Value.ref a := ra
    refine oinit_ok T I1 ea ?_ fun s' J => ⟨.non, H1, J, rfl, q⟩
    rw [← Paired.length rw', sizeLine_eq]
    omega
end
/-- what __init__(self, f) leaves -/
def spInit (K : PySem.W.Frag) (f : Str) : Sp := fun vs H Q _ => ∃ (a C : Addr) (y : V), vs = [.ref a, y] ∧ H a = some (exo a C none) ∧ OexC K C ∧ PySem.W.findIn K (.ref C) f = some none ∧
  ∀ dx, H dx = none → dx ≠ a → Q .non (upd (upd H dx (exd dx [(f, y)])) a (exo a C (some dx)))
structure Exn (P : Program) (w : World) (K : PySem.W.Frag) (mg : Str → Option Value) (base : Heap) (x f : Str) (C : Addr) : Prop where
  gC : mg x = some (.ref C)
  T : OexC K C
  noF : PySem.W.findIn K (.ref C) f = some none
  ini : ∃ fI fd, PySem.W.findIn K (.ref C) "__init__" = some (some (.ref fI)) ∧ PySem.W.typeIn K (.ref fI) = some (.type "function") ∧ Binds K fd ["self", f] [] ∧ FnOk P w K mg base CX0 1 fI fd ["self", f] (spInit K f)
/-- raise C(e) -/
theorem ps_raiseE {X : Cx} {x f : Str} {C : Addr} {W : WX} {e : Expr} {te : TE} {p pos pos2 : Pos} (N : Exn X.prog X.w X.K X.mg X.base x f C) (hr : Room 2 X.A) (tk : Takes X W) (he : PE X e te) (hcalm : X.calm = true := by rfl) (hg : Gl X x := by rfl) (hdb : (x == ("__debug__" : Str)) = false := by decide)
    (hs : starEach (e :: []) X.env = (false, eval e X.env) :: starEach [] X.env := by rfl) (hpl : (backTo pos (starEach [] X.env)).any (·.1) = false := by rfl) :
    PS X (.Raise (some (.Call (.Name x p) [e] [] pos)) none pos2) (fun _ sg H => tMkO C (spInit X.K f) [] (tCons te tNil) sg H fun cls d H' => W cls d sg H') := by
  obtain ⟨fI, fd, i1, i2, i3, i4⟩ := N.ini
  exact ps_raise hcalm tk (pmk_oex N.T i1 i2 i4 hr i3 .nil pass0 hg N.gC (pa_cons he pa_nil hs) hdb hs hpl)
/-- its reading, behind the argument y -/
theorem mk_read {P : Program} {w : World} {K : PySem.W.Frag} {mg : Str → Option Value} {base : Heap} {x f : Str} {C : Addr} {H1 : Hp} {y : V} {Wq : XK} (N : Exn P w K mg base x f C) (q : ∀ d Hx, H1 d = none → Same H1 Hx → Hx d = some (.xd [(f, y)]) → Wq (.ref C) (some d) Hx) :
    [y].length ≤ 1000 ∧ ∀ a, H1 a = none → spInit K f (.ref a :: ([y] ++ [])) (upd H1 a (exo a C none))
      (fun v H2 => v = .non ∧ ∃ (d : Addr) (fs : List (Str × V)), H2 a = some (exo a C (some d)) ∧ H2 d = some (exd d fs) ∧ H1 d = none ∧ Wq (.ref C) (some d) (upd (del H2 a) d (.xd fs))) (fun _ _ _ => False) := by
  refine ⟨by show 1 ≤ 1000; decide, fun a na => ⟨a, C, y, rfl, upd_same, N.T, N.noF, fun dx nd ne => ⟨rfl, dx, [(f, y)], upd_same, ?_, ?_, ?_⟩⟩⟩
  · rw [upd_ne ne]
    exact upd_same
  · rw [upd_ne ne] at nd
    exact nd
  · have nd1 : H1 dx = none := by
      rw [upd_ne ne] at nd
      exact nd
    refine q dx _ nd1 (fun b o e => ?_) upd_same
    have n1 : b ≠ a := ne_of_none e na
    have n2 : b ≠ dx := ne_of_none e nd1
    rw [upd_ne n2, del_ne n1, upd_ne n1, upd_ne n2, upd_ne n1]
    exact e
end Jv
/-! defs that may raise, by their names -/
namespace Jv
open PySem PySem.Spec PyProof.Rows L2
def OkX (P : Program) (w : World) (K : PySem.W.Frag) (mg : Str → Option Value) (base : Heap) (x : Str) (ps : List Str) (k : Nat) (sp : Sp) : Prop :=
  ∃ f fd, mg x = some (.ref f) ∧ PySem.W.keepIn K (.ref f) = true ∧ Binds K fd ps [] ∧ FnOk P w K mg base (L2.CX P w) k f fd ps sp
section
variable {P : Program} {w : World} {K : PySem.W.Frag} {mg : Str → Option Value} {base : Heap} {x : Str} {st : Stmt} {N ps : List Str} {k : Nat} {sp : Sp}
theorem Dn.okX (D : Dn K mg x st ps) (S : FnScope N ps (defScope st)) (many : ∀ vs H Q E, sp vs H Q E → vs.length = ps.length)
    (walk : ∀ (f : Addr) (cdv : Value) (A : Around) (out : List Env) (s : Shared) (H : Hp) (vs : List V) (Q : VK) (E : XK), Room k (A.deeper (envOfC x (defScope st) s.heap.objs.size f cdv)) → sp vs H Q E →
      ∃ t, PSs (cxOf (L2.CX P w) P w K mg base N x (defScope st) f cdv A out s H E) (defBody st) t ∧ t { nx := fun _ H' => Q .non H', rt := Q } (start N vs) H) : OkX P w K mg base x ps (k + 1) sp := by
  obtain ⟨f, fd, a, F, b⟩ := D
  exact ⟨f, fd, a, F.kp, b, Fun.okX F S many (walk f)⟩
theorem OkX.imp {sp' : Sp} (F : OkX P w K mg base x ps k sp) (h : ∀ vs H Q E, sp' vs H Q E → sp vs H Q E) : OkX P w K mg base x ps k sp' := by
  obtain ⟨f, fd, a, b, c, d⟩ := F
  exact ⟨f, fd, a, b, c, d.imp h⟩
end
section
variable {X : Cx} {x : Str} {ps : List Str} {k : Nat} {sp : Sp} {W : WX} {p pos : Pos} {e : Expr} {es : List Expr} {t : TA}
/-- what it raises goes on -/
theorem pe_okX (h : OkX X.prog X.w X.K X.mg X.base x ps k sp) (hr : Room k X.A) (tk : Takes X W) (ha : PA X (e :: es) t) (hg : Gl X x := by rfl) (hdb : (x == ("__debug__" : Str)) = false := by decide)
    (he : starEach (e :: es) X.env = (false, eval e X.env) :: starEach es X.env := by rfl) (hpl : (backTo pos (starEach es X.env)).any (·.1) = false := by rfl) :
    PE X (.Call (.Name x p) (e :: es) [] pos) (tCallS sp (WE W) t) := by
  obtain ⟨f, fd, a, b, c, d⟩ := h
  exact pe_callS d hr hg a b c (fun σ => passAt tk σ) ha hdb he hpl
/-- nothing is raised here -/
theorem pe_okX0 (h : OkX X.prog X.w X.K X.mg X.base x ps k sp) (hr : Room k X.A) (ha : PA X (e :: es) t) (hg : Gl X x := by rfl) (hdb : (x == ("__debug__" : Str)) = false := by decide)
    (he : starEach (e :: es) X.env = (false, eval e X.env) :: starEach es X.env := by rfl) (hpl : (backTo pos (starEach es X.env)).any (·.1) = false := by rfl) :
    PE X (.Call (.Name x p) (e :: es) [] pos) (tCall sp [] E0 t) := by
  obtain ⟨f, fd, a, b, c, d⟩ := h
  exact pe_call d hr hg a b c .nil passL ha hdb he hpl
end
/-- the j-th def in the class that c tells -/
def clsDef (c : Stmt) (j : Nat) : Stmt := match c with
  | .ClassDef _ _ _ body _ _ _ _ _ _ _ => body.getD j (.Pass ⟨0, 0, 0, 0⟩)
  | _ => .Pass ⟨0, 0, 0, 0⟩
/-- an error that keeps one field, as the text has it -/
structure ExnD (K : PySem.W.Frag) (mg : Str → Option Value) (x f qual : Str) (st : Stmt) (C : Addr) : Prop where
  gC : mg x = some (.ref C)
  T : OexC K C
  noF : PySem.W.findIn K (.ref C) f = some none
  ini : ∃ fI fd, PySem.W.findIn K (.ref C) "__init__" = some (some (.ref fI)) ∧ PySem.W.typeIn K (.ref fI) = some (.type "function") ∧ Binds K fd ["self", f] [] ∧ Fun K "__init__" qual st fI fd
theorem ExnD.exn {P : Program} {w : World} {K : PySem.W.Frag} {mg : Str → Option Value} {base : Heap} {x f qual : Str} {st : Stmt} {C : Addr} (D : ExnD K mg x f qual st C) (S : FnScope ["self", f] ["self", f] (defScope st))
    (walk : ∀ (fI : Addr) (cdv : Value) (A : Around) (out : List Env) (s : Shared) (H : Hp) (vs : List V) (Q : VK) (E : XK), Room 0 (A.deeper (envOfC qual (defScope st) s.heap.objs.size fI cdv)) → spInit K f vs H Q E →
      ∃ t, PSs (cxOf CX0 P w K mg base ["self", f] qual (defScope st) fI cdv A out s H E).nox (defBody st) t ∧ t { nx := fun _ H' => Q .non H', rt := Q } (start ["self", f] vs) H) : Exn P w K mg base x f C := by
  obtain ⟨fI, fd, a, b, c, F⟩ := D.ini
  refine ⟨D.gC, D.T, D.noF, fI, fd, a, b, c, F.ok S (fun vs H Q E h => ?_) (walk fI)⟩
  obtain ⟨a, C, y, rfl, _⟩ := h
  rfl
/-- an error without a field of its own -/
structure ExnQ (K : PySem.W.Frag) (mg : Str → Option Value) (x : Str) (C : Addr) : Prop where
  gC : mg x = some (.ref C)
  kC : PySem.W.keepIn K (.ref C) = true
  q : ∃ bmB, ExcBaseFacts "ValueError" "ValueError.__new__" "ValueError.__init__" bmB ∧ PySem.W.excIn K C bmB "ValueError.__new__" = true
  exC : PySem.W.subIn K (.ref C) (.type "BaseException") = some true
  tyC : PySem.W.typeIn K (.ref C) = some (.type "type")
theorem ps_raiseQ {X : Cx} {x m : Str} {j : Nat} {C : Addr} {W : WX} {p p2 pos pos2 : Pos} (N : ExnQ X.K X.mg x C) (tk : Takes X W) (hcalm : X.calm = true := by rfl) (hg : Gl X x := by rfl) (hdb : (x == ("__debug__" : Str)) = false := by decide) :
    PS X (.Raise (some (.Call (.Name x p) [.Constant (.str m) j p2] [] pos)) none pos2) (fun _ sg H => W (.ref C) none sg H) := by
  obtain ⟨bmB, F, q⟩ := N.q
  exact ps_raise hcalm tk (pmk_own F q N.gC N.kC (raises_own N.exC N.tyC) hg hdb)
end Jv
namespace S1
open PySem PySem.Spec PyProof.Rows L2 Jv
def topS (i : Nat) : Stmt := PySem.Challenge.pw_jarvisits_k05_visits_by_hand.main.body.getD i (.Pass ⟨0, 0, 0, 0⟩)
abbrev st_is_word : Stmt := topS 15
abbrev N_is_word : List Str := ["thing", "signs", "sign"]
abbrev P_is_word : List Str := ["thing", "signs"]
theorem sc_is_word : FnScope N_is_word P_is_word (defScope st_is_word) := ⟨rfl, rfl, rfl, by decide +kernel, rfl, by decide +kernel, by decide +kernel⟩ -- level 1, cells signs
abbrev st_is_label : Stmt := topS 16
abbrev N_is_label : List Str := ["thing"]
abbrev P_is_label : List Str := ["thing"]
theorem sc_is_label : FnScope N_is_label P_is_label (defScope st_is_label) := ⟨rfl, rfl, rfl, by decide +kernel, rfl, by decide +kernel, by decide +kernel⟩ -- level 2
abbrev st_is_host : Stmt := topS 17
abbrev N_is_host : List Str := ["thing", "label"]
abbrev P_is_host : List Str := ["thing"]
theorem sc_is_host : FnScope N_is_host P_is_host (defScope st_is_host) := ⟨rfl, rfl, rfl, by decide +kernel, rfl, by decide +kernel, by decide +kernel⟩ -- level 3
abbrev st_is_path : Stmt := topS 18
abbrev N_is_path : List Str := ["thing", "segment"]
abbrev P_is_path : List Str := ["thing"]
theorem sc_is_path : FnScope N_is_path P_is_path (defScope st_is_path) := ⟨rfl, rfl, rfl, by decide +kernel, rfl, by decide +kernel, by decide +kernel⟩ -- level 3
abbrev st_is_address : Stmt := topS 19
abbrev N_is_address : List Str := ["thing", "host", "path", "secure"]
abbrev P_is_address : List Str := ["thing"]
theorem sc_is_address : FnScope N_is_address P_is_address (defScope st_is_address) := ⟨rfl, rfl, rfl, by decide +kernel, rfl, by decide +kernel, by decide +kernel⟩ -- level 4
abbrev st_need_address : Stmt := topS 20
abbrev N_need_address : List Str := ["thing"]
abbrev P_need_address : List Str := ["thing"]
theorem sc_need_address : FnScope N_need_address P_need_address (defScope st_need_address) := ⟨rfl, rfl, rfl, by decide +kernel, rfl, by decide +kernel, by decide +kernel⟩ -- level 5
abbrev st_is_within : Stmt := topS 21
abbrev N_is_within : List Str := ["host", "other", "further"]
abbrev P_is_within : List Str := ["host", "other"]
theorem sc_is_within : FnScope N_is_within P_is_within (defScope st_is_within) := ⟨rfl, rfl, rfl, by decide +kernel, rfl, by decide +kernel, by decide +kernel⟩ -- level 1
abbrev st_is_below : Stmt := topS 22
abbrev N_is_below : List Str := ["path", "other"]
abbrev P_is_below : List Str := ["path", "other"]
theorem sc_is_below : FnScope N_is_below P_is_below (defScope st_is_below) := ⟨rfl, rfl, rfl, by decide +kernel, rfl, by decide +kernel, by decide +kernel⟩ -- level 1
abbrev st_is_name : Stmt := topS 26
abbrev N_is_name : List Str := ["thing"]
abbrev P_is_name : List Str := ["thing"]
theorem sc_is_name : FnScope N_is_name P_is_name (defScope st_is_name) := ⟨rfl, rfl, rfl, by decide +kernel, rfl, by decide +kernel, by decide +kernel⟩ -- level 2
abbrev st_need_name : Stmt := topS 27
abbrev N_need_name : List Str := ["thing"]
abbrev P_need_name : List Str := ["thing"]
theorem sc_need_name : FnScope N_need_name P_need_name (defScope st_need_name) := ⟨rfl, rfl, rfl, by decide +kernel, rfl, by decide +kernel, by decide +kernel⟩ -- level 3
abbrev st_is_number_below : Stmt := topS 28
abbrev N_is_number_below : List Str := ["thing", "many"]
abbrev P_is_number_below : List Str := ["thing", "many"]
theorem sc_is_number_below : FnScope N_is_number_below P_is_number_below (defScope st_is_number_below) := ⟨rfl, rfl, rfl, by decide +kernel, rfl, by decide +kernel, by decide +kernel⟩ -- level 1
abbrev st_is_write : Stmt := topS 29
abbrev N_is_write : List Str := ["thing", "name", "value", "domain", "folder", "guarded"]
abbrev P_is_write : List Str := ["thing"]
theorem sc_is_write : FnScope N_is_write P_is_write (defScope st_is_write) := ⟨rfl, rfl, rfl, by decide +kernel, rfl, by decide +kernel, by decide +kernel⟩ -- level 4
abbrev st_is_key : Stmt := topS 30
abbrev N_is_key : List Str := ["thing", "name", "domain", "folder", "alone"]
abbrev P_is_key : List Str := ["thing"]
theorem sc_is_key : FnScope N_is_key P_is_key (defScope st_is_key) := ⟨rfl, rfl, rfl, by decide +kernel, rfl, by decide +kernel, by decide +kernel⟩ -- level 4
abbrev st__need_page_form : Stmt := topS 31
abbrev N__need_page_form : List Str := ["thing", "at", "address", "writes", "number", "write"]
abbrev P__need_page_form : List Str := ["thing", "at"]
theorem sc__need_page_form : FnScope N__need_page_form P__need_page_form (defScope st__need_page_form) := ⟨rfl, rfl, rfl, by decide +kernel, rfl, by decide +kernel, by decide +kernel⟩ -- level 5
abbrev st_need_site : Stmt := topS 32
abbrev N_need_site : List Str := ["thing", "at", "page"]
abbrev P_need_site : List Str := ["thing"]
theorem sc_need_site : FnScope N_need_site P_need_site (defScope st_need_site) := ⟨rfl, rfl, rfl, by decide +kernel, rfl, by decide +kernel, by decide +kernel⟩ -- level 6
abbrev st_need_page : Stmt := topS 33
abbrev N_need_page : List Str := ["site", "thing"]
abbrev P_need_page : List Str := ["site", "thing"]
theorem sc_need_page : FnScope N_need_page P_need_page (defScope st_need_page) := ⟨rfl, rfl, rfl, by decide +kernel, rfl, by decide +kernel, by decide +kernel⟩ -- level 2
abbrev st__is_taken : Stmt := topS 34
abbrev N__is_taken : List Str := ["address", "write", "host", "_", "secure", "domain", "guarded"]
abbrev P__is_taken : List Str := ["address", "write"]
theorem sc__is_taken : FnScope N__is_taken P__is_taken (defScope st__is_taken) := ⟨rfl, rfl, rfl, by decide +kernel, rfl, by decide +kernel, by decide +kernel⟩ -- level 2
abbrev st__key : Stmt := topS 35
abbrev N__key : List Str := ["address", "write", "host", "path", "_", "name", "domain", "folder", "kept_folder"]
abbrev P__key : List Str := ["address", "write"]
theorem sc__key : FnScope N__key P__key (defScope st__key) := ⟨rfl, rfl, rfl, by decide +kernel, rfl, by decide +kernel, by decide +kernel⟩ -- level 1
abbrev st_taken_writes : Stmt := topS 36
abbrev N_taken_writes : List Str := ["page", "address", "writes", "write"]
abbrev P_taken_writes : List Str := ["page"]
theorem sc_taken_writes : FnScope N_taken_writes P_taken_writes (defScope st_taken_writes) := ⟨rfl, rfl, rfl, by decide +kernel, rfl, by decide +kernel, by decide +kernel⟩ -- level 3, cells address
abbrev st_is_kept : Stmt := topS 38
abbrev N_is_kept : List Str := ["thing", "key", "value", "guarded"]
abbrev P_is_kept : List Str := ["thing"]
theorem sc_is_kept : FnScope N_is_kept P_is_kept (defScope st_is_kept) := ⟨rfl, rfl, rfl, by decide +kernel, rfl, by decide +kernel, by decide +kernel⟩ -- level 5
abbrev st__place : Stmt := topS 39
abbrev N__place : List Str := ["kept", "name", "_", "folder"]
abbrev P__place : List Str := ["kept"]
theorem sc__place : FnScope N__place P__place (defScope st__place) := ⟨rfl, rfl, rfl, by decide +kernel, rfl, by decide +kernel, by decide +kernel⟩ -- level 1
abbrev st_need_jar : Stmt := topS 40
abbrev N_need_jar : List Str := ["thing", "seen", "at", "kept"]
abbrev P_need_jar : List Str := ["thing"]
theorem sc_need_jar : FnScope N_need_jar P_need_jar (defScope st_need_jar) := ⟨rfl, rfl, rfl, by decide +kernel, rfl, by decide +kernel, by decide +kernel⟩ -- level 6
abbrev st__need_row : Stmt := topS 41
abbrev N__need_row : List Str := ["site", "thing", "page"]
abbrev P__need_row : List Str := ["site", "thing"]
theorem sc__need_row : FnScope N__need_row P__need_row (defScope st__need_row) := ⟨rfl, rfl, rfl, by decide +kernel, rfl, by decide +kernel, by decide +kernel⟩ -- level 2, cells site
abbrev st__do_writes : Stmt := topS 42
abbrev N__do_writes : List Str := ["table", "writes", "key", "value", "guarded"]
abbrev P__do_writes : List Str := ["table", "writes"]
theorem sc__do_writes : FnScope N__do_writes P__do_writes (defScope st__do_writes) := ⟨rfl, rfl, rfl, by decide +kernel, rfl, by decide +kernel, by decide +kernel⟩ -- level 1
abbrev st__jar_of : Stmt := topS 43
abbrev N__jar_of : List Str := ["table", "key", "value", "guarded"]
abbrev P__jar_of : List Str := ["table"]
theorem sc__jar_of : FnScope N__jar_of P__jar_of (defScope st__jar_of) := ⟨rfl, rfl, rfl, by decide +kernel, rfl, by decide +kernel, by decide +kernel⟩ -- level 1
abbrev st_jar_after : Stmt := topS 44
abbrev N_jar_after : List Str := ["jar", "writes", "table", "key", "value", "guarded"]
abbrev P_jar_after : List Str := ["jar", "writes"]
theorem sc_jar_after : FnScope N_jar_after P_jar_after (defScope st_jar_after) := ⟨rfl, rfl, rfl, by decide +kernel, rfl, by decide +kernel, by decide +kernel⟩ -- level 2
abbrev st_visited : Stmt := topS 45
abbrev N_visited : List Str := ["jar", "site", "page"]
abbrev P_visited : List Str := ["jar", "site", "page"]
theorem sc_visited : FnScope N_visited P_visited (defScope st_visited) := ⟨rfl, rfl, rfl, by decide +kernel, rfl, by decide +kernel, by decide +kernel⟩ -- level 7
abbrev st_behind : Stmt := topS 46
abbrev N_behind : List Str := ["site", "row", "writes_of", "table", "page"]
abbrev P_behind : List Str := ["site", "row"]
theorem sc_behind : FnScope N_behind P_behind (defScope st_behind) := ⟨rfl, rfl, rfl, by decide +kernel, rfl, by decide +kernel, by decide +kernel⟩ -- level 7
abbrev st_reaches : Stmt := topS 47
abbrev N_reaches : List Str := ["key", "host", "_", "domain", "alone"]
abbrev P_reaches : List Str := ["key", "host"]
theorem sc_reaches : FnScope N_reaches P_reaches (defScope st_reaches) := ⟨rfl, rfl, rfl, by decide +kernel, rfl, by decide +kernel, by decide +kernel⟩ -- level 2
abbrev st__goes : Stmt := topS 48
abbrev N__goes : List Str := ["kept", "address", "key", "_", "guarded", "host", "path", "secure"]
abbrev P__goes : List Str := ["kept", "address"]
theorem sc__goes : FnScope N__goes P__goes (defScope st__goes) := ⟨rfl, rfl, rfl, by decide +kernel, rfl, by decide +kernel, by decide +kernel⟩ -- level 3
abbrev st_pairs_sent : Stmt := topS 49
abbrev N_pairs_sent : List Str := ["jar", "address", "kept"]
abbrev P_pairs_sent : List Str := ["jar", "address"]
theorem sc_pairs_sent : FnScope N_pairs_sent P_pairs_sent (defScope st_pairs_sent) := ⟨rfl, rfl, rfl, by decide +kernel, rfl, by decide +kernel, by decide +kernel⟩ -- level 4, cells address
abbrev st_sent : Stmt := topS 50
abbrev N_sent : List Str := ["jar", "address"]
abbrev P_sent : List Str := ["jar", "address"]
theorem sc_sent : FnScope N_sent P_sent (defScope st_sent) := ⟨rfl, rfl, rfl, by decide +kernel, rfl, by decide +kernel, by decide +kernel⟩ -- level 7
abbrev st_value_read : Stmt := topS 51
abbrev N_value_read : List Str := ["jar", "address", "name", "sent_name", "value"]
abbrev P_value_read : List Str := ["jar", "address", "name"]
theorem sc_value_read : FnScope N_value_read P_value_read (defScope st_value_read) := ⟨rfl, rfl, rfl, by decide +kernel, rfl, by decide +kernel, by decide +kernel⟩ -- level 5
abbrev st_read : Stmt := topS 52
abbrev N_read : List Str := ["jar", "address", "name"]
abbrev P_read : List Str := ["jar", "address", "name"]
theorem sc_read : FnScope N_read P_read (defScope st_read) := ⟨rfl, rfl, rfl, by decide +kernel, rfl, by decide +kernel, by decide +kernel⟩ -- level 7
abbrev st__law_mixed : Stmt := topS 54
abbrev N__law_mixed : List Str := ["cell", "k"]
abbrev P__law_mixed : List Str := ["cell", "k"]
theorem sc__law_mixed : FnScope N__law_mixed P__law_mixed (defScope st__law_mixed) := ⟨rfl, rfl, rfl, by decide +kernel, rfl, by decide +kernel, by decide +kernel⟩ -- level 1
abbrev st__law_begin : Stmt := topS 55
abbrev N__law_begin : List Str := ["script", "cells", "cell"]
abbrev P__law_begin : List Str := ["script"]
theorem sc__law_begin : FnScope N__law_begin P__law_begin (defScope st__law_begin) := ⟨rfl, rfl, rfl, by decide +kernel, rfl, by decide +kernel, by decide +kernel⟩ -- level 1
abbrev st__law_draw : Stmt := topS 56
abbrev N__law_draw : List Str := ["state", "many", "at", "place", "left", "number"]
abbrev P__law_draw : List Str := ["state", "many"]
theorem sc__law_draw : FnScope N__law_draw P__law_draw (defScope st__law_draw) := ⟨rfl, rfl, rfl, by decide +kernel, rfl, by decide +kernel, by decide +kernel⟩ -- level 2
abbrev st__law_of : Stmt := topS 57
abbrev N__law_of : List Str := ["state", "some"]
abbrev P__law_of : List Str := ["state", "some"]
theorem sc__law_of : FnScope N__law_of P__law_of (defScope st__law_of) := ⟨rfl, rfl, rfl, by decide +kernel, rfl, by decide +kernel, by decide +kernel⟩ -- level 3
abbrev st__law_values : Stmt := topS 58
abbrev N__law_values : List Str := ["state", "signs", "word", "k"]
abbrev P__law_values : List Str := ["state"]
theorem sc__law_values : FnScope N__law_values P__law_values (defScope st__law_values) := ⟨rfl, rfl, rfl, by decide +kernel, rfl, by decide +kernel, by decide +kernel⟩ -- level 3, cells signs state
abbrev st__law_two_right : Stmt := topS 59
abbrev N__law_two_right : List Str := ["one", "two", "host", "near", "alone", "wide", "page", "goner", "far", "site", "jar", "heard"]
abbrev P__law_two_right : List Str := ["one", "two"]
theorem sc__law_two_right : FnScope N__law_two_right P__law_two_right (defScope st__law_two_right) := ⟨rfl, rfl, rfl, by decide +kernel, rfl, by decide +kernel, by decide +kernel⟩ -- level 8
abbrev st__law_ages_right : Stmt := topS 60
abbrev N__law_ages_right : List Str := ["one", "two", "three", "host", "keys", "first", "second", "goner", "site", "due"]
abbrev P__law_ages_right : List Str := ["one", "two", "three"]
theorem sc__law_ages_right : FnScope N__law_ages_right P__law_ages_right (defScope st__law_ages_right) := ⟨rfl, rfl, rfl, by decide +kernel, rfl, by decide +kernel, by decide +kernel⟩ -- level 8
abbrev st__law_folders_right : Stmt := topS 61
abbrev N__law_folders_right : List Str := ["one", "two", "three", "host", "own", "page", "jar", "due", "heard"]
abbrev P__law_folders_right : List Str := ["one", "two", "three"]
theorem sc__law_folders_right : FnScope N__law_folders_right P__law_folders_right (defScope st__law_folders_right) := ⟨rfl, rfl, rfl, by decide +kernel, rfl, by decide +kernel, by decide +kernel⟩ -- level 8
abbrev st__law_untaken_right : Stmt := topS 62
abbrev N__law_untaken_right : List Str := ["one", "two", "host", "far", "own", "site", "jar"]
abbrev P__law_untaken_right : List Str := ["one", "two"]
theorem sc__law_untaken_right : FnScope N__law_untaken_right P__law_untaken_right (defScope st__law_untaken_right) := ⟨rfl, rfl, rfl, by decide +kernel, rfl, by decide +kernel, by decide +kernel⟩ -- level 8
abbrev st__law_wide_right : Stmt := topS 63
abbrev N__law_wide_right : List Str := ["one", "host", "pages", "far", "some", "due", "page", "jar", "site", "k", "kept", "write"]
abbrev P__law_wide_right : List Str := ["one"]
theorem sc__law_wide_right : FnScope N__law_wide_right P__law_wide_right (defScope st__law_wide_right) := ⟨rfl, rfl, rfl, by decide +kernel, rfl, by decide +kernel, by decide +kernel⟩ -- level 8, cells far host one
abbrev st_law : Stmt := topS 64
abbrev N_law : List Str := ["script", "state", "turn", "one", "two", "three", "host", "near", "page", "due"]
abbrev P_law : List Str := ["script"]
theorem sc_law : FnScope N_law P_law (defScope st_law) := ⟨rfl, rfl, rfl, by decide +kernel, rfl, by decide +kernel, by decide +kernel⟩ -- level 9
abbrev st_BadSite : Stmt := clsDef (topS 2) 0
theorem sc_BadSite : FnScope ["self", "place"] ["self", "place"] (defScope st_BadSite) := ⟨rfl, rfl, rfl, by decide +kernel, rfl, by decide +kernel, by decide +kernel⟩
abbrev st_BadAddress : Stmt := clsDef (topS 3) 0
theorem sc_BadAddress : FnScope ["self", "given"] ["self", "given"] (defScope st_BadAddress) := ⟨rfl, rfl, rfl, by decide +kernel, rfl, by decide +kernel, by decide +kernel⟩
abbrev st_BadRow : Stmt := clsDef (topS 4) 0
theorem sc_BadRow : FnScope ["self", "given"] ["self", "given"] (defScope st_BadRow) := ⟨rfl, rfl, rfl, by decide +kernel, rfl, by decide +kernel, by decide +kernel⟩
abbrev st_BadName : Stmt := clsDef (topS 5) 0
theorem sc_BadName : FnScope ["self", "given"] ["self", "given"] (defScope st_BadName) := ⟨rfl, rfl, rfl, by decide +kernel, rfl, by decide +kernel, by decide +kernel⟩
abbrev st_BadPage : Stmt := clsDef (topS 6) 0
theorem sc_BadPage : FnScope ["self", "given"] ["self", "given"] (defScope st_BadPage) := ⟨rfl, rfl, rfl, by decide +kernel, rfl, by decide +kernel, by decide +kernel⟩
abbrev st_BadJar : Stmt := clsDef (topS 7) 0
theorem sc_BadJar : FnScope ["self", "place"] ["self", "place"] (defScope st_BadJar) := ⟨rfl, rfl, rfl, by decide +kernel, rfl, by decide +kernel, by decide +kernel⟩
def sgs : Str := "abcdefghijklmnopqrstuvwxyz0123456789"
def lts : Str := "abcdefghijklmnopqrstuvwxyz"
structure Txt (K : PySem.W.Frag) (mg : Str → Option Value) : Prop where
  d_is_word : Dn K mg "is_word" st_is_word P_is_word
  d_is_label : Dn K mg "is_label" st_is_label P_is_label
  d_is_host : Dn K mg "is_host" st_is_host P_is_host
  d_is_path : Dn K mg "is_path" st_is_path P_is_path
  d_is_address : Dn K mg "is_address" st_is_address P_is_address
  d_need_address : Dn K mg "need_address" st_need_address P_need_address
  d_is_within : Dn K mg "is_within" st_is_within P_is_within
  d_is_below : Dn K mg "is_below" st_is_below P_is_below
  d_is_name : Dn K mg "is_name" st_is_name P_is_name
  d_need_name : Dn K mg "need_name" st_need_name P_need_name
  d_is_number_below : Dn K mg "is_number_below" st_is_number_below P_is_number_below
  d_is_write : Dn K mg "is_write" st_is_write P_is_write
  d_is_key : Dn K mg "is_key" st_is_key P_is_key
  d__need_page_form : Dn K mg "_need_page_form" st__need_page_form P__need_page_form
  d_need_site : Dn K mg "need_site" st_need_site P_need_site
  d_need_page : Dn K mg "need_page" st_need_page P_need_page
  d__is_taken : Dn K mg "_is_taken" st__is_taken P__is_taken
  d__key : Dn K mg "_key" st__key P__key
  d_taken_writes : Dn K mg "taken_writes" st_taken_writes P_taken_writes
  d_is_kept : Dn K mg "is_kept" st_is_kept P_is_kept
  d__place : Dn K mg "_place" st__place P__place
  d_need_jar : Dn K mg "need_jar" st_need_jar P_need_jar
  d__need_row : Dn K mg "_need_row" st__need_row P__need_row
  d__do_writes : Dn K mg "_do_writes" st__do_writes P__do_writes
  d__jar_of : Dn K mg "_jar_of" st__jar_of P__jar_of
  d_jar_after : Dn K mg "jar_after" st_jar_after P_jar_after
  d_visited : Dn K mg "visited" st_visited P_visited
  d_behind : Dn K mg "behind" st_behind P_behind
  d_reaches : Dn K mg "reaches" st_reaches P_reaches
  d__goes : Dn K mg "_goes" st__goes P__goes
  d_pairs_sent : Dn K mg "pairs_sent" st_pairs_sent P_pairs_sent
  d_sent : Dn K mg "sent" st_sent P_sent
  d_value_read : Dn K mg "value_read" st_value_read P_value_read
  d_read : Dn K mg "read" st_read P_read
  d__law_mixed : Dn K mg "_law_mixed" st__law_mixed P__law_mixed
  d__law_begin : Dn K mg "_law_begin" st__law_begin P__law_begin
  d__law_draw : Dn K mg "_law_draw" st__law_draw P__law_draw
  d__law_of : Dn K mg "_law_of" st__law_of P__law_of
  d__law_values : Dn K mg "_law_values" st__law_values P__law_values
  d__law_two_right : Dn K mg "_law_two_right" st__law_two_right P__law_two_right
  d__law_ages_right : Dn K mg "_law_ages_right" st__law_ages_right P__law_ages_right
  d__law_folders_right : Dn K mg "_law_folders_right" st__law_folders_right P__law_folders_right
  d__law_untaken_right : Dn K mg "_law_untaken_right" st__law_untaken_right P__law_untaken_right
  d__law_wide_right : Dn K mg "_law_wide_right" st__law_wide_right P__law_wide_right
  d_law : Dn K mg "law" st_law P_law
  z_all : mg "all" = none
  z_bool : mg "bool" = none
  z_enumerate : mg "enumerate" = none
  z_int : mg "int" = none
  z_isinstance : mg "isinstance" = none
  z_len : mg "len" = none
  z_list : mg "list" = none
  z_min : mg "min" = none
  z_range : mg "range" = none
  z_set : mg "set" = none
  z_sorted : mg "sorted" = none
  z_str : mg "str" = none
  z_tuple : mg "tuple" = none
  b_JarError : ∃ B, BaseI K mg "JarError" B
  x_BadSite : ∃ C, ExnD K mg "BadSite" "place" "BadSite.__init__" st_BadSite C
  x_BadAddress : ∃ C, ExnD K mg "BadAddress" "given" "BadAddress.__init__" st_BadAddress C
  x_BadRow : ∃ C, ExnD K mg "BadRow" "given" "BadRow.__init__" st_BadRow C
  x_BadName : ∃ C, ExnD K mg "BadName" "given" "BadName.__init__" st_BadName C
  x_BadPage : ∃ C, ExnD K mg "BadPage" "given" "BadPage.__init__" st_BadPage C
  x_BadJar : ∃ C, ExnD K mg "BadJar" "place" "BadJar.__init__" st_BadJar C
  c_LETTERS : Gc mg "LETTERS" (.str lts)
  c_SIGNS : Gc mg "SIGNS" (.str sgs)
  c_LONGEST_WORD : Gc mg "LONGEST_WORD" (.int 6)
  c_LEAST_LABELS : Gc mg "LEAST_LABELS" (.int 2)
  c_MOST_LABELS : Gc mg "MOST_LABELS" (.int 5)
  c_MOST_SEGMENTS : Gc mg "MOST_SEGMENTS" (.int 4)
  c_MOST_PAGES : Gc mg "MOST_PAGES" (.int 5)
  c_MOST_WRITES : Gc mg "MOST_WRITES" (.int 5)
/-! ### what is asked of data -/
def okW (z x : Str) : Bool := decide ((1 : Int) ≤ (x.length : Int)) && decide ((x.length : Int) ≤ 6) && x.cps.toList.all fun c => decide (c ∈ z.cps.toList)
def okD (z : Str) : PyData → Bool
  | .str x => okW z x
  | _ => false
def okT (lo hi : Int) : PyData → Bool
  | .tuple ds => decide (lo ≤ (ds.length : Int)) && decide ((ds.length : Int) ≤ hi) && ds.all (okD sgs)
  | _ => false
def okA : PyData → Bool
  | .tuple [h, p, s] => okT 2 5 h && okT 0 4 p && dBl s
  | _ => false
def isNon : PyData → Bool
  | .none => true
  | _ => false
def okWr : PyData → Bool
  | .tuple [n, v, d, f, g] => okD lts n && dBl g && (isNon v || okD sgs v) && (isNon d || okT 2 5 d) && (isNon f || okT 0 4 f)
  | _ => false
theorem walk_signs {x : Str} {f : Nat → V} : Walk (Its x) (x.cps.toList.map f).length (fun _ => True) (fun i H v H' => H' = H ∧ ∃ c, x.cps.toList[i]? = some c ∧ v = .str ⟨#[c]⟩) := by
  have e : (x.cps.toList.map f).length = x.cps.size := by simp
  rw [e]
  exact walk_str.mono (fun _ h => h) fun i H v H' _ _ ⟨a, c, b, d⟩ => ⟨a, c, by simpa using b, d⟩
theorem all_map (f : Nat → Bool) (l : List Nat) : (l.map f).all id = l.all f := by
  rw [List.all_map]
  rfl
theorem all_mapD (f : PyData → Bool) (l : List PyData) : (l.map f).all id = l.all f := by
  rw [List.all_map]
  rfl
theorem sz1000 {n : Nat} (h : n ≤ 1000) : n ≤ sizeLine := Nat.le_trans h (by decide)
theorem small100 {n : Nat} (h : n ≤ 1000) : n ≤ 100000 := Nat.le_trans h (by decide)
theorem same_new {H : Hp} {p : Addr} {o : HO} (h : H p = none) : Same H (upd H p o) := fun b x e => by
  rw [upd_ne (ne_of_none e h)]
  exact e
section
variable {P : Program} {w : World} {K : PySem.W.Frag} {mg : Str → Option Value} {base : Heap}
/-- a def that tells f of one thing and changes nothing -/
def spOne (K : PySem.W.Frag) (f : PyData → Bool) : Sp := fun vs H Q _ => ∃ v d, vs = [v] ∧ Da K H v d ∧ ∀ H', Same H H' → Q (.bl (f d)) H'
def spWord (K : PySem.W.Frag) : Sp := fun vs H Q _ => ∃ v d z, vs = [v, .str z] ∧ Da K H v d ∧ ∀ H', Same H H' → Q (.bl (okD z d)) H'
theorem ok_is_word (T : Txt K mg) : Ok P w K mg base "is_word" P_is_word 1 (spWord K) := by
  refine T.d_is_word.ok sc_is_word (fun vs H Q E h => ?_) (fun f cdv A out s H vs Q E hr h => ?_)
  · obtain ⟨v, d, z, rfl, _⟩ := h
    rfl
  · obtain ⟨v, d, z, rfl, hd, q⟩ := h
    refine ⟨_, (pss_cons (ps_if (PW.pt (pw_or (pt_not (pt_val (pe_callB call_isi (by rfl) T.z_isinstance (by decide +kernel) (pa_cons (pv 0) (pa_cons (pe_bltn (v := .ty "str") (by rfl) T.z_str (by decide +kernel) rfl) pa_nil))))) (pw_or1 (pt_not (pt_chain op_le op_le pe_int (pe_callB call_len (by rfl) T.z_len (by decide +kernel) (pa_cons (pv 0) pa_nil)) (pe_gc T.c_LONGEST_WORD)))))) (pss_one (ps_ret pe_bl)) pss_nil)
    (pss_one (ps_ret (pe_callB (cr_all rfl) (by rfl) T.z_all (by decide +kernel) (pa_cons (pe_lc (own := [("sign", 2)]) (g := gName 2) (tt := tYes) rfl sc_is_word.nd (pi_str (pv 0)) (blkOk_by (N := N_is_word) (sc := defScope st_is_word) (by decide +kernel)) (fun _ _ _ _ _ => pg_name (i := 2) sc_is_word.nd rfl (Or.inl rfl)) (fun _ _ _ _ _ => pts_nil) (fun _ _ _ _ _ => (pe_cmpR op_in_sign (pv 2) (pv 1) (by rfl)))) pa_nil))))), ?_⟩
    obtain ⟨t, ty, _, ks, _⟩ := Da.isi hd
    refine ⟨v, rfl, v, .ty "str", t, .type "str", dStr d, rfl, .ty "str", ty, ks, dStr d, rfl, ?_⟩
    cases hd with
    | str x hx =>
      have e : okD z (.str x) = okW z x := rfl
      rw [e] at q
      refine iteF ⟨.str x, rfl, .str x, x.length, rfl, ⟨sz1000 hx, rfl⟩, 1, x.length, rfl, rfl, _, rfl, ite2 (fun h1 => ?_) (fun h1 => ?_)⟩
      · refine ⟨x.length, 6, rfl, rfl, _, rfl, ?_⟩
        by_cases h2 : (x.length : Int) ≤ 6
        · rw [decide_eq_true h2]
          refine iteF ?_
          refine ⟨.str x, rfl, x, rfl, fun D nD => lc_pure (ys := x.cps.toList.map fun c => .bl (decide (c ∈ z.cps.toList))) walk_signs nD ?_ (fun _ _ => trivial) (fun _ => rfl) (fun i v y H1 H2 e s1 g k hk => ?_) (fun H1 s1 d => ?_)⟩
          · rw [List.length_map]
            exact Nat.le_trans hx (by decide)
          · obtain ⟨rfl, c, e1, rfl⟩ := g
            rw [List.getElem?_map, e1] at e
            cases e
            exact ⟨_, rfl, _, rfl, c, z, rfl, rfl, hk _ (Same.refl _)⟩
          · refine ⟨D, x.cps.toList.map (fun c => decide (c ∈ z.cps.toList)), rfl, SqL.of ?_, ?_⟩
            · rw [List.map_map]
              exact d
            · rw [all_map]
              have e2 : okW z x = x.cps.toList.all fun c => decide (c ∈ z.cps.toList) := by
                unfold okW
                rw [h1, decide_eq_true h2]
                rfl
              rw [← e2]
              exact q H1 s1
        · rw [decide_eq_false h2]
          have e2 : okW z x = false := by
            unfold okW
            rw [decide_eq_false h2]
            simp
          rw [e2] at q
          exact iteT (q H (Same.refl H))
      · have e2 : okW z x = false := by
          unfold okW
          rw [Bool.eq_false_iff.mpr h1]
          rfl
        rw [e2] at q
        exact ⟨_, rfl, iteT (q H (Same.refl H))⟩
    | non => exact iteT (iteT (q H (Same.refl H)))
    | int i => exact iteT (iteT (q H (Same.refl H)))
    | bl b => exact iteT (iteT (q H (Same.refl H)))
    | tup _ _ _ => exact iteT (iteT (q H (Same.refl H)))
    | lst _ _ _ => exact iteT (iteT (q H (Same.refl H)))
    | dic _ => exact iteT (iteT (q H (Same.refl H)))
theorem ok_is_label (T : Txt K mg) : Ok P w K mg base "is_label" P_is_label 2 (spOne K (okD sgs)) := by
  have ok_is_word : Ok P w K mg base "is_word" P_is_word 1 (spWord K) := ok_is_word T
  refine T.d_is_label.ok sc_is_label (fun vs H Q E h => ?_) (fun f cdv A out s H vs Q E hr h => ?_)
  · obtain ⟨v, d, rfl, _⟩ := h
    rfl
  · obtain ⟨v, d, rfl, hd, q⟩ := h
    refine ⟨_, (pss_one (ps_ret (pe_ok ok_is_word (hr.mono (by decide)) (pa_cons (pv 0) (pa_cons (pe_gc T.c_SIGNS) pa_nil))))), ?_⟩
    exact ⟨v, rfl, v, d, sgs, rfl, hd, q⟩
theorem ok_is_name (T : Txt K mg) : Ok P w K mg base "is_name" P_is_name 2 (spOne K (okD lts)) := by
  have ok_is_word : Ok P w K mg base "is_word" P_is_word 1 (spWord K) := ok_is_word T
  refine T.d_is_name.ok sc_is_name (fun vs H Q E h => ?_) (fun f cdv A out s H vs Q E hr h => ?_)
  · obtain ⟨v, d, rfl, _⟩ := h
    rfl
  · obtain ⟨v, d, rfl, hd, q⟩ := h
    refine ⟨_, (pss_one (ps_ret (pe_ok ok_is_word (hr.mono (by decide)) (pa_cons (pv 0) (pa_cons (pe_gc T.c_LETTERS) pa_nil))))), ?_⟩
    exact ⟨v, rfl, v, d, lts, rfl, hd, q⟩
theorem ok_is_host (T : Txt K mg) : Ok P w K mg base "is_host" P_is_host 3 (spOne K (okT 2 5)) := by
  have ok_is_label : Ok P w K mg base "is_label" P_is_label 2 (spOne K (okD sgs)) := ok_is_label T
  refine T.d_is_host.ok sc_is_host (fun vs H Q E h => ?_) (fun f cdv A out s H vs Q E hr h => ?_)
  · obtain ⟨v, d, rfl, _⟩ := h
    rfl
  · obtain ⟨v, d, rfl, hd, q⟩ := h
    refine ⟨_, (pss_cons (ps_if (PW.pt (pw_or (pt_not (pt_val (pe_callB call_isi (by rfl) T.z_isinstance (by decide +kernel) (pa_cons (pv 0) (pa_cons (pe_bltn (v := .ty "tuple") (by rfl) T.z_tuple (by decide +kernel) rfl) pa_nil))))) (pw_or1 (pt_not (pt_chain op_le op_le (pe_gc T.c_LEAST_LABELS) (pe_callB call_len (by rfl) T.z_len (by decide +kernel) (pa_cons (pv 0) pa_nil)) (pe_gc T.c_MOST_LABELS)))))) (pss_one (ps_ret pe_bl)) pss_nil)
    (pss_one (ps_ret (pe_callB (cr_all rfl) (by rfl) T.z_all (by decide +kernel) (pa_cons (pe_lc (own := [("label", 1)]) (g := gName 1) (tt := tYes) rfl sc_is_host.nd (pi_tup (pv 0)) (blkOk_by (N := N_is_host) (sc := defScope st_is_host) (by decide +kernel)) (fun _ _ _ _ _ => pg_name (i := 1) sc_is_host.nd rfl (Or.inl rfl)) (fun _ _ _ _ _ => pts_nil) (fun _ _ _ _ _ => (pe_ok ok_is_label (hr.mono (by decide)) (pa_cons (pv 1) pa_nil)))) pa_nil))))), ?_⟩
    obtain ⟨t, ty, ks, _, _, _⟩ := Da.isi hd
    refine ⟨v, rfl, v, .ty "tuple", t, .type "tuple", dTup d, rfl, .ty "tuple", ty, ks, dTup d, rfl, ?_⟩
    cases hd with
    | @tup a xs ds h1 h3 hz =>
      have nl := DaAll.len h3
      have e0 : okT 2 5 (.tuple ds) = (decide ((2 : Int) ≤ (ds.length : Int)) && decide ((ds.length : Int) ≤ 5) && ds.all (okD sgs)) := rfl
      rw [e0, ← nl] at q
      refine iteF ⟨.ref a, rfl, .ref a, xs.length, rfl, Or.inr ⟨xs, h1, rfl⟩, 2, xs.length, rfl, rfl, _, rfl, ite2 (fun g1 => ?_) (fun g1 => ?_)⟩
      · refine ⟨xs.length, 5, rfl, rfl, _, rfl, ?_⟩
        by_cases g2 : (xs.length : Int) ≤ 5
        · rw [decide_eq_true g2]
          rw [g1, decide_eq_true g2] at q
          refine iteF ?_
          refine ⟨.ref a, rfl, a, rfl, ⟨xs, h1⟩, fun D nD => lc_pure (ys := ds.map fun d => .bl (okD sgs d)) (by rw [List.length_map, ← nl]; exact walk_tup) nD ?_ (fun H1 s1 => sqT_same s1 h1) (fun _ => rfl) (fun i x y H1 H2 e s1 g k hk => ?_) (fun H1 s1 d => ?_)⟩
          · rw [List.length_map]
            exact small100 hz
          · obtain ⟨rfl, e1⟩ := g
            obtain ⟨d, e2, hx⟩ := DaAll.get h3 e1
            rw [List.getElem?_map, e2] at e
            cases e
            exact ⟨x, rfl, x, d, rfl, Da.same s1 _ _ hx, fun H' s' => hk H' s'⟩
          · refine ⟨D, ds.map (okD sgs), rfl, SqL.of ?_, ?_⟩
            · rw [List.map_map]
              exact d
            · rw [all_mapD]
              exact q H1 s1
        · rw [decide_eq_false g2]
          rw [g1, decide_eq_false g2] at q
          exact iteT (q H (Same.refl H))
      · rw [Bool.eq_false_iff.mpr g1] at q
        exact ⟨_, rfl, iteT (q H (Same.refl H))⟩
    | non => exact iteT (iteT (q H (Same.refl H)))
    | int i => exact iteT (iteT (q H (Same.refl H)))
    | bl b => exact iteT (iteT (q H (Same.refl H)))
    | str _ _ => exact iteT (iteT (q H (Same.refl H)))
    | lst _ _ _ => exact iteT (iteT (q H (Same.refl H)))
    | dic _ => exact iteT (iteT (q H (Same.refl H)))
theorem ok_is_path (T : Txt K mg) : Ok P w K mg base "is_path" P_is_path 3 (spOne K (okT 0 4)) := by
  have ok_is_label : Ok P w K mg base "is_label" P_is_label 2 (spOne K (okD sgs)) := ok_is_label T
  refine T.d_is_path.ok sc_is_path (fun vs H Q E h => ?_) (fun f cdv A out s H vs Q E hr h => ?_)
  · obtain ⟨v, d, rfl, _⟩ := h
    rfl
  · obtain ⟨v, d, rfl, hd, q⟩ := h
    refine ⟨_, (pss_cons (ps_if (PW.pt (pw_or (pt_not (pt_val (pe_callB call_isi (by rfl) T.z_isinstance (by decide +kernel) (pa_cons (pv 0) (pa_cons (pe_bltn (v := .ty "tuple") (by rfl) T.z_tuple (by decide +kernel) rfl) pa_nil))))) (pw_or1 (pt_cmpR op_gt (pe_callB call_len (by rfl) T.z_len (by decide +kernel) (pa_cons (pv 0) pa_nil)) (pe_gc T.c_MOST_SEGMENTS) (nomark _))))) (pss_one (ps_ret pe_bl)) pss_nil)
    (pss_one (ps_ret (pe_callB (cr_all rfl) (by rfl) T.z_all (by decide +kernel) (pa_cons (pe_lc (own := [("segment", 1)]) (g := gName 1) (tt := tYes) rfl sc_is_path.nd (pi_tup (pv 0)) (blkOk_by (N := N_is_path) (sc := defScope st_is_path) (by decide +kernel)) (fun _ _ _ _ _ => pg_name (i := 1) sc_is_path.nd rfl (Or.inl rfl)) (fun _ _ _ _ _ => pts_nil) (fun _ _ _ _ _ => (pe_ok ok_is_label (hr.mono (by decide)) (pa_cons (pv 1) pa_nil)))) pa_nil))))), ?_⟩
    obtain ⟨t, ty, ks, _, _, _⟩ := Da.isi hd
    refine ⟨v, rfl, v, .ty "tuple", t, .type "tuple", dTup d, rfl, .ty "tuple", ty, ks, dTup d, rfl, ?_⟩
    cases hd with
    | @tup a xs ds h1 h3 hz =>
      have nl := DaAll.len h3
      have e0 : okT 0 4 (.tuple ds) = (decide ((0 : Int) ≤ (ds.length : Int)) && decide ((ds.length : Int) ≤ 4) && ds.all (okD sgs)) := rfl
      rw [e0, ← nl, decide_eq_true (Int.natCast_nonneg xs.length)] at q
      refine iteF ⟨.ref a, rfl, .ref a, xs.length, rfl, Or.inr ⟨xs, h1, rfl⟩, xs.length, 4, rfl, rfl, _, rfl, ?_⟩
      by_cases g2 : (xs.length : Int) ≤ 4
      · rw [decide_eq_false (show ¬ (4 : Int) < xs.length by omega)]
        rw [decide_eq_true g2] at q
        refine iteF ?_
        refine ⟨.ref a, rfl, a, rfl, ⟨xs, h1⟩, fun D nD => lc_pure (ys := ds.map fun d => .bl (okD sgs d)) (by rw [List.length_map, ← nl]; exact walk_tup) nD ?_ (fun H1 s1 => sqT_same s1 h1) (fun _ => rfl) (fun i x y H1 H2 e s1 g k hk => ?_) (fun H1 s1 d => ?_)⟩
        · rw [List.length_map]
          exact small100 hz
        · obtain ⟨rfl, e1⟩ := g
          obtain ⟨d, e2, hx⟩ := DaAll.get h3 e1
          rw [List.getElem?_map, e2] at e
          cases e
          exact ⟨x, rfl, x, d, rfl, Da.same s1 _ _ hx, fun H' s' => hk H' s'⟩
        · refine ⟨D, ds.map (okD sgs), rfl, SqL.of ?_, ?_⟩
          · rw [List.map_map]
            exact d
          · rw [all_mapD]
            exact q H1 s1
      · rw [decide_eq_true (show (4 : Int) < xs.length by omega)]
        rw [decide_eq_false g2] at q
        exact iteT (q H (Same.refl H))
    | non => exact iteT (iteT (q H (Same.refl H)))
    | int i => exact iteT (iteT (q H (Same.refl H)))
    | bl b => exact iteT (iteT (q H (Same.refl H)))
    | str _ _ => exact iteT (iteT (q H (Same.refl H)))
    | lst _ _ _ => exact iteT (iteT (q H (Same.refl H)))
    | dic _ => exact iteT (iteT (q H (Same.refl H)))
theorem okA_not3 : ∀ {ds : List PyData}, ds.length ≠ 3 → okA (.tuple ds) = false
  | [], _ => rfl
  | [_], _ => rfl
  | [_, _], _ => rfl
  | [_, _, _], h => absurd rfl h
  | _ :: _ :: _ :: _ :: _, _ => rfl
theorem ok_is_address (T : Txt K mg) : Ok P w K mg base "is_address" P_is_address 4 (spOne K okA) := by
  have ok_is_host : Ok P w K mg base "is_host" P_is_host 3 (spOne K (okT 2 5)) := ok_is_host T
  have ok_is_path : Ok P w K mg base "is_path" P_is_path 3 (spOne K (okT 0 4)) := ok_is_path T
  refine T.d_is_address.ok sc_is_address (fun vs H Q E h => ?_) (fun f cdv A out s H vs Q E hr h => ?_)
  · obtain ⟨v, d, rfl, _⟩ := h
    rfl
  · obtain ⟨v, d, rfl, hd, q⟩ := h
    refine ⟨_, (pss_cons (ps_if (PW.pt (pw_or (pt_not (pt_val (pe_callB call_isi (by rfl) T.z_isinstance (by decide +kernel) (pa_cons (pv 0) (pa_cons (pe_bltn (v := .ty "tuple") (by rfl) T.z_tuple (by decide +kernel) rfl) pa_nil))))) (pw_or1 (pt_cmpR op_ne (pe_callB call_len (by rfl) T.z_len (by decide +kernel) (pa_cons (pv 0) pa_nil)) pe_int (nomark _))))) (pss_one (ps_ret pe_bl)) pss_nil)
    (pss_cons (ps_asg (pv 0) (pg_tup rfl (pgs_cons (pg_name (i := 1) sc_is_address.nd rfl (Or.inl rfl)) (pgs_cons (pg_name (i := 2) sc_is_address.nd rfl (Or.inl rfl)) (pgs_cons (pg_name (i := 3) sc_is_address.nd rfl (Or.inl rfl)) pgs_nil)))))
    (pss_one (ps_ret (pe_and (pe_ok ok_is_host (hr.mono (by decide)) (pa_cons (pv 1) pa_nil)) (pe_and (pe_ok ok_is_path (hr.mono (by decide)) (pa_cons (pv 2) pa_nil)) (pe_one (pe_callB call_isi (by rfl) T.z_isinstance (by decide +kernel) (pa_cons (pv 3) (pa_cons (pe_bltn (v := .ty "bool") (by rfl) T.z_bool (by decide +kernel) rfl) pa_nil)))))))))), ?_⟩
    obtain ⟨t, ty, ks, _, _, _⟩ := Da.isi hd
    refine ⟨v, rfl, v, .ty "tuple", t, .type "tuple", dTup d, rfl, .ty "tuple", ty, ks, dTup d, rfl, ?_⟩
    cases hd with
    | @tup a xs ds h1 h3 hz =>
      have nl := DaAll.len h3
      refine iteF ⟨.ref a, rfl, .ref a, xs.length, rfl, Or.inr ⟨xs, h1, rfl⟩, rfl, _, rfl, ?_⟩
      by_cases g : xs.length = 3
      · rw [decide_eq_true (show V.int (xs.length : Int) = V.int 3 by rw [g]; rfl)]
        refine iteF ?_
        match xs, ds, h3, nl, g with
        | [x0, x1, x2], [d0, d1, d2], .cons p0 (.cons p1 (.cons p2 .nil)), _, _ =>
          refine ⟨.ref a, rfl, a, [x0, x1, x2], rfl, h1, rfl, x0, [x1, x2], rfl, x1, [x2], rfl, x2, [], rfl, rfl, ?_⟩
          refine ⟨x0, rfl, x0, d0, rfl, p0, fun H1 s1 => ⟨okT 2 5 d0, rfl, ?_⟩⟩
          have e0 : okA (.tuple [d0, d1, d2]) = (okT 2 5 d0 && okT 0 4 d1 && dBl d2) := rfl
          rw [e0] at q
          cases b0 : okT 2 5 d0 with
          | false =>
            rw [b0] at q
            exact iteF (q H1 s1)
          | true =>
            rw [b0] at q
            refine iteT ⟨x1, rfl, x1, d1, rfl, Da.same s1 _ _ p1, fun H2 s2 => ⟨okT 0 4 d1, rfl, ?_⟩⟩
            cases b1 : okT 0 4 d1 with
            | false =>
              rw [b1] at q
              exact iteF (q H2 (s1.trans s2))
            | true =>
              rw [b1] at q
              obtain ⟨t2, ty2, _, _, ks2, _⟩ := Da.isi (Da.same (s1.trans s2) _ _ p2)
              exact iteT ⟨x2, rfl, x2, .ty "bool", t2, .type "bool", dBl d2, rfl, .ty "bool", ty2, ks2, q H2 (s1.trans s2)⟩
      · rw [decide_eq_false (show ¬ V.int (xs.length : Int) = V.int 3 from fun z => g (by have := V.int.inj z; omega))]
        rw [okA_not3 (by omega)] at q
        exact iteT (q H (Same.refl H))
    | non => exact iteT (iteT (q H (Same.refl H)))
    | int i => exact iteT (iteT (q H (Same.refl H)))
    | bl b => exact iteT (iteT (q H (Same.refl H)))
    | str _ _ => exact iteT (iteT (q H (Same.refl H)))
    | lst _ _ _ => exact iteT (iteT (q H (Same.refl H)))
    | dic _ => exact iteT (iteT (q H (Same.refl H)))
end
end S1
namespace S1
open PySem PySem.Spec PyProof.Rows L2 Jv
def isNum (m : Int) : PyData → Bool
  | .int i => decide (0 ≤ i) && decide (i < m)
  | _ => false
theorem Da.nonV {K : PySem.W.Frag} {H : Hp} {v : V} {d : PyData} (h : Da K H v d) : decide (v = .non) = isNon d := by
  cases h <;> rfl
theorem okWr_not5 : ∀ {ds : List PyData}, ds.length ≠ 5 → okWr (.tuple ds) = false
  | [], _ => rfl
  | [_], _ => rfl
  | [_, _], _ => rfl
  | [_, _, _], _ => rfl
  | [_, _, _, _], _ => rfl
  | [_, _, _, _, _], h => absurd rfl h
  | _ :: _ :: _ :: _ :: _ :: _ :: _, _ => rfl
section
variable {P : Program} {w : World} {K : PySem.W.Frag} {mg : Str → Option Value} {base : Heap}
def spTwo (K : PySem.W.Frag) (f : List Str → List Str → Bool) : Sp := fun vs H Q _ => ∃ v u xs ys, vs = [v, u] ∧ Da K H v (.tuple (xs.map .str)) ∧ Da K H u (.tuple (ys.map .str)) ∧ (∀ x ∈ xs, PyData.strOk x = true) ∧ (∀ x ∈ ys, PyData.strOk x = true) ∧
  ∀ H', Same H H' → Q (.bl (f xs ys)) H'
theorem ok_is_within (T : Txt K mg) : Ok P w K mg base "is_within" P_is_within 1 (spTwo K within) := by
  refine T.d_is_within.ok sc_is_within (fun vs H Q E h => ?_) (fun f cdv A out s H vs Q E hr h => ?_)
  · obtain ⟨a, b, xs, ys, rfl, _⟩ := h
    rfl
  · obtain ⟨v, u, xs, ys, rfl, ha, hb, ox, oy, q⟩ := h
    refine ⟨_, (pss_cons (ps_set (i := 2) sc_is_within.nd rfl (Or.inl rfl) (pe_op op_sub (pe_callB call_len (by rfl) T.z_len (by decide +kernel) (pa_cons (pv 0) pa_nil)) (pe_callB call_len (by rfl) T.z_len (by decide +kernel) (pa_cons (pv 1) pa_nil))))
    (pss_one (ps_ret (pe_and (pe_cmpR op_ge (pv 2) pe_int (nomark _)) (pe_one (pe_cmpR (op_eqA hr.units) (pe_slice sl_tupA (pv 0) (po_some (pv 2)) po_none) (pv 1) (nomark _))))))), ?_⟩
    have hb0 := hb
    obtain ⟨a, rfl, ta, na⟩ := da_strs ha
    obtain ⟨b, rfl, tb, nb⟩ := da_strs hb
    have lx : ∀ x ∈ xs, x.length ≤ 1000 := by
      cases ha with
      | tup h1 h2 hz => exact da_strs_len h2
    refine ⟨.ref a, rfl, .ref a, _, rfl, Or.inr ⟨_, ta, rfl⟩, .ref b, rfl, .ref b, _, rfl, Or.inr ⟨_, tb, rfl⟩, _, _, rfl, rfl, ?_⟩
    refine ⟨_, rfl, _, 0, rfl, rfl, _, rfl, ?_⟩
    rw [lenStrs, lenStrs]
    by_cases h : ys.length ≤ xs.length
    · have e : within xs ys = decide (xs.drop (xs.length - ys.length) = ys) := by
        unfold within
        rw [decide_eq_true h, Bool.true_and]
      rw [e] at q
      rw [decide_eq_true (show (0 : Int) ≤ (xs.length : Int) - (ys.length : Int) by omega)]
      refine iteT ⟨.ref a, rfl, _, rfl, (xs.length : Int) - (ys.length : Int), rfl, ?_⟩
      rw [show (xs.length : Int) - (ys.length : Int) = ((xs.length - ys.length : Nat) : Int) by omega]
      refine ⟨a, xs.map V.str, rfl, ta, fun c => ?_, fun _ p np => ?_⟩
      · have z : xs.drop (xs.length - ys.length) = xs := by
          have c1 := c.1
          rw [HT.sIx_nat, List.length_map] at c1
          rw [show xs.length - ys.length = 0 by omega]
          rfl
        rw [z] at q
        refine ⟨.ref b, rfl, _, _, ha, hb0, shaped_strs ox, shaped_strs oy, ?_⟩
        rw [eqv_strs]
        exact q H (Same.refl H)
      · rw [cut_from _ (by rw [List.length_map]; omega), ← List.map_drop]
        have sm : Same H (upd H p (.tup ((xs.drop (xs.length - ys.length)).map V.str))) := same_new np
        refine ⟨.ref b, rfl, _, _, .tup (SqT.of upd_same) (daStrs _ fun x hx => lx x (List.mem_of_mem_drop hx)) ?_, Da.same sm _ _ hb0, shaped_strs fun x hx => ox x (List.mem_of_mem_drop hx), shaped_strs oy, ?_⟩
        · rw [List.length_map, List.length_drop]
          omega
        · rw [eqv_strs]
          exact q _ sm
    · have e : within xs ys = false := by
        unfold within
        rw [decide_eq_false h]
        rfl
      rw [e] at q
      rw [decide_eq_false (show ¬ (0 : Int) ≤ (xs.length : Int) - (ys.length : Int) by omega)]
      exact iteF (q H (Same.refl H))
def spNum (K : PySem.W.Frag) : Sp := fun vs H Q _ => ∃ v d m, vs = [v, .int m] ∧ Da K H v d ∧ ∀ H', Same H H' → Q (.bl (isNum m d)) H'
theorem ok_is_number_below (T : Txt K mg) : Ok P w K mg base "is_number_below" P_is_number_below 1 (spNum K) := by
  refine T.d_is_number_below.ok sc_is_number_below (fun vs H Q E h => ?_) (fun f cdv A out s H vs Q E hr h => ?_)
  · obtain ⟨v, d, m, rfl, _⟩ := h
    rfl
  · obtain ⟨v, d, m, rfl, hd, q⟩ := h
    have q := q H (Same.refl H)
    refine ⟨_, (pss_one (ps_ret (pe_and (pe_callB call_isi (by rfl) T.z_isinstance (by decide +kernel) (pa_cons (pv 0) (pa_cons (pe_bltn (v := .ty "int") (by rfl) T.z_int (by decide +kernel) rfl) pa_nil))) (pe_and (pe_not (pe_callB call_isi (by rfl) T.z_isinstance (by decide +kernel) (pa_cons (pv 0) (pa_cons (pe_bltn (v := .ty "bool") (by rfl) T.z_bool (by decide +kernel) rfl) pa_nil)))) (pe_one (pe_chain op_le op_lt pe_int (pv 0) (pv 1))))))), ?_⟩
    obtain ⟨t, ty, _, _, kb, ki⟩ := Da.isi hd
    refine ⟨v, rfl, v, .ty "int", t, .type "int", dNum d, rfl, .ty "int", ty, ki, dNum d, rfl, ?_⟩
    cases hd with
    | int i =>
      refine iteT ⟨.int i, rfl, .int i, .ty "bool", t, .type "bool", false, rfl, .ty "bool", ty, kb, false, rfl, true, rfl, iteT ⟨.int i, rfl, 0, i, rfl, rfl, _, rfl, ite2 (fun h1 => ?_) (fun h1 => ?_)⟩⟩
      · refine ⟨.int m, rfl, i, m, rfl, rfl, ?_⟩
        have e : isNum m (.int i) = decide (i < m) := by
          show (decide (0 ≤ i) && decide (i < m)) = _
          rw [h1, Bool.true_and]
        rw [e] at q
        exact q
      · have e : isNum m (.int i) = false := by
          show (decide (0 ≤ i) && decide (i < m)) = _
          rw [Bool.eq_false_iff.mpr h1, Bool.false_and]
        rw [e] at q
        exact q
    | bl b => exact iteT ⟨.bl b, rfl, .bl b, .ty "bool", t, .type "bool", true, rfl, .ty "bool", ty, kb, true, rfl, false, rfl, iteF q⟩
    | non => exact iteF q
    | str _ _ => exact iteF q
    | tup _ _ _ => exact iteF q
    | lst _ _ _ => exact iteF q
    | dic _ => exact iteF q
theorem ok_is_write (T : Txt K mg) : Ok P w K mg base "is_write" P_is_write 4 (spOne K okWr) := by
  have ok_is_name : Ok P w K mg base "is_name" P_is_name 2 (spOne K (okD lts)) := ok_is_name T
  have ok_is_label : Ok P w K mg base "is_label" P_is_label 2 (spOne K (okD sgs)) := ok_is_label T
  have ok_is_host : Ok P w K mg base "is_host" P_is_host 3 (spOne K (okT 2 5)) := ok_is_host T
  have ok_is_path : Ok P w K mg base "is_path" P_is_path 3 (spOne K (okT 0 4)) := ok_is_path T
  refine T.d_is_write.ok sc_is_write (fun vs H Q E h => ?_) (fun f cdv A out s H vs Q E hr h => ?_)
  · obtain ⟨v, d, rfl, _⟩ := h
    rfl
  · obtain ⟨v, d, rfl, hd, q⟩ := h
    refine ⟨_, (pss_cons (ps_if (PW.pt (pw_or (pt_not (pt_val (pe_callB call_isi (by rfl) T.z_isinstance (by decide +kernel) (pa_cons (pv 0) (pa_cons (pe_bltn (v := .ty "tuple") (by rfl) T.z_tuple (by decide +kernel) rfl) pa_nil))))) (pw_or1 (pt_cmpR op_ne (pe_callB call_len (by rfl) T.z_len (by decide +kernel) (pa_cons (pv 0) pa_nil)) pe_int (nomark _))))) (pss_one (ps_ret pe_bl)) pss_nil)
    (pss_cons (ps_asg (pv 0) (pg_tup rfl (pgs_cons (pg_name (i := 1) sc_is_write.nd rfl (Or.inl rfl)) (pgs_cons (pg_name (i := 2) sc_is_write.nd rfl (Or.inl rfl)) (pgs_cons (pg_name (i := 3) sc_is_write.nd rfl (Or.inl rfl)) (pgs_cons (pg_name (i := 4) sc_is_write.nd rfl (Or.inl rfl)) (pgs_cons (pg_name (i := 5) sc_is_write.nd rfl (Or.inl rfl)) pgs_nil)))))))
    (pss_cons (ps_if (PW.pt (pw_or (pt_not (pt_val (pe_ok ok_is_name (hr.mono (by decide)) (pa_cons (pv 1) pa_nil)))) (pw_or1 (pt_not (pt_val (pe_callB call_isi (by rfl) T.z_isinstance (by decide +kernel) (pa_cons (pv 5) (pa_cons (pe_bltn (v := .ty "bool") (by rfl) T.z_bool (by decide +kernel) rfl) pa_nil)))))))) (pss_one (ps_ret pe_bl)) pss_nil)
    (pss_cons (ps_if (PW.pt (pw_and (pt_cmpR op_notN (pv 2) pe_non (nomark _)) (pw_and1 (pt_not (pt_val (pe_ok ok_is_label (hr.mono (by decide)) (pa_cons (pv 2) pa_nil))))))) (pss_one (ps_ret pe_bl)) pss_nil)
    (pss_cons (ps_if (PW.pt (pw_and (pt_cmpR op_notN (pv 3) pe_non (nomark _)) (pw_and1 (pt_not (pt_val (pe_ok ok_is_host (hr.mono (by decide)) (pa_cons (pv 3) pa_nil))))))) (pss_one (ps_ret pe_bl)) pss_nil)
    (pss_one (ps_ret (pe_or (pe_cmpR op_isN (pv 4) pe_non (nomark _)) (pe_one (pe_ok ok_is_path (hr.mono (by decide)) (pa_cons (pv 4) pa_nil))))))))))), ?_⟩
    obtain ⟨t, ty, ks, _, _, _⟩ := Da.isi hd
    refine ⟨v, rfl, v, .ty "tuple", t, .type "tuple", dTup d, rfl, .ty "tuple", ty, ks, dTup d, rfl, ?_⟩
    cases hd with
    | @tup a xs ds h1 h3 hz =>
      have nl := DaAll.len h3
      refine iteF ⟨.ref a, rfl, .ref a, xs.length, rfl, Or.inr ⟨xs, h1, rfl⟩, rfl, _, rfl, ?_⟩
      by_cases g : xs.length = 5
      · rw [decide_eq_true (show V.int (xs.length : Int) = V.int 5 by rw [g]; rfl)]
        refine iteF ?_
        match xs, ds, h3, nl, g with
        | [x0, x1, x2, x3, x4], [d0, d1, d2, d3, d4], .cons p0 (.cons p1 (.cons p2 (.cons p3 (.cons p4 .nil)))), _, _ =>
          have e0 : okWr (.tuple [d0, d1, d2, d3, d4]) = (okD lts d0 && dBl d4 && (isNon d1 || okD sgs d1) && (isNon d2 || okT 2 5 d2) && (isNon d3 || okT 0 4 d3)) := rfl
          rw [e0] at q
          refine ⟨.ref a, rfl, a, [x0, x1, x2, x3, x4], rfl, h1, rfl, x0, _, rfl, x1, _, rfl, x2, _, rfl, x3, _, rfl, x4, [], rfl, rfl, ?_⟩
          -- the name, guarded
          refine ⟨x0, rfl, x0, d0, rfl, p0, fun H1 s1 => ⟨okD lts d0, rfl, ?_⟩⟩
          cases b0 : okD lts d0 with
          | false =>
            rw [b0] at q
            exact iteT (iteT (q H1 s1))
          | true =>
            rw [b0] at q
            obtain ⟨t2, ty2, _, _, ks2, _⟩ := Da.isi (Da.same s1 _ _ p4)
            refine iteF ⟨x4, rfl, x4, .ty "bool", t2, .type "bool", dBl d4, rfl, .ty "bool", ty2, ks2, dBl d4, rfl, ?_⟩
            cases b4 : dBl d4 with
            | false =>
              rw [b4] at q
              exact iteT (q H1 s1)
            | true =>
              rw [b4] at q
              refine iteF ?_
              -- the value
              have n1 := Da.nonV p1
              refine ⟨x1, rfl, rfl, _, rfl, ?_⟩
              rw [n1]
              have rest : ∀ H2, Same H H2 → (isNon d1 || okD sgs d1) = true → tIfS (tAnd (tTest (tOp (fun x y H Q => y = V.non ∧ Q (V.bl (!decide (x = V.non))) H) (tVar 3) (tC V.non))) (tNot (tB (tCall (spOne K (okT 2 5)) [] E0 (tCons (tVar 3) tNil))))) (tRet (tC (V.bl false))) tNext
                  { nx := tRet (tOrV (tOp (fun x y H Q => y = V.non ∧ Q (V.bl (decide (x = V.non))) H) (tVar 4) (tC V.non)) (tCall (spOne K (okT 0 4)) [] E0 (tCons (tVar 4) tNil))) { nx := fun _ H' => Q .non H', rt := Q }, rt := Q } [some (.ref a), some x0, some x1, some x2, some x3, some x4] H2 := by
                intro H2 s2 c1
                rw [c1] at q
                refine ⟨x2, rfl, rfl, _, rfl, ?_⟩
                rw [Da.nonV p2]
                have last : ∀ H3, Same H H3 → (isNon d2 || okT 2 5 d2) = true → tRet (tOrV (tOp (fun x y H Q => y = V.non ∧ Q (V.bl (decide (x = V.non))) H) (tVar 4) (tC V.non)) (tCall (spOne K (okT 0 4)) [] E0 (tCons (tVar 4) tNil))) { nx := fun _ H' => Q .non H', rt := Q } [some (.ref a), some x0, some x1, some x2, some x3, some x4] H3 := by
                  intro H3 s3 c2
                  rw [c2] at q
                  refine ⟨x3, rfl, rfl, _, rfl, ?_⟩
                  rw [Da.nonV p3]
                  cases b3 : isNon d3 with
                  | true =>
                    rw [b3] at q
                    exact iteT (q H3 s3)
                  | false =>
                    rw [b3] at q
                    exact iteF ⟨x3, rfl, x3, d3, rfl, Da.same s3 _ _ p3, fun H4 s4 => q H4 (s3.trans s4)⟩
                cases b2 : isNon d2 with
                | true => exact iteF (iteF (last H2 s2 (by rw [b2]; rfl)))
                | false =>
                  refine iteT ⟨x2, rfl, x2, d2, rfl, Da.same s2 _ _ p2, fun H3 s3 => ⟨okT 2 5 d2, rfl, ?_⟩⟩
                  cases c2 : okT 2 5 d2 with
                  | true => exact iteF (last H3 (s2.trans s3) (by rw [c2, Bool.or_true]))
                  | false =>
                    rw [b2, c2] at q
                    exact iteT (q H3 (s2.trans s3))
              cases b1 : isNon d1 with
              | true => exact iteF (iteF (rest H1 s1 (by rw [b1]; rfl)))
              | false =>
                refine iteT ⟨x1, rfl, x1, d1, rfl, Da.same s1 _ _ p1, fun H2 s2 => ⟨okD sgs d1, rfl, ?_⟩⟩
                cases c1 : okD sgs d1 with
                | true => exact iteF (rest H2 (s1.trans s2) (by rw [c1, Bool.or_true]))
                | false =>
                  rw [b1, c1] at q
                  exact iteT (q H2 (s1.trans s2))
      · rw [decide_eq_false (show ¬ V.int (xs.length : Int) = V.int 5 from fun z => g (by have := V.int.inj z; omega))]
        rw [okWr_not5 (by omega)] at q
        exact iteT (q H (Same.refl H))
    | non => exact iteT (iteT (q H (Same.refl H)))
    | int i => exact iteT (iteT (q H (Same.refl H)))
    | bl b => exact iteT (iteT (q H (Same.refl H)))
    | str _ _ => exact iteT (iteT (q H (Same.refl H)))
    | lst _ _ _ => exact iteT (iteT (q H (Same.refl H)))
    | dic _ => exact iteT (iteT (q H (Same.refl H)))
end
end S1
namespace S1
open PySem PySem.Spec PyProof.Rows L2 Jv
/-- the number of the first that is no write -/
def badFrom : Nat → List PyData → Option Nat
  | _, [] => none
  | n, d :: ds => if okWr d then badFrom (n + 1) ds else some n
def pageBad (n : Int) : PyData → Option (List Int)
  | .tuple [a, .tuple ws] => if okA a && decide ((ws.length : Int) ≤ 5) then (badFrom 0 ws).map (fun j : Nat => [n, (j : Int)]) else some [n]
  | _ => some [n]
def pagesBad : Nat → List PyData → Option (List Int)
  | _, [] => none
  | n, d :: ds => match pageBad n d with
    | some p => some p
    | none => pagesBad (n + 1) ds
def siteBad : PyData → Option (List Int)
  | .tuple ds => if decide ((1 : Int) ≤ (ds.length : Int)) && decide ((ds.length : Int) ≤ 5) then pagesBad 0 ds else some []
  | _ => some []
theorem badFrom_get : ∀ {ds : List PyData} {n i : Nat} {d : PyData}, (∀ j e, j < i → ds[j]? = some e → okWr e = true) → ds[i]? = some d → okWr d = false → badFrom n ds = some (n + i)
  | [], _, _, _, _, h, _ => by simp at h
  | e :: es, n, 0, d, _, h, b => by
    simp at h
    subst h
    unfold badFrom
    rw [b]
    rfl
  | e :: es, n, i + 1, d, a, h, b => by
    unfold badFrom
    rw [a 0 e (Nat.succ_pos _) rfl, if_pos rfl, badFrom_get (n := n + 1) (i := i) (fun j x hj hx => a (j + 1) x (Nat.succ_lt_succ hj) (by simpa using hx)) (by simpa using h) b]
    congr 1
    omega
theorem badFrom_none : ∀ {ds : List PyData} {n : Nat}, (∀ j e, j < ds.length → ds[j]? = some e → okWr e = true) → badFrom n ds = none
  | [], _, _ => rfl
  | e :: es, n, a => by
    unfold badFrom
    rw [a 0 e (Nat.succ_pos _) rfl, if_pos rfl]
    exact badFrom_none fun j x hj hx => a (j + 1) x (Nat.succ_lt_succ hj) (by simpa using hx)
theorem pagesBad_get : ∀ {ds : List PyData} {n i : Nat} {d : PyData} {p : List Int}, (∀ (j : Nat) e, j < i → ds[j]? = some e → pageBad ((n + j : Nat) : Int) e = none) → ds[i]? = some d → pageBad ((n + i : Nat) : Int) d = some p → pagesBad n ds = some p
  | [], _, _, _, _, _, h, _ => by simp at h
  | e :: es, n, 0, d, p, _, h, b => by
    simp at h
    subst h
    unfold pagesBad
    rw [show pageBad (n : Int) e = some p from b]
  | e :: es, n, i + 1, d, p, a, h, b => by
    unfold pagesBad
    rw [show pageBad (n : Int) e = none from a 0 e (Nat.succ_pos _) rfl]
    refine pagesBad_get (n := n + 1) (i := i) (fun j x hj hx => ?_) (by simpa using h) ?_
    · rw [show n + 1 + j = n + (j + 1) by omega]
      exact a (j + 1) x (Nat.succ_lt_succ hj) (by simpa using hx)
    · rw [show n + 1 + i = n + (i + 1) by omega]
      exact b
theorem pagesBad_none : ∀ {ds : List PyData} {n : Nat}, (∀ (j : Nat) e, j < ds.length → ds[j]? = some e → pageBad ((n + j : Nat) : Int) e = none) → pagesBad n ds = none
  | [], _, _ => rfl
  | e :: es, n, a => by
    unfold pagesBad
    rw [show pageBad (n : Int) e = none from a 0 e (Nat.succ_pos _) rfl]
    refine pagesBad_none fun j x hj hx => ?_
    rw [show n + 1 + j = n + (j + 1) by omega]
    exact a (j + 1) x (Nat.succ_lt_succ hj) (by simpa using hx)
/-- none: it ends and has changed nothing; a place: it raises the error of the class C, which keeps it -/
def Told (K : PySem.W.Frag) (C : Addr) (f : Str) (H : Hp) (Q : Hp → Prop) (E : XK) : Option (List Int) → Prop
  | none => ∀ H', Same H H' → Q H'
  | some ns => ∀ H' d t, Same H H' → H' d = some (.xd [(f, .ref t)]) → SqT K H' t (ns.map V.int) → E (.ref C) (some d) H'
section
variable {P : Program} {w : World} {K : PySem.W.Frag} {mg : Str → Option Value} {base : Heap} {C : Addr}
theorem told_raise {x f : Str} {H H1 : Hp} {Q : Hp → Prop} {E : XK} {ns : List Int} {p : Addr} (N : Exn P w K mg base x f C) (q : Told K C f H Q E (some ns)) (s : Same H H1) (np : H1 p = none) : [V.ref p].length ≤ 1000 ∧ ∀ a, upd H1 p (.tup (ns.map V.int)) a = none → spInit K f (.ref a :: ([V.ref p] ++ [])) (upd (upd H1 p (.tup (ns.map V.int))) a (exo a C none))
      (fun v H2 => v = .non ∧ ∃ (d : Addr) (fs : List (Str × V)), H2 a = some (exo a C (some d)) ∧ H2 d = some (exd d fs) ∧ upd H1 p (.tup (ns.map V.int)) d = none ∧ E (.ref C) (some d) (upd (del H2 a) d (.xd fs))) (fun _ _ _ => False) :=
  mk_read N fun d Hx nd sx ed => q Hx d p ((s.trans (same_new np)).trans sx) ed (SqT.of (sx _ _ upd_same))
theorem exn_BadSite (T : Txt K mg) (D : ExnD K mg "BadSite" "place" "BadSite.__init__" st_BadSite C) : Exn P w K mg base "BadSite" "place" C := by
  obtain ⟨B, b⟩ := T.b_JarError
  refine D.exn sc_BadSite fun fI cdv A out s H vs Q E hr h => ?_
  obtain ⟨a, C', y, rfl, ea, hT, hno, q⟩ := h
  refine ⟨_, pss_cons (ps_expr (pe_jinit b (pa_cons (pv 0) (pa_cons pe_str pa_nil)))) (pss_one (ps_ost (pv 0) (pv 1))), ?_⟩
  exact ⟨.ref a, rfl, a, C', [_], rfl, (by decide), hT, ea, y, rfl, .ref a, rfl, a, C', rfl, hT, hno, Or.inl ⟨ea, fun dx n ne => q dx n ne⟩⟩
theorem exn_BadPage (T : Txt K mg) (D : ExnD K mg "BadPage" "given" "BadPage.__init__" st_BadPage C) : Exn P w K mg base "BadPage" "given" C := by
  obtain ⟨B, b⟩ := T.b_JarError
  refine D.exn sc_BadPage fun fI cdv A out s H vs Q E hr h => ?_
  obtain ⟨a, C', y, rfl, ea, hT, hno, q⟩ := h
  refine ⟨_, pss_cons (ps_expr (pe_jinit b (pa_cons (pv 0) (pa_cons pe_str pa_nil)))) (pss_one (ps_ost (pv 0) (pv 1))), ?_⟩
  exact ⟨.ref a, rfl, a, C', [_], rfl, (by decide), hT, ea, y, rfl, .ref a, rfl, a, C', rfl, hT, hno, Or.inl ⟨ea, fun dx n ne => q dx n ne⟩⟩
theorem len1 {v : V} : [v].length ≤ sizeLine := sz1000 (by show 1 ≤ 1000; decide)
theorem len2 {v u : V} : [v, u].length ≤ sizeLine := sz1000 (by show 2 ≤ 1000; decide)
theorem pageBad_not2 {n : Int} : ∀ {ds : List PyData}, ds.length ≠ 2 → pageBad n (.tuple ds) = some [n]
  | [], _ => rfl
  | [_], _ => rfl
  | [_, _], h => absurd rfl h
  | _ :: b :: _ :: _, _ => by cases b <;> rfl
theorem pageBad_a {n : Int} {d e : PyData} (h : okA d = false) : pageBad n (.tuple [d, e]) = some [n] := by
  cases e <;> simp [pageBad, h]
theorem pageBad_w {n : Int} {d : PyData} {ws : List PyData} (h : okA d = true) (hw : (ws.length : Int) ≤ 5) : pageBad n (.tuple [d, .tuple ws]) = (badFrom 0 ws).map (fun j : Nat => [n, (j : Int)]) := by
  simp only [pageBad, h, decide_eq_true hw, Bool.and_true, if_true]
theorem pageBad_m {n : Int} {d : PyData} {ws : List PyData} (h : okA d = true) (hw : ¬ (ws.length : Int) ≤ 5) : pageBad n (.tuple [d, .tuple ws]) = some [n] := by
  simp only [pageBad, decide_eq_false hw, Bool.and_false, Bool.false_eq_true, if_false]
def spPF (K : PySem.W.Frag) (C : Addr) : Sp := fun vs H Q E => ∃ v d n, vs = [v, .int n] ∧ Da K H v d ∧ Told K C "place" H (Q .non) E (pageBad n d)
theorem ok_need_page_form (T : Txt K mg) (n_BadSite : Exn P w K mg base "BadSite" "place" C) : OkX P w K mg base "_need_page_form" P__need_page_form 5 (spPF K C) := by
  have ok_is_address : Ok P w K mg base "is_address" P_is_address 4 (spOne K okA) := ok_is_address T
  have ok_is_write : Ok P w K mg base "is_write" P_is_write 4 (spOne K okWr) := ok_is_write T
  refine T.d__need_page_form.okX sc__need_page_form (fun vs H Q E h => ?_) (fun f cdv A out s H vs Q E hr h => ?_)
  · obtain ⟨v, d, n, rfl, _⟩ := h
    rfl
  · obtain ⟨v, d, n, rfl, hd, q⟩ := h
    refine ⟨_, (pss_cons (ps_if (PW.pt (pw_or (pt_not (pt_val (pe_callB call_isi (by rfl) T.z_isinstance (by decide +kernel) (pa_cons (pv 0) (pa_cons (pe_bltn (v := .ty "tuple") (by rfl) T.z_tuple (by decide +kernel) rfl) pa_nil))))) (pw_or1 (pt_cmpR op_ne (pe_callB call_len (by rfl) T.z_len (by decide +kernel) (pa_cons (pv 0) pa_nil)) pe_int (nomark _))))) (pss_one (ps_raiseE n_BadSite (hr.mono (by decide)) (takes_of rfl rfl rfl rfl) (pe_tup (pa_cons (pv 1) pa_nil)))) pss_nil)
    (pss_cons (ps_asg (pv 0) (pg_tup rfl (pgs_cons (pg_name (i := 2) sc__need_page_form.nd rfl (Or.inl rfl)) (pgs_cons (pg_name (i := 3) sc__need_page_form.nd rfl (Or.inl rfl)) pgs_nil))))
    (pss_cons (ps_if (PW.pt (pw_or (pt_not (pt_val (pe_ok ok_is_address (hr.mono (by decide)) (pa_cons (pv 2) pa_nil)))) (pw_or (pt_not (pt_val (pe_callB call_isi (by rfl) T.z_isinstance (by decide +kernel) (pa_cons (pv 3) (pa_cons (pe_bltn (v := .ty "tuple") (by rfl) T.z_tuple (by decide +kernel) rfl) pa_nil))))) (pw_or1 (pt_cmpR op_gt (pe_callB call_len (by rfl) T.z_len (by decide +kernel) (pa_cons (pv 3) pa_nil)) (pe_gc T.c_MOST_WRITES) (nomark _)))))) (pss_one (ps_raiseE n_BadSite (hr.mono (by decide)) (takes_of rfl rfl rfl rfl) (pe_tup (pa_cons (pv 1) pa_nil)))) pss_nil)
    (pss_one (ps_for (passes_of rfl) rfl (pi_jenum (by rfl) T.z_enumerate (pa_cons (pv 3) pa_nil)) (pg_tup rfl (pgs_cons (pg_name (i := 4) sc__need_page_form.nd rfl (Or.inl rfl)) (pgs_cons (pg_name (i := 5) sc__need_page_form.nd rfl (Or.inl rfl)) pgs_nil))) (pss_one (ps_if (pt_not (pt_val (pe_ok ok_is_write (hr.mono (by decide)) (pa_cons (pv 5) pa_nil)))) (pss_one (ps_raiseE n_BadSite (hr.mono (by decide)) (takes_of rfl rfl rfl rfl) (pe_tup (pa_cons (pv 1) (pa_cons (pv 4) pa_nil))))) pss_nil))))))), ?_⟩
    obtain ⟨t, ty, ks, _, _, _⟩ := Da.isi hd
    refine ⟨v, rfl, v, .ty "tuple", t, .type "tuple", dTup d, rfl, .ty "tuple", ty, ks, dTup d, rfl, ?_⟩
    have one : ∀ {H1 : Hp} {Q' : Hp → Prop} {E' : XK}, Same H H1 → Told K C "place" H Q' E' (some [n]) → ∀ (p : Addr), H1 p = none → _ := fun s q p np => told_raise (P := P) (w := w) (mg := mg) (base := base) n_BadSite q s np
    cases hd with
    | @tup a xs ds h1 h3 hz =>
      have nl := DaAll.len h3
      refine iteF ⟨.ref a, rfl, .ref a, xs.length, rfl, Or.inr ⟨xs, h1, rfl⟩, rfl, _, rfl, ?_⟩
      by_cases g : xs.length = 2
      · rw [decide_eq_true (show V.int (xs.length : Int) = V.int 2 by rw [g]; rfl)]
        refine iteF ?_
        match xs, ds, h3, nl, g with
        | [x0, x1], [d0, d1], .cons p0 (.cons p1 .nil), _, _ =>
          refine ⟨.ref a, rfl, a, [x0, x1], rfl, h1, rfl, x0, _, rfl, x1, [], rfl, rfl, ?_⟩
          refine ⟨x0, rfl, x0, d0, rfl, p0, fun H1 s1 => ⟨okA d0, rfl, ?_⟩⟩
          cases b0 : okA d0 with
          | false =>
            rw [pageBad_a b0] at q
            exact iteT ⟨.int n, rfl, len1, one s1 q⟩
          | true =>
            have p2 := Da.same s1 _ _ p1
            obtain ⟨t2, ty2, ks2, _, _, _⟩ := Da.isi p2
            refine iteF ⟨x1, rfl, x1, .ty "tuple", t2, .type "tuple", dTup d1, rfl, .ty "tuple", ty2, ks2, dTup d1, rfl, ?_⟩
            cases p2 with
            | @tup b ys es g1 g3 gz =>
              have ml := DaAll.len g3
              refine iteF ⟨.ref b, rfl, .ref b, ys.length, rfl, Or.inr ⟨ys, g1, rfl⟩, ys.length, 5, rfl, rfl, _, rfl, ?_⟩
              by_cases g2 : (ys.length : Int) ≤ 5
              · rw [decide_eq_false (show ¬ (5 : Int) < ys.length by omega)]
                rw [pageBad_w b0 (by rw [← ml]; exact g2)] at q
                refine iteF ⟨.ref b, rfl, b, ys, rfl, g1, for_it walk_jte (fun i σ H' => (∃ c d, σ = [some (.ref a), some (.int n), some x0, some (.ref b), c, d]) ∧ Same H H' ∧ SqT K H' b ys ∧ DaAll K H' ys es ∧ ∀ j e, j < i → es[j]? = some e → okWr e = true)
                  ⟨⟨_, _, rfl⟩, s1, g1, g3, fun j e hj => absurd hj (Nat.not_lt_zero _)⟩ (fun i σ H' hi pv => pv.2.2.1) (fun i x σ H1 H2 hlt pv y => ?_) fun σ H1 pv => ?_⟩
                · obtain ⟨⟨c, d, rfl⟩, sa, sb, da, all⟩ := pv
                  obtain ⟨T', u, z, rfl, nT, rfl, hu, hz'⟩ := y
                  cases hu
                  obtain ⟨e, e1, e2⟩ := DaAll.get da hz'
                  have st : Same H1 (upd H1 T' (.tup [.int (i : Nat), z])) := same_new nT
                  refine ⟨T', [_, _], rfl, SqT.of upd_same, rfl, _, _, rfl, _, _, rfl, rfl, ?_⟩
                  refine ⟨z, rfl, z, e, rfl, Da.same st _ _ e2, fun H2 s2 => ⟨okWr e, rfl, ?_⟩⟩
                  cases bw : okWr e with
                  | false =>
                    rw [badFrom_get (n := 0) all e1 bw] at q
                    refine iteT ⟨.int n, rfl, .int i, rfl, len2, fun p np => told_raise (ns := [n, (i : Int)]) (Q := Q .non) n_BadSite ?_ ((sa.trans st).trans s2) np⟩
                    rw [Option.map_some, Nat.zero_add] at q
                    exact q
                  | true =>
                    refine iteF ⟨⟨_, _, rfl⟩, (sa.trans st).trans s2, sqT_same s2 (sqT_same st sb), DaAll.same s2 _ _ (DaAll.same st _ _ da), fun j x hj hx => ?_⟩
                    rcases Nat.lt_or_ge j i with w | w
                    · exact all j x w hx
                    · rw [show j = i by omega, e1] at hx
                      cases hx
                      exact bw
                · obtain ⟨⟨c, d, rfl⟩, sa, sb, da, all⟩ := pv
                  rw [badFrom_none (n := 0) (by rw [← ml]; exact all)] at q
                  exact q H1 sa
              · rw [decide_eq_true (show (5 : Int) < ys.length by omega)]
                rw [pageBad_m b0 (by rw [← ml]; exact g2)] at q
                exact iteT ⟨.int n, rfl, len1, one s1 q⟩
            | non => exact iteT ⟨.int n, rfl, len1, one s1 q⟩
            | bl _ => exact iteT ⟨.int n, rfl, len1, one s1 q⟩
            | int _ => exact iteT ⟨.int n, rfl, len1, one s1 q⟩
            | str _ _ => exact iteT ⟨.int n, rfl, len1, one s1 q⟩
            | lst _ _ _ => exact iteT ⟨.int n, rfl, len1, one s1 q⟩
            | dic _ => exact iteT ⟨.int n, rfl, len1, one s1 q⟩
      · rw [decide_eq_false (show ¬ V.int (xs.length : Int) = V.int 2 from fun z => g (by injection z with z; omega))]
        rw [pageBad_not2 (by rw [← nl]; exact g)] at q
        exact iteT ⟨.int n, rfl, len1, one (Same.refl H) q⟩
    | non => exact iteT ⟨.int n, rfl, len1, one (Same.refl H) q⟩
    | bl _ => exact iteT ⟨.int n, rfl, len1, one (Same.refl H) q⟩
    | int _ => exact iteT ⟨.int n, rfl, len1, one (Same.refl H) q⟩
    | str _ _ => exact iteT ⟨.int n, rfl, len1, one (Same.refl H) q⟩
    | lst _ _ _ => exact iteT ⟨.int n, rfl, len1, one (Same.refl H) q⟩
    | dic _ => exact iteT ⟨.int n, rfl, len1, one (Same.refl H) q⟩
def spSite (K : PySem.W.Frag) (C : Addr) : Sp := fun vs H Q E => ∃ v d, vs = [v] ∧ Da K H v d ∧ Told K C "place" H (Q v) E (siteBad d)
theorem ok_need_site (T : Txt K mg) (n_BadSite : Exn P w K mg base "BadSite" "place" C) : OkX P w K mg base "need_site" P_need_site 6 (spSite K C) := by
  have ok__need_page_form : OkX P w K mg base "_need_page_form" P__need_page_form 5 (spPF K C) := ok_need_page_form T n_BadSite
  refine T.d_need_site.okX sc_need_site (fun vs H Q E h => ?_) (fun f cdv A out s H vs Q E hr h => ?_)
  · obtain ⟨v, d, rfl, _⟩ := h
    rfl
  · obtain ⟨v, d, rfl, hd, q⟩ := h
    refine ⟨_, (pss_cons (ps_if (PW.pt (pw_or (pt_not (pt_val (pe_callB call_isi (by rfl) T.z_isinstance (by decide +kernel) (pa_cons (pv 0) (pa_cons (pe_bltn (v := .ty "tuple") (by rfl) T.z_tuple (by decide +kernel) rfl) pa_nil))))) (pw_or1 (pt_not (pt_chain op_le op_le pe_int (pe_callB call_len (by rfl) T.z_len (by decide +kernel) (pa_cons (pv 0) pa_nil)) (pe_gc T.c_MOST_PAGES)))))) (pss_one (ps_raiseE n_BadSite (hr.mono (by decide)) (takes_of rfl rfl rfl rfl) (pe_tup pa_nil))) pss_nil)
    (pss_cons (ps_for (passes_of rfl) rfl (pi_jenum (by rfl) T.z_enumerate (pa_cons (pv 0) pa_nil)) (pg_tup rfl (pgs_cons (pg_name (i := 1) sc_need_site.nd rfl (Or.inl rfl)) (pgs_cons (pg_name (i := 2) sc_need_site.nd rfl (Or.inl rfl)) pgs_nil))) (pss_one (ps_expr (pe_okX ok__need_page_form (hr.mono (by decide)) (takes_of rfl rfl rfl rfl) (pa_cons (pv 2) (pa_cons (pv 1) pa_nil))))))
    (pss_one (ps_ret (pv 0))))), ?_⟩
    obtain ⟨t, ty, ks, _, _, _⟩ := Da.isi hd
    refine ⟨v, rfl, v, .ty "tuple", t, .type "tuple", dTup d, rfl, .ty "tuple", ty, ks, dTup d, rfl, ?_⟩
    have one : ∀ {Q' : Hp → Prop} {E' : XK}, Told K C "place" H Q' E' (some []) → ∀ (p : Addr), H p = none → _ := fun q p np => told_raise (P := P) (w := w) (mg := mg) (base := base) (ns := []) n_BadSite q (Same.refl H) np
    have l0 : ([] : List V).length ≤ sizeLine := Nat.zero_le _
    cases hd with
    | @tup a xs ds h1 h3 hz =>
      have nl := DaAll.len h3
      have hd0 : Da K H (.ref a) (.tuple ds) := .tup h1 h3 hz
      have e0 : siteBad (.tuple ds) = if decide ((1 : Int) ≤ (ds.length : Int)) && decide ((ds.length : Int) ≤ 5) then pagesBad 0 ds else some [] := rfl
      rw [e0, ← nl] at q
      refine iteF ⟨.ref a, rfl, .ref a, xs.length, rfl, Or.inr ⟨xs, h1, rfl⟩, 1, xs.length, rfl, rfl, _, rfl, ?_⟩
      by_cases g1 : (1 : Int) ≤ xs.length
      · rw [decide_eq_true g1]
        rw [decide_eq_true g1] at q
        refine iteT ⟨xs.length, 5, rfl, rfl, _, rfl, ?_⟩
        by_cases g2 : (xs.length : Int) ≤ 5
        · rw [decide_eq_true g2]
          rw [decide_eq_true g2] at q
          have q : Told K C "place" H (Q (.ref a)) E (pagesBad 0 ds) := q
          refine iteF ⟨.ref a, rfl, a, xs, rfl, h1, for_it walk_jte (fun i σ H' => (∃ c d, σ = [some (.ref a), c, d]) ∧ Same H H' ∧ SqT K H' a xs ∧ DaAll K H' xs ds ∧ ∀ (j : Nat) e, j < i → ds[j]? = some e → pageBad ((0 + j : Nat) : Int) e = none)
            ⟨⟨_, _, rfl⟩, Same.refl H, h1, h3, fun j e hj => absurd hj (Nat.not_lt_zero _)⟩ (fun i σ H' hi pv => pv.2.2.1) (fun i x σ H1 H2 hlt pv y => ?_) fun σ H1 pv => ?_⟩
          · obtain ⟨⟨c, d, rfl⟩, sa, sb, da, all⟩ := pv
            obtain ⟨T', u, z, rfl, nT, rfl, hu, hz'⟩ := y
            cases hu
            obtain ⟨e, e1, e2⟩ := DaAll.get da hz'
            have st : Same H1 (upd H1 T' (.tup [.int (i : Nat), z])) := same_new nT
            refine ⟨T', [_, _], rfl, SqT.of upd_same, rfl, _, _, rfl, _, _, rfl, rfl, ?_⟩
            refine ⟨z, rfl, .int (i : Nat), rfl, z, e, (i : Nat), rfl, Da.same st _ _ e2, ?_⟩
            cases bp : pageBad ((i : Nat) : Int) e with
            | none =>
              intro H2 s2
              refine ⟨⟨_, _, rfl⟩, (sa.trans st).trans s2, sqT_same s2 (sqT_same st sb), DaAll.same s2 _ _ (DaAll.same st _ _ da), fun j x hj hx => ?_⟩
              rcases Nat.lt_or_ge j i with w | w
              · exact all j x w hx
              · rw [show j = i by omega, e1] at hx
                cases hx
                rw [show j = i by omega, Nat.zero_add]
                exact bp
            | some p =>
              rw [pagesBad_get (n := 0) (p := p) all e1 (by rw [Nat.zero_add]; exact bp)] at q
              exact fun H2 dd t' s2 => q H2 dd t' ((sa.trans st).trans s2)
          · obtain ⟨⟨c, d, rfl⟩, sa, sb, da, all⟩ := pv
            rw [pagesBad_none (n := 0) (by rw [← nl]; exact all)] at q
            exact ⟨.ref a, rfl, q H1 sa⟩
        · rw [decide_eq_false g2]
          rw [decide_eq_false g2] at q
          exact iteT ⟨l0, one q⟩
      · rw [decide_eq_false g1]
        rw [decide_eq_false g1] at q
        exact iteF ⟨_, rfl, iteT ⟨l0, one q⟩⟩
    | non => exact iteT ⟨l0, one q⟩
    | bl _ => exact iteT ⟨l0, one q⟩
    | int _ => exact iteT ⟨l0, one q⟩
    | str _ _ => exact iteT ⟨l0, one q⟩
    | lst _ _ _ => exact iteT ⟨l0, one q⟩
    | dic _ => exact iteT ⟨l0, one q⟩
/-- the number itself, or the error that keeps what was given -/
def spPg (K : PySem.W.Frag) (C : Addr) : Sp := fun vs H Q E => ∃ a xs u d, vs = [.ref a, u] ∧ SqT K H a xs ∧ Da K H u d ∧
  if isNum xs.length d then ∀ H', Same H H' → Q u H' else ∀ H' dd, Same H H' → H' dd = some (.xd [("given", u)]) → E (.ref C) (some dd) H'
theorem ok_need_page (T : Txt K mg) (n_BadPage : Exn P w K mg base "BadPage" "given" C) : OkX P w K mg base "need_page" P_need_page 3 (spPg K C) := by
  have ok_is_number_below : Ok P w K mg base "is_number_below" P_is_number_below 1 (spNum K) := ok_is_number_below T
  refine T.d_need_page.okX sc_need_page (fun vs H Q E h => ?_) (fun f cdv A out s H vs Q E hr h => ?_)
  · obtain ⟨a, xs, u, d, rfl, _⟩ := h
    rfl
  · obtain ⟨a, xs, u, d, rfl, hq, hd, q⟩ := h
    refine ⟨_, (pss_cons (ps_if (pt_not (pt_val (pe_ok ok_is_number_below (hr.mono (by decide)) (pa_cons (pv 1) (pa_cons (pe_callB call_len (by rfl) T.z_len (by decide +kernel) (pa_cons (pv 0) pa_nil)) pa_nil))))) (pss_one (ps_raiseE n_BadPage (hr.mono (by decide)) (takes_of rfl rfl rfl rfl) (pv 1))) pss_nil)
    (pss_one (ps_ret (pv 1)))), ?_⟩
    refine ⟨u, rfl, .ref a, rfl, .ref a, xs.length, rfl, Or.inr ⟨xs, hq, rfl⟩, u, d, xs.length, rfl, hd, fun H1 s1 => ⟨isNum xs.length d, rfl, ?_⟩⟩
    cases b : isNum xs.length d with
    | true =>
      rw [b] at q
      exact iteF ⟨u, rfl, q H1 s1⟩
    | false =>
      rw [b] at q
      exact iteT ⟨u, rfl, mk_read n_BadPage fun dd Hx nd sx ed => q Hx dd (s1.trans sx) ed⟩
end
end S1
namespace S1
open PySem PySem.Spec PyProof.Rows L2 Jv
theorem optT_str {K : PySem.W.Frag} {H : Hp} {v : V} {xs : List Str} (h : Da K H v (optT (some xs))) : ∃ a, v = .ref a ∧ SqT K H a (xs.map V.str) ∧ xs.length ≤ 1000 := da_strs h
theorem cut_last (xs : List Str) : cutV (xs.map V.str) none (some (-1)) = xs.dropLast.map V.str := by
  unfold cutV
  rw [HT.sIx_none]
  have e : HT.sIx (xs.map V.str).length (xs.map V.str).length (some (-1)) = xs.length - 1 := by
    show (if (-1 : Int) < 0 then (-1 + ((xs.map V.str).length : Int)).toNat else min (-1 : Int).toNat (xs.map V.str).length) = _
    rw [if_pos (by decide), List.length_map]
    omega
  rw [e, List.drop_zero, Nat.sub_zero, List.dropLast_eq_take, List.map_take]
theorem cut_whole {xs : List Str} (h : HT.sIx (xs.map V.str).length (xs.map V.str).length (some (-1)) = (xs.map V.str).length) : xs.dropLast = xs := by
  have e : HT.sIx (xs.map V.str).length (xs.map V.str).length (some (-1)) = xs.length - 1 := by
    show (if (-1 : Int) < 0 then (-1 + ((xs.map V.str).length : Int)).toNat else min (-1 : Int).toNat (xs.map V.str).length) = _
    rw [if_pos (by decide), List.length_map]
    omega
  rw [e, List.length_map] at h
  have : xs = [] := List.eq_nil_of_length_eq_zero (by omega)
  rw [this]
  rfl
theorem len4 {a b c d : V} : [a, b, c, d].length ≤ sizeLine := sz1000 (by show 4 ≤ 1000; decide)
section
variable {P : Program} {w : World} {K : PySem.W.Frag} {mg : Str → Option Value} {base : Heap} {C : Addr}
def spTk (K : PySem.W.Frag) : Sp := fun vs H Q _ => ∃ v u a wr, vs = [v, u] ∧ Da K H v (Ad.py a) ∧ Da K H u (Wr.py wr) ∧ a.Ok ∧ wr.Ok ∧ ∀ H', Same H H' → Q (.bl (takenM a wr)) H'
theorem ok_is_taken (T : Txt K mg) : Ok P w K mg base "_is_taken" P__is_taken 2 (spTk K) := by
  have ok_is_within : Ok P w K mg base "is_within" P_is_within 1 (spTwo K within) := ok_is_within T
  refine T.d__is_taken.ok sc__is_taken (fun vs H Q E h => ?_) (fun f cdv A out s H vs Q E hr h => ?_)
  · obtain ⟨v, u, a, wr, rfl, _⟩ := h
    rfl
  · obtain ⟨v, u, a, wr, rfl, ha, hw, oa, ow, q⟩ := h
    refine ⟨_, (pss_cons (ps_asg (pv 0) (pg_tup rfl (pgs_cons (pg_name (i := 2) sc__is_taken.nd rfl (Or.inl rfl)) (pgs_cons (pg_name (i := 3) sc__is_taken.nd rfl (Or.inl rfl)) (pgs_cons (pg_name (i := 4) sc__is_taken.nd rfl (Or.inl rfl)) pgs_nil)))))
    (pss_cons (ps_asg (pv 1) (pg_tup rfl (pgs_cons (pg_name (i := 3) sc__is_taken.nd rfl (Or.inl rfl)) (pgs_cons (pg_name (i := 3) sc__is_taken.nd rfl (Or.inl rfl)) (pgs_cons (pg_name (i := 5) sc__is_taken.nd rfl (Or.inl rfl)) (pgs_cons (pg_name (i := 3) sc__is_taken.nd rfl (Or.inl rfl)) (pgs_cons (pg_name (i := 6) sc__is_taken.nd rfl (Or.inl rfl)) pgs_nil)))))))
    (pss_cons (ps_if (PW.pt (pw_and (pt_val (pv 6)) (pw_and1 (pt_not (pt_val (pv 4)))))) (pss_one (ps_ret pe_bl)) pss_nil)
    (pss_one (ps_ret (pe_or (pe_cmpR op_isN (pv 5) pe_non (nomark _)) (pe_one (pe_ok ok_is_within (hr.mono (by decide)) (pa_cons (pv 2) (pa_cons (pv 5) pa_nil)))))))))), ?_⟩
    obtain ⟨b, x, y, rfl, a1, a2, a3⟩ := da_ad ha
    obtain ⟨c, z, z', rfl, w1, w2, w3⟩ := da_wr hw
    refine ⟨.ref b, rfl, b, _, rfl, a1, rfl, _, _, rfl, _, _, rfl, _, _, rfl, rfl, ?_⟩
    refine ⟨.ref c, rfl, c, _, rfl, w1, rfl, _, _, rfl, _, _, rfl, _, _, rfl, _, _, rfl, _, _, rfl, rfl, ?_⟩
    obtain ⟨host, path, sec⟩ := a
    obtain ⟨nm, val, dom, fold, grd⟩ := wr
    have last : (grd && !sec) = false → tRet (tOrV (tOp (fun x y H Q => y = V.non ∧ Q (V.bl (decide (x = V.non))) H) (tVar 5) (tC V.non)) (tCall (spTwo K within) [] E0 (tCons (tVar 2) (tCons (tVar 5) tNil)))) { nx := fun _ H' => Q .non H', rt := Q }
        [some (.ref b), some (.ref c), some x, some z', some (.bl sec), some z, some (.bl grd)] H := by
      intro g
      refine ⟨z, rfl, rfl, _, rfl, ?_⟩
      rw [Da.nonV w2]
      cases dom with
      | none =>
        have e : takenM ⟨host, path, sec⟩ ⟨nm, val, none, fold, grd⟩ = true := by
          show (!(grd && !sec) && true) = true
          rw [g]
          rfl
        rw [e] at q
        exact iteT (q H (Same.refl H))
      | some d =>
        have e : takenM ⟨host, path, sec⟩ ⟨nm, val, some d, fold, grd⟩ = within host d := by
          show (!(grd && !sec) && within host d) = _
          rw [g]
          rfl
        rw [e] at q
        exact iteF ⟨x, rfl, z, rfl, x, z, host, d, rfl, a2, w2, oa.1, ow.2.2.1 d rfl, q⟩
    refine ⟨.bl grd, rfl, grd, rfl, ?_⟩
    cases grd with
    | false => exact iteF (iteF (last rfl))
    | true =>
      refine iteT ⟨.bl sec, rfl, sec, rfl, ?_⟩
      cases sec with
      | true => exact iteF (last rfl)
      | false => exact iteT (q H (Same.refl H))
def spKy (K : PySem.W.Frag) : Sp := fun vs H Q _ => ∃ v u a wr, vs = [v, u] ∧ Da K H v (Ad.py a) ∧ Da K H u (Wr.py wr) ∧ ∀ H' k, Same H H' → KyAt K H' k (keyM a wr) → Q (.ref k) H'
theorem ok_key (T : Txt K mg) : Ok P w K mg base "_key" P__key 1 (spKy K) := by
  refine T.d__key.ok sc__key (fun vs H Q E h => ?_) (fun f cdv A out s H vs Q E hr h => ?_)
  · obtain ⟨v, u, a, wr, rfl, _⟩ := h
    rfl
  · obtain ⟨v, u, a, wr, rfl, ha, hw, q⟩ := h
    refine ⟨_, (pss_cons (ps_asg (pv 0) (pg_tup rfl (pgs_cons (pg_name (i := 2) sc__key.nd rfl (Or.inl rfl)) (pgs_cons (pg_name (i := 3) sc__key.nd rfl (Or.inl rfl)) (pgs_cons (pg_name (i := 4) sc__key.nd rfl (Or.inl rfl)) pgs_nil)))))
    (pss_cons (ps_asg (pv 1) (pg_tup rfl (pgs_cons (pg_name (i := 5) sc__key.nd rfl (Or.inl rfl)) (pgs_cons (pg_name (i := 4) sc__key.nd rfl (Or.inl rfl)) (pgs_cons (pg_name (i := 6) sc__key.nd rfl (Or.inl rfl)) (pgs_cons (pg_name (i := 7) sc__key.nd rfl (Or.inl rfl)) (pgs_cons (pg_name (i := 4) sc__key.nd rfl (Or.inl rfl)) pgs_nil)))))))
    (pss_cons (ps_set (i := 8) sc__key.nd rfl (Or.inl rfl) (pe_ifExp (pt_cmpR op_isN (pv 7) pe_non (nomark _)) (pe_slice sl_tupA (pv 3) po_none (po_some (pe_un un_neg pe_int))) (pv 7)))
    (pss_cons (ps_if (pt_cmpR op_isN (pv 6) pe_non (nomark _)) (pss_one (ps_ret (pe_tup (pa_cons (pv 5) (pa_cons (pv 2) (pa_cons (pv 8) (pa_cons pe_bl pa_nil))))))) pss_nil)
    (pss_one (ps_ret (pe_tup (pa_cons (pv 5) (pa_cons (pv 6) (pa_cons (pv 8) (pa_cons pe_bl pa_nil))))))))))), ?_⟩
    obtain ⟨b, x, y, rfl, a1, a2, a3⟩ := da_ad ha
    obtain ⟨c, z, z', rfl, w1, w2, w3⟩ := da_wr hw
    refine ⟨.ref b, rfl, b, _, rfl, a1, rfl, _, _, rfl, _, _, rfl, _, _, rfl, rfl, ?_⟩
    refine ⟨.ref c, rfl, c, _, rfl, w1, rfl, _, _, rfl, _, _, rfl, _, _, rfl, _, _, rfl, _, _, rfl, rfl, ?_⟩
    obtain ⟨host, path, sec⟩ := a
    obtain ⟨nm, val, dom, fold, grd⟩ := wr
    obtain ⟨hx, rfl, h1, _⟩ := da_strs a2
    obtain ⟨hy, rfl, h2, _⟩ := da_strs a3
    -- behind the folder
    have last : ∀ H1 kf fo, Same H H1 → SqT K H1 kf (fo.map V.str) → fo = fold.getD path.dropLast → tIfS (tTest (tOp (fun x y H Q => y = V.non ∧ Q (V.bl (decide (x = V.non))) H) (tVar 6) (tC V.non))) (tRet (tTup (tCons (tVar 5) (tCons (tVar 2) (tCons (tVar 8) (tCons (tC (.bl true)) tNil)))))) tNext
        { nx := tRet (tTup (tCons (tVar 5) (tCons (tVar 6) (tCons (tVar 8) (tCons (tC (.bl false)) tNil))))) { nx := fun _ H' => Q .non H', rt := Q }, rt := Q } [some (.ref b), some (.ref c), some (.ref hx), some (.ref hy), some (.bl grd), some (.str nm), some z, some z', some (.ref kf)] H1 := by
      intro H1 kf fo s1 k1 k2
      refine ⟨z, rfl, rfl, _, rfl, ?_⟩
      rw [Da.nonV w2]
      cases dom with
      | none =>
        refine iteT ⟨.str nm, rfl, .ref hx, rfl, .ref kf, rfl, len4, fun p np => ?_⟩
        have s2 : Same H1 (upd H1 p (.tup [.str nm, .ref hx, .ref kf, .bl true])) := same_new np
        exact q _ p (s1.trans s2) ⟨hx, kf, SqT.of upd_same, sqT_same (s1.trans s2) h1, by rw [show (keyM ⟨host, path, sec⟩ ⟨nm, val, none, fold, grd⟩).fold = fo from k2.symm]; exact sqT_same s2 k1⟩
      | some d =>
        obtain ⟨zz, rfl, hz, _⟩ := optT_str w2
        refine iteF ⟨.str nm, rfl, .ref zz, rfl, .ref kf, rfl, len4, fun p np => ?_⟩
        have s2 : Same H1 (upd H1 p (.tup [.str nm, .ref zz, .ref kf, .bl false])) := same_new np
        exact q _ p (s1.trans s2) ⟨zz, kf, SqT.of upd_same, sqT_same (s1.trans s2) hz, by rw [show (keyM ⟨host, path, sec⟩ ⟨nm, val, some d, fold, grd⟩).fold = fo from k2.symm]; exact sqT_same s2 k1⟩
    refine ⟨z', rfl, rfl, _, rfl, ?_⟩
    rw [Da.nonV w3]
    cases fold with
    | none =>
      refine iteT ⟨.ref hy, rfl, 1, rfl, -1, rfl, hy, path.map V.str, rfl, h2, fun cw => ?_, fun _ p np => ?_⟩
      · exact last H hy path (Same.refl H) h2 (cut_whole cw.2).symm
      · exact last _ p path.dropLast (same_new np) (SqT.of (by rw [← cut_last]; exact upd_same)) rfl
    | some fo =>
      obtain ⟨zz, rfl, hz, _⟩ := optT_str w3
      exact iteF ⟨.ref zz, rfl, last H zz fo (Same.refl H) hz rfl⟩
def spTw (K : PySem.W.Frag) : Sp := fun vs H Q _ => ∃ v p, vs = [v] ∧ Da K H v (Pg.py p) ∧ p.Ok ∧ ∀ H' D xs, Same H H' → H D = none → H' D = some (.lst xs) → TwAll K H' xs (takenL p.ad p.ws) → Q (.ref D) H'
theorem ok_taken_writes (T : Txt K mg) : Ok P w K mg base "taken_writes" P_taken_writes 3 (spTw K) := by
  have ok__is_taken : Ok P w K mg base "_is_taken" P__is_taken 2 (spTk K) := ok_is_taken T
  have ok__key : Ok P w K mg base "_key" P__key 1 (spKy K) := ok_key T
  refine T.d_taken_writes.ok sc_taken_writes (fun vs H Q E h => ?_) (fun f cdv A out s H vs Q E hr h => ?_)
  · obtain ⟨v, p, rfl, _⟩ := h
    rfl
  · obtain ⟨v, p, rfl, hp, op, q⟩ := h
    refine ⟨_, (pss_cons (ps_asg (pv 0) (pg_tup rfl (pgs_cons (pg_name (i := 1) sc_taken_writes.nd rfl (Or.inr rfl)) (pgs_cons (pg_name (i := 2) sc_taken_writes.nd rfl (Or.inl rfl)) pgs_nil))))
    (pss_one (ps_ret (pe_lc (own := [("write", 3)]) (g := gName 3) rfl sc_taken_writes.nd (pi_tup (pv 2)) (blkOk_by (N := N_taken_writes) (sc := defScope st_taken_writes) (by decide +kernel)) (fun _ _ _ _ _ => pg_name (i := 3) sc_taken_writes.nd rfl (Or.inl rfl)) (fun _ _ _ _ _ => pts_one (pt_val (pe_ok ok__is_taken (hr.mono (by decide)) (pa_cons (pv 1) (pa_cons (pv 3) pa_nil))))) (fun _ _ _ _ _ => (pe_tup (pa_cons (pe_ok ok__key (hr.mono (by decide)) (pa_cons (pv 1) (pa_cons (pv 3) pa_nil))) (pa_cons (pe_ix (show IxR _ (rIxT K) from ix_tup) (pv 3) pe_int (fun _ _ => rfl)) (pa_cons (pe_ix (show IxR _ (rIxT K) from ix_tup) (pv 3) pe_int (fun _ _ => rfl)) pa_nil))))))))), ?_⟩
    obtain ⟨b, x, y, rfl, h1, h2, h3⟩ := da_pg hp
    obtain ⟨c, xs, rfl, h4, nl, h5⟩ := da_seq h3
    obtain ⟨oa, most, ow⟩ := op
    refine ⟨.ref b, rfl, b, _, rfl, h1, rfl, _, _, rfl, _, _, rfl, rfl, ?_⟩
    refine ⟨.ref c, rfl, c, rfl, ⟨xs, h4⟩, fun D nD => ?_⟩
    have sD : ∀ {H1 : Hp} {o : HO}, Same H H1 → Same H (upd H1 D o) := fun {H1 o} s b u e => by
      rw [upd_ne (ne_of_none e nD)]
      exact s b u e
    refine lc_it (walk_tup (xs := xs)) (fun i H1 => Same H H1 ∧ ∃ acc, H1 D = some (.lst acc) ∧ TwAll K H1 acc (takenL p.ad (p.ws.take i)) ∧ acc.length ≤ i) ⟨sD (Same.refl H), [], upd_same, .nil, Nat.zero_le _⟩ (fun i H1 hi pv => sqT_same pv.1 h4) (fun i u H1 H2 hi pv yy => ?_) (fun H1 pv => ?_)
    · obtain ⟨rfl, e1⟩ := yy
      obtain ⟨s1, acc, d1, tw, al⟩ := pv
      obtain ⟨wr, e2, hw⟩ := da_nth h5 e1
      have step : takenL p.ad (p.ws.take (i + 1)) = takenL p.ad (p.ws.take i) ++ (if takenM p.ad wr then [(keyM p.ad wr, wr.val, wr.grd)] else []) := by
        rw [List.take_add_one, e2, takenL_app]
        rfl
      have okw := ow wr (List.mem_of_getElem? e2)
      have ilt : i < xs.length := hi
      refine ⟨rfl, x, rfl, u, rfl, x, u, p.ad, wr, rfl, Da.same s1 _ _ h2, Da.same s1 _ _ hw, oa, okw, fun H3 s3 => ⟨takenM p.ad wr, rfl, ?_⟩⟩
      have d3 := s3 _ _ d1
      cases tk : takenM p.ad wr with
      | false =>
        rw [tk] at step
        refine iteF ⟨s1.trans s3, acc, d3, ?_, Nat.le_succ_of_le al⟩
        rw [step]
        show TwAll K H3 acc (takenL p.ad (p.ws.take i) ++ [])
        rw [List.append_nil]
        exact tw.same s3
      | true =>
        rw [tk] at step
        have s13 := s1.trans s3
        refine iteT ⟨x, rfl, u, rfl, x, u, p.ad, wr, rfl, Da.same s13 _ _ h2, Da.same s13 _ _ hw, fun H4 k s4 kat => ?_⟩
        obtain ⟨g, z, z', rfl, w1, _, _⟩ := da_wr (Da.same (s13.trans s4) _ _ hw)
        refine ⟨.ref g, rfl, g, _, 1, _, rfl, rfl, w1, rfl, .ref g, rfl, g, _, 4, _, rfl, rfl, w1, rfl, sz1000 (by show 3 ≤ 1000; decide), fun q' nq => ?_⟩
        have s5 : Same H4 (upd H4 q' (.tup [.ref k, optV wr.val, .bl wr.grd])) := same_new nq
        have d5 := s5 _ _ (s4 _ _ d3)
        refine ⟨acc, d5, Nat.lt_of_le_of_lt al (Nat.lt_of_lt_of_le ilt (by rw [nl]; exact Nat.le_trans most (by decide))), sD ((s13.trans s4).trans s5), acc ++ [.ref q'], upd_same, ?_, by rw [List.length_append]; exact Nat.succ_le_succ al⟩
        rw [step]
        refine TwAll.tupS (tupS_lst d5) (TwAll.snoc ((tw.same (s3.trans s4)).same s5) ⟨q', k, rfl, SqT.of upd_same, kat.same s5⟩)
    · obtain ⟨s1, acc, d1, tw, al⟩ := pv
      rw [nl, List.take_length] at tw
      exact q H1 D acc s1 nD d1 tw
end
end S1
namespace S1
open PySem PySem.Spec PyProof.Rows L2 Jv
/-! ### data without a fault is a site -/
theorem sgs_low : ∀ c ∈ sgs.cps.toList, c < 0x110000 := by decide +kernel
theorem lts_low : ∀ c ∈ lts.cps.toList, c < 0x110000 := by decide +kernel
theorem okW_str {z x : Str} (low : ∀ c ∈ z.cps.toList, c < 0x110000) (h : okW z x = true) : PyData.strOk x = true := by
  unfold okW at h
  rw [Bool.and_eq_true] at h
  unfold PyData.strOk
  rw [Array.all_eq_true']
  intro c hc
  have := List.all_eq_true.mp h.2 c (Array.mem_toList_iff.mpr hc)
  exact decide_eq_true (low c (of_decide_eq_true this))
theorem words_of : ∀ {ds : List PyData}, ds.all (okD sgs) = true → ∃ xs : List Str, ds = xs.map .str ∧ okStrs xs
  | [], _ => ⟨[], rfl, fun _ h => by cases h⟩
  | d :: ds, h => by
    rw [List.all_cons, Bool.and_eq_true] at h
    obtain ⟨xs, rfl, ok⟩ := words_of h.2
    cases d with
    | str x =>
      refine ⟨x :: xs, rfl, fun y hy => ?_⟩
      rcases List.mem_cons.mp hy with rfl | hy
      · exact okW_str sgs_low h.1
      · exact ok y hy
    | _ => exact absurd h.1 Bool.false_ne_true
theorem okT_of {lo hi : Int} {d : PyData} (h : okT lo hi d = true) : ∃ xs : List Str, d = .tuple (xs.map .str) ∧ okStrs xs := by
  cases d with
  | tuple ds =>
    have e : okT lo hi (.tuple ds) = (decide (lo ≤ (ds.length : Int)) && decide ((ds.length : Int) ≤ hi) && ds.all (okD sgs)) := rfl
    rw [e, Bool.and_eq_true] at h
    obtain ⟨xs, rfl, ok⟩ := words_of h.2
    exact ⟨xs, rfl, ok⟩
  | _ => exact absurd h Bool.false_ne_true
theorem okA_of {d : PyData} (h : okA d = true) : ∃ a : Ad, d = a.py ∧ a.Ok := by
  cases d with
  | tuple ds =>
    match ds, h with
    | [x, y, z], h =>
      have e : okA (.tuple [x, y, z]) = (okT 2 5 x && okT 0 4 y && dBl z) := rfl
      rw [e, Bool.and_eq_true, Bool.and_eq_true] at h
      obtain ⟨xs, rfl, o1⟩ := okT_of h.1.1
      obtain ⟨ys, rfl, o2⟩ := okT_of h.1.2
      cases z with
      | bool b => exact ⟨⟨xs, ys, b⟩, rfl, o1, o2⟩
      | _ => exact absurd h.2 Bool.false_ne_true
  | _ => exact absurd h Bool.false_ne_true
theorem okWr_of {d : PyData} (h : okWr d = true) : ∃ w : Wr, d = w.py ∧ w.Ok := by
  cases d with
  | tuple ds =>
    match ds, h with
    | [n, v, d, f, g], h =>
      have e : okWr (.tuple [n, v, d, f, g]) = (okD lts n && dBl g && (isNon v || okD sgs v) && (isNon d || okT 2 5 d) && (isNon f || okT 0 4 f)) := rfl
      rw [e, Bool.and_eq_true, Bool.and_eq_true, Bool.and_eq_true, Bool.and_eq_true] at h
      obtain ⟨⟨⟨⟨h1, h2⟩, h3⟩, h4⟩, h5⟩ := h
      obtain ⟨x, rfl, o1⟩ : ∃ x, n = .str x ∧ PyData.strOk x = true := by
        cases n with
        | str x => exact ⟨x, rfl, okW_str lts_low h1⟩
        | _ => exact absurd h1 Bool.false_ne_true
      obtain ⟨b, rfl⟩ : ∃ b, g = .bool b := by
        cases g with
        | bool b => exact ⟨b, rfl⟩
        | _ => exact absurd h2 Bool.false_ne_true
      obtain ⟨vo, rfl, o2⟩ : ∃ vo, v = optS vo ∧ ∀ x, vo = some x → PyData.strOk x = true := by
        cases v with
        | none => exact ⟨none, rfl, fun x e => by cases e⟩
        | str x => exact ⟨some x, rfl, fun y e => by cases e; exact okW_str sgs_low h3⟩
        | _ => exact absurd h3 Bool.false_ne_true
      have opt : ∀ {lo hi : Int} {z : PyData}, (isNon z || okT lo hi z) = true → ∃ zo, z = optT zo ∧ ∀ x, zo = some x → okStrs x := by
        intro lo hi z hz
        cases q : isNon z with
        | true =>
          cases z with
          | none => exact ⟨none, rfl, fun x e => by cases e⟩
          | _ => exact absurd q Bool.false_ne_true
        | false =>
          rw [q, Bool.false_or] at hz
          obtain ⟨xs, rfl, o⟩ := okT_of hz
          exact ⟨some xs, rfl, fun y e => by cases e; exact o⟩
      obtain ⟨dO, rfl, o3⟩ := opt h4
      obtain ⟨fO, rfl, o4⟩ := opt h5
      exact ⟨⟨x, vo, dO, fO, b⟩, rfl, o1, o2, o3, o4⟩
  | _ => exact absurd h Bool.false_ne_true
theorem writes_of : ∀ {ds : List PyData} {n : Nat}, badFrom n ds = none → ∃ ws : List Wr, ds = ws.map Wr.py ∧ ∀ w ∈ ws, w.Ok
  | [], _, _ => ⟨[], rfl, fun _ h => by cases h⟩
  | d :: ds, n, h => by
    unfold badFrom at h
    cases q : okWr d with
    | false =>
      rw [q] at h
      cases h
    | true =>
      rw [q, if_pos rfl] at h
      obtain ⟨ws, rfl, ok⟩ := writes_of h
      obtain ⟨w, rfl, o⟩ := okWr_of q
      refine ⟨w :: ws, rfl, fun y hy => ?_⟩
      rcases List.mem_cons.mp hy with rfl | hy
      · exact o
      · exact ok y hy
theorem page_of {n : Int} {d : PyData} (h : pageBad n d = none) : ∃ p : Pg, d = p.py ∧ p.Ok := by
  cases d with
  | tuple ds =>
    by_cases l : ds.length = 2
    · match ds, l, h with
      | [a, b], _, h =>
        cases qa : okA a with
        | false =>
          rw [pageBad_a qa] at h
          cases h
        | true =>
          cases b with
          | tuple ws =>
            by_cases hw : (ws.length : Int) ≤ 5
            · rw [pageBad_w qa hw] at h
              cases q : badFrom 0 ws with
              | some j =>
                rw [q] at h
                cases h
              | none =>
                obtain ⟨wl, rfl, ok⟩ := writes_of q
                obtain ⟨ad, rfl, oa⟩ := okA_of qa
                rw [List.length_map] at hw
                exact ⟨⟨ad, wl⟩, rfl, oa, by show wl.length ≤ 5; omega, ok⟩
            · rw [pageBad_m qa hw] at h
              cases h
          | _ => cases h
    · rw [pageBad_not2 l] at h
      cases h
  | _ => cases h
theorem pages_of : ∀ {ds : List PyData} {n : Nat}, pagesBad n ds = none → ∃ ps : List Pg, ds = ps.map Pg.py ∧ ∀ p ∈ ps, p.Ok
  | [], _, _ => ⟨[], rfl, fun _ h => by cases h⟩
  | d :: ds, n, h => by
    unfold pagesBad at h
    cases q : pageBad n d with
    | some p =>
      rw [q] at h
      cases h
    | none =>
      rw [q] at h
      obtain ⟨ps, rfl, ok⟩ := pages_of h
      obtain ⟨p, rfl, o⟩ := page_of q
      refine ⟨p :: ps, rfl, fun y hy => ?_⟩
      rcases List.mem_cons.mp hy with rfl | hy
      · exact o
      · exact ok y hy
theorem site_of {d : PyData} (h : siteBad d = none) : ∃ s : List Pg, d = sitePy s ∧ SiteOk s := by
  cases d with
  | tuple ds =>
    have e : siteBad (.tuple ds) = if decide ((1 : Int) ≤ (ds.length : Int)) && decide ((ds.length : Int) ≤ 5) then pagesBad 0 ds else some [] := rfl
    rw [e] at h
    by_cases c : (decide ((1 : Int) ≤ (ds.length : Int)) && decide ((ds.length : Int) ≤ 5)) = true
    · rw [if_pos c] at h
      obtain ⟨ps, rfl, ok⟩ := pages_of h
      rw [Bool.and_eq_true, decide_eq_true_eq, decide_eq_true_eq, List.length_map] at c
      exact ⟨ps, rfl, by omega, ok⟩
    · rw [if_neg c] at h
      cases h
  | _ => cases h
end S1
namespace S1
open PySem PySem.Spec PyProof.Rows L2 Jv
def okKey : PyData → Bool
  | .tuple [n, d, f, a] => okD lts n && okT 2 5 d && okT 0 4 f && dBl a
  | _ => false
def okKept : PyData → Bool
  | .tuple [k, v, g] => okKey k && okD sgs v && dBl g
  | _ => false
theorem okKey_not4 : ∀ {ds : List PyData}, ds.length ≠ 4 → okKey (.tuple ds) = false
  | [], _ => rfl
  | [_], _ => rfl
  | [_, _], _ => rfl
  | [_, _, _], _ => rfl
  | [_, _, _, _], h => absurd rfl h
  | _ :: _ :: _ :: _ :: _ :: _, _ => rfl
theorem okKept_not3 : ∀ {ds : List PyData}, ds.length ≠ 3 → okKept (.tuple ds) = false
  | [], _ => rfl
  | [_], _ => rfl
  | [_, _], _ => rfl
  | [_, _, _], h => absurd rfl h
  | _ :: _ :: _ :: _ :: _, _ => rfl
section
variable {P : Program} {w : World} {K : PySem.W.Frag} {mg : Str → Option Value} {base : Heap} {C C1 C2 : Addr}
theorem ok_is_key (T : Txt K mg) : Ok P w K mg base "is_key" P_is_key 4 (spOne K okKey) := by
  have ok_is_name : Ok P w K mg base "is_name" P_is_name 2 (spOne K (okD lts)) := ok_is_name T
  have ok_is_host : Ok P w K mg base "is_host" P_is_host 3 (spOne K (okT 2 5)) := ok_is_host T
  have ok_is_path : Ok P w K mg base "is_path" P_is_path 3 (spOne K (okT 0 4)) := ok_is_path T
  refine T.d_is_key.ok sc_is_key (fun vs H Q E h => ?_) (fun f cdv A out s H vs Q E hr h => ?_)
  · obtain ⟨v, d, rfl, _⟩ := h
    rfl
  · obtain ⟨v, d, rfl, hd, q⟩ := h
    refine ⟨_, (pss_cons (ps_if (PW.pt (pw_or (pt_not (pt_val (pe_callB call_isi (by rfl) T.z_isinstance (by decide +kernel) (pa_cons (pv 0) (pa_cons (pe_bltn (v := .ty "tuple") (by rfl) T.z_tuple (by decide +kernel) rfl) pa_nil))))) (pw_or1 (pt_cmpR op_ne (pe_callB call_len (by rfl) T.z_len (by decide +kernel) (pa_cons (pv 0) pa_nil)) pe_int (nomark _))))) (pss_one (ps_ret pe_bl)) pss_nil)
    (pss_cons (ps_asg (pv 0) (pg_tup rfl (pgs_cons (pg_name (i := 1) sc_is_key.nd rfl (Or.inl rfl)) (pgs_cons (pg_name (i := 2) sc_is_key.nd rfl (Or.inl rfl)) (pgs_cons (pg_name (i := 3) sc_is_key.nd rfl (Or.inl rfl)) (pgs_cons (pg_name (i := 4) sc_is_key.nd rfl (Or.inl rfl)) pgs_nil))))))
    (pss_one (ps_ret (pe_and (pe_ok ok_is_name (hr.mono (by decide)) (pa_cons (pv 1) pa_nil)) (pe_and (pe_ok ok_is_host (hr.mono (by decide)) (pa_cons (pv 2) pa_nil)) (pe_and (pe_ok ok_is_path (hr.mono (by decide)) (pa_cons (pv 3) pa_nil)) (pe_one (pe_callB call_isi (by rfl) T.z_isinstance (by decide +kernel) (pa_cons (pv 4) (pa_cons (pe_bltn (v := .ty "bool") (by rfl) T.z_bool (by decide +kernel) rfl) pa_nil))))))))))), ?_⟩
    obtain ⟨t, ty, ks, _, _, _⟩ := Da.isi hd
    refine ⟨v, rfl, v, .ty "tuple", t, .type "tuple", dTup d, rfl, .ty "tuple", ty, ks, dTup d, rfl, ?_⟩
    cases hd with
    | @tup a xs ds h1 h3 hz =>
      have nl := DaAll.len h3
      refine iteF ⟨.ref a, rfl, .ref a, xs.length, rfl, Or.inr ⟨xs, h1, rfl⟩, rfl, _, rfl, ?_⟩
      by_cases g : xs.length = 4
      · rw [decide_eq_true (show V.int (xs.length : Int) = V.int 4 by rw [g]; rfl)]
        refine iteF ?_
        match xs, ds, h3, nl, g with
        | [x0, x1, x2, x3], [d0, d1, d2, d3], .cons p0 (.cons p1 (.cons p2 (.cons p3 .nil))), _, _ =>
          refine ⟨.ref a, rfl, a, [x0, x1, x2, x3], rfl, h1, rfl, x0, _, rfl, x1, _, rfl, x2, _, rfl, x3, [], rfl, rfl, ?_⟩
          refine ⟨x0, rfl, x0, d0, rfl, p0, fun H1 s1 => ⟨okD lts d0, rfl, ?_⟩⟩
          have e0 : okKey (.tuple [d0, d1, d2, d3]) = (okD lts d0 && okT 2 5 d1 && okT 0 4 d2 && dBl d3) := rfl
          rw [e0] at q
          cases b0 : okD lts d0 with
          | false =>
            rw [b0] at q
            exact iteF (q H1 s1)
          | true =>
            rw [b0] at q
            refine iteT ⟨x1, rfl, x1, d1, rfl, Da.same s1 _ _ p1, fun H2 s2 => ⟨okT 2 5 d1, rfl, ?_⟩⟩
            cases b1 : okT 2 5 d1 with
            | false =>
              rw [b1] at q
              exact iteF (q H2 (s1.trans s2))
            | true =>
              rw [b1] at q
              refine iteT ⟨x2, rfl, x2, d2, rfl, Da.same (s1.trans s2) _ _ p2, fun H3 s3 => ⟨okT 0 4 d2, rfl, ?_⟩⟩
              have s13 := (s1.trans s2).trans s3
              cases b2 : okT 0 4 d2 with
              | false =>
                rw [b2] at q
                exact iteF (q H3 s13)
              | true =>
                rw [b2] at q
                obtain ⟨t2, ty2, _, _, ks2, _⟩ := Da.isi (Da.same s13 _ _ p3)
                exact iteT ⟨x3, rfl, x3, .ty "bool", t2, .type "bool", dBl d3, rfl, .ty "bool", ty2, ks2, q H3 s13⟩
      · rw [decide_eq_false (show ¬ V.int (xs.length : Int) = V.int 4 from fun z => g (by have := V.int.inj z; omega))]
        rw [okKey_not4 (by omega)] at q
        exact iteT (q H (Same.refl H))
    | non => exact iteT (iteT (q H (Same.refl H)))
    | int i => exact iteT (iteT (q H (Same.refl H)))
    | bl b => exact iteT (iteT (q H (Same.refl H)))
    | str _ _ => exact iteT (iteT (q H (Same.refl H)))
    | lst _ _ _ => exact iteT (iteT (q H (Same.refl H)))
    | dic _ => exact iteT (iteT (q H (Same.refl H)))
theorem ok_is_kept (T : Txt K mg) : Ok P w K mg base "is_kept" P_is_kept 5 (spOne K okKept) := by
  have ok_is_key : Ok P w K mg base "is_key" P_is_key 4 (spOne K okKey) := ok_is_key T
  have ok_is_label : Ok P w K mg base "is_label" P_is_label 2 (spOne K (okD sgs)) := ok_is_label T
  refine T.d_is_kept.ok sc_is_kept (fun vs H Q E h => ?_) (fun f cdv A out s H vs Q E hr h => ?_)
  · obtain ⟨v, d, rfl, _⟩ := h
    rfl
  · obtain ⟨v, d, rfl, hd, q⟩ := h
    refine ⟨_, (pss_cons (ps_if (PW.pt (pw_or (pt_not (pt_val (pe_callB call_isi (by rfl) T.z_isinstance (by decide +kernel) (pa_cons (pv 0) (pa_cons (pe_bltn (v := .ty "tuple") (by rfl) T.z_tuple (by decide +kernel) rfl) pa_nil))))) (pw_or1 (pt_cmpR op_ne (pe_callB call_len (by rfl) T.z_len (by decide +kernel) (pa_cons (pv 0) pa_nil)) pe_int (nomark _))))) (pss_one (ps_ret pe_bl)) pss_nil)
    (pss_cons (ps_asg (pv 0) (pg_tup rfl (pgs_cons (pg_name (i := 1) sc_is_kept.nd rfl (Or.inl rfl)) (pgs_cons (pg_name (i := 2) sc_is_kept.nd rfl (Or.inl rfl)) (pgs_cons (pg_name (i := 3) sc_is_kept.nd rfl (Or.inl rfl)) pgs_nil)))))
    (pss_one (ps_ret (pe_and (pe_ok ok_is_key (hr.mono (by decide)) (pa_cons (pv 1) pa_nil)) (pe_and (pe_ok ok_is_label (hr.mono (by decide)) (pa_cons (pv 2) pa_nil)) (pe_one (pe_callB call_isi (by rfl) T.z_isinstance (by decide +kernel) (pa_cons (pv 3) (pa_cons (pe_bltn (v := .ty "bool") (by rfl) T.z_bool (by decide +kernel) rfl) pa_nil)))))))))), ?_⟩
    obtain ⟨t, ty, ks, _, _, _⟩ := Da.isi hd
    refine ⟨v, rfl, v, .ty "tuple", t, .type "tuple", dTup d, rfl, .ty "tuple", ty, ks, dTup d, rfl, ?_⟩
    cases hd with
    | @tup a xs ds h1 h3 hz =>
      have nl := DaAll.len h3
      refine iteF ⟨.ref a, rfl, .ref a, xs.length, rfl, Or.inr ⟨xs, h1, rfl⟩, rfl, _, rfl, ?_⟩
      by_cases g : xs.length = 3
      · rw [decide_eq_true (show V.int (xs.length : Int) = V.int 3 by rw [g]; rfl)]
        refine iteF ?_
        match xs, ds, h3, nl, g with
        | [x0, x1, x2], [d0, d1, d2], .cons p0 (.cons p1 (.cons p2 .nil)), _, _ =>
          refine ⟨.ref a, rfl, a, [x0, x1, x2], rfl, h1, rfl, x0, _, rfl, x1, _, rfl, x2, [], rfl, rfl, ?_⟩
          refine ⟨x0, rfl, x0, d0, rfl, p0, fun H1 s1 => ⟨okKey d0, rfl, ?_⟩⟩
          have e0 : okKept (.tuple [d0, d1, d2]) = (okKey d0 && okD sgs d1 && dBl d2) := rfl
          rw [e0] at q
          cases b0 : okKey d0 with
          | false =>
            rw [b0] at q
            exact iteF (q H1 s1)
          | true =>
            rw [b0] at q
            refine iteT ⟨x1, rfl, x1, d1, rfl, Da.same s1 _ _ p1, fun H2 s2 => ⟨okD sgs d1, rfl, ?_⟩⟩
            cases b1 : okD sgs d1 with
            | false =>
              rw [b1] at q
              exact iteF (q H2 (s1.trans s2))
            | true =>
              rw [b1] at q
              obtain ⟨t2, ty2, _, _, ks2, _⟩ := Da.isi (Da.same (s1.trans s2) _ _ p2)
              exact iteT ⟨x2, rfl, x2, .ty "bool", t2, .type "bool", dBl d2, rfl, .ty "bool", ty2, ks2, q H2 (s1.trans s2)⟩
      · rw [decide_eq_false (show ¬ V.int (xs.length : Int) = V.int 3 from fun z => g (by have := V.int.inj z; omega))]
        rw [okKept_not3 (by omega)] at q
        exact iteT (q H (Same.refl H))
    | non => exact iteT (iteT (q H (Same.refl H)))
    | int i => exact iteT (iteT (q H (Same.refl H)))
    | bl b => exact iteT (iteT (q H (Same.refl H)))
    | str _ _ => exact iteT (iteT (q H (Same.refl H)))
    | lst _ _ _ => exact iteT (iteT (q H (Same.refl H)))
    | dic _ => exact iteT (iteT (q H (Same.refl H)))
def spPlace (K : PySem.W.Frag) : Sp := fun vs H Q _ => ∃ v k, vs = [v] ∧ KpAt K H v k ∧ ∀ H' u, Same H H' → Da K H' u (placePy k.key) → Q u H'
theorem ok_place (T : Txt K mg) : Ok P w K mg base "_place" P__place 1 (spPlace K) := by
  refine T.d__place.ok sc__place (fun vs H Q E h => ?_) (fun f cdv A out s H vs Q E hr h => ?_)
  · obtain ⟨v, d, rfl, _⟩ := h
    rfl
  · obtain ⟨v, k, rfl, ⟨b, a, rfl, h1, ⟨c, d, k1, k2, k3⟩, kz, vz⟩, q⟩ := h
    refine ⟨_, (pss_cons (ps_asg (pe_ix ix_tup (pv 0) pe_int (fun _ _ => rfl)) (pg_tup rfl (pgs_cons (pg_name (i := 1) sc__place.nd rfl (Or.inl rfl)) (pgs_cons (pg_name (i := 2) sc__place.nd rfl (Or.inl rfl)) (pgs_cons (pg_name (i := 3) sc__place.nd rfl (Or.inl rfl)) (pgs_cons (pg_name (i := 2) sc__place.nd rfl (Or.inl rfl)) pgs_nil))))))
    (pss_one (ps_ret (pe_tup (pa_cons (pv 1) (pa_cons (pe_un un_neg (pe_callB call_len (by rfl) T.z_len (by decide +kernel) (pa_cons (pv 3) pa_nil))) (pa_cons (pv 3) pa_nil))))))), ?_⟩
    refine ⟨.ref b, rfl, b, _, 0, .ref a, rfl, rfl, h1, rfl, a, _, rfl, k1, rfl, _, _, rfl, _, _, rfl, _, _, rfl, _, _, rfl, rfl, ?_⟩
    refine ⟨.str k.key.name, rfl, .ref d, rfl, .ref d, (k.key.fold.map V.str).length, rfl, Or.inr ⟨_, k3, rfl⟩, _, rfl, .ref d, rfl, sz1000 (by show 3 ≤ 1000; decide), fun p np => ?_⟩
    have s1 := same_new (o := .tup [.str k.key.name, .int (-((k.key.fold.map V.str).length : Int)), .ref d]) np
    refine q _ _ s1 (.tup (SqT.of upd_same) (.cons (.str _ kz.n) (.cons ?_ (.cons (.tup (sqT_same s1 k3) (daStrs _ kz.f.2) (by rw [List.length_map]; exact kz.f.1)) .nil))) (by show 3 ≤ 1000; decide))
    rw [List.length_map]
    exact .int _
/-- what makes a jar: each can be kept, no key twice, each behind the one ahead -/
structure JarOk (js : List Kp) : Prop where
  kp : ∀ k ∈ js, okKept k.py = true
  nd : (js.map (·.key)).Nodup
  asc : ∀ (i : Nat) k k', js[i]? = some k → js[i + 1]? = some k' → PySem.W.dataLt (placePy k'.key) (placePy k.key) = false
  few : js.length ≤ 60
def spJar (K : PySem.W.Frag) : Sp := fun vs H Q _ => ∃ v js, vs = [v] ∧ Da K H v (jarPy js) ∧ JarOk js ∧ ∀ H', Same H H' → Q v H'
theorem place_tup (k : Ky) : ∃ x r, placePy k = .tuple (x :: r) := ⟨_, _, rfl⟩
theorem ok_need_jar (T : Txt K mg) (n_BadJar : Exn P w K mg base "BadJar" "place" C) : OkX P w K mg base "need_jar" P_need_jar 6 (spJar K) := by
  have ok_is_kept : Ok P w K mg base "is_kept" P_is_kept 5 (spOne K okKept) := ok_is_kept T
  have ok__place : Ok P w K mg base "_place" P__place 1 (spPlace K) := ok_place T
  refine T.d_need_jar.okX sc_need_jar (fun vs H Q E h => ?_) (fun f cdv A out s H vs Q E hr h => ?_)
  · obtain ⟨v, d, rfl, _⟩ := h
    rfl
  · obtain ⟨v, js, rfl, hd, ok, q⟩ := h
    refine ⟨_, (pss_cons (ps_if (pt_not (pt_val (pe_callB call_isi (by rfl) T.z_isinstance (by decide +kernel) (pa_cons (pv 0) (pa_cons (pe_bltn (v := .ty "tuple") (by rfl) T.z_tuple (by decide +kernel) rfl) pa_nil))))) (pss_one (ps_raiseE n_BadJar (hr.mono (by decide)) (takes_of rfl rfl rfl rfl) pe_non)) pss_nil)
    (pss_cons (ps_set (i := 1) sc_need_jar.nd rfl (Or.inl rfl) (pe_callTy0 (show CallR _ _ (rKs0 P w) from cr_ks0) (by rfl) T.z_set (by decide +kernel)))
    (pss_cons (ps_for (passes_of rfl) rfl (pi_jenum (by rfl) T.z_enumerate (pa_cons (pv 0) pa_nil)) (pg_tup rfl (pgs_cons (pg_name (i := 2) sc_need_jar.nd rfl (Or.inl rfl)) (pgs_cons (pg_name (i := 3) sc_need_jar.nd rfl (Or.inl rfl)) pgs_nil))) (pss_cons (ps_if (PW.pt (pw_or (pt_not (pt_val (pe_ok ok_is_kept (hr.mono (by decide)) (pa_cons (pv 3) pa_nil)))) (pw_or1 (pt_cmpR (show OpR _ _ (rKsIn K P w id) from op_ksIn (hx_of hr)) (pe_ix ix_tup (pv 3) pe_int (fun _ _ => rfl)) (pv 1) (by rfl))))) (pss_one (ps_raiseE n_BadJar (hr.mono (by decide)) (takes_of rfl rfl rfl rfl) (pv 2))) pss_nil)
      (pss_cons (ps_if (PW.pt (pw_and (pt_cmpR op_gt (pv 2) pe_int (nomark _)) (pw_and1 (pt_cmpR (show OpR _ _ (rLtA K) from op_ltA (hb_of hr)) (pe_ok ok__place (hr.mono (by decide)) (pa_cons (pv 3) pa_nil)) (pe_ok ok__place (hr.mono (by decide)) (pa_cons (pe_ix ix_tup (pv 0) (pe_op op_sub (pv 2) pe_int) (fun _ _ => rfl)) pa_nil)) (nomark _))))) (pss_one (ps_raiseE n_BadJar (hr.mono (by decide)) (takes_of rfl rfl rfl rfl) (pv 2))) pss_nil)
      (pss_one (ps_expr (pe_bt PySem.F.plainAttrs_set PySem.F.slot_set_add PySem.F.type_set_add (show MtR _ _ (rKsAdd K P w) from mt_ksAdd (hx_of hr)) (show TyEv _ _ (isKs K P w) from ev_ks) (pv 1) (pa_cons (pe_ix ix_tup (pv 3) pe_int (fun _ _ => rfl)) pa_nil)))))))
    (pss_one (ps_ret (pv 0)))))), ?_⟩
    obtain ⟨t, ty, ks, _, _, _⟩ := Da.isi hd
    refine ⟨v, rfl, v, .ty "tuple", t, .type "tuple", true, rfl, .ty "tuple", ty, ks, true, rfl, iteF ?_⟩
    obtain ⟨b, xs, rfl, h1, h2, h3⟩ := da_jar hd
    refine ⟨rfl, fun D nD => ?_⟩
    have s0 : Same H (upd H D (KsO P w D [])) := same_new nD
    have nx := Paired.length h2
    refine ⟨.ref b, rfl, b, xs, rfl, sqT_same s0 h1, for_it walk_jte (fun i sg H' => (∃ c d, sg = [some (.ref b), some (.ref D), c, d]) ∧ Same H H' ∧ SqT K H' b xs ∧ Paired (KpAt K H') xs js ∧ ∃ L, Ks K P w H' D L ∧ L.length ≤ i ∧ ∀ k, k ∈ L.map (·.2) ↔ k ∈ (js.take i).map (·.key))
      ⟨⟨_, _, rfl⟩, s0, sqT_same s0 h1, Paired.mapP h2 fun _ _ z => z.tupS (Same.tupS s0), [], ks_new, Nat.le_refl _, fun k => Iff.rfl⟩ (fun i sg H' hi pv => pv.2.2.1) (fun i x sg H1 H2 hlt pv y => ?_) fun sg H1 pv => ?_⟩
    · obtain ⟨⟨c, d, rfl⟩, sa, sb, pk, L, hS, ll, lk⟩ := pv
      obtain ⟨T', u, z, rfl, nT, rfl, hu, hz'⟩ := y
      cases hu
      have st : Same H1 (upd H1 T' (.tup [.int (i : Nat), z])) := same_new nT
      obtain ⟨k, ek, hk⟩ := pairedGet pk hz'
      refine ⟨T', [_, _], rfl, SqT.of upd_same, rfl, _, _, rfl, _, _, rfl, rfl, ?_⟩
      have okk := ok.kp k (List.mem_of_getElem? ek)
      have km : k.key ∉ L.map (·.2) := by
        rw [lk]
        intro hm
        obtain ⟨k2, m2, e2⟩ := List.mem_map.mp hm
        obtain ⟨j, hj⟩ := List.getElem?_of_mem m2
        rw [List.getElem?_take] at hj
        split at hj
        · rename_i lt
          have e3 : (js.map (·.key))[j]? = some k.key := by rw [List.getElem?_map, hj]; exact congrArg some e2
          have e4 : (js.map (·.key))[i]? = some k.key := by rw [List.getElem?_map, ek]; rfl
          have := (List.getElem?_inj (List.getElem?_eq_some_iff.mp e3).1 ok.nd).mp (e3.trans e4.symm)
          omega
        · cases hj
      refine ⟨z, rfl, z, k.py, rfl, hk.da |> Da.same st _ _, fun H3 s3 => ⟨okKept k.py, rfl, ?_⟩⟩
      rw [okk]
      have s13 := st.trans s3
      have hk3 := hk.tupS (Same.tupS s13)
      obtain ⟨e, a, rfl, k1, k2, k3, k4⟩ := id hk3
      have dD := s13 _ _ hS.at_
      have hS3 : Ks K P w H3 D L := ⟨dD, fun p hp => (hS.keys p hp).same s13⟩
      refine iteF ⟨.ref e, rfl, e, _, 0, .ref a, rfl, rfl, k1, rfl, .ref D, rfl, a, D, L, k.key, rfl, rfl, hS3, k2, _, rfl, ?_⟩
      rw [decide_eq_false km]
      refine iteF ?_
      -- behind the order: it is put in
      have put : ∀ H4, Same H3 H4 → tDrop (tBT (isKs K P w) (rKsAdd K P w) (tVar 1) (tCons (tOp (rIxT K) (tVar 3) (tC (V.int 0))) tNil)) { nx := fun sg H' => (∃ c d, sg = [some (.ref b), some (.ref D), c, d]) ∧ Same H H' ∧ SqT K H' b xs ∧ Paired (KpAt K H') xs js ∧ ∃ L, Ks K P w H' D L ∧ L.length ≤ i + 1 ∧ ∀ k, k ∈ L.map (·.2) ↔ k ∈ (js.take (i + 1)).map (·.key), rt := Q }
          [some (.ref b), some (.ref D), some (.int (i : Nat)), some (.ref e)] H4 := by
        intro H4 s4
        have hS4 : Ks K P w H4 D L := ⟨s4 _ _ dD, fun p hp => (hS3.keys p hp).same s4⟩
        have jl := ok.few
        refine ⟨.ref D, rfl, ⟨D, L, rfl, hS4⟩, .ref e, rfl, e, _, 0, .ref a, rfl, rfl, sqT_same s4 k1, rfl, D, L, a, k.key, rfl, rfl, hS4, k2.same s4, by omega, fun H5 L' hb hS5 m1 m2 => ?_⟩
        have up : TupS H4 H5 := fun b' o eb tt => by
          have nb : b' ≠ D := by
            rintro rfl
            rw [hS4.at_] at eb
            cases eb
            rcases tt with ⟨ys, tt⟩ | ⟨y1, y2, tt⟩ <;> cases tt
          rw [hb b' nb]
          exact eb
        have pm := m2 km
        refine ⟨⟨_, _, rfl⟩, fun b' o eb => ?_, up.sq (sqT_same s4 (sqT_same s13 sb)), Paired.mapP pk fun _ _ z => (z.tupS (Same.tupS (s13.trans s4))).tupS up, L', hS5, ?_, fun k' => ?_⟩
        · have nb : b' ≠ D := by
            rintro rfl
            rw [nD] at eb
            cases eb
          rw [hb b' nb]
          exact s4 _ _ (s13 _ _ (sa _ _ eb))
        · rw [pm.length_eq, List.length_cons]
          omega
        · rw [(pm.map (·.2)).mem_iff, List.take_add_one, ek, List.map_append, List.mem_append, List.map_cons, List.mem_cons, lk k']
          constructor
          · rintro (rfl | h)
            · exact Or.inr (by simp)
            · exact Or.inl h
          · rintro (h | h)
            · exact Or.inr h
            · exact Or.inl (by simpa using h)
      refine ⟨.int (i : Nat), rfl, (i : Nat), 0, rfl, rfl, _, rfl, ?_⟩
      by_cases i0 : (0 : Int) < ((i : Nat) : Int)
      · rw [decide_eq_true i0]
        refine iteT ⟨.ref e, rfl, .ref e, k, rfl, hk3, fun H4 u s4 hu => ?_⟩
        obtain ⟨j, rfl⟩ : ∃ j, i = j + 1 := ⟨i - 1, by omega⟩
        have hl : j < xs.length := by omega
        have ex : xs[j]? = some xs[j] := List.getElem?_eq_getElem hl
        obtain ⟨k', ek', hk'⟩ := pairedGet pk ex
        have as := ok.asc j k' k ek' ek
        have s14 := s13.trans s4
        refine ⟨.ref b, rfl, .int ((j + 1 : Nat) : Int), rfl, ((j + 1 : Nat) : Int), 1, rfl, rfl, b, xs, ((j + 1 : Nat) : Int) - 1, xs[j], rfl, rfl, sqT_same s14 sb, ?_, xs[j], k', rfl, hk'.tupS (Same.tupS s14), fun H5 u' s5 hu' => ?_⟩
        · rw [show ((j + 1 : Nat) : Int) - 1 = ((j : Nat) : Int) by omega]
          exact atI_nat ex
        · refine ⟨_, _, Da.same s5 _ _ hu, hu', place_alike _ _, (fun z => by cases z), place_depth _, _, rfl, ?_⟩
          rw [as]
          exact iteF (put H5 (s4.trans s5))
      · rw [decide_eq_false i0]
        exact iteF (put H3 (Same.refl _))
    · obtain ⟨⟨c, d, rfl⟩, sa, _⟩ := pv
      exact ⟨.ref b, rfl, q H1 sa⟩
end
end S1
namespace S1
open PySem PySem.Spec PyProof.Rows L2 Jv
section
variable {P : Program} {w : World} {K : PySem.W.Frag} {mg : Str → Option Value} {base : Heap} {C C1 C2 : Addr}
/-- taken writes are done in a dict -/
def spDo (K : PySem.W.Frag) (P : Program) (w : World) : Sp := fun vs H Q _ => ∃ d L t xs ts, vs = [.ref d, .ref L] ∧ TabAt K P w H d t ∧ H L = some (.lst xs) ∧ TwAll K H xs ts ∧ (∀ x ∈ ts, wSz x) ∧ t.length + ts.length ≤ 1000 ∧
  ∀ H', But1 d H H' → TabAt K P w H' d (doWs t ts) → Q .non H'
theorem ok_do_writes (T : Txt K mg) : Ok P w K mg base "_do_writes" P__do_writes 1 (spDo K P w) := by
  refine T.d__do_writes.ok sc__do_writes (fun vs H Q E h => ?_) (fun f cdv A out s H vs Q E hr h => ?_)
  · obtain ⟨d, L, t, xs, ts, rfl, _⟩ := h
    rfl
  · obtain ⟨d, L, t, xs, ts, rfl, ht, hL, tw, wz, len, q⟩ := h
    refine ⟨_, (pss_one (ps_for PassesOwn.never rfl (pi_list (pv 1)) (pg_tup rfl (pgs_cons (pg_name (i := 2) sc__do_writes.nd rfl (Or.inl rfl)) (pgs_cons (pg_name (i := 3) sc__do_writes.nd rfl (Or.inl rfl)) (pgs_cons (pg_name (i := 4) sc__do_writes.nd rfl (Or.inl rfl)) pgs_nil)))) (pss_one (ps_if (pt_cmpR op_isN (pv 3) pe_non (nomark _)) (pss_one (ps_expr (pe_bt PySem.F.plainAttrs_dict PySem.F.slot_dict_pop PySem.F.type_dict_pop (show MtR _ _ (rPopN K P w) from mt_popN (hx_of hr)) (show TyEv _ _ (isNd K P w) from ev_nd) (pv 0) (pa_cons (pv 2) (pa_cons pe_non pa_nil))))) (pss_one (ps_asg (pe_tup (pa_cons (pv 3) (pa_cons (pv 4) pa_nil))) (pg_sub (pv 0) (pv 2) (show PSet _ (rNput K P w) from set_nd (hn_of hr))))))))), ?_⟩
    have tl := Paired.length tw
    have dL : L ≠ d := by
      obtain ⟨kvs, h1, _⟩ := ht.ex
      exact h1.not_lst hL
    refine ⟨.ref L, rfl, L, rfl, ⟨_, SqL.of hL⟩, for_it walk_list (fun i sg H' => (∃ x y z, sg = [some (.ref d), some (.ref L), x, y, z]) ∧ But1 d H H' ∧ TabAt K P w H' d (doWs t (ts.take i)))
      ⟨⟨_, _, _, rfl⟩, But1.refl d H, ht⟩ (fun i sg H' hi pv => SqL.of (pv.2.1 _ _ dL hL)) (fun i x sg H1 H2 hlt pv y => ?_) fun sg H1 pv => ?_⟩
    · obtain ⟨⟨y1, y2, y3, rfl⟩, sB, tB⟩ := pv
      obtain ⟨rfl, ei⟩ := y
      obtain ⟨x0, ex, hx0⟩ := pairedGet tw ei
      have up := ht.tupB sB
      obtain ⟨b, c, rfl, t1, t2⟩ := hx0.tupS up
      have ilt : i < xs.length := hlt
      refine ⟨b, _, rfl, t1, rfl, _, _, rfl, _, _, rfl, _, _, rfl, rfl, ?_⟩
      have step : doWs t (ts.take (i + 1)) = doW (doWs t (ts.take i)) x0 := by
        rw [List.take_add_one, ex]
        exact doWs_snoc _ _ _
      rw [step]
      have ok1 := tB.ok
      have xz := wz x0 (List.mem_of_getElem? ex)
      have l1 : (doWs t (ts.take i)).length ≤ 1000 := by
        have := doWs_len (ts.take i) t
        rw [List.length_take] at this
        omega
      have ok2 := ok1.doW xz
      obtain ⟨kvs, nB, pB⟩ := tB.ex
      generalize doWs t (ts.take i) = tt at pB ok1 l1 ok2 ⊢
      obtain ⟨k, o, g⟩ := x0
      refine ⟨optV o, rfl, rfl, _, rfl, ?_⟩
      cases o with
      | none =>
        refine iteT ⟨.ref d, rfl, ⟨d, kvs, rfl, nB⟩, .ref c, rfl, d, kvs, c, k, .non, rfl, rfl, nB, t2, fun e0 => ?_, fun v ev H3 hb n3 => ?_⟩
        · have e1 : doW tt (k, none, g) = tt := filter_all (pB.get e0)
          rw [e1]
          exact ⟨⟨_, _, _, rfl⟩, sB, ⟨kvs, nB, pB⟩, ok1⟩
        · have b3 : But1 d H2 H3 := fun b' o' hb' e' => by rw [hb b' hb']; exact e'
          exact ⟨⟨_, _, _, rfl⟩, sB.trans b3, ⟨_, n3, (pB.drop k).tupS (nB.tupB b3)⟩, ok2⟩
      | some v =>
        refine iteF ⟨.str v, rfl, .bl g, rfl, len2, fun p np => ?_⟩
        have s3 : Same H2 (upd H2 p (.tup [.str v, .bl g])) := same_new np
        have n3 := nB.same s3
        refine ⟨.ref d, rfl, .ref c, rfl, d, c, kvs, k, rfl, rfl, n3, t2.same s3, ?_, fun H4 hb n4 => ?_⟩
        · rw [tab_len pB]
          exact Nat.lt_of_le_of_lt l1 (by decide)
        · have b4 : But1 d (upd H2 p (.tup [.str v, .bl g])) H4 := fun b' o' hb' e' => by rw [hb b' hb']; exact e'
          have kn : (kvs.map (·.1)).Nodup := by
            rw [pB.keys]
            exact ok1.nd
          rw [putK_E _ kn] at n4
          exact ⟨⟨_, _, _, rfl⟩, (sB.trans (Same.but1 s3)).trans b4, ⟨_, n4, TabPr.put ((pB.tupS (Same.tupS s3)).tupS (n3.tupB b4)) (VgAt.tupS (n3.tupB b4) ⟨p, rfl, SqT.of upd_same⟩)⟩, ok2⟩
    · obtain ⟨_, sB, tB⟩ := pv
      rw [tl, List.take_length] at tB
      exact q H1 sB tB
/-- the jar of a dict -/
def spJarOf (K : PySem.W.Frag) (P : Program) (w : World) : Sp := fun vs H Q _ => ∃ d t, vs = [.ref d] ∧ TabAt K P w H d t ∧ t.length ≤ 1000 ∧ ∀ H' v, Same H H' → Da K H' v (jarPy (jarOfT t)) → Q v H'
theorem kp_of {H : Hp} {k : Ky} {a : Addr} {e : Str × Bool} {p : Addr} (ka : KyAt K H a k) (z : k.Sz) (ze : e.1.length ≤ 1000) (hp : SqT K H p [.ref a, .str e.1, .bl e.2]) : KpAt K H (.ref p) (Tab.kp (k, e)) := ⟨p, a, rfl, hp, ka, z, ze⟩
theorem ok_jar_of (T : Txt K mg) : Ok P w K mg base "_jar_of" P__jar_of 4 (spJarOf K P w) := by
  have ok__place : Ok P w K mg base "_place" P__place 1 (spPlace K) := ok_place T
  obtain ⟨f__place, fdP, m__place, kP, bP, FP⟩ := ok__place
  refine T.d__jar_of.ok sc__jar_of (fun vs H Q E h => ?_) (fun f cdv A out s H vs Q E hr h => ?_)
  · obtain ⟨d, t, rfl, _⟩ := h
    rfl
  · obtain ⟨d, t, rfl, ht, len, q⟩ := h
    have hsort : CallRK (cxOf CX0 P w K mg base N__jar_of "_jar_of" (defScope st__jar_of) f cdv A out s H E).nox (.builtin "sorted") ["key"] (rSortK K f__place (fun H v (k : Kp) => KpAt K H v k) fun k => placePy k.key) :=
      cr_sortK (k := 1) FP hr bP (fun H H' v k s h => h.tupS s) (fun H v k Q h q => ⟨v, k, rfl, h, q⟩) (fun a b => place_alike _ _) (fun k => place_tup _) (fun k => place_flat _) fun k => place_depth _
    refine ⟨_, (pss_one (ps_ret (pe_callTy call_tuple_of (by rfl) T.z_tuple (by decide +kernel) (pa_cons (pe_callBK (hsort) (by rfl) T.z_sorted (by decide +kernel) (pa_cons (pe_lock (pe_lc (own := [("key", 1), ("value", 2), ("guarded", 3)]) (g := gTup K 2 (gCons (gName 1) (gCons (gTup K 2 (gCons (gName 2) (gCons (gName 3) gNil))) gNil))) (tt := tYes) rfl sc__jar_of.nd (pi_jtn (pv 0)) (blkOk_by (N := N__jar_of) (sc := defScope st__jar_of) (by decide +kernel)) (fun _ _ _ _ _ => (pg_tup rfl (pgs_cons (pg_name (i := 1) sc__jar_of.nd rfl (Or.inl rfl)) (pgs_cons (pg_tup rfl (pgs_cons (pg_name (i := 2) sc__jar_of.nd rfl (Or.inl rfl)) (pgs_cons (pg_name (i := 3) sc__jar_of.nd rfl (Or.inl rfl)) pgs_nil))) pgs_nil)))) (fun _ _ _ _ _ => pts_nil) (fun _ _ _ _ _ => (pe_tup (pa_cons (pv 1) (pa_cons (pv 2) (pa_cons (pv 3) pa_nil))))))) pa_nil) (pk_cons (pe_glob rfl m__place (show L2.RelV (V.ref f__place) (Value.ref f__place) from rfl)) pk_nil)) pa_nil)))), ?_⟩
    obtain ⟨kvs, nB, pB⟩ := ht.ex
    have ok1 := ht.ok
    obtain ⟨xs, h1, h2⟩ := nB.ex
    have tl := Paired.length pB
    have mu : Mut (some (NdO P w d xs)) := True.intro
    refine ⟨d, NdO P w d xs, h1, mu, fun od => ?_⟩
    have up0 : TupS H (upd H d (.frz od (NdO P w d xs))) := nB.tupB fun b o hb e => by rw [upd_ne hb]; exact e
    have d0 : upd H d (.frz od (NdO P w d xs)) d = some (.frz od (NdO P w d xs)) := upd_same
    have back : ∀ {G : Hp}, Same (upd H d (.frz od (NdO P w d xs))) G → Same H (upd G d (NdO P w d xs)) := fun {G} s b o e => by
      by_cases hb : b = d
      · subst hb
        rw [h1] at e
        cases e
        exact upd_same
      · rw [upd_ne hb]
        exact s b o (by rw [upd_ne hb]; exact e)
    generalize upd H d (.frz od (NdO P w d xs)) = Hl at up0 d0 back ⊢
    refine ⟨.ref d, rfl, d, od, kvs, xs, rfl, d0, ndPair_of h2, fun D nD => ?_⟩
    have sD : ∀ {H1 : Hp} {o : HO}, Same Hl H1 → Same Hl (upd H1 D o) := fun {H1 o} s b u e => by
      rw [upd_ne (ne_of_none e nD)]
      exact s b u e
    refine lc_it walk_jtn (fun i H1 => Same Hl H1 ∧ ∃ acc, H1 D = some (.lst acc) ∧ Paired (fun v (k : Kp) => KpAt K H1 v k) acc ((t.take i).map Tab.kp) ∧ acc.length ≤ i) ⟨sD (Same.refl Hl), [], upd_same, .nil, Nat.zero_le _⟩ (fun i H1 hi pv => pv.1 _ _ d0) (fun i x H1 H2 hi pv yy => ?_) (fun H1 pv => ?_)
    · obtain ⟨T', k, v, q0, ekv, exs, rfl, nT, rfl⟩ := yy
      obtain ⟨s1, acc, dA, pk, al⟩ := pv
      obtain ⟨tq, et, e1, b, rfl, hb⟩ := pairedGet pB ekv
      obtain ⟨q1, eq1, e2, hk, _⟩ := pairedGet h2 ekv
      rw [exs] at eq1
      cases eq1
      obtain ⟨sz1, sz2⟩ := ok1.sz tq (List.mem_of_getElem? et)
      have e1 : k = tq.1 := e1
      subst e1
      have s2 : Same H1 (upd H1 T' (.tup [.ref q0.2.1, .ref b])) := same_new nT
      have up2 : TupS H (upd H1 T' (.tup [.ref q0.2.1, .ref b])) := (up0.trans (Same.tupS s1)).trans (Same.tupS s2)
      refine ⟨T', [_, _], rfl, SqT.of upd_same, rfl, _, _, rfl, _, _, rfl, b, _, rfl, up2.sq hb, rfl, _, _, rfl, _, _, rfl, rfl, rfl, rfl, ?_⟩
      unfold tYes
      refine iteT ⟨.ref q0.2.1, rfl, .str tq.2.1, rfl, .bl tq.2.2, rfl, sz1000 (by show 3 ≤ 1000; decide), fun p np => ?_⟩
      have s3 : Same (upd H1 T' (.tup [.ref q0.2.1, .ref b])) (upd (upd H1 T' (.tup [.ref q0.2.1, .ref b])) p (.tup [.ref q0.2.1, .str tq.2.1, .bl tq.2.2])) := same_new np
      have dA3 := s3 _ _ (s2 _ _ dA)
      have il : i < kvs.length := hi
      refine ⟨acc, dA3, Nat.lt_of_le_of_lt al (Nat.lt_of_lt_of_le il (by rw [tl]; exact sz1000 len)), sD ((s1.trans s2).trans s3), acc ++ [.ref p], upd_same, ?_, by rw [List.length_append]; exact Nat.succ_le_succ al⟩
      have up4 : ∀ {u : HO}, TupS (upd (upd H1 T' (.tup [.ref q0.2.1, .ref b])) p (.tup [.ref q0.2.1, .str tq.2.1, .bl tq.2.2])) (upd (upd (upd H1 T' (.tup [.ref q0.2.1, .ref b])) p (.tup [.ref q0.2.1, .str tq.2.1, .bl tq.2.2])) D u) := tupS_mut dA3 (fun _ z => nomatch z) fun _ _ z => nomatch z
      rw [List.take_add_one, et, List.map_append]
      exact Paired.snoc (Paired.mapP pk fun _ _ z => ((z.tupS (Same.tupS s2)).tupS (Same.tupS s3)).tupS up4) (kp_of (((hk.tupS up2).tupS (Same.tupS s3)).tupS up4) sz1 sz2 (SqT.of (by rw [upd_ne (ne_of dA3 upd_same (fun z => nomatch z)).symm]; exact upd_same)))
    · obtain ⟨s1, acc, dA, pk, al⟩ := pv
      rw [tl, List.take_length] at pk
      have sB := back s1
      refine ⟨s1 _ _ d0, ?_⟩
      have nDd : D ≠ d := by
        rintro rfl
        rw [d0] at nD
        cases nD
      have dA2 : upd H1 d (NdO P w d xs) D = some (.lst acc) := by rw [upd_ne nDd]; exact dA
      have d1 := s1 _ _ d0
      have up5 : ∀ b ys, SqT K H1 b ys → SqT K (upd H1 d (NdO P w d xs)) b ys := fun b ys hq => by
        have nb : ∀ {o}, H1 b = some o → o ≠ .frz od (NdO P w d xs) → b ≠ d := fun {o} e ne => by
          rintro rfl
          rw [d1] at e
          cases e
          exact ne rfl
        rcases hq with (hq | ⟨o, hq⟩) | hq
        · exact Or.inl (Or.inl (by rw [upd_ne (nb hq fun z => nomatch z)]; exact hq))
        · exact Or.inl (Or.inr ⟨o, by rw [upd_ne (nb hq fun z => by injection z with _ z; cases z)]; exact hq⟩)
        · exact Or.inr hq
      generalize upd H1 d (NdO P w d xs) = H3 at sB dA2 up5 ⊢
      refine ⟨D, acc, t.map Tab.kp, rfl, rfl, SqL.of dA2, Paired.mapP pk fun _ _ z => z.sqS up5, by rw [List.length_map]; exact len, fun H4 p ys s4 np hp py => ?_⟩
      refine ⟨p, ys, rfl, Or.inl ⟨SqL.of hp, fun l nl => ?_⟩⟩
      have s5 : Same H4 (upd H4 l (.tup ys)) := same_new nl
      refine q _ _ ((sB.trans s4).trans s5) (.tup (SqT.of upd_same) (kps_da (Paired.mapP py fun _ _ z => z.tupS (Same.tupS s5))) ?_)
      rw [List.length_map]
      have := (jarSort_perm (t.map Tab.kp)).length_eq
      rw [List.length_map] at this
      show (jarSort (t.map Tab.kp)).length ≤ 1000
      omega
end
end S1
namespace S1
open PySem PySem.Spec PyProof.Rows L2 Jv
section
variable {P : Program} {w : World} {K : PySem.W.Frag} {mg : Str → Option Value} {base : Heap} {C C1 C2 C3 : Addr}
def fromJar (js : List Kp) : Tab := js.foldl (fun t k => putE t k.key (k.val, k.grd)) []
theorem fromJar_snoc (js : List Kp) (k : Kp) : fromJar (js ++ [k]) = putE (fromJar js) k.key (k.val, k.grd) := by
  unfold fromJar
  rw [List.foldl_append]
  rfl
/-- the jar behind taken writes, from a jar -/
def spAfter (K : PySem.W.Frag) : Sp := fun vs H Q _ => ∃ v js L xs ts, vs = [v, .ref L] ∧ Da K H v (jarPy js) ∧ H L = some (.lst xs) ∧ TwAll K H xs ts ∧ (∀ x ∈ ts, wSz x) ∧ js.length + ts.length ≤ 1000 ∧
  ∀ H' u, Same H H' → Da K H' u (jarPy (jarAfterM js ts)) → Q u H'
theorem ok_jar_after (T : Txt K mg) : Ok P w K mg base "jar_after" P_jar_after 5 (spAfter K) := by
  have ok__do_writes : Ok P w K mg base "_do_writes" P__do_writes 1 (spDo K P w) := ok_do_writes T
  have ok__jar_of : Ok P w K mg base "_jar_of" P__jar_of 4 (spJarOf K P w) := ok_jar_of T
  refine T.d_jar_after.ok sc_jar_after (fun vs H Q E h => ?_) (fun f cdv A out s H vs Q E hr h => ?_)
  · obtain ⟨v, js, L, xs, ts, rfl, _⟩ := h
    rfl
  · obtain ⟨v, js, L, xs, ts, rfl, hd, hL, tw, wz, len, q⟩ := h
    refine ⟨_, (pss_cons (ps_setDc (i := 2) (own := [("key", 3), ("value", 4), ("guarded", 5)]) (g := gTup K 3 (gCons (gName 3) (gCons (gName 4) (gCons (gName 5) gNil)))) (tt := tYes) rfl (hn_of hr) sc_jar_after.nd rfl rfl (sw_dict rfl rfl rfl (by decide +kernel)) (pi_tup (pv 0)) (blkOk_by (N := N_jar_after) (sc := defScope st_jar_after) (by decide +kernel)) (fun _ _ _ _ _ => (pg_tup rfl (pgs_cons (pg_name (i := 3) sc_jar_after.nd rfl (Or.inl rfl)) (pgs_cons (pg_name (i := 4) sc_jar_after.nd rfl (Or.inl rfl)) (pgs_cons (pg_name (i := 5) sc_jar_after.nd rfl (Or.inl rfl)) pgs_nil))))) (fun _ _ _ _ _ => pts_nil) (fun _ _ _ _ _ => (pv 3)) (fun _ _ _ _ _ => (pe_tup (pa_cons (pv 4) (pa_cons (pv 5) pa_nil)))))
    (pss_cons (ps_expr (pe_ok ok__do_writes (hr.mono (by decide)) (pa_cons (pv 2) (pa_cons (pv 1) pa_nil))))
    (pss_one (ps_ret (pe_ok ok__jar_of (hr.mono (by decide)) (pa_cons (pv 2) pa_nil)))))), ?_⟩
    obtain ⟨b, ys, rfl, h1, h2, h3⟩ := da_jar hd
    have nl := Paired.length h2
    refine ⟨.ref b, rfl, b, rfl, ⟨ys, h1⟩, fun D nD => ?_⟩
    refine dcn_it walk_tup (fun i H' => Same H H' ∧ TabAt K P w H' D (fromJar (js.take i)) ∧ (fromJar (js.take i)).length ≤ i) ⟨same_new nD, tab_nil_at, Nat.le_refl _⟩ (fun i H' hi pv => sqT_same pv.1 h1) (fun i x H1 H2 hlt pv y => ?_) fun H1 pv => ?_
    · obtain ⟨rfl, ei⟩ := y
      obtain ⟨s1, tB, tl⟩ := pv
      obtain ⟨k, ek, hk⟩ := pairedGet h2 ei
      obtain ⟨e, a, rfl, k1, k2, k3, k4⟩ := hk.tupS (Same.tupS s1)
      have ok1 := tB.ok
      obtain ⟨kvs, nB, pB⟩ := tB.ex
      have ilt : i < ys.length := hlt
      refine ⟨e, _, rfl, k1, rfl, _, _, rfl, _, _, rfl, _, _, rfl, rfl, rfl, ?_⟩
      unfold tYes
      refine iteT ⟨.ref a, rfl, .str k.val, rfl, .bl k.grd, rfl, len2, fun p np => ?_⟩
      have s2 : Same H2 (upd H2 p (.tup [.str k.val, .bl k.grd])) := same_new np
      have n2 := nB.same s2
      refine ⟨a, kvs, k.key, rfl, n2, k2.same s2, ?_, fun H4 hb n4 => ?_⟩
      · rw [tab_len pB]
        exact Nat.lt_of_le_of_lt tl (Nat.lt_of_lt_of_le ilt (by rw [nl]; exact sz1000 h3))
      · have b4 : But1 D (upd H2 p (.tup [.str k.val, .bl k.grd])) H4 := fun b' o' hb' e' => by rw [hb b' hb']; exact e'
        have kn : (kvs.map (·.1)).Nodup := by
          rw [pB.keys]
          exact ok1.nd
        rw [putK_E _ kn] at n4
        have st : fromJar (js.take (i + 1)) = putE (fromJar (js.take i)) k.key (k.val, k.grd) := by
          rw [List.take_add_one, ek]
          exact fromJar_snoc _ _
        rw [st]
        refine ⟨But1.same nD (s1.trans s2) b4, ⟨⟨_, n4, TabPr.put ((pB.tupS (Same.tupS s2)).tupS (n2.tupB b4)) (VgAt.tupS (n2.tupB b4) ⟨p, rfl, SqT.of upd_same⟩)⟩, ok1.put k3 k4⟩, ?_⟩
        have := doW_len (fromJar (js.take i)) (k.key, some k.val, k.grd)
        have this : (putE (fromJar (js.take i)) k.key (k.val, k.grd)).length ≤ (fromJar (js.take i)).length + 1 := this
        omega
    · obtain ⟨s1, tB, tl⟩ := pv
      rw [nl, List.take_length] at tB tl
      refine ⟨.ref D, rfl, .ref L, rfl, D, L, fromJar js, xs, ts, rfl, tB, s1 _ _ hL, tw.same s1, wz, by omega, fun H2 b2 t2 => ?_⟩
      have s2 := But1.same nD s1 b2
      refine ⟨.ref D, rfl, D, _, rfl, t2, ?_, fun H3 u s3 du => q H3 u (s2.trans s3) du⟩
      have := doWs_len ts (fromJar js)
      omega
def spVisited (K : PySem.W.Frag) : Sp := fun vs H Q _ => ∃ v js v2 s n p, vs = [v, v2, .int (n : Nat)] ∧ Da K H v (jarPy js) ∧ JarOk js ∧ Da K H v2 (sitePy s) ∧ siteBad (sitePy s) = none ∧ s[n]? = some p ∧
  ∀ H' u, Same H H' → Da K H' u (jarPy (jarAfterM js (takenP p))) → Q u H'
theorem sitePy_inj {s s' : List Pg} (h : sitePy s = sitePy s') (ok : ∀ {a b : Pg}, a.py = b.py → a = b) : s = s' := by
  unfold sitePy at h
  injection h with h
  induction s generalizing s' with
  | nil =>
    cases s' with
    | nil => rfl
    | cons _ _ => simp at h
  | cons a s ih =>
    cases s' with
    | nil => simp at h
    | cons b s' =>
      rw [List.map_cons, List.map_cons] at h
      injection h with h1 h2
      rw [ok h1, ih h2]
theorem strs_inj {a b : List Str} (h : a.map PyData.str = b.map PyData.str) : a = b := by
  induction a generalizing b with
  | nil =>
    cases b with
    | nil => rfl
    | cons _ _ => simp at h
  | cons x a ih =>
    cases b with
    | nil => simp at h
    | cons y b =>
      rw [List.map_cons, List.map_cons] at h
      injection h with h1 h2
      injection h1 with h1
      rw [h1, ih h2]
theorem ad_inj {a b : Ad} (h : a.py = b.py) : a = b := by
  obtain ⟨h1, p1, s1⟩ := a
  obtain ⟨h2, p2, s2⟩ := b
  unfold Ad.py at h
  injection h with h
  injection h with e1 h
  injection h with e2 h
  injection h with e3 _
  injection e1 with e1
  injection e2 with e2
  injection e3 with e3
  have e1 : h1 = h2 := strs_inj e1
  have e2 : p1 = p2 := strs_inj e2
  have e3 : s1 = s2 := e3
  rw [e1, e2, e3]
theorem optS_inj {a b : Option Str} (h : optS a = optS b) : a = b := by
  cases a with
  | none =>
    cases b with
    | none => rfl
    | some _ => cases h
  | some x =>
    cases b with
    | none => cases h
    | some y =>
      have h : PyData.str x = .str y := h
      injection h with h
      rw [h]
theorem optT_inj {a b : Option (List Str)} (h : optT a = optT b) : a = b := by
  cases a with
  | none =>
    cases b with
    | none => rfl
    | some _ => cases h
  | some x =>
    cases b with
    | none => cases h
    | some y =>
      have h : PyData.tuple (x.map .str) = .tuple (y.map .str) := h
      injection h with h
      rw [strs_inj h]
theorem wr_inj {a b : Wr} (h : a.py = b.py) : a = b := by
  obtain ⟨n1, v1, d1, f1, g1⟩ := a
  obtain ⟨n2, v2, d2, f2, g2⟩ := b
  unfold Wr.py at h
  injection h with h
  injection h with e1 h
  injection h with e2 h
  injection h with e3 h
  injection h with e4 h
  injection h with e5 _
  injection e1 with e1
  injection e5 with e5
  have e1 : n1 = n2 := e1
  have e5 : g1 = g2 := e5
  have e2 : v1 = v2 := optS_inj e2
  have e3 : d1 = d2 := optT_inj e3
  have e4 : f1 = f2 := optT_inj e4
  rw [e1, e2, e3, e4, e5]
theorem wrs_inj {a b : List Wr} (h : a.map Wr.py = b.map Wr.py) : a = b := by
  induction a generalizing b with
  | nil =>
    cases b with
    | nil => rfl
    | cons _ _ => simp at h
  | cons x a ih =>
    cases b with
    | nil => simp at h
    | cons y b =>
      rw [List.map_cons, List.map_cons] at h
      injection h with h1 h2
      rw [wr_inj h1, ih h2]
theorem pg_inj {a b : Pg} (h : a.py = b.py) : a = b := by
  obtain ⟨a1, w1⟩ := a
  obtain ⟨a2, w2⟩ := b
  unfold Pg.py at h
  injection h with h
  injection h with e1 h
  injection h with e2 _
  injection e2 with e2
  have e1 : a1 = a2 := ad_inj e1
  have e2 : w1 = w2 := wrs_inj e2
  rw [e1, e2]
theorem site_ok {s : List Pg} (h : siteBad (sitePy s) = none) : SiteOk s := by
  obtain ⟨s', e, ok⟩ := site_of h
  rw [sitePy_inj e pg_inj]
  exact ok
theorem ok_visited (T : Txt K mg) (n_BadJar : Exn P w K mg base "BadJar" "place" C) (n1 : Exn P w K mg base "BadSite" "place" C1) (n2 : Exn P w K mg base "BadPage" "given" C2) : OkX P w K mg base "visited" P_visited 7 (spVisited K) := by
  have ok_need_jar : OkX P w K mg base "need_jar" P_need_jar 6 (spJar K) := ok_need_jar T n_BadJar
  have ok_need_site : OkX P w K mg base "need_site" P_need_site 6 (spSite K C1) := ok_need_site T n1
  have ok_need_page : OkX P w K mg base "need_page" P_need_page 3 (spPg K C2) := ok_need_page T n2
  have ok_taken_writes : Ok P w K mg base "taken_writes" P_taken_writes 3 (spTw K) := ok_taken_writes T
  have ok_jar_after : Ok P w K mg base "jar_after" P_jar_after 5 (spAfter K) := ok_jar_after T
  refine T.d_visited.okX sc_visited (fun vs H Q E h => ?_) (fun f cdv A out s H vs Q E hr h => ?_)
  · obtain ⟨v, js, v2, s, n, p, rfl, _⟩ := h
    rfl
  · obtain ⟨v, js, v2, si, n, p, rfl, hd, jo, hs, hb, ep, q⟩ := h
    refine ⟨_, (pss_cons (ps_expr (pe_okX ok_need_jar (hr.mono (by decide)) (takes_of rfl rfl rfl rfl) (pa_cons (pv 0) pa_nil)))
    (pss_cons (ps_expr (pe_okX ok_need_site (hr.mono (by decide)) (takes_of rfl rfl rfl rfl) (pa_cons (pv 1) pa_nil)))
    (pss_one (ps_ret (pe_ok ok_jar_after (hr.mono (by decide)) (pa_cons (pv 0) (pa_cons (pe_ok ok_taken_writes (hr.mono (by decide)) (pa_cons (pe_ix ix_tup (pv 1) (pe_okX ok_need_page (hr.mono (by decide)) (takes_of rfl rfl rfl rfl) (pa_cons (pv 1) (pa_cons (pv 2) pa_nil))) (fun _ _ => rfl)) pa_nil)) pa_nil))))))), ?_⟩
    refine ⟨v, rfl, v, js, rfl, hd, jo, fun H1 s1 => ?_⟩
    refine ⟨v2, rfl, v2, sitePy si, rfl, Da.same s1 _ _ hs, ?_⟩
    rw [hb]
    intro H2 s2
    have s12 := s1.trans s2
    obtain ⟨a, xs, rfl, h1, nl, h2⟩ := da_seq (Da.same s12 _ _ hs)
    have okS := site_ok hb
    have np : n < si.length := (List.getElem?_eq_some_iff.mp ep).1
    refine ⟨v, rfl, .ref a, rfl, .ref a, rfl, .int (n : Nat), rfl, a, xs, .int (n : Nat), .int (n : Nat), rfl, h1, .int _, ?_⟩
    have hn : isNum (xs.length : Int) (.int (n : Nat)) = true := by
      show (decide (0 ≤ ((n : Nat) : Int)) && decide (((n : Nat) : Int) < xs.length)) = true
      rw [decide_eq_true (by omega), decide_eq_true (by omega)]
      rfl
    rw [hn]
    intro H3 s3
    have ex : xs[n]? = some xs[n] := List.getElem?_eq_getElem (by omega)
    obtain ⟨p', ep', hp⟩ := da_nth h2 ex
    rw [ep] at ep'
    cases ep'
    have okP := okS.2 p (List.mem_of_getElem? ep)
    refine ⟨a, xs, n, xs[n], rfl, rfl, sqT_same s3 h1, atI_nat ex, xs[n], p, rfl, Da.same s3 _ _ hp, okP, fun H4 L ts s4 nL dL tw => ?_⟩
    have s14 := (s12.trans s3).trans s4
    have few := jo.few
    have t5 : (takenP p).length ≤ 5 := Nat.le_trans (takenL_len _ _) okP.2.1
    exact ⟨v, js, L, ts, takenP p, rfl, Da.same s14 _ _ hd, dL, tw, wSz_page hp, by omega, fun H5 u s5 du => q H5 u (s14.trans s5) du⟩
def rowPy (row : List Nat) : PyData := .tuple (row.map fun n : Nat => .int (n : Int))
def spRow (K : PySem.W.Frag) : Sp := fun vs H Q _ => ∃ a xs u row, vs = [.ref a, u] ∧ SqT K H a xs ∧ Da K H u (rowPy row) ∧ (∀ n ∈ row, n < xs.length) ∧ ∀ H', Same H H' → Q .non H'
theorem ok_need_row (T : Txt K mg) (n_BadRow : Exn P w K mg base "BadRow" "given" C) : OkX P w K mg base "_need_row" P__need_row 3 (spRow K) := by
  have ok_is_number_below : Ok P w K mg base "is_number_below" P_is_number_below 1 (spNum K) := ok_is_number_below T
  refine T.d__need_row.okX sc__need_row (fun vs H Q E h => ?_) (fun f cdv A out s H vs Q E hr h => ?_)
  · obtain ⟨a, xs, u, row, rfl, _⟩ := h
    rfl
  · obtain ⟨a, xs, u, row, rfl, ha, hu, hn, q⟩ := h
    refine ⟨_, (pss_one (ps_if (PW.pt (pw_or (pt_not (pt_val (pe_callB call_isi (by rfl) T.z_isinstance (by decide +kernel) (pa_cons (pv 1) (pa_cons (pe_bltn (v := .ty "tuple") (by rfl) T.z_tuple (by decide +kernel) rfl) pa_nil))))) (pw_or1 (pt_not (pt_val (pe_callB (cr_all rfl) (by rfl) T.z_all (by decide +kernel) (pa_cons (pe_lc (own := [("page", 2)]) (g := gName 2) (tt := tYes) rfl sc__need_row.nd (pi_tup (pv 1)) (blkOk_by (N := N__need_row) (sc := defScope st__need_row) (by decide +kernel)) (fun _ _ _ _ _ => pg_name (i := 2) sc__need_row.nd rfl (Or.inl rfl)) (fun _ _ _ _ _ => pts_nil) (fun _ _ _ _ _ => (pe_ok ok_is_number_below (hr.mono (by decide)) (pa_cons (pv 2) (pa_cons (pe_callB (show CallR _ (.builtin "len") (rLenJ K) from call_len) (by rfl) T.z_len (by decide +kernel) (pa_cons (pv 0) pa_nil)) pa_nil))))) pa_nil))))))) (pss_one (ps_raiseE n_BadRow (hr.mono (by decide)) (takes_of rfl rfl rfl rfl) (pv 1))) pss_nil)), ?_⟩
    obtain ⟨t, ty, ks, _, _, _⟩ := Da.isi hu
    refine ⟨u, rfl, u, .ty "tuple", t, .type "tuple", true, rfl, .ty "tuple", ty, ks, true, rfl, iteF ?_⟩
    obtain ⟨b, ys, rfl, h1, nl, h2⟩ := da_seq (show Da K H u (.tuple (row.map fun n : Nat => .int (n : Int))) from hu)
    have z : (row.map fun n : Nat => PyData.int (n : Int)).length ≤ 1000 := by
      cases (show Da K H (.ref b) (.tuple (row.map fun n : Nat => .int (n : Int))) from hu) with
      | tup _ _ hz => exact hz
    rw [List.length_map] at z
    refine ⟨.ref b, rfl, b, rfl, ⟨ys, h1⟩, fun D nD => lc_pure (ys := row.map fun n => .bl true) (by rw [List.length_map, ← nl]; exact walk_tup) nD ?_ (fun H1 s1 => sqT_same s1 h1) (fun _ => rfl) (fun i x y H1 H2 e s1 g k hk => ?_) (fun H1 s1 d => ?_)⟩
    · rw [List.length_map]
      exact small100 z
    · obtain ⟨rfl, e1⟩ := g
      obtain ⟨n, e2, hx⟩ := da_nth h2 e1
      rw [List.getElem?_map, e2] at e
      cases e
      have lt := hn n (List.mem_of_getElem? e2)
      have e5 : isNum (xs.length : Int) (.int (n : Nat)) = true := by
        show (decide (0 ≤ ((n : Nat) : Int)) && decide (((n : Nat) : Int) < xs.length)) = true
        rw [decide_eq_true (by omega), decide_eq_true (by omega)]
        rfl
      exact ⟨x, rfl, .ref a, rfl, .ref a, xs.length, rfl, Or.inr ⟨xs, sqT_same s1 ha, rfl⟩, x, .int (n : Nat), xs.length, rfl, Da.same s1 _ _ hx, fun H3 s3 => by rw [e5]; exact hk H3 s3⟩
    · refine ⟨D, row.map (fun _ => true), rfl, SqL.of ?_, ?_⟩
      · rw [List.map_map]
        exact d
      · have e6 : ((row.map fun _ => true).all id) = true := by
          rw [List.all_map]
          exact List.all_eq_true.mpr fun _ _ => rfl
        exact ⟨_, rfl, by rw [e6]; exact iteF (q H1 s1)⟩
end
end S1
namespace S1
open PySem PySem.Spec PyProof.Rows L2 Jv
section
variable {P : Program} {w : World} {K : PySem.W.Frag} {mg : Str → Option Value} {base : Heap} {C C1 C2 C3 : Addr}
def spBehind (K : PySem.W.Frag) : Sp := fun vs H Q _ => ∃ v u s row, vs = [v, u] ∧ Da K H v (sitePy s) ∧ siteBad (sitePy s) = none ∧ Da K H u (rowPy row) ∧ (∀ n ∈ row, n < s.length) ∧
  ∀ H' z, Same H H' → Da K H' z (jarPy (behindM s row)) → Q z H'
theorem ok_behind (T : Txt K mg) (n1 : Exn P w K mg base "BadSite" "place" C1) (n2 : Exn P w K mg base "BadRow" "given" C2) : OkX P w K mg base "behind" P_behind 7 (spBehind K) := by
  have ok_need_site : OkX P w K mg base "need_site" P_need_site 6 (spSite K C1) := ok_need_site T n1
  have ok__need_row : OkX P w K mg base "_need_row" P__need_row 3 (spRow K) := ok_need_row T n2
  have ok_taken_writes : Ok P w K mg base "taken_writes" P_taken_writes 3 (spTw K) := ok_taken_writes T
  have ok__do_writes : Ok P w K mg base "_do_writes" P__do_writes 1 (spDo K P w) := ok_do_writes T
  have ok__jar_of : Ok P w K mg base "_jar_of" P__jar_of 4 (spJarOf K P w) := ok_jar_of T
  refine T.d_behind.okX sc_behind (fun vs H Q E h => ?_) (fun f cdv A out s H vs Q E hr h => ?_)
  · obtain ⟨v, u, s, row, rfl, _⟩ := h
    rfl
  · obtain ⟨v, u, si, row, rfl, hs, hb, hu, hn, q⟩ := h
    refine ⟨_, (pss_cons (ps_expr (pe_okX ok_need_site (hr.mono (by decide)) (takes_of rfl rfl rfl rfl) (pa_cons (pv 0) pa_nil)))
    (pss_cons (ps_expr (pe_okX ok__need_row (hr.mono (by decide)) (takes_of rfl rfl rfl rfl) (pa_cons (pv 0) (pa_cons (pv 1) pa_nil))))
    (pss_cons (ps_setLc (i := 2) (own := [("page", 4)]) (g := gName 4) (tt := tYes) rfl sc_behind.nd rfl rfl (sw_true rfl rfl rfl (by decide +kernel)) (pi_tup (pv 0)) (blkOk_by (N := N_behind) (sc := defScope st_behind) (by decide +kernel)) (fun _ _ _ _ _ => pg_name (i := 4) sc_behind.nd rfl (Or.inl rfl)) (fun _ _ _ _ _ => pts_nil) (fun _ _ _ _ _ => (pe_ok ok_taken_writes (hr.mono (by decide)) (pa_cons (pv 4) pa_nil))))
    (pss_cons (ps_set (i := 3) sc_behind.nd rfl (Or.inl rfl) pe_dnewN)
    (pss_cons (ps_for (passes_of rfl) rfl (pi_tup (pv 1)) (pg_name (i := 4) sc_behind.nd rfl (Or.inl rfl)) (pss_one (ps_expr (pe_ok ok__do_writes (hr.mono (by decide)) (pa_cons (pv 3) (pa_cons (pe_ix ix_list (pv 2) (pv 4) (fun _ _ => rfl)) pa_nil))))))
    (pss_one (ps_ret (pe_ok ok__jar_of (hr.mono (by decide)) (pa_cons (pv 3) pa_nil))))))))), ?_⟩
    refine ⟨v, rfl, v, sitePy si, rfl, hs, ?_⟩
    rw [hb]
    intro H1 s1
    have hu1 := Da.same s1 _ _ hu
    obtain ⟨a, xs, rfl, h1, nl, h2⟩ := da_seq (Da.same s1 _ _ hs)
    have okS := site_ok hb
    have n5 := okS.1
    refine ⟨.ref a, rfl, u, rfl, a, xs, u, row, rfl, h1, hu1, fun n m => by rw [nl]; exact hn n m, fun H2 s2 => ?_⟩
    -- what each page has taken
    refine ⟨.ref a, rfl, a, rfl, ⟨xs, sqT_same s2 h1⟩, fun D nD => ?_⟩
    have sD : ∀ {H1' : Hp} {o : HO}, Same H2 H1' → Same H2 (upd H1' D o) := fun {H1' o} s b u e => by
      rw [upd_ne (ne_of_none e nD)]
      exact s b u e
    refine lc_it (walk_tup (xs := xs)) (fun i H' => Same H2 H' ∧ ∃ acc, H' D = some (.lst acc) ∧ Paired (WrAt K H') acc ((si.take i).map takenP) ∧ acc.length ≤ i ∧ ∀ L x, V.ref L ∈ acc → H' L = some (.lst x) → L ≠ D) ⟨sD (Same.refl H2), [], upd_same, .nil, Nat.zero_le _, fun L x m => by cases m⟩ (fun i H' hi pv => sqT_same pv.1 (sqT_same s2 h1)) (fun i x H3 H4 hi pv yy => ?_) (fun H3 pv => ?_)
    · obtain ⟨rfl, e1⟩ := yy
      obtain ⟨s3, acc, dA, pk, al, ne⟩ := pv
      obtain ⟨p, ep, hp⟩ := da_nth h2 e1
      have okP := okS.2 p (List.mem_of_getElem? ep)
      refine ⟨rfl, x, rfl, x, p, rfl, Da.same (s2.trans s3) _ _ hp, okP, fun H5 L ts s5 nL dL tw => ?_⟩
      have dA5 := s5 _ _ dA
      have ilt : i < xs.length := hi
      have LD : L ≠ D := (ne_of_none dA nL).symm
      refine ⟨acc, dA5, Nat.lt_of_le_of_lt (show acc.length ≤ 5 by omega) (by decide), sD (s3.trans s5), acc ++ [.ref L], upd_same, ?_, by rw [List.length_append]; exact Nat.succ_le_succ al, fun L' y m e => ?_⟩
      · have up : TupS H5 (upd H5 D (.lst (acc ++ [.ref L]))) := tupS_mut dA5 (fun _ z => nomatch z) fun _ _ z => nomatch z
        rw [List.take_add_one, ep, List.map_append]
        refine Paired.snoc ?_ ⟨L, ts, rfl, by rw [upd_ne LD]; exact dL, tw.tupS up⟩
        have all : ∀ {as : List V} {bs : List (List (Ky × Option Str × Bool))}, Paired (WrAt K H4) as bs → (∀ L x, V.ref L ∈ as → H4 L = some (.lst x) → L ≠ D) → Paired (WrAt K (upd H5 D (.lst (acc ++ [.ref L])))) as bs := by
          intro as bs hp
          induction hp with
          | nil => exact fun _ => .nil
          | @cons v ts' vs tss r t ih =>
            intro hne
            refine .cons ?_ (ih fun L x m => hne L x (List.mem_cons_of_mem _ m))
            obtain ⟨L1, y1, rfl, g1, g2⟩ := r
            have n1 := hne L1 y1 List.mem_cons_self g1
            exact ⟨L1, y1, rfl, by rw [upd_ne n1]; exact s5 _ _ g1, (g2.same s5).tupS up⟩
        exact all pk ne
      · rcases List.mem_append.mp m with m | m
        · rintro rfl
          obtain ⟨i', hi'⟩ := List.getElem?_of_mem m
          obtain ⟨ts', _, L1, y1, e2, g1, g2⟩ := pairedGet pk hi'
          cases e2
          exact ne _ y1 m g1 rfl
        · have m := List.mem_singleton.mp m
          cases m
          exact LD
    · obtain ⟨s3, acc, dA, pk, al, ne⟩ := pv
      rw [nl, List.take_length] at pk
      -- table = {}
      intro d nd
      have s4 : Same H3 (upd H3 d (NdO P w d [])) := same_new nd
      have t0 : TabAt K P w (upd H3 d (NdO P w d [])) d [] := tab_nil_at
      have dA4 := s4 _ _ dA
      have pk4 : Paired (WrAt K (upd H3 d (NdO P w d []))) acc (si.map takenP) := Paired.mapP pk fun v ts ⟨L, x, e, g1, g2⟩ => ⟨L, x, e, s4 _ _ g1, g2.same s4⟩
      have hu4 : Da K (upd H3 d (NdO P w d [])) u (rowPy row) := Da.same ((s2.trans s3).trans s4) _ _ hu1
      have nH : H d = none := by
        cases z : H d with
        | none => rfl
        | some o =>
          rw [(s1.trans (s2.trans s3)) _ _ z] at nd
          cases nd
      have s04 := (s1.trans (s2.trans s3)).trans s4
      obtain ⟨b, ys, rfl, r1, rl, r2⟩ := da_seq (show Da K (upd H3 d (NdO P w d [])) u (.tuple (row.map fun n : Nat => .int (n : Int))) from hu4)
      have neD : ∀ {L : Addr} {y : List V}, (upd H3 d (NdO P w d [])) L = some (.lst y) → L ≠ d := fun e => by
        obtain ⟨kvs, n0, _⟩ := t0.ex
        exact n0.not_lst e
      refine ⟨.ref b, rfl, b, rfl, ⟨ys, r1⟩, for_it (walk_tup (xs := ys)) (fun i sg H' => (∃ x, sg = [some (.ref a), some (.ref b), some (.ref D), some (.ref d), x]) ∧ But1 d (upd H3 d (NdO P w d [])) H' ∧ TabAt K P w H' d (rowTab si [] (row.take i)))
        ⟨⟨_, rfl⟩, But1.refl d (upd H3 d (NdO P w d [])), t0⟩ (fun i sg H' hi pv => (t0.tupB pv.2.1).sq r1) (fun i x sg H5 H6 hlt pv y => ?_) fun sg H5 pv => ?_⟩
      · obtain ⟨⟨y1, rfl⟩, bB, tB⟩ := pv
        obtain ⟨rfl, ei⟩ := y
        obtain ⟨n, en, hx⟩ := da_nth r2 ei
        obtain rfl : x = .int (n : Nat) := by
          cases hx
          rfl
        have nlt := hn n (List.mem_of_getElem? en)
        obtain ⟨p, ep⟩ : ∃ p, si[n]? = some p := ⟨_, List.getElem?_eq_getElem nlt⟩
        have la := Paired.length pk4
        rw [List.length_map] at la
        have ea : acc[n]? = some (acc[n]'(by omega)) := List.getElem?_eq_getElem (by omega)
        obtain ⟨ts0, ets, L, x, eL, g1, g2⟩ := pairedGet pk4 ea
        rw [List.getElem?_map, ep] at ets
        have ets : takenP p = ts0 := Option.some.inj ets
        subst ets
        have up := t0.tupB bB
        have g1' := bB _ _ (neD g1) g1
        have dA5 := bB _ _ (neD dA4) dA4
        refine ⟨.ref d, rfl, .ref D, rfl, .int (n : Nat), rfl, D, acc, n, acc[n]'(by omega), rfl, rfl, SqL.of dA5, atI_nat ea, d, L, _, x, takenP p, by rw [eL]; rfl, tB, g1', g2.tupS up, ?_, ?_, fun H7 b7 t7 => ?_⟩
        · obtain ⟨x0, ex0⟩ : ∃ x0, xs[n]? = some x0 := ⟨_, List.getElem?_eq_getElem (by omega)⟩
          obtain ⟨p', ep', hp⟩ := da_nth h2 ex0
          rw [ep] at ep'
          cases ep'
          exact wSz_page hp
        · have l1 := rowTab_len (row := row.take i) okS tB.ok
          have t5 : (takenP p).length ≤ 5 := Nat.le_trans (takenL_len _ _) (okS.2 p (List.mem_of_getElem? ep)).2.1
          omega
        · refine ⟨⟨_, rfl⟩, bB.trans b7, ?_⟩
          rw [List.take_add_one, en]
          show TabAt K P w H7 d (rowTab si [] (row.take i ++ [n]))
          rw [rowTab_snoc _ _ _ _ _ ep]
          exact t7
      · obtain ⟨⟨y1, rfl⟩, bB, tB⟩ := pv
        rw [rl, List.take_length] at tB
        have l1 := rowTab_len okS tB.ok
        exact ⟨.ref d, rfl, d, _, rfl, tB, by omega, fun H6 z s6 dz => q H6 z ((But1.same nH s04 bB).trans s6) dz⟩
end
end S1
namespace S1
open PySem PySem.Spec PyProof.Rows L2 Jv
/-! ### the state that is drawn from -/
def kvS (c l : Addr) (m r : Int) : List (Key × V) := [(Sum.inr ("cells" : Str), V.ref c), (Sum.inr ("lefts" : Str), V.ref l), (Sum.inr ("at" : Str), V.int m), (Sum.inr ("room" : Str), V.int r)]
theorem kq {a b : String} (h : (Str.ofString a : Str) ≠ Str.ofString b) {x y : V} : ¬ ((Sum.inr (Str.ofString a) : Key), x).1 = (Sum.inr (Str.ofString b) : Key) := fun z => h (Sum.inr.inj z)
theorem kvS_cells (c l : Addr) (m r : Int) : valV (kvS c l m r) (Sum.inr ("cells" : Str)) = some (.ref c) := valV_pos rfl
theorem kvS_lefts (c l : Addr) (m r : Int) : valV (kvS c l m r) (Sum.inr ("lefts" : Str)) = some (.ref l) := by
  unfold kvS
  rw [valV_neg (fun z => absurd (Sum.inr.inj z) (by decide +kernel)), valV_pos rfl]
theorem kvS_at (c l : Addr) (m r : Int) : valV (kvS c l m r) (Sum.inr ("at" : Str)) = some (.int m) := by
  unfold kvS
  rw [valV_neg (fun z => absurd (Sum.inr.inj z) (by decide +kernel)), valV_neg (fun z => absurd (Sum.inr.inj z) (by decide +kernel)), valV_pos rfl]
theorem kvS_put (c l : Addr) (m r z : Int) : putK (kvS c l m r) (Sum.inr ("at" : Str)) (.int z) = kvS c l z r := by
  have h1 : ¬ (Sum.inr ("cells" : Str) : Key) = Sum.inr ("at" : Str) := fun z => absurd (Sum.inr.inj z) (by decide +kernel)
  have h2 : ¬ (Sum.inr ("lefts" : Str) : Key) = Sum.inr ("at" : Str) := fun z => absurd (Sum.inr.inj z) (by decide +kernel)
  have h4 : ¬ (Sum.inr ("room" : Str) : Key) = Sum.inr ("at" : Str) := fun z => absurd (Sum.inr.inj z) (by decide +kernel)
  unfold putK kvS
  simp [h1, h2, h4]
theorem get_cells {H : Hp} {d c l : Addr} {m r : Int} (h : H d = some (.dK (kvS c l m r))) : DGet H d (.str "cells") (some (.ref c)) := by
  rw [← kvS_cells c l m r]
  exact DGet.k (k := Sum.inr ("cells" : Str)) h
theorem get_lefts {H : Hp} {d c l : Addr} {m r : Int} (h : H d = some (.dK (kvS c l m r))) : DGet H d (.str "lefts") (some (.ref l)) := by
  rw [← kvS_lefts c l m r]
  exact DGet.k (k := Sum.inr ("lefts" : Str)) h
theorem get_at {H : Hp} {d c l : Addr} {m r : Int} (h : H d = some (.dK (kvS c l m r))) : DGet H d (.str "at") (some (.int m)) := by
  rw [← kvS_at c l m r]
  exact DGet.k (k := Sum.inr ("at" : Str)) h
theorem put_at {H : Hp} {d c l : Addr} {m r : Int} (z : Int) (h : H d = some (.dK (kvS c l m r))) : DPut H d (.str "at") (.int z) (upd H d (.dK (kvS c l z r))) := by
  rw [← kvS_put c l m r z]
  exact DPut.k (k := Sum.inr ("at" : Str)) h (by show 4 < sizeLine; decide)
structure St (H : Hp) (d l c : Addr) (n : Int) : Prop where
  ex : ∃ (cells lefts : List Int) (m r : Int), H d = some (.dK (kvS c l m r)) ∧ H c = some (.lst (cells.map V.int)) ∧ H l = some (.lst (lefts.map V.int)) ∧ lefts.length = cells.length ∧ 0 < cells.length ∧ cells.length ≤ 1000 ∧ c ≠ l ∧ 0 ≤ m ∧ m ≤ n
theorem St.mono {H : Hp} {d l c : Addr} {n k : Int} (h : St H d l c n) (e : n ≤ k) : St H d l c k := by
  obtain ⟨cells, lefts, m, r, a1, a2, a3, a4, a5, a6, a7, a8, a9⟩ := h.ex
  exact ⟨cells, lefts, m, r, a1, a2, a3, a4, a5, a6, a7, a8, by omega⟩
theorem St.keep {H H' : Hp} {d l c : Addr} {n : Int} (h : St H d l c n) (e1 : H' d = H d) (e2 : H' l = H l) (e3 : H' c = H c) : St H' d l c n := by
  obtain ⟨cells, lefts, m, r, a1, a2, a3, rest⟩ := h.ex
  exact ⟨cells, lefts, m, r, e1.trans a1, e3.trans a2, e2.trans a3, rest⟩
theorem St.same {H H' : Hp} {d l c : Addr} {n : Int} (h : St H d l c n) (s : Same H H') : St H' d l c n := by
  obtain ⟨cells, lefts, m, r, a1, a2, a3, rest⟩ := h.ex
  exact ⟨cells, lefts, m, r, s _ _ a1, s _ _ a2, s _ _ a3, rest⟩
theorem St.fresh {H : Hp} {d l c D : Addr} {n : Int} (h : St H d l c n) (nD : H D = none) : D ≠ d ∧ D ≠ l ∧ D ≠ c := by
  obtain ⟨cells, lefts, m, r, a1, a2, a3, rest⟩ := h.ex
  exact ⟨(ne_of_none a1 nD).symm, (ne_of_none a3 nD).symm, (ne_of_none a2 nD).symm⟩
theorem St.upd {H : Hp} {d l c D : Addr} {n : Int} {o : HO} (h : St H d l c n) (e : D ≠ d ∧ D ≠ l ∧ D ≠ c) : St (upd H D o) d l c n :=
  h.keep (upd_ne e.1.symm) (upd_ne e.2.1.symm) (upd_ne e.2.2.symm)
/-- all but the dict and the leftovers is as it was -/
def But (d l : Addr) (H H' : Hp) : Prop := ∀ b o, b ≠ d → b ≠ l → H b = some o → H' b = some o
theorem But.refl (d l : Addr) (H : Hp) : But d l H H := fun _ _ _ _ h => h
theorem But.trans {d l : Addr} {H H1 H2 : Hp} (a : But d l H H1) (b : But d l H1 H2) : But d l H H2 := fun x o h1 h2 e => b x o h1 h2 (a x o h1 h2 e)
theorem Same.but {d l : Addr} {H H1 : Hp} (a : Same H H1) : But d l H H1 := fun x o _ _ e => a x o e
theorem But.at {d l c : Addr} {H H' : Hp} {n : Int} {a : Addr} {xs : List V} (e : But d l H H') (s : St H d l c n) (h : H a = some (.tup xs)) : H' a = some (.tup xs) := by
  obtain ⟨cells, lefts, m, r, a1, a2, a3, rest⟩ := s.ex
  exact e a _ (ne_of h a1 (by intro z; cases z)) (ne_of h a3 (by intro z; cases z)) h
/-! ### numbers -/
theorem fmod_in (a : Int) {b : Int} (h : 0 < b) : 0 ≤ a.fmod b ∧ a.fmod b < b := by
  rw [Int.fmod_eq_emod_of_nonneg a (by omega)]
  exact ⟨Int.emod_nonneg _ (by omega), Int.emod_lt_of_pos _ h⟩
def mix1 (c : Int) : Int := c.fmod 2147483647
def mix2 (c k : Int) : Int := c * (48271 + 2 * k * k) + 69621 * k + 11
def mix3 (z : Int) : Int := z.fmod 2147483647
def mix4 (z : Int) : Int := (z * 69621).fmod 2147483629
def mix (c k : Int) : Int := mix4 (mix3 (mix2 (mix1 c) k))
theorem mix_in (c k : Int) : 0 ≤ mix c k ∧ mix c k < 2147483629 := fmod_in _ (by decide)
section
variable {P : Program} {w : World} {K : PySem.W.Frag} {mg : Str → Option Value} {base : Heap}
def spMixed : Sp := fun vs H Q _ => ∃ c k : Int, vs = [.int c, .int k] ∧ 0 ≤ k ∧ k < 2 ^ 60 ∧ Q (.int (mix c k)) H
theorem ok_law_mixed (T : Txt K mg) : Ok P w K mg base "_law_mixed" P__law_mixed 1 spMixed := by
  refine T.d__law_mixed.ok sc__law_mixed (fun vs H Q E h => ?_) (fun f cdv A out s H vs Q E hr h => ?_)
  · obtain ⟨c, k, rfl, _⟩ := h
    rfl
  · obtain ⟨c, k, rfl, h1, h2, q⟩ := h
    refine ⟨_, (pss_cons (ps_set (i := 0) sc__law_mixed.nd rfl (Or.inl rfl) (pe_op op_modN (pe_callTy call_int1 (by rfl) T.z_int (by decide +kernel) (pa_cons (pv 0) pa_nil)) pe_int))
    (pss_one (ps_ret (pe_op op_modN (pe_op op_mul (pe_op op_modN (pe_op op_add (pe_op op_add (pe_op op_mul (pv 0) (pe_op op_add pe_int (pe_op op_mul (pe_op op_mul pe_int (pv 1)) (pv 1)))) (pe_op op_mul pe_int (pv 1))) pe_int) pe_int) pe_int) pe_int)))), ?_⟩
    refine ⟨.int c, rfl, Or.inl ⟨c, rfl, _, _, rfl, rfl, (show (2147483647 : Int) ≠ 0 by decide), ?_⟩⟩
    have r1 : 0 ≤ mix1 c ∧ mix1 c < 2147483647 := fmod_in c (by decide)
    have r3 : 0 ≤ mix3 (mix2 (mix1 c) k) ∧ mix3 (mix2 (mix1 c) k) < 2147483647 := fmod_in _ (by decide)
    refine ⟨.int (mix1 c), rfl, .int k, rfl, 2, k, rfl, rfl, .inl ⟨by decide, by decide⟩, .int k, rfl, 2 * k, k, rfl, rfl, .inr ⟨by omega, by omega⟩, 48271, 2 * k * k, rfl, rfl, mix1 c, 48271 + 2 * k * k, rfl, rfl, .inl ⟨by omega, by omega⟩, ?_⟩
    refine ⟨.int k, rfl, 69621, k, rfl, rfl, .inl ⟨by decide, by decide⟩, _, _, rfl, rfl, _, _, rfl, rfl, _, _, rfl, rfl, (show (2147483647 : Int) ≠ 0 by decide), ?_⟩
    refine ⟨mix3 (mix2 (mix1 c) k), 69621, rfl, rfl, .inr ⟨by decide, by decide⟩, _, _, rfl, rfl, (show (2147483629 : Int) ≠ 0 by decide), ?_⟩
    exact q
/-- a number below many is drawn -/
def spDraw : Sp := fun vs H Q _ => ∃ (d l c : Addr) (n many : Int), vs = [.ref d, .int many] ∧ St H d l c n ∧ n < 2 ^ 50 ∧ 0 < many ∧ many < 2 ^ 20 ∧
  ∀ H' i, But d l H H' → St H' d l c (n + 1) → 0 ≤ i → i < many → Q (.int i) H'
theorem ok_law_draw (T : Txt K mg) : Ok P w K mg base "_law_draw" P__law_draw 2 spDraw := by
  have ok__law_mixed : Ok P w K mg base "_law_mixed" P__law_mixed 1 spMixed := ok_law_mixed T
  refine T.d__law_draw.ok sc__law_draw (fun vs H Q E h => ?_) (fun f cdv A out s H vs Q E hr h => ?_)
  · obtain ⟨d, l, c, n, many, rfl, _⟩ := h
    rfl
  · obtain ⟨d, l, c, n, many, rfl, hS, hn, hm1, hm2, q⟩ := h
    refine ⟨_, (pss_cons (ps_set (i := 2) sc__law_draw.nd rfl (Or.inl rfl) (pe_dget (hu_of hr) (pv 0) pe_str (fun _ _ => rfl)))
    (pss_cons (ps_dput (hu_of hr) (pv 0) pe_str (pe_op op_add (pv 2) pe_int) rfl)
    (pss_cons (ps_set (i := 3) sc__law_draw.nd rfl (Or.inl rfl) (pe_op op_modN (pe_callTy call_int1 (by rfl) T.z_int (by decide +kernel) (pa_cons (pv 2) pa_nil)) (pe_callB call_len (by rfl) T.z_len (by decide +kernel) (pa_cons (pe_dget (hu_of hr) (pv 0) pe_str (fun _ _ => rfl)) pa_nil))))
    (pss_cons (ps_set (i := 4) sc__law_draw.nd rfl (Or.inl rfl) (pe_ix ix_list (pe_dget (hu_of hr) (pv 0) pe_str (fun _ _ => rfl)) (pv 3) (fun _ _ => rfl)))
    (pss_cons (ps_if (pt_cmpR op_gt (pv 4) pe_int (nomark _)) (pss_cons (ps_asg (pe_op op_fdivN (pv 4) (pv 1)) (pg_sub (pe_dget (hu_of hr) (pv 0) pe_str (fun _ _ => rfl)) (pv 3) set_list))
      (pss_one (ps_ret (pe_op op_modN (pe_callTy call_int1 (by rfl) T.z_int (by decide +kernel) (pa_cons (pv 4) pa_nil)) (pv 1))))) pss_nil)
    (pss_cons (ps_set (i := 5) sc__law_draw.nd rfl (Or.inl rfl) (pe_ok ok__law_mixed (hr.mono (by decide)) (pa_cons (pe_ok ok__law_mixed (hr.mono (by decide)) (pa_cons (pe_ix ix_list (pe_dget (hu_of hr) (pv 0) pe_str (fun _ _ => rfl)) (pv 3) (fun _ _ => rfl)) (pa_cons (pv 2) pa_nil))) (pa_cons (pe_op op_add pe_int (pv 2)) pa_nil))))
    (pss_one (ps_ret (pe_op op_modN (pe_op op_fdivN (pe_callTy call_int1 (by rfl) T.z_int (by decide +kernel) (pa_cons (pe_op op_add (pe_op op_mul (pv 5) pe_int) (pe_ok ok__law_mixed (hr.mono (by decide)) (pa_cons (pv 5) (pa_cons (pe_op op_add pe_int (pv 2)) pa_nil)))) pa_nil)) pe_int) (pv 1)))))))))), ?_⟩
    obtain ⟨cells, lefts, m, r, a1, a2, a3, a4, a5, a6, a7, a8, a9⟩ := hS.ex
    have ndl : d ≠ l := ne_of a1 a3 (by intro z; cases z)
    have ndc : d ≠ c := ne_of a1 a2 (by intro z; cases z)
    -- at = state["at"]
    refine ⟨.ref d, rfl, d, .int m, rfl, get_at a1, ?_⟩
    -- state["at"] = at + 1
    refine ⟨.int m, rfl, m, 1, rfl, rfl, .ref d, rfl, d, upd H d (.dK (kvS c l (m + 1) r)), rfl, put_at (m + 1) a1, ?_⟩
    have b1 : upd H d (.dK (kvS c l (m + 1) r)) d = some (.dK (kvS c l (m + 1) r)) := upd_same
    have b2 : upd H d (.dK (kvS c l (m + 1) r)) c = some (.lst (cells.map V.int)) := (upd_ne ndc.symm).trans a2
    have b3 : upd H d (.dK (kvS c l (m + 1) r)) l = some (.lst (lefts.map V.int)) := (upd_ne ndl.symm).trans a3
    have but1 : But d l H (upd H d (.dK (kvS c l (m + 1) r))) := fun b o h1 _ e => by
      rw [upd_ne h1]
      exact e
    generalize upd H d (.dK (kvS c l (m + 1) r)) = H1 at b1 b2 b3 but1 ⊢
    -- place = int(at) % len(cells)
    have lc : ((cells.map V.int).length : Int) = (cells.length : Int) := by rw [List.length_map]
    refine ⟨.int m, rfl, Or.inl ⟨m, rfl, .ref d, rfl, d, .ref c, rfl, get_cells b1, .ref c, _, rfl, Or.inl ⟨_, SqL.of b2, rfl⟩, m, (cells.length : Int), rfl, congrArg V.int lc, (show (cells.length : Int) ≠ 0 by omega), ?_⟩⟩
    obtain ⟨p1, p2⟩ := fmod_in m (show (0 : Int) < (cells.length : Int) by omega)
    obtain ⟨pl, hpl⟩ : ∃ pl : Nat, m.fmod (cells.length : Int) = (pl : Int) := ⟨(m.fmod (cells.length : Int)).toNat, by omega⟩
    have ltp : pl < cells.length := by omega
    have gc : (cells.map V.int)[pl]? = some (.int cells[pl]) := by
      rw [List.getElem?_map, List.getElem?_eq_getElem ltp]
      rfl
    have gl : (lefts.map V.int)[pl]? = some (.int (lefts[pl]'(by omega))) := by
      rw [List.getElem?_map, List.getElem?_eq_getElem (by omega)]
      rfl
    show gName 3 (V.int (m.fmod (cells.length : Int))) _ _ _
    rw [hpl]
    -- left = state["lefts"][place]
    refine ⟨.ref d, rfl, d, .ref l, rfl, get_lefts b1, .int (pl : Int), rfl, l, _, (pl : Int), _, rfl, rfl, SqL.of b3, atI_nat gl, ?_⟩
    generalize lefts[pl]'(by omega) = left
    -- if left > 0
    refine ⟨.int left, rfl, left, 0, rfl, rfl, _, rfl, ite2 (fun h => ?_) (fun h => ?_)⟩
    · -- state["lefts"][place] = left // many; return int(left) % many
      refine ⟨.int left, rfl, .int many, rfl, left, many, rfl, rfl, ⟨by omega, by omega⟩, .ref d, rfl, d, .ref l, rfl, get_lefts b1, .int (pl : Int), rfl, l, _, (pl : Int), pl, rfl, rfl, b3, ?_, ?_⟩
      · unfold ixN
        rw [if_pos (by omega), if_pos (by rw [List.length_map]; omega), Int.toNat_natCast]
      · refine ⟨.int left, rfl, Or.inl ⟨left, rfl, .int many, rfl, left, many, rfl, rfl, (show many ≠ 0 by omega), ?_⟩⟩
        obtain ⟨i1, i2⟩ := fmod_in left hm1
        refine q _ _ (but1.trans fun b o h1 h2 e => by rw [upd_ne h2]; exact e) ⟨⟨cells, lefts.set pl (left.fdiv many), m + 1, r, ?_, ?_, ?_, ?_, a5, a6, a7, by omega, by omega⟩⟩ i1 i2
        · exact (upd_ne ndl).trans b1
        · exact (upd_ne a7).trans b2
        · rw [upd_same, List.map_set]
        · rw [List.length_set]
          exact a4
    · -- the mixed ones
      refine ⟨.ref d, rfl, d, .ref c, rfl, get_cells b1, .int (pl : Int), rfl, c, _, (pl : Int), _, rfl, rfl, SqL.of b2, atI_nat gc, .int m, rfl, ?_⟩
      refine ⟨cells[pl], m, rfl, a8, by omega, .int m, rfl, 40, m, rfl, rfl, ?_⟩
      refine ⟨mix cells[pl] m, 40 + m, rfl, by omega, by omega, ?_⟩
      obtain ⟨n1, n2⟩ := mix_in (mix cells[pl] m) (40 + m)
      generalize mix (mix cells[pl] m) (40 + m) = number at n1 n2 ⊢
      refine ⟨.int number, rfl, number, 2147483647, rfl, rfl, .inl ⟨by omega, by omega⟩, .int number, rfl, .int m, rfl, 7, m, rfl, rfl, ?_⟩
      refine ⟨number, 7 + m, rfl, by omega, by omega, _, _, rfl, rfl, Or.inl ⟨_, rfl, _, 64, rfl, rfl, ⟨by decide, by decide⟩, ?_⟩⟩
      refine ⟨.int many, rfl, _, many, rfl, rfl, (show many ≠ 0 by omega), ?_⟩
      obtain ⟨i1, i2⟩ := fmod_in ((number * 2147483647 + mix number (7 + m)).fdiv 64) hm1
      exact q _ _ but1 ⟨⟨cells, lefts, m + 1, r, b1, b2, b3, a4, a5, a6, a7, by omega, by omega⟩⟩ i1 i2
end
theorem dpAll_ints {K : PySem.W.Frag} {H : Hp} : ∀ xs : List Int, DpAll K H (xs.map V.int) (xs.map PyData.int)
  | [] => .nil
  | x :: xs => .cons (.int x) (dpAll_ints xs)
theorem canLay_ints : ∀ xs : List Int, PyData.canLayAll0 (xs.map PyData.int) = true
  | [] => rfl
  | x :: xs => canLay_ints xs
theorem depth_ints : ∀ xs : List Int, PyData.depthAll (xs.map PyData.int) = 0
  | [] => rfl
  | x :: xs => by
    show max 0 (PyData.depthAll (xs.map PyData.int)) = 0
    rw [depth_ints xs]
    rfl
theorem shaped_ints (xs : List Int) : SeqAt.shaped (.list (xs.map .int)) = true := by
  show (PyData.canLayAll0 (xs.map PyData.int) && decide (PyData.depthAll (xs.map PyData.int) + 1 ≤ 64)) = true
  rw [canLay_ints xs, depth_ints xs]
  rfl
def leftOf (c : Int) : Int := if c ≥ 10 ^ 18 then c else 0
section
variable {P : Program} {w : World} {K : PySem.W.Frag} {mg : Str → Option Value} {base : Heap}
theorem begin_rest {Q : VK} {H H1 : Hp} {a c : Addr} {cells : List Int} (sm : Same H H1) (hc : H1 c = some (.lst (cells.map V.int))) (h0 : 0 < cells.length) (h1 : cells.length ≤ 63) (q : ∀ H' d l c, Same H H' → St H' d l c 0 → Q (.ref d) H') :
    tDisp [(tC (V.str ("cells" : Str)), tVar 1), (tC (V.str ("lefts" : Str)), tLc (iList K (tVar 1)) (gName 2) tYes (tIf (tTest (tOp (rI0 fun i j => V.bl (decide (j ≤ i))) (tVar 2) (tOp (rI CPow fun i j => V.int (i ^ j.toNat)) (tC (V.int 10)) (tC (V.int 18)))))
      (tVar 2) (tC (V.int 0))) [2]), (tC (V.str ("at" : Str)), tC (V.int 0)), (tC (V.str ("room" : Str)), tC (V.int 0))] [some (.ref a), some (.ref c), none] H1 Q := by
  intro d nd
  have s1 := same_new (o := .dK []) nd
  have c1 := s1 _ _ hc
  refine ⟨.ref c, rfl, .ref c, rfl, c, rfl, ⟨_, SqL.of c1⟩, fun D nD => lc_pure (ys := cells.map fun z => .int (leftOf z)) (by rw [List.length_map, ← List.length_map (f := V.int) (as := cells)]; exact walk_list (K := K)) nD ?_ (fun G sG => SqL.of (sG _ _ c1)) (fun _ => rfl) (fun i x y G G' e sG g k hk => ?_) (fun G sG dG => ?_)⟩
  · rw [List.length_map]
    omega
  · obtain ⟨rfl, e1⟩ := g
    rw [List.getElem?_map] at e e1
    cases e2 : cells[i]? with
    | none =>
      rw [e2] at e
      cases e
    | some z =>
      rw [e2] at e e1
      cases e
      cases e1
      have hk : k (.int (leftOf z)) G' := hk _ (Same.refl _)
      refine ⟨.int z, rfl, 10, 18, rfl, rfl, ⟨by decide, by decide, by decide⟩, z, _, rfl, rfl, _, rfl, ?_⟩
      have e3 : ((10 : Int) ^ (18 : Int).toNat) = 10 ^ 18 := rfl
      rw [e3]
      by_cases hz : z ≥ 10 ^ 18
      · rw [show leftOf z = z from if_pos hz] at hk
        rw [decide_eq_true hz]
        exact iteT ⟨_, rfl, hk⟩
      · rw [show leftOf z = 0 from if_neg hz] at hk
        rw [decide_eq_false hz]
        exact iteF hk
  · have d1 : G d = some (.dK []) := sG _ _ upd_same
    refine ⟨d1, [(Sum.inr ("cells" : Str), .ref c), (Sum.inr ("lefts" : Str), .ref D), (Sum.inr ("at" : Str), .int 0), (Sum.inr ("room" : Str), .int 0)], rfl, by show 4 ≤ 15; decide, ?_⟩
    have n1 : d ≠ D := ne_of_none upd_same nD
    have n2 : c ≠ D := ne_of_none c1 nD
    have n3 : c ≠ d := ne_of_none hc nd
    have sm2 : Same H (upd G d (.dK (mergeK [] [(Sum.inr ("cells" : Str), V.ref c), (Sum.inr ("lefts" : Str), V.ref D), (Sum.inr ("at" : Str), V.int 0), (Sum.inr ("room" : Str), V.int 0)]))) := fun b o e => by
      rw [upd_ne (ne_of_none (sm _ _ e) nd)]
      exact sG _ _ (s1 _ _ (sm _ _ e))
    have em : mergeK [] [(Sum.inr ("cells" : Str), V.ref c), (Sum.inr ("lefts" : Str), V.ref D), (Sum.inr ("at" : Str), V.int 0), (Sum.inr ("room" : Str), V.int 0)] = kvS c D 0 0 := by
      have h1 : ¬ (Sum.inr ("cells" : Str) : Key) = Sum.inr ("at" : Str) := fun z => absurd (Sum.inr.inj z) (by decide +kernel)
      have h2 : ¬ (Sum.inr ("lefts" : Str) : Key) = Sum.inr ("at" : Str) := fun z => absurd (Sum.inr.inj z) (by decide +kernel)
      have h3 : ¬ (Sum.inr ("cells" : Str) : Key) = Sum.inr ("lefts" : Str) := fun z => absurd (Sum.inr.inj z) (by decide +kernel)
      have h4 : ¬ (Sum.inr ("cells" : Str) : Key) = Sum.inr ("room" : Str) := fun z => absurd (Sum.inr.inj z) (by decide +kernel)
      have h5 : ¬ (Sum.inr ("lefts" : Str) : Key) = Sum.inr ("room" : Str) := fun z => absurd (Sum.inr.inj z) (by decide +kernel)
      have h6 : ¬ (Sum.inr ("at" : Str) : Key) = Sum.inr ("room" : Str) := fun z => absurd (Sum.inr.inj z) (by decide +kernel)
      unfold mergeK kvS
      simp [putK, h1, h2, h3, h4, h5, h6]
    refine q _ d D c sm2 ⟨⟨cells, cells.map leftOf, 0, 0, ?_, ?_, ?_, ?_, h0, by omega, n2, by omega, by omega⟩⟩
    · rw [upd_same, em]
    · rw [upd_ne n3]
      exact sG _ _ c1
    · rw [upd_ne n1.symm, dG, List.map_map]
      rfl
    · rw [List.length_map]
def spBegin (K : PySem.W.Frag) : Sp := fun vs H Q _ => ∃ (a : Addr) (ns : List Int), vs = [.ref a] ∧ SqL K H a (ns.map V.int) ∧ ns.length ≤ 63 ∧ ∀ H' d l c, Same H H' → St H' d l c 0 → Q (.ref d) H'
theorem ok_law_begin (T : Txt K mg) : Ok P w K mg base "_law_begin" P__law_begin 1 (spBegin K) := by
  refine T.d__law_begin.ok sc__law_begin (fun vs H Q E h => ?_) (fun f cdv A out s H vs Q E hr h => ?_)
  · obtain ⟨a, ns, rfl, _⟩ := h
    rfl
  · obtain ⟨a, ns, rfl, hS, hn, q⟩ := h
    refine ⟨_, (pss_cons (ps_set (i := 1) sc__law_begin.nd rfl (Or.inl rfl) (pe_ifExp (pt_cmpR (op_neD hr.units) (pv 0) (pe_lst pa_nil) (nomark _)) (pe_callTy call_list_of (by rfl) T.z_list (by decide +kernel) (pa_cons (pv 0) pa_nil)) (pe_lst (pa_cons pe_int pa_nil))))
    (pss_one (ps_ret (pe_disp (pps_cons pe_str (pv 1) (pps_cons pe_str (pe_lc (own := [("cell", 2)]) (g := gName 2) (tt := tYes) rfl sc__law_begin.nd (pi_list (pv 1)) (blkOk_by (N := N__law_begin) (sc := defScope st__law_begin) (by decide +kernel)) (fun _ _ _ _ _ => pg_name (i := 2) sc__law_begin.nd rfl (Or.inl rfl)) (fun _ _ _ _ _ => pts_nil) (fun _ _ _ _ _ => (pe_ifExp (pt_cmpR op_ge (pv 2) (pe_op op_pow pe_int pe_int) (nomark _)) (pv 2) pe_int))) (pps_cons pe_str pe_int (pps_cons pe_str pe_int pps_nil)))) (by rfl) (by rfl) (fun z => by cases z) (by decide))))), ?_⟩
    refine ⟨.ref a, rfl, Nat.zero_le _, fun p0 n0 => ?_⟩
    have s0 := same_new (o := .lst []) n0
    refine ⟨_, _, .lst (s0.seq hS) (dpAll_ints ns), .lst (SqL.of upd_same) .nil, shaped_ints ns, rfl, _, rfl, ?_⟩
    cases ns with
    | nil =>
      show (if false = true then _ else _)
      refine iteF ⟨by show 1 ≤ sizeLine; decide, fun c nc => ?_⟩
      exact begin_rest (cells := [0]) (s0.trans (same_new nc)) upd_same (by decide) (by decide) q
    | cons z zs =>
      show (if true = true then _ else _)
      refine iteT ⟨.ref a, rfl, a, _, rfl, Or.inl (s0.seq hS), fun c nc => ?_⟩
      exact begin_rest (cells := z :: zs) (s0.trans (same_new nc)) upd_same (Nat.zero_lt_succ _) hn q
end
end S1
namespace S1
open PySem PySem.Spec PyProof.Rows L2 Jv
theorem okKey_of {k : Ky} (h : okKey k.py = true) : okW lts k.name = true ∧ okStrs k.dom ∧ okStrs k.fold := by
  have e : okKey k.py = (okD lts (.str k.name) && okT 2 5 (.tuple (k.dom.map .str)) && okT 0 4 (.tuple (k.fold.map .str)) && dBl (.bool k.alone)) := rfl
  rw [e, Bool.and_eq_true, Bool.and_eq_true, Bool.and_eq_true] at h
  obtain ⟨⟨⟨h1, h2⟩, h3⟩, _⟩ := h
  obtain ⟨xs, e1, o1⟩ := okT_of h2
  obtain ⟨ys, e2, o2⟩ := okT_of h3
  injection e1 with e1
  injection e2 with e2
  rw [strs_inj e1, strs_inj e2]
  exact ⟨h1, o1, o2⟩
theorem okKept_of {k : Kp} (h : okKept k.py = true) : okKey k.key.py = true ∧ okW sgs k.val = true := by
  have e : okKept k.py = (okKey k.key.py && okD sgs (.str k.val) && dBl (.bool k.grd)) := rfl
  rw [e, Bool.and_eq_true, Bool.and_eq_true] at h
  exact h.1
/-! ### written sites and jars -/
def okT' (lo hi : Int) (xs : List Str) : Bool := decide (lo ≤ (xs.length : Int)) && decide ((xs.length : Int) ≤ hi) && xs.all fun x => okW sgs x
theorem okT_py (lo hi : Int) (xs : List Str) : okT lo hi (.tuple (xs.map .str)) = okT' lo hi xs := by
  show (decide (lo ≤ ((xs.map PyData.str).length : Int)) && decide (((xs.map PyData.str).length : Int) ≤ hi) && (xs.map PyData.str).all (okD sgs)) = _
  rw [List.length_map, List.all_map]
  rfl
def wrShape (w : Wr) : Bool := okW lts w.name && (match w.dom with
  | none => true
  | some d => okT' 2 5 d) && (match w.fold with
  | none => true
  | some d => okT' 0 4 d)
def pgShape (p : Pg) : Bool := okT' 2 5 p.ad.host && okT' 0 4 p.ad.path && decide (p.ws.length ≤ 5) && p.ws.all wrShape
def siteShape (s : List Pg) : Bool := decide (1 ≤ s.length) && decide (s.length ≤ 5) && s.all pgShape
theorem wr_ok {w : Wr} (h : wrShape w = true) (v : ∀ x, w.val = some x → okW sgs x = true) : okWr w.py = true := by
  obtain ⟨n, vl, d, f, g⟩ := w
  have e : okWr (Wr.py ⟨n, vl, d, f, g⟩) = (okD lts (.str n) && dBl (.bool g) && (isNon (optS vl) || okD sgs (optS vl)) && (isNon (optT d) || okT 2 5 (optT d)) && (isNon (optT f) || okT 0 4 (optT f))) := rfl
  unfold wrShape at h
  rw [Bool.and_eq_true, Bool.and_eq_true] at h
  obtain ⟨⟨h1, h2⟩, h3⟩ := h
  rw [e, Bool.and_eq_true, Bool.and_eq_true, Bool.and_eq_true, Bool.and_eq_true]
  refine ⟨⟨⟨⟨h1, rfl⟩, ?_⟩, ?_⟩, ?_⟩
  · cases vl with
    | none => rfl
    | some x => exact v x rfl
  · cases d with
    | none => rfl
    | some x =>
      show (false || okT 2 5 (.tuple (x.map .str))) = true
      rw [okT_py]
      exact h2
  · cases f with
    | none => rfl
    | some x =>
      show (false || okT 0 4 (.tuple (x.map .str))) = true
      rw [okT_py]
      exact h3
theorem writes_ok : ∀ {ws : List Wr} {n : Nat}, ws.all wrShape = true → okValsW ws (fun x => okW sgs x = true) → badFrom n (ws.map Wr.py) = none
  | [], _, _, _ => rfl
  | w :: ws, n, h, v => by
    rw [List.all_cons, Bool.and_eq_true] at h
    obtain ⟨v1, v2⟩ := v
    show (if okWr w.py then badFrom (n + 1) (ws.map Wr.py) else some n) = none
    rw [if_pos (wr_ok h.1 fun x e => by rw [e] at v1; exact v1)]
    exact writes_ok h.2 v2
theorem pages_ok : ∀ {s : List Pg} {n : Nat}, s.all pgShape = true → okValsP s (fun x => okW sgs x = true) → pagesBad n (s.map Pg.py) = none
  | [], _, _, _ => rfl
  | p :: s, n, h, v => by
    rw [List.all_cons, Bool.and_eq_true] at h
    obtain ⟨h0, h⟩ := h
    obtain ⟨v1, v2⟩ := v
    unfold pgShape at h0
    rw [Bool.and_eq_true, Bool.and_eq_true, Bool.and_eq_true] at h0
    obtain ⟨⟨⟨h1, h2⟩, h3⟩, h4⟩ := h0
    have a : okA p.ad.py = true := by
      have e : okA p.ad.py = (okT 2 5 (.tuple (p.ad.host.map .str)) && okT 0 4 (.tuple (p.ad.path.map .str)) && dBl (.bool p.ad.sec)) := rfl
      rw [e, okT_py, okT_py, h1, h2]
      rfl
    have b : pageBad (n : Int) p.py = none := by
      have l : (((p.ws.map Wr.py).length : Int)) ≤ 5 := by
        rw [List.length_map]
        have := of_decide_eq_true h3
        omega
      show pageBad (n : Int) (.tuple [p.ad.py, .tuple (p.ws.map Wr.py)]) = none
      rw [pageBad_w a l, writes_ok h4 v1]
      rfl
    show (match pageBad (n : Int) p.py with
      | some q => some q
      | none => pagesBad (n + 1) (s.map Pg.py)) = none
    rw [b]
    exact pages_ok h v2
theorem site_good {s : List Pg} (h : siteShape s = true) (v : okValsP s (fun x => okW sgs x = true)) : siteBad (sitePy s) = none := by
  unfold siteShape at h
  rw [Bool.and_eq_true, Bool.and_eq_true] at h
  obtain ⟨⟨h1, h2⟩, h3⟩ := h
  have h1 := of_decide_eq_true h1
  have h2 := of_decide_eq_true h2
  have e : siteBad (sitePy s) = if decide ((1 : Int) ≤ ((s.map Pg.py).length : Int)) && decide (((s.map Pg.py).length : Int) ≤ 5) then pagesBad 0 (s.map Pg.py) else some [] := rfl
  rw [e, List.length_map, decide_eq_true (by omega), decide_eq_true (by omega)]
  exact pages_ok h3 v
def kyShape (k : Ky) : Bool := okW lts k.name && okT' 2 5 k.dom && okT' 0 4 k.fold
theorem ky_ok {k : Ky} (h : kyShape k = true) : okKey k.py = true := by
  have e : okKey k.py = (okD lts (.str k.name) && okT 2 5 (.tuple (k.dom.map .str)) && okT 0 4 (.tuple (k.fold.map .str)) && dBl (.bool k.alone)) := rfl
  rw [e, okT_py, okT_py]
  unfold kyShape at h
  rw [Bool.and_eq_true, Bool.and_eq_true] at h
  rw [show okD lts (.str k.name) = true from h.1.1, h.1.2, h.2]
  rfl
def jarShape (js : List Kp) : Bool := (js.all fun k => kyShape k.key) && nodupB (js.map (·.key)) && ascB (js.map (·.key)) && decide (js.length ≤ 60)
theorem kepts_ok : ∀ {js : List Kp}, (js.all fun k => kyShape k.key) = true → okValsJ js (fun x => okW sgs x = true) → ∀ k ∈ js, okKept k.py = true
  | [], _, _ => fun k hk => by cases hk
  | j :: js, h, v => fun k hk => by
    rw [List.all_cons, Bool.and_eq_true] at h
    obtain ⟨v1, v2⟩ := v
    rcases List.mem_cons.mp hk with rfl | hk
    · have e : okKept k.py = (okKey k.key.py && okD sgs (.str k.val) && dBl (.bool k.grd)) := rfl
      rw [e, ky_ok h.1, show okD sgs (.str k.val) = true from v1]
      rfl
    · exact kepts_ok h.2 v2 k hk
theorem jar_good {js : List Kp} (h : jarShape js = true) (v : okValsJ js (fun x => okW sgs x = true)) : JarOk js := by
  unfold jarShape at h
  rw [Bool.and_eq_true, Bool.and_eq_true, Bool.and_eq_true] at h
  obtain ⟨⟨⟨h1, h2⟩, h3⟩, h4⟩ := h
  refine ⟨kepts_ok h1 v, nodupB_of h2, fun i k k' e e' => ?_, of_decide_eq_true h4⟩
  exact ascB_of h3 i k.key k'.key (by rw [List.getElem?_map, e]; rfl) (by rw [List.getElem?_map, e']; rfl)
theorem strs_lay {xs : List Str} (h : okStrs xs) : PyData.canLay0 (.tuple (xs.map .str)) = true := canLay_strs xs h
theorem kp_lay {k : Kp} (h : okKept k.py = true) : PyData.canLay0 k.py = true := by
  obtain ⟨h1, h2⟩ := okKept_of h
  obtain ⟨a1, a2, a3⟩ := okKey_of h1
  have e : PyData.canLay0 k.py = ((PyData.strOk k.key.name && (PyData.canLay0 (.tuple (k.key.dom.map .str)) && (PyData.canLay0 (.tuple (k.key.fold.map .str)) && (true && true)))) && (PyData.strOk k.val && (true && true))) := rfl
  rw [e, okW_str lts_low a1, okW_str sgs_low h2, strs_lay a2, strs_lay a3]
  rfl
theorem kp_depth (k : Kp) : k.py.depth = 3 := by
  show max k.key.py.depth (max 0 (max 0 0)) + 1 = 3
  rw [Ky.pdepth]
  rfl
theorem jar_depth : ∀ js : List Kp, PyData.depthAll (js.map Kp.py) ≤ 3
  | [] => Nat.zero_le _
  | j :: js => by
    rw [List.map_cons, depth_mono, kp_depth]
    have := jar_depth js
    omega
theorem jar_lay : ∀ {js : List Kp}, (∀ k ∈ js, okKept k.py = true) → PyData.canLayAll0 (js.map Kp.py) = true
  | [], _ => rfl
  | j :: js, h => by
    show (PyData.canLay0 j.py && PyData.canLayAll0 (js.map Kp.py)) = true
    rw [kp_lay (h j List.mem_cons_self), jar_lay fun k hk => h k (List.mem_cons_of_mem _ hk)]
    rfl
theorem jar_shaped {js : List Kp} (h : ∀ k ∈ js, okKept k.py = true) : SeqAt.shaped (jarPy js) = true := shaped_tup (jar_lay h) (Nat.le_trans (jar_depth js) (by decide))
theorem pairs_depth : ∀ l : List (Str × Str), PyData.depthAll (l.map fun p => PyData.tuple [.str p.1, .str p.2]) ≤ 1
  | [] => Nat.zero_le _
  | p :: l => by
    rw [List.map_cons, depth_mono]
    have := pairs_depth l
    have e : (PyData.tuple [.str p.1, .str p.2]).depth = 1 := rfl
    omega
def okPairs : List (Str × Str) → Prop
  | [] => True
  | p :: l => (PyData.strOk p.1 = true ∧ PyData.strOk p.2 = true) ∧ okPairs l
theorem pairs_lay : ∀ {l : List (Str × Str)}, okPairs l → PyData.canLayAll0 (l.map fun p => PyData.tuple [.str p.1, .str p.2]) = true
  | [], _ => rfl
  | p :: l, h => by
    obtain ⟨⟨h1, h2⟩, h3⟩ := h
    show ((PyData.strOk p.1 && (PyData.strOk p.2 && true)) && PyData.canLayAll0 (l.map fun p => PyData.tuple [.str p.1, .str p.2])) = true
    rw [h1, h2, pairs_lay h3]
    rfl
theorem sent_shaped {l : List (Str × Str)} (h : okPairs l) : SeqAt.shaped (sentPy l) = true := shaped_tup (pairs_lay h) (Nat.le_trans (pairs_depth l) (by decide))
def okSents : List (List (Str × Str)) → Prop
  | [] => True
  | l :: ls => okPairs l ∧ okSents ls
theorem sents_shaped {ls : List (List (Str × Str))} (h : okSents ls) : SeqAt.shaped (.list (ls.map sentPy)) = true := by
  have a : ∀ {ls : List (List (Str × Str))}, okSents ls → PyData.canLayAll0 (ls.map sentPy) = true := by
    intro ls
    induction ls with
    | nil => exact fun _ => rfl
    | cons l ls ih =>
      intro h
      show (PyData.canLay0 (sentPy l) && PyData.canLayAll0 (ls.map sentPy)) = true
      rw [ih h.2, show PyData.canLay0 (sentPy l) = true from pairs_lay h.1]
      rfl
  have b : ∀ ls : List (List (Str × Str)), PyData.depthAll (ls.map sentPy) ≤ 2 := by
    intro ls
    induction ls with
    | nil => exact Nat.zero_le _
    | cons l ls ih =>
      rw [List.map_cons, depth_mono]
      have e : (sentPy l).depth ≤ 2 := by
        show PyData.depthAll (l.map fun p => PyData.tuple [.str p.1, .str p.2]) + 1 ≤ 2
        have := pairs_depth l
        omega
      omega
  show (PyData.canLayAll0 (ls.map sentPy) && decide (PyData.depthAll (ls.map sentPy) + 1 ≤ 64)) = true
  have := b ls
  rw [a h, decide_eq_true (by omega)]
  rfl
end S1
namespace S1
open PySem PySem.Spec PyProof.Rows L2 Jv
section
variable {P : Program} {w : World} {K : PySem.W.Frag} {mg : Str → Option Value} {base : Heap} {C C1 C2 C3 : Addr}
theorem ok_is_below (T : Txt K mg) : Ok P w K mg base "is_below" P_is_below 1 (spTwo K below) := by
  refine T.d_is_below.ok sc_is_below (fun vs H Q E h => ?_) (fun f cdv A out s H vs Q E hr h => ?_)
  · obtain ⟨v, u, xs, ys, rfl, _⟩ := h
    rfl
  · obtain ⟨v, u, xs, ys, rfl, ha, hb, ox, oy, q⟩ := h
    refine ⟨_, (pss_one (ps_ret (pe_cmpR (op_eqA hr.units) (pe_slice sl_tupA (pv 0) po_none (po_some (pe_callB call_len (by rfl) T.z_len (by decide +kernel) (pa_cons (pv 1) pa_nil)))) (pv 1) (nomark _)))), ?_⟩
    have ha0 := ha
    have hb0 := hb
    obtain ⟨a, rfl, ta, na, lx⟩ := da_texts ha
    obtain ⟨b, rfl, tb, nb, ly⟩ := da_texts hb
    refine ⟨.ref a, rfl, .ref b, rfl, .ref b, (ys.map V.str).length, rfl, Or.inr ⟨_, tb, rfl⟩, ((ys.map V.str).length : Int), rfl, ?_⟩
    rw [List.length_map]
    refine ⟨a, xs.map V.str, rfl, ta, fun c => ?_, fun _ p np => ?_⟩
    · have z : below xs ys = decide (xs = ys) := by
        have c2 := c.2
        rw [HT.sIx_nat, List.length_map] at c2
        unfold below
        rw [List.take_of_length_le (by omega)]
      rw [z] at q
      refine ⟨.ref b, rfl, _, _, ha0, hb0, shaped_strs ox, shaped_strs oy, ?_⟩
      rw [eqv_strs]
      exact q H (Same.refl H)
    · rw [cut_to, ← List.map_take]
      have sm : Same H (upd H p (.tup ((xs.take ys.length).map V.str))) := same_new np
      refine ⟨.ref b, rfl, _, _, .tup (SqT.of upd_same) (daStrs _ fun x hx => lx x (List.mem_of_mem_take hx)) ?_, Da.same sm _ _ hb0, shaped_strs fun x hx => ox x (List.mem_of_mem_take hx), shaped_strs oy, ?_⟩
      · rw [List.length_map, List.length_take]
        omega
      · rw [eqv_strs]
        exact q _ sm
def spReach (K : PySem.W.Frag) : Sp := fun vs H Q _ => ∃ a v k hs, vs = [.ref a, v] ∧ KyAt K H a k ∧ k.Sz ∧ okStrs k.dom ∧ Da K H v (.tuple (hs.map .str)) ∧ okStrs hs ∧ ∀ H', Same H H' → Q (.bl (decide (hs = k.dom) || (!k.alone && within hs k.dom))) H'
theorem ok_reaches (T : Txt K mg) : Ok P w K mg base "reaches" P_reaches 2 (spReach K) := by
  have ok_is_within : Ok P w K mg base "is_within" P_is_within 1 (spTwo K within) := ok_is_within T
  refine T.d_reaches.ok sc_reaches (fun vs H Q E h => ?_) (fun f cdv A out s H vs Q E hr h => ?_)
  · obtain ⟨a, v, k, hs, rfl, _⟩ := h
    rfl
  · obtain ⟨a, v, k, hs, rfl, hk, kz, od, hv, oh, q⟩ := h
    refine ⟨_, (pss_cons (ps_asg (pv 0) (pg_tup rfl (pgs_cons (pg_name (i := 2) sc_reaches.nd rfl (Or.inl rfl)) (pgs_cons (pg_name (i := 3) sc_reaches.nd rfl (Or.inl rfl)) (pgs_cons (pg_name (i := 2) sc_reaches.nd rfl (Or.inl rfl)) (pgs_cons (pg_name (i := 4) sc_reaches.nd rfl (Or.inl rfl)) pgs_nil))))))
    (pss_one (ps_ret (pe_or (pe_cmpR (op_eqA hr.units) (pv 1) (pv 3) (nomark _)) (pe_one (pe_and (pe_not (pv 4)) (pe_one (pe_ok ok_is_within (hr.mono (by decide)) (pa_cons (pv 1) (pa_cons (pv 3) pa_nil)))))))))), ?_⟩
    obtain ⟨d1, d2, k1, k2, k3⟩ := hk.ex
    have hd : Da K H (.ref d1) (.tuple (k.dom.map .str)) := .tup k2 (daStrs _ kz.d.2) (by rw [List.length_map]; exact kz.d.1)
    refine ⟨.ref a, rfl, a, _, rfl, k1, rfl, _, _, rfl, _, _, rfl, _, _, rfl, _, _, rfl, rfl, ?_⟩
    refine ⟨v, rfl, .ref d1, rfl, _, _, hv, hd, shaped_strs oh, shaped_strs od, _, rfl, ?_⟩
    rw [eqv_strs]
    by_cases hh : hs = k.dom
    · rw [decide_eq_true hh] at q ⊢
      exact iteT (q H (Same.refl H))
    · rw [decide_eq_false hh] at q ⊢
      refine iteF ⟨.bl k.alone, rfl, k.alone, rfl, !k.alone, rfl, ?_⟩
      cases al : k.alone with
      | true =>
        rw [al] at q
        exact iteF (q H (Same.refl H))
      | false =>
        rw [al] at q
        exact iteT ⟨v, rfl, .ref d1, rfl, v, .ref d1, hs, k.dom, rfl, hv, hd, oh, od, fun H1 s1 => q H1 s1⟩
def spGoes (K : PySem.W.Frag) : Sp := fun vs H Q _ => ∃ v u k a, vs = [v, u] ∧ KpAt K H v k ∧ okKept k.py = true ∧ Da K H u (Ad.py a) ∧ a.Ok ∧ ∀ H', Same H H' → Q (.bl (goesM k a)) H'
theorem ok_goes (T : Txt K mg) : Ok P w K mg base "_goes" P__goes 3 (spGoes K) := by
  have ok_reaches : Ok P w K mg base "reaches" P_reaches 2 (spReach K) := ok_reaches T
  have ok_is_below : Ok P w K mg base "is_below" P_is_below 1 (spTwo K below) := ok_is_below T
  refine T.d__goes.ok sc__goes (fun vs H Q E h => ?_) (fun f cdv A out s H vs Q E hr h => ?_)
  · obtain ⟨v, u, k, a, rfl, _⟩ := h
    rfl
  · obtain ⟨v, u, k, a, rfl, ⟨b, c, rfl, h1, hky, kz, vz⟩, okk, hu, oa, q⟩ := h
    refine ⟨_, (pss_cons (ps_asg (pv 0) (pg_tup rfl (pgs_cons (pg_name (i := 2) sc__goes.nd rfl (Or.inl rfl)) (pgs_cons (pg_name (i := 3) sc__goes.nd rfl (Or.inl rfl)) (pgs_cons (pg_name (i := 4) sc__goes.nd rfl (Or.inl rfl)) pgs_nil)))))
    (pss_cons (ps_asg (pv 1) (pg_tup rfl (pgs_cons (pg_name (i := 5) sc__goes.nd rfl (Or.inl rfl)) (pgs_cons (pg_name (i := 6) sc__goes.nd rfl (Or.inl rfl)) (pgs_cons (pg_name (i := 7) sc__goes.nd rfl (Or.inl rfl)) pgs_nil)))))
    (pss_cons (ps_if (PW.pt (pw_and (pt_val (pv 4)) (pw_and1 (pt_not (pt_val (pv 7)))))) (pss_one (ps_ret pe_bl)) pss_nil)
    (pss_one (ps_ret (pe_and (pe_ok ok_reaches (hr.mono (by decide)) (pa_cons (pv 2) (pa_cons (pv 5) pa_nil))) (pe_one (pe_ok ok_is_below (hr.mono (by decide)) (pa_cons (pv 6) (pa_cons (pe_ix ix_tup (pv 2) pe_int (fun _ _ => rfl)) pa_nil)))))))))), ?_⟩
    obtain ⟨oky, _⟩ := okKept_of okk
    obtain ⟨_, od, of'⟩ := okKey_of oky
    obtain ⟨e, hx, hy, rfl, g1, g2, g3⟩ := da_ad hu
    obtain ⟨d1, d2, k1, k2, k3⟩ := id hky.ex
    have hf : Da K H (.ref d2) (.tuple (k.key.fold.map .str)) := .tup k3 (daStrs _ kz.f.2) (by rw [List.length_map]; exact kz.f.1)
    refine ⟨.ref b, rfl, b, _, rfl, h1, rfl, _, _, rfl, _, _, rfl, _, _, rfl, rfl, ?_⟩
    refine ⟨.ref e, rfl, e, _, rfl, g1, rfl, _, _, rfl, _, _, rfl, _, _, rfl, rfl, ?_⟩
    obtain ⟨key, val, grd⟩ := k
    obtain ⟨host, path, sec⟩ := a
    have e0 : goesM ⟨key, val, grd⟩ ⟨host, path, sec⟩ = (!(grd && !sec) && (decide (host = key.dom) || (!key.alone && within host key.dom)) && below path key.fold) := rfl
    have mid : (grd && !sec) = false → tRet (tAndV (tCall (spReach K) [] E0 (tCons (tVar 2) (tCons (tVar 5) tNil))) (tCall (spTwo K below) [] E0 (tCons (tVar 6) (tCons (tOp (rIxT K) (tVar 2) (tC (.int 2))) tNil))))
        { nx := fun _ H' => Q .non H', rt := Q } [some (.ref b), some (.ref e), some (.ref c), some (.str val), some (.bl grd), some hx, some hy, some (.bl sec)] H := by
      intro g
      rw [g] at e0
      refine ⟨.ref c, rfl, hx, rfl, c, hx, key, host, rfl, hky, kz, od, g2, oa.1, fun H1 s1 => ⟨_, rfl, ?_⟩⟩
      cases re : (decide (host = key.dom) || (!key.alone && within host key.dom)) with
      | false =>
        rw [re] at e0
        have q := q H1 s1
        rw [e0] at q
        exact iteF q
      | true =>
        rw [re] at e0
        exact iteT ⟨hy, rfl, .ref c, rfl, c, _, 2, .ref d2, rfl, rfl, sqT_same s1 k1, rfl, hy, .ref d2, path, key.fold, rfl, Da.same s1 _ _ g3, Da.same s1 _ _ hf, oa.2, of', fun H2 s2 => by
          have q := q H2 (s1.trans s2)
          rw [e0] at q
          exact q⟩
    refine ⟨.bl grd, rfl, grd, rfl, ?_⟩
    cases grd with
    | false => exact iteF (iteF (mid rfl))
    | true =>
      refine iteT ⟨.bl sec, rfl, sec, rfl, ?_⟩
      cases sec with
      | true => exact iteF (mid rfl)
      | false =>
        have q := q H (Same.refl H)
        rw [e0] at q
        exact iteT q
theorem sent_flat (l : List (Str × Str)) : flat (sentPy l) = true := by
  show flatAll (l.map fun p => .tuple [.str p.1, .str p.2]) = true
  refine flatAll_of fun d hd => ?_
  obtain ⟨p, _, rfl⟩ := List.mem_map.mp hd
  rfl
/-- a pair of texts at v -/
def PrAt (K : PySem.W.Frag) (H : Hp) (v : V) (p : Str × Str) : Prop := ∃ b, v = .ref b ∧ SqT K H b [.str p.1, .str p.2] ∧ p.1.length ≤ 1000 ∧ p.2.length ≤ 1000
theorem PrAt.tupS {H H' : Hp} {v : V} {p : Str × Str} (s : TupS H H') (h : PrAt K H v p) : PrAt K H' v p := by
  obtain ⟨b, e, h1, h2⟩ := h
  exact ⟨b, e, s.sq h1, h2⟩
theorem prs_da {H : Hp} : ∀ {xs : List V} {l : List (Str × Str)}, Paired (PrAt K H) xs l → DaAll K H xs (l.map fun p => .tuple [.str p.1, .str p.2])
  | _, _, .nil => .nil
  | _, _, .cons ⟨b, e, h1, h2, h3⟩ t => by
    subst e
    exact .cons (.tup h1 (.cons (.str _ h2) (.cons (.str _ h3) .nil)) (by show 2 ≤ 1000; decide)) (prs_da t)
/-- the tuple of what is sent, at v -/
def SentAt (K : PySem.W.Frag) (H : Hp) (v : V) (l : List (Str × Str)) : Prop := ∃ t xs, v = .ref t ∧ SqT K H t xs ∧ Paired (PrAt K H) xs l ∧ l.length ≤ 1000
theorem SentAt.da {H : Hp} {v : V} {l : List (Str × Str)} (h : SentAt K H v l) : Da K H v (sentPy l) := by
  obtain ⟨t, xs, rfl, h1, h2, h3⟩ := h
  exact .tup h1 (prs_da h2) (by rw [List.length_map]; exact h3)
def sentStep (k : Kp) (a : Ad) : List (Str × Str) := if goesM k a then [(k.key.name, k.val)] else []
theorem sentM_snoc (js : List Kp) (k : Kp) (a : Ad) : sentM (js ++ [k]) a = sentM js a ++ sentStep k a := by
  unfold sentM sentStep
  rw [List.filter_append, List.map_append]
  cases e : goesM k a <;> simp [e]
def spPairs (K : PySem.W.Frag) : Sp := fun vs H Q _ => ∃ v u js a, vs = [v, u] ∧ Da K H v (jarPy js) ∧ (∀ k ∈ js, okKept k.py = true) ∧ Da K H u (Ad.py a) ∧ a.Ok ∧ ∀ H' z, Same H H' → SentAt K H' z (sentM js a) → Q z H'
theorem ok_pairs_sent (T : Txt K mg) : Ok P w K mg base "pairs_sent" P_pairs_sent 4 (spPairs K) := by
  have ok__goes : Ok P w K mg base "_goes" P__goes 3 (spGoes K) := ok_goes T
  refine T.d_pairs_sent.ok sc_pairs_sent (fun vs H Q E h => ?_) (fun f cdv A out s H vs Q E hr h => ?_)
  · obtain ⟨v, u, js, a, rfl, _⟩ := h
    rfl
  · obtain ⟨v, u, js, a, rfl, hd, okk, hu, oa, q⟩ := h
    refine ⟨_, (pss_one (ps_ret (pe_callTy call_tuple_of (by rfl) T.z_tuple (by decide +kernel) (pa_cons (pe_lc (own := [("kept", 2)]) (g := gName 2) rfl sc_pairs_sent.nd (pi_tup (pv 0)) (blkOk_by (N := N_pairs_sent) (sc := defScope st_pairs_sent) (by decide +kernel)) (fun _ _ _ _ _ => pg_name (i := 2) sc_pairs_sent.nd rfl (Or.inl rfl)) (fun _ _ _ _ _ => pts_one (pt_val (pe_ok ok__goes (hr.mono (by decide)) (pa_cons (pv 2) (pa_cons (pv 1) pa_nil))))) (fun _ _ _ _ _ => (pe_tup (pa_cons (pe_ix (show IxR _ (rIxT K) from ix_tup) (pe_ix (show IxR _ (rIxT K) from ix_tup) (pv 2) pe_int (fun _ _ => rfl)) pe_int (fun _ _ => rfl)) (pa_cons (pe_ix (show IxR _ (rIxT K) from ix_tup) (pv 2) pe_int (fun _ _ => rfl)) pa_nil))))) pa_nil)))), ?_⟩
    obtain ⟨b, xs, rfl, h1, h2, h3⟩ := da_jar hd
    have nl := Paired.length h2
    refine ⟨.ref b, rfl, b, rfl, ⟨xs, h1⟩, fun D nD => ?_⟩
    have sD : ∀ {H1 : Hp} {o : HO}, Same H H1 → Same H (upd H1 D o) := fun {H1 o} s b u e => by
      rw [upd_ne (ne_of_none e nD)]
      exact s b u e
    refine lc_it (walk_tup (xs := xs)) (fun i H1 => Same H H1 ∧ ∃ acc, H1 D = some (.lst acc) ∧ Paired (PrAt K H1) acc (sentM (js.take i) a) ∧ acc.length ≤ i) ⟨sD (Same.refl H), [], upd_same, .nil, Nat.zero_le _⟩ (fun i H1 hi pv => sqT_same pv.1 h1) (fun i x H1 H2 hi pv yy => ?_) (fun H1 pv => ?_)
    · obtain ⟨rfl, ei⟩ := yy
      obtain ⟨s1, acc, dA, pk, al⟩ := pv
      obtain ⟨k, ek, hk⟩ := pairedGet h2 ei
      have hk1 := hk.tupS (Same.tupS s1)
      have okk1 := okk k (List.mem_of_getElem? ek)
      have ilt : i < xs.length := hi
      have st : sentM (js.take (i + 1)) a = sentM (js.take i) a ++ sentStep k a := by
        rw [List.take_add_one, ek]
        exact sentM_snoc _ _ _
      rw [st]
      refine ⟨rfl, x, rfl, u, rfl, x, u, k, a, rfl, hk1, okk1, Da.same s1 _ _ hu, oa, fun H3 s3 => ⟨goesM k a, rfl, ?_⟩⟩
      unfold sentStep
      have dA3 := s3 _ _ dA
      cases go : goesM k a with
      | false =>
        refine iteF ⟨s1.trans s3, acc, dA3, ?_, Nat.le_succ_of_le al⟩
        show Paired (PrAt K H3) acc (sentM (js.take i) a ++ [])
        rw [List.append_nil]
        exact Paired.mapP pk fun _ _ z => z.tupS (Same.tupS s3)
      | true =>
        obtain ⟨c, d, rfl, k1, ⟨e1, e2, k2, k3, k4⟩, kz, vz⟩ := hk1.tupS (Same.tupS s3)
        refine iteT ⟨.ref c, rfl, c, _, 0, .ref d, rfl, rfl, k1, rfl, d, _, 0, .str k.key.name, rfl, rfl, k2, rfl, .ref c, rfl, c, _, 1, .str k.val, rfl, rfl, k1, rfl, len2, fun p np => ?_⟩
        have s4 : Same H3 (upd H3 p (.tup [.str k.key.name, .str k.val])) := same_new np
        have dA4 := s4 _ _ dA3
        refine ⟨acc, dA4, Nat.lt_of_le_of_lt al (Nat.lt_of_lt_of_le ilt (by rw [nl]; exact sz1000 h3)), sD ((s1.trans s3).trans s4), acc ++ [.ref p], upd_same, ?_, by rw [List.length_append]; exact Nat.succ_le_succ al⟩
        have up : TupS (upd H3 p (.tup [.str k.key.name, .str k.val])) (upd (upd H3 p (.tup [.str k.key.name, .str k.val])) D (.lst (acc ++ [.ref p]))) := tupS_mut dA4 (fun _ z => nomatch z) fun _ _ z => nomatch z
        refine Paired.snoc (Paired.mapP pk fun _ _ z => ((z.tupS (Same.tupS s3)).tupS (Same.tupS s4)).tupS up) ⟨p, rfl, SqT.of ?_, kz.n, vz⟩
        rw [upd_ne (ne_of upd_same dA4 fun z => nomatch z)]
        exact upd_same
    · obtain ⟨s1, acc, dA, pk, al⟩ := pv
      rw [nl, List.take_length] at pk
      refine ⟨D, acc, rfl, Or.inl ⟨SqL.of dA, fun l nl' => ?_⟩⟩
      have s5 : Same H1 (upd H1 l (.tup acc)) := same_new nl'
      refine q _ _ (s1.trans s5) ⟨l, acc, rfl, SqT.of upd_same, Paired.mapP pk fun _ _ z => z.tupS (Same.tupS s5), ?_⟩
      have := Paired.length pk
      omega
def spNeedAd (K : PySem.W.Frag) : Sp := fun vs H Q _ => ∃ v a, vs = [v] ∧ Da K H v (Ad.py a) ∧ okA (Ad.py a) = true ∧ ∀ H', Same H H' → Q v H'
theorem ok_need_address (T : Txt K mg) (n_BadAddress : Exn P w K mg base "BadAddress" "given" C) : OkX P w K mg base "need_address" P_need_address 5 (spNeedAd K) := by
  have ok_is_address : Ok P w K mg base "is_address" P_is_address 4 (spOne K okA) := ok_is_address T
  refine T.d_need_address.okX sc_need_address (fun vs H Q E h => ?_) (fun f cdv A out s H vs Q E hr h => ?_)
  · obtain ⟨v, a, rfl, _⟩ := h
    rfl
  · obtain ⟨v, a, rfl, hd, ok, q⟩ := h
    refine ⟨_, (pss_cons (ps_if (pt_not (pt_val (pe_ok ok_is_address (hr.mono (by decide)) (pa_cons (pv 0) pa_nil)))) (pss_one (ps_raiseE n_BadAddress (hr.mono (by decide)) (takes_of rfl rfl rfl rfl) (pv 0))) pss_nil)
    (pss_one (ps_ret (pv 0)))), ?_⟩
    refine ⟨v, rfl, v, _, rfl, hd, fun H1 s1 => ⟨okA (Ad.py a), rfl, ?_⟩⟩
    rw [ok]
    exact iteF ⟨v, rfl, q H1 s1⟩
def spNeedNm : Sp := fun vs H Q _ => ∃ x, vs = [.str x] ∧ x.length ≤ 1000 ∧ okD lts (.str x) = true ∧ ∀ H', Same H H' → Q (.str x) H'
theorem ok_need_name (T : Txt K mg) (n_BadName : Exn P w K mg base "BadName" "given" C) : OkX P w K mg base "need_name" P_need_name 3 spNeedNm := by
  have ok_is_name : Ok P w K mg base "is_name" P_is_name 2 (spOne K (okD lts)) := ok_is_name T
  refine T.d_need_name.okX sc_need_name (fun vs H Q E h => ?_) (fun f cdv A out s H vs Q E hr h => ?_)
  · obtain ⟨x, rfl, _⟩ := h
    rfl
  · obtain ⟨x, rfl, hx, ok, q⟩ := h
    refine ⟨_, (pss_cons (ps_if (pt_not (pt_val (pe_ok ok_is_name (hr.mono (by decide)) (pa_cons (pv 0) pa_nil)))) (pss_one (ps_raiseE n_BadName (hr.mono (by decide)) (takes_of rfl rfl rfl rfl) (pv 0))) pss_nil)
    (pss_one (ps_ret (pv 0)))), ?_⟩
    refine ⟨.str x, rfl, .str x, _, rfl, .str x hx, fun H1 s1 => ⟨okD lts (.str x), rfl, ?_⟩⟩
    rw [ok]
    exact iteF ⟨.str x, rfl, q H1 s1⟩
def spSent (K : PySem.W.Frag) : Sp := fun vs H Q _ => ∃ v u js a, vs = [v, u] ∧ Da K H v (jarPy js) ∧ JarOk js ∧ Da K H u (Ad.py a) ∧ okA (Ad.py a) = true ∧ ∀ H' z, Same H H' → SentAt K H' z (sentM js a) → Q z H'
theorem ad_ok {a : Ad} (h : okA a.py = true) : a.Ok := by
  obtain ⟨a', e, o⟩ := okA_of h
  rw [ad_inj e]
  exact o
theorem ok_sent (T : Txt K mg) (n1 : Exn P w K mg base "BadJar" "place" C1) (n2 : Exn P w K mg base "BadAddress" "given" C2) : OkX P w K mg base "sent" P_sent 7 (spSent K) := by
  have ok_need_jar : OkX P w K mg base "need_jar" P_need_jar 6 (spJar K) := ok_need_jar T n1
  have ok_need_address : OkX P w K mg base "need_address" P_need_address 5 (spNeedAd K) := ok_need_address T n2
  have ok_pairs_sent : Ok P w K mg base "pairs_sent" P_pairs_sent 4 (spPairs K) := ok_pairs_sent T
  refine T.d_sent.okX sc_sent (fun vs H Q E h => ?_) (fun f cdv A out s H vs Q E hr h => ?_)
  · obtain ⟨v, u, js, a, rfl, _⟩ := h
    rfl
  · obtain ⟨v, u, js, a, rfl, hd, jo, hu, oa, q⟩ := h
    refine ⟨_, (pss_cons (ps_expr (pe_okX ok_need_jar (hr.mono (by decide)) (takes_of rfl rfl rfl rfl) (pa_cons (pv 0) pa_nil)))
    (pss_cons (ps_expr (pe_okX ok_need_address (hr.mono (by decide)) (takes_of rfl rfl rfl rfl) (pa_cons (pv 1) pa_nil)))
    (pss_one (ps_ret (pe_ok ok_pairs_sent (hr.mono (by decide)) (pa_cons (pv 0) (pa_cons (pv 1) pa_nil))))))), ?_⟩
    refine ⟨v, rfl, v, js, rfl, hd, jo, fun H1 s1 => ?_⟩
    refine ⟨u, rfl, u, a, rfl, Da.same s1 _ _ hu, oa, fun H2 s2 => ?_⟩
    have s12 := s1.trans s2
    exact ⟨v, rfl, u, rfl, v, u, js, a, rfl, Da.same s12 _ _ hd, jo.kp, Da.same s12 _ _ hu, ad_ok oa, fun H3 z s3 hz => q H3 z (s12.trans s3) hz⟩
def spRead (K : PySem.W.Frag) : Sp := fun vs H Q _ => ∃ v u js a x, vs = [v, u, .str x] ∧ Da K H v (jarPy js) ∧ JarOk js ∧ Da K H u (Ad.py a) ∧ okA (Ad.py a) = true ∧ x.length ≤ 1000 ∧ okD lts (.str x) = true ∧ ∀ H', Same H H' → Q (optV (readM js a x)) H'
theorem find_take {l : List (Str × Str)} {x : Str} {i : Nat} {p : Str × Str} (h : ∀ (j : Nat) q, j < i → l[j]? = some q → q.1 ≠ x) (e : l[i]? = some p) (ep : p.1 = x) : (l.find? fun p => decide (p.1 = x)) = some p := by
  induction l generalizing i with
  | nil => simp at e
  | cons q l ih =>
    cases i with
    | zero =>
      simp at e
      subst e
      rw [List.find?_cons, decide_eq_true ep]
    | succ i =>
      have h0 := h 0 q (Nat.succ_pos _) rfl
      rw [List.find?_cons, decide_eq_false h0]
      exact ih (i := i) (fun j r hj er => h (j + 1) r (Nat.succ_lt_succ hj) (by simpa using er)) (by simpa using e)
theorem find_none {l : List (Str × Str)} {x : Str} (h : ∀ (j : Nat) q, j < l.length → l[j]? = some q → q.1 ≠ x) : (l.find? fun p => decide (p.1 = x)) = none := by
  rw [List.find?_eq_none]
  intro p hp
  obtain ⟨j, hj⟩ := List.getElem?_of_mem hp
  have := h j p (List.getElem?_eq_some_iff.mp hj).1 hj
  simp [this]
def spValRead (K : PySem.W.Frag) : Sp := fun vs H Q _ => ∃ v u js a x, vs = [v, u, .str x] ∧ Da K H v (jarPy js) ∧ (∀ k ∈ js, okKept k.py = true) ∧ Da K H u (Ad.py a) ∧ a.Ok ∧ ∀ H', Same H H' → Q (optV (readM js a x)) H'
theorem ok_value_read (T : Txt K mg) : Ok P w K mg base "value_read" P_value_read 5 (spValRead K) := by
  have ok_pairs_sent : Ok P w K mg base "pairs_sent" P_pairs_sent 4 (spPairs K) := ok_pairs_sent T
  refine T.d_value_read.ok sc_value_read (fun vs H Q E h => ?_) (fun f cdv A out s H vs Q E hr h => ?_)
  · obtain ⟨v, u, js, a, x, rfl, _⟩ := h
    rfl
  · obtain ⟨v, u, js, a, x, rfl, hd, ok1, hu, oa, q⟩ := h
    refine ⟨_, (pss_cons (ps_for PassesOwn.never rfl (pi_tup (pe_ok ok_pairs_sent (hr.mono (by decide)) (pa_cons (pv 0) (pa_cons (pv 1) pa_nil)))) (pg_tup rfl (pgs_cons (pg_name (i := 3) sc_value_read.nd rfl (Or.inl rfl)) (pgs_cons (pg_name (i := 4) sc_value_read.nd rfl (Or.inl rfl)) pgs_nil))) (pss_one (ps_if (pt_cmpR op_eq (pv 3) (pv 2) (nomark _)) (pss_one (ps_ret (pv 4))) pss_nil)))
    (pss_one (ps_ret pe_non))), ?_⟩
    refine ⟨v, rfl, u, rfl, v, u, js, a, rfl, hd, ok1, hu, oa, fun H4 z s4 ⟨t, xs, ez, t1, t2, t3⟩ => ?_⟩
    subst ez
    have tl := Paired.length t2
    have e0 : readM js a x = ((sentM js a).find? fun p => decide (p.1 = x)).map (·.2) := rfl
    rw [e0] at q
    generalize sentM js a = l at t2 t3 tl q
    refine ⟨t, rfl, ⟨xs, t1⟩, for_it (walk_tup (xs := xs)) (fun i sg H' => (∃ c d, sg = [some v, some u, some (.str x), c, d]) ∧ Same H4 H' ∧ ∀ (j : Nat) p, j < i → l[j]? = some p → p.1 ≠ x)
      ⟨⟨_, _, rfl⟩, Same.refl H4, fun j p hj => absurd hj (Nat.not_lt_zero _)⟩ (fun i sg H' hi pv => sqT_same pv.2.1 t1) (fun i y sg H5 H6 hlt pv yy => ?_) fun sg H5 pv => ?_⟩
    · obtain ⟨⟨c, d, rfl⟩, s5, no⟩ := pv
      obtain ⟨rfl, ei⟩ := yy
      obtain ⟨p, ep, b, rfl, b1, b2, b3⟩ := pairedGet t2 ei
      refine ⟨b, _, rfl, sqT_same s5 b1, rfl, _, _, rfl, _, _, rfl, rfl, ?_⟩
      refine ⟨.str p.1, rfl, .str x, rfl, rfl, _, rfl, ?_⟩
      by_cases hx : p.1 = x
      · rw [decide_eq_true (show V.str p.1 = V.str x by rw [hx])]
        refine iteT ⟨.str p.2, rfl, ?_⟩
        have := q H6 (s4.trans s5)
        rw [find_take no ep hx] at this
        exact this
      · rw [decide_eq_false (fun z => hx (V.str.inj z))]
        refine iteF ⟨⟨_, _, rfl⟩, s5, fun j r hj er => ?_⟩
        rcases Nat.lt_or_ge j i with w | w
        · exact no j r w er
        · rw [show j = i by omega, ep] at er
          cases er
          exact hx
    · obtain ⟨_, s5, no⟩ := pv
      have := q H5 (s4.trans s5)
      rw [find_none (by rw [← tl]; exact no)] at this
      exact this
theorem ok_read (T : Txt K mg) (n1 : Exn P w K mg base "BadJar" "place" C1) (n2 : Exn P w K mg base "BadAddress" "given" C2) (n3 : Exn P w K mg base "BadName" "given" C3) : OkX P w K mg base "read" P_read 7 (spRead K) := by
  have ok_need_jar : OkX P w K mg base "need_jar" P_need_jar 6 (spJar K) := ok_need_jar T n1
  have ok_need_address : OkX P w K mg base "need_address" P_need_address 5 (spNeedAd K) := ok_need_address T n2
  have ok_need_name : OkX P w K mg base "need_name" P_need_name 3 spNeedNm := ok_need_name T n3
  have ok_value_read : Ok P w K mg base "value_read" P_value_read 5 (spValRead K) := ok_value_read T
  refine T.d_read.okX sc_read (fun vs H Q E h => ?_) (fun f cdv A out s H vs Q E hr h => ?_)
  · obtain ⟨v, u, js, a, x, rfl, _⟩ := h
    rfl
  · obtain ⟨v, u, js, a, x, rfl, hd, jo, hu, oa, xl, ox, q⟩ := h
    refine ⟨_, (pss_cons (ps_expr (pe_okX ok_need_jar (hr.mono (by decide)) (takes_of rfl rfl rfl rfl) (pa_cons (pv 0) pa_nil)))
    (pss_cons (ps_expr (pe_okX ok_need_address (hr.mono (by decide)) (takes_of rfl rfl rfl rfl) (pa_cons (pv 1) pa_nil)))
    (pss_cons (ps_expr (pe_okX ok_need_name (hr.mono (by decide)) (takes_of rfl rfl rfl rfl) (pa_cons (pv 2) pa_nil)))
    (pss_one (ps_ret (pe_ok ok_value_read (hr.mono (by decide)) (pa_cons (pv 0) (pa_cons (pv 1) (pa_cons (pv 2) pa_nil))))))))), ?_⟩
    refine ⟨v, rfl, v, js, rfl, hd, jo, fun H1 s1 => ?_⟩
    refine ⟨u, rfl, u, a, rfl, Da.same s1 _ _ hu, oa, fun H2 s2 => ?_⟩
    refine ⟨.str x, rfl, x, rfl, xl, ox, fun H3 s3 => ?_⟩
    have s13 := (s1.trans s2).trans s3
    exact ⟨v, rfl, u, rfl, .str x, rfl, v, u, js, a, x, rfl, Da.same s13 _ _ hd, jo.kp, Da.same s13 _ _ hu, ad_ok oa, fun H4 s4 => q H4 (s13.trans s4)⟩
end
end S1
namespace S1
open PySem PySem.Spec PyProof.Rows L2 Jv
/-! ### the program's calls upon data -/
section
variable {K : PySem.W.Frag} {r : Rho} {u : TA}
theorem ev_behind {s : List Pg} {row : List Nat} {js : List Kp} {d1 d2 : PyData} (h : EvA K u r [d1, d2]) (e1 : d1 = sitePy s) (e2 : d2 = rowPy row) (g : siteBad (sitePy s) = none) (n : row.all (fun n => decide (n < s.length)) = true) (e : behindK s row = js) : EvR K (tCall (spBehind K) [] E0 u) r (jarPy js) := fun sg H en Q q =>
  h sg H en _ fun H1 vs s1 hv => by
    obtain ⟨x, r1, rfl, p1, g1⟩ := da_cons hv
    obtain ⟨y, r2, rfl, p2, g2⟩ := da_cons g1
    have e5 := da_nil g2
    subst e5
    subst e1 e2
    refine ⟨x, y, s, row, rfl, p1, g, p2, fun m hm => of_decide_eq_true (List.all_eq_true.mp n m hm), fun H2 z s2 hz => q H2 z (s1.trans s2) ?_⟩
    rw [behindM_K, e] at hz
    exact hz
theorem ev_sent {js : List Kp} {a : Ad} {l : List (Str × Str)} {d1 d2 : PyData} (h : EvA K u r [d1, d2]) (e1 : d1 = jarPy js) (e2 : d2 = a.py) (g : JarOk js) (o : okA a.py = true) (e : sentM js a = l) : EvR K (tCall (spSent K) [] E0 u) r (sentPy l) := fun sg H en Q q =>
  h sg H en _ fun H1 vs s1 hv => by
    obtain ⟨x, r1, rfl, p1, g1⟩ := da_cons hv
    obtain ⟨y, r2, rfl, p2, g2⟩ := da_cons g1
    have e5 := da_nil g2
    subst e5
    subst e1 e2 e
    exact ⟨x, y, js, a, rfl, p1, g, p2, o, fun H2 z s2 hz => q H2 z (s1.trans s2) hz.da⟩
theorem ev_read {js : List Kp} {a : Ad} {x : Str} {o : Option Str} {d1 d2 : PyData} (h : EvA K u r [d1, d2, .str x]) (e1 : d1 = jarPy js) (e2 : d2 = a.py) (g : JarOk js) (oa : okA a.py = true) (ox : okD lts (.str x) = true) (e : readM js a x = o) (z : ∀ y, o = some y → y.length ≤ 1000) : EvR K (tCall (spRead K) [] E0 u) r (optS o) := fun sg H en Q q =>
  h sg H en _ fun H1 vs s1 hv => by
    obtain ⟨v1, r1, rfl, p1, g1⟩ := da_cons hv
    obtain ⟨v2, r2, rfl, p2, g2⟩ := da_cons g1
    obtain ⟨v3, r3, rfl, p3, g3⟩ := da_cons g2
    have e5 := da_nil g3
    subst e5
    have xl := daStr_len p3
    have e3 := da_str p3
    subst e3
    subst e1 e2
    refine ⟨v1, v2, js, a, x, rfl, p1, g, p2, oa, xl, ox, fun H2 s2 => q H2 _ (s1.trans s2) ?_⟩
    rw [e]
    cases o with
    | none => exact .non
    | some y => exact .str y (z y rfl)
theorem ev_visited {js : List Kp} {s : List Pg} {n : Nat} {p : Pg} {js' : List Kp} {d1 d2 : PyData} (h : EvA K u r [d1, d2, .int (n : Nat)]) (e1 : d1 = jarPy js) (e2 : d2 = sitePy s) (g : JarOk js) (gs : siteBad (sitePy s) = none) (ep : s[n]? = some p) (e : jarAfterK js (takenP p) = js') : EvR K (tCall (spVisited K) [] E0 u) r (jarPy js') := fun sg H en Q q =>
  h sg H en _ fun H1 vs s1 hv => by
    obtain ⟨v1, r1, rfl, p1, g1⟩ := da_cons hv
    obtain ⟨v2, r2, rfl, p2, g2⟩ := da_cons g1
    obtain ⟨v3, r3, rfl, p3, g3⟩ := da_cons g2
    have e5 := da_nil g3
    subst e5
    cases p3
    subst e1 e2
    refine ⟨v1, js, v2, s, n, p, rfl, p1, g, p2, gs, ep, fun H2 z s2 hz => q H2 z (s1.trans s2) ?_⟩
    rw [jarAfterM_K, e] at hz
    exact hz
end
end S1
/-! more of what a reading makes of data: sums and parts of tuples, a list that is added to -/
namespace Jv
open PySem PySem.Spec PyProof.Rows L2
theorem same_new {H : Hp} {p : Addr} {o : HO} (np : H p = none) : Same H (upd H p o) := fun b x z => by rw [upd_ne (ne_of_none z np)]; exact z
section
variable {K : PySem.W.Frag} {r : Rho}
theorem ev_ixL {t u : TE} {ds : List PyData} {i : Nat} {d : PyData} (h : EvR K t r (.list ds)) (g : EvR K u r (.int (i : Nat))) (e : ds[i]? = some d) : EvR K (tOp (rIxL K) t u) r d := fun sg H en Q q =>
  h sg H en _ fun H1 v s1 hv => g sg H1 (en.same s1) _ fun H2 w s2 hw => by
    cases hw
    cases Da.same s2 _ _ hv with
    | lst h1 h2 hz =>
      obtain ⟨x, ex, dx⟩ := DaAll.getD h2 e
      exact ⟨_, _, _, x, rfl, rfl, h1, atI_nat ex, q H2 x (s1.trans s2) dx⟩
theorem ev_cat {t u : TE} {as bs : List PyData} (h : EvR K t r (.tuple as)) (g : EvR K u r (.tuple bs)) (l : as.length + bs.length ≤ 1000) : EvR K (tOp (rCatA K) t u) r (.tuple (as ++ bs)) := fun sg H en Q q =>
  h sg H en _ fun H1 v s1 hv => g sg H1 (en.same s1) _ fun H2 w s2 hw => by
    have hv2 := Da.same s2 _ _ hv
    cases hv2 with
    | @tup pa xs _ h1 h2 hz =>
      cases id hw with
      | @tup pb ys _ g1 g2 gz =>
        have la := DaAll.len h2
        have lb := DaAll.len g2
        refine ⟨_, _, _, _, rfl, rfl, h1, g1, by rw [la, lb]; exact Nat.le_trans l (by decide), fun e => ?_, fun n e => ?_, fun n m p np => ?_⟩
        · subst e
          cases h2
          exact q H2 _ (s1.trans s2) hw
        · subst e
          cases g2
          rw [List.append_nil] at *
          exact q H2 _ (s1.trans s2) (.tup h1 h2 hz)
        · have s3 := same_new (o := HO.tup (xs ++ ys)) np
          exact q _ _ ((s1.trans s2).trans s3) (.tup (SqT.of upd_same) (DaAll.same s3 _ _ (DaAll.app h2 g2)) (by rw [List.length_append]; exact l))
/-- a part from a number on -/
theorem ev_slT {t : TE} {ds es : List PyData} {i : Nat} (h : EvR K t r (.tuple ds)) (e : es = ds.drop i) : EvR K (tSl (rSlA K) t (tPart (tC (.int (i : Nat)))) tNoPart) r (.tuple es) := fun sg H en Q q =>
  h sg H en _ fun H1 v s1 hv => by
    subst e
    refine ⟨_, rfl, ?_⟩
    cases id hv with
    | @tup pa xs _ h1 h2 hz =>
      have len := DaAll.len h2
      refine ⟨_, _, rfl, h1, fun z => ?_, fun z p np => ?_⟩
      · rw [HT.sIx_nat] at z
        have e0 : ds.drop i = ds := by
          have := z.1
          rw [len] at this
          by_cases i0 : i = 0
          · subst i0; rfl
          · have : ds.length = 0 := by omega
            rw [List.length_eq_zero_iff.mp this]; simp
        rw [e0] at q
        exact q H1 _ s1 hv
      · have s3 := same_new (o := HO.tup (cutV xs (some (i : Int)) none)) np
        refine q _ _ (s1.trans s3) (.tup (SqT.of upd_same) (DaAll.same s3 _ _ ?_) (by rw [List.length_drop]; omega))
        unfold cutV
        rw [HT.sIx_nat, HT.sIx_none]
        have := DaAll.take (ds.length - min i ds.length) (DaAll.drop (min i ds.length) h2)
        rw [len]
        have e1 : (ds.drop (min i ds.length)).take (ds.length - min i ds.length) = ds.drop i := by
          rw [List.take_of_length_le (by rw [List.length_drop]; exact Nat.le_refl _)]
          by_cases c : i ≤ ds.length
          · rw [Nat.min_eq_left c]
          · rw [Nat.min_eq_right (by omega), List.drop_of_length_le (Nat.le_refl _), List.drop_of_length_le (by omega)]
        rw [e1] at this
        exact this
theorem ev_slL {t : TE} {ds es : List PyData} {i : Nat} (h : EvR K t r (.list ds)) (e : es = ds.drop i) : EvR K (tSl (rSlL K) t (tPart (tC (.int (i : Nat)))) tNoPart) r (.list es) := fun sg H en Q q =>
  h sg H en _ fun H1 v s1 hv => by
    subst e
    refine ⟨_, rfl, ?_⟩
    cases id hv with
    | @lst pa xs _ h1 h2 hz =>
      have len := DaAll.len h2
      refine ⟨_, _, rfl, h1, fun p np => ?_⟩
      have s3 := same_new (o := HO.lst (cutV xs (some (i : Int)) none)) np
      refine q _ _ (s1.trans s3) (.lst (SqL.of upd_same) (DaAll.same s3 _ _ ?_) (by rw [List.length_drop]; omega))
      unfold cutV
      rw [HT.sIx_nat, HT.sIx_none]
      have := DaAll.take (ds.length - min i ds.length) (DaAll.drop (min i ds.length) h2)
      rw [len]
      have e1 : (ds.drop (min i ds.length)).take (ds.length - min i ds.length) = ds.drop i := by
        rw [List.take_of_length_le (by rw [List.length_drop]; exact Nat.le_refl _)]
        by_cases c : i ≤ ds.length
        · rw [Nat.min_eq_left c]
        · rw [Nat.min_eq_right (by omega), List.drop_of_length_le (Nat.le_refl _), List.drop_of_length_le (by omega)]
      rw [e1] at this
      exact this
theorem ev_ixLz {t : TE} {ds : List PyData} {z : Int} {d : PyData} (h : EvR K t r (.list ds)) (p : Int.ofNat z.toNat = z) (e : ds[z.toNat]? = some d) : EvR K (tOp (rIxL K) t (tC (.int z))) r d := ev_ixL h ((show (z.toNat : Int) = z from p) ▸ ev_int) e
theorem ev_ixTz {t : TE} {ds : List PyData} {z : Int} {d : PyData} (h : EvR K t r (.tuple ds)) (p : Int.ofNat z.toNat = z) (e : ds[z.toNat]? = some d) : EvR K (tOp (rIxT K) t (tC (.int z))) r d := ev_ixT h ((show (z.toNat : Int) = z from p) ▸ ev_int) e
theorem ev_slTz {t : TE} {ds es : List PyData} {z : Int} (h : EvR K t r (.tuple ds)) (p : Int.ofNat z.toNat = z) (e : es = ds.drop z.toNat) : EvR K (tSl (rSlA K) t (tPart (tC (.int z))) tNoPart) r (.tuple es) := by
  have := ev_slT h e
  rw [show (z.toNat : Int) = z from p] at this
  exact this
theorem ev_slLz {t : TE} {ds es : List PyData} {z : Int} (h : EvR K t r (.list ds)) (p : Int.ofNat z.toNat = z) (e : es = ds.drop z.toNat) : EvR K (tSl (rSlL K) t (tPart (tC (.int z))) tNoPart) r (.list es) := by
  have := ev_slL h e
  rw [show (z.toNat : Int) = z from p] at this
  exact this
theorem strOk_shaped {x : Str} (h : PyData.strOk x = true) : SeqAt.shaped (.str x) = true := by
  show (PyData.canLay0 (.str x) && decide (PyData.depth (.str x) ≤ 64)) = true
  rw [PyData.canLay0, h]
  rfl
/-- a list is made and at once added to -/
theorem run_lstApp {ta : TA} {t : TE} {u : TS} {i : Nat} {ds : List PyData} {d e : PyData} (hi : i < r.length) (h : EvA K ta r ds) (g : EvR K t (r.set i (some (.list ds))) d) (f : flat d = true) (l : ds.length < 1000) (k : RunR K u (r.set i (some (.list (ds ++ [d])))) e) :
    RunR K (tSeq (tAsg (tLst ta) (gName i)) (tSeq (tDrop (tBM K "list" rAppend (tVar i) (tCons t tNil))) u)) r e := fun sg H D en q =>
  h sg H en _ fun H1 vs s1 hvs => ⟨by rw [DaAll.len hvs]; exact Nat.le_trans (Nat.le_of_lt l) (by decide), fun p np => by
    have s2 := same_new (o := HO.lst vs) np
    have e2 : EnvD K (upd H1 p (.lst vs)) (sg.set i (some (.ref p))) (r.set i (some (.list ds))) := ((en.same s1).same s2).set i (.lst (SqL.of upd_same) (DaAll.same s2 _ _ hvs) (Nat.le_of_lt l))
    have hl : i < sg.length := by rw [en.len]; exact hi
    refine ⟨.ref p, List.getElem?_set_self hl, Or.inl ⟨rfl, vs, SqL.of upd_same⟩, g _ _ e2 _ fun H3 y s3 hy => ?_⟩
    have hp : H3 p = some (.lst vs) := s3 _ _ upd_same
    refine ⟨p, vs, y, rfl, rfl, hp, by rw [DaAll.len hvs]; exact Nat.lt_of_lt_of_le l (by decide), ?_⟩
    have s4 : Same H1 (upd H3 p (.lst (vs ++ [y]))) := fun b x z => by
      have nb : b ≠ p := by rintro rfl; rw [np] at z; cases z
      rw [upd_ne nb]
      exact s3 _ _ (s2 _ _ z)
    have s5 : TupS H3 (upd H3 p (.lst (vs ++ [y]))) := tupS_mut hp (fun xs z => by cases z) (fun a b z => by cases z)
    refine k _ _ D ?_ fun H4 w s6 hw => q H4 w ((s1.trans s4).trans s6) hw
    refine ((en.same s1).same s4).set i (.lst (SqL.of upd_same) (DaAll.app (DaAll.same s4 _ _ hvs) (.cons (Da.tupS s5 _ _ f hy) .nil)) ?_)
    rw [List.length_append]
    exact l⟩
end
end Jv
namespace S1
open PySem PySem.Spec PyProof.Rows L2 Jv
section
variable {K : PySem.W.Frag} {r : Rho} {u : TA}
theorem ev_neJ {t u : TE} {js : List Kp} {d : PyData} (h : EvR K t r (jarPy js)) (g : EvR K u r d) (e : d = jarPy js) (k : JarOk js) : EvR K (tOp (rNeA K) t u) r (.bool false) := by
  subst e
  exact ev_neF h g (jar_shaped k.kp)
theorem ev_eqJ {t u : TE} {js : List Kp} {d : PyData} (h : EvR K t r (jarPy js)) (g : EvR K u r d) (e : d = jarPy js) (k : JarOk js) : EvR K (tOp (rEqA K) t u) r (.bool true) := by
  subst e
  exact ev_eqT h g (jar_shaped k.kp)
theorem ev_neS {t u : TE} {l : List (Str × Str)} {d : PyData} (h : EvR K t r (sentPy l)) (g : EvR K u r d) (e : d = sentPy l) (k : okPairs l) : EvR K (tOp (rNeA K) t u) r (.bool false) := by
  subst e
  exact ev_neF h g (sent_shaped k)
theorem ev_eqS {t u : TE} {l : List (Str × Str)} {d : PyData} (h : EvR K t r (sentPy l)) (g : EvR K u r d) (e : d = sentPy l) (k : okPairs l) : EvR K (tOp (rEqA K) t u) r (.bool true) := by
  subst e
  exact ev_eqT h g (sent_shaped k)
theorem ev_neL {t u : TE} {ls : List (List (Str × Str))} {d d' : PyData} (h : EvR K t r d') (g : EvR K u r d) (e' : d' = .list (ls.map sentPy)) (e : d = .list (ls.map sentPy)) (k : okSents ls) : EvR K (tOp (rNeA K) t u) r (.bool false) := by
  subst e e'
  exact ev_neF h g (sents_shaped k)
theorem ev_eqV {t u : TE} {x : Str} {d d' : PyData} (h : EvR K t r d') (g : EvR K u r d) (e : d = .str x) (k : okW sgs x = true) (e' : d' = .str x := by rfl) : EvR K (tOp (rEqA K) t u) r (.bool true) := by
  subst e e'
  exact ev_eqT h g (strOk_shaped (okW_str sgs_low k))
end
section
variable {P : Program} {w : World} {K : PySem.W.Frag} {mg : Str → Option Value} {base : Heap} {C1 C2 C3 C4 C5 C6 : Addr}
/-- the errors of the program -/
structure Exs (P : Program) (w : World) (K : PySem.W.Frag) (mg : Str → Option Value) (base : Heap) : Prop where
  jar : ∃ C, Exn P w K mg base "BadJar" "place" C
  site : ∃ C, Exn P w K mg base "BadSite" "place" C
  page : ∃ C, Exn P w K mg base "BadPage" "given" C
  row : ∃ C, Exn P w K mg base "BadRow" "given" C
  addr : ∃ C, Exn P w K mg base "BadAddress" "given" C
  name : ∃ C, Exn P w K mg base "BadName" "given" C
abbrev okV (x : Str) : Prop := okW sgs x = true
theorem okV_len {x : Str} (h : okV x) : x.length ≤ 1000 := by
  unfold okV okW at h
  rw [Bool.and_eq_true, Bool.and_eq_true, decide_eq_true_eq, decide_eq_true_eq] at h
  omega
theorem okV_str {x : Str} (h : okV x) : PyData.strOk x = true := okW_str sgs_low h
def spV2 : Sp := fun vs H Q _ => ∃ one two, vs = [.str one, .str two] ∧ okV one ∧ okV two ∧ ∀ H', Same H H' → Q (.bl true) H'
abbrev pr (a b : Str) : Str × Str := (a, b)
def spV3 : Sp := fun vs H Q _ => ∃ one two three, vs = [.str one, .str two, .str three] ∧ okV one ∧ okV two ∧ okV three ∧ ∀ H', Same H H' → Q (.bl true) H'
def spV1 : Sp := fun vs H Q _ => ∃ one, vs = [.str one] ∧ okV one ∧ ∀ H', Same H H' → Q (.bl true) H'
theorem k_id : PyData.strOk "id" = true := by decide +kernel
theorem k_a : PyData.strOk "a" = true := by decide +kernel
theorem opts3 {x y : Str} (h : okV x) (g : okV y) : SeqAt.shaped (.list [.str x, .str y, .none]) = true := by
  show (PyData.canLay0 (.list [.str x, .str y, .none]) && decide (PyData.depth (.list [.str x, .str y, .none]) ≤ 64)) = true
  have e : PyData.canLay0 (.list [.str x, .str y, .none]) = true := by
    show (PyData.strOk x && (PyData.strOk y && true)) = true
    rw [okV_str h, okV_str g]
    rfl
  rw [e]
  rfl
end
end S1
namespace S1
open PySem PySem.Spec PyProof.Rows L2 Jv
section
variable {P : Program} {w : World} {K : PySem.W.Frag} {mg : Str → Option Value} {base : Heap}
namespace Two
def S (one two : Str) : List Pg := [⟨⟨["www", "b", "c"], ["p"], true⟩, [⟨"id", some one, none, none, false⟩, ⟨"id", some two, some ["www", "b", "c"], none, false⟩]⟩, ⟨⟨["www", "b", "c"], [], false⟩, [⟨"id", none, none, none, false⟩]⟩, ⟨⟨["b", "c"], [], false⟩, [⟨"id", none, some ["b", "c"], none, false⟩, ⟨"id", some one, some ["b", "c"], none, false⟩]⟩]
def J1 (one two : Str) : List Kp := [⟨⟨"id", ["www", "b", "c"], [], true⟩, one, false⟩, ⟨⟨"id", ["www", "b", "c"], [], false⟩, two, false⟩]
def J2 (two : Str) : List Kp := [⟨⟨"id", ["www", "b", "c"], [], false⟩, two, false⟩]
def J3 (one two : Str) : List Kp := [⟨⟨"id", ["www", "b", "c"], [], true⟩, one, false⟩, ⟨⟨"id", ["www", "b", "c"], [], false⟩, two, false⟩, ⟨⟨"id", ["b", "c"], [], false⟩, one, false⟩]
def J4 (one two : Str) : List Kp := [⟨⟨"id", ["b", "c"], [], false⟩, one, false⟩, ⟨⟨"id", ["www", "b", "c"], [], true⟩, one, false⟩, ⟨⟨"id", ["www", "b", "c"], [], false⟩, two, false⟩]
theorem e5 (one two : Str) : behindK (Two.S one two) [0] = (Two.J1 one two) := by kernel_rfl
theorem e6 (one two : Str) : behindK (Two.S one two) [0, 1] = (Two.J2 two) := by kernel_rfl
theorem e7 (one two : Str) : behindK (Two.S one two) [1, 0, 1, 1] = (Two.J2 two) := by kernel_rfl
theorem e8 (one two : Str) : behindK (Two.S one two) [0, 2] = (Two.J3 one two) := by kernel_rfl
theorem e9 (one two : Str) : behindK (Two.S one two) [2, 0] = (Two.J4 one two) := by kernel_rfl
theorem e10 (one two : Str) : sentM (Two.J4 one two) ⟨["www", "b", "c"], [], true⟩ = [(pr "id" one), (pr "id" one), (pr "id" two)] := by kernel_rfl
theorem e11 (one two : Str) : sentM (Two.J4 one two) ⟨["x", "www", "b", "c"], [], false⟩ = [(pr "id" one), (pr "id" two)] := by kernel_rfl
theorem e12 (one two : Str) : sentM (Two.J4 one two) ⟨["b", "c"], ["q"], false⟩ = [(pr "id" one)] := by kernel_rfl
theorem e13 (one two : Str) : sentM (Two.J4 one two) ⟨["b", "d"], [], true⟩ = [] := by kernel_rfl
theorem e14 (one two : Str) : readM (Two.J4 one two) ⟨["b", "d"], [], true⟩ "id" = none := by kernel_rfl
theorem gS {one two : Str} (Hone : okV one) (Htwo : okV two) : siteBad (sitePy (S one two)) = none := site_good (by kernel_rfl) ⟨⟨Hone, Htwo, trivial⟩, ⟨trivial, trivial⟩, ⟨trivial, Hone, trivial⟩, trivial⟩
theorem g1 {one two : Str} (Hone : okV one) (Htwo : okV two) : JarOk (J1 one two) := jar_good (by kernel_rfl) ⟨Hone, Htwo, trivial⟩
theorem g2 {two : Str} (Htwo : okV two) : JarOk (J2 two) := jar_good (by kernel_rfl) ⟨Htwo, trivial⟩
theorem g3 {one two : Str} (Hone : okV one) (Htwo : okV two) : JarOk (J3 one two) := jar_good (by kernel_rfl) ⟨Hone, Htwo, Hone, trivial⟩
theorem g4 {one two : Str} (Hone : okV one) (Htwo : okV two) : JarOk (J4 one two) := jar_good (by kernel_rfl) ⟨Hone, Hone, Htwo, trivial⟩
end Two
theorem ok_two_right (T : Txt K mg) (X : Exs P w K mg base) : Ok P w K mg base "_law_two_right" P__law_two_right 8 spV2 := by
  obtain ⟨_, xj⟩ := X.jar
  obtain ⟨_, xs⟩ := X.site
  obtain ⟨_, xp⟩ := X.page
  obtain ⟨_, xr⟩ := X.row
  obtain ⟨_, xa⟩ := X.addr
  obtain ⟨_, xn⟩ := X.name
  have ok_behind : OkX P w K mg base "behind" P_behind 7 (spBehind K) := ok_behind T xs xr
  have ok_sent : OkX P w K mg base "sent" P_sent 7 (spSent K) := ok_sent T xj xa
  have ok_read : OkX P w K mg base "read" P_read 7 (spRead K) := ok_read T xj xa xn
  have ok_visited : OkX P w K mg base "visited" P_visited 7 (spVisited K) := ok_visited T xj xs xp
  refine T.d__law_two_right.ok sc__law_two_right (fun vs H Q E h => ?_) (fun f cdv A out s H vs Q E hr h => ?_)
  · obtain ⟨one, two, rfl, _⟩ := h
    rfl
  · obtain ⟨one, two, rfl, Hone, Htwo, q⟩ := h
    refine ⟨_, (pss_cons (ps_asg (pe_tup (pa_cons (pe_tup (pa_cons pe_str (pa_cons pe_str (pa_cons pe_str pa_nil)))) (pa_cons (pe_tup (pa_cons pe_str (pa_cons pe_str pa_nil))) pa_nil))) (pg_tup rfl (pgs_cons (pg_name (i := 2) sc__law_two_right.nd rfl (Or.inl rfl)) (pgs_cons (pg_name (i := 3) sc__law_two_right.nd rfl (Or.inl rfl)) pgs_nil))))
    (pss_cons (ps_par (i := 4) (j := 5) (by rfl) sc__law_two_right.nd rfl rfl (by decide) rfl rfl (pa_cons (pe_tup (pa_cons pe_str (pa_cons (pv 2) (pa_cons (pe_tup pa_nil) (pa_cons pe_bl pa_nil))))) (pa_cons (pe_tup (pa_cons pe_str (pa_cons (pv 2) (pa_cons (pe_tup pa_nil) (pa_cons pe_bl pa_nil))))) pa_nil)) (by rfl))
    (pss_cons (ps_set (i := 6) sc__law_two_right.nd rfl (Or.inl rfl) (pe_tup (pa_cons (pe_tup (pa_cons (pv 2) (pa_cons (pe_tup (pa_cons pe_str pa_nil)) (pa_cons pe_bl pa_nil)))) (pa_cons (pe_tup (pa_cons (pe_tup (pa_cons pe_str (pa_cons (pv 0) (pa_cons pe_non (pa_cons pe_non (pa_cons pe_bl pa_nil)))))) (pa_cons (pe_tup (pa_cons pe_str (pa_cons (pv 1) (pa_cons (pv 2) (pa_cons pe_non (pa_cons pe_bl pa_nil)))))) pa_nil))) pa_nil))))
    (pss_cons (ps_set (i := 7) sc__law_two_right.nd rfl (Or.inl rfl) (pe_tup (pa_cons (pe_tup (pa_cons (pv 2) (pa_cons (pe_tup pa_nil) (pa_cons pe_bl pa_nil)))) (pa_cons (pe_tup (pa_cons (pe_tup (pa_cons pe_str (pa_cons pe_non (pa_cons pe_non (pa_cons pe_non (pa_cons pe_bl pa_nil)))))) pa_nil)) pa_nil))))
    (pss_cons (ps_set (i := 8) sc__law_two_right.nd rfl (Or.inl rfl) (pe_tup (pa_cons (pe_tup (pa_cons (pv 3) (pa_cons (pe_tup pa_nil) (pa_cons pe_bl pa_nil)))) (pa_cons (pe_tup (pa_cons (pe_tup (pa_cons pe_str (pa_cons pe_non (pa_cons (pv 3) (pa_cons pe_non (pa_cons pe_bl pa_nil)))))) (pa_cons (pe_tup (pa_cons pe_str (pa_cons (pv 0) (pa_cons (pv 3) (pa_cons pe_non (pa_cons pe_bl pa_nil)))))) pa_nil))) pa_nil))))
    (pss_cons (ps_set (i := 9) sc__law_two_right.nd rfl (Or.inl rfl) (pe_tup (pa_cons (pv 6) (pa_cons (pv 7) (pa_cons (pv 8) pa_nil)))))
    (pss_cons (ps_if (pt_cmpR (show OpR _ _ (rNeA K) from op_neA hr.units) (pe_okX0 ok_behind (hr.mono (by decide)) (pa_cons (pv 9) (pa_cons (pe_tup (pa_cons pe_int pa_nil)) pa_nil))) (pe_tup (pa_cons (pe_tup (pa_cons (pv 4) (pa_cons (pv 0) (pa_cons pe_bl pa_nil)))) (pa_cons (pe_tup (pa_cons (pv 5) (pa_cons (pv 1) (pa_cons pe_bl pa_nil)))) pa_nil))) (nomark _)) (pss_one (ps_ret pe_bl)) pss_nil)
    (pss_cons (ps_if (PW.pt (pw_or (pt_cmpR (show OpR _ _ (rNeA K) from op_neA hr.units) (pe_okX0 ok_behind (hr.mono (by decide)) (pa_cons (pv 9) (pa_cons (pe_tup (pa_cons pe_int (pa_cons pe_int pa_nil))) pa_nil))) (pe_tup (pa_cons (pe_tup (pa_cons (pv 5) (pa_cons (pv 1) (pa_cons pe_bl pa_nil)))) pa_nil)) (nomark _)) (pw_or1 (pt_cmpR (show OpR _ _ (rNeA K) from op_neA hr.units) (pe_okX0 ok_behind (hr.mono (by decide)) (pa_cons (pv 9) (pa_cons (pe_tup (pa_cons pe_int (pa_cons pe_int (pa_cons pe_int (pa_cons pe_int pa_nil))))) pa_nil))) (pe_tup (pa_cons (pe_tup (pa_cons (pv 5) (pa_cons (pv 1) (pa_cons pe_bl pa_nil)))) pa_nil)) (nomark _))))) (pss_one (ps_ret pe_bl)) pss_nil)
    (pss_cons (ps_if (pt_cmpR (show OpR _ _ (rNeA K) from op_neA hr.units) (pe_okX0 ok_behind (hr.mono (by decide)) (pa_cons (pv 9) (pa_cons (pe_tup (pa_cons pe_int (pa_cons pe_int pa_nil))) pa_nil))) (pe_tup (pa_cons (pe_tup (pa_cons (pv 4) (pa_cons (pv 0) (pa_cons pe_bl pa_nil)))) (pa_cons (pe_tup (pa_cons (pv 5) (pa_cons (pv 1) (pa_cons pe_bl pa_nil)))) (pa_cons (pe_tup (pa_cons (pe_tup (pa_cons pe_str (pa_cons (pv 3) (pa_cons (pe_tup pa_nil) (pa_cons pe_bl pa_nil))))) (pa_cons (pv 0) (pa_cons pe_bl pa_nil)))) pa_nil)))) (nomark _)) (pss_one (ps_ret pe_bl)) pss_nil)
    (pss_cons (ps_set (i := 10) sc__law_two_right.nd rfl (Or.inl rfl) (pe_okX0 ok_behind (hr.mono (by decide)) (pa_cons (pv 9) (pa_cons (pe_tup (pa_cons pe_int (pa_cons pe_int pa_nil))) pa_nil))))
    (pss_cons (ps_if (pt_cmpR (show OpR _ _ (rNeA K) from op_neA hr.units) (pv 10) (pe_tup (pa_cons (pe_tup (pa_cons (pe_tup (pa_cons pe_str (pa_cons (pv 3) (pa_cons (pe_tup pa_nil) (pa_cons pe_bl pa_nil))))) (pa_cons (pv 0) (pa_cons pe_bl pa_nil)))) (pa_cons (pe_tup (pa_cons (pv 4) (pa_cons (pv 0) (pa_cons pe_bl pa_nil)))) (pa_cons (pe_tup (pa_cons (pv 5) (pa_cons (pv 1) (pa_cons pe_bl pa_nil)))) pa_nil)))) (nomark _)) (pss_one (ps_ret pe_bl)) pss_nil)
    (pss_cons (ps_set (i := 11) sc__law_two_right.nd rfl (Or.inl rfl) (pe_lst (pa_cons (pe_okX0 ok_sent (hr.mono (by decide)) (pa_cons (pv 10) (pa_cons (pe_tup (pa_cons (pv 2) (pa_cons (pe_tup pa_nil) (pa_cons pe_bl pa_nil)))) pa_nil))) (pa_cons (pe_okX0 ok_sent (hr.mono (by decide)) (pa_cons (pv 10) (pa_cons (pe_tup (pa_cons (pe_op (show OpR _ _ (rCatA K) from op_catA) (pe_tup (pa_cons pe_str pa_nil)) (pv 2)) (pa_cons (pe_tup pa_nil) (pa_cons pe_bl pa_nil)))) pa_nil))) (pa_cons (pe_okX0 ok_sent (hr.mono (by decide)) (pa_cons (pv 10) (pa_cons (pe_tup (pa_cons (pv 3) (pa_cons (pe_tup (pa_cons pe_str pa_nil)) (pa_cons pe_bl pa_nil)))) pa_nil))) pa_nil)))))
    (pss_cons (ps_if (pt_cmpR (show OpR _ _ (rNeA K) from op_neA hr.units) (pv 11) (pe_lst (pa_cons (pe_tup (pa_cons (pe_tup (pa_cons pe_str (pa_cons (pv 0) pa_nil))) (pa_cons (pe_tup (pa_cons pe_str (pa_cons (pv 0) pa_nil))) (pa_cons (pe_tup (pa_cons pe_str (pa_cons (pv 1) pa_nil))) pa_nil)))) (pa_cons (pe_tup (pa_cons (pe_tup (pa_cons pe_str (pa_cons (pv 0) pa_nil))) (pa_cons (pe_tup (pa_cons pe_str (pa_cons (pv 1) pa_nil))) pa_nil))) (pa_cons (pe_tup (pa_cons (pe_tup (pa_cons pe_str (pa_cons (pv 0) pa_nil))) pa_nil)) pa_nil)))) (nomark _)) (pss_one (ps_ret pe_bl)) pss_nil)
    (pss_one (ps_ret (pe_and (pe_cmpR (show OpR _ _ (rEqA K) from op_eqA hr.units) (pe_okX0 ok_sent (hr.mono (by decide)) (pa_cons (pv 10) (pa_cons (pe_tup (pa_cons (pe_tup (pa_cons pe_str (pa_cons pe_str pa_nil))) (pa_cons (pe_tup pa_nil) (pa_cons pe_bl pa_nil)))) pa_nil))) (pe_tup pa_nil) (nomark _)) (pe_one (pe_cmpR op_isN (pe_okX0 ok_read (hr.mono (by decide)) (pa_cons (pv 10) (pa_cons (pe_tup (pa_cons (pe_tup (pa_cons pe_str (pa_cons pe_str pa_nil))) (pa_cons (pe_tup pa_nil) (pa_cons pe_bl pa_nil)))) (pa_cons pe_str pa_nil)))) pe_non (nomark _))))))))))))))))))), ?_⟩
    refine run_start (K := K) (d := .bool true) [some (.str one), some (.str two), none, none, none, none, none, none, none, none, none, none] (.cons (.str one (okV_len Hone)) (.cons (.str two (okV_len Htwo)) (.no (.no (.no (.no (.no (.no (.no (.no (.no (.no .nil)))))))))))) (fun H' v s hv => by cases hv; exact q H' s) ?_
    refine run_two (i := 2) (j := 3) (d := ?x3) (d' := ?x4) ?x1 ?x2
    case x1 => repeat' (first | with_reducible exact eva_nil | with_reducible refine eva_cons (d := ?_) (ds := ?_) ?_ ?_ | ((with_reducible refine ev_var (d := ?_) ?_); exact rfl) | with_reducible exact ev_non | with_reducible exact ev_bl | with_reducible exact ev_int | ((with_reducible refine ev_str ?_); exact Nat.le_of_ble_eq_true rfl) | with_reducible refine ev_tup (ds := ?_) ?_ ?_ | with_reducible refine ev_lst (ds := ?_) ?_ ?_ | with_reducible refine ev_ixLz (ds := ?_) (d := ?_) ?_ ?_ ?_ | with_reducible refine ev_ixTz (ds := ?_) (d := ?_) ?_ ?_ ?_ | with_reducible refine ev_slTz (ds := ?_) (es := ?_) ?_ ?_ ?_ | with_reducible refine ev_slLz (ds := ?_) (es := ?_) ?_ ?_ ?_ | with_reducible refine ev_cat (as := ?_) (bs := ?_) ?_ ?_ ?_ | exact Nat.le_of_ble_eq_true rfl | exact rfl | exact ev_int)
    refine run_par (d := ?x7) (d' := ?x8) ?x5 ?x6
    case x5 => repeat' (first | with_reducible exact eva_nil | with_reducible refine eva_cons (d := ?_) (ds := ?_) ?_ ?_ | ((with_reducible refine ev_var (d := ?_) ?_); exact rfl) | with_reducible exact ev_non | with_reducible exact ev_bl | with_reducible exact ev_int | ((with_reducible refine ev_str ?_); exact Nat.le_of_ble_eq_true rfl) | with_reducible refine ev_tup (ds := ?_) ?_ ?_ | with_reducible refine ev_lst (ds := ?_) ?_ ?_ | with_reducible refine ev_ixLz (ds := ?_) (d := ?_) ?_ ?_ ?_ | with_reducible refine ev_ixTz (ds := ?_) (d := ?_) ?_ ?_ ?_ | with_reducible refine ev_slTz (ds := ?_) (es := ?_) ?_ ?_ ?_ | with_reducible refine ev_slLz (ds := ?_) (es := ?_) ?_ ?_ ?_ | with_reducible refine ev_cat (as := ?_) (bs := ?_) ?_ ?_ ?_ | exact Nat.le_of_ble_eq_true rfl | exact rfl | exact ev_int)
    refine run_asg (d := ?x10) ?x9 ?x11
    case x9 => repeat' (first | with_reducible exact eva_nil | with_reducible refine eva_cons (d := ?_) (ds := ?_) ?_ ?_ | ((with_reducible refine ev_var (d := ?_) ?_); exact rfl) | with_reducible exact ev_non | with_reducible exact ev_bl | with_reducible exact ev_int | ((with_reducible refine ev_str ?_); exact Nat.le_of_ble_eq_true rfl) | with_reducible refine ev_tup (ds := ?_) ?_ ?_ | with_reducible refine ev_lst (ds := ?_) ?_ ?_ | with_reducible refine ev_ixLz (ds := ?_) (d := ?_) ?_ ?_ ?_ | with_reducible refine ev_ixTz (ds := ?_) (d := ?_) ?_ ?_ ?_ | with_reducible refine ev_slTz (ds := ?_) (es := ?_) ?_ ?_ ?_ | with_reducible refine ev_slLz (ds := ?_) (es := ?_) ?_ ?_ ?_ | with_reducible refine ev_cat (as := ?_) (bs := ?_) ?_ ?_ ?_ | exact Nat.le_of_ble_eq_true rfl | exact rfl | exact ev_int)
    refine run_asg (d := ?x13) ?x12 ?x14
    case x12 => repeat' (first | with_reducible exact eva_nil | with_reducible refine eva_cons (d := ?_) (ds := ?_) ?_ ?_ | ((with_reducible refine ev_var (d := ?_) ?_); exact rfl) | with_reducible exact ev_non | with_reducible exact ev_bl | with_reducible exact ev_int | ((with_reducible refine ev_str ?_); exact Nat.le_of_ble_eq_true rfl) | with_reducible refine ev_tup (ds := ?_) ?_ ?_ | with_reducible refine ev_lst (ds := ?_) ?_ ?_ | with_reducible refine ev_ixLz (ds := ?_) (d := ?_) ?_ ?_ ?_ | with_reducible refine ev_ixTz (ds := ?_) (d := ?_) ?_ ?_ ?_ | with_reducible refine ev_slTz (ds := ?_) (es := ?_) ?_ ?_ ?_ | with_reducible refine ev_slLz (ds := ?_) (es := ?_) ?_ ?_ ?_ | with_reducible refine ev_cat (as := ?_) (bs := ?_) ?_ ?_ ?_ | exact Nat.le_of_ble_eq_true rfl | exact rfl | exact ev_int)
    refine run_asg (d := ?x16) ?x15 ?x17
    case x15 => repeat' (first | with_reducible exact eva_nil | with_reducible refine eva_cons (d := ?_) (ds := ?_) ?_ ?_ | ((with_reducible refine ev_var (d := ?_) ?_); exact rfl) | with_reducible exact ev_non | with_reducible exact ev_bl | with_reducible exact ev_int | ((with_reducible refine ev_str ?_); exact Nat.le_of_ble_eq_true rfl) | with_reducible refine ev_tup (ds := ?_) ?_ ?_ | with_reducible refine ev_lst (ds := ?_) ?_ ?_ | with_reducible refine ev_ixLz (ds := ?_) (d := ?_) ?_ ?_ ?_ | with_reducible refine ev_ixTz (ds := ?_) (d := ?_) ?_ ?_ ?_ | with_reducible refine ev_slTz (ds := ?_) (es := ?_) ?_ ?_ ?_ | with_reducible refine ev_slLz (ds := ?_) (es := ?_) ?_ ?_ ?_ | with_reducible refine ev_cat (as := ?_) (bs := ?_) ?_ ?_ ?_ | exact Nat.le_of_ble_eq_true rfl | exact rfl | exact ev_int)
    refine run_asg (d := sitePy (Two.S one two)) (EvR.to (d := ?x20) ?x18 (show _ = sitePy (Two.S one two) from ?x19)) ?x22
    case x18 => repeat' (first | with_reducible exact eva_nil | with_reducible refine eva_cons (d := ?_) (ds := ?_) ?_ ?_ | ((with_reducible refine ev_var (d := ?_) ?_); exact rfl) | with_reducible exact ev_non | with_reducible exact ev_bl | with_reducible exact ev_int | ((with_reducible refine ev_str ?_); exact Nat.le_of_ble_eq_true rfl) | with_reducible refine ev_tup (ds := ?_) ?_ ?_ | with_reducible refine ev_lst (ds := ?_) ?_ ?_ | with_reducible refine ev_ixLz (ds := ?_) (d := ?_) ?_ ?_ ?_ | with_reducible refine ev_ixTz (ds := ?_) (d := ?_) ?_ ?_ ?_ | with_reducible refine ev_slTz (ds := ?_) (es := ?_) ?_ ?_ ?_ | with_reducible refine ev_slLz (ds := ?_) (es := ?_) ?_ ?_ ?_ | with_reducible refine ev_cat (as := ?_) (bs := ?_) ?_ ?_ ?_ | exact Nat.le_of_ble_eq_true rfl | exact rfl | exact ev_int)
    case x19 => rfl
    refine run_ifF (evt_test (ev_neJ (js := (Two.J1 one two)) (d := ?x28) (ev_behind (s := (Two.S one two)) (row := [0]) (js := (Two.J1 one two)) (d1 := ?x23) (d2 := ?x24) ?x25 ?x26 ?x27 (Two.gS Hone Htwo) rfl (Two.e5 one two)) ?x29 ?x30 (Two.g1 Hone Htwo))) ?x31
    case x25 => repeat' (first | with_reducible exact eva_nil | with_reducible refine eva_cons (d := ?_) (ds := ?_) ?_ ?_ | ((with_reducible refine ev_var (d := ?_) ?_); exact rfl) | with_reducible exact ev_non | with_reducible exact ev_bl | with_reducible exact ev_int | ((with_reducible refine ev_str ?_); exact Nat.le_of_ble_eq_true rfl) | with_reducible refine ev_tup (ds := ?_) ?_ ?_ | with_reducible refine ev_lst (ds := ?_) ?_ ?_ | with_reducible refine ev_ixLz (ds := ?_) (d := ?_) ?_ ?_ ?_ | with_reducible refine ev_ixTz (ds := ?_) (d := ?_) ?_ ?_ ?_ | with_reducible refine ev_slTz (ds := ?_) (es := ?_) ?_ ?_ ?_ | with_reducible refine ev_slLz (ds := ?_) (es := ?_) ?_ ?_ ?_ | with_reducible refine ev_cat (as := ?_) (bs := ?_) ?_ ?_ ?_ | exact Nat.le_of_ble_eq_true rfl | exact rfl | exact ev_int)
    case x26 => rfl
    case x27 => rfl
    case x29 => repeat' (first | with_reducible exact eva_nil | with_reducible refine eva_cons (d := ?_) (ds := ?_) ?_ ?_ | ((with_reducible refine ev_var (d := ?_) ?_); exact rfl) | with_reducible exact ev_non | with_reducible exact ev_bl | with_reducible exact ev_int | ((with_reducible refine ev_str ?_); exact Nat.le_of_ble_eq_true rfl) | with_reducible refine ev_tup (ds := ?_) ?_ ?_ | with_reducible refine ev_lst (ds := ?_) ?_ ?_ | with_reducible refine ev_ixLz (ds := ?_) (d := ?_) ?_ ?_ ?_ | with_reducible refine ev_ixTz (ds := ?_) (d := ?_) ?_ ?_ ?_ | with_reducible refine ev_slTz (ds := ?_) (es := ?_) ?_ ?_ ?_ | with_reducible refine ev_slLz (ds := ?_) (es := ?_) ?_ ?_ ?_ | with_reducible refine ev_cat (as := ?_) (bs := ?_) ?_ ?_ ?_ | exact Nat.le_of_ble_eq_true rfl | exact rfl | exact ev_int)
    case x30 => rfl
    refine run_ifF (evt_or (evt_test (ev_neJ (js := (Two.J2 two)) (d := ?x37) (ev_behind (s := (Two.S one two)) (row := [0, 1]) (js := (Two.J2 two)) (d1 := ?x32) (d2 := ?x33) ?x34 ?x35 ?x36 (Two.gS Hone Htwo) rfl (Two.e6 one two)) ?x38 ?x39 (Two.g2 Htwo))) (evt_test (ev_neJ (js := (Two.J2 two)) (d := ?x45) (ev_behind (s := (Two.S one two)) (row := [1, 0, 1, 1]) (js := (Two.J2 two)) (d1 := ?x40) (d2 := ?x41) ?x42 ?x43 ?x44 (Two.gS Hone Htwo) rfl (Two.e7 one two)) ?x46 ?x47 (Two.g2 Htwo)))) ?x48
    case x34 => repeat' (first | with_reducible exact eva_nil | with_reducible refine eva_cons (d := ?_) (ds := ?_) ?_ ?_ | ((with_reducible refine ev_var (d := ?_) ?_); exact rfl) | with_reducible exact ev_non | with_reducible exact ev_bl | with_reducible exact ev_int | ((with_reducible refine ev_str ?_); exact Nat.le_of_ble_eq_true rfl) | with_reducible refine ev_tup (ds := ?_) ?_ ?_ | with_reducible refine ev_lst (ds := ?_) ?_ ?_ | with_reducible refine ev_ixLz (ds := ?_) (d := ?_) ?_ ?_ ?_ | with_reducible refine ev_ixTz (ds := ?_) (d := ?_) ?_ ?_ ?_ | with_reducible refine ev_slTz (ds := ?_) (es := ?_) ?_ ?_ ?_ | with_reducible refine ev_slLz (ds := ?_) (es := ?_) ?_ ?_ ?_ | with_reducible refine ev_cat (as := ?_) (bs := ?_) ?_ ?_ ?_ | exact Nat.le_of_ble_eq_true rfl | exact rfl | exact ev_int)
    case x35 => rfl
    case x36 => rfl
    case x38 => repeat' (first | with_reducible exact eva_nil | with_reducible refine eva_cons (d := ?_) (ds := ?_) ?_ ?_ | ((with_reducible refine ev_var (d := ?_) ?_); exact rfl) | with_reducible exact ev_non | with_reducible exact ev_bl | with_reducible exact ev_int | ((with_reducible refine ev_str ?_); exact Nat.le_of_ble_eq_true rfl) | with_reducible refine ev_tup (ds := ?_) ?_ ?_ | with_reducible refine ev_lst (ds := ?_) ?_ ?_ | with_reducible refine ev_ixLz (ds := ?_) (d := ?_) ?_ ?_ ?_ | with_reducible refine ev_ixTz (ds := ?_) (d := ?_) ?_ ?_ ?_ | with_reducible refine ev_slTz (ds := ?_) (es := ?_) ?_ ?_ ?_ | with_reducible refine ev_slLz (ds := ?_) (es := ?_) ?_ ?_ ?_ | with_reducible refine ev_cat (as := ?_) (bs := ?_) ?_ ?_ ?_ | exact Nat.le_of_ble_eq_true rfl | exact rfl | exact ev_int)
    case x39 => rfl
    case x42 => repeat' (first | with_reducible exact eva_nil | with_reducible refine eva_cons (d := ?_) (ds := ?_) ?_ ?_ | ((with_reducible refine ev_var (d := ?_) ?_); exact rfl) | with_reducible exact ev_non | with_reducible exact ev_bl | with_reducible exact ev_int | ((with_reducible refine ev_str ?_); exact Nat.le_of_ble_eq_true rfl) | with_reducible refine ev_tup (ds := ?_) ?_ ?_ | with_reducible refine ev_lst (ds := ?_) ?_ ?_ | with_reducible refine ev_ixLz (ds := ?_) (d := ?_) ?_ ?_ ?_ | with_reducible refine ev_ixTz (ds := ?_) (d := ?_) ?_ ?_ ?_ | with_reducible refine ev_slTz (ds := ?_) (es := ?_) ?_ ?_ ?_ | with_reducible refine ev_slLz (ds := ?_) (es := ?_) ?_ ?_ ?_ | with_reducible refine ev_cat (as := ?_) (bs := ?_) ?_ ?_ ?_ | exact Nat.le_of_ble_eq_true rfl | exact rfl | exact ev_int)
    case x43 => rfl
    case x44 => rfl
    case x46 => repeat' (first | with_reducible exact eva_nil | with_reducible refine eva_cons (d := ?_) (ds := ?_) ?_ ?_ | ((with_reducible refine ev_var (d := ?_) ?_); exact rfl) | with_reducible exact ev_non | with_reducible exact ev_bl | with_reducible exact ev_int | ((with_reducible refine ev_str ?_); exact Nat.le_of_ble_eq_true rfl) | with_reducible refine ev_tup (ds := ?_) ?_ ?_ | with_reducible refine ev_lst (ds := ?_) ?_ ?_ | with_reducible refine ev_ixLz (ds := ?_) (d := ?_) ?_ ?_ ?_ | with_reducible refine ev_ixTz (ds := ?_) (d := ?_) ?_ ?_ ?_ | with_reducible refine ev_slTz (ds := ?_) (es := ?_) ?_ ?_ ?_ | with_reducible refine ev_slLz (ds := ?_) (es := ?_) ?_ ?_ ?_ | with_reducible refine ev_cat (as := ?_) (bs := ?_) ?_ ?_ ?_ | exact Nat.le_of_ble_eq_true rfl | exact rfl | exact ev_int)
    case x47 => rfl
    refine run_ifF (evt_test (ev_neJ (js := (Two.J3 one two)) (d := ?x54) (ev_behind (s := (Two.S one two)) (row := [0, 2]) (js := (Two.J3 one two)) (d1 := ?x49) (d2 := ?x50) ?x51 ?x52 ?x53 (Two.gS Hone Htwo) rfl (Two.e8 one two)) ?x55 ?x56 (Two.g3 Hone Htwo))) ?x57
    case x51 => repeat' (first | with_reducible exact eva_nil | with_reducible refine eva_cons (d := ?_) (ds := ?_) ?_ ?_ | ((with_reducible refine ev_var (d := ?_) ?_); exact rfl) | with_reducible exact ev_non | with_reducible exact ev_bl | with_reducible exact ev_int | ((with_reducible refine ev_str ?_); exact Nat.le_of_ble_eq_true rfl) | with_reducible refine ev_tup (ds := ?_) ?_ ?_ | with_reducible refine ev_lst (ds := ?_) ?_ ?_ | with_reducible refine ev_ixLz (ds := ?_) (d := ?_) ?_ ?_ ?_ | with_reducible refine ev_ixTz (ds := ?_) (d := ?_) ?_ ?_ ?_ | with_reducible refine ev_slTz (ds := ?_) (es := ?_) ?_ ?_ ?_ | with_reducible refine ev_slLz (ds := ?_) (es := ?_) ?_ ?_ ?_ | with_reducible refine ev_cat (as := ?_) (bs := ?_) ?_ ?_ ?_ | exact Nat.le_of_ble_eq_true rfl | exact rfl | exact ev_int)
    case x52 => rfl
    case x53 => rfl
    case x55 => repeat' (first | with_reducible exact eva_nil | with_reducible refine eva_cons (d := ?_) (ds := ?_) ?_ ?_ | ((with_reducible refine ev_var (d := ?_) ?_); exact rfl) | with_reducible exact ev_non | with_reducible exact ev_bl | with_reducible exact ev_int | ((with_reducible refine ev_str ?_); exact Nat.le_of_ble_eq_true rfl) | with_reducible refine ev_tup (ds := ?_) ?_ ?_ | with_reducible refine ev_lst (ds := ?_) ?_ ?_ | with_reducible refine ev_ixLz (ds := ?_) (d := ?_) ?_ ?_ ?_ | with_reducible refine ev_ixTz (ds := ?_) (d := ?_) ?_ ?_ ?_ | with_reducible refine ev_slTz (ds := ?_) (es := ?_) ?_ ?_ ?_ | with_reducible refine ev_slLz (ds := ?_) (es := ?_) ?_ ?_ ?_ | with_reducible refine ev_cat (as := ?_) (bs := ?_) ?_ ?_ ?_ | exact Nat.le_of_ble_eq_true rfl | exact rfl | exact ev_int)
    case x56 => rfl
    refine run_asg (d := jarPy (Two.J4 one two)) (ev_behind (s := (Two.S one two)) (row := [2, 0]) (js := (Two.J4 one two)) (d1 := ?x58) (d2 := ?x59) ?x60 ?x61 ?x62 (Two.gS Hone Htwo) rfl (Two.e9 one two)) ?x63
    case x60 => repeat' (first | with_reducible exact eva_nil | with_reducible refine eva_cons (d := ?_) (ds := ?_) ?_ ?_ | ((with_reducible refine ev_var (d := ?_) ?_); exact rfl) | with_reducible exact ev_non | with_reducible exact ev_bl | with_reducible exact ev_int | ((with_reducible refine ev_str ?_); exact Nat.le_of_ble_eq_true rfl) | with_reducible refine ev_tup (ds := ?_) ?_ ?_ | with_reducible refine ev_lst (ds := ?_) ?_ ?_ | with_reducible refine ev_ixLz (ds := ?_) (d := ?_) ?_ ?_ ?_ | with_reducible refine ev_ixTz (ds := ?_) (d := ?_) ?_ ?_ ?_ | with_reducible refine ev_slTz (ds := ?_) (es := ?_) ?_ ?_ ?_ | with_reducible refine ev_slLz (ds := ?_) (es := ?_) ?_ ?_ ?_ | with_reducible refine ev_cat (as := ?_) (bs := ?_) ?_ ?_ ?_ | exact Nat.le_of_ble_eq_true rfl | exact rfl | exact ev_int)
    case x61 => rfl
    case x62 => rfl
    refine run_ifF (evt_test (ev_neJ (js := (Two.J4 one two)) (d := ?x65) ?x64 ?x66 ?x67 (Two.g4 Hone Htwo))) ?x68
    case x64 => repeat' (first | with_reducible exact eva_nil | with_reducible refine eva_cons (d := ?_) (ds := ?_) ?_ ?_ | ((with_reducible refine ev_var (d := ?_) ?_); exact rfl) | with_reducible exact ev_non | with_reducible exact ev_bl | with_reducible exact ev_int | ((with_reducible refine ev_str ?_); exact Nat.le_of_ble_eq_true rfl) | with_reducible refine ev_tup (ds := ?_) ?_ ?_ | with_reducible refine ev_lst (ds := ?_) ?_ ?_ | with_reducible refine ev_ixLz (ds := ?_) (d := ?_) ?_ ?_ ?_ | with_reducible refine ev_ixTz (ds := ?_) (d := ?_) ?_ ?_ ?_ | with_reducible refine ev_slTz (ds := ?_) (es := ?_) ?_ ?_ ?_ | with_reducible refine ev_slLz (ds := ?_) (es := ?_) ?_ ?_ ?_ | with_reducible refine ev_cat (as := ?_) (bs := ?_) ?_ ?_ ?_ | exact Nat.le_of_ble_eq_true rfl | exact rfl | exact ev_int)
    case x66 => repeat' (first | with_reducible exact eva_nil | with_reducible refine eva_cons (d := ?_) (ds := ?_) ?_ ?_ | ((with_reducible refine ev_var (d := ?_) ?_); exact rfl) | with_reducible exact ev_non | with_reducible exact ev_bl | with_reducible exact ev_int | ((with_reducible refine ev_str ?_); exact Nat.le_of_ble_eq_true rfl) | with_reducible refine ev_tup (ds := ?_) ?_ ?_ | with_reducible refine ev_lst (ds := ?_) ?_ ?_ | with_reducible refine ev_ixLz (ds := ?_) (d := ?_) ?_ ?_ ?_ | with_reducible refine ev_ixTz (ds := ?_) (d := ?_) ?_ ?_ ?_ | with_reducible refine ev_slTz (ds := ?_) (es := ?_) ?_ ?_ ?_ | with_reducible refine ev_slLz (ds := ?_) (es := ?_) ?_ ?_ ?_ | with_reducible refine ev_cat (as := ?_) (bs := ?_) ?_ ?_ ?_ | exact Nat.le_of_ble_eq_true rfl | exact rfl | exact ev_int)
    case x67 => rfl
    refine run_asg (d := .list (List.map sentPy [[(pr "id" one), (pr "id" one), (pr "id" two)], [(pr "id" one), (pr "id" two)], [(pr "id" one)]])) (ev_lst (eva_cons (ev_sent (js := (Two.J4 one two)) (a := ⟨["www", "b", "c"], [], true⟩) (l := [(pr "id" one), (pr "id" one), (pr "id" two)]) (d1 := ?x69) (d2 := ?x70) ?x71 ?x72 ?x73 (Two.g4 Hone Htwo) (by kernel_rfl) (Two.e10 one two)) (eva_cons (ev_sent (js := (Two.J4 one two)) (a := ⟨["x", "www", "b", "c"], [], false⟩) (l := [(pr "id" one), (pr "id" two)]) (d1 := ?x74) (d2 := ?x75) ?x76 ?x77 ?x78 (Two.g4 Hone Htwo) (by kernel_rfl) (Two.e11 one two)) (eva_cons (ev_sent (js := (Two.J4 one two)) (a := ⟨["b", "c"], ["q"], false⟩) (l := [(pr "id" one)]) (d1 := ?x79) (d2 := ?x80) ?x81 ?x82 ?x83 (Two.g4 Hone Htwo) (by kernel_rfl) (Two.e12 one two)) eva_nil))) (Nat.le_of_ble_eq_true rfl)) ?x84
    case x71 => repeat' (first | with_reducible exact eva_nil | with_reducible refine eva_cons (d := ?_) (ds := ?_) ?_ ?_ | ((with_reducible refine ev_var (d := ?_) ?_); exact rfl) | with_reducible exact ev_non | with_reducible exact ev_bl | with_reducible exact ev_int | ((with_reducible refine ev_str ?_); exact Nat.le_of_ble_eq_true rfl) | with_reducible refine ev_tup (ds := ?_) ?_ ?_ | with_reducible refine ev_lst (ds := ?_) ?_ ?_ | with_reducible refine ev_ixLz (ds := ?_) (d := ?_) ?_ ?_ ?_ | with_reducible refine ev_ixTz (ds := ?_) (d := ?_) ?_ ?_ ?_ | with_reducible refine ev_slTz (ds := ?_) (es := ?_) ?_ ?_ ?_ | with_reducible refine ev_slLz (ds := ?_) (es := ?_) ?_ ?_ ?_ | with_reducible refine ev_cat (as := ?_) (bs := ?_) ?_ ?_ ?_ | exact Nat.le_of_ble_eq_true rfl | exact rfl | exact ev_int)
    case x72 => rfl
    case x73 => rfl
    case x76 => repeat' (first | with_reducible exact eva_nil | with_reducible refine eva_cons (d := ?_) (ds := ?_) ?_ ?_ | ((with_reducible refine ev_var (d := ?_) ?_); exact rfl) | with_reducible exact ev_non | with_reducible exact ev_bl | with_reducible exact ev_int | ((with_reducible refine ev_str ?_); exact Nat.le_of_ble_eq_true rfl) | with_reducible refine ev_tup (ds := ?_) ?_ ?_ | with_reducible refine ev_lst (ds := ?_) ?_ ?_ | with_reducible refine ev_ixLz (ds := ?_) (d := ?_) ?_ ?_ ?_ | with_reducible refine ev_ixTz (ds := ?_) (d := ?_) ?_ ?_ ?_ | with_reducible refine ev_slTz (ds := ?_) (es := ?_) ?_ ?_ ?_ | with_reducible refine ev_slLz (ds := ?_) (es := ?_) ?_ ?_ ?_ | with_reducible refine ev_cat (as := ?_) (bs := ?_) ?_ ?_ ?_ | exact Nat.le_of_ble_eq_true rfl | exact rfl | exact ev_int)
    case x77 => rfl
    case x78 => rfl
    case x81 => repeat' (first | with_reducible exact eva_nil | with_reducible refine eva_cons (d := ?_) (ds := ?_) ?_ ?_ | ((with_reducible refine ev_var (d := ?_) ?_); exact rfl) | with_reducible exact ev_non | with_reducible exact ev_bl | with_reducible exact ev_int | ((with_reducible refine ev_str ?_); exact Nat.le_of_ble_eq_true rfl) | with_reducible refine ev_tup (ds := ?_) ?_ ?_ | with_reducible refine ev_lst (ds := ?_) ?_ ?_ | with_reducible refine ev_ixLz (ds := ?_) (d := ?_) ?_ ?_ ?_ | with_reducible refine ev_ixTz (ds := ?_) (d := ?_) ?_ ?_ ?_ | with_reducible refine ev_slTz (ds := ?_) (es := ?_) ?_ ?_ ?_ | with_reducible refine ev_slLz (ds := ?_) (es := ?_) ?_ ?_ ?_ | with_reducible refine ev_cat (as := ?_) (bs := ?_) ?_ ?_ ?_ | exact Nat.le_of_ble_eq_true rfl | exact rfl | exact ev_int)
    case x82 => rfl
    case x83 => rfl
    refine run_ifF (evt_test (ev_neL (ls := [[(pr "id" one), (pr "id" one), (pr "id" two)], [(pr "id" one), (pr "id" two)], [(pr "id" one)]]) (d := ?x86) (d' := ?x90) ?x85 ?x87 ?x88 ?x89 ⟨⟨⟨k_id, okV_str Hone⟩, ⟨k_id, okV_str Hone⟩, ⟨k_id, okV_str Htwo⟩, trivial⟩, ⟨⟨k_id, okV_str Hone⟩, ⟨k_id, okV_str Htwo⟩, trivial⟩, ⟨⟨k_id, okV_str Hone⟩, trivial⟩, trivial⟩)) ?x91
    case x85 => repeat' (first | with_reducible exact eva_nil | with_reducible refine eva_cons (d := ?_) (ds := ?_) ?_ ?_ | ((with_reducible refine ev_var (d := ?_) ?_); exact rfl) | with_reducible exact ev_non | with_reducible exact ev_bl | with_reducible exact ev_int | ((with_reducible refine ev_str ?_); exact Nat.le_of_ble_eq_true rfl) | with_reducible refine ev_tup (ds := ?_) ?_ ?_ | with_reducible refine ev_lst (ds := ?_) ?_ ?_ | with_reducible refine ev_ixLz (ds := ?_) (d := ?_) ?_ ?_ ?_ | with_reducible refine ev_ixTz (ds := ?_) (d := ?_) ?_ ?_ ?_ | with_reducible refine ev_slTz (ds := ?_) (es := ?_) ?_ ?_ ?_ | with_reducible refine ev_slLz (ds := ?_) (es := ?_) ?_ ?_ ?_ | with_reducible refine ev_cat (as := ?_) (bs := ?_) ?_ ?_ ?_ | exact Nat.le_of_ble_eq_true rfl | exact rfl | exact ev_int)
    case x87 => repeat' (first | with_reducible exact eva_nil | with_reducible refine eva_cons (d := ?_) (ds := ?_) ?_ ?_ | ((with_reducible refine ev_var (d := ?_) ?_); exact rfl) | with_reducible exact ev_non | with_reducible exact ev_bl | with_reducible exact ev_int | ((with_reducible refine ev_str ?_); exact Nat.le_of_ble_eq_true rfl) | with_reducible refine ev_tup (ds := ?_) ?_ ?_ | with_reducible refine ev_lst (ds := ?_) ?_ ?_ | with_reducible refine ev_ixLz (ds := ?_) (d := ?_) ?_ ?_ ?_ | with_reducible refine ev_ixTz (ds := ?_) (d := ?_) ?_ ?_ ?_ | with_reducible refine ev_slTz (ds := ?_) (es := ?_) ?_ ?_ ?_ | with_reducible refine ev_slLz (ds := ?_) (es := ?_) ?_ ?_ ?_ | with_reducible refine ev_cat (as := ?_) (bs := ?_) ?_ ?_ ?_ | exact Nat.le_of_ble_eq_true rfl | exact rfl | exact ev_int)
    case x88 => rfl
    case x89 => rfl
    refine run_ret (ev_andT (ev_eqS (l := []) (d := ?x97) (ev_sent (js := (Two.J4 one two)) (a := ⟨["b", "d"], [], true⟩) (l := []) (d1 := ?x92) (d2 := ?x93) ?x94 ?x95 ?x96 (Two.g4 Hone Htwo) (by kernel_rfl) (Two.e13 one two)) ?x98 ?x99 trivial) (ev_isN (EvR.to (ev_read (js := (Two.J4 one two)) (a := ⟨["b", "d"], [], true⟩) (x := "id") (o := none) (d1 := ?x100) (d2 := ?x101) ?x102 ?x103 ?x104 (Two.g4 Hone Htwo) (by kernel_rfl) (by kernel_rfl) (Two.e14 one two) (fun y h => by cases h)) rfl)))
    case x94 => repeat' (first | with_reducible exact eva_nil | with_reducible refine eva_cons (d := ?_) (ds := ?_) ?_ ?_ | ((with_reducible refine ev_var (d := ?_) ?_); exact rfl) | with_reducible exact ev_non | with_reducible exact ev_bl | with_reducible exact ev_int | ((with_reducible refine ev_str ?_); exact Nat.le_of_ble_eq_true rfl) | with_reducible refine ev_tup (ds := ?_) ?_ ?_ | with_reducible refine ev_lst (ds := ?_) ?_ ?_ | with_reducible refine ev_ixLz (ds := ?_) (d := ?_) ?_ ?_ ?_ | with_reducible refine ev_ixTz (ds := ?_) (d := ?_) ?_ ?_ ?_ | with_reducible refine ev_slTz (ds := ?_) (es := ?_) ?_ ?_ ?_ | with_reducible refine ev_slLz (ds := ?_) (es := ?_) ?_ ?_ ?_ | with_reducible refine ev_cat (as := ?_) (bs := ?_) ?_ ?_ ?_ | exact Nat.le_of_ble_eq_true rfl | exact rfl | exact ev_int)
    case x95 => rfl
    case x96 => rfl
    case x98 => repeat' (first | with_reducible exact eva_nil | with_reducible refine eva_cons (d := ?_) (ds := ?_) ?_ ?_ | ((with_reducible refine ev_var (d := ?_) ?_); exact rfl) | with_reducible exact ev_non | with_reducible exact ev_bl | with_reducible exact ev_int | ((with_reducible refine ev_str ?_); exact Nat.le_of_ble_eq_true rfl) | with_reducible refine ev_tup (ds := ?_) ?_ ?_ | with_reducible refine ev_lst (ds := ?_) ?_ ?_ | with_reducible refine ev_ixLz (ds := ?_) (d := ?_) ?_ ?_ ?_ | with_reducible refine ev_ixTz (ds := ?_) (d := ?_) ?_ ?_ ?_ | with_reducible refine ev_slTz (ds := ?_) (es := ?_) ?_ ?_ ?_ | with_reducible refine ev_slLz (ds := ?_) (es := ?_) ?_ ?_ ?_ | with_reducible refine ev_cat (as := ?_) (bs := ?_) ?_ ?_ ?_ | exact Nat.le_of_ble_eq_true rfl | exact rfl | exact ev_int)
    case x99 => rfl
    case x102 => repeat' (first | with_reducible exact eva_nil | with_reducible refine eva_cons (d := ?_) (ds := ?_) ?_ ?_ | ((with_reducible refine ev_var (d := ?_) ?_); exact rfl) | with_reducible exact ev_non | with_reducible exact ev_bl | with_reducible exact ev_int | ((with_reducible refine ev_str ?_); exact Nat.le_of_ble_eq_true rfl) | with_reducible refine ev_tup (ds := ?_) ?_ ?_ | with_reducible refine ev_lst (ds := ?_) ?_ ?_ | with_reducible refine ev_ixLz (ds := ?_) (d := ?_) ?_ ?_ ?_ | with_reducible refine ev_ixTz (ds := ?_) (d := ?_) ?_ ?_ ?_ | with_reducible refine ev_slTz (ds := ?_) (es := ?_) ?_ ?_ ?_ | with_reducible refine ev_slLz (ds := ?_) (es := ?_) ?_ ?_ ?_ | with_reducible refine ev_cat (as := ?_) (bs := ?_) ?_ ?_ ?_ | exact Nat.le_of_ble_eq_true rfl | exact rfl | exact ev_int)
    case x103 => rfl
    case x104 => rfl
end
end S1
namespace S1
open PySem PySem.Spec PyProof.Rows L2 Jv
section
variable {P : Program} {w : World} {K : PySem.W.Frag} {mg : Str → Option Value} {base : Heap}
namespace Ages
def S (one two three : Str) : List Pg := [⟨⟨["a", "b", "c"], [], true⟩, [⟨"id", some one, none, none, false⟩, ⟨"id", some one, some ["a", "b", "c"], none, false⟩]⟩, ⟨⟨["a", "b", "c"], [], true⟩, [⟨"id", some two, some ["b", "c"], none, false⟩, ⟨"id", some three, none, none, true⟩]⟩, ⟨⟨["a", "b", "c"], [], true⟩, [⟨"id", none, none, none, false⟩, ⟨"id", some three, none, none, false⟩]⟩]
def J1 (one two three : Str) : List Kp := [⟨⟨"id", ["a", "b", "c"], [], true⟩, three, true⟩, ⟨⟨"id", ["a", "b", "c"], [], false⟩, one, false⟩, ⟨⟨"id", ["b", "c"], [], false⟩, two, false⟩]
def J2 (one two : Str) : List Kp := [⟨⟨"id", ["b", "c"], [], false⟩, two, false⟩, ⟨⟨"id", ["a", "b", "c"], [], true⟩, one, false⟩, ⟨⟨"id", ["a", "b", "c"], [], false⟩, one, false⟩]
def J3 (one two three : Str) : List Kp := [⟨⟨"id", ["a", "b", "c"], [], false⟩, one, false⟩, ⟨⟨"id", ["b", "c"], [], false⟩, two, false⟩, ⟨⟨"id", ["a", "b", "c"], [], true⟩, three, false⟩]
theorem e4 (one two three : Str) : behindK (Ages.S one two three) [0, 1] = (Ages.J1 one two three) := by kernel_rfl
theorem e5 (one two three : Str) : behindK (Ages.S one two three) [0, 1, 1] = (Ages.J1 one two three) := by kernel_rfl
theorem e6 (one two three : Str) : behindK (Ages.S one two three) [1, 0] = (Ages.J2 one two) := by kernel_rfl
theorem e7 (one two three : Str) : behindK (Ages.S one two three) [0, 1, 2] = (Ages.J3 one two three) := by kernel_rfl
theorem e8 (one two three : Str) : behindK (Ages.S one two three) [0, 1, 2, 2] = (Ages.J3 one two three) := by kernel_rfl
theorem e9 (one two three : Str) : sentM (Ages.J3 one two three) ⟨["a", "b", "c"], ["q"], false⟩ = [(pr "id" one), (pr "id" two), (pr "id" three)] := by kernel_rfl
theorem e10 (one two three : Str) : readM (Ages.J3 one two three) ⟨["a", "b", "c"], [], true⟩ "id" = some one := by kernel_rfl
theorem e11 (one two three : Str) : readM (Ages.J3 one two three) ⟨["b", "c"], [], true⟩ "id" = some two := by kernel_rfl
theorem gS {one two three : Str} (Hone : okV one) (Htwo : okV two) (Hthree : okV three) : siteBad (sitePy (S one two three)) = none := site_good (by kernel_rfl) ⟨⟨Hone, Hone, trivial⟩, ⟨Htwo, Hthree, trivial⟩, ⟨trivial, Hthree, trivial⟩, trivial⟩
theorem g1 {one two three : Str} (Hone : okV one) (Htwo : okV two) (Hthree : okV three) : JarOk (J1 one two three) := jar_good (by kernel_rfl) ⟨Hthree, Hone, Htwo, trivial⟩
theorem g2 {one two : Str} (Hone : okV one) (Htwo : okV two) : JarOk (J2 one two) := jar_good (by kernel_rfl) ⟨Htwo, Hone, Hone, trivial⟩
theorem g3 {one two three : Str} (Hone : okV one) (Htwo : okV two) (Hthree : okV three) : JarOk (J3 one two three) := jar_good (by kernel_rfl) ⟨Hone, Htwo, Hthree, trivial⟩
end Ages
theorem ok_ages_right (T : Txt K mg) (X : Exs P w K mg base) : Ok P w K mg base "_law_ages_right" P__law_ages_right 8 spV3 := by
  obtain ⟨_, xj⟩ := X.jar
  obtain ⟨_, xs⟩ := X.site
  obtain ⟨_, xp⟩ := X.page
  obtain ⟨_, xr⟩ := X.row
  obtain ⟨_, xa⟩ := X.addr
  obtain ⟨_, xn⟩ := X.name
  have ok_behind : OkX P w K mg base "behind" P_behind 7 (spBehind K) := ok_behind T xs xr
  have ok_sent : OkX P w K mg base "sent" P_sent 7 (spSent K) := ok_sent T xj xa
  have ok_read : OkX P w K mg base "read" P_read 7 (spRead K) := ok_read T xj xa xn
  have ok_visited : OkX P w K mg base "visited" P_visited 7 (spVisited K) := ok_visited T xj xs xp
  refine T.d__law_ages_right.ok sc__law_ages_right (fun vs H Q E h => ?_) (fun f cdv A out s H vs Q E hr h => ?_)
  · obtain ⟨one, two, three, rfl, _⟩ := h
    rfl
  · obtain ⟨one, two, three, rfl, Hone, Htwo, Hthree, q⟩ := h
    refine ⟨_, (pss_cons (ps_set (i := 3) sc__law_ages_right.nd rfl (Or.inl rfl) (pe_tup (pa_cons pe_str (pa_cons pe_str (pa_cons pe_str pa_nil)))))
    (pss_cons (ps_set (i := 4) sc__law_ages_right.nd rfl (Or.inl rfl) (pe_lst (pa_cons (pe_tup (pa_cons pe_str (pa_cons (pv 3) (pa_cons (pe_tup pa_nil) (pa_cons pe_bl pa_nil))))) (pa_cons (pe_tup (pa_cons pe_str (pa_cons (pv 3) (pa_cons (pe_tup pa_nil) (pa_cons pe_bl pa_nil))))) (pa_cons (pe_tup (pa_cons pe_str (pa_cons (pe_slice (show SlR _ (rSlA K) from sl_tupA) (pv 3) (po_some pe_int) po_none) (pa_cons (pe_tup pa_nil) (pa_cons pe_bl pa_nil))))) pa_nil)))))
    (pss_cons (ps_set (i := 5) sc__law_ages_right.nd rfl (Or.inl rfl) (pe_tup (pa_cons (pe_tup (pa_cons (pv 3) (pa_cons (pe_tup pa_nil) (pa_cons pe_bl pa_nil)))) (pa_cons (pe_tup (pa_cons (pe_tup (pa_cons pe_str (pa_cons (pv 0) (pa_cons pe_non (pa_cons pe_non (pa_cons pe_bl pa_nil)))))) (pa_cons (pe_tup (pa_cons pe_str (pa_cons (pv 0) (pa_cons (pv 3) (pa_cons pe_non (pa_cons pe_bl pa_nil)))))) pa_nil))) pa_nil))))
    (pss_cons (ps_set (i := 6) sc__law_ages_right.nd rfl (Or.inl rfl) (pe_tup (pa_cons (pe_tup (pa_cons (pv 3) (pa_cons (pe_tup pa_nil) (pa_cons pe_bl pa_nil)))) (pa_cons (pe_tup (pa_cons (pe_tup (pa_cons pe_str (pa_cons (pv 1) (pa_cons (pe_slice (show SlR _ (rSlA K) from sl_tupA) (pv 3) (po_some pe_int) po_none) (pa_cons pe_non (pa_cons pe_bl pa_nil)))))) (pa_cons (pe_tup (pa_cons pe_str (pa_cons (pv 2) (pa_cons pe_non (pa_cons pe_non (pa_cons pe_bl pa_nil)))))) pa_nil))) pa_nil))))
    (pss_cons (ps_set (i := 7) sc__law_ages_right.nd rfl (Or.inl rfl) (pe_tup (pa_cons (pe_tup (pa_cons (pv 3) (pa_cons (pe_tup pa_nil) (pa_cons pe_bl pa_nil)))) (pa_cons (pe_tup (pa_cons (pe_tup (pa_cons pe_str (pa_cons pe_non (pa_cons pe_non (pa_cons pe_non (pa_cons pe_bl pa_nil)))))) (pa_cons (pe_tup (pa_cons pe_str (pa_cons (pv 2) (pa_cons pe_non (pa_cons pe_non (pa_cons pe_bl pa_nil)))))) pa_nil))) pa_nil))))
    (pss_cons (ps_set (i := 8) sc__law_ages_right.nd rfl (Or.inl rfl) (pe_tup (pa_cons (pv 5) (pa_cons (pv 6) (pa_cons (pv 7) pa_nil)))))
    (pss_cons (ps_set (i := 9) sc__law_ages_right.nd rfl (Or.inl rfl) (pe_tup (pa_cons (pe_tup (pa_cons (pe_ix (show IxR _ (rIxL K) from ix_list) (pv 4) pe_int (fun _ _ => rfl)) (pa_cons (pv 2) (pa_cons pe_bl pa_nil)))) (pa_cons (pe_tup (pa_cons (pe_ix (show IxR _ (rIxL K) from ix_list) (pv 4) pe_int (fun _ _ => rfl)) (pa_cons (pv 0) (pa_cons pe_bl pa_nil)))) (pa_cons (pe_tup (pa_cons (pe_ix (show IxR _ (rIxL K) from ix_list) (pv 4) pe_int (fun _ _ => rfl)) (pa_cons (pv 1) (pa_cons pe_bl pa_nil)))) pa_nil)))))
    (pss_cons (ps_if (PW.pt (pw_or (pt_cmpR (show OpR _ _ (rNeA K) from op_neA hr.units) (pe_okX0 ok_behind (hr.mono (by decide)) (pa_cons (pv 8) (pa_cons (pe_tup (pa_cons pe_int (pa_cons pe_int pa_nil))) pa_nil))) (pv 9) (nomark _)) (pw_or1 (pt_cmpR (show OpR _ _ (rNeA K) from op_neA hr.units) (pe_okX0 ok_behind (hr.mono (by decide)) (pa_cons (pv 8) (pa_cons (pe_tup (pa_cons pe_int (pa_cons pe_int (pa_cons pe_int pa_nil)))) pa_nil))) (pv 9) (nomark _))))) (pss_one (ps_ret pe_bl)) pss_nil)
    (pss_cons (ps_if (pt_cmpR (show OpR _ _ (rNeA K) from op_neA hr.units) (pe_okX0 ok_behind (hr.mono (by decide)) (pa_cons (pv 8) (pa_cons (pe_tup (pa_cons pe_int (pa_cons pe_int pa_nil))) pa_nil))) (pe_tup (pa_cons (pe_tup (pa_cons (pe_ix (show IxR _ (rIxL K) from ix_list) (pv 4) pe_int (fun _ _ => rfl)) (pa_cons (pv 1) (pa_cons pe_bl pa_nil)))) (pa_cons (pe_tup (pa_cons (pe_ix (show IxR _ (rIxL K) from ix_list) (pv 4) pe_int (fun _ _ => rfl)) (pa_cons (pv 0) (pa_cons pe_bl pa_nil)))) (pa_cons (pe_tup (pa_cons (pe_ix (show IxR _ (rIxL K) from ix_list) (pv 4) pe_int (fun _ _ => rfl)) (pa_cons (pv 0) (pa_cons pe_bl pa_nil)))) pa_nil)))) (nomark _)) (pss_one (ps_ret pe_bl)) pss_nil)
    (pss_cons (ps_set (i := 9) sc__law_ages_right.nd rfl (Or.inl rfl) (pe_tup (pa_cons (pe_tup (pa_cons (pe_ix (show IxR _ (rIxL K) from ix_list) (pv 4) pe_int (fun _ _ => rfl)) (pa_cons (pv 0) (pa_cons pe_bl pa_nil)))) (pa_cons (pe_tup (pa_cons (pe_ix (show IxR _ (rIxL K) from ix_list) (pv 4) pe_int (fun _ _ => rfl)) (pa_cons (pv 1) (pa_cons pe_bl pa_nil)))) (pa_cons (pe_tup (pa_cons (pe_ix (show IxR _ (rIxL K) from ix_list) (pv 4) pe_int (fun _ _ => rfl)) (pa_cons (pv 2) (pa_cons pe_bl pa_nil)))) pa_nil)))))
    (pss_cons (ps_if (PW.pt (pw_or (pt_cmpR (show OpR _ _ (rNeA K) from op_neA hr.units) (pe_okX0 ok_behind (hr.mono (by decide)) (pa_cons (pv 8) (pa_cons (pe_tup (pa_cons pe_int (pa_cons pe_int (pa_cons pe_int pa_nil)))) pa_nil))) (pv 9) (nomark _)) (pw_or1 (pt_cmpR (show OpR _ _ (rNeA K) from op_neA hr.units) (pe_okX0 ok_behind (hr.mono (by decide)) (pa_cons (pv 8) (pa_cons (pe_tup (pa_cons pe_int (pa_cons pe_int (pa_cons pe_int (pa_cons pe_int pa_nil))))) pa_nil))) (pv 9) (nomark _))))) (pss_one (ps_ret pe_bl)) pss_nil)
    (pss_cons (ps_if (pt_cmpR (show OpR _ _ (rNeA K) from op_neA hr.units) (pe_okX0 ok_sent (hr.mono (by decide)) (pa_cons (pv 9) (pa_cons (pe_tup (pa_cons (pv 3) (pa_cons (pe_tup (pa_cons pe_str pa_nil)) (pa_cons pe_bl pa_nil)))) pa_nil))) (pe_tup (pa_cons (pe_tup (pa_cons pe_str (pa_cons (pv 0) pa_nil))) (pa_cons (pe_tup (pa_cons pe_str (pa_cons (pv 1) pa_nil))) (pa_cons (pe_tup (pa_cons pe_str (pa_cons (pv 2) pa_nil))) pa_nil)))) (nomark _)) (pss_one (ps_ret pe_bl)) pss_nil)
    (pss_one (ps_ret (pe_and (pe_cmpR (show OpR _ _ (rEqA K) from op_eqA hr.units) (pe_okX0 ok_read (hr.mono (by decide)) (pa_cons (pv 9) (pa_cons (pe_tup (pa_cons (pv 3) (pa_cons (pe_tup pa_nil) (pa_cons pe_bl pa_nil)))) (pa_cons pe_str pa_nil)))) (pv 0) (nomark _)) (pe_one (pe_cmpR (show OpR _ _ (rEqA K) from op_eqA hr.units) (pe_okX0 ok_read (hr.mono (by decide)) (pa_cons (pv 9) (pa_cons (pe_tup (pa_cons (pe_slice (show SlR _ (rSlA K) from sl_tupA) (pv 3) (po_some pe_int) po_none) (pa_cons (pe_tup pa_nil) (pa_cons pe_bl pa_nil)))) (pa_cons pe_str pa_nil)))) (pv 1) (nomark _)))))))))))))))))), ?_⟩
    refine run_start (K := K) (d := .bool true) [some (.str one), some (.str two), some (.str three), none, none, none, none, none, none, none] (.cons (.str one (okV_len Hone)) (.cons (.str two (okV_len Htwo)) (.cons (.str three (okV_len Hthree)) (.no (.no (.no (.no (.no (.no (.no .nil)))))))))) (fun H' v s hv => by cases hv; exact q H' s) ?_
    refine run_asg (d := ?x2) ?x1 ?x3
    case x1 => repeat' (first | with_reducible exact eva_nil | with_reducible refine eva_cons (d := ?_) (ds := ?_) ?_ ?_ | ((with_reducible refine ev_var (d := ?_) ?_); exact rfl) | with_reducible exact ev_non | with_reducible exact ev_bl | with_reducible exact ev_int | ((with_reducible refine ev_str ?_); exact Nat.le_of_ble_eq_true rfl) | with_reducible refine ev_tup (ds := ?_) ?_ ?_ | with_reducible refine ev_lst (ds := ?_) ?_ ?_ | with_reducible refine ev_ixLz (ds := ?_) (d := ?_) ?_ ?_ ?_ | with_reducible refine ev_ixTz (ds := ?_) (d := ?_) ?_ ?_ ?_ | with_reducible refine ev_slTz (ds := ?_) (es := ?_) ?_ ?_ ?_ | with_reducible refine ev_slLz (ds := ?_) (es := ?_) ?_ ?_ ?_ | with_reducible refine ev_cat (as := ?_) (bs := ?_) ?_ ?_ ?_ | exact Nat.le_of_ble_eq_true rfl | exact rfl | exact ev_int)
    refine run_asg (d := ?x5) ?x4 ?x6
    case x4 => repeat' (first | with_reducible exact eva_nil | with_reducible refine eva_cons (d := ?_) (ds := ?_) ?_ ?_ | ((with_reducible refine ev_var (d := ?_) ?_); exact rfl) | with_reducible exact ev_non | with_reducible exact ev_bl | with_reducible exact ev_int | ((with_reducible refine ev_str ?_); exact Nat.le_of_ble_eq_true rfl) | with_reducible refine ev_tup (ds := ?_) ?_ ?_ | with_reducible refine ev_lst (ds := ?_) ?_ ?_ | with_reducible refine ev_ixLz (ds := ?_) (d := ?_) ?_ ?_ ?_ | with_reducible refine ev_ixTz (ds := ?_) (d := ?_) ?_ ?_ ?_ | with_reducible refine ev_slTz (ds := ?_) (es := ?_) ?_ ?_ ?_ | with_reducible refine ev_slLz (ds := ?_) (es := ?_) ?_ ?_ ?_ | with_reducible refine ev_cat (as := ?_) (bs := ?_) ?_ ?_ ?_ | exact Nat.le_of_ble_eq_true rfl | exact rfl | exact ev_int)
    refine run_asg (d := ?x8) ?x7 ?x9
    case x7 => repeat' (first | with_reducible exact eva_nil | with_reducible refine eva_cons (d := ?_) (ds := ?_) ?_ ?_ | ((with_reducible refine ev_var (d := ?_) ?_); exact rfl) | with_reducible exact ev_non | with_reducible exact ev_bl | with_reducible exact ev_int | ((with_reducible refine ev_str ?_); exact Nat.le_of_ble_eq_true rfl) | with_reducible refine ev_tup (ds := ?_) ?_ ?_ | with_reducible refine ev_lst (ds := ?_) ?_ ?_ | with_reducible refine ev_ixLz (ds := ?_) (d := ?_) ?_ ?_ ?_ | with_reducible refine ev_ixTz (ds := ?_) (d := ?_) ?_ ?_ ?_ | with_reducible refine ev_slTz (ds := ?_) (es := ?_) ?_ ?_ ?_ | with_reducible refine ev_slLz (ds := ?_) (es := ?_) ?_ ?_ ?_ | with_reducible refine ev_cat (as := ?_) (bs := ?_) ?_ ?_ ?_ | exact Nat.le_of_ble_eq_true rfl | exact rfl | exact ev_int)
    refine run_asg (d := ?x11) ?x10 ?x12
    case x10 => repeat' (first | with_reducible exact eva_nil | with_reducible refine eva_cons (d := ?_) (ds := ?_) ?_ ?_ | ((with_reducible refine ev_var (d := ?_) ?_); exact rfl) | with_reducible exact ev_non | with_reducible exact ev_bl | with_reducible exact ev_int | ((with_reducible refine ev_str ?_); exact Nat.le_of_ble_eq_true rfl) | with_reducible refine ev_tup (ds := ?_) ?_ ?_ | with_reducible refine ev_lst (ds := ?_) ?_ ?_ | with_reducible refine ev_ixLz (ds := ?_) (d := ?_) ?_ ?_ ?_ | with_reducible refine ev_ixTz (ds := ?_) (d := ?_) ?_ ?_ ?_ | with_reducible refine ev_slTz (ds := ?_) (es := ?_) ?_ ?_ ?_ | with_reducible refine ev_slLz (ds := ?_) (es := ?_) ?_ ?_ ?_ | with_reducible refine ev_cat (as := ?_) (bs := ?_) ?_ ?_ ?_ | exact Nat.le_of_ble_eq_true rfl | exact rfl | exact ev_int)
    refine run_asg (d := ?x14) ?x13 ?x15
    case x13 => repeat' (first | with_reducible exact eva_nil | with_reducible refine eva_cons (d := ?_) (ds := ?_) ?_ ?_ | ((with_reducible refine ev_var (d := ?_) ?_); exact rfl) | with_reducible exact ev_non | with_reducible exact ev_bl | with_reducible exact ev_int | ((with_reducible refine ev_str ?_); exact Nat.le_of_ble_eq_true rfl) | with_reducible refine ev_tup (ds := ?_) ?_ ?_ | with_reducible refine ev_lst (ds := ?_) ?_ ?_ | with_reducible refine ev_ixLz (ds := ?_) (d := ?_) ?_ ?_ ?_ | with_reducible refine ev_ixTz (ds := ?_) (d := ?_) ?_ ?_ ?_ | with_reducible refine ev_slTz (ds := ?_) (es := ?_) ?_ ?_ ?_ | with_reducible refine ev_slLz (ds := ?_) (es := ?_) ?_ ?_ ?_ | with_reducible refine ev_cat (as := ?_) (bs := ?_) ?_ ?_ ?_ | exact Nat.le_of_ble_eq_true rfl | exact rfl | exact ev_int)
    refine run_asg (d := sitePy (Ages.S one two three)) (EvR.to (d := ?x18) ?x16 (show _ = sitePy (Ages.S one two three) from ?x17)) ?x20
    case x16 => repeat' (first | with_reducible exact eva_nil | with_reducible refine eva_cons (d := ?_) (ds := ?_) ?_ ?_ | ((with_reducible refine ev_var (d := ?_) ?_); exact rfl) | with_reducible exact ev_non | with_reducible exact ev_bl | with_reducible exact ev_int | ((with_reducible refine ev_str ?_); exact Nat.le_of_ble_eq_true rfl) | with_reducible refine ev_tup (ds := ?_) ?_ ?_ | with_reducible refine ev_lst (ds := ?_) ?_ ?_ | with_reducible refine ev_ixLz (ds := ?_) (d := ?_) ?_ ?_ ?_ | with_reducible refine ev_ixTz (ds := ?_) (d := ?_) ?_ ?_ ?_ | with_reducible refine ev_slTz (ds := ?_) (es := ?_) ?_ ?_ ?_ | with_reducible refine ev_slLz (ds := ?_) (es := ?_) ?_ ?_ ?_ | with_reducible refine ev_cat (as := ?_) (bs := ?_) ?_ ?_ ?_ | exact Nat.le_of_ble_eq_true rfl | exact rfl | exact ev_int)
    case x17 => rfl
    refine run_asg (d := jarPy (Ages.J1 one two three)) (EvR.to (d := ?x23) ?x21 (show _ = jarPy (Ages.J1 one two three) from ?x22)) ?x25
    case x21 => repeat' (first | with_reducible exact eva_nil | with_reducible refine eva_cons (d := ?_) (ds := ?_) ?_ ?_ | ((with_reducible refine ev_var (d := ?_) ?_); exact rfl) | with_reducible exact ev_non | with_reducible exact ev_bl | with_reducible exact ev_int | ((with_reducible refine ev_str ?_); exact Nat.le_of_ble_eq_true rfl) | with_reducible refine ev_tup (ds := ?_) ?_ ?_ | with_reducible refine ev_lst (ds := ?_) ?_ ?_ | with_reducible refine ev_ixLz (ds := ?_) (d := ?_) ?_ ?_ ?_ | with_reducible refine ev_ixTz (ds := ?_) (d := ?_) ?_ ?_ ?_ | with_reducible refine ev_slTz (ds := ?_) (es := ?_) ?_ ?_ ?_ | with_reducible refine ev_slLz (ds := ?_) (es := ?_) ?_ ?_ ?_ | with_reducible refine ev_cat (as := ?_) (bs := ?_) ?_ ?_ ?_ | exact Nat.le_of_ble_eq_true rfl | exact rfl | exact ev_int)
    case x22 => rfl
    refine run_ifF (evt_or (evt_test (ev_neJ (js := (Ages.J1 one two three)) (d := ?x31) (ev_behind (s := (Ages.S one two three)) (row := [0, 1]) (js := (Ages.J1 one two three)) (d1 := ?x26) (d2 := ?x27) ?x28 ?x29 ?x30 (Ages.gS Hone Htwo Hthree) rfl (Ages.e4 one two three)) ?x32 ?x33 (Ages.g1 Hone Htwo Hthree))) (evt_test (ev_neJ (js := (Ages.J1 one two three)) (d := ?x39) (ev_behind (s := (Ages.S one two three)) (row := [0, 1, 1]) (js := (Ages.J1 one two three)) (d1 := ?x34) (d2 := ?x35) ?x36 ?x37 ?x38 (Ages.gS Hone Htwo Hthree) rfl (Ages.e5 one two three)) ?x40 ?x41 (Ages.g1 Hone Htwo Hthree)))) ?x42
    case x28 => repeat' (first | with_reducible exact eva_nil | with_reducible refine eva_cons (d := ?_) (ds := ?_) ?_ ?_ | ((with_reducible refine ev_var (d := ?_) ?_); exact rfl) | with_reducible exact ev_non | with_reducible exact ev_bl | with_reducible exact ev_int | ((with_reducible refine ev_str ?_); exact Nat.le_of_ble_eq_true rfl) | with_reducible refine ev_tup (ds := ?_) ?_ ?_ | with_reducible refine ev_lst (ds := ?_) ?_ ?_ | with_reducible refine ev_ixLz (ds := ?_) (d := ?_) ?_ ?_ ?_ | with_reducible refine ev_ixTz (ds := ?_) (d := ?_) ?_ ?_ ?_ | with_reducible refine ev_slTz (ds := ?_) (es := ?_) ?_ ?_ ?_ | with_reducible refine ev_slLz (ds := ?_) (es := ?_) ?_ ?_ ?_ | with_reducible refine ev_cat (as := ?_) (bs := ?_) ?_ ?_ ?_ | exact Nat.le_of_ble_eq_true rfl | exact rfl | exact ev_int)
    case x29 => rfl
    case x30 => rfl
    case x32 => repeat' (first | with_reducible exact eva_nil | with_reducible refine eva_cons (d := ?_) (ds := ?_) ?_ ?_ | ((with_reducible refine ev_var (d := ?_) ?_); exact rfl) | with_reducible exact ev_non | with_reducible exact ev_bl | with_reducible exact ev_int | ((with_reducible refine ev_str ?_); exact Nat.le_of_ble_eq_true rfl) | with_reducible refine ev_tup (ds := ?_) ?_ ?_ | with_reducible refine ev_lst (ds := ?_) ?_ ?_ | with_reducible refine ev_ixLz (ds := ?_) (d := ?_) ?_ ?_ ?_ | with_reducible refine ev_ixTz (ds := ?_) (d := ?_) ?_ ?_ ?_ | with_reducible refine ev_slTz (ds := ?_) (es := ?_) ?_ ?_ ?_ | with_reducible refine ev_slLz (ds := ?_) (es := ?_) ?_ ?_ ?_ | with_reducible refine ev_cat (as := ?_) (bs := ?_) ?_ ?_ ?_ | exact Nat.le_of_ble_eq_true rfl | exact rfl | exact ev_int)
    case x33 => rfl
    case x36 => repeat' (first | with_reducible exact eva_nil | with_reducible refine eva_cons (d := ?_) (ds := ?_) ?_ ?_ | ((with_reducible refine ev_var (d := ?_) ?_); exact rfl) | with_reducible exact ev_non | with_reducible exact ev_bl | with_reducible exact ev_int | ((with_reducible refine ev_str ?_); exact Nat.le_of_ble_eq_true rfl) | with_reducible refine ev_tup (ds := ?_) ?_ ?_ | with_reducible refine ev_lst (ds := ?_) ?_ ?_ | with_reducible refine ev_ixLz (ds := ?_) (d := ?_) ?_ ?_ ?_ | with_reducible refine ev_ixTz (ds := ?_) (d := ?_) ?_ ?_ ?_ | with_reducible refine ev_slTz (ds := ?_) (es := ?_) ?_ ?_ ?_ | with_reducible refine ev_slLz (ds := ?_) (es := ?_) ?_ ?_ ?_ | with_reducible refine ev_cat (as := ?_) (bs := ?_) ?_ ?_ ?_ | exact Nat.le_of_ble_eq_true rfl | exact rfl | exact ev_int)
    case x37 => rfl
    case x38 => rfl
    case x40 => repeat' (first | with_reducible exact eva_nil | with_reducible refine eva_cons (d := ?_) (ds := ?_) ?_ ?_ | ((with_reducible refine ev_var (d := ?_) ?_); exact rfl) | with_reducible exact ev_non | with_reducible exact ev_bl | with_reducible exact ev_int | ((with_reducible refine ev_str ?_); exact Nat.le_of_ble_eq_true rfl) | with_reducible refine ev_tup (ds := ?_) ?_ ?_ | with_reducible refine ev_lst (ds := ?_) ?_ ?_ | with_reducible refine ev_ixLz (ds := ?_) (d := ?_) ?_ ?_ ?_ | with_reducible refine ev_ixTz (ds := ?_) (d := ?_) ?_ ?_ ?_ | with_reducible refine ev_slTz (ds := ?_) (es := ?_) ?_ ?_ ?_ | with_reducible refine ev_slLz (ds := ?_) (es := ?_) ?_ ?_ ?_ | with_reducible refine ev_cat (as := ?_) (bs := ?_) ?_ ?_ ?_ | exact Nat.le_of_ble_eq_true rfl | exact rfl | exact ev_int)
    case x41 => rfl
    refine run_ifF (evt_test (ev_neJ (js := (Ages.J2 one two)) (d := ?x48) (ev_behind (s := (Ages.S one two three)) (row := [1, 0]) (js := (Ages.J2 one two)) (d1 := ?x43) (d2 := ?x44) ?x45 ?x46 ?x47 (Ages.gS Hone Htwo Hthree) rfl (Ages.e6 one two three)) ?x49 ?x50 (Ages.g2 Hone Htwo))) ?x51
    case x45 => repeat' (first | with_reducible exact eva_nil | with_reducible refine eva_cons (d := ?_) (ds := ?_) ?_ ?_ | ((with_reducible refine ev_var (d := ?_) ?_); exact rfl) | with_reducible exact ev_non | with_reducible exact ev_bl | with_reducible exact ev_int | ((with_reducible refine ev_str ?_); exact Nat.le_of_ble_eq_true rfl) | with_reducible refine ev_tup (ds := ?_) ?_ ?_ | with_reducible refine ev_lst (ds := ?_) ?_ ?_ | with_reducible refine ev_ixLz (ds := ?_) (d := ?_) ?_ ?_ ?_ | with_reducible refine ev_ixTz (ds := ?_) (d := ?_) ?_ ?_ ?_ | with_reducible refine ev_slTz (ds := ?_) (es := ?_) ?_ ?_ ?_ | with_reducible refine ev_slLz (ds := ?_) (es := ?_) ?_ ?_ ?_ | with_reducible refine ev_cat (as := ?_) (bs := ?_) ?_ ?_ ?_ | exact Nat.le_of_ble_eq_true rfl | exact rfl | exact ev_int)
    case x46 => rfl
    case x47 => rfl
    case x49 => repeat' (first | with_reducible exact eva_nil | with_reducible refine eva_cons (d := ?_) (ds := ?_) ?_ ?_ | ((with_reducible refine ev_var (d := ?_) ?_); exact rfl) | with_reducible exact ev_non | with_reducible exact ev_bl | with_reducible exact ev_int | ((with_reducible refine ev_str ?_); exact Nat.le_of_ble_eq_true rfl) | with_reducible refine ev_tup (ds := ?_) ?_ ?_ | with_reducible refine ev_lst (ds := ?_) ?_ ?_ | with_reducible refine ev_ixLz (ds := ?_) (d := ?_) ?_ ?_ ?_ | with_reducible refine ev_ixTz (ds := ?_) (d := ?_) ?_ ?_ ?_ | with_reducible refine ev_slTz (ds := ?_) (es := ?_) ?_ ?_ ?_ | with_reducible refine ev_slLz (ds := ?_) (es := ?_) ?_ ?_ ?_ | with_reducible refine ev_cat (as := ?_) (bs := ?_) ?_ ?_ ?_ | exact Nat.le_of_ble_eq_true rfl | exact rfl | exact ev_int)
    case x50 => rfl
    refine run_asg (d := jarPy (Ages.J3 one two three)) (EvR.to (d := ?x54) ?x52 (show _ = jarPy (Ages.J3 one two three) from ?x53)) ?x56
    case x52 => repeat' (first | with_reducible exact eva_nil | with_reducible refine eva_cons (d := ?_) (ds := ?_) ?_ ?_ | ((with_reducible refine ev_var (d := ?_) ?_); exact rfl) | with_reducible exact ev_non | with_reducible exact ev_bl | with_reducible exact ev_int | ((with_reducible refine ev_str ?_); exact Nat.le_of_ble_eq_true rfl) | with_reducible refine ev_tup (ds := ?_) ?_ ?_ | with_reducible refine ev_lst (ds := ?_) ?_ ?_ | with_reducible refine ev_ixLz (ds := ?_) (d := ?_) ?_ ?_ ?_ | with_reducible refine ev_ixTz (ds := ?_) (d := ?_) ?_ ?_ ?_ | with_reducible refine ev_slTz (ds := ?_) (es := ?_) ?_ ?_ ?_ | with_reducible refine ev_slLz (ds := ?_) (es := ?_) ?_ ?_ ?_ | with_reducible refine ev_cat (as := ?_) (bs := ?_) ?_ ?_ ?_ | exact Nat.le_of_ble_eq_true rfl | exact rfl | exact ev_int)
    case x53 => rfl
    refine run_ifF (evt_or (evt_test (ev_neJ (js := (Ages.J3 one two three)) (d := ?x62) (ev_behind (s := (Ages.S one two three)) (row := [0, 1, 2]) (js := (Ages.J3 one two three)) (d1 := ?x57) (d2 := ?x58) ?x59 ?x60 ?x61 (Ages.gS Hone Htwo Hthree) rfl (Ages.e7 one two three)) ?x63 ?x64 (Ages.g3 Hone Htwo Hthree))) (evt_test (ev_neJ (js := (Ages.J3 one two three)) (d := ?x70) (ev_behind (s := (Ages.S one two three)) (row := [0, 1, 2, 2]) (js := (Ages.J3 one two three)) (d1 := ?x65) (d2 := ?x66) ?x67 ?x68 ?x69 (Ages.gS Hone Htwo Hthree) rfl (Ages.e8 one two three)) ?x71 ?x72 (Ages.g3 Hone Htwo Hthree)))) ?x73
    case x59 => repeat' (first | with_reducible exact eva_nil | with_reducible refine eva_cons (d := ?_) (ds := ?_) ?_ ?_ | ((with_reducible refine ev_var (d := ?_) ?_); exact rfl) | with_reducible exact ev_non | with_reducible exact ev_bl | with_reducible exact ev_int | ((with_reducible refine ev_str ?_); exact Nat.le_of_ble_eq_true rfl) | with_reducible refine ev_tup (ds := ?_) ?_ ?_ | with_reducible refine ev_lst (ds := ?_) ?_ ?_ | with_reducible refine ev_ixLz (ds := ?_) (d := ?_) ?_ ?_ ?_ | with_reducible refine ev_ixTz (ds := ?_) (d := ?_) ?_ ?_ ?_ | with_reducible refine ev_slTz (ds := ?_) (es := ?_) ?_ ?_ ?_ | with_reducible refine ev_slLz (ds := ?_) (es := ?_) ?_ ?_ ?_ | with_reducible refine ev_cat (as := ?_) (bs := ?_) ?_ ?_ ?_ | exact Nat.le_of_ble_eq_true rfl | exact rfl | exact ev_int)
    case x60 => rfl
    case x61 => rfl
    case x63 => repeat' (first | with_reducible exact eva_nil | with_reducible refine eva_cons (d := ?_) (ds := ?_) ?_ ?_ | ((with_reducible refine ev_var (d := ?_) ?_); exact rfl) | with_reducible exact ev_non | with_reducible exact ev_bl | with_reducible exact ev_int | ((with_reducible refine ev_str ?_); exact Nat.le_of_ble_eq_true rfl) | with_reducible refine ev_tup (ds := ?_) ?_ ?_ | with_reducible refine ev_lst (ds := ?_) ?_ ?_ | with_reducible refine ev_ixLz (ds := ?_) (d := ?_) ?_ ?_ ?_ | with_reducible refine ev_ixTz (ds := ?_) (d := ?_) ?_ ?_ ?_ | with_reducible refine ev_slTz (ds := ?_) (es := ?_) ?_ ?_ ?_ | with_reducible refine ev_slLz (ds := ?_) (es := ?_) ?_ ?_ ?_ | with_reducible refine ev_cat (as := ?_) (bs := ?_) ?_ ?_ ?_ | exact Nat.le_of_ble_eq_true rfl | exact rfl | exact ev_int)
    case x64 => rfl
    case x67 => repeat' (first | with_reducible exact eva_nil | with_reducible refine eva_cons (d := ?_) (ds := ?_) ?_ ?_ | ((with_reducible refine ev_var (d := ?_) ?_); exact rfl) | with_reducible exact ev_non | with_reducible exact ev_bl | with_reducible exact ev_int | ((with_reducible refine ev_str ?_); exact Nat.le_of_ble_eq_true rfl) | with_reducible refine ev_tup (ds := ?_) ?_ ?_ | with_reducible refine ev_lst (ds := ?_) ?_ ?_ | with_reducible refine ev_ixLz (ds := ?_) (d := ?_) ?_ ?_ ?_ | with_reducible refine ev_ixTz (ds := ?_) (d := ?_) ?_ ?_ ?_ | with_reducible refine ev_slTz (ds := ?_) (es := ?_) ?_ ?_ ?_ | with_reducible refine ev_slLz (ds := ?_) (es := ?_) ?_ ?_ ?_ | with_reducible refine ev_cat (as := ?_) (bs := ?_) ?_ ?_ ?_ | exact Nat.le_of_ble_eq_true rfl | exact rfl | exact ev_int)
    case x68 => rfl
    case x69 => rfl
    case x71 => repeat' (first | with_reducible exact eva_nil | with_reducible refine eva_cons (d := ?_) (ds := ?_) ?_ ?_ | ((with_reducible refine ev_var (d := ?_) ?_); exact rfl) | with_reducible exact ev_non | with_reducible exact ev_bl | with_reducible exact ev_int | ((with_reducible refine ev_str ?_); exact Nat.le_of_ble_eq_true rfl) | with_reducible refine ev_tup (ds := ?_) ?_ ?_ | with_reducible refine ev_lst (ds := ?_) ?_ ?_ | with_reducible refine ev_ixLz (ds := ?_) (d := ?_) ?_ ?_ ?_ | with_reducible refine ev_ixTz (ds := ?_) (d := ?_) ?_ ?_ ?_ | with_reducible refine ev_slTz (ds := ?_) (es := ?_) ?_ ?_ ?_ | with_reducible refine ev_slLz (ds := ?_) (es := ?_) ?_ ?_ ?_ | with_reducible refine ev_cat (as := ?_) (bs := ?_) ?_ ?_ ?_ | exact Nat.le_of_ble_eq_true rfl | exact rfl | exact ev_int)
    case x72 => rfl
    refine run_ifF (evt_test (ev_neS (l := [(pr "id" one), (pr "id" two), (pr "id" three)]) (d := ?x79) (ev_sent (js := (Ages.J3 one two three)) (a := ⟨["a", "b", "c"], ["q"], false⟩) (l := [(pr "id" one), (pr "id" two), (pr "id" three)]) (d1 := ?x74) (d2 := ?x75) ?x76 ?x77 ?x78 (Ages.g3 Hone Htwo Hthree) (by kernel_rfl) (Ages.e9 one two three)) ?x80 ?x81 ⟨⟨k_id, okV_str Hone⟩, ⟨k_id, okV_str Htwo⟩, ⟨k_id, okV_str Hthree⟩, trivial⟩)) ?x82
    case x76 => repeat' (first | with_reducible exact eva_nil | with_reducible refine eva_cons (d := ?_) (ds := ?_) ?_ ?_ | ((with_reducible refine ev_var (d := ?_) ?_); exact rfl) | with_reducible exact ev_non | with_reducible exact ev_bl | with_reducible exact ev_int | ((with_reducible refine ev_str ?_); exact Nat.le_of_ble_eq_true rfl) | with_reducible refine ev_tup (ds := ?_) ?_ ?_ | with_reducible refine ev_lst (ds := ?_) ?_ ?_ | with_reducible refine ev_ixLz (ds := ?_) (d := ?_) ?_ ?_ ?_ | with_reducible refine ev_ixTz (ds := ?_) (d := ?_) ?_ ?_ ?_ | with_reducible refine ev_slTz (ds := ?_) (es := ?_) ?_ ?_ ?_ | with_reducible refine ev_slLz (ds := ?_) (es := ?_) ?_ ?_ ?_ | with_reducible refine ev_cat (as := ?_) (bs := ?_) ?_ ?_ ?_ | exact Nat.le_of_ble_eq_true rfl | exact rfl | exact ev_int)
    case x77 => rfl
    case x78 => rfl
    case x80 => repeat' (first | with_reducible exact eva_nil | with_reducible refine eva_cons (d := ?_) (ds := ?_) ?_ ?_ | ((with_reducible refine ev_var (d := ?_) ?_); exact rfl) | with_reducible exact ev_non | with_reducible exact ev_bl | with_reducible exact ev_int | ((with_reducible refine ev_str ?_); exact Nat.le_of_ble_eq_true rfl) | with_reducible refine ev_tup (ds := ?_) ?_ ?_ | with_reducible refine ev_lst (ds := ?_) ?_ ?_ | with_reducible refine ev_ixLz (ds := ?_) (d := ?_) ?_ ?_ ?_ | with_reducible refine ev_ixTz (ds := ?_) (d := ?_) ?_ ?_ ?_ | with_reducible refine ev_slTz (ds := ?_) (es := ?_) ?_ ?_ ?_ | with_reducible refine ev_slLz (ds := ?_) (es := ?_) ?_ ?_ ?_ | with_reducible refine ev_cat (as := ?_) (bs := ?_) ?_ ?_ ?_ | exact Nat.le_of_ble_eq_true rfl | exact rfl | exact ev_int)
    case x81 => rfl
    refine run_ret (ev_andT (ev_eqV (x := one) (d := ?x88) (ev_read (js := (Ages.J3 one two three)) (a := ⟨["a", "b", "c"], [], true⟩) (x := "id") (o := (some one)) (d1 := ?x83) (d2 := ?x84) ?x85 ?x86 ?x87 (Ages.g3 Hone Htwo Hthree) (by kernel_rfl) (by kernel_rfl) (Ages.e10 one two three) (fun y h => by cases h; exact okV_len Hone)) ?x89 ?x90 Hone) (ev_eqV (x := two) (d := ?x96) (ev_read (js := (Ages.J3 one two three)) (a := ⟨["b", "c"], [], true⟩) (x := "id") (o := (some two)) (d1 := ?x91) (d2 := ?x92) ?x93 ?x94 ?x95 (Ages.g3 Hone Htwo Hthree) (by kernel_rfl) (by kernel_rfl) (Ages.e11 one two three) (fun y h => by cases h; exact okV_len Htwo)) ?x97 ?x98 Htwo))
    case x85 => repeat' (first | with_reducible exact eva_nil | with_reducible refine eva_cons (d := ?_) (ds := ?_) ?_ ?_ | ((with_reducible refine ev_var (d := ?_) ?_); exact rfl) | with_reducible exact ev_non | with_reducible exact ev_bl | with_reducible exact ev_int | ((with_reducible refine ev_str ?_); exact Nat.le_of_ble_eq_true rfl) | with_reducible refine ev_tup (ds := ?_) ?_ ?_ | with_reducible refine ev_lst (ds := ?_) ?_ ?_ | with_reducible refine ev_ixLz (ds := ?_) (d := ?_) ?_ ?_ ?_ | with_reducible refine ev_ixTz (ds := ?_) (d := ?_) ?_ ?_ ?_ | with_reducible refine ev_slTz (ds := ?_) (es := ?_) ?_ ?_ ?_ | with_reducible refine ev_slLz (ds := ?_) (es := ?_) ?_ ?_ ?_ | with_reducible refine ev_cat (as := ?_) (bs := ?_) ?_ ?_ ?_ | exact Nat.le_of_ble_eq_true rfl | exact rfl | exact ev_int)
    case x86 => rfl
    case x87 => rfl
    case x89 => repeat' (first | with_reducible exact eva_nil | with_reducible refine eva_cons (d := ?_) (ds := ?_) ?_ ?_ | ((with_reducible refine ev_var (d := ?_) ?_); exact rfl) | with_reducible exact ev_non | with_reducible exact ev_bl | with_reducible exact ev_int | ((with_reducible refine ev_str ?_); exact Nat.le_of_ble_eq_true rfl) | with_reducible refine ev_tup (ds := ?_) ?_ ?_ | with_reducible refine ev_lst (ds := ?_) ?_ ?_ | with_reducible refine ev_ixLz (ds := ?_) (d := ?_) ?_ ?_ ?_ | with_reducible refine ev_ixTz (ds := ?_) (d := ?_) ?_ ?_ ?_ | with_reducible refine ev_slTz (ds := ?_) (es := ?_) ?_ ?_ ?_ | with_reducible refine ev_slLz (ds := ?_) (es := ?_) ?_ ?_ ?_ | with_reducible refine ev_cat (as := ?_) (bs := ?_) ?_ ?_ ?_ | exact Nat.le_of_ble_eq_true rfl | exact rfl | exact ev_int)
    case x90 => rfl
    case x93 => repeat' (first | with_reducible exact eva_nil | with_reducible refine eva_cons (d := ?_) (ds := ?_) ?_ ?_ | ((with_reducible refine ev_var (d := ?_) ?_); exact rfl) | with_reducible exact ev_non | with_reducible exact ev_bl | with_reducible exact ev_int | ((with_reducible refine ev_str ?_); exact Nat.le_of_ble_eq_true rfl) | with_reducible refine ev_tup (ds := ?_) ?_ ?_ | with_reducible refine ev_lst (ds := ?_) ?_ ?_ | with_reducible refine ev_ixLz (ds := ?_) (d := ?_) ?_ ?_ ?_ | with_reducible refine ev_ixTz (ds := ?_) (d := ?_) ?_ ?_ ?_ | with_reducible refine ev_slTz (ds := ?_) (es := ?_) ?_ ?_ ?_ | with_reducible refine ev_slLz (ds := ?_) (es := ?_) ?_ ?_ ?_ | with_reducible refine ev_cat (as := ?_) (bs := ?_) ?_ ?_ ?_ | exact Nat.le_of_ble_eq_true rfl | exact rfl | exact ev_int)
    case x94 => rfl
    case x95 => rfl
    case x97 => repeat' (first | with_reducible exact eva_nil | with_reducible refine eva_cons (d := ?_) (ds := ?_) ?_ ?_ | ((with_reducible refine ev_var (d := ?_) ?_); exact rfl) | with_reducible exact ev_non | with_reducible exact ev_bl | with_reducible exact ev_int | ((with_reducible refine ev_str ?_); exact Nat.le_of_ble_eq_true rfl) | with_reducible refine ev_tup (ds := ?_) ?_ ?_ | with_reducible refine ev_lst (ds := ?_) ?_ ?_ | with_reducible refine ev_ixLz (ds := ?_) (d := ?_) ?_ ?_ ?_ | with_reducible refine ev_ixTz (ds := ?_) (d := ?_) ?_ ?_ ?_ | with_reducible refine ev_slTz (ds := ?_) (es := ?_) ?_ ?_ ?_ | with_reducible refine ev_slLz (ds := ?_) (es := ?_) ?_ ?_ ?_ | with_reducible refine ev_cat (as := ?_) (bs := ?_) ?_ ?_ ?_ | exact Nat.le_of_ble_eq_true rfl | exact rfl | exact ev_int)
    case x98 => rfl
end
end S1
namespace S1
open PySem PySem.Spec PyProof.Rows L2 Jv
section
variable {P : Program} {w : World} {K : PySem.W.Frag} {mg : Str → Option Value} {base : Heap}
namespace Folders
def S (one two three : Str) : List Pg := [⟨⟨["b", "c"], ["p", "q", "r"], true⟩, [⟨"id", some one, none, some [], false⟩, ⟨"id", some two, some ["b", "c"], some ["p"], false⟩, ⟨"id", some three, none, some ["p", "q"], true⟩, ⟨"a", some one, none, none, false⟩, ⟨"id", some two, none, some ["q"], false⟩]⟩]
def J1 (one two three : Str) : List Kp := [⟨⟨"a", ["b", "c"], ["p", "q"], true⟩, one, false⟩, ⟨⟨"id", ["b", "c"], ["p", "q"], true⟩, three, true⟩, ⟨⟨"id", ["b", "c"], ["p"], false⟩, two, false⟩, ⟨⟨"id", ["b", "c"], ["q"], true⟩, two, false⟩, ⟨⟨"id", ["b", "c"], [], true⟩, one, false⟩]
theorem e2 (one two three : Str) : behindK (Folders.S one two three) [0] = (Folders.J1 one two three) := by kernel_rfl
theorem e3 (one two three : Str) : sentM (Folders.J1 one two three) ⟨["b", "c"], ["p", "q"], true⟩ = [(pr "a" one), (pr "id" three), (pr "id" two), (pr "id" one)] := by kernel_rfl
theorem e4 (one two three : Str) : sentM (Folders.J1 one two three) ⟨["b", "c"], ["p", "q", "z"], false⟩ = [(pr "a" one), (pr "id" two), (pr "id" one)] := by kernel_rfl
theorem e5 (one two three : Str) : sentM (Folders.J1 one two three) ⟨["b", "c"], ["pq"], true⟩ = [(pr "id" one)] := by kernel_rfl
theorem e6 (one two three : Str) : readM (Folders.J1 one two three) ⟨["b", "c"], ["p"], true⟩ "id" = some two := by kernel_rfl
theorem e7 (one two three : Str) : readM (Folders.J1 one two three) ⟨["b", "c"], ["p", "q"], true⟩ "id" = some three := by kernel_rfl
theorem e8 (one two three : Str) : readM (Folders.J1 one two three) ⟨["b", "c"], [], true⟩ "a" = none := by kernel_rfl
theorem gS {one two three : Str} (Hone : okV one) (Htwo : okV two) (Hthree : okV three) : siteBad (sitePy (S one two three)) = none := site_good (by kernel_rfl) ⟨⟨Hone, Htwo, Hthree, Hone, Htwo, trivial⟩, trivial⟩
theorem g1 {one two three : Str} (Hone : okV one) (Htwo : okV two) (Hthree : okV three) : JarOk (J1 one two three) := jar_good (by kernel_rfl) ⟨Hone, Hthree, Htwo, Htwo, Hone, trivial⟩
end Folders
theorem ok_folders_right (T : Txt K mg) (X : Exs P w K mg base) : Ok P w K mg base "_law_folders_right" P__law_folders_right 8 spV3 := by
  obtain ⟨_, xj⟩ := X.jar
  obtain ⟨_, xs⟩ := X.site
  obtain ⟨_, xp⟩ := X.page
  obtain ⟨_, xr⟩ := X.row
  obtain ⟨_, xa⟩ := X.addr
  obtain ⟨_, xn⟩ := X.name
  have ok_behind : OkX P w K mg base "behind" P_behind 7 (spBehind K) := ok_behind T xs xr
  have ok_sent : OkX P w K mg base "sent" P_sent 7 (spSent K) := ok_sent T xj xa
  have ok_read : OkX P w K mg base "read" P_read 7 (spRead K) := ok_read T xj xa xn
  have ok_visited : OkX P w K mg base "visited" P_visited 7 (spVisited K) := ok_visited T xj xs xp
  refine T.d__law_folders_right.ok sc__law_folders_right (fun vs H Q E h => ?_) (fun f cdv A out s H vs Q E hr h => ?_)
  · obtain ⟨one, two, three, rfl, _⟩ := h
    rfl
  · obtain ⟨one, two, three, rfl, Hone, Htwo, Hthree, q⟩ := h
    refine ⟨_, (pss_cons (ps_set (i := 3) sc__law_folders_right.nd rfl (Or.inl rfl) (pe_tup (pa_cons pe_str (pa_cons pe_str pa_nil))))
    (pss_cons (ps_set (i := 4) sc__law_folders_right.nd rfl (Or.inl rfl) (pe_tup (pa_cons (pe_tup (pa_cons pe_str (pa_cons (pv 0) (pa_cons pe_non (pa_cons (pe_tup pa_nil) (pa_cons pe_bl pa_nil)))))) (pa_cons (pe_tup (pa_cons pe_str (pa_cons (pv 1) (pa_cons (pv 3) (pa_cons (pe_tup (pa_cons pe_str pa_nil)) (pa_cons pe_bl pa_nil)))))) (pa_cons (pe_tup (pa_cons pe_str (pa_cons (pv 2) (pa_cons pe_non (pa_cons (pe_tup (pa_cons pe_str (pa_cons pe_str pa_nil))) (pa_cons pe_bl pa_nil)))))) pa_nil)))))
    (pss_cons (ps_set (i := 5) sc__law_folders_right.nd rfl (Or.inl rfl) (pe_tup (pa_cons (pe_tup (pa_cons (pv 3) (pa_cons (pe_tup (pa_cons pe_str (pa_cons pe_str (pa_cons pe_str pa_nil)))) (pa_cons pe_bl pa_nil)))) (pa_cons (pe_op (show OpR _ _ (rCatA K) from op_catA) (pv 4) (pe_tup (pa_cons (pe_tup (pa_cons pe_str (pa_cons (pv 0) (pa_cons pe_non (pa_cons pe_non (pa_cons pe_bl pa_nil)))))) (pa_cons (pe_tup (pa_cons pe_str (pa_cons (pv 1) (pa_cons pe_non (pa_cons (pe_tup (pa_cons pe_str pa_nil)) (pa_cons pe_bl pa_nil)))))) pa_nil)))) pa_nil))))
    (pss_cons (ps_set (i := 6) sc__law_folders_right.nd rfl (Or.inl rfl) (pe_okX0 ok_behind (hr.mono (by decide)) (pa_cons (pe_tup (pa_cons (pv 5) pa_nil)) (pa_cons (pe_tup (pa_cons pe_int pa_nil)) pa_nil))))
    (pss_cons (ps_set (i := 7) sc__law_folders_right.nd rfl (Or.inl rfl) (pe_tup (pa_cons (pe_tup (pa_cons (pe_tup (pa_cons pe_str (pa_cons (pv 3) (pa_cons (pe_tup (pa_cons pe_str (pa_cons pe_str pa_nil))) (pa_cons pe_bl pa_nil))))) (pa_cons (pv 0) (pa_cons pe_bl pa_nil)))) (pa_cons (pe_tup (pa_cons (pe_tup (pa_cons pe_str (pa_cons (pv 3) (pa_cons (pe_tup (pa_cons pe_str (pa_cons pe_str pa_nil))) (pa_cons pe_bl pa_nil))))) (pa_cons (pv 2) (pa_cons pe_bl pa_nil)))) pa_nil))))
    (pss_cons (ps_set (i := 7) sc__law_folders_right.nd rfl (Or.inl rfl) (pe_op (show OpR _ _ (rCatA K) from op_catA) (pv 7) (pe_tup (pa_cons (pe_tup (pa_cons (pe_tup (pa_cons pe_str (pa_cons (pv 3) (pa_cons (pe_tup (pa_cons pe_str pa_nil)) (pa_cons pe_bl pa_nil))))) (pa_cons (pv 1) (pa_cons pe_bl pa_nil)))) (pa_cons (pe_tup (pa_cons (pe_tup (pa_cons pe_str (pa_cons (pv 3) (pa_cons (pe_tup (pa_cons pe_str pa_nil)) (pa_cons pe_bl pa_nil))))) (pa_cons (pv 1) (pa_cons pe_bl pa_nil)))) pa_nil)))))
    (pss_cons (ps_if (pt_cmpR (show OpR _ _ (rNeA K) from op_neA hr.units) (pv 6) (pe_op (show OpR _ _ (rCatA K) from op_catA) (pv 7) (pe_tup (pa_cons (pe_tup (pa_cons (pe_tup (pa_cons pe_str (pa_cons (pv 3) (pa_cons (pe_tup pa_nil) (pa_cons pe_bl pa_nil))))) (pa_cons (pv 0) (pa_cons pe_bl pa_nil)))) pa_nil))) (nomark _)) (pss_one (ps_ret pe_bl)) pss_nil)
    (pss_cons (ps_set (i := 8) sc__law_folders_right.nd rfl (Or.inl rfl) (pe_lst (pa_cons (pe_okX0 ok_sent (hr.mono (by decide)) (pa_cons (pv 6) (pa_cons (pe_tup (pa_cons (pv 3) (pa_cons (pe_tup (pa_cons pe_str (pa_cons pe_str pa_nil))) (pa_cons pe_bl pa_nil)))) pa_nil))) (pa_cons (pe_okX0 ok_sent (hr.mono (by decide)) (pa_cons (pv 6) (pa_cons (pe_tup (pa_cons (pv 3) (pa_cons (pe_tup (pa_cons pe_str (pa_cons pe_str (pa_cons pe_str pa_nil)))) (pa_cons pe_bl pa_nil)))) pa_nil))) pa_nil))))
    (pss_cons (ps_expr (pe_bm PySem.F.plainAttrs_list PySem.F.slot_list_append PySem.F.type_list_append mt_append (pv 8) (pa_cons (pe_okX0 ok_sent (hr.mono (by decide)) (pa_cons (pv 6) (pa_cons (pe_tup (pa_cons (pv 3) (pa_cons (pe_tup (pa_cons pe_str pa_nil)) (pa_cons pe_bl pa_nil)))) pa_nil))) pa_nil)))
    (pss_cons (ps_if (pt_cmpR (show OpR _ _ (rNeA K) from op_neA hr.units) (pe_ix (show IxR _ (rIxL K) from ix_list) (pv 8) pe_int (fun _ _ => rfl)) (pe_tup (pa_cons (pe_tup (pa_cons pe_str (pa_cons (pv 0) pa_nil))) (pa_cons (pe_tup (pa_cons pe_str (pa_cons (pv 2) pa_nil))) (pa_cons (pe_tup (pa_cons pe_str (pa_cons (pv 1) pa_nil))) (pa_cons (pe_tup (pa_cons pe_str (pa_cons (pv 0) pa_nil))) pa_nil))))) (nomark _)) (pss_one (ps_ret pe_bl)) pss_nil)
    (pss_cons (ps_if (pt_cmpR (show OpR _ _ (rNeA K) from op_neA hr.units) (pe_slice (show SlR _ (rSlL K) from sl_list) (pv 8) (po_some pe_int) po_none) (pe_lst (pa_cons (pe_tup (pa_cons (pe_tup (pa_cons pe_str (pa_cons (pv 0) pa_nil))) (pa_cons (pe_tup (pa_cons pe_str (pa_cons (pv 1) pa_nil))) (pa_cons (pe_tup (pa_cons pe_str (pa_cons (pv 0) pa_nil))) pa_nil)))) (pa_cons (pe_tup (pa_cons (pe_tup (pa_cons pe_str (pa_cons (pv 0) pa_nil))) pa_nil)) pa_nil))) (nomark _)) (pss_one (ps_ret pe_bl)) pss_nil)
    (pss_cons (ps_set (i := 8) sc__law_folders_right.nd rfl (Or.inl rfl) (pe_lst (pa_cons (pe_okX0 ok_read (hr.mono (by decide)) (pa_cons (pv 6) (pa_cons (pe_tup (pa_cons (pv 3) (pa_cons (pe_tup (pa_cons pe_str pa_nil)) (pa_cons pe_bl pa_nil)))) (pa_cons pe_str pa_nil)))) (pa_cons (pe_okX0 ok_read (hr.mono (by decide)) (pa_cons (pv 6) (pa_cons (pe_tup (pa_cons (pv 3) (pa_cons (pe_tup (pa_cons pe_str (pa_cons pe_str pa_nil))) (pa_cons pe_bl pa_nil)))) (pa_cons pe_str pa_nil)))) pa_nil))))
    (pss_cons (ps_expr (pe_bm PySem.F.plainAttrs_list PySem.F.slot_list_append PySem.F.type_list_append mt_append (pv 8) (pa_cons (pe_okX0 ok_read (hr.mono (by decide)) (pa_cons (pv 6) (pa_cons (pe_tup (pa_cons (pv 3) (pa_cons (pe_tup pa_nil) (pa_cons pe_bl pa_nil)))) (pa_cons pe_str pa_nil)))) pa_nil)))
    (pss_one (ps_ret (pe_cmpR (show OpR _ _ (rEqA K) from op_eqA hr.units) (pv 8) (pe_lst (pa_cons (pv 1) (pa_cons (pv 2) (pa_cons pe_non pa_nil)))) (nomark _))))))))))))))))), ?_⟩
    refine run_start (K := K) (d := .bool true) [some (.str one), some (.str two), some (.str three), none, none, none, none, none, none] (.cons (.str one (okV_len Hone)) (.cons (.str two (okV_len Htwo)) (.cons (.str three (okV_len Hthree)) (.no (.no (.no (.no (.no (.no .nil))))))))) (fun H' v s hv => by cases hv; exact q H' s) ?_
    refine run_asg (d := ?x2) ?x1 ?x3
    case x1 => repeat' (first | with_reducible exact eva_nil | with_reducible refine eva_cons (d := ?_) (ds := ?_) ?_ ?_ | ((with_reducible refine ev_var (d := ?_) ?_); exact rfl) | with_reducible exact ev_non | with_reducible exact ev_bl | with_reducible exact ev_int | ((with_reducible refine ev_str ?_); exact Nat.le_of_ble_eq_true rfl) | with_reducible refine ev_tup (ds := ?_) ?_ ?_ | with_reducible refine ev_lst (ds := ?_) ?_ ?_ | with_reducible refine ev_ixLz (ds := ?_) (d := ?_) ?_ ?_ ?_ | with_reducible refine ev_ixTz (ds := ?_) (d := ?_) ?_ ?_ ?_ | with_reducible refine ev_slTz (ds := ?_) (es := ?_) ?_ ?_ ?_ | with_reducible refine ev_slLz (ds := ?_) (es := ?_) ?_ ?_ ?_ | with_reducible refine ev_cat (as := ?_) (bs := ?_) ?_ ?_ ?_ | exact Nat.le_of_ble_eq_true rfl | exact rfl | exact ev_int)
    refine run_asg (d := ?x5) ?x4 ?x6
    case x4 => repeat' (first | with_reducible exact eva_nil | with_reducible refine eva_cons (d := ?_) (ds := ?_) ?_ ?_ | ((with_reducible refine ev_var (d := ?_) ?_); exact rfl) | with_reducible exact ev_non | with_reducible exact ev_bl | with_reducible exact ev_int | ((with_reducible refine ev_str ?_); exact Nat.le_of_ble_eq_true rfl) | with_reducible refine ev_tup (ds := ?_) ?_ ?_ | with_reducible refine ev_lst (ds := ?_) ?_ ?_ | with_reducible refine ev_ixLz (ds := ?_) (d := ?_) ?_ ?_ ?_ | with_reducible refine ev_ixTz (ds := ?_) (d := ?_) ?_ ?_ ?_ | with_reducible refine ev_slTz (ds := ?_) (es := ?_) ?_ ?_ ?_ | with_reducible refine ev_slLz (ds := ?_) (es := ?_) ?_ ?_ ?_ | with_reducible refine ev_cat (as := ?_) (bs := ?_) ?_ ?_ ?_ | exact Nat.le_of_ble_eq_true rfl | exact rfl | exact ev_int)
    refine run_asg (d := ?x8) ?x7 ?x9
    case x7 => repeat' (first | with_reducible exact eva_nil | with_reducible refine eva_cons (d := ?_) (ds := ?_) ?_ ?_ | ((with_reducible refine ev_var (d := ?_) ?_); exact rfl) | with_reducible exact ev_non | with_reducible exact ev_bl | with_reducible exact ev_int | ((with_reducible refine ev_str ?_); exact Nat.le_of_ble_eq_true rfl) | with_reducible refine ev_tup (ds := ?_) ?_ ?_ | with_reducible refine ev_lst (ds := ?_) ?_ ?_ | with_reducible refine ev_ixLz (ds := ?_) (d := ?_) ?_ ?_ ?_ | with_reducible refine ev_ixTz (ds := ?_) (d := ?_) ?_ ?_ ?_ | with_reducible refine ev_slTz (ds := ?_) (es := ?_) ?_ ?_ ?_ | with_reducible refine ev_slLz (ds := ?_) (es := ?_) ?_ ?_ ?_ | with_reducible refine ev_cat (as := ?_) (bs := ?_) ?_ ?_ ?_ | exact Nat.le_of_ble_eq_true rfl | exact rfl | exact ev_int)
    refine run_asg (d := jarPy (Folders.J1 one two three)) (ev_behind (s := (Folders.S one two three)) (row := [0]) (js := (Folders.J1 one two three)) (d1 := ?x10) (d2 := ?x11) ?x12 ?x13 ?x14 (Folders.gS Hone Htwo Hthree) rfl (Folders.e2 one two three)) ?x15
    case x12 => repeat' (first | with_reducible exact eva_nil | with_reducible refine eva_cons (d := ?_) (ds := ?_) ?_ ?_ | ((with_reducible refine ev_var (d := ?_) ?_); exact rfl) | with_reducible exact ev_non | with_reducible exact ev_bl | with_reducible exact ev_int | ((with_reducible refine ev_str ?_); exact Nat.le_of_ble_eq_true rfl) | with_reducible refine ev_tup (ds := ?_) ?_ ?_ | with_reducible refine ev_lst (ds := ?_) ?_ ?_ | with_reducible refine ev_ixLz (ds := ?_) (d := ?_) ?_ ?_ ?_ | with_reducible refine ev_ixTz (ds := ?_) (d := ?_) ?_ ?_ ?_ | with_reducible refine ev_slTz (ds := ?_) (es := ?_) ?_ ?_ ?_ | with_reducible refine ev_slLz (ds := ?_) (es := ?_) ?_ ?_ ?_ | with_reducible refine ev_cat (as := ?_) (bs := ?_) ?_ ?_ ?_ | exact Nat.le_of_ble_eq_true rfl | exact rfl | exact ev_int)
    case x13 => rfl
    case x14 => rfl
    refine run_asg (d := ?x17) ?x16 ?x18
    case x16 => repeat' (first | with_reducible exact eva_nil | with_reducible refine eva_cons (d := ?_) (ds := ?_) ?_ ?_ | ((with_reducible refine ev_var (d := ?_) ?_); exact rfl) | with_reducible exact ev_non | with_reducible exact ev_bl | with_reducible exact ev_int | ((with_reducible refine ev_str ?_); exact Nat.le_of_ble_eq_true rfl) | with_reducible refine ev_tup (ds := ?_) ?_ ?_ | with_reducible refine ev_lst (ds := ?_) ?_ ?_ | with_reducible refine ev_ixLz (ds := ?_) (d := ?_) ?_ ?_ ?_ | with_reducible refine ev_ixTz (ds := ?_) (d := ?_) ?_ ?_ ?_ | with_reducible refine ev_slTz (ds := ?_) (es := ?_) ?_ ?_ ?_ | with_reducible refine ev_slLz (ds := ?_) (es := ?_) ?_ ?_ ?_ | with_reducible refine ev_cat (as := ?_) (bs := ?_) ?_ ?_ ?_ | exact Nat.le_of_ble_eq_true rfl | exact rfl | exact ev_int)
    refine run_asg (d := ?x20) ?x19 ?x21
    case x19 => repeat' (first | with_reducible exact eva_nil | with_reducible refine eva_cons (d := ?_) (ds := ?_) ?_ ?_ | ((with_reducible refine ev_var (d := ?_) ?_); exact rfl) | with_reducible exact ev_non | with_reducible exact ev_bl | with_reducible exact ev_int | ((with_reducible refine ev_str ?_); exact Nat.le_of_ble_eq_true rfl) | with_reducible refine ev_tup (ds := ?_) ?_ ?_ | with_reducible refine ev_lst (ds := ?_) ?_ ?_ | with_reducible refine ev_ixLz (ds := ?_) (d := ?_) ?_ ?_ ?_ | with_reducible refine ev_ixTz (ds := ?_) (d := ?_) ?_ ?_ ?_ | with_reducible refine ev_slTz (ds := ?_) (es := ?_) ?_ ?_ ?_ | with_reducible refine ev_slLz (ds := ?_) (es := ?_) ?_ ?_ ?_ | with_reducible refine ev_cat (as := ?_) (bs := ?_) ?_ ?_ ?_ | exact Nat.le_of_ble_eq_true rfl | exact rfl | exact ev_int)
    refine run_ifF (evt_test (ev_neJ (js := (Folders.J1 one two three)) (d := ?x23) ?x22 ?x24 ?x25 (Folders.g1 Hone Htwo Hthree))) ?x26
    case x22 => repeat' (first | with_reducible exact eva_nil | with_reducible refine eva_cons (d := ?_) (ds := ?_) ?_ ?_ | ((with_reducible refine ev_var (d := ?_) ?_); exact rfl) | with_reducible exact ev_non | with_reducible exact ev_bl | with_reducible exact ev_int | ((with_reducible refine ev_str ?_); exact Nat.le_of_ble_eq_true rfl) | with_reducible refine ev_tup (ds := ?_) ?_ ?_ | with_reducible refine ev_lst (ds := ?_) ?_ ?_ | with_reducible refine ev_ixLz (ds := ?_) (d := ?_) ?_ ?_ ?_ | with_reducible refine ev_ixTz (ds := ?_) (d := ?_) ?_ ?_ ?_ | with_reducible refine ev_slTz (ds := ?_) (es := ?_) ?_ ?_ ?_ | with_reducible refine ev_slLz (ds := ?_) (es := ?_) ?_ ?_ ?_ | with_reducible refine ev_cat (as := ?_) (bs := ?_) ?_ ?_ ?_ | exact Nat.le_of_ble_eq_true rfl | exact rfl | exact ev_int)
    case x24 => repeat' (first | with_reducible exact eva_nil | with_reducible refine eva_cons (d := ?_) (ds := ?_) ?_ ?_ | ((with_reducible refine ev_var (d := ?_) ?_); exact rfl) | with_reducible exact ev_non | with_reducible exact ev_bl | with_reducible exact ev_int | ((with_reducible refine ev_str ?_); exact Nat.le_of_ble_eq_true rfl) | with_reducible refine ev_tup (ds := ?_) ?_ ?_ | with_reducible refine ev_lst (ds := ?_) ?_ ?_ | with_reducible refine ev_ixLz (ds := ?_) (d := ?_) ?_ ?_ ?_ | with_reducible refine ev_ixTz (ds := ?_) (d := ?_) ?_ ?_ ?_ | with_reducible refine ev_slTz (ds := ?_) (es := ?_) ?_ ?_ ?_ | with_reducible refine ev_slLz (ds := ?_) (es := ?_) ?_ ?_ ?_ | with_reducible refine ev_cat (as := ?_) (bs := ?_) ?_ ?_ ?_ | exact Nat.le_of_ble_eq_true rfl | exact rfl | exact ev_int)
    case x25 => rfl
    refine run_lstApp (Nat.le_of_ble_eq_true rfl) (eva_cons (ev_sent (js := (Folders.J1 one two three)) (a := ⟨["b", "c"], ["p", "q"], true⟩) (l := [(pr "a" one), (pr "id" three), (pr "id" two), (pr "id" one)]) (d1 := ?x27) (d2 := ?x28) ?x29 ?x30 ?x31 (Folders.g1 Hone Htwo Hthree) (by kernel_rfl) (Folders.e3 one two three)) (eva_cons (ev_sent (js := (Folders.J1 one two three)) (a := ⟨["b", "c"], ["p", "q", "z"], false⟩) (l := [(pr "a" one), (pr "id" two), (pr "id" one)]) (d1 := ?x32) (d2 := ?x33) ?x34 ?x35 ?x36 (Folders.g1 Hone Htwo Hthree) (by kernel_rfl) (Folders.e4 one two three)) eva_nil)) (ev_sent (js := (Folders.J1 one two three)) (a := ⟨["b", "c"], ["pq"], true⟩) (l := [(pr "id" one)]) (d1 := ?x37) (d2 := ?x38) ?x39 ?x40 ?x41 (Folders.g1 Hone Htwo Hthree) (by kernel_rfl) (Folders.e5 one two three)) (by kernel_rfl) (Nat.le_of_ble_eq_true rfl) ?x42
    case x29 => repeat' (first | with_reducible exact eva_nil | with_reducible refine eva_cons (d := ?_) (ds := ?_) ?_ ?_ | ((with_reducible refine ev_var (d := ?_) ?_); exact rfl) | with_reducible exact ev_non | with_reducible exact ev_bl | with_reducible exact ev_int | ((with_reducible refine ev_str ?_); exact Nat.le_of_ble_eq_true rfl) | with_reducible refine ev_tup (ds := ?_) ?_ ?_ | with_reducible refine ev_lst (ds := ?_) ?_ ?_ | with_reducible refine ev_ixLz (ds := ?_) (d := ?_) ?_ ?_ ?_ | with_reducible refine ev_ixTz (ds := ?_) (d := ?_) ?_ ?_ ?_ | with_reducible refine ev_slTz (ds := ?_) (es := ?_) ?_ ?_ ?_ | with_reducible refine ev_slLz (ds := ?_) (es := ?_) ?_ ?_ ?_ | with_reducible refine ev_cat (as := ?_) (bs := ?_) ?_ ?_ ?_ | exact Nat.le_of_ble_eq_true rfl | exact rfl | exact ev_int)
    case x30 => rfl
    case x31 => rfl
    case x34 => repeat' (first | with_reducible exact eva_nil | with_reducible refine eva_cons (d := ?_) (ds := ?_) ?_ ?_ | ((with_reducible refine ev_var (d := ?_) ?_); exact rfl) | with_reducible exact ev_non | with_reducible exact ev_bl | with_reducible exact ev_int | ((with_reducible refine ev_str ?_); exact Nat.le_of_ble_eq_true rfl) | with_reducible refine ev_tup (ds := ?_) ?_ ?_ | with_reducible refine ev_lst (ds := ?_) ?_ ?_ | with_reducible refine ev_ixLz (ds := ?_) (d := ?_) ?_ ?_ ?_ | with_reducible refine ev_ixTz (ds := ?_) (d := ?_) ?_ ?_ ?_ | with_reducible refine ev_slTz (ds := ?_) (es := ?_) ?_ ?_ ?_ | with_reducible refine ev_slLz (ds := ?_) (es := ?_) ?_ ?_ ?_ | with_reducible refine ev_cat (as := ?_) (bs := ?_) ?_ ?_ ?_ | exact Nat.le_of_ble_eq_true rfl | exact rfl | exact ev_int)
    case x35 => rfl
    case x36 => rfl
    case x39 => repeat' (first | with_reducible exact eva_nil | with_reducible refine eva_cons (d := ?_) (ds := ?_) ?_ ?_ | ((with_reducible refine ev_var (d := ?_) ?_); exact rfl) | with_reducible exact ev_non | with_reducible exact ev_bl | with_reducible exact ev_int | ((with_reducible refine ev_str ?_); exact Nat.le_of_ble_eq_true rfl) | with_reducible refine ev_tup (ds := ?_) ?_ ?_ | with_reducible refine ev_lst (ds := ?_) ?_ ?_ | with_reducible refine ev_ixLz (ds := ?_) (d := ?_) ?_ ?_ ?_ | with_reducible refine ev_ixTz (ds := ?_) (d := ?_) ?_ ?_ ?_ | with_reducible refine ev_slTz (ds := ?_) (es := ?_) ?_ ?_ ?_ | with_reducible refine ev_slLz (ds := ?_) (es := ?_) ?_ ?_ ?_ | with_reducible refine ev_cat (as := ?_) (bs := ?_) ?_ ?_ ?_ | exact Nat.le_of_ble_eq_true rfl | exact rfl | exact ev_int)
    case x40 => rfl
    case x41 => rfl
    refine run_ifF (evt_test (ev_neS (l := [(pr "a" one), (pr "id" three), (pr "id" two), (pr "id" one)]) (d := ?x46) (EvR.to (d := ?x45) ?x43 (show _ = sentPy [(pr "a" one), (pr "id" three), (pr "id" two), (pr "id" one)] from ?x44)) ?x47 ?x48 ⟨⟨k_a, okV_str Hone⟩, ⟨k_id, okV_str Hthree⟩, ⟨k_id, okV_str Htwo⟩, ⟨k_id, okV_str Hone⟩, trivial⟩)) ?x49
    case x43 => repeat' (first | with_reducible exact eva_nil | with_reducible refine eva_cons (d := ?_) (ds := ?_) ?_ ?_ | ((with_reducible refine ev_var (d := ?_) ?_); exact rfl) | with_reducible exact ev_non | with_reducible exact ev_bl | with_reducible exact ev_int | ((with_reducible refine ev_str ?_); exact Nat.le_of_ble_eq_true rfl) | with_reducible refine ev_tup (ds := ?_) ?_ ?_ | with_reducible refine ev_lst (ds := ?_) ?_ ?_ | with_reducible refine ev_ixLz (ds := ?_) (d := ?_) ?_ ?_ ?_ | with_reducible refine ev_ixTz (ds := ?_) (d := ?_) ?_ ?_ ?_ | with_reducible refine ev_slTz (ds := ?_) (es := ?_) ?_ ?_ ?_ | with_reducible refine ev_slLz (ds := ?_) (es := ?_) ?_ ?_ ?_ | with_reducible refine ev_cat (as := ?_) (bs := ?_) ?_ ?_ ?_ | exact Nat.le_of_ble_eq_true rfl | exact rfl | exact ev_int)
    case x44 => rfl
    case x47 => repeat' (first | with_reducible exact eva_nil | with_reducible refine eva_cons (d := ?_) (ds := ?_) ?_ ?_ | ((with_reducible refine ev_var (d := ?_) ?_); exact rfl) | with_reducible exact ev_non | with_reducible exact ev_bl | with_reducible exact ev_int | ((with_reducible refine ev_str ?_); exact Nat.le_of_ble_eq_true rfl) | with_reducible refine ev_tup (ds := ?_) ?_ ?_ | with_reducible refine ev_lst (ds := ?_) ?_ ?_ | with_reducible refine ev_ixLz (ds := ?_) (d := ?_) ?_ ?_ ?_ | with_reducible refine ev_ixTz (ds := ?_) (d := ?_) ?_ ?_ ?_ | with_reducible refine ev_slTz (ds := ?_) (es := ?_) ?_ ?_ ?_ | with_reducible refine ev_slLz (ds := ?_) (es := ?_) ?_ ?_ ?_ | with_reducible refine ev_cat (as := ?_) (bs := ?_) ?_ ?_ ?_ | exact Nat.le_of_ble_eq_true rfl | exact rfl | exact ev_int)
    case x48 => rfl
    refine run_ifF (evt_test (ev_neL (ls := [[(pr "a" one), (pr "id" two), (pr "id" one)], [(pr "id" one)]]) (d := ?x51) (d' := ?x55) ?x50 ?x52 ?x53 ?x54 ⟨⟨⟨k_a, okV_str Hone⟩, ⟨k_id, okV_str Htwo⟩, ⟨k_id, okV_str Hone⟩, trivial⟩, ⟨⟨k_id, okV_str Hone⟩, trivial⟩, trivial⟩)) ?x56
    case x50 => repeat' (first | with_reducible exact eva_nil | with_reducible refine eva_cons (d := ?_) (ds := ?_) ?_ ?_ | ((with_reducible refine ev_var (d := ?_) ?_); exact rfl) | with_reducible exact ev_non | with_reducible exact ev_bl | with_reducible exact ev_int | ((with_reducible refine ev_str ?_); exact Nat.le_of_ble_eq_true rfl) | with_reducible refine ev_tup (ds := ?_) ?_ ?_ | with_reducible refine ev_lst (ds := ?_) ?_ ?_ | with_reducible refine ev_ixLz (ds := ?_) (d := ?_) ?_ ?_ ?_ | with_reducible refine ev_ixTz (ds := ?_) (d := ?_) ?_ ?_ ?_ | with_reducible refine ev_slTz (ds := ?_) (es := ?_) ?_ ?_ ?_ | with_reducible refine ev_slLz (ds := ?_) (es := ?_) ?_ ?_ ?_ | with_reducible refine ev_cat (as := ?_) (bs := ?_) ?_ ?_ ?_ | exact Nat.le_of_ble_eq_true rfl | exact rfl | exact ev_int)
    case x52 => repeat' (first | with_reducible exact eva_nil | with_reducible refine eva_cons (d := ?_) (ds := ?_) ?_ ?_ | ((with_reducible refine ev_var (d := ?_) ?_); exact rfl) | with_reducible exact ev_non | with_reducible exact ev_bl | with_reducible exact ev_int | ((with_reducible refine ev_str ?_); exact Nat.le_of_ble_eq_true rfl) | with_reducible refine ev_tup (ds := ?_) ?_ ?_ | with_reducible refine ev_lst (ds := ?_) ?_ ?_ | with_reducible refine ev_ixLz (ds := ?_) (d := ?_) ?_ ?_ ?_ | with_reducible refine ev_ixTz (ds := ?_) (d := ?_) ?_ ?_ ?_ | with_reducible refine ev_slTz (ds := ?_) (es := ?_) ?_ ?_ ?_ | with_reducible refine ev_slLz (ds := ?_) (es := ?_) ?_ ?_ ?_ | with_reducible refine ev_cat (as := ?_) (bs := ?_) ?_ ?_ ?_ | exact Nat.le_of_ble_eq_true rfl | exact rfl | exact ev_int)
    case x53 => rfl
    case x54 => rfl
    refine run_lstApp (Nat.le_of_ble_eq_true rfl) (eva_cons (ev_read (js := (Folders.J1 one two three)) (a := ⟨["b", "c"], ["p"], true⟩) (x := "id") (o := (some two)) (d1 := ?x57) (d2 := ?x58) ?x59 ?x60 ?x61 (Folders.g1 Hone Htwo Hthree) (by kernel_rfl) (by kernel_rfl) (Folders.e6 one two three) (fun y h => by cases h; exact okV_len Htwo)) (eva_cons (ev_read (js := (Folders.J1 one two three)) (a := ⟨["b", "c"], ["p", "q"], true⟩) (x := "id") (o := (some three)) (d1 := ?x62) (d2 := ?x63) ?x64 ?x65 ?x66 (Folders.g1 Hone Htwo Hthree) (by kernel_rfl) (by kernel_rfl) (Folders.e7 one two three) (fun y h => by cases h; exact okV_len Hthree)) eva_nil)) (ev_read (js := (Folders.J1 one two three)) (a := ⟨["b", "c"], [], true⟩) (x := "a") (o := none) (d1 := ?x67) (d2 := ?x68) ?x69 ?x70 ?x71 (Folders.g1 Hone Htwo Hthree) (by kernel_rfl) (by kernel_rfl) (Folders.e8 one two three) (fun y h => by cases h)) (by kernel_rfl) (Nat.le_of_ble_eq_true rfl) ?x72
    case x59 => repeat' (first | with_reducible exact eva_nil | with_reducible refine eva_cons (d := ?_) (ds := ?_) ?_ ?_ | ((with_reducible refine ev_var (d := ?_) ?_); exact rfl) | with_reducible exact ev_non | with_reducible exact ev_bl | with_reducible exact ev_int | ((with_reducible refine ev_str ?_); exact Nat.le_of_ble_eq_true rfl) | with_reducible refine ev_tup (ds := ?_) ?_ ?_ | with_reducible refine ev_lst (ds := ?_) ?_ ?_ | with_reducible refine ev_ixLz (ds := ?_) (d := ?_) ?_ ?_ ?_ | with_reducible refine ev_ixTz (ds := ?_) (d := ?_) ?_ ?_ ?_ | with_reducible refine ev_slTz (ds := ?_) (es := ?_) ?_ ?_ ?_ | with_reducible refine ev_slLz (ds := ?_) (es := ?_) ?_ ?_ ?_ | with_reducible refine ev_cat (as := ?_) (bs := ?_) ?_ ?_ ?_ | exact Nat.le_of_ble_eq_true rfl | exact rfl | exact ev_int)
    case x60 => rfl
    case x61 => rfl
    case x64 => repeat' (first | with_reducible exact eva_nil | with_reducible refine eva_cons (d := ?_) (ds := ?_) ?_ ?_ | ((with_reducible refine ev_var (d := ?_) ?_); exact rfl) | with_reducible exact ev_non | with_reducible exact ev_bl | with_reducible exact ev_int | ((with_reducible refine ev_str ?_); exact Nat.le_of_ble_eq_true rfl) | with_reducible refine ev_tup (ds := ?_) ?_ ?_ | with_reducible refine ev_lst (ds := ?_) ?_ ?_ | with_reducible refine ev_ixLz (ds := ?_) (d := ?_) ?_ ?_ ?_ | with_reducible refine ev_ixTz (ds := ?_) (d := ?_) ?_ ?_ ?_ | with_reducible refine ev_slTz (ds := ?_) (es := ?_) ?_ ?_ ?_ | with_reducible refine ev_slLz (ds := ?_) (es := ?_) ?_ ?_ ?_ | with_reducible refine ev_cat (as := ?_) (bs := ?_) ?_ ?_ ?_ | exact Nat.le_of_ble_eq_true rfl | exact rfl | exact ev_int)
    case x65 => rfl
    case x66 => rfl
    case x69 => repeat' (first | with_reducible exact eva_nil | with_reducible refine eva_cons (d := ?_) (ds := ?_) ?_ ?_ | ((with_reducible refine ev_var (d := ?_) ?_); exact rfl) | with_reducible exact ev_non | with_reducible exact ev_bl | with_reducible exact ev_int | ((with_reducible refine ev_str ?_); exact Nat.le_of_ble_eq_true rfl) | with_reducible refine ev_tup (ds := ?_) ?_ ?_ | with_reducible refine ev_lst (ds := ?_) ?_ ?_ | with_reducible refine ev_ixLz (ds := ?_) (d := ?_) ?_ ?_ ?_ | with_reducible refine ev_ixTz (ds := ?_) (d := ?_) ?_ ?_ ?_ | with_reducible refine ev_slTz (ds := ?_) (es := ?_) ?_ ?_ ?_ | with_reducible refine ev_slLz (ds := ?_) (es := ?_) ?_ ?_ ?_ | with_reducible refine ev_cat (as := ?_) (bs := ?_) ?_ ?_ ?_ | exact Nat.le_of_ble_eq_true rfl | exact rfl | exact ev_int)
    case x70 => rfl
    case x71 => rfl
    refine run_ret (ev_eqT (EvR.to (d := ?x77) ?x75 (show _ = .list [.str two, .str three, .none] from ?x76)) ?x73 (opts3 Htwo Hthree))
    case x73 => repeat' (first | with_reducible exact eva_nil | with_reducible refine eva_cons (d := ?_) (ds := ?_) ?_ ?_ | ((with_reducible refine ev_var (d := ?_) ?_); exact rfl) | with_reducible exact ev_non | with_reducible exact ev_bl | with_reducible exact ev_int | ((with_reducible refine ev_str ?_); exact Nat.le_of_ble_eq_true rfl) | with_reducible refine ev_tup (ds := ?_) ?_ ?_ | with_reducible refine ev_lst (ds := ?_) ?_ ?_ | with_reducible refine ev_ixLz (ds := ?_) (d := ?_) ?_ ?_ ?_ | with_reducible refine ev_ixTz (ds := ?_) (d := ?_) ?_ ?_ ?_ | with_reducible refine ev_slTz (ds := ?_) (es := ?_) ?_ ?_ ?_ | with_reducible refine ev_slLz (ds := ?_) (es := ?_) ?_ ?_ ?_ | with_reducible refine ev_cat (as := ?_) (bs := ?_) ?_ ?_ ?_ | exact Nat.le_of_ble_eq_true rfl | exact rfl | exact ev_int)
    case x75 => repeat' (first | with_reducible exact eva_nil | with_reducible refine eva_cons (d := ?_) (ds := ?_) ?_ ?_ | ((with_reducible refine ev_var (d := ?_) ?_); exact rfl) | with_reducible exact ev_non | with_reducible exact ev_bl | with_reducible exact ev_int | ((with_reducible refine ev_str ?_); exact Nat.le_of_ble_eq_true rfl) | with_reducible refine ev_tup (ds := ?_) ?_ ?_ | with_reducible refine ev_lst (ds := ?_) ?_ ?_ | with_reducible refine ev_ixLz (ds := ?_) (d := ?_) ?_ ?_ ?_ | with_reducible refine ev_ixTz (ds := ?_) (d := ?_) ?_ ?_ ?_ | with_reducible refine ev_slTz (ds := ?_) (es := ?_) ?_ ?_ ?_ | with_reducible refine ev_slLz (ds := ?_) (es := ?_) ?_ ?_ ?_ | with_reducible refine ev_cat (as := ?_) (bs := ?_) ?_ ?_ ?_ | exact Nat.le_of_ble_eq_true rfl | exact rfl | exact ev_int)
    case x76 => rfl
end
end S1
namespace S1
open PySem PySem.Spec PyProof.Rows L2 Jv
section
variable {P : Program} {w : World} {K : PySem.W.Frag} {mg : Str → Option Value} {base : Heap}
namespace Untaken
def S (one two : Str) : List Pg := [⟨⟨["www", "b", "c"], [], true⟩, [⟨"id", some one, none, none, true⟩]⟩, ⟨⟨["www", "b", "c"], [], false⟩, [⟨"id", some two, some ["shop", "b", "c"], none, false⟩, ⟨"id", some two, none, none, true⟩, ⟨"id", none, none, none, true⟩]⟩]
def J1 (one : Str) : List Kp := [⟨⟨"id", ["www", "b", "c"], [], true⟩, one, true⟩]
def J2 : List Kp := []
theorem e3 (one two : Str) : behindK (Untaken.S one two) [0] = (Untaken.J1 one) := by kernel_rfl
theorem e4 (one two : Str) : behindK (Untaken.S one two) [0, 1] = (Untaken.J1 one) := by kernel_rfl
theorem e5 (one two : Str) : behindK (Untaken.S one two) [1] = Untaken.J2 := by kernel_rfl
theorem e6 (one : Str) : sentM (Untaken.J1 one) ⟨["www", "b", "c"], [], false⟩ = [] := by kernel_rfl
theorem e7 (one : Str) : sentM (Untaken.J1 one) ⟨["www", "b", "c"], ["x"], true⟩ = [(pr "id" one)] := by kernel_rfl
theorem e8 (one two : Str) : jarAfterK (Untaken.J1 one) (takenP ⟨⟨["www", "b", "c"], [], false⟩, [⟨"id", some two, some ["shop", "b", "c"], none, false⟩, ⟨"id", some two, none, none, true⟩, ⟨"id", none, none, none, true⟩]⟩) = (Untaken.J1 one) := by kernel_rfl
theorem e9 (one : Str) : jarAfterK Untaken.J2 (takenP ⟨⟨["www", "b", "c"], [], true⟩, [⟨"id", some one, none, none, true⟩]⟩) = (Untaken.J1 one) := by kernel_rfl
theorem e10 (one two : Str) : behindK (Untaken.S one two) [] = Untaken.J2 := by kernel_rfl
theorem gS {one two : Str} (Hone : okV one) (Htwo : okV two) : siteBad (sitePy (S one two)) = none := site_good (by kernel_rfl) ⟨⟨Hone, trivial⟩, ⟨Htwo, Htwo, trivial, trivial⟩, trivial⟩
theorem g1 {one : Str} (Hone : okV one) : JarOk (J1 one) := jar_good (by kernel_rfl) ⟨Hone, trivial⟩
theorem g2 : JarOk J2 := jar_good (by kernel_rfl) trivial
end Untaken
theorem ok_untaken_right (T : Txt K mg) (X : Exs P w K mg base) : Ok P w K mg base "_law_untaken_right" P__law_untaken_right 8 spV2 := by
  obtain ⟨_, xj⟩ := X.jar
  obtain ⟨_, xs⟩ := X.site
  obtain ⟨_, xp⟩ := X.page
  obtain ⟨_, xr⟩ := X.row
  obtain ⟨_, xa⟩ := X.addr
  obtain ⟨_, xn⟩ := X.name
  have ok_behind : OkX P w K mg base "behind" P_behind 7 (spBehind K) := ok_behind T xs xr
  have ok_sent : OkX P w K mg base "sent" P_sent 7 (spSent K) := ok_sent T xj xa
  have ok_read : OkX P w K mg base "read" P_read 7 (spRead K) := ok_read T xj xa xn
  have ok_visited : OkX P w K mg base "visited" P_visited 7 (spVisited K) := ok_visited T xj xs xp
  refine T.d__law_untaken_right.ok sc__law_untaken_right (fun vs H Q E h => ?_) (fun f cdv A out s H vs Q E hr h => ?_)
  · obtain ⟨one, two, rfl, _⟩ := h
    rfl
  · obtain ⟨one, two, rfl, Hone, Htwo, q⟩ := h
    refine ⟨_, (pss_cons (ps_asg (pe_tup (pa_cons (pe_tup (pa_cons pe_str (pa_cons pe_str (pa_cons pe_str pa_nil)))) (pa_cons (pe_tup (pa_cons pe_str (pa_cons pe_str (pa_cons pe_str pa_nil)))) pa_nil))) (pg_tup rfl (pgs_cons (pg_name (i := 2) sc__law_untaken_right.nd rfl (Or.inl rfl)) (pgs_cons (pg_name (i := 3) sc__law_untaken_right.nd rfl (Or.inl rfl)) pgs_nil))))
    (pss_cons (ps_set (i := 4) sc__law_untaken_right.nd rfl (Or.inl rfl) (pe_tup (pa_cons (pe_tup (pa_cons pe_str (pa_cons (pv 1) (pa_cons (pv 3) (pa_cons pe_non (pa_cons pe_bl pa_nil)))))) (pa_cons (pe_tup (pa_cons pe_str (pa_cons (pv 1) (pa_cons pe_non (pa_cons pe_non (pa_cons pe_bl pa_nil)))))) (pa_cons (pe_tup (pa_cons pe_str (pa_cons pe_non (pa_cons pe_non (pa_cons pe_non (pa_cons pe_bl pa_nil)))))) pa_nil)))))
    (pss_cons (ps_set (i := 5) sc__law_untaken_right.nd rfl (Or.inl rfl) (pe_tup (pa_cons (pe_tup (pa_cons (pe_tup (pa_cons (pv 2) (pa_cons (pe_tup pa_nil) (pa_cons pe_bl pa_nil)))) (pa_cons (pe_tup (pa_cons (pe_tup (pa_cons pe_str (pa_cons (pv 0) (pa_cons pe_non (pa_cons pe_non (pa_cons pe_bl pa_nil)))))) pa_nil)) pa_nil))) (pa_cons (pe_tup (pa_cons (pe_tup (pa_cons (pv 2) (pa_cons (pe_tup pa_nil) (pa_cons pe_bl pa_nil)))) (pa_cons (pv 4) pa_nil))) pa_nil))))
    (pss_cons (ps_set (i := 6) sc__law_untaken_right.nd rfl (Or.inl rfl) (pe_okX0 ok_behind (hr.mono (by decide)) (pa_cons (pv 5) (pa_cons (pe_tup (pa_cons pe_int pa_nil)) pa_nil))))
    (pss_cons (ps_if (PW.pt (pw_or (pt_cmpR (show OpR _ _ (rNeA K) from op_neA hr.units) (pv 6) (pe_tup (pa_cons (pe_tup (pa_cons (pe_tup (pa_cons pe_str (pa_cons (pv 2) (pa_cons (pe_tup pa_nil) (pa_cons pe_bl pa_nil))))) (pa_cons (pv 0) (pa_cons pe_bl pa_nil)))) pa_nil)) (nomark _)) (pw_or (pt_cmpR (show OpR _ _ (rNeA K) from op_neA hr.units) (pe_okX0 ok_behind (hr.mono (by decide)) (pa_cons (pv 5) (pa_cons (pe_tup (pa_cons pe_int (pa_cons pe_int pa_nil))) pa_nil))) (pv 6) (nomark _)) (pw_or1 (pt_cmpR (show OpR _ _ (rNeA K) from op_neA hr.units) (pe_okX0 ok_behind (hr.mono (by decide)) (pa_cons (pv 5) (pa_cons (pe_tup (pa_cons pe_int pa_nil)) pa_nil))) (pe_tup pa_nil) (nomark _)))))) (pss_one (ps_ret pe_bl)) pss_nil)
    (pss_cons (ps_if (PW.pt (pw_or (pt_cmpR (show OpR _ _ (rNeA K) from op_neA hr.units) (pe_okX0 ok_sent (hr.mono (by decide)) (pa_cons (pv 6) (pa_cons (pe_tup (pa_cons (pv 2) (pa_cons (pe_tup pa_nil) (pa_cons pe_bl pa_nil)))) pa_nil))) (pe_tup pa_nil) (nomark _)) (pw_or1 (pt_cmpR (show OpR _ _ (rNeA K) from op_neA hr.units) (pe_okX0 ok_sent (hr.mono (by decide)) (pa_cons (pv 6) (pa_cons (pe_tup (pa_cons (pv 2) (pa_cons (pe_tup (pa_cons pe_str pa_nil)) (pa_cons pe_bl pa_nil)))) pa_nil))) (pe_tup (pa_cons (pe_tup (pa_cons pe_str (pa_cons (pv 0) pa_nil))) pa_nil)) (nomark _))))) (pss_one (ps_ret pe_bl)) pss_nil)
    (pss_one (ps_ret (pe_and (pe_cmpR (show OpR _ _ (rEqA K) from op_eqA hr.units) (pe_okX0 ok_visited (hr.mono (by decide)) (pa_cons (pv 6) (pa_cons (pv 5) (pa_cons pe_int pa_nil)))) (pv 6) (nomark _)) (pe_and (pe_cmpR (show OpR _ _ (rEqA K) from op_eqA hr.units) (pe_okX0 ok_visited (hr.mono (by decide)) (pa_cons (pe_tup pa_nil) (pa_cons (pv 5) (pa_cons pe_int pa_nil)))) (pv 6) (nomark _)) (pe_one (pe_cmpR (show OpR _ _ (rEqA K) from op_eqA hr.units) (pe_okX0 ok_behind (hr.mono (by decide)) (pa_cons (pv 5) (pa_cons (pe_tup pa_nil) pa_nil))) (pe_tup pa_nil) (nomark _))))))))))))), ?_⟩
    refine run_start (K := K) (d := .bool true) [some (.str one), some (.str two), none, none, none, none, none] (.cons (.str one (okV_len Hone)) (.cons (.str two (okV_len Htwo)) (.no (.no (.no (.no (.no .nil))))))) (fun H' v s hv => by cases hv; exact q H' s) ?_
    refine run_two (i := 2) (j := 3) (d := ?x3) (d' := ?x4) ?x1 ?x2
    case x1 => repeat' (first | with_reducible exact eva_nil | with_reducible refine eva_cons (d := ?_) (ds := ?_) ?_ ?_ | ((with_reducible refine ev_var (d := ?_) ?_); exact rfl) | with_reducible exact ev_non | with_reducible exact ev_bl | with_reducible exact ev_int | ((with_reducible refine ev_str ?_); exact Nat.le_of_ble_eq_true rfl) | with_reducible refine ev_tup (ds := ?_) ?_ ?_ | with_reducible refine ev_lst (ds := ?_) ?_ ?_ | with_reducible refine ev_ixLz (ds := ?_) (d := ?_) ?_ ?_ ?_ | with_reducible refine ev_ixTz (ds := ?_) (d := ?_) ?_ ?_ ?_ | with_reducible refine ev_slTz (ds := ?_) (es := ?_) ?_ ?_ ?_ | with_reducible refine ev_slLz (ds := ?_) (es := ?_) ?_ ?_ ?_ | with_reducible refine ev_cat (as := ?_) (bs := ?_) ?_ ?_ ?_ | exact Nat.le_of_ble_eq_true rfl | exact rfl | exact ev_int)
    refine run_asg (d := ?x6) ?x5 ?x7
    case x5 => repeat' (first | with_reducible exact eva_nil | with_reducible refine eva_cons (d := ?_) (ds := ?_) ?_ ?_ | ((with_reducible refine ev_var (d := ?_) ?_); exact rfl) | with_reducible exact ev_non | with_reducible exact ev_bl | with_reducible exact ev_int | ((with_reducible refine ev_str ?_); exact Nat.le_of_ble_eq_true rfl) | with_reducible refine ev_tup (ds := ?_) ?_ ?_ | with_reducible refine ev_lst (ds := ?_) ?_ ?_ | with_reducible refine ev_ixLz (ds := ?_) (d := ?_) ?_ ?_ ?_ | with_reducible refine ev_ixTz (ds := ?_) (d := ?_) ?_ ?_ ?_ | with_reducible refine ev_slTz (ds := ?_) (es := ?_) ?_ ?_ ?_ | with_reducible refine ev_slLz (ds := ?_) (es := ?_) ?_ ?_ ?_ | with_reducible refine ev_cat (as := ?_) (bs := ?_) ?_ ?_ ?_ | exact Nat.le_of_ble_eq_true rfl | exact rfl | exact ev_int)
    refine run_asg (d := sitePy (Untaken.S one two)) (EvR.to (d := ?x10) ?x8 (show _ = sitePy (Untaken.S one two) from ?x9)) ?x12
    case x8 => repeat' (first | with_reducible exact eva_nil | with_reducible refine eva_cons (d := ?_) (ds := ?_) ?_ ?_ | ((with_reducible refine ev_var (d := ?_) ?_); exact rfl) | with_reducible exact ev_non | with_reducible exact ev_bl | with_reducible exact ev_int | ((with_reducible refine ev_str ?_); exact Nat.le_of_ble_eq_true rfl) | with_reducible refine ev_tup (ds := ?_) ?_ ?_ | with_reducible refine ev_lst (ds := ?_) ?_ ?_ | with_reducible refine ev_ixLz (ds := ?_) (d := ?_) ?_ ?_ ?_ | with_reducible refine ev_ixTz (ds := ?_) (d := ?_) ?_ ?_ ?_ | with_reducible refine ev_slTz (ds := ?_) (es := ?_) ?_ ?_ ?_ | with_reducible refine ev_slLz (ds := ?_) (es := ?_) ?_ ?_ ?_ | with_reducible refine ev_cat (as := ?_) (bs := ?_) ?_ ?_ ?_ | exact Nat.le_of_ble_eq_true rfl | exact rfl | exact ev_int)
    case x9 => rfl
    refine run_asg (d := jarPy (Untaken.J1 one)) (ev_behind (s := (Untaken.S one two)) (row := [0]) (js := (Untaken.J1 one)) (d1 := ?x13) (d2 := ?x14) ?x15 ?x16 ?x17 (Untaken.gS Hone Htwo) rfl (Untaken.e3 one two)) ?x18
    case x15 => repeat' (first | with_reducible exact eva_nil | with_reducible refine eva_cons (d := ?_) (ds := ?_) ?_ ?_ | ((with_reducible refine ev_var (d := ?_) ?_); exact rfl) | with_reducible exact ev_non | with_reducible exact ev_bl | with_reducible exact ev_int | ((with_reducible refine ev_str ?_); exact Nat.le_of_ble_eq_true rfl) | with_reducible refine ev_tup (ds := ?_) ?_ ?_ | with_reducible refine ev_lst (ds := ?_) ?_ ?_ | with_reducible refine ev_ixLz (ds := ?_) (d := ?_) ?_ ?_ ?_ | with_reducible refine ev_ixTz (ds := ?_) (d := ?_) ?_ ?_ ?_ | with_reducible refine ev_slTz (ds := ?_) (es := ?_) ?_ ?_ ?_ | with_reducible refine ev_slLz (ds := ?_) (es := ?_) ?_ ?_ ?_ | with_reducible refine ev_cat (as := ?_) (bs := ?_) ?_ ?_ ?_ | exact Nat.le_of_ble_eq_true rfl | exact rfl | exact ev_int)
    case x16 => rfl
    case x17 => rfl
    refine run_ifF (evt_or (evt_test (ev_neJ (js := (Untaken.J1 one)) (d := ?x20) ?x19 ?x21 ?x22 (Untaken.g1 Hone))) (evt_or (evt_test (ev_neJ (js := (Untaken.J1 one)) (d := ?x28) (ev_behind (s := (Untaken.S one two)) (row := [0, 1]) (js := (Untaken.J1 one)) (d1 := ?x23) (d2 := ?x24) ?x25 ?x26 ?x27 (Untaken.gS Hone Htwo) rfl (Untaken.e4 one two)) ?x29 ?x30 (Untaken.g1 Hone))) (evt_test (ev_neJ (js := Untaken.J2) (d := ?x36) (ev_behind (s := (Untaken.S one two)) (row := [1]) (js := Untaken.J2) (d1 := ?x31) (d2 := ?x32) ?x33 ?x34 ?x35 (Untaken.gS Hone Htwo) rfl (Untaken.e5 one two)) ?x37 ?x38 Untaken.g2)))) ?x39
    case x19 => repeat' (first | with_reducible exact eva_nil | with_reducible refine eva_cons (d := ?_) (ds := ?_) ?_ ?_ | ((with_reducible refine ev_var (d := ?_) ?_); exact rfl) | with_reducible exact ev_non | with_reducible exact ev_bl | with_reducible exact ev_int | ((with_reducible refine ev_str ?_); exact Nat.le_of_ble_eq_true rfl) | with_reducible refine ev_tup (ds := ?_) ?_ ?_ | with_reducible refine ev_lst (ds := ?_) ?_ ?_ | with_reducible refine ev_ixLz (ds := ?_) (d := ?_) ?_ ?_ ?_ | with_reducible refine ev_ixTz (ds := ?_) (d := ?_) ?_ ?_ ?_ | with_reducible refine ev_slTz (ds := ?_) (es := ?_) ?_ ?_ ?_ | with_reducible refine ev_slLz (ds := ?_) (es := ?_) ?_ ?_ ?_ | with_reducible refine ev_cat (as := ?_) (bs := ?_) ?_ ?_ ?_ | exact Nat.le_of_ble_eq_true rfl | exact rfl | exact ev_int)
    case x21 => repeat' (first | with_reducible exact eva_nil | with_reducible refine eva_cons (d := ?_) (ds := ?_) ?_ ?_ | ((with_reducible refine ev_var (d := ?_) ?_); exact rfl) | with_reducible exact ev_non | with_reducible exact ev_bl | with_reducible exact ev_int | ((with_reducible refine ev_str ?_); exact Nat.le_of_ble_eq_true rfl) | with_reducible refine ev_tup (ds := ?_) ?_ ?_ | with_reducible refine ev_lst (ds := ?_) ?_ ?_ | with_reducible refine ev_ixLz (ds := ?_) (d := ?_) ?_ ?_ ?_ | with_reducible refine ev_ixTz (ds := ?_) (d := ?_) ?_ ?_ ?_ | with_reducible refine ev_slTz (ds := ?_) (es := ?_) ?_ ?_ ?_ | with_reducible refine ev_slLz (ds := ?_) (es := ?_) ?_ ?_ ?_ | with_reducible refine ev_cat (as := ?_) (bs := ?_) ?_ ?_ ?_ | exact Nat.le_of_ble_eq_true rfl | exact rfl | exact ev_int)
    case x22 => rfl
    case x25 => repeat' (first | with_reducible exact eva_nil | with_reducible refine eva_cons (d := ?_) (ds := ?_) ?_ ?_ | ((with_reducible refine ev_var (d := ?_) ?_); exact rfl) | with_reducible exact ev_non | with_reducible exact ev_bl | with_reducible exact ev_int | ((with_reducible refine ev_str ?_); exact Nat.le_of_ble_eq_true rfl) | with_reducible refine ev_tup (ds := ?_) ?_ ?_ | with_reducible refine ev_lst (ds := ?_) ?_ ?_ | with_reducible refine ev_ixLz (ds := ?_) (d := ?_) ?_ ?_ ?_ | with_reducible refine ev_ixTz (ds := ?_) (d := ?_) ?_ ?_ ?_ | with_reducible refine ev_slTz (ds := ?_) (es := ?_) ?_ ?_ ?_ | with_reducible refine ev_slLz (ds := ?_) (es := ?_) ?_ ?_ ?_ | with_reducible refine ev_cat (as := ?_) (bs := ?_) ?_ ?_ ?_ | exact Nat.le_of_ble_eq_true rfl | exact rfl | exact ev_int)
    case x26 => rfl
    case x27 => rfl
    case x29 => repeat' (first | with_reducible exact eva_nil | with_reducible refine eva_cons (d := ?_) (ds := ?_) ?_ ?_ | ((with_reducible refine ev_var (d := ?_) ?_); exact rfl) | with_reducible exact ev_non | with_reducible exact ev_bl | with_reducible exact ev_int | ((with_reducible refine ev_str ?_); exact Nat.le_of_ble_eq_true rfl) | with_reducible refine ev_tup (ds := ?_) ?_ ?_ | with_reducible refine ev_lst (ds := ?_) ?_ ?_ | with_reducible refine ev_ixLz (ds := ?_) (d := ?_) ?_ ?_ ?_ | with_reducible refine ev_ixTz (ds := ?_) (d := ?_) ?_ ?_ ?_ | with_reducible refine ev_slTz (ds := ?_) (es := ?_) ?_ ?_ ?_ | with_reducible refine ev_slLz (ds := ?_) (es := ?_) ?_ ?_ ?_ | with_reducible refine ev_cat (as := ?_) (bs := ?_) ?_ ?_ ?_ | exact Nat.le_of_ble_eq_true rfl | exact rfl | exact ev_int)
    case x30 => rfl
    case x33 => repeat' (first | with_reducible exact eva_nil | with_reducible refine eva_cons (d := ?_) (ds := ?_) ?_ ?_ | ((with_reducible refine ev_var (d := ?_) ?_); exact rfl) | with_reducible exact ev_non | with_reducible exact ev_bl | with_reducible exact ev_int | ((with_reducible refine ev_str ?_); exact Nat.le_of_ble_eq_true rfl) | with_reducible refine ev_tup (ds := ?_) ?_ ?_ | with_reducible refine ev_lst (ds := ?_) ?_ ?_ | with_reducible refine ev_ixLz (ds := ?_) (d := ?_) ?_ ?_ ?_ | with_reducible refine ev_ixTz (ds := ?_) (d := ?_) ?_ ?_ ?_ | with_reducible refine ev_slTz (ds := ?_) (es := ?_) ?_ ?_ ?_ | with_reducible refine ev_slLz (ds := ?_) (es := ?_) ?_ ?_ ?_ | with_reducible refine ev_cat (as := ?_) (bs := ?_) ?_ ?_ ?_ | exact Nat.le_of_ble_eq_true rfl | exact rfl | exact ev_int)
    case x34 => rfl
    case x35 => rfl
    case x37 => repeat' (first | with_reducible exact eva_nil | with_reducible refine eva_cons (d := ?_) (ds := ?_) ?_ ?_ | ((with_reducible refine ev_var (d := ?_) ?_); exact rfl) | with_reducible exact ev_non | with_reducible exact ev_bl | with_reducible exact ev_int | ((with_reducible refine ev_str ?_); exact Nat.le_of_ble_eq_true rfl) | with_reducible refine ev_tup (ds := ?_) ?_ ?_ | with_reducible refine ev_lst (ds := ?_) ?_ ?_ | with_reducible refine ev_ixLz (ds := ?_) (d := ?_) ?_ ?_ ?_ | with_reducible refine ev_ixTz (ds := ?_) (d := ?_) ?_ ?_ ?_ | with_reducible refine ev_slTz (ds := ?_) (es := ?_) ?_ ?_ ?_ | with_reducible refine ev_slLz (ds := ?_) (es := ?_) ?_ ?_ ?_ | with_reducible refine ev_cat (as := ?_) (bs := ?_) ?_ ?_ ?_ | exact Nat.le_of_ble_eq_true rfl | exact rfl | exact ev_int)
    case x38 => rfl
    refine run_ifF (evt_or (evt_test (ev_neS (l := []) (d := ?x45) (ev_sent (js := (Untaken.J1 one)) (a := ⟨["www", "b", "c"], [], false⟩) (l := []) (d1 := ?x40) (d2 := ?x41) ?x42 ?x43 ?x44 (Untaken.g1 Hone) (by kernel_rfl) (Untaken.e6 one)) ?x46 ?x47 trivial)) (evt_test (ev_neS (l := [(pr "id" one)]) (d := ?x53) (ev_sent (js := (Untaken.J1 one)) (a := ⟨["www", "b", "c"], ["x"], true⟩) (l := [(pr "id" one)]) (d1 := ?x48) (d2 := ?x49) ?x50 ?x51 ?x52 (Untaken.g1 Hone) (by kernel_rfl) (Untaken.e7 one)) ?x54 ?x55 ⟨⟨k_id, okV_str Hone⟩, trivial⟩))) ?x56
    case x42 => repeat' (first | with_reducible exact eva_nil | with_reducible refine eva_cons (d := ?_) (ds := ?_) ?_ ?_ | ((with_reducible refine ev_var (d := ?_) ?_); exact rfl) | with_reducible exact ev_non | with_reducible exact ev_bl | with_reducible exact ev_int | ((with_reducible refine ev_str ?_); exact Nat.le_of_ble_eq_true rfl) | with_reducible refine ev_tup (ds := ?_) ?_ ?_ | with_reducible refine ev_lst (ds := ?_) ?_ ?_ | with_reducible refine ev_ixLz (ds := ?_) (d := ?_) ?_ ?_ ?_ | with_reducible refine ev_ixTz (ds := ?_) (d := ?_) ?_ ?_ ?_ | with_reducible refine ev_slTz (ds := ?_) (es := ?_) ?_ ?_ ?_ | with_reducible refine ev_slLz (ds := ?_) (es := ?_) ?_ ?_ ?_ | with_reducible refine ev_cat (as := ?_) (bs := ?_) ?_ ?_ ?_ | exact Nat.le_of_ble_eq_true rfl | exact rfl | exact ev_int)
    case x43 => rfl
    case x44 => rfl
    case x46 => repeat' (first | with_reducible exact eva_nil | with_reducible refine eva_cons (d := ?_) (ds := ?_) ?_ ?_ | ((with_reducible refine ev_var (d := ?_) ?_); exact rfl) | with_reducible exact ev_non | with_reducible exact ev_bl | with_reducible exact ev_int | ((with_reducible refine ev_str ?_); exact Nat.le_of_ble_eq_true rfl) | with_reducible refine ev_tup (ds := ?_) ?_ ?_ | with_reducible refine ev_lst (ds := ?_) ?_ ?_ | with_reducible refine ev_ixLz (ds := ?_) (d := ?_) ?_ ?_ ?_ | with_reducible refine ev_ixTz (ds := ?_) (d := ?_) ?_ ?_ ?_ | with_reducible refine ev_slTz (ds := ?_) (es := ?_) ?_ ?_ ?_ | with_reducible refine ev_slLz (ds := ?_) (es := ?_) ?_ ?_ ?_ | with_reducible refine ev_cat (as := ?_) (bs := ?_) ?_ ?_ ?_ | exact Nat.le_of_ble_eq_true rfl | exact rfl | exact ev_int)
    case x47 => rfl
    case x50 => repeat' (first | with_reducible exact eva_nil | with_reducible refine eva_cons (d := ?_) (ds := ?_) ?_ ?_ | ((with_reducible refine ev_var (d := ?_) ?_); exact rfl) | with_reducible exact ev_non | with_reducible exact ev_bl | with_reducible exact ev_int | ((with_reducible refine ev_str ?_); exact Nat.le_of_ble_eq_true rfl) | with_reducible refine ev_tup (ds := ?_) ?_ ?_ | with_reducible refine ev_lst (ds := ?_) ?_ ?_ | with_reducible refine ev_ixLz (ds := ?_) (d := ?_) ?_ ?_ ?_ | with_reducible refine ev_ixTz (ds := ?_) (d := ?_) ?_ ?_ ?_ | with_reducible refine ev_slTz (ds := ?_) (es := ?_) ?_ ?_ ?_ | with_reducible refine ev_slLz (ds := ?_) (es := ?_) ?_ ?_ ?_ | with_reducible refine ev_cat (as := ?_) (bs := ?_) ?_ ?_ ?_ | exact Nat.le_of_ble_eq_true rfl | exact rfl | exact ev_int)
    case x51 => rfl
    case x52 => rfl
    case x54 => repeat' (first | with_reducible exact eva_nil | with_reducible refine eva_cons (d := ?_) (ds := ?_) ?_ ?_ | ((with_reducible refine ev_var (d := ?_) ?_); exact rfl) | with_reducible exact ev_non | with_reducible exact ev_bl | with_reducible exact ev_int | ((with_reducible refine ev_str ?_); exact Nat.le_of_ble_eq_true rfl) | with_reducible refine ev_tup (ds := ?_) ?_ ?_ | with_reducible refine ev_lst (ds := ?_) ?_ ?_ | with_reducible refine ev_ixLz (ds := ?_) (d := ?_) ?_ ?_ ?_ | with_reducible refine ev_ixTz (ds := ?_) (d := ?_) ?_ ?_ ?_ | with_reducible refine ev_slTz (ds := ?_) (es := ?_) ?_ ?_ ?_ | with_reducible refine ev_slLz (ds := ?_) (es := ?_) ?_ ?_ ?_ | with_reducible refine ev_cat (as := ?_) (bs := ?_) ?_ ?_ ?_ | exact Nat.le_of_ble_eq_true rfl | exact rfl | exact ev_int)
    case x55 => rfl
    refine run_ret (ev_andT (ev_eqJ (js := (Untaken.J1 one)) (d := ?x62) (ev_visited (js := (Untaken.J1 one)) (s := (Untaken.S one two)) (n := 1) (p := ⟨⟨["www", "b", "c"], [], false⟩, [⟨"id", some two, some ["shop", "b", "c"], none, false⟩, ⟨"id", some two, none, none, true⟩, ⟨"id", none, none, none, true⟩]⟩) (js' := (Untaken.J1 one)) (d1 := ?x57) (d2 := ?x58) ?x59 ?x60 ?x61 (Untaken.g1 Hone) (Untaken.gS Hone Htwo) rfl (Untaken.e8 one two)) ?x63 ?x64 (Untaken.g1 Hone)) (ev_andT (ev_eqJ (js := (Untaken.J1 one)) (d := ?x70) (ev_visited (js := Untaken.J2) (s := (Untaken.S one two)) (n := 0) (p := ⟨⟨["www", "b", "c"], [], true⟩, [⟨"id", some one, none, none, true⟩]⟩) (js' := (Untaken.J1 one)) (d1 := ?x65) (d2 := ?x66) ?x67 ?x68 ?x69 Untaken.g2 (Untaken.gS Hone Htwo) rfl (Untaken.e9 one)) ?x71 ?x72 (Untaken.g1 Hone)) (ev_eqJ (js := Untaken.J2) (d := ?x78) (ev_behind (s := (Untaken.S one two)) (row := []) (js := Untaken.J2) (d1 := ?x73) (d2 := ?x74) ?x75 ?x76 ?x77 (Untaken.gS Hone Htwo) rfl (Untaken.e10 one two)) ?x79 ?x80 Untaken.g2)))
    case x59 => repeat' (first | with_reducible exact eva_nil | with_reducible refine eva_cons (d := ?_) (ds := ?_) ?_ ?_ | ((with_reducible refine ev_var (d := ?_) ?_); exact rfl) | with_reducible exact ev_non | with_reducible exact ev_bl | with_reducible exact ev_int | ((with_reducible refine ev_str ?_); exact Nat.le_of_ble_eq_true rfl) | with_reducible refine ev_tup (ds := ?_) ?_ ?_ | with_reducible refine ev_lst (ds := ?_) ?_ ?_ | with_reducible refine ev_ixLz (ds := ?_) (d := ?_) ?_ ?_ ?_ | with_reducible refine ev_ixTz (ds := ?_) (d := ?_) ?_ ?_ ?_ | with_reducible refine ev_slTz (ds := ?_) (es := ?_) ?_ ?_ ?_ | with_reducible refine ev_slLz (ds := ?_) (es := ?_) ?_ ?_ ?_ | with_reducible refine ev_cat (as := ?_) (bs := ?_) ?_ ?_ ?_ | exact Nat.le_of_ble_eq_true rfl | exact rfl | exact ev_int)
    case x60 => rfl
    case x61 => rfl
    case x63 => repeat' (first | with_reducible exact eva_nil | with_reducible refine eva_cons (d := ?_) (ds := ?_) ?_ ?_ | ((with_reducible refine ev_var (d := ?_) ?_); exact rfl) | with_reducible exact ev_non | with_reducible exact ev_bl | with_reducible exact ev_int | ((with_reducible refine ev_str ?_); exact Nat.le_of_ble_eq_true rfl) | with_reducible refine ev_tup (ds := ?_) ?_ ?_ | with_reducible refine ev_lst (ds := ?_) ?_ ?_ | with_reducible refine ev_ixLz (ds := ?_) (d := ?_) ?_ ?_ ?_ | with_reducible refine ev_ixTz (ds := ?_) (d := ?_) ?_ ?_ ?_ | with_reducible refine ev_slTz (ds := ?_) (es := ?_) ?_ ?_ ?_ | with_reducible refine ev_slLz (ds := ?_) (es := ?_) ?_ ?_ ?_ | with_reducible refine ev_cat (as := ?_) (bs := ?_) ?_ ?_ ?_ | exact Nat.le_of_ble_eq_true rfl | exact rfl | exact ev_int)
    case x64 => rfl
    case x67 => repeat' (first | with_reducible exact eva_nil | with_reducible refine eva_cons (d := ?_) (ds := ?_) ?_ ?_ | ((with_reducible refine ev_var (d := ?_) ?_); exact rfl) | with_reducible exact ev_non | with_reducible exact ev_bl | with_reducible exact ev_int | ((with_reducible refine ev_str ?_); exact Nat.le_of_ble_eq_true rfl) | with_reducible refine ev_tup (ds := ?_) ?_ ?_ | with_reducible refine ev_lst (ds := ?_) ?_ ?_ | with_reducible refine ev_ixLz (ds := ?_) (d := ?_) ?_ ?_ ?_ | with_reducible refine ev_ixTz (ds := ?_) (d := ?_) ?_ ?_ ?_ | with_reducible refine ev_slTz (ds := ?_) (es := ?_) ?_ ?_ ?_ | with_reducible refine ev_slLz (ds := ?_) (es := ?_) ?_ ?_ ?_ | with_reducible refine ev_cat (as := ?_) (bs := ?_) ?_ ?_ ?_ | exact Nat.le_of_ble_eq_true rfl | exact rfl | exact ev_int)
    case x68 => rfl
    case x69 => rfl
    case x71 => repeat' (first | with_reducible exact eva_nil | with_reducible refine eva_cons (d := ?_) (ds := ?_) ?_ ?_ | ((with_reducible refine ev_var (d := ?_) ?_); exact rfl) | with_reducible exact ev_non | with_reducible exact ev_bl | with_reducible exact ev_int | ((with_reducible refine ev_str ?_); exact Nat.le_of_ble_eq_true rfl) | with_reducible refine ev_tup (ds := ?_) ?_ ?_ | with_reducible refine ev_lst (ds := ?_) ?_ ?_ | with_reducible refine ev_ixLz (ds := ?_) (d := ?_) ?_ ?_ ?_ | with_reducible refine ev_ixTz (ds := ?_) (d := ?_) ?_ ?_ ?_ | with_reducible refine ev_slTz (ds := ?_) (es := ?_) ?_ ?_ ?_ | with_reducible refine ev_slLz (ds := ?_) (es := ?_) ?_ ?_ ?_ | with_reducible refine ev_cat (as := ?_) (bs := ?_) ?_ ?_ ?_ | exact Nat.le_of_ble_eq_true rfl | exact rfl | exact ev_int)
    case x72 => rfl
    case x75 => repeat' (first | with_reducible exact eva_nil | with_reducible refine eva_cons (d := ?_) (ds := ?_) ?_ ?_ | ((with_reducible refine ev_var (d := ?_) ?_); exact rfl) | with_reducible exact ev_non | with_reducible exact ev_bl | with_reducible exact ev_int | ((with_reducible refine ev_str ?_); exact Nat.le_of_ble_eq_true rfl) | with_reducible refine ev_tup (ds := ?_) ?_ ?_ | with_reducible refine ev_lst (ds := ?_) ?_ ?_ | with_reducible refine ev_ixLz (ds := ?_) (d := ?_) ?_ ?_ ?_ | with_reducible refine ev_ixTz (ds := ?_) (d := ?_) ?_ ?_ ?_ | with_reducible refine ev_slTz (ds := ?_) (es := ?_) ?_ ?_ ?_ | with_reducible refine ev_slLz (ds := ?_) (es := ?_) ?_ ?_ ?_ | with_reducible refine ev_cat (as := ?_) (bs := ?_) ?_ ?_ ?_ | exact Nat.le_of_ble_eq_true rfl | exact rfl | exact ev_int)
    case x76 => rfl
    case x77 => rfl
    case x79 => repeat' (first | with_reducible exact eva_nil | with_reducible refine eva_cons (d := ?_) (ds := ?_) ?_ ?_ | ((with_reducible refine ev_var (d := ?_) ?_); exact rfl) | with_reducible exact ev_non | with_reducible exact ev_bl | with_reducible exact ev_int | ((with_reducible refine ev_str ?_); exact Nat.le_of_ble_eq_true rfl) | with_reducible refine ev_tup (ds := ?_) ?_ ?_ | with_reducible refine ev_lst (ds := ?_) ?_ ?_ | with_reducible refine ev_ixLz (ds := ?_) (d := ?_) ?_ ?_ ?_ | with_reducible refine ev_ixTz (ds := ?_) (d := ?_) ?_ ?_ ?_ | with_reducible refine ev_slTz (ds := ?_) (es := ?_) ?_ ?_ ?_ | with_reducible refine ev_slLz (ds := ?_) (es := ?_) ?_ ?_ ?_ | with_reducible refine ev_cat (as := ?_) (bs := ?_) ?_ ?_ ?_ | exact Nat.le_of_ble_eq_true rfl | exact rfl | exact ev_int)
    case x80 => rfl
end
end S1
/-! loops and comprehensions over data -/
namespace Jv
open PySem PySem.Spec PyProof.Rows L2
section
variable {K : PySem.W.Frag} {r : Rho}
theorem EnvD.setN {H : Hp} {sg : L2.St} {x : Option V} {i : Nat} (e : EnvD K H sg r) (h : r[i]? = some none) : EnvD K H (sg.set i x) r := by
  refine ⟨fun j d q => ?_, by rw [List.length_set, e.len]⟩
  have n : i ≠ j := by
    rintro rfl
    rw [h] at q
    cases q
  obtain ⟨v, a, b⟩ := e.at_ j d q
  exact ⟨v, by rw [List.getElem?_set_ne n]; exact a, b⟩
theorem EnvD.drop {H : Hp} {sg : L2.St} (i : Nat) (e : EnvD K H sg r) : EnvD K H sg (r.set i none) := by
  refine ⟨fun j d q => ?_, by rw [List.length_set, e.len]⟩
  by_cases n : i = j
  · subst n
    rw [List.getElem?_set] at q
    split at q
    · split at q
      · cases q
      · cases q
    · exact absurd rfl ‹_›
  · rw [List.getElem?_set_ne n] at q
    exact e.at_ j d q
theorem EnvD.wipe1 {H : Hp} {sg : L2.St} {j : Nat} {v : V} {d : PyData} (e : EnvD K H sg r) (hv : Da K H v d) : EnvD K H ((wipe sg [j]).set j (some v)) (r.set j (some d)) := by
  show EnvD K H ((sg.set j none).set j (some v)) (r.set j (some d))
  rw [List.set_set]
  exact e.set j hv
theorem wipe_one {sg : L2.St} {j : Nat} (x : V) : wipe ((wipe sg [j]).set j (some x)) [j] = wipe sg [j] := by
  show (((sg.set j none).set j (some x)).set j none) = sg.set j none
  rw [List.set_set, List.set_set]
/-- a comprehension over what is walked -/
theorem ev_lcW {β : Type} {J : It} {n : Nat} {Gd : Hp → Prop} {Y : Nat → Hp → V → Hp → Prop} {sg : L2.St} {H1 : Hp} {te : TE} {j : Nat} {Q : VK} (bs : List β) (a c : β → PyData) (wk : Walk J n Gd Y) (hn : n = bs.length) (hz : n ≤ 1000)
    (hGd : ∀ H, Same H1 H → Gd H) (hY : ∀ i H x H', i < n → Same H1 H → Y i H x H' → H' = H ∧ ∃ b, bs[i]? = some b ∧ Da K H x (a b)) (en : EnvD K H1 sg r)
    (g : ∀ b ∈ bs, EvR K te (r.set j (some (a b))) (c b)) (f : ∀ b ∈ bs, flat (c b) = true) (q : ∀ H' v, Same H1 H' → Da K H' v (.list (bs.map c)) → Q v H') :
    ∀ D, H1 D = none → ∃ W : Nat → Nat → Hp → Prop, (∃ m, W 0 m (upd H1 D (.lst []))) ∧ ∀ i m H, W i m H → (J.stop i H ∧ Q (.ref D) H) ∨ (J.go i H ∧ ∃ Nx : Hp → Prop, (∀ H', Nx H' → ∃ m', m' < m ∧ W (i + 1) m' H') ∧
      ∀ x H', J.yld i H x H' → gName j x (wipe sg [j]) H' fun s2 H2 => wipe s2 [j] = wipe sg [j] ∧ tYes s2 H2 fun b H3 => if b = true then te s2 H3 fun y H4 => ∃ acc, H4 D = some (.lst acc) ∧ acc.length < sizeLine ∧ Nx (upd H4 D (.lst (acc ++ [y]))) else Nx H3) := by
  intro D nD
  have sD : ∀ {H : Hp} {o : HO}, Same H1 H → Same H1 (upd H D o) := fun {H o} s b u e => by
    rw [upd_ne (ne_of_none e nD)]
    exact s b u e
  refine lc_map wk (fun i acc H => Same H1 H ∧ DaAll K H acc ((bs.take i).map c)) ⟨sD (Same.refl _), .nil⟩ (fun i acc H _ g _ => hGd H g.1) (fun x => wipe_one x) (fun i acc H hi g => ?_) (fun i x acc H H' hi g0 d y k hk => ?_) (fun acc H g0 d => ?_)
  · rw [DaAll.len g.2, List.length_map, List.length_take]
    exact Nat.lt_of_lt_of_le (Nat.lt_of_le_of_lt (Nat.min_le_left _ _) (Nat.lt_of_lt_of_le hi hz)) (by decide)
  · obtain ⟨rfl, b, eb, db⟩ := hY i H x H' hi g0.1 y
    have mb : b ∈ bs := List.mem_of_getElem? eb
    refine g b mb _ H' ((en.same g0.1).wipe1 db) _ fun H4 v s4 hv => hk v H4 (s4 _ _ d) ⟨sD (g0.1.trans s4), ?_⟩
    have t : TupS H4 (upd H4 D (.lst (acc ++ [v]))) := tupS_mut (s4 _ _ d) (fun xs z => by cases z) (fun a b z => by cases z)
    have fa : flatAll ((bs.take i).map c) = true := flatAll_of fun x hx => by
      obtain ⟨b', hb', rfl⟩ := List.mem_map.mp hx
      exact f b' (List.mem_of_mem_take hb')
    rw [List.take_add_one, eb]
    show DaAll K _ (acc ++ [v]) (((bs.take i) ++ [b]).map c)
    rw [List.map_append]
    exact DaAll.app (DaAll.tupS t _ _ fa (DaAll.same s4 _ _ g0.2)) (.cons (Da.tupS t _ _ (f b mb) hv) .nil)
  · have e := g0.2
    rw [hn, List.take_length] at e
    exact q H _ g0.1 (.lst (SqL.of d) e (by rw [List.length_map, ← hn]; exact hz))
theorem ev_lcR {te : TE} {j n : Nat} {z : Int} (c : Nat → PyData) (p : Int.ofNat n = z) (hz : n ≤ 1000) (g : ∀ k, k < n → EvR K te (r.set j (some (.int k))) (c k)) (f : ∀ k, k < n → flat (c k) = true) :
    EvR K (tLc (iRng1 (tCons (tC (.int z)) tNil)) (gName j) tYes te [j]) r (.list ((List.range n).map c)) := fun sg H en Q q => by
  subst p
  refine ⟨(n : Int), rfl, by omega, by omega, ?_⟩
  show ∀ D, H D = none → _
  refine ev_lcW (List.range n) (fun k => .int k) c walk_range (by rw [List.length_range]; rfl) hz (fun _ _ => trivial) (fun i H x H' hi s y => ⟨y.1, i, ?_, ?_⟩) en (fun b hb => g b (List.mem_range.mp hb)) (fun b hb => f b (List.mem_range.mp hb)) q
  · exact List.getElem?_range (show i < n from hi)
  · rw [y.2]
    show Da K H (.int (0 + (i : Int))) (.int (i : Int))
    rw [Int.zero_add]
    exact .int _
theorem ev_lcT {β : Type} {t te : TE} {j : Nat} (bs : List β) (a c : β → PyData) (h : EvR K t r (.tuple (bs.map a))) (g : ∀ b ∈ bs, EvR K te (r.set j (some (a b))) (c b)) (f : ∀ b ∈ bs, flat (c b) = true) :
    EvR K (tLc (iTup K t) (gName j) tYes te [j]) r (.list (bs.map c)) := fun sg H en Q q => by
  refine h sg H en _ fun H1 v s1 hv => ?_
  cases hv with
  | @tup pa xs _ h1 h2 hz =>
    have len := DaAll.len h2
    rw [List.length_map] at len hz
    refine ⟨_, rfl, ⟨xs, h1⟩, ?_⟩
    refine ev_lcW bs a c (walk_tup (xs := xs)) len (by omega) (fun H' s => sqT_same s h1) (fun i H x H' hi s y => ⟨y.1, ?_⟩) (en.same s1) g f (fun H' v s => q H' v (s1.trans s))
    obtain ⟨d, ed, dd⟩ := DaAll.get h2 y.2
    rw [List.getElem?_map] at ed
    cases eb : bs[i]? with
    | none => rw [eb] at ed; cases ed
    | some b =>
      rw [eb] at ed
      cases ed
      exact ⟨b, rfl, Da.same s _ _ dd⟩
/-- tuple(..) of a list -/
theorem ev_tupL {t : TE} {ds : List PyData} (h : EvR K t r (.list ds)) : EvR K (tCB (fun xs H Q => ∃ p ys, xs = [V.ref p] ∧ ((SqL K H p ys ∧ ∀ (l : Addr), H l = none → Q (V.ref l) (upd H l (HO.tup ys))) ∨ SqT K H p ys ∧ Q (V.ref p) H)) (tCons t tNil)) r (.tuple ds) := fun sg H en Q q =>
  h sg H en _ fun H1 v s1 hv => by
    cases hv with
    | @lst pa xs _ h1 h2 hz =>
      refine ⟨pa, xs, rfl, Or.inl ⟨h1, fun l nl => ?_⟩⟩
      have s2 := same_new (o := HO.tup xs) nl
      exact q _ _ (s1.trans s2) (.tup (SqT.of upd_same) (DaAll.same s2 _ _ h2) hz)
/-! ### steps -/
def StepR (K : PySem.W.Frag) (t : TS) (r r' : Rho) : Prop := ∀ sg H (D : Ends), EnvD K H sg r → (∀ sg' H', Same H H' → EnvD K H' sg' r' → D.nx sg' H') → t D sg H
theorem step_asg {t : TE} {i : Nat} {d : PyData} (h : EvR K t r d) : StepR K (tAsg t (gName i)) r (r.set i (some d)) := fun sg H D en q => h sg H en _ fun H1 v s1 hv => q _ H1 s1 ((en.same s1).set i hv)
theorem run_step {t u : TS} {r' : Rho} {e : PyData} (h : StepR K t r r') (g : RunR K u r' e) : RunR K (tSeq t u) r e := fun sg H D en q => h sg H _ en fun sg' H' s en' => g sg' H' D en' fun H2 v s2 hv => q H2 v (s.trans s2) hv
/-- for i in range(n): a body that changes nothing that stands -/
theorem step_forR {tb : TS} {j n : Nat} {z : Int} (R Rb : Nat → Rho) (p : Int.ofNat n = z) (hz : n ≤ 1000) (h : ∀ k, k < n → StepR K tb ((R k).set j (some (.int k))) (Rb k)) (e : ∀ k, k < n → (Rb k).set j none = R (k + 1)) :
    StepR K (tFor (iRng1 (tCons (tC (.int z)) tNil)) (gName j) tb) (R 0) (R n) := fun sg H D en q => by
  subst p
  refine ⟨(n : Int), rfl, by omega, by omega, ?_⟩
  refine for_it walk_range (fun k s' H' => Same H H' ∧ EnvD K H' s' (R k)) ⟨Same.refl _, en⟩ (fun _ _ _ _ _ => trivial) (fun i x s' H' H2 hi g y => ?_) (fun s' H' g => q _ _ g.1 g.2)
  obtain ⟨rfl, rfl⟩ := y
  have e1 : EnvD K H2 (s'.set j (some (.int (0 + (i : Int))))) ((R i).set j (some (.int (i : Int)))) := g.2.set j (by rw [Int.zero_add]; exact .int _)
  refine h i hi _ _ _ e1 fun s2 H3 s3 e3 => ⟨g.1.trans s3, ?_⟩
  have := e3.drop j
  rw [e i hi] at this
  exact this
/-- for x in a list of data -/
theorem step_forL {β : Type} {t : TE} {tb : TS} {j : Nat} (bs : List β) (a : β → PyData) (R Rb : Nat → Rho) (hl : EvR K t (R 0) (.list (bs.map a))) (h : ∀ k b, bs[k]? = some b → StepR K tb ((R k).set j (some (a b))) (Rb k)) (e : ∀ k, k < bs.length → (Rb k).set j none = R (k + 1)) :
    StepR K (tFor (iList K t) (gName j) tb) (R 0) (R bs.length) := fun sg H D en q => by
  refine hl sg H en _ fun H1 v s1 hv => ?_
  cases hv with
  | @lst pa xs _ h1 h2 hz =>
    have len := DaAll.len h2
    rw [List.length_map] at len hz
    refine ⟨_, rfl, ⟨xs, h1⟩, ?_⟩
    refine for_it (walk_list (xs := xs)) (fun k s' H' => Same H1 H' ∧ EnvD K H' s' (R k)) ⟨Same.refl _, en.same s1⟩ (fun i s' H' _ g => g.1.seq h1) (fun i x s' H' H2 hi g y => ?_) (fun s' H' g => q _ _ (s1.trans g.1) (by rw [← len]; exact g.2))
    obtain ⟨rfl, ex⟩ := y
    obtain ⟨d, ed, dd⟩ := DaAll.get h2 ex
    rw [List.getElem?_map] at ed
    cases eb : bs[i]? with
    | none => rw [eb] at ed; cases ed
    | some b =>
      rw [eb] at ed
      cases ed
      refine h i b eb _ _ _ (g.2.set j (Da.same g.1 _ _ dd)) fun s2 H3 s3 e3 => ⟨g.1.trans s3, ?_⟩
      have := e3.drop j
      rw [e i (by omega)] at this
      exact this
/-- s[k] of a written string -/
theorem ev_ixS {t u : TE} {x : Str} {k c : Nat} (h : EvR K t r (.str x)) (g : EvR K u r (.int (k : Nat))) (l : x.length ≤ 1000) (e : x.cps.toList[k]? = some c) : EvR K (tOp rIxS t u) r (.str ⟨#[c]⟩) := fun sg H en Q q =>
  h sg H en _ fun H1 v s1 hv => g sg H1 (en.same s1) _ fun H2 w s2 hw => by
    cases hv
    cases hw
    exact ⟨x, _, c, rfl, rfl, Nat.le_trans l (by decide), atI_nat e, q H2 _ (s1.trans s2) (.str _ (show 1 ≤ 1000 by decide))⟩
theorem ev_addS {t u : TE} {x y : Str} (h : EvR K t r (.str x)) (g : EvR K u r (.str y)) (l : x.length + y.length ≤ 1000) : EvR K (tOp (fun a b H Q => ∃ i j, a = V.str i ∧ b = V.str j ∧ i.length + j.length ≤ sizeLine ∧ Q (V.str (i ++ j)) H) t u) r (.str (x ++ y)) := fun sg H en Q q =>
  h sg H en _ fun H1 v s1 hv => g sg H1 (en.same s1) _ fun H2 w s2 hw => by
    cases hv
    cases hw
    exact ⟨x, y, rfl, rfl, Nat.le_trans l (by decide), q H2 _ (s1.trans s2) (.str _ (by rw [Str.length_append]; exact l))⟩
/-- a thing and an empty list are told at once; the list is added to in a loop, the thing made of a list that is made ahead -/
theorem run_lstLoop {th tl tt : TE} {u : TS} {n : Nat} {z : Int} {d e : PyData} (sm : Nat → PyData) (pg : Nat → PyData) (p : Int.ofNat n = z) (hz : n ≤ 1000) (hl : 4 < r.length) (n3 : r[3]? = some none) (n4 : r[4]? = some none)
    (h : EvR K th r d) (hA : ∀ k, k < n → EvR K tl (((r.set 1 (some d)).set 2 (some (.list ((List.range k).map pg)))).set 3 (some (.int k))) (sm k))
    (hB : ∀ k, k < n → EvR K tt ((((r.set 1 (some d)).set 2 (some (.list ((List.range k).map pg)))).set 3 (some (.int k))).set 4 (some (sm k))) (pg k)) (f : ∀ k, flat (pg k) = true)
    (g : RunR K u ((r.set 1 (some d)).set 2 (some (.list ((List.range n).map pg)))) e) :
    RunR K (tSeq (tAsg (tTup (tCons th (tCons (tLst tNil) tNil))) (gTup K 2 (gCons (gName 1) (gCons (gName 2) gNil)))) (tSeq (tFor (iRng1 (tCons (tC (.int z)) tNil)) (gName 3) (tSeq (tAsg tl (gName 4)) (tDrop (tBM K "list" rAppend (tVar 2) (tCons tt tNil))))) u)) r e := fun sg H D en q => by
  refine h sg H en _ fun H1 v s1 hv => ⟨Nat.zero_le _, fun l nl => ?_⟩
  have s2 := same_new (o := HO.lst []) nl
  refine ⟨by show 2 ≤ sizeLine; decide, fun t nt => ?_⟩
  have s3 := same_new (o := HO.tup [v, .ref l]) nt
  refine ⟨t, _, rfl, SqT.of upd_same, rfl, v, _, rfl, .ref l, _, rfl, rfl, ?_⟩
  have lt : l ≠ t := by
    rintro rfl
    rw [upd_same] at nt
    cases nt
  subst p
  have e1 : EnvD K H1 (sg.set 1 (some v)) (r.set 1 (some d)) := (en.same s1).set 1 hv
  have hsl : 2 < sg.length := by rw [en.len]; omega
  refine ⟨(n : Int), rfl, by omega, by omega, ?_⟩
  have fa : ∀ k, flatAll ((List.range k).map pg) = true := fun k => flatAll_of fun x hx => by
    obtain ⟨b, _, rfl⟩ := List.mem_map.mp hx
    exact f b
  -- what the slots hold while the loop runs
  have env : ∀ {H' : Hp} {xs : List V} {k : Nat} {x y : Option V}, Same H1 H' → H' l = some (.lst xs) → DaAll K H' xs ((List.range k).map pg) → k ≤ n → EnvD K H' ((((sg.set 1 (some v)).set 2 (some (.ref l))).set 3 x).set 4 y) ((r.set 1 (some d)).set 2 (some (.list ((List.range k).map pg)))) := by
    intro H' xs k x y s hl' hx hk
    have e2 : EnvD K H' ((sg.set 1 (some v)).set 2 (some (.ref l))) ((r.set 1 (some d)).set 2 (some (.list ((List.range k).map pg)))) := (e1.same s).set 2 (.lst (SqL.of hl') hx (by rw [List.length_map, List.length_range]; omega))
    refine (e2.setN (i := 3) ?_).setN (i := 4) ?_
    · rw [List.getElem?_set_ne (by decide), List.getElem?_set_ne (by decide)]; exact n3
    · rw [List.getElem?_set_ne (by decide), List.getElem?_set_ne (by decide)]; exact n4
  refine for_it walk_range (fun k s' H' => Same H1 H' ∧ (∃ xs, H' l = some (.lst xs) ∧ DaAll K H' xs ((List.range k).map pg)) ∧ ∃ x y, s' = (((sg.set 1 (some v)).set 2 (some (.ref l))).set 3 x).set 4 y) ⟨s2.trans s3, ⟨[], s3 _ _ upd_same, .nil⟩, sg[3]?.getD none, sg[4]?.getD none, ?_⟩ (fun _ _ _ _ _ => trivial) (fun i x s' H' H2 hi g0 y => ?_) (fun s' H' g0 => ?_)
  · have e3 : sg[3]? = some (sg[3]?.getD none) := by
      rw [List.getElem?_eq_getElem (show 3 < sg.length by rw [en.len]; omega)]; rfl
    have e4 : sg[4]? = some (sg[4]?.getD none) := by
      rw [List.getElem?_eq_getElem (show 4 < sg.length by rw [en.len]; omega)]; rfl
    refine List.ext_getElem? fun j => ?_
    by_cases j4 : j = 4
    · subst j4
      rw [List.getElem?_set_self (by rw [List.length_set, List.length_set, List.length_set, en.len]; omega), List.getElem?_set_ne (by decide), List.getElem?_set_ne (by decide)]
      exact e4
    · rw [List.getElem?_set_ne (Ne.symm j4)]
      by_cases j3 : j = 3
      · subst j3
        rw [List.getElem?_set_self (by rw [List.length_set, List.length_set, en.len]; omega), List.getElem?_set_ne (by decide), List.getElem?_set_ne (by decide)]
        exact e3
      · rw [List.getElem?_set_ne (Ne.symm j3)]
  · obtain ⟨rfl, rfl⟩ := y
    obtain ⟨sm0, ⟨xs, hx, dx⟩, x, y, rfl⟩ := g0
    have e2 : EnvD K H2 (((((sg.set 1 (some v)).set 2 (some (.ref l))).set 3 x).set 4 y).set 3 (some (.int (0 + (i : Int))))) (((r.set 1 (some d)).set 2 (some (.list ((List.range i).map pg)))).set 3 (some (.int i))) := (env sm0 hx dx (Nat.le_of_lt hi)).set 3 (by rw [Int.zero_add]; exact .int _)
    refine hA i hi _ _ e2 _ fun H3 a s4 ha => ?_
    have e3 := (e2.same s4).set 4 ha
    have l2 : ((((((sg.set 1 (some v)).set 2 (some (.ref l))).set 3 x).set 4 y).set 3 (some (.int (0 + (i : Int))))).set 4 (some a))[2]? = some (some (.ref l)) := by
      rw [List.getElem?_set_ne (by decide), List.getElem?_set_ne (by decide), List.getElem?_set_ne (by decide), List.getElem?_set_ne (by decide)]
      exact List.getElem?_set_self (by rw [List.length_set]; exact hsl)
    refine ⟨.ref l, l2, Or.inl ⟨rfl, xs, SqL.of (s4 _ _ hx)⟩, hB i hi _ _ e3 _ fun H4 b s5 hb => ?_⟩
    have hx4 : H4 l = some (.lst xs) := s5 _ _ (s4 _ _ hx)
    refine ⟨l, xs, b, rfl, rfl, hx4, ?_, ?_⟩
    · rw [DaAll.len dx, List.length_map, List.length_range]
      exact Nat.lt_of_lt_of_le (Nat.lt_of_lt_of_le hi hz) (by decide)
    · have s6 : Same H1 (upd H4 l (.lst (xs ++ [b]))) := fun c o ec => by
        rw [upd_ne (ne_of_none ec nl)]
        exact s5 _ _ (s4 _ _ (sm0 _ _ ec))
      have t : TupS H4 (upd H4 l (.lst (xs ++ [b]))) := tupS_mut hx4 (fun xs z => by cases z) (fun a b z => by cases z)
      refine ⟨s6, ⟨xs ++ [b], upd_same, ?_⟩, some (.int (0 + (i : Int))), some a, ?_⟩
      · rw [List.range_succ, List.map_append]
        exact DaAll.app (DaAll.tupS t _ _ (fa i) (DaAll.same s5 _ _ (DaAll.same s4 _ _ dx))) (.cons (Da.tupS t _ _ (f i) hb) .nil)
      · rw [List.set_comm _ _ (show (4 : Nat) ≠ 3 by decide), List.set_set, List.set_set]
  · obtain ⟨sm0, ⟨xs, hx, dx⟩, x, y, rfl⟩ := g0
    exact g _ _ D (env sm0 hx dx (Nat.le_refl n)) fun H2 w s4 hw => q H2 w ((s1.trans sm0).trans s4) hw
end
end Jv
namespace S1
open PySem PySem.Spec PyProof.Rows L2 Jv
section
variable {P : Program} {w : World} {K : PySem.W.Frag} {mg : Str → Option Value} {base : Heap}
namespace Wide5
def S (one : Str) : List Pg := [⟨⟨["a", "b", "c"], [], true⟩, [⟨"idav", some one, none, some [], false⟩, ⟨"idaw", some one, none, some [], false⟩, ⟨"idax", some one, none, some [], false⟩, ⟨"iday", some one, none, some [], false⟩, ⟨"idaz", some one, none, some [], false⟩]⟩, ⟨⟨["a", "b", "c"], [], true⟩, [⟨"idbv", some one, none, some [], false⟩, ⟨"idbw", some one, none, some [], false⟩, ⟨"idbx", some one, none, some [], false⟩, ⟨"idby", some one, none, some [], false⟩, ⟨"idbz", some one, none, some [], false⟩]⟩, ⟨⟨["a", "b", "c"], [], true⟩, [⟨"idcv", some one, none, some [], false⟩, ⟨"idcw", some one, none, some [], false⟩, ⟨"idcx", some one, none, some [], false⟩, ⟨"idcy", some one, none, some [], false⟩, ⟨"idcz", some one, none, some [], false⟩]⟩, ⟨⟨["a", "b", "c"], [], true⟩, [⟨"iddv", some one, none, some [], false⟩, ⟨"iddw", some one, none, some [], false⟩, ⟨"iddx", some one, none, some [], false⟩, ⟨"iddy", some one, none, some [], false⟩, ⟨"iddz", some one, none, some [], false⟩]⟩, ⟨⟨["a", "b", "c"], [], true⟩, [⟨"idev", some one, none, some [], false⟩, ⟨"idew", some one, none, some [], false⟩, ⟨"idex", some one, none, some [], false⟩, ⟨"idey", some one, none, some [], false⟩, ⟨"idez", some one, none, some [], false⟩]⟩]
def J1 : List Kp := []
def J2 (one : Str) : List Kp := [⟨⟨"idav", ["a", "b", "c"], [], true⟩, one, false⟩, ⟨⟨"idaw", ["a", "b", "c"], [], true⟩, one, false⟩, ⟨⟨"idax", ["a", "b", "c"], [], true⟩, one, false⟩, ⟨⟨"iday", ["a", "b", "c"], [], true⟩, one, false⟩, ⟨⟨"idaz", ["a", "b", "c"], [], true⟩, one, false⟩]
def J3 (one : Str) : List Kp := [⟨⟨"idav", ["a", "b", "c"], [], true⟩, one, false⟩, ⟨⟨"idaw", ["a", "b", "c"], [], true⟩, one, false⟩, ⟨⟨"idax", ["a", "b", "c"], [], true⟩, one, false⟩, ⟨⟨"iday", ["a", "b", "c"], [], true⟩, one, false⟩, ⟨⟨"idaz", ["a", "b", "c"], [], true⟩, one, false⟩, ⟨⟨"idbv", ["a", "b", "c"], [], true⟩, one, false⟩, ⟨⟨"idbw", ["a", "b", "c"], [], true⟩, one, false⟩, ⟨⟨"idbx", ["a", "b", "c"], [], true⟩, one, false⟩, ⟨⟨"idby", ["a", "b", "c"], [], true⟩, one, false⟩, ⟨⟨"idbz", ["a", "b", "c"], [], true⟩, one, false⟩]
def J4 (one : Str) : List Kp := [⟨⟨"idav", ["a", "b", "c"], [], true⟩, one, false⟩, ⟨⟨"idaw", ["a", "b", "c"], [], true⟩, one, false⟩, ⟨⟨"idax", ["a", "b", "c"], [], true⟩, one, false⟩, ⟨⟨"iday", ["a", "b", "c"], [], true⟩, one, false⟩, ⟨⟨"idaz", ["a", "b", "c"], [], true⟩, one, false⟩, ⟨⟨"idbv", ["a", "b", "c"], [], true⟩, one, false⟩, ⟨⟨"idbw", ["a", "b", "c"], [], true⟩, one, false⟩, ⟨⟨"idbx", ["a", "b", "c"], [], true⟩, one, false⟩, ⟨⟨"idby", ["a", "b", "c"], [], true⟩, one, false⟩, ⟨⟨"idbz", ["a", "b", "c"], [], true⟩, one, false⟩, ⟨⟨"idcv", ["a", "b", "c"], [], true⟩, one, false⟩, ⟨⟨"idcw", ["a", "b", "c"], [], true⟩, one, false⟩, ⟨⟨"idcx", ["a", "b", "c"], [], true⟩, one, false⟩, ⟨⟨"idcy", ["a", "b", "c"], [], true⟩, one, false⟩, ⟨⟨"idcz", ["a", "b", "c"], [], true⟩, one, false⟩]
def J5 (one : Str) : List Kp := [⟨⟨"idav", ["a", "b", "c"], [], true⟩, one, false⟩, ⟨⟨"idaw", ["a", "b", "c"], [], true⟩, one, false⟩, ⟨⟨"idax", ["a", "b", "c"], [], true⟩, one, false⟩, ⟨⟨"iday", ["a", "b", "c"], [], true⟩, one, false⟩, ⟨⟨"idaz", ["a", "b", "c"], [], true⟩, one, false⟩, ⟨⟨"idbv", ["a", "b", "c"], [], true⟩, one, false⟩, ⟨⟨"idbw", ["a", "b", "c"], [], true⟩, one, false⟩, ⟨⟨"idbx", ["a", "b", "c"], [], true⟩, one, false⟩, ⟨⟨"idby", ["a", "b", "c"], [], true⟩, one, false⟩, ⟨⟨"idbz", ["a", "b", "c"], [], true⟩, one, false⟩, ⟨⟨"idcv", ["a", "b", "c"], [], true⟩, one, false⟩, ⟨⟨"idcw", ["a", "b", "c"], [], true⟩, one, false⟩, ⟨⟨"idcx", ["a", "b", "c"], [], true⟩, one, false⟩, ⟨⟨"idcy", ["a", "b", "c"], [], true⟩, one, false⟩, ⟨⟨"idcz", ["a", "b", "c"], [], true⟩, one, false⟩, ⟨⟨"iddv", ["a", "b", "c"], [], true⟩, one, false⟩, ⟨⟨"iddw", ["a", "b", "c"], [], true⟩, one, false⟩, ⟨⟨"iddx", ["a", "b", "c"], [], true⟩, one, false⟩, ⟨⟨"iddy", ["a", "b", "c"], [], true⟩, one, false⟩, ⟨⟨"iddz", ["a", "b", "c"], [], true⟩, one, false⟩]
def J6 (one : Str) : List Kp := [⟨⟨"idav", ["a", "b", "c"], [], true⟩, one, false⟩, ⟨⟨"idaw", ["a", "b", "c"], [], true⟩, one, false⟩, ⟨⟨"idax", ["a", "b", "c"], [], true⟩, one, false⟩, ⟨⟨"iday", ["a", "b", "c"], [], true⟩, one, false⟩, ⟨⟨"idaz", ["a", "b", "c"], [], true⟩, one, false⟩, ⟨⟨"idbv", ["a", "b", "c"], [], true⟩, one, false⟩, ⟨⟨"idbw", ["a", "b", "c"], [], true⟩, one, false⟩, ⟨⟨"idbx", ["a", "b", "c"], [], true⟩, one, false⟩, ⟨⟨"idby", ["a", "b", "c"], [], true⟩, one, false⟩, ⟨⟨"idbz", ["a", "b", "c"], [], true⟩, one, false⟩, ⟨⟨"idcv", ["a", "b", "c"], [], true⟩, one, false⟩, ⟨⟨"idcw", ["a", "b", "c"], [], true⟩, one, false⟩, ⟨⟨"idcx", ["a", "b", "c"], [], true⟩, one, false⟩, ⟨⟨"idcy", ["a", "b", "c"], [], true⟩, one, false⟩, ⟨⟨"idcz", ["a", "b", "c"], [], true⟩, one, false⟩, ⟨⟨"iddv", ["a", "b", "c"], [], true⟩, one, false⟩, ⟨⟨"iddw", ["a", "b", "c"], [], true⟩, one, false⟩, ⟨⟨"iddx", ["a", "b", "c"], [], true⟩, one, false⟩, ⟨⟨"iddy", ["a", "b", "c"], [], true⟩, one, false⟩, ⟨⟨"iddz", ["a", "b", "c"], [], true⟩, one, false⟩, ⟨⟨"idev", ["a", "b", "c"], [], true⟩, one, false⟩, ⟨⟨"idew", ["a", "b", "c"], [], true⟩, one, false⟩, ⟨⟨"idex", ["a", "b", "c"], [], true⟩, one, false⟩, ⟨⟨"idey", ["a", "b", "c"], [], true⟩, one, false⟩, ⟨⟨"idez", ["a", "b", "c"], [], true⟩, one, false⟩]
def JW (one : Str) : Nat → List Kp
  | 0 => J1
  | 1 => (J2 one)
  | 2 => (J3 one)
  | 3 => (J4 one)
  | 4 => (J5 one)
  | _ => (J6 one)
def PW (one : Str) : Nat → Pg
  | 0 => ⟨⟨["a", "b", "c"], [], true⟩, [⟨"idav", some one, none, some [], false⟩, ⟨"idaw", some one, none, some [], false⟩, ⟨"idax", some one, none, some [], false⟩, ⟨"iday", some one, none, some [], false⟩, ⟨"idaz", some one, none, some [], false⟩]⟩
  | 1 => ⟨⟨["a", "b", "c"], [], true⟩, [⟨"idbv", some one, none, some [], false⟩, ⟨"idbw", some one, none, some [], false⟩, ⟨"idbx", some one, none, some [], false⟩, ⟨"idby", some one, none, some [], false⟩, ⟨"idbz", some one, none, some [], false⟩]⟩
  | 2 => ⟨⟨["a", "b", "c"], [], true⟩, [⟨"idcv", some one, none, some [], false⟩, ⟨"idcw", some one, none, some [], false⟩, ⟨"idcx", some one, none, some [], false⟩, ⟨"idcy", some one, none, some [], false⟩, ⟨"idcz", some one, none, some [], false⟩]⟩
  | 3 => ⟨⟨["a", "b", "c"], [], true⟩, [⟨"iddv", some one, none, some [], false⟩, ⟨"iddw", some one, none, some [], false⟩, ⟨"iddx", some one, none, some [], false⟩, ⟨"iddy", some one, none, some [], false⟩, ⟨"iddz", some one, none, some [], false⟩]⟩
  | _ => ⟨⟨["a", "b", "c"], [], true⟩, [⟨"idev", some one, none, some [], false⟩, ⟨"idew", some one, none, some [], false⟩, ⟨"idex", some one, none, some [], false⟩, ⟨"idey", some one, none, some [], false⟩, ⟨"idez", some one, none, some [], false⟩]⟩
theorem e7 (one : Str) : jarAfterK (JW one 0) (takenP (PW one 0)) = JW one 1 := by kernel_rfl
theorem e8 (one : Str) : jarAfterK (JW one 1) (takenP (PW one 1)) = JW one 2 := by kernel_rfl
theorem e9 (one : Str) : jarAfterK (JW one 2) (takenP (PW one 2)) = JW one 3 := by kernel_rfl
theorem e10 (one : Str) : jarAfterK (JW one 3) (takenP (PW one 3)) = JW one 4 := by kernel_rfl
theorem e11 (one : Str) : jarAfterK (JW one 4) (takenP (PW one 4)) = JW one 5 := by kernel_rfl
theorem e12 (one : Str) : behindK (Wide5.S one) [4, 3, 2, 1, 0] = (Wide5.J6 one) := by kernel_rfl
theorem e13 (one : Str) : sentM (Wide5.J6 one) ⟨["a", "b", "c"], ["q"], false⟩ = ((Wide5.J6 one)).map (fun k => pr k.key.name k.val) := by kernel_rfl
theorem gS {one : Str} (Hone : okV one) : siteBad (sitePy (S one)) = none := site_good (by kernel_rfl) ⟨⟨Hone, Hone, Hone, Hone, Hone, trivial⟩, ⟨Hone, Hone, Hone, Hone, Hone, trivial⟩, ⟨Hone, Hone, Hone, Hone, Hone, trivial⟩, ⟨Hone, Hone, Hone, Hone, Hone, trivial⟩, ⟨Hone, Hone, Hone, Hone, Hone, trivial⟩, trivial⟩
theorem g1 : JarOk J1 := jar_good (by kernel_rfl) trivial
theorem g2 {one : Str} (Hone : okV one) : JarOk (J2 one) := jar_good (by kernel_rfl) ⟨Hone, Hone, Hone, Hone, Hone, trivial⟩
theorem g3 {one : Str} (Hone : okV one) : JarOk (J3 one) := jar_good (by kernel_rfl) ⟨Hone, Hone, Hone, Hone, Hone, Hone, Hone, Hone, Hone, Hone, trivial⟩
theorem g4 {one : Str} (Hone : okV one) : JarOk (J4 one) := jar_good (by kernel_rfl) ⟨Hone, Hone, Hone, Hone, Hone, Hone, Hone, Hone, Hone, Hone, Hone, Hone, Hone, Hone, Hone, trivial⟩
theorem g5 {one : Str} (Hone : okV one) : JarOk (J5 one) := jar_good (by kernel_rfl) ⟨Hone, Hone, Hone, Hone, Hone, Hone, Hone, Hone, Hone, Hone, Hone, Hone, Hone, Hone, Hone, Hone, Hone, Hone, Hone, Hone, trivial⟩
theorem g6 {one : Str} (Hone : okV one) : JarOk (J6 one) := jar_good (by kernel_rfl) ⟨Hone, Hone, Hone, Hone, Hone, Hone, Hone, Hone, Hone, Hone, Hone, Hone, Hone, Hone, Hone, Hone, Hone, Hone, Hone, Hone, Hone, Hone, Hone, Hone, Hone, trivial⟩
end Wide5
namespace Wide5
def cA (k : Nat) : Nat := (("abcde" : Str).cps.toList[k]?).getD 0
def cB (k : Nat) : Nat := (("vwxyz" : Str).cps.toList[k]?).getD 0
theorem eA : ∀ k, k < 5 → ("abcde" : Str).cps.toList[k]? = some (cA k) := by decide +kernel
theorem eB : ∀ k, k < 5 → ("vwxyz" : Str).cps.toList[k]? = some (cB k) := by decide +kernel
def nm (k j : Nat) : Str := ("id" : Str) ++ ⟨#[cA k]⟩ ++ ⟨#[cB j]⟩
def hostD : PyData := .tuple [.str "a", .str "b", .str "c"]
def wrD (one : Str) (k j : Nat) : PyData := .tuple [.str (nm k j), .str one, .none, .tuple [], .bool false]
def pgD (one : Str) (k : Nat) : PyData := .tuple [.tuple [hostD, .tuple [], .bool true], .tuple ((List.range 5).map (wrD one k))]
def kpD (one : Str) (k j : Nat) : PyData := .tuple [.tuple [.str (nm k j), hostD, .tuple [], .bool true], .str one, .bool false]
def dueL (one : Str) : Nat → List PyData
  | 0 => []
  | k + 1 => dueL one k ++ (List.range 5).map (kpD one k)
theorem dueL_len (one : Str) : ∀ k, (dueL one k).length = 5 * k
  | 0 => rfl
  | k + 1 => by
    show (dueL one k ++ (List.range 5).map (kpD one k)).length = _
    rw [List.length_append, dueL_len one k, List.length_map, List.length_range]
    omega
theorem siteE (one : Str) : (PyData.tuple ((List.range 5).map (pgD one))) = sitePy (S one) := by kernel_rfl
theorem dueE (one : Str) : (PyData.tuple (dueL one 5)) = jarPy (J6 one) := by kernel_rfl
theorem pwE (one : Str) : ∀ k, k < 5 → (S one)[k]? = some (PW one k)
  | 0, _ => rfl
  | 1, _ => rfl
  | 2, _ => rfl
  | 3, _ => rfl
  | 4, _ => rfl
  | _ + 5, h => absurd h (by omega)
theorem jwE (one : Str) : ∀ k, k < 5 → jarAfterK (JW one k) (takenP (PW one k)) = JW one (k + 1)
  | 0, _ => (Wide5.e7 one)
  | 1, _ => (Wide5.e8 one)
  | 2, _ => (Wide5.e9 one)
  | 3, _ => (Wide5.e10 one)
  | 4, _ => (Wide5.e11 one)
  | _ + 5, h => absurd h (by omega)
theorem jwG {one : Str} (Hone : okV one) : ∀ k, JarOk (JW one k)
  | 0 => Wide5.g1
  | 1 => (Wide5.g2 Hone)
  | 2 => (Wide5.g3 Hone)
  | 3 => (Wide5.g4 Hone)
  | 4 => (Wide5.g5 Hone)
  | _ + 5 => (Wide5.g6 Hone)
theorem pairs_of : ∀ {js : List Kp}, (js.all fun k => PyData.strOk k.key.name) = true → okValsJ js okV → okPairs (js.map fun k => pr k.key.name k.val)
  | [], _, _ => trivial
  | k :: js, h, g => by
    rw [List.all_cons, Bool.and_eq_true] at h
    exact ⟨⟨h.1, okV_str g.1⟩, pairs_of h.2 g.2⟩
theorem wrF (one : Str) (k j : Nat) : flat (wrD one k j) = true := rfl
theorem kpF (one : Str) (k j : Nat) : flat (kpD one k j) = true := rfl
theorem pgF (one : Str) (k : Nat) : flat (pgD one k) = true := by kernel_rfl
end Wide5
theorem ok_wide_right (T : Txt K mg) (X : Exs P w K mg base) : Ok P w K mg base "_law_wide_right" P__law_wide_right 8 spV1 := by
  obtain ⟨_, xj⟩ := X.jar
  obtain ⟨_, xs⟩ := X.site
  obtain ⟨_, xp⟩ := X.page
  obtain ⟨_, xr⟩ := X.row
  obtain ⟨_, xa⟩ := X.addr
  have ok_behind : OkX P w K mg base "behind" P_behind 7 (spBehind K) := ok_behind T xs xr
  have ok_sent : OkX P w K mg base "sent" P_sent 7 (spSent K) := ok_sent T xj xa
  have ok_visited : OkX P w K mg base "visited" P_visited 7 (spVisited K) := ok_visited T xj xs xp
  refine T.d__law_wide_right.ok sc__law_wide_right (fun vs H Q E h => ?_) (fun f cdv A out s H vs Q E hr h => ?_)
  · obtain ⟨one, rfl, _⟩ := h
    rfl
  · obtain ⟨one, rfl, Hone, q⟩ := h
    refine ⟨_, (pss_cons (ps_asg (pe_tup (pa_cons (pe_tup (pa_cons pe_str (pa_cons pe_str (pa_cons pe_str pa_nil)))) (pa_cons (pe_lst pa_nil) pa_nil))) (pg_tup rfl (pgs_cons (pg_name (i := 1) sc__law_wide_right.nd rfl (Or.inr rfl)) (pgs_cons (pg_name (i := 2) sc__law_wide_right.nd rfl (Or.inl rfl)) pgs_nil))))
    (pss_cons (ps_for PassesOwn.never rfl (pi_range1 (by rfl) T.z_range (pa_cons pe_int pa_nil)) (pg_name (i := 3) sc__law_wide_right.nd rfl (Or.inr rfl)) (pss_cons (ps_setLc (i := 4) (own := [("k", 9)]) (g := gName 9) (tt := tYes) rfl sc__law_wide_right.nd rfl rfl (sw_true rfl rfl rfl (by decide +kernel)) (pi_range1 (by rfl) T.z_range (pa_cons pe_int pa_nil)) (blkOk_by (N := N__law_wide_right) (sc := defScope st__law_wide_right) (by decide +kernel)) (fun _ _ _ _ _ => pg_name (i := 9) sc__law_wide_right.nd rfl (Or.inl rfl)) (fun _ _ _ _ _ => pts_nil) (fun _ _ _ _ _ => (pe_tup (pa_cons (pe_op op_add_str (pe_op op_add_str pe_str (pe_ix ix_str pe_str (pv 3) (fun _ _ => rfl))) (pe_ix ix_str pe_str (pv 9) (fun _ _ => rfl))) (pa_cons (pv 0) (pa_cons pe_non (pa_cons (pe_tup pa_nil) (pa_cons pe_bl pa_nil))))))))
      (pss_one (ps_expr (pe_bm PySem.F.plainAttrs_list PySem.F.slot_list_append PySem.F.type_list_append mt_append (pv 2) (pa_cons (pe_tup (pa_cons (pe_tup (pa_cons (pv 1) (pa_cons (pe_tup pa_nil) (pa_cons pe_bl pa_nil)))) (pa_cons (pe_callTy call_tuple_of (by rfl) T.z_tuple (by decide +kernel) (pa_cons (pv 4) pa_nil)) pa_nil))) pa_nil))))))
    (pss_cons (ps_set (i := 5) sc__law_wide_right.nd rfl (Or.inl rfl) (pe_tup pa_nil))
    (pss_cons (ps_for PassesOwn.never rfl (pi_list (pv 2)) (pg_name (i := 6) sc__law_wide_right.nd rfl (Or.inl rfl)) (pss_one (ps_set (i := 5) sc__law_wide_right.nd rfl (Or.inl rfl) (pe_op (show OpR _ _ (rCatA K) from op_catA) (pv 5) (pe_callTy call_tuple_of (by rfl) T.z_tuple (by decide +kernel) (pa_cons (pe_lc (own := [("write", 11)]) (g := gName 11) (tt := tYes) rfl sc__law_wide_right.nd (pi_tup (pe_ix (show IxR _ (rIxT K) from ix_tup) (pv 6) pe_int (fun _ _ => rfl))) (blkOk_by (N := N__law_wide_right) (sc := defScope st__law_wide_right) (by decide +kernel)) (fun _ _ _ _ _ => pg_name (i := 11) sc__law_wide_right.nd rfl (Or.inl rfl)) (fun _ _ _ _ _ => pts_nil) (fun _ _ _ _ _ => (pe_tup (pa_cons (pe_tup (pa_cons (pe_ix (show IxR _ (rIxT K) from ix_tup) (pv 11) pe_int (fun _ _ => rfl)) (pa_cons (pv 1) (pa_cons (pe_tup pa_nil) (pa_cons pe_bl pa_nil))))) (pa_cons (pv 0) (pa_cons pe_bl pa_nil)))))) pa_nil))))))
    (pss_cons (ps_par (i := 7) (j := 8) (by rfl) sc__law_wide_right.nd rfl rfl (by decide) rfl rfl (pa_cons (pe_tup pa_nil) (pa_cons (pe_callTy call_tuple_of (by rfl) T.z_tuple (by decide +kernel) (pa_cons (pv 2) pa_nil)) pa_nil)) (by rfl))
    (pss_cons (ps_for PassesOwn.never rfl (pi_range1 (by rfl) T.z_range (pa_cons pe_int pa_nil)) (pg_name (i := 3) sc__law_wide_right.nd rfl (Or.inr rfl)) (pss_one (ps_set (i := 7) sc__law_wide_right.nd rfl (Or.inl rfl) (pe_okX0 ok_visited (hr.mono (by decide)) (pa_cons (pv 7) (pa_cons (pv 8) (pa_cons (pv 3) pa_nil)))))))
    (pss_cons (ps_if (PW.pt (pw_or (pt_cmpR (show OpR _ _ (rNeA K) from op_neA hr.units) (pv 7) (pv 5) (nomark _)) (pw_or1 (pt_cmpR (show OpR _ _ (rNeA K) from op_neA hr.units) (pe_okX0 ok_behind (hr.mono (by decide)) (pa_cons (pv 8) (pa_cons (pe_tup (pa_cons pe_int (pa_cons pe_int (pa_cons pe_int (pa_cons pe_int (pa_cons pe_int pa_nil)))))) pa_nil))) (pv 5) (nomark _))))) (pss_one (ps_ret pe_bl)) pss_nil)
    (pss_one (ps_ret (pe_cmpR (show OpR _ _ (rEqA K) from op_eqA hr.units) (pe_okX0 ok_sent (hr.mono (by decide)) (pa_cons (pv 7) (pa_cons (pe_tup (pa_cons (pv 1) (pa_cons (pe_tup (pa_cons pe_str pa_nil)) (pa_cons pe_bl pa_nil)))) pa_nil))) (pe_callTy call_tuple_of (by rfl) T.z_tuple (by decide +kernel) (pa_cons (pe_lc (own := [("kept", 10)]) (g := gName 10) (tt := tYes) rfl sc__law_wide_right.nd (pi_tup (pv 5)) (blkOk_by (N := N__law_wide_right) (sc := defScope st__law_wide_right) (by decide +kernel)) (fun _ _ _ _ _ => pg_name (i := 10) sc__law_wide_right.nd rfl (Or.inl rfl)) (fun _ _ _ _ _ => pts_nil) (fun _ _ _ _ _ => (pe_tup (pa_cons (pe_ix (show IxR _ (rIxT K) from ix_tup) (pe_ix (show IxR _ (rIxT K) from ix_tup) (pv 10) pe_int (fun _ _ => rfl)) pe_int (fun _ _ => rfl)) (pa_cons (pv 0) pa_nil))))) pa_nil)) (nomark _))))))))))), ?_⟩
    refine run_start (K := K) (d := .bool true) [some (.str one), none, none, none, none, none, none, none, none, none, none, none] (.cons (.str one (okV_len Hone)) (.no (.no (.no (.no (.no (.no (.no (.no (.no (.no (.no .nil)))))))))))) (fun H' v s hv => by cases hv; exact q H' s) ?_
    refine run_lstLoop (d := Wide5.hostD) (fun k => .list ((List.range 5).map (Wide5.wrD one k))) (Wide5.pgD one) (show Int.ofNat 5 = 5 from rfl) (by decide) (Nat.le_of_ble_eq_true rfl) rfl rfl ?a1 (fun k hk => ?a2) (fun k hk => ?a3) (Wide5.pgF one) ?a4
    case a1 => exact ev_tup (eva_cons (ev_str (Nat.le_of_ble_eq_true rfl)) (eva_cons (ev_str (Nat.le_of_ble_eq_true rfl)) (eva_cons (ev_str (Nat.le_of_ble_eq_true rfl)) eva_nil))) (Nat.le_of_ble_eq_true rfl)
    case a2 =>
      refine ev_lcR (Wide5.wrD one k) (show Int.ofNat 5 = 5 from rfl) (by decide) (fun j hj => ?_) (fun j _ => Wide5.wrF one k j)
      refine ev_tup (eva_cons (ev_addS (x := ("id" : Str) ++ ⟨#[Wide5.cA k]⟩) (ev_addS (ev_str (Nat.le_of_ble_eq_true rfl)) (ev_ixS (k := k) (ev_str (x := "abcde") (Nat.le_of_ble_eq_true rfl)) (ev_var rfl) (Nat.le_of_ble_eq_true rfl) (Wide5.eA k hk)) (Nat.le_of_ble_eq_true rfl)) (ev_ixS (k := j) (ev_str (x := "vwxyz") (Nat.le_of_ble_eq_true rfl)) (ev_var rfl) (Nat.le_of_ble_eq_true rfl) (Wide5.eB j hj)) (by rw [Str.length_append]; exact Nat.le_of_ble_eq_true rfl)) (eva_cons (ev_var rfl) (eva_cons ev_non (eva_cons (ev_tup eva_nil (by decide)) (eva_cons ev_bl eva_nil))))) (Nat.le_of_ble_eq_true rfl)
    case a3 =>
      exact ev_tup (eva_cons (ev_tup (eva_cons (ev_var rfl) (eva_cons (ev_tup eva_nil (by decide)) (eva_cons ev_bl eva_nil))) (Nat.le_of_ble_eq_true rfl)) (eva_cons (ev_tupL (ev_var rfl)) eva_nil)) (Nat.le_of_ble_eq_true rfl)
    case a4 =>
    refine run_asg (d := .tuple []) (ev_tup eva_nil (by decide)) ?_
    let R : Nat → Rho := fun k => [some (.str one), some Wide5.hostD, some (.list ((List.range 5).map (Wide5.pgD one))), none, none, some (.tuple (Wide5.dueL one k)), none, none, none, none, none, none]
    refine run_step (r' := R 5) (step_forL (List.range 5) (Wide5.pgD one) R (fun k => ((R k).set 6 (some (Wide5.pgD one k))).set 5 (some (.tuple (Wide5.dueL one (k + 1))))) (ev_var rfl) (fun k b hb => ?b1) (fun k hk => rfl)) ?b2
    case b1 =>
      have hk : k < 5 := by
        have := (List.getElem?_eq_some_iff.mp hb).1
        rwa [List.length_range] at this
      have e : b = k := by
        rw [List.getElem?_range hk] at hb
        exact (Option.some.inj hb).symm
      subst e
      refine step_asg (ev_cat (as := Wide5.dueL one b) (bs := (List.range 5).map (Wide5.kpD one b)) (ev_var rfl) (ev_tupL (ev_lcT (List.range 5) (Wide5.wrD one b) (Wide5.kpD one b) (ev_ixTz (ds := [.tuple [Wide5.hostD, .tuple [], .bool true], .tuple ((List.range 5).map (Wide5.wrD one b))]) (ev_var rfl) rfl rfl) (fun j _ => ?_) (fun j _ => Wide5.kpF one b j))) (by rw [Wide5.dueL_len, List.length_map, List.length_range]; omega))
      exact ev_tup (eva_cons (ev_tup (eva_cons (ev_ixTz (ds := [.str (Wide5.nm b j), .str one, .none, .tuple [], .bool false]) (ev_var rfl) rfl rfl) (eva_cons (ev_var rfl) (eva_cons (ev_tup eva_nil (by decide)) (eva_cons ev_bl eva_nil)))) (Nat.le_of_ble_eq_true rfl)) (eva_cons (ev_var rfl) (eva_cons ev_bl eva_nil))) (Nat.le_of_ble_eq_true rfl)
    case b2 =>
    refine run_par (d := jarPy (Wide5.JW one 0)) (d' := sitePy (Wide5.S one)) (eva_cons (ev_tup eva_nil (Nat.le_of_ble_eq_true rfl)) (eva_cons (EvR.to (ev_tupL (ev_var rfl)) (Wide5.siteE one)) eva_nil)) ?_
    let R2 : Nat → Rho := fun k => [some (.str one), some Wide5.hostD, some (.list ((List.range 5).map (Wide5.pgD one))), none, none, some (.tuple (Wide5.dueL one 5)), none, some (jarPy (Wide5.JW one k)), some (sitePy (Wide5.S one)), none, none, none]
    refine run_step (r' := R2 5) (step_forR R2 (fun k => ((R2 k).set 3 (some (.int k))).set 7 (some (jarPy (Wide5.JW one (k + 1))))) (show Int.ofNat 5 = 5 from rfl) (by decide) (fun k hk => ?c1) (fun k hk => rfl)) ?c2
    case c1 =>
      exact step_asg (ev_visited (js := Wide5.JW one k) (s := (Wide5.S one)) (n := k) (p := Wide5.PW one k) (js' := Wide5.JW one (k + 1)) (eva_cons (ev_var rfl) (eva_cons (ev_var rfl) (eva_cons (ev_var rfl) eva_nil))) rfl rfl (Wide5.jwG Hone k) (Wide5.gS Hone) (Wide5.pwE one k hk) (Wide5.jwE one k hk))
    case c2 =>
    have due : EvR K (tVar 5) (R2 5) (jarPy (Wide5.J6 one)) := EvR.to (ev_var rfl) (Wide5.dueE one)
    refine run_ifF (evt_or (evt_test (ev_neJ (js := (Wide5.J6 one)) (ev_var rfl) due rfl (Wide5.g6 Hone))) (evt_test (ev_neJ (js := (Wide5.J6 one)) (ev_behind (s := (Wide5.S one)) (row := [4, 3, 2, 1, 0]) (js := (Wide5.J6 one)) (d1 := sitePy (Wide5.S one)) (d2 := rowPy [4, 3, 2, 1, 0]) ?d1 rfl rfl (Wide5.gS Hone) rfl (Wide5.e12 one)) due rfl (Wide5.g6 Hone)))) ?d2
    case d1 => exact eva_cons (ev_var rfl) (eva_cons (ev_tup (eva_cons ev_int (eva_cons ev_int (eva_cons ev_int (eva_cons ev_int (eva_cons ev_int eva_nil))))) (Nat.le_of_ble_eq_true rfl)) eva_nil)
    case d2 =>
    refine run_ret (ev_eqS (l := ((Wide5.J6 one)).map (fun k => pr k.key.name k.val)) (ev_sent (js := (Wide5.J6 one)) (a := (⟨["a", "b", "c"], ["q"], false⟩ : Ad)) (d1 := jarPy (Wide5.J6 one)) (d2 := Ad.py (⟨["a", "b", "c"], ["q"], false⟩ : Ad)) ?e1 rfl rfl (Wide5.g6 Hone) (by kernel_rfl) (Wide5.e13 one)) (ev_tupL (ev_lcT (Wide5.J6 one) Kp.py (fun k => .tuple [.str k.key.name, .str one]) due (fun k _ => ?e2) (fun _ _ => rfl))) rfl ?e3)
    case e1 => exact eva_cons (ev_var rfl) (eva_cons (ev_tup (eva_cons (ev_var rfl) (eva_cons (ev_tup (eva_cons (ev_str (Nat.le_of_ble_eq_true rfl)) eva_nil) (Nat.le_of_ble_eq_true rfl)) (eva_cons ev_bl eva_nil))) (Nat.le_of_ble_eq_true rfl)) eva_nil)
    case e2 => exact ev_tup (eva_cons (ev_ixTz (ds := [.str k.key.name, .tuple (k.key.dom.map .str), .tuple (k.key.fold.map .str), .bool k.key.alone]) (ev_ixTz (ds := [k.key.py, .str k.val, .bool k.grd]) (ev_var rfl) rfl rfl) rfl rfl) (eva_cons (ev_var rfl) eva_nil)) (Nat.le_of_ble_eq_true rfl)
    case e3 => exact Wide5.pairs_of (by kernel_rfl) ⟨Hone, Hone, Hone, Hone, Hone, Hone, Hone, Hone, Hone, Hone, Hone, Hone, Hone, Hone, Hone, Hone, Hone, Hone, Hone, Hone, Hone, Hone, Hone, Hone, Hone, trivial⟩
end
end S1
namespace S1
open PySem PySem.Spec PyProof.Rows L2 Jv SX
theorem joinL_ones : ∀ cs : List Nat, TL.joinL [] (cs.map fun c => [c]) = cs
  | [] => rfl
  | [_] => rfl
  | a :: b :: cs => by
    show [a] ++ ([] ++ TL.joinL [] ((b :: cs).map fun c => [c])) = _
    rw [joinL_ones (b :: cs)]
    rfl
theorem join_ones (cs : List Nat) : Txt.join ("" : Str) (cs.map fun c => (⟨#[c]⟩ : Str)) = S cs := by
  have e := join_S [] (cs.map fun c => [c])
  rw [joinL_ones, List.map_map] at e
  exact e
theorem okV_cut {x t : Str} {k : Nat} (h : ∀ c ∈ x.cps.toList, c ∈ sgs.cps.toList) (g : ∀ c ∈ t.cps.toList, c ∈ sgs.cps.toList) (l1 : 1 ≤ t.length) (l2 : k + t.length ≤ 6) : okV (cutS x none (some (k : Int)) ++ t) := by
  have lc : (cutS x none (some (k : Int))).length ≤ k := by
    show (List.toArray _).size ≤ k
    rw [List.size_toArray, HT.sIx_nat, List.length_take]
    omega
  have mc : ∀ c ∈ (cutS x none (some (k : Int))).cps.toList, c ∈ x.cps.toList := fun c hc => List.mem_of_mem_drop (List.mem_of_mem_take hc)
  show okW sgs _ = true
  unfold okW
  rw [Bool.and_eq_true, Bool.and_eq_true, decide_eq_true_eq, decide_eq_true_eq, Str.length_append, List.all_eq_true]
  refine ⟨⟨by omega, by omega⟩, fun c hc => decide_eq_true ?_⟩
  rw [Str.cps_append, Array.toList_append] at hc
  rcases List.mem_append.mp hc with hc | hc
  · exact h c (mc c hc)
  · exact g c hc
abbrev alpha : Str := "abcxyz0189"
theorem alpha_in : ∀ c ∈ alpha.cps.toList, c ∈ sgs.cps.toList := by decide +kernel
theorem t1_in : ∀ c ∈ ("1" : Str).cps.toList, c ∈ sgs.cps.toList := by decide +kernel
theorem t2_in : ∀ c ∈ ("2" : Str).cps.toList, c ∈ sgs.cps.toList := by decide +kernel
theorem t3_in : ∀ c ∈ ("33" : Str).cps.toList, c ∈ sgs.cps.toList := by decide +kernel
theorem cut_len (x : Str) (k : Nat) : (cutS x none (some (k : Int))).length ≤ k := by
  show (List.toArray _).size ≤ k
  rw [List.size_toArray, HT.sIx_nat, List.length_take]
  omega
section
variable {P : Program} {w : World} {K : PySem.W.Frag} {mg : Str → Option Value} {base : Heap}
/-- three values -/
def spValues : Sp := fun vs H Q _ => ∃ (d l c : Addr) (n : Int), vs = [.ref d] ∧ St H d l c n ∧ n < 2 ^ 49 ∧ ∀ H' p one two three, But d l H H' → St H' d l c (n + 10) → H' p = some (.lst [.str one, .str two, .str three]) → okV one → okV two → okV three → Q (.ref p) H'
theorem ok_law_values (T : Txt K mg) : Ok P w K mg base "_law_values" P__law_values 3 spValues := by
  have ok__law_draw : Ok P w K mg base "_law_draw" P__law_draw 2 spDraw := ok_law_draw T
  refine T.d__law_values.ok sc__law_values (fun vs H Q E h => ?_) (fun f cdv A out s H vs Q E hr h => ?_)
  · obtain ⟨d, l, c, n, rfl, _⟩ := h
    rfl
  · obtain ⟨d, l, c, n, rfl, hS, hn, q⟩ := h
    refine ⟨_, (pss_cons (ps_set (i := 1) sc__law_values.nd rfl (Or.inr rfl) pe_str)
    (pss_cons (ps_set (i := 2) sc__law_values.nd rfl (Or.inl rfl) (pe_join pe_str (pe_lc (own := [("k", 3)]) (g := gName 3) (tt := tYes) rfl sc__law_values.nd (pi_range1 (by rfl) T.z_range (pa_cons (pe_op op_add pe_int (pe_ok ok__law_draw (hr.mono (by decide)) (pa_cons (pv 0) (pa_cons pe_int pa_nil)))) pa_nil)) (blkOk_by (N := N__law_values) (sc := defScope st__law_values) (by decide +kernel)) (fun _ _ _ _ _ => pg_name (i := 3) sc__law_values.nd rfl (Or.inl rfl)) (fun _ _ _ _ _ => pts_nil) (fun _ _ _ _ _ => (pe_ix ix_str (pv 1) (pe_ok ok__law_draw (hr.mono (by decide)) (pa_cons (pv 0) (pa_cons pe_int pa_nil))) (fun _ _ => rfl))))))
    (pss_one (ps_ret (pe_lst (pa_cons (pe_op op_add_str (pe_slice sl_str (pv 2) po_none (po_some pe_int)) pe_str) (pa_cons (pe_op op_add_str (pe_slice sl_str (pv 2) po_none (po_some pe_int)) pe_str) (pa_cons (pe_op op_add_str (pe_slice sl_str (pv 2) po_none (po_some pe_int)) pe_str) pa_nil)))))))), ?_⟩
    refine ⟨⟨_, rfl⟩, .ref d, rfl, d, l, c, n, 5, rfl, hS, by omega, by decide, by decide, fun H1 i b1 S1 i1 i2 => ⟨1, i, rfl, rfl, 1 + i, rfl, by omega, by omega, fun D nD => ?_⟩⟩
    obtain ⟨f1, f2, f3⟩ := S1.fresh nD
    refine lc_map walk_range (fun j acc G => But d l H1 G ∧ St G d l c (n + 1 + j) ∧ ∃ cs : List Nat, acc = cs.map (fun c => V.str ⟨#[c]⟩) ∧ cs.length = j ∧ ∀ c ∈ cs, c ∈ alpha.cps.toList)
      ⟨Same.but (same_new nD), (S1.upd ⟨f1, f2, f3⟩).mono (by omega), [], rfl, rfl, by simp⟩ (fun _ _ _ _ _ _ => trivial) (fun _ => rfl) (fun j acc G hj g => ?_) (fun j x acc G G' hj g dG y k hk => ?_) (fun acc G g dG => ?_)
    · obtain ⟨_, _, cs, rfl, h2, _⟩ := g
      rw [List.length_map]
      exact Nat.lt_of_lt_of_le (show cs.length < 100 by omega) (by decide)
    · obtain ⟨b2, S2, cs, rfl, h2, h3⟩ := g
      obtain ⟨rfl, _⟩ := y
      refine ⟨.str alpha, rfl, .ref d, rfl, d, l, c, n + 1 + (j : Int), 10, rfl, S2, by omega, by decide, by decide, fun G1 a b3 S3 a1 a2 => ?_⟩
      obtain ⟨m, rfl⟩ : ∃ m : Nat, a = (m : Int) := ⟨a.toNat, by omega⟩
      have hm : m < alpha.cps.toList.length := by
        show m < 10
        omega
      refine ⟨alpha, _, alpha.cps.toList[m], rfl, rfl, by show 10 ≤ sizeLine; decide, atI_nat (List.getElem?_eq_getElem hm), hk _ _ (b3 _ _ f1 f2 dG) ⟨?_, ?_, cs ++ [alpha.cps.toList[m]], by rw [List.map_append]; rfl, by rw [List.length_append, h2]; rfl, fun y hy => ?_⟩⟩
      · refine fun b o h1 h2 e => ?_
        rw [upd_ne (ne_of_none e nD)]
        exact (b2.trans b3) b o h1 h2 e
      · exact (S3.upd ⟨f1, f2, f3⟩).mono (by omega)
      · rcases List.mem_append.mp hy with hy | hy
        · exact h3 y hy
        · rw [List.mem_singleton.mp hy]
          exact List.getElem_mem hm
    · obtain ⟨b2, S2, cs, rfl, h2, h3⟩ := g
      have hl : cs.length ≤ 6 := by omega
      refine ⟨"", D, cs.map fun c => (⟨#[c]⟩ : Str), rfl, rfl, Or.inl (SqL.of (by rw [dG, List.map_map]; rfl)), ?_, ?_⟩
      · rw [List.map_map, List.length_map]
        have e1 : (List.map ((fun x => Str.length x) ∘ fun c => (⟨#[c]⟩ : Str)) cs).sum = cs.length := by
          clear hl h3 dG h2
          induction cs with
          | nil => rfl
          | cons a cs ih =>
            rw [List.map_cons, List.sum_cons, ih, List.length_cons]
            show 1 + cs.length = _
            omega
        rw [e1, show ("" : Str).length = 0 from rfl]
        omega
      · rw [join_ones]
        have hw : ∀ c ∈ (S cs).cps.toList, c ∈ sgs.cps.toList := fun c hc => alpha_in c (h3 c hc)
        have lw : (S cs).length ≤ sizeLine := by
          rw [S_len]
          exact Nat.le_trans hl (by decide)
        have c5 := cut_len (S cs) 5
        have c4 := cut_len (S cs) 4
        refine ⟨.str (S cs), rfl, 5, rfl, S cs, rfl, lw, _, _, rfl, rfl, Nat.le_trans (Nat.add_le_add_right c5 _) (by decide), ?_⟩
        refine ⟨.str (S cs), rfl, 5, rfl, S cs, rfl, lw, _, _, rfl, rfl, Nat.le_trans (Nat.add_le_add_right c5 _) (by decide), ?_⟩
        refine ⟨.str (S cs), rfl, 4, rfl, S cs, rfl, lw, _, _, rfl, rfl, Nat.le_trans (Nat.add_le_add_right c4 _) (by decide), ?_⟩
        refine ⟨by show 3 ≤ sizeLine; decide, fun p np => ?_⟩
        obtain ⟨g1, g2, g3⟩ := S2.fresh np
        exact q _ p _ _ _ ((b1.trans b2).trans (Same.but (same_new np))) ((S2.upd ⟨g1, g2, g3⟩).mono (by omega)) upd_same (okV_cut (k := 5) hw t1_in (by decide) (by decide)) (okV_cut (k := 5) hw t2_in (by decide) (by decide)) (okV_cut (k := 4) hw t3_in (by decide) (by decide))
end
end S1
namespace S1
open PySem PySem.Spec PyProof.Rows L2 Jv
namespace Fix
def H3 : List Str := ["www", "shop", "org"]
def H2 : List Str := ["shop", "org"]
def S : List Pg := [⟨⟨H3, ["in"], true⟩, [⟨"id", some "a1", some H2, none, true⟩, ⟨"id", some "b2", none, some ["in"], false⟩]⟩]
def J : List Kp := [⟨⟨"id", H3, ["in"], true⟩, "b2", false⟩, ⟨⟨"id", H2, [], false⟩, "a1", true⟩]
def A : Ad := ⟨H3, ["in"], true⟩
def L : List (Str × Str) := [("id", "b2"), ("id", "a1")]
theorem k1 : okV "a1" := by decide +kernel
theorem k2 : okV "b2" := by decide +kernel
theorem gS : siteBad (sitePy S) = none := site_good (by kernel_rfl) ⟨⟨k1, k2, trivial⟩, trivial⟩
theorem gJ : JarOk J := jar_good (by kernel_rfl) ⟨k2, k1, trivial⟩
theorem e1 : behindK S [0] = J := by kernel_rfl
theorem e2 : sentM J A = L := by kernel_rfl
theorem gL : okPairs L := ⟨⟨k_id, okV_str k2⟩, ⟨k_id, okV_str k1⟩, trivial⟩
theorem oA : okA A.py = true := by kernel_rfl
end Fix
theorem EnvD.any {K : PySem.W.Frag} {H : Hp} {sg : L2.St} {n : Nat} (h : sg.length = n) : EnvD K H sg (List.replicate n none) := by
  refine ⟨fun i d e => ?_, by rw [List.length_replicate, h]⟩
  rw [List.getElem?_replicate] at e
  split at e
  · cases e
  · cases e
section
variable {P : Program} {w : World} {K : PySem.W.Frag} {mg : Str → Option Value} {base : Heap}
def spLaw (K : PySem.W.Frag) : Sp := fun vs H Q _ => ∃ (a : Addr) (ns : List Int), vs = [.ref a] ∧ SqL K H a (ns.map V.int) ∧ ns.length ≤ 63 ∧ ∀ H', Q (.bl true) H'
theorem ok_law (T : Txt K mg) (X : Exs P w K mg base) : Ok P w K mg base "law" P_law 9 (spLaw K) := by
  obtain ⟨_, xj⟩ := X.jar
  obtain ⟨_, xs⟩ := X.site
  obtain ⟨_, xr⟩ := X.row
  obtain ⟨_, xa⟩ := X.addr
  have ok_behind : OkX P w K mg base "behind" P_behind 7 (spBehind K) := ok_behind T xs xr
  have ok_sent : OkX P w K mg base "sent" P_sent 7 (spSent K) := ok_sent T xj xa
  have ok__law_begin : Ok P w K mg base "_law_begin" P__law_begin 1 (spBegin K) := ok_law_begin T
  have ok__law_values : Ok P w K mg base "_law_values" P__law_values 3 spValues := ok_law_values T
  have ok__law_two_right : Ok P w K mg base "_law_two_right" P__law_two_right 8 spV2 := ok_two_right T X
  have ok__law_ages_right : Ok P w K mg base "_law_ages_right" P__law_ages_right 8 spV3 := ok_ages_right T X
  have ok__law_folders_right : Ok P w K mg base "_law_folders_right" P__law_folders_right 8 spV3 := ok_folders_right T X
  have ok__law_untaken_right : Ok P w K mg base "_law_untaken_right" P__law_untaken_right 8 spV2 := ok_untaken_right T X
  have ok__law_wide_right : Ok P w K mg base "_law_wide_right" P__law_wide_right 8 spV1 := ok_wide_right T X
  refine T.d_law.ok sc_law (fun vs H Q E h => ?_) (fun f cdv A out s H vs Q E hr h => ?_)
  · obtain ⟨a, ns, rfl, _⟩ := h
    rfl
  · obtain ⟨a, ns, rfl, hS, hn, q⟩ := h
    refine ⟨_, (pss_cons (ps_set (i := 1) sc_law.nd rfl (Or.inl rfl) (pe_ok ok__law_begin (hr.mono (by decide)) (pa_cons (pv 0) pa_nil)))
    (pss_cons (ps_for PassesOwn.never rfl (pi_range1 (by rfl) T.z_range (pa_cons (pe_op op_add pe_int (pe_callB (call_min2 rfl) (by rfl) T.z_min (by decide +kernel) (pa_cons pe_int (pa_cons (pe_callB call_len (by rfl) T.z_len (by decide +kernel) (pa_cons (pv 0) pa_nil)) pa_nil)))) pa_nil)) (pg_name (i := 2) sc_law.nd rfl (Or.inl rfl)) (pss_cons (ps_asg (pe_ok ok__law_values (hr.mono (by decide)) (pa_cons (pv 1) pa_nil)) (pg_lst rfl (pgs_cons (pg_name (i := 3) sc_law.nd rfl (Or.inl rfl)) (pgs_cons (pg_name (i := 4) sc_law.nd rfl (Or.inl rfl)) (pgs_cons (pg_name (i := 5) sc_law.nd rfl (Or.inl rfl)) pgs_nil)))))
      (pss_cons (ps_if (PW.pt (pw_or (pt_not (pt_val (pe_ok ok__law_two_right (hr.mono (by decide)) (pa_cons (pv 3) (pa_cons (pv 4) pa_nil))))) (pw_or1 (pt_not (pt_val (pe_ok ok__law_ages_right (hr.mono (by decide)) (pa_cons (pv 3) (pa_cons (pv 4) (pa_cons (pv 5) pa_nil))))))))) (pss_one (ps_ret pe_bl)) pss_nil)
      (pss_one (ps_if (PW.pt (pw_or (pt_not (pt_val (pe_ok ok__law_folders_right (hr.mono (by decide)) (pa_cons (pv 3) (pa_cons (pv 4) (pa_cons (pv 5) pa_nil)))))) (pw_or (pt_not (pt_val (pe_ok ok__law_untaken_right (hr.mono (by decide)) (pa_cons (pv 3) (pa_cons (pv 4) pa_nil))))) (pw_or1 (pt_not (pt_val (pe_ok ok__law_wide_right (hr.mono (by decide)) (pa_cons (pv 3) pa_nil)))))))) (pss_one (ps_ret pe_bl)) pss_nil)))))
    (pss_cons (ps_asg (pe_tup (pa_cons (pe_tup (pa_cons pe_str (pa_cons pe_str (pa_cons pe_str pa_nil)))) (pa_cons (pe_tup (pa_cons pe_str (pa_cons pe_str pa_nil))) pa_nil))) (pg_tup rfl (pgs_cons (pg_name (i := 6) sc_law.nd rfl (Or.inl rfl)) (pgs_cons (pg_name (i := 7) sc_law.nd rfl (Or.inl rfl)) pgs_nil))))
    (pss_cons (ps_set (i := 8) sc_law.nd rfl (Or.inl rfl) (pe_tup (pa_cons (pe_tup (pa_cons (pv 6) (pa_cons (pe_tup (pa_cons pe_str pa_nil)) (pa_cons pe_bl pa_nil)))) (pa_cons (pe_tup (pa_cons (pe_tup (pa_cons pe_str (pa_cons pe_str (pa_cons (pv 7) (pa_cons pe_non (pa_cons pe_bl pa_nil)))))) (pa_cons (pe_tup (pa_cons pe_str (pa_cons pe_str (pa_cons pe_non (pa_cons (pe_tup (pa_cons pe_str pa_nil)) (pa_cons pe_bl pa_nil)))))) pa_nil))) pa_nil))))
    (pss_cons (ps_set (i := 9) sc_law.nd rfl (Or.inl rfl) (pe_tup (pa_cons (pe_tup (pa_cons (pe_tup (pa_cons pe_str (pa_cons (pv 6) (pa_cons (pe_tup (pa_cons pe_str pa_nil)) (pa_cons pe_bl pa_nil))))) (pa_cons pe_str (pa_cons pe_bl pa_nil)))) (pa_cons (pe_tup (pa_cons (pe_tup (pa_cons pe_str (pa_cons (pv 7) (pa_cons (pe_tup pa_nil) (pa_cons pe_bl pa_nil))))) (pa_cons pe_str (pa_cons pe_bl pa_nil)))) pa_nil))))
    (pss_one (ps_ret (pe_and (pe_cmpR (show OpR _ _ (rEqA K) from op_eqA hr.units) (pe_okX0 ok_behind (hr.mono (by decide)) (pa_cons (pe_tup (pa_cons (pv 8) pa_nil)) (pa_cons (pe_tup (pa_cons pe_int pa_nil)) pa_nil))) (pv 9) (nomark _)) (pe_one (pe_cmpR (show OpR _ _ (rEqA K) from op_eqA hr.units) (pe_okX0 ok_sent (hr.mono (by decide)) (pa_cons (pv 9) (pa_cons (pe_ix (show IxR _ (rIxT K) from ix_tup) (pv 8) pe_int (fun _ _ => rfl)) pa_nil))) (pe_tup (pa_cons (pe_tup (pa_cons pe_str (pa_cons pe_str pa_nil))) (pa_cons (pe_tup (pa_cons pe_str (pa_cons pe_str pa_nil))) pa_nil))) (nomark _))))))))))), ?_⟩
    refine ⟨.ref a, rfl, a, ns, rfl, hS, hn, fun H1 d l c s1 hSt => ?_⟩
    have hS1 := s1.seq hS
    refine ⟨.ref a, rfl, .ref a, _, rfl, Or.inl ⟨_, hS1, rfl⟩, 3, _, rfl, 3, _, rfl, rfl, _, rfl, ?_, ?_, ?_⟩
    · split <;> omega
    · split <;> omega
    have hm : (3 + (if (((ns.map V.int).length : Nat) : Int) < 3 then (((ns.map V.int).length : Nat) : Int) else 3)).toNat ≤ 6 := by split <;> omega
    revert hm
    generalize (3 + (if (((ns.map V.int).length : Nat) : Int) < 3 then (((ns.map V.int).length : Nat) : Int) else 3)).toNat = m
    intro hm
    refine for_it walk_range (fun k s' H' => St H' d l c (10 * k) ∧ ∃ x2 x3 x4 x5, s' = [some (.ref a), some (.ref d), x2, x3, x4, x5, none, none, none, none]) ⟨hSt.mono (by omega), none, none, none, none, rfl⟩ (fun _ _ _ _ _ => trivial) (fun i x s' H' H2 hi g y => ?_) (fun s' H' g => ?_)
    · obtain ⟨hT, x2, x3, x4, x5, rfl⟩ := g
      obtain ⟨rfl, rfl⟩ := y
      refine ⟨.ref d, rfl, d, l, c, 10 * (i : Int), rfl, hT, by omega, fun H3 p one two three b3 S3 hp o1 o2 o3 => ?_⟩
      refine ⟨p, _, rfl, SqL.of hp, rfl, .str one, _, rfl, .str two, _, rfl, .str three, _, rfl, rfl, ?_⟩
      refine ⟨.str one, rfl, .str two, rfl, one, two, rfl, o1, o2, fun H4 s4 => ⟨true, rfl, iteF ?_⟩⟩
      refine ⟨.str one, rfl, .str two, rfl, .str three, rfl, one, two, three, rfl, o1, o2, o3, fun H5 s5 => ⟨true, rfl, iteF ?_⟩⟩
      refine ⟨.str one, rfl, .str two, rfl, .str three, rfl, one, two, three, rfl, o1, o2, o3, fun H6 s6 => ⟨true, rfl, iteF ?_⟩⟩
      refine ⟨.str one, rfl, .str two, rfl, one, two, rfl, o1, o2, fun H7 s7 => ⟨true, rfl, iteF ?_⟩⟩
      refine ⟨.str one, rfl, one, rfl, o1, fun H8 s8 => ⟨true, rfl, iteF ?_⟩⟩
      exact ⟨(((((S3.same s4).same s5).same s6).same s7).same s8).mono (by omega), _, _, _, _, rfl⟩
    · obtain ⟨hT, x2, x3, x4, x5, rfl⟩ := g
      dsimp only
      refine run_start (K := K) (d := .bool true) (List.replicate 10 none) (EnvD.any rfl) (fun H' v s hv => by cases hv; exact q H') ?_
      refine run_two (i := 6) (j := 7) (d := ?x3) (d' := ?x4) ?x1 ?x2
      case x1 => repeat' (first | with_reducible exact eva_nil | with_reducible refine eva_cons (d := ?_) (ds := ?_) ?_ ?_ | ((with_reducible refine ev_var (d := ?_) ?_); exact rfl) | with_reducible exact ev_non | with_reducible exact ev_bl | with_reducible exact ev_int | ((with_reducible refine ev_str ?_); exact Nat.le_of_ble_eq_true rfl) | with_reducible refine ev_tup (ds := ?_) ?_ ?_ | with_reducible refine ev_lst (ds := ?_) ?_ ?_ | with_reducible refine ev_ixLz (ds := ?_) (d := ?_) ?_ ?_ ?_ | with_reducible refine ev_ixTz (ds := ?_) (d := ?_) ?_ ?_ ?_ | with_reducible refine ev_slTz (ds := ?_) (es := ?_) ?_ ?_ ?_ | with_reducible refine ev_slLz (ds := ?_) (es := ?_) ?_ ?_ ?_ | with_reducible refine ev_cat (as := ?_) (bs := ?_) ?_ ?_ ?_ | exact Nat.le_of_ble_eq_true rfl | exact rfl | exact ev_int)
      refine run_asg (d := ?x6) ?x5 ?x7
      case x5 => repeat' (first | with_reducible exact eva_nil | with_reducible refine eva_cons (d := ?_) (ds := ?_) ?_ ?_ | ((with_reducible refine ev_var (d := ?_) ?_); exact rfl) | with_reducible exact ev_non | with_reducible exact ev_bl | with_reducible exact ev_int | ((with_reducible refine ev_str ?_); exact Nat.le_of_ble_eq_true rfl) | with_reducible refine ev_tup (ds := ?_) ?_ ?_ | with_reducible refine ev_lst (ds := ?_) ?_ ?_ | with_reducible refine ev_ixLz (ds := ?_) (d := ?_) ?_ ?_ ?_ | with_reducible refine ev_ixTz (ds := ?_) (d := ?_) ?_ ?_ ?_ | with_reducible refine ev_slTz (ds := ?_) (es := ?_) ?_ ?_ ?_ | with_reducible refine ev_slLz (ds := ?_) (es := ?_) ?_ ?_ ?_ | with_reducible refine ev_cat (as := ?_) (bs := ?_) ?_ ?_ ?_ | exact Nat.le_of_ble_eq_true rfl | exact rfl | exact ev_int)
      refine run_asg (d := jarPy Fix.J) (EvR.to (d := ?x10) ?x8 (show _ = jarPy Fix.J from ?x9)) ?x12
      case x8 => repeat' (first | with_reducible exact eva_nil | with_reducible refine eva_cons (d := ?_) (ds := ?_) ?_ ?_ | ((with_reducible refine ev_var (d := ?_) ?_); exact rfl) | with_reducible exact ev_non | with_reducible exact ev_bl | with_reducible exact ev_int | ((with_reducible refine ev_str ?_); exact Nat.le_of_ble_eq_true rfl) | with_reducible refine ev_tup (ds := ?_) ?_ ?_ | with_reducible refine ev_lst (ds := ?_) ?_ ?_ | with_reducible refine ev_ixLz (ds := ?_) (d := ?_) ?_ ?_ ?_ | with_reducible refine ev_ixTz (ds := ?_) (d := ?_) ?_ ?_ ?_ | with_reducible refine ev_slTz (ds := ?_) (es := ?_) ?_ ?_ ?_ | with_reducible refine ev_slLz (ds := ?_) (es := ?_) ?_ ?_ ?_ | with_reducible refine ev_cat (as := ?_) (bs := ?_) ?_ ?_ ?_ | exact Nat.le_of_ble_eq_true rfl | exact rfl | exact ev_int)
      case x9 => rfl
      refine run_ret (ev_andT (ev_eqJ (js := Fix.J) (d := ?x23) (ev_behind (s := Fix.S) (row := [0]) (js := Fix.J) (d1 := ?x13) (d2 := ?x14) ?x15 ?x16 ?x17 Fix.gS rfl Fix.e1) ?x24 ?x25 Fix.gJ) (ev_eqS (l := Fix.L) (d := ?x26) (ev_sent (js := Fix.J) (a := Fix.A) (l := Fix.L) (d1 := ?x18) (d2 := ?x19) ?x20 ?x21 ?x22 Fix.gJ Fix.oA Fix.e2) ?x27 ?x28 Fix.gL))
      case x15 => repeat' (first | with_reducible exact eva_nil | with_reducible refine eva_cons (d := ?_) (ds := ?_) ?_ ?_ | ((with_reducible refine ev_var (d := ?_) ?_); exact rfl) | with_reducible exact ev_non | with_reducible exact ev_bl | with_reducible exact ev_int | ((with_reducible refine ev_str ?_); exact Nat.le_of_ble_eq_true rfl) | with_reducible refine ev_tup (ds := ?_) ?_ ?_ | with_reducible refine ev_lst (ds := ?_) ?_ ?_ | with_reducible refine ev_ixLz (ds := ?_) (d := ?_) ?_ ?_ ?_ | with_reducible refine ev_ixTz (ds := ?_) (d := ?_) ?_ ?_ ?_ | with_reducible refine ev_slTz (ds := ?_) (es := ?_) ?_ ?_ ?_ | with_reducible refine ev_slLz (ds := ?_) (es := ?_) ?_ ?_ ?_ | with_reducible refine ev_cat (as := ?_) (bs := ?_) ?_ ?_ ?_ | exact Nat.le_of_ble_eq_true rfl | exact rfl | exact ev_int)
      case x16 => rfl
      case x17 => rfl
      case x20 => repeat' (first | with_reducible exact eva_nil | with_reducible refine eva_cons (d := ?_) (ds := ?_) ?_ ?_ | ((with_reducible refine ev_var (d := ?_) ?_); exact rfl) | with_reducible exact ev_non | with_reducible exact ev_bl | with_reducible exact ev_int | ((with_reducible refine ev_str ?_); exact Nat.le_of_ble_eq_true rfl) | with_reducible refine ev_tup (ds := ?_) ?_ ?_ | with_reducible refine ev_lst (ds := ?_) ?_ ?_ | with_reducible refine ev_ixLz (ds := ?_) (d := ?_) ?_ ?_ ?_ | with_reducible refine ev_ixTz (ds := ?_) (d := ?_) ?_ ?_ ?_ | with_reducible refine ev_slTz (ds := ?_) (es := ?_) ?_ ?_ ?_ | with_reducible refine ev_slLz (ds := ?_) (es := ?_) ?_ ?_ ?_ | with_reducible refine ev_cat (as := ?_) (bs := ?_) ?_ ?_ ?_ | exact Nat.le_of_ble_eq_true rfl | exact rfl | exact ev_int)
      case x21 => rfl
      case x22 => rfl
      case x24 => repeat' (first | with_reducible exact eva_nil | with_reducible refine eva_cons (d := ?_) (ds := ?_) ?_ ?_ | ((with_reducible refine ev_var (d := ?_) ?_); exact rfl) | with_reducible exact ev_non | with_reducible exact ev_bl | with_reducible exact ev_int | ((with_reducible refine ev_str ?_); exact Nat.le_of_ble_eq_true rfl) | with_reducible refine ev_tup (ds := ?_) ?_ ?_ | with_reducible refine ev_lst (ds := ?_) ?_ ?_ | with_reducible refine ev_ixLz (ds := ?_) (d := ?_) ?_ ?_ ?_ | with_reducible refine ev_ixTz (ds := ?_) (d := ?_) ?_ ?_ ?_ | with_reducible refine ev_slTz (ds := ?_) (es := ?_) ?_ ?_ ?_ | with_reducible refine ev_slLz (ds := ?_) (es := ?_) ?_ ?_ ?_ | with_reducible refine ev_cat (as := ?_) (bs := ?_) ?_ ?_ ?_ | exact Nat.le_of_ble_eq_true rfl | exact rfl | exact ev_int)
      case x25 => rfl
      case x27 => repeat' (first | with_reducible exact eva_nil | with_reducible refine eva_cons (d := ?_) (ds := ?_) ?_ ?_ | ((with_reducible refine ev_var (d := ?_) ?_); exact rfl) | with_reducible exact ev_non | with_reducible exact ev_bl | with_reducible exact ev_int | ((with_reducible refine ev_str ?_); exact Nat.le_of_ble_eq_true rfl) | with_reducible refine ev_tup (ds := ?_) ?_ ?_ | with_reducible refine ev_lst (ds := ?_) ?_ ?_ | with_reducible refine ev_ixLz (ds := ?_) (d := ?_) ?_ ?_ ?_ | with_reducible refine ev_ixTz (ds := ?_) (d := ?_) ?_ ?_ ?_ | with_reducible refine ev_slTz (ds := ?_) (es := ?_) ?_ ?_ ?_ | with_reducible refine ev_slLz (ds := ?_) (es := ?_) ?_ ?_ ?_ | with_reducible refine ev_cat (as := ?_) (bs := ?_) ?_ ?_ ?_ | exact Nat.le_of_ble_eq_true rfl | exact rfl | exact ev_int)
      case x28 => rfl
end
end S1
/-! what the top has left, by names: defs without defaults, own errors, constants -/
namespace Jv
open PySem PySem.Spec PyProof.Rows L2 He
/-- the end, of a law that promises by names -/
theorem FnG.of {P : Program} {w : World} {K : PySem.W.Frag} {mg : Str → Option Value} {base : Heap} {k : Nat} {f : Addr} {fd : FuncData} {ps : List Str} {sp : Sp} (F : FnOk P w K mg base CX0 k f fd ps sp) : FnG P w K mg base k f fd ps sp :=
  ⟨F.len, fun A out s H ar us vs Q E _ hr en bd rv ask => F.run A out s H ar us vs Q E hr en bd rv ask⟩
theorem end_ok {P : Program} {w : World} {K : PySem.W.Frag} {mg : Str → Option Value} {base : Heap} {k : Nat} {x : Str} {f : Addr} {ps : List Str} {sp : Sp} (e : mg x = some (.ref f)) (F : Ok P w K mg base x ps k sp) : ∃ fd : FuncData, Binds K fd ps [] ∧ FnG P w K mg base k f fd ps sp := by
  obtain ⟨g, fd, a, _, b, c⟩ := F
  rw [e] at a
  cases a
  exact ⟨fd, b, FnG.of c⟩
theorem end_okG {P : Program} {w : World} {K : PySem.W.Frag} {mg : Str → Option Value} {base : Heap} {k : Nat} {x : Str} {f : Addr} {ps : List Str} {sp : Sp} (e : mg x = some (.ref f)) (F : OkG P w K mg base x ps k sp) : ∃ fd : FuncData, Binds K fd ps [] ∧ FnG P w K mg base k f fd ps sp := by
  obtain ⟨g, fd, a, _, b, c⟩ := F
  rw [e] at a
  cases a
  exact ⟨fd, b, c⟩
theorem fun_of {K : PySem.W.Frag} {x q : Str} {st : Stmt} {f : Addr} {fd : FuncData} (F : FunD K x q (defArgs st) (defBody st) (defScope st) [] [] f fd) : Fun K x q st f fd := by
  obtain ⟨oc, od, dV, kV, doc, pm, an, cdv, ct, osl, e, lk, hcd, hD, _⟩ := F.ex
  rcases hD with ⟨_, z⟩ | ⟨z, _⟩
  · rw [z] at e
    exact ⟨⟨oc, od, kV, doc, pm, an, cdv, ct, osl, e, lk, hcd⟩, F.kp⟩
  · exact absurd rfl z
/-- one def of the top; an error's maker -/
def dAt (x : Str) (st : Stmt) : DefD := ⟨(x, none), x, x, defArgs st, defBody st, defScope st, [], []⟩
def dIn (C q : Str) (st : Stmt) : DefD := ⟨(C, some "__init__"), "__init__", q, defArgs st, defBody st, defScope st, [], []⟩
section
variable {fa : List Fa} {fn : List DefD} {K : PySem.W.Frag} {h : Heap} {mg : Str → Option Value}
theorem dn_of (X : K.In h) (G : h.Ns mainGlobals mg) (c : SaysD fa fn K) {x : Str} {st : Stmt} {ps : List Str} (i j : Nat) (h1 : fa[i]? = some (.glo x)) (h2 : fn[j]? = some (dAt x st))
    (b : ∀ (kV doc pm : Value) (an : Option Addr) (cdv ct : Value) (us : List Value), us.length = ps.length → bindArgs (PySem.W.fnOf x x (defArgs st) (defBody st) (defScope st) .none kV doc pm an cdv ct) ⟨us, []⟩ = pure (ps.zip us)) : Dn K mg x st ps := by
  obtain ⟨fd, F⟩ := c.def_ j h2
  exact ⟨_, fd, glo_ok X G (c.fact i h1), fun_of F, FunD.bindsN F b⟩
/-- what is asked of an own error's class -/
def oexB (K : PySem.W.Frag) (C : Addr) : Bool := (match K.lookup C with
    | some ⟨.type t, _, .cls cd, sl⟩ => decide (t = "type") && (cd.hasDict && (!cd.hasDel && (match cd.mro, sl with
      | .ref D :: bm, ⟨[_, _, _, _, some (.builtin n), _]⟩ => decide (D = C) && (decide (n = "ValueError.__new__") && PySem.HandSPX.refsVE bm)
      | _, _ => false)))
    | _ => false) && (eqO (PySem.W.findIn K (.ref C) "__setattr__") (some (some (.builtin "object.__setattr__"))) && (decide (PySem.W.subIn K (.ref C) (.type "BaseException") = some true) && (decide (PySem.W.typeIn K (.ref C) = some (.type "type")) && PySem.W.keepIn K (.ref C))))
theorem oexB_ok {C : Addr} (e : oexB K C = true) : OexC K C := by
  obtain ⟨e1, e2⟩ := ba e
  obtain ⟨e2, e3⟩ := ba e2
  obtain ⟨e3, e4⟩ := ba e3
  obtain ⟨e4, e5⟩ := ba e4
  refine ⟨?_, eqO_ok e2, of_decide_eq_true e3, of_decide_eq_true e4, e5⟩
  split at e1
  · rename_i t dd cd sl lk
    obtain ⟨p1, y1⟩ := ba e1
    obtain ⟨p2, y2⟩ := ba y1
    obtain ⟨p3, p4⟩ := ba y2
    clear y1 y2 e1
    obtain ⟨nm, bs, mro, ns, qn, hd, sn, sb, ab, col, del⟩ := cd
    have a1 := p1
    have a2 : hd = true := p2
    have a3 : (!del) = true := p3
    have a4 := p4
    dsimp only at a4
    split at a4
    · rename_i D bm k0 k1 k2 k3 n k5
      obtain ⟨b1, b2⟩ := ba a4
      obtain ⟨b2, b3⟩ := ba b2
      have t1 := of_decide_eq_true a1
      have t2 := of_decide_eq_true b1
      have t3 := of_decide_eq_true b2
      have t4 : del = false := by
        cases del
        · rfl
        · cases a3
      rw [t1, t2, t3, t4, a2] at lk
      exact ⟨nm, qn, ns, bs, bm, sn, sb, ab, col, dd, k0, k1, k2, k3, k5, lk, b3⟩
    · cases a4
  · cases e1
def exnB (K : PySem.W.Frag) (x f : Str) : Bool := oexB K (ga K x) && (eqO (PySem.W.findIn K (.ref (ga K x)) f) (some none) && (eqO (PySem.W.findIn K (.ref (ga K x)) "__init__") (some (some (.ref (ma K (ga K x) "__init__")))) && decide (PySem.W.typeIn K (.ref (ma K (ga K x) "__init__")) = some (.type "function"))))
theorem exn_of (X : K.In h) (G : h.Ns mainGlobals mg) (c : SaysD fa fn K) {x f q : Str} {st : Stmt} (i j : Nat) (h1 : fa[i]? = some (.glo x)) (h2 : fn[j]? = some (dIn x q st)) (e : exnB K x f = true)
    (b : ∀ (kV doc pm : Value) (an : Option Addr) (cdv ct : Value) (us : List Value), us.length = (["self", f] : List Str).length → bindArgs (PySem.W.fnOf "__init__" q (defArgs st) (defBody st) (defScope st) .none kV doc pm an cdv ct) ⟨us, []⟩ = pure ((["self", f] : List Str).zip us)) : ∃ C, ExnD K mg x f q st C := by
  obtain ⟨e1, e2⟩ := ba e
  obtain ⟨e2, e3⟩ := ba e2
  obtain ⟨e3, e4⟩ := ba e3
  obtain ⟨fd, F⟩ := c.def_ j h2
  exact ⟨ga K x, glo_ok X G (c.fact i h1), oexB_ok e1, eqO_ok e2, _, fd, eqO_ok e3, of_decide_eq_true e4, FunD.bindsN F b, fun_of F⟩
def exqB (K : PySem.W.Frag) (x : Str) : Bool := (Fa.exc x).ok K
theorem exq_of (X : K.In h) (G : h.Ns mainGlobals mg) (c : SaysD fa fn K) {x : Str} (i : Nat) (h1 : fa[i]? = some (.glo x)) (e : exqB K x = true) (F : ExcBaseFacts "ValueError" "ValueError.__new__" "ValueError.__init__" veBase) : ∃ C, ExnQ K mg x C := by
  obtain ⟨a1, a2, a3, a4⟩ := exc_ok (K := K) e
  exact ⟨ga K x, glo_ok X G (c.fact i h1), a2, ⟨_, F, a1⟩, a3, a4⟩
def baseB (K : PySem.W.Frag) (x : Str) : Bool := eqO (PySem.W.specialIn K (.ref (ga K x)) "__getattribute__") (some (some (.builtin "type.__getattribute__"))) && (PySem.W.readsIn K (ga K x) (.type "type") && (match PySem.W.findCls K (.ref (ga K x)) (.type "type") "__init__" with
    | some (.val (.builtin n)) => decide (n = "ValueError.__init__")
    | _ => false))
theorem base_of (X : K.In h) (G : h.Ns mainGlobals mg) (c : SaysD fa fn K) {x : Str} (i : Nat) (h1 : fa[i]? = some (.glo x)) (e : baseB K x = true) : ∃ B, BaseI K mg x B := by
  obtain ⟨e1, e2⟩ := ba e
  obtain ⟨e2, e3⟩ := ba e2
  refine ⟨ga K x, glo_ok X G (c.fact i h1), eqO_ok e1, e2, ?_⟩
  split at e3
  · rename_i n en
    rw [en, of_decide_eq_true e3]
  · cases e3
theorem gcI_of (X : K.In h) (G : h.Ns mainGlobals mg) (c : SaysD fa fn K) {x : Str} {z : Int} (i : Nat) (h1 : fa[i]? = some (.int x z)) : Gc mg x (.int z) := by
  obtain ⟨t, e⟩ := int_ok X G (c.fact i h1)
  exact ⟨_, e, t, rfl⟩
theorem gcS_of (X : K.In h) (G : h.Ns mainGlobals mg) (c : SaysD fa fn K) {x z : Str} (i : Nat) (h1 : fa[i]? = some (.str x z)) : Gc mg x (.str z) := by
  obtain ⟨t, e⟩ := str_ok X G (c.fact i h1)
  exact ⟨_, e, t, rfl⟩
theorem free_of (X : K.In h) (G : h.Ns mainGlobals mg) (c : SaysD fa fn K) {x : Str} (i : Nat) (h1 : fa[i]? = some (.free x)) : mg x = none := free_ok X G (c.fact i h1)
end
/-! the look, the interpreter's own table with it -/
def asJ (g : Addr → Option Obj) (n : Nat) : List Addr := cStatics :: asD g n
abbrev AlJ : Type := AlD × Bool
def seeJ (n : Nat) (fa : List Fa) (fn : List DefD) (ex : PySem.W.Frag → Bool) (g : Addr → Option Obj) : AlJ := (obsD fa fn (frG g (asJ g n)), ex (frG g (asJ g n)))
def hookJ (n : Nat) (fa : List Fa) (fn : List DefD) (ex : PySem.W.Frag → Bool) : PySem.W.Hook where
  α := AlJ
  obs s := seeJ n fa fn ex s.heap.get?
  val _ := (valD fn, true)
  says _ h := ∃ K : PySem.W.Frag, K.In h ∧ SaysD fa fn K ∧ ex K = true
  of _ _ e := ⟨_, frG_in, congrArg Prod.fst e, congrArg Prod.snd e⟩
  keeps _ _ _ := fun ⟨K, hK, c⟩ k => ⟨K, hK.keeps k, c⟩
theorem seeJ_eq {n : Nat} {fa : List Fa} {fn : List DefD} {ex : PySem.W.Frag → Bool} {g : Addr → Option Obj} {s : Shared} (h : ∀ a, g a = s.heap.get? a) : seeJ n fa fn ex g = (hookJ n fa fn ex).obs s := by
  rw [show g = s.heap.get? from funext h] <;> rfl
end Jv
namespace S1
open PySem PySem.Spec PyProof.Rows L2 Jv
section
variable {P : Program} {w : World} {K : PySem.W.Frag} {mg : Str → Option Value} {base : Heap} {C : Addr}
theorem exn_BadAddress (T : Txt K mg) (D : ExnD K mg "BadAddress" "given" "BadAddress.__init__" st_BadAddress C) : Exn P w K mg base "BadAddress" "given" C := by
  obtain ⟨B, b⟩ := T.b_JarError
  refine D.exn sc_BadAddress fun fI cdv A out s H vs Q E hr h => ?_
  obtain ⟨a, C', y, rfl, ea, hT, hno, q⟩ := h
  refine ⟨_, pss_cons (ps_expr (pe_jinit b (pa_cons (pv 0) (pa_cons pe_str pa_nil)))) (pss_one (ps_ost (pv 0) (pv 1))), ?_⟩
  exact ⟨.ref a, rfl, a, C', [_], rfl, (by decide), hT, ea, y, rfl, .ref a, rfl, a, C', rfl, hT, hno, Or.inl ⟨ea, fun dx n ne => q dx n ne⟩⟩
theorem exn_BadRow (T : Txt K mg) (D : ExnD K mg "BadRow" "given" "BadRow.__init__" st_BadRow C) : Exn P w K mg base "BadRow" "given" C := by
  obtain ⟨B, b⟩ := T.b_JarError
  refine D.exn sc_BadRow fun fI cdv A out s H vs Q E hr h => ?_
  obtain ⟨a, C', y, rfl, ea, hT, hno, q⟩ := h
  refine ⟨_, pss_cons (ps_expr (pe_jinit b (pa_cons (pv 0) (pa_cons pe_str pa_nil)))) (pss_one (ps_ost (pv 0) (pv 1))), ?_⟩
  exact ⟨.ref a, rfl, a, C', [_], rfl, (by decide), hT, ea, y, rfl, .ref a, rfl, a, C', rfl, hT, hno, Or.inl ⟨ea, fun dx n ne => q dx n ne⟩⟩
theorem exn_BadName (T : Txt K mg) (D : ExnD K mg "BadName" "given" "BadName.__init__" st_BadName C) : Exn P w K mg base "BadName" "given" C := by
  obtain ⟨B, b⟩ := T.b_JarError
  refine D.exn sc_BadName fun fI cdv A out s H vs Q E hr h => ?_
  obtain ⟨a, C', y, rfl, ea, hT, hno, q⟩ := h
  refine ⟨_, pss_cons (ps_expr (pe_jinit b (pa_cons (pv 0) (pa_cons pe_str pa_nil)))) (pss_one (ps_ost (pv 0) (pv 1))), ?_⟩
  exact ⟨.ref a, rfl, a, C', [_], rfl, (by decide), hT, ea, y, rfl, .ref a, rfl, a, C', rfl, hT, hno, Or.inl ⟨ea, fun dx n ne => q dx n ne⟩⟩
theorem exn_BadJar (T : Txt K mg) (D : ExnD K mg "BadJar" "place" "BadJar.__init__" st_BadJar C) : Exn P w K mg base "BadJar" "place" C := by
  obtain ⟨B, b⟩ := T.b_JarError
  refine D.exn sc_BadJar fun fI cdv A out s H vs Q E hr h => ?_
  obtain ⟨a, C', y, rfl, ea, hT, hno, q⟩ := h
  refine ⟨_, pss_cons (ps_expr (pe_jinit b (pa_cons (pv 0) (pa_cons pe_str pa_nil)))) (pss_one (ps_ost (pv 0) (pv 1))), ?_⟩
  exact ⟨.ref a, rfl, a, C', [_], rfl, (by decide), hT, ea, y, rfl, .ref a, rfl, a, C', rfl, hT, hno, Or.inl ⟨ea, fun dx n ne => q dx n ne⟩⟩
theorem exs_of (T : Txt K mg) : Exs P w K mg base := by
  obtain ⟨C1, D1⟩ := T.x_BadJar
  obtain ⟨C2, D2⟩ := T.x_BadSite
  obtain ⟨C3, D3⟩ := T.x_BadPage
  obtain ⟨C4, D4⟩ := T.x_BadRow
  obtain ⟨C5, D5⟩ := T.x_BadAddress
  obtain ⟨C6, D6⟩ := T.x_BadName
  exact ⟨⟨C1, exn_BadJar T D1⟩, ⟨C2, exn_BadSite T D2⟩, ⟨C3, exn_BadPage T D3⟩, ⟨C4, exn_BadRow T D4⟩, ⟨C5, exn_BadAddress T D5⟩, ⟨C6, exn_BadName T D6⟩⟩
end
def faL : List He.Fa := ([.glo "is_word", .glo "is_label", .glo "is_host", .glo "is_path", .glo "is_address", .glo "need_address", .glo "is_within", .glo "is_below", .glo "is_name", .glo "need_name", .glo "is_number_below", .glo "is_write", .glo "is_key", .glo "_need_page_form", .glo "need_site", .glo "need_page", .glo "_is_taken", .glo "_key", .glo "taken_writes", .glo "is_kept", .glo "_place", .glo "need_jar", .glo "_need_row", .glo "_do_writes", .glo "_jar_of", .glo "jar_after", .glo "visited", .glo "behind", .glo "reaches", .glo "_goes"] : List He.Fa) ++ ([.glo "pairs_sent", .glo "sent", .glo "value_read", .glo "read", .glo "_law_mixed", .glo "_law_begin", .glo "_law_draw", .glo "_law_of", .glo "_law_values", .glo "_law_two_right", .glo "_law_ages_right", .glo "_law_folders_right", .glo "_law_untaken_right", .glo "_law_wide_right", .glo "law", .free "all", .free "bool", .free "enumerate", .free "int", .free "isinstance", .free "len", .free "list", .free "min", .free "range", .free "set", .free "sorted", .free "str", .free "tuple", .glo "JarError", .glo "BadSite"] : List He.Fa) ++ ([.glo "BadAddress", .glo "BadRow", .glo "BadName", .glo "BadPage", .glo "BadJar", .str "LETTERS" lts, .str "SIGNS" sgs, .int "LONGEST_WORD" 6, .int "LEAST_LABELS" 2, .int "MOST_LABELS" 5, .int "MOST_SEGMENTS" 4, .int "MOST_PAGES" 5, .int "MOST_WRITES" 5] : List He.Fa)
def fnL : List He.DefD := ([dAt "is_word" st_is_word, dAt "is_label" st_is_label, dAt "is_host" st_is_host, dAt "is_path" st_is_path, dAt "is_address" st_is_address, dAt "need_address" st_need_address, dAt "is_within" st_is_within, dAt "is_below" st_is_below, dAt "is_name" st_is_name, dAt "need_name" st_need_name, dAt "is_number_below" st_is_number_below, dAt "is_write" st_is_write, dAt "is_key" st_is_key, dAt "_need_page_form" st__need_page_form, dAt "need_site" st_need_site, dAt "need_page" st_need_page, dAt "_is_taken" st__is_taken, dAt "_key" st__key, dAt "taken_writes" st_taken_writes, dAt "is_kept" st_is_kept, dAt "_place" st__place, dAt "need_jar" st_need_jar, dAt "_need_row" st__need_row, dAt "_do_writes" st__do_writes, dAt "_jar_of" st__jar_of, dAt "jar_after" st_jar_after, dAt "visited" st_visited, dAt "behind" st_behind, dAt "reaches" st_reaches, dAt "_goes" st__goes] : List He.DefD) ++ ([dAt "pairs_sent" st_pairs_sent, dAt "sent" st_sent, dAt "value_read" st_value_read, dAt "read" st_read, dAt "_law_mixed" st__law_mixed, dAt "_law_begin" st__law_begin, dAt "_law_draw" st__law_draw, dAt "_law_of" st__law_of, dAt "_law_values" st__law_values, dAt "_law_two_right" st__law_two_right, dAt "_law_ages_right" st__law_ages_right, dAt "_law_folders_right" st__law_folders_right, dAt "_law_untaken_right" st__law_untaken_right, dAt "_law_wide_right" st__law_wide_right, dAt "law" st_law, dIn "BadSite" "BadSite.__init__" st_BadSite, dIn "BadAddress" "BadAddress.__init__" st_BadAddress, dIn "BadRow" "BadRow.__init__" st_BadRow, dIn "BadName" "BadName.__init__" st_BadName, dIn "BadPage" "BadPage.__init__" st_BadPage, dIn "BadJar" "BadJar.__init__" st_BadJar] : List He.DefD)
def looseL : List Str := (["JarError", "BadSite", "BadAddress", "BadRow", "BadName", "BadPage", "BadJar", "LETTERS", "SIGNS", "LONGEST_WORD", "LEAST_LABELS", "MOST_LABELS", "MOST_SEGMENTS", "is_word", "is_label", "is_host", "is_path", "is_address", "need_address", "is_within", "is_below", "MOST_PAGES", "MOST_WRITES", "is_name", "need_name", "is_number_below", "is_write", "is_key", "_need_page_form", "need_site"] : List Str) ++ (["need_page", "_is_taken", "_key", "taken_writes", "is_kept", "_place", "need_jar", "_need_row", "_do_writes", "_jar_of", "jar_after", "visited", "behind", "reaches", "_goes", "pairs_sent", "sent", "value_read", "read", "_law_mixed", "_law_begin", "_law_draw", "_law_of", "_law_values", "_law_two_right", "_law_ages_right", "_law_folders_right", "_law_untaken_right", "_law_wide_right"] : List Str)
def exL (K : PySem.W.Frag) : List Bool := [baseB K "JarError", exnB K "BadSite" "place", exnB K "BadAddress" "given", exnB K "BadRow" "given", exnB K "BadName" "given", exnB K "BadPage" "given", exnB K "BadJar" "place"]
theorem exs {K : PySem.W.Frag} (e : (exL K).all id = true) (i : Nat) {b : Bool} (h : (exL K)[i]? = some b) : b = true := List.all_eq_true.mp e b (List.mem_of_getElem? h)
theorem txt_of {K : PySem.W.Frag} {h : Heap} {mg : Str → Option Value} (X : K.In h) (G : h.Ns mainGlobals mg) (c : He.SaysD faL fnL K) (e : (exL K).all id = true) : Txt K mg where
  d_is_word := dn_of X G c 0 0 rfl rfl (fun _ _ _ _ _ _ us hl => match us, hl with | [_, _], _ => rfl)
  d_is_label := dn_of X G c 1 1 rfl rfl (fun _ _ _ _ _ _ us hl => match us, hl with | [_], _ => rfl)
  d_is_host := dn_of X G c 2 2 rfl rfl (fun _ _ _ _ _ _ us hl => match us, hl with | [_], _ => rfl)
  d_is_path := dn_of X G c 3 3 rfl rfl (fun _ _ _ _ _ _ us hl => match us, hl with | [_], _ => rfl)
  d_is_address := dn_of X G c 4 4 rfl rfl (fun _ _ _ _ _ _ us hl => match us, hl with | [_], _ => rfl)
  d_need_address := dn_of X G c 5 5 rfl rfl (fun _ _ _ _ _ _ us hl => match us, hl with | [_], _ => rfl)
  d_is_within := dn_of X G c 6 6 rfl rfl (fun _ _ _ _ _ _ us hl => match us, hl with | [_, _], _ => rfl)
  d_is_below := dn_of X G c 7 7 rfl rfl (fun _ _ _ _ _ _ us hl => match us, hl with | [_, _], _ => rfl)
  d_is_name := dn_of X G c 8 8 rfl rfl (fun _ _ _ _ _ _ us hl => match us, hl with | [_], _ => rfl)
  d_need_name := dn_of X G c 9 9 rfl rfl (fun _ _ _ _ _ _ us hl => match us, hl with | [_], _ => rfl)
  d_is_number_below := dn_of X G c 10 10 rfl rfl (fun _ _ _ _ _ _ us hl => match us, hl with | [_, _], _ => rfl)
  d_is_write := dn_of X G c 11 11 rfl rfl (fun _ _ _ _ _ _ us hl => match us, hl with | [_], _ => rfl)
  d_is_key := dn_of X G c 12 12 rfl rfl (fun _ _ _ _ _ _ us hl => match us, hl with | [_], _ => rfl)
  d__need_page_form := dn_of X G c 13 13 rfl rfl (fun _ _ _ _ _ _ us hl => match us, hl with | [_, _], _ => rfl)
  d_need_site := dn_of X G c 14 14 rfl rfl (fun _ _ _ _ _ _ us hl => match us, hl with | [_], _ => rfl)
  d_need_page := dn_of X G c 15 15 rfl rfl (fun _ _ _ _ _ _ us hl => match us, hl with | [_, _], _ => rfl)
  d__is_taken := dn_of X G c 16 16 rfl rfl (fun _ _ _ _ _ _ us hl => match us, hl with | [_, _], _ => rfl)
  d__key := dn_of X G c 17 17 rfl rfl (fun _ _ _ _ _ _ us hl => match us, hl with | [_, _], _ => rfl)
  d_taken_writes := dn_of X G c 18 18 rfl rfl (fun _ _ _ _ _ _ us hl => match us, hl with | [_], _ => rfl)
  d_is_kept := dn_of X G c 19 19 rfl rfl (fun _ _ _ _ _ _ us hl => match us, hl with | [_], _ => rfl)
  d__place := dn_of X G c 20 20 rfl rfl (fun _ _ _ _ _ _ us hl => match us, hl with | [_], _ => rfl)
  d_need_jar := dn_of X G c 21 21 rfl rfl (fun _ _ _ _ _ _ us hl => match us, hl with | [_], _ => rfl)
  d__need_row := dn_of X G c 22 22 rfl rfl (fun _ _ _ _ _ _ us hl => match us, hl with | [_, _], _ => rfl)
  d__do_writes := dn_of X G c 23 23 rfl rfl (fun _ _ _ _ _ _ us hl => match us, hl with | [_, _], _ => rfl)
  d__jar_of := dn_of X G c 24 24 rfl rfl (fun _ _ _ _ _ _ us hl => match us, hl with | [_], _ => rfl)
  d_jar_after := dn_of X G c 25 25 rfl rfl (fun _ _ _ _ _ _ us hl => match us, hl with | [_, _], _ => rfl)
  d_visited := dn_of X G c 26 26 rfl rfl (fun _ _ _ _ _ _ us hl => match us, hl with | [_, _, _], _ => rfl)
  d_behind := dn_of X G c 27 27 rfl rfl (fun _ _ _ _ _ _ us hl => match us, hl with | [_, _], _ => rfl)
  d_reaches := dn_of X G c 28 28 rfl rfl (fun _ _ _ _ _ _ us hl => match us, hl with | [_, _], _ => rfl)
  d__goes := dn_of X G c 29 29 rfl rfl (fun _ _ _ _ _ _ us hl => match us, hl with | [_, _], _ => rfl)
  d_pairs_sent := dn_of X G c 30 30 rfl rfl (fun _ _ _ _ _ _ us hl => match us, hl with | [_, _], _ => rfl)
  d_sent := dn_of X G c 31 31 rfl rfl (fun _ _ _ _ _ _ us hl => match us, hl with | [_, _], _ => rfl)
  d_value_read := dn_of X G c 32 32 rfl rfl (fun _ _ _ _ _ _ us hl => match us, hl with | [_, _, _], _ => rfl)
  d_read := dn_of X G c 33 33 rfl rfl (fun _ _ _ _ _ _ us hl => match us, hl with | [_, _, _], _ => rfl)
  d__law_mixed := dn_of X G c 34 34 rfl rfl (fun _ _ _ _ _ _ us hl => match us, hl with | [_, _], _ => rfl)
  d__law_begin := dn_of X G c 35 35 rfl rfl (fun _ _ _ _ _ _ us hl => match us, hl with | [_], _ => rfl)
  d__law_draw := dn_of X G c 36 36 rfl rfl (fun _ _ _ _ _ _ us hl => match us, hl with | [_, _], _ => rfl)
  d__law_of := dn_of X G c 37 37 rfl rfl (fun _ _ _ _ _ _ us hl => match us, hl with | [_, _], _ => rfl)
  d__law_values := dn_of X G c 38 38 rfl rfl (fun _ _ _ _ _ _ us hl => match us, hl with | [_], _ => rfl)
  d__law_two_right := dn_of X G c 39 39 rfl rfl (fun _ _ _ _ _ _ us hl => match us, hl with | [_, _], _ => rfl)
  d__law_ages_right := dn_of X G c 40 40 rfl rfl (fun _ _ _ _ _ _ us hl => match us, hl with | [_, _, _], _ => rfl)
  d__law_folders_right := dn_of X G c 41 41 rfl rfl (fun _ _ _ _ _ _ us hl => match us, hl with | [_, _, _], _ => rfl)
  d__law_untaken_right := dn_of X G c 42 42 rfl rfl (fun _ _ _ _ _ _ us hl => match us, hl with | [_, _], _ => rfl)
  d__law_wide_right := dn_of X G c 43 43 rfl rfl (fun _ _ _ _ _ _ us hl => match us, hl with | [_], _ => rfl)
  d_law := dn_of X G c 44 44 rfl rfl (fun _ _ _ _ _ _ us hl => match us, hl with | [_], _ => rfl)
  z_all := free_of X G c 45 rfl
  z_bool := free_of X G c 46 rfl
  z_enumerate := free_of X G c 47 rfl
  z_int := free_of X G c 48 rfl
  z_isinstance := free_of X G c 49 rfl
  z_len := free_of X G c 50 rfl
  z_list := free_of X G c 51 rfl
  z_min := free_of X G c 52 rfl
  z_range := free_of X G c 53 rfl
  z_set := free_of X G c 54 rfl
  z_sorted := free_of X G c 55 rfl
  z_str := free_of X G c 56 rfl
  z_tuple := free_of X G c 57 rfl
  b_JarError := base_of X G c 58 rfl (exs e 0 rfl)
  x_BadSite := exn_of X G c 59 45 rfl rfl (exs e 1 rfl) (fun _ _ _ _ _ _ us hl => match us, hl with | [_, _], _ => rfl)
  x_BadAddress := exn_of X G c 60 46 rfl rfl (exs e 2 rfl) (fun _ _ _ _ _ _ us hl => match us, hl with | [_, _], _ => rfl)
  x_BadRow := exn_of X G c 61 47 rfl rfl (exs e 3 rfl) (fun _ _ _ _ _ _ us hl => match us, hl with | [_, _], _ => rfl)
  x_BadName := exn_of X G c 62 48 rfl rfl (exs e 4 rfl) (fun _ _ _ _ _ _ us hl => match us, hl with | [_, _], _ => rfl)
  x_BadPage := exn_of X G c 63 49 rfl rfl (exs e 5 rfl) (fun _ _ _ _ _ _ us hl => match us, hl with | [_, _], _ => rfl)
  x_BadJar := exn_of X G c 64 50 rfl rfl (exs e 6 rfl) (fun _ _ _ _ _ _ us hl => match us, hl with | [_, _], _ => rfl)
  c_LETTERS := gcS_of X G c 65 rfl
  c_SIGNS := gcS_of X G c 66 rfl
  c_LONGEST_WORD := gcI_of X G c 67 rfl
  c_LEAST_LABELS := gcI_of X G c 68 rfl
  c_MOST_LABELS := gcI_of X G c 69 rfl
  c_MOST_SEGMENTS := gcI_of X G c 70 rfl
  c_MOST_PAGES := gcI_of X G c 71 rfl
  c_MOST_WRITES := gcI_of X G c 72 rfl
abbrev R : PySem.W.OpenRow := PySem.W.OpenLaw.row PySem.Challenge.rw_jarvisits_k05_visits_by_hand
abbrev hk : PySem.W.Hook := hookJ 5 faL fnL fun K => (exL K).all id
def ob (s : PySem.W.SharedT) : AlJ := seeJ 5 faL fnL (fun K => (exL K).all id) (HandSHeadRun.getT s)
theorem ob_eq (s : PySem.W.SharedT) : ob s = hk.obs s.abs := seeJ_eq (HandSHeadRun.getT_eq s)
theorem run (w : World) : HandSHeadRun.RunEq R (PySem.W.view R.prog [64]) hk ob 12000 looseL w := by
  intro os
  kernel_rfl
end S1
open PySem PySem.W PySem.Calls PyProof.Rows
theorem PySem.Challenge.cw_jarvisits_k05_visits_by_hand_holds : PySem.Challenge.rw_jarvisits_k05_visits_by_hand.Holds := by
  w_on; o_law
  refine HandSHeadRun.head_any (r := OpenLaw.row PySem.Challenge.rw_jarvisits_k05_visits_by_hand) (q := view (OpenLaw.row PySem.Challenge.rw_jarvisits_k05_visits_by_hand).prog [64]) (H := S1.hk) (ob := S1.ob) (M := 12000) (loose := S1.looseL) (d := HandSHeadRun.topDef (OpenLaw.row PySem.Challenge.rw_jarvisits_k05_visits_by_hand).prog 64) (kwd := []) S1.ob_eq
    (by kernel_rfl) (fun s => by kernel_rfl) S1.run (by kernel_rfl) (by kernel_rfl) (by kernel_rfl) (by rfl) (by first | assumption | decide +kernel) (by decide +kernel) ⟨rfl, rfl, rfl, rfl, rfl, by decide +kernel⟩ ?hw ?hc
  case hw => w_witness2
  case hc =>
    refine Jv.walk_ofG (l := PySem.Challenge.rw_jarvisits_k05_visits_by_hand) (n := 63) (k := 9) (x := "script") rfl (by decide) (by kernel_rfl) ⟨rfl, by decide, by decide⟩ fun w mg fa h Y G hmg0 => ?_
    obtain ⟨K, KX, c, ce⟩ := Y
    have hmg : mg ("law" : PySem.Str) = some (.ref fa) := by
      have e : (HandSHeadRun.topDef (OpenLaw.row PySem.Challenge.rw_jarvisits_k05_visits_by_hand).prog 64).name = ("law" : PySem.Str) := by kernel_rfl
      rw [← e]
      exact hmg0
    have T := S1.txt_of KX G c ce
    exact ⟨K, S1.spLaw K, KX, fun H a ns hl _ hS => ⟨a, ns, rfl, hS, hl, fun _ => rfl⟩, fun base _ _ => Jv.end_ok hmg (S1.ok_law T (S1.exs_of T))⟩
