import PyProof.Rows.All
import Wide.All
import OpenK.AllK
import Wide.FinOn
import HandS.ForMost
import HandS.ForExc
import HandS.IsInst
import HandS.IterNext
import HandS.OwnIter
import KE.KOwnIter
import PyProof.Rows.Range3
import PyProof.Conv_bool
import KE.GoesMore
import KE.GoesEnum
import KE.GoesZip
import HandS.Walk
import PyProof.FactsInt
import PyProof.FactsInt2
import PyProof.Rows.FactsB_mul
import HandS.OwnEq
import HandS.SetFor
import HandS.TupLe
import HandS.TupAny
import PyProof.NeKinds
import PyProof.P3Eq
import HandS.TupMul
import KE.KExcInit
import KE.KDictPairs
import HandS.TryMany
import HandS.ExcIs
import PyProof.ExcBaseAll.ValueError
import HandS.ExcOwn
import PyProof.CallFns
import HandS.More
import HandS.FStr
import KE.KFmtOwn
import KE.KCallOwn
import KE.KRevSl
import HandS.Lambda
import HandS.EndBits
import HandS.EndTab
import HandS.Wide
import HandS.Property
import PySem.Challenge.RW_primekinds_k10_errors_of_kinds
import HandS.Defaults
import HandS.Conv
import HandS.Star
import HandS.ClsMeth
import HandS.RaiseMore
import HandS.Text
import HandS.Style
import KE.KNestM
set_option Elab.async false
set_option linter.all false
set_option maxRecDepth 100000
set_option maxHeartbeats 4000000
/-! Promises of defs that are called where no container is being shown (the guards of the stack are known to be empty): repr of containers needs this. -/
namespace Gd
open PySem PySem.Spec PyProof.Rows L2

/-- no container is being shown -/
abbrev NoG (A : Around) : Prop := A.guards = some []

/-- the promise of a def, kept wherever no container is being shown -/
structure FnG (P : Program) (w : World) (K : PySem.W.Frag) (mg : Str → Option Value) (base : Heap) (CX : CXT) (k : Nat)
    (f : Addr) (fd : FuncData) (ps : List Str) (sp : Sp) : Prop where
  many : ∀ vs H Q E, sp vs H Q E → vs.length = ps.length
  go : ∀ (A : Around) (out : List Env) (s : Shared) (H : Hp) (ar : Args) (us : List Value) (vs : List V) (Q : VK) (E : XK),
    NoG A → Room k A → Env0 P w K mg base A out s H → BindsTo s fd ar (ps.zip us) → Vals vs us → sp vs H Q E →
      codeAny (model P w) A (.call (.ref f) ar) (CR CX out P w H s Q E) s

section
variable {P : Program} {w : World} {K : PySem.W.Frag} {mg : Str → Option Value} {base : Heap} {CX : CXT} {k : Nat}
  {f : Addr} {fd : FuncData} {ps : List Str} {sp : Sp}
theorem FnG.of (F : FnOk P w K mg base CX k f fd ps sp) : FnG P w K mg base CX k f fd ps sp :=
  ⟨F.len, fun A out s H ar us vs Q E _ => F.run A out s H ar us vs Q E⟩

/-- a def by its body, where no container is being shown -/
theorem fnG {x qual : Str} {st : Stmt} {N : List Str} (F : Fun K x qual st f fd) (S : FnScope N ps (defScope st))
    (many : ∀ vs H Q E, sp vs H Q E → vs.length = ps.length)
    (body : ∀ (cdv : Value) (A : Around) (out : List Env) (s : Shared) (H : Hp) (vs : List V) (Q : VK) (E : XK),
      NoG A → Room k (A.deeper (envOfC qual (defScope st) s.heap.objs.size f cdv)) → sp vs H Q E →
      ∃ t, PSs (cxOf CX P w K mg base N qual (defScope st) f cdv A out s H E) (defBody st) t ∧
        t { nx := fun _ H' => Q .non H', rt := Q } (start N vs) H) :
    FnG P w K mg base CX (k + 1) f fd ps sp := by
  obtain ⟨oc, od, kV, doc, pm, an, cdv, ct, osl, rfl, lk, hcd⟩ := F.ex
  refine ⟨many, ?_⟩
  intro A out s H ar us vs Q E hg hr e0 hb r hsp
  have hl := many vs H Q E hsp
  have KX : K.In s.heap := e0.mod.kin.keeps (fun b o e => (e0.bs b o e).1)
  have lim : s.heap.NoLimit := e0.mod.nolimit.keeps (fun b o e => (e0.bs b o e).1)
  have kinds : ∀ y ∈ ps.zip us, (defScope st).names.lookup y.1 = some .local ∨
      ((defScope st).names.lookup y.1 = some .cell ∧ ((cellsFrom (s.heap.objs.size + 1) (defScope st).names []).lookup y.1).isSome = true) := by
    rintro ⟨n, v⟩ hy
    rcases S.par n (List.of_mem_zip hy).1 with q | q
    · exact Or.inl q
    · exact Or.inr ⟨q, PySem.W.cellsFrom_some _ _ _ (Or.inl q)⟩
  refine codeAny_call_function hr.depth (KX _ _ lk) rfl S.co S.gen rfl
    (PySem.W.codeRec_of KX hcd) (hb _ _ _ _ ?_)
  refine wpAny_newFunctionEnv_cells S.kind kinds ?_
  intro env he s1 x
  cases he
  refine ⟨lim.keeps x.toInCall.keep, codeAny_func ?_⟩
  obtain ⟨t, ht, hq⟩ := body cdv A out s H vs Q E hg (hr.deeper _) hsp
  have I := inv_start (CX := CX) (E := E) S hr.hd e0 hl r x
  refine wpAny_mono (ht.run [] s1 (start N vs) H _ I hq) ?_ (fun e s' hs => hs)
  intro fl s' hs
  have fin : ∀ {σ' : L2.St} {H' : Hp} {v : V} {u : Value},
      Inv (cxOf CX P w K mg base N qual (defScope st) f cdv A out s H E) [] σ' H' s' →
      RelV v u → Q v H' → CE out P w H s Q u s' := by
    intro σ' H' v u J rv q
    exact ⟨v, H', J.os, J.bare, J.base, J.hok, rv, q⟩
  cases fl with
  | ret u =>
    obtain ⟨v, σ', H', J, rv, q⟩ := hs
    exact fin J rv q
  | next =>
    obtain ⟨σ', H', J, q⟩ := hs
    exact fin (v := V.non) (u := Value.none) J rfl q
  | brk =>
    obtain ⟨σ', H', J, q⟩ := hs
    exact False.elim q
  | cont =>
    obtain ⟨σ', H', J, q⟩ := hs
    exact False.elim q
end

section
variable {X : Cx} {CX : CXT} {k : Nat} {f C : Addr} {fd : FuncData} {ps : List Str} {sp : Sp} {dvs : List V} {ds : List Value} {E : XK}
  {x : Str} {p pos : Pos} {e : Expr} {es : List Expr} {t : TA}
/-- the call of such a def -/
theorem goG {pins : List (Addr × Obj)} {σ : L2.St} {H : Hp} {s : Shared} {Q : VK} {us : List Value} {vs : List V}
    (hg : NoG X.A) (F : FnG X.prog X.w X.K X.mg X.base CX k f fd ps sp) (hr : Room k X.A) (hb : Binds X.K fd ps ds)
    (hd : Vals dvs ds) (hx : Passes CX X E) (I : Inv X pins σ H s) (r : Vals vs us) (h : sp (vs ++ dvs) H Q E) :
    wpAny (model X.prog X.w) X.A (call (.ref f) us) (EP X pins σ Q) X.xe s := by
  have r2 := Vals.append r hd
  have hl : (us ++ ds).length = ps.length := by
    rw [← r2.length]
    exact F.many _ H Q E h
  have run := F.go X.A X.stack s H ⟨us, []⟩ (us ++ ds) _ Q E hg hr I.env0 (hb s us I.kIn hl) r2 h
  refine wpAny_call (codeAny_mono run ?_)
  intro r s' hq
  match r, hq with
  | .error e, hq => exact hx pins σ H s e s' I hq
  | .ok (.ret u), hq => exact I.after hq
  | .ok .next, hq => exact False.elim hq
  | .ok .brk, hq => exact False.elim hq
  | .ok .cont, hq => exact False.elim hq

theorem pe_callG (hg : NoG X.A) (F : FnG X.prog X.w X.K X.mg X.base CX k f fd ps sp) (hr : Room k X.A) (hgl : Gl X x)
    (hm : X.mg x = some (.ref f)) (hk : PySem.W.keepIn X.K (.ref f) = true) (hb : Binds X.K fd ps ds) (hd : Vals dvs ds)
    (hx : Passes CX X E) (ha : PA X (e :: es) t) (hdb : (x == ("__debug__" : Str)) = false := by decide)
    (he : starEach (e :: es) X.env = (false, eval e X.env) :: starEach es X.env := by rfl)
    (hpl : (backTo pos (starEach es X.env)).any (·.1) = false := by rfl) :
    PE X (.Call (.Name x p) (e :: es) [] pos) (tCall sp dvs E t) := by
  constructor
  intro pins s σ H Q I h
  refine wpAny_Call_Name_kw (ld_glob I hgl hm ?_ hdb)
  have go := thn (ha.run pos pins s σ H _ I h) (fun us s1 ⟨vs, H1, I1, r, q⟩ =>
    (⟨I1.kIn, goG hg F hr hb hd hx I1 r q⟩ : X.K.In s1.heap ∧ wpAny (model X.prog X.w) X.A (call (.ref f) us) (EP X pins σ Q) X.xe s1))
  exact PySem.W.callWith_K (h₀ := X.base) I.ok.mod.kin hk go he hpl
end

section
variable {P : Program} {w : World} {K : PySem.W.Frag} {mg mb : Str → Option Value} {CX : CXT} {k : Nat} {fa a : Addr}
  {fd : FuncData} {x : Str} {sp : Sp} {s₁ : Shared} {vs : List Value} {ns : List Int}
/-- the call of the law, from a heap H of which nothing but the script is tracked -/
theorem coreG (KX : K.In s₁.heap) (hns : s₁.heap.Ns mainGlobals mg) (hb : s₁.heap.Ns builtinsNs mb)
    (hbb : ∀ x : Str, x ≠ "__name__" → mb x = bootBuiltins x) (hlim : s₁.heap.NoLimit) (hg : s₁.gens = #[])
    (ha : s₁.heap.get? a = some { cls := .type "list", data := .seq vs.toArray }) (hr : Room k callerA)
    (F : ∀ base : Heap, K.In base → base.Ns mainGlobals mg → FnG P w K mg base CX k fa fd [x] sp)
    (hbind : ∀ (s : Shared) (u : Value), BindsTo s fd ⟨[u], []⟩ [(x, u)])
    (hCX : ∀ H e s', CX [] H s₁ (fun _ _ _ => False) e s' → False)
    (H : Hp) (hO : Only H) (hsp : sp [.ref a] H (fun v _ => v = .bl true) fun _ _ _ => False)
    (hok : HOk P w H s₁.heap) (hA : ∀ b, H b ≠ none → b = a) (hK : H a ≠ none → K.lookup a = none) :
    codeAny (model P w) callerA (.call (.ref fa) ⟨[.ref a], []⟩)
      (fun r s' => r = .ok (.ret (.bool true)) ∧ OldK s₁.heap s'.heap ∧ s'.os = s₁.os ∧ AllBare s'.gens) s₁ := by
  have at_a : ∀ {b : Addr}, H b ≠ none → b = a := fun {b} z => hA b z
  have keepB : ∀ {b : Addr} {o : Obj}, s₁.heap.get? b = some o → H b = none → (hidT s₁.heap H).get? b = some o := by
    intro b o e n
    exact hidT_get e n
  have noDict : ∀ {b : Addr} {o : Obj} {es : Array DictEntry} {ep : Nat},
      s₁.heap.get? b = some o → o.data = .dict es ep → H b = none := by
    intro b o es ep e d
    cases q : H b with
    | none => rfl
    | some u =>
      obtain rfl : b = a := at_a (by rw [q]; simp)
      rw [ha] at e
      cases e
      cases d
  have nsOf : ∀ {b : Addr} {m : Str → Option Value}, s₁.heap.Ns b m → (hidT s₁.heap H).Ns b m := by
    rintro b m ⟨o, es, ep, e, d, r⟩
    exact ⟨o, es, ep, keepB e (noDict e d), d, r⟩
  have inB : K.In (hidT s₁.heap H) := by
    intro b o e
    refine keepB (KX b o e) ?_
    cases q : H b with
    | none => rfl
    | some u =>
      obtain rfl : b = a := at_a (by rw [q]; simp)
      rw [hK (by rw [q]; simp)] at e
      cases e
  obtain ⟨mc, l1, l2⟩ := hlim
  have hM : Mod K mg (hidT s₁.heap H) := ⟨inB, nsOf hns, ⟨mb, nsOf hb, hbb⟩, ⟨mc, nsOf l1, l2⟩⟩
  have e0 : Env0 P w K mg (hidT s₁.heap H) callerA [] s₁ H := by
    refine ⟨rfl, hM, ?_, Nat.le_of_eq (hidT_size _ _), trivial, ?_, hok, .of_eq hg⟩
    · intro b o e
      exact of_hidT e
    · intro b z
      exact absurd (show b ∈ ([] : List Addr) from z) (by simp)
  have run := (F _ inB (nsOf hns)).go callerA [] s₁ H ⟨[.ref a], []⟩ [.ref a] [.ref a] _ _ rfl hr e0 (hbind s₁ (.ref a)) (.cons rfl .nil) hsp
  refine codeAny_mono run ?_
  intro r s' h
  match r, h with
  | .error e, h => exact (hCX H e s' h).elim
  | .ok .next, h => exact False.elim h
  | .ok .brk, h => exact False.elim h
  | .ok .cont, h => exact False.elim h
  | .ok (.ret u), h =>
    obtain ⟨v, H', os, bare, un, hok', rv, q⟩ := h
    obtain rfl : v = .bl true := q
    obtain rfl : u = Value.bool true := rv
    refine ⟨rfl, OldK.of_keep ?_, os, bare⟩
    intro b o e
    cases q : H b with
    | none => exact un.keep b o e q (fun z => absurd (show b ∈ ([] : List Addr) from z) (by simp)) (by simp)
    | some u =>
      rcases hO b with z | ⟨ob, xs, z⟩
      · rw [q] at z
        cases z
      · obtain ⟨e1, _⟩ := hok b _ z
        obtain ⟨e2, _⟩ := hok' b _ (un.frzs b ob _ z)
        rw [e] at e1
        cases e1
        exact e2

theorem law_callG (KX : K.In s₁.heap) (hns : s₁.heap.Ns mainGlobals mg) (hb : s₁.heap.Ns builtinsNs mb)
    (hbb : ∀ x : Str, x ≠ "__name__" → mb x = bootBuiltins x) (hlim : s₁.heap.NoLimit) (hg : s₁.gens = #[])
    (ha : s₁.heap.get? a = some { cls := .type "list", data := .seq vs.toArray }) (hi : IntsAre vs ns) (hl : ns.length ≤ sizeLine)
    (hr : Room k callerA) (F : ∀ base : Heap, K.In base → base.Ns mainGlobals mg → FnG P w K mg base CX k fa fd [x] sp)
    (hbind : ∀ (s : Shared) (u : Value), BindsTo s fd ⟨[u], []⟩ [(x, u)])
    (hsp : ∀ H : Hp, Only H → SqL K H a (ns.map V.int) → sp [.ref a] H (fun v _ => v = .bl true) fun _ _ _ => False)
    (hCX : ∀ H e s', CX [] H s₁ (fun _ _ _ => False) e s' → False) :
    codeAny (model P w) callerA (.call (.ref fa) ⟨[.ref a], []⟩)
      (fun r s' => r = .ok (.ret (.bool true)) ∧ OldK s₁.heap s'.heap ∧ s'.os = s₁.os ∧ AllBare s'.gens) s₁ := by
  have rv := vals_ints hi
  have lenV := hi.length
  cases hk : K.lookup a with
  | some o =>
    have e := KX a o hk
    rw [ha] at e
    cases e
    have none' : ∀ b : Addr, (fun _ : Addr => (none : Option HO)) b = none := fun _ => rfl
    refine coreG KX hns hb hbb hlim hg ha hr F hbind hCX (fun _ => none) (fun _ => .inl rfl) (hsp _ (fun _ => .inl rfl) ?_) ?_ (fun b z => absurd (none' b) z) (fun z => absurd (none' a) z)
    · exact .inr ⟨_, vs.toArray, _, hk, rfl, rfl, rfl, by rw [List.size_toArray, lenV]; exact hl, by simpa using rv⟩
    · intro b u z
      cases z
  | none =>
    have hpos : ∀ b, (fun b => if b = a then some (HO.frz { cls := .type "list", data := .seq vs.toArray } (.lst (ns.map V.int))) else none) b ≠ none → b = a := by
      intro b z
      by_cases q : b = a
      · exact q
      · exact absurd (if_neg q) z
    have hO : Only (fun b => if b = a then some (HO.frz { cls := .type "list", data := .seq vs.toArray } (.lst (ns.map V.int))) else none) := by
      intro b
      by_cases q : b = a
      · exact .inr ⟨_, _, if_pos q⟩
      · exact .inl (if_neg q)
    refine coreG KX hns hb hbb hlim hg ha hr F hbind hCX _ hO (hsp _ hO ?_) ?_ hpos (fun _ => hk)
    · exact .inl (.inr ⟨{ cls := .type "list", data := .seq vs.toArray }, if_pos rfl⟩)
    · intro b u z
      have q : b = a := hpos b (by rw [z]; simp)
      subst q
      have z' := (if_pos rfl).symm.trans z
      cases z'
      exact ⟨ha, by rw [List.length_map]; exact hl, vs, _, rv, ha⟩
end

/-- the end of a law -/
theorem walkG {l : PySem.W.OpenLaw} {n k : Nat} {q : Program} {loose : List Str} {XP : (Str → Option Value) → Heap → Prop} {YP : World → Heap → Prop} {d : DefRec} {K : Params → PySem.W.Frag} {CX : World → CXT} {sp : World → Sp} {x : Str}
    (hn : l.most = some n) (hn2 : n ≤ sizeLine) (hdf : d.params.defaults = []) (hr : Room k callerA)
    (hY : ∀ (w : World) (h : Heap), YP w h → (K w.params).In h)
    (F : ∀ (w : World) (mg : Str → Option Value) (fa : Addr) (h : Heap), (K w.params).In h → h.Ns mainGlobals mg → mg d.name = some (.ref fa) →
      ∃ fd : FuncData, (∀ (s : Shared) (u : Value), BindsTo s fd ⟨[u], []⟩ [(x, u)]) ∧
        ∀ base : Heap, (K w.params).In base → base.Ns mainGlobals mg → FnG l.prog w (K w.params) mg base (CX w) k fa fd [x] (sp w))
    (hsp : ∀ (w : World) (H : Hp) (a : Addr) (ns : List Int), ns.length ≤ n → Only H → SqL (K w.params) H a (ns.map V.int) → sp w [.ref a] H (fun v _ => v = .bl true) fun _ _ _ => False)
    (hCX : ∀ (w : World) (H : Hp) (s : Shared) (e : Value) (s' : Shared), CX w [] H s (fun _ _ _ => False) e s' → False) :
    PySem.W.WalkO q loose XP YP l.row.toRowW d [] (fun f vs => PySem.call f vs) := by
  refine Att.attach_call hn hdf ?_
  intro w s₀ s₁ mg mb fa o pm cd doc a vs ns G Y ho hd hcd hmg hobj hints hlen hg
  obtain ⟨fd, hb, hF⟩ := F w mg fa _ (hY w _ Y) G.T.g hmg
  exact law_callG (hY w _ Y) G.T.g G.T.b G.T.builtins G.T.nolimit hg hobj hints (Nat.le_trans hlen hn2) hr hF hb (fun H hO hS => hsp w H a ns hlen hO hS) fun H e s' => hCX w H s₁ e s'
end Gd

set_option Elab.async false
set_option linter.all false
set_option maxRecDepth 100000
set_option maxHeartbeats 4000000
/-! Operators of own classes, and repr of data, as rules of the hand layer. -/
namespace Gd
open PySem PySem.Spec PyProof.Rows L2

/-! ### repr of data -/
def rRepr (K : PySem.W.Frag) : List V → Hp → VK → Prop := fun xs H Q =>
  ∃ a d, xs = [.ref a] ∧ Dp K H (.ref a) d ∧ d.showable = true ∧ d.hasDict = false ∧ d.depth ≤ 60 ∧ d.shown.length ≤ sizeLine ∧ Q (.str d.shown) H
theorem call_repr {X : Cx} (hg : NoG X.A) (hu : X.A.units + 64 < cLine) : CallR X (.builtin "repr") (rRepr X.K) := by
  intro pins s σ H xs us Q I r h
  obtain ⟨a, d, rfl, hd, h1, h2, h3, h4, q⟩ := h
  obtain ⟨u, rfl, hu1⟩ := vals1 r
  cases hu1
  obtain ⟨as, rd⟩ := Dp.reads I d (.ref a) (.ref a) hd rfl
  refine repr_of_reads' rd h1 (PyData.noDict_hsm h2) hg (by omega) (fun _ _ e => e) ?_ h4
  intro h' u tk hk
  exact ⟨.str d.shown, H, I.kept hk, ⟨u, rfl⟩, q⟩

section
variable {X : Cx} {CX : CXT} {k : Nat} {f C : Addr} {fd : FuncData} {ps : List Str} {sp : Sp} {dvs : List V} {ds : List Value}
  {pos : Pos} {a b : Expr} {ta tb : TE}

/-- the callee runs, from the body or from a builtin that the body calls -/
theorem runAt {E : XK} {A : Around} (hA : A = X.A ∨ A = X.A.in1) {pins : List (Addr × Obj)} {σ : L2.St} {H : Hp} {s : Shared} {Q : VK} {us : List Value} {vs : List V}
    (F : FnOk X.prog X.w X.K X.mg X.base CX k f fd ps sp) (hr : Room (k + 1) X.A) (hb : Binds X.K fd ps ds) (hd : Vals dvs ds)
    (hx : PassesAt CX X σ E) (I : Inv X pins σ H s) (r : Vals vs us) (h : sp (vs ++ dvs) H Q E) :
    wpAny (model X.prog X.w) A (call (.ref f) us) (EP X pins σ Q) X.xe s := by
  have r2 := Vals.append r hd
  have hl : (us ++ ds).length = ps.length := by
    rw [← r2.length]
    exact F.len _ H Q E h
  have room : Room k A := by
    rcases hA with rfl | rfl
    · exact hr.mono (Nat.le_succ _)
    · exact hr.in1
  have env : Env0 X.prog X.w X.K X.mg X.base A X.stack s H := by
    rcases hA with rfl | rfl
    · exact I.env0
    · exact I.env0.in1
  refine wpAny_call (codeAny_mono (F.run A X.stack s H ⟨us, []⟩ (us ++ ds) _ Q E room env (hb s us I.kIn hl) r2 h) ?_)
  intro r s' hq
  match r, hq with
  | .error e, hq => exact hx pins H s e s' I hq
  | .ok (.ret u), hq => exact I.after hq
  | .ok .next, hq => exact False.elim hq
  | .ok .brk, hq => exact False.elim hq
  | .ok .cont, hq => exact False.elim hq
theorem quiet0 {σ : L2.St} {E : XK} : PassesAt CX0 X σ E := fun _ _ _ _ _ _ h => h.elim

/-- the instance at a, as the library sees it -/
theorem seen {pins : List (Addr × Obj)} {σ : L2.St} {H : Hp} {s : Shared} {p dx : Addr} {fs : List (Str × V)} (I : Inv X pins σ H s)
    (e : H p = some (.ins C dx fs)) : ∃ od, PySem.W.InstAt s.heap p (PySem.W.instObj C dx) C (some od) := by
  obtain ⟨mA, J, _⟩ := ins_get I.hok e
  obtain ⟨od, J, _⟩ := J.look
  exact ⟨od, J⟩

/-! ### comparisons -/
/-- x OP y by the own method of x's class, whose answer is a truth value -/
def rCmpO (K : PySem.W.Frag) (C : Addr) (sp : Sp) (E : XK) : R2 := fun x y H Q => ∃ p dx fs t, x = .ref p ∧ H p = some (.ins C dx fs) ∧
  TyX K H y t ∧ PySem.W.notFirst K C t = true ∧ sp [x, y] H (fun v H' => (∃ c, v = .bl c) ∧ Q v H') E
theorem cmpO {op : CmpOp} {E : XK} (hm : Meth X.K C (cmpInfo op).2.1 f) (F : FnOk X.prog X.w X.K X.mg X.base CX k f fd ps sp) (hr : Room (k + 1) X.A)
    (hb : Binds X.K fd ps []) (hx : ∀ σ, PassesAt CX X σ E)
    {pins : List (Addr × Obj)} {s : Shared} {σ : L2.St} {H : Hp} {x y : V} {v u : Value} {Q : VK} (I : Inv X pins σ H s) (rx : RelV x v) (ry : RelV y u)
    (h : rCmpO X.K C sp E x y H Q) : wpAny (model X.prog X.w) X.A (richCompare op v u) (EP X pins σ Q) X.xe s := by
  obtain ⟨p, dx, fs, t, rfl, ep, ty, hn, hsp⟩ := h
  cases rx
  obtain ⟨od, J⟩ := seen I ep
  obtain ⟨P, Z, hP, _⟩ := kit_of I ry ty
  obtain ⟨m, hF⟩ := I.fr
  refine PySem.W.cmp_K (op := op) (tb := t) hr.units0 hF I.ok.mod.kin J (Z.ty _ _ I.kIn hP) hn hm.at_ hm.fn ?_
  refine wpAny_mono (runAt (.inl rfl) F hr hb .nil (hx σ) I (.cons (show RelV (V.ref p) (Value.ref p) from rfl) (.cons ry .nil)) hsp) ?_ (fun _ _ z => z)
  rintro w s' ⟨z, H', I', rz, ⟨c, rfl⟩, q⟩
  cases rz
  exact ⟨.bl c, H', I', rfl, q⟩
theorem op_eqO {E : XK} (hm : Meth X.K C "__eq__" f) (F : FnOk X.prog X.w X.K X.mg X.base CX k f fd ps sp) (hr : Room (k + 1) X.A)
    (hb : Binds X.K fd ps []) (hx : ∀ σ, PassesAt CX X σ E) : OpR X (compareOp .Eq) (rCmpO X.K C sp E) := by
  intro pins s σ H x y v u Q I rx ry h
  exact cmpO (op := .Eq) hm F hr hb hx I rx ry h
theorem op_ltO {E : XK} (hm : Meth X.K C "__lt__" f) (F : FnOk X.prog X.w X.K X.mg X.base CX k f fd ps sp) (hr : Room (k + 1) X.A)
    (hb : Binds X.K fd ps []) (hx : ∀ σ, PassesAt CX X σ E) : OpR X (compareOp .Lt) (rCmpO X.K C sp E) := by
  intro pins s σ H x y v u Q I rx ry h
  exact cmpO (op := .Lt) hm F hr hb hx I rx ry h

/-! ### len, truth, items -/
def rLenO (C : Addr) (sp : Sp) (E : XK) : List V → Hp → VK → Prop := fun xs H Q => ∃ p dx fs, xs = [.ref p] ∧ H p = some (.ins C dx fs) ∧
  sp [.ref p] H (fun v H' => ∃ n : Int, v = .int n ∧ 0 ≤ n ∧ n < 2 ^ 63 ∧ Q (.int n) H') E
theorem call_lenO {E : XK} (hm : Meth X.K C "__len__" f) (F : FnOk X.prog X.w X.K X.mg X.base CX k f fd ps sp) (hr : Room (k + 1) X.A)
    (hb : Binds X.K fd ps []) (hx : ∀ σ, PassesAt CX X σ E) : CallR X (.builtin "len") (rLenO C sp E) := by
  intro pins s σ H xs us Q I r h
  obtain ⟨p, dx, fs, rfl, ep, hsp⟩ := h
  obtain ⟨u, rfl, hu1⟩ := vals1 r
  cases hu1
  obtain ⟨od, J⟩ := seen I ep
  obtain ⟨m, hF⟩ := I.fr
  refine PySem.W.len_K hF I.ok.mod.kin J hm.at_ hm.fn ?_
  refine wpAny_mono (runAt (.inr rfl) F hr hb .nil (hx σ) I (.cons (show RelV (V.ref p) (Value.ref p) from rfl) .nil) hsp) ?_ (fun _ _ z => z)
  rintro w s' ⟨z, H', I', rz, n, rfl, h0, h1, q⟩
  obtain ⟨t, rfl⟩ := rz
  exact ⟨⟨h0, h1⟩, .int n, H', I'.tok _, ⟨_, rfl⟩, q⟩
def rTruO (C : Addr) (sp : Sp) (E : XK) : V → Hp → (Bool → Hp → Prop) → Prop := fun x H Q => ∃ p dx fs, x = .ref p ∧ H p = some (.ins C dx fs) ∧
  sp [.ref p] H (fun v H' => ∃ c, v = .bl c ∧ Q c H') E
theorem tru_O {E : XK} (hm : Meth X.K C "__bool__" f) (F : FnOk X.prog X.w X.K X.mg X.base CX k f fd ps sp) (hr : Room (k + 1) X.A)
    (hb : Binds X.K fd ps []) (hx : ∀ σ, PassesAt CX X σ E) : TruR X (rTruO C sp E) := by
  intro pins s σ H x v Q I rx h
  obtain ⟨p, dx, fs, rfl, ep, hsp⟩ := h
  cases rx
  obtain ⟨od, J⟩ := seen I ep
  obtain ⟨m, hF⟩ := I.fr
  refine PySem.W.truthy_K hF I.ok.mod.kin J hm.at_ hm.fn ?_
  refine wpAny_mono (runAt (.inl rfl) F hr hb .nil (hx σ) I (.cons (show RelV (V.ref p) (Value.ref p) from rfl) .nil) hsp) ?_ (fun _ _ z => z)
  rintro w s' ⟨z, H', I', rz, c, rfl, q⟩
  cases rz
  exact ⟨H', I', q⟩
/-- o[i] by the own method, which may raise -/
def tIxO (C : Addr) (sp : Sp) (E : L2.St → XK) (ta tb : TE) : TE := fun σ H Q => ta σ H fun x H1 => tb σ H1 fun y H2 =>
  ∃ p dx fs, x = .ref p ∧ H2 p = some (.ins C dx fs) ∧ sp [x, y] H2 Q (E σ)
theorem pe_ixO {E : L2.St → XK} (hm : Meth X.K C "__getitem__" f) (hfn : PySem.W.fnIn X.K f = true) (F : FnOk X.prog X.w X.K X.mg X.base CX k f fd ps sp)
    (hr : Room (k + 1) X.A) (hb : Binds X.K fd ps []) (hx : ∀ σ, PassesAt CX X σ (E σ)) (ha : PE X a ta) (hb' : PE X b tb)
    (hs : ∀ v u : Value, subscripted b true v u = runValue (.builtin "lifetime.subscript" ⟨[v, u], []⟩) := by intro _ _; with_unfolding_all rfl) :
    PE X (.Subscript a b pos) (tIxO C sp E ta tb) := by
  refine ⟨fun pins s σ H Q I h => ?_⟩
  refine Subscript_ (binT ha hb' I h fun v u s2 x y H2 I2 rx ry q => ?_)
  obtain ⟨p, dx, fs, rfl, ep, hsp⟩ := q
  cases rx
  obtain ⟨od, J⟩ := seen I2 ep
  obtain ⟨m, hF⟩ := I2.fr
  refine PySem.W.sub_K hF I2.ok.mod.kin J hm.at_ hfn hm.fn ?_ (hs _ _)
  exact runAt (.inr rfl) F hr hb .nil (hx σ) I2 (.cons (show RelV (V.ref p) (Value.ref p) from rfl) (.cons ry .nil)) hsp
end
end Gd

set_option Elab.async false
set_option linter.all false
set_option maxRecDepth 100000
set_option maxHeartbeats 4000000
/-! iter(a tuple), and list(o) of an own class that hands on such an iterator and has a length. -/
namespace PySem
section
variable {prog : Program} {w : World} {A : Around} {E : Value → Shared → Prop} {s : Shared}
/-- the end of a tuple's iterator, which stays an object -/
theorem tuple_next_end {it t : Addr} {i : Nat} {items : Array Value} {Q : Option Value → Shared → Prop} (hh : A.handled = none)
    (hit : s.heap.IsTupleIter it t i) (ht : s.heap.IsTuple t items) (hx : items[i]? = none)
    (hQ : ∀ h', (∀ b o, b ≠ it → s.heap.get? b = some o → h'.get? b = some o) → (∃ o, h'.get? it = some o) → Q none { s with heap := h' }) :
    wpAny (model prog w) A (pyNext (.ref it)) Q E s := by
  obtain ⟨o, ho, hc, hd⟩ := id hit
  obtain ⟨ol, hol, _, nl, hdl⟩ := ht
  have self := Heap.get?_update_self (Obj.mapFields (·.setIfInBounds 0 Value.none)) ho (Obj.isFreed_of_fields (Obj.data_mapFields hd _))
  unfold pyNext
  refine wpAny_bind (wpAny_attempt (wpAny_callSpecial?_slot (name := Str.ofString "__next__") hit.typeIs F.slot_tuple_iterator_next (wpAny_call_entry
    F.slot_tuple_iterator_next hit.typeIs F.entry_tuple_iterator_next ?_ (F.args_tuple_iterator_next_1 _))))
  show wpAny _ _ (field (.ref it) 0 >>= _) _ _ s
  refine wpAny_bind (wpAny_field ho hd (x := .ref t) rfl ?_)
  have nn : ¬ ((Value.ref t == Value.none) = true) := Bool.false_ne_true
  show wpAny _ _ (if (Value.ref t == Value.none) = true then _ else _) _ _ s
  rw [if_neg nn]
  show wpAny _ _ (field (.ref it) 1 >>= _) _ _ s
  refine wpAny_bind (wpAny_field ho hd (x := .int i 0) rfl ?_)
  show wpAny _ _ (seqItems? (.ref t) >>= _) _ _ s
  refine wpAny_bind (wpAny_seqItems hol hdl ?_)
  simp only [Int.toNat_natCast, hx]
  refine wpAny_bind (wpAny_rule (wpAny_bind (wpAny_setField ho hd (by simp) ?_)))
  show wpAny _ _ (newExc (.type "StopIteration") [] >>= _) _ _ _
  refine wpAny_bind ?_
  simp only [newExc, newTuple]
  refine wpAny_bind (wpAny_newObj_type ?_ (by size_fits))
  refine wpAny_bind (m := firstArgMember _ _) (wpAny_of_eq (a := Value.none) (by first | rfl | (simp only [firstArgMember]; rfl)) ?_)
  refine wpAny_newObj_type ?_ (by size_fits)
  simp only [raiseNew]
  refine wpAny_bind (wpAny_handled ?_)
  first | rw [show A.in1.handled = none from hh] | rw [hh]
  refine wpAny_bind (wpAny_pure (wpAny_throw ?_))
  refine wpAny_bind (wpAny_isInstance (T := "StopIteration") (b := true) ⟨_, Heap.get?_push_size _ rfl, rfl⟩ isSubtype_stop ?_)
  refine wpAny_pure (hQ _ (fun b o hb e => ?_) ⟨_, Heap.get?_push_of_some _ (Heap.get?_push_of_some _ self)⟩)
  exact Heap.get?_push_of_some _ (Heap.get?_push_of_some _ ((Heap.get?_update_other _ _ (Ne.symm hb)).trans e))
end
end PySem

namespace Gd
open PySem PySem.Spec PyProof.Rows L2
/-- at it: an iterator over the tuple at t, behind i items; | whatever it is -/
def TitO (t it : Addr) (i : Nat) : HO := .ext fun h => h.IsTupleIter it t i
def OddO (it : Addr) : HO := .ext fun h => ∃ o, h.get? it = some o
section
variable {P : Program} {w : World} {H : Hp} {h : Heap} {t it : Addr} {i : Nat}
theorem tit_ok (e : h.IsTupleIter it t i) : ObjOk P w H h it (TitO t it i) := by
  obtain ⟨o, ho, r⟩ := e
  exact ⟨⟨o, ho, r⟩, ⟨o, ho⟩, fun h1 h2 ⟨o', q, r'⟩ k => ⟨o', k _ q, r'⟩⟩
theorem odd_ok (e : ∃ o, h.get? it = some o) : ObjOk P w H h it (OddO it) := ⟨e, e, fun h1 h2 ⟨o', q⟩ k => ⟨o', k _ q⟩⟩
end
section
variable {X : Cx} {pins : List (Addr × Obj)} {σ : L2.St} {H : Hp} {s : Shared} {t it q a : Addr} {i : Nat} {ys : List V}
/-- iter(t), t a tuple -/
def rIterT (K : PySem.W.Frag) : List V → Hp → VK → Prop := fun xs H Q => ∃ (t : Addr) (ys : List V), xs = [.ref t] ∧ SqT K H t ys ∧ ∀ it, H it = none → Q (.ref it) (upd H it (TitO t it 0))
theorem isTuple_of {h : Heap} {a : Addr} {items : Array Value} (x : IsTup h a items) : h.IsTuple a items := by
  obtain ⟨o, h1, h2, h3⟩ := x
  exact ⟨o, h1, h2, by first | exact h3 | exact h3.2⟩
theorem call_iterT : CallR X (.builtin "iter") (rIterT X.K) := by
  intro pins s σ H xs us Q I r h
  obtain ⟨t, ys, rfl, hq, q⟩ := h
  obtain rfl := Vals.ref1 r
  obtain ⟨its, rv, pl, hz⟩ := I.tuple hq
  refine Calls.call_function_entry (by decide +kernel) (by decide +kernel) PySem.W.kdk_entry_iter (PySem.W.kdk_args_iter _) ?_
  unfold Builtin.«iter»
  refine wpAny_bind (m := someArgs "iter" 1 2 _) (wpAny_of_eq (a := [Value.ref t]) (by first | rfl | kernel_rfl!) ?_)
  show wpAny _ _ (pyIter (.ref t) >>= _) _ _ _
  refine wpAny_bind (wpAny_pyIter_tuple (isTuple_of pl) ?_)
  refine wpAny_pure ⟨_, rfl, ?_⟩
  have nw : H s.heap.objs.size = none := I.hok.fresh (Nat.le_refl _)
  refine ⟨.ref s.heap.objs.size, _, I.laid (t' := s.toks) (fun b u e => Heap.get?_push_of_some _ e) (Nat.le_refl _) (tit_ok ⟨_, Heap.get?_push_size _ rfl, rfl, rfl⟩), rfl, q _ nw⟩

theorem take_one {α : Type} : ∀ {l : List α} {i : Nat} (h : i < l.length), l.take (i + 1) = l.take i ++ [l[i]]
  | a :: l, 0, _ => rfl
  | a :: l, i + 1, h => by
    have h' : i < l.length := Nat.lt_of_succ_lt_succ h
    have ih := take_one (l := l) (i := i) h'
    show a :: l.take (i + 1) = (a :: l.take i) ++ [l[i]'h']
    rw [ih]
    rfl
/-- what is known stays known, but for the iterator and the list -/
def But (q it : Addr) (H H' : Hp) : Prop := ∀ b o, b ≠ q → b ≠ it → H b = some o → H' b = some o
theorem drain {A1 : Around} {Rs : Result → Shared → Prop} (hh : A1.in1.handled = none) (hqi : q ≠ it) (hqt : q ≠ t) (hti : t ≠ it) (H0 : Hp)
    (hys : ys.length < sizeLine) (ht0 : SqT X.K H0 t ys)
    (hdone : ∀ H' s', Inv X pins σ H' s' → But q it H0 H' → H' q = some (.lst ys) → H' it = some (OddO it) → Rs (.ok (.ret .none)) s') :
    ∀ (m i : Nat) (H : Hp) (s : Shared), m + i = ys.length → Inv X pins σ H s → But q it H0 H → H it = some (TitO t it i) → H q = some (.lst (ys.take i)) →
      codeAny (model X.prog X.w) A1 (.builtin "list.extend.loop" ⟨[.ref q, .ref it, .none], []⟩) Rs s := by
  intro m
  induction m with
  | zero =>
    intro i H s hi I hB hit hq
    have ht : SqT X.K H t ys := by
      rcases ht0 with (z | ⟨o, z⟩) | z
      · exact .inl (.inl (hB _ _ hqt.symm hti z))
      · exact .inl (.inr ⟨o, hB _ _ hqt.symm hti z⟩)
      · exact .inr z
    obtain ⟨its, rv, pl, hz⟩ := I.tuple ht
    refine codeAny_builtin PySem.F.entry_extend_loop ?_
    rw [Around.under_plainId PySem.F.plain_extend_loop _]
    show wpAny _ A1.in1 (pyNext (.ref it) >>= _) _ _ s
    have hx : its.toArray[i]? = none := by
      have e := rv.length
      rw [List.getElem?_toArray, List.getElem?_eq_none_iff]
      omega
    have T : s.heap.IsTupleIter it t i := (I.hok it _ hit).1
    refine wpAny_bind (PySem.tuple_next_end (items := its.toArray) hh T (isTuple_of pl) hx ?_)
    intro h' keep ex
    have J : Inv X pins σ (upd H it (OddO it)) { s with heap := h' } := by
      refine I.write (t' := s.toks) (x := it) (e := it) (by rw [hit]; exact True.intro) (.inl rfl) (fun b u hb hu => keep b u hb hu) ex (odd_ok ex)
    refine wpAny_pure (hdone _ _ J ?_ ?_ upd_same)
    · intro b o h1 h2 e
      rw [upd_ne h2]
      exact hB b o h1 h2 e
    · rw [upd_ne hqi, hq, List.take_of_length_le (by omega)]
  | succ m ih =>
    intro i H s hi I hB hit hq
    have ht : SqT X.K H t ys := by
      rcases ht0 with (z | ⟨o, z⟩) | z
      · exact .inl (.inl (hB _ _ hqt.symm hti z))
      · exact .inl (.inr ⟨o, hB _ _ hqt.symm hti z⟩)
      · exact .inr z
    obtain ⟨its, rv, pl, hz⟩ := I.tuple ht
    have hlt : i < ys.length := by omega
    obtain ⟨u, hu, ru⟩ := rv.get (List.getElem?_eq_getElem hlt)
    refine codeAny_builtin PySem.F.entry_extend_loop ?_
    rw [Around.under_plainId PySem.F.plain_extend_loop _]
    show wpAny _ A1.in1 (pyNext (.ref it) >>= _) _ _ s
    have T : s.heap.IsTupleIter it t i := (I.hok it _ hit).1
    refine wpAny_bind (wpAny_pyNext_tuple_item (items := its.toArray) T (isTuple_of pl) (by rw [List.getElem?_toArray]; exact hu) ?_)
    intro h' T' same
    have ex : ∃ o, h'.get? it = some o := by
      obtain ⟨o, ho, _⟩ := T'
      exact ⟨o, ho⟩
    have J : Inv X pins σ (upd H it (TitO t it (i + 1))) { s with heap := h' } :=
      I.write (t' := s.toks) (x := it) (e := it) (by rw [hit]; exact True.intro) (.inl rfl) (fun b u hb hu => (same.2 b hb).trans hu) ex (tit_ok T')
    have hq' : upd H it (TitO t it (i + 1)) q = some (.lst (ys.take i)) := by rw [upd_ne hqi]; exact hq
    obtain ⟨z, its2, n2, r2, hl2, e2⟩ := J.lstM hq'
    have l2 : its2.length ≤ i := by rw [← hl2, List.length_take]; omega
    show wpAny _ A1.in1 (updateSeq q (·.push u) >>= _) _ _ _
    refine wpAny_bind (wpAny_updateSeq e2 rfl (wpAny_pure ⟨plainId_quiet PySem.F.plain_extend_loop _, ?_⟩) (by rw [List.size_toArray]; omega) (by show (its2.toArray.push u).size ≤ sizeLine + 1; rw [Array.size_push, List.size_toArray]; omega))
    have tk : ys.take (i + 1) = ys.take i ++ [ys[i]] := take_one hlt
    have J2 := J.lset (f := (·.push u)) (its' := its2 ++ [u]) (ys := ys.take i ++ [ys[i]]) (t' := s.toks) hq' e2 (List.push_toArray its2 u) (r2.append (.cons ru .nil)) (by rw [List.length_append, List.length_singleton, List.length_take]; omega)
    refine ih (i + 1) _ _ (by omega) J2 ?_ ?_ (by rw [tk, upd_same])
    · intro b o h1 h2 e
      rw [upd_ne h1, upd_ne h2]
      exact hB b o h1 h2 e
    · rw [upd_ne hqi.symm, upd_same]

/-- the list's room is made -/
theorem touched {q : Addr} {A : Around} {R : Unit → Shared → Prop} {E : Value → Shared → Prop} (I : Inv X pins σ H s) (hq : H q = some (.lst []))
    (h : ∀ s', Inv X pins σ H s' → R () s') : wpAny (model X.prog X.w) A (Builtin.List.listTouch (.ref q)) R E s := by
  obtain ⟨z, its, k, r3, hl3, e3⟩ := I.lstM hq
  cases r3
  show wpAny _ _ (updateSeq q (·.push .none) >>= fun _ => updateSeq q (·.pop)) _ _ _
  refine wpAny_bind (wpAny_updateSeq e3 rfl ?_)
  have I2 := I.lset (f := (·.push Value.none)) (its' := [Value.none]) (ys := [.non]) (t' := s.toks) hq e3 (by simp) (.cons rfl .nil) (by rw [List.length_singleton, sizeLine_eq]; decide)
  obtain ⟨z4, its4, k4, r4, hl4, e4⟩ := I2.lstM upd_same
  obtain ⟨u4, rfl, ru4⟩ := r4.one
  refine wpAny_updateSeq e4 rfl ?_ (by show 1 ≤ sizeLine; rw [sizeLine_eq]; decide) (by show 0 ≤ sizeLine + 1; exact Nat.zero_le _)
  have I3 := I2.lset (f := (·.pop)) (its := [u4]) (its' := []) (ys := []) (t' := s.toks) upd_same e4 (by rfl) .nil (Nat.zero_le _)
  rw [upd_upd] at I3
  have hH : upd H q (.lst []) = H := by
    funext b
    by_cases hb : b = q
    · rw [hb, upd_same, hq]
    · rw [upd_ne hb]
  rw [hH] at I3
  exact h _ I3

/-- a class whose instances hand on a tuple's iterator, and have a length -/
structure ItT (K : PySem.W.Frag) (C fi fl : Addr) : Prop where
  it : Meth K C "__iter__" fi
  ln : Meth K C "__len__" fl
/-- what its __iter__ promises: an iterator of the tuple that R tells; what its __len__ promises -/
def spIt (K : PySem.W.Frag) (R : Addr → Addr → List V → Hp → Prop) : Sp := fun vs H Q _ => ∃ a t ys, vs = [.ref a] ∧ R a t ys H ∧ SqT K H t ys ∧ ∀ it, H it = none → Q (.ref it) (upd H it (TitO t it 0))
def spLn (R : Addr → Addr → List V → Hp → Prop) : Sp := fun vs H Q _ => ∃ a t ys, vs = [.ref a] ∧ R a t ys H ∧ Q (.int (ys.length : Int)) H
/-- list(o) -/
def rListO (K : PySem.W.Frag) (C : Addr) (R : Addr → Addr → List V → Hp → Prop) : List V → Hp → VK → Prop := fun xs H Q =>
  ∃ a dx fs t ys, xs = [.ref a] ∧ H a = some (.ins C dx fs) ∧ (∀ H', (∀ b o, H b = some o → H' b = some o) → R a t ys H') ∧ SqT K H t ys ∧ ys.length < sizeLine ∧
    ∀ q H', (∀ b o, H b = some o → H' b = some o) → H q = none → H' q = some (.lst ys) → Q (.ref q) H'
theorem call_listO {C fi fl : Addr} {k : Nat} {fdI fdL : FuncData} {psI psL : List Str} {R : Addr → Addr → List V → Hp → Prop} (hc : ItT X.K C fi fl)
    (FI : FnOk X.prog X.w X.K X.mg X.base CX0 k fi fdI psI (spIt X.K R)) (bI : Binds X.K fdI psI []) (FL : FnOk X.prog X.w X.K X.mg X.base CX0 k fl fdL psL (spLn R)) (bL : Binds X.K fdL psL [])
    (hr : Room (k + 5) X.A) : CallR X (.type "list") (rListO X.K C R) := by
  intro pins s σ H xs us Q I rv h
  obtain ⟨a, dx, fs, t, ys, rfl, ha, hR, ht, hlen, hq⟩ := h
  obtain ⟨u, rfl, ru⟩ := rv.one
  cases ru
  have rm2 : Room (k + 3) X.A.in1.in1 := (hr.in1).in1
  have sb : Sub X (k + 3) X.A.in1.in1 := Sub.in1 (Sub.in1 (⟨hr, rfl⟩ : Sub X (k + 5) X.A))
  refine callType_codes (Q₁ := fun obj s₁ => obj = .ref s.heap.objs.size ∧ s₁ = { s with heap := s.heap.push { cls := .type "list", data := .seq #[] } }) PySem.F.called_list (PySem.F.typeCall_list_1 _) PySem.F.entry_list_init
    (code_list_new _ ⟨rfl, rfl⟩) ?_
  intro obj s₁ h₁
  obtain ⟨rfl, rfl⟩ := h₁
  have hS : (s.heap.push { cls := .type "list", data := .seq #[] }).get? s.heap.objs.size = some { cls := .type "list", data := .seq #[] } := Heap.get?_push_size _ rfl
  refine ⟨⟨_, hS, rfl⟩, PySem.F.args_list_init_2 _ _, ?_⟩
  have fr : H s.heap.objs.size = none := I.hok.fresh (Nat.le_refl _)
  have I1 : Inv X pins σ (upd H s.heap.objs.size (.lst [])) { s with heap := s.heap.push { cls := .type "list", data := .seq #[] } } := I.lnew (its := []) (t' := s.toks) .nil (Nat.zero_le _)
  generalize hqq : s.heap.objs.size = q at *
  show wpAny _ _ (do let old ← Builtin.List.listItems (.ref q); Builtin.List.listUpdate (.ref q) (fun _ => #[]); letGo old.toList.reverse; Builtin.List.listExtendWith (.ref q) (.ref a) .none) _ _ _
  refine wpAny_bind ?_
  unfold Builtin.List.listItems
  refine wpAny_bind (wpAny_seqItems hS rfl (wpAny_pure ?_))
  show wpAny _ _ (updateSeq q (fun _ => #[]) >>= fun _ => letGo (#[] : Array Value).toList.reverse >>= fun _ => Builtin.List.listExtendWith (.ref q) (.ref a) .none) _ _ _
  refine wpAny_bind (wpAny_updateSeq hS rfl ?_)
  have I2 := I1.lset (f := fun _ => #[]) (its := []) (its' := []) (ys := []) (t' := s.toks) upd_same hS rfl .nil (Nat.zero_le _)
  rw [upd_upd] at I2
  refine wpAny_bind (wpAny_letGo ?_)
  have H2ext : ∀ b o, H b = some o → upd H q (.lst []) b = some o := fun b o e => by
    rw [upd_ne (ne_of_none e fr)]
    exact e
  have ha2 := H2ext _ _ ha
  have hq2 : upd H q (.lst []) q = some (.lst []) := upd_same
  have ht2 : SqT X.K (upd H q (.lst [])) t ys := ht.ext H2ext
  generalize hH2 : upd H q (.lst []) = H2 at *
  have hne : q ≠ a := ne_of hq2 ha2 (fun z => nomatch z)
  obtain ⟨od, J⟩ := seen I2 ha2
  obtain ⟨m0, hF⟩ := I2.fr
  unfold Builtin.List.listExtendWith
  refine wpAny_bind (J.type.here ?_)
  have h1 : Builtin.List.listSameRef (.ref q) (.ref a) = false := by simp [Builtin.List.listSameRef, hne]
  have h2 : (Value.ref C == Value.type "list") = false := rfl
  have h3 : (Value.ref C == Value.type "tuple") = false := rfl
  simp only [h1, h2, h3, Bool.or_false, Bool.false_eq_true, if_false]
  refine wpAny_bind (PySem.W.owit_iter hF I2.ok.mod.kin J hc.it.at_ hc.it.fn ?_)
  have e0 : Env0 X.prog X.w X.K X.mg X.base X.A.in1.in1 X.stack _ H2 := I2.env0.in1.in1
  have room : Room k X.A.in1.in1 := rm2.mono (by omega)
  have hspI : spIt X.K R [.ref a] H2 (fun v H' => ∃ it, v = .ref it ∧ H2 it = none ∧ H' = upd H2 it (TitO t it 0)) E0 := ⟨a, t, ys, rfl, hR _ H2ext, ht2, fun it n => ⟨it, rfl, n, rfl⟩⟩
  have hl := FI.len _ _ _ _ hspI
  have r2 : Vals [V.ref a] [Value.ref a] := .cons rfl .nil
  refine wpAny_call (codeAny_mono (FI.run X.A.in1.in1 X.stack _ H2 ⟨[.ref a], []⟩ [.ref a] [.ref a] _ E0 room e0 (by
    have := bI _ [.ref a] I2.kIn (by simpa using hl)
    simpa using this) r2 hspI) ?_)
  intro r s' hq'
  match r, hq' with
  | .error e, hq' => exact hq'.elim
  | .ok .next, hq' => exact False.elim hq'
  | .ok .brk, hq' => exact False.elim hq'
  | .ok .cont, hq' => exact False.elim hq'
  | .ok (.ret u), hq' =>
    obtain ⟨v, H3, I3, rv3, it, rfl, itn, rfl⟩ := I2.after hq'
    cases rv3
    have hit : upd H2 it (TitO t it 0) it = some (TitO t it 0) := upd_same
    have T : s'.heap.IsTupleIter it t 0 := (I3.hok it _ hit).1
    have E3 : ∀ b o, H b = some o → upd H2 it (TitO t it 0) b = some o := fun b o e => by
      rw [upd_ne (ne_of_none (H2ext _ _ e) itn)]
      exact H2ext _ _ e
    have ha3 := E3 _ _ ha
    have hqi : q ≠ it := ne_of_none hq2 itn
    have hq3 : upd H2 it (TitO t it 0) q = some (.lst []) := by
      rw [upd_ne hqi]
      exact hq2
    have ht3 : SqT X.K (upd H2 it (TitO t it 0)) t ys := ht.ext E3
    have hqt : q ≠ t := by
      intro z
      subst z
      rcases ht with (z | ⟨o, z⟩) | ⟨o, its, n, z, hcls, _⟩
      · rw [fr] at z
        cases z
      · rw [fr] at z
        cases z
      · obtain ⟨_, its2, n2, _, _, e2⟩ := I2.lstM hq2
        have e3 := I2.kIn _ _ z
        rw [e2] at e3
        cases (Option.some.inj e3)
        exact absurd (Value.type.inj hcls) (by decide)
    have hti : t ≠ it := by
      intro z
      subst z
      rcases ht2 with (z | ⟨o, z⟩) | ⟨o, its, n, z, hcls, _⟩
      · rw [itn] at z
        cases z
      · rw [itn] at z
        cases z
      · obtain ⟨o2, e2, c2, _⟩ := T
        have e3 := I3.kIn _ _ z
        rw [e2] at e3
        cases (Option.some.inj e3)
        rw [c2] at hcls
        exact absurd (Value.type.inj hcls) (by decide)
    refine wpAny_specialOf (Heap.IsTupleIter.typeIs T) PySem.F.slot_tuple_iterator_next.lookup ?_
    have loop : ∀ s4, Inv X pins σ (upd H2 it (TitO t it 0)) s4 → codeAny (model X.prog X.w) X.A.in1 (.builtin "list.extend.loop" ⟨[.ref q, .ref it, .none], []⟩)
        (wants (fun r s₂ => r = Value.none ∧ EP X pins σ Q (Value.ref q) s₂) X.xe) s4 := by
      intro s4 I4
      refine drain (A1 := X.A.in1) rm2.hd hqi hqt hti (upd H2 it (TitO t it 0)) hlen ht3 ?_ ys.length 0 _ s4 rfl I4 (fun b o _ _ e => e) hit (by rw [List.take_zero]; exact hq3)
      intro H' s5 I5 hB5 hq5 _
      refine ⟨rfl, .ref q, H', I5, rfl, hq q H' ?_ fr hq5⟩
      intro b o e
      have nq : b ≠ q := ne_of_none e fr
      have ni : b ≠ it := ne_of_none (H2ext _ _ e) itn
      exact hB5 b o nq ni (E3 _ _ e)
    have fin : ∀ s4, Inv X pins σ (upd H2 it (TitO t it 0)) s4 → wpAny (model X.prog X.w) X.A.in1.in1 (again (.builtin "list.extend.loop" ⟨[.ref q, .ref it, .none], []⟩))
        (fun fin s' => match fin with | .done f => wants (fun r s₂ => r = Value.none ∧ EP X pins σ Q (Value.ref q) s₂) X.xe (.ok f) s' | .again c' => c'.quiet = true ∧ codeAny (model X.prog X.w) X.A.in1 c' (wants (fun r s₂ => r = Value.none ∧ EP X pins σ Q (Value.ref q) s₂) X.xe) s')
        (fun e s' => wants (fun r s₂ => r = Value.none ∧ EP X pins σ Q (Value.ref q) s₂) X.xe (.error e) s') s4 := by
      intro s4 I4
      exact wpAny_pure ⟨plainId_quiet PySem.F.plain_extend_loop _, loop s4 I4⟩
    refine wpAny_bind (wpAny_holding ?_)
    obtain ⟨od3, J3⟩ := seen I3 ha3
    obtain ⟨m3, hF3⟩ := I3.fr
    unfold Builtin.List.listLengthHint
    refine wpAny_bind (wpAny_bind (J3.type.here ((PySem.W.looks_findIn I3.kIn hc.ln.at_).here ?_)))
    refine PySem.W.KFB.if_not rfl ?_
    refine PySem.W.KFB.if_so rfl ?_
    refine wpAny_bind (wpAny_rule ?_)
    refine wpAny_bind (m := (call (.builtin "len") [Value.ref a]).attempt) (wpAny_attempt ?_)
    refine PySem.W.len_K hF3 I3.ok.mod.kin J3 hc.ln.at_ hc.ln.fn ?_
    have hspL : spLn R [.ref a] (upd H2 it (TitO t it 0)) (fun v H' => v = .int (ys.length : Int) ∧ H' = upd H2 it (TitO t it 0)) E0 := ⟨a, t, ys, rfl, hR _ E3, rfl, rfl⟩
    have hlL := FL.len _ _ _ _ hspL
    refine wpAny_call (codeAny_mono (FL.run X.A.in1.in1.in1 X.stack _ _ ⟨[.ref a], []⟩ [.ref a] [.ref a] _ E0 (rm2.in1.mono (by omega)) I3.env0.in1.in1.in1 (by
      have := bL _ [.ref a] I3.kIn (by simpa using hlL)
      simpa using this) r2 hspL) ?_)
    intro r4 s4 hq4
    match r4, hq4 with
    | .error e, hq4 => exact hq4.elim
    | .ok .next, hq4 => exact False.elim hq4
    | .ok .brk, hq4 => exact False.elim hq4
    | .ok .cont, hq4 => exact False.elim hq4
    | .ok (.ret u4), hq4 =>
      obtain ⟨v4, H4, I4, rv4, rfl, rfl⟩ := I3.after hq4
      obtain ⟨tk4, rfl⟩ := rv4
      have l63 := line63
      refine ⟨⟨Int.natCast_nonneg _, by omega⟩, ?_⟩
      show wpAny _ _ (asInt? (Value.int (ys.length : Int) s4.toks) >>= _) _ _ _
      refine wpAny_bind (wpAny_pure ?_)
      show wpAny _ _ (if Builtin.List.listTooLong (ys.length : Int).toNat = true then _ else _) _ _ _
      rw [if_neg (by rw [Int.toNat_natCast, notLongL (Nat.le_of_lt hlen)]; exact Bool.false_ne_true)]
      refine wpAny_pure ?_
      have I5 := I4.tok (s4.toks + 1)
      refine wpAny_ite_split (fun _ => ?_) (fun _ => fin _ I5)
      exact wpAny_bind (wpAny_rule (wpAny_bind (touched I5 hq3 fin)))
end
end Gd

set_option Elab.async false
set_option linter.all false
set_option maxRecDepth 100000
set_option maxHeartbeats 4000000
/-! bool(o) and != of own classes. -/
namespace PySem
section
variable {prog : Program} {w : World} {A : Around} {E : Value → Shared → Prop} {s : Shared}
theorem bool_new_any (x : Value) : MeetsIn prog w (Builtin.«bool.__new__» ⟨[.type "bool", x], []⟩) (fun A R s =>
    wpAny (model prog w) A.in1 (truthy x) (fun b s' => R (.ok (.ret (.bool b))) s') (fun e s' => R (.error e) s') s) := by
  intro A R s h
  have f1 := F.conv_sub_bool
  unfold Builtin.«bool.__new__»
  refine wpAny_bind (wpAny_of_eq (a := true) (by first | rfl | kernel_rfl) ?_)
  refine PySem.W.KFB.if_not rfl ?_
  refine wpAny_bind (wpAny_of_eq f1 ?_)
  refine PySem.W.KFB.if_not rfl ?_
  refine wpAny_bind (m := someArgs "bool" 0 1 _) (wpAny_of_eq (a := [x]) (by first | rfl | kernel_rfl!) ?_)
  refine wpAny_bind (wpAny_mono h (fun b s' q => ?_) fun _ _ z => z)
  exact wpAny_pure q
theorem call_bool_any {x : Value} {Q : Value → Shared → Prop}
    (h : wpAny (model prog w) A.in1.in1 (truthy x) (fun b s' => Q (.bool b) s') E s) : wpAny (model prog w) A (call (.type "bool") [x]) Q E s := by
  refine callType_newIn F.called_bool F.newNe_bool (F.typeCall_bool_1 x) (F.newCall_bool_1 x) (fun obj => F.args_object_init_2 obj x) F.entry_bool_new (bool_new_any x) ?_
  exact wpAny_mono h (fun b s' q => ⟨rfl, q⟩) fun _ _ z => z
end
end PySem

namespace HN2
open PySem PySem.Spec PyProof.Rows PySem.SeqAt
section
variable {prog : Program} {w : World} {A : Around} {E : Value → Shared → Prop} {s : Shared} {K : PySem.W.Frag} {x C f : Addr} {ox : Obj} {od : Option Obj} {y : Value}
theorem ne_entry (hu : A.units < cLine) (X : K.In s.heap) (I : PySem.W.InstAt s.heap x ox C od) (hs : PySem.W.findIn K (.ref C) "__eq__" = some (some (.ref f))) (hf : PySem.W.isFn K (.ref f) = true) {Q : Fin → Shared → Prop}
    (h : wpAny (model prog w) A (call (.ref f) [.ref x, y]) (fun v s' => ∃ b, v = .bool b ∧ Q (.done (.ret (.bool (!b)))) s') E s) :
    wpAny (model prog w) A (Builtin.«object.__ne__» ⟨[.ref x, y], []⟩) Q E s := by
  unfold Builtin.«object.__ne__»
  refine wpAny_bind (m := slotArgs "__ne__" 1 _) (wpAny_of_eq (a := (Value.ref x, [y])) (by first | rfl | kernel_rfl!) ?_)
  refine wpAny_bind (wpAny_cRoomFor hu ?_)
  refine wpAny_bind (m := callSpecialIfBound? (.ref x) (Str.ofString "__eq__") [y]) (PySem.W.ifBound_K X I hs hf (wpAny_mono h (fun v s' z => ?_) fun _ _ z => z))
  obtain ⟨b, rfl, q⟩ := z
  exact wpAny_bind (wpAny_truthy_bool (wpAny_pure q))
theorem ifBound_ne {M : Model} {args : List Value} {Q : Option Value → Shared → Prop} (X : K.In s.heap) (I : PySem.W.InstAt s.heap x ox C od) (hs : PySem.W.findIn K (.ref C) "__ne__" = some (some (.builtin "object.__ne__")))
    (h : wpAny M A (call (.builtin "object.__ne__") (.ref x :: args)) (fun v => Q (some v)) E s) : wpAny M A (callSpecialIfBound? (.ref x) "__ne__" args) Q E s := by
  simp only [callSpecialIfBound?, bindSpecialIfBound?]
  refine wpAny_holding (wpAny_bind (wpAny_bind (wpAny_bind (I.type.here ((PySem.W.looks_findIn X hs).here ?_)))))
  refine wpAny_bind (wpAny_askSetting (wpAny_ite ?_))
  have last : wpAny M A (call (.builtin "object.__ne__") ([.ref x] ++ args) >>= fun v => pure (some v)) Q E s :=
    wpAny_bind (wpAny_mono h (fun v s' h' => wpAny_pure h') fun _ _ h' => h')
  split
  · exact wpAny_bind (wpAny_of_eq (F.cmp_object.ne.bind _) (wpAny_pure (by exact last)))
  · exact wpAny_tryCatch (wpAny_bind (wpAny_of_eq (F.cmp_object.ne.bind _) (wpAny_pure (by exact last))))
theorem rich_ne {tb : Value} {Q : Value → Shared → Prop} (hu : A.units + 1 < cLine) (X : K.In s.heap) (I : PySem.W.InstAt s.heap x ox C od) (hb : PySem.W.Looks (model prog w) s.heap (typeOf y) tb)
    (hn : PySem.W.notFirst K C tb = true) (hne : PySem.W.findIn K (.ref C) "__ne__" = some (some (.builtin "object.__ne__"))) (ho : PySem.W.mroIn K C (.type "object") = some true)
    (hs : PySem.W.findIn K (.ref C) "__eq__" = some (some (.ref f))) (hf : PySem.W.isFn K (.ref f) = true)
    (h : wpAny (model prog w) A.in1 (call (.ref f) [.ref x, y]) (fun v s' => ∃ b, v = .bool b ∧ Q (.bool (!b)) s') E s) :
    wpAny (model prog w) A (richCompare .NotEq (.ref x) y) Q E s := by
  have one : wpAny (model prog w) A (tryCompare (.ref x) "__ne__" y) (fun r s' => ∃ v, r = some v ∧ Q v s') E s := by
    unfold tryCompare
    refine wpAny_bind (ifBound_ne X I hne (wpAny_call (codeAny_call_builtin F.cmp_object.ne.plain F.cmpEntry_ne (PySem.W.check_slot F.cmpKind_ne F.cmpSplit_ne (I.type.andThen (PySem.W.looks_mroIn X ho)) (F.cmpArgs_ne _ _)
      (ne_entry (A := A.in1) (by show A.units + 1 < cLine; exact hu) X I hs hf (wpAny_mono h (fun v s' z => ?_) fun _ _ z => z))))))
    obtain ⟨b, rfl, q⟩ := z
    exact ⟨b, rfl, wpAny_pure ⟨_, rfl, q⟩⟩
  unfold richCompare
  simp only [oneThing_ref]
  refine wpAny_holding (wpAny_bind (wpAny_cRoomFor (Nat.lt_of_succ_lt hu) ?_))
  rw [cmpInfo_NotEq]
  dsimp only
  refine wpAny_bind (I.type.here (wpAny_bind (hb.here ?_)))
  split
  · rename_i q
    have e : PySem.W.subIn K tb (.ref C) = some false := by
      rcases Bool.or_eq_true_iff.mp hn with e | e
      · rw [beq_iff_eq.mp e] at q
        simp at q
      · exact beq_iff_eq.mp e
    refine wpAny_bind ((PySem.W.looks_subIn X e).here ?_)
    simp only [Bool.false_eq_true, if_false]
    refine wpAny_bind (m := tryCompare (.ref x) _ y) (wpAny_mono one (fun r s' z => ?_) fun _ _ e => e)
    obtain ⟨v, rfl, hq⟩ := z
    exact wpAny_pure hq
  · refine wpAny_bind (wpAny_pure ?_)
    simp only [Bool.false_eq_true, if_false]
    refine wpAny_bind (m := tryCompare (.ref x) _ y) (wpAny_mono one (fun r s' z => ?_) fun _ _ e => e)
    obtain ⟨v, rfl, hq⟩ := z
    exact wpAny_pure hq
end
end HN2

namespace Gd
open PySem PySem.Spec PyProof.Rows L2
section
variable {X : Cx} {CX : CXT} {k : Nat} {f C : Addr} {fd : FuncData} {ps : List Str} {sp : Sp}
/-- what != of a class with an own == asks of the class -/
structure NeC (K : PySem.W.Frag) (C : Addr) : Prop where
  ne : PySem.W.findIn K (.ref C) "__ne__" = some (some (.builtin "object.__ne__"))
  ob : PySem.W.mroIn K C (.type "object") = some true
def rNeO (K : PySem.W.Frag) (C : Addr) (sp : Sp) (E : XK) : R2 := fun x y H Q => ∃ p dx fs t, x = .ref p ∧ H p = some (.ins C dx fs) ∧
  TyX K H y t ∧ PySem.W.notFirst K C t = true ∧ sp [x, y] H (fun v H' => ∃ c, v = .bl c ∧ Q (.bl (!c)) H') E
theorem op_neO {E : XK} (hn : NeC X.K C) (hm : Meth X.K C "__eq__" f) (F : FnOk X.prog X.w X.K X.mg X.base CX k f fd ps sp) (hr : Room (k + 1) X.A)
    (hb : Binds X.K fd ps []) (hx : ∀ σ, PassesAt CX X σ E) : OpR X (compareOp .NotEq) (rNeO X.K C sp E) := by
  intro pins s σ H x y v u Q I rx ry h
  obtain ⟨p, dx, fs, t, rfl, ep, ty, hnf, hsp⟩ := h
  cases rx
  obtain ⟨od, J⟩ := seen I ep
  obtain ⟨P, Z, hP, _⟩ := kit_of I ry ty
  show wpAny _ _ (richCompare .NotEq _ _) _ _ _
  refine HN2.rich_ne (hu_of hr) I.kIn J (Z.ty _ _ I.kIn hP) hnf hn.ne hn.ob hm.at_ hm.fn ?_
  refine wpAny_mono (runAt (.inr rfl) F hr hb .nil (hx σ) I (.cons (show RelV (V.ref p) (Value.ref p) from rfl) (.cons ry .nil)) hsp) ?_ (fun _ _ z => z)
  rintro w s' ⟨z, H', I', rz, c, rfl, q⟩
  cases rz
  exact ⟨c, rfl, .bl (!c), H', I', rfl, q⟩
/-- bool(o) -/
def rBoolO (C : Addr) (sp : Sp) (E : XK) : List V → Hp → VK → Prop := fun xs H Q => ∃ p dx fs, xs = [.ref p] ∧ H p = some (.ins C dx fs) ∧
  sp [.ref p] H (fun v H' => ∃ c, v = .bl c ∧ Q (.bl c) H') E
theorem call_boolO {E : XK} (hm : Meth X.K C "__bool__" f) (F : FnOk X.prog X.w X.K X.mg X.base CX k f fd ps sp) (hr : Room (k + 2) X.A)
    (hb : Binds X.K fd ps []) (hx : ∀ σ, PassesAt CX X σ E) : CallR X (.type "bool") (rBoolO C sp E) := by
  intro pins s σ H xs us Q I r h
  obtain ⟨p, dx, fs, rfl, ep, hsp⟩ := h
  obtain ⟨u, rfl, hu1⟩ := vals1 r
  cases hu1
  obtain ⟨od, J⟩ := seen I ep
  obtain ⟨m, hF⟩ := I.fr
  refine call_bool_any (PySem.W.truthy_K hF I.ok.mod.kin J hm.at_ hm.fn ?_)
  have hl := F.len _ _ _ _ hsp
  refine wpAny_call (codeAny_mono (F.run X.A.in1.in1 X.stack s H ⟨[.ref p], []⟩ [.ref p] [.ref p] _ E hr.in1.in1 I.env0.in1.in1 (by
    have := hb s [.ref p] I.kIn (by simpa using hl)
    simpa using this) (.cons (show RelV (V.ref p) (Value.ref p) from rfl) .nil) hsp) ?_)
  intro r s' hq
  match r, hq with
  | .error e, hq => exact hx σ pins H s e s' I hq
  | .ok .next, hq => exact False.elim hq
  | .ok .brk, hq => exact False.elim hq
  | .ok .cont, hq => exact False.elim hq
  | .ok (.ret u), hq =>
    obtain ⟨v, H', I', rv, c, rfl, q⟩ := I.after hq
    cases rv
    exact ⟨.bl c, H', I', rfl, q⟩
end
end Gd

set_option Elab.async false
set_option linter.all false
set_option maxRecDepth 100000
set_option maxHeartbeats 4000000
/-! enumerate(a tuple). -/
namespace HN4
open PySem PySem.Spec PyProof.Rows PySem.SeqAt
theorem meets_enum1 {v : Value} {o : Obj} {G : Heap → Prop} (B : Begins v o G) : Meets (Builtin.«enumerate.__new__» ⟨[.type "enumerate", v], []⟩) (fun _ R s => G s.heap ∧
    R (.ok (.ret (.ref (s.heap.push o).objs.size))) { s with heap := (s.heap.push o).push { cls := .type "enumerate", data := .fields #[.none, .bool false, .ref s.heap.objs.size, rawInt 0, .none, .none] } }) := by
  refine .of_wp fun prog w A R ⟨hp, g, d, tk, os⟩ hh => ?_
  obtain ⟨h1, h⟩ := hh
  have sb := sub_enumerate
  have it : ∀ {A' : Around} {E : Value → Shared → Prop} {Q : Value → Shared → Prop}, Q (.ref hp.objs.size) ⟨hp.push o, g, d, tk, os⟩ → wpAny (model prog w) A' (pyIter v) Q E ⟨hp, g, d, tk, os⟩ := fun q => B.iter prog w _ _ ⟨hp, g, d, tk, os⟩ _ h1 q
  wp_walk using it
  refine wpAny_stack_any fun st => wpAny_pure ?_
  split
  · rename_i c _ _ _ _ _
    cases (c == Value.type "enumerate") <;> (wp_walk using it; exact ⟨_, rfl, h⟩)
  · wp_walk using it
    exact ⟨_, rfl, h⟩
theorem begins_tup (t : Addr) (items : Array Value) : Begins (.ref t) { cls := .type "tuple_iterator", data := .fields #[.ref t, .int 0 0] } (fun h => h.IsTuple t items) where
  iter := fun prog w A E s Q ht hq => wpAny_pyIter_tuple ht hq
  keeps := fun h h' ht k => ht.at fun o e => k _ _ e
  free := rfl
section
variable {prog : Program} {w : World} {A : Around} {E : Value → Shared → Prop} {s : Shared}
theorem call_enumT {t : Addr} {items : Array Value} {Q : Value → Shared → Prop} (ht : s.heap.IsTuple t items)
    (h : ∀ h', IsEnum h' (s.heap.objs.size + 1) s.heap.objs.size 0 .none → h'.IsTupleIter s.heap.objs.size t 0 → (∀ b o, s.heap.get? b = some o → h'.get? b = some o) → Q (.ref (s.heap.objs.size + 1)) { s with heap := h' }) :
    wpAny (model prog w) A (call (.type "enumerate") [.ref t]) Q E s := by
  let o1 : Obj := { cls := .type "tuple_iterator", data := .fields #[.ref t, .int 0 0] }
  let o2 : Obj := { cls := .type "enumerate", data := .fields #[.none, .bool false, .ref s.heap.objs.size, rawInt 0, .none, .none] }
  have e1 : (s.heap.push o1).objs.size = s.heap.objs.size + 1 := Heap.size_push ..
  have e2 : ((s.heap.push o1).push o2).get? (s.heap.objs.size + 1) = some o2 := by
    have q := Heap.get?_push_size (s.heap.push o1) (o := o2) rfl
    rw [e1] at q
    exact q
  refine callType_new F.called_enumerate (by decide) (F.typeCall_enumerate_1 _) (F.newCall_enumerate_1 _) (fun obj => F.args_object_init_2 obj _) F.entry_enumerate_new (meets_enum1 (begins_tup t items)) ⟨ht, ?_⟩
  show _ ∧ _
  rw [e1]
  exact ⟨⟨_, e2, rfl⟩, h _ e2 ⟨_, Heap.get?_push_of_some _ (Heap.get?_push_size _ rfl), rfl, rfl⟩ fun b ob x => Heap.get?_push_of_some _ (Heap.get?_push_of_some _ x)⟩
end
end HN4
namespace Gd
open PySem PySem.Spec PyProof.Rows L2
/-- a tuple walked with its places: at each turn a new pair -/
def IteT (K : PySem.W.Frag) (t : Addr) : It where
  go := fun i H => ∃ (xs : List V) (x : V), SqT K H t xs ∧ xs[i]? = some x
  yld := fun i H v H' => ∃ T x, v = .ref T ∧ H T = none ∧ H' = upd H T (.tup [.int (i : Nat), x]) ∧ ∀ xs, SqT K H t xs → xs[i]? = some x
  stop := fun i H => ∃ xs : List V, SqT K H t xs ∧ xs.length = i
theorem tit_apart {h : Heap} {t it : Addr} {i : Nat} {items : Array Value} (a : h.IsTupleIter it t i) (b : h.IsTuple t items) : t ≠ it := by
  intro z
  subst z
  obtain ⟨o1, g1, c1, _⟩ := a
  obtain ⟨o2, g2, c2, _⟩ := b
  rw [g1] at g2
  cases g2
  rw [c1] at c2
  exact absurd c2 (by decide)
theorem enum_apart {h : Heap} {e it t : Addr} {k : Int} {old : Value} {items : Array Value} (a : IsEnum h e it k old) (b : h.IsTuple t items) : e ≠ t := by
  intro z
  subst z
  obtain ⟨o2, g2, c2, _⟩ := b
  have g1 : h.get? e = some _ := a
  rw [g1] at g2
  cases g2
  exact absurd c2 (by simp)
theorem turn_enumT {P : Program} {w : World} {K : PySem.W.Frag} {elts : List Expr} {kk : Nat} {tpos : Pos} (t e it : Addr) :
    Turn P w K (.Tuple elts kk tpos) (IteT K t) [e, it] e (fun i h => (∃ old, IsEnum h e it ((i : Nat) : Int) old) ∧ h.IsTupleIter it t i ∧ e ≠ it) where
  mem := List.mem_cons_self
  obj := by
    rintro i h ⟨⟨old, he⟩, ⟨o, ho, hc, hd⟩, _⟩ b hb
    rcases List.mem_cons.mp hb with rfl | hb
    · exact ⟨_, he, fun v q => nomatch q⟩
    · rw [List.mem_singleton.mp hb]
      refine ⟨o, ho, fun v q => ?_⟩
      rw [hd] at q
      cases q
  keep := by
    rintro i h h' ⟨⟨old, he⟩, hi, ne⟩ k
    exact ⟨⟨old, k e List.mem_cons_self _ he⟩, hi.at fun o q => k it (List.mem_cons_of_mem _ List.mem_cons_self) o q, ne⟩
  item := by
    intro X hP hw hK hc i pins s σ H E I hf st hg
    subst hP hw hK
    obtain ⟨⟨old, he⟩, hit, ne⟩ := st
    obtain ⟨xs, x, hq, hx⟩ := hg
    obtain ⟨its, rv, p, hz⟩ := I.tuple hq
    have pt := isTuple_of p
    obtain ⟨u, hu, ru⟩ := rv.get hx
    have a1 := tit_apart hit pt
    have a2 := enum_apart he pt
    have le : e < s.heap.objs.size := Heap.lt_size he
    have li : it < s.heap.objs.size := by
      obtain ⟨_, q, _⟩ := hit
      exact Heap.lt_size q
    have hlt : i < its.toArray.size := by
      rcases Nat.lt_or_ge i its.toArray.size with z | z
      · exact z
      · rw [List.getElem?_eq_none_iff.mpr (by simpa using z)] at hu
        cases hu
    refine wpAny_pyNext_enum_itemD (Draws.tuple (show X.A.in1.handled = none from I.ok.hd hc) it t a1 its.toArray) he ⟨hit, pt⟩ hlt ne (by simp [ne, a2]) fun y h1 tk hy ho st1 hT hsz hk => ?_
    obtain rfl : y = u := by
      rw [List.getElem?_toArray, hu] at hy
      exact (Option.some.inj hy).symm
    refine ⟨_, rfl, wpAny_letOwnedTupleGo_enum (s := { s with heap := h1, toks := tk + 1 }) ho fun h2 he2 sb => ?_⟩
    have hT2 : h2.get? s.heap.objs.size = some { cls := .type "tuple", data := .seq #[.int i tk, y] } := (sb.2 _ (Nat.ne_of_gt le)).trans hT
    have new : ObjOk X.prog X.w (upd H s.heap.objs.size (.tup [.int (i : Nat), x])) h2 s.heap.objs.size (.tup [.int (i : Nat), x]) :=
      ⟨by show 2 ≤ sizeLine; decide, [.int i tk, y], .cons ⟨_, rfl⟩ (.cons ru .nil), ⟨_, hT2, rfl, _, rfl⟩⟩
    have I1 : Inv X pins σ (upd H s.heap.objs.size (.tup [.int (i : Nat), x])) { s with heap := h2, toks := tk + 1 } :=
      I.turnedNew (ch := [e, it]) (fun b ob hb q => (sb.2 b (fun z => hb (by simp [z]))).trans (hk b ob (fun z => hb (by simp [z])) (fun z => hb (by simp [z])) q)) hf (Nat.le_refl _) new
    refine ⟨.ref s.heap.objs.size, _, I1, rfl, ⟨_, x, rfl, I.hok.fresh (Nat.le_refl _), rfl, fun ys hy => ?_⟩, ⟨⟨y, ?_⟩, st1.1.at fun o q => (sb.2 it (Ne.symm ne)).trans q, ne⟩, fun b hb => ?_⟩
    · rw [I.tuple_inj hy hq]
      exact hx
    · rw [show ((i + 1 : Nat) : Int) = (i : Int) + 1 by omega]
      exact he2
    · have lb : b < s.heap.objs.size := by
        rcases List.mem_cons.mp hb with rfl | hb
        · exact le
        · rw [List.mem_singleton.mp hb]
          exact li
      rw [upd_ne (Nat.ne_of_lt lb)]
      exact (hf b hb).1
  done := by
    intro X hP hw hK hc i pins s σ H E I hf st hg
    subst hP hw hK
    obtain ⟨⟨old, he⟩, hit, ne⟩ := st
    obtain ⟨xs, hq, hx⟩ := hg
    obtain ⟨its, rv, p, hz⟩ := I.tuple hq
    have pt := isTuple_of p
    obtain ⟨f0, f1, f2, f3, f4, f5⟩ := hf it (by simp)
    have n : i = its.toArray.size := by
      rw [List.size_toArray, ← rv.length]
      exact hx.symm
    subst n
    exact wpAny_pyNext_enum_endD (Draws.tuple (show X.A.in1.handled = none from I.ok.hd hc) it t (tit_apart hit pt) its.toArray) he ⟨hit, pt⟩ fun h1 eb => ⟨rfl, I.turned (t' := s.toks) (fun b o hb q => eb b o hb q) f0 f1 f3 f4 f5⟩
  self := fun A i s Q E st h => let ⟨⟨_, he⟩, _⟩ := st; wpAny_pyIter_enum he h
theorem call_of_enum {X : Cx} {elts : List Expr} {kk : Nat} {tpos : Pos} {pins : List (Addr × Obj)} {σ : L2.St} {H : Hp} {s : Shared} {R : It → Hp → Prop} {t : Addr} {items : Array Value} (I : Inv X pins σ H s) (pl : IsTup s.heap t items) (q : R (IteT X.K t) H) :
    wpAny (model X.prog X.w) X.A (call (.type "enumerate") [.ref t]) (fun v s2 => wpAny (model X.prog X.w) X.A (pyIter v) (PIE X pins σ (.Tuple elts kk tpos) R) X.xe s2) X.xe s := by
  refine HN4.call_enumT (isTuple_of pl) fun h1 he hit hk => wpAny_pyIter_enum he ?_
  refine ⟨s.heap.objs.size + 1, [s.heap.objs.size + 1, s.heap.objs.size], _, _, H, rfl, I.kept (t' := s.toks) hk, turn_enumT t _ _, ⟨⟨.none, he⟩, hit, Nat.succ_ne_self _⟩, fun b hb => ?_, q⟩
  have hle : s.heap.objs.size ≤ b := by
    rcases List.mem_cons.mp hb with rfl | hb
    · exact Nat.le_add_right _ _
    · rw [List.mem_singleton.mp hb]
      exact Nat.le_refl _
  exact I.fpOk hle (I.hok.fresh hle)
def iEnumT (K : PySem.W.Frag) (ta : TA) : TI := fun σ H R => ta σ H fun vs H1 => ∃ t xs, vs = [.ref t] ∧ SqT K H1 t xs ∧ R (IteT K t) H1
theorem pi_enumT {X : Cx} {e : Expr} {ta : TA} {p pos tpos : Pos} {elts : List Expr} {kk : Nat} (hg : Gl X "enumerate") (hm : X.mg "enumerate" = none) (ha : PA X [e] ta) (hs : starEach [e] X.env = [(false, eval e X.env)] := by rfl) :
    PI X (.Tuple elts kk tpos) (.Call (.Name "enumerate" p) [e] [] pos) (iEnumT X.K ta) := by
  constructor
  intro pins s σ H R I h
  refine Call_ (ld_blt I hg hm boot_enumerate (PyProof.Rows.callWith_type1 (thn (ha.run pos pins s σ H _ I h) fun us s1 q0 => ?_) hs rfl))
  obtain ⟨vs, H1, I1, r1, t, xs, ex, hq, q⟩ := q0
  subst ex
  obtain rfl := Vals.ref1 r1
  obtain ⟨its, rv, pl, hz⟩ := I1.tuple hq
  refine call_of_enum I1 pl q
/-- a loop over the pairs of a tuple -/
theorem for_enumT {K : PySem.W.Frag} {t : Addr} {xs : List V} {g : TG} {tb : TS} {D : Ends} {σ : L2.St} {H : Hp} (Pv : Nat → L2.St → Hp → Prop) (h0 : Pv 0 σ H) (hl : ∀ i σ H, i ≤ xs.length → Pv i σ H → SqT K H t xs)
    (hs : ∀ i x σ H T, xs[i]? = some x → Pv i σ H → H T = none → g (.ref T) σ (upd H T (.tup [.int (i : Nat), x])) fun σ2 H2 => tb { D with nx := Pv (i + 1), ct := Pv (i + 1), bk := D.nx } σ2 H2) (hd : ∀ σ H, Pv xs.length σ H → D.nx σ H) :
    ∃ W : Nat → Nat → L2.St → Hp → Prop, (∃ m, W 0 m σ H) ∧ ∀ i m σ H, W i m σ H →
      ((IteT K t).stop i H ∧ D.nx σ H) ∨ ((IteT K t).go i H ∧ ∃ N : L2.St → Hp → Prop, (∀ σ' H', N σ' H' → ∃ m', m' < m ∧ W (i + 1) m' σ' H') ∧ ∀ x H', (IteT K t).yld i H x H' → g x σ H' fun σ2 H2 => tb { D with nx := N, ct := N, bk := D.nx } σ2 H2) := by
  refine ⟨fun i m σ H => m = xs.length - i ∧ i ≤ xs.length ∧ Pv i σ H, ⟨xs.length, rfl, Nat.zero_le _, h0⟩, ?_⟩
  rintro i m σ H ⟨rfl, hi, p⟩
  have q := hl i σ H hi p
  rcases Nat.lt_or_ge i xs.length with hlt | hge
  · refine .inr ⟨⟨xs, xs[i], q, List.getElem?_eq_getElem hlt⟩, Pv (i + 1), fun σ' H' p' => ⟨xs.length - (i + 1), by omega, rfl, hlt, p'⟩, ?_⟩
    rintro y H' ⟨T, x, rfl, hT, rfl, hx⟩
    exact hs i x σ H T (hx xs q) p hT
  · have e : i = xs.length := Nat.le_antisymm hi hge
    subst e
    exact .inl ⟨⟨xs, q, rfl⟩, hd σ H p⟩
end Gd

set_option Elab.async false
set_option linter.all false
set_option maxRecDepth 100000
set_option maxHeartbeats 4000000
/-! zip of two sequences, each a list or a tuple. -/
namespace Gd
open PySem PySem.Spec PyProof.Rows L2
/-- a list (true) or a tuple (false) -/
def SqE (K : PySem.W.Frag) (l : Bool) (H : Hp) (a : Addr) (xs : List V) : Prop := match l with
  | true => SqL K H a xs
  | false => SqT K H a xs
def HpE (l : Bool) (h : Heap) (a : Addr) (items : Array Value) : Prop := match l with
  | true => h.IsList a items
  | false => h.IsTuple a items
def ItE (l : Bool) (h : Heap) (it a : Addr) (i : Nat) : Prop := match l with
  | true => h.IsListIter it a i
  | false => h.IsTupleIter it a i
def objE (l : Bool) (a : Addr) : Obj := match l with
  | true => { cls := .type "list_iterator", data := .fields #[.ref a, .int 0 0] }
  | false => { cls := .type "tuple_iterator", data := .fields #[.ref a, .int 0 0] }
section
variable {l : Bool} {h h' : Heap} {a it : Addr} {i : Nat} {items : Array Value}
theorem ItE.at (x : ItE l h it a i) (k : ∀ o, h.get? it = some o → h'.get? it = some o) : ItE l h' it a i := by
  cases l with
  | true => exact Heap.IsListIter.at (show h.IsListIter it a i from x) k
  | false => exact Heap.IsTupleIter.at (show h.IsTupleIter it a i from x) k
theorem ItE.there (x : ItE l h it a i) : ∃ o, h.get? it = some o ∧ ∀ v, o.data ≠ .cell v := by
  cases l with
  | true =>
    obtain ⟨o, g, _, d⟩ := (show h.IsListIter it a i from x)
    exact ⟨o, g, fun v q => by rw [d] at q; cases q⟩
  | false =>
    obtain ⟨o, g, _, d⟩ := (show h.IsTupleIter it a i from x)
    exact ⟨o, g, fun v q => by rw [d] at q; cases q⟩
theorem ItE.apart (x : ItE l h it a i) (y : HpE l h a items) : a ≠ it := by
  intro z
  subst z
  cases l with
  | true =>
    obtain ⟨o1, g1, c1, _⟩ := (show h.IsListIter a a i from x)
    obtain ⟨o2, g2, c2, _⟩ := (show h.IsList a items from y)
    rw [g1] at g2
    cases g2
    rw [c1] at c2
    exact absurd c2 (by simp)
  | false => exact tit_apart (show h.IsTupleIter a a i from x) (show h.IsTuple a items from y) rfl
theorem drawsE {prog : Program} {w : World} {A : Around} (hh : A.handled = none) (ne : a ≠ it) : Draws prog w A it [it, a] items.size (fun i v => items[i]? = some v) (fun i h => ItE l h it a i ∧ HpE l h a items) := by
  cases l with
  | true => exact Draws.list hh it a ne items
  | false => exact Draws.tuple hh it a ne items
theorem beginsE : Begins (.ref a) (objE l a) (fun h => HpE l h a items) := by
  cases l with
  | true => exact begins_list a items
  | false => exact begins_tuple a items
theorem ItE.new (g : h.get? it = some (objE l a)) : ItE l h it a 0 := by
  cases l with
  | true => exact ⟨_, g, rfl, rfl⟩
  | false => exact ⟨_, g, rfl, rfl⟩
end
section
variable {X : Cx} {pins : List (Addr × Obj)} {σ : L2.St} {H : Hp} {s : Shared} {l : Bool} {a : Addr} {xs ys : List V}
theorem seqE (I : Inv X pins σ H s) (h : SqE X.K l H a xs) : ∃ its : List Value, Vals xs its ∧ HpE l s.heap a its.toArray := by
  cases l with
  | true =>
    obtain ⟨its, rv, p, _⟩ := I.list (show SqL X.K H a xs from h)
    exact ⟨its, rv, p.isList⟩
  | false =>
    obtain ⟨its, rv, p, _⟩ := I.tuple (show SqT X.K H a xs from h)
    exact ⟨its, rv, isTuple_of p⟩
theorem injE (I : Inv X pins σ H s) (h1 : SqE X.K l H a xs) (h2 : SqE X.K l H a ys) : xs = ys := by
  cases l with
  | true => exact I.list_inj h1 h2
  | false => exact I.tuple_inj h1 h2
end
/-- both walked together: at each turn a new pair -/
def ItzE (K : PySem.W.Frag) (l1 l2 : Bool) (a b : Addr) : It where
  go := fun i H => ∃ (xs ys : List V) (x y : V), SqE K l1 H a xs ∧ SqE K l2 H b ys ∧ xs[i]? = some x ∧ ys[i]? = some y
  yld := fun i H v H' => ∃ T x y, v = .ref T ∧ H T = none ∧ H' = upd H T (.tup [x, y]) ∧ (∀ xs, SqE K l1 H a xs → xs[i]? = some x) ∧ ∀ ys, SqE K l2 H b ys → ys[i]? = some y
  stop := fun i H => ∃ xs ys : List V, SqE K l1 H a xs ∧ SqE K l2 H b ys ∧ i = min xs.length ys.length
theorem lt_of_get {its : List Value} {i : Nat} {u : Value} (h : its[i]? = some u) : i < its.toArray.size := by
  rw [List.size_toArray]
  exact (List.getElem?_eq_some_iff.mp h).1
theorem turn_zipE {P : Program} {w : World} {K : PySem.W.Frag} {elts : List Expr} {kk : Nat} {tpos : Pos} {l1 l2 : Bool} {a b z TI TO i1 i2 : Addr} (S : ZipSep2 z TI TO i1 i2 [i1, a] [i2, b]) :
    Turn P w K (.Tuple elts kk tpos) (ItzE K l1 l2 a b) [z, TI, TO, i1, i2] z (fun i h => IsZip h z TI TO .none ∧ IsTupOf2 h TI (.ref i1) (.ref i2) ∧ (∃ x y, IsTupOf2 h TO x y) ∧ ItE l1 h i1 a i ∧ ItE l2 h i2 b i) where
  mem := List.mem_cons_self
  obj := by
    rintro i h ⟨hz, hTI, ⟨x, y, hTO⟩, h1, h2⟩ c hc
    simp only [List.mem_cons, List.not_mem_nil, or_false] at hc
    rcases hc with rfl | rfl | rfl | rfl | rfl
    · exact ⟨_, hz, fun v q => nomatch q⟩
    · exact ⟨_, hTI, fun v q => nomatch q⟩
    · exact ⟨_, hTO, fun v q => nomatch q⟩
    · exact h1.there
    · exact h2.there
  keep := by
    rintro i h h' ⟨hz, hTI, ⟨x, y, hTO⟩, h1, h2⟩ k
    exact ⟨k _ (by simp) _ hz, k _ (by simp) _ hTI, ⟨x, y, k _ (by simp) _ hTO⟩, h1.at fun o q => k _ (by simp) o q, h2.at fun o q => k _ (by simp) o q⟩
  item := by
    intro X hP hw hK hc i pins s σ H E I hf st hg
    subst hP hw hK
    obtain ⟨hz, hTI, ⟨x0, y0, hTO⟩, h1, h2⟩ := st
    obtain ⟨xs, ys, x, y, hqx, hqy, hx, hy⟩ := hg
    obtain ⟨its, rv, p⟩ := seqE I hqx
    obtain ⟨its2, rv2, p2⟩ := seqE I hqy
    obtain ⟨u, hu, ru⟩ := rv.get hx
    obtain ⟨u2, hu2, ru2⟩ := rv2.get hy
    have hd : X.A.in1.handled = none := I.ok.hd hc
    have zl : z < s.heap.objs.size := Heap.lt_size hz
    refine wpAny_pyNext_zipD2_item S (drawsE hd (h1.apart p)) (drawsE hd (h2.apart p2)) hz hTI hTO ⟨h1, p⟩ ⟨h2, p2⟩ (lt_of_get hu) (lt_of_get hu2) fun v1 v2 h3 tk e1 e2 z3 TO3 s1 s2 hT hsz hk => ?_
    obtain rfl : v1 = u := by
      rw [List.getElem?_toArray, hu] at e1
      exact (Option.some.inj e1).symm
    obtain rfl : v2 = u2 := by
      rw [List.getElem?_toArray, hu2] at e2
      exact (Option.some.inj e2).symm
    refine ⟨_, rfl, wpAny_letOwnedTupleGo_zip (s := { s with heap := h3, toks := tk }) z3 fun h4 z4 sb => ?_⟩
    have hT4 : h4.get? s.heap.objs.size = some { cls := .type "tuple", data := .seq #[v1, v2] } := (sb.2 _ (Nat.ne_of_gt zl)).trans hT
    have new : ObjOk X.prog X.w (upd H s.heap.objs.size (.tup [x, y])) h4 s.heap.objs.size (.tup [x, y]) := ⟨by show 2 ≤ sizeLine; decide, [v1, v2], .cons ru (.cons ru2 .nil), ⟨_, hT4, rfl, _, rfl⟩⟩
    have kp : ∀ c o, c ∉ [z, TI, TO, i1, i2] → s.heap.get? c = some o → h4.get? c = some o := fun c o hb q => by
      simp only [List.mem_cons, List.not_mem_nil, or_false, not_or] at hb
      exact (sb.2 c hb.1).trans (hk c o hb.1 hb.2.2.1 hb.2.2.2.1 hb.2.2.2.2 q)
    have J : Inv X pins σ (upd H s.heap.objs.size (.tup [x, y])) { s with heap := h4, toks := tk } := I.turnedNew (t' := tk) kp hf (Nat.le_refl _) new
    refine ⟨.ref s.heap.objs.size, _, J, rfl, ⟨_, x, y, rfl, I.hok.fresh (Nat.le_refl _), rfl, fun m hm => ?_, fun m hm => ?_⟩, ⟨z4, ?_, ⟨v1, v2, ?_⟩, ?_, ?_⟩, fun c hcm => ?_⟩
    · rw [injE I hm hqx]
      exact hx
    · rw [injE I hm hqy]
      exact hy
    · exact (sb.2 _ S.TIz).trans (hk _ _ S.TIz S.TITO S.TIi1 S.TIi2 hTI)
    · exact (sb.2 _ S.TOz).trans TO3
    · exact s1.1.at fun o q => (sb.2 _ S.zi1.symm).trans q
    · exact s2.1.at fun o q => (sb.2 _ S.zi2.symm).trans q
    · have lt : c < s.heap.objs.size := by
        obtain ⟨_, g1, _⟩ := h1.there
        obtain ⟨_, g2, _⟩ := h2.there
        have hm := hcm
        simp only [List.mem_cons, List.not_mem_nil, or_false] at hm
        rcases hm with rfl | rfl | rfl | rfl | rfl
        · exact zl
        · exact Heap.lt_size hTI
        · exact Heap.lt_size hTO
        · exact Heap.lt_size g1
        · exact Heap.lt_size g2
      rw [upd_ne (Nat.ne_of_lt lt)]
      exact (hf c hcm).1
  done := by
    intro X hP hw hK hc i pins s σ H E I hf st hg
    subst hP hw hK
    obtain ⟨hz, hTI, ⟨x0, y0, hTO⟩, h1, h2⟩ := st
    obtain ⟨xs, ys, hqx, hqy, hend⟩ := hg
    obtain ⟨its, rv, p⟩ := seqE I hqx
    obtain ⟨its2, rv2, p2⟩ := seqE I hqy
    have n1 : its.toArray.size = xs.length := by rw [List.size_toArray, rv.length]
    have n2 : its2.toArray.size = ys.length := by rw [List.size_toArray, rv2.length]
    have hd : X.A.in1.handled = none := I.ok.hd hc
    refine wpAny_pyNext_zipD2_end S (drawsE hd (h1.apart p)) (drawsE hd (h2.apart p2)) hz hTI hTO ⟨h1, p⟩ ⟨h2, p2⟩ (by omega) (by omega) (by omega) fun h3 tk hk => ⟨rfl, I.turnedL (t' := tk) (fun c o hb q => ?_) hf⟩
    simp only [List.mem_cons, List.not_mem_nil, or_false, not_or] at hb
    exact hk c o hb.1 hb.2.2.1 hb.2.2.2.1 hb.2.2.2.2 q
  self := fun A i s Q E st h => wpAny_pyIter_zip st.1 h
def iZipE (K : PySem.W.Frag) (ta : TA) : TI := fun σ H R => ta σ H fun vs H1 => ∃ l1 l2 a b xs ys, vs = [.ref a, .ref b] ∧ SqE K l1 H1 a xs ∧ SqE K l2 H1 b ys ∧ R (ItzE K l1 l2 a b) H1
theorem HpE.lt {l : Bool} {h : Heap} {a : Addr} {items : Array Value} (x : HpE l h a items) : a < h.objs.size := by
  cases l with
  | true =>
    obtain ⟨o, g, _⟩ := (show h.IsList a items from x)
    exact Heap.lt_size g
  | false =>
    obtain ⟨o, g, _⟩ := (show h.IsTuple a items from x)
    exact Heap.lt_size g
theorem call_of_zip {X : Cx} {elts : List Expr} {kk : Nat} {tpos : Pos} {pins : List (Addr × Obj)} {σ : L2.St} {H : Hp} {s : Shared} {R : It → Hp → Prop} {l1 l2 : Bool} {a b : Addr} {i1 i2 : Array Value} (I : Inv X pins σ H s)
    (p1 : HpE l1 s.heap a i1) (p2 : HpE l2 s.heap b i2) (q : R (ItzE X.K l1 l2 a b) H) :
    wpAny (model X.prog X.w) X.A (call (.type "zip") [.ref a, .ref b]) (fun v s2 => wpAny (model X.prog X.w) X.A (pyIter v) (PIE X pins σ (.Tuple elts kk tpos) R) X.xe s2) X.xe s := by
  refine zip_begins2 beginsE beginsE p1 p2 fun h1 hz hTI hTO g1 g2 _ hk => wpAny_pyIter_zip hz ?_
  have sep : ZipSep2 (s.heap.objs.size + 4) (s.heap.objs.size + 2) (s.heap.objs.size + 3) s.heap.objs.size (s.heap.objs.size + 1) [s.heap.objs.size, a] [s.heap.objs.size + 1, b] :=
    zip_sep2 (fun c hc => by rw [List.mem_singleton.mp hc]; exact p1.lt) (fun c hc => by rw [List.mem_singleton.mp hc]; exact p2.lt)
  refine ⟨s.heap.objs.size + 4, [s.heap.objs.size + 4, s.heap.objs.size + 2, s.heap.objs.size + 3, s.heap.objs.size, s.heap.objs.size + 1], _, _, H, rfl, I.kept (t' := s.toks) hk, turn_zipE sep, ⟨hz, hTI, ⟨_, _, hTO⟩, .new g1, .new g2⟩, fun c hc => ?_, q⟩
  have le : s.heap.objs.size ≤ c := by
    simp only [List.mem_cons, List.not_mem_nil, or_false] at hc
    rcases hc with rfl | rfl | rfl | rfl | rfl
    all_goals first | exact Nat.le_refl _ | exact Nat.le_add_right _ _
  exact I.fpOk le (I.hok.fresh le)
theorem pi_zipE {X : Cx} {e e2 : Expr} {ta : TA} {p pos tpos : Pos} {elts : List Expr} {kk : Nat} (hg : Gl X "zip") (hm : X.mg "zip" = none) (ha : PA X [e, e2] ta)
    (hs : starEach [e, e2] X.env = (false, eval e X.env) :: starEach [e2] X.env := by rfl) (hpl : (backTo pos (starEach [e2] X.env)).any (·.1) = false := by rfl) :
    PI X (.Tuple elts kk tpos) (.Call (.Name "zip" p) [e, e2] [] pos) (iZipE X.K ta) := by
  constructor
  intro pins s σ H R I h
  refine Call_ (ld_blt I hg hm PyProof.Rows.boot_zip (PyProof.Rows.callWith_type1 (thn (ha.run pos pins s σ H _ I h) fun us s1 q0 => ?_) hs hpl))
  obtain ⟨vs, H1, I1, r1, l1, l2, a, b, xs, ys, ex, hx, hy, q⟩ := q0
  subst ex
  obtain ⟨u1, u2, rfl, r1, r2⟩ := vals2 r1
  cases r1
  cases r2
  obtain ⟨i1, _, p1⟩ := seqE I1 hx
  obtain ⟨i2, _, p2⟩ := seqE I1 hy
  exact call_of_zip I1 p1 p2 q
theorem walk_zipE {K : PySem.W.Frag} {l1 l2 : Bool} {a b : Addr} {xs ys : List V} {n : Nat} (hn : n = min xs.length ys.length) :
    Walk (ItzE K l1 l2 a b) n (fun H => SqE K l1 H a xs ∧ SqE K l2 H b ys) (YPair (fun i => xs[i]?) (fun i => ys[i]?)) where
  goes := fun i H hi q => by
    have h1 : i < xs.length := by omega
    have h2 : i < ys.length := by omega
    exact ⟨xs, ys, xs[i], ys[i], q.1, q.2, List.getElem?_eq_getElem h1, List.getElem?_eq_getElem h2⟩
  stops := fun H q => ⟨xs, ys, q.1, q.2, hn⟩
  yields := by
    rintro i H v H' _ q ⟨T, x, z, h1, h2, h3, h4, h5⟩
    exact ⟨T, x, z, h1, h2, h3, h4 xs q.1, h5 ys q.2⟩
theorem walk_enumT {K : PySem.W.Frag} {a : Addr} {xs : List V} : Walk (IteT K a) xs.length (fun H => SqT K H a xs) (YPair (fun i => some (.int (i : Nat))) (fun i => xs[i]?)) where
  goes := fun i H hi q => ⟨xs, xs[i], q, List.getElem?_eq_getElem hi⟩
  stops := fun H q => ⟨xs, q, rfl⟩
  yields := by
    rintro i H v H' _ q ⟨T, x, h1, h2, h3, h4⟩
    exact ⟨T, _, x, h1, h2, h3, rfl, h4 xs q⟩
end Gd

set_option Elab.async false
set_option linter.all false
set_option maxRecDepth 100000
set_option maxHeartbeats 4000000
/-! + - * of own classes, with an own object or an integer at the right; - of one. -/
namespace HN3
open PySem PySem.Spec PyProof.Rows PySem.SeqAt
section
variable {prog : Program} {w : World} {A : Around} {E : Value → Shared → Prop} {s : Shared} {K : PySem.W.Frag} {x C f : Addr} {ox : Obj} {od : Option Obj}
theorem name_there {M : Model} {h : Heap} {nm : String} (X : K.In h) (hs : PySem.W.findIn K (.ref C) (PySem.dunder nm) = some (some (.ref f))) (hr : PySem.W.findIn K (.ref C) (PySem.dunderR nm) = some none) :
    PySem.W.Looks M h (numberSlotInPython (.ref C) nm) true := by
  intro A Q E s k q
  unfold numberSlotInPython
  refine wpAny_bind (PySem.W.looks_findIn X hs A _ E s k ?_)
  refine wpAny_bind (wpAny_pure ?_)
  refine wpAny_bind (PySem.W.looks_findIn X hr A _ E s k ?_)
  refine wpAny_bind (wpAny_pure ?_)
  exact wpAny_pure q
theorem binop1_int {nm : String} {n : Int} {t : Tok} {z : Value} {Q : Value → Shared → Prop} (X : K.In s.heap) (I : PySem.W.InstAt s.heap x ox C od) (hc : PySem.W.selfFirst K C = true)
    (hs : PySem.W.findIn K (.ref C) (PySem.dunder nm) = some (some (.ref f))) (hrn : PySem.W.findIn K (.ref C) (PySem.dunderR nm) = some none) (hf : PySem.W.isFn K (.ref f) = true)
    (fi : fillsNumberSlot (.type "int") nm = pure true) (hsub : PySem.W.subIn K (.type "int") (.ref C) = some false) (hz : typeLookup (.type "int") (PySem.dunderR nm) = pure (some z))
    (h : wpAny (model prog w) A (call (.ref f) [.ref x, .int n t]) (PySem.W.CmpBack Q) E s) : wpAny (model prog w) A (binaryOp1 nm (.ref x) (.int n t)) (fun r s' => ∃ v, r = some v ∧ Q v s') E s := by
  obtain ⟨cd, hcd, hm⟩ := PySem.W.any_some hc
  obtain ⟨rest, hm⟩ : ∃ rest, cd.mro = .ref C :: rest := by
    cases q : cd.mro with
    | nil => rw [q] at hm; cases hm
    | cons a r => rw [q] at hm; exact ⟨r, by rw [List.head?_cons] at hm; cases (beq_iff_eq.mp hm); rfl⟩
  unfold binaryOp1
  refine wpAny_bind (I.type.here ?_)
  refine wpAny_bind (wpAny_of_eq (a := Value.type "int") rfl ?_)
  refine wpAny_bind ((PySem.W.fills_K X hcd hm hs).here ?_)
  have e : (Value.ref C == Value.type "int") = false := rfl
  rw [e]
  simp only [Bool.false_eq_true, if_false]
  refine wpAny_bind (wpAny_of_eq fi ?_)
  simp only [Bool.and_self, if_true]
  refine wpAny_bind ((PySem.W.looks_subIn X hsub).here ?_)
  simp only [Bool.false_eq_true, if_false]
  refine wpAny_bind ((name_there X hs hrn).here ?_)
  simp only [if_true]
  refine wpAny_bind (wpAny_of_eq (a := false) rfl ?_)
  simp only [Bool.not_false, if_true]
  refine wpAny_bind (wpAny_of_eq hz ?_)
  refine wpAny_bind (m := tryMethod (.ref x) _ (.int n t)) ?_
  unfold tryMethod
  refine wpAny_bind (PySem.W.special_fn X I hs (beq_iff_eq.mp hf) (wpAny_mono h (fun v s' hv => ?_) fun _ _ e => e))
  cases v <;> first | exact hv.elim | exact wpAny_pure (wpAny_pure ⟨_, rfl, hv⟩)
theorem binop_int {op : Operator} {n : Int} {t : Tok} {z : Value} {Q : Value → Shared → Prop} (X : K.In s.heap) (I : PySem.W.InstAt s.heap x ox C od) (hc : PySem.W.selfFirst K C = true)
    (hs : PySem.W.findIn K (.ref C) (PySem.dunder op.info.2) = some (some (.ref f))) (hrn : PySem.W.findIn K (.ref C) (PySem.dunderR op.info.2) = some none) (hf : PySem.W.isFn K (.ref f) = true)
    (fi : fillsNumberSlot (.type "int") op.info.2 = pure true) (hsub : PySem.W.subIn K (.type "int") (.ref C) = some false) (hz : typeLookup (.type "int") (PySem.dunderR op.info.2) = pure (some z))
    (h : wpAny (model prog w) A (call (.ref f) [.ref x, .int n t]) (PySem.W.CmpBack Q) E s) : wpAny (model prog w) A (binaryOp op (.ref x) (.int n t)) Q E s := by
  unfold binaryOp
  refine wpAny_holding (wpAny_bind (wpAny_mono (binop1_int X I hc hs hrn hf fi hsub hz h) (fun r s' hr => ?_) fun _ _ e => e))
  obtain ⟨v, rfl, q⟩ := hr
  exact wpAny_pure q
theorem neg_own {Q : Value → Shared → Prop} (X : K.In s.heap) (I : PySem.W.InstAt s.heap x ox C od)
    (hs : PySem.W.findIn K (.ref C) "__neg__" = some (some (.ref f))) (hf : PySem.W.isFn K (.ref f) = true)
    (h : wpAny (model prog w) A (call (.ref f) [.ref x]) Q E s) : wpAny (model prog w) A (unaryOp .USub (.ref x)) Q E s := by
  unfold unaryOp
  refine wpAny_holding ?_
  dsimp only
  rw [if_neg (by decide)]
  exact wpAny_bind (PySem.W.special_fn X I hs (beq_iff_eq.mp hf) (wpAny_mono h (fun v s' hv => wpAny_pure hv) fun _ _ e => e))
end
end HN3

namespace Gd
open PySem PySem.Spec PyProof.Rows L2
section
variable {X : Cx} {CX : CXT} {k : Nat} {f C : Addr} {fd : FuncData} {ps : List Str} {sp : Sp}
/-- what an operator of an own class asks of the class: m its method, r the name of the turned one, which nobody has -/
structure BinC (K : PySem.W.Frag) (C : Addr) (m r : Str) (f : Addr) : Prop where
  sf : PySem.W.selfFirst K C = true
  at_ : Meth K C m f
  rn : PySem.W.findIn K (.ref C) r = some none
/-- x OP y by the own method of x's class, y of that class or an integer; what it gives is an object -/
def rBinO (C : Addr) (sp : Sp) (E : XK) : R2 := fun x y H Q => ∃ p dx fs, x = .ref p ∧ H p = some (.ins C dx fs) ∧
  ((∃ q dy gs, y = .ref q ∧ H q = some (.ins C dy gs)) ∨ ∃ n, y = .int n) ∧ sp [x, y] H (fun v H' => (∃ q, v = .ref q) ∧ Q v H') E
theorem op_binO {op : Operator} {m r : Str} {z : Value} {E : XK} (e1 : PySem.dunder op.info.2 = m) (e2 : PySem.dunderR op.info.2 = r) (fi : fillsNumberSlot (.type "int") op.info.2 = pure true) (hz : typeLookup (.type "int") r = pure (some z))
    (B : BinC X.K C m r f) (F : FnOk X.prog X.w X.K X.mg X.base CX k f fd ps sp) (hr : Room (k + 1) X.A) (hb : Binds X.K fd ps []) (hx : ∀ σ, PassesAt CX X σ E) : OpR X (binaryOp op) (rBinO C sp E) := by
  subst e1 e2
  intro pins s σ H x y v u Q I rx ry h
  obtain ⟨p, dx, fs, rfl, ep, hy, hsp⟩ := h
  cases rx
  obtain ⟨od, J⟩ := seen I ep
  obtain ⟨m, hF⟩ := I.fr
  have run := wpAny_mono (runAt (.inl rfl) F hr hb .nil (hx σ) I (.cons (show RelV (V.ref p) (Value.ref p) from rfl) (.cons ry .nil)) hsp) (Q' := PySem.W.CmpBack (EP X pins σ Q)) (fun w s' hw => by
    obtain ⟨z, H', I', rz, ⟨q, rfl⟩, hq⟩ := hw
    cases rz
    exact ⟨.ref q, H', I', rfl, hq⟩) (fun _ _ z => z)
  rcases hy with ⟨q, dy, gs, rfl, eq⟩ | ⟨n, rfl⟩
  · cases ry
    obtain ⟨od2, J2⟩ := seen I eq
    exact PySem.W.binop_K hF I.ok.mod.kin J J2.type B.sf B.at_.at_ B.at_.fn run
  · obtain ⟨t, rfl⟩ := ry
    exact HN3.binop_int I.kIn J B.sf B.at_.at_ B.rn B.at_.fn fi (by kernel_rfl) hz run
theorem op_addO {E : XK} (B : BinC X.K C "__add__" "__radd__" f) (F : FnOk X.prog X.w X.K X.mg X.base CX k f fd ps sp) (hr : Room (k + 1) X.A) (hb : Binds X.K fd ps []) (hx : ∀ σ, PassesAt CX X σ E) : OpR X (binaryOp .Add) (rBinO C sp E) :=
  op_binO (op := .Add) (z := .builtin "int.__radd__") (by kernel_rfl) (by kernel_rfl) PySem.F.fills_int_add (by rw [typeLookup_type, builtinLookup_eq_fast]; kernel_rfl) B F hr hb hx
theorem op_subO {E : XK} (B : BinC X.K C "__sub__" "__rsub__" f) (F : FnOk X.prog X.w X.K X.mg X.base CX k f fd ps sp) (hr : Room (k + 1) X.A) (hb : Binds X.K fd ps []) (hx : ∀ σ, PassesAt CX X σ E) : OpR X (binaryOp .Sub) (rBinO C sp E) :=
  op_binO (op := .Sub) (z := .builtin "int.__rsub__") (by kernel_rfl) (by kernel_rfl) PySem.F.fills_int_sub (by rw [typeLookup_type, builtinLookup_eq_fast]; kernel_rfl) B F hr hb hx
theorem op_mulO {E : XK} (B : BinC X.K C "__mul__" "__rmul__" f) (F : FnOk X.prog X.w X.K X.mg X.base CX k f fd ps sp) (hr : Room (k + 1) X.A) (hb : Binds X.K fd ps []) (hx : ∀ σ, PassesAt CX X σ E) : OpR X (binaryOp .Mult) (rBinO C sp E) :=
  op_binO (op := .Mult) (z := .builtin "int.__rmul__") (by kernel_rfl) (by kernel_rfl) PySem.F.fills_int_mul (by rw [typeLookup_type, builtinLookup_eq_fast]; kernel_rfl) B F hr hb hx
/-- -x by the own method -/
def rNegO (C : Addr) (sp : Sp) (E : XK) : V → Hp → VK → Prop := fun x H Q => ∃ p dx fs, x = .ref p ∧ H p = some (.ins C dx fs) ∧ sp [x] H Q E
theorem un_negO {E : XK} (M : Meth X.K C "__neg__" f) (F : FnOk X.prog X.w X.K X.mg X.base CX k f fd ps sp) (hr : Room (k + 1) X.A) (hb : Binds X.K fd ps []) (hx : ∀ σ, PassesAt CX X σ E) : UnR X (unaryOp .USub) (rNegO C sp E) := by
  intro pins s σ H x v Q I rx h
  obtain ⟨p, dx, fs, rfl, ep, hsp⟩ := h
  cases rx
  obtain ⟨od, J⟩ := seen I ep
  exact HN3.neg_own I.kIn J M.at_ M.fn (runAt (.inl rfl) F hr hb .nil (hx σ) I (.cons (show RelV (V.ref p) (Value.ref p) from rfl) .nil) hsp)
end
end Gd

set_option Elab.async false
set_option linter.all false
set_option maxRecDepth 100000
set_option maxHeartbeats 4000000
/-! The sum and the count of a tuple; an integer and a tuple of integers, < ; != of two lists whose items are equal by an own ==. -/
namespace NeL
open PySem PySem.SeqAt
open AutoSeq1 (wpAny_loadPart')
open MeetsSeq MeetsSeq2 MeetsSeq3 SeqRoads2
section
variable {prog : Program} {w : World} {A : Around} {R : Result → Shared → Prop}
theorem ne_loopG (l b : Addr) (N : Nat) (I : Nat → Shared → Prop) (hl : GQ.ListI prog w A (fun e s' => R (.error e) s') l b N I)
    (fin : ∀ s, I N s → R (.ok (.ret (.bool false))) s) (k : Nat) :
    ∀ i : Nat, N - i = k → i ≤ N → ∀ s, I i s →
      wpAny (model prog w) A.in1 (Builtin.«list.__eq__.loop» ⟨[.ref l, .ref b, rawInt i, rawInt 3], []⟩) (GQ.FinOf prog w A R) (fun e s' => R (.error e) s') s := by
  induction k with
  | zero =>
    intro i hk hi s h
    obtain ⟨items, items2, n, n2, hl1, hb1, hs1, hs2, _⟩ := hl _ _ h
    have hi' : i = N := by omega
    have hR : R (.ok (.ret (.bool false))) s := fin s (hi' ▸ h)
    obtain ⟨hp, g, d, tk, os⟩ := s
    wp_walk using wpAny_loadPart' hl1, wpAny_loadPart' hb1
    have hi1 : items[((i : Nat) : Int).toNat]? = none := by simp; omega
    have hi2 : items2[((i : Nat) : Int).toNat]? = none := by simp; omega
    rw [hi1, hi2]
    wp_walk using wpAny_loadPart' hl1, wpAny_loadPart' hb1
    show R (.ok (.ret (.bool (items.size != items2.size)))) _
    rw [hs1, hs2]
    simpa using hR
  | succ k ih =>
    intro i hk hi s h
    obtain ⟨items, items2, n, n2, hl1, hb1, hs1, hs2, turn⟩ := hl _ _ h
    have hlt : i < items.size := by omega
    have hlt2 : i < items2.size := by omega
    have ht := turn hlt hlt2
    obtain ⟨hp, g, d, tk, os⟩ := s
    wp_walk using wpAny_loadPart' hl1, wpAny_loadPart' hb1
    have hi1 : items[((i : Nat) : Int).toNat]? = some items[i] := by simp [hlt]
    have hi2 : items2[((i : Nat) : Int).toNat]? = some items2[i] := by simp [hlt2]
    have hc : ((i : Int) + 1) = ((i + 1 : Nat) : Int) := by omega
    rw [hi1, hi2]
    refine wpAny_bind (wpAny_mono ht (fun r s2 h2 => ?_) fun _ _ x => x)
    obtain ⟨hr, h2⟩ := h2
    subst hr
    have hrec := ih (i + 1) (by omega) (by omega) s2 h2
    obtain ⟨hp2, g2, d2, tk2, os2⟩ := s2
    wp_walk
    rw [hc]
    exact ⟨plainId_quiet plain_eq_loop _, codeAny_builtin entry_eq_loop (by
      rw [Around.under_plainId plain_eq_loop _]
      exact hrec)⟩
theorem list_neG (l b : Addr) (N : Nat) (I : Nat → Shared → Prop) (hl : GQ.ListI prog w A (fun e s' => R (.error e) s') l b N I)
    (fin : ∀ s, I N s → R (.ok (.ret (.bool false))) s) {s : Shared} (h : I 0 s) :
    wpAny (model prog w) A.in1 (Builtin.«list.__ne__» ⟨[.ref l, .ref b], []⟩) (GQ.FinOf prog w A R) (fun e s' => R (.error e) s') s := by
  obtain ⟨items, items2, n, n2, hl1, hb1, hs1, hs2, _⟩ := hl _ _ h
  have hrec := ne_loopG (A := A) (R := R) l b N I hl fin _ 0 rfl (Nat.zero_le _) s h
  obtain ⟨hp, g, d, tk, os⟩ := s
  have f3 := AutoSeq1.sub_list_list
  have hne : ¬ (items.size != items2.size) = true := by simp [hs1, hs2]
  wp_walk using wpAny_loadPart' hl1, wpAny_loadPart' hb1
  exact ⟨plainId_quiet plain_eq_loop _, codeAny_builtin entry_eq_loop (by
    rw [Around.under_plainId plain_eq_loop _]
    exact hrec)⟩
end
section
variable {prog : Program} {w : World} {A : Around} {E : Value → Shared → Prop} {s : Shared}
theorem rc {l b : Addr} {N : Nat} {Q : Value → Shared → Prop} (hu : A.units < cLine) (I : Nat → Shared → Prop) (hl : GQ.ListI prog w A E l b N I)
    (fin : ∀ s, I N s → Q (.bool false) s) (h : I 0 s) : wpAny (model prog w) A (richCompare .NotEq (.ref l) (.ref b)) Q E s := by
  obtain ⟨items, items2, n, n2, hl1, hb1, _, _, _⟩ := hl _ _ h
  refine wpAny_richCompare_same_room (op := .NotEq) ⟨_, hl1, rfl⟩ ⟨_, hb1, rfl⟩ F.slot_list_ne (GQ.call_here F.slot_list_ne ⟨_, hl1, rfl⟩ F.entry_list_ne (F.args_list_ne_2 _ _) ?_) hu
  exact list_neG (R := wants (fun v s' => v ≠ .notImplemented ∧ Q v s') E) l b N I hl (fun s' q => ⟨(fun x => nomatch x), fin s' q⟩) h
end
section
variable {prog : Program} {w : World} {A : Around} {E : Value → Shared → Prop} {s : Shared} {l : Addr} {xs : Array (Int × Tok)}
theorem sum_tup {Q : Value → Shared → Prop} (hh : A.handled = none) (hl : s.heap.IsTuple l (intItems xs))
    (h : ∀ h' tk t', (∀ b o, s.heap.get? b = some o → h'.get? b = some o) → Q (.int (preSum (numAt xs) xs.size) t') { s with heap := h', toks := tk }) :
    wpAny (model prog w) A (call (.builtin "sum") [.ref l]) Q E s := by
  have hlt : l < s.heap.objs.size := by obtain ⟨_, e, _⟩ := hl; exact Heap.lt_size e
  refine call_sum_walkG (wpAny_pyIter_tuple hl ?_)
  refine ⟨_, _, _, _, _, _, numAt xs, rfl, Walks.tuple (A := A.in1) hh _ l (Nat.ne_of_lt hlt) (intItems xs), ⟨⟨_, Heap.get?_push_size _ rfl, rfl, rfl⟩, hl.push _⟩, fun b hb => ?_, (fun _ _ => intItems_at), fun h' tk t' hk => ?_⟩
  · show b < (s.heap.push _).objs.size
    rw [Heap.size_push]
    rcases List.mem_cons.mp hb with rfl | hb
    · exact Nat.lt_succ_self _
    · rcases List.mem_cons.mp hb with rfl | hb
      · exact Nat.lt_succ_of_lt hlt
      · cases hb
  · have hold : ∀ b o, s.heap.get? b = some o → h'.get? b = some o := fun b o e => by
      refine hk b o (fun hm => ?_) (Heap.get?_push_of_some _ e)
      rcases List.mem_cons.mp hm with e1 | hm
      · exact absurd (e1 ▸ Heap.lt_size e) (Nat.lt_irrefl _)
      · cases hm
    have := h h' tk t' hold
    simpa [intItems] using this
theorem sum_tup_raw {its : List Value} {ns : List Int} {Q : Value → Shared → Prop} (hh : A.handled = none) (hl : s.heap.IsTuple l its.toArray) (hi : PyProof.Rows.IntsAre its ns)
    (h : ∀ h' tk t', (∀ b o, s.heap.get? b = some o → h'.get? b = some o) → Q (.int ns.sum t') { s with heap := h', toks := tk }) : wpAny (model prog w) A (call (.builtin "sum") [.ref l]) Q E s := by
  obtain ⟨xs, e⟩ := hi.allInts.items
  have hn : numsOf (intItems xs).toList = ns := by rw [← e]; exact hi.numsOf
  rw [nums_intItems] at hn
  rw [e] at hl
  refine sum_tup hh hl fun h' tk t' hk => ?_
  have := h h' tk t' hk
  rw [preSum_eq, List.take_of_length_le (by simp), hn]; exact this
end
end NeL
namespace Gd
open PySem PySem.Spec PyProof.Rows L2
open PySem.SeqAt (EqAt)
/-- x != y of two lists, item by item equal -/
def rNeL (D : Eqv) : R2 := fun x y H Q => DList D x y H ∧ ∀ H', L2.Ext H H' → Q (.bl false) H'
theorem op_neL {X : Cx} {n : Nat} {D : Eqv} (hD : Mon D) (h : EqG X n D) (hr : Room (n + 1) X.A) : OpR X (compareOp .NotEq) (rNeL D) := by
  intro pins s σ H x y v u Q I rx ry hw
  obtain ⟨⟨a, b, xs, ys, rfl, rfl, ha, hb, p⟩, q⟩ := hw
  cases rx
  cases ry
  show wpAny (model X.prog X.w) X.A (richCompare .NotEq (.ref a) (.ref b)) (EP X pins σ Q) X.xe s
  refine NeL.rc (N := xs.length) hr.units0 (fun _ s' => LoopI X pins σ H s') (fun i s' q => ?_) (fun t z => ?_) ⟨H, I, L2.Ext.rfl'⟩
  · obtain ⟨H1, I1, e1⟩ := id q
    obtain ⟨z, its, k, r, e⟩ := I1.hok a _ (e1 _ _ ha)
    obtain ⟨z2, its2, k2, r2, e2⟩ := I1.hok b _ (e1 _ _ hb)
    refine ⟨its.toArray, its2.toArray, k, k2, e, e2, by rw [List.size_toArray, ← r.length], by rw [List.size_toArray, ← r2.length, ← p.1], fun h1 h2 => ?_⟩
    exact turnG hD h ⟨hr, rfl⟩ p r r2 i h1 h2 s' q
  · obtain ⟨H', I', e⟩ := z
    exact ⟨.bl false, H', I', rfl, q H' e⟩
section
variable {X : Cx}
/-- sum(t) of a tuple of ints -/
def rSumT (K : PySem.W.Frag) : List V → Hp → VK → Prop := fun vs H Q => ∃ (a : Addr) (ns : List Int), vs = [V.ref a] ∧ SqT K H a (ns.map V.int) ∧ Q (.int ns.sum) H
theorem cr_sumT (hc : X.calm = true) : CallR X (.builtin "sum") (rSumT X.K) := by
  intro pins s σ H vs us Q I r h
  obtain ⟨a, ns, rfl, hs, q⟩ := h
  obtain ⟨its, rv, hl, _⟩ := I.tuple hs
  rw [Vals.ref1 r]
  exact NeL.sum_tup_raw (I.ok.hd hc) hl (intsAre_of rv) fun h' tk t' hk => ⟨.int _, H, I.kept hk, ⟨_, rfl⟩, q⟩
/-- t.count(k) of a tuple of ints -/
def rCntT (K : PySem.W.Frag) : V → List V → Hp → VK → Prop := fun x xs H Q => ∃ (p : Addr) (ns : List Int) (k : Int), x = .ref p ∧ xs = [.int k] ∧ SqT K H p (ns.map V.int) ∧ Q (.int (ns.count k : Nat)) H
theorem mt_tcount : MtR X "tuple.count" (rCntT X.K) := by
  intro pins s σ H x xs v us Q I rx rxs h
  obtain ⟨p, ns, k, rfl, rfl, hs, q⟩ := h
  cases rx
  obtain ⟨u, rfl, ru⟩ := rxs.one
  obtain ⟨t, rfl⟩ := ru
  obtain ⟨its, rv, ⟨⟨cls, dd, data, sl⟩, ho, hc, n, hd⟩, hlen⟩ := I.tuple hs
  simp only at hc hd
  subst hc hd
  have hi := intsAre_of rv
  refine call_meets PySem.F.slot_tuple_count ⟨_, ho, rfl⟩ PySem.F.entry_tuple_count (PySem.F.args_tuple_count_2 _ _)
    (SeqAt.tuple_countAt p its.toArray n dd sl (.int k t) (eqk k)) ⟨ho, fun y hy => (eqk_gives hi y (by simpa using hy)).at _ _, ?_⟩
  have ec : its.toArray.toList.countP (eqk k) = ns.count k := eqk_count hi
  refine ⟨.int (ns.count k : Nat), H, I.tok _, ⟨s.toks, ?_⟩, q⟩
  show Value.int ((its.toArray.toList.countP (eqk k) : Nat) : Int) s.toks = Value.int ((ns.count k : Nat) : Int) s.toks
  rw [ec]
def pdata (ns : List Int) : List PyData := ns.map PyData.int
theorem pdp {K : PySem.W.Frag} {H : Hp} : ∀ ns : List Int, DpAll K H (ns.map V.int) (pdata ns)
  | [] => .nil
  | n :: r => .cons (.int n) (pdp r)
theorem play : ∀ ns : List Int, PyData.canLayAll0 (pdata ns) = true
  | [] => by simp [pdata, PyData.canLayAll0]
  | n :: r => by
    have := play r
    unfold pdata at this ⊢
    simp [PyData.canLayAll0, PyData.canLay0, this]
theorem peqv : ∀ ns ms : List Int, PyData.eqvAll (pdata ns) (pdata ms) = decide (ns = ms)
  | [], [] => by simp [pdata, PyData.eqvAll]
  | [], _ :: _ => by simp [pdata, PyData.eqvAll]
  | _ :: _, [] => by simp [pdata, PyData.eqvAll]
  | n :: r, m :: q => by
    have := peqv r q
    unfold pdata at this ⊢
    simp [PyData.eqvAll, PyData.eqv, this, Bool.decide_and]
    rfl
theorem lex_self : ∀ ns : List Int, HT.lexLt ns ns = false
  | [] => rfl
  | n :: r => by rw [HT.lexLt_cons, if_pos rfl]; exact lex_self r
/-- (i, t) < (j, u), ints and tuples of ints -/
def pairLt (i j : Int) (ns ms : List Int) : Bool := if i = j then HT.lexLt ns ms else decide (i < j)
def rLtP (K : PySem.W.Frag) : R2 := fun x y H Q => ∃ a b p q i j ns ms, x = .ref a ∧ y = .ref b ∧ SqT K H a [.int i, .ref p] ∧ SqT K H b [.int j, .ref q] ∧ SqT K H p (ns.map V.int) ∧ SqT K H q (ms.map V.int) ∧
  Q (.bl (pairLt i j ns ms)) H
theorem vals_ir {i : Int} {p : Addr} {us : List Value} (r : Vals [V.int i, V.ref p] us) : ∃ t, us = [Value.int i t, Value.ref p] := by
  cases r with
  | cons r t =>
    cases t with
    | cons r2 t2 =>
      cases t2
      obtain ⟨t, rfl⟩ := r
      cases r2
      exact ⟨t, rfl⟩
theorem eqAt_ints {pins : List (Addr × Obj)} {s : Shared} {σ : L2.St} {H : Hp} {A : Around} {p q : Addr} {ns ms : List Int} (I : Inv X pins σ H s) (hp : SqT X.K H p (ns.map V.int)) (hq : SqT X.K H q (ms.map V.int)) (hu : A.units + 64 < cLine) :
    EqAt A s (.ref p) (.ref q) (decide (ns = ms)) := by
  obtain ⟨as, r1⟩ := Dp.reads I (.tuple (pdata ns)) (.ref p) (.ref p) (.tup hp (pdp ns)) (show RelV (V.ref p) (Value.ref p) from rfl)
  obtain ⟨bs, r2⟩ := Dp.reads I (.tuple (pdata ms)) (.ref q) (.ref q) (.tup hq (pdp ms)) (show RelV (V.ref q) (Value.ref q) from rfl)
  have h := SeqAt.eqAt_reads _ _ A s _ _ _ _ r1 r2 (by simp [PyData.canLay0, play]) (by simp [PyData.canLay0, play]) (by
    have d : ∀ ns : List Int, PyData.depthAll (pdata ns) = 0 := fun ns => by
      induction ns with
      | nil => simp [pdata, PyData.depthAll]
      | cons n r ih =>
        unfold pdata at ih ⊢
        simp [PyData.depthAll, PyData.depth, ih]
    simp [PyData.depth, d]
    omega)
  simp only [PyData.eqv, peqv] at h
  exact h
theorem op_ltP (hu : X.A.units + 66 < cLine) : OpR X (compareOp .Lt) (rLtP X.K) := by
  intro pins s σ H x y v u Q I rx ry h
  obtain ⟨a, b, p, q, i, j, ns, ms, rfl, rfl, ha, hb, hp, hq, k⟩ := h
  cases rx
  cases ry
  obtain ⟨its, r1, p1, _⟩ := I.tuple ha
  obtain ⟨its2, r2, p2, _⟩ := I.tuple hb
  obtain ⟨t1, rfl⟩ := vals_ir r1
  obtain ⟨t2, rfl⟩ := vals_ir r2
  obtain ⟨us, v1, e1, _⟩ := I.tuple hp
  obtain ⟨vs, v2, e2, _⟩ := I.tuple hq
  have hA : X.A.in1.units + 64 < cLine := by
    show X.A.units + 1 + 64 < cLine
    omega
  have key := Ob.RcOp.tuples_lt (A := X.A) (s := s) (l := a) (b := b) (items := #[.int i t1, .ref p]) (items2 := #[.int j t2, .ref q]) (e := fun k => if k = 0 then decide (i = j) else decide (ns = ms)) (r := fun k => if k = 0 then decide (i < j) else HT.lexLt ns ms) p1 p2 (by omega)
    (fun k h1 h2 => ?_) (fun k h1 h2 hk => ?_)
  · refine key X.prog X.w X.xe _ ?_
    have e : Ob.lexAt (fun k => if k = 0 then decide (i = j) else decide (ns = ms)) (fun k => if k = 0 then decide (i < j) else HT.lexLt ns ms) (decide ((#[Value.int i t1, Value.ref p] : Array Value).size < (#[Value.int j t2, Value.ref q] : Array Value).size)) 0 (min (#[Value.int i t1, Value.ref p] : Array Value).size (#[Value.int j t2, Value.ref q] : Array Value).size) = pairLt i j ns ms := by
      show Ob.lexAt _ _ (decide (2 < 2)) 0 2 = _
      rw [Ob.lexAt_succ, Ob.lexAt_succ, Ob.lexAt_zero]
      unfold pairLt
      by_cases c1 : i = j
      · subst c1
        by_cases c2 : ns = ms
        · subst c2
          simp [lex_self]
        · simp [c2]
      · simp [c1]
    rw [e]
    exact ⟨.bl _, H, I, rfl, k⟩
  · match k, h1 with
    | 0, _ =>
      have := EqAt.int_int (A := X.A.in1) (s := s) i t1 j t2
      have e : (i == j) = decide (i = j) := rfl
      rw [e] at this
      simpa using this
    | 1, _ =>
      have := eqAt_ints I hp hq hA
      simpa using this
    | k + 2, h1 => exact absurd h1 (by simp)
  · match k, h1 with
    | 0, _ => exact Ob.RcOp.lt_int i j t1 t2
    | 1, _ =>
      intro prog w E Q' hQ
      exact HT.lt_tupInts e1 e2 (intsAre_of v1) (intsAre_of v2) (by omega) hQ
    | k + 2, h1 => exact absurd h1 (by simp)
end
end Gd
namespace Gd
open PySem PySem.Spec PyProof.Rows L2
/-- xs != [] -/
def rNeNil (K : PySem.W.Frag) : R2 := fun x y H Q => ∃ (a b : Addr) (xs : List V), x = .ref a ∧ y = .ref b ∧ SqL K H a xs ∧ SqL K H b [] ∧ Q (.bl (!xs.isEmpty)) H
theorem op_neNil {X : Cx} (hu : X.A.units < cLine) : OpR X (compareOp .NotEq) (rNeNil X.K) := by
  intro pins s σ H x y v u Q I rx ry h
  obtain ⟨a, b, xs, rfl, rfl, ha, hb, q⟩ := h
  cases rx
  cases ry
  obtain ⟨its, r1, p1, _⟩ := I.list ha
  obtain ⟨its2, r2, p2, _⟩ := I.list hb
  cases r2
  cases r1 with
  | nil => exact PySem.SeqAt.RcNeAt.lists (e := fun _ => true) p1.isList p2.isList rfl hu (fun j h1 _ => absurd h1 (Nat.not_lt_zero _)) _ _ _ _ ⟨.bl false, H, I, rfl, q⟩
  | cons r t => exact PySem.SeqAt.RcNeAt.lists_lengths p1.isList p2.isList rfl hu _ _ _ _ ⟨.bl true, H, I, rfl, q⟩
end Gd

set_option Elab.async false
set_option linter.all false
set_option maxRecDepth 100000
set_option maxHeartbeats 4000000
/-! Tuples of which it is known that they have no dict: so their methods can be called. -/
namespace Gd
open PySem PySem.Spec PyProof.Rows L2
def TupX (K : PySem.W.Frag) (H : Hp) (a : Addr) (xs : List V) : Prop := (∃ o : Obj, H a = some (.frz o (.tup xs)) ∧ o.dict = none) ∨
  ∃ (o : Obj) (its : Array Value) (n : Nat), K.lookup a = some o ∧ o.cls = .type "tuple" ∧ o.dict = none ∧ o.data = .seq its n ∧ its.size ≤ sizeLine ∧ Vals xs its.toList
theorem TupX.sq {K : PySem.W.Frag} {H : Hp} {a : Addr} {xs : List V} (h : TupX K H a xs) : SqT K H a xs := by
  rcases h with ⟨o, h, _⟩ | ⟨o, its, n, h, c, _, r⟩
  · exact .inl (.inr ⟨o, h⟩)
  · exact .inr ⟨o, its, n, h, c, r⟩
theorem TupX.ext {K : PySem.W.Frag} {H H' : Hp} {a : Addr} {xs : List V} (e : ∀ b o, H b = some o → H' b = some o) (h : TupX K H a xs) : TupX K H' a xs := by
  rcases h with ⟨o, h, d⟩ | h
  · exact .inl ⟨o, e _ _ h, d⟩
  · exact .inr h
theorem TupX.new {K : PySem.W.Frag} {H : Hp} {p : Addr} {xs : List V} {o : Obj} (d : o.dict = none) : TupX K (upd H p (.frz o (.tup xs))) p xs := .inl ⟨o, upd_same, d⟩
section
variable {X : Cx} {pins : List (Addr × Obj)} {σ : L2.St} {H : Hp} {s : Shared}
theorem TupX.is {a : Addr} {xs : List V} (I : Inv X pins σ H s) (h : TupX X.K H a xs) : s.TypeIs (.ref a) "tuple" ∧ ∀ b, Value.ref a = .ref b → ∃ ob, s.heap.get? b = some ob ∧ ob.dict = none := by
  rcases h with ⟨o, h, d⟩ | ⟨o, its, n, h, c, d, _⟩
  · obtain ⟨e, _, its, _, ob, e2, c, _⟩ := I.hok a _ h
    rw [e] at e2
    cases e2
    exact ⟨⟨o, e, c⟩, fun b z => by cases z; exact ⟨o, e, d⟩⟩
  · exact ⟨⟨o, I.kIn _ o h, c⟩, fun b z => by cases z; exact ⟨o, I.kIn _ o h, d⟩⟩
/-- t.m(..) of such a tuple -/
def tBMT (K : PySem.W.Frag) (r : V → List V → Hp → VK → Prop) (to : TE) (t : TA) : TE := fun σ H Q => to σ H fun x H1 => (∃ a xs, x = .ref a ∧ TupX K H1 a xs) ∧ t σ H1 fun xs H2 => r x xs H2 Q
theorem pe_bmT {o e : Expr} {es : List Expr} {to : TE} {t : TA} {name : Str} {apos cpos : Pos} {id : String} {r : V → List V → Hp → VK → Prop} (pa : PlainAttrs "tuple") (slot : Slot "tuple" name id) (hty : typeOf (.builtin id) = pure (.type "method_descriptor")) (hm : MtR X id r) (ho : PE X o to) (ha : PA X (e :: es) t)
    (hbase : attributeBase o name X.env (eval o X.env) = eval o X.env := by rfl)
    (hfew : ((backTo cpos (starEach (e :: es) X.env)).all (fun x => !x.1) && (backToKw cpos (keywordEach [] X.env)).all (fun x => x.1.isSome)
      && decide ((e :: es).length + ([] : List Keyword).length + (if ([] : List Keyword).isEmpty then 0 else 1) < 30)) = true := by rfl)
    (hline : (apos.endLine == cpos.line) = true := by rfl) (hs : starEach (e :: es) X.env = (false, eval e X.env) :: starEach es X.env := by rfl) (hplain : (backTo cpos (starEach es X.env)).any (·.1) = false := by rfl) :
    PE X (.Call (.Attribute o name apos) (e :: es) [] cpos) (tBMT X.K r to t) := by
  refine ⟨fun pins s σ H Q I h => ?_⟩
  refine wpAny_Call_method_late hbase hfew hline rfl (thn (ho.run pins s σ H _ I h) fun v s1 ⟨x, H1, I1, r1, ⟨a, xs, ex, hx⟩, q1⟩ => ?_)
  subst ex
  cases r1
  obtain ⟨h1, h2⟩ := TupX.is I1 hx
  refine ⟨"tuple", id, pa, slot, hty, h1, h2, ?_⟩
  have hA := ha.run cpos pins s1 σ H1 _ I1 q1
  rw [hs] at hA ⊢
  refine Calls.callWith_builtin (by show (false || (backTo cpos (starEach es X.env)).any (·.1)) = false; rw [hplain] <;> rfl) (Calls.evalArgs_plain ?_)
  exact thn hA fun us s2 ⟨vs, H2, I2, r2, q2⟩ => hm pins s2 σ H2 (.ref a) vs (.ref a) us Q I2 rfl r2 q2
/-! making them -/
def tTupX (t : TA) : TE := fun σ H Q => t σ H fun xs H1 => xs.length ≤ sizeLine ∧ ∀ p o, H1 p = none → o.dict = none → Q (.ref p) (upd H1 p (.frz o (.tup xs)))
theorem pe_tupX {es : List Expr} {t : TA} {pos : Pos} {x1} (h : PA X es t) : PE X (.Tuple es x1 pos) (tTupX t) := by
  refine ⟨fun pins s σ H Q I hq => ?_⟩
  refine wpAny_Tuple_spliced (thn (h.run pos pins s σ H _ I hq) fun us s1 ⟨xs, H1, I1, r, z, q⟩ => ⟨by rw [← r.length]; exact z, ?_⟩)
  have hf : H1 s1.heap.objs.size = none := I1.hok.fresh (Nat.le_refl _)
  refine ⟨.ref s1.heap.objs.size, upd H1 s1.heap.objs.size (.frz { cls := .type "tuple", data := .seq us.toArray } (.tup xs)), I1.laid (t' := s1.toks) (fun b u e => Heap.get?_push_of_some _ e) (Nat.le_refl _) ?_, rfl, q _ _ hf rfl⟩
  exact ⟨Heap.get?_push_size _ rfl, z, us, r, ⟨_, Heap.get?_push_size _ rfl, rfl, _, rfl⟩⟩
def rTupX (K : PySem.W.Frag) : List V → Hp → VK → Prop := fun xs H Q => ∃ p ys, xs = [.ref p] ∧ ((SqL K H p ys ∧ ∀ l o, H l = none → o.dict = none → Q (.ref l) (upd H l (.frz o (.tup ys)))) ∨ (SqT K H p ys ∧ Q (.ref p) H))
theorem call_tupX : CallR X (.type "tuple") (rTupX X.K) := by
  intro pins s σ H xs us Q I r h
  obtain ⟨p, ys, rfl, h⟩ := h
  obtain ⟨u, rfl, rx⟩ := vals1 r
  cases rx
  rcases h with ⟨hq, q⟩ | ⟨hq, q⟩
  · obtain ⟨its, r', pl, hz⟩ := I.list hq
    have hlen := r'.length
    refine call_tuple_list pl.isList (fun h' kp => ?_) (by simp only [List.size_toArray] <;> omega)
    have I1 : Inv X pins σ H { s with heap := h' } := I.kept (t' := s.toks) kp
    have I2 : Inv X pins σ (upd H h'.objs.size (.frz { cls := .type "tuple", data := .seq its.toArray } (.tup ys))) { s with heap := h'.push { cls := .type "tuple", data := .seq its.toArray } } :=
      I1.laid (t' := s.toks) (fun b o e => Heap.get?_push_of_some _ e) (Nat.le_refl _) (show ObjOk X.prog X.w _ _ _ (.frz _ (.tup ys)) from ⟨Heap.get?_push_size _ rfl, hz, its, r', IsTup.new _ _⟩)
    exact ⟨.ref h'.objs.size, _, I2, rfl, q _ _ (I1.hok.fresh (Nat.le_refl _)) rfl⟩
  · obtain ⟨its, r', pl, hz⟩ := I.tuple hq
    exact call_tuple_same pl ⟨.ref p, H, I, rfl, q⟩
def rCatX (K : PySem.W.Frag) : R2 := fun x y H Q => ∃ a b xs ys, x = .ref a ∧ y = .ref b ∧ TupX K H a xs ∧ TupX K H b ys ∧ xs.length + ys.length ≤ sizeLine ∧ ∀ H' p, L2.Ext H H' → TupX K H' p (xs ++ ys) → Q (.ref p) H'
theorem op_catX : OpR X (binaryOp .Add) (rCatX X.K) := by
  intro pins s σ H x y v u Q I rx ry h
  obtain ⟨a, b, xs, ys, rfl, rfl, ha, hb, hz, q⟩ := h
  cases rx
  cases ry
  obtain ⟨its, r1, p1, _⟩ := I.tuple ha.sq
  obtain ⟨its2, r2, p2, _⟩ := I.tuple hb.sq
  by_cases hx : xs = []
  · subst hx
    cases r1
    exact cat_tup0 p1 p2 ⟨.ref b, H, I, rfl, q H b (fun _ _ z => z) hb⟩
  · refine HT.cat_tup p1 p2 (fun z => hx (r1.nil_iff.mp z)) (fun z => ⟨.ref a, H, I, rfl, q H a (fun _ _ z => z) (by rw [r2.nil_iff.mp z, List.append_nil]; exact ha)⟩) (fun z => ?_) (by rw [← r1.length, ← r2.length]; exact hz)
    refine ⟨.ref s.heap.objs.size, _, I.laid (t' := s.toks) (o := .frz { cls := .type "tuple", data := .seq (its ++ its2).toArray } (.tup (xs ++ ys))) (fun b ob q => Heap.get?_push_of_some _ q) (Nat.le_refl _) ?_, rfl, q _ _ ?_ (TupX.new rfl)⟩
    · exact ⟨Heap.get?_push_size _ rfl, by rw [List.length_append]; exact hz, _, r1.append r2, IsTup.new _ _⟩
    · intro b o q
      rw [upd_ne (ne_of_none q (I.hok.fresh (Nat.le_refl _)))]
      exact q
end
theorem g_tupX {t : TA} {σ : L2.St} {H : Hp} {Q : VK} (k : t σ H fun xs H1 => xs.length ≤ sizeLine ∧ ∀ p o, H1 p = none → o.dict = none → Q (.ref p) (upd H1 p (.frz o (.tup xs)))) : tTupX t σ H Q := k
theorem g_bmT {K : PySem.W.Frag} {r : V → List V → Hp → VK → Prop} {to : TE} {t : TA} {σ : L2.St} {H : Hp} {Q : VK} (k : to σ H fun x H1 => (∃ a xs, x = .ref a ∧ TupX K H1 a xs) ∧ t σ H1 fun xs H2 => r x xs H2 Q) : tBMT K r to t σ H Q := k
end Gd

set_option Elab.async false
set_option linter.all false
set_option maxRecDepth 100000
set_option maxHeartbeats 4000000
/-! A tuple times 0 or 1. -/
namespace Gd
open PySem PySem.Spec PyProof.Rows L2
theorem tuple_mul1 (l : Addr) (items : Array Value) (n : Nat) (dd : Option Addr) (sl : Array (Option Value)) (u : Tok) :
    Meets (Builtin.«tuple.__mul__» ⟨[.ref l, .int 1 u], []⟩) (fun _ R s => s.heap.get? l = some { cls := .type "tuple", dict := dd, data := .seq items n, slots := sl } ∧
      R (.ok (.ret (Value.ref l))) s) :=
  .of_wp fun prog w A R s h => by
    obtain ⟨hp, g, d, tk, os⟩ := s
    obtain ⟨hl, h⟩ := h
    have f1 := AutoSeq1.idx_int
    have c1 : (items.isEmpty || (1 : Int) == 1) = true := by simp
    wp_walk using wpAny_loadPart' hl
    repeat (first
      | (refine wpAny_ite_true (decide_eq_true c1) ?_; wp_walk using wpAny_loadPart' hl))
    exact ⟨_, rfl, h⟩

theorem tuple_mul0 (l : Addr) (items : Array Value) (n : Nat) (dd : Option Addr) (sl : Array (Option Value)) (u : Tok) (ne : items.isEmpty = false) :
    Meets (Builtin.«tuple.__mul__» ⟨[.ref l, .int 0 u], []⟩) (fun _ R s => s.heap.get? l = some { cls := .type "tuple", dict := dd, data := .seq items n, slots := sl } ∧
      R (.ok (.ret (Value.ref s.heap.objs.size))) { s with heap := s.heap.push { cls := Value.type "tuple", data := Data.seq #[] }, toks := s.toks }) :=
  .of_wp fun prog w A R s h => by
    obtain ⟨hp, g, d, tk, os⟩ := s
    obtain ⟨hl, h⟩ := h
    have f1 := AutoSeq1.idx_int
    have c1 : ¬ (items.isEmpty || (0 : Int) == 1) = true := by rw [ne]; decide
    have c2 : (decide ((0 : Int) ≤ 0) || items.isEmpty) = true := by simp
    wp_walk using wpAny_loadPart' hl
    repeat (first
      | (refine wpAny_ite_false (decide_eq_false c1) ?_; wp_walk using wpAny_loadPart' hl)
      | (refine wpAny_ite_true (decide_eq_true c2) ?_; wp_walk using wpAny_loadPart' hl))
    exact ⟨_, rfl, h⟩
def rRepA (K : PySem.W.Frag) : R2 := fun x y H Q => ∃ l k xs, x = .ref l ∧ y = .int k ∧ SqT K H l xs ∧ xs ≠ [] ∧ 0 ≤ k ∧ k ≤ 1000 ∧ xs.length ≤ 1000 ∧
  (k = 1 → Q (.ref l) H) ∧ (k ≠ 1 → ∀ p, H p = none → Q (.ref p) (upd H p (.tup (List.replicate k.toNat xs).flatten)))
section
variable {X : Cx}
theorem op_repA : OpR X (binaryOp .Mult) (rRepA X.K) := by
  intro pins s σ H x y v u Q I rx ry h
  obtain ⟨l, k, xs, rfl, rfl, hT, hne, h1, h2, hz, q1, q2⟩ := h
  by_cases big : 2 ≤ k
  · exact op_repT pins s σ H _ _ v u Q I rx ry ⟨l, k, xs, rfl, rfl, hT, hne, big, h2, hz, q2 (by omega)⟩
  cases rx
  obtain ⟨t, rfl⟩ := ry
  obtain ⟨its, r, ⟨⟨cls, dd, data, sl⟩, ho, hc, n, hd⟩, hs⟩ := I.tuple hT
  simp only at hc hd
  subst hc hd
  have hle : its.length = xs.length := r.length.symm
  have hi : its.toArray.isEmpty = false := by
    cases its with
    | nil => exact absurd (List.eq_nil_of_length_eq_zero hle.symm) hne
    | cons a b => rfl
  have hk : k = 0 ∨ k = 1 := by omega
  rcases hk with rfl | rfl
  · refine wpAny_binaryOp_repeat_ref (T := "tuple") (U := "int") (by decide) ⟨_, ho, rfl⟩ (fun s' => typeIs_int s' 0 t) noFill_tuple_mul F.fills_int_mul F.slot_int_rmul repeat_tuple F.slot_int_index.lookup
      (call_meets F.slot_int_rmul (typeIs_int s 0 t) F.entry_int_rmul (F.args_int_rmul_2 _ _) (int_rmul_tuple 0 t l its.toArray n dd sl)
        ⟨ho, rfl, ⟨_, ho, rfl⟩, call_meets F.slot_tuple_mul ⟨_, ho, rfl⟩ F.entry_tuple_mul (F.args_tuple_mul_2 _ _) (tuple_mul0 l its.toArray n dd sl t hi) ⟨ho, ?_⟩⟩)
    have q := q2 (by decide) _ (I.hok.fresh (Nat.le_refl _))
    refine ⟨.ref s.heap.objs.size, _, I.laid (t' := s.toks) (o := .tup (List.replicate (0 : Int).toNat xs).flatten) (fun b ob q => Heap.get?_push_of_some _ q) (Nat.le_refl _) ?_, rfl, q⟩
    exact ⟨Nat.zero_le _, [], .nil, IsTup.new _ _⟩
  · refine wpAny_binaryOp_repeat_ref (T := "tuple") (U := "int") (by decide) ⟨_, ho, rfl⟩ (fun s' => typeIs_int s' 1 t) noFill_tuple_mul F.fills_int_mul F.slot_int_rmul repeat_tuple F.slot_int_index.lookup
      (call_meets F.slot_int_rmul (typeIs_int s 1 t) F.entry_int_rmul (F.args_int_rmul_2 _ _) (int_rmul_tuple 1 t l its.toArray n dd sl)
        ⟨ho, rfl, ⟨_, ho, rfl⟩, call_meets F.slot_tuple_mul ⟨_, ho, rfl⟩ F.entry_tuple_mul (F.args_tuple_mul_2 _ _) (tuple_mul1 l its.toArray n dd sl t) ⟨ho, ?_⟩⟩)
    exact ⟨.ref l, H, I, rfl, q1 rfl⟩
end
end Gd

set_option Elab.async false
set_option linter.all false
set_option maxRecDepth 100000
set_option maxHeartbeats 4000000
/-! A tuple many times. -/
namespace Gd
open PySem PySem.Spec PyProof.Rows L2
/-- t * k, t not empty, few values in all -/
def rRepB (K : PySem.W.Frag) : R2 := fun x y H Q => ∃ l k xs, x = .ref l ∧ y = .int k ∧ SqT K H l xs ∧ xs ≠ [] ∧ 0 ≤ k ∧ k ≤ 100000 ∧ xs.length ≤ 10 ∧
  (k = 1 → Q (.ref l) H) ∧ (k ≠ 1 → ∀ p, H p = none → Q (.ref p) (upd H p (.tup (List.replicate k.toNat xs).flatten)))
section
variable {X : Cx}
theorem op_repB : OpR X (binaryOp .Mult) (rRepB X.K) := by
  intro pins s σ H x y v u Q I rx ry h
  obtain ⟨l, k, xs, rfl, rfl, hT, hne, h1, h2, hz, q1, q2⟩ := h
  by_cases few : k ≤ 1
  · exact op_repA pins s σ H _ _ v u Q I rx ry ⟨l, k, xs, rfl, rfl, hT, hne, h1, by omega, by omega, q1, q2⟩
  have two : 2 ≤ k := by omega
  have q := q2 (by omega)
  clear q1 q2
  cases rx
  obtain ⟨t, rfl⟩ := ry
  obtain ⟨its, r, ⟨⟨cls, dd, data, sl⟩, ho, hc, n, hd⟩, hs⟩ := I.tuple hT
  simp only at hc hd
  subst hc hd
  have len : its.length = xs.length := r.length.symm
  have some_ : its.toArray.isEmpty = false := by
    cases its with
    | nil => exact absurd (List.eq_nil_of_length_eq_zero len.symm) hne
    | cons a b => rfl
  have sz : its.toArray.size = xs.length := by rw [List.size_toArray, len]
  have all_ : ((its.toArray.size : Nat) : Int) * k ≤ 1000000 := by
    rw [sz]
    have a1 : ((xs.length : Nat) : Int) * k ≤ 10 * k := Int.mul_le_mul_of_nonneg_right (by omega) (by omega)
    omega
  have many : k.toNat * xs.length ≤ 100000 * 10 := Nat.mul_le_mul (by omega) hz
  have flat_ : (List.replicate k.toNat its).flatten.length ≤ sizeLine := by
    rw [PyProof.Rows.lm_len_rep_flat, len, sizeLine_eq]
    omega
  have d0 : (decide (k < -(2 ^ 63)) || decide (k ≥ 2 ^ 63)) = false := by
    rw [decide_eq_false (by omega), decide_eq_false (by omega)]
    rfl
  have d1 : (its.toArray.isEmpty || k == 1) = false := by
    rw [some_, Bool.false_or]
    exact beq_eq_false_iff_ne.mpr (by omega)
  have d2 : (decide (k ≤ 0) || its.toArray.isEmpty) = false := by
    rw [some_, Bool.or_false]
    exact decide_eq_false (by omega)
  have d4 : Builtin.Tuple.tupleTooMany (((its.toArray.size : Nat) : Int) * k) = false := by
    unfold Builtin.Tuple.tupleTooMany
    rw [sizeLine_eq]
    exact decide_eq_false (by omega)
  have met := tuple_mulW l its.toArray n dd sl k t d0 d1 d2 (by omega) d4 (by rw [size_rep, List.size_toArray]; exact flat_)
  refine wpAny_binaryOp_repeat_ref (T := "tuple") (U := "int") (by decide) ⟨_, ho, rfl⟩ (fun s' => typeIs_int s' k t) noFill_tuple_mul F.fills_int_mul F.slot_int_rmul repeat_tuple F.slot_int_index.lookup
    (call_meets F.slot_int_rmul (typeIs_int s k t) F.entry_int_rmul (F.args_int_rmul_2 _ _) (int_rmul_tuple k t l its.toArray n dd sl)
      ⟨ho, rfl, ⟨_, ho, rfl⟩, call_meets F.slot_tuple_mul ⟨_, ho, rfl⟩ F.entry_tuple_mul (F.args_tuple_mul_2 _ _) met ⟨ho, ?_⟩⟩)
  rw [size_rep]
  refine ⟨.ref s.heap.objs.size, _, I.laid (t' := s.toks) (o := .tup (List.replicate k.toNat xs).flatten) (fun b ob q => Heap.get?_push_of_some _ q) (Nat.le_refl _) ?_, rfl, q _ (I.hok.fresh (Nat.le_refl _))⟩
  exact ⟨by rw [PyProof.Rows.lm_len_rep_flat, sizeLine_eq]; omega, _, r.rep k.toNat, IsTup.new _ _⟩
end
end Gd

set_option Elab.async false
set_option linter.all false
set_option maxRecDepth 100000
set_option maxHeartbeats 4000000
/-! The first field of an exception of an own class that stands directly below a builtin one. -/
namespace GdX
open PySem PySem.Calls PyProof.Rows PySem.HandSPX Builtin Builtin.ObjectAttr
section
variable {prog : Program} {w : World} {A : Around} {R : Result → Shared → Prop} {hp : Heap} {g : Array GenState} {d : Drawn} {t : Nat} {os : OsState}
theorem osaG {B : String} {bmB : List Value} (SF : StoreFacts B bmB "object.__setattr__" "object") {K : W.Frag} {name : Str} {tk : Tok} {v : Value} {x C : Addr} {fv : Array Value} {cd : ClassData}
    (X : K.In hp) (hx : hp.get? x = some { cls := .ref C, data := .fields fv }) (hcd : W.clsIn K C = some cd)
    (hm : cd.mro = .ref C :: bmB) (hh : cd.hasDict = true) (ha : W.findIn K (.ref C) name = some none)
    (hq : ∀ h' tk' dx, (∀ b o, b ≠ x → hp.get? b = some o → h'.get? b = some o) → hp.objs.size ≤ dx → dx ≠ x →
      h'.get? x = some { cls := .ref C, dict := some dx, data := .fields fv } →
      h'.Ns1 dx (fun y => if y = name then some v else none) → R (.ok (.ret .none)) ⟨h', g, d, tk', os⟩) :
    codeAny (model prog w) A (.call (.builtin "object.__setattr__") ⟨[.ref x, .str name tk, v], []⟩) R ⟨hp, g, d, t, os⟩ := by
  have I : W.InstAt hp x { cls := .ref C, data := .fields fv } C none := ⟨hx, rfl, rfl, trivial⟩
  have ne : cd.mro.isEmpty = false := by rw [hm]; rfl
  have hob : cd.mro.contains (.type "object") = true := by
    rw [hm, List.contains_cons, SF.hasOwner, Bool.or_true]
  have hxs : x ≠ hp.objs.size := Nat.ne_of_lt (Heap.lt_size hx)
  have sub : W.Looks (model prog w) hp (isInstance (.ref x) (.type "object")) true := by
    refine I.type.andThen (W.looks_mroIn X ?_)
    unfold W.mroIn
    rw [hcd, Option.bind_some, if_neg (by rw [ne]; decide), hob]
  refine codeAny_call_builtin SF.slot.plain SF.entry (@W.check_slot (model prog w) _ _ ⟨hp, g, d, t, os⟩ "object.__setattr__" "object" "__setattr__" (.ref x) [.str name tk, v] [] _
    SF.kind SF.split sub (SF.args (.ref x) (.str name tk) v) ?_)
  have hmr : W.Looks (model prog w) hp (mroOf (.ref C)) cd.mro := (W.looks_clsIn X hcd).andThen .now
  have L3 : W.Looks (model prog w) hp (storeTaker? none) none := .now
  have hcls : W.Looks (model prog w) hp (classData C) cd := W.looks_clsIn X hcd
  rw [W.osa_eq, refuse_eq]
  refine wpAny_bind (wpAny_bind (I.type.at (wpAny_bind (hmr.at ?_))))
  rw [hm, refuseLoop_ref, SF.passes]
  refine wpAny_pure (wpAny_bind (I.type.at (wpAny_bind ((W.looks_findIn X ha).at (wpAny_bind (L3.at ?_))))))
  show wpAny _ _ (storeInOwnDict (.ref x) (.ref C) (.str name tk) name v false) _ _ _
  clear hmr hob ne sub hm
  obtain ⟨nm, bs, mro, ns, qn, hd, sn, sb, ab, col, del⟩ := cd
  have hh' : hd = true := hh
  subst hh'
  unfold storeInOwnDict ownDictForStores
  repeat (first
    | with_reducible refine store_in_new ?_ ?_
    | with_reducible refine wpAny_loadPart_at hx ?_
    | with_reducible refine hcls.at ?_
    | wp_step)
  · exact ⟨_, #[], _, (Heap.get?_update_ne _ _ _ _ hxs.symm).trans (Heap.get?_push_at rfl rfl), rfl, fun e he => absurd he (by simp), fun _ => rfl⟩
  · intro h' tk' hn' hs
    have hx₁ : (hp.push { cls := .type "dict", data := .dict #[] }).get? x = some { cls := .ref C, data := .fields fv } := Heap.get?_push_of_some _ hx
    refine hq h' tk' hp.objs.size (fun b o hb ho => ?_) (Nat.le_refl _) hxs.symm ?_ hn'
    · have far : b ≠ hp.objs.size := Nat.ne_of_lt (Heap.lt_size ho)
      exact (hs.2 b far).trans ((Heap.get?_update_ne _ _ _ _ hb).trans (Heap.get?_push_of_some _ ho))
    · exact (hs.2 x hxs).trans (Heap.get?_update_self _ hx₁ rfl)
end
end GdX

set_option Elab.async false
set_option linter.all false
set_option maxRecDepth 100000
set_option maxHeartbeats 4000000
namespace PySem
namespace XInvalidNumber
open PySem.W PySem.Calls PyProof.Rows PySem.HandSPX
/-! ### the text of __init__ -/
def iA (p1 p2 : Pos) : Arguments := { posonlyargs := [], args := [{ arg := "self", annotation := none, pos := p1 }, { arg := "value", annotation := none, pos := p2 }], vararg := none, kwonlyargs := [], kw_defaults := [], kwarg := none, defaults := [] }
def iB (q1 q2 q3 q4 : Pos) : List Stmt := [.Assign [.Attribute (.Name "self" q1) "value" q2] (.Name "value" q3) q4]
def iS : Scope := { kind := .function, names := [(PySem.Str.ofString "self", .local), (PySem.Str.ofString "value", .local)], isGenerator := false, isCoroutine := false, more := [] }
/-- what the written part says of Low, at C, and of its __init__, at fI -/
structure InvalidNumberTxt (K : Frag) (mg : Str → Option Value) (C fI : Addr) : Prop where
  gC : mg "InvalidNumber" = some (.ref C)
  cls : ∃ nm q N bs sn sub ab col dd k0 k1 k2 k3 k5, K.lookup C = some (excClassObj nm q C N bs [.type "IndexError", .type "LookupError", .type "Exception", .type "BaseException", .type "object"] true sn sub ab col dd k0 k1 k2 k3 k5 "IndexError.__new__")
  sa : findIn K (.ref C) "__setattr__" = some (some (.builtin "object.__setattr__"))
  ga : findIn K (.ref C) "__getattribute__" = some (some (.builtin "BaseException.__getattribute__"))
  gg : findIn K (.ref C) "__getattr__" = some none
  noN : findIn K (.ref C) "value" = some none
  iC : findIn K (.ref C) "__init__" = some (some (.ref fI))
  tC : typeIn K (.ref fI) = some (.type "function")
  kC : keepIn K (.ref C) = true
  exC : subIn K (.ref C) (.type "BaseException") = some true
  tyC : typeIn K (.ref C) = some (.type "type")
  hdC : hasDictIn K C = true
  te : exmOne K (.ref C) (.ref C) = some true
  fn : ∃ (oc : Value) (od : Option Addr) (doc pm : Value) (an : Option Addr) (cdv ct : Value) (osl : Array (Option Value)) (p1 p2 q1 q2 q3 q4 : Pos),
    K.lookup fI = some ⟨oc, od, .func (fnOf "__init__" "InvalidNumber.__init__" (iA p1 p2) (iB q1 q2 q3 q4) iS .none .none doc pm an cdv ct), osl⟩ ∧ codeIn K cdv "InvalidNumber.__init__" = true
theorem one_size (v : Value) : [v].length ≤ sizeLine := by
  rw [sizeLine_eq]
  exact (by decide : 1 ≤ 16777216)
theorem kept_but {K : Frag} {h h' : Heap} {x : Addr} (X : K.In h) (hx : K.lookup x = none) (k : ∀ b o, b ≠ x → h.get? b = some o → h'.get? b = some o) : K.In h' := fun a o e =>
  k a o (fun z => by rw [z, hx] at e; cases e) (X a o e)
theorem ldC {M : Model} {s : Shared} {name : Str} {scope : Scope} {L a : Addr} {cd : Value} {m : Str → Option Value} {x : Str} {pos : Pos} {v : Value} {Q : Value → Shared → Prop} {A : Around} {E : Value → Shared → Prop} (hn : s.heap.Ns L m) (hv : m x = some v) (h : Q v s)
    (hk : scope.kind = .function := by rfl) (hl : (envOfC name scope L a cd).kindOf x = some .local := by rfl) (hd : (x == ("__debug__" : Str)) = false := by decide) :
    wpAny M A (eval (.Name x pos) (envOfC name scope L a cd)) Q E s := wpAny_Name (wpAny_loadName_local hk hl hn hv h) hd
/-- what __init__ leaves of a fresh exception at x -/
structure InitEnd (h h' : Heap) (x C dx t1 : Addr) (v : Value) : Prop where
  keep : ∀ b o, b ≠ x → h.get? b = some o → h'.get? b = some o
  obj : h'.get? x = some { cls := .ref C, dict := some dx, data := .fields #[.ref t1, .none, .none, .none, .bool false, .none] }
  dbig : h.objs.size ≤ dx
  dne : dx ≠ x
  ns : h'.Ns1 dx (fun y => if y = "value" then some v else none)
/-- a made Low -/
structure OwnMade (h h' : Heap) (e C d : Addr) (v : Value) : Prop where
  keep : ∀ b o, h.get? b = some o → h'.get? b = some o
  new : h.objs.size ≤ e
  obj : ∃ oe vs, h'.get? e = some oe ∧ oe.cls = .ref C ∧ oe.dict = some d ∧ oe.data = .fields vs ∧ vs[1]? = some .none
  dbig : h.objs.size ≤ d
  dne : d ≠ e
  ns : h'.Ns1 d (fun y => if y = "value" then some v else none)
section
variable {prog : Program} {w : World} {A : Around} {E : Value → Shared → Prop} {R : Result → Shared → Prop} {s : Shared} {K : Frag} {mg : Str → Option Value} {C fI : Addr}
theorem low_init (T : InvalidNumberTxt K mg C fI) {x t0 : Addr} {v : Value} (X : K.In s.heap) (hlim : s.heap.NoLimit) (hx : s.heap.get? x = some (excO C t0)) (hnx : K.lookup x = none) (hroom : A.depth < recursionLimit)
    (hq : ∀ h' tk dx, InitEnd s.heap h' x C dx t0 v → R (.ok (.ret .none)) { s with heap := h', toks := tk }) :
    codeAny (model prog w) A (.call (.ref fI) ⟨[.ref x, v], []⟩) R s := by
  obtain ⟨oc, od, doc, pm, an, cdv, ct, osl, p1, p2, q1, q2, q3, q4, ho, hcd⟩ := T.fn
  obtain ⟨nm, q, N, bs, sn, sub, ab, col, dd, k0, k1, k2, k3, k5, hC⟩ := T.cls
  have hcl : clsIn K C = some { name := nm, bases := bs, mro := .ref C :: [.type "IndexError", .type "LookupError", .type "Exception", .type "BaseException", .type "object"], ns := N, qualname := q, hasDict := true, slotNames := sn, subclasses := sub, abstract := ab, collection := col, hasDel := false } := by unfold clsIn; rw [hC] <;> rfl
  refine Att.call_fn (binds := [("self", .ref x), ("value", v)]) X hlim ho hcd hroom (BindsTo.of_eq (by first | rfl | with_unfolding_all rfl)) (by first | rfl | decide | with_unfolding_all rfl) (fun s₁ IC => ?_) rfl rfl rfl
  obtain ⟨h₁, tk₁, rfl⟩ := IC.toInCall.same
  have k : ∀ b o, s.heap.get? b = some o → h₁.get? b = some o := IC.toInCall.keep
  have hn := IC.toInCall.ns
  have hxL : s.heap.objs.size ≠ x := Nat.ne_of_gt (Heap.lt_size hx)
  have X₁ : K.In h₁ := X.keeps k
  have hx₁ := k _ _ hx
  -- self.by = by
  show wpAny _ _ (execs _ _) _ _ _
  refine wpAny_execs_cons (plainObj_wpAny_Assign_Attribute ?_)
  refine ldC (v := v) hn (by first | rfl | with_unfolding_all rfl | kernel_rfl) (ldC (v := .ref x) hn (by first | rfl | with_unfolding_all rfl | kernel_rfl) ?_)
  refine set_plain X₁ (ox := excO C t0) (od := none) ⟨hx₁, rfl, rfl, trivial⟩ T.sa ?_
  refine GdX.osaG F.store_IndexError X₁ hx₁ hcl rfl rfl T.noN (fun h₃ tk₃ dx k₃ dn dne hx₃ hn₃ => ?_)
  show wpAny _ _ (execs _ _) _ _ _
  have z : s.heap.objs.size < h₁.objs.size := hn.lt
  exact wpAny_execs_nil (hq h₃ tk₃ dx ⟨fun b o hb e => k₃ b o hb (k b o e), hx₃, Nat.le_of_lt (Nat.lt_of_lt_of_le z dn), dne, hn₃⟩)
theorem low_made (T : InvalidNumberTxt K mg C fI) {v : Value} (X : K.In s.heap) (hlim : s.heap.NoLimit) (hroom : A.depth + 1 < recursionLimit)
    (hq : ∀ h' tk e d, OwnMade s.heap h' e C d v → R (.ok (.ret (.ref e))) { s with heap := h', toks := tk }) :
    codeAny (model prog w) A (.call (.ref C) ⟨[v], []⟩) R s := by
  obtain ⟨nm, q, N, bs, sn, sub, ab, col, dd, k0, k1, k2, k3, k5, hC⟩ := T.cls
  obtain ⟨hp, g, dr, tk, os⟩ := s
  have k : ∀ b o, hp.get? b = some o → ((hp.push (kdv_tup [v])).push (excO C hp.objs.size)).get? b = some o := fun b o e => Heap.get?_push_of_some _ (Heap.get?_push_of_some _ e)
  have hget : ((hp.push (kdv_tup [v])).push (excO C hp.objs.size)).get? (hp.objs.size + 1) = some (excO C hp.objs.size) := by heap_get
  have hnx : K.lookup (hp.objs.size + 1) = none := by
    cases e : K.lookup (hp.objs.size + 1) with
    | none => rfl
    | some o =>
      have z : hp.get? (hp.objs.size + 1) = some o := X _ _ e
      exact absurd (Nat.lt_of_succ_lt (Heap.lt_size z)) (Nat.lt_irrefl _)
  refine call_own F.excBase_IndexError (fun _ => rfl) (X _ _ hC) (looks_findIn X T.iC) (fun self => bind_fn X self T.tC) (one_size v) ?_
  refine low_init (s := ⟨(hp.push (kdv_tup [v])).push (excO C hp.objs.size), g, dr, tk, os⟩) T (X.keeps k) (hlim.keeps k) hget hnx ?_ fun h' tk' dx ⟨k', hx, dn, dne, hns⟩ => ?_
  · show A.depth + 1 < recursionLimit
    exact hroom
  · have old : ∀ b o, hp.get? b = some o → h'.get? b = some o := fun b o e => k' b o (Nat.ne_of_lt (Nat.lt_succ_of_lt (Heap.lt_size e))) (k b o e)
    have z : hp.objs.size + 1 + 1 ≤ dx := by
      first
        | (simpa only [Heap.size_push] using dn)
        | exact dn
        | (have q := dn; rw [Heap.size_push, Heap.size_push] at q; exact q)
    exact ⟨rfl, hq h' tk' (hp.objs.size + 1) dx ⟨old, Nat.le_succ _, ⟨_, _, hx, rfl, rfl, rfl, rfl⟩, Nat.le_trans (Nat.le_trans (Nat.le_succ _) (Nat.le_succ _)) z, dne, hns⟩⟩
end
end XInvalidNumber
end PySem
namespace L2
open PySem PySem.Spec PyProof.Rows
theorem relO_InvalidNumber {v : V} {v' : Value} (r : RelV v v') (f : Str) : RelO (List.lookup f [(("value" : Str), v)]) (if f = "value" then some v' else none) := by
  by_cases hw : f = "value"
  · subst hw
    rw [if_pos rfl]
    have q : List.lookup ("value" : Str) [(("value" : Str), v)] = some v := by simp [List.lookup]
    rw [q]
    exact r
  · rw [if_neg hw]
    have qw : (f == ("value" : Str)) = false := by simpa using hw
    have q2 : List.lookup f [(("value" : Str), v)] = none := by simp [List.lookup, qw]
    rw [q2]
    trivial
section
variable {X : Cx} {C fI : Addr}
/-- Low(e) -/
def tMkInvalidNumber (C : Addr) (ta : TA) : St → Hp → XK → Prop := fun σ H Q => ta σ H fun vs H1 => ∃ v, vs = [v] ∧ ∀ d, H1 d = none → Q (.ref C) (some d) (upd H1 d (.xd [(("value" : Str), v)]))
theorem pmk_InvalidNumber {a : Expr} {ta : TA} {p pos : Pos} {k : Nat} (T : PySem.XInvalidNumber.InvalidNumberTxt X.K X.mg C fI) (hr : Room k X.A) (ha : PA X [a] ta) (hg : Gl X "InvalidNumber" := by rfl)
    (he : starEach (a :: []) X.env = (false, eval a X.env) :: starEach [] X.env := by rfl) (hpl : (backTo pos (starEach [] X.env)).any (·.1) = false := by rfl) :
    PMk X (.Call (.Name "InvalidNumber" p) [a] [] pos) (tMkInvalidNumber C ta) := by
  intro pins s σ H Q I h
  refine wpAny_Call_Name_kw (ld_glob I hg T.gC ?_)
  refine PySem.W.callWith_K (h₀ := X.base) I.ok.mod.kin T.kC (thn (ha.run pos pins s σ H _ I h) fun us s1 hh => ?_) he hpl
  obtain ⟨vs, H1, I1, r1, v, ev, q1⟩ := hh
  subst ev
  refine ⟨I1.kIn, ?_⟩
  cases r1 with
  | cons rv rn =>
    rename_i v' us'
    cases rn
    show wpAny _ _ (call (.ref C) [v']) _ _ _
    have hlim := I1.nolimit
    obtain ⟨hp, g, dr, tk, os⟩ := s1
    refine wpAny_call (PySem.XInvalidNumber.low_made T I1.kIn hlim (by have := hr.dp; omega) fun h' tk' e d M => ?_)
    show MkP X pins σ Q (.ref e) ⟨h', g, dr, tk', os⟩
    obtain ⟨oe, fv, hoe, hc, hd, hdat, h1⟩ := M.obj
    have hns := M.ns
    obtain ⟨G', g1, g2⟩ := restrict h' fun b => decide (b ≠ e)
    have gk : ∀ b, b ≠ e → G'.get? b = h'.get? b := fun b hb => g1 b (decide_eq_true hb)
    have ge : G'.get? e = none := g2 e (by simp)
    have old : ∀ b o, hp.get? b = some o → G'.get? b = some o := fun b o q => (gk b (Nat.ne_of_lt (Nat.lt_of_lt_of_le (Heap.lt_size q) M.new))).trans (M.keep b o q)
    have ob : ObjOk X.prog X.w (upd H1 d (.xd [(("value" : Str), v)])) G' d (.xd [(("value" : Str), v)]) :=
      ⟨_, hns.at (fun o q => (gk d M.dne).trans q), fun f => relO_InvalidNumber rv f⟩
    have J : Inv X pins σ (upd H1 d (.xd [(("value" : Str), v)])) ⟨G', g, dr, tk', os⟩ := I1.laid (t' := tk') old M.dbig ob
    refine ⟨e, oe, fv, ⟨G', g, dr, tk', os⟩, _, .ref C, some d, rfl, J, fun b o q => ?_, ge, hoe, ⟨hc, hd⟩, hdat, h1, ?_, rfl, I1.bare, raises_own T.exC T.tyC, q1 d (I1.hok.fresh M.dbig)⟩
    · by_cases hb : b = e
      · have q' : G'.get? b = some o := q
        rw [hb, ge] at q'; cases q'
      · exact (gk b hb).symm.trans q
    · rw [upd_ne (Ne.symm M.dne)]
      exact I1.hok.fresh M.new
/-- raise Low(e) -/
def tRaiseInvalidNumber (C : Addr) (W : WX) (ta : TA) : TS := fun _ σ H => tMkInvalidNumber C ta σ H fun cls d H' => W cls d σ H'
theorem ps_raiseInvalidNumber {a : Expr} {ta : TA} {W : WX} {p pos pos2 : Pos} {k : Nat} (hc : X.calm = true) (T : PySem.XInvalidNumber.InvalidNumberTxt X.K X.mg C fI) (hr : Room k X.A) (tk : Takes X W) (ha : PA X [a] ta) (hg : Gl X "InvalidNumber" := by rfl)
    (he : starEach (a :: []) X.env = (false, eval a X.env) :: starEach [] X.env := by rfl) (hpl : (backTo pos (starEach [] X.env)).any (·.1) = false := by rfl) :
    PS X (.Raise (some (.Call (.Name "InvalidNumber" p) [a] [] pos)) none pos2) (tRaiseInvalidNumber C W ta) := ps_raise hc tk (pmk_InvalidNumber T hr ha hg he hpl)
/-- low.by, low the exception that the suite holds (at a; its class cls, its dict d) -/
def tByInvalidNumber (C : Addr) (a : Addr) (cls : Value) (d : Option Addr) (te : TE) : TE := fun σ H Q => te σ H fun x H1 => x = .ref a ∧ cls = .ref C ∧ ∃ (dd : Addr) (v : V), d = some dd ∧ H1 dd = some (.xd [(("value" : Str), v)]) ∧ Q v H1
theorem pe_byInvalidNumber {a : Addr} {oe : Obj} {cls : Value} {d : Option Addr} {pn : List (Addr × Obj)} {e : Expr} {te : TE} {pos : Pos} (T : PySem.XInvalidNumber.InvalidNumberTxt X.K X.mg C fI) (hz : Zc cls d oe) (hf : ∃ vs, oe.data = .fields vs) (he : PE (X.suite a ((a, oe) :: pn)) e te)
    (hb : attributeBase e "value" X.env (eval e X.env) = eval e X.env := by rfl) :
    PE (X.suite a ((a, oe) :: pn)) (.Attribute e "value" pos) (tByInvalidNumber C a cls d te) := by
  refine ⟨fun pins s σ H Q I h => ?_⟩
  refine attr_of hb (thn (he.run pins s σ H _ I h) fun u s1 hh => ?_)
  obtain ⟨x, H1, I1, rx, ex, ec, dd, v, ed, ea, q⟩ := hh
  subst ex
  obtain rfl : u = Value.ref a := rx
  subst ec
  subst ed
  obtain ⟨ha, _⟩ := I1.pin (a, oe) (List.mem_append_left _ List.mem_cons_self)
  obtain ⟨vs, hd⟩ := hf
  have hx : ObjOk X.prog X.w H1 s1.heap dd (.xd [(("value" : Str), v)]) := I1.hok dd _ ea
  obtain ⟨mA, hns, hr⟩ := hx
  obtain ⟨od, ho, hl⟩ := lookIn_ns hns
  have l : List.lookup ("value" : Str) [(("value" : Str), v)] = some v := by simp [List.lookup]
  obtain ⟨u, hu, ru⟩ := RelO.some_of (v := v) (o := mA "value") (by rw [← l]; exact hr "value")
  have J : PySem.W.InstAt s1.heap a oe C (some od) := ⟨ha, hz.1, by unfold PySem.W.notCls; rw [hd] <;> rfl, by rw [hz.2]; exact ho⟩
  exact HandSPX.exc_get I1.kIn J T.ga T.gg T.exC (PySem.W.findObj_own T.hdC T.noN rfl (by rw [hl, hu])) (handed_of ru) ⟨v, H1, I1.tok _, ru, q⟩
end
end L2

set_option Elab.async false
set_option linter.all false
set_option maxRecDepth 100000
set_option maxHeartbeats 4000000
/-! zip of three sequences, each a list or a tuple. -/
namespace Gd
open PySem PySem.Spec PyProof.Rows L2
/-- all three walked together: at each turn a new triple -/
def ItzF (K : PySem.W.Frag) (l1 l2 l3 : Bool) (a b c : Addr) : It where
  go := fun i H => ∃ (xs ys zs : List V) (x y z : V), SqE K l1 H a xs ∧ SqE K l2 H b ys ∧ SqE K l3 H c zs ∧ xs[i]? = some x ∧ ys[i]? = some y ∧ zs[i]? = some z
  yld := fun i H v H' => ∃ T x y z, v = .ref T ∧ H T = none ∧ H' = upd H T (.tup [x, y, z]) ∧ (∀ xs, SqE K l1 H a xs → xs[i]? = some x) ∧ (∀ ys, SqE K l2 H b ys → ys[i]? = some y) ∧ ∀ zs, SqE K l3 H c zs → zs[i]? = some z
  stop := fun i H => ∃ xs ys zs : List V, SqE K l1 H a xs ∧ SqE K l2 H b ys ∧ SqE K l3 H c zs ∧ i = min xs.length (min ys.length zs.length)
theorem turn_zipF {P : Program} {w : World} {K : PySem.W.Frag} {elts : List Expr} {kk : Nat} {tpos : Pos} {l1 l2 l3 : Bool} {a b c z TI TO i1 i2 i3 : Addr} (S : ZipSep3 z TI TO i1 i2 i3 [i1, a] [i2, b] [i3, c]) :
    Turn P w K (.Tuple elts kk tpos) (ItzF K l1 l2 l3 a b c) [z, TI, TO, i1, i2, i3] z (fun i h => IsZip h z TI TO .none ∧ IsTupOf3 h TI (.ref i1) (.ref i2) (.ref i3) ∧ (∃ x y u, IsTupOf3 h TO x y u) ∧ ItE l1 h i1 a i ∧ ItE l2 h i2 b i ∧ ItE l3 h i3 c i) where
  mem := List.mem_cons_self
  obj := by
    rintro i h ⟨hz, hTI, ⟨x, y, u, hTO⟩, h1, h2, h3⟩ d hc
    simp only [List.mem_cons, List.not_mem_nil, or_false] at hc
    rcases hc with rfl | rfl | rfl | rfl | rfl | rfl
    · exact ⟨_, hz, fun v q => nomatch q⟩
    · exact ⟨_, hTI, fun v q => nomatch q⟩
    · exact ⟨_, hTO, fun v q => nomatch q⟩
    · exact h1.there
    · exact h2.there
    · exact h3.there
  keep := by
    rintro i h h' ⟨hz, hTI, ⟨x, y, u, hTO⟩, h1, h2, h3⟩ k
    exact ⟨k _ (by simp) _ hz, k _ (by simp) _ hTI, ⟨x, y, u, k _ (by simp) _ hTO⟩, h1.at fun o q => k _ (by simp) o q, h2.at fun o q => k _ (by simp) o q, h3.at fun o q => k _ (by simp) o q⟩
  item := by
    intro X hP hw hK hc i pins s σ H E I hf st hg
    subst hP hw hK
    obtain ⟨hz, hTI, ⟨x0, y0, u0, hTO⟩, h1, h2, h3⟩ := st
    obtain ⟨xs, ys, ws, x, y, e, hqx, hqy, hqz, hx, hy, he⟩ := hg
    obtain ⟨its, rv, p⟩ := seqE I hqx
    obtain ⟨its2, rv2, p2⟩ := seqE I hqy
    obtain ⟨its3, rv3, p3⟩ := seqE I hqz
    obtain ⟨u, hu, ru⟩ := rv.get hx
    obtain ⟨u2, hu2, ru2⟩ := rv2.get hy
    obtain ⟨u3, hu3, ru3⟩ := rv3.get he
    have hd : X.A.in1.handled = none := I.ok.hd hc
    have zl : z < s.heap.objs.size := Heap.lt_size hz
    refine wpAny_pyNext_zipD3_item S (drawsE hd (h1.apart p)) (drawsE hd (h2.apart p2)) (drawsE hd (h3.apart p3)) hz hTI hTO ⟨h1, p⟩ ⟨h2, p2⟩ ⟨h3, p3⟩ (lt_of_get hu) (lt_of_get hu2) (lt_of_get hu3) fun v1 v2 v3 g3 tk e1 e2 e3 z3 TO3 s1 s2 s3 hT hsz hk => ?_
    obtain rfl : v1 = u := by
      rw [List.getElem?_toArray, hu] at e1
      exact (Option.some.inj e1).symm
    obtain rfl : v2 = u2 := by
      rw [List.getElem?_toArray, hu2] at e2
      exact (Option.some.inj e2).symm
    obtain rfl : v3 = u3 := by
      rw [List.getElem?_toArray, hu3] at e3
      exact (Option.some.inj e3).symm
    refine ⟨_, rfl, wpAny_letOwnedTupleGo_zip (s := { s with heap := g3, toks := tk }) z3 fun h4 z4 sb => ?_⟩
    have hT4 : h4.get? s.heap.objs.size = some { cls := .type "tuple", data := .seq #[v1, v2, v3] } := (sb.2 _ (Nat.ne_of_gt zl)).trans hT
    have new : ObjOk X.prog X.w (upd H s.heap.objs.size (.tup [x, y, e])) h4 s.heap.objs.size (.tup [x, y, e]) := ⟨by show 3 ≤ sizeLine; decide, [v1, v2, v3], .cons ru (.cons ru2 (.cons ru3 .nil)), ⟨_, hT4, rfl, _, rfl⟩⟩
    have kp : ∀ c o, c ∉ [z, TI, TO, i1, i2, i3] → s.heap.get? c = some o → h4.get? c = some o := fun c o hb q => by
      simp only [List.mem_cons, List.not_mem_nil, or_false, not_or] at hb
      exact (sb.2 c hb.1).trans (hk c o hb.1 hb.2.2.1 hb.2.2.2.1 hb.2.2.2.2.1 hb.2.2.2.2.2 q)
    have J : Inv X pins σ (upd H s.heap.objs.size (.tup [x, y, e])) { s with heap := h4, toks := tk } := I.turnedNew (t' := tk) kp hf (Nat.le_refl _) new
    refine ⟨.ref s.heap.objs.size, _, J, rfl, ⟨_, x, y, e, rfl, I.hok.fresh (Nat.le_refl _), rfl, fun m hm => ?_, fun m hm => ?_, fun m hm => ?_⟩, ⟨z4, ?_, ⟨v1, v2, v3, ?_⟩, ?_, ?_, ?_⟩, fun c hcm => ?_⟩
    · rw [injE I hm hqx]
      exact hx
    · rw [injE I hm hqy]
      exact hy
    · rw [injE I hm hqz]
      exact he
    · exact (sb.2 _ S.TIz).trans (hk _ _ S.TIz S.TITO S.TIi1 S.TIi2 S.TIi3 hTI)
    · exact (sb.2 _ S.TOz).trans TO3
    · exact s1.1.at fun o q => (sb.2 _ S.zi1.symm).trans q
    · exact s2.1.at fun o q => (sb.2 _ S.zi2.symm).trans q
    · exact s3.1.at fun o q => (sb.2 _ S.zi3.symm).trans q
    · have lt : c < s.heap.objs.size := by
        obtain ⟨_, g1, _⟩ := h1.there
        obtain ⟨_, g2, _⟩ := h2.there
        obtain ⟨_, g3, _⟩ := h3.there
        have hm := hcm
        simp only [List.mem_cons, List.not_mem_nil, or_false] at hm
        rcases hm with rfl | rfl | rfl | rfl | rfl | rfl
        · exact zl
        · exact Heap.lt_size hTI
        · exact Heap.lt_size hTO
        · exact Heap.lt_size g1
        · exact Heap.lt_size g2
        · exact Heap.lt_size g3
      rw [upd_ne (Nat.ne_of_lt lt)]
      exact (hf c hcm).1
  done := by
    intro X hP hw hK hc i pins s σ H E I hf st hg
    subst hP hw hK
    obtain ⟨hz, hTI, ⟨x0, y0, u0, hTO⟩, h1, h2, h3⟩ := st
    obtain ⟨xs, ys, ws, hqx, hqy, hqz, hend⟩ := hg
    obtain ⟨its, rv, p⟩ := seqE I hqx
    obtain ⟨its2, rv2, p2⟩ := seqE I hqy
    obtain ⟨its3, rv3, p3⟩ := seqE I hqz
    have n1 : its.toArray.size = xs.length := by rw [List.size_toArray, rv.length]
    have n2 : its2.toArray.size = ys.length := by rw [List.size_toArray, rv2.length]
    have n3 : its3.toArray.size = ws.length := by rw [List.size_toArray, rv3.length]
    have hd : X.A.in1.handled = none := I.ok.hd hc
    refine wpAny_pyNext_zipD3_end S (drawsE hd (h1.apart p)) (drawsE hd (h2.apart p2)) (drawsE hd (h3.apart p3)) hz hTI hTO ⟨h1, p⟩ ⟨h2, p2⟩ ⟨h3, p3⟩ (by omega) (by omega) (by omega) (by omega) fun g3 tk hk => ⟨rfl, I.turnedL (t' := tk) (fun c o hb q => ?_) hf⟩
    simp only [List.mem_cons, List.not_mem_nil, or_false, not_or] at hb
    exact hk c o hb.1 hb.2.2.1 hb.2.2.2.1 hb.2.2.2.2.1 hb.2.2.2.2.2 q
  self := fun A i s Q E st h => wpAny_pyIter_zip st.1 h
theorem vals_three {x y z : V} {us : List Value} (h : Vals [x, y, z] us) : ∃ u v w, us = [u, v, w] ∧ RelV x u ∧ RelV y v ∧ RelV z w := by
  cases h with
  | cons h1 t =>
    cases t with
    | cons h2 t =>
      cases t with
      | cons h3 t =>
        cases t
        exact ⟨_, _, _, rfl, h1, h2, h3⟩
def iZipF (K : PySem.W.Frag) (ta : TA) : TI := fun σ H R => ta σ H fun vs H1 => ∃ l1 l2 l3 a b c xs ys zs, vs = [.ref a, .ref b, .ref c] ∧ SqE K l1 H1 a xs ∧ SqE K l2 H1 b ys ∧ SqE K l3 H1 c zs ∧ R (ItzF K l1 l2 l3 a b c) H1
theorem call_of_zipF {X : Cx} {elts : List Expr} {kk : Nat} {tpos : Pos} {pins : List (Addr × Obj)} {σ : L2.St} {H : Hp} {s : Shared} {R : It → Hp → Prop} {l1 l2 l3 : Bool} {a b c : Addr} {i1 i2 i3 : Array Value} (I : Inv X pins σ H s)
    (p1 : HpE l1 s.heap a i1) (p2 : HpE l2 s.heap b i2) (p3 : HpE l3 s.heap c i3) (q : R (ItzF X.K l1 l2 l3 a b c) H) :
    wpAny (model X.prog X.w) X.A (call (.type "zip") [.ref a, .ref b, .ref c]) (fun v s2 => wpAny (model X.prog X.w) X.A (pyIter v) (PIE X pins σ (.Tuple elts kk tpos) R) X.xe s2) X.xe s := by
  refine zip_begins3 beginsE beginsE beginsE p1 p2 p3 fun h1 hz hTI hTO g1 g2 g3 _ hk => wpAny_pyIter_zip hz ?_
  have sep : ZipSep3 (s.heap.objs.size + 5) (s.heap.objs.size + 3) (s.heap.objs.size + 4) s.heap.objs.size (s.heap.objs.size + 1) (s.heap.objs.size + 2) [s.heap.objs.size, a] [s.heap.objs.size + 1, b] [s.heap.objs.size + 2, c] :=
    zip_sep3 (fun c hc => by rw [List.mem_singleton.mp hc]; exact p1.lt) (fun c hc => by rw [List.mem_singleton.mp hc]; exact p2.lt) (fun c hc => by rw [List.mem_singleton.mp hc]; exact p3.lt)
  refine ⟨s.heap.objs.size + 5, [s.heap.objs.size + 5, s.heap.objs.size + 3, s.heap.objs.size + 4, s.heap.objs.size, s.heap.objs.size + 1, s.heap.objs.size + 2], _, _, H, rfl, I.kept (t' := s.toks) hk, turn_zipF sep, ⟨hz, hTI, ⟨_, _, _, hTO⟩, .new g1, .new g2, .new g3⟩, fun c hc => ?_, q⟩
  have le : s.heap.objs.size ≤ c := by
    simp only [List.mem_cons, List.not_mem_nil, or_false] at hc
    rcases hc with rfl | rfl | rfl | rfl | rfl | rfl
    all_goals first | exact Nat.le_refl _ | exact Nat.le_add_right _ _
  exact I.fpOk le (I.hok.fresh le)
theorem pi_zipF {X : Cx} {e e2 e3 : Expr} {ta : TA} {p pos tpos : Pos} {elts : List Expr} {kk : Nat} (hg : Gl X "zip") (hm : X.mg "zip" = none) (ha : PA X [e, e2, e3] ta)
    (hs : starEach [e, e2, e3] X.env = (false, eval e X.env) :: starEach [e2, e3] X.env := by rfl) (hpl : (backTo pos (starEach [e2, e3] X.env)).any (·.1) = false := by rfl) :
    PI X (.Tuple elts kk tpos) (.Call (.Name "zip" p) [e, e2, e3] [] pos) (iZipF X.K ta) := by
  constructor
  intro pins s σ H R I h
  refine Call_ (ld_blt I hg hm PyProof.Rows.boot_zip (PyProof.Rows.callWith_type1 (thn (ha.run pos pins s σ H _ I h) fun us s1 q0 => ?_) hs hpl))
  obtain ⟨vs, H1, I1, r1, l1, l2, l3, a, b, c, xs, ys, zs, ex, hx, hy, hz, q⟩ := q0
  subst ex
  obtain ⟨u1, u2, u3, rfl, r1, r2, r3⟩ := vals_three r1
  cases r1
  cases r2
  cases r3
  obtain ⟨i1, _, p1⟩ := seqE I1 hx
  obtain ⟨i2, _, p2⟩ := seqE I1 hy
  obtain ⟨i3, _, p3⟩ := seqE I1 hz
  exact call_of_zipF I1 p1 p2 p3 q
/-- a new triple of the i-th ones -/
def YTri (xs ys zs : Nat → Option V) : Nat → Hp → V → Hp → Prop := fun i H v H' => ∃ T x y z, v = .ref T ∧ H T = none ∧ H' = upd H T (.tup [x, y, z]) ∧ xs i = some x ∧ ys i = some y ∧ zs i = some z
theorem walk_zipF {K : PySem.W.Frag} {l1 l2 l3 : Bool} {a b c : Addr} {xs ys zs : List V} {n : Nat} (hn : n = min xs.length (min ys.length zs.length)) :
    Walk (ItzF K l1 l2 l3 a b c) n (fun H => SqE K l1 H a xs ∧ SqE K l2 H b ys ∧ SqE K l3 H c zs) (YTri (fun i => xs[i]?) (fun i => ys[i]?) (fun i => zs[i]?)) where
  goes := fun i H hi q => by
    have h1 : i < xs.length := by omega
    have h2 : i < ys.length := by omega
    have h3 : i < zs.length := by omega
    exact ⟨xs, ys, zs, xs[i], ys[i], zs[i], q.1, q.2.1, q.2.2, List.getElem?_eq_getElem h1, List.getElem?_eq_getElem h2, List.getElem?_eq_getElem h3⟩
  stops := fun H q => ⟨xs, ys, zs, q.1, q.2.1, q.2.2, hn⟩
  yields := by
    rintro i H v H' _ q ⟨T, x, y, z, h1, h2, h3, h4, h5, h6⟩
    exact ⟨T, x, y, z, h1, h2, h3, h4 xs q.1, h5 ys q.2.1, h6 zs q.2.2⟩
end Gd

set_option Elab.async false
set_option linter.all false
set_option maxRecDepth 100000
set_option maxHeartbeats 4000000
/-! dict(list of pairs) with tuples of integers and texts as keys. -/
namespace Gd
open PySem PySem.Spec PyProof.Rows L2
section
variable {X : Cx}
/-- what is stored, one behind the other -/
def stoAll (kvs : List (List Key × V)) (qs : List (List Key × Addr × V)) : List (List Key × V) := qs.foldl (fun acc q => putK acc q.1 q.2.2) kvs
theorem pairsT_of {pins : List (Addr × Obj)} {σ : L2.St} {H : Hp} {s : Shared} (I : Inv X pins σ H s) : ∀ {ps : List Addr} {qs : List (List Key × Addr × V)},
    Paired (fun p (q : List Key × Addr × V) => SqT X.K H p [.ref q.2.1, q.2.2] ∧ H q.2.1 = some (.tup (q.1.map kV))) ps qs →
    ∃ prs : List (List Key × Addr × Value), prs.length = ps.length ∧ (∀ (j : Nat) (q : List Key × Addr × Value), prs[j]? = some q → ∃ b : Addr, ps[j]? = some b ∧ IsTup s.heap b #[.ref q.2.1, q.2.2] ∧ H q.2.1 = some (.tup (q.1.map kV))) ∧
      ∀ acc xs, KT H acc xs → KT H (stoAll acc qs) (storedAllH xs prs)
  | _, _, .nil => ⟨[], rfl, fun j q e => by simp at e, fun _ _ h => h⟩
  | _, _, .cons (a := p) (b := q) h t => by
    obtain ⟨prs, hl, hp, hf⟩ := pairsT_of I t
    obtain ⟨its, rv, ht, _⟩ := I.tuple h.1
    obtain ⟨u, y, ei, ru, ry⟩ := vals2 rv
    subst ei
    cases ru
    refine ⟨(q.1, q.2.1, y) :: prs, by rw [List.length_cons, List.length_cons, hl], fun j r e => ?_, fun acc xs r => hf _ _ (KT.put r q.1 h.2 ry)⟩
    cases j with
    | zero =>
      have e' : (q.1, q.2.1, y) = r := Option.some.inj e
      subst e'
      exact ⟨p, rfl, ht, h.2⟩
    | succ j =>
      obtain ⟨b, e1, e2, e3⟩ := hp j r (by simpa using e)
      exact ⟨b, by simpa using e1, e2, e3⟩
theorem length_stoAll : ∀ (qs : List (List Key × Addr × V)) (kvs : List (List Key × V)), (stoAll kvs qs).length ≤ kvs.length + qs.length
  | [], kvs => Nat.le_refl _
  | q :: qs, kvs => by
    have h1 := length_stoAll qs (putK kvs q.1 q.2.2)
    have h2 := length_putK kvs q.1 q.2.2
    rw [List.length_cons]
    show (stoAll (putK kvs q.1 q.2.2) qs).length ≤ _
    omega
def rDictPT (K : PySem.W.Frag) : List V → Hp → VK → Prop := fun xs H Q => ∃ (a : Addr) (ps : List Addr) (qs : List (List Key × Addr × V)), xs = [.ref a] ∧ SqL K H a (ps.map V.ref) ∧
  Paired (fun p (q : List Key × Addr × V) => SqT K H p [.ref q.2.1, q.2.2] ∧ H q.2.1 = some (.tup (q.1.map kV))) ps qs ∧ ∀ p, H p = none → Q (.ref p) (upd H p (.dT (stoAll [] qs)))
theorem paired_len {α β : Type} {F : α → β → Prop} : ∀ {a : List α} {b : List β}, Paired F a b → a.length = b.length
  | _, _, .nil => rfl
  | _, _, .cons _ t => by rw [List.length_cons, List.length_cons, paired_len t]
theorem call_dictPT (hcalm : X.calm = true) (hu : X.A.units + 66 < cLine) : CallR X (.type "dict") (rDictPT X.K) := by
  intro pins s σ H xs us Q I r q
  obtain ⟨a, ps, qs, ex, hq, hp, q⟩ := q
  subst ex
  obtain ⟨u, eu, rx⟩ := vals1 r
  subst eu
  cases rx
  obtain ⟨its, rv, pl, hz⟩ := I.list hq
  have ei := refs_at rv
  subst ei
  rw [List.length_map] at hz
  obtain ⟨prs, hl, hpr, hf⟩ := pairsT_of I hp
  have hlq := paired_len hp
  refine call_dict_pairsH (knd := tupleKind (mixKind X.prog X.w)) (ps := prs) (n := prs.length) (PairArg.list a ((ps.map Value.ref).toArray) (fun j => (ps.getD j 0)) (prs.map fun q => (Value.ref q.2.1, q.2.2)) |> fun P => by rw [List.length_map] at P; exact P) (I.ok.hd hcalm) ?_ ?_ ?_ ?_ ?_ ?_
  · show X.A.units + 2 < cLine
    omega
  · refine ⟨pl, by simp [hl], fun j k v hj => ?_⟩
    rw [List.getElem?_map] at hj
    cases e : prs[j]? with
    | none => rw [e] at hj; cases hj
    | some q' =>
      rw [e] at hj
      obtain ⟨b, e1, e2, e3⟩ := hpr j q' e
      cases hj
      refine ⟨?_, ?_⟩
      · simp [e1]
      · have eb : ps.getD j 0 = b := by rw [List.getD_eq_getElem?_getD, e1]; rfl
        show PairAt s.heap (ps.getD j 0) _ _
        rw [eb]
        exact .inl e2
  · refine ⟨rfl, fun i key v hr => ?_⟩
    have hr' : (prs.map fun q => (Value.ref q.2.1, q.2.2))[i]? = some (key, v) := hr
    rw [List.getElem?_map] at hr'
    cases e : prs[i]? with
    | none => rw [e] at hr'; cases hr'
    | some q' =>
      rw [e] at hr'
      cases hr'
      exact ⟨q'.1, q'.2.1, rfl, rfl⟩
  · intro h' hk x hx
    obtain ⟨j, hj, e⟩ := List.getElem_of_mem hx
    obtain ⟨b, e1, e2, e3⟩ := hpr j x (by rw [List.getElem?_eq_getElem hj, e])
    obtain ⟨o, items, n, h1, h2, h3, h4⟩ := key_of I.hok e3
    exact ⟨o, items, n, hk _ _ (Nat.ne_of_lt (Heap.lt_size h1)) (fun z => by cases z) h1, h2, h3, h4⟩
  · rw [hl]
    exact hz
  · intro h' tk hd' hk
    have hm : (s.heap.objs.size == sysModules) = false := beq_eq_false_iff_ne.mpr (Nat.ne_of_gt I.big)
    have hlen : (stoAll [] qs).length ≤ sizeLine := by
      refine Nat.le_trans (length_stoAll qs []) ?_
      rw [List.length_nil, Nat.zero_add, ← hlq]
      exact hz
    obtain ⟨o, es, ep, h1, h2, h3, h4, _, h5⟩ := hd'
    have fresh : H s.heap.objs.size = none := I.hok.fresh (Nat.le_refl _)
    have kt : KT H (stoAll [] qs) (storedAllH [] prs) := hf [] [] .nil
    exact ⟨.ref s.heap.objs.size, upd H s.heap.objs.size (.dT (stoAll [] qs)), I.laid (t' := tk) (fun b o e => hk b o (fun z => by cases z) e) (Nat.le_refl _)
      (show ObjOk X.prog X.w _ _ _ (.dT (stoAll [] qs)) from ⟨hlen, hm, _, kt.keeps (fun b ys e => by rw [upd_ne (ne_of_none e fresh)]; exact e), o, es, ep, h1, h2, h3, h4, h5⟩), rfl, q _ fresh⟩
end
end Gd

set_option Elab.async false
set_option linter.all false
set_option maxRecDepth 100000
set_option maxHeartbeats 4000000
namespace PySem
namespace XTooMany
open PySem.W PySem.Calls PyProof.Rows PySem.HandSPX
/-! ### the text of __init__ -/
def iA (p1 p2 : Pos) : Arguments := { posonlyargs := [], args := [{ arg := "self", annotation := none, pos := p1 }, { arg := "limit", annotation := none, pos := p2 }], vararg := none, kwonlyargs := [], kw_defaults := [], kwarg := none, defaults := [] }
def iB (q1 q2 q3 q4 : Pos) : List Stmt := [.Assign [.Attribute (.Name "self" q1) "limit" q2] (.Name "limit" q3) q4]
def iS : Scope := { kind := .function, names := [(PySem.Str.ofString "self", .local), (PySem.Str.ofString "limit", .local)], isGenerator := false, isCoroutine := false, more := [] }
/-- what the written part says of Low, at C, and of its __init__, at fI -/
structure TooManyTxt (K : Frag) (mg : Str → Option Value) (C fI : Addr) : Prop where
  gC : mg "TooMany" = some (.ref C)
  cls : ∃ nm q N bs sn sub ab col dd k0 k1 k2 k3 k5, K.lookup C = some (excClassObj nm q C N bs [.type "OverflowError", .type "ArithmeticError", .type "Exception", .type "BaseException", .type "object"] true sn sub ab col dd k0 k1 k2 k3 k5 "OverflowError.__new__")
  sa : findIn K (.ref C) "__setattr__" = some (some (.builtin "object.__setattr__"))
  ga : findIn K (.ref C) "__getattribute__" = some (some (.builtin "BaseException.__getattribute__"))
  gg : findIn K (.ref C) "__getattr__" = some none
  noN : findIn K (.ref C) "limit" = some none
  iC : findIn K (.ref C) "__init__" = some (some (.ref fI))
  tC : typeIn K (.ref fI) = some (.type "function")
  kC : keepIn K (.ref C) = true
  exC : subIn K (.ref C) (.type "BaseException") = some true
  tyC : typeIn K (.ref C) = some (.type "type")
  hdC : hasDictIn K C = true
  te : exmOne K (.ref C) (.ref C) = some true
  fn : ∃ (oc : Value) (od : Option Addr) (doc pm : Value) (an : Option Addr) (cdv ct : Value) (osl : Array (Option Value)) (p1 p2 q1 q2 q3 q4 : Pos),
    K.lookup fI = some ⟨oc, od, .func (fnOf "__init__" "TooMany.__init__" (iA p1 p2) (iB q1 q2 q3 q4) iS .none .none doc pm an cdv ct), osl⟩ ∧ codeIn K cdv "TooMany.__init__" = true
theorem one_size (v : Value) : [v].length ≤ sizeLine := by
  rw [sizeLine_eq]
  exact (by decide : 1 ≤ 16777216)
theorem kept_but {K : Frag} {h h' : Heap} {x : Addr} (X : K.In h) (hx : K.lookup x = none) (k : ∀ b o, b ≠ x → h.get? b = some o → h'.get? b = some o) : K.In h' := fun a o e =>
  k a o (fun z => by rw [z, hx] at e; cases e) (X a o e)
theorem ldC {M : Model} {s : Shared} {name : Str} {scope : Scope} {L a : Addr} {cd : Value} {m : Str → Option Value} {x : Str} {pos : Pos} {v : Value} {Q : Value → Shared → Prop} {A : Around} {E : Value → Shared → Prop} (hn : s.heap.Ns L m) (hv : m x = some v) (h : Q v s)
    (hk : scope.kind = .function := by rfl) (hl : (envOfC name scope L a cd).kindOf x = some .local := by rfl) (hd : (x == ("__debug__" : Str)) = false := by decide) :
    wpAny M A (eval (.Name x pos) (envOfC name scope L a cd)) Q E s := wpAny_Name (wpAny_loadName_local hk hl hn hv h) hd
/-- what __init__ leaves of a fresh exception at x -/
structure InitEnd (h h' : Heap) (x C dx t1 : Addr) (v : Value) : Prop where
  keep : ∀ b o, b ≠ x → h.get? b = some o → h'.get? b = some o
  obj : h'.get? x = some { cls := .ref C, dict := some dx, data := .fields #[.ref t1, .none, .none, .none, .bool false, .none] }
  dbig : h.objs.size ≤ dx
  dne : dx ≠ x
  ns : h'.Ns1 dx (fun y => if y = "limit" then some v else none)
/-- a made Low -/
structure OwnMade (h h' : Heap) (e C d : Addr) (v : Value) : Prop where
  keep : ∀ b o, h.get? b = some o → h'.get? b = some o
  new : h.objs.size ≤ e
  obj : ∃ oe vs, h'.get? e = some oe ∧ oe.cls = .ref C ∧ oe.dict = some d ∧ oe.data = .fields vs ∧ vs[1]? = some .none
  dbig : h.objs.size ≤ d
  dne : d ≠ e
  ns : h'.Ns1 d (fun y => if y = "limit" then some v else none)
section
variable {prog : Program} {w : World} {A : Around} {E : Value → Shared → Prop} {R : Result → Shared → Prop} {s : Shared} {K : Frag} {mg : Str → Option Value} {C fI : Addr}
theorem low_init (T : TooManyTxt K mg C fI) {x t0 : Addr} {v : Value} (X : K.In s.heap) (hlim : s.heap.NoLimit) (hx : s.heap.get? x = some (excO C t0)) (hnx : K.lookup x = none) (hroom : A.depth < recursionLimit)
    (hq : ∀ h' tk dx, InitEnd s.heap h' x C dx t0 v → R (.ok (.ret .none)) { s with heap := h', toks := tk }) :
    codeAny (model prog w) A (.call (.ref fI) ⟨[.ref x, v], []⟩) R s := by
  obtain ⟨oc, od, doc, pm, an, cdv, ct, osl, p1, p2, q1, q2, q3, q4, ho, hcd⟩ := T.fn
  obtain ⟨nm, q, N, bs, sn, sub, ab, col, dd, k0, k1, k2, k3, k5, hC⟩ := T.cls
  have hcl : clsIn K C = some { name := nm, bases := bs, mro := .ref C :: [.type "OverflowError", .type "ArithmeticError", .type "Exception", .type "BaseException", .type "object"], ns := N, qualname := q, hasDict := true, slotNames := sn, subclasses := sub, abstract := ab, collection := col, hasDel := false } := by unfold clsIn; rw [hC] <;> rfl
  refine Att.call_fn (binds := [("self", .ref x), ("limit", v)]) X hlim ho hcd hroom (BindsTo.of_eq (by first | rfl | with_unfolding_all rfl)) (by first | rfl | decide | with_unfolding_all rfl) (fun s₁ IC => ?_) rfl rfl rfl
  obtain ⟨h₁, tk₁, rfl⟩ := IC.toInCall.same
  have k : ∀ b o, s.heap.get? b = some o → h₁.get? b = some o := IC.toInCall.keep
  have hn := IC.toInCall.ns
  have hxL : s.heap.objs.size ≠ x := Nat.ne_of_gt (Heap.lt_size hx)
  have X₁ : K.In h₁ := X.keeps k
  have hx₁ := k _ _ hx
  -- self.by = by
  show wpAny _ _ (execs _ _) _ _ _
  refine wpAny_execs_cons (plainObj_wpAny_Assign_Attribute ?_)
  refine ldC (v := v) hn (by first | rfl | with_unfolding_all rfl | kernel_rfl) (ldC (v := .ref x) hn (by first | rfl | with_unfolding_all rfl | kernel_rfl) ?_)
  refine set_plain X₁ (ox := excO C t0) (od := none) ⟨hx₁, rfl, rfl, trivial⟩ T.sa ?_
  refine GdX.osaG F.store_OverflowError X₁ hx₁ hcl rfl rfl T.noN (fun h₃ tk₃ dx k₃ dn dne hx₃ hn₃ => ?_)
  show wpAny _ _ (execs _ _) _ _ _
  have z : s.heap.objs.size < h₁.objs.size := hn.lt
  exact wpAny_execs_nil (hq h₃ tk₃ dx ⟨fun b o hb e => k₃ b o hb (k b o e), hx₃, Nat.le_of_lt (Nat.lt_of_lt_of_le z dn), dne, hn₃⟩)
theorem low_made (T : TooManyTxt K mg C fI) {v : Value} (X : K.In s.heap) (hlim : s.heap.NoLimit) (hroom : A.depth + 1 < recursionLimit)
    (hq : ∀ h' tk e d, OwnMade s.heap h' e C d v → R (.ok (.ret (.ref e))) { s with heap := h', toks := tk }) :
    codeAny (model prog w) A (.call (.ref C) ⟨[v], []⟩) R s := by
  obtain ⟨nm, q, N, bs, sn, sub, ab, col, dd, k0, k1, k2, k3, k5, hC⟩ := T.cls
  obtain ⟨hp, g, dr, tk, os⟩ := s
  have k : ∀ b o, hp.get? b = some o → ((hp.push (kdv_tup [v])).push (excO C hp.objs.size)).get? b = some o := fun b o e => Heap.get?_push_of_some _ (Heap.get?_push_of_some _ e)
  have hget : ((hp.push (kdv_tup [v])).push (excO C hp.objs.size)).get? (hp.objs.size + 1) = some (excO C hp.objs.size) := by heap_get
  have hnx : K.lookup (hp.objs.size + 1) = none := by
    cases e : K.lookup (hp.objs.size + 1) with
    | none => rfl
    | some o =>
      have z : hp.get? (hp.objs.size + 1) = some o := X _ _ e
      exact absurd (Nat.lt_of_succ_lt (Heap.lt_size z)) (Nat.lt_irrefl _)
  refine call_own F.excBase_OverflowError (fun _ => rfl) (X _ _ hC) (looks_findIn X T.iC) (fun self => bind_fn X self T.tC) (one_size v) ?_
  refine low_init (s := ⟨(hp.push (kdv_tup [v])).push (excO C hp.objs.size), g, dr, tk, os⟩) T (X.keeps k) (hlim.keeps k) hget hnx ?_ fun h' tk' dx ⟨k', hx, dn, dne, hns⟩ => ?_
  · show A.depth + 1 < recursionLimit
    exact hroom
  · have old : ∀ b o, hp.get? b = some o → h'.get? b = some o := fun b o e => k' b o (Nat.ne_of_lt (Nat.lt_succ_of_lt (Heap.lt_size e))) (k b o e)
    have z : hp.objs.size + 1 + 1 ≤ dx := by
      first
        | (simpa only [Heap.size_push] using dn)
        | exact dn
        | (have q := dn; rw [Heap.size_push, Heap.size_push] at q; exact q)
    exact ⟨rfl, hq h' tk' (hp.objs.size + 1) dx ⟨old, Nat.le_succ _, ⟨_, _, hx, rfl, rfl, rfl, rfl⟩, Nat.le_trans (Nat.le_trans (Nat.le_succ _) (Nat.le_succ _)) z, dne, hns⟩⟩
end
end XTooMany
end PySem
namespace L2
open PySem PySem.Spec PyProof.Rows
theorem relO_TooMany {v : V} {v' : Value} (r : RelV v v') (f : Str) : RelO (List.lookup f [(("limit" : Str), v)]) (if f = "limit" then some v' else none) := by
  by_cases hw : f = "limit"
  · subst hw
    rw [if_pos rfl]
    have q : List.lookup ("limit" : Str) [(("limit" : Str), v)] = some v := by simp [List.lookup]
    rw [q]
    exact r
  · rw [if_neg hw]
    have qw : (f == ("limit" : Str)) = false := by simpa using hw
    have q2 : List.lookup f [(("limit" : Str), v)] = none := by simp [List.lookup, qw]
    rw [q2]
    trivial
section
variable {X : Cx} {C fI : Addr}
/-- Low(e) -/
def tMkTooMany (C : Addr) (ta : TA) : St → Hp → XK → Prop := fun σ H Q => ta σ H fun vs H1 => ∃ v, vs = [v] ∧ ∀ d, H1 d = none → Q (.ref C) (some d) (upd H1 d (.xd [(("limit" : Str), v)]))
theorem pmk_TooMany {a : Expr} {ta : TA} {p pos : Pos} {k : Nat} (T : PySem.XTooMany.TooManyTxt X.K X.mg C fI) (hr : Room k X.A) (ha : PA X [a] ta) (hg : Gl X "TooMany" := by rfl)
    (he : starEach (a :: []) X.env = (false, eval a X.env) :: starEach [] X.env := by rfl) (hpl : (backTo pos (starEach [] X.env)).any (·.1) = false := by rfl) :
    PMk X (.Call (.Name "TooMany" p) [a] [] pos) (tMkTooMany C ta) := by
  intro pins s σ H Q I h
  refine wpAny_Call_Name_kw (ld_glob I hg T.gC ?_)
  refine PySem.W.callWith_K (h₀ := X.base) I.ok.mod.kin T.kC (thn (ha.run pos pins s σ H _ I h) fun us s1 hh => ?_) he hpl
  obtain ⟨vs, H1, I1, r1, v, ev, q1⟩ := hh
  subst ev
  refine ⟨I1.kIn, ?_⟩
  cases r1 with
  | cons rv rn =>
    rename_i v' us'
    cases rn
    show wpAny _ _ (call (.ref C) [v']) _ _ _
    have hlim := I1.nolimit
    obtain ⟨hp, g, dr, tk, os⟩ := s1
    refine wpAny_call (PySem.XTooMany.low_made T I1.kIn hlim (by have := hr.dp; omega) fun h' tk' e d M => ?_)
    show MkP X pins σ Q (.ref e) ⟨h', g, dr, tk', os⟩
    obtain ⟨oe, fv, hoe, hc, hd, hdat, h1⟩ := M.obj
    have hns := M.ns
    obtain ⟨G', g1, g2⟩ := restrict h' fun b => decide (b ≠ e)
    have gk : ∀ b, b ≠ e → G'.get? b = h'.get? b := fun b hb => g1 b (decide_eq_true hb)
    have ge : G'.get? e = none := g2 e (by simp)
    have old : ∀ b o, hp.get? b = some o → G'.get? b = some o := fun b o q => (gk b (Nat.ne_of_lt (Nat.lt_of_lt_of_le (Heap.lt_size q) M.new))).trans (M.keep b o q)
    have ob : ObjOk X.prog X.w (upd H1 d (.xd [(("limit" : Str), v)])) G' d (.xd [(("limit" : Str), v)]) :=
      ⟨_, hns.at (fun o q => (gk d M.dne).trans q), fun f => relO_TooMany rv f⟩
    have J : Inv X pins σ (upd H1 d (.xd [(("limit" : Str), v)])) ⟨G', g, dr, tk', os⟩ := I1.laid (t' := tk') old M.dbig ob
    refine ⟨e, oe, fv, ⟨G', g, dr, tk', os⟩, _, .ref C, some d, rfl, J, fun b o q => ?_, ge, hoe, ⟨hc, hd⟩, hdat, h1, ?_, rfl, I1.bare, raises_own T.exC T.tyC, q1 d (I1.hok.fresh M.dbig)⟩
    · by_cases hb : b = e
      · have q' : G'.get? b = some o := q
        rw [hb, ge] at q'; cases q'
      · exact (gk b hb).symm.trans q
    · rw [upd_ne (Ne.symm M.dne)]
      exact I1.hok.fresh M.new
/-- raise Low(e) -/
def tRaiseTooMany (C : Addr) (W : WX) (ta : TA) : TS := fun _ σ H => tMkTooMany C ta σ H fun cls d H' => W cls d σ H'
theorem ps_raiseTooMany {a : Expr} {ta : TA} {W : WX} {p pos pos2 : Pos} {k : Nat} (hc : X.calm = true) (T : PySem.XTooMany.TooManyTxt X.K X.mg C fI) (hr : Room k X.A) (tk : Takes X W) (ha : PA X [a] ta) (hg : Gl X "TooMany" := by rfl)
    (he : starEach (a :: []) X.env = (false, eval a X.env) :: starEach [] X.env := by rfl) (hpl : (backTo pos (starEach [] X.env)).any (·.1) = false := by rfl) :
    PS X (.Raise (some (.Call (.Name "TooMany" p) [a] [] pos)) none pos2) (tRaiseTooMany C W ta) := ps_raise hc tk (pmk_TooMany T hr ha hg he hpl)
/-- low.by, low the exception that the suite holds (at a; its class cls, its dict d) -/
def tByTooMany (C : Addr) (a : Addr) (cls : Value) (d : Option Addr) (te : TE) : TE := fun σ H Q => te σ H fun x H1 => x = .ref a ∧ cls = .ref C ∧ ∃ (dd : Addr) (v : V), d = some dd ∧ H1 dd = some (.xd [(("limit" : Str), v)]) ∧ Q v H1
theorem pe_byTooMany {a : Addr} {oe : Obj} {cls : Value} {d : Option Addr} {pn : List (Addr × Obj)} {e : Expr} {te : TE} {pos : Pos} (T : PySem.XTooMany.TooManyTxt X.K X.mg C fI) (hz : Zc cls d oe) (hf : ∃ vs, oe.data = .fields vs) (he : PE (X.suite a ((a, oe) :: pn)) e te)
    (hb : attributeBase e "limit" X.env (eval e X.env) = eval e X.env := by rfl) :
    PE (X.suite a ((a, oe) :: pn)) (.Attribute e "limit" pos) (tByTooMany C a cls d te) := by
  refine ⟨fun pins s σ H Q I h => ?_⟩
  refine attr_of hb (thn (he.run pins s σ H _ I h) fun u s1 hh => ?_)
  obtain ⟨x, H1, I1, rx, ex, ec, dd, v, ed, ea, q⟩ := hh
  subst ex
  obtain rfl : u = Value.ref a := rx
  subst ec
  subst ed
  obtain ⟨ha, _⟩ := I1.pin (a, oe) (List.mem_append_left _ List.mem_cons_self)
  obtain ⟨vs, hd⟩ := hf
  have hx : ObjOk X.prog X.w H1 s1.heap dd (.xd [(("limit" : Str), v)]) := I1.hok dd _ ea
  obtain ⟨mA, hns, hr⟩ := hx
  obtain ⟨od, ho, hl⟩ := lookIn_ns hns
  have l : List.lookup ("limit" : Str) [(("limit" : Str), v)] = some v := by simp [List.lookup]
  obtain ⟨u, hu, ru⟩ := RelO.some_of (v := v) (o := mA "limit") (by rw [← l]; exact hr "limit")
  have J : PySem.W.InstAt s1.heap a oe C (some od) := ⟨ha, hz.1, by unfold PySem.W.notCls; rw [hd] <;> rfl, by rw [hz.2]; exact ho⟩
  exact HandSPX.exc_get I1.kIn J T.ga T.gg T.exC (PySem.W.findObj_own T.hdC T.noN rfl (by rw [hl, hu])) (handed_of ru) ⟨v, H1, I1.tok _, ru, q⟩
end
end L2

set_option Elab.async false
set_option linter.all false
set_option maxRecDepth 100000
set_option maxHeartbeats 4000000
namespace PySem
namespace XRefused
open PySem.W PySem.Calls PyProof.Rows PySem.HandSPX
/-! ### the text of __init__ -/
def iA (p1 p2 : Pos) : Arguments := { posonlyargs := [], args := [{ arg := "self", annotation := none, pos := p1 }, { arg := "reason", annotation := none, pos := p2 }], vararg := none, kwonlyargs := [], kw_defaults := [], kwarg := none, defaults := [] }
def iB (q1 q2 q3 q4 : Pos) : List Stmt := [.Assign [.Attribute (.Name "self" q1) "reason" q2] (.Name "reason" q3) q4]
def iS : Scope := { kind := .function, names := [(PySem.Str.ofString "self", .local), (PySem.Str.ofString "reason", .local)], isGenerator := false, isCoroutine := false, more := [] }
/-- what the written part says of Low, at C, and of its __init__, at fI -/
structure RefusedTxt (K : Frag) (mg : Str → Option Value) (C fI : Addr) : Prop where
  gC : mg "Refused" = some (.ref C)
  cls : ∃ nm q N bs sn sub ab col dd k0 k1 k2 k3 k5, K.lookup C = some (excClassObj nm q C N bs [.type "ArithmeticError", .type "Exception", .type "BaseException", .type "object"] true sn sub ab col dd k0 k1 k2 k3 k5 "ArithmeticError.__new__")
  sa : findIn K (.ref C) "__setattr__" = some (some (.builtin "object.__setattr__"))
  ga : findIn K (.ref C) "__getattribute__" = some (some (.builtin "BaseException.__getattribute__"))
  gg : findIn K (.ref C) "__getattr__" = some none
  noN : findIn K (.ref C) "reason" = some none
  iC : findIn K (.ref C) "__init__" = some (some (.ref fI))
  tC : typeIn K (.ref fI) = some (.type "function")
  kC : keepIn K (.ref C) = true
  exC : subIn K (.ref C) (.type "BaseException") = some true
  tyC : typeIn K (.ref C) = some (.type "type")
  hdC : hasDictIn K C = true
  te : exmOne K (.ref C) (.ref C) = some true
  fn : ∃ (oc : Value) (od : Option Addr) (doc pm : Value) (an : Option Addr) (cdv ct : Value) (osl : Array (Option Value)) (p1 p2 q1 q2 q3 q4 : Pos),
    K.lookup fI = some ⟨oc, od, .func (fnOf "__init__" "Refused.__init__" (iA p1 p2) (iB q1 q2 q3 q4) iS .none .none doc pm an cdv ct), osl⟩ ∧ codeIn K cdv "Refused.__init__" = true
theorem one_size (v : Value) : [v].length ≤ sizeLine := by
  rw [sizeLine_eq]
  exact (by decide : 1 ≤ 16777216)
theorem kept_but {K : Frag} {h h' : Heap} {x : Addr} (X : K.In h) (hx : K.lookup x = none) (k : ∀ b o, b ≠ x → h.get? b = some o → h'.get? b = some o) : K.In h' := fun a o e =>
  k a o (fun z => by rw [z, hx] at e; cases e) (X a o e)
theorem ldC {M : Model} {s : Shared} {name : Str} {scope : Scope} {L a : Addr} {cd : Value} {m : Str → Option Value} {x : Str} {pos : Pos} {v : Value} {Q : Value → Shared → Prop} {A : Around} {E : Value → Shared → Prop} (hn : s.heap.Ns L m) (hv : m x = some v) (h : Q v s)
    (hk : scope.kind = .function := by rfl) (hl : (envOfC name scope L a cd).kindOf x = some .local := by rfl) (hd : (x == ("__debug__" : Str)) = false := by decide) :
    wpAny M A (eval (.Name x pos) (envOfC name scope L a cd)) Q E s := wpAny_Name (wpAny_loadName_local hk hl hn hv h) hd
/-- what __init__ leaves of a fresh exception at x -/
structure InitEnd (h h' : Heap) (x C dx t1 : Addr) (v : Value) : Prop where
  keep : ∀ b o, b ≠ x → h.get? b = some o → h'.get? b = some o
  obj : h'.get? x = some { cls := .ref C, dict := some dx, data := .fields #[.ref t1, .none, .none, .none, .bool false, .none] }
  dbig : h.objs.size ≤ dx
  dne : dx ≠ x
  ns : h'.Ns1 dx (fun y => if y = "reason" then some v else none)
/-- a made Low -/
structure OwnMade (h h' : Heap) (e C d : Addr) (v : Value) : Prop where
  keep : ∀ b o, h.get? b = some o → h'.get? b = some o
  new : h.objs.size ≤ e
  obj : ∃ oe vs, h'.get? e = some oe ∧ oe.cls = .ref C ∧ oe.dict = some d ∧ oe.data = .fields vs ∧ vs[1]? = some .none
  dbig : h.objs.size ≤ d
  dne : d ≠ e
  ns : h'.Ns1 d (fun y => if y = "reason" then some v else none)
section
variable {prog : Program} {w : World} {A : Around} {E : Value → Shared → Prop} {R : Result → Shared → Prop} {s : Shared} {K : Frag} {mg : Str → Option Value} {C fI : Addr}
theorem low_init (T : RefusedTxt K mg C fI) {x t0 : Addr} {v : Value} (X : K.In s.heap) (hlim : s.heap.NoLimit) (hx : s.heap.get? x = some (excO C t0)) (hnx : K.lookup x = none) (hroom : A.depth < recursionLimit)
    (hq : ∀ h' tk dx, InitEnd s.heap h' x C dx t0 v → R (.ok (.ret .none)) { s with heap := h', toks := tk }) :
    codeAny (model prog w) A (.call (.ref fI) ⟨[.ref x, v], []⟩) R s := by
  obtain ⟨oc, od, doc, pm, an, cdv, ct, osl, p1, p2, q1, q2, q3, q4, ho, hcd⟩ := T.fn
  obtain ⟨nm, q, N, bs, sn, sub, ab, col, dd, k0, k1, k2, k3, k5, hC⟩ := T.cls
  have hcl : clsIn K C = some { name := nm, bases := bs, mro := .ref C :: [.type "ArithmeticError", .type "Exception", .type "BaseException", .type "object"], ns := N, qualname := q, hasDict := true, slotNames := sn, subclasses := sub, abstract := ab, collection := col, hasDel := false } := by unfold clsIn; rw [hC] <;> rfl
  refine Att.call_fn (binds := [("self", .ref x), ("reason", v)]) X hlim ho hcd hroom (BindsTo.of_eq (by first | rfl | with_unfolding_all rfl)) (by first | rfl | decide | with_unfolding_all rfl) (fun s₁ IC => ?_) rfl rfl rfl
  obtain ⟨h₁, tk₁, rfl⟩ := IC.toInCall.same
  have k : ∀ b o, s.heap.get? b = some o → h₁.get? b = some o := IC.toInCall.keep
  have hn := IC.toInCall.ns
  have hxL : s.heap.objs.size ≠ x := Nat.ne_of_gt (Heap.lt_size hx)
  have X₁ : K.In h₁ := X.keeps k
  have hx₁ := k _ _ hx
  -- self.by = by
  show wpAny _ _ (execs _ _) _ _ _
  refine wpAny_execs_cons (plainObj_wpAny_Assign_Attribute ?_)
  refine ldC (v := v) hn (by first | rfl | with_unfolding_all rfl | kernel_rfl) (ldC (v := .ref x) hn (by first | rfl | with_unfolding_all rfl | kernel_rfl) ?_)
  refine set_plain X₁ (ox := excO C t0) (od := none) ⟨hx₁, rfl, rfl, trivial⟩ T.sa ?_
  refine GdX.osaG F.store_ArithmeticError X₁ hx₁ hcl rfl rfl T.noN (fun h₃ tk₃ dx k₃ dn dne hx₃ hn₃ => ?_)
  show wpAny _ _ (execs _ _) _ _ _
  have z : s.heap.objs.size < h₁.objs.size := hn.lt
  exact wpAny_execs_nil (hq h₃ tk₃ dx ⟨fun b o hb e => k₃ b o hb (k b o e), hx₃, Nat.le_of_lt (Nat.lt_of_lt_of_le z dn), dne, hn₃⟩)
theorem low_made (T : RefusedTxt K mg C fI) {v : Value} (X : K.In s.heap) (hlim : s.heap.NoLimit) (hroom : A.depth + 1 < recursionLimit)
    (hq : ∀ h' tk e d, OwnMade s.heap h' e C d v → R (.ok (.ret (.ref e))) { s with heap := h', toks := tk }) :
    codeAny (model prog w) A (.call (.ref C) ⟨[v], []⟩) R s := by
  obtain ⟨nm, q, N, bs, sn, sub, ab, col, dd, k0, k1, k2, k3, k5, hC⟩ := T.cls
  obtain ⟨hp, g, dr, tk, os⟩ := s
  have k : ∀ b o, hp.get? b = some o → ((hp.push (kdv_tup [v])).push (excO C hp.objs.size)).get? b = some o := fun b o e => Heap.get?_push_of_some _ (Heap.get?_push_of_some _ e)
  have hget : ((hp.push (kdv_tup [v])).push (excO C hp.objs.size)).get? (hp.objs.size + 1) = some (excO C hp.objs.size) := by heap_get
  have hnx : K.lookup (hp.objs.size + 1) = none := by
    cases e : K.lookup (hp.objs.size + 1) with
    | none => rfl
    | some o =>
      have z : hp.get? (hp.objs.size + 1) = some o := X _ _ e
      exact absurd (Nat.lt_of_succ_lt (Heap.lt_size z)) (Nat.lt_irrefl _)
  refine call_own F.excBase_ArithmeticError (fun _ => rfl) (X _ _ hC) (looks_findIn X T.iC) (fun self => bind_fn X self T.tC) (one_size v) ?_
  refine low_init (s := ⟨(hp.push (kdv_tup [v])).push (excO C hp.objs.size), g, dr, tk, os⟩) T (X.keeps k) (hlim.keeps k) hget hnx ?_ fun h' tk' dx ⟨k', hx, dn, dne, hns⟩ => ?_
  · show A.depth + 1 < recursionLimit
    exact hroom
  · have old : ∀ b o, hp.get? b = some o → h'.get? b = some o := fun b o e => k' b o (Nat.ne_of_lt (Nat.lt_succ_of_lt (Heap.lt_size e))) (k b o e)
    have z : hp.objs.size + 1 + 1 ≤ dx := by
      first
        | (simpa only [Heap.size_push] using dn)
        | exact dn
        | (have q := dn; rw [Heap.size_push, Heap.size_push] at q; exact q)
    exact ⟨rfl, hq h' tk' (hp.objs.size + 1) dx ⟨old, Nat.le_succ _, ⟨_, _, hx, rfl, rfl, rfl, rfl⟩, Nat.le_trans (Nat.le_trans (Nat.le_succ _) (Nat.le_succ _)) z, dne, hns⟩⟩
end
end XRefused
end PySem
namespace L2
open PySem PySem.Spec PyProof.Rows
theorem relO_Refused {v : V} {v' : Value} (r : RelV v v') (f : Str) : RelO (List.lookup f [(("reason" : Str), v)]) (if f = "reason" then some v' else none) := by
  by_cases hw : f = "reason"
  · subst hw
    rw [if_pos rfl]
    have q : List.lookup ("reason" : Str) [(("reason" : Str), v)] = some v := by simp [List.lookup]
    rw [q]
    exact r
  · rw [if_neg hw]
    have qw : (f == ("reason" : Str)) = false := by simpa using hw
    have q2 : List.lookup f [(("reason" : Str), v)] = none := by simp [List.lookup, qw]
    rw [q2]
    trivial
section
variable {X : Cx} {C fI : Addr}
/-- Low(e) -/
def tMkRefused (C : Addr) (ta : TA) : St → Hp → XK → Prop := fun σ H Q => ta σ H fun vs H1 => ∃ v, vs = [v] ∧ ∀ d, H1 d = none → Q (.ref C) (some d) (upd H1 d (.xd [(("reason" : Str), v)]))
theorem pmk_Refused {a : Expr} {ta : TA} {p pos : Pos} {k : Nat} (T : PySem.XRefused.RefusedTxt X.K X.mg C fI) (hr : Room k X.A) (ha : PA X [a] ta) (hg : Gl X "Refused" := by rfl)
    (he : starEach (a :: []) X.env = (false, eval a X.env) :: starEach [] X.env := by rfl) (hpl : (backTo pos (starEach [] X.env)).any (·.1) = false := by rfl) :
    PMk X (.Call (.Name "Refused" p) [a] [] pos) (tMkRefused C ta) := by
  intro pins s σ H Q I h
  refine wpAny_Call_Name_kw (ld_glob I hg T.gC ?_)
  refine PySem.W.callWith_K (h₀ := X.base) I.ok.mod.kin T.kC (thn (ha.run pos pins s σ H _ I h) fun us s1 hh => ?_) he hpl
  obtain ⟨vs, H1, I1, r1, v, ev, q1⟩ := hh
  subst ev
  refine ⟨I1.kIn, ?_⟩
  cases r1 with
  | cons rv rn =>
    rename_i v' us'
    cases rn
    show wpAny _ _ (call (.ref C) [v']) _ _ _
    have hlim := I1.nolimit
    obtain ⟨hp, g, dr, tk, os⟩ := s1
    refine wpAny_call (PySem.XRefused.low_made T I1.kIn hlim (by have := hr.dp; omega) fun h' tk' e d M => ?_)
    show MkP X pins σ Q (.ref e) ⟨h', g, dr, tk', os⟩
    obtain ⟨oe, fv, hoe, hc, hd, hdat, h1⟩ := M.obj
    have hns := M.ns
    obtain ⟨G', g1, g2⟩ := restrict h' fun b => decide (b ≠ e)
    have gk : ∀ b, b ≠ e → G'.get? b = h'.get? b := fun b hb => g1 b (decide_eq_true hb)
    have ge : G'.get? e = none := g2 e (by simp)
    have old : ∀ b o, hp.get? b = some o → G'.get? b = some o := fun b o q => (gk b (Nat.ne_of_lt (Nat.lt_of_lt_of_le (Heap.lt_size q) M.new))).trans (M.keep b o q)
    have ob : ObjOk X.prog X.w (upd H1 d (.xd [(("reason" : Str), v)])) G' d (.xd [(("reason" : Str), v)]) :=
      ⟨_, hns.at (fun o q => (gk d M.dne).trans q), fun f => relO_Refused rv f⟩
    have J : Inv X pins σ (upd H1 d (.xd [(("reason" : Str), v)])) ⟨G', g, dr, tk', os⟩ := I1.laid (t' := tk') old M.dbig ob
    refine ⟨e, oe, fv, ⟨G', g, dr, tk', os⟩, _, .ref C, some d, rfl, J, fun b o q => ?_, ge, hoe, ⟨hc, hd⟩, hdat, h1, ?_, rfl, I1.bare, raises_own T.exC T.tyC, q1 d (I1.hok.fresh M.dbig)⟩
    · by_cases hb : b = e
      · have q' : G'.get? b = some o := q
        rw [hb, ge] at q'; cases q'
      · exact (gk b hb).symm.trans q
    · rw [upd_ne (Ne.symm M.dne)]
      exact I1.hok.fresh M.new
/-- raise Low(e) -/
def tRaiseRefused (C : Addr) (W : WX) (ta : TA) : TS := fun _ σ H => tMkRefused C ta σ H fun cls d H' => W cls d σ H'
theorem ps_raiseRefused {a : Expr} {ta : TA} {W : WX} {p pos pos2 : Pos} {k : Nat} (hc : X.calm = true) (T : PySem.XRefused.RefusedTxt X.K X.mg C fI) (hr : Room k X.A) (tk : Takes X W) (ha : PA X [a] ta) (hg : Gl X "Refused" := by rfl)
    (he : starEach (a :: []) X.env = (false, eval a X.env) :: starEach [] X.env := by rfl) (hpl : (backTo pos (starEach [] X.env)).any (·.1) = false := by rfl) :
    PS X (.Raise (some (.Call (.Name "Refused" p) [a] [] pos)) none pos2) (tRaiseRefused C W ta) := ps_raise hc tk (pmk_Refused T hr ha hg he hpl)
/-- low.by, low the exception that the suite holds (at a; its class cls, its dict d) -/
def tByRefused (C : Addr) (a : Addr) (cls : Value) (d : Option Addr) (te : TE) : TE := fun σ H Q => te σ H fun x H1 => x = .ref a ∧ cls = .ref C ∧ ∃ (dd : Addr) (v : V), d = some dd ∧ H1 dd = some (.xd [(("reason" : Str), v)]) ∧ Q v H1
theorem pe_byRefused {a : Addr} {oe : Obj} {cls : Value} {d : Option Addr} {pn : List (Addr × Obj)} {e : Expr} {te : TE} {pos : Pos} (T : PySem.XRefused.RefusedTxt X.K X.mg C fI) (hz : Zc cls d oe) (hf : ∃ vs, oe.data = .fields vs) (he : PE (X.suite a ((a, oe) :: pn)) e te)
    (hb : attributeBase e "reason" X.env (eval e X.env) = eval e X.env := by rfl) :
    PE (X.suite a ((a, oe) :: pn)) (.Attribute e "reason" pos) (tByRefused C a cls d te) := by
  refine ⟨fun pins s σ H Q I h => ?_⟩
  refine attr_of hb (thn (he.run pins s σ H _ I h) fun u s1 hh => ?_)
  obtain ⟨x, H1, I1, rx, ex, ec, dd, v, ed, ea, q⟩ := hh
  subst ex
  obtain rfl : u = Value.ref a := rx
  subst ec
  subst ed
  obtain ⟨ha, _⟩ := I1.pin (a, oe) (List.mem_append_left _ List.mem_cons_self)
  obtain ⟨vs, hd⟩ := hf
  have hx : ObjOk X.prog X.w H1 s1.heap dd (.xd [(("reason" : Str), v)]) := I1.hok dd _ ea
  obtain ⟨mA, hns, hr⟩ := hx
  obtain ⟨od, ho, hl⟩ := lookIn_ns hns
  have l : List.lookup ("reason" : Str) [(("reason" : Str), v)] = some v := by simp [List.lookup]
  obtain ⟨u, hu, ru⟩ := RelO.some_of (v := v) (o := mA "reason") (by rw [← l]; exact hr "reason")
  have J : PySem.W.InstAt s1.heap a oe C (some od) := ⟨ha, hz.1, by unfold PySem.W.notCls; rw [hd] <;> rfl, by rw [hz.2]; exact ho⟩
  exact HandSPX.exc_get I1.kIn J T.ga T.gg T.exC (PySem.W.findObj_own T.hdC T.noN rfl (by rw [hl, hu])) (handed_of ru) ⟨v, H1, I1.tok _, ru, q⟩
end
end L2

set_option Elab.async false
set_option linter.all false
set_option maxRecDepth 100000
set_option maxHeartbeats 4000000
/-! try with several clauses, some «except x as n» of one name n, some «except x». -/
namespace Gd
open PySem PySem.Spec PyProof.Rows L2
abbrev MClause := Bool × Value × (Addr → Value → Option Addr → TS)
/-- what the clauses wish, one after the other; slot i is the name's; true: with the name -/
def wMix (K : PySem.W.Frag) (i : Nat) (Wo : WX) (D : Ends) : List MClause → WX
  | [] => Wo
  | (true, c, ts) :: r => wAs K c i ts (wMix K i Wo D r) D
  | (false, c, ts) :: r => fun k d σ H => ∃ b, PySem.W.exmOne K k c = some b ∧ (b = true → ∀ a, H a = none → ts a k d D σ H) ∧ (b = false → wMix K i Wo D r k d σ H)
inductive MixOk (X : Cx) (n : Str) : List ExceptHandler → List MClause → Prop
  | nil : MixOk X n [] []
  | named {x : Str} {c : Value} {ts : Addr → Value → Option Addr → TS} {b₀ : Stmt} {rows : List Stmt} {np po : Pos} {hds : List ExceptHandler} {l : List MClause} (hc : Names X x c)
      (hsu : ∀ (a : Addr) (oe : Obj) (k : Value) (d : Option Addr) (pn : List (Addr × Obj)), Zc k d oe → (∃ us, oe.data = .fields us) → PSs (X.suite a ((a, oe) :: pn)) (b₀ :: rows) (ts a k d)) (more : MixOk X n hds l) :
      MixOk X n (.ExceptHandler (some (.Name x np)) (some n) (b₀ :: rows) po :: hds) ((true, c, ts) :: l)
  | plain {x : Str} {c : Value} {ts : Addr → Value → Option Addr → TS} {b₀ : Stmt} {rows : List Stmt} {np po : Pos} {hds : List ExceptHandler} {l : List MClause} (hc : Names X x c)
      (hsu : ∀ (a : Addr) (oe : Obj) (k : Value) (d : Option Addr) (pn : List (Addr × Obj)), Zc k d oe → (∃ us, oe.data = .fields us) → PSs (X.suite a ((a, oe) :: pn)) (b₀ :: rows) (ts a k d)) (more : MixOk X n hds l) :
      MixOk X n (.ExceptHandler (some (.Name x np)) none (b₀ :: rows) po :: hds) ((false, c, ts) :: l)
section
variable {X : Cx} {n : Str} {i : Nat} {body : List Stmt} {h₀ : ExceptHandler} {hds : List ExceptHandler} {l : List MClause} {pos : Pos} {tb : WX → TS} {Wo : WX}
theorem ps_try_mix (hst : X.stack = X.env :: X.outer) (hfr0 : X.env.frame = some X.env.locals) (hN : X.N.Nodup) (hi : X.N[i]? = some n) (hl : X.env.kindOf n = some .local) (tk : Takes X Wo)
    (hb : ∀ (W : WX) (pn : List (Addr × Obj)) (xe : Value → Shared → Prop), Takes (X.tr pn xe) W → PassesOwn (model X.prog X.w) X.A X.env xe → PSs (X.tr pn xe) body (tb W))
    (hh : MixOk X n (h₀ :: hds) l) : PS X (.Try body (h₀ :: hds) [] [] pos) (fun D σ H => tb (wMix X.K i Wo D l) D σ H) := by
  constructor
  intro pins s0 σ0 H0 D I h
  have okX := I.ok
  have hfr : X.A.frames = some (X.env :: X.outer) := by rw [okX.frames, hst]
  have hloc : Loc X.env.scope n := .inl hl
  refine wpAny_Try_except ?_
  have go := hb (wMix X.K i Wo D l) (X.pn ++ pins) (fun e t₁ => wpAny (model X.prog X.w) X.A (noteFrame e X.env) (fun _ t₂ => wpAny (model X.prog X.w) X.A (setFlight e none) (fun _ t₃ =>
    wpAny (model X.prog X.w) X.A (handleBy e X.env (h₀ :: hds)) (SP X pins D) X.xe t₃) X.xe t₂) X.xe t₁) (fun u t' caught => ?_) PassesOwn.looking
  · refine wpAny_mono (go.run [] s0 σ0 H0 D (I.toTry _) h) (fun f t1 done => ?_) (fun e t1 z => z)
    match f, done with
    | .next, ⟨σ1, H1, J, q⟩ => exact wpAny_execs_nil ⟨σ1, H1, J.ofTry okX, q⟩
    | .brk, ⟨σ1, H1, J, q⟩ => exact ⟨σ1, H1, J.ofTry okX, q⟩
    | .cont, ⟨σ1, H1, J, q⟩ => exact ⟨σ1, H1, J.ofTry okX, q⟩
    | .ret u, ⟨v, σ1, H1, J, r, q⟩ => exact ⟨v, σ1, H1, J.ofTry okX, r, q⟩
  obtain ⟨a, B, sI, pins2, σ2, H2, cls, d, rfl, J0, nb, up, sky, na, os, ag, wish⟩ := caught
  have J : Inv X pins σ2 H2 sI := J0.ofTry okX
  have sky2 : Sky B (X.env :: X.outer) a (Zc cls d) X.env.locals t'.heap := by rw [← hst]; exact sky
  show wpAny (model X.prog X.w) X.A (noteFrame (.ref a) X.env) _ _ _
  refine Sky.land Zc.steady hfr hfr0 sky2 ?_
  intro h3 fl3 up3
  have J3 : Inv X pins σ2 H2 { t' with heap := h3 } := J.landed nb fl3.1 (up.trans up3) os ag
  obtain ⟨o3, vs3, at3, z3, d3⟩ := fl3.there
  have off : a ∉ frs (X.env :: X.outer) := by
    intro hm
    obtain ⟨_, o', e', hnf⟩ := fl3.2.2.1.mem hm
    rw [at3] at e'
    cases e'
    exact hnf _ d3
  have nL : a ≠ X.env.locals := by
    intro z
    exact off (List.mem_filterMap.mpr ⟨X.env, List.mem_cons_self, by rw [hfr0, z]⟩)
  have nF : a ∉ X.fs := by
    intro hm
    obtain ⟨e, he, q⟩ := List.mem_filterMap.mp hm
    exact off (List.mem_filterMap.mpr ⟨e, List.mem_cons_of_mem _ he, q⟩)
  have S3 := J3.suite at3 d3 na nL nF
  have clauses : ∀ (hs2 : List ExceptHandler) (l2 : List MClause), MixOk X n hs2 l2 → wMix X.K i Wo D l2 cls d σ2 H2 →
      wpAny (model X.prog X.w) X.A (handleBy (.ref a) X.env hs2) (SP X pins D) X.xe { t' with heap := h3 } := by
    intro hs2 l2 ok2
    induction ok2 with
    | nil =>
      intro wo
      refine wpAny_handleBy_nil ?_
      obtain ⟨_, _, _, oe, us, T, oT, ts2, at_, hz, hd, hT, hr⟩ := id fl3
      unfold PySem.passOn
      refine wpAny_bind (wpAny_field at_ hd hT ?_)
      rw [if_neg (show ¬ ((Value.ref T == Value.none) = true) by simp)]
      have out : wpAny (model X.prog X.w) X.A (setFlight (.ref a) X.env.frame) (fun _ t4 => wpAny (model X.prog X.w) X.A (throw (.ref a) : Sem Flow) (SP X pins D) X.xe t4) X.xe { t' with heap := h3 } := by
        rw [hfr0]
        refine HandSPX.setFlight_upZ fl3 ?_
        intro h4 hh4 up4
        refine wpAny_throw (tk _ _ ⟨a, B, sI, pins, σ2, H2, cls, d, rfl, J, nb, (up.trans up3).trans up4, .inr (.inr ?_), na, os, ag, wo⟩)
        rw [hst]
        exact hh4
      first
        | exact wpAny_bind (wpAny_pure (wpAny_bind out))
        | exact wpAny_bind out
    | @named x c ts b₀ rows np po hds2 l3 hc hsu more ih =>
      intro wsh
      obtain ⟨b, hb1, yes, no⟩ := wsh
      refine wpAny_handleBy_cons (codeAny_handlers_test ?_) (by intro q; cases q)
      have LT : PySem.W.Looks (model X.prog X.w) h3 (typeOf (.ref a)) cls := by
        intro A Q E s k q
        exact wpAny_typeOf_ref (k _ _ at3) (by rw [z3.1]; exact q)
      have LM := PySem.W.exm_one (M := model X.prog X.w) J3.kIn LT hb1
      have named : ∀ {Q : Value → Shared → Prop} {E : Value → Shared → Prop}, Q c { t' with heap := h3 } → wpAny (model X.prog X.w) (X.A.mark (some (.ref a))) (eval (.Name x np) X.env) Q E { t' with heap := h3 } := by
        intro Q E q
        obtain ⟨hg, hdb, hm | ⟨hm, hv, hnn⟩⟩ := hc
        · exact ld_glob (X := X.suite a ((a, o3) :: (X.pn ++ pins))) S3 hg hm q hdb
        · exact ld_blt (X := X.suite a ((a, o3) :: (X.pn ++ pins))) S3 hg hm hv q hnn hdb
      refine named (LM.here ?_)
      cases b with
      | false =>
        show wpAny _ X.A (handleBy (.ref a) X.env hds2) _ _ _
        exact ih (no rfl)
      | true =>
        refine codeAny_handlers_suite_as ?_
        refine HandSPX.lands_againZ fl3 ?_
        intro h4 fl4 up4
        have J4 : Inv X pins σ2 H2 { t' with heap := h4 } := J.landed nb fl4.1 ((up.trans up3).trans up4) os ag
        obtain ⟨o4, vs4, at4, z4, d4⟩ := fl4.there
        refine store_ok (X := X.suite a ((a, o4) :: (X.pn ++ pins))) (v := .ref a) (J4.suite at4 d4 na nL nF) hN hi hloc rfl (fun t5 S5 => ?_) (.inr hl)
        refine wpAny_mono ((hsu a o4 cls d (X.pn ++ pins) z4 ⟨_, d4⟩).run [] t5 _ H2 _ S5 (yes rfl a na)) (fun f t6 done => ?_) (fun _ _ z => z.elim)
        have gone : ∀ {σ6 : L2.St} {H6 : Hp} {Q : Shared → Prop}, Inv (X.suite a ((a, o4) :: (X.pn ++ pins))) [] σ6 H6 t6 → (∀ t7, Inv X pins (σ6.set i none) H6 t7 → Q t7) →
            wpAny (model X.prog X.w) X.A (do bindName X.env n .none; unbindBehindTheSuite X.env n po) (fun _ t7 => Q t7) X.xe t6 := by
          intro σ6 H6 Q S6 hq
          exact gone_ok (S6.unsuite okX) hN hi hl hq
        match f, done with
        | .next, ⟨σ6, H6, S6, q6⟩ => exact gone S6 fun t7 J7 => ⟨_, _, J7, q6⟩
        | .brk, ⟨σ6, H6, S6, q6⟩ => exact gone S6 fun t7 J7 => ⟨_, _, J7, q6⟩
        | .cont, ⟨σ6, H6, S6, q6⟩ => exact gone S6 fun t7 J7 => ⟨_, _, J7, q6⟩
        | .ret u, ⟨v6, σ6, H6, S6, r6, q6⟩ => exact gone S6 fun t7 J7 => ⟨_, _, _, J7, r6, q6⟩
    | @plain x c ts b₀ rows np po hds2 l3 hc hsu more ih =>
      intro wsh
      obtain ⟨b, hb1, yes, no⟩ := wsh
      refine wpAny_handleBy_cons (codeAny_handlers_test ?_) (by intro q; cases q)
      have LT : PySem.W.Looks (model X.prog X.w) h3 (typeOf (.ref a)) cls := by
        intro A Q E s k q
        exact wpAny_typeOf_ref (k _ _ at3) (by rw [z3.1]; exact q)
      have LM := PySem.W.exm_one (M := model X.prog X.w) J3.kIn LT hb1
      have named : ∀ {Q : Value → Shared → Prop} {E : Value → Shared → Prop}, Q c { t' with heap := h3 } → wpAny (model X.prog X.w) (X.A.mark (some (.ref a))) (eval (.Name x np) X.env) Q E { t' with heap := h3 } := by
        intro Q E q
        obtain ⟨hg, hdb, hm | ⟨hm, hv, hnn⟩⟩ := hc
        · exact ld_glob (X := X.suite a ((a, o3) :: (X.pn ++ pins))) S3 hg hm q hdb
        · exact ld_blt (X := X.suite a ((a, o3) :: (X.pn ++ pins))) S3 hg hm hv q hnn hdb
      refine named (LM.here ?_)
      cases b with
      | false =>
        show wpAny _ X.A (handleBy (.ref a) X.env hds2) _ _ _
        exact ih (no rfl)
      | true =>
        refine codeAny_handlers_suite ?_
        refine HandSPX.lands_againZ fl3 ?_
        intro h4 fl4 up4
        have J4 : Inv X pins σ2 H2 { t' with heap := h4 } := J.landed nb fl4.1 ((up.trans up3).trans up4) os ag
        obtain ⟨o4, vs4, at4, z4, d4⟩ := fl4.there
        refine wpAny_mono ((hsu a o4 cls d (X.pn ++ pins) z4 ⟨_, d4⟩).run [] _ _ H2 _ (J4.suite at4 d4 na nL nF) (yes rfl a na)) (fun f t6 done => ?_) (fun _ _ z => z.elim)
        match f, done with
        | .next, ⟨σ6, H6, S6, q6⟩ => exact ⟨_, _, S6.unsuite okX, q6⟩
        | .brk, ⟨σ6, H6, S6, q6⟩ => exact ⟨_, _, S6.unsuite okX, q6⟩
        | .cont, ⟨σ6, H6, S6, q6⟩ => exact ⟨_, _, S6.unsuite okX, q6⟩
        | .ret u, ⟨v6, σ6, H6, S6, r6, q6⟩ => exact ⟨_, _, _, S6.unsuite okX, r6, q6⟩
  exact clauses _ _ hh wish
end
end Gd

set_option Elab.async false
set_option linter.all false
set_option maxRecDepth 100000
set_option maxHeartbeats 4000000
/-! isinstance(e, c) for an exception that keeps a field. -/
namespace IsW
open PySem PySem.Spec PySem.Calls PyProof.Rows PySem.W
section
variable {pg : Program} {wd : World} {B : Around} {Y : Value → Shared → Prop} {t : Shared} {K : Frag} {e D : Addr} {oe : Obj} {od : Option Obj}
theorem its_class {G : Option Value → Shared → Prop} (c : L2.ExcC K D) (X : K.In t.heap) (J : InstAt t.heap e oe D od) (done : G (some (.ref D)) { t with toks := t.toks + 1 }) :
    wpAny (model pg wd) B (getAttr? (.ref e) "__class__") G Y t := by
  have found : findObj K D od "__class__" = some (.bind (.builtin "getset_descriptor.__get__") (.builtin "object.__class__")) := by
    obtain ⟨cd, hc, _⟩ := any_some c.hd
    unfold findObj
    rw [show clsIn K D = some cd from hc, Option.bind_some, c.ha, Option.bind_some]
    simp [c.hn, c.ht]
  obtain ⟨a1, a2, a3, a4, a5⟩ := t
  have k0 := J.type (M := model pg wd)
  have k1 := looks_findIn (M := model pg wd) X c.hg
  have k2 := looks_findIn (M := model pg wd) X c.hk
  have k3 := looks_find (M := model pg wd) X J found
  have under : Looks (model pg wd) a1 (isInstance (.ref e) (.type "BaseException")) true := k0.andThen (looks_subIn X c.hs)
  have n2 : (Value.builtin "BaseException.__getattribute__" == Value.builtin "object.__getattribute__") = false := by decide +kernel
  have n1 : (onTheHeap (Value.ref D) && Value.builtin "BaseException.__getattribute__" == Value.builtin "object.__getattribute__") = false := by
    rw [n2]
    rfl
  unfold getAttr?
  unfold getAttrBy? getAttrBy
  refine wpAny_bind (wpAny_mkText (wpAny_bind (wpAny_attempt (wpAny_holding (wpAny_bind (k0.at (wpAny_bind (k1.at ?_))))))))
  show wpAny _ _ (if (onTheHeap (Value.ref D) && Value.builtin "BaseException.__getattribute__" == Value.builtin "object.__getattribute__") = true then _ else _) _ _ (_ : Shared)
  rw [n1, if_neg Bool.false_ne_true]
  unfold getAttrByItsOwn
  unfold hookBefore
  refine wpAny_bind ?_
  have onh : onTheHeap (Value.ref D) = true := rfl
  rw [if_pos onh]
  refine k2.at ?_
  refine wpAny_bind ?_
  refine wpAny_attempt (wpAny_holding ?_)
  unfold callGetattribute
  have n0 : (false && onTheHeap (Value.builtin "BaseException.__getattribute__")) = false := rfl
  rw [n0, if_neg Bool.false_ne_true]
  unfold boundAndCalled
  rw [PySem.F.excAttr_ValueError.ga.bind (.ref e)]
  refine wpAny_bind ?_
  refine wpAny_pure ?_
  show wpAny _ _ (call (.builtin "BaseException.__getattribute__") [.ref e, .str "__class__" a4]) _ _ (_ : Shared)
  have pl := PySem.F.excAttr_ValueError.ga.plain
  refine wpAny_call (codeAny_call_builtin pl PySem.F.entry_bexc_ga ?_)
  refine @check_slot (model pg wd) _ _ ⟨a1, a2, a3, a4 + 1, a5⟩ "BaseException.__getattribute__" "BaseException" "__getattribute__" (.ref e) [.str "__class__" a4] [] _ (by decide +kernel) (by decide +kernel) under (PySem.F.args_bexc_ga (.ref e) (.str "__class__" a4)) ?_
  unfold Builtin.«object.__getattribute__» -- the same body
  refine wpAny_bind (wpAny_of_eq (a := ((Value.ref e : Value), [Value.str "__class__" a4])) (by first | rfl | (simp only [slotArgs]; rfl)) ?_)
  refine wpAny_bind (wpAny_pure (wpAny_bind (k0.at (wpAny_bind (k3.at ?_)))))
  show wpAny _ _ (holding [Value.builtin "object.__class__"] (call (.builtin "getset_descriptor.__get__") [.builtin "object.__class__", .ref e, .ref D]) >>= ret) _ _ (_ : Shared)
  refine wpAny_bind (wpAny_holding (wpAny_call (class_get (s := ⟨a1, a2, a3, a4 + 1, a5⟩) (ox := oe) (od := od) X J c.hm ?_)))
  refine wpAny_pure ?_
  show wpAny _ _ (handedOut (.ref D)) _ _ (_ : Shared)
  have out := handedOut_of (v := Value.ref D) rfl
  rw [out]
  first
    | exact wpAny_pure (wpAny_pure done)
    | exact wpAny_pure done
    | exact wpAny_pure (wpAny_bind (wpAny_pure (wpAny_pure done)))
/-- what the rules of isinstance ask of it -/
theorem kit (c : L2.ExcC K D) : KitX K (.ref e) (.ref D) (fun h => InstAt h e oe D od) := by
  obtain ⟨cd, hc, _⟩ := any_some c.hd
  unfold clsIn at hc
  split at hc
  · rename_i c1 d1 cd1 s1 look
    refine ⟨fun _ _ _ J => J.type, fun _ _ X _ => ?_, fun h tp dd its n sl X at_ => ?_, fun X J q => its_class c X J q⟩
    · intro A' Q' E' s' keep q
      unfold isType loadHead
      exact wpAny_bind (wpAny_loadPart (keep _ _ (X _ _ look)) (wpAny_pure q))
    · refine Bool.eq_false_iff.mpr fun q => ?_
      obtain rfl : D = tp := Value.ref.inj (beq_iff_eq.mp q)
      have z := (X _ _ look).symm.trans at_
      cases z
  · cases hc
end
end IsW
namespace Gd
open PySem PySem.Spec PyProof.Rows L2
/-- isinstance(e, c), e the exception at a with a field, whose dict stands at dd -/
def rIsF (K : PySem.W.Frag) (D a dd : Addr) : List V → Hp → VK → Prop := fun xs H Q => ∃ (c : V) (cv : Value) (b : Bool) (fs : List (Str × V)), xs = [.ref a, c] ∧ (∀ u, RelV c u → u = cv) ∧ H dd = some (.xd fs) ∧ PySem.W.kitOne K (.ref D) cv = some b ∧ Q (.bl b) H
theorem call_isF {X : Cx} {a D dd : Addr} {oe : Obj} {pn : List (Addr × Obj)} (C : ExcC X.K D) (hz : Zc (.ref D) (some dd) oe) (hf : ∃ vs, oe.data = .fields vs) : CallR (X.suite a ((a, oe) :: pn)) (.builtin "isinstance") (rIsF X.K D a dd) := by
  intro pins s σ H args us Q I r h
  obtain ⟨c, cv, b, fs, rfl, hcv, hd, kt, q⟩ := h
  obtain ⟨va, vc, rfl, r1, r2⟩ := vals2 r
  cases r1
  obtain rfl := hcv _ r2
  obtain ⟨here, _⟩ := I.pin (a, oe) (List.mem_append.mpr (.inl List.mem_cons_self))
  obtain ⟨vs, hv⟩ := hf
  have hx : ObjOk X.prog X.w H s.heap dd (.xd fs) := I.hok dd _ hd
  obtain ⟨mA, ⟨od, es, ep, ed, _⟩, _⟩ := hx
  have J : PySem.W.InstAt s.heap a oe D (some od) := by
    obtain ⟨oc, o2, oda, osl⟩ := oe
    obtain ⟨h1, h2⟩ := hz
    dsimp only at h1 h2 hv
    subst h1 h2 hv
    exact ⟨here, rfl, rfl, ed⟩
  exact PySem.W.kia_one (IsW.kit C) I.kIn J kt (fun z => nomatch z) fun tk => ⟨.bl b, H, I.kept (t' := tk) fun _ _ z => z, rfl, q⟩
end Gd

set_option Elab.async false
set_option linter.all false
set_option maxRecDepth 100000
set_option maxHeartbeats 4000000
/-! isinstance of a caught exception, with fields or without. -/
namespace Gd
open PySem PySem.Spec PyProof.Rows L2
/-- isinstance(e, c), e the exception at a of the class D, with a dict of fields or without -/
def rIsX (K : PySem.W.Frag) (D a : Addr) (cls : Value) (d : Option Addr) : List V → Hp → VK → Prop := fun xs H Q => cls = .ref D ∧
  ((d = none ∧ rIsE K D a xs H Q) ∨ ∃ dd, d = some dd ∧ rIsF K D a dd xs H Q)
theorem call_isX {X : Cx} {a D : Addr} {cls : Value} {d : Option Addr} {oe : Obj} {pn : List (Addr × Obj)} (C : ExcC X.K D) (hz : Zc cls d oe) (hf : ∃ vs, oe.data = .fields vs) : CallR (X.suite a ((a, oe) :: pn)) (.builtin "isinstance") (rIsX X.K D a cls d) := by
  intro pins s σ H args us Q I r h
  obtain ⟨rfl, ⟨rfl, h⟩ | ⟨dd, rfl, h⟩⟩ := h
  · exact call_isE C hz hf pins s σ H args us Q I r h
  · exact call_isF C hz hf pins s σ H args us Q I r h
end Gd

set_option Elab.async false
set_option linter.all false
set_option maxRecDepth 100000
set_option maxHeartbeats 4000000
/-! Own exceptions without a field. -/
namespace Gd
open PySem PySem.Spec PyProof.Rows L2
/-- an own exception class without a field -/
structure OwnX (K : PySem.W.Frag) (mg : Str → Option Value) (x : Str) (C : Addr) : Prop where
  gC : mg x = some (.ref C)
  kC : PySem.W.keepIn K (.ref C) = true
  q : PySem.W.excIn K C [.type "ValueError", .type "Exception", .type "BaseException", .type "object"] "ValueError.__new__" = true
  s1 : PySem.W.subIn K (.ref C) (.type "BaseException") = some true
  t1 : PySem.W.typeIn K (.ref C) = some (.type "type")
  te : PySem.W.exmOne K (.ref C) (.ref C) = some true
theorem ps_raiseOwn {X : Cx} {W : WX} {C : Addr} {x m : Str} {j : Nat} {p p2 pos pos2 : Pos} (hc : X.calm = true) (N : OwnX X.K X.mg x C) (tk : Takes X W) (hg : Gl X x) (hdb : (x == ("__debug__" : Str)) = false := by decide) :
    PS X (.Raise (some (.Call (.Name x p) [.Constant (.str m) j p2] [] pos)) none pos2) (fun _ σ H => W (.ref C) none σ H) :=
  ps_raise hc tk (pmk_own PySem.F.excBase_ValueError N.q N.gC N.kC (raises_own N.s1 N.t1) hg hdb)
/-- a def of the module, where it stands -/
structure DefAt (K : PySem.W.Frag) (mg : Str → Option Value) (name : Str) (st : Stmt) (ps : List Str) (f : Addr) (fd : FuncData) : Prop where
  F : Fun K name name st f fd
  b : Binds K fd ps []
  g : mg name = some (.ref f)
end Gd

set_option Elab.async false
set_option linter.all false
set_option maxRecDepth 100000
set_option maxHeartbeats 4000000
/-! repr of any datum, its kind known only when it runs. -/
namespace Gd
open PySem PySem.Spec PyProof.Rows L2
/-- what repr gives of x -/
def ShowV (K : PySem.W.Frag) (H : Hp) (x : V) (t : Str) : Prop := (x = .non ∧ t = "None") ∨ (∃ b, x = .bl b ∧ t = if b = true then ("True" : Str) else ("False" : Str)) ∨ (∃ i : Int, x = .int i ∧ i.natAbs.log2 < 1920 ∧ t = toString i) ∨
  (∃ y : Str, x = .str y ∧ (reprText y).length ≤ sizeLine ∧ t = reprText y) ∨ ∃ a d, x = .ref a ∧ Dp K H (.ref a) d ∧ d.showable = true ∧ d.hasDict = false ∧ d.depth ≤ 60 ∧ d.shown.length ≤ sizeLine ∧ t = d.shown
def rReprV (K : PySem.W.Frag) : List V → Hp → VK → Prop := fun xs H Q => ∃ x t, xs = [x] ∧ ShowV K H x t ∧ Q (.str t) H
theorem call_reprV {X : Cx} (hg : NoG X.A) (hu : X.A.units + 64 < cLine) : CallR X (.builtin "repr") (rReprV X.K) := by
  intro pins s σ H xs us Q I r h
  obtain ⟨x, t, rfl, h, q⟩ := h
  obtain ⟨u, rfl, hu1⟩ := vals1 r
  rcases h with ⟨rfl, rfl⟩ | ⟨b, rfl, rfl⟩ | ⟨i, rfl, hi, rfl⟩ | ⟨y, rfl, hl, rfl⟩ | ⟨a, d, rfl, hd, h1, h2, h3, h4, rfl⟩
  · cases hu1
    exact PySem.P.repr_of_none ⟨.str _, H, I.tok _, ⟨_, rfl⟩, q⟩
  · cases hu1
    exact PySem.P.repr_of_bool ⟨.str _, H, I.tok _, ⟨_, rfl⟩, q⟩
  · obtain ⟨t, rfl⟩ := hu1
    exact PySem.P.repr_of_int hi ⟨.str _, H, I.tok _, ⟨_, rfl⟩, q⟩
  · obtain ⟨t, rfl⟩ := hu1
    exact PySem.P.repr_of_str ⟨.str _, H, I.tok _, ⟨_, rfl⟩, q⟩ hl
  · exact call_repr hg hu pins s σ H _ _ Q I (.cons hu1 .nil) ⟨a, d, rfl, hd, h1, h2, h3, h4, q⟩
end Gd

set_option Elab.async false
set_option linter.all false
set_option maxRecDepth 100000
set_option maxHeartbeats 4000000
/-! f(x, ..), f a variable that holds a def. -/
namespace Gd
open PySem PySem.Spec PyProof.Rows L2
section
variable {X : Cx} {CX : CXT} {k : Nat} {sp : Sp} {E : XK} {e fe : Expr} {es : List Expr} {t : TA} {tf : TE} {pos : Pos} {Fs : Addr → Prop}
def tCallV (Fs : Addr → Prop) (sp : Sp) (E : XK) (tf : TE) (t : TA) : TE := fun σ H Q => tf σ H fun x H1 => ∃ f, x = .ref f ∧ Fs f ∧ t σ H1 fun vs H2 => sp vs H2 Q E
theorem pe_callV (hF : ∀ f, Fs f → PySem.W.keepIn X.K (.ref f) = true ∧ FnR X.prog X.w X.K X.mg X.base CX k f sp) (hr : Room k X.A) (hx : Passes CX X E) (hf : PE X fe tf) (ha : PA X (e :: es) t)
    (he : eval (.Call fe (e :: es) [] pos) X.env = (do callWith pos (← eval fe X.env) [] (backTo pos (starEach (e :: es) X.env)) (backToKw pos (keywordEach [] X.env))) := by rfl)
    (h1 : starEach (e :: es) X.env = (false, eval e X.env) :: starEach es X.env := by rfl) (h2 : (backTo pos (starEach es X.env)).any (·.1) = false := by rfl) :
    PE X (.Call fe (e :: es) [] pos) (tCallV Fs sp E tf t) := by
  constructor
  intro pins s σ H Q I h
  refine Call_ (thn (hf.run pins s σ H _ I h) fun u s1 ⟨x, H1, I1, rx, f, ex, hfs, q1⟩ => ?_) he
  subst ex
  cases rx
  obtain ⟨hk, F⟩ := hF f hfs
  refine PySem.W.callWith_K (h₀ := X.base) I.ok.mod.kin hk (thn (ha.run pos pins s1 σ H1 _ I1 q1) fun us s2 ⟨vs, H2, I2, r, hsp⟩ => ⟨I2.kIn, ?_⟩) h1 h2
  exact wpAny_call (run_fnR F hr hx I2 r hsp)
end
end Gd

set_option Elab.async false
set_option linter.all false
set_option maxRecDepth 100000
set_option maxHeartbeats 4000000
/-! str(o) and {o} in an f-string by an own __str__. -/
namespace Gd
open PySem PySem.Spec PyProof.Rows L2
section
variable {X : Cx} {CX : CXT} {C f : Addr} {fd : FuncData} {k : Nat} {ps : List Str} {sp : Sp}
theorem strBack_of {pins : List (Addr × Obj)} {σ : L2.St} {Q : VK} {w : Value} {s' : Shared} (h : EP X pins σ (fun v H' => ∃ y : Str, v = .str y ∧ Q (.str y) H') w s') : PySem.W.StrBack (EP X pins σ Q) w s' := by
  obtain ⟨z, H', I', rz, y, rfl, q⟩ := h
  obtain ⟨t, rfl⟩ := rz
  exact ⟨.str y, H', I', ⟨t, rfl⟩, q⟩
/-- the callee runs, from two builtins that the body calls -/
theorem runAt2 {E : XK} {A : Around} (hA : A = X.A.in1 ∨ A = X.A.in1.in1) {pins : List (Addr × Obj)} {σ : L2.St} {H : Hp} {s : Shared} {Q : VK} {us : List Value} {vs : List V}
    (F : FnOk X.prog X.w X.K X.mg X.base CX k f fd ps sp) (hr : Room (k + 2) X.A) (hb : Binds X.K fd ps [])
    (hx : PassesAt CX X σ E) (I : Inv X pins σ H s) (r : Vals vs us) (h : sp vs H Q E) :
    wpAny (model X.prog X.w) A (call (.ref f) us) (EP X pins σ Q) X.xe s := by
  have hl : us.length = ps.length := by
    rw [← r.length]
    exact F.len _ H Q E h
  have room : Room k A := by
    rcases hA with rfl | rfl
    · exact (hr.mono (Nat.le_succ _)).in1
    · exact hr.in1.in1
  have env : Env0 X.prog X.w X.K X.mg X.base A X.stack s H := by
    rcases hA with rfl | rfl
    · exact I.env0.in1
    · exact I.env0.in1.in1
  have hbs := hb s us I.kIn (by rw [List.append_nil]; exact hl)
  rw [List.append_nil] at hbs
  refine wpAny_call (codeAny_mono (F.run A X.stack s H ⟨us, []⟩ us _ Q E room env hbs r h) ?_)
  intro r s' hq
  match r, hq with
  | .error e, hq => exact hx pins H s e s' I hq
  | .ok (.ret u), hq => exact I.after hq
  | .ok .next, hq => exact False.elim hq
  | .ok .brk, hq => exact False.elim hq
  | .ok .cont, hq => exact False.elim hq
def rStrO (C : Addr) (sp : Sp) (E : XK) : List V → Hp → VK → Prop := fun xs H Q => ∃ p dx fs, xs = [.ref p] ∧ H p = some (.ins C dx fs) ∧ sp [.ref p] H (fun v H' => ∃ y : Str, v = .str y ∧ Q (.str y) H') E
theorem call_strO {E : XK} (hm : Meth X.K C "__str__" f) (F : FnOk X.prog X.w X.K X.mg X.base CX k f fd ps sp) (hr : Room (k + 2) X.A) (hb : Binds X.K fd ps []) (hx : ∀ σ, PassesAt CX X σ E) : CallR X (.type "str") (rStrO C sp E) := by
  intro pins s σ H xs us Q I r h
  obtain ⟨p, dx, fs, rfl, ep, hsp⟩ := h
  obtain ⟨u, rfl, hu1⟩ := vals1 r
  cases hu1
  obtain ⟨od, J⟩ := seen I ep
  refine PySem.W.kso_call (by have := hr.un; show X.A.units + 2 < cLine; omega) I.kIn J hm.at_ hm.fn ?_
  exact wpAny_mono (runAt2 (.inr rfl) F hr hb (hx σ) I (.cons (show RelV (V.ref p) (Value.ref p) from rfl) .nil) hsp) (fun _ _ z => strBack_of z) (fun _ _ z => z)
/-- {o} -/
def tFmtO (C : Addr) (sp : Sp) (E : XK) (te : TE) : TE := fun σ H Q => te σ H fun x H1 => ∃ p dx fs, x = .ref p ∧ H1 p = some (.ins C dx fs) ∧ sp [.ref p] H1 (fun v H' => ∃ y : Str, v = .str y ∧ Q (.str y) H') E
theorem pe_fmtO {E : XK} {e : Expr} {te : TE} {pos : Pos} (hm : Meth X.K C "__str__" f) (hfm : PySem.W.findIn X.K (.ref C) "__format__" = some (some (.builtin "object.__format__"))) (hmr : PySem.W.mroIn X.K C (.type "object") = some true)
    (F : FnOk X.prog X.w X.K X.mg X.base CX k f fd ps sp) (hr : Room (k + 2) X.A) (hb : Binds X.K fd ps []) (hx : ∀ σ, PassesAt CX X σ E) (he : PE X e te) : PE X (.FormattedValue e (-1) none pos) (tFmtO C sp E te) := by
  refine ⟨fun pins s σ H Q I h => ?_⟩
  refine wpAny_FormattedValue_plain (thn (he.run pins s σ H _ I h) fun v s1 hv => ?_)
  obtain ⟨x, H1, I1, r1, p, dx, fs, rfl, ep, hsp⟩ := hv
  cases r1
  obtain ⟨od, J⟩ := seen I1 ep
  have I2 : Inv X pins σ H1 { s1 with toks := s1.toks + 1 } := I1.tok _
  refine PySem.W.kfo_fieldS (by have := hr.un; show X.A.units + 1 < cLine; omega) I1.kIn J hfm hmr hm.at_ hm.fn ?_
  exact wpAny_mono (runAt2 (.inl rfl) F hr hb (hx σ) I2 (.cons (show RelV (V.ref p) (Value.ref p) from rfl) .nil) hsp) (fun _ _ z => strBack_of z) (fun _ _ z => z)
end
end Gd

set_option Elab.async false
set_option linter.all false
set_option maxRecDepth 100000
set_option maxHeartbeats 4000000
/-! xs[::-1] of a list; xs == [] ; the greatest of a tuple. -/
namespace Gd
open PySem PySem.Spec PyProof.Rows L2
section
variable {X : Cx}
def tRevL (K : PySem.W.Frag) (te : TE) : TE := fun σ H Q => te σ H fun x H1 => ∃ a xs, x = .ref a ∧ SqL K H1 a xs ∧ ∀ p, H1 p = none → Q (.ref p) (upd H1 p (.lst xs.reverse))
theorem pe_revL {e : Expr} {te : TE} {k : Nat} {p1 p2 p3 pos : Pos} (he : PE X e te) : PE X (.Subscript e (.Slice none none (some (.UnaryOp .USub (.Constant (.int 1) k p1) p2)) p3) pos) (tRevL X.K te) := by
  constructor
  intro pins s σ H Q I h
  refine Subscript_ (thn (he.run pins s σ H _ I h) fun v s1 ⟨x, H1, I1, r1, a, xs, ex, hx, q⟩ => ?_)
  subst ex
  cases r1
  have step : PO X (some (.UnaryOp .USub (.Constant (.int 1) k p1) p2)) (tPart (tUn (rU fun i => .int (-i)) (tC (.int 1)))) := po_some (pe_un un_neg pe_int)
  refine wpAny_Slice (thn (po_none.run pins s1 σ H1 (fun o G => o = none ∧ G = H1) I1 ⟨rfl, rfl⟩) fun vl s2 ⟨l, G, I2, pl, el, eG⟩ => ?_)
  subst el eG
  refine thn (po_none.run pins s2 σ G (fun o G2 => o = none ∧ G2 = G) I2 ⟨rfl, rfl⟩) fun vu s3 ⟨u, G2, I3, pu, eu, eG2⟩ => ?_
  subst eu eG2
  refine thn (step.run pins s3 σ G2 (fun o G3 => o = some (-1) ∧ G3 = G2) I3 ⟨1, rfl, -1, rfl, rfl, rfl⟩) fun vs s4 ⟨o, G3, I4, ps, eo, eG3⟩ => ?_
  subst eo eG3
  let sh : Shared := { s4 with heap := s4.heap.push { cls := .type "slice", data := .fields #[vl, vu, vs] } }
  have J : Inv X pins σ G3 sh := I4.kept (t' := s4.toks) fun b ob z => Heap.get?_push_of_some _ z
  obtain ⟨its, r, ht, hz⟩ := J.list hx
  have hlen := r.length
  show wpAny (model X.prog X.w) X.A (subscriptTail e (.Slice none none (some (.UnaryOp .USub (.Constant (.int 1) k p1) p2)) p3) (.ref a) (.ref s4.heap.objs.size)) (EP X pins σ Q) X.xe sh
  refine tail_any (ops := [.ref a, .ref s4.heap.objs.size]) ht.isList.typeIs (PySem.F.slot_list_getitem.lookup) ?_ (by with_unfolding_all rfl)
  refine wpAny_getItem_list_slice ht.isList (Heap.IsSliceOf.new _ vl vu vs) pl pu ps (by decide) ?_ (by rw [List.size_toArray]; omega)
  rw [PySem.W.krv_pick]
  refine ⟨.ref _, _, J.laid (t' := s4.toks) (o := .lst xs.reverse) (fun b ob z => Heap.get?_push_of_some _ z) (Nat.le_refl _) ?_, rfl, q _ (J.hok.fresh (Nat.le_refl _))⟩
  exact ⟨by rw [List.length_reverse]; exact hz, _, 0, r.reverse, Heap.get?_push_size _ rfl⟩
/-- xs == [] -/
def rEqNil (K : PySem.W.Frag) : R2 := fun x y H Q => ∃ (a b : Addr) (xs : List V), x = .ref a ∧ y = .ref b ∧ SqL K H a xs ∧ SqL K H b [] ∧ Q (.bl xs.isEmpty) H
theorem op_eqNil (hu : X.A.units < cLine) : OpR X (compareOp .Eq) (rEqNil X.K) := by
  intro pins s σ H x y v u Q I rx ry h
  obtain ⟨a, b, xs, rfl, rfl, ha, hb, q⟩ := h
  cases rx
  cases ry
  obtain ⟨its, r1, p1, _⟩ := I.list ha
  obtain ⟨its2, r2, p2, _⟩ := I.list hb
  cases r2
  cases r1 with
  | nil => exact PySem.SeqAt.RcAt.lists (e := fun _ => true) p1.isList p2.isList rfl hu (fun j h1 _ => absurd h1 (Nat.not_lt_zero _)) _ _ _ _ ⟨.bl true, H, I, rfl, q⟩
  | cons r t => exact PySem.SeqAt.RcAt.lists_lengths p1.isList p2.isList rfl hu _ _ _ _ ⟨.bl false, H, I, rfl, q⟩
end
section
variable {prog : Program} {w : World} {A : Around} {E : Value → Shared → Prop} {s : Shared} {l : Addr} {xs : Array (Int × Tok)}
theorem max_tup {Q : Value → Shared → Prop} (hh : A.handled = none) (hl : s.heap.IsTuple l (intItems xs)) (hne : 0 < xs.size)
    (h : ∀ v h' tk, (intItems xs)[argBest (fun i j => decide (numAt xs i > numAt xs j)) (xs.size - 1)]? = some v → (∀ b o, s.heap.get? b = some o → h'.get? b = some o) → Q v { s with heap := h', toks := tk }) :
    wpAny (model prog w) A (call (.builtin "max") [.ref l]) Q E s := by
  have hlt : l < s.heap.objs.size := by obtain ⟨_, e, _⟩ := hl; exact Heap.lt_size e
  refine call_max_walk (wpAny_pyIter_tuple hl ?_)
  refine ⟨_, _, _, _, _, _, _, rfl, Walks.tuple (A := A.in1) hh _ l (Nat.ne_of_lt hlt) (intItems xs), ⟨⟨_, Heap.get?_push_size _ rfl, rfl, rfl⟩, hl.push _⟩, fun b hb => ?_, by simpa [intItems] using hne, CmpOf.ints_gt (numAt xs) (fun _ _ => intItems_at), fun v h' tk hP hk => ?_⟩
  · show b < (s.heap.push _).objs.size
    rw [Heap.size_push]
    rcases List.mem_cons.mp hb with rfl | hb
    · exact Nat.lt_succ_self _
    · rcases List.mem_cons.mp hb with rfl | hb
      · exact Nat.lt_succ_of_lt hlt
      · cases hb
  · refine h v h' tk (by simpa [intItems] using hP) fun b o e => hk b o (fun hm => ?_) (Heap.get?_push_of_some _ e)
    rcases List.mem_cons.mp hm with e1 | hm
    · exact absurd (e1 ▸ Heap.lt_size e) (Nat.lt_irrefl _)
    · cases hm
theorem max_tup_raw {its : List Value} {ns : List Int} {Q : Value → Shared → Prop} (hh : A.handled = none) (hl : s.heap.IsTuple l its.toArray) (hi : IntsAre its ns) (hne : 0 < ns.length)
    (h : ∀ h' tk M t', (∀ b o, s.heap.get? b = some o → h'.get? b = some o) → M ∈ ns → (∀ a, a ∈ ns → a ≤ M) → Q (.int M t') { s with heap := h', toks := tk }) : wpAny (model prog w) A (call (.builtin "max") [.ref l]) Q E s := by
  obtain ⟨xs, e⟩ := hi.allInts.items
  have hn : numsOf (intItems xs).toList = ns := by rw [← e]; exact hi.numsOf
  rw [nums_intItems] at hn
  subst hn
  rw [e] at hl
  have hsz : 0 < xs.size := by simpa using hne
  refine max_tup hh hl hsz fun v h' tk hv hk => ?_
  obtain ⟨t, rfl⟩ := intItems_at hv
  obtain ⟨h1, h2⟩ := argBest_gt (numAt xs) (xs.size - 1)
  refine h h' tk _ t hk ?_ fun a ha => ?_
  · rw [numAt_eq]; exact PySem.getD_mem (by rw [List.length_map, Array.length_toList]; omega)
  · obtain ⟨j, hj, rfl⟩ := mem_getD ha
    rw [List.length_map, Array.length_toList] at hj
    rw [← numAt_eq]; exact h2 j (by omega)
end
section
variable {X : Cx}
/-- max(t) of a tuple of ints -/
def rMaxT (K : PySem.W.Frag) : List V → Hp → VK → Prop := fun vs H Q => ∃ (a : Addr) (ns : List Int), vs = [V.ref a] ∧ SqT K H a (ns.map V.int) ∧ 0 < ns.length ∧ ∀ m, m ∈ ns → (∀ y, y ∈ ns → y ≤ m) → Q (.int m) H
theorem cr_maxT (hc : X.calm = true) : CallR X (.builtin "max") (rMaxT X.K) := by
  intro pins s σ H vs us Q I r h
  obtain ⟨a, ns, rfl, hs, hne, q⟩ := h
  obtain ⟨its, rv, hl, _⟩ := I.tuple hs
  rw [Vals.ref1 r]
  exact max_tup_raw (I.ok.hd hc) hl (intsAre_of rv) hne fun h' tk m t' hk h1 h2 => ⟨.int _, H, I.kept hk, ⟨_, rfl⟩, q m h1 h2⟩
end
end Gd

set_option Elab.async false
set_option linter.all false
set_option maxRecDepth 100000
set_option maxHeartbeats 4000000
/-! A def whose code object is known. -/
namespace Gd
open PySem PySem.Spec PyProof.Rows L2
section
variable {P : Program} {w : World} {K : PySem.W.Frag} {mg : Str → Option Value} {base : Heap} {CX : CXT} {k : Nat}
  {f c : Addr} {fd : FuncData} {ps : List Str} {sp : Sp}
theorem fnGc {x qual : Str} {st : Stmt} {N : List Str} (F : Fun K x qual st f fd) (hc : fd.code = .ref c) (S : FnScope N ps (defScope st))
    (many : ∀ vs H Q E, sp vs H Q E → vs.length = ps.length)
    (body : ∀ (A : Around) (out : List Env) (s : Shared) (H : Hp) (vs : List V) (Q : VK) (E : XK),
      NoG A → Room k (A.deeper (envOfC qual (defScope st) s.heap.objs.size f (.ref c))) → sp vs H Q E →
      ∃ t, PSs (cxOf CX P w K mg base N qual (defScope st) f (.ref c) A out s H E) (defBody st) t ∧
        t { nx := fun _ H' => Q .non H', rt := Q } (start N vs) H) :
    FnG P w K mg base CX (k + 1) f fd ps sp := by
  obtain ⟨oc, od, kV, doc, pm, an, cdv, ct, osl, rfl, lk, hcd⟩ := F.ex
  obtain rfl : cdv = .ref c := hc
  refine ⟨many, ?_⟩
  intro A out s H ar us vs Q E hg hr e0 hb r hsp
  have hl := many vs H Q E hsp
  have KX : K.In s.heap := e0.mod.kin.keeps (fun b o e => (e0.bs b o e).1)
  have lim : s.heap.NoLimit := e0.mod.nolimit.keeps (fun b o e => (e0.bs b o e).1)
  have kinds : ∀ y ∈ ps.zip us, (defScope st).names.lookup y.1 = some .local ∨
      ((defScope st).names.lookup y.1 = some .cell ∧ ((cellsFrom (s.heap.objs.size + 1) (defScope st).names []).lookup y.1).isSome = true) := by
    rintro ⟨n, v⟩ hy
    rcases S.par n (List.of_mem_zip hy).1 with q | q
    · exact Or.inl q
    · exact Or.inr ⟨q, PySem.W.cellsFrom_some _ _ _ (Or.inl q)⟩
  refine codeAny_call_function hr.depth (KX _ _ lk) rfl S.co S.gen rfl
    (PySem.W.codeRec_of KX hcd) (hb _ _ _ _ ?_)
  refine wpAny_newFunctionEnv_cells S.kind kinds ?_
  intro env he s1 x
  cases he
  refine ⟨lim.keeps x.toInCall.keep, codeAny_func ?_⟩
  obtain ⟨t, ht, hq⟩ := body A out s H vs Q E hg (hr.deeper _) hsp
  have I := inv_start (CX := CX) (E := E) S hr.hd e0 hl r x
  refine wpAny_mono (ht.run [] s1 (start N vs) H _ I hq) ?_ (fun e s' hs => hs)
  intro fl s' hs
  have fin : ∀ {σ' : L2.St} {H' : Hp} {v : V} {u : Value},
      Inv (cxOf CX P w K mg base N qual (defScope st) f (.ref c) A out s H E) [] σ' H' s' →
      RelV v u → Q v H' → CE out P w H s Q u s' := by
    intro σ' H' v u J rv q
    exact ⟨v, H', J.os, J.bare, J.base, J.hok, rv, q⟩
  cases fl with
  | ret u =>
    obtain ⟨v, σ', H', J, rv, q⟩ := hs
    exact fin J rv q
  | next =>
    obtain ⟨σ', H', J, q⟩ := hs
    exact fin (v := V.non) (u := Value.none) J rfl q
  | brk =>
    obtain ⟨σ', H', J, q⟩ := hs
    exact False.elim q
  | cont =>
    obtain ⟨σ', H', J, q⟩ := hs
    exact False.elim q
end
end Gd

set_option Elab.async false
set_option linter.all false
set_option maxRecDepth 100000
set_option maxHeartbeats 4000000
/-! The end of a law with tables of code objects, whose promise is kept where no container is being shown. -/
namespace Gd
open PySem PySem.Spec PyProof.Rows L2 LamX
section
variable {P : Program} {w : World} {K : PySem.W.Frag} {mg mb : Str → Option Value} {CX : CXT} {k : Nat} {fa a : Addr} {cs : List (Addr × Addr)}
  {fd : FuncData} {x : Str} {sp : Sp} {s₁ : Shared} {vs : List Value} {ns : List Int}
/-- an object that is neither a sequence nor an empty record is not tracked where only the script and the tables are -/
theorem untracked {H : Hp} {h : Heap} {b : Addr} {o : Obj} (ha : h.get? a = some { cls := .type "list", data := .seq vs.toArray }) (isT : ∀ b : Addr, b ∈ cs.map (·.2) → h.get? b = some { cls := .none, data := .fields #[] })
    (hA : ∀ b, H b ≠ none → b = a ∨ b ∈ cs.map (·.2)) (e : h.get? b = some o) (h1 : ∀ us n, o.data ≠ .seq us n) (h2 : o.data ≠ .fields #[]) : H b = none := by
  cases q : H b with
  | none => rfl
  | some u =>
    exfalso
    rcases hA b (by rw [q]; simp) with z | z
    · rw [z, ha] at e
      cases e
      exact h1 _ _ rfl
    · rw [isT b z] at e
      cases e
      exact h2 rfl
theorem coreGT (KX : K.In s₁.heap) (hns : s₁.heap.Ns mainGlobals mg) (hb : s₁.heap.Ns builtinsNs mb) (hbb : ∀ x : Str, x ≠ "__name__" → mb x = bootBuiltins x) (hlim : s₁.heap.NoLimit) (hg : s₁.gens = #[])
    (hT : ∀ p ∈ cs, s₁.heap.get? p.2 = some { cls := .none, data := .fields #[] }) (nT : ∀ p ∈ cs, K.lookup p.2 = none) (C : ∀ p ∈ cs, PySem.W.CodeHd s₁.heap p.1 p.2)
    (hbm : ∃ (bm : Addr) (ob : Obj), mg "__builtins__" = some (.ref bm) ∧ bm ≠ builtinsNs ∧ s₁.heap.get? bm = some ob ∧ ob.cls = .type "module" ∧ ob.dict = some builtinsNs ∧ ob.data = .plain)
    (ha : s₁.heap.get? a = some { cls := .type "list", data := .seq vs.toArray }) (hr : Room k callerA)
    (F : ∀ base : Heap, K.In base → base.Ns mainGlobals mg → (∀ p ∈ cs, TabB base mg p.1 p.2) → FnG P w K mg base CX k fa fd [x] sp) (hbind : ∀ (s : Shared) (u : Value), BindsTo s fd ⟨[u], []⟩ [(x, u)])
    (hCX : ∀ H e s', CX [] H s₁ (fun _ _ _ => False) e s' → False)
    (H : Hp) (hH : ∀ p ∈ cs, H p.2 = some (.tbl #[])) (hO : ∀ b, H b = none ∨ b ∈ cs.map (·.2) ∨ ∃ o xs, H b = some (.frz o (.lst xs))) (hsp : sp [.ref a] H (fun v _ => v = .bl true) fun _ _ _ => False)
    (hok : HOk P w H s₁.heap) (hA : ∀ b, H b ≠ none → b = a ∨ b ∈ cs.map (·.2)) (hK : H a ≠ none → K.lookup a = none) :
    codeAny (model P w) callerA (.call (.ref fa) ⟨[.ref a], []⟩) (fun r s' => r = .ok (.ret (.bool true)) ∧ OldK s₁.heap s'.heap ∧ s'.os = s₁.os ∧ AllBare s'.gens) s₁ := by
  have isT : ∀ b : Addr, b ∈ cs.map (·.2) → s₁.heap.get? b = some { cls := .none, data := .fields #[] } := by
    intro b m
    obtain ⟨p, hp, rfl⟩ := List.mem_map.mp m
    exact hT p hp
  have old : ∀ {b : Addr} {o : Obj}, s₁.heap.get? b = some o → H b = none → (hidT s₁.heap H).get? b = some o := by
    intro b o e n
    exact hidT_get e n
  have un0 : ∀ {b : Addr} {o : Obj}, s₁.heap.get? b = some o → (∀ us n, o.data ≠ .seq us n) → o.data ≠ .fields #[] → H b = none := by
    intro b o e h1 h2
    exact untracked ha isT hA e h1 h2
  have nsOf : ∀ {b : Addr} {m : Str → Option Value}, s₁.heap.Ns b m → (hidT s₁.heap H).Ns b m := by
    rintro b m ⟨o, es, ep, e, d, r⟩
    refine ⟨o, es, ep, old e (un0 e ?_ ?_), d, r⟩
    · intro us n z
      rw [d] at z
      cases z
    · intro z
      rw [d] at z
      cases z
  have inB : K.In (hidT s₁.heap H) := by
    intro b o e
    refine old (KX b o e) ?_
    cases q : H b with
    | none => rfl
    | some u =>
      exfalso
      rcases hA b (by rw [q]; simp) with z | z
      · subst z
        rw [hK (by rw [q]; simp)] at e
        cases e
      · obtain ⟨p, hp, ep⟩ := List.mem_map.mp z
        rw [← ep, nT p hp] at e
        cases e
  obtain ⟨mc, l1, l2⟩ := hlim
  have hM : Mod K mg (hidT s₁.heap H) := ⟨inB, nsOf hns, ⟨mb, nsOf hb, hbb⟩, ⟨mc, nsOf l1, l2⟩⟩
  have TB : ∀ p ∈ cs, TabB (hidT s₁.heap H) mg p.1 p.2 := by
    intro p hp
    have at_ := hT p hp
    refine ⟨?_, ?_, ?_⟩
    · obtain ⟨o, us, file, tf, flags, tg, inF, text, tt, e1, r1, r2, r3, rest⟩ := C p hp
      refine ⟨o, us, file, tf, flags, tg, inF, text, tt, old e1 (un0 e1 ?_ ?_), r1, r2, r3, rest⟩
      · intro us n z
        rw [r2] at z
        cases z
      · intro z
        rw [r2] at z
        cases z
        simp at r3
    · obtain ⟨bm, ob, b1, b2, b3, b4, b5, b6⟩ := hbm
      refine ⟨bm, ob, b1, b2, ?_, ?_, old b3 (un0 b3 ?_ ?_), b4, b5, b6⟩
      · intro z
        obtain ⟨o, es, ep, e, d, _⟩ := hns
        subst z
        rw [e] at b3
        cases b3
        rw [d] at b6
        cases b6
      · intro z
        subst z
        rw [at_] at b3
        cases b3
        cases b6
      · intro us n z
        rw [b6] at z
        cases z
      · intro z
        rw [b6] at z
        cases z
    · intro z
      obtain ⟨o, es, ep, e, d, _⟩ := hns
      rw [z, at_] at e
      cases e
      cases d
  have e0 : Env0 P w K mg (hidT s₁.heap H) callerA [] s₁ H := by
    refine ⟨rfl, hM, ?_, Nat.le_of_eq (hidT_size _ _), trivial, ?_, hok, .of_eq hg⟩
    · intro b o e
      exact of_hidT e
    · intro b z
      exact absurd (show b ∈ ([] : List Addr) from z) (by simp)
  have run := (F _ inB (nsOf hns) TB).go callerA [] s₁ H ⟨[.ref a], []⟩ [.ref a] [.ref a] _ _ rfl hr e0 (hbind s₁ (.ref a)) (.cons rfl .nil) hsp
  refine codeAny_mono run ?_
  intro r s' h
  match r, h with
  | .error e, h => exact (hCX H e s' h).elim
  | .ok .next, h => exact False.elim h
  | .ok .brk, h => exact False.elim h
  | .ok .cont, h => exact False.elim h
  | .ok (.ret u), h =>
    obtain ⟨v, H', os, bare, un, hok', rv, q⟩ := h
    obtain rfl : v = .bl true := q
    obtain rfl : u = Value.bool true := rv
    have stays : ∀ b o, b ∉ cs.map (·.2) → s₁.heap.get? b = some o → s'.heap.get? b = some o := by
      intro b o nb e
      cases q : H b with
      | none => exact un.keep b o e q (fun z => absurd (show b ∈ ([] : List Addr) from z) (by simp)) (by simp)
      | some u =>
        rcases hO b with z | z | ⟨ob, xs, z⟩
        · rw [q] at z
          cases z
        · exact absurd z nb
        · obtain ⟨e1, _⟩ := hok b _ z
          obtain ⟨e2, _⟩ := hok' b _ (un.frzs b ob _ z)
          rw [e] at e1
          cases e1
          exact e2
    have more_ : ∀ p ∈ cs, ∃ more : Array Value, s'.heap.get? p.2 = some { cls := .none, data := .fields more } := by
      intro p hp
      obtain ⟨more, z⟩ := un.tbls p.2 #[] (hH p hp)
      exact ⟨_, hok' p.2 _ z⟩
    refine ⟨rfl, ⟨?_, ?_⟩, os, bare⟩
    · intro b o e
      by_cases m : b ∈ cs.map (·.2)
      · obtain ⟨p, hp, ep⟩ := List.mem_map.mp m
        subst ep
        obtain ⟨more, g⟩ := more_ p hp
        rw [hT p hp] at e
        cases e
        exact .inr (.inl ⟨((C p hp).tab (hT p hp)).isCodeTable, rfl, #[], more, rfl, by rw [Array.empty_append]; exact g⟩)
      · exact .inl (stays b o m e)
    · intro b o e
      by_cases m : b ∈ cs.map (·.2)
      · obtain ⟨p, hp, ep⟩ := List.mem_map.mp m
        subst ep
        obtain ⟨more, g⟩ := more_ p hp
        exact ⟨_, g⟩
      · exact ⟨o, stays b o m e⟩
theorem law_callGT (KX : K.In s₁.heap) (hns : s₁.heap.Ns mainGlobals mg) (hb : s₁.heap.Ns builtinsNs mb) (hbb : ∀ x : Str, x ≠ "__name__" → mb x = bootBuiltins x) (hlim : s₁.heap.NoLimit) (hg : s₁.gens = #[])
    (hT : ∀ p ∈ cs, s₁.heap.get? p.2 = some { cls := .none, data := .fields #[] }) (nT : ∀ p ∈ cs, K.lookup p.2 = none) (C : ∀ p ∈ cs, PySem.W.CodeHd s₁.heap p.1 p.2)
    (hbm : ∃ (bm : Addr) (ob : Obj), mg "__builtins__" = some (.ref bm) ∧ bm ≠ builtinsNs ∧ s₁.heap.get? bm = some ob ∧ ob.cls = .type "module" ∧ ob.dict = some builtinsNs ∧ ob.data = .plain)
    (ha : s₁.heap.get? a = some { cls := .type "list", data := .seq vs.toArray }) (hi : IntsAre vs ns) (hl : ns.length ≤ sizeLine) (hr : Room k callerA)
    (F : ∀ base : Heap, K.In base → base.Ns mainGlobals mg → (∀ p ∈ cs, TabB base mg p.1 p.2) → FnG P w K mg base CX k fa fd [x] sp) (hbind : ∀ (s : Shared) (u : Value), BindsTo s fd ⟨[u], []⟩ [(x, u)])
    (hsp : ∀ H : Hp, (∀ p ∈ cs, H p.2 = some (.tbl #[])) → (∀ b, H b = none ∨ b ∈ cs.map (·.2) ∨ ∃ o xs, H b = some (.frz o (.lst xs))) → SqL K H a (ns.map V.int) → sp [.ref a] H (fun v _ => v = .bl true) fun _ _ _ => False)
    (hCX : ∀ H e s', CX [] H s₁ (fun _ _ _ => False) e s' → False) :
    codeAny (model P w) callerA (.call (.ref fa) ⟨[.ref a], []⟩) (fun r s' => r = .ok (.ret (.bool true)) ∧ OldK s₁.heap s'.heap ∧ s'.os = s₁.os ∧ AllBare s'.gens) s₁ := by
  have rv := vals_ints hi
  have lenV := hi.length
  have isT : ∀ b : Addr, b ∈ cs.map (·.2) → s₁.heap.get? b = some { cls := .none, data := .fields #[] } := by
    intro b m
    obtain ⟨p, hp, rfl⟩ := List.mem_map.mp m
    exact hT p hp
  have aT : a ∉ cs.map (·.2) := by
    intro z
    have q := isT a z
    rw [ha] at q
    cases (congrArg Obj.data (Option.some.inj q) : Data.seq vs.toArray _ = Data.fields #[])
  have inT : ∀ p ∈ cs, p.2 ∈ cs.map (·.2) := by
    intro p hp
    exact List.mem_map.mpr ⟨p, hp, rfl⟩
  cases hk : K.lookup a with
  | some o =>
    have e := KX a o hk
    rw [ha] at e
    cases e
    obtain ⟨H, eH⟩ : ∃ H : Hp, H = fun b => if b ∈ cs.map (·.2) then some (.tbl #[]) else none := ⟨_, rfl⟩
    have yes : ∀ b, b ∈ cs.map (·.2) → H b = some (.tbl #[]) := fun b m => by rw [eH]; exact if_pos m
    have no : ∀ b, b ∉ cs.map (·.2) → H b = none := fun b m => by rw [eH]; exact if_neg m
    clear eH
    have hO : ∀ b, H b = none ∨ b ∈ cs.map (·.2) ∨ ∃ o xs, H b = some (.frz o (.lst xs)) := fun b => by
      by_cases m : b ∈ cs.map (·.2)
      · exact .inr (.inl m)
      · exact .inl (no b m)
    refine coreGT KX hns hb hbb hlim hg hT nT C hbm ha hr F hbind hCX H (fun p hp => yes _ (inT p hp)) hO (hsp H (fun p hp => yes _ (inT p hp)) hO ?_) ?_ ?_ (fun z => absurd (no a aT) z)
    · exact .inr ⟨_, vs.toArray, _, hk, rfl, rfl, rfl, by rw [List.size_toArray, lenV]; exact hl, by simpa using rv⟩
    · intro b u z
      by_cases m : b ∈ cs.map (·.2)
      · rw [yes b m] at z
        cases z
        exact isT b m
      · rw [no b m] at z
        cases z
    · intro b z
      by_cases m : b ∈ cs.map (·.2)
      · exact .inr m
      · exact absurd (no b m) z
  | none =>
    obtain ⟨H, eH⟩ : ∃ H : Hp, H = fun b => if b = a then some (.frz { cls := .type "list", data := .seq vs.toArray } (.lst (ns.map V.int))) else if b ∈ cs.map (·.2) then some (.tbl #[]) else none := ⟨_, rfl⟩
    have own : H a = some (.frz { cls := .type "list", data := .seq vs.toArray } (.lst (ns.map V.int))) := by rw [eH]; exact if_pos rfl
    have yes : ∀ b, b ∈ cs.map (·.2) → H b = some (.tbl #[]) := fun b m => by
      rw [eH]
      exact (if_neg (fun z : b = a => aT (by rw [← z]; exact m))).trans (if_pos m)
    have no : ∀ b, b ≠ a → b ∉ cs.map (·.2) → H b = none := fun b n m => by
      rw [eH]
      exact (if_neg n).trans (if_neg m)
    clear eH
    have hO : ∀ b, H b = none ∨ b ∈ cs.map (·.2) ∨ ∃ o xs, H b = some (.frz o (.lst xs)) := fun b => by
      by_cases n : b = a
      · subst n
        exact .inr (.inr ⟨_, _, own⟩)
      · by_cases m : b ∈ cs.map (·.2)
        · exact .inr (.inl m)
        · exact .inl (no b n m)
    refine coreGT KX hns hb hbb hlim hg hT nT C hbm ha hr F hbind hCX H (fun p hp => yes _ (inT p hp)) hO (hsp H (fun p hp => yes _ (inT p hp)) hO ?_) ?_ ?_ (fun _ => hk)
    · exact .inl (.inr ⟨{ cls := .type "list", data := .seq vs.toArray }, own⟩)
    · intro b u z
      by_cases n : b = a
      · subst n
        rw [own] at z
        cases z
        exact ⟨ha, by rw [List.length_map]; exact hl, vs, _, rv, ha⟩
      · by_cases m : b ∈ cs.map (·.2)
        · rw [yes b m] at z
          cases z
          exact isT b m
        · rw [no b n m] at z
          cases z
    · intro b z
      by_cases n : b = a
      · exact .inl n
      · by_cases m : b ∈ cs.map (·.2)
        · exact .inr m
        · exact absurd (no b n m) z
end
/-- what is known of the law's promise at the head's heap -/
def LawG (l : PySem.W.OpenLaw) (w : World) (K : PySem.W.Frag) (CX : CXT) (k n : Nat) (x : Str) (mg : Str → Option Value) (fa : Addr) (h : Heap) : Prop :=
  ∃ (fd : FuncData) (cs : List (Addr × Addr)) (sp : Sp), (∀ p ∈ cs, h.get? p.2 = some { cls := .none, data := .fields #[] }) ∧ (∀ p ∈ cs, K.lookup p.2 = none) ∧ (∀ p ∈ cs, PySem.W.CodeHd h p.1 p.2) ∧
    (∀ (s : Shared) (u : Value), BindsTo s fd ⟨[u], []⟩ [(x, u)]) ∧
    (∀ (H : Hp) (a : Addr) (ns : List Int), ns.length ≤ n → (∀ z ∈ ns, Builtin.Int.intBits z ≤ 1048576) → (∀ p ∈ cs, H p.2 = some (.tbl #[])) → (∀ b, H b = none ∨ b ∈ cs.map (·.2) ∨ ∃ o xs, H b = some (.frz o (.lst xs))) → SqL K H a (ns.map V.int) →
      sp [.ref a] H (fun v _ => v = .bl true) fun _ _ _ => False) ∧
    ∀ base : Heap, K.In base → base.Ns mainGlobals mg → (∀ p ∈ cs, TabB base mg p.1 p.2) → FnG l.prog w K mg base CX k fa fd [x] sp
theorem walkGT {l : PySem.W.OpenLaw} {n k : Nat} {q : Program} {loose : List Str} {XP : (Str → Option Value) → Heap → Prop} {YP : World → Heap → Prop} {d : DefRec} {K : Params → PySem.W.Frag} {CX : World → CXT} {x : Str}
    (hn : l.most = some n) (hn2 : n ≤ sizeLine) (hdf : d.params.defaults = []) (hr : Room k callerA) (hY : ∀ (w : World) (h : Heap), YP w h → (K w.params).In h)
    (F : ∀ (w : World) (mg : Str → Option Value) (fa : Addr) (h : Heap), YP w h → (K w.params).In h → h.Ns mainGlobals mg → mg d.name = some (.ref fa) → LawG l w (K w.params) (CX w) k n x mg fa h)
    (hCX : ∀ (w : World) (H : Hp) (s : Shared) (e : Value) (s' : Shared), CX w [] H s (fun _ _ _ => False) e s' → False) :
    PySem.W.WalkO q loose XP YP l.row.toRowW d [] (fun f vs => PySem.call f vs) := by
  refine Att.attach_callB hn hdf ?_
  intro w s₀ s₁ mg mb fa o pm cd doc a vs ns G Y ho hd hcd hmg hobj hints hlen hbits hg
  obtain ⟨fd, cs, sp, hT, nT, C, hb, hsp, hF⟩ := F w mg fa _ Y (hY w _ Y) G.T.g hmg
  exact law_callGT (hY w _ Y) G.T.g G.T.b G.T.builtins G.T.nolimit hg hT nT C G.T.bmain hobj hints (Nat.le_trans hlen hn2) hr hF hb (fun H hH hO hS => hsp H a ns hlen hbits hH hO hS) fun H e s' => hCX w H s₁ e s'
end Gd

set_option Elab.async false
set_option linter.all false
set_option maxRecDepth 100000
set_option maxHeartbeats 4000000
/-! Readings, step by step: one lemma a word of the readings, and a tactic that goes as far as nothing is asked. -/
namespace Gd
open PySem PySem.Spec PyProof.Rows L2
section
variable {σ : L2.St} {H : Hp} {Q : VK} {QA : List V → Hp → Prop} {QT : Bool → Hp → Prop} {D : Ends} {te ta tb tc to : TE} {t u : TT} {tr : TA} {s1 s2 : TS} {v : V} {i : Nat} {K : PySem.W.Frag}
theorem g_var (h : σ[i]? = some (some v)) (k : Q v H) : tVar i σ H Q := ⟨v, h, k⟩
theorem g_c (k : Q v H) : tC v σ H Q := k
theorem g_ret (k : te σ H D.rt) : tRet te D σ H := k
theorem g_retN (k : D.rt .non H) : tRetN D σ H := k
theorem g_seq (k : s1 { D with nx := s2 D } σ H) : tSeq s1 s2 D σ H := k
theorem g_next (k : D.nx σ H) : tNext D σ H := k
theorem g_drop (k : te σ H fun _ H1 => D.nx σ H1) : tDrop te D σ H := k
theorem g_asg {g : TG} (k : te σ H fun x H1 => g x σ H1 D.nx) : tAsg te g D σ H := k
theorem g_name {Qs : L2.St → Hp → Prop} (k : Qs (σ.set i (some v)) H) : gName i v σ H Qs := k
theorem g_ifs (k : t σ H fun b H1 => if b = true then s1 D σ H1 else s2 D σ H1) : tIfS t s1 s2 D σ H := k
theorem g_test (k : te σ H fun x H' => ∃ c, x = .bl c ∧ QT c H') : tTest te σ H QT := k
theorem g_tb (k : te σ H fun x H' => ∃ c, x = .bl c ∧ QT c H') : tB te σ H QT := k
theorem g_and (k : t σ H fun c H1 => if c = true then u σ H1 QT else QT false H1) : tAnd t u σ H QT := k
theorem g_or (k : t σ H fun c H1 => if c = true then QT true H1 else u σ H1 QT) : tOr t u σ H QT := k
theorem g_not (k : t σ H fun c H1 => QT (!c) H1) : tNot t σ H QT := k
theorem g_andV (k : ta σ H fun x H1 => ∃ c, x = .bl c ∧ if c = true then tb σ H1 Q else Q (.bl false) H1) : tAndV ta tb σ H Q := k
theorem g_orV (k : ta σ H fun x H1 => ∃ c, x = .bl c ∧ if c = true then Q (.bl true) H1 else tb σ H1 Q) : tOrV ta tb σ H Q := k
theorem g_notV (k : ta σ H fun x H1 => ∃ c, x = .bl c ∧ Q (.bl (!c)) H1) : tNotV ta σ H Q := k
theorem g_if (k : t σ H fun c H1 => if c = true then ta σ H1 Q else tb σ H1 Q) : tIf t ta tb σ H Q := k
theorem g_op {r : R2} (k : ta σ H fun x H1 => tb σ H1 fun y H2 => r x y H2 Q) : tOp r ta tb σ H Q := k
theorem g_un {r : V → Hp → VK → Prop} (k : ta σ H fun x H1 => r x H1 Q) : tUn r ta σ H Q := k
theorem g_cb {r : List V → Hp → VK → Prop} (k : tr σ H fun vs H1 => r vs H1 Q) : tCB r tr σ H Q := k
theorem g_nil (k : QA [] H) : tNil σ H QA := k
theorem g_cons (k : ta σ H fun x H1 => tr σ H1 fun xs H2 => QA (x :: xs) H2) : tCons ta tr σ H QA := k
theorem g_call {sp : Sp} {dvs : List V} {E : XK} (k : tr σ H fun vs H1 => sp (vs ++ dvs) H1 Q E) : tCall sp dvs E tr σ H Q := k
theorem g_callS {sp : Sp} {E : L2.St → XK} (k : tr σ H fun vs H1 => sp vs H1 Q (E σ)) : tCallS sp E tr σ H Q := k
theorem g_tup (k : tr σ H fun xs H1 => xs.length ≤ sizeLine ∧ ∀ p, H1 p = none → Q (.ref p) (upd H1 p (.tup xs))) : tTup tr σ H Q := k
theorem g_lst (k : tr σ H fun xs H1 => xs.length ≤ sizeLine ∧ ∀ p, H1 p = none → Q (.ref p) (upd H1 p (.lst xs))) : tLst tr σ H Q := k
theorem g_isN (k : ta σ H fun x H1 => Q (.bl (decide (x = .non))) H1) : tIsN ta σ H Q := k
theorem g_sl {r : V → Option Int → Option Int → Hp → VK → Prop} {tl th : TO} (k : te σ H fun x H1 => tl σ H1 fun l H2 => th σ H2 fun u H3 => r x l u H3 Q) : tSl r te tl th σ H Q := k
theorem g_nopart {Qo : Option Int → Hp → Prop} (k : Qo none H) : tNoPart σ H Qo := k
theorem g_part {Qo : Option Int → Hp → Prop} (k : te σ H fun x H1 => ∃ i, x = .int i ∧ Qo (some i) H1) : tPart te σ H Qo := k
theorem g_chain {r r' : R2} (k : ta σ H fun x H1 => tb σ H1 fun y H2 => r x y H2 fun z H3 => ∃ c, z = .bl c ∧
    if c = true then tc σ H3 fun w H4 => r' y w H4 Q else Q (.bl false) H3) : tChain r r' ta tb tc σ H Q := by
  exact k
theorem g_fld {f : Str} (k : ta σ H fun x H1 => ∃ a C dx fs v, x = .ref a ∧ H1 a = some (.ins C dx fs) ∧ Cls K C ∧ NoAttr K C f ∧ fs.lookup f = some v ∧ Q v H1) : tFld K ta f σ H Q := k
theorem g_prop {C : Addr} {sp : Sp} {dvs : List V} {E : XK} (k : ta σ H fun x H1 => ∃ a dx fs, x = .ref a ∧ H1 a = some (.ins C dx fs) ∧ sp (.ref a :: dvs) H1 Q E) : tProp C sp dvs E ta σ H Q := k
theorem g_bm {T : String} {r : V → List V → Hp → VK → Prop} (k : to σ H fun x H1 => tyV K T x H1 ∧ tr σ H1 fun xs H2 => r x xs H2 Q) : tBM K T r to tr σ H Q := k
theorem g_bm0 {T : String} {r : V → List V → Hp → VK → Prop} (k : to σ H fun x H1 => tyV K T x H1 ∧ r x [] H1 Q) : tBM0 K T r to σ H Q := k
theorem g_tru {r : V → Hp → (Bool → Hp → Prop) → Prop} (k : te σ H fun x H' => r x H' QT) : (fun (σ : L2.St) (H : Hp) (Q : Bool → Hp → Prop) => te σ H fun x H' => r x H' Q) σ H QT := k
-- values
theorem g_I0 {g : Int → Int → V} {a b : Int} (k : Q (g a b) H) : rI0 g (.int a) (.int b) H Q := ⟨a, b, rfl, rfl, k⟩
theorem g_I {C : Int → Int → Prop} {g : Int → Int → V} {a b : Int} (c : C a b) (k : Q (g a b) H) : rI C g (.int a) (.int b) H Q := ⟨a, b, rfl, rfl, c, k⟩
theorem g_U {g : Int → V} {a : Int} (k : Q (g a) H) : rU g (.int a) H Q := ⟨a, rfl, k⟩
theorem g_eqI {a b : Int} (k : Q (.bl (decide (a = b))) H) : rEq (.int a) (.int b) H Q := by
  refine ⟨rfl, ?_⟩
  have e : (V.int a = V.int b) = (a = b) := by simp
  simpa [e] using k
theorem g_eq {x y : V} (s : scal x y = true) (k : Q (.bl (decide (x = y))) H) : rEq x y H Q := ⟨s, k⟩
theorem g_ne {x y : V} (s : scal x y = true) (k : Q (.bl (!decide (x = y))) H) : rNe x y H Q := ⟨s, k⟩
theorem g_bl {b : Bool} (k : QT b H) : ∃ c, (V.bl b) = .bl c ∧ QT c H := ⟨b, rfl, k⟩
theorem g_blV {b : Bool} {A : Bool → Prop} (k : A b) : ∃ c, (V.bl b) = .bl c ∧ A c := ⟨b, rfl, k⟩
theorem g_inV {a : Int} {A : Int → Prop} (k : A a) : ∃ c, (V.int a) = .int c ∧ A c := ⟨a, rfl, k⟩
theorem g_ixT {p : Addr} {xs : List V} {a : Int} (h : SqT K H p xs) (e : atI xs a = some v) (k : Q v H) : rIxT K (.ref p) (.int a) H Q := ⟨p, xs, a, v, rfl, rfl, h, e, k⟩
theorem g_ixL {p : Addr} {xs : List V} {a : Int} (h : SqL K H p xs) (e : atI xs a = some v) (k : Q v H) : rIxL K (.ref p) (.int a) H Q := ⟨p, xs, a, v, rfl, rfl, h, e, k⟩
end

/-- the turn's end: the invariant again, the measure less -/
abbrev Turn (Pv : L2.St → Hp → Prop) (μ : L2.St → Hp → Nat) (m : Nat) : L2.St → Hp → Prop := fun σ' H' => Pv σ' H' ∧ μ σ' H' < m
theorem g_while {c : TT} {tb : TS} {D : Ends} {σ : L2.St} {H : Hp} (Pv : L2.St → Hp → Prop) (μ : L2.St → Hp → Nat) (h0 : Pv σ H)
    (hs : ∀ σ H, Pv σ H → c σ H fun b H1 => if b = true then ∃ N : L2.St → Hp → Prop, (∀ σ' H', N σ' H' → ∃ m', m' < μ σ H ∧ m' = μ σ' H' ∧ Pv σ' H') ∧
      tb { D with nx := N, ct := N, bk := D.nx } σ H1 else D.nx σ H1) : tWhile c tb D σ H := by
  refine ⟨fun m σ H => m = μ σ H ∧ Pv σ H, ⟨_, rfl, h0⟩, ?_⟩
  rintro m σ H ⟨rfl, p⟩
  exact hs σ H p
theorem g_turn {tb : TS} {D : Ends} {σ : L2.St} {H H1 : Hp} {Pv : L2.St → Hp → Prop} {μ : L2.St → Hp → Nat}
    (h : tb { D with nx := Turn Pv μ (μ σ H), ct := Turn Pv μ (μ σ H), bk := D.nx } σ H1) :
    ∃ N : L2.St → Hp → Prop, (∀ σ' H', N σ' H' → ∃ m', m' < μ σ H ∧ m' = μ σ' H' ∧ Pv σ' H') ∧ tb { D with nx := N, ct := N, bk := D.nx } σ H1 :=
  ⟨Turn Pv μ (μ σ H), fun σ' H' n => ⟨_, n.2, rfl, n.1⟩, h⟩
theorem g_aug {σ : L2.St} {H : Hp} {D : Ends} {i : Nat} {te : TE} {ti : TIp} {x : V} (h : σ[i]? = some (some x)) (k : te σ H fun y H1 => ti x y H1 fun z H2 => D.nx (σ.set i (some z)) H2) : tAug i te ti D σ H := ⟨x, h, k⟩
theorem tyT {K : PySem.W.Frag} {H : Hp} {a : Addr} {xs : List V} (h : SqT K H a xs) : TyX K H (.ref a) (.type "tuple") := by
  rcases h with (h | ⟨o, h⟩) | ⟨o, its, n, h, c, _⟩
  · exact .base (.tup h)
  · exact .fTuple h
  · exact .kTuple h c
theorem tyL {K : PySem.W.Frag} {H : Hp} {a : Addr} {xs : List V} (h : SqL K H a xs) : TyX K H (.ref a) (.type "list") ∨ ∃ o, K.lookup a = some o := by
  rcases h with (h | ⟨o, h⟩) | ⟨o, its, n, h, c, _⟩
  · exact .inl (.base (.lst h))
  · exact .inl (.base (.frz h))
  · exact .inr ⟨o, h⟩

theorem g_yes {σ : L2.St} {H : Hp} {Q : Bool → Hp → Prop} (k : Q true H) : tYes σ H Q := k
theorem g_sfld {σ : L2.St} {H : Hp} {D : Ends} {K : PySem.W.Frag} {ta te : TE} {f : Str} (k : te σ H fun y H1 => ta σ H1 fun x H2 => ∃ a C dx fs, x = .ref a ∧ H2 a = some (.ins C dx fs) ∧ Cls K C ∧ NoAttr K C f ∧
    fs.length < 1000 ∧ D.nx σ (upd H2 a (.ins C dx (putF f y fs)))) : sFld K ta te f D σ H := k
theorem g_int1 {a : Int} {A : Int → Prop} (k : A a) : ∃ i, [V.int a] = [V.int i] ∧ A i := ⟨a, rfl, k⟩
theorem g_int2 {a b : Int} {A : Int → Int → Prop} (k : A a b) : ∃ i j, [V.int a, V.int b] = [V.int i, V.int j] ∧ A i j := ⟨a, b, rfl, k⟩
theorem g_sub {σ : L2.St} {H : Hp} {Qs : L2.St → Hp → Prop} {to ti : TE} {t : TSet} {v : V} (k : to σ H fun o H1 => ti σ H1 fun i H2 => t o i v H2 fun H3 => Qs σ H3) : gSub to ti t v σ H Qs := k
theorem g_NT {A B : Prop} (h : B) : if (!true) = true then A else B := h
theorem g_NF {A B : Prop} (h : A) : if (!false) = true then A else B := h
end Gd

set_option Elab.async false
set_option linter.all false
set_option maxRecDepth 100000
set_option maxHeartbeats 4000000
/-! More readings. -/
namespace Gd
open PySem PySem.Spec PyProof.Rows L2
theorem g_forR {ta : TA} {g : TG} {tb : TS} {D : Ends} {σ : L2.St} {H : Hp} (k : ta σ H fun vs H1 => ∃ j : Int, vs = [.int j] ∧ -(2 ^ 62) ≤ j ∧ j < 2 ^ 62 ∧ ∃ W : Nat → Nat → L2.St → Hp → Prop, (∃ m, W 0 m σ H1) ∧ ∀ i m σ H, W i m σ H →
  ((Itr 0 j.toNat).stop i H ∧ D.nx σ H) ∨ ((Itr 0 j.toNat).go i H ∧ ∃ N : L2.St → Hp → Prop, (∀ σ' H', N σ' H' → ∃ m', m' < m ∧ W (i + 1) m' σ' H') ∧ ∀ x H', (Itr 0 j.toNat).yld i H x H' → g x σ H' fun σ2 H2 => tb { D with nx := N, ct := N, bk := D.nx } σ2 H2)) :
    tFor (iRng1 ta) g tb D σ H := k
theorem g_ifV {c : Bool} {ta tb : TE} {σ : L2.St} {H : Hp} {Q : VK} (v : V) (ha : c = true → ∀ Q' : VK, Q' v H → ta σ H Q') (hb : c = false → ∀ Q' : VK, Q' v H → tb σ H Q') (k : Q v H) : if c = true then ta σ H Q else tb σ H Q := by
  cases c with
  | true => exact ha rfl Q k
  | false => exact hb rfl Q k
theorem g_neS {x : Str} {H : Hp} {Q : VK} (k : Q (.bl false) H) : rNe (.str x) (.str x) H Q := ⟨rfl, by simpa using k⟩
theorem g_ixO {C : Addr} {sp : Sp} {E : L2.St → XK} {ta tb : TE} {σ : L2.St} {H : Hp} {Q : VK} (k : ta σ H fun x H1 => tb σ H1 fun y H2 => ∃ p dx fs, x = .ref p ∧ H2 p = some (.ins C dx fs) ∧ sp [x, y] H2 Q (E σ)) : tIxO C sp E ta tb σ H Q := k
/-- a place that is reached from more than one side -/
theorem g_cut {s1 s2 : TS} {D : Ends} {σ : L2.St} {H : Hp} (N : L2.St → Hp → Prop) (hN : ∀ σ' H', N σ' H' → s2 D σ' H') (k : (∀ σ' H', N σ' H' → s2 D σ' H') → s1 { D with nx := s2 D } σ H) : tSeq s1 s2 D σ H := k hN
theorem g_eqS {x : Str} {H : Hp} {Q : VK} (k : Q (.bl true) H) : rEq (.str x) (.str x) H Q := ⟨rfl, by simpa using k⟩
theorem g_par {i j : Nat} {ta : TA} {D : Ends} {σ : L2.St} {H : Hp} (k : ta σ H fun vs H1 => ∃ v w, vs = [v, w] ∧ D.nx ((σ.set i (some v)).set j (some w)) H1) : tPar i j ta D σ H := k
theorem g_make {C : Addr} {sp : Sp} {dvs : List V} {E : XK} {t : TA} {σ : L2.St} {H : Hp} {Q : VK} (k : t σ H fun vs H1 => ∀ x dx, H1 x = none → H1 dx = none → dx ≠ x →
  sp (.ref x :: (vs ++ dvs)) (upd (upd H1 dx (.own x)) x (.ins C dx [])) (fun v H2 => v = .non ∧ Q (.ref x) H2) E) : tMake C sp dvs E t σ H Q := k
end Gd

set_option Elab.async false
set_option linter.all false
set_option maxRecDepth 100000
set_option maxHeartbeats 4000000
/-! Readings by name, for the bodies of comprehensions. -/
namespace Gd
open PySem PySem.Spec PyProof.Rows L2
def rLenS (K : PySem.W.Frag) : List V → Hp → VK → Prop := fun xs H Q => ∃ p ys, xs = [.ref p] ∧ (SqL K H p ys ∨ SqT K H p ys) ∧ Q (.int (ys.length : Int)) H
def rListOf (K : PySem.W.Frag) : List V → Hp → VK → Prop := fun xs H Q => ∃ p ys, xs = [.ref p] ∧ (SqL K H p ys ∨ SqT K H p ys) ∧ ∀ l, H l = none → Q (.ref l) (upd H l (.lst ys))
def rTupOf (K : PySem.W.Frag) : List V → Hp → VK → Prop := fun xs H Q => ∃ p ys, xs = [.ref p] ∧ ((SqL K H p ys ∧ ∀ l, H l = none → Q (.ref l) (upd H l (.tup ys))) ∨ (SqT K H p ys ∧ Q (.ref p) H))
theorem call_lenS {X : Cx} : CallR X (.builtin "len") (rLenS X.K) := call_len_seq
theorem call_listS {X : Cx} : CallR X (.type "list") (rListOf X.K) := call_list_of
theorem call_tupS {X : Cx} : CallR X (.type "tuple") (rTupOf X.K) := call_tuple_of
end Gd

set_option Elab.async false
set_option linter.all false
set_option maxRecDepth 100000
set_option maxHeartbeats 4000000
/-! Heaps that grow; comprehensions told as maps. -/
namespace Q0

open PySem PySem.Spec PyProof.Rows L2 Gd
open LamX (ExtN)

local macro_rules | `(tactic| walk_at "rd1") => `(tactic| first | with_reducible refine g_ret ?_ | with_reducible refine g_retN ?_ | with_reducible refine g_seq ?_ | with_reducible refine g_next ?_ | with_reducible refine g_drop ?_ | with_reducible refine g_asg ?_ | with_reducible refine g_name ?_ | with_reducible refine g_ifs ?_ | with_reducible refine g_test ?_ | with_reducible refine g_tb ?_ | with_reducible refine g_and ?_ | with_reducible refine g_or ?_ | with_reducible refine g_not ?_ | with_reducible refine g_andV ?_ | with_reducible refine g_orV ?_ | with_reducible refine g_notV ?_ | with_reducible refine g_if ?_ | with_reducible refine g_op ?_ | with_reducible refine g_un ?_ | with_reducible refine g_cb ?_ | with_reducible refine g_nil ?_ | with_reducible refine g_cons ?_ | with_reducible refine g_call ?_ | with_reducible refine g_callS ?_ | with_reducible refine g_tup ?_ | with_reducible refine g_lst ?_ | with_reducible refine g_isN ?_ | with_reducible refine g_sl ?_ | with_reducible refine g_nopart ?_ | with_reducible refine g_part ?_ | with_reducible refine g_chain ?_ | with_reducible refine g_fld ?_ | with_reducible refine g_prop ?_ | with_reducible refine g_bm ?_ | with_reducible refine g_bm0 ?_ | with_reducible refine g_c ?_ | with_reducible refine g_sub ?_ | with_reducible refine g_int1 ?_ | with_reducible refine g_int2 ?_ | with_reducible refine g_yes ?_ | with_reducible refine g_sfld ?_ | with_reducible refine g_NT ?_ | with_reducible refine g_NF ?_ | with_reducible refine iteT ?_ | with_reducible refine iteF ?_ | ((with_reducible refine' g_aug ?hv ?_); (case hv => exact rfl)) | ((with_reducible refine' g_var ?hv ?_); (case hv => exact rfl)) | with_reducible refine g_I0 ?_ | with_reducible refine g_U ?_ | with_reducible refine g_eqI ?_ | with_reducible refine g_blV ?_ | with_reducible refine g_inV ?_)
local macro_rules | `(tactic| walk_at "rd") => `(tactic| repeat walk_at "rd1")

section
open PySem PySem.Spec PyProof.Rows L2 Gd
open LamX (ExtN)
def Ext (H H' : Hp) : Prop := ∀ b o, H b = some o → H' b = some o
theorem Ext.rfl' {H : Hp} : Ext H H := fun _ _ h => h
theorem Ext.new {H : Hp} {p : Addr} {o : HO} (h : H p = none) : Ext H (upd H p o) := fun b u e => by
  rw [upd_ne (ne_of_none e h)]
  exact e
theorem Ext.trans {H H1 H2 : Hp} (a : Ext H H1) (b : Ext H1 H2) : Ext H H2 := fun c o h => b c o (a c o h)
def ExtBut (p : Addr) (H H' : Hp) : Prop := ∀ b o, b ≠ p → H b = some o → H' b = some o
theorem ExtBut.trans {d : Addr} {H H1 H2 : Hp} (a : ExtBut d H H1) (b : ExtBut d H1 H2) : ExtBut d H H2 := fun x o n h => b x o n (a x o n h)
theorem ExtBut.of {d : Addr} {H H1 : Hp} (a : Ext H H1) : ExtBut d H H1 := fun x o _ h => a x o h
section
variable {K : PySem.W.Frag} {H H' : Hp} {a d : Addr} {xs ys : List V}
theorem sqT_ext (e : Ext H H') (h : SqT K H a xs) : SqT K H' a xs := by
  rcases h with (h | ⟨o, h⟩) | h
  · exact .inl (.inl (e _ _ h))
  · exact .inl (.inr ⟨o, e _ _ h⟩)
  · exact .inr h
theorem sqL_ext (e : Ext H H') (h : SqL K H a xs) : SqL K H' a xs := by
  rcases h with (h | ⟨o, h⟩) | h
  · exact .inl (.inl (e _ _ h))
  · exact .inl (.inr ⟨o, e _ _ h⟩)
  · exact .inr h
theorem sqT_but (e : ExtBut d H H') (n : a ≠ d) (h : SqT K H a xs) : SqT K H' a xs := by
  rcases h with (h | ⟨o, h⟩) | h
  · exact .inl (.inl (e _ _ n h))
  · exact .inl (.inr ⟨o, e _ _ n h⟩)
  · exact .inr h
theorem sqL_but (e : ExtBut d H H') (n : a ≠ d) (h : SqL K H a xs) : SqL K H' a xs := by
  rcases h with (h | ⟨o, h⟩) | h
  · exact .inl (.inl (e _ _ n h))
  · exact .inl (.inr ⟨o, e _ _ n h⟩)
  · exact .inr h
/-- a tuple beside a list that changes -/
theorem sqT_butL (hd : H d = some (.lst ys)) (e : ExtBut d H H') (h : SqT K H a xs) : SqT K H' a xs := by
  rcases h with (h | ⟨o, h⟩) | h
  · exact .inl (.inl (e _ _ (fun z => by rw [z, hd] at h; cases h) h))
  · exact .inl (.inr ⟨o, e _ _ (fun z => by rw [z, hd] at h; cases h) h⟩)
  · exact .inr h
theorem new_ne {o : HO} (h : H a = some o) (n : H d = none) : d ≠ a := fun z => by
  rw [z, h] at n
  cases n
theorem new_up (e : Ext H H') (h : H' d = none) : H d = none := by
  cases q : H d with
  | none => rfl
  | some o =>
    have := e _ _ q
    rw [h] at this
    cases this
theorem mapget {α : Type} {ns : List α} {f : α → V} {i : Nat} : (ns.map f)[i]? = (ns[i]?).map f := List.getElem?_map
end
/-! ### texts kept small: the frame's own K, and what comes behind a turn as a letter -/
theorem cx_nox (X : Cx) : X.nox.K = X.K := rfl
theorem cx_K {CX : CXT} {P : Program} {w : World} {K : PySem.W.Frag} {mg : Str → Option Value} {base : Heap} {N : List Str} {q : Str} {sc : Scope} {f : Addr} {cd : Value} {A : Around} {o : List Env} {s : Shared} {H : Hp} {E : XK} : (cxOf CX P w K mg base N q sc f cd A o s H E).K = K := rfl
theorem g_gen {tb : TS} {D : Ends} {σ : L2.St} {H : Hp} (h : ∀ D' : Ends, (∀ σ H, D.nx σ H → D'.nx σ H) → (∀ v H, D.rt v H → D'.rt v H) → tb D' σ H) : tb D σ H := h D (fun _ _ z => z) fun _ _ z => z
/-! ### comprehensions -/
section
variable {J : It} {n : Nat} {G : Hp → Prop} {Y : Nat → Hp → V → Hp → Prop} {g : TG} {tt : TT} {te : TE} {vs : List Nat} {σ : L2.St} {H1 : Hp} {D : Addr} {Qd : Hp → Prop}
/-- the indices that are taken -/
def idx (c : Nat → Bool) (n : Nat) : List Nat := (List.range n).filter c
theorem idx_succ (c : Nat → Bool) (n : Nat) : idx c (n + 1) = if c n then idx c n ++ [n] else idx c n := by
  unfold idx
  rw [List.range_succ, List.filter_append]
  cases h : c n <;> simp [h]
theorem idx_len (c : Nat → Bool) (n : Nat) : (idx c n).length ≤ n := by
  have := List.length_filter_le c (List.range n)
  rw [List.length_range] at this
  exact this
/-- results that stand in a relation to the turn -/
def Rel (R : Nat → V → Hp → Prop) (is : List Nat) (ys : List V) (H : Hp) : Prop := is.length = ys.length ∧ ∀ (j i : Nat) (y : V), is[j]? = some i → ys[j]? = some y → R i y H
/-- what a relation says stays where nothing but lists at one place change -/
def Mono (R : Nat → V → Hp → Prop) : Prop := ∀ i y D ys H H', (H D = none ∨ H D = some (.lst ys)) → ExtBut D H H' → R i y H → R i y H'
theorem Mono.ext {R : Nat → V → Hp → Prop} (mono : Mono R) {i : Nat} {y : V} {H H' : Hp} (e : Ext H H') (h : R i y H) (D : Addr) (ys : List V) (hd : H D = none ∨ H D = some (.lst ys)) : R i y H' := mono i y D ys H H' hd (ExtBut.of e) h
theorem Rel.ext {R : Nat → V → Hp → Prop} (mono : ∀ i y H H', Ext H H' → R i y H → R i y H') {is : List Nat} {ys : List V} {H H' : Hp} (e : Ext H H') (h : Rel R is ys H) : Rel R is ys H' := ⟨h.1, fun j i y a b => mono i y H H' e (h.2 j i y a b)⟩
theorem Rel.snoc {R : Nat → V → Hp → Prop} {is : List Nat} {ys : List V} {H : Hp} {i : Nat} {y : V} (h : Rel R is ys H) (hy : R i y H) : Rel R (is ++ [i]) (ys ++ [y]) H := by
  refine ⟨by rw [List.length_append, List.length_append, h.1]; rfl, fun j i' y' a b => ?_⟩
  by_cases hj : j < is.length
  · rw [List.getElem?_append_left hj] at a
    rw [List.getElem?_append_left (by rw [← h.1]; exact hj)] at b
    exact h.2 j i' y' a b
  · rw [List.getElem?_append_right (by omega)] at a
    rw [List.getElem?_append_right (by rw [← h.1]; omega), ← h.1] at b
    cases q : j - is.length with
    | zero =>
      rw [q] at a b
      cases a
      cases b
      exact hy
    | succ m =>
      rw [q] at a
      cases a
theorem lc_rel (w : Walk J n G Y) (R : Nat → V → Hp → Prop) (c : Nat → Bool) (mono : Mono R) (hD : H1 D = none) (hG : ∀ H', Ext H1 H' → G H') (sz : n < sizeLine)
    (body : ∀ i x H' H'', i < n → Ext H1 H' → Y i H' x H'' → ∀ (Qe : VK) (Qn : Hp → Prop), (∀ y H3, Ext H' H3 → R i y H3 → c i = true → Qe y H3) → (∀ H3, Ext H' H3 → c i = false → Qn H3) →
      g x (wipe σ vs) H'' fun σ2 H2 => wipe σ2 vs = wipe σ vs ∧ tt σ2 H2 fun b H3 => if b = true then te σ2 H3 Qe else Qn H3)
    (k : ∀ H' ys, Ext H1 H' → H' D = some (.lst ys) → Rel R (idx c n) ys H' → Qd H') :
    ∃ W : Nat → Nat → Hp → Prop, (∃ m, W 0 m (upd H1 D (.lst []))) ∧ ∀ i m H, W i m H →
      (J.stop i H ∧ Qd H) ∨ (J.go i H ∧ ∃ Nx : Hp → Prop, (∀ H', Nx H' → ∃ m', m' < m ∧ W (i + 1) m' H') ∧ ∀ x H', J.yld i H x H' → g x (wipe σ vs) H' fun σ2 H2 => wipe σ2 vs = wipe σ vs ∧ tt σ2 H2 fun b H3 =>
        if b = true then te σ2 H3 fun y H4 => ∃ acc, H4 D = some (.lst acc) ∧ acc.length < sizeLine ∧ Nx (upd H4 D (.lst (acc ++ [y]))) else Nx H3) := by
  refine lc_it w (fun i H' => ∃ ys, Ext H1 H' ∧ H' D = some (.lst ys) ∧ Rel R (idx c i) ys H') ⟨[], Ext.new hD, upd_same, rfl, fun j i y h => by cases h⟩ (fun i H' _ ⟨ys, e, _⟩ => hG H' e) ?_ ?_
  · rintro i x H' H'' hi ⟨ys, e, hd, hr⟩ hy
    have hys : ys.length < sizeLine := by
      have := idx_len c i
      have := hr.1
      omega
    refine body i x H' H'' hi e hy _ _ (fun y H3 e3 hR hc => ⟨ys, e3 _ _ hd, hys, ys ++ [y], ?_, upd_same, ?_⟩) (fun H3 e3 hc => ⟨ys, Ext.trans e e3, e3 _ _ hd, ?_⟩)
    · intro b o q
      rw [upd_ne (ne_of_none q hD)]
      exact e3 _ _ (e b o q)
    · rw [idx_succ, hc, if_pos rfl]
      have h3 : H3 D = some (.lst ys) := e3 _ _ hd
      have eB : ExtBut D H3 (upd H3 D (.lst (ys ++ [y]))) := fun b o n q => by
        rw [upd_ne n]
        exact q
      refine Rel.snoc ⟨hr.1, fun j i' y' a b => ?_⟩ (mono _ _ D ys _ _ (.inr h3) eB hR)
      exact mono _ _ D ys _ _ (.inr h3) eB (mono _ _ D ys _ _ (.inr hd) (ExtBut.of e3) (hr.2 j i' y' a b))
    · rw [idx_succ, hc, if_neg (by decide)]
      exact ⟨hr.1, fun j i' y' a b => mono _ _ D ys _ _ (.inr hd) (ExtBut.of e3) (hr.2 j i' y' a b)⟩
  · rintro H' ⟨ys, e, hd, hr⟩
    exact k H' ys e hd hr
theorem mono_fun (f : Nat → V) : Mono (fun i y _ => y = f i) := fun _ _ _ _ _ _ _ _ h => h
theorem rel_fun {f : Nat → V} {is : List Nat} {ys : List V} {H : Hp} (h : Rel (fun i y _ => y = f i) is ys H) : ys = is.map f := by
  refine List.ext_getElem? fun j => ?_
  rw [List.getElem?_map]
  cases a : is[j]? with
  | none =>
    have := List.getElem?_eq_none_iff.mp a
    rw [h.1] at this
    rw [List.getElem?_eq_none_iff.mpr this]
    rfl
  | some i =>
    have hj := (List.getElem?_eq_some_iff.mp a).1
    rw [h.1] at hj
    rw [List.getElem?_eq_getElem hj]
    exact congrArg some (h.2 j i _ a (List.getElem?_eq_getElem hj))
theorem idx_all (n : Nat) : idx (fun _ => true) n = List.range n := by
  unfold idx
  simp
/-- over the items of a list: taken ones, changed -/
theorem idx_items' {α β : Type} (xs : List α) (z : α) (c : α → Bool) (f : α → β) : (idx (fun i => c (xs.getD i z)) xs.length).map (fun i => f (xs.getD i z)) = (xs.filter c).map f := by
  unfold idx
  induction xs with
  | nil => rfl
  | cons x r ih =>
    rw [List.length_cons, List.range_succ_eq_map, List.filter_cons, List.filter_cons]
    have e1 : ((x :: r).getD 0 z) = x := rfl
    rw [e1]
    have e2 : (List.filter (fun i => c ((x :: r).getD i z)) (List.map Nat.succ (List.range r.length))) = (List.filter (fun i => c (r.getD i z)) (List.range r.length)).map Nat.succ := by
      rw [List.filter_map]
      rfl
    rw [e2]
    have e3 : List.map (fun i => f ((x :: r).getD i z)) (List.map Nat.succ (List.filter (fun i => c (r.getD i z)) (List.range r.length))) = (r.filter c).map f := by
      rw [List.map_map, ← ih]
      rfl
    split
    · rw [List.map_cons, List.map_cons, e3]
      rfl
    · exact e3
theorem idx_items (xs : List V) (c : V → Bool) (f : V → V) : (idx (fun i => c (xs.getD i .non)) xs.length).map (fun i => f (xs.getD i .non)) = (xs.filter c).map f := idx_items' xs .non c f
section
variable {K : PySem.W.Frag} {Q : VK}
/-- what a comprehension over J asks, told of its turns -/
def LcG (J : It) (g : TG) (tt : TT) (te : TE) (vs : List Nat) (σ : L2.St) (H1 : Hp) (Q : VK) : Prop := ∀ D, H1 D = none → ∃ W : Nat → Nat → Hp → Prop, (∃ m, W 0 m (upd H1 D (.lst []))) ∧ ∀ i m H, W i m H →
      (J.stop i H ∧ Q (.ref D) H) ∨ (J.go i H ∧ ∃ Nx : Hp → Prop, (∀ H', Nx H' → ∃ m', m' < m ∧ W (i + 1) m' H') ∧ ∀ x H', J.yld i H x H' → g x (wipe σ vs) H' fun σ2 H2 => wipe σ2 vs = wipe σ vs ∧ tt σ2 H2 fun b H3 =>
        if b = true then te σ2 H3 fun y H4 => ∃ acc, H4 D = some (.lst acc) ∧ acc.length < sizeLine ∧ Nx (upd H4 D (.lst (acc ++ [y]))) else Nx H3)
theorem lcT {a : Addr} {xs : List V} (hs : SqT K H1 a xs) (sz : xs.length < sizeLine) (c : V → Bool) (f : V → V)
    (body : ∀ x H', x ∈ xs → Ext H1 H' → ∀ (Qe : VK) (Qn : Hp → Prop), (∀ H3, Ext H' H3 → c x = true → Qe (f x) H3) → (∀ H3, Ext H' H3 → c x = false → Qn H3) →
      g x (wipe σ vs) H' fun σ2 H2 => wipe σ2 vs = wipe σ vs ∧ tt σ2 H2 fun b H3 => if b = true then te σ2 H3 Qe else Qn H3)
    (k : ∀ H' D, Ext H1 H' → H1 D = none → H' D = some (.lst ((xs.filter c).map f)) → Q (.ref D) H') :
    ∃ a', V.ref a = .ref a' ∧ (∃ xs, SqT K H1 a' xs) ∧ LcG (Itt K a') g tt te vs σ H1 Q := by
  refine ⟨a, rfl, ⟨_, hs⟩, fun D hD => lc_rel walk_tup (fun i y _ => y = f (xs.getD i .non)) (fun i => c (xs.getD i .non)) (mono_fun fun i => f (xs.getD i .non)) hD (fun H' e => sqT_ext e hs) sz (fun i x H' H'' hi e hy Qe Qn he hn => ?_) (fun H' ys e hd hr => ?_)⟩
  · obtain ⟨rfl, hx⟩ := hy
    have ex : xs.getD i .non = x := by rw [List.getD_eq_getElem?_getD, hx]; rfl
    refine body x _ (List.mem_of_getElem? hx) e Qe Qn (fun H3 e3 hc => he _ H3 e3 (by rw [ex]) (by rw [ex]; exact hc)) (fun H3 e3 hc => hn H3 e3 (by rw [ex]; exact hc))
  · have := rel_fun hr
    rw [idx_items] at this
    rw [this] at hd
    exact k H' D e hD hd
theorem lcL {a : Addr} {xs : List V} (hs : SqL K H1 a xs) (sz : xs.length < sizeLine) (c : V → Bool) (f : V → V)
    (body : ∀ x H', x ∈ xs → Ext H1 H' → ∀ (Qe : VK) (Qn : Hp → Prop), (∀ H3, Ext H' H3 → c x = true → Qe (f x) H3) → (∀ H3, Ext H' H3 → c x = false → Qn H3) →
      g x (wipe σ vs) H' fun σ2 H2 => wipe σ2 vs = wipe σ vs ∧ tt σ2 H2 fun b H3 => if b = true then te σ2 H3 Qe else Qn H3)
    (k : ∀ H' D, Ext H1 H' → H1 D = none → H' D = some (.lst ((xs.filter c).map f)) → Q (.ref D) H') :
    ∃ a', V.ref a = .ref a' ∧ (∃ xs, SqL K H1 a' xs) ∧ LcG (Itl K a') g tt te vs σ H1 Q := by
  refine ⟨a, rfl, ⟨_, hs⟩, fun D hD => lc_rel walk_list (fun i y _ => y = f (xs.getD i .non)) (fun i => c (xs.getD i .non)) (mono_fun fun i => f (xs.getD i .non)) hD (fun H' e => sqL_ext e hs) sz (fun i x H' H'' hi e hy Qe Qn he hn => ?_) (fun H' ys e hd hr => ?_)⟩
  · obtain ⟨rfl, hx⟩ := hy
    have ex : xs.getD i .non = x := by rw [List.getD_eq_getElem?_getD, hx]; rfl
    refine body x _ (List.mem_of_getElem? hx) e Qe Qn (fun H3 e3 hc => he _ H3 e3 (by rw [ex]) (by rw [ex]; exact hc)) (fun H3 e3 hc => hn H3 e3 (by rw [ex]; exact hc))
  · have := rel_fun hr
    rw [idx_items] at this
    rw [this] at hd
    exact k H' D e hD hd
/-- over a range: the turn's number is lo + i -/
theorem lcR {lo : Int} {n : Nat} (sz : n < sizeLine) (c : Nat → Bool) (f : Nat → V)
    (body : ∀ (i : Nat) H', i < n → Ext H1 H' → ∀ (Qe : VK) (Qn : Hp → Prop), (∀ H3, Ext H' H3 → c i = true → Qe (f i) H3) → (∀ H3, Ext H' H3 → c i = false → Qn H3) →
      g (.int (lo + i)) (wipe σ vs) H' fun σ2 H2 => wipe σ2 vs = wipe σ vs ∧ tt σ2 H2 fun b H3 => if b = true then te σ2 H3 Qe else Qn H3)
    (k : ∀ H' D, Ext H1 H' → H1 D = none → H' D = some (.lst ((idx c n).map f)) → Q (.ref D) H') : LcG (Itr lo n) g tt te vs σ H1 Q := by
  refine fun D hD => lc_rel walk_range (fun i y _ => y = f i) c (mono_fun f) hD (fun H' e => True.intro) sz (fun i x H' H'' hi e hy Qe Qn he hn => ?_) (fun H' ys e hd hr => ?_)
  · obtain ⟨rfl, rfl⟩ := hy
    exact body i _ hi e Qe Qn (fun H3 e3 hc => he _ H3 e3 rfl hc) hn
  · rw [rel_fun hr] at hd
    exact k H' D e hD hd
theorem lcRC {lo st : Int} {n : Nat} (sz : n < sizeLine) (c : Nat → Bool) (f : Nat → V)
    (body : ∀ (i : Nat) H', i < n → Ext H1 H' → ∀ (Qe : VK) (Qn : Hp → Prop), (∀ H3, Ext H' H3 → c i = true → Qe (f i) H3) → (∀ H3, Ext H' H3 → c i = false → Qn H3) →
      g (.int (lo + (i : Nat) * st)) (wipe σ vs) H' fun σ2 H2 => wipe σ2 vs = wipe σ vs ∧ tt σ2 H2 fun b H3 => if b = true then te σ2 H3 Qe else Qn H3)
    (k : ∀ H' D, Ext H1 H' → H1 D = none → H' D = some (.lst ((idx c n).map f)) → Q (.ref D) H') : LcG (Itc lo st n) g tt te vs σ H1 Q := by
  refine fun D hD => lc_rel walk_rangeC (fun i y _ => y = f i) c (mono_fun f) hD (fun H' e => True.intro) sz (fun i x H' H'' hi e hy Qe Qn he hn => ?_) (fun H' ys e hd hr => ?_)
  · obtain ⟨rfl, rfl⟩ := hy
    exact body i _ hi e Qe Qn (fun H3 e3 hc => he _ H3 e3 rfl hc) hn
  · rw [rel_fun hr] at hd
    exact k H' D e hD hd
/-! pairs -/
theorem walk_enumT {a : Addr} {xs : List V} : Walk (IteT K a) xs.length (fun H => SqT K H a xs) (YPair (fun i => some (.int (i : Nat))) (fun i => xs[i]?)) := by
  refine ⟨fun i _ hi q => ⟨xs, xs[i], q, by simp [hi]⟩, fun _ q => ⟨xs, q, rfl⟩, fun i H v H' _ q y => ?_⟩
  obtain ⟨T, x, h1, h2, h3, h4⟩ := y
  exact ⟨T, .int (i : Nat), x, h1, h2, h3, rfl, h4 xs q⟩
theorem sqE_ext {l : Bool} {H H' : Hp} {a : Addr} {xs : List V} (e : Ext H H') (h : SqE K l H a xs) : SqE K l H' a xs := by
  cases l with
  | true => exact sqL_ext e h
  | false => exact sqT_ext e h
theorem walk_zipE {l1 l2 : Bool} {a b : Addr} {xs ys : List V} : Walk (ItzE K l1 l2 a b) (min xs.length ys.length) (fun H => SqE K l1 H a xs ∧ SqE K l2 H b ys) (YPair (fun i => xs[i]?) (fun i => ys[i]?)) := by
  refine ⟨fun i _ hi q => ?_, fun _ q => ⟨xs, ys, q.1, q.2, rfl⟩, fun i H v H' _ q y => ?_⟩
  · have h1 : i < xs.length := by omega
    have h2 : i < ys.length := by omega
    exact ⟨xs, ys, xs[i], ys[i], q.1, q.2, by simp [h1], by simp [h2]⟩
  · obtain ⟨T, x, z, h1, h2, h3, h4, h5⟩ := y
    exact ⟨T, x, z, h1, h2, h3, h4 xs q.1, h5 ys q.2⟩
/-- a walk that gives pairs, into two names -/
theorem lcP {J : It} {n : Nat} {G : Hp → Prop} {px py : Nat → Option V} {i1 i2 : Nat} (w : Walk J n G (YPair px py)) (hG : ∀ H', Ext H1 H' → G H') (sz : n < sizeLine) (c : Nat → Bool) (f : Nat → V)
    (body : ∀ (i : Nat) x y H', i < n → px i = some x → py i = some y → Ext H1 H' → ∀ (Qe : VK) (Qn : Hp → Prop), (∀ H3, Ext H' H3 → c i = true → Qe (f i) H3) → (∀ H3, Ext H' H3 → c i = false → Qn H3) →
      wipe (((wipe σ vs).set i1 (some x)).set i2 (some y)) vs = wipe σ vs ∧ tt (((wipe σ vs).set i1 (some x)).set i2 (some y)) H' fun b H3 => if b = true then te (((wipe σ vs).set i1 (some x)).set i2 (some y)) H3 Qe else Qn H3)
    (k : ∀ H' D, Ext H1 H' → H1 D = none → H' D = some (.lst ((idx c n).map f)) → Q (.ref D) H') : LcG J (gTup K 2 (gCons (gName i1) (gCons (gName i2) gNil))) tt te vs σ H1 Q := by
  refine fun D hD => lc_rel w (fun i y _ => y = f i) c (mono_fun f) hD hG sz (fun i x H' H'' hi e hy Qe Qn he hn => ?_) (fun H' ys e hd hr => ?_)
  · obtain ⟨T, x, y, rfl, hT, rfl, hx, hy⟩ := hy
    have eT := Ext.new (o := HO.tup [x, y]) hT
    refine ⟨T, _, rfl, SqT.of upd_same, rfl, _, _, rfl, ?_⟩
    refine ⟨_, _, rfl, rfl, ?_⟩
    exact body i x y _ hi hx hy (Ext.trans e eT) Qe Qn (fun H3 e3 hc => he _ H3 (Ext.trans eT e3) rfl hc) (fun H3 e3 hc => hn H3 (Ext.trans eT e3) hc)
  · rw [rel_fun hr] at hd
    exact k H' D e hD hd
theorem zip_items (xs ys : List V) (c : V → V → Bool) (f : V → V → V) : (idx (fun i => c (xs.getD i .non) (ys.getD i .non)) (min xs.length ys.length)).map (fun i => f (xs.getD i .non) (ys.getD i .non)) = ((xs.zip ys).filter fun p => c p.1 p.2).map fun p => f p.1 p.2 := by
  have e := idx_items' (xs.zip ys) (V.non, V.non) (fun p => c p.1 p.2) (fun p => f p.1 p.2)
  rw [List.length_zip] at e
  rw [← e]
  unfold idx
  have hz : ∀ i, i < min xs.length ys.length → (xs.zip ys).getD i (V.non, V.non) = (xs.getD i .non, ys.getD i .non) := fun i hi => by
    have h1 : i < xs.length := by omega
    have h2 : i < ys.length := by omega
    have hl : i < (xs.zip ys).length := by rw [List.length_zip]; exact hi
    rw [List.getD_eq_getElem?_getD, List.getElem?_eq_getElem hl, List.getElem_zip, List.getD_eq_getElem?_getD, List.getElem?_eq_getElem h1, List.getD_eq_getElem?_getD, List.getElem?_eq_getElem h2]
    rfl
  have hf : (List.range (min xs.length ys.length)).filter (fun i => c (xs.getD i .non) (ys.getD i .non)) = (List.range (min xs.length ys.length)).filter (fun i => c ((xs.zip ys).getD i (V.non, V.non)).1 ((xs.zip ys).getD i (V.non, V.non)).2) := by
    refine List.filter_congr fun i hi => ?_
    rw [hz i (List.mem_range.mp hi)]
  rw [hf]
  refine List.map_congr_left fun i hi => ?_
  rw [hz i (List.mem_range.mp (List.mem_filter.mp hi).1)]
/-- over zip(a, b) -/
theorem lcZ {l1 l2 : Bool} {a b : Addr} {xs ys : List V} {i1 i2 : Nat} (ha : SqE K l1 H1 a xs) (hb : SqE K l2 H1 b ys) (sz : min xs.length ys.length < sizeLine) (c : V → V → Bool) (f : V → V → V)
    (body : ∀ x y H', (x, y) ∈ xs.zip ys → Ext H1 H' → ∀ (Qe : VK) (Qn : Hp → Prop), (∀ H3, Ext H' H3 → c x y = true → Qe (f x y) H3) → (∀ H3, Ext H' H3 → c x y = false → Qn H3) →
      wipe (((wipe σ vs).set i1 (some x)).set i2 (some y)) vs = wipe σ vs ∧ tt (((wipe σ vs).set i1 (some x)).set i2 (some y)) H' fun b H3 => if b = true then te (((wipe σ vs).set i1 (some x)).set i2 (some y)) H3 Qe else Qn H3)
    (k : ∀ H' D, Ext H1 H' → H1 D = none → H' D = some (.lst (((xs.zip ys).filter fun p => c p.1 p.2).map fun p => f p.1 p.2)) → Q (.ref D) H') :
    ∃ k1 k2 a' b' xs ys, [V.ref a, V.ref b] = [V.ref a', V.ref b'] ∧ SqE K k1 H1 a' xs ∧ SqE K k2 H1 b' ys ∧ LcG (ItzE K k1 k2 a' b') (gTup K 2 (gCons (gName i1) (gCons (gName i2) gNil))) tt te vs σ H1 Q := by
  refine ⟨l1, l2, a, b, xs, ys, rfl, ha, hb, lcP walk_zipE (fun H' e => ⟨sqE_ext e ha, sqE_ext e hb⟩) sz (fun i => c (xs.getD i .non) (ys.getD i .non)) (fun i => f (xs.getD i .non) (ys.getD i .non)) (fun i x y H' hi hx hy e Qe Qn he hn => ?_) (fun H' D e hD hd => ?_)⟩
  · have ex : xs.getD i .non = x := by rw [List.getD_eq_getElem?_getD, hx]; rfl
    have ey : ys.getD i .non = y := by rw [List.getD_eq_getElem?_getD, hy]; rfl
    have mem : (x, y) ∈ xs.zip ys := List.mem_of_getElem? (i := i) (by rw [List.getElem?_zip_eq_some]; exact ⟨hx, hy⟩)
    refine body x y _ mem e Qe Qn (fun H3 e3 hc => ?_) (fun H3 e3 hc => hn H3 e3 (by rw [ex, ey]; exact hc))
    have := he H3 e3 (by rw [ex, ey]; exact hc)
    rw [ex, ey] at this
    exact this
  · rw [zip_items] at hd
    exact k H' D e hD hd
/-- over enumerate(a) -/
theorem lcE {a : Addr} {xs : List V} {i1 i2 : Nat} (ha : SqT K H1 a xs) (sz : xs.length < sizeLine) (c : Nat → V → Bool) (f : Nat → V → V)
    (body : ∀ (i : Nat) x H', xs[i]? = some x → Ext H1 H' → ∀ (Qe : VK) (Qn : Hp → Prop), (∀ H3, Ext H' H3 → c i x = true → Qe (f i x) H3) → (∀ H3, Ext H' H3 → c i x = false → Qn H3) →
      wipe (((wipe σ vs).set i1 (some (.int (i : Nat)))).set i2 (some x)) vs = wipe σ vs ∧ tt (((wipe σ vs).set i1 (some (.int (i : Nat)))).set i2 (some x)) H' fun b H3 => if b = true then te (((wipe σ vs).set i1 (some (.int (i : Nat)))).set i2 (some x)) H3 Qe else Qn H3)
    (k : ∀ H' D, Ext H1 H' → H1 D = none → H' D = some (.lst ((idx (fun i => c i (xs.getD i .non)) xs.length).map fun i => f i (xs.getD i .non))) → Q (.ref D) H') :
    ∃ t xs, [V.ref a] = [V.ref t] ∧ SqT K H1 t xs ∧ LcG (IteT K t) (gTup K 2 (gCons (gName i1) (gCons (gName i2) gNil))) tt te vs σ H1 Q := by
  refine ⟨a, xs, rfl, ha, lcP walk_enumT (fun H' e => sqT_ext e ha) sz (fun i => c i (xs.getD i .non)) (fun i => f i (xs.getD i .non)) (fun i x y H' hi hx hy e Qe Qn he hn => ?_) k⟩
  cases hx
  have ey : xs.getD i .non = y := by rw [List.getD_eq_getElem?_getD, hy]; rfl
  refine body i y _ hy e Qe Qn (fun H3 e3 hc => ?_) (fun H3 e3 hc => hn H3 e3 (by rw [ey]; exact hc))
  have := he H3 e3 (by rw [ey]; exact hc)
  rw [ey] at this
  exact this
end
end
end

/-! Defs and methods, their places hidden. -/

section
open PySem PySem.Spec PyProof.Rows L2 Gd
structure Def1 (P : Program) (w : World) (K : PySem.W.Frag) (mg : Str → Option Value) (base : Heap) (CX : CXT) (k : Nat) (name : Str) (ps : List Str) (sp : Sp) : Prop where
  ex : ∃ (f : Addr) (fd : FuncData), mg name = some (.ref f) ∧ PySem.W.keepIn K (.ref f) = true ∧ FnOk P w K mg base CX k f fd ps sp ∧ Binds K fd ps []
structure Bin1 (P : Program) (w : World) (K : PySem.W.Frag) (mg : Str → Option Value) (base : Heap) (CX : CXT) (k : Nat) (C : Addr) (m r : Str) (sp : Sp) : Prop where
  ex : ∃ (f : Addr) (fd : FuncData), BinC K C m r f ∧ FnOk P w K mg base CX k f fd ["self", "other"] sp ∧ Binds K fd ["self", "other"] []
structure Met1 (P : Program) (w : World) (K : PySem.W.Frag) (mg : Str → Option Value) (base : Heap) (CX : CXT) (k : Nat) (C : Addr) (m : Str) (ps : List Str) (sp : Sp) : Prop where
  ex : ∃ (f : Addr) (fd : FuncData), Meth K C m f ∧ PySem.W.fnIn K f = true ∧ FnOk P w K mg base CX k f fd ps sp ∧ Binds K fd ps []
structure Pro1 (P : Program) (w : World) (K : PySem.W.Frag) (mg : Str → Option Value) (base : Heap) (k : Nat) (C : Addr) (x : Str) (sp : Sp) : Prop where
  ex : ∃ (p f : Addr) (fd : FuncData), PropOf K C x p f ∧ FnOk P w K mg base CX0 k f fd ["self"] sp ∧ Binds K fd ["self"] []
structure Ini1 (P : Program) (w : World) (K : PySem.W.Frag) (mg : Str → Option Value) (base : Heap) (CX : CXT) (k : Nat) (C t0 : Addr) (ps : List Str) (sp : Sp) : Prop where
  ex : ∃ (f : Addr) (fd : FuncData) (ds : List Value), Mk K C f ∧ FnOk P w K mg base CX k f fd ps sp ∧ Binds K fd ps [] ∧ Vals [V.ref t0] ds ∧ Binds K fd ps ds
abbrev X0 : XK := fun _ _ _ => False
section
variable {X : Cx} {CX : CXT} {C t0 : Addr} {k j : Nat} {x m r : Str} {ps : List Str} {sp : Sp} {e a : Expr} {es : List Expr} {t : TA} {ta tb : TE} {p pos apos : Pos}
theorem pe_def (D : Def1 X.prog X.w X.K X.mg X.base CX0 k x ps sp) (hr : Room j X.A) (hj : k ≤ j) (hgl : Gl X x) (ha : PA X (e :: es) t) (hdb : (x == ("__debug__" : Str)) = false := by decide)
    (he : starEach (e :: es) X.env = (false, eval e X.env) :: starEach es X.env := by rfl) (hpl : (backTo pos (starEach es X.env)).any (·.1) = false := by rfl) : PE X (.Call (.Name x p) (e :: es) [] pos) (tCall sp [] X0 t) := by
  obtain ⟨f, fd, hm, hk, F, hb⟩ := D.ex
  exact pe_call F (hr.mono hj) hgl hm hk hb .nil pass0 ha hdb he hpl
theorem pe_defX {E : XK} (D : Def1 X.prog X.w X.K X.mg X.base CX k x ps sp) (hx : Passes CX X E) (hr : Room j X.A) (hj : k ≤ j) (hgl : Gl X x) (ha : PA X (e :: es) t) (hdb : (x == ("__debug__" : Str)) = false := by decide)
    (he : starEach (e :: es) X.env = (false, eval e X.env) :: starEach es X.env := by rfl) (hpl : (backTo pos (starEach es X.env)).any (·.1) = false := by rfl) : PE X (.Call (.Name x p) (e :: es) [] pos) (tCall sp [] E t) := by
  obtain ⟨f, fd, hm, hk, F, hb⟩ := D.ex
  exact pe_call F (hr.mono hj) hgl hm hk hb .nil hx ha hdb he hpl
theorem op_add1 {E : XK} (D : Bin1 X.prog X.w X.K X.mg X.base CX k C "__add__" "__radd__" sp) (hx : ∀ σ, PassesAt CX X σ E) (hr : Room j X.A) (hj : k + 1 ≤ j) : OpR X (binaryOp .Add) (rBinO C sp E) := by
  obtain ⟨f, fd, B, F, hb⟩ := D.ex
  exact op_addO B F (hr.mono hj) hb hx
theorem op_eq1 (D : Met1 X.prog X.w X.K X.mg X.base CX0 k C "__eq__" ["self", "other"] sp) (hr : Room j X.A) (hj : k + 1 ≤ j) : OpR X (compareOp .Eq) (rCmpO X.K C sp X0) := by
  obtain ⟨f, fd, M, _, F, hb⟩ := D.ex
  exact op_eqO M F (hr.mono hj) hb (fun _ => quiet0)
theorem op_lt1 (D : Met1 X.prog X.w X.K X.mg X.base CX0 k C "__lt__" ["self", "other"] sp) (hr : Room j X.A) (hj : k + 1 ≤ j) : OpR X (compareOp .Lt) (rCmpO X.K C sp X0) := by
  obtain ⟨f, fd, M, _, F, hb⟩ := D.ex
  exact op_ltO M F (hr.mono hj) hb (fun _ => quiet0)
theorem op_ne1 (hn : NeC X.K C) (D : Met1 X.prog X.w X.K X.mg X.base CX0 k C "__eq__" ["self", "other"] sp) (hr : Room j X.A) (hj : k + 1 ≤ j) : OpR X (compareOp .NotEq) (rNeO X.K C sp X0) := by
  obtain ⟨f, fd, M, _, F, hb⟩ := D.ex
  exact op_neO hn M F (hr.mono hj) hb (fun _ => quiet0)
theorem pe_pro1 (c : Cls X.K C) (D : Pro1 X.prog X.w X.K X.mg X.base k C x sp) (hr : Room j X.A) (hj : k + 1 ≤ j) (ha : PE X e ta) (hab : attributeBase e x X.env (eval e X.env) = eval e X.env := by rfl) : PE X (.Attribute e x pos) (tProp C sp [] X0 ta) := by
  obtain ⟨p, f, fd, hp, F, hb⟩ := D.ex
  exact pe_prop ha c hp F (hr.mono hj) hb .nil pass0 hab
theorem pe_mk1 {E : XK} (D : Ini1 X.prog X.w X.K X.mg X.base CX k C t0 ps sp) (hx : Passes CX X E) (hr : Room j X.A) (hj : k + 1 ≤ j) (hgl : Gl X x) (hm : X.mg x = some (.ref C)) (ha : PA X (e :: es) t) (hdb : (x == ("__debug__" : Str)) = false := by decide)
    (he : starEach (e :: es) X.env = (false, eval e X.env) :: starEach es X.env := by rfl) (hpl : (backTo pos (starEach es X.env)).any (·.1) = false := by rfl) : PE X (.Call (.Name x p) (e :: es) [] pos) (tMake C sp [] E t) := by
  obtain ⟨f, fd, ds, M, F, hb, _, _⟩ := D.ex
  exact pe_make M F (hr.mono hj) hgl hm hb .nil hx ha hdb he hpl
theorem pe_mk0 {E : XK} (D : Ini1 X.prog X.w X.K X.mg X.base CX k C t0 ps sp) (hx : Passes CX X E) (hr : Room j X.A) (hj : k + 1 ≤ j) (hgl : Gl X x) (hm : X.mg x = some (.ref C)) (hdb : (x == ("__debug__" : Str)) = false := by decide) : PE X (.Call (.Name x p) [] [] pos) (tMake C sp [.ref t0] E tNil) := by
  obtain ⟨f, fd, ds, M, F, _, hv, hb⟩ := D.ex
  exact pe_make0 M F (hr.mono hj) hgl hm hb hv hx hdb
theorem pe_it1 (D : Met1 X.prog X.w X.K X.mg X.base CX k C "__getitem__" ["self", "index"] sp) {E : L2.St → XK} (hx : ∀ σ, PassesAt CX X σ (E σ)) (hr : Room j X.A) (hj : k + 1 ≤ j) (ha : PE X e ta) (hb : PE X a tb)
    (hs : ∀ v u : Value, subscripted a true v u = runValue (.builtin "lifetime.subscript" ⟨[v, u], []⟩) := by intro _ _; with_unfolding_all rfl) : PE X (.Subscript e a pos) (tIxO C sp E ta tb) := by
  obtain ⟨f, fd, M, hfn, F, hB⟩ := D.ex
  exact pe_ixO M hfn F (hr.mono hj) hB hx ha hb hs
theorem pe_me1 {o : Expr} {pl : Sem Bool} {E : XK} (c : Cls X.K C) (D : Met1 X.prog X.w X.K X.mg X.base CX k C m ps sp) (hx : Passes CX X E) (hr : Room j X.A) (hj : k ≤ j) (ho : PE X o ta) (ha : PA X (e :: es) t)
    (ht : eval (.Call (.Attribute o m apos) (e :: es) [] pos) X.env = (do
      let ov ← eval o X.env
      standAt apos.atName
      let (f, first) ← holding [ov] (getMethod ov m pl)
      callWith pos f first (backTo pos (starEach (e :: es) X.env)) (backToKw pos (keywordEach [] X.env))) := by rfl)
    (hst : starEach (e :: es) X.env = (false, eval e X.env) :: starEach es X.env := by rfl) (hpl : (backTo pos (starEach es X.env)).any (·.1) = false := by rfl) :
    PE X (.Call (.Attribute o m apos) (e :: es) [] pos) (tMeth C m sp [] E ta t) := by
  obtain ⟨f, fd, M, _, F, hb⟩ := D.ex
  exact pe_meth ho c M F (hr.mono hj) hb .nil hx ha hst hpl ht
theorem g_lc {wi : TI} {g : TG} {tt : TT} {te : TE} {vs : List Nat} {σ : L2.St} {H : Hp} {Q : VK} (k : wi σ H fun J H1 => LcG J g tt te vs σ H1 Q) : tLc wi g tt te vs σ H Q := k
theorem g_rng1 {ta : TA} {σ : L2.St} {H : Hp} {R : It → Hp → Prop} (k : ta σ H fun vs H1 => ∃ j : Int, vs = [.int j] ∧ -(2 ^ 62) ≤ j ∧ j < 2 ^ 62 ∧ R (Itr 0 j.toNat) H1) : iRng1 ta σ H R := k
theorem g_rng2 {ta : TA} {σ : L2.St} {H : Hp} {R : It → Hp → Prop} (k : ta σ H fun vs H1 => ∃ i j : Int, vs = [.int i, .int j] ∧ (-(2 ^ 62) ≤ i ∧ i < 2 ^ 62 ∧ -(2 ^ 62) ≤ j ∧ j < 2 ^ 62) ∧ R (Itr i (j - i).toNat) H1) : iRng2 ta σ H R := k
theorem g_itup {K : PySem.W.Frag} {te : TE} {σ : L2.St} {H : Hp} {R : It → Hp → Prop} (k : te σ H fun x H1 => ∃ a, x = .ref a ∧ (∃ xs, SqT K H1 a xs) ∧ R (Itt K a) H1) : iTup K te σ H R := k
theorem g_ilist {K : PySem.W.Frag} {te : TE} {σ : L2.St} {H : Hp} {R : It → Hp → Prop} (k : te σ H fun x H1 => ∃ a, x = .ref a ∧ (∃ xs, SqL K H1 a xs) ∧ R (Itl K a) H1) : iList K te σ H R := k
/-- a reading given two ways -/
theorem CallR.or {f : Value} {r1 r2 : List V → Hp → VK → Prop} (h1 : CallR X f r1) (h2 : CallR X f r2) : CallR X f (fun vs H Q => r1 vs H Q ∨ r2 vs H Q) := by
  intro pins s σ H vs us Q I r h
  rcases h with h | h
  · exact h1 pins s σ H vs us Q I r h
  · exact h2 pins s σ H vs us Q I r h
def rSumS (K : PySem.W.Frag) : List V → Hp → VK → Prop := fun vs H Q => ∃ (a : Addr) (ns : List Int), vs = [V.ref a] ∧ (SqL K H a (ns.map V.int) ∨ SqT K H a (ns.map V.int)) ∧ Q (.int ns.sum) H
theorem call_sumS (hc : X.calm = true) : CallR X (.builtin "sum") (rSumS X.K) := by
  intro pins s σ H vs us Q I r h
  obtain ⟨a, ns, e, h | h, k⟩ := h
  · exact cr_sum hc pins s σ H vs us Q I r ⟨a, ns, e, h, k⟩
  · exact cr_sumT hc pins s σ H vs us Q I r ⟨a, ns, e, h, k⟩
end
end

/-! The text by places; integers; dice. -/

section
open PySem PySem.Spec PyProof.Rows L2 Gd
open LamX (ExtN)
def top (i : Nat) : Stmt := PySem.Challenge.pw_primekinds_k10_errors_of_kinds.main.body.getD i (.Pass ⟨0, 0, 0, 0⟩)
abbrev sWhole : Stmt := top 11
abbrev sInteger : Stmt := top 12
abbrev sIndex : Stmt := top 15
def cls (j : Nat) : Stmt := inClass (top 32) j
abbrev sDice : Stmt := top 41
abbrev sRoll : Stmt := top 42
abbrev sPick : Stmt := top 43
/-- what is known of the module's names -/
structure Txt (K : PySem.W.Frag) (mg : Str → Option Value) : Prop where
  isinstance : mg "isinstance" = none
  int : mg "int" = none
  bool : mg "bool" = none
  str : mg "str" = none
  tuple : mg "tuple" = none
  list : mg "list" = none
  dict : mg "dict" = none
  len : mg "len" = none
  all : mg "all" = none
  any : mg "any" = none
  sum : mg "sum" = none
  iter : mg "iter" = none
  max : mg "max" = none
  min : mg "min" = none
  abs : mg "abs" = none
  range : mg "range" = none
  repr : mg "repr" = none
  sorted : mg "sorted" = none
  enumerate : mg "enumerate" = none
  zip : mg "zip" = none
  bound : ∃ t, mg "BOUND" = some (.int (10 ^ 60) t)
section
variable {P : Program} {w : World} {K : PySem.W.Frag} {mg : Str → Option Value} {base : Heap} {f : Addr} {fd : FuncData}
theorem dec_l {p q : Prop} [Decidable p] [Decidable q] (h : p) : decide (p ∧ q) = decide q := by simp [h]
theorem dec_n {p q : Prop} [Decidable p] [Decidable q] (h : ¬ p) : decide (p ∧ q) = false := by simp [h]
/-! ### is_whole -/
/-- whether a value is an integer other than True and False -/
def WholeB (K : PySem.W.Frag) (H : Hp) (x : V) (b : Bool) : Prop := ∃ t b1 b2, TyX K H x t ∧ PySem.W.kitOne K t (.type "int") = some b1 ∧
  PySem.W.kitOne K t (.type "bool") = some b2 ∧ b = (b1 && !b2)
theorem whole_int {H : Hp} {i : Int} : WholeB K H (.int i) true := ⟨_, true, false, .base (.int i), by kernel_rfl, by kernel_rfl, rfl⟩
theorem whole_bl {H : Hp} {b : Bool} : WholeB K H (.bl b) false := ⟨_, true, true, .base (.bl b), by kernel_rfl, by kernel_rfl, rfl⟩
theorem whole_non {H : Hp} : WholeB K H .non false := ⟨_, false, false, .base .non, by kernel_rfl, by kernel_rfl, rfl⟩
theorem whole_str {H : Hp} {x : Str} : WholeB K H (.str x) false := ⟨_, false, false, .base (.str x), by kernel_rfl, by kernel_rfl, rfl⟩
theorem whole_tup {H : Hp} {a : Addr} {xs : List V} (h : H a = some (.tup xs)) : WholeB K H (.ref a) false := ⟨_, false, false, .base (.tup h), by kernel_rfl, by kernel_rfl, rfl⟩
def spWhole (K : PySem.W.Frag) : Sp := fun vs H Q _ => ∃ x b, vs = [x] ∧ WholeB K H x b ∧ Q (.bl b) H
theorem scWhole : FnScope ["value"] ["value"] (defScope sWhole) := ⟨rfl, rfl, rfl, by decide +kernel, rfl, by decide +kernel, by decide +kernel⟩
theorem ok_whole {f : Addr} {fd : FuncData} (F : Fun K "is_whole" "is_whole" sWhole f fd) (T : Txt K mg) : FnOk P w K mg base CX0 1 f fd ["value"] (spWhole K) := by
  refine F.ok scWhole (fun vs H Q E h => ?_) (fun cdv A outer s H vs Q E hr h => ?_)
  · obtain ⟨x, b, rfl, _⟩ := h
    rfl
  · obtain ⟨x, b, rfl, ⟨t, b1, b2, ty, k1, k2, rfl⟩, k⟩ := h
    refine ⟨_, pss_one (ps_ret (pe_and (pe_callB call_isi (by rfl) T.isinstance (by decide +kernel) (pa_cons (pv 0) (pa_cons (pe_bltn (v := .ty "int") (by rfl) T.int (by decide +kernel) rfl) pa_nil)))
      (pe_one (pe_not (pe_callB call_isi (by rfl) T.isinstance (by decide +kernel) (pa_cons (pv 0) (pa_cons (pe_bltn (v := .ty "bool") (by rfl) T.bool (by decide +kernel) rfl) pa_nil))))))), ?_⟩
    walk_at "rd"
    refine ⟨_, _, _, _, _, rfl, .ty _, ty, k1, ?_⟩
    walk_at "rd"
    refine ite2 (fun h1 => ?_) (fun h1 => ?_)
    · walk_at "rd"
      refine ⟨_, _, _, _, _, rfl, .ty _, ty, k2, ?_⟩
      walk_at "rd"
      rw [h1] at k
      exact k
    · rw [Bool.not_eq_true] at h1
      rw [h1] at k
      exact k

/-! ### is_integer -/
def IntB (K : PySem.W.Frag) (H : Hp) (x : V) (b : Bool) : Prop := (∃ i : Int, x = .int i ∧ b = decide (-(10 ^ 60) < i ∧ i < 10 ^ 60)) ∨ (WholeB K H x false ∧ b = false)
def spInteger (K : PySem.W.Frag) : Sp := fun vs H Q _ => ∃ x b, vs = [x] ∧ IntB K H x b ∧ Q (.bl b) H
theorem scInteger : FnScope ["value"] ["value"] (defScope sInteger) := ⟨rfl, rfl, rfl, by decide +kernel, rfl, by decide +kernel, by decide +kernel⟩
/-- where is_whole stands -/
structure AtW (K : PySem.W.Frag) (mg : Str → Option Value) (f : Addr) (fd : FuncData) : Prop where
  F : Fun K "is_whole" "is_whole" sWhole f fd
  b : Binds K fd ["value"] []
  g : mg "is_whole" = some (.ref f)
theorem ok_integer {f fW : Addr} {fd fdW : FuncData} (F : Fun K "is_integer" "is_integer" sInteger f fd) (T : Txt K mg) (W : AtW K mg fW fdW) : FnOk P w K mg base CX0 2 f fd ["value"] (spInteger K) := by
  have GW : FnOk P w K mg base CX0 1 fW fdW ["value"] (spWhole K) := ok_whole W.F T
  obtain ⟨tB, gB⟩ := T.bound
  refine F.ok scInteger (fun vs H Q E h => ?_) (fun cdv A outer s H vs Q E hr h => ?_)
  · obtain ⟨x, b, rfl, _⟩ := h
    rfl
  · obtain ⟨x, b, rfl, hx, k⟩ := h
    refine ⟨_, pss_one (ps_ret (pe_and (pe_call GW hr (by rfl) W.g W.F.kp W.b .nil pass0 (pa_cons (pv 0) pa_nil))
      (pe_one (pe_chain op_lt op_lt (pe_un un_neg (pe_glob (v := .int (10 ^ 60)) (by rfl) gB ⟨_, rfl⟩)) (pv 0) (pe_glob (v := .int (10 ^ 60)) (by rfl) gB ⟨_, rfl⟩))))), ?_⟩
    walk_at "rd"
    rcases hx with ⟨i, rfl, rfl⟩ | ⟨hx, rfl⟩
    · refine ⟨_, true, rfl, whole_int, ?_⟩
      walk_at "rd"
      try refine iteT ?_
      walk_at "rd"
      refine ite2 (fun h1 => ?_) (fun h1 => ?_)
      · walk_at "rd"
        have e : decide (-(10 ^ 60) < i ∧ i < 10 ^ 60) = decide (i < 10 ^ 60) := dec_l (of_decide_eq_true h1)
        rw [e] at k
        exact k
      · have h2 : ¬ (-(10 ^ 60) : Int) < i := fun z => h1 (decide_eq_true z)
        have e : decide (-(10 ^ 60) < i ∧ i < 10 ^ 60) = false := dec_n h2
        rw [e] at k
        exact k
    · refine ⟨_, false, rfl, hx, ?_⟩
      walk_at "rd"
      first | exact k | exact iteF k

/-! ### require_index -/
def IndexOk (K : PySem.W.Frag) (H : Hp) (x : V) (b : Bool) : Prop := (∃ i : Int, x = .int i ∧ b = decide (0 ≤ i ∧ i < 10 ^ 60)) ∨ (WholeB K H x false ∧ b = false)
def spIndex (K : PySem.W.Frag) (C : Addr) : Sp := fun vs H Q E => ∃ x b, vs = [x] ∧ IndexOk K H x b ∧ (b = true → Q .non H) ∧
  (b = false → ∀ d, H d = none → E (.ref C) (some d) (upd H d (.xd [(("value" : Str), x)])))
structure AtI (K : PySem.W.Frag) (mg : Str → Option Value) (f : Addr) (fd : FuncData) : Prop where
  F : Fun K "is_integer" "is_integer" sInteger f fd
  b : Binds K fd ["value"] []
  g : mg "is_integer" = some (.ref f)
theorem scIndex : FnScope ["value"] ["value"] (defScope sIndex) := ⟨rfl, rfl, rfl, by decide +kernel, rfl, by decide +kernel, by decide +kernel⟩
theorem ok_index {f fW fI C fC : Addr} {fd fdW fdI : FuncData} (F : Fun K "require_index" "require_index" sIndex f fd) (T : Txt K mg) (W : AtW K mg fW fdW) (I : AtI K mg fI fdI) (N : PySem.XInvalidNumber.InvalidNumberTxt K mg C fC) :
    FnOk P w K mg base (L2.CX P w) 4 f fd ["value"] (spIndex K C) := by
  have GI : FnOk P w K mg base CX0 2 fI fdI ["value"] (spInteger K) := ok_integer I.F T W
  refine F.okX scIndex (fun vs H Q E h => ?_) (fun cdv A outer s H vs Q E hr h => ?_)
  · obtain ⟨x, b, rfl, _⟩ := h
    rfl
  · obtain ⟨x, b, rfl, hx, k1, k2⟩ := h
    refine ⟨_, pss_one (ps_if (PW.pt (pw_or (pt_not (pt_val (pe_call GI (hr.mono (by decide)) (by rfl) I.g I.F.kp I.b .nil pass0 (pa_cons (pv 0) pa_nil)))) (pw_or1 (pt_cmpR op_lt (pv 0) pe_int (nomark _)))))
      (pss_one (ps_raiseInvalidNumber rfl N hr (takes_of rfl rfl rfl rfl) (by exact (pa_cons (pv 0) pa_nil)))) pss_nil), ?_⟩
    walk_at "rd"
    rcases hx with ⟨i, rfl, rfl⟩ | ⟨hx, rfl⟩
    · refine ⟨_, _, rfl, .inl ⟨i, rfl, rfl⟩, ?_⟩
      walk_at "rd"
      by_cases h1 : -(10 ^ 60) < i ∧ i < 10 ^ 60
      · rw [decide_eq_true h1]
        try refine iteF ?_
        walk_at "rd"
        by_cases h2 : i < 0
        · rw [decide_eq_true h2]
          try refine iteT ?_
          refine ⟨_, rfl, _, rfl, ?_⟩
          exact k2 (decide_eq_false (by omega))
        · rw [decide_eq_false h2]
          try refine iteF ?_
          exact k1 (decide_eq_true (by omega))
      · rw [decide_eq_false h1]
        iterate 2 (try refine iteT ?_)
        refine ⟨_, rfl, _, rfl, ?_⟩
        exact k2 (decide_eq_false (by omega))
    · refine ⟨_, _, rfl, .inr ⟨hx, rfl⟩, ?_⟩
      walk_at "rd"
      iterate 2 (try refine iteT ?_)
      refine ⟨_, rfl, _, rfl, ?_⟩
      exact k2 rfl
abbrev sIsWithin : Stmt := top 13
/-- whether a value is an integer from lo to hi (the bounds have at most sixty digits) -/
def WithB (K : PySem.W.Frag) (H : Hp) (x : V) (lo hi : Int) (b : Bool) : Prop := (∃ i : Int, x = .int i ∧ b = decide (lo ≤ i ∧ i ≤ hi)) ∨ (WholeB K H x false ∧ b = false)
def spIsWithin (K : PySem.W.Frag) : Sp := fun vs H Q _ => ∃ (x : V) (lo hi : Int) (b : Bool), vs = [x, .int lo, .int hi] ∧ -(10 ^ 60) < lo ∧ hi < 10 ^ 60 ∧ WithB K H x lo hi b ∧ Q (.bl b) H
theorem scIsWithin : FnScope ["value", "low", "high"] ["value", "low", "high"] (defScope sIsWithin) := ⟨rfl, rfl, rfl, by decide +kernel, rfl, by decide +kernel, by decide +kernel⟩
theorem ok_isWithin {fW fI : Addr} {fdW fdI : FuncData} (F : Fun K "is_within" "is_within" sIsWithin f fd) (T : Txt K mg) (W : AtW K mg fW fdW) (I : AtI K mg fI fdI) : FnOk P w K mg base CX0 3 f fd ["value", "low", "high"] (spIsWithin K) := by
  have GI : FnOk P w K mg base CX0 2 fI fdI ["value"] (spInteger K) := ok_integer I.F T W
  refine F.ok scIsWithin (fun vs H Q E h => ?_) (fun cdv A outer s H vs Q E hr h => ?_)
  · obtain ⟨x, lo, hi, b, rfl, _⟩ := h
    rfl
  · obtain ⟨x, lo, hi, b, rfl, hlo, hhi, hx, k⟩ := h
    refine ⟨_, pss_one (ps_ret (pe_and (pe_call GI hr (by rfl) I.g I.F.kp I.b .nil pass0 (pa_cons (pv 0) pa_nil))
      (pe_one (pe_chain op_le op_le (pv 1) (pv 0) (pv 2))))), ?_⟩
    walk_at "rd"
    rcases hx with ⟨i, rfl, rfl⟩ | ⟨hx, rfl⟩
    · refine ⟨_, _, rfl, .inl ⟨i, rfl, rfl⟩, ?_⟩
      walk_at "rd"
      refine ite2 (fun h0 => ?_) (fun h0 => ?_)
      · walk_at "rd"
        refine ite2 (fun h1 => ?_) (fun h1 => ?_)
        · walk_at "rd"
          have e : decide (lo ≤ i ∧ i ≤ hi) = decide (i ≤ hi) := dec_l (of_decide_eq_true h1)
          rw [e] at k
          exact k
        · have h2 : ¬ lo ≤ i := fun z => h1 (decide_eq_true z)
          have e : decide (lo ≤ i ∧ i ≤ hi) = false := dec_n h2
          rw [e] at k
          exact k
      · have h2 : ¬ (-(10 ^ 60) < i ∧ i < 10 ^ 60) := fun z => h0 (decide_eq_true z)
        have e : decide (lo ≤ i ∧ i ≤ hi) = false := decide_eq_false (by omega)
        rw [e] at k
        exact k
    · refine ⟨_, _, rfl, .inr ⟨hx, rfl⟩, ?_⟩
      walk_at "rd"
      first | exact k | exact iteF k
/-- the dice at d -/
def DiceAt (H : Hp) (d : Addr) : Prop := ∃ a b c : Int, H d = some (.lst [.int a, .int b, .int c]) ∧ 0 ≤ a ∧ a < 10 ^ 120 ∧ 0 ≤ b ∧ b < 2 ^ 80 ∧ 0 ≤ c
theorem fmod_lo {a n : Int} (h : 0 < n) : 0 ≤ a.fmod n := by
  rw [Int.fmod_eq_emod_of_nonneg _ (Int.le_of_lt h)]
  exact Int.emod_nonneg _ (Int.ne_of_gt h)
theorem fmod_hi {a n : Int} (h : 0 < n) : a.fmod n < n := by
  rw [Int.fmod_eq_emod_of_nonneg _ (Int.le_of_lt h)]
  exact Int.emod_lt_of_pos _ h
theorem g_fmod {H : Hp} {Q : VK} {a n : Int} (hn : 0 < n) (k : ∀ r, 0 ≤ r → r < n → Q (.int r) H) : rI (fun _ j => j ≠ 0) (fun i j => .int (i.fmod j)) (.int a) (.int n) H Q :=
  ⟨a, n, rfl, rfl, Int.ne_of_gt hn, k _ (fmod_lo hn) (fmod_hi hn)⟩
def spDice (K : PySem.W.Frag) : Sp := fun vs H Q _ => ∃ (a : Addr) (ns : List Int) (i : Nat), vs = [.ref a, .int (i : Int)] ∧ SqL K H a (ns.map V.int) ∧ i ≤ 63 ∧
  ∀ H' d, Ext H H' → H d = none → DiceAt H' d → Q (.ref d) H'
theorem scDice : FnScope ["_law_script", "_law_spot", "_law_cell", "_law_left"] ["_law_script", "_law_spot"] (defScope sDice) := ⟨rfl, rfl, rfl, by decide +kernel, rfl, by decide +kernel, by decide +kernel⟩
theorem ok_dice (F : Fun K "_law_dice" "_law_dice" sDice f fd) (T : Txt K mg) : FnOk P w K mg base CX0 1 f fd ["_law_script", "_law_spot"] (spDice K) := by
  refine F.ok scDice (fun vs H Q E h => ?_) (fun cdv A outer s H vs Q E hr h => ?_)
  · obtain ⟨a, ns, i, rfl, _⟩ := h
    rfl
  · obtain ⟨a, ns, i, rfl, hs, hi, k⟩ := h
    refine ⟨_, pss_cons (ps_set (i := 2) scDice.nd rfl (Or.inl rfl) (pe_ifExp (pt_cmpR op_lt (pv 1) (pe_callB call_len_seq (by rfl) T.len PySem.boot_len (pa_cons (pv 0) pa_nil)) (nomark _))
          (pe_callTy call_int1 (by rfl) T.int (by decide +kernel) (pa_cons (pe_ix ix_list (pv 0) (pv 1) (fun _ _ => rfl)) pa_nil)) (pe_op op_add (pe_op op_mul pe_int (pv 1)) pe_int)))
      (pss_cons (ps_set (i := 3) scDice.nd rfl (Or.inl rfl) (pe_op op_modN (pe_callB (call_max2 rfl) (by rfl) T.max (by decide +kernel) (pa_cons pe_int (pa_cons (pe_op op_sub (pe_callB call_abs (by rfl) T.abs (by decide +kernel) (pa_cons (pv 2) pa_nil)) (pe_op op_pow pe_int pe_int)) pa_nil)))
          (pe_op op_mulW (pe_op op_pow pe_int pe_int) (pe_op op_pow pe_int pe_int))))
        (pss_one (ps_ret (pe_lst (pa_cons (pv 3) (pa_cons (pe_op op_add (pe_op op_add (pe_op op_add (pe_op op_mul (pe_op op_modN (pe_callB call_abs (by rfl) T.abs (by decide +kernel) (pa_cons (pv 2) pa_nil)) pe_int) pe_int) (pe_op op_mul pe_int (pv 1)))
          (pe_op op_mul pe_int (pe_callTy call_int1 (by rfl) T.int (by decide +kernel) (pa_cons (pe_cmpR op_lt (pv 2) pe_int (nomark _)) pa_nil)))) pe_int) (pa_cons pe_int pa_nil))))))), ?_⟩
    walk_at "rd"
    refine ⟨a, _, rfl, .inl hs, ?_⟩
    walk_at "rd"
    refine ite2 (fun h1 => ?_) (fun h1 => ?_)
    have h2 := of_decide_eq_true h1
    rw [List.length_map] at h2
    have hlt : i < ns.length := by omega
    walk_at "rd"
    refine g_ixL hs (v := .int ns[i]) (atI_nat (by rw [mapget, List.getElem?_eq_getElem hlt]; rfl)) ?_
    walk_at "rd"
    refine .inl ⟨_, rfl, ?_⟩
    generalize ns[i] = c
    walk_at "rd"
    rotate_left
    walk_at "rd"
    refine g_I (.inr ⟨by omega, by omega⟩) ?_
    walk_at "rd"
    generalize (83 * (i : Int) + 61) = c
    walk_at "rd"
    all_goals
      refine g_I ⟨by decide, by decide, by decide⟩ ?_
      walk_at "rd"
      refine g_I ⟨by decide, by decide, by decide⟩ ?_
      walk_at "rd"
      refine g_I ⟨by decide, by decide, by decide⟩ ?_
      walk_at "rd"
      refine g_I (wide_mul (a := 200) (b := 200) (by decide +kernel) (by decide +kernel) (by decide) (by decide) (by decide)) ?_
      walk_at "rd"
      refine g_fmod (by decide +kernel) (fun l l0 l1 => ?_)
      walk_at "rd"
      refine g_fmod (by decide +kernel) (fun r r0 r1 => ?_)
      walk_at "rd"
      refine g_I (.inr ⟨by decide, by decide⟩) ?_
      walk_at "rd"
      refine g_I (.inl ⟨by decide, by decide⟩) ?_
      walk_at "rd"
      refine .inr ⟨_, rfl, ?_⟩
      refine g_I (.inl ⟨by decide, by decide⟩) ?_
      walk_at "rd"
      refine ⟨by show 3 ≤ sizeLine; decide, fun d hd => ?_⟩
      have l1' : l < 10 ^ 120 := Int.lt_of_lt_of_le l1 (by decide +kernel)
      refine k _ d (Ext.new hd) hd ⟨l, _, 0, upd_same, l0, l1', ?_, ?_, Int.le_refl _⟩
      · split <;> omega
      · split <;> omega

/-! ### a roll -/
def spRoll : Sp := fun vs H Q _ => ∃ (d : Addr) (n : Int), vs = [.ref d, .int n] ∧ DiceAt H d ∧ 0 < n ∧ n < 2 ^ 1000 ∧
  ∀ H' r, ExtBut d H H' → DiceAt H' d → 0 ≤ r → r < n → Q (.int r) H'
theorem scRoll : FnScope ["_law_dice_here", "_law_total", "_law_found", "_law_one", "_law_two"] ["_law_dice_here", "_law_total"] (defScope sRoll) := ⟨rfl, rfl, rfl, by decide +kernel, rfl, by decide +kernel, by decide +kernel⟩
theorem ok_roll (F : Fun K "_law_roll" "_law_roll" sRoll f fd) (T : Txt K mg) : FnOk P w K mg base CX0 1 f fd ["_law_dice_here", "_law_total"] spRoll := by
  refine F.ok scRoll (fun vs H Q E h => ?_) (fun cdv A outer s H vs Q E hr h => ?_)
  · obtain ⟨d, n, rfl, _⟩ := h
    rfl
  · obtain ⟨d, n, rfl, ⟨a, b, c, hd, a0, a1, b0, b1, c0⟩, n0, n1, k⟩ := h
    refine ⟨_, pss_cons (ps_if (pt_cmpR op_gt (pe_ix ix_list (pv 0) pe_int (fun _ _ => rfl)) pe_int (nomark _))
        (pss_cons (ps_set (i := 2) scRoll.nd rfl (Or.inl rfl) (pe_op op_modN (pe_callTy call_int1 (by rfl) T.int (by decide +kernel) (pa_cons (pe_ix ix_list (pv 0) pe_int (fun _ _ => rfl)) pa_nil)) (pv 1)))
          (pss_cons (ps_asg (pe_op op_fdivW (pe_ix ix_list (pv 0) pe_int (fun _ _ => rfl)) (pv 1)) (pg_sub (pv 0) pe_int set_list)) (pss_one (ps_ret (pv 2))))) pss_nil)
      (pss_cons (ps_asg (pe_op op_add (pe_ix ix_list (pv 0) pe_int (fun _ _ => rfl)) pe_int) (pg_sub (pv 0) pe_int set_list))
        (pss_cons (ps_set (i := 3) scRoll.nd rfl (Or.inl rfl) (pe_op op_modN (pe_callTy call_int1 (by rfl) T.int (by decide +kernel) (pa_cons (pe_op op_add (pe_ix ix_list (pv 0) pe_int (fun _ _ => rfl)) (pe_op op_mul pe_int (pe_ix ix_list (pv 0) pe_int (fun _ _ => rfl)))) pa_nil)) pe_int))
          (pss_cons (ps_set (i := 4) scRoll.nd rfl (Or.inl rfl) (pe_op op_add (pe_op op_mul (pe_op op_modN (pe_callTy call_int1 (by rfl) T.int (by decide +kernel)
              (pa_cons (pe_op op_add (pe_op op_mul (pv 3) (pv 3)) (pe_op op_mul pe_int (pe_ix ix_list (pv 0) pe_int (fun _ _ => rfl)))) pa_nil)) pe_int) pe_int) (pv 3)))
            (pss_one (ps_ret (pe_op op_modN (pe_callTy call_int1 (by rfl) T.int (by decide +kernel) (pa_cons (pe_op op_fdiv (pv 4) pe_int) pa_nil)) (pv 1))))))), ?_⟩
    walk_at "rd"
    refine g_ixL (SqL.of hd) (v := .int a) rfl ?_
    walk_at "rd"
    refine ite2 (fun h1 => ?_) (fun h1 => ?_)
    · walk_at "rd"
      refine g_ixL (SqL.of hd) (v := .int a) rfl ?_
      walk_at "rd"
      refine .inl ⟨_, rfl, ?_⟩
      walk_at "rd"
      refine g_fmod n0 (fun r r0 r1 => ?_)
      walk_at "rd"
      refine g_ixL (SqL.of hd) (v := .int a) rfl ?_
      walk_at "rd"
      refine g_I (wide_div (b := 1000) n0 (by omega) (by decide) (by decide)) ?_
      walk_at "rd"
      refine ⟨d, _, _, 0, rfl, rfl, hd, rfl, ?_⟩
      walk_at "rd"
      refine k _ r (fun x o hx q => by rw [upd_ne hx]; exact q) ⟨a / n, b, c, upd_same, Int.ediv_nonneg a0 (Int.le_of_lt n0), Int.lt_of_le_of_lt (Int.ediv_le_self _ a0) a1, b0, b1, c0⟩ r0 r1
    · walk_at "rd"
      refine g_ixL (SqL.of hd) (v := .int c) rfl ?_
      walk_at "rd"
      refine ⟨d, _, _, 2, rfl, rfl, hd, rfl, ?_⟩
      walk_at "rd"
      have hd2 : upd H d (.lst (List.set [V.int a, V.int b, V.int c] 2 (V.int (c + 1)))) d = some (.lst [.int a, .int b, .int (c + 1)]) := upd_same
      generalize hH2 : upd H d (.lst (List.set [V.int a, V.int b, V.int c] 2 (V.int (c + 1)))) = H2 at hd2 ⊢
      have e2 : ExtBut d H H2 := fun x o hx q => by rw [← hH2, upd_ne hx]; exact q
      refine g_ixL (SqL.of hd2) (v := .int b) rfl ?_
      walk_at "rd"
      refine g_ixL (SqL.of hd2) (v := .int (c + 1)) rfl ?_
      refine g_I (.inl ⟨by decide, by decide⟩) ?_
      walk_at "rd"
      refine .inl ⟨_, rfl, ?_⟩
      walk_at "rd"
      refine g_fmod (by decide) (fun r r0 r1 => ?_)
      walk_at "rd"
      refine g_I (.inl ⟨by omega, by omega⟩) ?_
      walk_at "rd"
      refine g_ixL (SqL.of hd2) (v := .int (c + 1)) rfl ?_
      refine g_I (.inl ⟨by decide, by decide⟩) ?_
      walk_at "rd"
      refine .inl ⟨_, rfl, ?_⟩
      walk_at "rd"
      refine g_fmod (by decide) (fun t t0 t1 => ?_)
      walk_at "rd"
      refine g_I (.inr ⟨by decide, by decide⟩) ?_
      walk_at "rd"
      refine g_I ⟨by decide, by decide⟩ ?_
      walk_at "rd"
      refine .inl ⟨_, rfl, ?_⟩
      walk_at "rd"
      refine g_fmod n0 (fun z z0 z1 => ?_)
      exact k _ z e2 ⟨a, b, c + 1, hd2, a0, a1, b0, b1, by omega⟩ z0 z1
theorem dice_none {H : Hp} {d l : Addr} (h : DiceAt H d) (e : H l = none) : l ≠ d := by
  obtain ⟨a, b, c, h, _⟩ := h
  intro z
  subst z
  rw [e] at h
  cases h
theorem dice_ne {H : Hp} {d l : Addr} {o : HO} (h : DiceAt H d) (e : H l = some o) (n : ∀ xs, o ≠ .lst xs) : l ≠ d := by
  obtain ⟨a, b, c, h, _⟩ := h
  intro z
  subst z
  rw [e] at h
  cases h
  exact n _ rfl
structure AtR (K : PySem.W.Frag) (mg : Str → Option Value) (f : Addr) (fd : FuncData) : Prop where
  F : Fun K "_law_roll" "_law_roll" sRoll f fd
  b : Binds K fd ["_law_dice_here", "_law_total"] []
  g : mg "_law_roll" = some (.ref f)
theorem DiceAt.ext {d : Addr} {H H1 : Hp} (e : Ext H H1) (h : DiceAt H d) : DiceAt H1 d := by
  obtain ⟨a, b, c, h, r⟩ := h
  exact ⟨a, b, c, e _ _ h, r⟩
/-! ### pick -/
def spPick (K : PySem.W.Frag) : Sp := fun vs H Q _ => ∃ (d l : Addr) (xs : List V), vs = [.ref d, .ref l] ∧ DiceAt H d ∧ SqL K H l xs ∧ l ≠ d ∧ 0 < xs.length ∧ xs.length ≤ 5000 ∧
  ∀ H' x, ExtBut d H H' → DiceAt H' d → x ∈ xs → Q x H'
theorem scPick : FnScope ["_law_dice_here", "_law_items"] ["_law_dice_here", "_law_items"] (defScope sPick) := ⟨rfl, rfl, rfl, by decide +kernel, rfl, by decide +kernel, by decide +kernel⟩
theorem ok_pick {fR : Addr} {fdR : FuncData} (F : Fun K "_law_pick" "_law_pick" sPick f fd) (T : Txt K mg) (R : AtR K mg fR fdR) : FnOk P w K mg base CX0 2 f fd ["_law_dice_here", "_law_items"] (spPick K) := by
  have GR : FnOk P w K mg base CX0 1 fR fdR ["_law_dice_here", "_law_total"] spRoll := ok_roll R.F T
  refine F.ok scPick (fun vs H Q E h => ?_) (fun cdv A outer s H vs Q E hr h => ?_)
  · obtain ⟨d, l, xs, rfl, _⟩ := h
    rfl
  · obtain ⟨d, l, xs, rfl, hd, hl, ne, l0, l1, k⟩ := h
    refine ⟨_, pss_one (ps_ret (pe_ix ix_list (pv 1) (pe_call GR hr (by rfl) R.g R.F.kp R.b .nil pass0 (pa_cons (pv 0) (pa_cons (pe_callB call_len_seq (by rfl) T.len PySem.boot_len (pa_cons (pv 1) pa_nil)) pa_nil))) (fun _ _ => rfl))), ?_⟩
    walk_at "rd"
    refine ⟨l, xs, rfl, .inl hl, ?_⟩
    walk_at "rd"
    refine ⟨d, _, rfl, hd, by omega, by omega, ?_⟩
    intro H' r e hd' r0 r1
    have hlt : r.toNat < xs.length := by omega
    have er : r = (r.toNat : Int) := by omega
    rw [er]
    exact g_ixL (sqL_but e ne hl) (atI_nat (List.getElem?_eq_getElem hlt)) (k _ _ e hd' (List.getElem_mem hlt))
end
end

/-! Falling rows: what they are; is_falling. -/

section
open PySem PySem.Spec PyProof.Rows L2 Gd
theorem getI {ns : List Int} {i : Nat} (h : i < ns.length) : (ns.map V.int)[i]? = some (.int (ns.getD i 0)) := by
  rw [mapget, List.getElem?_eq_getElem h, List.getD_eq_getElem?_getD, List.getElem?_eq_getElem h]
  rfl
theorem getDI {ns : List Int} {i : Nat} (h : i < ns.length) : (ns.map V.int).getD i .non = .int (ns.getD i 0) := by
  rw [List.getD_eq_getElem?_getD, getI h]
  rfl
theorem getD_big {ns : List Int} {i : Nat} (h : ¬ i < ns.length) : ns.getD i 0 = 0 := by
  rw [List.getD_eq_getElem?_getD, List.getElem?_eq_none (by omega)]
  rfl
structure Fall (ns : List Int) : Prop where
  pos : ∀ x ∈ ns, 1 ≤ x
  sum : ns.sum ≤ 12
  desc : ∀ i : Nat, i + 1 < ns.length → ns.getD (i + 1) 0 ≤ ns.getD i 0
theorem sum_len : ∀ {ns : List Int}, (∀ x ∈ ns, 1 ≤ x) → (ns.length : Int) ≤ ns.sum
  | [], _ => by simp
  | x :: r, h => by
    have h1 := h x List.mem_cons_self
    have h2 := sum_len (ns := r) fun y hy => h y (List.mem_cons_of_mem _ hy)
    rw [List.sum_cons, List.length_cons]
    omega
theorem mem_sum : ∀ {ns : List Int}, (∀ x ∈ ns, 1 ≤ x) → ∀ x ∈ ns, x ≤ ns.sum
  | [], _, x, hx => by cases hx
  | y :: r, h, x, hx => by
    have h1 := h y List.mem_cons_self
    have hr : ∀ z ∈ r, 1 ≤ z := fun z hz => h z (List.mem_cons_of_mem _ hz)
    have h2 := sum_len hr
    rw [List.sum_cons]
    rcases List.mem_cons.mp hx with e | e
    · subst e
      omega
    · have := mem_sum hr x e
      omega
theorem Fall.len {ns : List Int} (h : Fall ns) : ns.length ≤ 12 := by
  have := sum_len h.pos
  have := h.sum
  omega
theorem Fall.le {ns : List Int} (h : Fall ns) : ∀ x ∈ ns, x ≤ 12 := fun x hx => by
  have := mem_sum h.pos x hx
  have := h.sum
  omega
theorem Fall.sum0 {ns : List Int} (h : Fall ns) : 0 ≤ ns.sum := by
  have := sum_len h.pos
  omega
theorem Fall.at {ns : List Int} (h : Fall ns) (i : Nat) : 0 ≤ ns.getD i 0 ∧ ns.getD i 0 ≤ 12 := by
  by_cases hi : i < ns.length
  · rw [List.getD_eq_getElem?_getD, List.getElem?_eq_getElem hi]
    have := h.pos _ (List.getElem_mem hi)
    have := h.le _ (List.getElem_mem hi)
    show 0 ≤ ns[i] ∧ ns[i] ≤ 12
    omega
  · rw [getD_big hi]
    omega
theorem Fall.size {ns : List Int} (h : Fall ns) {n : Nat} (hn : n ≤ 1000) : n < sizeLine := by
  have : (1000 : Nat) < sizeLine := by decide
  omega
theorem small {n : Nat} (hn : n ≤ 1000) : n < sizeLine := by
  have : (1000 : Nat) < sizeLine := by decide
  omega
theorem getD_mem {ns : List Int} {i : Nat} (h : i < ns.length) : ns.getD i 0 ∈ ns := by
  rw [List.getD_eq_getElem?_getD, List.getElem?_eq_getElem h]
  exact List.getElem_mem h
theorem Fall.down {ns : List Int} (h : Fall ns) (i : Nat) : ns.getD (i + 1) 0 ≤ ns.getD i 0 := by
  by_cases hi : i + 1 < ns.length
  · exact h.desc i hi
  · rw [getD_big hi]
    exact (h.at i).1
theorem Fall.headI {ns : List Int} (h : Fall ns) : ∀ i : Nat, ns.getD i 0 ≤ ns.getD 0 0
  | 0 => Int.le_refl _
  | i + 1 => Int.le_trans (h.down i) (h.headI i)
theorem Fall.head {ns : List Int} (h : Fall ns) : ∀ x ∈ ns, x ≤ ns.getD 0 0 := fun x hx => by
  obtain ⟨i, hi, rfl⟩ := List.getElem_of_mem hx
  have := h.headI i
  rw [List.getD_eq_getElem?_getD, List.getElem?_eq_getElem hi] at this
  exact this
theorem fall_nil : Fall [] := ⟨(nofun), (by decide), fun i hi => absurd hi (by simp)⟩
theorem head_mem {ns : List Int} (h : Fall ns) (hne : ns ≠ []) : ns.getD 0 0 ∈ ns := getD_mem (List.length_pos_iff.mpr hne)
theorem lt66 {A : Around} {k : Nat} (hr : Room k A) : A.units + 66 < cLine := by
  have := hr.un
  omega
section
variable {P : Program} {w : World} {K : PySem.W.Frag} {mg : Str → Option Value} {base : Heap} {f : Addr} {fd : FuncData}
/-! ### falling -/
abbrev sFalling : Stmt := top 17
theorem scFalling : FnScope ["value", "most", "number", "i"] ["value", "most"] (defScope sFalling) := ⟨rfl, rfl, rfl, by decide +kernel, rfl, by decide +kernel, by decide +kernel⟩
def spFalling (K : PySem.W.Frag) : Sp := fun vs H Q _ => ∃ (a : Addr) (ns : List Int), vs = [.ref a, .int 12] ∧ SqT K H a (ns.map V.int) ∧ Fall ns ∧ ∀ H', Ext H H' → Q (.bl true) H'
theorem ok_falling (F : Fun K "is_falling" "is_falling" sFalling f fd) (T : Txt K mg) (Wi : Def1 P w K mg base CX0 3 "is_within" ["value", "low", "high"] (spIsWithin K)) : FnOk P w K mg base CX0 4 f fd ["value", "most"] (spFalling K) := by
  refine F.ok scFalling (fun vs H Q E h => ?_) (fun cdv A outer s H vs Q E hr h => ?_)
  · obtain ⟨a, ns, rfl, _⟩ := h
    rfl
  · obtain ⟨a, ns, rfl, hs, hF, k⟩ := h
    refine ⟨_, pss_cons (ps_if (PW.pt (pw_or (pt_not (pt_val (pe_callB call_isi (by rfl) T.isinstance (by decide +kernel) (pa_cons (pv 0) (pa_cons (pe_bltn (v := .ty "tuple") (by rfl) T.tuple (by decide +kernel) rfl) pa_nil))))) (pw_or1 (pt_not (pt_val (pe_callB (cr_all rfl) (by rfl) T.all (by decide +kernel) (pa_cons (pe_lc (own := [("number", 2)]) (g := gName 2) (tt := tYes) rfl scFalling.nd (pi_tup (pv 0)) (blkOk_by (N := ["value", "most", "number", "i"]) (sc := defScope sFalling) (by decide +kernel)) (fun _ _ _ _ _ => pg_name (i := 2) scFalling.nd rfl (Or.inl rfl)) (fun _ _ _ _ _ => pts_nil) (fun _ _ _ _ _ => (pe_def Wi hr (by decide) (by rfl) (pa_cons (pv 2) (pa_cons pe_int (pa_cons (pv 1) pa_nil)))))) pa_nil))))))) (pss_one (ps_ret pe_bl)) pss_nil)
      (pss_one (ps_ret (pe_and (pe_cmpR op_le (pe_callB (call_sumS rfl) (by rfl) T.sum (by decide +kernel) (pa_cons (pv 0) pa_nil)) (pv 1) (nomark _)) (pe_one (pe_callB (cr_all rfl) (by rfl) T.all (by decide +kernel) (pa_cons (pe_lc (own := [("i", 3)]) (g := gName 3) (tt := tYes) rfl scFalling.nd (pi_range2 (by rfl) T.range (pa_cons pe_int (pa_cons (pe_callB call_len_seq (by rfl) T.len PySem.boot_len (pa_cons (pv 0) pa_nil)) pa_nil))) (blkOk_by (N := ["value", "most", "number", "i"]) (sc := defScope sFalling) (by decide +kernel)) (fun _ _ _ _ _ => pg_name (i := 3) scFalling.nd rfl (Or.inl rfl)) (fun _ _ _ _ _ => pts_nil) (fun _ _ _ _ _ => (pe_cmpR op_le (pe_ix (r := rIxT K) ix_tup (pv 0) (pv 3) (fun _ _ => rfl)) (pe_ix (r := rIxT K) ix_tup (pv 0) (pe_op op_sub (pv 3) pe_int) (fun _ _ => rfl)) (nomark _)))) pa_nil)))))), ?_⟩
    try dsimp only [cx_nox, cx_K]
    have hl1 := hF.len
    have hs1 := hF.sum
    walk_at "rd"
    refine ⟨_, _, _, _, true, rfl, .ty _, tyT hs, by kernel_rfl, ?_⟩
    walk_at "rd"
    refine g_lc (g_itup ?_)
    walk_at "rd"
    refine lcT hs (small (by rw [List.length_map]; omega)) (fun _ => true) (fun _ => .bl true) (fun x H' hx e Qe Qn he hn => ?_) (fun H1 D e1 hD hd => ?_)
    · obtain ⟨n, hn', rfl⟩ := List.mem_map.mp hx
      refine ⟨rfl, ?_⟩
      walk_at "rd"
      refine ⟨_, 1, 12, true, rfl, by decide, by decide, .inl ⟨n, rfl, (decide_eq_true ⟨hF.pos n hn', hF.le n hn'⟩).symm⟩, ?_⟩
      exact he _ (fun _ _ z => z) rfl
    · walk_at "rd"
      refine ⟨D, ns.map fun _ => true, rfl, SqL.of ?_, ?_⟩
      · rw [hd, List.filter_eq_self.mpr (fun _ _ => rfl), List.map_map, List.map_map]
        rfl
      have all : (ns.map fun _ => true).all id = true := by simp
      rw [all]
      walk_at "rd"
      refine ⟨a, ns, rfl, .inr (sqT_ext e1 hs), ?_⟩
      walk_at "rd"
      rw [decide_eq_true hs1]
      walk_at "rd"
      refine g_lc (g_rng2 ?_)
      walk_at "rd"
      refine ⟨a, _, rfl, .inr (sqT_ext e1 hs), ?_⟩
      walk_at "rd"
      rw [List.length_map]
      refine ⟨⟨by decide, by decide, by omega, by omega⟩, ?_⟩
      have en : ((ns.length : Int) - 1).toNat = ns.length - 1 := by omega
      rw [en]
      refine lcR (small (by omega)) (fun _ => true) (fun _ => .bl true) (fun i H' hi e Qe Qn he hn => ?_) (fun H' D2 e hD2 hd2 => ?_)
      · have ei : (1 + (i : Int)) = ((i + 1 : Nat) : Int) := by omega
        rw [ei]
        refine ⟨rfl, ?_⟩
        walk_at "rd"
        refine g_ixT (sqT_ext e (sqT_ext e1 hs)) (atI_nat (getI (i := i + 1) (by omega))) ?_
        walk_at "rd"
        have ej : (((i + 1 : Nat) : Int) - 1) = (i : Int) := by omega
        rw [ej]
        refine g_ixT (sqT_ext e (sqT_ext e1 hs)) (atI_nat (getI (i := i) (by omega))) ?_
        walk_at "rd"
        rw [decide_eq_true (hF.desc i (by omega))]
        exact he _ (fun _ _ z => z) rfl
      · rw [idx_all] at hd2
        walk_at "rd"
        refine ⟨D2, (List.range (ns.length - 1)).map fun _ => true, rfl, SqL.of ?_, ?_⟩
        · rw [hd2, List.map_map]
          rfl
        have all2 : ((List.range (ns.length - 1)).map fun _ => true).all id = true := by simp
        rw [all2]
        exact k _ (Ext.trans e1 e)
end
end

/-! Kinds: made, told. -/

section
open PySem PySem.Spec PyProof.Rows L2 Gd
section
variable {P : Program} {w : World} {K : PySem.W.Frag} {mg : Str → Option Value} {base : Heap} {f C : Addr} {fd : FuncData}
/-- the class at C -/
structure KC (K : PySem.W.Frag) (mg : Str → Option Value) (C : Addr) : Prop where
  cl : Cls K C
  noN : NoAttr K C "_numbers"
  noP : NoAttr K C "_place"
  g : mg "Kind" = some (.ref C)
  kp : PySem.W.keepIn K (.ref C) = true
  ha : PySem.W.findIn K (.ref C) "__class__" = some (some (.builtin "object.__class__"))
  hn : PySem.W.specialIn K (.builtin "object.__class__") "__get__" = some (some (.builtin "getset_descriptor.__get__"))
  htk : PySem.W.takesIn K (.builtin "object.__class__") = some true
  hm : PySem.W.mroIn K C (.type "object") = some true
  kit : PySem.W.kitOne K (.ref C) (.ref C) = some true
  ne : NeC K C
  most : ∃ t, mg "MAX_SIZE" = some (.int 12 t)
theorem KC.ty {C : Addr} (T : KC K mg C) {H : Hp} {p dx : Addr} {fs : List (Str × V)} (h : H p = some (.ins C dx fs)) : TyX K H (.ref p) (.ref C) := .base (.ins h T.cl T.ha T.hn T.htk T.hm)
/-- a kind at p, with the numbers ns -/
structure KindAt (K : PySem.W.Frag) (C : Addr) (H : Hp) (p n t m : Addr) (ns : List Int) : Prop where
  ins : ∃ dx, H p = some (.ins C dx [(("_numbers" : Str), .ref n), (("_place" : Str), .ref t)])
  num : TupX K H n (ns.map V.int)
  pl : SqT K H t [.int ns.sum, .ref m]
  neg : SqT K H m ((ns.map fun x => -x).map V.int)
  fall : Fall ns
theorem KindAt.ext {H H' : Hp} {p n t m : Addr} {ns : List Int} (e : Ext H H') (h : KindAt K C H p n t m ns) : KindAt K C H' p n t m ns := by
  obtain ⟨⟨dx, h1⟩, h2, h3, h4, h5⟩ := h
  exact ⟨⟨dx, e _ _ h1⟩, h2.ext e, sqT_ext e h3, sqT_ext e h4, h5⟩
theorem look1 {u t : V} : ([(("_numbers" : Str), u), (("_place" : Str), t)] : List (Str × V)).lookup ("_numbers" : Str) = some u := by simp [List.lookup]
theorem look2 {u t : V} : ([(("_numbers" : Str), u), (("_place" : Str), t)] : List (Str × V)).lookup ("_place" : Str) = some t := by
  have : (("_place" : Str) == ("_numbers" : Str)) = false := by decide
  simp [List.lookup, this]
/-! ### __init__ -/
abbrev sInit : Stmt := cls 0
theorem scInit : FnScope ["self", "numbers", "number"] ["self", "numbers"] (defScope sInit) := ⟨rfl, rfl, rfl, by decide +kernel, rfl, by decide +kernel, by decide +kernel⟩
def spInit (K : PySem.W.Frag) (C : Addr) : Sp := fun vs H Q _ => ∃ (p dx a : Addr) (ns : List Int), vs = [.ref p, .ref a] ∧ H p = some (.ins C dx []) ∧ TupX K H a (ns.map V.int) ∧ Fall ns ∧
  ∀ H' n t m, ExtBut p H H' → KindAt K C H' p n t m ns → Q .non H'
abbrev FnI (K : PySem.W.Frag) (t0 f : Addr) (fd : FuncData) : Prop := FunD K "__init__" "Kind.__init__" (defArgs sInit) (defBody sInit) (defScope sInit) [.ref t0] [] f fd
def negV : V → V := fun v => match v with
  | .int n => .int (-n)
  | y => y
theorem sqT_up {H : Hp} {p a C dx : Addr} {fs gs : List (Str × V)} {xs : List V} (hp : H p = some (.ins C dx fs)) (h : SqT K H a xs) : SqT K (upd H p (.ins C dx gs)) a xs := by
  rcases h with (h | ⟨o, h⟩) | h
  · refine .inl (.inl ?_)
    rw [upd_ne (ne_of h hp (by intro z; cases z))]
    exact h
  · refine .inl (.inr ⟨o, ?_⟩)
    rw [upd_ne (ne_of h hp (by intro z; cases z))]
    exact h
  · exact .inr h
theorem tupX_up {H : Hp} {p a C dx : Addr} {fs gs : List (Str × V)} {xs : List V} (hp : H p = some (.ins C dx fs)) (h : TupX K H a xs) : TupX K (upd H p (.ins C dx gs)) a xs := by
  rcases h with ⟨o, h, d⟩ | h
  · refine .inl ⟨o, ?_, d⟩
    rw [upd_ne (ne_of h hp (by intro z; cases z))]
    exact h
  · exact .inr h
theorem ok_init {t0 : Addr} (F : FnI K t0 f fd) (T : Txt K mg) (Cl : KC K mg C) (Fa : Def1 P w K mg base CX0 4 "is_falling" ["value", "most"] (spFalling K)) :
    FnOk P w K mg base CX0 5 f fd ["self", "numbers"] (spInit K C) := by
  obtain ⟨tM, gM⟩ := Cl.most
  refine F.ok scInit (fun vs H Q E h => ?_) (fun cdv A outer s H vs Q E hr h => ?_)
  · obtain ⟨p, dx, a, ns, rfl, _⟩ := h
    rfl
  · obtain ⟨p, dx, a, ns, rfl, hp, ha, hF, k⟩ := h
    refine ⟨_, PSs.nox (pss_cons (ps_if (pt_not (pt_val (pe_def Fa hr (by decide) (by rfl) (pa_cons (pv 1) (pa_cons (pe_glob (v := .int 12) (by rfl) gM ⟨_, rfl⟩) pa_nil))))) (pss_one ps_never) pss_nil)
      (pss_cons (ps_fld (pv 0) (pe_callTy call_tupX (by rfl) T.tuple (by decide +kernel) (pa_cons (pv 1) pa_nil)) rfl)
      (pss_one (ps_fld (pv 0) (pe_tup (pa_cons (pe_callB (call_sumS rfl) (by rfl) T.sum (by decide +kernel) (pa_cons (pv 1) pa_nil)) (pa_cons (pe_callTy call_tupX (by rfl) T.tuple (by decide +kernel) (pa_cons (pe_lc (own := [("number", 2)]) (g := gName 2) (tt := tYes) rfl scInit.nd (pi_tup (pv 1)) (blkOk_by (N := ["self", "numbers", "number"]) (sc := defScope sInit) (by decide +kernel)) (fun _ _ _ _ _ => pg_name (i := 2) scInit.nd rfl (Or.inl rfl)) (fun _ _ _ _ _ => pts_nil) (fun _ _ _ _ _ => (pe_un un_neg (pv 2)))) pa_nil)) pa_nil))) rfl)))), ?_⟩
    try dsimp only [cx_nox, cx_K]
    have hl1 := hF.len
    walk_at "rd"
    refine ⟨a, ns, rfl, ha.sq, hF, fun H1 e1 => ?_⟩
    have hp1 : H1 p = some (.ins C dx []) := e1 _ _ hp
    have ha1 := ha.ext e1
    walk_at "rd"
    refine ⟨a, _, rfl, .inr ⟨ha1.sq, ?_⟩⟩
    walk_at "rd"
    refine ⟨p, C, dx, [], rfl, hp1, Cl.cl, Cl.noN, by decide, ?_⟩
    have hp2 : upd H1 p (.ins C dx (putF "_numbers" (.ref a) [])) p = some (.ins C dx [(("_numbers" : Str), .ref a)]) := upd_same
    have ha2 := tupX_up (gs := putF "_numbers" (.ref a) []) hp1 ha1
    have e2 : ExtBut p H (upd H1 p (.ins C dx (putF "_numbers" (.ref a) []))) := fun b o hb q => by
      rw [upd_ne hb]
      exact e1 _ _ q
    generalize upd H1 p (.ins C dx (putF "_numbers" (.ref a) [])) = H2 at hp2 ha2 e2 ⊢
    walk_at "rd"
    refine ⟨a, ns, rfl, .inr ha2.sq, ?_⟩
    walk_at "rd"
    refine g_lc (g_itup ?_)
    walk_at "rd"
    refine lcT ha2.sq (small (by rw [List.length_map]; omega)) (fun _ => true) negV (fun x H' hx e Qe Qn he hn => ?_) (fun H3 D e3 hD hd => ?_)
    · obtain ⟨n, hn', rfl⟩ := List.mem_map.mp hx
      refine ⟨rfl, ?_⟩
      walk_at "rd"
      exact he _ (fun _ _ z => z) rfl
    · walk_at "rd"
      rw [List.filter_eq_self.mpr (fun _ _ => rfl), List.map_map] at hd
      refine ⟨D, _, rfl, .inl ⟨SqL.of hd, fun l o hl ho => ?_⟩⟩
      walk_at "rd"
      refine ⟨by show 2 ≤ sizeLine; decide, fun t ht => ?_⟩
      have el := Ext.new (o := HO.frz o (.tup (ns.map (negV ∘ V.int)))) hl
      have et := Ext.new (o := HO.tup [V.int ns.sum, V.ref l]) ht
      have e4 := Ext.trans e3 (Ext.trans el et)
      have hl4 : SqT K _ l ((ns.map fun x => -x).map V.int) := sqT_ext et (xs := (ns.map fun x => -x).map V.int) (by
        rw [List.map_map]
        exact .inl (.inr ⟨o, upd_same⟩))
      have ht4 : SqT K (upd (upd H3 l (HO.frz o (.tup (ns.map (negV ∘ V.int))))) t (HO.tup [V.int ns.sum, V.ref l])) t [V.int ns.sum, V.ref l] := SqT.of upd_same
      generalize upd (upd H3 l (HO.frz o (.tup (ns.map (negV ∘ V.int))))) t (HO.tup [V.int ns.sum, V.ref l]) = H4 at e4 hl4 ht4 ⊢
      have hp4 := e4 _ _ hp2
      walk_at "rd"
      refine ⟨p, C, dx, _, rfl, hp4, Cl.cl, Cl.noP, (by show 1 < 1000; omega), ?_⟩
      refine k _ a t l ?_ ⟨⟨dx, upd_same⟩, tupX_up hp4 (ha2.ext e4), sqT_up hp4 ht4, sqT_up hp4 hl4, hF⟩
      intro b o hb q
      rw [upd_ne hb]
      exact e4 _ _ (e2 b o hb q)
end
end

/-! Kinds: numbers, size, kinds that are asked. -/

section
open PySem PySem.Spec PyProof.Rows L2 Gd
section
variable {P : Program} {w : World} {K : PySem.W.Frag} {mg : Str → Option Value} {base : Heap} {f C t0 : Addr} {fd : FuncData}
/-- a promise of a property: the answer v and nothing changed -/
def spGet (K : PySem.W.Frag) (C : Addr) (v : Addr → List Int → V) : Sp := fun vs H Q _ => ∃ (p n t m : Addr) (ns : List Int), vs = [.ref p] ∧ KindAt K C H p n t m ns ∧ ∀ H', Ext H H' → Q (v n ns) H'
theorem scNum : FnScope ["self"] ["self"] (defScope (cls 2)) := ⟨rfl, rfl, rfl, by decide +kernel, rfl, by decide +kernel, by decide +kernel⟩
theorem ok_numbers (F : Fun K "numbers" "Kind.numbers" (cls 2) f fd) (Cl : KC K mg C) : FnOk P w K mg base CX0 1 f fd ["self"] (spGet K C fun n _ => .ref n) := by
  refine F.ok scNum (fun vs H Q E h => ?_) (fun cdv A outer s H vs Q E hr h => ?_)
  · obtain ⟨p, n, t, m, ns, rfl, _⟩ := h
    rfl
  · obtain ⟨p, n, t, m, ns, rfl, ⟨⟨dx, hp⟩, hn, ht, hm, hF⟩, k⟩ := h
    refine ⟨_, pss_one (ps_ret (pe_fld (pv 0) rfl)), ?_⟩
    try dsimp only [cx_nox, cx_K]
    walk_at "rd"
    exact ⟨p, C, dx, _, _, rfl, hp, Cl.cl, Cl.noN, look1, k H (fun _ _ z => z)⟩
theorem scSiz : FnScope ["self"] ["self"] (defScope (cls 3)) := ⟨rfl, rfl, rfl, by decide +kernel, rfl, by decide +kernel, by decide +kernel⟩
theorem ok_size (F : Fun K "size" "Kind.size" (cls 3) f fd) (T : Txt K mg) (Cl : KC K mg C) : FnOk P w K mg base CX0 1 f fd ["self"] (spGet K C fun _ ns => .int ns.sum) := by
  refine F.ok scSiz (fun vs H Q E h => ?_) (fun cdv A outer s H vs Q E hr h => ?_)
  · obtain ⟨p, n, t, m, ns, rfl, _⟩ := h
    rfl
  · obtain ⟨p, n, t, m, ns, rfl, ⟨⟨dx, hp⟩, hn, ht, hm, hF⟩, k⟩ := h
    refine ⟨_, pss_one (ps_ret (pe_callB (call_sumS rfl) (by rfl) T.sum (by decide +kernel) (pa_cons (pe_fld (pv 0) rfl) pa_nil))), ?_⟩
    try dsimp only [cx_nox, cx_K]
    walk_at "rd"
    refine ⟨p, C, dx, _, _, rfl, hp, Cl.cl, Cl.noN, look1, ?_⟩
    walk_at "rd"
    exact ⟨n, ns, rfl, .inr hn.sq, k H (fun _ _ z => z)⟩
theorem made_ext {H : Hp} {x dx : Addr} {o u : HO} (hx : H x = none) (hdx : H dx = none) : Ext H (upd (upd H dx o) x u) := fun b ob q => by
  rw [upd_ne (ne_of_none q hx), upd_ne (ne_of_none q hdx)]
  exact q
theorem g_mk2 {E : XK} {H1 : Hp} {Q : VK} {a : Addr} {ns : List Int} (h : TupX K H1 a (ns.map V.int)) (hF : Fall ns) (k : ∀ H' p n t m, Ext H1 H' → KindAt K C H' p n t m ns → Q (.ref p) H') :
    ∀ x dx, H1 x = none → H1 dx = none → dx ≠ x → spInit K C [.ref x, .ref a] (upd (upd H1 dx (.own x)) x (.ins C dx [])) (fun v H2 => v = .non ∧ Q (.ref x) H2) E := fun x dx hx hdx ne =>
  ⟨x, dx, a, ns, rfl, upd_same, h.ext (made_ext hx hdx), hF, fun H' n t m e hk => ⟨rfl, k H' x n t m (fun b o q => e b o (ne_of_none q hx) (made_ext hx hdx b o q)) hk⟩⟩
abbrev sReqKind : Stmt := top 33
theorem scReqKind : FnScope ["value"] ["value"] (defScope sReqKind) := ⟨rfl, rfl, rfl, by decide +kernel, rfl, by decide +kernel, by decide +kernel⟩
def spReqKind (K : PySem.W.Frag) (C : Addr) : Sp := fun vs H Q _ => ∃ (p n t m : Addr) (ns : List Int), vs = [.ref p] ∧ KindAt K C H p n t m ns ∧ Q .non H
theorem ok_reqKind (F : Fun K "require_kind" "require_kind" sReqKind f fd) (T : Txt K mg) (Cl : KC K mg C) : FnOk P w K mg base CX0 1 f fd ["value"] (spReqKind K C) := by
  refine F.ok scReqKind (fun vs H Q E h => ?_) (fun cdv A outer s H vs Q E hr h => ?_)
  · obtain ⟨p, n, t, m, ns, rfl, _⟩ := h
    rfl
  · obtain ⟨p, n, t, m, ns, rfl, ⟨⟨dx, hp⟩, hn, ht, hm, hF⟩, k⟩ := h
    refine ⟨_, PSs.nox (pss_one (ps_if (pt_not (pt_val (pe_callB call_isi (by rfl) T.isinstance (by decide +kernel) (pa_cons (pv 0) (pa_cons (pe_glob (v := .ref C) (by rfl) Cl.g rfl) pa_nil))))) (pss_one ps_never) pss_nil)), ?_⟩
    try dsimp only [cx_nox, cx_K]
    walk_at "rd"
    refine ⟨_, _, _, _, true, rfl, .own C, Cl.ty hp, Cl.kit, ?_⟩
    walk_at "rd"
    exact k
theorem g_mk3 {E : XK} {H1 : Hp} {R : Addr → Hp → Prop} {a : Addr} {ns : List Int} (h : TupX K H1 a (ns.map V.int)) (hF : Fall ns) (k : ∀ H' p n t m, Ext H1 H' → KindAt K C H' p n t m ns → R p H') :
    ∀ x dx, H1 x = none → H1 dx = none → dx ≠ x → spInit K C [.ref x, .ref a] (upd (upd H1 dx (.own x)) x (.ins C dx [])) (fun v H2 => v = .non ∧ R x H2) E := fun x dx hx hdx ne =>
  ⟨x, dx, a, ns, rfl, upd_same, h.ext (made_ext hx hdx), hF, fun H' n t m e hk => ⟨rfl, k H' x n t m (fun b o q => e b o (ne_of_none q hx) (made_ext hx hdx b o q)) hk⟩⟩
end
end

/-! All kinds of a size, as the law lists them. -/

section
open PySem PySem.Spec PyProof.Rows L2 Gd
theorem geo2 (l : Nat) : ∀ n : Nat, n ≤ l → ((List.range n).map fun i => 2 ^ (l - (i + 1))).sum + 2 ^ (l - n) ≤ 2 ^ l
  | 0, _ => by simp
  | n + 1, h => by
    have ih := geo2 l n (by omega)
    rw [List.range_succ, List.map_append, List.sum_append]
    have e : 2 ^ (l - n) = 2 ^ (l - (n + 1)) + 2 ^ (l - (n + 1)) := by
      rw [show l - n = (l - (n + 1)) + 1 by omega, Nat.pow_succ]
      omega
    have e2 : ([n].map fun i => 2 ^ (l - (i + 1))).sum = 2 ^ (l - (n + 1)) := by simp
    rw [e2]
    omega
theorem len_pow : ∀ ls : List Nat, ls.length ≤ (ls.map fun l => 2 ^ l).sum
  | [] => Nat.le_refl _
  | l :: r => by
    have := len_pow r
    have := Nat.one_le_two_pow (n := l)
    rw [List.length_cons, List.map_cons, List.sum_cons]
    omega
section
variable {K : PySem.W.Frag} {H H' : Hp} {size : Nat}
/-- a kind of that size, as a tuple -/
def KT (K : PySem.W.Frag) (size : Nat) (H : Hp) (f : V) : Prop := ∃ (a : Addr) (ns : List Int), f = .ref a ∧ TupX K H a (ns.map V.int) ∧ Fall ns ∧ ns.sum = (size : Int)
/-- the beginning of one, with what is left -/
def WT (K : PySem.W.Frag) (size : Nat) (H : Hp) (l : Nat) (v : V) : Prop := ∃ (b a : Addr) (ns : List Int), v = .ref b ∧ H b = some (.tup [.ref a, .int (l : Int)]) ∧ TupX K H a (ns.map V.int) ∧ Fall ns ∧ ns.sum + (l : Int) = (size : Int)
/-- what is no list stays -/
def Keeps (H H' : Hp) : Prop := ∀ b o, (∀ xs, o ≠ .lst xs) → H b = some o → H' b = some o
theorem Keeps.of (e : Ext H H') : Keeps H H' := fun b o _ q => e b o q
theorem Keeps.trans {H2 : Hp} (a : Keeps H H') (b : Keeps H' H2) : Keeps H H2 := fun x o n q => b x o n (a x o n q)
theorem Keeps.up {D : Addr} {xs ys : List V} (h : H D = some (.lst xs)) : Keeps H (upd H D (.lst ys)) := fun b o n q => by
  rw [upd_ne (fun z => by rw [z, h] at q; cases q; exact n _ rfl)]
  exact q
theorem TupX.keeps {a : Addr} {xs : List V} (e : Keeps H H') (h : TupX K H a xs) : TupX K H' a xs := by
  rcases h with ⟨o, h, d⟩ | h
  · exact .inl ⟨o, e _ _ (fun _ z => by cases z) h, d⟩
  · exact .inr h
theorem KT.keeps {f : V} (e : Keeps H H') (h : KT K size H f) : KT K size H' f := by
  obtain ⟨a, ns, rfl, ht, r⟩ := h
  exact ⟨a, ns, rfl, TupX.keeps e ht, r⟩
theorem WT.keeps {l : Nat} {v : V} (e : Keeps H H') (h : WT K size H l v) : WT K size H' l v := by
  obtain ⟨b, a, ns, rfl, hb, ht, r⟩ := h
  exact ⟨b, a, ns, rfl, e _ _ (fun _ z => by cases z) hb, TupX.keeps e ht, r⟩
theorem keeps_but {D : Addr} {ys : List V} (hd : H D = none ∨ H D = some (.lst ys)) (e : ExtBut D H H') : Keeps H H' := fun b o n q => e b o (fun z => by
  rw [z] at q
  rcases hd with hd | hd
  · rw [hd] at q
    cases q
  · rw [hd] at q
    cases q
    exact n _ rfl) q
theorem fall_snoc {ns : List Int} {k : Int} (h : Fall ns) (k1 : 1 ≤ k) (hs : ns.sum + k ≤ 12) (hl : ns ≠ [] → k ≤ ns.getD (ns.length - 1) 0) : Fall (ns ++ [k]) := by
  have e : [k].sum = k := by simp
  refine ⟨fun x hx => (List.mem_append.mp hx).elim (h.pos x) fun q => by rw [List.mem_singleton.mp q]; exact k1, by rw [List.sum_append, e]; exact hs, fun i hi => ?_⟩
  rw [List.length_append, List.length_singleton] at hi
  by_cases hin : i + 1 < ns.length
  · have := h.desc i hin
    rw [List.getD_eq_getElem?_getD, List.getD_eq_getElem?_getD, List.getElem?_append_left hin, List.getElem?_append_left (by omega), ← List.getD_eq_getElem?_getD, ← List.getD_eq_getElem?_getD]
    exact this
  · have en : i + 1 = ns.length := by omega
    have hne : ns ≠ [] := fun z => by rw [z] at en; simp at en
    have := hl hne
    rw [List.getD_eq_getElem?_getD, List.getD_eq_getElem?_getD, List.getElem?_append_right (by omega), List.getElem?_append_left (by omega), ← List.getD_eq_getElem?_getD (l := ns), en, Nat.sub_self]
    rw [show ns.length - 1 = i by omega] at this
    exact this
/-- a comprehension over numbers whose results stand in a relation to the turn -/
theorem lcRR {σ : L2.St} {H1 : Hp} {vs : List Nat} {g : TG} {tt : TT} {te : TE} {Q : VK} {lo : Int} {n : Nat} (sz : n < sizeLine) (R : Nat → V → Hp → Prop) (mono : ∀ i y H H', Keeps H H' → R i y H → R i y H')
    (body : ∀ (i : Nat) H', i < n → Ext H1 H' → ∀ (Qe : VK) (Qn : Hp → Prop), (∀ y H3, Ext H' H3 → R i y H3 → Qe y H3) →
      g (.int (lo + i)) (wipe σ vs) H' fun σ2 H2 => wipe σ2 vs = wipe σ vs ∧ tt σ2 H2 fun b H3 => if b = true then te σ2 H3 Qe else Qn H3)
    (k : ∀ H' D ys, Ext H1 H' → H1 D = none → H' D = some (.lst ys) → ys.length = n → (∀ i y, ys[i]? = some y → R i y H') → Q (.ref D) H') : LcG (Itr lo n) g tt te vs σ H1 Q := by
  refine fun D hD => lc_rel walk_range R (fun _ => true) (fun i y D ys H H' hd e r => mono i y H H' (keeps_but hd e) r) hD (fun H' e => True.intro) sz (fun i x H' H'' hi e hy Qe Qn he hn => ?_) (fun H' ys e hd hr => ?_)
  · obtain ⟨rfl, rfl⟩ := hy
    exact body i _ hi e Qe Qn fun y H3 e3 r => he y H3 e3 r rfl
  · rw [idx_all] at hr
    have hl := hr.1
    rw [List.length_range] at hl
    refine k H' D ys e hD hd hl.symm fun i y hy => hr.2 i i y ?_ hy
    rw [List.getElem?_range (by have := (List.getElem?_eq_some_iff.mp hy).1; omega)]
end
section
variable {P : Program} {w : World} {K : PySem.W.Frag} {mg : Str → Option Value} {base : Heap} {f : Addr} {fd : FuncData}
abbrev sKinds : Stmt := top 44
theorem scKinds : FnScope ["_law_size", "_law_found", "_law_waits", "_law_kind_here", "_law_left", "_law_most", "_law_number"] ["_law_size"] (defScope sKinds) := ⟨rfl, rfl, rfl, by decide +kernel, rfl, by decide +kernel, by decide +kernel⟩
def spKinds (K : PySem.W.Frag) : Sp := fun vs H Q _ => ∃ size : Nat, vs = [.int (size : Int)] ∧ size ≤ 12 ∧
  ∀ H' F fs, Ext H H' → H F = none → H' F = some (.lst fs) → fs ≠ [] → fs.length ≤ 4096 → (∀ f ∈ fs, KT K size H' f) → Q (.ref F) H'
def PvK (K : PySem.W.Frag) (size : Nat) (F W : Addr) (H0 : Hp) (m : Nat) : L2.St → Hp → Prop := fun σ H => ∃ (fs : List V) (ps : List (V × Nat)) (x y z : Option V),
  σ = [some (.int (size : Int)), some (.ref F), some (.ref W), x, y, z, none] ∧ m = (ps.map fun p => 2 ^ p.2).sum ∧ H F = some (.lst fs) ∧ H W = some (.lst (ps.map (·.1))) ∧ (∀ f ∈ fs, KT K size H f) ∧ (∀ p ∈ ps, WT K size H p.2 p.1) ∧
  fs.length + (ps.map fun p => 2 ^ p.2).sum ≤ 2 ^ size ∧ (fs ≠ [] ∨ ps ≠ []) ∧ (∀ b o, b ≠ F → b ≠ W → H0 b = some o → H b = some o)
theorem sh_row (ns : List Int) : SeqAt.shaped (.tuple (pdata ns)) = true := by
  have d : ∀ ns : List Int, PyData.depthAll (pdata ns) = 0 := fun ns => by
    induction ns with
    | nil => simp [pdata, PyData.depthAll]
    | cons n r ih =>
      unfold pdata at ih ⊢
      simp [PyData.depthAll, PyData.depth, ih]
  unfold SeqAt.shaped
  simp [PyData.canLay0, play, PyData.depth, d]
theorem g_seqP {i j : Nat} {ta : TA} {D : Ends} {σ : L2.St} {H : Hp} (k : ta σ H fun vs H1 => ∃ v w, vs = [v, w] ∧ D.nx ((σ.set i (some v)).set j (some w)) H1) : tPar i j ta D σ H := k
theorem ok_kinds (F : Fun K "_law_kinds" "_law_kinds" sKinds f fd) (T : Txt K mg) : FnOk P w K mg base CX0 1 f fd ["_law_size"] (spKinds K) := by
  refine F.ok scKinds (fun vs H Q E h => ?_) (fun cdv A outer s H vs Q E hr h => ?_)
  · obtain ⟨size, rfl, _⟩ := h
    rfl
  · obtain ⟨size, rfl, hsz, k⟩ := h
    refine ⟨_, pss_cons (ps_par (i := 1) (j := 2) (by rfl) scKinds.nd rfl rfl (by decide) rfl rfl (pa_cons (pe_lst pa_nil) (pa_cons (pe_lst (pa_cons (pe_tup (pa_cons (pe_tupX pa_nil) (pa_cons (pv 0) pa_nil))) pa_nil)) pa_nil)) (by rfl))
      (pss_cons (ps_while PassesOwn.never (pt_cmpR (op_neNil (Nat.lt_of_le_of_lt (Nat.le_add_right _ _) (lt66 hr))) (pv 2) (pe_lst pa_nil) (nomark _)) (pss_cons (ps_asg (pe_bm0 PySem.F.plainAttrs_list PySem.F.slot_list_pop PySem.F.type_list_pop mt_pop (pv 2)) (pg_tup rfl (pgs_cons (pg_name (i := 3) scKinds.nd rfl (Or.inr rfl)) (pgs_cons (pg_name (i := 4) scKinds.nd rfl (Or.inr rfl)) pgs_nil))))
      (pss_one (ps_if (pt_cmpR op_eq (pv 4) pe_int (nomark _)) (pss_one (ps_expr (pe_bm PySem.F.plainAttrs_list PySem.F.slot_list_append PySem.F.type_list_append mt_append (pv 1) (pa_cons (pv 3) pa_nil)))) (pss_cons (ps_set (i := 5) scKinds.nd rfl (Or.inl rfl) (pe_ifExp (pt_cmpR (op_neD hr.units) (pv 3) (pe_tupX pa_nil) (nomark _)) (pe_callB (call_min2 rfl) (by rfl) T.min (by decide +kernel) (pa_cons (pv 4) (pa_cons (pe_ix ix_tup (pv 3) (pe_un un_neg pe_int) (fun _ _ => rfl)) pa_nil))) (pv 4)))
      (pss_one (ps_expr (pe_bm PySem.F.plainAttrs_list PySem.F.slot_list_extend PySem.F.type_list_extend mt_extend (pv 2) (pa_cons (pe_lc (own := [("_law_number", 6)]) (g := gName 6) (tt := tYes) rfl scKinds.nd (pi_range2 (by rfl) T.range (pa_cons pe_int (pa_cons (pe_op op_add (pv 5) pe_int) pa_nil))) (blkOk_by (N := ["_law_size", "_law_found", "_law_waits", "_law_kind_here", "_law_left", "_law_most", "_law_number"]) (sc := defScope sKinds) (by decide +kernel)) (fun _ _ _ _ _ => pg_name (i := 6) scKinds.nd rfl (Or.inl rfl)) (fun _ _ _ _ _ => pts_nil) (fun _ _ _ _ _ => by exact (pe_tup (pa_cons (pe_op (r := rCatX K) op_catX (pv 3) (pe_tupX (pa_cons (pv 6) pa_nil))) (pa_cons (pe_op op_sub (pv 4) (pv 6)) pa_nil))))) pa_nil)))))))))
      (pss_one (ps_ret (pv 1)))), ?_⟩
    try dsimp only [cx_nox, cx_K]
    refine g_seqP ?_
    walk_at "rd"
    refine ⟨Nat.zero_le _, fun Fa hFa => ?_⟩
    walk_at "rd"
    refine g_tupX ?_
    walk_at "rd"
    refine ⟨Nat.zero_le _, fun a o ha ho => ?_⟩
    walk_at "rd"
    refine ⟨by show 2 ≤ sizeLine; decide, fun b hb => ?_⟩
    walk_at "rd"
    refine ⟨by show 1 ≤ sizeLine; decide, fun Wa hWa => ?_⟩
    walk_at "rd"
    refine ⟨_, _, rfl, ?_⟩
    have e1 : Ext H (upd H Fa (.lst [])) := Ext.new hFa
    have e2 := Ext.new (o := HO.frz o (.tup [])) ha
    have e3 := Ext.new (o := HO.tup [V.ref a, V.int (size : Int)]) hb
    have e4 := Ext.new (o := HO.lst [V.ref b]) hWa
    have t1 : TupX K (upd (upd H Fa (.lst [])) a (.frz o (.tup []))) a (([] : List Int).map V.int) := TupX.new ho
    have t2 := (t1.ext e3).ext e4
    have b2 := e4 _ _ (upd_same : upd (upd (upd H Fa (.lst [])) a (.frz o (.tup []))) b (HO.tup [V.ref a, V.int (size : Int)]) b = _)
    have f2 := e4 _ _ (e3 _ _ (e2 _ _ (upd_same : upd H Fa (.lst []) Fa = _)))
    have w2 : upd (upd (upd (upd H Fa (.lst [])) a (.frz o (.tup []))) b (HO.tup [V.ref a, V.int (size : Int)])) Wa (HO.lst [V.ref b]) Wa = some (.lst [V.ref b]) := upd_same
    have eall := Ext.trans e1 (Ext.trans e2 (Ext.trans e3 e4))
    have nFW : Fa ≠ Wa := ne_of_none (e3 _ _ (e2 _ _ (upd_same : upd H Fa (.lst []) Fa = _))) hWa
    have hW0 : H Wa = none := new_up (Ext.trans e1 (Ext.trans e2 e3)) hWa
    generalize upd (upd (upd (upd H Fa (.lst [])) a (.frz o (.tup []))) b (HO.tup [V.ref a, V.int (size : Int)])) Wa (HO.lst [V.ref b]) = H1 at t2 b2 f2 w2 eall ⊢
    walk_at "rd"
    refine ⟨PvK K size Fa Wa H, ⟨_, [], [(.ref b, size)], none, none, none, rfl, rfl, f2, w2, nofun, fun p hp => ?_, ?_, .inr (by simp), fun c u _ _ q => eall c u q⟩, ?_⟩
    · rw [List.mem_singleton.mp hp]
      exact ⟨b, a, [], rfl, b2, t2, fall_nil, by simp⟩
    · simp
    rintro m σ1 H2 ⟨fs, ps, x, y, z, rfl, rfl, hF, hW, hf, hw, hs, hne, hk⟩
    walk_at "rd"
    refine ⟨Nat.zero_le _, fun e he => ?_⟩
    walk_at "rd"
    have ee := Ext.new (o := HO.lst []) he
    refine ⟨Wa, e, _, rfl, rfl, SqL.of (ee _ _ hW), SqL.of upd_same, ?_⟩
    have hF3 := ee _ _ hF
    have hW3 := ee _ _ hW
    have hk3 : ∀ c u, c ≠ Fa → c ≠ Wa → H c = some u → upd H2 e (.lst []) c = some u := fun c u n1 n2 q => ee _ _ (hk c u n1 n2 q)
    have hf3 := fun f hf0 => (hf f hf0).keeps (Keeps.of ee)
    have hw3 := fun p hp => (hw p hp).keeps (Keeps.of ee)
    generalize upd H2 e (.lst []) = H3 at hF3 hW3 hk3 hf3 hw3 ⊢
    have hs12 : 2 ^ size ≤ 2 ^ 12 := Nat.pow_le_pow_right (by omega) hsz
    walk_at "rd"
    rcases List.eq_nil_or_concat ps with rfl | ⟨qs, ⟨v, l⟩, rfl⟩
    · refine iteF ?_
      walk_at "rd"
      refine k H3 Fa fs (fun c u q => hk3 c u (ne_of_none q hFa) (ne_of_none q hW0) q) hFa hF3 (hne.resolve_right (fun h => h rfl)) ?_ hf3
      have : (([] : List (V × Nat)).map fun p => 2 ^ p.2).sum = 0 := rfl
      rw [this] at hs
      have : (2 : Nat) ^ 12 = 4096 := by decide
      omega
    have hw0 := hw3 (v, l) (by simp)
    obtain ⟨b, a, ns, hv, hb, ht, hfl, hsum⟩ := hw0
    have hv : v = .ref b := hv
    subst hv
    have hb : H3 b = some (.tup [.ref a, .int (l : Int)]) := hb
    have hsum : ns.sum + (l : Int) = (size : Int) := hsum
    have nem : (!(((qs.concat (V.ref b, l)).map fun x => x.1).isEmpty)) = true := by
      rw [List.concat_eq_append, List.map_append]
      cases qs <;> rfl
    rw [nem]
    refine iteT ?_
    have esum : ((qs.concat (V.ref b, l)).map fun p => 2 ^ p.2).sum = (qs.map fun p => 2 ^ p.2).sum + 2 ^ l := by
      rw [List.concat_eq_append, List.map_append, List.sum_append]
      simp
    rw [esum] at hs ⊢
    have emap : (qs.concat (V.ref b, l)).map (fun x => x.1) = qs.map (fun x => x.1) ++ [.ref b] := by
      rw [List.concat_eq_append, List.map_append]
      rfl
    rw [emap] at hW3
    refine ⟨fun σ' H' => ∃ m', m' < (qs.map fun p => 2 ^ p.2).sum + 2 ^ l ∧ PvK K size Fa Wa H m' σ' H', fun _ _ q => q, ?_⟩
    walk_at "rd"
    refine ⟨.inl ⟨rfl, _, SqL.of hW3⟩, Wa, _, .ref b, rfl, rfl, hW3, by simp, ?_⟩
    rw [List.dropLast_concat]
    have kW := Keeps.up (ys := qs.map (fun x => x.1)) hW3
    have hF4 : upd H3 Wa (.lst (qs.map fun x => x.1)) Fa = some (.lst fs) := by
      rw [upd_ne nFW]
      exact hF3
    have hW4 : upd H3 Wa (.lst (qs.map fun x => x.1)) Wa = some (.lst (qs.map fun x => x.1)) := upd_same
    have hk4 : ∀ c u, c ≠ Fa → c ≠ Wa → H c = some u → upd H3 Wa (.lst (qs.map fun x => x.1)) c = some u := fun c u n1 n2 q => by
      rw [upd_ne n2]
      exact hk3 c u n1 n2 q
    have hf4 := fun f hf0 => (hf3 f hf0).keeps kW
    have hw4 : ∀ p ∈ qs, WT K size (upd H3 Wa (.lst (qs.map fun x => x.1))) p.2 p.1 := fun p hp => (hw3 p (by simp [hp])).keeps kW
    have hb4 := kW _ _ (fun _ z => by cases z) hb
    have ht4 := TupX.keeps kW ht
    generalize upd H3 Wa (.lst (qs.map fun x => x.1)) = H4 at hF4 hW4 hk4 hf4 hw4 hb4 ht4 ⊢
    refine ⟨b, _, rfl, SqT.of hb4, rfl, _, _, rfl, ?_⟩
    refine ⟨_, _, rfl, rfl, ?_⟩
    walk_at "rd"
    refine ite2 (fun hl => ?_) (fun hl => ?_)
    · have hl0 : l = 0 := by
        have := of_decide_eq_true hl
        omega
      subst hl0
      walk_at "rd"
      refine ⟨.inl ⟨rfl, _, SqL.of hF4⟩, ?_⟩
      walk_at "rd"
      have hlen := len_pow (qs.map fun p => p.2)
      rw [List.map_map, List.length_map] at hlen
      have h1 : (2 : Nat) ^ 0 = 1 := rfl
      refine ⟨Fa, fs, .ref a, rfl, rfl, hF4, by have : (4096 : Nat) < sizeLine := by decide
                                                have : (2 : Nat) ^ 12 = 4096 := by decide
                                                omega, ?_⟩
      have kF := Keeps.up (ys := fs ++ [.ref a]) hF4
      refine ⟨(qs.map fun p => 2 ^ p.2).sum, by omega, fs ++ [.ref a], qs, _, _, _, rfl, rfl, upd_same, ?_, fun f0 hf0 => ?_, fun p hp => (hw4 p hp).keeps kF, ?_, .inl (by simp), fun c u n1 n2 q => ?_⟩
      · rw [upd_ne (Ne.symm nFW)]
        exact hW4
      · rcases List.mem_append.mp hf0 with q | q
        · exact (hf4 f0 q).keeps kF
        · rw [List.mem_singleton.mp q]
          exact ⟨a, ns, rfl, TupX.keeps kF ht4, hfl, by omega⟩
      · rw [List.length_append, List.length_singleton]
        omega
      · rw [upd_ne n1]
        exact hk4 c u n1 n2 q
    · have hl0 : l ≠ 0 := fun z => hl (decide_eq_true (by rw [z]; rfl))
      walk_at "rd"
      refine g_tupX ?_
      walk_at "rd"
      refine ⟨Nat.zero_le _, fun u o2 hu ho2 => ?_⟩
      have e5 := Ext.new (o := HO.frz o2 (.tup [])) hu
      refine ⟨_, _, .tup (ht4.ext e5).sq (pdp ns), .tup (xs := ([] : List Int).map V.int) (TupX.new ho2).sq (pdp []), sh_row ns, sh_row [], ?_⟩
      have ene : PyData.eqv (.tuple (pdata ns)) (.tuple (pdata [])) = decide (ns = []) := by
        simp only [PyData.eqv, peqv]
      rw [ene]
      have hF5 := e5 _ _ hF4
      have hW5 := e5 _ _ hW4
      have hk5 : ∀ c v, c ≠ Fa → c ≠ Wa → H c = some v → upd H4 u (HO.frz o2 (.tup [])) c = some v := fun c v n1 n2 q => e5 _ _ (hk4 c v n1 n2 q)
      have hf5 := fun f0 hf0 => (hf4 f0 hf0).keeps (Keeps.of e5)
      have hw5 := fun p hp => (hw4 p hp).keeps (Keeps.of e5)
      have ht5 := ht4.ext e5
      generalize upd H4 u (HO.frz o2 (.tup [])) = H5 at hF5 hW5 hk5 hf5 hw5 ht5 ⊢
      obtain ⟨mo, m1, m2, m3, m4⟩ : ∃ mo : Nat, 1 ≤ mo ∧ mo ≤ l ∧ (ns ≠ [] → (mo : Int) ≤ ns.getD (ns.length - 1) 0) ∧ (mo : Int) = if ns = [] then (l : Int) else if ns.getD (ns.length - 1) 0 < (l : Int) then ns.getD (ns.length - 1) 0 else (l : Int) := by
        by_cases hn : ns = []
        · exact ⟨l, by omega, Nat.le_refl _, fun h => absurd hn h, by rw [if_pos hn]⟩
        · have hp := hfl.pos _ (getD_mem (i := ns.length - 1) (by have := List.length_pos_iff.mpr hn; omega))
          by_cases hc : ns.getD (ns.length - 1) 0 < (l : Int)
          · exact ⟨(ns.getD (ns.length - 1) 0).toNat, by omega, by omega, fun _ => by omega, by rw [if_neg hn, if_pos hc]; omega⟩
          · exact ⟨l, by omega, Nat.le_refl _, fun _ => by omega, by rw [if_neg hn, if_neg hc]⟩
      walk_at "rd"
      refine g_ifV (.int (mo : Int)) (fun h1 Q' q => ?_) (fun h1 Q' q => ?_) ?_
      · have hn : ns ≠ [] := fun z => by simp [z] at h1
        rw [if_neg hn] at m4
        walk_at "rd"
        refine g_ixT (v := .int (ns.getD (ns.length - 1) 0)) ht5.sq ?_ ?_
        · have hlen := List.length_pos_iff.mpr hn
          unfold atI ixN
          rw [List.length_map, if_neg (by decide), if_pos (by omega)]
          have : ((-1 : Int) + (ns.length : Int)).toNat = ns.length - 1 := by omega
          show (ns.map V.int)[((-1 : Int) + (ns.length : Int)).toNat]? = _
          rw [this]
          exact getI (by omega)
        · refine ⟨_, _, rfl, ?_⟩
          rw [← m4]
          exact q
      · have hn : ns = [] := by simpa using h1
        rw [if_pos hn] at m4
        walk_at "rd"
        rw [← m4]
        exact q
      walk_at "rd"
      refine ⟨.inl ⟨rfl, _, SqL.of hW5⟩, ?_⟩
      walk_at "rd"
      refine g_lc (g_rng2 ?_)
      walk_at "rd"
      have hl13 : (l : Int) ≤ 12 := by
        have := hfl.sum0
        omega
      refine ⟨⟨by decide, by decide, by omega, by omega⟩, ?_⟩
      have en : ((mo : Int) + 1 - 1).toNat = mo := by omega
      rw [en]
      refine lcRR (small (by omega)) (fun i y H => WT K size H (l - (i + 1)) y) (fun i y H H' e r => r.keeps e) (fun i H6 hi e6 Qe Qn he => ?_) (fun H6 D ys e6 hD hd hyl hyr => ?_)
      · refine ⟨rfl, ?_⟩
        walk_at "rd"
        refine g_tupX ?_
        walk_at "rd"
        refine ⟨by show 1 ≤ sizeLine; decide, fun c o3 hc ho3 => ?_⟩
        have e7 := Ext.new (o := HO.frz o3 (.tup [V.int (1 + (i : Int))])) hc
        have hfl' : Fall (ns ++ [1 + (i : Int)]) := fall_snoc hfl (by omega) (by omega) (fun hn => by have := m3 hn; omega)
        refine ⟨a, c, ns.map V.int, [V.int (1 + (i : Int))], rfl, rfl, (ht5.ext e6).ext e7, TupX.new ho3, ?_, fun H8 p e8 hp => ?_⟩
        · have := hfl'.len
          rw [List.length_append, List.length_singleton] at this
          rw [List.length_map, List.length_singleton]
          exact Nat.le_of_lt (small (by omega))
        walk_at "rd"
        refine ⟨by show 2 ≤ sizeLine; decide, fun q hq => ?_⟩
        have e9 := Ext.new (o := HO.tup [V.ref p, V.int ((l : Int) - (1 + (i : Int)))]) hq
        refine he _ _ (Ext.trans e7 (Ext.trans e8 e9)) ⟨q, p, ns ++ [1 + (i : Int)], rfl, ?_, ?_, hfl', ?_⟩
        · rw [upd_same]
          have : (l : Int) - (1 + (i : Int)) = ((l - (i + 1) : Nat) : Int) := by omega
          rw [this]
        · rw [List.map_append]
          exact hp.ext e9
        · rw [List.sum_append]
          have : [1 + (i : Int)].sum = 1 + (i : Int) := by simp
          rw [this]
          omega
      · walk_at "rd"
        have hlen := len_pow (qs.map fun p => p.2)
        rw [List.map_map, List.length_map] at hlen
        have hlen' : qs.length ≤ (qs.map fun p => 2 ^ p.2).sum := hlen
        have h12 : (2 : Nat) ^ 12 = 4096 := by decide
        refine ⟨Wa, D, _, ys, rfl, rfl, e6 _ _ hW5, hd, ?_, ?_⟩
        · rw [List.length_map, hyl]
          have : (5000 : Nat) < sizeLine := by decide
          have := Nat.one_le_two_pow (n := l)
          omega
        have kX := Keeps.up (ys := qs.map (fun x => x.1) ++ ys) (e6 _ _ hW5)
        have ksum := geo2 l mo m2
        have kpos := Nat.one_le_two_pow (n := l - mo)
        have ecs : (((List.range mo).map fun i => (ys.getD i V.non, l - (i + 1))).map fun p => 2 ^ p.2).sum = ((List.range mo).map fun i => 2 ^ (l - (i + 1))).sum := by
          rw [List.map_map]
          rfl
        have efs : ((List.range mo).map fun i => (ys.getD i V.non, l - (i + 1))).map (fun p => p.1) = ys := by
          rw [List.map_map]
          refine List.ext_getElem? fun j => ?_
          rw [List.getElem?_map]
          by_cases hj : j < mo
          · rw [List.getElem?_range hj]
            show some (ys.getD j V.non) = _
            rw [List.getD_eq_getElem?_getD, List.getElem?_eq_getElem (by omega)]
            rfl
          · rw [List.getElem?_eq_none (by rw [List.length_range]; omega), List.getElem?_eq_none (by omega)]
            rfl
        refine ⟨((qs ++ (List.range mo).map fun i => (ys.getD i V.non, l - (i + 1))).map fun p => 2 ^ p.2).sum, ?_, fs, qs ++ (List.range mo).map fun i => (ys.getD i V.non, l - (i + 1)), _, _, _, rfl, rfl, ?_, ?_, fun f0 hf0 => ((hf5 f0 hf0).keeps (Keeps.of e6)).keeps kX, fun p hp => ?_, ?_, .inr ?_, fun c v n1 n2 q => ?_⟩
        · rw [List.map_append, List.sum_append, ecs]
          omega
        · rw [upd_ne nFW]
          exact e6 _ _ hF5
        · rw [upd_same, List.map_append, efs]
        · rcases List.mem_append.mp hp with q | q
          · exact ((hw5 p q).keeps (Keeps.of e6)).keeps kX
          · obtain ⟨i, hi, rfl⟩ := List.mem_map.mp q
            have hi' : i < ys.length := by rw [hyl]; exact List.mem_range.mp hi
            have := hyr i ys[i] (List.getElem?_eq_getElem hi')
            have eg : ys.getD i V.non = ys[i] := by
              rw [List.getD_eq_getElem?_getD, List.getElem?_eq_getElem hi']
              rfl
            show WT K size _ (l - (i + 1)) (ys.getD i V.non)
            rw [eg]
            exact this.keeps kX
        · rw [List.map_append, List.sum_append, ecs]
          omega
        · intro hnil
          have := congrArg List.length hnil
          rw [List.length_append, List.length_map, List.length_range] at this
          simp at this
          omega
        · rw [upd_ne n2]
          exact e6 _ _ (hk5 c v n1 n2 q)
end
end

/-! Zips of tuples of integers. -/

section
open PySem PySem.Spec PyProof.Rows L2 Gd
theorem smallH {n : Nat} (h : n ≤ 1000) : n ≤ sizeLine := Nat.le_trans h (by show 1000 ≤ sizeLine; decide)
def lift2 (g : Int → Int → V) : V → V → V := fun x y => match x, y with
  | .int a, .int b => g a b
  | _, _ => .non
def lift2b (c : Int → Int → Bool) : V → V → Bool := fun x y => match x, y with
  | .int a, .int b => c a b
  | _, _ => false
theorem zip_lift (c : Int → Int → Bool) (g : Int → Int → V) : ∀ xs ys : List Int, (((xs.map V.int).zip (ys.map V.int)).filter fun p => lift2b c p.1 p.2).map (fun p => lift2 g p.1 p.2) = ((xs.zip ys).filter fun q => c q.1 q.2).map fun q => g q.1 q.2
  | [], _ => by simp
  | _ :: _, [] => by simp
  | x :: xs, y :: ys => by
    have ih := zip_lift c g xs ys
    simp only [List.map_cons, List.zip_cons_cons, List.filter_cons]
    have e : lift2b c (V.int x) (V.int y) = c x y := rfl
    rw [e]
    split
    · rw [List.map_cons, List.map_cons, ih]
      rfl
    · exact ih
section
variable {K : PySem.W.Frag} {H1 : Hp} {tt : TT} {te : TE} {vs : List Nat} {σ : L2.St} {Q : VK} {a b : Addr} {i1 i2 : Nat}
/-- over zip of two tuples of integers -/
theorem lcZI {ns ms : List Int} (ha : SqT K H1 a (ns.map V.int)) (hb : SqT K H1 b (ms.map V.int)) (hl : ns.length ≤ 900) (c : Int → Int → Bool) (g : Int → Int → V)
    (body : ∀ (x y : Int) H', (x, y) ∈ ns.zip ms → Ext H1 H' → ∀ (Qe : VK) (Qn : Hp → Prop), (∀ H3, Ext H' H3 → c x y = true → Qe (g x y) H3) → (∀ H3, Ext H' H3 → c x y = false → Qn H3) →
      wipe (((wipe σ vs).set i1 (some (.int x))).set i2 (some (.int y))) vs = wipe σ vs ∧ tt (((wipe σ vs).set i1 (some (.int x))).set i2 (some (.int y))) H' fun b H3 => if b = true then te (((wipe σ vs).set i1 (some (.int x))).set i2 (some (.int y))) H3 Qe else Qn H3)
    (k : ∀ H' D, Ext H1 H' → H1 D = none → H' D = some (.lst (((ns.zip ms).filter fun q => c q.1 q.2).map fun q => g q.1 q.2)) → Q (.ref D) H') :
    ∃ k1 k2 a' b' xs ys, [V.ref a, V.ref b] = [V.ref a', V.ref b'] ∧ SqE K k1 H1 a' xs ∧ SqE K k2 H1 b' ys ∧ LcG (ItzE K k1 k2 a' b') (gTup K 2 (gCons (gName i1) (gCons (gName i2) gNil))) tt te vs σ H1 Q := by
  refine lcZ (l1 := false) (l2 := false) ha hb (small (by simp only [List.length_map]; omega)) (lift2b c) (lift2 g) (fun x y H' hxy e Qe Qn he hn => ?_) (fun H' D e hD hd => ?_)
  · rw [List.zip_map] at hxy
    obtain ⟨⟨n, m⟩, hnm, e1⟩ := List.mem_map.mp hxy
    cases e1
    exact body n m H' hnm e Qe Qn he hn
  · rw [zip_lift] at hd
    exact k H' D e hD hd
end
theorem filter_yes {α : Type} (xs : List α) : (xs.filter fun _ => true) = xs := List.filter_eq_self.mpr fun _ _ => rfl
theorem g_neS1 {H : Hp} {Q : VK} {i j : Int} (e : i = j) (k : Q (.bl false) H) : rNe (.int i) (.int j) H Q := by
  subst e
  exact ⟨rfl, by simpa using k⟩
end

/-! Tuples of integers in the heap; loops and comprehensions over lists and tuples. -/

section
open PySem PySem.Spec PyProof.Rows L2 Gd
/-- a tuple of integers -/
def TR (H : Hp) (f : V) (xs : List Int) : Prop := ∃ b, f = .ref b ∧ H b = some (.tup (xs.map V.int))
abbrev TRs (H : Hp) (fs : List V) (xss : List (List Int)) : Prop := Paired (TR H) fs xss
theorem TR.ext {H H' : Hp} (e : Ext H H') {f : V} {xs : List Int} (h : TR H f xs) : TR H' f xs := by
  obtain ⟨b, rfl, h⟩ := h
  exact ⟨b, rfl, e _ _ h⟩
theorem TR.but {H H' : Hp} {d : Addr} {ys : List V} (hd : H d = none ∨ H d = some (.lst ys)) (e : ExtBut d H H') {f : V} {xs : List Int} (h : TR H f xs) : TR H' f xs := by
  obtain ⟨b, rfl, h⟩ := h
  refine ⟨b, rfl, e _ _ (fun z => ?_) h⟩
  subst z
  rcases hd with hd | hd <;> rw [h] at hd <;> cases hd
theorem TR.sq {K : PySem.W.Frag} {H : Hp} {b : Addr} {xs : List Int} (h : TR H (.ref b) xs) : SqT K H b (xs.map V.int) := by
  obtain ⟨c, e, h⟩ := h
  cases e
  exact .inl (.inl h)
theorem trs_ext {H H' : Hp} (e : Ext H H') {fs : List V} {xss : List (List Int)} (h : TRs H fs xss) : TRs H' fs xss := Paired.mapP h fun _ _ z => TR.ext e z
theorem trs_but {H H' : Hp} {d : Addr} {ys : List V} (hd : H d = none ∨ H d = some (.lst ys)) (e : ExtBut d H H') {fs : List V} {xss : List (List Int)} (h : TRs H fs xss) : TRs H' fs xss := Paired.mapP h fun _ _ z => TR.but hd e z
theorem pair_append {α β : Type} {F : α → β → Prop} : ∀ {a c : List α} {b d : List β}, Paired F a b → Paired F c d → Paired F (a ++ c) (b ++ d)
  | _, _, _, _, .nil, h => h
  | _, _, _, _, .cons h t, h2 => .cons h (pair_append t h2)
theorem pair_at {α β : Type} {F : α → β → Prop} : ∀ {a : List α} {b : List β}, Paired F a b → ∀ (i : Nat) (x : α), a[i]? = some x → ∃ y, b[i]? = some y ∧ F x y
  | _, _, .nil, i, x, e => by simp at e
  | _, _, .cons (b := q) h t, 0, x, e => by
    have e' := Option.some.inj e
    subst e'
    exact ⟨q, rfl, h⟩
  | _, _, .cons h t, i + 1, x, e => pair_at t i x e
theorem pair_of {α β : Type} {F : α → β → Prop} : ∀ {a : List α} {b : List β}, a.length = b.length → (∀ (i : Nat) x y, a[i]? = some x → b[i]? = some y → F x y) → Paired F a b
  | [], [], _, _ => .nil
  | [], _ :: _, h, _ => by simp at h
  | _ :: _, [], h, _ => by simp at h
  | x :: a, y :: b, h, f => .cons (f 0 x y rfl rfl) (pair_of (by simpa using h) fun i x y h1 h2 => f (i + 1) x y h1 h2)
theorem pair_len {α β : Type} {F : α → β → Prop} {a : List α} {b : List β} (h : Paired F a b) : a.length = b.length := Gd.paired_len h
/-- what a loop over J asks -/
abbrev ForG (J : It) (g : TG) (tb : TS) (D : Ends) (σ : L2.St) (H : Hp) : Prop := ∃ W : Nat → Nat → L2.St → Hp → Prop, (∃ m, W 0 m σ H) ∧ ∀ i m σ H, W i m σ H →
      (J.stop i H ∧ D.nx σ H) ∨ (J.go i H ∧ ∃ N : L2.St → Hp → Prop, (∀ σ' H', N σ' H' → ∃ m', m' < m ∧ W (i + 1) m' σ' H') ∧ ∀ x H', J.yld i H x H' → g x σ H' fun σ2 H2 => tb { D with nx := N, ct := N, bk := D.nx } σ2 H2)
theorem g_forT {K : PySem.W.Frag} {te : TE} {g : TG} {tb : TS} {D : Ends} {σ : L2.St} {H : Hp} (k : te σ H fun x H1 => ∃ a, x = .ref a ∧ (∃ xs, SqT K H1 a xs) ∧ ForG (Itt K a) g tb D σ H1) : tFor (iTup K te) g tb D σ H := k
theorem g_forL {K : PySem.W.Frag} {te : TE} {g : TG} {tb : TS} {D : Ends} {σ : L2.St} {H : Hp} (k : te σ H fun x H1 => ∃ a, x = .ref a ∧ (∃ xs, SqL K H1 a xs) ∧ ForG (Itl K a) g tb D σ H1) : tFor (iList K te) g tb D σ H := k
/-- over the items of a tuple -/
theorem forT {K : PySem.W.Frag} {a : Addr} {xs : List V} {g : TG} {tb : TS} {D : Ends} {σ : L2.St} {H : Hp} (hs : SqT K H a xs) (Pv : Nat → L2.St → Hp → Prop) (h0 : Pv 0 σ H) (hG : ∀ i σ H, i ≤ xs.length → Pv i σ H → SqT K H a xs)
    (hb : ∀ i x σ H, xs[i]? = some x → Pv i σ H → g x σ H fun σ2 H2 => tb { D with nx := Pv (i + 1), ct := Pv (i + 1), bk := D.nx } σ2 H2) (hd : ∀ σ H, Pv xs.length σ H → D.nx σ H) :
    ∃ a', V.ref a = .ref a' ∧ (∃ xs, SqT K H a' xs) ∧ ForG (Itt K a') g tb D σ H :=
  ⟨a, rfl, ⟨_, hs⟩, for_it walk_tup Pv h0 hG (fun i x σ H H' _ p y => by obtain ⟨rfl, e⟩ := y; exact hb i x σ _ e p) hd⟩
/-- over the items of a list -/
theorem forL {K : PySem.W.Frag} {a : Addr} {xs : List V} {g : TG} {tb : TS} {D : Ends} {σ : L2.St} {H : Hp} (hs : SqL K H a xs) (Pv : Nat → L2.St → Hp → Prop) (h0 : Pv 0 σ H) (hG : ∀ i σ H, i ≤ xs.length → Pv i σ H → SqL K H a xs)
    (hb : ∀ i x σ H, xs[i]? = some x → Pv i σ H → g x σ H fun σ2 H2 => tb { D with nx := Pv (i + 1), ct := Pv (i + 1), bk := D.nx } σ2 H2) (hd : ∀ σ H, Pv xs.length σ H → D.nx σ H) :
    ∃ a', V.ref a = .ref a' ∧ (∃ xs, SqL K H a' xs) ∧ ForG (Itl K a') g tb D σ H :=
  ⟨a, rfl, ⟨_, hs⟩, for_it walk_list Pv h0 hG (fun i x σ H H' _ p y => by obtain ⟨rfl, e⟩ := y; exact hb i x σ _ e p) hd⟩
/-- a comprehension over a list whose results stand in a relation to the item -/
theorem lcLR {K : PySem.W.Frag} {σ : L2.St} {H1 : Hp} {vs : List Nat} {g : TG} {tt : TT} {te : TE} {Q : VK} {a : Addr} {xs : List V} (hs : SqL K H1 a xs) (sz : xs.length < sizeLine) (R : Nat → V → Hp → Prop) (mono : ∀ i y H H', Keeps H H' → R i y H → R i y H')
    (body : ∀ (i : Nat) x H', xs[i]? = some x → Ext H1 H' → ∀ (Qe : VK) (Qn : Hp → Prop), (∀ y H3, Ext H' H3 → R i y H3 → Qe y H3) →
      g x (wipe σ vs) H' fun σ2 H2 => wipe σ2 vs = wipe σ vs ∧ tt σ2 H2 fun b H3 => if b = true then te σ2 H3 Qe else Qn H3)
    (k : ∀ H' D ys, Ext H1 H' → H1 D = none → H' D = some (.lst ys) → ys.length = xs.length → (∀ i y, ys[i]? = some y → R i y H') → Q (.ref D) H') :
    ∃ a', V.ref a = .ref a' ∧ (∃ xs, SqL K H1 a' xs) ∧ LcG (Itl K a') g tt te vs σ H1 Q := by
  refine ⟨a, rfl, ⟨_, hs⟩, fun D hD => lc_rel walk_list R (fun _ => true) (fun i y D ys H H' hd e r => mono i y H H' (keeps_but hd e) r) hD (fun H' e => sqL_ext e hs) sz (fun i x H' H'' hi e hy Qe Qn he hn => ?_) (fun H' ys e hd hr => ?_)⟩
  · obtain ⟨rfl, hx⟩ := hy
    exact body i x _ hx e Qe Qn fun y H3 e3 r => he y H3 e3 r rfl
  · rw [idx_all] at hr
    have hl := hr.1
    rw [List.length_range] at hl
    refine k H' D ys e hD hd hl.symm fun i y hy => hr.2 i i y ?_ hy
    rw [List.getElem?_range (by have := (List.getElem?_eq_some_iff.mp hy).1; omega)]
theorem g_ilistC {K : PySem.W.Frag} {te : TE} {σ : L2.St} {H : Hp} {R : It → Hp → Prop} (k : te σ H fun x H1 => ∃ a, x = .ref a ∧ (∃ xs, SqL K H1 a xs) ∧ R (Itl K a) H1) : iList K te σ H R := k
theorem TR.keeps {H H' : Hp} (e : Keeps H H') {f : V} {xs : List Int} (h : TR H f xs) : TR H' f xs := by
  obtain ⟨b, rfl, h⟩ := h
  exact ⟨b, rfl, e _ _ (fun _ z => by cases z) h⟩
theorem g_catR {K : PySem.W.Frag} {H : Hp} {Q : VK} {a b : Addr} {xs : List Int} {n : Int} (ha : TR H (.ref a) xs) (hb : H b = some (.tup [.int n])) (hl : xs.length ≤ 900) (k : ∀ H' p, Ext H H' → TR H' (.ref p) (xs ++ [n]) → Q (.ref p) H') : rCatA K (.ref a) (.ref b) H Q := by
  refine ⟨a, b, _, [.int n], rfl, rfl, ha.sq, SqT.of hb, by rw [List.length_map, List.length_singleton]; exact smallH (by omega), fun e => ?_, fun _ e => (by cases e), fun _ _ p hp => ?_⟩
  · have e' : xs = [] := by simpa using e
    subst e'
    exact k H b (fun _ _ z => z) ⟨b, rfl, hb⟩
  · refine k _ p (Ext.new hp) ⟨p, rfl, ?_⟩
    rw [upd_same, List.map_append]
    rfl
end

/-! All falling rows of a sum, in their order. -/

section
open PySem PySem.Spec PyProof.Rows L2 Gd
/-- all falling rows of the sum t whose first number is at most g, the greatest first -/
def rowsN : Nat → Nat → Nat → List (List Int)
  | 0, _, _ => [[]]
  | f + 1, t, g => if t = 0 then [[]] else (List.range g).flatMap fun i => if g - i ≤ t then (rowsN f (t - (g - i)) (g - i)).map (fun r => ((g - i : Nat) : Int) :: r) else []
def rows (t g : Nat) : List (List Int) := rowsN t t g
theorem flat_cong {α β : Type} {f g : α → List β} : ∀ {l : List α}, (∀ a ∈ l, f a = g a) → l.flatMap f = l.flatMap g
  | [], _ => rfl
  | a :: l, h => by
    rw [List.flatMap_cons, List.flatMap_cons, h a List.mem_cons_self, flat_cong fun b hb => h b (List.mem_cons_of_mem _ hb)]
theorem rowsN_fuel : ∀ (f f' t g : Nat), t ≤ f → t ≤ f' → rowsN f t g = rowsN f' t g
  | 0, 0, _, _, _, _ => rfl
  | 0, f' + 1, t, g, h, _ => by
    have h0 : t = 0 := by omega
    subst h0
    rfl
  | f + 1, 0, t, g, _, h => by
    have h0 : t = 0 := by omega
    subst h0
    rfl
  | f + 1, f' + 1, t, g, h1, h2 => by
    by_cases h0 : t = 0
    · subst h0
      rfl
    · unfold rowsN
      rw [if_neg h0, if_neg h0]
      refine flat_cong fun i hi => ?_
      have hig := List.mem_range.mp hi
      by_cases hi : g - i ≤ t
      · rw [if_pos hi, if_pos hi, rowsN_fuel f f' (t - (g - i)) (g - i) (by omega) (by omega)]
      · rw [if_neg hi, if_neg hi]
/-- the rows that begin with the i-th one from the greatest number on -/
def rowsAt (t g i : Nat) : List (List Int) := if g - i ≤ t then (rows (t - (g - i)) (g - i)).map (fun r => ((g - i : Nat) : Int) :: r) else []
theorem rows_zero (g : Nat) : rows 0 g = [[]] := rfl
theorem rows_pos {t : Nat} (h : t ≠ 0) (g : Nat) : rows t g = (List.range g).flatMap (rowsAt t g) := by
  obtain ⟨f, rfl⟩ : ∃ f, t = f + 1 := ⟨t - 1, by omega⟩
  unfold rows rowsN
  rw [if_neg h]
  refine flat_cong fun i hi => ?_
  have hig := List.mem_range.mp hi
  unfold rowsAt rows
  by_cases hi : g - i ≤ f + 1
  · rw [if_pos hi, if_pos hi, rowsN_fuel f (f + 1 - (g - i)) _ _ (by omega) (by omega)]
  · rw [if_neg hi, if_neg hi]
/-- tuples of integers of which it is known that they have no dict -/
def RX (K : PySem.W.Frag) (H : Hp) (f : V) (xs : List Int) : Prop := ∃ a, f = .ref a ∧ TupX K H a (xs.map V.int)
abbrev RXs (K : PySem.W.Frag) (H : Hp) (fs : List V) (xss : List (List Int)) : Prop := Paired (RX K H) fs xss
theorem RX.keeps {K : PySem.W.Frag} {H H' : Hp} (e : Keeps H H') {f : V} {xs : List Int} (h : RX K H f xs) : RX K H' f xs := by
  obtain ⟨a, rfl, h⟩ := h
  exact ⟨a, rfl, TupX.keeps e h⟩
theorem RX.ext {K : PySem.W.Frag} {H H' : Hp} (e : Ext H H') {f : V} {xs : List Int} (h : RX K H f xs) : RX K H' f xs := h.keeps (Keeps.of e)
theorem rxs_keeps {K : PySem.W.Frag} {H H' : Hp} (e : Keeps H H') {fs : List V} {xss : List (List Int)} (h : RXs K H fs xss) : RXs K H' fs xss := Paired.mapP h fun _ _ z => z.keeps e
theorem rxs_ext {K : PySem.W.Frag} {H H' : Hp} (e : Ext H H') {fs : List V} {xss : List (List Int)} (h : RXs K H fs xss) : RXs K H' fs xss := rxs_keeps (Keeps.of e) h
theorem rows_len : ∀ t, t ≤ 12 → ∀ g, g ≤ 12 → (rows t g).length ≤ 77 := by decide +kernel
theorem rows_short : ∀ t, t ≤ 12 → ∀ g, g ≤ 12 → ∀ r ∈ rows t g, r.length ≤ 12 := by decide +kernel
theorem rows_part {t g : Nat} (h : t ≠ 0) (ht : t ≤ 12) (hg : g ≤ 12) {i : Nat} (hi : i ≤ g) : ((List.range i).flatMap (rowsAt t g)).length ≤ 77 := by
  have h1 := rows_len t ht g hg
  rw [rows_pos h] at h1
  have e : List.range g = List.range i ++ (List.range (g - i)).map (i + ·) := by
    rw [← List.range_add]
    congr 1
    omega
  rw [e, List.flatMap_append, List.length_append] at h1
  omega
section
variable {P : Program} {w : World} {K : PySem.W.Frag} {mg : Str → Option Value} {base : Heap} {f : Addr} {fd : FuncData}
abbrev sFR : Stmt := top 18
theorem scFR : FnScope ["total", "greatest", "rows", "first", "row"] ["total", "greatest"] (defScope sFR) := ⟨rfl, rfl, rfl, by decide +kernel, rfl, by decide +kernel, by decide +kernel⟩
def spFR (K : PySem.W.Frag) (n : Nat) : Sp := fun vs H Q _ => ∃ (t g : Nat), vs = [.int (t : Int), .int (g : Int)] ∧ t < n ∧ t ≤ 12 ∧ g ≤ 12 ∧ ∀ H' F fs, Ext H H' → H F = none → H' F = some (.lst fs) → RXs K H' fs (rows t g) → Q (.ref F) H'
theorem g_forC {K : PySem.W.Frag} {ta : TA} {g : TG} {tb : TS} {D : Ends} {σ : L2.St} {H : Hp} (k : ta σ H fun vs H1 => ∃ (i j c : Int) (n : Nat), vs = [.int i, .int j, .int c] ∧ RgC i j c n ∧ ∃ W : Nat → Nat → L2.St → Hp → Prop, (∃ m, W 0 m σ H1) ∧ ∀ i' m σ H, W i' m σ H →
  ((Itc i c n).stop i' H ∧ D.nx σ H) ∨ ((Itc i c n).go i' H ∧ ∃ N : L2.St → Hp → Prop, (∀ σ' H', N σ' H' → ∃ m', m' < m ∧ W (i' + 1) m' σ' H') ∧ ∀ x H', (Itc i c n).yld i' H x H' → g x σ H' fun σ2 H2 => tb { D with nx := N, ct := N, bk := D.nx } σ2 H2)) :
    tFor (iRng3 ta) g tb D σ H := k
theorem g_star {K : PySem.W.Frag} {te : TE} {t : TA} {σ : L2.St} {H : Hp} {Q : List V → Hp → Prop} (k : te σ H fun x H1 => ∃ p xs, x = V.ref p ∧ (SqT K H1 p xs ∨ SqL K H1 p xs) ∧ t σ H1 fun ys H2 => Q (xs ++ ys) H2) : StX.tStar K te t σ H Q := k
theorem ok_fr {n : Nat} (F : Fun K "falling_rows" "falling_rows" sFR f fd) (T : Txt K mg) (Fr : Def1 P w K mg base CX0 (n + 1) "falling_rows" ["total", "greatest"] (spFR K n)) : FnOk P w K mg base CX0 (n + 1 + 1) f fd ["total", "greatest"] (spFR K (n + 1)) := by
  refine F.ok scFR (fun vs H Q E h => ?_) (fun cdv A outer s H vs Q E hr h => ?_)
  · obtain ⟨t, g, rfl, _⟩ := h
    rfl
  · obtain ⟨t, g, rfl, htn, ht, hg, k⟩ := h
    refine ⟨_, pss_cons (ps_if (pt_cmpR op_eq (pv 0) pe_int (nomark _)) (pss_one (ps_ret (pe_lst (pa_cons (pe_tupX pa_nil) pa_nil)))) pss_nil)
      (pss_cons (ps_set (i := 2) scFR.nd rfl (Or.inl rfl) (pe_lst pa_nil))
      (pss_cons (ps_for PassesOwn.never rfl (pi_range3 (by rfl) T.range (pa_cons (pv 1) (pa_cons pe_int (pa_cons (pe_un un_neg pe_int) pa_nil)))) (pg_name (i := 3) scFR.nd rfl (Or.inr rfl)) (pss_one (ps_if (pt_cmpR op_le (pv 3) (pv 0) (nomark _)) (pss_one (ps_expr (pe_bm PySem.F.plainAttrs_list PySem.F.slot_list_extend PySem.F.type_list_extend mt_extend (pv 2) (pa_cons (pe_lc (own := [("row", 4)]) (g := gName 4) (tt := tYes) rfl scFR.nd (pi_list (pe_def Fr hr (Nat.le_refl _) (by rfl) (pa_cons (pe_op op_sub (pv 0) (pv 3)) (pa_cons (pv 3) pa_nil)))) (blkOk_by (N := ["total", "greatest", "rows", "first", "row"]) (sc := defScope sFR) (by decide +kernel)) (fun _ _ _ _ _ => pg_name (i := 4) scFR.nd rfl (Or.inl rfl)) (fun _ _ _ _ _ => pts_nil) (fun _ _ _ _ _ => by exact (pe_tupX (pa_cons (pv 3) (by refine (show PA _ _ (StX.tStar K (tVar 4) tNil) from ?_); exact StX.pa_star (pv 4) pa_nil))))) pa_nil)))) pss_nil)))
      (pss_one (ps_ret (pv 2))))), ?_⟩
    try dsimp only [cx_nox, cx_K]
    walk_at "rd"
    refine ite2 (fun h1 => ?_) (fun h1 => ?_)
    · have h0 : t = 0 := by
        have := of_decide_eq_true h1
        omega
      subst h0
      walk_at "rd"
      refine g_tupX ?_
      walk_at "rd"
      refine ⟨Nat.zero_le _, fun a o ha ho => ?_⟩
      walk_at "rd"
      refine ⟨by show 1 ≤ sizeLine; decide, fun Fa hFa => ?_⟩
      have e1 := Ext.new (o := HO.frz o (.tup [])) ha
      have e2 := Ext.new (o := HO.lst [V.ref a]) hFa
      exact k _ Fa [.ref a] (Ext.trans e1 e2) (new_up e1 hFa) upd_same (.cons ⟨a, rfl, (TupX.new ho).ext e2⟩ .nil)
    · have h0 : t ≠ 0 := fun z => h1 (by rw [z]; rfl)
      walk_at "rd"
      refine ⟨Nat.zero_le _, fun Fa hFa => ?_⟩
      walk_at "rd"
      have eF := Ext.new (o := HO.lst []) hFa
      refine g_forC (K := K) ?_
      walk_at "rd"
      refine ⟨_, _, _, _, rfl, RgC.neg (by omega) (by omega) (by decide) (by decide), ?_⟩
      rw [Int.sub_zero, Int.toNat_natCast]
      refine for_rangeC (fun i σ H' => ∃ (fs : List V) (x3 : Option V), σ = [some (.int (t : Int)), some (.int (g : Int)), some (.ref Fa), x3, none] ∧ Ext H H' ∧ H' Fa = some (.lst fs) ∧ RXs K H' fs ((List.range i).flatMap (rowsAt t g)))
        ⟨[], none, rfl, eF, upd_same, .nil⟩ ?_ ?_
      · rintro i σ H2 hi ⟨fs, x3, rfl, e2, hF2, hfs⟩
        have ea : (g : Int) + (i : Nat) * (-1) = ((g - i : Nat) : Int) := by omega
        rw [ea]
        have eS : (List.range (i + 1)).flatMap (rowsAt t g) = (List.range i).flatMap (rowsAt t g) ++ rowsAt t g i := by
          rw [List.range_succ, List.flatMap_append, List.flatMap_cons, List.flatMap_nil, List.append_nil]
        refine g_name (g_gen fun D1 hn1 _ => ?_)
        walk_at "rd"
        refine ite2 (fun h2 => ?_) (fun h2 => ?_)
        · have hat : g - i ≤ t := by
            have := of_decide_eq_true h2
            omega
          have hlen := pair_len hfs
          have hpl := rows_part h0 ht hg (Nat.le_of_lt hi)
          walk_at "rd"
          refine ⟨.inl ⟨rfl, _, SqL.of hF2⟩, ?_⟩
          walk_at "rd"
          refine g_lc (g_ilistC ?_)
          walk_at "rd"
          refine ⟨t - (g - i), g - i, by rw [show (((t - (g - i) : Nat)) : Int) = (t : Int) - ((g - i : Nat) : Int) by omega]; rfl, by omega, by omega, by omega, fun H3 Fb gs e3 hFb0 hFb hgs => ?_⟩
          walk_at "rd"
          have hgl := pair_len hgs
          have hrl := rows_len (t - (g - i)) (by omega) (g - i) (by omega)
          refine lcLR (SqL.of hFb) (small (by omega)) (fun c y H => RX K H y (((g - i : Nat) : Int) :: (rows (t - (g - i)) (g - i)).getD c [])) (fun c y H H' e r => r.keeps e) (fun c y H4 hy e4 Qe Qn he => ?_) (fun H4 D ys e4 hD hd hyl hyr => ?_)
          · obtain ⟨xs, hxs, b, rfl, hb⟩ := pair_at hgs c y hy
            have ex : (rows (t - (g - i)) (g - i)).getD c [] = xs := by rw [List.getD_eq_getElem?_getD, hxs]; rfl
            rw [ex] at he
            have hxl := rows_short (t - (g - i)) (by omega) (g - i) (by omega) xs (List.mem_of_getElem? hxs)
            refine ⟨rfl, ?_⟩
            walk_at "rd"
            refine g_tupX ?_
            walk_at "rd"
            refine g_star ?_
            walk_at "rd"
            refine ⟨b, _, rfl, .inl (hb.ext e4).sq, ?_⟩
            walk_at "rd"
            refine ⟨by rw [List.length_cons, List.append_nil, List.length_map]; exact small (by omega), fun p o hp ho => ?_⟩
            rw [List.append_nil]
            exact he _ _ (Ext.new hp) ⟨p, rfl, TupX.new (xs := (((g - i : Nat) : Int) :: xs).map V.int) ho⟩
          · walk_at "rd"
            refine ⟨Fa, D, fs, ys, rfl, rfl, e4 _ _ (e3 _ _ hF2), hd, Nat.le_of_lt (small (by omega)), ?_⟩
            have kX := Keeps.up (ys := fs ++ ys) (e4 _ _ (e3 _ _ hF2))
            have e5 : Ext H (upd H4 Fa (.lst (fs ++ ys))) := fun q o hq => by
              rw [upd_ne (ne_of_none hq hFa)]
              exact e4 _ _ (e3 _ _ (e2 _ _ hq))
            refine hn1 _ _ ⟨fs ++ ys, _, rfl, e5, upd_same, ?_⟩
            rw [eS]
            refine pair_append (rxs_keeps kX (rxs_ext (Ext.trans e3 e4) hfs)) ?_
            unfold rowsAt
            rw [if_pos hat]
            refine pair_of (by rw [List.length_map, hyl, hgl]) fun c y zs h3 h4 => ?_
            rw [List.getElem?_map] at h4
            obtain ⟨xs, hxs, rfl⟩ := Option.map_eq_some_iff.mp h4
            have ex : (rows (t - (g - i)) (g - i)).getD c [] = xs := by rw [List.getD_eq_getElem?_getD, hxs]; rfl
            have h5 := (hyr c y h3).keeps kX
            rw [ex] at h5
            exact h5
        · have hat : ¬ g - i ≤ t := fun z => h2 (decide_eq_true (by omega))
          walk_at "rd"
          refine hn1 _ _ ⟨fs, _, rfl, e2, hF2, ?_⟩
          rw [eS]
          unfold rowsAt
          rw [if_neg hat, List.append_nil]
          exact hfs
      · rintro σ H2 ⟨fs, x3, rfl, e2, hF2, hfs⟩
        walk_at "rd"
        refine k H2 Fa fs e2 hFa hF2 ?_
        rw [rows_pos h0]
        exact hfs
theorem fr_all (F : Fun K "falling_rows" "falling_rows" sFR f fd) (T : Txt K mg) (hm : mg "falling_rows" = some (.ref f)) (hk : PySem.W.keepIn K (.ref f) = true) (hb : Binds K fd ["total", "greatest"] []) : ∀ n, Def1 P w K mg base CX0 (n + 1) "falling_rows" ["total", "greatest"] (spFR K n)
  | 0 => ⟨f, fd, hm, hk, F.ok scFR (fun vs H Q E h => by obtain ⟨t, g, _, h, _⟩ := h; omega) (fun cdv A outer s H vs Q E hr h => by obtain ⟨t, g, _, h, _⟩ := h; omega), hb⟩
  | n + 1 => ⟨f, fd, hm, hk, ok_fr F T (fr_all F T hm hk hb n), hb⟩
end
end

/-! Rows: numbers, the turned one, held, steps, the opposite. -/

section
open PySem PySem.Spec PyProof.Rows L2 Gd
section
variable {P : Program} {w : World} {K : PySem.W.Frag} {mg : Str → Option Value} {base : Heap} {f : Addr} {fd : FuncData}
/-! ### number_at -/
abbrev sNumAt : Stmt := top 19
theorem scNumAt : FnScope ["row", "index"] ["row", "index"] (defScope sNumAt) := ⟨rfl, rfl, rfl, by decide +kernel, rfl, by decide +kernel, by decide +kernel⟩
def spNumAt (K : PySem.W.Frag) : Sp := fun vs H Q _ => ∃ (a : Addr) (ns : List Int) (i : Nat), vs = [.ref a, .int (i : Int)] ∧ SqT K H a (ns.map V.int) ∧ Q (.int (ns.getD i 0)) H
theorem ok_numAt (F : Fun K "number_at" "number_at" sNumAt f fd) (T : Txt K mg) : FnOk P w K mg base CX0 1 f fd ["row", "index"] (spNumAt K) := by
  refine F.ok scNumAt (fun vs H Q E h => ?_) (fun cdv A outer s H vs Q E hr h => ?_)
  · obtain ⟨a, ns, i, rfl, _⟩ := h
    rfl
  · obtain ⟨a, ns, i, rfl, hs, k⟩ := h
    refine ⟨_, pss_one (ps_ret (pe_ifExp (pt_cmpR op_lt (pv 1) (pe_callB call_len_seq (by rfl) T.len PySem.boot_len (pa_cons (pv 0) pa_nil)) (nomark _)) (pe_ix ix_tup (pv 0) (pv 1) (fun _ _ => rfl)) pe_int)), ?_⟩
    try dsimp only [cx_nox, cx_K]
    walk_at "rd"
    refine ⟨a, _, rfl, .inr hs, ?_⟩
    walk_at "rd"
    rw [List.length_map]
    refine ite2 (fun h1 => ?_) (fun h1 => ?_)
    · have h2 := of_decide_eq_true h1
      have hlt : i < ns.length := by omega
      walk_at "rd"
      exact g_ixT hs (atI_nat (getI hlt)) k
    · have hlt : ¬ i < ns.length := fun z => h1 (decide_eq_true (by omega))
      rw [getD_big hlt] at k
      walk_at "rd"
      exact k
/-! ### the turned row -/
def gtI (i : Nat) : V → Bool := fun v => match v with
  | .int n => decide ((i : Int) < n)
  | _ => false
theorem filter_gtI {ns : List Int} {i : Nat} : ((ns.map V.int).filter (gtI i)).length = (ns.filter fun x => decide ((i : Int) < x)).length := by
  rw [List.filter_map, List.length_map]
  rfl
theorem numZ {ns : List Int} : (0 + ns.getD 0 0 : Int).toNat = (ns.getD 0 0).toNat := by rw [Int.zero_add]
def turnM (ns : List Int) : List Int := (List.range (ns.getD 0 0).toNat).map fun (i : Nat) => ((ns.filter fun x => decide ((i : Int) < x)).length : Int)
/-! ### held -/
abbrev sHeld : Stmt := top 20
def heldM (ns ms : List Int) : Bool := decide (ns.length ≤ ms.length) && ((ns.zip ms).all fun p => decide (p.1 ≤ p.2))
def leV : V → V → V := fun x y => match x, y with
  | .int n, .int m => .bl (decide (n ≤ m))
  | _, _ => .non
theorem held_map {ns ms : List Int} : (((ns.map V.int).zip (ms.map V.int)).filter fun _ => true).map (fun p => leV p.1 p.2) = ((ns.zip ms).map fun p => decide (p.1 ≤ p.2)).map V.bl := by
  rw [List.filter_eq_self.mpr (fun _ _ => rfl), List.zip_map, List.map_map, List.map_map]
  rfl
theorem scHeld : FnScope ["row", "other", "x", "y"] ["row", "other"] (defScope sHeld) := ⟨rfl, rfl, rfl, by decide +kernel, rfl, by decide +kernel, by decide +kernel⟩
def spHeld (K : PySem.W.Frag) : Sp := fun vs H Q _ => ∃ (a b : Addr) (ns ms : List Int), vs = [.ref a, .ref b] ∧ SqT K H a (ns.map V.int) ∧ SqT K H b (ms.map V.int) ∧ Fall ns ∧ Fall ms ∧ ∀ H', Ext H H' → Q (.bl (heldM ns ms)) H'
theorem ok_held (F : Fun K "is_held" "is_held" sHeld f fd) (T : Txt K mg) : FnOk P w K mg base CX0 1 f fd ["row", "other"] (spHeld K) := by
  refine F.ok scHeld (fun vs H Q E h => ?_) (fun cdv A outer s H vs Q E hr h => ?_)
  · obtain ⟨a, b, ns, ms, rfl, _⟩ := h
    rfl
  · obtain ⟨a, b, ns, ms, rfl, hs, ht, hF, hG, k⟩ := h
    refine ⟨_, pss_one (ps_ret (pe_and (pe_cmpR op_le (pe_callB call_len_seq (by rfl) T.len PySem.boot_len (pa_cons (pv 0) pa_nil)) (pe_callB call_len_seq (by rfl) T.len PySem.boot_len (pa_cons (pv 1) pa_nil)) (nomark _)) (pe_one (pe_callB (cr_all rfl) (by rfl) T.all (by decide +kernel) (pa_cons (pe_lc (own := [("x", 2), ("y", 3)]) (g := gTup K 2 (gCons (gName 2) (gCons (gName 3) gNil))) (tt := tYes) rfl scHeld.nd (pi_zipE (by rfl) T.zip (pa_cons (pv 0) (pa_cons (pv 1) pa_nil))) (blkOk_by (N := ["row", "other", "x", "y"]) (sc := defScope sHeld) (by decide +kernel)) (fun _ _ _ _ _ => pg_tup rfl (pgs_cons (pg_name (i := 2) scHeld.nd rfl (Or.inl rfl)) (pgs_cons (pg_name (i := 3) scHeld.nd rfl (Or.inl rfl)) pgs_nil))) (fun _ _ _ _ _ => pts_nil) (fun _ _ _ _ _ => (pe_cmpR op_le (pv 2) (pv 3) (nomark _)))) pa_nil))))), ?_⟩
    try dsimp only [cx_nox, cx_K]
    have hlen := hF.len
    walk_at "rd"
    refine ⟨a, _, rfl, .inr hs, ?_⟩
    walk_at "rd"
    refine ⟨b, _, rfl, .inr ht, ?_⟩
    walk_at "rd"
    rw [List.length_map, List.length_map]
    refine ite2 (fun h1 => ?_) (fun h1 => ?_)
    · have h2 := of_decide_eq_true h1
      walk_at "rd"
      refine g_lc ?_
      unfold iZipE
      walk_at "rd"
      refine lcZ (l1 := false) (l2 := false) hs ht (small (by rw [List.length_map]; omega)) (fun _ _ => true) leV (fun x y H' hxy e Qe Qn he hn => ?_) (fun H' D e hD hd => ?_)
      · rw [List.zip_map] at hxy
        obtain ⟨⟨n, m⟩, hnm, e1⟩ := List.mem_map.mp hxy
        cases e1
        refine ⟨rfl, ?_⟩
        walk_at "rd"
        exact he _ (fun _ _ z => z) rfl
      · rw [held_map] at hd
        walk_at "rd"
        refine ⟨D, _, rfl, SqL.of hd, ?_⟩
        have e1 : heldM ns ms = ((ns.zip ms).map fun p => decide (p.1 ≤ p.2)).all id := by
          unfold heldM
          rw [decide_eq_true (show ns.length ≤ ms.length by omega), Bool.true_and, List.all_map]
          rfl
        rw [← e1]
        exact k H' e
    · have h2 : ¬ ns.length ≤ ms.length := fun z => h1 (decide_eq_true (by omega))
      have e1 : heldM ns ms = false := by
        unfold heldM
        rw [decide_eq_false h2]
        rfl
      walk_at "rd"
      rw [← e1]
      exact k H (fun _ _ z => z)
/-! ### flat steps -/
abbrev sFlat : Stmt := top 25
def flatB (row other : List Int) : Bool := heldM other row && (List.range row.length).all fun i => decide (row.getD i 0 - other.getD i 0 ≤ 1)
theorem scFlat : FnScope ["row", "other", "i", "number"] ["row", "other"] (defScope sFlat) := ⟨rfl, rfl, rfl, by decide +kernel, rfl, by decide +kernel, by decide +kernel⟩
def spFlat (K : PySem.W.Frag) : Sp := fun vs H Q _ => ∃ (a b : Addr) (ns ms : List Int), vs = [.ref a, .ref b] ∧ SqT K H a (ns.map V.int) ∧ SqT K H b (ms.map V.int) ∧ Fall ns ∧ Fall ms ∧ ∀ H', Ext H H' → Q (.bl (flatB ns ms)) H'
theorem ok_flat (F : Fun K "is_flat_step" "is_flat_step" sFlat f fd) (T : Txt K mg) (N : Def1 P w K mg base CX0 1 "number_at" ["row", "index"] (spNumAt K)) (He : Def1 P w K mg base CX0 1 "is_held" ["row", "other"] (spHeld K)) : FnOk P w K mg base CX0 2 f fd ["row", "other"] (spFlat K) := by
  refine F.ok scFlat (fun vs H Q E h => ?_) (fun cdv A outer s H vs Q E hr h => ?_)
  · obtain ⟨a, b, ns, ms, rfl, _⟩ := h
    rfl
  · obtain ⟨a, b, ns, ms, rfl, hs, ht, hF, hG, k⟩ := h
    refine ⟨_, pss_one (ps_ret (pe_and (pe_def He hr (by decide) (by rfl) (pa_cons (pv 1) (pa_cons (pv 0) pa_nil))) (pe_one (pe_callB (cr_all rfl) (by rfl) T.all (by decide +kernel) (pa_cons (pe_lc (own := [("i", 2), ("number", 3)]) (g := gTup K 2 (gCons (gName 2) (gCons (gName 3) gNil))) (tt := tYes) rfl scFlat.nd (pi_enumT (by rfl) T.enumerate (pa_cons (pv 0) pa_nil)) (blkOk_by (N := ["row", "other", "i", "number"]) (sc := defScope sFlat) (by decide +kernel)) (fun _ _ _ _ _ => pg_tup rfl (pgs_cons (pg_name (i := 2) scFlat.nd rfl (Or.inl rfl)) (pgs_cons (pg_name (i := 3) scFlat.nd rfl (Or.inl rfl)) pgs_nil))) (fun _ _ _ _ _ => pts_nil) (fun _ _ _ _ _ => by exact (pe_cmpR op_le (pe_op op_sub (pv 3) (pe_def N hr (by decide) (by rfl) (pa_cons (pv 1) (pa_cons (pv 2) pa_nil)))) pe_int (nomark _)))) pa_nil))))), ?_⟩
    try dsimp only [cx_nox, cx_K]
    have hlen := hF.len
    walk_at "rd"
    refine ⟨b, a, ms, ns, rfl, ht, hs, hG, hF, fun H1 e1 => ?_⟩
    cases hh : heldM ms ns with
    | false =>
      walk_at "rd"
      have e0 : flatB ns ms = false := by
        unfold flatB
        rw [hh, Bool.false_and]
      rw [e0] at k
      exact k H1 e1
    | true =>
      walk_at "rd"
      refine g_lc ?_
      unfold iEnumT
      walk_at "rd"
      refine lcE (sqT_ext e1 hs) (small (by rw [List.length_map]; omega)) (fun _ _ => true) (fun i _ => .bl (decide (ns.getD i 0 - ms.getD i 0 ≤ 1))) (fun i x H' hx e Qe Qn he hn => ?_) (fun H' D e hD hd => ?_)
      · rw [mapget] at hx
        obtain ⟨n, hn', rfl⟩ := Option.map_eq_some_iff.mp hx
        have en : ns.getD i 0 = n := by rw [List.getD_eq_getElem?_getD, hn']; rfl
        have b1 := hF.at i
        have b2 := hG.at i
        rw [en] at b1 he
        refine ⟨rfl, ?_⟩
        walk_at "rd"
        refine ⟨b, ms, i, rfl, sqT_ext (Ext.trans e1 e) ht, ?_⟩
        walk_at "rd"
        exact he _ (fun _ _ z => z) rfl
      · rw [List.length_map, idx_all] at hd
        walk_at "rd"
        refine ⟨D, (List.range ns.length).map fun i => decide (ns.getD i 0 - ms.getD i 0 ≤ 1), rfl, SqL.of (by rw [hd, List.map_map]; rfl), ?_⟩
        have e0 : flatB ns ms = ((List.range ns.length).map fun i => decide (ns.getD i 0 - ms.getD i 0 ≤ 1)).all id := by
          unfold flatB
          rw [hh, Bool.true_and, List.all_map]
          rfl
        rw [e0] at k
        exact k H' (Ext.trans e1 e)
/-! ### line steps -/
abbrev sLine : Stmt := top 26
def lineB (row other : List Int) : Bool := heldM other row && (List.range (row.length - 1)).all fun i => decide (row.getD (i + 1) 0 ≤ other.getD i 0)
theorem scLine : FnScope ["row", "other", "i"] ["row", "other"] (defScope sLine) := ⟨rfl, rfl, rfl, by decide +kernel, rfl, by decide +kernel, by decide +kernel⟩
def spLine (K : PySem.W.Frag) : Sp := fun vs H Q _ => ∃ (a b : Addr) (ns ms : List Int), vs = [.ref a, .ref b] ∧ SqT K H a (ns.map V.int) ∧ SqT K H b (ms.map V.int) ∧ Fall ns ∧ Fall ms ∧ ∀ H', Ext H H' → Q (.bl (lineB ns ms)) H'
theorem ok_line (F : Fun K "is_line_step" "is_line_step" sLine f fd) (T : Txt K mg) (N : Def1 P w K mg base CX0 1 "number_at" ["row", "index"] (spNumAt K)) (He : Def1 P w K mg base CX0 1 "is_held" ["row", "other"] (spHeld K)) : FnOk P w K mg base CX0 2 f fd ["row", "other"] (spLine K) := by
  refine F.ok scLine (fun vs H Q E h => ?_) (fun cdv A outer s H vs Q E hr h => ?_)
  · obtain ⟨a, b, ns, ms, rfl, _⟩ := h
    rfl
  · obtain ⟨a, b, ns, ms, rfl, hs, ht, hF, hG, k⟩ := h
    refine ⟨_, pss_one (ps_ret (pe_and (pe_def He hr (by decide) (by rfl) (pa_cons (pv 1) (pa_cons (pv 0) pa_nil))) (pe_one (pe_callB (cr_all rfl) (by rfl) T.all (by decide +kernel) (pa_cons (pe_lc (own := [("i", 2)]) (g := gName 2) (tt := tYes) rfl scLine.nd (pi_range2 (by rfl) T.range (pa_cons pe_int (pa_cons (pe_callB call_len_seq (by rfl) T.len PySem.boot_len (pa_cons (pv 0) pa_nil)) pa_nil))) (blkOk_by (N := ["row", "other", "i"]) (sc := defScope sLine) (by decide +kernel)) (fun _ _ _ _ _ => pg_name (i := 2) scLine.nd rfl (Or.inl rfl)) (fun _ _ _ _ _ => pts_nil) (fun _ _ _ _ _ => by exact (pe_cmpR op_le (pe_ix (r := rIxT K) ix_tup (pv 0) (pv 2) (fun _ _ => rfl)) (pe_def N hr (by decide) (by rfl) (pa_cons (pv 1) (pa_cons (pe_op op_sub (pv 2) pe_int) pa_nil))) (nomark _)))) pa_nil))))), ?_⟩
    try dsimp only [cx_nox, cx_K]
    have hlen := hF.len
    walk_at "rd"
    refine ⟨b, a, ms, ns, rfl, ht, hs, hG, hF, fun H1 e1 => ?_⟩
    cases hh : heldM ms ns with
    | false =>
      walk_at "rd"
      have e0 : lineB ns ms = false := by
        unfold lineB
        rw [hh, Bool.false_and]
      rw [e0] at k
      exact k H1 e1
    | true =>
      walk_at "rd"
      refine g_lc (g_rng2 ?_)
      walk_at "rd"
      refine ⟨a, _, rfl, .inr (sqT_ext e1 hs), ?_⟩
      walk_at "rd"
      rw [List.length_map]
      refine ⟨⟨by decide, by decide, by omega, by omega⟩, ?_⟩
      have en : ((ns.length : Int) - 1).toNat = ns.length - 1 := by omega
      rw [en]
      refine lcR (small (by omega)) (fun _ => true) (fun i => .bl (decide (ns.getD (i + 1) 0 ≤ ms.getD i 0))) (fun i H' hi e Qe Qn he hn => ?_) (fun H' D e hD hd => ?_)
      · have e2 := Ext.trans e1 e
        refine ⟨rfl, ?_⟩
        walk_at "rd"
        have e3 : (1 : Int) + (i : Int) = ((i + 1 : Nat) : Int) := by omega
        rw [e3]
        refine g_ixT (sqT_ext e2 hs) (atI_nat (getI (by omega))) ?_
        walk_at "rd"
        refine ⟨b, ms, i, by rw [show ((i + 1 : Nat) : Int) - 1 = (i : Int) by omega]; rfl, sqT_ext e2 ht, ?_⟩
        walk_at "rd"
        exact he _ (fun _ _ z => z) rfl
      · rw [idx_all] at hd
        walk_at "rd"
        refine ⟨D, (List.range (ns.length - 1)).map fun i => decide (ns.getD (i + 1) 0 ≤ ms.getD i 0), rfl, SqL.of (by rw [hd, List.map_map]; rfl), ?_⟩
        have e0 : lineB ns ms = ((List.range (ns.length - 1)).map fun i => decide (ns.getD (i + 1) 0 ≤ ms.getD i 0)).all id := by
          unfold lineB
          rw [hh, Bool.true_and, List.all_map]
          rfl
        rw [e0] at k
        exact k H' (Ext.trans e1 e)
/-! ### the opposite in a block -/
abbrev sOpp : Stmt := top 24
def oppM (row : List Int) (wide : Nat) (high : Int) : List Int := ((List.range wide).map fun i => high - row.getD (wide - 1 - i) 0).filter fun x => decide (0 < x)
def posI : V → Bool := fun v => match v with
  | .int n => decide (0 < n)
  | _ => false
theorem posI_filter (l : List Int) : (l.map V.int).filter posI = (l.filter fun x => decide (0 < x)).map V.int := by
  rw [List.filter_map]
  rfl
theorem scOpp : FnScope ["row", "wide", "high", "left", "i", "number"] ["row", "wide", "high"] (defScope sOpp) := ⟨rfl, rfl, rfl, by decide +kernel, rfl, by decide +kernel, by decide +kernel⟩
def spOpp (K : PySem.W.Frag) : Sp := fun vs H Q _ => ∃ (a : Addr) (ns : List Int) (wide : Nat) (high : Int), vs = [.ref a, .int (wide : Int), .int high] ∧ SqT K H a (ns.map V.int) ∧ Fall ns ∧ wide ≤ 12 ∧ 0 ≤ high ∧ high ≤ 12 ∧ ∀ H' u, Ext H H' → TupX K H' u ((oppM ns wide high).map V.int) → Q (.ref u) H'
theorem ok_opp (F : Fun K "opposite_row" "opposite_row" sOpp f fd) (T : Txt K mg) (N : Def1 P w K mg base CX0 1 "number_at" ["row", "index"] (spNumAt K)) : FnOk P w K mg base CX0 2 f fd ["row", "wide", "high"] (spOpp K) := by
  refine F.ok scOpp (fun vs H Q E h => ?_) (fun cdv A outer s H vs Q E hr h => ?_)
  · obtain ⟨a, ns, wide, high, rfl, _⟩ := h
    rfl
  · obtain ⟨a, ns, wide, high, rfl, hs, hF, hw, hh0, hh, k⟩ := h
    refine ⟨_, pss_cons (ps_setLc (i := 3) (own := [("i", 4)]) (g := gName 4) (tt := tYes) rfl scOpp.nd rfl rfl (sw_true rfl rfl rfl (by decide +kernel)) (pi_range1 (by rfl) T.range (pa_cons (pv 1) pa_nil)) (blkOk_by (N := ["row", "wide", "high", "left", "i", "number"]) (sc := defScope sOpp) (by decide +kernel)) (fun _ _ _ _ _ => pg_name (i := 4) scOpp.nd rfl (Or.inl rfl)) (fun _ _ _ _ _ => pts_nil) (fun _ _ _ _ _ => by exact (pe_op op_sub (pv 2) (pe_def N hr (by decide) (by rfl) (pa_cons (pv 0) (pa_cons (pe_op op_sub (pe_op op_sub (pv 1) pe_int) (pv 4)) pa_nil))))))
      (pss_one (ps_ret (pe_callTy call_tupX (by rfl) T.tuple (by decide +kernel) (pa_cons (pe_lc (own := [("number", 5)]) (g := gName 5) rfl scOpp.nd (pi_list (pv 3)) (blkOk_by (N := ["row", "wide", "high", "left", "i", "number"]) (sc := defScope sOpp) (by decide +kernel)) (fun _ _ _ _ _ => pg_name (i := 5) scOpp.nd rfl (Or.inl rfl)) (fun _ _ _ _ _ => pts_one (pt_cmpR op_gt (pv 5) pe_int (nomark _))) (fun _ _ _ _ _ => by exact (pv 5))) pa_nil)))), ?_⟩
    try dsimp only [cx_nox, cx_K]
    walk_at "rd"
    refine g_lc (g_rng1 ?_)
    walk_at "rd"
    refine ⟨by omega, by omega, ?_⟩
    rw [Int.toNat_natCast]
    refine lcR (small (by omega)) (fun _ => true) (fun i => .int (high - ns.getD (wide - 1 - i) 0)) (fun i H' hi e Qe Qn he hn => ?_) (fun H' D e hD hd => ?_)
    · have hb := hF.at (wide - 1 - i)
      rw [Int.zero_add]
      refine ⟨rfl, ?_⟩
      walk_at "rd"
      refine ⟨a, ns, wide - 1 - i, by rw [show ((wide - 1 - i : Nat) : Int) = (wide : Int) - 1 - (i : Int) by omega]; rfl, sqT_ext e hs, ?_⟩
      walk_at "rd"
      exact he _ (fun _ _ z => z) rfl
    · rw [idx_all] at hd
      walk_at "rd"
      refine g_lc (g_ilistC ?_)
      walk_at "rd"
      refine lcL (SqL.of hd) (small (by rw [List.length_map, List.length_range]; omega)) posI id (fun x H2 hx e2 Qe2 Qn2 he2 hn2 => ?_) (fun H2 D2 e2 hD2 hd2 => ?_)
      · obtain ⟨i, hi, rfl⟩ := List.mem_map.mp hx
        refine ⟨rfl, ?_⟩
        walk_at "rd"
        refine ite2 (fun h1 => ?_) (fun h1 => ?_)
        · walk_at "rd"
          exact he2 _ (fun _ _ z => z) h1
        · exact hn2 _ (fun _ _ z => z) (by show decide _ = false; simpa using h1)
      · walk_at "rd"
        refine ⟨D2, _, rfl, .inl ⟨SqL.of hd2, fun l o hl ho => ?_⟩⟩
        refine k _ l (Ext.trans e (Ext.trans e2 (Ext.new hl))) ?_
        have e0 : (oppM ns wide high).map V.int = List.map id (List.filter posI ((List.range wide).map fun i => V.int (high - ns.getD (wide - 1 - i) 0))) := by
          unfold oppM
          rw [List.map_id, ← posI_filter, List.map_map]
          rfl
        rw [e0]
        exact TupX.new ho
end
end

/-! Kinds: ==. -/

section
open PySem PySem.Spec PyProof.Rows L2 Gd
section
variable {P : Program} {w : World} {K : PySem.W.Frag} {mg : Str → Option Value} {base : Heap} {f C : Addr} {fd : FuncData}
theorem neg_injQ {ns ms : List Int} : (ns.map fun x => -x) = (ms.map fun x => -x) ↔ ns = ms := by
  constructor
  · intro h
    have h2 := congrArg (List.map fun x : Int => -x) h
    rw [List.map_map, List.map_map] at h2
    have e : ((fun x : Int => -x) ∘ fun x => -x) = id := by
      funext x
      exact Int.neg_neg x
    rw [e, List.map_id, List.map_id] at h2
    exact h2
  · intro h
    rw [h]
theorem dp_pairQ {H : Hp} {t m : Addr} {i : Int} {ns : List Int} (ht : SqT K H t [.int i, .ref m]) (hm : SqT K H m (ns.map V.int)) : Dp K H (.ref t) (.tuple [.int i, .tuple (pdata ns)]) :=
  .tup ht (.cons (.int i) (.cons (.tup hm (pdp ns)) .nil))
theorem sh_pairQ (i : Int) (ns : List Int) : SeqAt.shaped (.tuple [.int i, .tuple (pdata ns)]) = true := by
  have d : ∀ ns : List Int, PyData.depthAll (pdata ns) = 0 := fun ns => by
    induction ns with
    | nil => simp [pdata, PyData.depthAll]
    | cons n r ih =>
      unfold pdata at ih ⊢
      simp [PyData.depthAll, PyData.depth, ih]
  unfold SeqAt.shaped
  simp [PyData.canLay0, PyData.canLayAll0, play, PyData.depth, PyData.depthAll, d]
theorem notFirst_own {G : Addr} : PySem.W.notFirst K G (.ref G) = true := by
  unfold PySem.W.notFirst
  simp
theorem scKEq : FnScope ["self", "other"] ["self", "other"] (defScope (cls 19)) := ⟨rfl, rfl, rfl, by decide +kernel, rfl, by decide +kernel, by decide +kernel⟩
def spKEq (K : PySem.W.Frag) (C : Addr) : Sp := fun vs H Q _ => ∃ (p n t m q n2 t2 m2 : Addr) (ns ms : List Int), vs = [.ref p, .ref q] ∧ KindAt K C H p n t m ns ∧ KindAt K C H q n2 t2 m2 ms ∧ ∀ H', Ext H H' → Q (.bl (decide (ns = ms))) H'
theorem ok_keq (F : Fun K "__eq__" "Kind.__eq__" (cls 19) f fd) (T : Txt K mg) (Cl : KC K mg C) : FnOk P w K mg base CX0 1 f fd ["self", "other"] (spKEq K C) := by
  refine F.ok scKEq (fun vs H Q E h => ?_) (fun cdv A outer s H vs Q E hr h => ?_)
  · obtain ⟨p, n, t, m, q, n2, t2, m2, ns, ms, rfl, _⟩ := h
    rfl
  · obtain ⟨p, n, t, m, q, n2, t2, m2, ns, ms, rfl, ⟨⟨dx, hp⟩, hn, ht, hm, hF⟩, ⟨⟨dy, hq⟩, hn2, ht2, hm2, hF2⟩, k⟩ := h
    refine ⟨_, pss_one (ps_ret (pe_and (pe_callB call_isi (by rfl) T.isinstance (by decide +kernel) (pa_cons (pv 1) (pa_cons (pe_glob (v := .ref C) (by rfl) Cl.g rfl) pa_nil))) (pe_one (pe_cmpR (op_eqD hr.units) (pe_fld (pv 0) rfl) (pe_fld (pv 1) rfl) (nomark _))))), ?_⟩
    try dsimp only [cx_nox, cx_K]
    walk_at "rd"
    refine ⟨_, _, _, _, true, rfl, .own C, Cl.ty hq, Cl.kit, ?_⟩
    walk_at "rd"
    refine ⟨p, C, dx, _, _, rfl, hp, Cl.cl, Cl.noP, look2, ?_⟩
    walk_at "rd"
    refine ⟨q, C, dy, _, _, rfl, hq, Cl.cl, Cl.noP, look2, ?_⟩
    refine ⟨_, _, dp_pairQ ht hm, dp_pairQ ht2 hm2, sh_pairQ _ _, sh_pairQ _ _, ?_⟩
    have e1 : PyData.eqv (.tuple [.int ns.sum, .tuple (pdata (ns.map fun x => -x))]) (.tuple [.int ms.sum, .tuple (pdata (ms.map fun x => -x))]) = (decide (ns.sum = ms.sum) && (decide ((ns.map fun x => -x) = (ms.map fun x => -x)) && true)) := by
      simp only [PyData.eqv, PyData.eqvAll, peqv]
      rfl
    have e : (decide (ns.sum = ms.sum) && (decide ((ns.map fun x => -x) = (ms.map fun x => -x)) && true)) = decide (ns = ms) := by
      rw [Bool.and_true]
      by_cases h : ns = ms
      · subst h
        simp
      · rw [decide_eq_false (p := (ns.map fun x => -x) = (ms.map fun x => -x)) (fun z => h (neg_injQ.mp z)), decide_eq_false h, Bool.and_false]
    rw [e1, e]
    exact k H (fun _ _ z => z)
/-- two kinds of the same numbers -/
theorem g_neKind {H : Hp} {Q : VK} {E : XK} {p n t m q n2 t2 m2 : Addr} {ns ms : List Int} (Cl : KC K mg C) (hp : KindAt K C H p n t m ns) (hq : KindAt K C H q n2 t2 m2 ms) (k : ∀ H', Ext H H' → Q (.bl (!decide (ns = ms))) H') : rNeO K C (spKEq K C) E (.ref p) (.ref q) H Q := by
  obtain ⟨dx, hpi⟩ := id hp.ins
  obtain ⟨dy, hqi⟩ := id hq.ins
  exact ⟨p, dx, _, _, rfl, hpi, Cl.ty hqi, notFirst_own, p, n, t, m, q, n2, t2, m2, ns, ms, rfl, hp, hq, fun H' e => ⟨_, rfl, k H' e⟩⟩
end
end

/-! The law's kinds of a size, in their order. -/

section
open PySem PySem.Spec PyProof.Rows L2 Gd
theorem range_rev : ∀ n : Nat, (List.range n).reverse = (List.range n).map fun j => n - 1 - j
  | 0 => rfl
  | n + 1 => by
    have ih := range_rev n
    rw [List.range_succ, List.reverse_append, ih, ← List.range_succ, List.range_succ_eq_map, List.map_cons, List.map_map]
    show n :: _ = (n + 1 - 1 - 0) :: _
    rw [show n + 1 - 1 - 0 = n by omega]
    congr 1
    refine List.map_congr_left fun j hj => ?_
    have := List.mem_range.mp hj
    show n - 1 - j = n + 1 - 1 - (j + 1)
    omega
theorem rows_min {t g : Nat} (ht : t ≠ 0) (h : t ≤ g) : rows t g = rows t t := by
  rw [rows_pos ht, rows_pos ht]
  have e : List.range g = List.range (g - t) ++ (List.range t).map (g - t + ·) := by
    rw [← List.range_add]
    congr 1
    omega
  rw [e, List.flatMap_append]
  have e1 : (List.range (g - t)).flatMap (rowsAt t g) = [] := by
    refine List.flatMap_eq_nil_iff.mpr fun i hi => ?_
    have := List.mem_range.mp hi
    unfold rowsAt
    rw [if_neg (by omega)]
  rw [e1, List.nil_append, List.flatMap_map]
  refine flat_cong fun i hi => ?_
  have := List.mem_range.mp hi
  show rowsAt t g (g - t + i) = rowsAt t t i
  unfold rowsAt
  rw [show g - (g - t + i) = t - i by omega]
/-- how great the next number may be -/
def bnd (r : List Int) (l : Nat) : Nat := if r = [] then l else min l (r.getD (r.length - 1) 0).toNat
/-- what comes of what waits -/
def todo (qs : List (List Int × Nat)) : List (List Int) := qs.reverse.flatMap fun q => (rows q.2 (bnd q.1 q.2)).map (q.1 ++ ·)
theorem todo_snoc (qs : List (List Int × Nat)) (r : List Int) (l : Nat) : todo (qs ++ [(r, l)]) = (rows l (bnd r l)).map (r ++ ·) ++ todo qs := by
  unfold todo
  rw [List.reverse_append]
  rfl
theorem bnd_snoc (r : List Int) (a l : Nat) : bnd (r ++ [(a : Int)]) l = min l a := by
  unfold bnd
  rw [if_neg (by simp), List.length_append, List.length_singleton, Nat.add_sub_cancel, List.getD_eq_getElem?_getD, List.getElem?_append_right (Nat.le_refl _), Nat.sub_self]
  rfl
theorem todo_more (qs : List (List Int × Nat)) (r : List Int) {l mo : Nat} (hl : l ≠ 0) (hm : mo ≤ l) (hb : bnd r l = mo) : todo (qs ++ (List.range mo).map fun i => (r ++ [((i + 1 : Nat) : Int)], l - (i + 1))) = (rows l (bnd r l)).map (r ++ ·) ++ todo qs := by
  unfold todo
  rw [List.reverse_append, List.flatMap_append, ← List.map_reverse, List.flatMap_map, range_rev, List.flatMap_map, hb, rows_pos hl, List.map_flatMap]
  congr 1
  refine flat_cong fun j hj => ?_
  have hjm := List.mem_range.mp hj
  show (rows (l - (mo - 1 - j + 1)) (bnd (r ++ [((mo - 1 - j + 1 : Nat) : Int)]) (l - (mo - 1 - j + 1)))).map ((r ++ [((mo - 1 - j + 1 : Nat) : Int)]) ++ ·) = (rowsAt l mo j).map (r ++ ·)
  unfold rowsAt
  rw [show mo - 1 - j + 1 = mo - j by omega, if_pos (show mo - j ≤ l by omega), bnd_snoc, List.map_map]
  have e : rows (l - (mo - j)) (min (l - (mo - j)) (mo - j)) = rows (l - (mo - j)) (mo - j) := by
    by_cases h0 : l - (mo - j) = 0
    · rw [h0]
      rfl
    · by_cases h1 : l - (mo - j) ≤ mo - j
      · rw [Nat.min_eq_left h1, rows_min h0 h1]
      · rw [Nat.min_eq_right (by omega)]
  rw [e]
  refine List.map_congr_left fun x _ => ?_
  show (r ++ [((mo - j : Nat) : Int)]) ++ x = r ++ (((mo - j : Nat) : Int) :: x)
  rw [List.append_assoc]
  rfl
theorem todo_start (size : Nat) : todo [([], size)] = rows size size := by
  have h := todo_snoc [] [] size
  have e : todo [] = [] := rfl
  rw [List.nil_append, e, List.append_nil] at h
  rw [h]
  unfold bnd
  rw [if_pos rfl]
  exact List.map_id'' (fun _ => rfl) _
end

/-! The mathematics of steps and of opposites. -/
section
open PySem Gd
theorem ext_getD {a b : List Int} (hl : a.length = b.length) (h : ∀ i : Nat, a.getD i 0 = b.getD i 0) : a = b := by
  refine List.ext_getElem hl fun i h1 h2 => ?_
  have := h i
  rw [List.getD_eq_getElem?_getD, List.getD_eq_getElem?_getD, List.getElem?_eq_getElem h1, List.getElem?_eq_getElem h2] at this
  exact this
theorem fall_ext {a b : List Int} (ha : Fall a) (hb : Fall b) (h : ∀ i : Nat, a.getD i 0 = b.getD i 0) : a = b := by
  refine ext_getD ?_ h
  rcases Nat.lt_trichotomy a.length b.length with q | q | q
  · have h1 := hb.pos _ (getD_mem q)
    have h2 := h a.length
    rw [getD_big (ns := a) (Nat.lt_irrefl _)] at h2
    omega
  · exact q
  · have h1 := ha.pos _ (getD_mem q)
    have h2 := h b.length
    rw [getD_big (ns := b) (Nat.lt_irrefl _)] at h2
    omega
theorem sum_le {α : Type} {f g : α → Int} : ∀ k : List α, (∀ x ∈ k, f x ≤ g x) → (k.map f).sum ≤ (k.map g).sum
  | [], _ => Int.le_refl _
  | x :: r, h => by
    have h1 := h x List.mem_cons_self
    have h2 := sum_le r fun y hy => h y (List.mem_cons_of_mem _ hy)
    simp only [List.map_cons, List.sum_cons]
    omega
theorem sum_map_get (f : Int → Int) (f0 : f 0 = 0) : ∀ (n : Nat) (ns : List Int), ns.length ≤ n → (ns.map f).sum = ((List.range n).map fun i => f (ns.getD i 0)).sum
  | 0, ns, h => by
    have : ns = [] := List.length_eq_zero_iff.mp (by omega)
    subst this
    rfl
  | n + 1, [], h => by
    have z : ∀ k : List Nat, (k.map fun _ => f 0).sum = 0 := fun k => by
      induction k with
      | nil => rfl
      | cons _ _ ih =>
        rw [List.map_cons, List.sum_cons, ih, f0]
        rfl
    exact (z _).symm
  | n + 1, x :: r, h => by
    rw [List.range_succ_eq_map, List.map_cons, List.map_cons, List.sum_cons, List.sum_cons, List.map_map, sum_map_get f f0 n r (by simpa using h)]
    rfl
/-- how many numbers are greater than i -/
def over (i : Nat) (ns : List Int) : Int := ((ns.filter fun x => decide ((i : Int) < x)).length : Int)
theorem getD_turn {ns : List Int} (h : Fall ns) (i : Nat) : (turnM ns).getD i 0 = over i ns := by
  unfold turnM
  by_cases hi : i < (ns.getD 0 0).toNat
  · rw [List.getD_eq_getElem?_getD, List.getElem?_map, List.getElem?_range hi]
    rfl
  · rw [getD_big (by rw [List.length_map, List.length_range]; exact hi)]
    unfold over
    have : ns.filter (fun x => decide ((i : Int) < x)) = [] := by
      refine List.filter_eq_nil_iff.mpr fun x hx => ?_
      have := h.head x hx
      have := (h.at 0).1
      simp only [decide_eq_true_eq]
      omega
    rw [this]
    rfl
def gt1 (i : Nat) (x : Int) : Int := if (i : Int) < x then 1 else 0
theorem gt1_0 (i : Nat) : gt1 i 0 = 0 := if_neg (by omega)
theorem gt1_01 (i : Nat) (x : Int) : 0 ≤ gt1 i x ∧ gt1 i x ≤ 1 := by
  unfold gt1
  split <;> omega
theorem over_sum (i : Nat) : ∀ ns : List Int, over i ns = (ns.map (gt1 i)).sum
  | [] => rfl
  | x :: r => by
    have ih := over_sum i r
    unfold over at ih ⊢
    rw [List.filter_cons, List.map_cons, List.sum_cons, ← ih]
    unfold gt1
    by_cases hx : (i : Int) < x
    · rw [if_pos (by simpa using hx), if_pos hx, List.length_cons]
      omega
    · rw [if_neg (by simpa using hx), if_neg hx]
      omega
theorem turn_sum {ns : List Int} (h : Fall ns) (i : Nat) {n : Nat} (hn : 12 ≤ n) : (turnM ns).getD i 0 = ((List.range n).map fun k => gt1 i (ns.getD k 0)).sum := by
  have := h.len
  rw [getD_turn h, over_sum, sum_map_get _ (gt1_0 i) n ns (by omega)]
/-! ### all rows -/
def fallB (ns : List Int) : Bool := ns.all (fun x => decide (1 ≤ x)) && decide (ns.sum ≤ 12) && (List.range (ns.length - 1)).all fun i => decide (ns.getD (i + 1) 0 ≤ ns.getD i 0)
theorem fall_of {ns : List Int} (h : fallB ns = true) : Fall ns := by
  unfold fallB at h
  simp only [Bool.and_eq_true, List.all_eq_true, decide_eq_true_eq, List.mem_range] at h
  exact ⟨h.1.1, h.1.2, fun i hi => h.2 i (by omega)⟩
def chkR (n : Nat) (ns : List Int) : Bool := fallB ns && decide (ns.sum = (n : Int)) && (fallB (turnM ns) && decide (turnM (turnM ns) = ns) && decide ((turnM ns).sum = ns.sum))
theorem rows_chk : ((List.range 13).all fun n => (rows n n).all (chkR n)) = true := by decide +kernel
theorem rows_of {n : Nat} (hn : n ≤ 12) {ns : List Int} (h : ns ∈ rows n n) : chkR n ns = true := by
  have := rows_chk
  simp only [List.all_eq_true, List.mem_range] at this
  exact this n (by omega) ns h
theorem rows_fall {n : Nat} (hn : n ≤ 12) {ns : List Int} (h : ns ∈ rows n n) : Fall ns ∧ ns.sum = (n : Int) := by
  have := rows_of hn h
  unfold chkR at this
  simp only [Bool.and_eq_true, decide_eq_true_eq] at this
  exact ⟨fall_of this.1.1, this.1.2⟩
theorem mem_rows : ∀ (ns : List Int) (t g : Nat), (∀ x ∈ ns, 1 ≤ x) → (∀ i : Nat, i + 1 < ns.length → ns.getD (i + 1) 0 ≤ ns.getD i 0) → ns.getD 0 0 ≤ (g : Int) → ns.sum = (t : Int) → ns ∈ rows t g
  | [], t, g, hp, hd, hg, hs => by
    have : t = 0 := by simpa using hs.symm
    subst this
    exact List.mem_singleton.mpr rfl
  | x :: r, t, g, hp, hd, hg, hs => by
    have hx := hp x List.mem_cons_self
    have hr : ∀ y ∈ r, 1 ≤ y := fun y hy => hp y (List.mem_cons_of_mem _ hy)
    have h0 := sum_len hr
    rw [List.sum_cons] at hs
    have hgx : x ≤ (g : Int) := hg
    have ht : t ≠ 0 := by omega
    rw [rows_pos ht]
    refine List.mem_flatMap.mpr ⟨g - x.toNat, List.mem_range.mpr (by omega), ?_⟩
    unfold rowsAt
    rw [show g - (g - x.toNat) = x.toNat by omega, if_pos (by omega)]
    refine List.mem_map.mpr ⟨r, ?_, by rw [Int.toNat_of_nonneg (by omega)]⟩
    refine mem_rows r _ _ hr (fun i hi => hd (i + 1) (by rw [List.length_cons]; omega)) ?_ (by omega)
    cases r with
    | nil =>
      show (0 : Int) ≤ _
      omega
    | cons y q =>
      have := hd 0 (by simp)
      have e1 : (x :: y :: q).getD (0 + 1) 0 = y := rfl
      have e2 : (x :: y :: q).getD 0 0 = x := rfl
      have e3 : (y :: q).getD 0 0 = y := rfl
      rw [e1, e2] at this
      rw [e3]
      omega
theorem fall_in {ns : List Int} (h : Fall ns) {n : Nat} (hn : ns.sum = (n : Int)) : ns ∈ rows n n := by
  have := sum_len h.pos
  have h2 : ns.getD 0 0 ≤ (n : Int) := by
    cases ns with
    | nil =>
      show (0 : Int) ≤ _
      omega
    | cons x r =>
      rw [← hn]
      exact mem_sum h.pos x List.mem_cons_self
  exact mem_rows ns n n h.pos h.desc h2 hn
theorem turn_all {ns : List Int} (h : Fall ns) : Fall (turnM ns) ∧ turnM (turnM ns) = ns ∧ (turnM ns).sum = ns.sum := by
  have h0 := h.sum0
  have hs := h.sum
  have := rows_of (n := ns.sum.toNat) (by omega) (fall_in h (by omega))
  unfold chkR at this
  simp only [Bool.and_eq_true, decide_eq_true_eq] at this
  exact ⟨fall_of this.2.1.1, this.2.1.2, this.2.2⟩
theorem turn_fall {ns : List Int} (h : Fall ns) : Fall (turnM ns) := (turn_all h).1
theorem turn_back {ns : List Int} (h : Fall ns) : turnM (turnM ns) = ns := (turn_all h).2.1
def pairLtM (ns ms : List Int) : Bool := pairLt ns.sum ms.sum (ns.map fun x => -x) (ms.map fun x => -x)
theorem rows_desc : ∀ n, n < 13 → (rows n n).Pairwise (fun a b => pairLtM a b = true ∧ pairLtM b a = false) := by decide +kernel
section
variable {ns ms : List Int}
theorem held_iff (h : Fall ns) (g : Fall ms) : heldM ns ms = true ↔ ∀ i : Nat, ns.getD i 0 ≤ ms.getD i 0 := by
  unfold heldM
  rw [Bool.and_eq_true, decide_eq_true_eq, List.all_eq_true]
  constructor
  · rintro ⟨hl, hz⟩ i
    by_cases hi : i < ns.length
    · have hm : i < ms.length := by omega
      have hlen : i < (ns.zip ms).length := by rw [List.length_zip]; omega
      have := hz _ (List.getElem_mem hlen)
      rw [List.getElem_zip, decide_eq_true_eq] at this
      rw [List.getD_eq_getElem?_getD, List.getD_eq_getElem?_getD, List.getElem?_eq_getElem hi, List.getElem?_eq_getElem hm]
      exact this
    · rw [getD_big hi]
      exact (g.at i).1
  · intro q
    refine ⟨?_, fun p hp => ?_⟩
    · by_cases hl : ns.length ≤ ms.length
      · exact hl
      · have h1 := q ms.length
        have h2 := h.pos _ (getD_mem (i := ms.length) (by omega))
        rw [getD_big (ns := ms) (i := ms.length) (by omega)] at h1
        omega
    · obtain ⟨i, hi, rfl⟩ := List.getElem_of_mem hp
      have hi' := hi
      rw [List.length_zip] at hi'
      have := q i
      rw [List.getD_eq_getElem?_getD, List.getD_eq_getElem?_getD, List.getElem?_eq_getElem (show i < ns.length by omega), List.getElem?_eq_getElem (show i < ms.length by omega)] at this
      rw [List.getElem_zip, decide_eq_true_eq]
      exact this
theorem held_go (h : Fall ns) (g : Fall ms) (e : heldM ns ms = true) : heldM (turnM ns) (turnM ms) = true := by
  have q := (held_iff h g).mp e
  refine (held_iff (turn_fall h) (turn_fall g)).mpr fun i => ?_
  rw [turn_sum h i (Nat.le_refl _), turn_sum g i (Nat.le_refl _)]
  refine sum_le _ fun k _ => ?_
  have := q k
  unfold gt1
  split <;> split <;> omega
theorem bool_iff {a b : Bool} (h : a = true ↔ b = true) : a = b := by
  cases a <;> cases b <;> simp_all
theorem held_turn (h : Fall ns) (g : Fall ms) : heldM (turnM ns) (turnM ms) = heldM ns ms := bool_iff ⟨fun e => by
  have := held_go (turn_fall h) (turn_fall g) e
  rw [turn_back h, turn_back g] at this
  exact this, held_go h g⟩
theorem flat_iff (h : Fall ns) (g : Fall ms) : ((List.range ns.length).all fun i => decide (ns.getD i 0 - ms.getD i 0 ≤ 1)) = true ↔ ∀ i : Nat, ns.getD i 0 ≤ ms.getD i 0 + 1 := by
  rw [List.all_eq_true]
  constructor
  · intro q i
    by_cases hi : i < ns.length
    · have := of_decide_eq_true (q i (List.mem_range.mpr hi))
      omega
    · rw [getD_big hi]
      have := (g.at i).1
      omega
  · intro q i _
    have := q i
    exact decide_eq_true (by omega)
theorem line_iff (h : Fall ns) (g : Fall ms) : ((List.range (ns.length - 1)).all fun i => decide (ns.getD (i + 1) 0 ≤ ms.getD i 0)) = true ↔ ∀ i : Nat, ns.getD (i + 1) 0 ≤ ms.getD i 0 := by
  rw [List.all_eq_true]
  constructor
  · intro q i
    by_cases hi : i + 1 < ns.length
    · exact of_decide_eq_true (q i (List.mem_range.mpr (by omega)))
    · rw [getD_big hi]
      exact (g.at i).1
  · intro q i _
    exact decide_eq_true (q i)
theorem flat_turn (h : Fall ns) (g : Fall ms) : lineB (turnM ns) (turnM ms) = flatB ns ms := by
  unfold lineB flatB
  rw [held_turn g h]
  congr 1
  refine bool_iff ⟨fun e => (flat_iff h g).mpr fun i => ?_, fun e => (line_iff (turn_fall h) (turn_fall g)).mpr fun i => ?_⟩
  · have q := (line_iff (turn_fall h) (turn_fall g)).mp e
    have h1 := turn_sum (turn_fall h) i (n := 13) (by omega)
    have h2 := turn_sum (turn_fall g) i (n := 12) (by omega)
    rw [turn_back h, List.range_succ_eq_map, List.map_cons, List.sum_cons, List.map_map] at h1
    rw [turn_back g] at h2
    rw [h1, h2]
    have h3 := (gt1_01 i ((turnM ns).getD 0 0)).2
    have h4 : ((List.range 12).map ((fun k => gt1 i ((turnM ns).getD k 0)) ∘ Nat.succ)).sum ≤ ((List.range 12).map fun k => gt1 i ((turnM ms).getD k 0)).sum := by
      refine sum_le _ fun k _ => ?_
      have := q k
      show gt1 i ((turnM ns).getD (k + 1) 0) ≤ _
      unfold gt1
      split <;> split <;> omega
    omega
  · have q := (flat_iff h g).mp e
    rw [turn_sum h (i + 1) (Nat.le_refl _), turn_sum g i (Nat.le_refl _)]
    refine sum_le _ fun k _ => ?_
    have := q k
    unfold gt1
    split <;> split <;> omega
end
/-! ### the turned flat steps, sorted, are the line steps over the turned kind -/
theorem rows_nodup {n : Nat} (hn : n ≤ 12) : (rows n n).Nodup := (rows_desc n (by omega)).imp fun h z => by
  rw [z] at h
  rw [h.1] at h
  cases h.2
theorem rows_tri {n : Nat} (hn : n ≤ 12) {a b : List Int} (ha : a ∈ rows n n) (hb : b ∈ rows n n) (h1 : pairLtM a b = false) (h2 : pairLtM b a = false) : a = b := by
  obtain ⟨i, hi, rfl⟩ := List.getElem_of_mem ha
  obtain ⟨j, hj, rfl⟩ := List.getElem_of_mem hb
  have q := List.pairwise_iff_getElem.mp (rows_desc n (by omega))
  rcases Nat.lt_trichotomy i j with c | c | c
  · rw [(q i j hi hj c).1] at h1
    cases h1
  · subst c
    rfl
  · rw [(q j i hj hi c).1] at h2
    cases h2
theorem sorted_lines {n : Nat} (hn : n ≤ 12) {ns : List Int} (h : Fall ns) {zs : List (List Int)} (hp : zs.Perm (((rows n n).filter fun r => flatB r ns).map turnM)) (hs : zs.Pairwise fun a b => pairLtM b a = false) : zs = (rows n n).filter fun r => lineB r (turnM ns) := by
  have mem : ∀ r, r ∈ ((rows n n).filter fun r => flatB r ns).map turnM ↔ r ∈ (rows n n).filter fun r => lineB r (turnM ns) := fun r => by
    rw [List.mem_map, List.mem_filter]
    constructor
    · rintro ⟨x, hx, rfl⟩
      obtain ⟨x1, x2⟩ := List.mem_filter.mp hx
      obtain ⟨f1, f2⟩ := rows_fall hn x1
      exact ⟨fall_in (turn_fall f1) (by rw [(turn_all f1).2.2, f2]), by rw [flat_turn f1 h]; exact x2⟩
    · rintro ⟨x1, x2⟩
      obtain ⟨f1, f2⟩ := rows_fall hn x1
      refine ⟨turnM r, List.mem_filter.mpr ⟨fall_in (turn_fall f1) (by rw [(turn_all f1).2.2, f2]), ?_⟩, turn_back f1⟩
      rw [← flat_turn (turn_fall f1) h, turn_back f1]
      exact x2
  have nd1 : (((rows n n).filter fun r => flatB r ns).map turnM).Nodup := by
    refine List.pairwise_map.mpr (((rows_nodup hn).filter _).imp_of_mem fun {a b} ha hb ne e => ne ?_)
    have fa := (rows_fall hn (List.mem_filter.mp ha).1).1
    have fb := (rows_fall hn (List.mem_filter.mp hb).1).1
    rw [← turn_back fa, ← turn_back fb, e]
  have p : (((rows n n).filter fun r => flatB r ns).map turnM).Perm ((rows n n).filter fun r => lineB r (turnM ns)) := (List.perm_ext_iff_of_nodup nd1 ((rows_nodup hn).filter _)).mpr mem
  have pz := hp.trans p
  refine List.Perm.eq_of_pairwise (le := fun a b => pairLtM b a = false) (fun a b ha hb h1 h2 => rows_tri hn (List.mem_filter.mp (pz.mem_iff.mp ha)).1 (List.mem_filter.mp hb).1 h2 h1) hs (((rows_desc n (by omega)).filter _).imp fun q => q.2) pz
/-- a flat step has fewer companions than sixty-four -/
theorem flats_few : ∀ n, n < 13 → ∀ s, s < 13 → ((5 ≤ s ∨ n < 12) → ∀ ns ∈ rows s s, ((rows n n).filter fun r => flatB r ns).length < 64) := by
  have h1 : ∀ n, n < 12 → (rows n n).length < 64 := by decide +kernel
  have h2 : ∀ s, s < 13 → 5 ≤ s → ∀ ns ∈ rows s s, ((rows 12 12).filter fun r => flatB r ns).length < 64 := by decide +kernel
  intro n hn s hs h ns hm
  rcases Nat.lt_or_ge n 12 with q | q
  · exact Nat.lt_of_le_of_lt (List.length_filter_le _ _) (h1 n q)
  · obtain rfl : n = 12 := by omega
    exact h2 s hs (h.resolve_right (by omega)) ns hm
/-! ### opposites -/
theorem filt_get : ∀ (l : List Int), (∀ x ∈ l, 0 ≤ x) → (∀ i : Nat, l.getD (i + 1) 0 ≤ l.getD i 0) → ∀ i : Nat, (l.filter fun x => decide (0 < x)).getD i 0 = l.getD i 0
  | [], _, _, _ => rfl
  | x :: r, h0, hd, i => by
    have hx := h0 x List.mem_cons_self
    have hr : ∀ y ∈ r, 0 ≤ y := fun y hy => h0 y (List.mem_cons_of_mem _ hy)
    have hdr : ∀ i : Nat, r.getD (i + 1) 0 ≤ r.getD i 0 := fun i => hd (i + 1)
    rw [List.filter_cons]
    by_cases hp : 0 < x
    · rw [if_pos (decide_eq_true hp)]
      cases i with
      | zero => rfl
      | succ i => exact filt_get r hr hdr i
    · have x0 : x = 0 := by omega
      subst x0
      rw [if_neg (by simp)]
      have z : ∀ k : Nat, r.getD k 0 = 0 := fun k => by
        have le : ∀ k : Nat, r.getD k 0 ≤ 0 := fun k => by
          induction k with
          | zero => exact hd 0
          | succ k ih => exact Int.le_trans (hdr k) ih
        have ge : 0 ≤ r.getD k 0 := by
          by_cases hk : k < r.length
          · exact hr _ (getD_mem hk)
          · rw [getD_big hk]
            omega
        have := le k
        omega
      rw [filt_get r hr hdr i, z i]
      cases i with
      | zero => rfl
      | succ i => exact (z i).symm
theorem filt_sum : ∀ (l : List Int), (∀ x ∈ l, 0 ≤ x) → (l.filter fun x => decide (0 < x)).sum = l.sum
  | [], _ => rfl
  | x :: r, h0 => by
    have hx := h0 x List.mem_cons_self
    have ih := filt_sum r fun y hy => h0 y (List.mem_cons_of_mem _ hy)
    rw [List.filter_cons]
    by_cases hp : 0 < x
    · rw [if_pos (decide_eq_true hp), List.sum_cons, List.sum_cons, ih]
    · rw [if_neg (by simpa using hp), List.sum_cons, ih]
      omega
def isOut (ns : List Int) (wide : Nat) (high : Int) : Bool := decide ((wide : Int) < ns.length) || decide (high < ns.getD 0 0)
theorem not_out {ns : List Int} {w : Nat} {h : Int} (e : isOut ns w h = false) : ns.length ≤ w ∧ ns.getD 0 0 ≤ h := by
  unfold isOut at e
  rw [Bool.or_eq_false_iff, decide_eq_false_iff_not, decide_eq_false_iff_not] at e
  omega
theorem out_not {ns : List Int} {w : Nat} {h : Int} (h1 : ns.length ≤ w) (h2 : ns.getD 0 0 ≤ h) : isOut ns w h = false := by
  unfold isOut
  rw [Bool.or_eq_false_iff, decide_eq_false_iff_not, decide_eq_false_iff_not]
  omega
abbrev oppL (ns : List Int) (w : Nat) (h : Int) : List Int := (List.range w).map fun i => h - ns.getD (w - 1 - i) 0
theorem oppL_get (ns : List Int) (w : Nat) (h : Int) (i : Nat) : (oppL ns w h).getD i 0 = if i < w then h - ns.getD (w - 1 - i) 0 else 0 := by
  by_cases hi : i < w
  · rw [if_pos hi, List.getD_eq_getElem?_getD, List.getElem?_map, List.getElem?_range hi]
    rfl
  · rw [if_neg hi, getD_big (by rw [List.length_map, List.length_range]; exact hi)]
theorem fall_anti {ns : List Int} (h : Fall ns) {i j : Nat} (hij : i ≤ j) : ns.getD j 0 ≤ ns.getD i 0 := by
  obtain ⟨k, rfl⟩ : ∃ k, j = i + k := ⟨j - i, by omega⟩
  clear hij
  induction k with
  | zero => exact Int.le_refl _
  | succ k ih => exact Int.le_trans (h.down _) ih
section
variable {ns ms : List Int} {w : Nat} {h : Int}
theorem oppL_pos (F : Fall ns) (e : isOut ns w h = false) : ∀ x ∈ oppL ns w h, 0 ≤ x := fun x hx => by
  obtain ⟨i, _, rfl⟩ := List.mem_map.mp hx
  have := F.headI (w - 1 - i)
  have := (not_out e).2
  omega
theorem oppL_desc (F : Fall ns) (e : isOut ns w h = false) (i : Nat) : (oppL ns w h).getD (i + 1) 0 ≤ (oppL ns w h).getD i 0 := by
  rw [oppL_get, oppL_get]
  have q := (not_out e).2
  by_cases h1 : i + 1 < w
  · rw [if_pos h1, if_pos (by omega)]
    have := fall_anti F (show w - 1 - (i + 1) ≤ w - 1 - i by omega)
    omega
  · rw [if_neg h1]
    by_cases h2 : i < w
    · rw [if_pos h2]
      have := F.headI (w - 1 - i)
      omega
    · rw [if_neg h2]
      exact Int.le_refl _
theorem opp_get (F : Fall ns) (e : isOut ns w h = false) (i : Nat) : (oppM ns w h).getD i 0 = if i < w then h - ns.getD (w - 1 - i) 0 else 0 := by
  rw [← oppL_get]
  exact filt_get _ (oppL_pos F e) (oppL_desc F e) i
theorem perm_sum {a b : List Int} (h : a.Perm b) : a.sum = b.sum := by
  induction h with
  | nil => rfl
  | cons x _ ih => rw [List.sum_cons, List.sum_cons, ih]
  | swap x y l =>
    simp only [List.sum_cons]
    omega
  | trans _ _ h1 h2 => rw [h1, h2]
theorem sum_sub (f : Nat → Int) (c : Int) : ∀ k : List Nat, (k.map fun i => c - f i).sum = (k.length : Int) * c - (k.map f).sum
  | [] => by simp
  | x :: r => by
    rw [List.map_cons, List.map_cons, List.sum_cons, List.sum_cons, sum_sub f c r, List.length_cons, Int.natCast_add, Int.add_mul]
    omega
theorem opp_sum (F : Fall ns) (e : isOut ns w h = false) : (oppM ns w h).sum = (w : Int) * h - ns.sum := by
  have h1 : (oppM ns w h).sum = (oppL ns w h).sum := filt_sum _ (oppL_pos F e)
  rw [h1]
  unfold oppL
  rw [sum_sub (fun i => ns.getD (w - 1 - i) 0) h, List.length_range]
  congr 1
  have h2 : ((List.range w).map fun i => ns.getD (w - 1 - i) 0) = ((List.range w).reverse).map fun i => ns.getD i 0 := by
    rw [range_rev, List.map_map]
    rfl
  rw [h2, perm_sum ((List.reverse_perm _).map _)]
  have h3 := sum_map_get (fun x => x) rfl w ns (not_out e).1
  rw [List.map_id'] at h3
  exact h3.symm
theorem opp_fall (F : Fall ns) (e : isOut ns w h = false) (hs : (w : Int) * h - ns.sum ≤ 12) : Fall (oppM ns w h) := by
  refine ⟨fun x hx => ?_, by rw [opp_sum F e]; exact hs, fun i _ => ?_⟩
  · have := of_decide_eq_true (List.mem_filter.mp hx).2
    omega
  · have := oppL_desc F e i
    rw [oppL_get, oppL_get] at this
    rw [opp_get F e, opp_get F e]
    exact this
theorem opp_in (F : Fall ns) (e : isOut ns w h = false) (h0 : 0 ≤ h) : isOut (oppM ns w h) w h = false := by
  refine out_not ?_ ?_
  · refine Nat.le_trans (List.length_filter_le _ _) ?_
    rw [List.length_map, List.length_range]
    exact Nat.le_refl _
  · rw [opp_get F e]
    split
    · have := (F.at (w - 1 - 0)).1
      omega
    · exact h0
theorem opp_back (F : Fall ns) (e : isOut ns w h = false) (h0 : 0 ≤ h) (hs : (w : Int) * h - ns.sum ≤ 12) : oppM (oppM ns w h) w h = ns := by
  have F1 := opp_fall F e hs
  have e1 := opp_in F e h0
  have s1 := opp_sum F e
  have := F.sum
  refine fall_ext (opp_fall F1 e1 (by omega)) F fun i => ?_
  rw [opp_get F1 e1]
  by_cases hi : i < w
  · rw [if_pos hi, opp_get F e, if_pos (by omega), show w - 1 - (w - 1 - i) = i by omega]
    omega
  · rw [if_neg hi, getD_big (by have := (not_out e).1; omega)]
theorem opp_held (F : Fall ns) (G : Fall ms) (e : isOut ns w h = false) (e2 : isOut ms w h = false) (hs : (w : Int) * h - ns.sum ≤ 12) (hs2 : (w : Int) * h - ms.sum ≤ 12) (hh : heldM ms ns = true) : heldM (oppM ns w h) (oppM ms w h) = true := by
  have q := (held_iff G F).mp hh
  refine (held_iff (opp_fall F e hs) (opp_fall G e2 hs2)).mpr fun i => ?_
  rw [opp_get F e, opp_get G e2]
  have := q (w - 1 - i)
  split <;> omega
theorem held_in (F : Fall ns) (G : Fall ms) (e : isOut ns w h = false) (hh : heldM ms ns = true) : isOut ms w h = false := by
  have q := (held_iff G F).mp hh
  obtain ⟨h1, h2⟩ := not_out e
  refine out_not ?_ (Int.le_trans (q 0) h2)
  unfold heldM at hh
  rw [Bool.and_eq_true, decide_eq_true_eq] at hh
  omega
theorem held_sum (F : Fall ns) (G : Fall ms) (hh : heldM ms ns = true) : ms.sum ≤ ns.sum := by
  have q := (held_iff G F).mp hh
  have h1 := F.len
  have h2 := G.len
  have a := sum_map_get (fun x => x) rfl 12 ns (by omega)
  have b := sum_map_get (fun x => x) rfl 12 ms (by omega)
  rw [List.map_id'] at a b
  rw [a, b]
  exact sum_le _ fun k _ => q k
theorem held_self (F : Fall ns) : heldM ns ns = true := (held_iff F F).mpr fun _ => Int.le_refl _
/-- the law's own -/
theorem opp_law (e : ns.length ≤ w) : ((ns ++ List.replicate (w - ns.length) 0).map fun x => h - x).reverse = oppL ns w h := by
  have e1 : ns ++ List.replicate (w - ns.length) 0 = (List.range w).map fun i => ns.getD i 0 := by
    refine ext_getD (by rw [List.length_append, List.length_replicate, List.length_map, List.length_range]; omega) fun i => ?_
    by_cases hi : i < ns.length
    · have e2 : ((List.range w).map fun i => ns.getD i 0).getD i 0 = ns.getD i 0 := by
        rw [List.getD_eq_getElem?_getD, List.getElem?_map, List.getElem?_range (by omega)]
        rfl
      rw [e2, List.getD_eq_getElem?_getD, List.getElem?_append_left hi, ← List.getD_eq_getElem?_getD]
    · rw [List.getD_eq_getElem?_getD, List.getElem?_append_right (by omega), List.getElem?_replicate]
      by_cases hw : i < w
      · rw [if_pos (by omega), List.getD_eq_getElem?_getD, List.getElem?_map, List.getElem?_range hw]
        show (0 : Int) = ns.getD i 0
        rw [getD_big hi]
      · rw [if_neg (by omega), getD_big (by rw [List.length_map, List.length_range]; exact hw)]
        rfl
  rw [e1, List.map_map, ← List.map_reverse, range_rev, List.map_map]
  rfl
end
end

/-! Kinds: what this law asks of the class. -/

section
open PySem PySem.Spec PyProof.Rows L2 Gd
section
variable {P : Program} {w : World} {K : PySem.W.Frag} {mg : Str → Option Value} {base : Heap} {f C t0 CT fT CR fR : Addr} {fd : FuncData}
theorem scRan : FnScope ["self"] ["self"] (defScope (cls 4)) := ⟨rfl, rfl, rfl, by decide +kernel, rfl, by decide +kernel, by decide +kernel⟩
theorem ok_rank (F : Fun K "rank" "Kind.rank" (cls 4) f fd) (T : Txt K mg) (Cl : KC K mg C) : FnOk P w K mg base CX0 1 f fd ["self"] (spGet K C fun _ ns => .int (ns.length : Int)) := by
  refine F.ok scRan (fun vs H Q E h => ?_) (fun cdv A outer s H vs Q E hr h => ?_)
  · obtain ⟨p, n, t, m, ns, rfl, _⟩ := h
    rfl
  · obtain ⟨p, n, t, m, ns, rfl, ⟨⟨dx, hp⟩, hn, ht, hm, hF⟩, k⟩ := h
    refine ⟨_, pss_one (ps_ret (pe_callB call_len_seq (by rfl) T.len PySem.boot_len (pa_cons (pe_fld (pv 0) rfl) pa_nil))), ?_⟩
    try dsimp only [cx_nox, cx_K]
    walk_at "rd"
    refine ⟨p, C, dx, _, _, rfl, hp, Cl.cl, Cl.noN, look1, ?_⟩
    walk_at "rd"
    refine ⟨n, _, rfl, .inr hn.sq, ?_⟩
    rw [List.length_map]
    exact k H (fun _ _ z => z)
theorem scHei : FnScope ["self"] ["self"] (defScope (cls 5)) := ⟨rfl, rfl, rfl, by decide +kernel, rfl, by decide +kernel, by decide +kernel⟩
theorem ok_height (F : Fun K "height" "Kind.height" (cls 5) f fd) (Cl : KC K mg C) (N : Def1 P w K mg base CX0 1 "number_at" ["row", "index"] (spNumAt K)) : FnOk P w K mg base CX0 2 f fd ["self"] (spGet K C fun _ ns => .int (ns.getD 0 0)) := by
  refine F.ok scHei (fun vs H Q E h => ?_) (fun cdv A outer s H vs Q E hr h => ?_)
  · obtain ⟨p, n, t, m, ns, rfl, _⟩ := h
    rfl
  · obtain ⟨p, n, t, m, ns, rfl, ⟨⟨dx, hp⟩, hn, ht, hm, hF⟩, k⟩ := h
    refine ⟨_, pss_one (ps_ret (pe_def N hr (by decide) (by rfl) (pa_cons (pe_fld (pv 0) rfl) (pa_cons pe_int pa_nil)))), ?_⟩
    try dsimp only [cx_nox, cx_K]
    walk_at "rd"
    refine ⟨p, C, dx, _, _, rfl, hp, Cl.cl, Cl.noN, look1, ?_⟩
    walk_at "rd"
    exact ⟨n, ns, 0, rfl, hn.sq, k H (fun _ _ z => z)⟩
theorem scHol : FnScope ["self", "other"] ["self", "other"] (defScope (cls 11)) := ⟨rfl, rfl, rfl, by decide +kernel, rfl, by decide +kernel, by decide +kernel⟩
/-- a promise of a method with another kind -/
def spTwo (K : PySem.W.Frag) (C : Addr) (B : List Int → List Int → Prop) (v : List Int → List Int → V) : Sp := fun vs H Q _ => ∃ (p n t m q n2 t2 m2 : Addr) (ns ms : List Int), vs = [.ref p, .ref q] ∧ KindAt K C H p n t m ns ∧ KindAt K C H q n2 t2 m2 ms ∧ B ns ms ∧ ∀ H', Ext H H' → Q (v ns ms) H'
theorem ok_holds (F : Fun K "holds" "Kind.holds" (cls 11) f fd) (Cl : KC K mg C) (Rk : Def1 P w K mg base CX0 1 "require_kind" ["value"] (spReqKind K C)) (N : Def1 P w K mg base CX0 1 "is_held" ["row", "other"] (spHeld K))
    (Pn : Pro1 P w K mg base 1 C "numbers" (spGet K C fun n _ => .ref n)) : FnOk P w K mg base CX0 3 f fd ["self", "other"] (spTwo K C (fun _ _ => True) fun ns ms => .bl (heldM ms ns)) := by
  refine F.ok scHol (fun vs H Q E h => ?_) (fun cdv A outer s H vs Q E hr h => ?_)
  · obtain ⟨p, n, t, m, q, n2, t2, m2, ns, ms, rfl, _⟩ := h
    rfl
  · obtain ⟨p, n, t, m, q, n2, t2, m2, ns, ms, rfl, hp, hq, _, k⟩ := h
    refine ⟨_, pss_cons (ps_expr (pe_def Rk hr (by decide) (by rfl) (pa_cons (pv 1) pa_nil)))
      (pss_one (ps_ret (pe_def N hr (by decide) (by rfl) (pa_cons (pe_pro1 Cl.cl Pn hr (by decide) (pv 1)) (pa_cons (pe_fld (pv 0) rfl) pa_nil))))), ?_⟩
    try dsimp only [cx_nox, cx_K]
    walk_at "rd"
    refine ⟨q, n2, t2, m2, ms, rfl, hq, ?_⟩
    walk_at "rd"
    obtain ⟨dy, hqi⟩ := hq.ins
    refine ⟨q, dy, _, rfl, hqi, q, n2, t2, m2, ms, rfl, hq, fun H1 e1 => ?_⟩
    walk_at "rd"
    obtain ⟨dx, hpi⟩ := (hp.ext e1).ins
    refine ⟨p, C, dx, _, _, rfl, hpi, Cl.cl, Cl.noN, look1, ?_⟩
    walk_at "rd"
    exact ⟨n2, n, ms, ns, rfl, (hq.ext e1).num.sq, (hp.ext e1).num.sq, hq.fall, hp.fall, fun H2 e2 => k H2 (Ext.trans e1 e2)⟩
/-! ### within -/
abbrev sReqWi : Stmt := top 14
theorem scReqWi : FnScope ["value", "low", "high"] ["value", "low", "high"] (defScope sReqWi) := ⟨rfl, rfl, rfl, by decide +kernel, rfl, by decide +kernel, by decide +kernel⟩
def spReqWi (K : PySem.W.Frag) : Sp := fun vs H Q _ => ∃ (i lo hi : Int), vs = [.int i, .int lo, .int hi] ∧ 0 ≤ lo ∧ hi ≤ 1000 ∧ lo ≤ i ∧ i ≤ hi ∧ Q .non H
theorem ok_reqWi (F : Fun K "require_within" "require_within" sReqWi f fd) (T : Txt K mg) (Wi : Def1 P w K mg base CX0 3 "is_within" ["value", "low", "high"] (spIsWithin K)) : FnOk P w K mg base CX0 4 f fd ["value", "low", "high"] (spReqWi K) := by
  refine F.ok scReqWi (fun vs H Q E h => ?_) (fun cdv A outer s H vs Q E hr h => ?_)
  · obtain ⟨i, lo, hi, rfl, _⟩ := h
    rfl
  · obtain ⟨i, lo, hi, rfl, h0, h1, h2, h3, k⟩ := h
    refine ⟨_, PSs.nox (pss_one (ps_if (pt_not (pt_val (pe_def Wi hr (by decide) (by rfl) (pa_cons (pv 0) (pa_cons (pv 1) (pa_cons (pv 2) pa_nil)))))) (pss_one ps_never) pss_nil)), ?_⟩
    try dsimp only [cx_nox, cx_K]
    have big : (1000 : Int) < 10 ^ 60 := by decide +kernel
    walk_at "rd"
    refine ⟨_, lo, hi, true, rfl, by omega, by omega, .inl ⟨i, rfl, (decide_eq_true ⟨h2, h3⟩).symm⟩, ?_⟩
    walk_at "rd"
    exact k
abbrev sReqSize : Stmt := top 34
theorem scReqSize : FnScope ["size"] ["size"] (defScope sReqSize) := ⟨rfl, rfl, rfl, by decide +kernel, rfl, by decide +kernel, by decide +kernel⟩
/-- how a size that is too great is refused -/
def TooBig (CT : Addr) (H : Hp) (E : XK) : Prop := ∀ H' d, Ext H H' → H' d = none → E (.ref CT) (some d) (upd H' d (.xd [(("limit" : Str), .int 12)]))
def spReqSize (CT : Addr) : Sp := fun vs H Q E => ∃ i : Int, vs = [.int i] ∧ (i ≤ 12 → Q .non H) ∧ (12 < i → TooBig CT H E)
theorem ok_reqSize (F : Fun K "require_size" "require_size" sReqSize f fd) (Cl : KC K mg C) (N : PySem.XTooMany.TooManyTxt K mg CT fT) : FnOk P w K mg base (L2.CX P w) 3 f fd ["size"] (spReqSize CT) := by
  obtain ⟨tM, gM⟩ := Cl.most
  refine F.okX scReqSize (fun vs H Q E h => ?_) (fun cdv A outer s H vs Q E hr h => ?_)
  · obtain ⟨i, rfl, _⟩ := h
    rfl
  · obtain ⟨i, rfl, k1, k2⟩ := h
    refine ⟨_, pss_one (ps_if (pt_cmpR op_gt (pv 0) (pe_glob (v := .int 12) (by rfl) gM ⟨_, rfl⟩) (nomark _)) (pss_one (ps_raiseTooMany rfl N hr (takes_of rfl rfl rfl rfl) (by exact (pa_cons (pe_glob (v := .int 12) (by rfl) gM ⟨_, rfl⟩) pa_nil)))) pss_nil), ?_⟩
    try dsimp only [cx_nox, cx_K]
    walk_at "rd"
    refine ite2 (fun h1 => ?_) (fun h1 => ?_)
    · have h2 := of_decide_eq_true h1
      walk_at "rd"
      refine ⟨_, rfl, fun d hd => ?_⟩
      exact k2 h2 H d (fun _ _ z => z) hd
    · walk_at "rd"
      exact k1 (by
        have : ¬ 12 < i := fun z => h1 (decide_eq_true z)
        omega)
theorem TooBig.ext {H H' : Hp} {E : XK} (e : Ext H H') (h : TooBig CT H E) : TooBig CT H' E := fun H2 d e2 hd => h H2 d (Ext.trans e e2) hd
/-! ### < -/
theorem scLtk : FnScope ["self", "other"] ["self", "other"] (defScope (cls 20)) := ⟨rfl, rfl, rfl, by decide +kernel, rfl, by decide +kernel, by decide +kernel⟩
theorem ok_lt (F : Fun K "__lt__" "Kind.__lt__" (cls 20) f fd) (T : Txt K mg) (Cl : KC K mg C) : FnOk P w K mg base CX0 4 f fd ["self", "other"] (spTwo K C (fun _ _ => True) fun ns ms => .bl (pairLtM ns ms)) := by
  refine F.ok scLtk (fun vs H Q E h => ?_) (fun cdv A outer s H vs Q E hr h => ?_)
  · obtain ⟨p, n, t, m, q, n2, t2, m2, ns, ms, rfl, _⟩ := h
    rfl
  · obtain ⟨p, n, t, m, q, n2, t2, m2, ns, ms, rfl, ⟨⟨dx, hp⟩, hn, ht, hm, hF⟩, ⟨⟨dy, hq⟩, hn2, ht2, hm2, hF2⟩, _, k⟩ := h
    refine ⟨_, PSs.nox (pss_cons (ps_if (pt_not (pt_val (pe_callB call_isi (by rfl) T.isinstance (by decide +kernel) (pa_cons (pv 1) (pa_cons (pe_glob (v := .ref C) (by rfl) Cl.g rfl) pa_nil))))) (pss_one ps_never) pss_nil)
      (pss_one (ps_ret (pe_cmpR (op_ltP (lt66 hr)) (pe_fld (pv 0) rfl) (pe_fld (pv 1) rfl) (nomark _))))), ?_⟩
    try dsimp only [cx_nox, cx_K]
    walk_at "rd"
    refine ⟨_, _, _, _, true, rfl, .own C, Cl.ty hq, Cl.kit, ?_⟩
    walk_at "rd"
    refine ⟨p, C, dx, _, _, rfl, hp, Cl.cl, Cl.noP, look2, ?_⟩
    walk_at "rd"
    refine ⟨q, C, dy, _, _, rfl, hq, Cl.cl, Cl.noP, look2, ?_⟩
    exact ⟨t, t2, m, m2, _, _, _, _, rfl, rfl, ht, ht2, hm, hm2, k H (fun _ _ z => z)⟩
/-! ### the opposite -/
theorem mulS {a b : Int} (h0 : 0 ≤ a) (h1 : a ≤ 1000) (h2 : 0 ≤ b) (h3 : b ≤ 1000) : CMul a b := by
  first
    | exact .inr ⟨by omega, by omega⟩
    | exact .inl ⟨by omega, by omega⟩
    | exact ⟨by omega, by omega⟩
/-- how a block that is too small is refused -/
def Outside (K : PySem.W.Frag) (CR : Addr) (H : Hp) (E : XK) : Prop := ∀ H' d a, Ext H H' → H' d = none → SqT K H' a [.str "outside"] → E (.ref CR) (some d) (upd H' d (.xd [(("reason" : Str), .ref a)]))
theorem Outside.ext {H H' : Hp} {E : XK} (e : Ext H H') (h : Outside K CR H E) : Outside K CR H' E := fun H2 d a e2 hd => h H2 d a (Ext.trans e e2) hd
theorem scOppK : FnScope ["self", "wide", "high"] ["self", "wide", "high"] (defScope (cls 15)) := ⟨rfl, rfl, rfl, by decide +kernel, rfl, by decide +kernel, by decide +kernel⟩
def spOppK (K : PySem.W.Frag) (C CT CR : Addr) : Sp := fun vs H Q E => ∃ (p n t m : Addr) (ns : List Int) (wide : Nat) (high : Int), vs = [.ref p, .int (wide : Int), .int high] ∧ KindAt K C H p n t m ns ∧ wide ≤ 12 ∧ 0 ≤ high ∧ high ≤ 12 ∧
  (isOut ns wide high = true → Outside K CR H E) ∧ (isOut ns wide high = false → (12 < (wide : Int) * high - ns.sum → TooBig CT H E) ∧ ((wide : Int) * high - ns.sum ≤ 12 → ∀ H' p' n' t' m', Ext H H' → KindAt K C H' p' n' t' m' (oppM ns wide high) → Q (.ref p') H'))
theorem ok_oppK (F : Fun K "opposite" "Kind.opposite" (cls 15) f fd) (T : Txt K mg) (Cl : KC K mg C) (R : PySem.XRefused.RefusedTxt K mg CR fR) (Rw : Def1 P w K mg base CX0 4 "require_within" ["value", "low", "high"] (spReqWi K)) (Rs : Def1 P w K mg base (L2.CX P w) 3 "require_size" ["size"] (spReqSize CT)) (N : Def1 P w K mg base CX0 2 "opposite_row" ["row", "wide", "high"] (spOpp K))
    (Ps : Pro1 P w K mg base 1 C "size" (spGet K C fun _ ns => .int ns.sum)) (Pr : Pro1 P w K mg base 1 C "rank" (spGet K C fun _ ns => .int (ns.length : Int))) (Ph : Pro1 P w K mg base 2 C "height" (spGet K C fun _ ns => .int (ns.getD 0 0))) (I : Ini1 P w K mg base CX0 5 C t0 ["self", "numbers"] (spInit K C)) : FnOk P w K mg base (L2.CX P w) 7 f fd ["self", "wide", "high"] (spOppK K C CT CR) := by
  obtain ⟨tM, gM⟩ := Cl.most
  refine F.okX scOppK (fun vs H Q E h => ?_) (fun cdv A outer s H vs Q E hr h => ?_)
  · obtain ⟨p, n, t, m, ns, wide, high, rfl, _⟩ := h
    rfl
  · obtain ⟨p, n, t, m, ns, wide, high, rfl, hp, hw, h0, h1, k1, k2⟩ := h
    refine ⟨_, pss_cons (ps_expr (pe_def Rw hr (by decide) (by rfl) (pa_cons (pv 1) (pa_cons pe_int (pa_cons (pe_glob (v := .int 12) (by rfl) gM ⟨_, rfl⟩) pa_nil)))))
      (pss_cons (ps_expr (pe_def Rw hr (by decide) (by rfl) (pa_cons (pv 2) (pa_cons pe_int (pa_cons (pe_glob (v := .int 12) (by rfl) gM ⟨_, rfl⟩) pa_nil)))))
      (pss_cons (ps_if (PW.pt (pw_or (pt_cmpR op_gt (pe_pro1 Cl.cl Pr hr (by decide) (pv 0)) (pv 1) (nomark _)) (pw_or1 (pt_cmpR op_gt (pe_pro1 Cl.cl Ph hr (by decide) (pv 0)) (pv 2) (nomark _))))) (pss_one (ps_raiseRefused rfl R hr (takes_of rfl rfl rfl rfl) (by exact (pa_cons (pe_tup (pa_cons pe_str pa_nil)) pa_nil)))) pss_nil)
      (pss_cons (ps_expr (pe_defX Rs (passes_call (takes_of rfl rfl rfl rfl) (fun _ _ _ _ h => h)) hr (by decide) (by rfl) (pa_cons (pe_op op_sub (pe_op op_mul (pv 1) (pv 2)) (pe_pro1 Cl.cl Ps hr (by decide) (pv 0))) pa_nil)))
      (pss_one (ps_ret (pe_mk1 I pass0 hr (by decide) (by rfl) Cl.g (pa_cons (pe_def N hr (by decide) (by rfl) (pa_cons (pe_fld (pv 0) rfl) (pa_cons (pv 1) (pa_cons (pv 2) pa_nil)))) pa_nil))))))), ?_⟩
    try dsimp only [cx_nox, cx_K]
    walk_at "rd"
    have hlen := hp.fall.len
    have hs0 := hp.fall.sum0
    have hs1 := hp.fall.sum
    obtain ⟨dx, hpi⟩ := id hp.ins
    refine ⟨(wide : Int), 0, 12, rfl, by decide, by decide, by omega, by omega, ?_⟩
    walk_at "rd"
    refine ⟨high, 0, 12, rfl, by decide, by decide, h0, h1, ?_⟩
    walk_at "rd"
    refine ⟨p, dx, _, rfl, hpi, p, n, t, m, ns, rfl, hp, fun H1 e1 => ?_⟩
    walk_at "rd"
    refine ite2 (fun c1 => ?_) (fun c1 => ?_)
    · have o1 : isOut ns wide high = true := by
        unfold isOut
        rw [c1, Bool.true_or]
      walk_at "rd"
      unfold tRaiseRefused tMkRefused
      walk_at "rd"
      refine ⟨by show 1 ≤ sizeLine; decide, fun a ha => ?_⟩
      have ea := Ext.new (o := HO.tup [V.str ("outside" : Str)]) ha
      exact ⟨_, rfl, fun d hd => k1 o1 _ d a (Ext.trans e1 ea) hd (SqT.of upd_same)⟩
    obtain ⟨dx1, hpi1⟩ := id (hp.ext e1).ins
    walk_at "rd"
    refine ⟨p, dx1, _, rfl, hpi1, p, n, t, m, ns, rfl, hp.ext e1, fun H2 e2 => ?_⟩
    walk_at "rd"
    refine ite2 (fun c2 => ?_) (fun c2 => ?_)
    · have o1 : isOut ns wide high = true := by
        unfold isOut
        rw [c2, Bool.or_true]
      walk_at "rd"
      unfold tRaiseRefused tMkRefused
      walk_at "rd"
      refine ⟨by show 1 ≤ sizeLine; decide, fun a ha => ?_⟩
      have ea := Ext.new (o := HO.tup [V.str ("outside" : Str)]) ha
      exact ⟨_, rfl, fun d hd => k1 o1 _ d a (Ext.trans (Ext.trans e1 e2) ea) hd (SqT.of upd_same)⟩
    have o1 : isOut ns wide high = false := by
      unfold isOut
      rw [Bool.eq_false_iff.mpr c1, Bool.eq_false_iff.mpr c2]
      rfl
    walk_at "rd"
    refine g_I (mulS (by omega) (by omega) h0 (by omega)) ?_
    have hp2 := (hp.ext e1).ext e2
    obtain ⟨dx2, hpi2⟩ := id hp2.ins
    walk_at "rd"
    refine ⟨p, dx2, _, rfl, hpi2, p, n, t, m, ns, rfl, hp2, fun H3 e3 => ?_⟩
    walk_at "rd"
    have e13 := Ext.trans e1 (Ext.trans e2 e3)
    obtain ⟨k3, k4⟩ := k2 o1
    refine ⟨_, rfl, fun h12 => ?_, fun h12 => TooBig.ext e13 (k3 h12)⟩
    walk_at "rd"
    refine g_make ?_
    walk_at "rd"
    have hp3 := hp2.ext e3
    obtain ⟨dx3, hpi3⟩ := id hp3.ins
    refine ⟨p, C, dx3, _, _, rfl, hpi3, Cl.cl, Cl.noN, look1, ?_⟩
    walk_at "rd"
    refine ⟨n, ns, wide, high, rfl, hp3.num.sq, hp.fall, hw, h0, h1, fun H4 u e4 hu => ?_⟩
    walk_at "rd"
    exact g_mk2 hu (opp_fall hp.fall o1 h12) fun H' p' n' t' m' e hk => k4 h12 H' p' n' t' m' (Ext.trans e13 (Ext.trans e4 e)) hk
end
end

/-! A lambda handed to the def that tells its errors. -/

section
open PySem PySem.Spec PyProof.Rows L2 Gd
open LamX (Tabs TabB ExtN GivesTo CodeO tLam)
abbrev sMet : Stmt := top 46
theorem scMet : FnScope ["_law_call", "e"] ["_law_call"] (defScope sMet) := ⟨rfl, rfl, rfl, by decide +kernel, rfl, by decide +kernel, by decide +kernel⟩
/-- what a word and a shown value make -/
def SaysV (K : PySem.W.Frag) (H : Hp) (w : Str) (r : V) (y : Str) : Prop := ∃ t : Str, ShowV K H r t ∧ w.length + t.length ≤ sizeLine ∧ y = w ++ t
/-- told of a call: what it is refused with, or that it is fine -/
def TMet (K : PySem.W.Frag) (CI CO CN CR CT : Addr) : (XK → Hp → VK → Prop) → Hp → VK → Prop := fun tl H Q =>
  tl (fun cls d H' => (cls = .ref CI ∧ d = none ∧ Q (.str "kind") H') ∨ (cls = .ref CO ∧ Q (.str "operation") H') ∨
      (cls = .ref CN ∧ ∃ dd r y, d = some dd ∧ H' dd = some (.xd [(("value" : Str), r)]) ∧ SaysV K H' "number " r y ∧ Q (.str y) H') ∨
      (cls = .ref CR ∧ ∃ dd r y, d = some dd ∧ H' dd = some (.xd [(("reason" : Str), r)]) ∧ SaysV K H' "refused " r y ∧ Q (.str y) H') ∨
      (cls = .ref CT ∧ ∃ dd r y, d = some dd ∧ H' dd = some (.xd [(("limit" : Str), r)]) ∧ SaysV K H' "many " r y ∧ Q (.str y) H'))
    H (fun _ H1 => Q (.str "fine") H1)
theorem takes_lenM {X : Cx} {W : WX} (t : Takes X W) : Takes X (fun cls d σ H => σ.length = X.N.length → W cls d σ H) := fun u s' ⟨a, B, sI, pins, σ, H, cls, d, e, I, nb, up, sky, na, os, ag, w⟩ =>
  t u s' ⟨a, B, sI, pins, σ, H, cls, d, e, I, nb, up, sky, na, os, ag, w I.len⟩
/-- the def that tells errors, and what its clauses ask -/
structure Met (K : PySem.W.Frag) (mg : Str → Option Value) (CK CI CO CN CR CT : Addr) : Prop where
  at_ : ∃ (f : Addr) (fd : FuncData), DefAt K mg "_law_met" sMet ["_law_call"] f fd
  ni : OwnX K mg "InvalidKind" CI
  no : OwnX K mg "InvalidOperation" CO
  n : ∃ fN, PySem.XInvalidNumber.InvalidNumberTxt K mg CN fN
  r : ∃ fR, PySem.XRefused.RefusedTxt K mg CR fR
  m : ∃ fT, PySem.XTooMany.TooManyTxt K mg CT fT
  nOI : PySem.W.exmOne K (.ref CO) (.ref CI) = some false
  nNI : PySem.W.exmOne K (.ref CN) (.ref CI) = some false
  nNO : PySem.W.exmOne K (.ref CN) (.ref CO) = some false
  nRI : PySem.W.exmOne K (.ref CR) (.ref CI) = some false
  nRO : PySem.W.exmOne K (.ref CR) (.ref CO) = some false
  nRN : PySem.W.exmOne K (.ref CR) (.ref CN) = some false
  nTI : PySem.W.exmOne K (.ref CT) (.ref CI) = some false
  nTO : PySem.W.exmOne K (.ref CT) (.ref CO) = some false
  nTN : PySem.W.exmOne K (.ref CT) (.ref CN) = some false
  nTR : PySem.W.exmOne K (.ref CT) (.ref CR) = some false
  eI : ExcC K CI
  eN : ExcC K CN
  gK : mg "KindsError" = some (.ref CK)
  k1 : PySem.W.kitOne K (.ref CI) (.ref CK) = some true
  k2 : PySem.W.kitOne K (.ref CI) (.type "ValueError") = some true
  k3 : PySem.W.kitOne K (.ref CN) (.type "IndexError") = some true
  zi : mg "isinstance" = none
  zr : mg "repr" = none
  zv : mg "ValueError" = none
  zx : mg "IndexError" = none
theorem met_gives {X : Cx} {CK CI CO CN CR CT fN fR fT g : Addr} {cdg : Value} {q : Str} (R : Met X.K X.mg CK CI CO CN CR CT) (N : PySem.XInvalidNumber.InvalidNumberTxt X.K X.mg CN fN) (RR : PySem.XRefused.RefusedTxt X.K X.mg CR fR) (M : PySem.XTooMany.TooManyTxt X.K X.mg CT fT) (hg : NoG X.A) (hu : X.A.units + 100 < cLine) :
    GivesTo X ["_law_call", "e"] "_law_met" (defScope sMet) g cdg (defBody sMet) "_law_call" q (TMet X.K CI CO CN CR CT) := by
  intro f c' s H Q tl act hc h
  have hu64 : X.A.units + 3 + 64 < cLine := by omega
  refine ⟨_, pss_cons (ps_try_mix (X := (cxOf C8.CX0 X.prog X.w X.K X.mg X.base ["_law_call", "e"] "_law_met" (defScope sMet) g cdg X.A X.stack s H C8.E0).nox) (i := 1)
      (tb := fun W D σ H => ∃ Ech : XK, (∀ cls d σ' H', σ'.length = 2 → Ech cls d H' → W cls d σ' H') ∧ σ[0]? = some (some (.ref f)) ∧ H c' = some (CodeO c' q) ∧ tl Ech H fun _ H1 => D.nx σ H1)
      (Wo := fun _ _ _ _ => False) rfl rfl scMet.nd rfl rfl L2.takes0 (fun W pn xe tk _ => ?_)
      (MixOk.named (c := .ref CI) ⟨rfl, by decide, Or.inl R.ni.gC⟩ (fun a oe cls d pn hz hf => pss_one (ps_ret (pe_ifExp (PW.pt (pw_and (pt_val (pe_callB (call_isX R.eI hz hf) (by rfl) R.zi (by decide +kernel) (pa_cons (pv 1) (pa_cons (pe_glob (v := .ref CK) (by rfl) R.gK rfl) pa_nil))))
            (pw_and1 (pt_val (pe_callB (call_isX R.eI hz hf) (by rfl) R.zi (by decide +kernel) (pa_cons (pv 1) (pa_cons (pe_bltn (v := .ty "ValueError") (by rfl) R.zv (by decide +kernel) rfl) pa_nil))))))) pe_str pe_str)))
        (MixOk.plain (c := .ref CO) ⟨rfl, by decide, Or.inl R.no.gC⟩ (fun a oe cls d pn hz hf => pss_one (ps_ret pe_str))
          (MixOk.named (c := .ref CN) ⟨rfl, by decide, Or.inl N.gC⟩ (fun a oe cls d pn hz hf => pss_one (ps_ret (pe_ifExp (pt_val (pe_callB (call_isX R.eN hz hf) (by rfl) R.zi (by decide +kernel) (pa_cons (pv 1) (pa_cons (pe_bltn (v := .ty "IndexError") (by rfl) R.zx (by decide +kernel) rfl) pa_nil))))
              (pe_op op_add_str pe_str (pe_callB (show CallR ((cxOf C8.CX0 X.prog X.w X.K X.mg X.base ["_law_call", "e"] "_law_met" (defScope sMet) g cdg X.A X.stack s H C8.E0).nox.suite a ((a, oe) :: pn)) (.builtin "repr") (rReprV X.K) from call_reprV hg hu64) (by rfl) R.zr (by decide +kernel) (pa_cons (pe_byInvalidNumber N hz hf (pv 1)) pa_nil))) pe_str)))
            (MixOk.named (c := .ref CR) ⟨rfl, by decide, Or.inl RR.gC⟩ (fun a oe cls d pn hz hf => pss_one (ps_ret (pe_op op_add_str pe_str (pe_callB (show CallR ((cxOf C8.CX0 X.prog X.w X.K X.mg X.base ["_law_call", "e"] "_law_met" (defScope sMet) g cdg X.A X.stack s H C8.E0).nox.suite a ((a, oe) :: pn)) (.builtin "repr") (rReprV X.K) from call_reprV hg hu64) (by rfl) R.zr (by decide +kernel) (pa_cons (pe_byRefused RR hz hf (pv 1)) pa_nil)))))
              (MixOk.named (c := .ref CT) ⟨rfl, by decide, Or.inl M.gC⟩ (fun a oe cls d pn hz hf => pss_one (ps_ret (pe_op op_add_str pe_str (pe_callB (show CallR ((cxOf C8.CX0 X.prog X.w X.K X.mg X.base ["_law_call", "e"] "_law_met" (defScope sMet) g cdg X.A X.stack s H C8.E0).nox.suite a ((a, oe) :: pn)) (.builtin "repr") (rReprV X.K) from call_reprV hg hu64) (by rfl) R.zr (by decide +kernel) (pa_cons (pe_byTooMany M hz hf (pv 1)) pa_nil))))) MixOk.nil))))))
      (pss_one (ps_ret pe_str)), ?_⟩
  · constructor
    intro pins s' σ H' D I h'
    obtain ⟨Ech, hW, h1, h2, h3⟩ := h'
    exact (pss_one (ps_expr (act _ pn xe Ech _ _ (takes_lenM tk) fun cls d σ' H' z l => hW cls d σ' H' l z))).run pins s' σ H' D I ⟨h1, h2, h3⟩
  · refine ⟨_, fun cls d σ' H' l k => ?_, rfl, hc, h⟩
    obtain ⟨x, y, rfl⟩ : ∃ x y, σ' = [x, y] := by
      cases σ' with
      | nil => simp at l
      | cons x r =>
        cases r with
        | nil => simp at l
        | cons y r =>
          cases r with
          | nil => exact ⟨x, y, rfl⟩
          | cons _ _ => simp at l
    have no : ∀ {P : Prop}, true = false → P := fun z => Bool.noConfusion z
    have no2 : ∀ {P : Prop}, false = true → P := fun z => Bool.noConfusion z
    rcases k with ⟨rfl, rfl, k⟩ | ⟨rfl, k⟩ | ⟨rfl, dd, r, y, rfl, e, ⟨t, hs, hl, rfl⟩, k⟩ | ⟨rfl, dd, r, y, rfl, e, ⟨t, hs, hl, rfl⟩, k⟩ | ⟨rfl, dd, r, y, rfl, e, ⟨t, hs, hl, rfl⟩, k⟩
    · refine ⟨true, R.ni.te, fun _ a _ => ?_, no⟩
      walk_at "rd"
      refine ⟨rfl, .inl ⟨rfl, _, _, true, rfl, fun u z => z, R.k1, ?_⟩⟩
      walk_at "rd"
      refine ⟨rfl, .inl ⟨rfl, _, _, true, rfl, fun u z => z, R.k2, ?_⟩⟩
      walk_at "rd"
      exact k
    · exact ⟨false, R.nOI, no2, fun _ => ⟨true, R.no.te, fun _ a _ => k, no⟩⟩
    · refine ⟨false, R.nNI, no2, fun _ => ⟨false, R.nNO, no2, fun _ => ⟨true, N.te, fun _ a _ => ?_, no⟩⟩⟩
      walk_at "rd"
      refine ⟨rfl, .inr ⟨dd, rfl, _, _, true, _, rfl, fun u z => z, e, R.k3, ?_⟩⟩
      walk_at "rd"
      refine ⟨_, rfl, rfl, rfl, dd, r, rfl, e, ?_⟩
      walk_at "rd"
      refine ⟨r, t, rfl, hs, ?_⟩
      exact ⟨_, _, rfl, rfl, hl, k⟩
    · refine ⟨false, R.nRI, no2, fun _ => ⟨false, R.nRO, no2, fun _ => ⟨false, R.nRN, no2, fun _ => ⟨true, RR.te, fun _ a _ => ?_, no⟩⟩⟩⟩
      walk_at "rd"
      refine ⟨_, rfl, rfl, rfl, dd, r, rfl, e, ?_⟩
      walk_at "rd"
      refine ⟨r, t, rfl, hs, ?_⟩
      exact ⟨_, _, rfl, rfl, hl, k⟩
    · refine ⟨false, R.nTI, no2, fun _ => ⟨false, R.nTO, no2, fun _ => ⟨false, R.nTN, no2, fun _ => ⟨false, R.nTR, no2, fun _ => ⟨true, M.te, fun _ a _ => ?_, no⟩⟩⟩⟩⟩
      walk_at "rd"
      refine ⟨_, rfl, rfl, rfl, dd, r, rfl, e, ?_⟩
      walk_at "rd"
      refine ⟨r, t, rfl, hs, ?_⟩
      exact ⟨_, _, rfl, rfl, hl, k⟩
section
variable {CK CI CO CN CR CT : Addr}
/-- _law_met(lambda: body) -/
theorem pe_met {X : Cx} {T : List (Addr × Str)} {c Pt : Addr} {params : Arguments} {body : Expr} {scope : Scope} {t : XK → TE} {p lpos pos : Pos} {k : Nat} (hgl : Gl X "_law_met") (R : Met X.K X.mg CK CI CO CN CR CT) (hg : NoG X.A)
    (TB : TabB X.base X.mg c Pt) (hcode : X.env.code = .ref c) (hmT : (Pt, X.env.qual ++ "<lambda>") ∈ T) (hu : ∀ p ∈ T, p.1 = Pt → p.2 = X.env.qual ++ "<lambda>") (hr : Room (k + 3) X.A) (L : LamX.LamS X.env.scope scope) (hdef : defaultsOf params X.env = ([], []))
    (hbind : ∀ (q : Str) (cl : List (Str × Addr)) (pm cv ctv : Value), bindArgs (PySem.W.kla_fn "<lambda>" q params body scope cl pm cv ctv) ⟨[], []⟩ = pure [])
    (hbody : ∀ (A : Around) (outer : List Env) (s : Shared) (H : Hp) (E : XK) (f c' : Addr), Room (k + 1) (A.deeper (LamX.lamEnv X scope s.heap.objs.size f c')) → PE (LamX.lamCx X A outer s H E scope f c') body (t E)) :
    PE X (.Call (.Name "_law_met" p) [.Lambda params body scope lpos] [] pos) (tLam T (TMet X.K CI CO CN CR CT) t) := by
  obtain ⟨g, fdg, Rf⟩ := R.at_
  obtain ⟨fN, RN⟩ := R.n
  obtain ⟨fR, RR⟩ := R.r
  obtain ⟨fT, RM⟩ := R.m
  have hkp := Rf.F.kp
  have hbi := Rf.b
  obtain ⟨oc, od, kV, doc, pm, an, cdv, ct, osl, rfl, lk, hcd⟩ := Rf.F.ex
  exact LamX.pe_lamcall (k := k + 1) (Ng := ["_law_call", "e"]) hgl Rf.g hkp lk hcd hbi scMet rfl (Or.inl rfl) (met_gives R RN RR RM hg (by have := hr.un; omega)) TB hcode hmT hu hr L hdef hbind hbody
theorem g_lamM {T : List (Addr × Str)} {TT : (XK → Hp → VK → Prop) → Hp → VK → Prop} {t : XK → TE} {σ : L2.St} {H : Hp} {Q : VK} (hT : Tabs T H) (k : ∀ H1, ExtN H H1 → Tabs T H1 → TT (fun E H' Q' => t E σ H' Q') H1 Q) : tLam T TT t σ H Q := ⟨hT, k⟩
end
end

/-! Lists of rows and of kinds. -/

section
open PySem PySem.Spec PyProof.Rows L2 Gd
theorem dice_keepsX {H H' : Hp} {d : Addr} (hd : DiceAt H d) (e : ExtBut d H H') : Keeps H H' := by
  obtain ⟨_, _, _, q, _⟩ := hd
  exact keeps_but (.inr q) e
theorem sqT_keepsX {K : PySem.W.Frag} {H H' : Hp} {a : Addr} {xs : List V} (e : Keeps H H') (h : SqT K H a xs) : SqT K H' a xs := by
  rcases h with (h | ⟨o, h⟩) | h
  · exact .inl (.inl (e _ _ (fun _ z => by cases z) h))
  · exact .inl (.inr ⟨o, e _ _ (fun _ z => by cases z) h⟩)
  · exact .inr h
theorem kindAt_keeps {K : PySem.W.Frag} {C : Addr} {H H' : Hp} {q n t m : Addr} {ns : List Int} (e : Keeps H H') (h : KindAt K C H q n t m ns) : KindAt K C H' q n t m ns := by
  obtain ⟨⟨dy, h1⟩, h2, h3, h4, h5⟩ := h
  exact ⟨⟨dy, e _ _ (fun _ z => by cases z) h1⟩, TupX.keeps e h2, sqT_keepsX e h3, sqT_keepsX e h4, h5⟩
/-- a kind with the numbers ns -/
def KO (K : PySem.W.Frag) (C : Addr) (H : Hp) (v : V) (ns : List Int) : Prop := ∃ p n t m, v = .ref p ∧ KindAt K C H p n t m ns
theorem KO.keeps {K : PySem.W.Frag} {C : Addr} {H H' : Hp} (e : Keeps H H') {v : V} {ns : List Int} (h : KO K C H v ns) : KO K C H' v ns := by
  obtain ⟨p, n, t, m, rfl, h⟩ := h
  exact ⟨p, n, t, m, rfl, kindAt_keeps e h⟩
theorem KO.ext {K : PySem.W.Frag} {C : Addr} {H H' : Hp} (e : Ext H H') {v : V} {ns : List Int} (h : KO K C H v ns) : KO K C H' v ns := h.keeps (Keeps.of e)
abbrev KOs (K : PySem.W.Frag) (C : Addr) (H : Hp) (vs : List V) (xss : List (List Int)) : Prop := Paired (KO K C H) vs xss
theorem kos_ext {K : PySem.W.Frag} {C : Addr} {H H' : Hp} (e : Ext H H') {vs : List V} {xss : List (List Int)} (h : KOs K C H vs xss) : KOs K C H' vs xss := Paired.mapP h fun _ _ z => z.ext e
section
variable {K : PySem.W.Frag} {σ : L2.St} {H1 : Hp} {vs : List Nat} {g : TG} {tt : TT} {te : TE} {Q : VK} {α β : Type} {xs : List V} {as : List α} {a : Addr}
theorem rel_pair {R : Hp → V → β → Prop} {z : α} {c : α → Bool} {f : α → β} {ys : List V} {H' : Hp} {n : Nat} (hn : n = as.length) (hr : Rel (fun i y H => R H y (f (as.getD i z))) (idx (fun i => c (as.getD i z)) n) ys H') : Paired (R H') ys ((as.filter c).map f) := by
  rw [hn] at hr
  rw [← idx_items' as z c f]
  refine pair_of (by rw [List.length_map]; exact hr.1.symm) fun j y b hy hb => ?_
  rw [List.getElem?_map] at hb
  obtain ⟨i, hi, rfl⟩ := Option.map_eq_some_iff.mp hb
  exact hr.2 j i y hi hy
/-- a comprehension over a list that is told item by item, whose results are told too -/
theorem lcPL (hs : SqL K H1 a xs) (hn : xs.length = as.length) (sz : xs.length < sizeLine) (z : α) (c : α → Bool) (f : α → β) (R : Hp → V → β → Prop) (mono : ∀ H H' y b, Keeps H H' → R H y b → R H' y b)
    (body : ∀ (i : Nat) x y H', xs[i]? = some x → as[i]? = some y → Ext H1 H' → ∀ (Qe : VK) (Qn : Hp → Prop), (∀ v H3, Ext H' H3 → c y = true → R H3 v (f y) → Qe v H3) → (∀ H3, Ext H' H3 → c y = false → Qn H3) →
      g x (wipe σ vs) H' fun σ2 H2 => wipe σ2 vs = wipe σ vs ∧ tt σ2 H2 fun b H3 => if b = true then te σ2 H3 Qe else Qn H3)
    (k : ∀ H' D ys, Ext H1 H' → H1 D = none → H' D = some (.lst ys) → Paired (R H') ys ((as.filter c).map f) → Q (.ref D) H') :
    ∃ a', V.ref a = .ref a' ∧ (∃ xs, SqL K H1 a' xs) ∧ LcG (Itl K a') g tt te vs σ H1 Q := by
  refine ⟨a, rfl, ⟨_, hs⟩, fun D hD => lc_rel walk_list (fun i y H => R H y (f (as.getD i z))) (fun i => c (as.getD i z)) (fun i y D ys H H' hd e r => mono H H' y _ (keeps_but hd e) r) hD (fun H' e => sqL_ext e hs) sz (fun i x H' H'' hi e hy Qe Qn he hn2 => ?_) (fun H' ys e hd hr => ?_)⟩
  · obtain ⟨rfl, hx⟩ := hy
    have hi' : i < as.length := by omega
    have ex : as.getD i z = as[i] := by rw [List.getD_eq_getElem?_getD, List.getElem?_eq_getElem hi']; rfl
    exact body i x as[i] _ hx (List.getElem?_eq_getElem hi') e Qe Qn (fun v H3 e3 hc r => he v H3 e3 (by rw [ex]; exact r) (by rw [ex]; exact hc)) (fun H3 e3 hc => hn2 H3 e3 (by rw [ex]; exact hc))
  · exact k H' D ys e hD hd (rel_pair hn hr)
theorem lcPT (hs : SqT K H1 a xs) (hn : xs.length = as.length) (sz : xs.length < sizeLine) (z : α) (c : α → Bool) (f : α → β) (R : Hp → V → β → Prop) (mono : ∀ H H' y b, Keeps H H' → R H y b → R H' y b)
    (body : ∀ (i : Nat) x y H', xs[i]? = some x → as[i]? = some y → Ext H1 H' → ∀ (Qe : VK) (Qn : Hp → Prop), (∀ v H3, Ext H' H3 → c y = true → R H3 v (f y) → Qe v H3) → (∀ H3, Ext H' H3 → c y = false → Qn H3) →
      g x (wipe σ vs) H' fun σ2 H2 => wipe σ2 vs = wipe σ vs ∧ tt σ2 H2 fun b H3 => if b = true then te σ2 H3 Qe else Qn H3)
    (k : ∀ H' D ys, Ext H1 H' → H1 D = none → H' D = some (.lst ys) → Paired (R H') ys ((as.filter c).map f) → Q (.ref D) H') :
    ∃ a', V.ref a = .ref a' ∧ (∃ xs, SqT K H1 a' xs) ∧ LcG (Itt K a') g tt te vs σ H1 Q := by
  refine ⟨a, rfl, ⟨_, hs⟩, fun D hD => lc_rel walk_tup (fun i y H => R H y (f (as.getD i z))) (fun i => c (as.getD i z)) (fun i y D ys H H' hd e r => mono H H' y _ (keeps_but hd e) r) hD (fun H' e => sqT_ext e hs) sz (fun i x H' H'' hi e hy Qe Qn he hn2 => ?_) (fun H' ys e hd hr => ?_)⟩
  · obtain ⟨rfl, hx⟩ := hy
    have hi' : i < as.length := by omega
    have ex : as.getD i z = as[i] := by rw [List.getD_eq_getElem?_getD, List.getElem?_eq_getElem hi']; rfl
    exact body i x as[i] _ hx (List.getElem?_eq_getElem hi') e Qe Qn (fun v H3 e3 hc r => he v H3 e3 (by rw [ex]; exact r) (by rw [ex]; exact hc)) (fun H3 e3 hc => hn2 H3 e3 (by rw [ex]; exact hc))
  · exact k H' D ys e hD hd (rel_pair hn hr)
end
/-! ### rows compared -/
def rdata (xss : List (List Int)) : List PyData := xss.map fun xs => .tuple (pdata xs)
theorem rdpX {K : PySem.W.Frag} {H : Hp} : ∀ {fs : List V} {xss : List (List Int)}, RXs K H fs xss → DpAll K H fs (rdata xss)
  | _, _, .nil => .nil
  | _, _, .cons h t => by
    obtain ⟨b, rfl, hb⟩ := h
    exact .cons (.tup hb.sq (pdp _)) (rdpX t)
theorem reqv : ∀ xss yss : List (List Int), PyData.eqvAll (rdata xss) (rdata yss) = decide (xss = yss)
  | [], [] => rfl
  | [], y :: ys => rfl
  | x :: xs, [] => rfl
  | x :: xs, y :: ys => by
    have ih := reqv xs ys
    unfold rdata at ih ⊢
    simp only [List.map_cons, PyData.eqvAll, PyData.eqv, peqv, ih]
    by_cases h1 : x = y
    · by_cases h2 : xs = ys
      · simp [h1, h2]
      · simp [h1, h2]
    · simp [h1]
theorem pdepth : ∀ ns : List Int, PyData.depthAll (pdata ns) = 0
  | [] => rfl
  | n :: ns => by
    have ih := pdepth ns
    unfold pdata at ih ⊢
    simp [PyData.depthAll, PyData.depth, ih]
theorem rdepth : ∀ xss : List (List Int), PyData.depthAll (rdata xss) ≤ 1
  | [] => Nat.zero_le _
  | x :: xs => by
    have ih := rdepth xs
    unfold rdata at ih ⊢
    simp only [List.map_cons, PyData.depthAll, PyData.depth, pdepth]
    omega
theorem rlay : ∀ xss : List (List Int), PyData.canLayAll0 (rdata xss) = true
  | [] => rfl
  | x :: xs => by
    have ih := rlay xs
    unfold rdata at ih ⊢
    simp only [List.map_cons, PyData.canLayAll0, PyData.canLay0, play, ih]
    rfl
theorem sh_rl (xss : List (List Int)) : SeqAt.shaped (.list (rdata xss)) = true := by
  have h : PyData.depth (.list (rdata xss)) ≤ 64 := by
    have := rdepth xss
    show PyData.depthAll (rdata xss) + 1 ≤ 64
    omega
  show (PyData.canLayAll0 (rdata xss) && decide (PyData.depth (.list (rdata xss)) ≤ 64)) = true
  rw [rlay, Bool.true_and]
  exact decide_eq_true h
section
variable {K : PySem.W.Frag} {H : Hp} {Q : VK} {a b : Addr} {fs gs : List V} {xss yss : List (List Int)}
theorem g_neRX (ha : SqL K H a fs) (hb : SqL K H b gs) (h1 : RXs K H fs xss) (h2 : RXs K H gs yss) (k : Q (.bl (!decide (xss = yss))) H) : rNeD K (.ref a) (.ref b) H Q := by
  refine ⟨_, _, .lst ha (rdpX h1), .lst hb (rdpX h2), sh_rl _, sh_rl _, ?_⟩
  have e : PyData.eqv (.list (rdata xss)) (.list (rdata yss)) = decide (xss = yss) := by
    simp only [PyData.eqv, reqv]
  rw [e]
  exact k
end
section
variable {K : PySem.W.Frag} {C : Addr}
theorem look_no {x : Str} {u t : V} (h1 : (x == ("_numbers" : Str)) = false) (h2 : (x == ("_place" : Str)) = false) : ([(("_numbers" : Str), u), (("_place" : Str), t)] : List (Str × V)).lookup x = none := by
  simp [List.lookup, h1, h2]
theorem g_me {m : Str} {sp : Sp} {dvs : List V} {E : XK} {ta : TE} {t : TA} {σ : L2.St} {H : Hp} {Q : VK} (k : ta σ H fun x H1 => ∃ a dx fs, x = .ref a ∧ H1 a = some (.ins C dx fs) ∧ fs.lookup m = none ∧ t σ H1 fun vs H2 => sp (x :: (vs ++ dvs)) H2 Q E) : tMeth C m sp dvs E ta t σ H Q := k
theorem g_gets {v : Addr → List Int → V} {E : XK} {H : Hp} {Q : VK} {p n t m : Addr} {ns : List Int} (hP : KindAt K C H p n t m ns) (k : ∀ H', Ext H H' → Q (v n ns) H') :
    ∃ a dx fs, V.ref p = .ref a ∧ H a = some (.ins C dx fs) ∧ spGet K C v (.ref a :: []) H Q E := by
  obtain ⟨dx, hp⟩ := id hP.ins
  exact ⟨p, dx, _, rfl, hp, p, n, t, m, ns, rfl, hP, k⟩
theorem g_obj {m : Str} {A : V → Prop} {H : Hp} {p n t m' : Addr} {ns : List Int} (hP : KindAt K C H p n t m' ns) (h1 : (m == ("_numbers" : Str)) = false) (h2 : (m == ("_place" : Str)) = false) (k : A (.ref p)) :
    ∃ a dx fs, V.ref p = .ref a ∧ H a = some (.ins C dx fs) ∧ fs.lookup m = none ∧ A (.ref p) := by
  obtain ⟨dx, hp⟩ := id hP.ins
  exact ⟨p, dx, _, rfl, hp, look_no h1 h2, k⟩
theorem of_len4V {us : List (Option V)} (hl : us.length = 4) : ∃ a b c d, us = [a, b, c, d] := by
  cases us with
  | nil => simp at hl
  | cons a r =>
    cases r with
    | nil => simp at hl
    | cons b r =>
      cases r with
      | nil => simp at hl
      | cons c r =>
        cases r with
        | nil => simp at hl
        | cons d r =>
          cases r with
          | nil => exact ⟨a, b, c, d, rfl⟩
          | cons _ _ => simp at hl
end
end

/-! Values that are no falling rows, no kinds, no integers. -/

section
open PySem PySem.Spec PyProof.Rows L2 Gd
section
variable {P : Program} {w : World} {K : PySem.W.Frag} {mg : Str → Option Value} {base : Heap} {f C CI CN CR CT t0 : Addr} {fd : FuncData}
/-- what is no falling row -/
inductive NotRow (K : PySem.W.Frag) (H : Hp) : V → Prop
  | kd {x : V} {t : Value} (h : TyX K H x t) (hk : PySem.W.kitOne K t (.type "tuple") = some false) : NotRow K H x
  | od {a : Addr} {vs : List V} {bs : List Bool} (h : SqT K H a vs) (hl : vs.length ≤ 100) (all : Paired (fun v b => ∀ H', Ext H H' → WithB K H' v 1 12 b) vs bs) (bad : false ∈ bs) : NotRow K H (.ref a)
  | nm {a : Addr} {ns : List Int} (h : SqT K H a (ns.map V.int)) (hl : ns.length ≤ 100) (all : ∀ n ∈ ns, 1 ≤ n ∧ n ≤ 12) (bad : 12 < ns.sum ∨ ∃ i : Nat, i + 1 < ns.length ∧ ns.getD i 0 < ns.getD (i + 1) 0) : NotRow K H (.ref a)
theorem pair_eqX {β : Type} {g : β → V} : ∀ {ys : List V} {L : List β}, Paired (fun v b => v = g b) ys L → ys = L.map g
  | _, _, .nil => rfl
  | _, _, .cons h t => by rw [List.map_cons, ← h, ← pair_eqX t]
theorem scNotFall : FnScope ["value", "most", "number", "i"] ["value", "most"] (defScope sFalling) := ⟨rfl, rfl, rfl, by decide +kernel, rfl, by decide +kernel, by decide +kernel⟩
def spNotFall (K : PySem.W.Frag) : Sp := fun vs H Q _ => ∃ x : V, vs = [x, .int 12] ∧ NotRow K H x ∧ ∀ H', Ext H H' → Q (.bl false) H'
theorem ok_notFall (F : Fun K "is_falling" "is_falling" sFalling f fd) (T : Txt K mg) (Wi : Def1 P w K mg base CX0 3 "is_within" ["value", "low", "high"] (spIsWithin K)) : FnOk P w K mg base CX0 4 f fd ["value", "most"] (spNotFall K) := by
  refine F.ok scNotFall (fun vs H Q E h => ?_) (fun cdv A outer s H vs Q E hr h => ?_)
  · obtain ⟨x, rfl, _⟩ := h
    rfl
  · obtain ⟨x, rfl, hx, k⟩ := h
    refine ⟨_, pss_cons (ps_if (PW.pt (pw_or (pt_not (pt_val (pe_callB call_isi (by rfl) T.isinstance (by decide +kernel) (pa_cons (pv 0) (pa_cons (pe_bltn (v := .ty "tuple") (by rfl) T.tuple (by decide +kernel) rfl) pa_nil))))) (pw_or1 (pt_not (pt_val (pe_callB (cr_all rfl) (by rfl) T.all (by decide +kernel) (pa_cons (pe_lc (own := [("number", 2)]) (g := gName 2) (tt := tYes) rfl scNotFall.nd (pi_tup (pv 0)) (blkOk_by (N := ["value", "most", "number", "i"]) (sc := defScope sFalling) (by decide +kernel)) (fun _ _ _ _ _ => pg_name (i := 2) scNotFall.nd rfl (Or.inl rfl)) (fun _ _ _ _ _ => pts_nil) (fun _ _ _ _ _ => (pe_def Wi hr (by decide) (by rfl) (pa_cons (pv 2) (pa_cons pe_int (pa_cons (pv 1) pa_nil)))))) pa_nil))))))) (pss_one (ps_ret pe_bl)) pss_nil)
      (pss_one (ps_ret (pe_and (pe_cmpR op_le (pe_callB (call_sumS rfl) (by rfl) T.sum (by decide +kernel) (pa_cons (pv 0) pa_nil)) (pv 1) (nomark _)) (pe_one (pe_callB (cr_all rfl) (by rfl) T.all (by decide +kernel) (pa_cons (pe_lc (own := [("i", 3)]) (g := gName 3) (tt := tYes) rfl scNotFall.nd (pi_range2 (by rfl) T.range (pa_cons pe_int (pa_cons (pe_callB call_len_seq (by rfl) T.len PySem.boot_len (pa_cons (pv 0) pa_nil)) pa_nil))) (blkOk_by (N := ["value", "most", "number", "i"]) (sc := defScope sFalling) (by decide +kernel)) (fun _ _ _ _ _ => pg_name (i := 3) scNotFall.nd rfl (Or.inl rfl)) (fun _ _ _ _ _ => pts_nil) (fun _ _ _ _ _ => (pe_cmpR op_le (pe_ix (r := rIxT K) ix_tup (pv 0) (pv 3) (fun _ _ => rfl)) (pe_ix (r := rIxT K) ix_tup (pv 0) (pe_op op_sub (pv 3) pe_int) (fun _ _ => rfl)) (nomark _)))) pa_nil)))))), ?_⟩
    try dsimp only [cx_nox, cx_K]
    cases hx with
    | kd h hk =>
      walk_at "rd"
      refine ⟨_, _, _, _, false, rfl, .ty _, h, hk, ?_⟩
      walk_at "rd"
      exact k H (fun _ _ z => z)
    | @od a vs bs h hl all bad =>
      walk_at "rd"
      refine ⟨_, _, _, _, true, rfl, .ty _, tyT h, by kernel_rfl, ?_⟩
      walk_at "rd"
      refine g_lc (g_itup ?_)
      walk_at "rd"
      have hb := pair_len all
      refine lcPT h hb (small (by omega)) true (fun _ => true) (fun b => b) (fun _ y b => y = V.bl b) (fun _ _ _ _ _ h => h) (fun i x b H' hx hb2 e Qe Qn he hn => ?_) (fun H1 D ys e1 hD hd hys => ?_)
      · obtain ⟨b', hb', hw⟩ := pair_at all i x hx
        obtain rfl : b' = b := Option.some.inj (hb'.symm.trans hb2)
        refine ⟨rfl, ?_⟩
        walk_at "rd"
        refine ⟨_, 1, 12, b', rfl, by decide, by decide, hw H' e, ?_⟩
        exact he _ _ (fun _ _ z => z) rfl rfl
      · rw [List.filter_eq_self.mpr (fun _ _ => rfl), List.map_id'] at hys
        walk_at "rd"
        refine ⟨D, _, rfl, SqL.of (by rw [hd, pair_eqX hys]), ?_⟩
        have all0 : (_ : List Bool).all id = false := List.all_eq_false.mpr ⟨false, bad, by simp⟩
        rw [all0]
        walk_at "rd"
        exact k H1 e1
    | @nm a ns h hl all bad =>
      walk_at "rd"
      refine ⟨_, _, _, _, true, rfl, .ty _, tyT h, by kernel_rfl, ?_⟩
      walk_at "rd"
      refine g_lc (g_itup ?_)
      walk_at "rd"
      refine lcT h (small (by rw [List.length_map]; omega)) (fun _ => true) (fun _ => .bl true) (fun x H' hx e Qe Qn he hn => ?_) (fun H1 D e1 hD hd => ?_)
      · obtain ⟨n, hn', rfl⟩ := List.mem_map.mp hx
        refine ⟨rfl, ?_⟩
        walk_at "rd"
        refine ⟨_, 1, 12, true, rfl, by decide, by decide, .inl ⟨n, rfl, (decide_eq_true (all n hn')).symm⟩, ?_⟩
        exact he _ (fun _ _ z => z) rfl
      · walk_at "rd"
        refine ⟨D, ns.map fun _ => true, rfl, SqL.of ?_, ?_⟩
        · rw [hd, List.filter_eq_self.mpr (fun _ _ => rfl), List.map_map, List.map_map]
          rfl
        have all0 : (ns.map fun _ => true).all id = true := by simp
        rw [all0]
        walk_at "rd"
        refine ⟨a, ns, rfl, .inr (sqT_ext e1 h), ?_⟩
        walk_at "rd"
        by_cases hs : ns.sum ≤ 12
        · obtain ⟨i0, hi0, hlt⟩ := bad.resolve_left (by omega)
          rw [decide_eq_true hs]
          walk_at "rd"
          refine g_lc (g_rng2 ?_)
          walk_at "rd"
          refine ⟨a, _, rfl, .inr (sqT_ext e1 h), ?_⟩
          walk_at "rd"
          rw [List.length_map]
          refine ⟨⟨by decide, by decide, by omega, by omega⟩, ?_⟩
          have en : ((ns.length : Int) - 1).toNat = ns.length - 1 := by omega
          rw [en]
          refine lcR (small (by omega)) (fun _ => true) (fun i => .bl (decide (ns.getD (i + 1) 0 ≤ ns.getD i 0))) (fun i H' hi e Qe Qn he hn => ?_) (fun H' D2 e hD2 hd2 => ?_)
          · have ei : (1 + (i : Int)) = ((i + 1 : Nat) : Int) := by omega
            rw [ei]
            refine ⟨rfl, ?_⟩
            walk_at "rd"
            refine g_ixT (sqT_ext e (sqT_ext e1 h)) (atI_nat (getI (i := i + 1) (by omega))) ?_
            walk_at "rd"
            have ej : (((i + 1 : Nat) : Int) - 1) = (i : Int) := by omega
            rw [ej]
            refine g_ixT (sqT_ext e (sqT_ext e1 h)) (atI_nat (getI (i := i) (by omega))) ?_
            walk_at "rd"
            exact he _ (fun _ _ z => z) rfl
          · rw [idx_all] at hd2
            walk_at "rd"
            refine ⟨D2, (List.range (ns.length - 1)).map fun i => decide (ns.getD (i + 1) 0 ≤ ns.getD i 0), rfl, SqL.of (by rw [hd2, List.map_map]; rfl), ?_⟩
            have all2 : ((List.range (ns.length - 1)).map fun i => decide (ns.getD (i + 1) 0 ≤ ns.getD i 0)).all id = false := by
              refine List.all_eq_false.mpr ⟨_, List.mem_map.mpr ⟨i0, List.mem_range.mpr (by omega), rfl⟩, ?_⟩
              rw [decide_eq_false (by omega)]
              simp
            rw [all2]
            exact k _ (Ext.trans e1 e)
        · rw [decide_eq_false hs]
          walk_at "rd"
          exact k _ e1
end
end

/-! The rows over a kind; its steps. -/

section
open PySem PySem.Spec PyProof.Rows L2 Gd
section
variable {P : Program} {w : World} {K : PySem.W.Frag} {mg : Str → Option Value} {base : Heap} {f C t0 CT : Addr} {fd : FuncData}
abbrev sRowsOver : Stmt := top 37
theorem scRowsOver : FnScope ["kind", "many"] ["kind", "many"] (defScope sRowsOver) := ⟨rfl, rfl, rfl, by decide +kernel, rfl, by decide +kernel, by decide +kernel⟩
def spRowsOver (K : PySem.W.Frag) (C : Addr) : Sp := fun vs H Q _ => ∃ (p n t m : Addr) (ns : List Int) (many N : Nat), vs = [.ref p, .int (many : Int)] ∧ KindAt K C H p n t m ns ∧ ns.sum + (many : Int) = (N : Int) ∧ N ≤ 12 ∧
  ∀ H' F fs, Ext H H' → H' F = some (.lst fs) → RXs K H' fs (rows N N) → Q (.ref F) H'
theorem ok_rowsOver (F : Fun K "rows_over" "rows_over" sRowsOver f fd) (T : Txt K mg) (Cl : KC K mg C) (Rk : Def1 P w K mg base CX0 1 "require_kind" ["value"] (spReqKind K C)) (Rw : Def1 P w K mg base CX0 4 "require_within" ["value", "low", "high"] (spReqWi K)) (Rs : Def1 P w K mg base (L2.CX P w) 3 "require_size" ["size"] (spReqSize CT))
    (Fr : Def1 P w K mg base CX0 14 "falling_rows" ["total", "greatest"] (spFR K 13)) (Ps : Pro1 P w K mg base 1 C "size" (spGet K C fun _ ns => .int ns.sum)) : FnOk P w K mg base CX0 15 f fd ["kind", "many"] (spRowsOver K C) := by
  obtain ⟨tM, gM⟩ := Cl.most
  refine F.ok scRowsOver (fun vs H Q E h => ?_) (fun cdv A outer s H vs Q E hr h => ?_)
  · obtain ⟨p, n, t, m, ns, many, N, rfl, _⟩ := h
    rfl
  · obtain ⟨p, n, t, m, ns, many, N, rfl, hp, hN, h12, k⟩ := h
    refine ⟨_, PSs.nox (pss_cons (ps_expr (pe_def Rk hr (by decide) (by rfl) (pa_cons (pv 0) pa_nil)))
      (pss_cons (ps_expr (pe_def Rw hr (by decide) (by rfl) (pa_cons (pv 1) (pa_cons pe_int (pa_cons (pe_glob (v := .int 12) (by rfl) gM ⟨_, rfl⟩) pa_nil)))))
      (pss_cons (ps_expr (pe_defX (E := X0) Rs (passes_call L2.takes0 (fun _ _ _ _ h => h)) hr (by decide) (by rfl) (pa_cons (pe_op op_add (pe_pro1 Cl.cl Ps hr (by decide) (pv 0)) (pv 1)) pa_nil)))
      (pss_one (ps_ret (pe_def Fr hr (by decide) (by rfl) (pa_cons (pe_op op_add (pe_pro1 Cl.cl Ps hr (by decide) (pv 0)) (pv 1)) (pa_cons (pe_op op_add (pe_pro1 Cl.cl Ps hr (by decide) (pv 0)) (pv 1)) pa_nil)))))))), ?_⟩
    try dsimp only [cx_nox, cx_K]
    have h0 := hp.fall.sum0
    obtain ⟨dx, hpi⟩ := id hp.ins
    walk_at "rd"
    refine ⟨p, n, t, m, ns, rfl, hp, ?_⟩
    walk_at "rd"
    refine ⟨(many : Int), 0, 12, rfl, by decide, by decide, by omega, by omega, ?_⟩
    walk_at "rd"
    refine ⟨p, dx, _, rfl, hpi, p, n, t, m, ns, rfl, hp, fun H1 e1 => ?_⟩
    walk_at "rd"
    refine ⟨_, rfl, fun _ => ?_, fun z => by omega⟩
    have hp1 := hp.ext e1
    obtain ⟨dx1, hpi1⟩ := id hp1.ins
    walk_at "rd"
    refine ⟨p, dx1, _, rfl, hpi1, p, n, t, m, ns, rfl, hp1, fun H2 e2 => ?_⟩
    walk_at "rd"
    have hp2 := hp1.ext e2
    obtain ⟨dx2, hpi2⟩ := id hp2.ins
    refine ⟨p, dx2, _, rfl, hpi2, p, n, t, m, ns, rfl, hp2, fun H3 e3 => ?_⟩
    walk_at "rd"
    exact ⟨N, N, by rw [hN]; rfl, by omega, h12, h12, fun H4 F fs e4 _ hF hfs => k H4 F fs (Ext.trans e1 (Ext.trans e2 (Ext.trans e3 e4))) hF hfs⟩
abbrev sFlats : Stmt := top 38
/-- the kinds over one that a test lets through, in their order -/
def spSteps (K : PySem.W.Frag) (C : Addr) (b : List Int → List Int → Bool) : Sp := fun vs H Q _ => ∃ (p n t m : Addr) (ns : List Int) (many N : Nat), vs = [.ref p, .int (many : Int)] ∧ KindAt K C H p n t m ns ∧ ns.sum + (many : Int) = (N : Int) ∧ N ≤ 12 ∧
  ∀ H' u ys, Ext H H' → TupX K H' u ys → KOs K C H' ys ((rows N N).filter fun r => b r ns) → Q (.ref u) H'
theorem rows_few {N : Nat} (h : N ≤ 12) : (rows N N).length < sizeLine := by
  have := rows_len N h N h
  exact small (by omega)
theorem scFlats : FnScope ["kind", "many", "rows", "row"] ["kind", "many"] (defScope sFlats) := ⟨rfl, rfl, rfl, by decide +kernel, rfl, by decide +kernel, by decide +kernel⟩
theorem ok_flats (F : Fun K "flats_over" "flats_over" sFlats f fd) (T : Txt K mg) (Cl : KC K mg C) (Ro : Def1 P w K mg base CX0 15 "rows_over" ["kind", "many"] (spRowsOver K C)) (St : Def1 P w K mg base CX0 2 "is_flat_step" ["row", "other"] (spFlat K))
    (Pn : Pro1 P w K mg base 1 C "numbers" (spGet K C fun n _ => .ref n)) (I : Ini1 P w K mg base CX0 5 C t0 ["self", "numbers"] (spInit K C)) : FnOk P w K mg base CX0 16 f fd ["kind", "many"] (spSteps K C flatB) := by
  refine F.ok scFlats (fun vs H Q E h => ?_) (fun cdv A outer s H vs Q E hr h => ?_)
  · obtain ⟨p, n, t, m, ns, many, N, rfl, _⟩ := h
    rfl
  · obtain ⟨p, n, t, m, ns, many, N, rfl, hp, hN, h12, k⟩ := h
    refine ⟨_, pss_cons (ps_set (i := 2) scFlats.nd rfl (Or.inl rfl) (pe_def Ro hr (by decide) (by rfl) (pa_cons (pv 0) (pa_cons (pv 1) pa_nil))))
      (pss_one (ps_ret (pe_callTy call_tupX (by rfl) T.tuple (by decide +kernel) (pa_cons (pe_lc (own := [("row", 3)]) (g := gName 3) rfl scFlats.nd (pi_list (pv 2)) (blkOk_by (N := ["kind", "many", "rows", "row"]) (sc := defScope sFlats) (by decide +kernel)) (fun _ _ _ _ _ => pg_name (i := 3) scFlats.nd rfl (Or.inl rfl)) (fun _ _ _ _ _ => pts_one (pt_val (pe_def St hr (by decide) (by rfl) (pa_cons (pv 3) (pa_cons (pe_pro1 Cl.cl Pn hr (by decide) (pv 0)) pa_nil))))) (fun _ _ _ _ _ => by exact (pe_mk1 I pass0 hr (by decide) (by rfl) Cl.g (pa_cons (pv 3) pa_nil)))) pa_nil)))), ?_⟩
    try dsimp only [cx_nox, cx_K]
    walk_at "rd"
    refine ⟨p, n, t, m, ns, many, N, rfl, hp, hN, h12, fun H1 Fa fs e1 hF hfs => ?_⟩
    walk_at "rd"
    refine g_lc (g_ilistC ?_)
    walk_at "rd"
    have hl := pair_len hfs
    refine lcPL (SqL.of hF) hl (by rw [hl]; exact rows_few h12) [] (fun r => flatB r ns) (fun r => r) (KO K C) (fun _ _ _ _ e r => r.keeps e) (fun i x r H2 hx hr2 e2 Qe Qn he hn => ?_) (fun H2 D ys e2 hD hd hys => ?_)
    · obtain ⟨r', hr', b, rfl, hb⟩ := pair_at hfs i x hx
      obtain rfl : r' = r := Option.some.inj (hr'.symm.trans hr2)
      have hFr := (rows_fall h12 (List.mem_of_getElem? hr')).1
      have hb2 := hb.ext e2
      have hp2 := (hp.ext e1).ext e2
      obtain ⟨dx, hpi⟩ := id hp2.ins
      refine ⟨rfl, ?_⟩
      walk_at "rd"
      refine ⟨p, dx, _, rfl, hpi, p, n, t, m, ns, rfl, hp2, fun H3 e3 => ?_⟩
      walk_at "rd"
      refine ⟨b, n, r', ns, rfl, (hb2.ext e3).sq, (hp2.ext e3).num.sq, hFr, hp.fall, fun H4 e4 => ?_⟩
      have e34 := Ext.trans e3 e4
      cases hc : flatB r' ns with
      | false => exact ⟨false, rfl, hn H4 e34 hc⟩
      | true =>
        refine ⟨true, rfl, ?_⟩
        rw [if_pos rfl]
        refine g_make ?_
        walk_at "rd"
        exact g_mk2 (hb2.ext e34) hFr fun H5 q n2 t2 m2 e5 hq => he _ H5 (Ext.trans e34 e5) hc ⟨q, n2, t2, m2, rfl, hq⟩
    · walk_at "rd"
      refine ⟨D, _, rfl, .inl ⟨SqL.of hd, fun l o hl ho => ?_⟩⟩
      have e3 := Ext.new (o := HO.frz o (.tup ys)) hl
      rw [List.map_id'] at hys
      exact k _ l ys (Ext.trans e1 (Ext.trans e2 e3)) (TupX.new ho) (kos_ext e3 hys)
abbrev sLines : Stmt := top 39
theorem scLines : FnScope ["kind", "many", "rows", "row"] ["kind", "many"] (defScope sLines) := ⟨rfl, rfl, rfl, by decide +kernel, rfl, by decide +kernel, by decide +kernel⟩
theorem ok_lines (F : Fun K "lines_over" "lines_over" sLines f fd) (T : Txt K mg) (Cl : KC K mg C) (Ro : Def1 P w K mg base CX0 15 "rows_over" ["kind", "many"] (spRowsOver K C)) (St : Def1 P w K mg base CX0 2 "is_line_step" ["row", "other"] (spLine K))
    (Pn : Pro1 P w K mg base 1 C "numbers" (spGet K C fun n _ => .ref n)) (I : Ini1 P w K mg base CX0 5 C t0 ["self", "numbers"] (spInit K C)) : FnOk P w K mg base CX0 16 f fd ["kind", "many"] (spSteps K C lineB) := by
  refine F.ok scLines (fun vs H Q E h => ?_) (fun cdv A outer s H vs Q E hr h => ?_)
  · obtain ⟨p, n, t, m, ns, many, N, rfl, _⟩ := h
    rfl
  · obtain ⟨p, n, t, m, ns, many, N, rfl, hp, hN, h12, k⟩ := h
    refine ⟨_, pss_cons (ps_set (i := 2) scLines.nd rfl (Or.inl rfl) (pe_def Ro hr (by decide) (by rfl) (pa_cons (pv 0) (pa_cons (pv 1) pa_nil))))
      (pss_one (ps_ret (pe_callTy call_tupX (by rfl) T.tuple (by decide +kernel) (pa_cons (pe_lc (own := [("row", 3)]) (g := gName 3) rfl scLines.nd (pi_list (pv 2)) (blkOk_by (N := ["kind", "many", "rows", "row"]) (sc := defScope sLines) (by decide +kernel)) (fun _ _ _ _ _ => pg_name (i := 3) scLines.nd rfl (Or.inl rfl)) (fun _ _ _ _ _ => pts_one (pt_val (pe_def St hr (by decide) (by rfl) (pa_cons (pv 3) (pa_cons (pe_pro1 Cl.cl Pn hr (by decide) (pv 0)) pa_nil))))) (fun _ _ _ _ _ => by exact (pe_mk1 I pass0 hr (by decide) (by rfl) Cl.g (pa_cons (pv 3) pa_nil)))) pa_nil)))), ?_⟩
    try dsimp only [cx_nox, cx_K]
    walk_at "rd"
    refine ⟨p, n, t, m, ns, many, N, rfl, hp, hN, h12, fun H1 Fa fs e1 hF hfs => ?_⟩
    walk_at "rd"
    refine g_lc (g_ilistC ?_)
    walk_at "rd"
    have hl := pair_len hfs
    refine lcPL (SqL.of hF) hl (by rw [hl]; exact rows_few h12) [] (fun r => lineB r ns) (fun r => r) (KO K C) (fun _ _ _ _ e r => r.keeps e) (fun i x r H2 hx hr2 e2 Qe Qn he hn => ?_) (fun H2 D ys e2 hD hd hys => ?_)
    · obtain ⟨r', hr', b, rfl, hb⟩ := pair_at hfs i x hx
      obtain rfl : r' = r := Option.some.inj (hr'.symm.trans hr2)
      have hFr := (rows_fall h12 (List.mem_of_getElem? hr')).1
      have hb2 := hb.ext e2
      have hp2 := (hp.ext e1).ext e2
      obtain ⟨dx, hpi⟩ := id hp2.ins
      refine ⟨rfl, ?_⟩
      walk_at "rd"
      refine ⟨p, dx, _, rfl, hpi, p, n, t, m, ns, rfl, hp2, fun H3 e3 => ?_⟩
      walk_at "rd"
      refine ⟨b, n, r', ns, rfl, (hb2.ext e3).sq, (hp2.ext e3).num.sq, hFr, hp.fall, fun H4 e4 => ?_⟩
      have e34 := Ext.trans e3 e4
      cases hc : lineB r' ns with
      | false => exact ⟨false, rfl, hn H4 e34 hc⟩
      | true =>
        refine ⟨true, rfl, ?_⟩
        rw [if_pos rfl]
        refine g_make ?_
        walk_at "rd"
        exact g_mk2 (hb2.ext e34) hFr fun H5 q n2 t2 m2 e5 hq => he _ H5 (Ext.trans e34 e5) hc ⟨q, n2, t2, m2, rfl, hq⟩
    · walk_at "rd"
      refine ⟨D, _, rfl, .inl ⟨SqL.of hd, fun l o hl ho => ?_⟩⟩
      have e3 := Ext.new (o := HO.frz o (.tup ys)) hl
      rw [List.map_id'] at hys
      exact k _ l ys (Ext.trans e1 (Ext.trans e2 e3)) (TupX.new ho) (kos_ext e3 hys)
end
end

/-! What the class refuses. -/

section
open PySem PySem.Spec PyProof.Rows L2 Gd
section
variable {P : Program} {w : World} {K : PySem.W.Frag} {mg : Str → Option Value} {base : Heap} {f C CI CN CR CT fN fR t0 : Addr} {fd : FuncData}
/-- how what is no kind is refused -/
def Bad0 (CI : Addr) (H : Hp) (E : XK) : Prop := ∀ H', Ext H H' → E (.ref CI) none H'
theorem Bad0.ext {H H' : Hp} {E : XK} (e : Ext H H') (h : Bad0 CI H E) : Bad0 CI H' E := fun H2 e2 => h H2 (Ext.trans e e2)
theorem scInitX : FnScope ["self", "numbers", "number"] ["self", "numbers"] (defScope sInit) := ⟨rfl, rfl, rfl, by decide +kernel, rfl, by decide +kernel, by decide +kernel⟩
def spInitX (K : PySem.W.Frag) (C CI : Addr) : Sp := fun vs H _ E => ∃ (p dx : Addr) (x : V), vs = [.ref p, x] ∧ H p = some (.ins C dx []) ∧ NotRow K H x ∧ Bad0 CI H E
theorem ok_initX {t0 : Addr} (F : FnI K t0 f fd) (T : Txt K mg) (Cl : KC K mg C) (N : OwnX K mg "InvalidKind" CI) (Fa : Def1 P w K mg base CX0 4 "is_falling" ["value", "most"] (spNotFall K)) :
    FnOk P w K mg base (L2.CX P w) 5 f fd ["self", "numbers"] (spInitX K C CI) := by
  obtain ⟨tM, gM⟩ := Cl.most
  refine F.ok scInitX (fun vs H Q E h => ?_) (fun cdv A outer s H vs Q E hr h => ?_)
  · obtain ⟨p, dx, x, rfl, _⟩ := h
    rfl
  · obtain ⟨p, dx, x, rfl, hp, hx, k⟩ := h
    refine ⟨_, pss_cons (ps_if (pt_not (pt_val (pe_def Fa hr (by decide) (by rfl) (pa_cons (pv 1) (pa_cons (pe_glob (v := .int 12) (by rfl) gM ⟨_, rfl⟩) pa_nil))))) (pss_one (ps_raiseOwn rfl N (takes_of rfl rfl rfl rfl) (by rfl))) pss_nil)
      (pss_cons (ps_fld (pv 0) (pe_callTy call_tupX (by rfl) T.tuple (by decide +kernel) (pa_cons (pv 1) pa_nil)) rfl)
      (pss_one (ps_fld (pv 0) (pe_tup (pa_cons (pe_callB (call_sumS rfl) (by rfl) T.sum (by decide +kernel) (pa_cons (pv 1) pa_nil)) (pa_cons (pe_callTy call_tupX (by rfl) T.tuple (by decide +kernel) (pa_cons (pe_lc (own := [("number", 2)]) (g := gName 2) (tt := tYes) rfl scInitX.nd (pi_tup (pv 1)) (blkOk_by (N := ["self", "numbers", "number"]) (sc := defScope sInit) (by decide +kernel)) (fun _ _ _ _ _ => pg_name (i := 2) scInitX.nd rfl (Or.inl rfl)) (fun _ _ _ _ _ => pts_nil) (fun _ _ _ _ _ => (pe_un un_neg (pv 2)))) pa_nil)) pa_nil))) rfl))), ?_⟩
    try dsimp only [cx_nox, cx_K]
    walk_at "rd"
    refine ⟨x, rfl, hx, fun H1 e1 => ?_⟩
    walk_at "rd"
    exact k H1 e1
/-- a value that is no kind -/
def NotKindV (K : PySem.W.Frag) (C : Addr) (H : Hp) (x : V) : Prop := ∃ t, TyX K H x t ∧ PySem.W.kitOne K t (.ref C) = some false
theorem scReqKindX : FnScope ["value"] ["value"] (defScope sReqKind) := ⟨rfl, rfl, rfl, by decide +kernel, rfl, by decide +kernel, by decide +kernel⟩
def spReqKindX (K : PySem.W.Frag) (C CI : Addr) : Sp := fun vs H _ E => ∃ x : V, vs = [x] ∧ NotKindV K C H x ∧ Bad0 CI H E
theorem ok_reqKindX (F : Fun K "require_kind" "require_kind" sReqKind f fd) (T : Txt K mg) (Cl : KC K mg C) (N : OwnX K mg "InvalidKind" CI) : FnOk P w K mg base (L2.CX P w) 2 f fd ["value"] (spReqKindX K C CI) := by
  refine F.okX scReqKindX (fun vs H Q E h => ?_) (fun cdv A outer s H vs Q E hr h => ?_)
  · obtain ⟨x, rfl, _⟩ := h
    rfl
  · obtain ⟨x, rfl, ⟨t, ht, hk⟩, k⟩ := h
    refine ⟨_, pss_one (ps_if (pt_not (pt_val (pe_callB call_isi (by rfl) T.isinstance (by decide +kernel) (pa_cons (pv 0) (pa_cons (pe_glob (v := .ref C) (by rfl) Cl.g rfl) pa_nil))))) (pss_one (ps_raiseOwn rfl N (takes_of rfl rfl rfl rfl) (by rfl))) pss_nil), ?_⟩
    try dsimp only [cx_nox, cx_K]
    walk_at "rd"
    refine ⟨_, _, _, _, false, rfl, .own C, ht, hk, ?_⟩
    walk_at "rd"
    exact k H (fun _ _ z => z)
/-- a method that refuses what is no kind -/
def spMethX (K : PySem.W.Frag) (C CI : Addr) : Sp := fun vs H _ E => ∃ (p : Addr) (x : V), vs = [.ref p, x] ∧ NotKindV K C H x ∧ Bad0 CI H E
end
end

/-! What methods and defs refuse. -/

section
open PySem PySem.Spec PyProof.Rows L2 Gd
section
variable {P : Program} {w : World} {K : PySem.W.Frag} {mg : Str → Option Value} {base : Heap} {f C CI CN CR CT fN fR t0 : Addr} {fd : FuncData}
theorem schoX : FnScope ["self", "other"] ["self", "other"] (defScope (cls 11)) := ⟨rfl, rfl, rfl, by decide +kernel, rfl, by decide +kernel, by decide +kernel⟩
theorem ok_hoX (F : Fun K "holds" "Kind.holds" (cls 11) f fd) (Rk : Def1 P w K mg base (L2.CX P w) 2 "require_kind" ["value"] (spReqKindX K C CI)) : FnOk P w K mg base (L2.CX P w) 3 f fd ["self", "other"] (spMethX K C CI) := by
  refine F.okX schoX (fun vs H Q E h => ?_) (fun cdv A outer s H vs Q E hr h => ?_)
  · obtain ⟨p, x, rfl, _⟩ := h
    rfl
  · obtain ⟨p, x, rfl, hx, k⟩ := h
    refine ⟨_, pss_cons (ps_expr (pe_defX Rk (passes_call (takes_of rfl rfl rfl rfl) (fun _ _ _ _ h => h)) hr (by decide) (by rfl) (pa_cons (pv 1) pa_nil))) pss_never, ?_⟩
    try dsimp only [cx_nox, cx_K]
    walk_at "rd"
    exact ⟨x, rfl, hx, k⟩
theorem sctoX : FnScope ["self", "other"] ["self", "other"] (defScope (cls 12)) := ⟨rfl, rfl, rfl, by decide +kernel, rfl, by decide +kernel, by decide +kernel⟩
theorem ok_toX (F : Fun K "tops" "Kind.tops" (cls 12) f fd) (Rk : Def1 P w K mg base (L2.CX P w) 2 "require_kind" ["value"] (spReqKindX K C CI)) : FnOk P w K mg base (L2.CX P w) 3 f fd ["self", "other"] (spMethX K C CI) := by
  refine F.okX sctoX (fun vs H Q E h => ?_) (fun cdv A outer s H vs Q E hr h => ?_)
  · obtain ⟨p, x, rfl, _⟩ := h
    rfl
  · obtain ⟨p, x, rfl, hx, k⟩ := h
    refine ⟨_, pss_cons (ps_expr (pe_defX Rk (passes_call (takes_of rfl rfl rfl rfl) (fun _ _ _ _ h => h)) hr (by decide) (by rfl) (pa_cons (pv 1) pa_nil))) pss_never, ?_⟩
    try dsimp only [cx_nox, cx_K]
    walk_at "rd"
    exact ⟨x, rfl, hx, k⟩
theorem scovX : FnScope ["self", "other"] ["self", "other"] (defScope (cls 14)) := ⟨rfl, rfl, rfl, by decide +kernel, rfl, by decide +kernel, by decide +kernel⟩
theorem ok_ovX (F : Fun K "over" "Kind.over" (cls 14) f fd) (Rk : Def1 P w K mg base (L2.CX P w) 2 "require_kind" ["value"] (spReqKindX K C CI)) : FnOk P w K mg base (L2.CX P w) 3 f fd ["self", "other"] (spMethX K C CI) := by
  refine F.okX scovX (fun vs H Q E h => ?_) (fun cdv A outer s H vs Q E hr h => ?_)
  · obtain ⟨p, x, rfl, _⟩ := h
    rfl
  · obtain ⟨p, x, rfl, hx, k⟩ := h
    refine ⟨_, pss_cons (ps_expr (pe_defX Rk (passes_call (takes_of rfl rfl rfl rfl) (fun _ _ _ _ h => h)) hr (by decide) (by rfl) (pa_cons (pv 1) pa_nil))) pss_never, ?_⟩
    try dsimp only [cx_nox, cx_K]
    walk_at "rd"
    exact ⟨x, rfl, hx, k⟩
abbrev s_wiX : Stmt := top 36
theorem scwiX : FnScope ["kind", "rows", "row", "size"] ["kind"] (defScope s_wiX) := ⟨rfl, rfl, rfl, by decide +kernel, rfl, by decide +kernel, by decide +kernel⟩
def sp_wiX (K : PySem.W.Frag) (C CI : Addr) : Sp := fun vs H _ E => ∃ x : V, vs = [x] ∧ NotKindV K C H x ∧ Bad0 CI H E
theorem ok_wiX (F : Fun K "kinds_within" "kinds_within" s_wiX f fd) (Rk : Def1 P w K mg base (L2.CX P w) 2 "require_kind" ["value"] (spReqKindX K C CI)) : FnOk P w K mg base (L2.CX P w) 3 f fd ["kind"] (sp_wiX K C CI) := by
  refine F.okX scwiX (fun vs H Q E h => ?_) (fun cdv A outer s H vs Q E hr h => ?_)
  · obtain ⟨x, rfl, _⟩ := h
    rfl
  · obtain ⟨x, rfl, hx, k⟩ := h
    refine ⟨_, pss_cons (ps_expr (pe_defX Rk (passes_call (takes_of rfl rfl rfl rfl) (fun _ _ _ _ h => h)) hr (by decide) (by rfl) (pa_cons (pv 0) pa_nil))) pss_never, ?_⟩
    try dsimp only [cx_nox, cx_K]
    walk_at "rd"
    exact ⟨x, rfl, hx, k⟩
abbrev s_roX : Stmt := top 37
theorem scroX : FnScope ["kind", "many"] ["kind", "many"] (defScope s_roX) := ⟨rfl, rfl, rfl, by decide +kernel, rfl, by decide +kernel, by decide +kernel⟩
def sp_roX (K : PySem.W.Frag) (C CI : Addr) : Sp := fun vs H _ E => ∃ x y : V, vs = [x, y] ∧ NotKindV K C H x ∧ Bad0 CI H E
theorem ok_roX (F : Fun K "rows_over" "rows_over" s_roX f fd) (Rk : Def1 P w K mg base (L2.CX P w) 2 "require_kind" ["value"] (spReqKindX K C CI)) : FnOk P w K mg base (L2.CX P w) 3 f fd ["kind", "many"] (sp_roX K C CI) := by
  refine F.okX scroX (fun vs H Q E h => ?_) (fun cdv A outer s H vs Q E hr h => ?_)
  · obtain ⟨x, y, rfl, _⟩ := h
    rfl
  · obtain ⟨x, y, rfl, hx, k⟩ := h
    refine ⟨_, pss_cons (ps_expr (pe_defX Rk (passes_call (takes_of rfl rfl rfl rfl) (fun _ _ _ _ h => h)) hr (by decide) (by rfl) (pa_cons (pv 0) pa_nil))) pss_never, ?_⟩
    try dsimp only [cx_nox, cx_K]
    walk_at "rd"
    exact ⟨x, rfl, hx, k⟩
end
end

/-! Numbers that are refused. -/

section
open PySem PySem.Spec PyProof.Rows L2 Gd
section
variable {P : Program} {w : World} {K : PySem.W.Frag} {mg : Str → Option Value} {base : Heap} {f C CI CN CR CT fN fR t0 : Addr} {fd : FuncData}
/-- how a number is refused -/
def BadN (CN : Addr) (x : V) (H : Hp) (E : XK) : Prop := ∀ H' d, Ext H H' → H' d = none → E (.ref CN) (some d) (upd H' d (.xd [(("value" : Str), x)]))
theorem BadN.ext {x : V} {H H' : Hp} {E : XK} (e : Ext H H') (h : BadN CN x H E) : BadN CN x H' E := fun H2 d e2 hd => h H2 d (Ext.trans e e2) hd
/-- x isn't from lo to hi, now and later -/
def OutW (K : PySem.W.Frag) (H : Hp) (x : V) (lo hi : Int) : Prop := ∀ H', Ext H H' → WithB K H' x lo hi false
theorem OutW.ext {H H' : Hp} {x : V} {lo hi : Int} (e : Ext H H') (h : OutW K H x lo hi) : OutW K H' x lo hi := fun H2 e2 => h H2 (Ext.trans e e2)
theorem scReqWiX : FnScope ["value", "low", "high"] ["value", "low", "high"] (defScope sReqWi) := ⟨rfl, rfl, rfl, by decide +kernel, rfl, by decide +kernel, by decide +kernel⟩
def spReqWiX (K : PySem.W.Frag) (CN : Addr) : Sp := fun vs H _ E => ∃ (x : V) (lo hi : Int), vs = [x, .int lo, .int hi] ∧ 0 ≤ lo ∧ hi ≤ 1000 ∧ OutW K H x lo hi ∧ BadN CN x H E
theorem ok_reqWiX (F : Fun K "require_within" "require_within" sReqWi f fd) (T : Txt K mg) (N : PySem.XInvalidNumber.InvalidNumberTxt K mg CN fN) (Wi : Def1 P w K mg base CX0 3 "is_within" ["value", "low", "high"] (spIsWithin K)) : FnOk P w K mg base (L2.CX P w) 5 f fd ["value", "low", "high"] (spReqWiX K CN) := by
  refine F.okX scReqWiX (fun vs H Q E h => ?_) (fun cdv A outer s H vs Q E hr h => ?_)
  · obtain ⟨x, lo, hi, rfl, _⟩ := h
    rfl
  · obtain ⟨x, lo, hi, rfl, h0, h1, hx, k⟩ := h
    refine ⟨_, pss_one (ps_if (pt_not (pt_val (pe_def Wi hr (by decide) (by rfl) (pa_cons (pv 0) (pa_cons (pv 1) (pa_cons (pv 2) pa_nil)))))) (pss_one (ps_raiseInvalidNumber rfl N hr (takes_of rfl rfl rfl rfl) (by exact (pa_cons (pv 0) pa_nil)))) pss_nil), ?_⟩
    try dsimp only [cx_nox, cx_K]
    have big : (1000 : Int) < 10 ^ 60 := by decide +kernel
    walk_at "rd"
    refine ⟨x, lo, hi, false, rfl, by omega, by omega, hx H (fun _ _ z => z), ?_⟩
    walk_at "rd"
    exact ⟨_, rfl, _, rfl, fun d hd => k H d (fun _ _ z => z) hd⟩
abbrev s_koX : Stmt := top 35
theorem scKoX : FnScope ["size", "row"] ["size"] (defScope s_koX) := ⟨rfl, rfl, rfl, by decide +kernel, rfl, by decide +kernel, by decide +kernel⟩
def spKoX (K : PySem.W.Frag) (CN : Addr) : Sp := fun vs H _ E => ∃ x : V, vs = [x] ∧ OutW K H x 0 12 ∧ BadN CN x H E
theorem ok_koX (F : Fun K "kinds_of" "kinds_of" s_koX f fd) (Cl : KC K mg C) (Rw : Def1 P w K mg base (L2.CX P w) 5 "require_within" ["value", "low", "high"] (spReqWiX K CN)) : FnOk P w K mg base (L2.CX P w) 6 f fd ["size"] (spKoX K CN) := by
  obtain ⟨tM, gM⟩ := Cl.most
  refine F.okX scKoX (fun vs H Q E h => ?_) (fun cdv A outer s H vs Q E hr h => ?_)
  · obtain ⟨x, rfl, _⟩ := h
    rfl
  · obtain ⟨x, rfl, hx, k⟩ := h
    refine ⟨_, pss_cons (ps_expr (pe_defX Rw (passes_call (takes_of rfl rfl rfl rfl) (fun _ _ _ _ h => h)) hr (by decide) (by rfl) (pa_cons (pv 0) (pa_cons pe_int (pa_cons (pe_glob (v := .int 12) (by rfl) gM ⟨_, rfl⟩) pa_nil))))) pss_never, ?_⟩
    try dsimp only [cx_nox, cx_K]
    walk_at "rd"
    exact ⟨x, 0, 12, rfl, by decide, by decide, hx, k⟩
/-- rows over a kind, the number refused -/
def spRoN (K : PySem.W.Frag) (C CN : Addr) : Sp := fun vs H _ E => ∃ (p n t m : Addr) (ns : List Int) (x : V), vs = [.ref p, x] ∧ KindAt K C H p n t m ns ∧ OutW K H x 0 12 ∧ BadN CN x H E
theorem ok_roN (F : Fun K "rows_over" "rows_over" s_roX f fd) (Cl : KC K mg C) (Rk : Def1 P w K mg base CX0 1 "require_kind" ["value"] (spReqKind K C)) (Rw : Def1 P w K mg base (L2.CX P w) 5 "require_within" ["value", "low", "high"] (spReqWiX K CN)) : FnOk P w K mg base (L2.CX P w) 6 f fd ["kind", "many"] (spRoN K C CN) := by
  obtain ⟨tM, gM⟩ := Cl.most
  refine F.okX scroX (fun vs H Q E h => ?_) (fun cdv A outer s H vs Q E hr h => ?_)
  · obtain ⟨p, n, t, m, ns, x, rfl, _⟩ := h
    rfl
  · obtain ⟨p, n, t, m, ns, x, rfl, hp, hx, k⟩ := h
    refine ⟨_, pss_cons (ps_expr (pe_def Rk hr (by decide) (by rfl) (pa_cons (pv 0) pa_nil))) (pss_cons (ps_expr (pe_defX Rw (passes_call (takes_of rfl rfl rfl rfl) (fun _ _ _ _ h => h)) hr (by decide) (by rfl) (pa_cons (pv 1) (pa_cons pe_int (pa_cons (pe_glob (v := .int 12) (by rfl) gM ⟨_, rfl⟩) pa_nil))))) pss_never), ?_⟩
    try dsimp only [cx_nox, cx_K]
    walk_at "rd"
    refine ⟨p, n, t, m, ns, rfl, hp, ?_⟩
    walk_at "rd"
    exact ⟨x, 0, 12, rfl, by decide, by decide, hx, k⟩
end
end

/-! Items, rows over a kind, steps, opposites: refused. -/

section
open PySem PySem.Spec PyProof.Rows L2 Gd
section
variable {P : Program} {w : World} {K : PySem.W.Frag} {mg : Str → Option Value} {base : Heap} {f C CI CN CR CT fN fR t0 : Addr} {fd : FuncData}
/-- either promise -/
theorem fn_or {CX : CXT} {k : Nat} {ps : List Str} {sp1 sp2 : Sp} (h1 : FnOk P w K mg base CX k f fd ps sp1) (h2 : FnOk P w K mg base CX k f fd ps sp2) : FnOk P w K mg base CX k f fd ps (fun vs H Q E => sp1 vs H Q E ∨ sp2 vs H Q E) :=
  ⟨fun vs H Q E h => h.elim (h1.len vs H Q E) (h2.len vs H Q E), fun A o s H a us vs Q E hr he hb hv h => h.elim (h1.run A o s H a us vs Q E hr he hb hv) (h2.run A o s H a us vs Q E hr he hb hv)⟩
def spItemX (K : PySem.W.Frag) (C CN : Addr) : Sp := fun vs H _ E => ∃ (p n t m : Addr) (ns : List Int) (x : V), vs = [.ref p, x] ∧ KindAt K C H p n t m ns ∧ IndexOk K H x false ∧ BadN CN x H E
theorem scItemX : FnScope ["self", "index"] ["self", "index"] (defScope (cls 16)) := ⟨rfl, rfl, rfl, by decide +kernel, rfl, by decide +kernel, by decide +kernel⟩
theorem ok_itemX (F : Fun K "__getitem__" "Kind.__getitem__" (cls 16) f fd) (Ri : Def1 P w K mg base (L2.CX P w) 4 "require_index" ["value"] (spIndex K CN)) : FnOk P w K mg base (L2.CX P w) 5 f fd ["self", "index"] (spItemX K C CN) := by
  refine F.okX scItemX (fun vs H Q E h => ?_) (fun cdv A outer s H vs Q E hr h => ?_)
  · obtain ⟨p, n, t, m, ns, x, rfl, _⟩ := h
    rfl
  · obtain ⟨p, n, t, m, ns, x, rfl, hp, hx, k⟩ := h
    refine ⟨_, pss_cons (ps_expr (pe_defX Ri (passes_call (takes_of rfl rfl rfl rfl) (fun _ _ _ _ h => h)) hr (by decide) (by rfl) (pa_cons (pv 1) pa_nil))) pss_never, ?_⟩
    try dsimp only [cx_nox, cx_K]
    walk_at "rd"
    exact ⟨x, false, rfl, hx, fun z => Bool.noConfusion z, fun _ d hd => k H d (fun _ _ z => z) hd⟩
/-- too many rows over a kind -/
def spRoT (K : PySem.W.Frag) (C CT : Addr) : Sp := fun vs H _ E => ∃ (p n t m : Addr) (ns : List Int) (many : Int), vs = [.ref p, .int many] ∧ KindAt K C H p n t m ns ∧ 0 ≤ many ∧ many ≤ 12 ∧ 12 < ns.sum + many ∧ TooBig CT H E
theorem ok_roT (F : Fun K "rows_over" "rows_over" s_roX f fd) (Cl : KC K mg C) (Rk : Def1 P w K mg base CX0 1 "require_kind" ["value"] (spReqKind K C)) (Rw : Def1 P w K mg base CX0 4 "require_within" ["value", "low", "high"] (spReqWi K)) (Rs : Def1 P w K mg base (L2.CX P w) 3 "require_size" ["size"] (spReqSize CT))
    (Ps : Pro1 P w K mg base 1 C "size" (spGet K C fun _ ns => .int ns.sum)) : FnOk P w K mg base (L2.CX P w) 6 f fd ["kind", "many"] (spRoT K C CT) := by
  obtain ⟨tM, gM⟩ := Cl.most
  refine F.okX scroX (fun vs H Q E h => ?_) (fun cdv A outer s H vs Q E hr h => ?_)
  · obtain ⟨p, n, t, m, ns, many, rfl, _⟩ := h
    rfl
  · obtain ⟨p, n, t, m, ns, many, rfl, hp, h0, h1, h12, k⟩ := h
    refine ⟨_, pss_cons (ps_expr (pe_def Rk hr (by decide) (by rfl) (pa_cons (pv 0) pa_nil))) (pss_cons (ps_expr (pe_def Rw hr (by decide) (by rfl) (pa_cons (pv 1) (pa_cons pe_int (pa_cons (pe_glob (v := .int 12) (by rfl) gM ⟨_, rfl⟩) pa_nil)))))
      (pss_cons (ps_expr (pe_defX Rs (passes_call (takes_of rfl rfl rfl rfl) (fun _ _ _ _ h => h)) hr (by decide) (by rfl) (pa_cons (pe_op op_add (pe_pro1 Cl.cl Ps hr (by decide) (pv 0)) (pv 1)) pa_nil))) pss_never)), ?_⟩
    try dsimp only [cx_nox, cx_K]
    walk_at "rd"
    refine ⟨p, n, t, m, ns, rfl, hp, ?_⟩
    walk_at "rd"
    refine ⟨many, 0, 12, rfl, by decide, by decide, h0, h1, ?_⟩
    obtain ⟨dx, hpi⟩ := id hp.ins
    walk_at "rd"
    refine ⟨p, dx, _, rfl, hpi, p, n, t, m, ns, rfl, hp, fun H1 e1 => ?_⟩
    walk_at "rd"
    exact ⟨_, rfl, fun z => by omega, fun _ => TooBig.ext e1 k⟩
/-- what rows_over and the steps refuse -/
def spRoE (K : PySem.W.Frag) (C CI CN CT : Addr) : Sp := fun vs H Q E => sp_roX K C CI vs H Q E ∨ spRoN K C CN vs H Q E ∨ spRoT K C CT vs H Q E
theorem ro_len {vs : List V} {H : Hp} {Q : VK} {E : XK} (h : spRoE K C CI CN CT vs H Q E) : ∃ x y, vs = [x, y] := by
  rcases h with ⟨x, y, rfl, _⟩ | ⟨p, n, t, m, ns, x, rfl, _⟩ | ⟨p, n, t, m, ns, x, rfl, _⟩ <;> exact ⟨_, _, rfl⟩
theorem scFlX : FnScope ["kind", "many", "rows", "row"] ["kind", "many"] (defScope sFlats) := ⟨rfl, rfl, rfl, by decide +kernel, rfl, by decide +kernel, by decide +kernel⟩
theorem ok_flX (F : Fun K "flats_over" "flats_over" sFlats f fd) (Ro : Def1 P w K mg base (L2.CX P w) 6 "rows_over" ["kind", "many"] (spRoE K C CI CN CT)) : FnOk P w K mg base (L2.CX P w) 7 f fd ["kind", "many"] (spRoE K C CI CN CT) := by
  refine F.okX scFlX (fun vs H Q E h => ?_) (fun cdv A outer s H vs Q E hr h => ?_)
  · obtain ⟨x, y, rfl⟩ := ro_len h
    rfl
  · obtain ⟨x, y, rfl⟩ := ro_len h
    refine ⟨_, pss_cons (ps_set (i := 2) scFlX.nd rfl (Or.inl rfl) (pe_defX Ro (passes_call (takes_of rfl rfl rfl rfl) (fun _ _ _ _ h => h)) hr (by decide) (by rfl) (pa_cons (pv 0) (pa_cons (pv 1) pa_nil)))) pss_never, ?_⟩
    try dsimp only [cx_nox, cx_K]
    walk_at "rd"
    exact h
theorem scLiX : FnScope ["kind", "many", "rows", "row"] ["kind", "many"] (defScope sLines) := ⟨rfl, rfl, rfl, by decide +kernel, rfl, by decide +kernel, by decide +kernel⟩
theorem ok_liX (F : Fun K "lines_over" "lines_over" sLines f fd) (Ro : Def1 P w K mg base (L2.CX P w) 6 "rows_over" ["kind", "many"] (spRoE K C CI CN CT)) : FnOk P w K mg base (L2.CX P w) 7 f fd ["kind", "many"] (spRoE K C CI CN CT) := by
  refine F.okX scLiX (fun vs H Q E h => ?_) (fun cdv A outer s H vs Q E hr h => ?_)
  · obtain ⟨x, y, rfl⟩ := ro_len h
    rfl
  · obtain ⟨x, y, rfl⟩ := ro_len h
    refine ⟨_, pss_cons (ps_set (i := 2) scLiX.nd rfl (Or.inl rfl) (pe_defX Ro (passes_call (takes_of rfl rfl rfl rfl) (fun _ _ _ _ h => h)) hr (by decide) (by rfl) (pa_cons (pv 0) (pa_cons (pv 1) pa_nil)))) pss_never, ?_⟩
    try dsimp only [cx_nox, cx_K]
    walk_at "rd"
    exact h
/-- opposites: the first bound refused, or the second, or too great -/
def spOpX (K : PySem.W.Frag) (C CN CT : Addr) : Sp := fun vs H _ E => ∃ (p n t m : Addr) (ns : List Int) (x y : V), vs = [.ref p, x, y] ∧ KindAt K C H p n t m ns ∧ ((OutW K H x 0 12 ∧ BadN CN x H E) ∨ (x = .int 12 ∧ OutW K H y 0 12 ∧ BadN CN y H E) ∨ (x = .int 12 ∧ y = .int 12 ∧ TooBig CT H E))
theorem scOpX : FnScope ["self", "wide", "high"] ["self", "wide", "high"] (defScope (cls 15)) := ⟨rfl, rfl, rfl, by decide +kernel, rfl, by decide +kernel, by decide +kernel⟩
theorem ok_opX (F : Fun K "opposite" "Kind.opposite" (cls 15) f fd) (Cl : KC K mg C) (R : PySem.XRefused.RefusedTxt K mg CR fR) (Rw : Def1 P w K mg base (L2.CX P w) 5 "require_within" ["value", "low", "high"] (fun vs H Q E => spReqWiX K CN vs H Q E ∨ spReqWi K vs H Q E)) (Rs : Def1 P w K mg base (L2.CX P w) 3 "require_size" ["size"] (spReqSize CT))
    (Ps : Pro1 P w K mg base 1 C "size" (spGet K C fun _ ns => .int ns.sum)) (Pr : Pro1 P w K mg base 1 C "rank" (spGet K C fun _ ns => .int (ns.length : Int))) (Ph : Pro1 P w K mg base 2 C "height" (spGet K C fun _ ns => .int (ns.getD 0 0))) : FnOk P w K mg base (L2.CX P w) 6 f fd ["self", "wide", "high"] (spOpX K C CN CT) := by
  obtain ⟨tM, gM⟩ := Cl.most
  refine F.okX scOpX (fun vs H Q E h => ?_) (fun cdv A outer s H vs Q E hr h => ?_)
  · obtain ⟨p, n, t, m, ns, x, y, rfl, _⟩ := h
    rfl
  · obtain ⟨p, n, t, m, ns, x, y, rfl, hp, h⟩ := h
    have ps : Passes (L2.CX P w) (cxOf (L2.CX P w) P w K mg base ["self", "wide", "high"] "Kind.opposite" (defScope (cls 15)) f cdv A outer s H E) E := passes_call (takes_of rfl rfl rfl rfl) (fun _ _ _ _ h => h)
    refine ⟨_, pss_cons (ps_expr (pe_defX Rw ps hr (by decide) (by rfl) (pa_cons (pv 1) (pa_cons pe_int (pa_cons (pe_glob (v := .int 12) (by rfl) gM ⟨_, rfl⟩) pa_nil))))) (pss_cons (ps_expr (pe_defX Rw ps hr (by decide) (by rfl) (pa_cons (pv 2) (pa_cons pe_int (pa_cons (pe_glob (v := .int 12) (by rfl) gM ⟨_, rfl⟩) pa_nil)))))
      (pss_cons (ps_if (PW.pt (pw_or (pt_cmpR op_gt (pe_pro1 Cl.cl Pr hr (by decide) (pv 0)) (pv 1) (nomark _)) (pw_or1 (pt_cmpR op_gt (pe_pro1 Cl.cl Ph hr (by decide) (pv 0)) (pv 2) (nomark _))))) (pss_one (ps_raiseRefused rfl R hr (takes_of rfl rfl rfl rfl) (by exact (pa_cons (pe_tup (pa_cons pe_str pa_nil)) pa_nil)))) pss_nil)
      (pss_cons (ps_expr (pe_defX Rs ps hr (by decide) (by rfl) (pa_cons (pe_op op_sub (pe_op op_mul (pv 1) (pv 2)) (pe_pro1 Cl.cl Ps hr (by decide) (pv 0))) pa_nil))) pss_never))), ?_⟩
    try dsimp only [cx_nox, cx_K]
    walk_at "rd"
    have hlen := hp.fall.len
    have hs0 := hp.fall.sum0
    have hs1 := hp.fall.sum
    have hh := (hp.fall.at 0).2
    obtain ⟨dx, hpi⟩ := id hp.ins
    rcases h with ⟨hx, k⟩ | ⟨rfl, hy, k⟩ | ⟨rfl, rfl, k⟩
    · exact .inl ⟨x, 0, 12, rfl, by decide, by decide, hx, k⟩
    · refine .inr ⟨12, 0, 12, rfl, by decide, by decide, by decide, by decide, ?_⟩
      walk_at "rd"
      exact .inl ⟨y, 0, 12, rfl, by decide, by decide, hy, k⟩
    · refine .inr ⟨12, 0, 12, rfl, by decide, by decide, by decide, by decide, ?_⟩
      walk_at "rd"
      refine .inr ⟨12, 0, 12, rfl, by decide, by decide, by decide, by decide, ?_⟩
      walk_at "rd"
      refine ⟨p, dx, _, rfl, hpi, p, n, t, m, ns, rfl, hp, fun H1 e1 => ?_⟩
      walk_at "rd"
      refine ite2 (fun c1 => absurd (of_decide_eq_true c1) (by omega)) (fun _ => ?_)
      have hp1 := hp.ext e1
      obtain ⟨dx1, hpi1⟩ := id hp1.ins
      walk_at "rd"
      refine ⟨p, dx1, _, rfl, hpi1, p, n, t, m, ns, rfl, hp1, fun H2 e2 => ?_⟩
      walk_at "rd"
      refine ite2 (fun c2 => absurd (of_decide_eq_true c2) (by omega)) (fun _ => ?_)
      have hp2 := hp1.ext e2
      obtain ⟨dx2, hpi2⟩ := id hp2.ins
      walk_at "rd"
      refine g_I (mulS (by decide) (by decide) (by decide) (by decide)) ?_
      walk_at "rd"
      refine ⟨p, dx2, _, rfl, hpi2, p, n, t, m, ns, rfl, hp2, fun H3 e3 => ?_⟩
      walk_at "rd"
      exact ⟨_, rfl, fun z => by omega, fun _ => TooBig.ext (Ext.trans e1 (Ext.trans e2 e3)) k⟩
end
end

/-! Topped, joined, added rows. -/

section
open PySem PySem.Spec PyProof.Rows L2 Gd
section
variable {P : Program} {w : World} {K : PySem.W.Frag} {mg : Str → Option Value} {base : Heap} {f : Addr} {fd : FuncData}
theorem g_takeT {H : Hp} {Q : VK} {a : Addr} {ns : List Int} {i : Nat} (hs : SqT K H a (ns.map V.int)) (k : ∀ H' p, Ext H H' → SqT K H' p ((ns.take i).map V.int) → Q (.ref p) H') : rSlA K (.ref a) none (some (i : Int)) H Q := by
  refine ⟨a, _, rfl, hs, fun hw => ?_, fun hw p hp => ?_⟩
  · have h2 := hw.2
    rw [HT.sIx_nat, List.length_map] at h2
    refine k H a (fun _ _ z => z) ?_
    rw [List.take_of_length_le (by omega)]
    exact hs
  · refine k _ p (Ext.new hp) (SqT.of ?_)
    rw [upd_same]
    unfold cutV
    rw [HT.sIx_none, HT.sIx_nat, List.length_map, List.drop_zero, Nat.sub_zero, ← List.map_take]
    congr 3
    by_cases h : i ≤ ns.length
    · rw [Nat.min_eq_left h]
    · rw [Nat.min_eq_right (by omega), List.take_of_length_le (by omega), List.take_of_length_le (by omega)]
/-! ### topped -/
abbrev sTopped : Stmt := top 21
def topM (ns ms : List Int) : Bool := (List.range (ms.length - 1)).all fun i => decide ((ns.take (i + 1)).sum ≤ (ms.take (i + 1)).sum)
theorem scTopped : FnScope ["row", "other", "i"] ["row", "other"] (defScope sTopped) := ⟨rfl, rfl, rfl, by decide +kernel, rfl, by decide +kernel, by decide +kernel⟩
def spTopped (K : PySem.W.Frag) : Sp := fun vs H Q _ => ∃ (a b : Addr) (ns ms : List Int), vs = [.ref a, .ref b] ∧ SqT K H a (ns.map V.int) ∧ SqT K H b (ms.map V.int) ∧ Fall ns ∧ Fall ms ∧ ∀ H', Ext H H' → Q (.bl (topM ns ms)) H'
theorem ok_topped (F : Fun K "is_topped" "is_topped" sTopped f fd) (T : Txt K mg) : FnOk P w K mg base CX0 1 f fd ["row", "other"] (spTopped K) := by
  refine F.ok scTopped (fun vs H Q E h => ?_) (fun cdv A outer s H vs Q E hr h => ?_)
  · obtain ⟨a, b, ns, ms, rfl, _⟩ := h
    rfl
  · obtain ⟨a, b, ns, ms, rfl, hs, ht, hF, hG, k⟩ := h
    refine ⟨_, pss_one (ps_ret (pe_callB (cr_all rfl) (by rfl) T.all (by decide +kernel) (pa_cons (pe_lc (own := [("i", 2)]) (g := gName 2) (tt := tYes) rfl scTopped.nd (pi_range2 (by rfl) T.range (pa_cons pe_int (pa_cons (pe_callB call_len_seq (by rfl) T.len PySem.boot_len (pa_cons (pv 1) pa_nil)) pa_nil))) (blkOk_by (N := ["row", "other", "i"]) (sc := defScope sTopped) (by decide +kernel)) (fun _ _ _ _ _ => pg_name (i := 2) scTopped.nd rfl (Or.inl rfl)) (fun _ _ _ _ _ => pts_nil) (fun _ _ _ _ _ => (pe_cmpR op_le (pe_callB (r := rSumS K) (call_sumS rfl) (by rfl) T.sum (by decide +kernel) (pa_cons (pe_slice (r := rSlA K) sl_tupA (pv 0) po_none (po_some (pv 2))) pa_nil)) (pe_callB (r := rSumS K) (call_sumS rfl) (by rfl) T.sum (by decide +kernel) (pa_cons (pe_slice (r := rSlA K) sl_tupA (pv 1) po_none (po_some (pv 2))) pa_nil)) (nomark _)))) pa_nil))), ?_⟩
    try dsimp only [cx_nox, cx_K]
    have hlen := hG.len
    walk_at "rd"
    refine g_lc (g_rng2 ?_)
    walk_at "rd"
    refine ⟨b, _, rfl, .inr ht, ?_⟩
    walk_at "rd"
    rw [List.length_map]
    refine ⟨⟨by decide, by decide, by omega, by omega⟩, ?_⟩
    have en : ((ms.length : Int) - 1).toNat = ms.length - 1 := by omega
    rw [en]
    refine lcR (small (by omega)) (fun _ => true) (fun i => .bl (decide ((ns.take (i + 1)).sum ≤ (ms.take (i + 1)).sum))) (fun i H' hi e Qe Qn he hn => ?_) (fun H' D e hD hd => ?_)
    · have ei : (1 + (i : Int)) = ((i + 1 : Nat) : Int) := by omega
      rw [ei]
      walk_at "rd"
      refine ⟨rfl, ?_⟩
      walk_at "rd"
      refine g_takeT (sqT_ext e hs) fun H2 p e2 hp => ?_
      walk_at "rd"
      refine ⟨p, _, rfl, .inr hp, ?_⟩
      walk_at "rd"
      refine g_takeT (sqT_ext e2 (sqT_ext e ht)) fun H3 q e3 hq => ?_
      walk_at "rd"
      refine ⟨q, _, rfl, .inr hq, ?_⟩
      walk_at "rd"
      exact he _ (Ext.trans e2 e3) rfl
    · rw [idx_all] at hd
      walk_at "rd"
      refine ⟨D, (List.range (ms.length - 1)).map fun i => decide ((ns.take (i + 1)).sum ≤ (ms.take (i + 1)).sum), rfl, SqL.of ?_, ?_⟩
      · rw [hd, List.map_map]
        rfl
      · rw [List.all_map]
        exact k H' e
/-! ### added -/
abbrev sAdded : Stmt := top 23
def addM (ns ms : List Int) : List Int := (List.range (max ns.length ms.length)).map fun i => ns.getD i 0 + ms.getD i 0
theorem scAdded : FnScope ["one", "other", "longer", "i"] ["one", "other"] (defScope sAdded) := ⟨rfl, rfl, rfl, by decide +kernel, rfl, by decide +kernel, by decide +kernel⟩
def spAdded (K : PySem.W.Frag) : Sp := fun vs H Q _ => ∃ (a b : Addr) (ns ms : List Int), vs = [.ref a, .ref b] ∧ SqT K H a (ns.map V.int) ∧ SqT K H b (ms.map V.int) ∧ Fall ns ∧ Fall ms ∧
  ∀ H' u, Ext H H' → TupX K H' u ((addM ns ms).map V.int) → Q (.ref u) H'
theorem ok_addedR (F : Fun K "added_row" "added_row" sAdded f fd) (T : Txt K mg) (N : Def1 P w K mg base CX0 1 "number_at" ["row", "index"] (spNumAt K)) : FnOk P w K mg base CX0 2 f fd ["one", "other"] (spAdded K) := by
  refine F.ok scAdded (fun vs H Q E h => ?_) (fun cdv A outer s H vs Q E hr h => ?_)
  · obtain ⟨a, b, ns, ms, rfl, _⟩ := h
    rfl
  · obtain ⟨a, b, ns, ms, rfl, hs, ht, hF, hG, k⟩ := h
    refine ⟨_, pss_cons (ps_set (i := 2) scAdded.nd rfl (Or.inl rfl) (pe_ifExp (pt_cmpR op_gt (pe_callB call_len_seq (by rfl) T.len PySem.boot_len (pa_cons (pv 0) pa_nil)) (pe_callB call_len_seq (by rfl) T.len PySem.boot_len (pa_cons (pv 1) pa_nil)) (nomark _)) (pe_callB call_len_seq (by rfl) T.len PySem.boot_len (pa_cons (pv 0) pa_nil)) (pe_callB call_len_seq (by rfl) T.len PySem.boot_len (pa_cons (pv 1) pa_nil))))
      (pss_one (ps_ret (pe_callTy call_tupX (by rfl) T.tuple (by decide +kernel) (pa_cons (pe_lc (own := [("i", 3)]) (g := gName 3) (tt := tYes) rfl scAdded.nd (pi_range1 (by rfl) T.range (pa_cons (pv 2) pa_nil)) (blkOk_by (N := ["one", "other", "longer", "i"]) (sc := defScope sAdded) (by decide +kernel)) (fun _ _ _ _ _ => pg_name (i := 3) scAdded.nd rfl (Or.inl rfl)) (fun _ _ _ _ _ => pts_nil) (fun _ _ _ _ _ => (pe_op op_add (pe_def N hr (by decide) (by rfl) (pa_cons (pv 0) (pa_cons (pv 3) pa_nil))) (pe_def N hr (by decide) (by rfl) (pa_cons (pv 1) (pa_cons (pv 3) pa_nil)))))) pa_nil)))), ?_⟩
    try dsimp only [cx_nox, cx_K]
    have hl1 := hF.len
    have hl2 := hG.len
    walk_at "rd"
    refine ⟨a, _, rfl, .inr hs, ?_⟩
    walk_at "rd"
    refine ⟨b, _, rfl, .inr ht, ?_⟩
    walk_at "rd"
    rw [List.length_map, List.length_map]
    refine g_ifV (.int ((max ns.length ms.length : Nat) : Int)) (fun h1 Q' q => ?_) (fun h1 Q' q => ?_) ?_
    · have h2 := of_decide_eq_true h1
      walk_at "rd"
      refine ⟨a, _, rfl, .inr hs, ?_⟩
      rw [List.length_map]
      rw [Nat.max_eq_left (by omega)] at q
      exact q
    · have h2 := of_decide_eq_false h1
      walk_at "rd"
      refine ⟨b, _, rfl, .inr ht, ?_⟩
      rw [List.length_map]
      rw [Nat.max_eq_right (by omega)] at q
      exact q
    walk_at "rd"
    refine g_lc (g_rng1 ?_)
    walk_at "rd"
    refine ⟨by omega, by omega, ?_⟩
    rw [Int.toNat_natCast]
    refine lcR (small (by omega)) (fun _ => true) (fun i => .int (ns.getD i 0 + ms.getD i 0)) (fun i H' hi e Qe Qn he hn => ?_) (fun H' D e hD hd => ?_)
    · rw [Int.zero_add]
      walk_at "rd"
      refine ⟨rfl, ?_⟩
      walk_at "rd"
      refine ⟨a, ns, i, rfl, sqT_ext e hs, ?_⟩
      walk_at "rd"
      refine ⟨b, ms, i, rfl, sqT_ext e ht, ?_⟩
      walk_at "rd"
      exact he _ (fun _ _ z => z) rfl
    · rw [idx_all] at hd
      walk_at "rd"
      refine ⟨D, _, rfl, .inl ⟨SqL.of hd, fun l o hl ho => ?_⟩⟩
      refine k _ l (Ext.trans e (Ext.new hl)) ?_
      unfold addM
      rw [List.map_map]
      exact TupX.new ho
end
/-- what two clauses over numbers give: the i-th number, cnt i times -/
def flat (v : Nat → Int) (cnt : Nat → Nat) (n : Nat) : List Int := (List.range n).flatMap fun i => List.replicate (cnt i) (v i)
theorem flat_succ (v : Nat → Int) (cnt : Nat → Nat) (n : Nat) : flat v cnt (n + 1) = flat v cnt n ++ List.replicate (cnt n) (v n) := by
  unfold flat
  rw [List.range_succ, List.flatMap_append, List.flatMap_cons, List.flatMap_nil, List.append_nil]
theorem flat_len {v : Nat → Int} {cnt : Nat → Nat} : ∀ n : Nat, (∀ i, i < n → cnt i ≤ 30) → (flat v cnt n).length ≤ n * 30
  | 0, _ => by simp [flat]
  | n + 1, h => by
    have h1 := flat_len (v := v) n fun i hi => h i (by omega)
    have h2 := h n (by omega)
    rw [flat_succ, List.length_append, List.length_replicate]
    omega
/-- what two clauses ask, told of their turns -/
def Lc2G (J : It) (g : TG) (tt : TT) (wi1 : TI) (g1 : TG) (tt1 : TT) (te : TE) (vs vs1 : List Nat) (σ : L2.St) (H1 : Hp) (Q : VK) : Prop := ∀ D, H1 D = none → ∃ W : Nat → Nat → Hp → Prop, (∃ m, W 0 m (upd H1 D (.lst []))) ∧ ∀ i m H, W i m H →
  (J.stop i H ∧ Q (.ref D) H) ∨ (J.go i H ∧ ∃ Nx : Hp → Prop, (∀ H', Nx H' → ∃ m', m' < m ∧ W (i + 1) m' H') ∧ ∀ x H', J.yld i H x H' → g x (wipe σ vs) H' fun σ2 H2 => wipe σ2 vs = wipe σ vs ∧ tt σ2 H2 fun b H3 =>
    if b = true then wi1 σ2 H3 fun J1 H4 => ∃ W1 : Nat → Nat → Hp → Prop, (∃ m, W1 0 m H4) ∧ ∀ j k H, W1 j k H →
      (J1.stop j H ∧ Nx H) ∨ (J1.go j H ∧ ∃ Nx1 : Hp → Prop, (∀ H', Nx1 H' → ∃ k', k' < k ∧ W1 (j + 1) k' H') ∧ ∀ x H', J1.yld j H x H' → g1 x (wipe σ2 vs1) H' fun σ3 H5 => wipe σ3 vs1 = wipe σ2 vs1 ∧ tt1 σ3 H5 fun b H6 =>
        if b = true then te σ3 H6 fun y H7 => ∃ acc, H7 D = some (.lst acc) ∧ acc.length < sizeLine ∧ Nx1 (upd H7 D (.lst (acc ++ [y]))) else Nx1 H6)
    else Nx H3)
theorem g_lc2 {wi wi1 : TI} {g g1 : TG} {tt tt1 : TT} {te : TE} {vs vs1 : List Nat} {σ : L2.St} {H : Hp} {Q : VK} (k : wi σ H fun J H1 => Lc2G J g tt wi1 g1 tt1 te vs vs1 σ H1 Q) : tLc2 wi g tt wi1 g1 tt1 te vs vs1 σ H Q := k
theorem lc2R {σ : L2.St} {H1 : Hp} {Q : VK} {vs vs1 : List Nat} {i1 i2 : Nat} {lo st : Int} {n : Nat} {wi1 : TI} (cnt : Nat → Nat) (hn : n ≤ 30) (hc : ∀ i, i < n → cnt i ≤ 30)
    (h1 : ∀ v, wipe ((wipe σ vs).set i1 (some v)) vs = wipe σ vs)
    (h2 : ∀ v u, wipe ((wipe ((wipe σ vs).set i1 (some v)) vs1).set i2 (some u)) vs1 = wipe ((wipe σ vs).set i1 (some v)) vs1)
    (h3 : ∀ v u, ((wipe ((wipe σ vs).set i1 (some v)) vs1).set i2 (some u))[i1]? = some (some v))
    (hw : ∀ (i : Nat) H', i < n → Ext H1 H' → ∀ R : It → Hp → Prop, R (Itr 0 (cnt i)) H' → wi1 ((wipe σ vs).set i1 (some (.int (lo + (i : Nat) * st)))) H' R)
    (k : ∀ H' D, Ext H1 H' → H1 D = none → H' D = some (.lst ((flat (fun i => lo + (i : Nat) * st) cnt n).map V.int)) → Q (.ref D) H') :
    Lc2G (Itc lo st n) (gName i1) tYes wi1 (gName i2) tYes (tVar i1) vs vs1 σ H1 Q := by
  unfold Lc2G
  intro D hD
  have put : ∀ {H : Hp} {xs : List V}, Ext H1 H → Ext H1 (upd H D (.lst xs)) := fun {H xs} e b o q => by
    rw [upd_ne (ne_of_none q hD)]
    exact e b o q
  refine ⟨fun i m H => m = n - i ∧ i ≤ n ∧ Ext H1 H ∧ H D = some (.lst ((flat (fun i => lo + (i : Nat) * st) cnt i).map V.int)), ⟨n, rfl, Nat.zero_le _, put fun _ _ z => z, upd_same⟩, fun i m H hW => ?_⟩
  obtain ⟨rfl, hi, e, hd⟩ := hW
  by_cases hin : i < n
  · refine .inr ⟨hin, fun H' => Ext H1 H' ∧ H' D = some (.lst ((flat (fun i => lo + (i : Nat) * st) cnt (i + 1)).map V.int)), fun H' q => ⟨n - (i + 1), by omega, rfl, by omega, q.1, q.2⟩, fun x H' hy => ?_⟩
    obtain ⟨rfl, rfl⟩ := hy
    refine ⟨h1 _, g_yes (iteT ?_)⟩
    refine hw i _ hin e _ ?_
    have hci := hc i hin
    have hfl := flat_len (v := fun i => lo + (i : Nat) * st) i fun j hj => hc j (by omega)
    refine ⟨fun j k' H' => k' = cnt i - j ∧ j ≤ cnt i ∧ Ext H1 H' ∧ H' D = some (.lst ((flat (fun i => lo + (i : Nat) * st) cnt i ++ List.replicate j (lo + (i : Nat) * st)).map V.int)), ⟨cnt i, rfl, Nat.zero_le _, e, ?_⟩, fun j k' H2 hW1 => ?_⟩
    · rw [List.replicate_zero, List.append_nil]
      exact hd
    · obtain ⟨rfl, hj, e2, hd2⟩ := hW1
      by_cases hjc : j < cnt i
      · refine .inr ⟨hjc, fun H' => Ext H1 H' ∧ H' D = some (.lst ((flat (fun i => lo + (i : Nat) * st) cnt i ++ List.replicate (j + 1) (lo + (i : Nat) * st)).map V.int)), fun H' q => ⟨cnt i - (j + 1), by omega, rfl, by omega, q.1, q.2⟩, fun x H' hy => ?_⟩
        obtain ⟨rfl, rfl⟩ := hy
        refine ⟨h2 _ _, g_yes (iteT ?_)⟩
        refine ⟨_, h3 _ _, _, hd2, ?_, put e2, ?_⟩
        · refine small ?_
          rw [List.length_map, List.length_append, List.length_replicate]
          omega
        · rw [upd_same, List.replicate_succ', ← List.append_assoc, List.map_append (l₂ := [lo + (i : Nat) * st])]
          rfl
      · refine .inl ⟨Nat.le_of_not_lt hjc, e2, ?_⟩
        have ej : j = cnt i := by omega
        rw [hd2, flat_succ, ej]
  · refine .inl ⟨Nat.le_of_not_lt hin, ?_⟩
    have ei : i = n := by omega
    rw [ei] at hd
    exact k H D e hD hd
section
variable {P : Program} {w : World} {K : PySem.W.Frag} {mg : Str → Option Value} {base : Heap} {f : Addr} {fd : FuncData}
/-! ### joined -/
abbrev sJoined : Stmt := top 22
def joinM (ns ms : List Int) : List Int := flat (fun i => (ns ++ ms).sum + (i : Int) * (-1)) (fun i => (ns ++ ms).count ((ns ++ ms).sum + (i : Int) * (-1))) (ns ++ ms).sum.toNat
theorem scJoined : FnScope ["one", "other", "both", "number", "_"] ["one", "other"] (defScope sJoined) := ⟨rfl, rfl, rfl, by decide +kernel, rfl, by decide +kernel, by decide +kernel⟩
def spJoined (K : PySem.W.Frag) : Sp := fun vs H Q _ => ∃ (a b : Addr) (ns ms : List Int), vs = [.ref a, .ref b] ∧ TupX K H a (ns.map V.int) ∧ TupX K H b (ms.map V.int) ∧ Fall ns ∧ Fall ms ∧
  ∀ H' u, Ext H H' → TupX K H' u ((joinM ns ms).map V.int) → Q (.ref u) H'
theorem ok_joinedR (F : Fun K "joined_row" "joined_row" sJoined f fd) (T : Txt K mg) : FnOk P w K mg base CX0 1 f fd ["one", "other"] (spJoined K) := by
  refine F.ok scJoined (fun vs H Q E h => ?_) (fun cdv A outer s H vs Q E hr h => ?_)
  · obtain ⟨a, b, ns, ms, rfl, _⟩ := h
    rfl
  · obtain ⟨a, b, ns, ms, rfl, hs, ht, hF, hG, k⟩ := h
    refine ⟨_, pss_cons (ps_set (i := 2) scJoined.nd rfl (Or.inr rfl) (pe_op op_catX (pv 0) (pv 1)))
      (pss_one (ps_ret (pe_callTy call_tupX (by rfl) T.tuple (by decide +kernel) (pa_cons (pe_lc2 (own := [("number", 3), ("_", 4)]) (vs1 := [4]) (g := gName 3) (tt := tYes) (g1 := gName 4) (tt1 := tYes) (te := tVar 3) (wi1 := iRng1 (tCons (tBMT K (rCntT K) (tVar 2) (tCons (tVar 3) tNil)) tNil)) rfl scJoined.nd (pi_range3 (by rfl) T.range (pa_cons (pe_callB (call_sumS rfl) (by rfl) T.sum (by decide +kernel) (pa_cons (pv 2) pa_nil)) (pa_cons pe_int (pa_cons (pe_un un_neg pe_int) pa_nil)))) (blkOk_by (N := ["one", "other", "both", "number", "_"]) (sc := defScope sJoined) (by decide +kernel)) (by decide) (fun _ _ _ _ _ => pg_name (i := 3) scJoined.nd rfl (Or.inl rfl)) (fun _ _ _ _ _ => pts_nil) (fun _ _ _ _ _ => by exact pi_range1 (by rfl) T.range (pa_cons (pe_bmT PySem.F.plainAttrs_tuple PySem.F.slot_tuple_count PySem.F.type_tuple_count mt_tcount (pv 2) (pa_cons (pv 3) pa_nil)) pa_nil)) (fun _ _ _ _ _ => pg_name (i := 4) scJoined.nd rfl (Or.inl rfl)) (fun _ _ _ _ _ => pts_nil) (fun _ _ _ _ _ => pv 3)) pa_nil)))), ?_⟩
    try dsimp only [cx_nox, cx_K]
    have hl1 := hF.len
    have hl2 := hG.len
    have hs1 := hF.sum
    have hs2 := hG.sum
    have hs3 := hF.sum0
    have hs4 := hG.sum0
    walk_at "rd"
    refine ⟨a, b, _, _, rfl, rfl, hs, ht, by rw [List.length_map, List.length_map]; exact Nat.le_of_lt (small (by omega)), fun H1 p e1 hp => ?_⟩
    rw [← List.map_append] at hp
    walk_at "rd"
    refine g_lc2 ?_
    unfold iRng3
    walk_at "rd"
    refine ⟨p, _, rfl, .inr hp.sq, ?_⟩
    walk_at "rd"
    refine ⟨_, _, _, _, rfl, RgC.neg (by rw [List.sum_append]; omega) (by rw [List.sum_append]; omega) (by decide) (by decide), ?_⟩
    rw [Int.sub_zero]
    refine lc2R (i1 := 3) (i2 := 4) (vs := [3, 4]) (vs1 := [4]) (lo := (ns ++ ms).sum) (st := -1) (n := (ns ++ ms).sum.toNat) (cnt := fun i => (ns ++ ms).count ((ns ++ ms).sum + (i : Int) * (-1))) ?_ ?_ ?_ ?_ ?_ ?_ ?_
    · rw [List.sum_append]
      omega
    · exact fun i hi => Nat.le_trans List.count_le_length (by rw [List.length_append]; omega)
    · intros
      rfl
    · intros
      rfl
    · intros
      rfl
    · intro i H' hi e R q
      refine g_rng1 ?_
      walk_at "rd"
      refine g_bmT ?_
      walk_at "rd"
      refine ⟨⟨p, _, rfl, hp.ext e⟩, ?_⟩
      walk_at "rd"
      refine ⟨p, _, _, rfl, rfl, sqT_ext e hp.sq, ?_⟩
      walk_at "rd"
      have hcl := List.count_le_length (a := (ns ++ ms).sum + (i : Int) * (-1)) (l := ns ++ ms)
      rw [List.length_append] at hcl
      refine ⟨by omega, by omega, ?_⟩
      rw [Int.toNat_natCast]
      exact q
    · intro H' D e hD hd
      walk_at "rd"
      refine ⟨D, _, rfl, .inl ⟨SqL.of hd, fun l o hl ho => ?_⟩⟩
      exact k _ l (Ext.trans (Ext.trans e1 e) (Ext.new hl)) (TupX.new ho)
end
/-! ### joined -/
theorem flat_count {S : Int} {cnt : Int → Nat} (v : Int) : ∀ n : Nat, (flat (fun i => S + (i : Int) * (-1)) (fun i => cnt (S + (i : Int) * (-1))) n).count v = if S - (n : Int) < v ∧ v ≤ S then cnt v else 0
  | 0 => by
    rw [if_neg (by omega)]
    rfl
  | n + 1 => by
    rw [flat_succ, List.count_append, flat_count v n, List.count_replicate]
    have c : ((n + 1 : Nat) : Int) = (n : Int) + 1 := by omega
    by_cases h : S + (n : Int) * (-1) = v
    · have e1 : ¬ (S - (n : Int) < v ∧ v ≤ S) := by omega
      have e2 : S - ((n + 1 : Nat) : Int) < v ∧ v ≤ S := by omega
      have e3 : (S + (n : Int) * (-1) == v) = true := beq_iff_eq.mpr h
      rw [if_neg e1, if_pos e2, if_pos e3, h, Nat.zero_add]
    · have e3 : ¬ (S + (n : Int) * (-1) == v) = true := fun z => h (beq_iff_eq.mp z)
      rw [if_neg e3, Nat.add_zero]
      by_cases h2 : S - (n : Int) < v ∧ v ≤ S
      · rw [if_pos h2, if_pos (show S - ((n + 1 : Nat) : Int) < v ∧ v ≤ S by omega)]
      · rw [if_neg h2, if_neg (show ¬ (S - ((n + 1 : Nat) : Int) < v ∧ v ≤ S) by omega)]
theorem flat_low {S : Int} {c : Nat → Nat} : ∀ n : Nat, ∀ x ∈ flat (fun i => S + (i : Int) * (-1)) c n, S - (n : Int) < x
  | 0, x, hx => by cases hx
  | n + 1, x, hx => by
    rw [flat_succ] at hx
    rcases List.mem_append.mp hx with h | h
    · have := flat_low n x h
      omega
    · have := List.eq_of_mem_replicate h
      omega
theorem flat_desc {S : Int} {c : Nat → Nat} : ∀ n : Nat, (flat (fun i => S + (i : Int) * (-1)) c n).Pairwise (· ≥ ·)
  | 0 => List.Pairwise.nil
  | n + 1 => by
    rw [flat_succ]
    refine List.pairwise_append.mpr ⟨flat_desc n, List.pairwise_replicate.mpr (.inr (Int.le_refl _)), fun x hx y hy => ?_⟩
    have h1 := flat_low n x hx
    have h2 := List.eq_of_mem_replicate hy
    show y ≤ x
    omega
theorem join_perm {ns ms : List Int} (hp : ∀ x ∈ ns ++ ms, 1 ≤ x) : (joinM ns ms).Perm (ns ++ ms) := by
  refine List.perm_iff_count.mpr fun v => ?_
  unfold joinM
  have h0 := sum_len hp
  rw [flat_count (cnt := fun v => (ns ++ ms).count v)]
  by_cases h : (ns ++ ms).sum - ((ns ++ ms).sum.toNat : Int) < v ∧ v ≤ (ns ++ ms).sum
  · rw [if_pos h]
  · rw [if_neg h]
    refine (List.count_eq_zero.mpr fun hv => h ?_).symm
    have h1 := hp v hv
    have h2 := mem_sum hp v hv
    omega
theorem join_desc (ns ms : List Int) : (joinM ns ms).Pairwise (· ≥ ·) := flat_desc _
theorem desc_eq {a b : List Int} (h : a.Perm b) (ha : a.Pairwise (· ≥ ·)) (hb : b.Pairwise (· ≥ ·)) : a = b :=
  List.Perm.eq_of_pairwise (fun x y _ _ h1 h2 => Int.le_antisymm h2 h1) ha hb h
theorem Fall.pair {ns : List Int} (h : Fall ns) : ns.Pairwise (· ≥ ·) := by
  refine List.pairwise_iff_getElem.mpr fun i j hi hj hij => ?_
  have key : ∀ k : Nat, ns.getD (i + k) 0 ≤ ns.getD i 0 := fun k => by
    induction k with
    | zero => exact Int.le_refl _
    | succ k ih => exact Int.le_trans (h.down (i + k)) ih
  have := key (j - i)
  rw [show i + (j - i) = j by omega, List.getD_eq_getElem?_getD, List.getD_eq_getElem?_getD, List.getElem?_eq_getElem hi, List.getElem?_eq_getElem hj] at this
  exact this
section
variable {ns ms : List Int}
theorem both_pos (h : Fall ns) (g : Fall ms) : ∀ x ∈ ns ++ ms, 1 ≤ x := fun x hx => (List.mem_append.mp hx).elim (h.pos x) (g.pos x)
theorem join_is {zs : List Int} (h : Fall ns) (g : Fall ms) (p : zs.Perm (ns ++ ms)) (d : zs.Pairwise (· ≥ ·)) : zs = joinM ns ms :=
  desc_eq (p.trans (join_perm (both_pos h g)).symm) d (join_desc ns ms)
theorem join_sum (h : Fall ns) (g : Fall ms) : (joinM ns ms).sum = ns.sum + ms.sum := by
  rw [perm_sum (join_perm (both_pos h g)), List.sum_append]
theorem join_fall (h : Fall ns) (g : Fall ms) (hs : ns.sum + ms.sum ≤ 12) : Fall (joinM ns ms) := by
  refine ⟨fun x hx => both_pos h g x ((join_perm (both_pos h g)).mem_iff.mp hx), by rw [join_sum h g]; exact hs, fun i hi => ?_⟩
  have := List.pairwise_iff_getElem.mp (join_desc ns ms) i (i + 1) (by omega) hi (by omega)
  rw [List.getD_eq_getElem?_getD, List.getD_eq_getElem?_getD, List.getElem?_eq_getElem hi, List.getElem?_eq_getElem (by omega : i < (joinM ns ms).length)]
  exact this
theorem join_comm (h : Fall ns) (g : Fall ms) : joinM ns ms = joinM ms ns :=
  join_is g h ((join_perm (both_pos h g)).trans List.perm_append_comm) (join_desc ns ms)
theorem join_nil (h : Fall ns) : joinM ns [] = ns := (join_is h fall_nil (by rw [List.append_nil]) h.pair).symm
/-! ### added -/
theorem add_get (i : Nat) : (addM ns ms).getD i 0 = ns.getD i 0 + ms.getD i 0 := by
  unfold addM
  by_cases hi : i < max ns.length ms.length
  · rw [List.getD_eq_getElem?_getD, List.getElem?_map, List.getElem?_range hi]
    rfl
  · rw [getD_big (by rw [List.length_map, List.length_range]; exact hi), getD_big (ns := ns) (by omega), getD_big (ns := ms) (by omega)]
    rfl
theorem add_len : (addM ns ms).length = max ns.length ms.length := by
  unfold addM
  rw [List.length_map, List.length_range]
theorem add_comm' : addM ns ms = addM ms ns := ext_getD (by rw [add_len, add_len, Nat.max_comm]) fun i => by rw [add_get, add_get, Int.add_comm]
theorem add_nil : addM ns [] = ns := ext_getD (by rw [add_len]; exact Nat.max_eq_left (Nat.zero_le _)) fun i => by
  rw [add_get]
  show ns.getD i 0 + 0 = _
  rw [Int.add_zero]
/-- a sum by places -/
theorem sum_get : ∀ (n : Nat) (ns : List Int), ns.length ≤ n → ns.sum = ((List.range n).map fun i => ns.getD i 0).sum
  | 0, ns, h => by
    have : ns = [] := List.length_eq_zero_iff.mp (by omega)
    subst this
    rfl
  | n + 1, [], h => by
    have : ((List.range (n + 1)).map fun i => ([] : List Int).getD i 0) = (List.range (n + 1)).map fun _ => (0 : Int) := rfl
    rw [this]
    have z : ∀ k : List Nat, (k.map fun _ => (0 : Int)).sum = 0 := fun k => by
      induction k with
      | nil => rfl
      | cons _ _ ih =>
        rw [List.map_cons, List.sum_cons, ih]
        rfl
    rw [z]
    rfl
  | n + 1, x :: r, h => by
    rw [List.range_succ_eq_map, List.map_cons, List.sum_cons, List.sum_cons, List.map_map, sum_get n r (by simpa using h)]
    rfl
theorem sum_add {α : Type} (f g : α → Int) : ∀ k : List α, (k.map fun i => f i + g i).sum = (k.map f).sum + (k.map g).sum
  | [] => rfl
  | x :: r => by
    simp only [List.map_cons, List.sum_cons, sum_add f g r]
    omega
theorem add_sum (h : Fall ns) (g : Fall ms) : (addM ns ms).sum = ns.sum + ms.sum := by
  have h1 := h.len
  have h2 := g.len
  rw [sum_get 12 (addM ns ms) (by rw [add_len]; omega), sum_get 12 ns (by omega), sum_get 12 ms (by omega), ← sum_add]
  exact congrArg List.sum (List.map_congr_left fun i _ => add_get i)
theorem add_fall (h : Fall ns) (g : Fall ms) (hs : ns.sum + ms.sum ≤ 12) : Fall (addM ns ms) := by
  refine ⟨fun x hx => ?_, by rw [add_sum h g]; exact hs, fun i _ => ?_⟩
  · obtain ⟨i, hi, rfl⟩ := List.getElem_of_mem hx
    have e := add_get (ns := ns) (ms := ms) i
    rw [List.getD_eq_getElem?_getD, List.getElem?_eq_getElem hi] at e
    have e' : (addM ns ms)[i] = ns.getD i 0 + ms.getD i 0 := e
    rw [e']
    rw [add_len] at hi
    have a1 := (h.at i).1
    have a2 := (g.at i).1
    by_cases h1 : i < ns.length
    · have := h.pos _ (getD_mem h1)
      omega
    · have := g.pos _ (getD_mem (by omega : i < ms.length))
      omega
  · rw [add_get, add_get]
    have := h.down i
    have := g.down i
    omega
end
end

/-! Tops, sums of kinds, all kinds of a size. -/

section
open PySem PySem.Spec PyProof.Rows L2 Gd
section
variable {P : Program} {w : World} {K : PySem.W.Frag} {mg : Str → Option Value} {base : Heap} {f C CT fT CR fR t0 : Addr} {fd : FuncData}
/-! ### joined and added -/
/-- a promise that makes a kind out of two, or refuses -/
def spTwoK (K : PySem.W.Frag) (C CT : Addr) (v : List Int → List Int → List Int) : Sp := fun vs H Q E => ∃ (p n t m q n2 t2 m2 : Addr) (ns ms : List Int), vs = [.ref p, .ref q] ∧ KindAt K C H p n t m ns ∧ KindAt K C H q n2 t2 m2 ms ∧
  (ns.sum + ms.sum ≤ 12 → ∀ H' p' n' t' m', Ext H H' → KindAt K C H' p' n' t' m' (v ns ms) → Q (.ref p') H') ∧ (12 < ns.sum + ms.sum → TooBig CT H E)
theorem scAddm : FnScope ["self", "other"] ["self", "other"] (defScope (cls 13)) := ⟨rfl, rfl, rfl, by decide +kernel, rfl, by decide +kernel, by decide +kernel⟩
theorem ok_add (F : Fun K "__add__" "Kind.__add__" (cls 13) f fd) (T : Txt K mg) (Cl : KC K mg C) (Rs : Def1 P w K mg base (L2.CX P w) 3 "require_size" ["size"] (spReqSize CT)) (N : Def1 P w K mg base CX0 1 "joined_row" ["one", "other"] (spJoined K))
    (Pn : Pro1 P w K mg base 1 C "numbers" (spGet K C fun n _ => .ref n)) (Ps : Pro1 P w K mg base 1 C "size" (spGet K C fun _ ns => .int ns.sum)) (I : Ini1 P w K mg base CX0 5 C t0 ["self", "numbers"] (spInit K C)) : FnOk P w K mg base (L2.CX P w) 7 f fd ["self", "other"] (spTwoK K C CT joinM) := by
  refine F.okX scAddm (fun vs H Q E h => ?_) (fun cdv A outer s H vs Q E hr h => ?_)
  · obtain ⟨p, n, t, m, q, n2, t2, m2, ns, ms, rfl, _⟩ := h
    rfl
  · obtain ⟨p, n, t, m, q, n2, t2, m2, ns, ms, rfl, hp, hq, k1, k2⟩ := h
    refine ⟨_, pss_cons (ps_if (pt_not (pt_val (pe_callB call_isi (by rfl) T.isinstance (by decide +kernel) (pa_cons (pv 1) (pa_cons (pe_glob (v := .ref C) (by rfl) Cl.g rfl) pa_nil))))) (pss_one ps_never) pss_nil)
      (pss_cons (ps_expr (pe_defX Rs (passes_call (takes_of rfl rfl rfl rfl) (fun _ _ _ _ h => h)) hr (by decide) (by rfl) (pa_cons (pe_op op_add (pe_pro1 Cl.cl Ps hr (by decide) (pv 0)) (pe_pro1 Cl.cl Ps hr (by decide) (pv 1))) pa_nil)))
      (pss_one (ps_ret (pe_mk1 I pass0 hr (by decide) (by rfl) Cl.g (pa_cons (pe_def N hr (by decide) (by rfl) (pa_cons (pe_fld (pv 0) rfl) (pa_cons (pe_pro1 Cl.cl Pn hr (by decide) (pv 1)) pa_nil))) pa_nil))))), ?_⟩
    try dsimp only [cx_nox, cx_K]
    walk_at "rd"
    obtain ⟨dx, hpi⟩ := hp.ins
    obtain ⟨dy, hqi⟩ := hq.ins
    refine ⟨_, _, _, _, true, rfl, .own C, Cl.ty hqi, Cl.kit, ?_⟩
    walk_at "rd"
    refine ⟨p, dx, _, rfl, hpi, p, n, t, m, ns, rfl, hp, fun H1 e1 => ?_⟩
    walk_at "rd"
    have hq1 := hq.ext e1
    obtain ⟨dy1, hqi1⟩ := hq1.ins
    refine ⟨q, dy1, _, rfl, hqi1, q, n2, t2, m2, ms, rfl, hq1, fun H2 e2 => ?_⟩
    walk_at "rd"
    have e12 := Ext.trans e1 e2
    refine ⟨_, rfl, fun h12 => ?_, fun h12 => TooBig.ext e12 (k2 h12)⟩
    walk_at "rd"
    refine g_make ?_
    walk_at "rd"
    have hp2 := hp.ext e12
    have hq2 := hq.ext e12
    obtain ⟨dx2, hpi2⟩ := hp2.ins
    refine ⟨p, C, dx2, _, _, rfl, hpi2, Cl.cl, Cl.noN, look1, ?_⟩
    walk_at "rd"
    obtain ⟨dy2, hqi2⟩ := hq2.ins
    refine ⟨q, dy2, _, rfl, hqi2, q, n2, t2, m2, ms, rfl, hq2, fun H3 e3 => ?_⟩
    walk_at "rd"
    refine ⟨n, n2, ns, ms, rfl, (hp2.ext e3).num, (hq2.ext e3).num, hp.fall, hq.fall, fun H4 u e4 hu => ?_⟩
    walk_at "rd"
    exact g_mk2 hu (join_fall hp.fall hq.fall h12) fun H' p' n' t' m' e hk => k1 h12 H' p' n' t' m' (Ext.trans e12 (Ext.trans e3 (Ext.trans e4 e))) hk
theorem scOvr : FnScope ["self", "other"] ["self", "other"] (defScope (cls 14)) := ⟨rfl, rfl, rfl, by decide +kernel, rfl, by decide +kernel, by decide +kernel⟩
theorem ok_over (F : Fun K "over" "Kind.over" (cls 14) f fd) (Cl : KC K mg C) (Rk : Def1 P w K mg base CX0 1 "require_kind" ["value"] (spReqKind K C)) (Rs : Def1 P w K mg base (L2.CX P w) 3 "require_size" ["size"] (spReqSize CT)) (N : Def1 P w K mg base CX0 2 "added_row" ["one", "other"] (spAdded K))
    (Pn : Pro1 P w K mg base 1 C "numbers" (spGet K C fun n _ => .ref n)) (Ps : Pro1 P w K mg base 1 C "size" (spGet K C fun _ ns => .int ns.sum)) (I : Ini1 P w K mg base CX0 5 C t0 ["self", "numbers"] (spInit K C)) : FnOk P w K mg base (L2.CX P w) 7 f fd ["self", "other"] (spTwoK K C CT addM) := by
  refine F.okX scOvr (fun vs H Q E h => ?_) (fun cdv A outer s H vs Q E hr h => ?_)
  · obtain ⟨p, n, t, m, q, n2, t2, m2, ns, ms, rfl, _⟩ := h
    rfl
  · obtain ⟨p, n, t, m, q, n2, t2, m2, ns, ms, rfl, hp, hq, k1, k2⟩ := h
    refine ⟨_, pss_cons (ps_expr (pe_def Rk hr (by decide) (by rfl) (pa_cons (pv 1) pa_nil)))
      (pss_cons (ps_expr (pe_defX Rs (passes_call (takes_of rfl rfl rfl rfl) (fun _ _ _ _ h => h)) hr (by decide) (by rfl) (pa_cons (pe_op op_add (pe_pro1 Cl.cl Ps hr (by decide) (pv 0)) (pe_pro1 Cl.cl Ps hr (by decide) (pv 1))) pa_nil)))
      (pss_one (ps_ret (pe_mk1 I pass0 hr (by decide) (by rfl) Cl.g (pa_cons (pe_def N hr (by decide) (by rfl) (pa_cons (pe_fld (pv 0) rfl) (pa_cons (pe_pro1 Cl.cl Pn hr (by decide) (pv 1)) pa_nil))) pa_nil))))), ?_⟩
    try dsimp only [cx_nox, cx_K]
    walk_at "rd"
    refine ⟨q, n2, t2, m2, ms, rfl, hq, ?_⟩
    walk_at "rd"
    obtain ⟨dx, hpi⟩ := hp.ins
    refine ⟨p, dx, _, rfl, hpi, p, n, t, m, ns, rfl, hp, fun H1 e1 => ?_⟩
    walk_at "rd"
    have hq1 := hq.ext e1
    obtain ⟨dy1, hqi1⟩ := hq1.ins
    refine ⟨q, dy1, _, rfl, hqi1, q, n2, t2, m2, ms, rfl, hq1, fun H2 e2 => ?_⟩
    walk_at "rd"
    have e12 := Ext.trans e1 e2
    refine ⟨_, rfl, fun h12 => ?_, fun h12 => TooBig.ext e12 (k2 h12)⟩
    walk_at "rd"
    refine g_make ?_
    walk_at "rd"
    have hp2 := hp.ext e12
    have hq2 := hq.ext e12
    obtain ⟨dx2, hpi2⟩ := hp2.ins
    refine ⟨p, C, dx2, _, _, rfl, hpi2, Cl.cl, Cl.noN, look1, ?_⟩
    walk_at "rd"
    obtain ⟨dy2, hqi2⟩ := hq2.ins
    refine ⟨q, dy2, _, rfl, hqi2, q, n2, t2, m2, ms, rfl, hq2, fun H3 e3 => ?_⟩
    walk_at "rd"
    refine ⟨n, n2, ns, ms, rfl, (hp2.ext e3).num.sq, (hq2.ext e3).num.sq, hp.fall, hq.fall, fun H4 u e4 hu => ?_⟩
    walk_at "rd"
    exact g_mk2 hu (add_fall hp.fall hq.fall h12) fun H' p' n' t' m' e hk => k1 h12 H' p' n' t' m' (Ext.trans e12 (Ext.trans e3 (Ext.trans e4 e))) hk
/-! ### tops -/
theorem g_neS2 {H : Hp} {Q : VK} {i j : Int} (e : i ≠ j) (k : Q (.bl true) H) : rNe (.int i) (.int j) H Q := ⟨rfl, by simpa [e] using k⟩
def OddSize (K : PySem.W.Frag) (CR : Addr) (i j : Int) (H : Hp) (E : XK) : Prop := ∀ H' d a, Ext H H' → H' d = none → SqT K H' a [.str "size", .int i, .int j] → E (.ref CR) (some d) (upd H' d (.xd [(("reason" : Str), .ref a)]))
def spTopsE (K : PySem.W.Frag) (C CR : Addr) : Sp := fun vs H Q E => ∃ (p n t m q n2 t2 m2 : Addr) (ns ms : List Int), vs = [.ref p, .ref q] ∧ KindAt K C H p n t m ns ∧ KindAt K C H q n2 t2 m2 ms ∧ (ns.sum = ms.sum → ∀ H' b, Ext H H' → Q (.bl b) H') ∧ (ns.sum ≠ ms.sum → OddSize K CR ns.sum ms.sum H E)
theorem scTopsE : FnScope ["self", "other"] ["self", "other"] (defScope (cls 12)) := ⟨rfl, rfl, rfl, by decide +kernel, rfl, by decide +kernel, by decide +kernel⟩
theorem ok_topsE (F : Fun K "tops" "Kind.tops" (cls 12) f fd) (Cl : KC K mg C) (R : PySem.XRefused.RefusedTxt K mg CR fR) (Rk : Def1 P w K mg base CX0 1 "require_kind" ["value"] (spReqKind K C)) (N : Def1 P w K mg base CX0 1 "is_topped" ["row", "other"] (spTopped K))
    (Pn : Pro1 P w K mg base 1 C "numbers" (spGet K C fun n _ => .ref n)) (Ps : Pro1 P w K mg base 1 C "size" (spGet K C fun _ ns => .int ns.sum)) : FnOk P w K mg base (L2.CX P w) 4 f fd ["self", "other"] (spTopsE K C CR) := by
  refine F.okX scTopsE (fun vs H Q E h => ?_) (fun cdv A outer s H vs Q E hr h => ?_)
  · obtain ⟨p, n, t, m, q, n2, t2, m2, ns, ms, rfl, _⟩ := h
    rfl
  · obtain ⟨p, n, t, m, q, n2, t2, m2, ns, ms, rfl, hp, hq, k1, k2⟩ := h
    refine ⟨_, pss_cons (ps_expr (pe_def Rk hr (by decide) (by rfl) (pa_cons (pv 1) pa_nil)))
      (pss_cons (ps_if (pt_cmpR op_ne (pe_pro1 Cl.cl Ps hr (by decide) (pv 0)) (pe_pro1 Cl.cl Ps hr (by decide) (pv 1)) (nomark _)) (pss_one (ps_raiseRefused rfl R hr (takes_of rfl rfl rfl rfl) (by exact (pa_cons (pe_tup (pa_cons pe_str (pa_cons (pe_pro1 Cl.cl Ps hr (by decide) (pv 0)) (pa_cons (pe_pro1 Cl.cl Ps hr (by decide) (pv 1)) pa_nil)))) pa_nil)))) pss_nil)
      (pss_one (ps_ret (pe_def N hr (by decide) (by rfl) (pa_cons (pe_pro1 Cl.cl Pn hr (by decide) (pv 1)) (pa_cons (pe_fld (pv 0) rfl) pa_nil)))))), ?_⟩
    try dsimp only [cx_nox, cx_K]
    walk_at "rd"
    refine ⟨q, n2, t2, m2, ms, rfl, hq, ?_⟩
    obtain ⟨dx, hpi⟩ := id hp.ins
    walk_at "rd"
    refine ⟨p, dx, _, rfl, hpi, p, n, t, m, ns, rfl, hp, fun H1 e1 => ?_⟩
    walk_at "rd"
    have hq1 := hq.ext e1
    have hp1 := hp.ext e1
    obtain ⟨dy, hqi⟩ := id hq1.ins
    refine ⟨q, dy, _, rfl, hqi, q, n2, t2, m2, ms, rfl, hq1, fun H2 e2 => ?_⟩
    walk_at "rd"
    have e12 := Ext.trans e1 e2
    have hq2 := hq.ext e12
    have hp2 := hp.ext e12
    obtain ⟨dx2, hpi2⟩ := id hp2.ins
    obtain ⟨dy2, hqi2⟩ := id hq2.ins
    by_cases hs : ns.sum = ms.sum
    · refine g_neS1 hs ?_
      walk_at "rd"
      refine ⟨q, dy2, _, rfl, hqi2, q, n2, t2, m2, ms, rfl, hq2, fun H3 e3 => ?_⟩
      walk_at "rd"
      obtain ⟨dx3, hpi3⟩ := id (hp2.ext e3).ins
      refine ⟨p, C, dx3, _, _, rfl, hpi3, Cl.cl, Cl.noN, look1, ?_⟩
      walk_at "rd"
      exact ⟨n2, n, ms, ns, rfl, (hq2.ext e3).num.sq, (hp2.ext e3).num.sq, hq.fall, hp.fall, fun H4 e4 => k1 hs H4 _ (Ext.trans e12 (Ext.trans e3 e4))⟩
    · refine g_neS2 hs ?_
      walk_at "rd"
      unfold tRaiseRefused tMkRefused
      walk_at "rd"
      refine ⟨p, dx2, _, rfl, hpi2, p, n, t, m, ns, rfl, hp2, fun H3 e3 => ?_⟩
      have hq3 := hq2.ext e3
      obtain ⟨dy3, hqi3⟩ := id hq3.ins
      walk_at "rd"
      refine ⟨q, dy3, _, rfl, hqi3, q, n2, t2, m2, ms, rfl, hq3, fun H4 e4 => ?_⟩
      walk_at "rd"
      refine ⟨by show 3 ≤ sizeLine; decide, fun a ha => ?_⟩
      have ea := Ext.new (o := HO.tup [V.str ("size" : Str), V.int ns.sum, V.int ms.sum]) ha
      exact ⟨_, rfl, fun d hd => k2 hs _ d a (Ext.trans e12 (Ext.trans e3 (Ext.trans e4 ea))) hd (SqT.of upd_same)⟩
end
end

/-! Kind.read of what is no text; all kinds of the greatest size. -/

section
open PySem PySem.Spec PyProof.Rows L2 Gd
section
variable {P : Program} {w : World} {K : PySem.W.Frag} {mg : Str → Option Value} {base : Heap} {f C CI CO CN CT fT CR fR t0 : Addr} {fd : FuncData}
theorem scRead : FnScope ["cls", "text", "index"] ["cls", "text"] (defScope (cls 1)) := ⟨rfl, rfl, rfl, by decide +kernel, rfl, by decide +kernel, by decide +kernel⟩
def spReadX (K : PySem.W.Frag) (CO : Addr) : Sp := fun vs H _ E => ∃ (c x : V) (t : Value), vs = [c, x] ∧ TyX K H x t ∧ PySem.W.kitOne K t (.type "str") = some false ∧ Bad0 CO H E
theorem ok_readX (F : Fun K "read" "Kind.read" (cls 1) f fd) (T : Txt K mg) (N : OwnX K mg "InvalidOperation" CO) : FnOk P w K mg base (L2.CX P w) 2 f fd ["cls", "text"] (spReadX K CO) := by
  refine F.okX scRead (fun vs H Q E h => ?_) (fun cdv A outer s H vs Q E hr h => ?_)
  · obtain ⟨c, x, t, rfl, _⟩ := h
    rfl
  · obtain ⟨c, x, t, rfl, ht, hk, k⟩ := h
    refine ⟨_, pss_cons (ps_if (pt_not (pt_val (pe_callB call_isi (by rfl) T.isinstance (by decide +kernel) (pa_cons (pv 1) (pa_cons (pe_bltn (v := .ty "str") (by rfl) T.str (by decide +kernel) rfl) pa_nil))))) (pss_one (ps_raiseOwn rfl N (takes_of rfl rfl rfl rfl) (by rfl))) pss_nil) pss_never, ?_⟩
    try dsimp only [cx_nox, cx_K]
    walk_at "rd"
    refine ⟨_, _, _, _, false, rfl, .ty _, ht, hk, ?_⟩
    walk_at "rd"
    exact k H (fun _ _ z => z)
theorem scKoF : FnScope ["size", "row"] ["size"] (defScope s_koX) := ⟨rfl, rfl, rfl, by decide +kernel, rfl, by decide +kernel, by decide +kernel⟩
def spKoF : Sp := fun vs H Q _ => vs = [.int 12] ∧ ∀ H' v, Ext H H' → Q v H'
theorem ok_koF (F : Fun K "kinds_of" "kinds_of" s_koX f fd) (T : Txt K mg) (Cl : KC K mg C) (Rw : Def1 P w K mg base CX0 4 "require_within" ["value", "low", "high"] (spReqWi K)) (Fr : Def1 P w K mg base CX0 14 "falling_rows" ["total", "greatest"] (spFR K 13))
    (I : Ini1 P w K mg base CX0 5 C t0 ["self", "numbers"] (spInit K C)) : FnOk P w K mg base CX0 15 f fd ["size"] spKoF := by
  obtain ⟨tM, gM⟩ := Cl.most
  refine F.ok scKoF (fun vs H Q E h => ?_) (fun cdv A outer s H vs Q E hr h => ?_)
  · obtain ⟨rfl, _⟩ := h
    rfl
  · obtain ⟨rfl, k⟩ := h
    refine ⟨_, pss_cons (ps_expr (pe_def Rw hr (by decide) (by rfl) (pa_cons (pv 0) (pa_cons pe_int (pa_cons (pe_glob (v := .int 12) (by rfl) gM ⟨_, rfl⟩) pa_nil)))))
      (pss_one (ps_ret (pe_callTy call_tupX (by rfl) T.tuple (by decide +kernel) (pa_cons (pe_lc (own := [("row", 1)]) (g := gName 1) (tt := tYes) rfl scKoF.nd (pi_list (pe_def Fr hr (by decide) (by rfl) (pa_cons (pv 0) (pa_cons (pv 0) pa_nil)))) (blkOk_by (N := ["size", "row"]) (sc := defScope s_koX) (by decide +kernel)) (fun _ _ _ _ _ => pg_name (i := 1) scKoF.nd rfl (Or.inl rfl)) (fun _ _ _ _ _ => pts_nil) (fun _ _ _ _ _ => by exact (pe_mk1 I pass0 hr (by decide) (by rfl) Cl.g (pa_cons (pv 1) pa_nil)))) pa_nil)))), ?_⟩
    try dsimp only [cx_nox, cx_K]
    walk_at "rd"
    refine ⟨12, 0, 12, rfl, by decide, by decide, by decide, by decide, ?_⟩
    walk_at "rd"
    refine g_lc (g_ilist ?_)
    walk_at "rd"
    refine ⟨12, 12, rfl, by decide, by decide, by decide, fun H1 Fa fs e1 _ hF hfs => ?_⟩
    walk_at "rd"
    have hl := pair_len hfs
    refine lcPL (SqL.of hF) hl (by rw [hl]; exact rows_few (Nat.le_refl _)) [] (fun _ => true) (fun r => r) (KO K C) (fun _ _ _ _ e r => r.keeps e) (fun i x r H2 hx hr2 e2 Qe Qn he hn => ?_) (fun H2 D ys e2 hD hd hys => ?_)
    · obtain ⟨r', hr', b, rfl, hb⟩ := pair_at hfs i x hx
      obtain rfl : r' = r := Option.some.inj (hr'.symm.trans hr2)
      have hFr := (rows_fall (Nat.le_refl _) (List.mem_of_getElem? hr')).1
      refine ⟨rfl, ?_⟩
      walk_at "rd"
      refine g_make ?_
      walk_at "rd"
      exact g_mk2 (hb.ext e2) hFr fun H5 q n2 t2 m2 e5 hq => he _ H5 e5 rfl ⟨q, n2, t2, m2, rfl, hq⟩
    · walk_at "rd"
      refine ⟨D, _, rfl, .inl ⟨SqL.of hd, fun l o hl ho => ?_⟩⟩
      exact k _ _ (Ext.trans e1 (Ext.trans e2 (Ext.new hl)))
end
end

/-! The steps, fine or refused, in one promise. -/

section
open PySem PySem.Spec PyProof.Rows L2 Gd
section
variable {P : Program} {w : World} {K : PySem.W.Frag} {mg : Str → Option Value} {base : Heap} {f C CI CO CN CT fT CR fR t0 : Addr} {fd : FuncData}
/-- steps that are fine, whatever they are -/
def spStF (K : PySem.W.Frag) (C : Addr) : Sp := fun vs H Q _ => ∃ (p n t m : Addr) (ns : List Int) (many : Int), vs = [.ref p, .int many] ∧ KindAt K C H p n t m ns ∧ 0 ≤ many ∧ ns.sum + many ≤ 12 ∧ ∀ H' v, Ext H H' → Q v H'
theorem fn_cx {k : Nat} {ps : List Str} {sp : Sp} (h : FnOk P w K mg base CX0 k f fd ps sp) : FnOk P w K mg base (L2.CX P w) k f fd ps sp := ⟨h.len, fun A o s H a us vs Q E hr he hb hv hs => codeAny_mono (h.run A o s H a us vs Q E hr he hb hv hs) fun r s' hq => by
  cases r with
  | error e => exact False.elim hq
  | ok fl => cases fl <;> exact hq⟩
theorem ok_stF {b : List Int → List Int → Bool} (h : FnOk P w K mg base CX0 16 f fd ["kind", "many"] (spSteps K C b)) : FnOk P w K mg base CX0 16 f fd ["kind", "many"] (spStF K C) := h.imp fun vs H Q E q => by
  obtain ⟨p, n, t, m, ns, many, rfl, hp, h0, h12, k⟩ := q
  have hs := hp.fall.sum0
  exact ⟨p, n, t, m, ns, many.toNat, (ns.sum + many).toNat, by rw [Int.toNat_of_nonneg h0], hp, by omega, by omega, fun H' u ys e _ _ => k H' _ e⟩
/-- a step: fine, or refused -/
def spStep (K : PySem.W.Frag) (C CI CN CT : Addr) : Sp := fun vs H Q E => spRoE K C CI CN CT vs H Q E ∨ spStF K C vs H Q E
theorem ok_step {b : List Int → List Int → Bool} (h1 : FnOk P w K mg base (L2.CX P w) 7 f fd ["kind", "many"] (spRoE K C CI CN CT)) (h2 : FnOk P w K mg base CX0 16 f fd ["kind", "many"] (spSteps K C b)) : FnOk P w K mg base (L2.CX P w) 16 f fd ["kind", "many"] (spStep K C CI CN CT) :=
  fn_or (h1.mono (by decide)) (fn_cx (ok_stF h2))
/-- a def that steps -/
def StepAt (P : Program) (w : World) (K : PySem.W.Frag) (mg : Str → Option Value) (base : Heap) (C CI CN CT f : Addr) : Prop := PySem.W.keepIn K (.ref f) = true ∧ FnR P w K mg base (L2.CX P w) 16 f (spStep K C CI CN CT)
theorem stepAt (hk : PySem.W.keepIn K (.ref f) = true) (h : FnOk P w K mg base (L2.CX P w) 16 f fd ["kind", "many"] (spStep K C CI CN CT)) (hb : Binds K fd ["kind", "many"] []) : StepAt P w K mg base C CI CN CT f :=
  ⟨hk, (h.raw hb .nil).imp fun vs H Q E q => by
    rw [List.append_nil]
    exact q⟩
end
end

/-! The wrong numbers that the law draws. -/

section
open PySem PySem.Spec PyProof.Rows L2 Gd
open LamX (ExtN)
/-- all but the object at r and the tables stays -/
def ExtR (r : Addr) (H H' : Hp) : Prop := ∀ b o, b ≠ r → H b = some o → (∀ ps, o ≠ .tbl ps) → H' b = some o
theorem ExtR.trans {r : Addr} {H H1 H2 : Hp} (a : ExtR r H H1) (b : ExtR r H1 H2) : ExtR r H H2 := fun x o n h z => b x o n (a x o n h z) z
theorem ExtR.n {r : Addr} {H H1 : Hp} (a : ExtN H H1) : ExtR r H H1 := fun x o _ h z => a x o h z
theorem ExtR.of {r : Addr} {H H1 : Hp} (a : Ext H H1) : ExtR r H H1 := fun x o _ h _ => a x o h
/-- tuples whose one element is no integer from 1 to 12 -/
inductive OddEl (H : Hp) : V → Prop
  | str : OddEl H (.str "1")
  | bl : OddEl H (.bl true)
  | tup {a : Addr} {xs : List V} (h : H a = some (.tup xs)) : OddEl H (.ref a)
  | non : OddEl H .non
theorem OddEl.with {K : PySem.W.Frag} {H H' : Hp} {v : V} (e : Ext H H') (h : OddEl H v) {lo hi : Int} : WithB K H' v lo hi false := by
  cases h with
  | str => exact .inr ⟨whole_str, rfl⟩
  | bl => exact .inr ⟨whole_bl, rfl⟩
  | tup h => exact .inr ⟨whole_tup (e _ _ h), rfl⟩
  | non => exact .inr ⟨whole_non, rfl⟩
/-- what the law gives for numbers -/
inductive WrongV (K : PySem.W.Frag) (H : Hp) : V → Prop
  | non : WrongV K H .non
  | three : WrongV K H (.int 3)
  | txt : WrongV K H (.str "[2 1]")
  | dct {a : Addr} (h : H a = some (.dK [])) : WrongV K H (.ref a)
  | lst {a : Addr} {xs : List V} (h : H a = some (.lst xs)) : WrongV K H (.ref a)
  | nums {a : Addr} {ms : List Int} (h : SqT K H a (ms.map V.int)) (hl : ms.length ≤ 100) (hb : fallB ms = false) : WrongV K H (.ref a)
  | one {a : Addr} {v : V} (h : H a = some (.tup [v])) (hv : OddEl H v) : WrongV K H (.ref a)
  | two {a : Addr} (h : H a = some (.tup [.int 2, .bl true])) : WrongV K H (.ref a)
theorem notFall {ms : List Int} (hb : fallB ms = false) : (∃ n ∈ ms, ¬ (1 ≤ n ∧ n ≤ 12)) ∨ ((∀ n ∈ ms, 1 ≤ n ∧ n ≤ 12) ∧ (12 < ms.sum ∨ ∃ i : Nat, i + 1 < ms.length ∧ ms.getD i 0 < ms.getD (i + 1) 0)) := by
  by_cases h : ∀ n ∈ ms, 1 ≤ n ∧ n ≤ 12
  · refine .inr ⟨h, ?_⟩
    by_cases hs : 12 < ms.sum
    · exact .inl hs
    · refine .inr ?_
      by_cases hd : ∃ i : Nat, i + 1 < ms.length ∧ ms.getD i 0 < ms.getD (i + 1) 0
      · exact hd
      · exfalso
        have : fallB ms = true := by
          unfold fallB
          simp only [Bool.and_eq_true, List.all_eq_true, decide_eq_true_eq, List.mem_range]
          refine ⟨⟨fun x hx => (h x hx).1, by omega⟩, fun i hi => ?_⟩
          by_cases hlt : ms.getD i 0 < ms.getD (i + 1) 0
          · exact absurd ⟨i, by omega, hlt⟩ hd
          · omega
        rw [this] at hb
        cases hb
  · refine .inl ?_
    by_cases hx : ∃ n ∈ ms, ¬ (1 ≤ n ∧ n ≤ 12)
    · exact hx
    · refine absurd (fun n hn => ?_) h
      by_cases hn2 : 1 ≤ n ∧ n ≤ 12
      · exact hn2
      · exact absurd ⟨n, hn, hn2⟩ hx
theorem paired_bits {K : PySem.W.Frag} {H : Hp} : ∀ ms : List Int, Paired (fun v b => ∀ H', Ext H H' → WithB K H' v 1 12 b) (ms.map V.int) (ms.map fun n => decide (1 ≤ n ∧ n ≤ 12))
  | [] => .nil
  | n :: r => .cons (fun H' _ => .inl ⟨n, rfl, rfl⟩) (paired_bits r)
theorem WrongV.row {K : PySem.W.Frag} {H : Hp} {x : V} (h : WrongV K H x) : NotRow K H x := by
  cases h with
  | non => exact .kd (.base .non) (by kernel_rfl)
  | three => exact .kd (.base (.int 3)) (by kernel_rfl)
  | txt => exact .kd (.base (.str _)) (by kernel_rfl)
  | dct h => exact .kd (.base (.dK h)) (by kernel_rfl)
  | lst h => exact .kd (.base (.lst h)) (by kernel_rfl)
  | @nums a ms h hl hb =>
    have hs := h
    rcases notFall hb with ⟨n, hn, hx⟩ | ⟨h1, h2⟩
    · exact .od hs (by rw [List.length_map]; exact hl) (paired_bits ms) (List.mem_map.mpr ⟨n, hn, decide_eq_false hx⟩)
    · exact .nm hs hl h1 h2
  | one h hv => exact .od (bs := [false]) (SqT.of h) (by show 1 ≤ 100; decide) (.cons (fun H' e => hv.with e) .nil) (List.mem_singleton.mpr rfl)
  | two h => exact .od (bs := [true, false]) (SqT.of h) (by show 2 ≤ 100; decide) (.cons (fun H' _ => .inl ⟨2, rfl, rfl⟩) (.cons (fun H' _ => .inr ⟨whole_bl, rfl⟩) .nil)) (by simp)
theorem OddEl.extR {r : Addr} {H H' : Hp} {v : V} (hr : H r = none) (e : ExtR r H H') (h : OddEl H v) : OddEl H' v := by
  cases h with
  | str => exact .str
  | bl => exact .bl
  | tup h => exact .tup (e _ _ (fun z => by rw [z, hr] at h; cases h) h (fun _ z => by cases z))
  | non => exact .non
theorem WrongV.extR {K : PySem.W.Frag} {r : Addr} {H H' : Hp} {x : V} (hr : H r = none) (e : ExtR r H H') (h : WrongV K H x) : WrongV K H' x := by
  have go : ∀ {a : Addr} {o : HO}, H a = some o → (∀ ps, o ≠ .tbl ps) → H' a = some o := fun {a o} h n => e _ _ (fun z => by rw [z, hr] at h; cases h) h n
  cases h with
  | non => exact .non
  | three => exact .three
  | txt => exact .txt
  | dct h => exact .dct (go h (fun _ z => by cases z))
  | lst h => exact .lst (go h (fun _ z => by cases z))
  | @nums a ms h hl hb => exact .nums (by rcases h with (h | ⟨o, h⟩) | h; exact .inl (.inl (go h (fun _ z => by cases z))); exact .inl (.inr ⟨o, go h (fun _ z => by cases z)⟩); exact .inr h) hl hb
  | one h hv => exact .one (go h (fun _ z => by cases z)) (hv.extR hr e)
  | two h => exact .two (go h (fun _ z => by cases z))
end

/-! The wrong numbers that the law draws: the def. -/

section
open PySem PySem.Spec PyProof.Rows L2 Gd
section
variable {P : Program} {w : World} {K : PySem.W.Frag} {mg : Str → Option Value} {base : Heap} {f : Addr} {fd : FuncData}
theorem fallB_snoc {ns : List Int} {k : Int} (h : k < 1 ∨ 12 < k) : fallB (ns ++ [k]) = false := by
  cases e : fallB (ns ++ [k]) with
  | false => rfl
  | true =>
    have F := fall_of e
    have h1 := F.pos k (by simp)
    have h2 := F.le k (by simp)
    omega
abbrev sWrongN : Stmt := top 48
theorem scWrongN : FnScope ["_law_dice_here", "_law_numbers", "_law_odd"] ["_law_dice_here", "_law_numbers"] (defScope sWrongN) := ⟨rfl, rfl, rfl, by decide +kernel, rfl, by decide +kernel, by decide +kernel⟩
def spWrongN (K : PySem.W.Frag) : Sp := fun vs H Q _ => ∃ (d a : Addr) (ns : List Int), vs = [.ref d, .ref a] ∧ DiceAt H d ∧ TupX K H a (ns.map V.int) ∧ Fall ns ∧ ∀ H' x, ExtBut d H H' → DiceAt H' d → WrongV K H' x → Q x H'
theorem ok_wrongN (F : Fun K "_law_wrong_numbers" "_law_wrong_numbers" sWrongN f fd) (T : Txt K mg) (Pi : Def1 P w K mg base CX0 2 "_law_pick" ["_law_dice_here", "_law_items"] (spPick K)) : FnOk P w K mg base CX0 3 f fd ["_law_dice_here", "_law_numbers"] (spWrongN K) := by
  refine F.ok scWrongN (fun vs H Q E h => ?_) (fun cdv A outer s H vs Q E hr h => ?_)
  · obtain ⟨d, a, ns, rfl, _⟩ := h
    rfl
  · obtain ⟨d, a, ns, rfl, hd, ha, hF, k⟩ := h
    refine ⟨_, pss_cons (ps_set (i := 2) scWrongN.nd rfl (Or.inl rfl) (pe_lst (pa_cons (pe_callTy call_list_of (by rfl) T.list (by decide +kernel) (pa_cons (pv 1) pa_nil)) (pa_cons (pe_op op_catX (pv 1) (pe_tupX (pa_cons pe_int pa_nil))) (pa_cons (pe_op op_catX (pv 1) (pe_tupX (pa_cons (pe_un un_neg pe_int) pa_nil))) (pa_cons (pe_tup (pa_cons pe_int pa_nil)) (pa_cons (pe_op op_repB (pe_tup (pa_cons pe_int pa_nil)) pe_int) (pa_cons (pe_tup (pa_cons pe_int (pa_cons pe_int pa_nil))) (pa_cons (pe_tup (pa_cons pe_int (pa_cons pe_int pa_nil))) (pa_cons pe_non (pa_cons pe_int (pa_cons pe_str (pa_cons (pe_dnewK) (pa_cons (pe_tup (pa_cons pe_str pa_nil)) pa_nil))))))))))))))
      (pss_one (ps_ret (pe_def Pi hr (by decide) (by rfl) (pa_cons (pv 0) (pa_cons (pe_op op_cat (pv 2) (pe_lst (pa_cons (pe_tup (pa_cons pe_bl pa_nil)) (pa_cons (pe_tup (pa_cons pe_int (pa_cons pe_bl pa_nil))) (pa_cons (pe_tup (pa_cons (pe_tup (pa_cons pe_int pa_nil)) pa_nil)) (pa_cons (pe_tup (pa_cons pe_non pa_nil)) (pa_cons (pe_tup (pa_cons (pe_op op_pow pe_int pe_int) pa_nil)) (pa_cons (pe_op op_catX (pv 1) (pe_tupX (pa_cons pe_int pa_nil))) pa_nil)))))))) pa_nil))))), ?_⟩
    try dsimp only [cx_nox, cx_K]
    have hlen := hF.len
    walk_at "rd"
    refine ⟨a, _, rfl, .inr ha.sq, fun l1 n1 => ?_⟩
    have e1 := Ext.new (o := HO.lst (ns.map V.int)) n1
    walk_at "rd"
    refine g_tupX ?_
    walk_at "rd"
    refine ⟨by show 1 ≤ sizeLine; decide, fun u2 o2 n2 ho2 => ?_⟩
    have e2 := Ext.new (o := HO.frz o2 (.tup [V.int 0])) n2
    have ha2 := ha.ext (Ext.trans e1 e2)
    refine ⟨a, u2, ns.map V.int, [V.int 0], rfl, rfl, ha2, TupX.new ho2, by rw [List.length_map]; exact Nat.le_of_lt (small (by show ns.length + 1 ≤ 1000; omega)), fun H3 p3 e3 t3 => ?_⟩
    walk_at "rd"
    refine g_tupX ?_
    walk_at "rd"
    refine ⟨by show 1 ≤ sizeLine; decide, fun u4 o4 n4 ho4 => ?_⟩
    have e4 := Ext.new (o := HO.frz o4 (.tup [V.int (-1)])) n4
    have ha4 := ha2.ext (Ext.trans e3 e4)
    refine ⟨a, u4, ns.map V.int, [V.int (-1)], rfl, rfl, ha4, TupX.new ho4, by rw [List.length_map]; exact Nat.le_of_lt (small (by show ns.length + 1 ≤ 1000; omega)), fun H5 p5 e5 t5 => ?_⟩
    walk_at "rd"
    refine ⟨by show 1 ≤ sizeLine; decide, fun u6 n6 => ?_⟩
    have e6 := Ext.new (o := HO.tup [V.int 13]) n6
    walk_at "rd"
    refine ⟨by show 1 ≤ sizeLine; decide, fun u7 n7 => ?_⟩
    have e7 := Ext.new (o := HO.tup [V.int 1]) n7
    walk_at "rd"
    refine ⟨u7, 13, [V.int 1], rfl, rfl, SqT.of upd_same, by simp, by decide, by decide, by decide, fun z => absurd z (by decide), fun _ u8 n8 => ?_⟩
    have e8 := Ext.new (o := HO.tup (List.replicate (13 : Int).toNat [V.int 1]).flatten) n8
    walk_at "rd"
    refine ⟨by show 2 ≤ sizeLine; decide, fun u9 n9 => ?_⟩
    have e9 := Ext.new (o := HO.tup [V.int 7, V.int 6]) n9
    walk_at "rd"
    refine ⟨by show 2 ≤ sizeLine; decide, fun u10 n10 => ?_⟩
    have e10 := Ext.new (o := HO.tup [V.int 1, V.int 2]) n10
    walk_at "rd"
    intro u11 n11
    have e11 := Ext.new (o := HO.dK []) n11
    walk_at "rd"
    refine ⟨by show 1 ≤ sizeLine; decide, fun u12 n12 => ?_⟩
    have e12 := Ext.new (o := HO.tup [V.str "1"]) n12
    walk_at "rd"
    refine ⟨by show 12 ≤ sizeLine; decide, fun L nL => ?_⟩
    have e13 := Ext.new (o := HO.lst [V.ref l1, V.ref p3, V.ref p5, V.ref u6, V.ref u8, V.ref u9, V.ref u10, V.non, V.int 3, V.str "[2 1]", V.ref u11, V.ref u12]) nL
    walk_at "rd"
    refine ⟨by show 1 ≤ sizeLine; decide, fun u14 n14 => ?_⟩
    have e14 := Ext.new (o := HO.tup [V.bl true]) n14
    walk_at "rd"
    refine ⟨by show 2 ≤ sizeLine; decide, fun u15 n15 => ?_⟩
    have e15 := Ext.new (o := HO.tup [V.int 2, V.bl true]) n15
    walk_at "rd"
    refine ⟨by show 1 ≤ sizeLine; decide, fun u16 n16 => ?_⟩
    have e16 := Ext.new (o := HO.tup [V.int 1]) n16
    walk_at "rd"
    refine ⟨by show 1 ≤ sizeLine; decide, fun u17 n17 => ?_⟩
    have e17 := Ext.new (o := HO.tup [V.ref u16]) n17
    walk_at "rd"
    refine ⟨by show 1 ≤ sizeLine; decide, fun u18 n18 => ?_⟩
    have e18 := Ext.new (o := HO.tup [V.non]) n18
    walk_at "rd"
    refine g_I ⟨by decide, by decide, by decide⟩ ?_
    walk_at "rd"
    refine ⟨by show 1 ≤ sizeLine; decide, fun u19 n19 => ?_⟩
    have e19 := Ext.new (o := HO.tup [V.int (10 ^ Int.toNat 60)]) n19
    walk_at "rd"
    refine g_tupX ?_
    walk_at "rd"
    refine ⟨by show 1 ≤ sizeLine; decide, fun u20 o20 n20 ho20 => ?_⟩
    have e20 := Ext.new (o := HO.frz o20 (.tup [V.int 99])) n20
    have c1920 := Ext.trans e19 e20
    have c520 := Ext.trans e6 (Ext.trans e7 (Ext.trans e8 (Ext.trans e9 (Ext.trans e10 (Ext.trans e11 (Ext.trans e12 (Ext.trans e13 (Ext.trans e14 (Ext.trans e15 (Ext.trans e16 (Ext.trans e17 (Ext.trans e18 c1920))))))))))))
    have ha20 := (ha4.ext e5).ext c520
    refine ⟨a, u20, ns.map V.int, [V.int 99], rfl, rfl, ha20, TupX.new ho20, by rw [List.length_map]; exact Nat.le_of_lt (small (by show ns.length + 1 ≤ 1000; omega)), fun H21 p21 e21 t21 => ?_⟩
    walk_at "rd"
    refine ⟨by show 6 ≤ sizeLine; decide, fun L2 nL2 => ?_⟩
    have e22 := Ext.new (o := HO.lst [V.ref u14, V.ref u15, V.ref u17, V.ref u18, V.ref u19, V.ref p21]) nL2
    have c22 : Ext H21 _ := e22
    have b21 := Ext.trans e21 e22
    have b20 := b21
    have b18 := Ext.trans c1920 b20
    have b17 := Ext.trans e18 b18
    have b16 := Ext.trans e17 b17
    have b15 := Ext.trans e16 b16
    have b14 := Ext.trans e15 b15
    have b13 := Ext.trans e14 b14
    have b12 := Ext.trans e13 b13
    have b11 := Ext.trans e12 b12
    have b10 := Ext.trans e11 b11
    have b9 := Ext.trans e10 b10
    have b8 := Ext.trans e9 b9
    have b7 := Ext.trans e8 b8
    have b6 := Ext.trans e7 b7
    have b5 := Ext.trans e6 b6
    have b3 := Ext.trans e4 (Ext.trans e5 b5)
    have b1 := Ext.trans e2 (Ext.trans e3 b3)
    have hL := b13 _ _ upd_same
    refine ⟨L, L2, _, _, rfl, rfl, hL, upd_same, by show 18 ≤ sizeLine; decide, fun L3 nL3 => ?_⟩
    walk_at "rd"
    have e23 := Ext.new (o := HO.lst ([V.ref l1, V.ref p3, V.ref p5, V.ref u6, V.ref u8, V.ref u9, V.ref u10, V.non, V.int 3, V.str "[2 1]", V.ref u11, V.ref u12] ++ [V.ref u14, V.ref u15, V.ref u17, V.ref u18, V.ref u19, V.ref p21])) nL3
    have eAll := Ext.trans e1 (Ext.trans b1 e23)
    have hdA := hd.ext eAll
    refine ⟨d, L3, _, rfl, hdA, SqL.of upd_same, dice_none (hd.ext (Ext.trans e1 b1)) nL3, by show 0 < 18; decide, by show 18 ≤ 5000; decide, fun H' x eB hd' hx => k H' x (ExtBut.trans (ExtBut.of eAll) eB) hd' ?_⟩
    have kd := dice_keepsX hdA eB
    have keep : ∀ {b : Addr} {o : HO}, (∀ xs, o ≠ .lst xs) → upd H21 L2 (HO.lst [V.ref u14, V.ref u15, V.ref u17, V.ref u18, V.ref u19, V.ref p21]) b = some o → H' b = some o := fun {b o} n z => kd b o n (e23 b o z)
    have nl1 : l1 ≠ d := fun z => by
      obtain ⟨_, _, _, q, _⟩ := hd
      rw [← z, n1] at q
      cases q
    have f1 := eB l1 _ nl1 (e23 _ _ (b1 _ _ upd_same))
    have f3 : SqT K H' p3 ((ns ++ [0]).map V.int) := by
      rw [List.map_append]
      exact (TupX.keeps kd ((t3.ext b3).ext e23)).sq
    have f5 : SqT K H' p5 ((ns ++ [-1]).map V.int) := by
      rw [List.map_append]
      exact (TupX.keeps kd ((t5.ext b5).ext e23)).sq
    have f21 : SqT K H' p21 ((ns ++ [99]).map V.int) := by
      rw [List.map_append]
      exact (TupX.keeps kd ((t21.ext c22).ext e23)).sq
    have f6 := keep (fun _ z => by cases z) (b6 _ _ upd_same)
    have f8 := keep (fun _ z => by cases z) (b8 _ _ upd_same)
    have f9 := keep (fun _ z => by cases z) (b9 _ _ upd_same)
    have f10 := keep (fun _ z => by cases z) (b10 _ _ upd_same)
    have f11 := keep (fun _ z => by cases z) (b11 _ _ upd_same)
    have f12 := keep (fun _ z => by cases z) (b12 _ _ upd_same)
    have f14 := keep (fun _ z => by cases z) (b14 _ _ upd_same)
    have f15 := keep (fun _ z => by cases z) (b15 _ _ upd_same)
    have f16 := keep (fun _ z => by cases z) (b16 _ _ upd_same)
    have f17 := keep (fun _ z => by cases z) (b17 _ _ upd_same)
    have f18 := keep (fun _ z => by cases z) (b18 _ _ upd_same)
    have f19 := keep (fun _ z => by cases z) (Ext.trans e20 b20 _ _ upd_same)
    simp only [List.cons_append, List.nil_append, List.mem_cons, List.not_mem_nil, or_false] at hx
    have lns : (ns ++ [(0 : Int)]).length ≤ 100 := by rw [List.length_append, List.length_singleton]; omega
    rcases hx with rfl | rfl | rfl | rfl | rfl | rfl | rfl | rfl | rfl | rfl | rfl | rfl | rfl | rfl | rfl | rfl | rfl | rfl
    · exact .lst f1
    · exact .nums f3 lns (fallB_snoc (.inl (by decide)))
    · exact .nums f5 (by rw [List.length_append, List.length_singleton]; omega) (fallB_snoc (.inl (by decide)))
    · exact .nums (ms := [13]) (SqT.of f6) (by decide) (by decide +kernel)
    · exact .nums (ms := List.replicate 13 1) (SqT.of f8) (by decide) (by decide +kernel)
    · exact .nums (ms := [7, 6]) (SqT.of f9) (by decide) (by decide +kernel)
    · exact .nums (ms := [1, 2]) (SqT.of f10) (by decide) (by decide +kernel)
    · exact .non
    · exact .three
    · exact .txt
    · exact .dct f11
    · exact .one f12 .str
    · exact .one f14 .bl
    · exact .two f15
    · exact .one f17 (.tup f16)
    · exact .one f18 .non
    · exact .nums (ms := [10 ^ Int.toNat 60]) (SqT.of f19) (by decide) (fallB_snoc (ns := []) (.inr (by decide +kernel)))
    · exact .nums f21 (by rw [List.length_append, List.length_singleton]; omega) (fallB_snoc (.inr (by decide)))
end
end

/-! Values that are no kinds; values that are no numbers from 0 to 12, with what repr gives. -/

section
open PySem PySem.Spec PyProof.Rows L2 Gd
/-- what isinstance(x, Kind) says of other types -/
structure NKit (K : PySem.W.Frag) (C : Addr) : Prop where
  n : PySem.W.kitOne K (.type "NoneType") (.ref C) = some false
  i : PySem.W.kitOne K (.type "int") (.ref C) = some false
  b : PySem.W.kitOne K (.type "bool") (.ref C) = some false
  s : PySem.W.kitOne K (.type "str") (.ref C) = some false
  t : PySem.W.kitOne K (.type "tuple") (.ref C) = some false
  l : PySem.W.kitOne K (.type "list") (.ref C) = some false
  d : PySem.W.kitOne K (.type "dict") (.ref C) = some false
inductive OddK (K : PySem.W.Frag) (H : Hp) : V → Prop
  | non : OddK K H .non
  | int (i : Int) : OddK K H (.int i)
  | bl (b : Bool) : OddK K H (.bl b)
  | str (t : Str) : OddK K H (.str t)
  | tup {a : Addr} {xs : List V} (h : SqT K H a xs) : OddK K H (.ref a)
  | lst {a : Addr} {xs : List V} (h : H a = some (.lst xs)) : OddK K H (.ref a)
  | dct {a : Addr} (h : H a = some (.dK [])) : OddK K H (.ref a)
theorem OddK.notKind {K : PySem.W.Frag} {C : Addr} {H : Hp} {x : V} (N : NKit K C) (h : OddK K H x) : NotKindV K C H x := by
  cases h with
  | non => exact ⟨_, .base .non, N.n⟩
  | int i => exact ⟨_, .base (.int i), N.i⟩
  | bl b => exact ⟨_, .base (.bl b), N.b⟩
  | str t => exact ⟨_, .base (.str t), N.s⟩
  | tup h => exact ⟨_, tyT h, N.t⟩
  | lst h => exact ⟨_, .base (.lst h), N.l⟩
  | dct h => exact ⟨_, .base (.dK h), N.d⟩
theorem sqT_extR {K : PySem.W.Frag} {r : Addr} {H H' : Hp} {a : Addr} {xs : List V} (hr : H r = none) (e : ExtR r H H') (h : SqT K H a xs) : SqT K H' a xs := by
  have go : ∀ {a : Addr} {o : HO}, H a = some o → (∀ ps, o ≠ .tbl ps) → H' a = some o := fun {a o} h n => e _ _ (fun z => by rw [z, hr] at h; cases h) h n
  rcases h with (h | ⟨o, h⟩) | h
  · exact .inl (.inl (go h (fun _ z => by cases z)))
  · exact .inl (.inr ⟨o, go h (fun _ z => by cases z)⟩)
  · exact .inr h
theorem OddK.extR {K : PySem.W.Frag} {r : Addr} {H H' : Hp} {x : V} (hr : H r = none) (e : ExtR r H H') (h : OddK K H x) : OddK K H' x := by
  have go : ∀ {a : Addr} {o : HO}, H a = some o → (∀ ps, o ≠ .tbl ps) → H' a = some o := fun {a o} h n => e _ _ (fun z => by rw [z, hr] at h; cases h) h n
  cases h with
  | non => exact .non
  | int i => exact .int i
  | bl b => exact .bl b
  | str t => exact .str t
  | tup h => exact .tup (sqT_extR hr e h)
  | lst h => exact .lst (go h (fun _ z => by cases z))
  | dct h => exact .dct (go h (fun _ z => by cases z))
/-- numbers that are refused, with their texts -/
inductive BadV (H : Hp) : V → Str → Prop
  | int (i : Int) (hi : i = 13 ∨ i = -1 ∨ i = 10 ^ 60) : BadV H (.int i) (toString i)
  | non : BadV H .non "None"
  | bl (b : Bool) : BadV H (.bl b) (if b = true then ("True" : Str) else ("False" : Str))
  | str (t : Str) (ht : t = "2" ∨ t = "0") : BadV H (.str t) (reprText t)
  | tup {a : Addr} (i : Int) (hi : i = 1 ∨ i = 0) (h : H a = some (.tup [.int i])) : BadV H (.ref a) (PyData.tuple [.int i]).shown
section
variable {K : PySem.W.Frag} {H H' : Hp} {x : V} {t : Str}
theorem BadV.extR {r : Addr} (hr : H r = none) (e : ExtR r H H') (h : BadV H x t) : BadV H' x t := by
  cases h with
  | int i hi => exact .int i hi
  | non => exact .non
  | bl b => exact .bl b
  | str t ht => exact .str t ht
  | tup i hi h => exact .tup i hi (e _ _ (fun z => by rw [z, hr] at h; cases h) h (fun _ z => by cases z))
theorem BadV.whole (h : BadV H x t) (e : Ext H H') : (∃ i : Int, x = .int i ∧ (i = 13 ∨ i = -1 ∨ i = 10 ^ 60)) ∨ WholeB K H' x false := by
  cases h with
  | int i hi => exact .inl ⟨i, rfl, hi⟩
  | non => exact .inr whole_non
  | bl b => exact .inr whole_bl
  | str t ht => exact .inr whole_str
  | tup i hi h => exact .inr (whole_tup (e _ _ h))
theorem BadV.out (h : BadV H x t) : OutW K H x 0 12 := fun H' e => by
  rcases h.whole (K := K) e with ⟨i, rfl, hi⟩ | h
  · refine .inl ⟨i, rfl, (decide_eq_false fun z => ?_).symm⟩
    have big : (12 : Int) < 10 ^ 60 := by decide +kernel
    rcases hi with rfl | rfl | rfl <;> omega
  · exact .inr ⟨h, rfl⟩
theorem BadV.index (h : BadV H x t) (hn : x ≠ .int 13) : IndexOk K H x false := by
  rcases h.whole (K := K) (fun _ _ z => z) with ⟨i, rfl, hi⟩ | h
  · refine .inl ⟨i, rfl, (decide_eq_false fun z => ?_).symm⟩
    rcases hi with rfl | rfl | rfl
    · exact hn rfl
    · omega
    · omega
  · exact .inr ⟨h, rfl⟩
theorem BadV.show (h : BadV H x t) : ShowV K H x t := by
  cases h with
  | int i hi => exact .inr (.inr (.inl ⟨i, rfl, by rcases hi with rfl | rfl | rfl <;> decide +kernel, rfl⟩))
  | non => exact .inl ⟨rfl, rfl⟩
  | bl b => exact .inr (.inl ⟨b, rfl, rfl⟩)
  | str t ht => exact .inr (.inr (.inr (.inl ⟨t, rfl, by rcases ht with rfl | rfl <;> decide +kernel, rfl⟩)))
  | tup i hi h => exact .inr (.inr (.inr (.inr ⟨_, _, rfl, .tup (SqT.of h) (.cons (.int i) .nil), by rcases hi with rfl | rfl <;> decide +kernel, by rcases hi with rfl | rfl <;> decide +kernel, by rcases hi with rfl | rfl <;> decide +kernel, by rcases hi with rfl | rfl <;> decide +kernel, rfl⟩)))
/-- the text that is told is short and can be compared -/
theorem BadV.text (h : BadV H x t) : (("number " : Str).length + t.length ≤ 200) ∧ PyData.canLay0 (.str (("number " : Str) ++ t)) = true := by
  cases h with
  | int i hi => rcases hi with rfl | rfl | rfl <;> exact ⟨by decide +kernel, by decide +kernel⟩
  | non => exact ⟨by decide +kernel, by decide +kernel⟩
  | bl b => cases b <;> exact ⟨by decide +kernel, by decide +kernel⟩
  | str t ht => rcases ht with rfl | rfl <;> exact ⟨by decide +kernel, by decide +kernel⟩
  | tup i hi h => rcases hi with rfl | rfl <;> exact ⟨by decide +kernel, by decide +kernel⟩
theorem BadV.says (h : BadV H x t) : SaysV K H "number " x (("number " : Str) ++ t) := ⟨t, h.show, by have := h.text.1; have : (200 : Nat) ≤ sizeLine := by decide
                                                                                                      omega, rfl⟩
end
end

/-! Texts of kinds. -/

section
open PySem PySem.Spec PyProof.Rows L2 Gd
theorem str_assoc (x y z : Str) : x ++ y ++ z = x ++ (y ++ z) := Str.append_assoc x y z
theorem str_len (x y : Str) : (x ++ y).length = x.length + y.length := Str.length_append x y
def numT (n : Int) : Str := Str.ofString (toString n)
/-- the text of a kind's numbers -/
def kindTx (ns : List Int) : Str := ((Str.empty ++ ("[" : Str)) ++ Txt.join (" " : Str) (ns.map numT)) ++ ("]" : Str)
theorem num_len : ∀ n : Nat, n < 300 → (numT (n : Int)).length ≤ 3 := by
  have h : ((List.range 300).all fun n => decide ((numT (n : Int)).length ≤ 3)) = true := by decide +kernel
  intro n hn
  exact of_decide_eq_true (List.all_eq_true.mp h n (List.mem_range.mpr hn))
theorem num_len' {n : Int} (h0 : 0 ≤ n) (h1 : n < 300) : (numT n).length ≤ 3 := by
  have := num_len n.toNat (by omega)
  rw [Int.toNat_of_nonneg h0] at this
  exact this
theorem nums_sum : ∀ {ns : List Int}, (∀ n ∈ ns, 0 ≤ n ∧ n < 300) → ((ns.map numT).map fun y : Str => y.length).sum ≤ ns.length * 3
  | [], _ => Nat.le_refl _
  | n :: ns, h => by
    have h1 := h n List.mem_cons_self
    have ih := nums_sum (ns := ns) fun m hm => h m (List.mem_cons_of_mem _ hm)
    have := num_len' h1.1 h1.2
    rw [List.map_cons, List.map_cons, List.sum_cons, List.length_cons]
    omega
theorem fall_num {ns : List Int} (h : Fall ns) : ∀ n ∈ ns, 0 ≤ n ∧ n < 300 := fun n hn => by
  have := h.pos n hn
  have := h.le n hn
  omega
theorem join_len {ns : List Int} (h : Fall ns) : (Txt.join (" " : Str) (ns.map numT)).length ≤ 60 := by
  have h1 := StrLaws.join_length_le (" " : Str) (ns.map numT)
  have h2 := nums_sum (fall_num h)
  have h3 := h.len
  have h4 : (" " : Str).length = 1 := by decide +kernel
  rw [h4, List.length_map] at h1
  have e : Txt.join (" " : Str) (ns.map numT) = Str.join (" " : Str) (ns.map numT) := StrLaws.glued_eq_join _ _
  rw [e]
  have : (Str.join (" " : Str) (ns.map numT)).length ≤ ((ns.map numT).map fun y : Str => y.length).sum + ns.length * 1 := h1
  omega
theorem kindTx_len {ns : List Int} (h : Fall ns) : (kindTx ns).length ≤ 62 := by
  unfold kindTx
  rw [str_len, str_len, str_len]
  have h1 := join_len h
  have h2 : ("[" : Str).length = 1 := by decide +kernel
  have h3 : ("]" : Str).length = 1 := by decide +kernel
  have h4 : Str.empty.length = 0 := by decide +kernel
  omega
section
variable {P : Program} {w : World} {K : PySem.W.Frag} {mg : Str → Option Value} {base : Heap} {f C : Addr} {fd : FuncData}
abbrev sFTx : Stmt := top 27
theorem scFTx : FnScope ["row", "words", "number"] ["row"] (defScope sFTx) := ⟨rfl, rfl, rfl, by decide +kernel, rfl, by decide +kernel, by decide +kernel⟩
def spFTx (K : PySem.W.Frag) : Sp := fun vs H Q _ => ∃ (a : Addr) (ns : List Int), vs = [.ref a] ∧ SqT K H a (ns.map V.int) ∧ Fall ns ∧ ∀ H', Ext H H' → Q (.str (kindTx ns)) H'
theorem ok_fTx (F : Fun K "falling_text" "falling_text" sFTx f fd) (T : Txt K mg) : FnOk P w K mg base CX0 1 f fd ["row"] (spFTx K) := by
  refine F.ok scFTx (fun vs H Q E h => ?_) (fun cdv A outer s H vs Q E hr h => ?_)
  · obtain ⟨a, ns, rfl, _⟩ := h
    rfl
  · obtain ⟨a, ns, rfl, hs, hF, k⟩ := h
    refine ⟨_, pss_cons (ps_set (i := 1) scFTx.nd rfl (Or.inl rfl) (pe_bm PySem.F.plainAttrs_str PySem.F.slot_str_join PySem.F.type_str_join mt_join (pe_str) (pa_cons (pe_lc (own := [("number", 2)]) (g := gName 2) (tt := tYes) rfl scFTx.nd (pi_tup (pv 0)) (blkOk_by (N := ["row", "words", "number"]) (sc := defScope sFTx) (by decide +kernel)) (fun _ _ _ _ _ => pg_name (i := 2) scFTx.nd rfl (Or.inl rfl)) (fun _ _ _ _ _ => pts_nil) (fun _ _ _ _ _ => by exact (pe_callTy (T := "str") (r := fun xs H Q => ∃ i : Int, xs = [.int i] ∧ i.natAbs.log2 < 1920 ∧ Q (.str (numT i)) H) call_str_int (by rfl) T.str (by decide +kernel) (pa_cons (pv 2) pa_nil)))) pa_nil)))
      (pss_one (ps_ret (pe_joined (PJ.cons pe_str (PJ.cons (pe_fmt (pv 1)) (PJ.cons pe_str PJ.nil)))))), ?_⟩
    try dsimp only [cx_nox, cx_K]
    walk_at "rd"
    refine ⟨rfl, ?_⟩
    refine g_cons ?_
    refine g_lc (g_itup ?_)
    walk_at "rd"
    have hl := hF.len
    refine lcT hs (small (by rw [List.length_map]; omega)) (fun _ => true) (fun v => match v with | .int n => .str (numT n) | y => y) (fun x H1 hx e1 Qe Qn he hn => ?_) (fun H1 D e1 hD hd => ?_)
    · obtain ⟨n, hn0, rfl⟩ := List.mem_map.mp hx
      have h0 := fall_num hF n hn0
      refine ⟨rfl, ?_⟩
      walk_at "rd"
      refine ⟨?_, he _ (fun _ _ z => z) rfl⟩
      have : n.natAbs.log2 ≤ n.natAbs := Nat.log2_le_self _
      omega
    · rw [List.filter_eq_self.mpr (fun _ _ => rfl), List.map_map] at hd
      walk_at "rd"
      have hd' : H1 D = some (.lst ((ns.map numT).map V.str)) := by
        rw [hd, List.map_map]
        rfl
      have h4 : (" " : Str).length = 1 := by decide +kernel
      have h2 := nums_sum (fall_num hF)
      refine ⟨_, D, ns.map numT, rfl, rfl, .inl (SqL.of hd'), by rw [List.length_map, h4]; omega, ?_⟩
      walk_at "rd"
      have hj := join_len hF
      have hk := kindTx_len hF
      have hz : (62 : Nat) ≤ sizeLine := by decide
      unfold tJs
      walk_at "rd"
      refine ⟨_, rfl, ?_, ?_⟩
      · have : (Str.empty ++ ("[" : Str)).length = 1 := by decide +kernel
        omega
      unfold tJs tFmt
      walk_at "rd"
      refine .inl ⟨_, rfl, by omega, _, rfl, ?_, ?_⟩
      · rw [str_len]
        have : (Str.empty ++ ("[" : Str)).length = 1 := by decide +kernel
        omega
      unfold tJs
      walk_at "rd"
      refine ⟨_, rfl, ?_, ?_⟩
      · show (kindTx ns).length ≤ sizeLine
        omega
      unfold tJs
      exact k _ e1
theorem scKSt : FnScope ["self"] ["self"] (defScope (cls 21)) := ⟨rfl, rfl, rfl, by decide +kernel, rfl, by decide +kernel, by decide +kernel⟩
def spKSt (K : PySem.W.Frag) (C : Addr) : Sp := fun vs H Q _ => ∃ (p n t m : Addr) (ns : List Int), vs = [.ref p] ∧ KindAt K C H p n t m ns ∧ ∀ H', Ext H H' → Q (.str (kindTx ns)) H'
theorem ok_kstr (F : Fun K "__str__" "Kind.__str__" (cls 21) f fd) (T : Txt K mg) (Cl : KC K mg C) (Ft : Def1 P w K mg base CX0 1 "falling_text" ["row"] (spFTx K)) : FnOk P w K mg base CX0 2 f fd ["self"] (spKSt K C) := by
  refine F.ok scKSt (fun vs H Q E h => ?_) (fun cdv A outer s H vs Q E hr h => ?_)
  · obtain ⟨p, n, t, m, ns, rfl, _⟩ := h
    rfl
  · obtain ⟨p, n, t, m, ns, rfl, hp, k⟩ := h
    obtain ⟨dx, hpi⟩ := id hp.ins
    refine ⟨_, pss_one (ps_ret (pe_callTy SkE.call_str_str (by rfl) T.str (by decide +kernel) (pa_cons (pe_def Ft hr (by decide) (by rfl) (pa_cons (pe_fld (pv 0) rfl) pa_nil)) pa_nil))), ?_⟩
    try dsimp only [cx_nox, cx_K]
    walk_at "rd"
    refine ⟨p, C, dx, _, _, rfl, hpi, Cl.cl, Cl.noN, look1, ?_⟩
    walk_at "rd"
    refine ⟨n, ns, rfl, hp.num.sq, hp.fall, fun H1 e1 => ?_⟩
    walk_at "rd"
    exact ⟨_, rfl, k H1 e1⟩
end
end

/-! A drawn kind. -/

section
open PySem PySem.Spec PyProof.Rows L2 Gd
section
variable {P : Program} {w : World} {K : PySem.W.Frag} {mg : Str → Option Value} {base : Heap} {f : Addr} {fd : FuncData}
/-! ### a drawn kind -/
abbrev sKind : Stmt := top 45
theorem scKind : FnScope ["_law_dice_here", "_law_most"] ["_law_dice_here", "_law_most"] (defScope sKind) := ⟨rfl, rfl, rfl, by decide +kernel, rfl, by decide +kernel, by decide +kernel⟩
def spKind (K : PySem.W.Frag) : Sp := fun vs H Q _ => ∃ (d : Addr) (most : Int), vs = [.ref d, .int most] ∧ DiceAt H d ∧ 0 ≤ most ∧ most ≤ 12 ∧
  ∀ H' a ns, ExtBut d H H' → DiceAt H' d → TupX K H' a (ns.map V.int) → Fall ns → ns.sum ≤ most → Q (.ref a) H'
theorem ok_kind (F : Fun K "_law_kind" "_law_kind" sKind f fd) (Ro : Def1 P w K mg base CX0 1 "_law_roll" ["_law_dice_here", "_law_total"] spRoll) (Ks : Def1 P w K mg base CX0 1 "_law_kinds" ["_law_size"] (spKinds K))
    (Pi : Def1 P w K mg base CX0 2 "_law_pick" ["_law_dice_here", "_law_items"] (spPick K)) : FnOk P w K mg base CX0 3 f fd ["_law_dice_here", "_law_most"] (spKind K) := by
  refine F.ok scKind (fun vs H Q E h => ?_) (fun cdv A outer s H vs Q E hr h => ?_)
  · obtain ⟨d, most, rfl, _⟩ := h
    rfl
  · obtain ⟨d, most, rfl, hd, h0, h1, k⟩ := h
    refine ⟨_, pss_one (ps_ret (pe_def Pi hr (by decide) (by rfl) (pa_cons (pv 0) (pa_cons (pe_def Ks hr (by decide) (by rfl) (pa_cons (pe_def Ro hr (by decide) (by rfl) (pa_cons (pv 0) (pa_cons (pe_op op_add (pv 1) pe_int) pa_nil))) pa_nil)) pa_nil)))), ?_⟩
    try dsimp only [cx_nox, cx_K]
    walk_at "rd"
    have big : (13 : Int) < 2 ^ 1000 := by decide +kernel
    refine ⟨d, most + 1, rfl, hd, by omega, by omega, fun H1 r e1 d1 r0 r1 => ?_⟩
    walk_at "rd"
    have er : r = (r.toNat : Int) := by omega
    refine ⟨r.toNat, (by rw [← er]; rfl), by omega, fun H2 Fa fs e2 hFa hF hne hl hf => ?_⟩
    walk_at "rd"
    have hlen := List.length_pos_iff.mpr hne
    refine ⟨d, Fa, fs, rfl, d1.ext e2, SqL.of hF, dice_none d1 hFa, hlen, by omega, fun H3 x e3 d3 hx => ?_⟩
    obtain ⟨a, ns, rfl, ht, hfl, hs⟩ := hf x hx
    obtain ⟨q1, q2, q3, hdq, _⟩ := d1.ext e2
    have ht3 := TupX.keeps (keeps_but (.inr hdq) e3) ht
    exact k H3 a ns (ExtBut.trans e1 (ExtBut.trans (ExtBut.of e2) e3)) d3 ht3 hfl (by omega)
end
end

/-! What the law's defs lean on, in one structure. -/

section
open PySem PySem.Spec PyProof.Rows L2 Gd
open LamX (Tabs TabB ExtN GivesTo CodeO tLam)
section
variable {P : Program} {w : World} {K : PySem.W.Frag} {mg : Str → Option Value} {base : Heap} {f C CK CI CO CN CR CT t0 : Addr} {fd : FuncData}
theorem dice_neY {H : Hp} {d l : Addr} {o : HO} (h : DiceAt H d) (e : H l = some o) (n : ∀ xs, o ≠ .lst xs) : l ≠ d := by
  obtain ⟨a, b, c, h, _⟩ := h
  intro z
  subst z
  rw [e] at h
  cases h
  exact n _ rfl
theorem tabs_but {T : List (Addr × Str)} {H H' : Hp} {d : Addr} (hd : DiceAt H d) (e : ExtBut d H H') (t : Tabs T H) : Tabs T H' := fun p hp => by
  obtain ⟨ps, h1, h2, h3⟩ := t p hp
  refine ⟨ps, e _ _ (dice_neY hd h1 (fun _ => by simp)) h1, h2, fun pos cv hc => ?_⟩
  obtain ⟨c, e1, e2⟩ := h3 pos cv hc
  exact ⟨c, e1, e _ _ (dice_neY hd e2 (fun _ z => by unfold CodeO at z; cases z)) e2⟩
structure KeepT (T : List (Addr × Str)) (d : Addr) (H H' : Hp) : Prop where
  ext : ∀ b o, b ≠ d → H b = some o → (∀ ps, o ≠ .tbl ps) → H' b = some o
  dice : DiceAt H' d
  tabs : Tabs T H'
abbrev spTopsA (K : PySem.W.Frag) (C CI CR : Addr) : Sp := fun vs H Q E => spMethX K C CI vs H Q E ∨ spTopsE K C CR vs H Q E
abbrev spOverA (K : PySem.W.Frag) (C CI CT : Addr) : Sp := fun vs H Q E => spMethX K C CI vs H Q E ∨ spTwoK K C CT addM vs H Q E
structure Def1G (P : Program) (w : World) (K : PySem.W.Frag) (mg : Str → Option Value) (base : Heap) (CX : CXT) (k : Nat) (name : Str) (ps : List Str) (sp : Sp) : Prop where
  ex : ∃ (f : Addr) (fd : FuncData), mg name = some (.ref f) ∧ PySem.W.keepIn K (.ref f) = true ∧ FnG P w K mg base CX k f fd ps sp ∧ Binds K fd ps []
/-- the class and the module, as this law asks them -/
structure ApiX (P : Program) (w : World) (K : PySem.W.Frag) (mg : Str → Option Value) (base : Heap) (C CI CO CN CR CT t0 : Addr) : Prop where
  ini : Ini1 P w K mg base CX0 5 C t0 ["self", "numbers"] (spInit K C)
  iniX : Ini1 P w K mg base (L2.CX P w) 5 C t0 ["self", "numbers"] (spInitX K C CI)
  size : Pro1 P w K mg base 1 C "size" (spGet K C fun _ ns => .int ns.sum)
  str : Met1 P w K mg base CX0 2 C "__str__" ["self"] (spKSt K C)
  holdsX : Met1 P w K mg base (L2.CX P w) 3 C "holds" ["self", "other"] (spMethX K C CI)
  tops : Met1 P w K mg base (L2.CX P w) 4 C "tops" ["self", "other"] (spTopsA K C CI CR)
  over : Met1 P w K mg base (L2.CX P w) 7 C "over" ["self", "other"] (spOverA K C CI CT)
  add : Bin1 P w K mg base (L2.CX P w) 7 C "__add__" "__radd__" (spTwoK K C CT joinM)
  itemX : Met1 P w K mg base (L2.CX P w) 5 C "__getitem__" ["self", "index"] (spItemX K C CN)
  oppX : Met1 P w K mg base (L2.CX P w) 6 C "opposite" ["self", "wide", "high"] (spOpX K C CN CT)
  withinX : Def1 P w K mg base (L2.CX P w) 3 "kinds_within" ["kind"] (sp_wiX K C CI)
  ofX : Def1 P w K mg base (L2.CX P w) 6 "kinds_of" ["size"] (spKoX K CN)
  of : Def1 P w K mg base CX0 15 "kinds_of" ["size"] spKoF
  read : ∃ mc p g, ClX.CRead K C mc ∧ ClX.CMet K C mc "read" p g ∧ FnR P w K mg base (L2.CX P w) 2 g (spReadX K CO)
  kind : Def1 P w K mg base CX0 3 "_law_kind" ["_law_dice_here", "_law_most"] (spKind K)
  pick : Def1 P w K mg base CX0 2 "_law_pick" ["_law_dice_here", "_law_items"] (spPick K)
  wrong : Def1 P w K mg base CX0 3 "_law_wrong_numbers" ["_law_dice_here", "_law_numbers"] (spWrongN K)
theorem passesAt {X : Cx} {CX : CXT} {E : XK} (h : Passes CX X E) (σ : L2.St) : PassesAt CX X σ E := fun pins H s e s' I c => h pins σ H s e s' I c
end
section
variable {X : Cx} {CX : CXT} {C CI CO CN CR CT t0 : Addr} {k j : Nat} {x : Str} {ps : List Str} {sp : Sp} {e o : Expr} {es : List Expr} {t : TA} {ta : TE} {p pos apos : Pos} {E : XK}
theorem pe_defG (hg : NoG X.A) (D : Def1G X.prog X.w X.K X.mg X.base CX0 k x ps sp) (hr : Room j X.A) (hj : k ≤ j) (hgl : Gl X x) (ha : PA X (e :: es) t) (hdb : (x == ("__debug__" : Str)) = false := by decide)
    (he : starEach (e :: es) X.env = (false, eval e X.env) :: starEach es X.env := by rfl) (hpl : (backTo pos (starEach es X.env)).any (·.1) = false := by rfl) : PE X (.Call (.Name x p) (e :: es) [] pos) (tCall sp [] X0 t) := by
  obtain ⟨f, fd, hm, hk, F, hb⟩ := D.ex
  exact pe_callG hg F (hr.mono hj) hgl hm hk hb .nil pass0 ha hdb he hpl
theorem pe_rd {pl : Sem Bool} (A : ApiX X.prog X.w X.K X.mg X.base C CI CO CN CR CT t0) (hx : Passes (L2.CX X.prog X.w) X E) (hr : Room 2 X.A) (he : PE X o ta) (ha : PA X (e :: es) t)
    (hst : starEach (e :: es) X.env = (false, eval e X.env) :: starEach es X.env := by rfl) (hpl : (backTo pos (starEach es X.env)).any (·.1) = false := by rfl)
    (ht : eval (.Call (.Attribute o "read" apos) (e :: es) [] pos) X.env = (do
      let ov ← eval o X.env
      standAt apos.atName
      let (f, first) ← holding [ov] (getMethod ov "read" pl)
      callWith pos f first (backTo pos (starEach (e :: es) X.env)) (backToKw pos (keywordEach [] X.env))) := by rfl) : PE X (.Call (.Attribute o "read" apos) (e :: es) [] pos) (ClX.tCMeth C (spReadX X.K CO) E ta t) := by
  obtain ⟨mc, q, g, r, c, F⟩ := A.read
  exact ClX.pe_cmeth he r c F hr hx ha hst hpl ht
end
end

/-! A list that grows while lambdas are made and called. -/

section
open PySem PySem.Spec PyProof.Rows L2 Gd
open LamX (Tabs TabB ExtN GivesTo CodeO tLam)
theorem extN_trans {H H1 H2 : Hp} (a : ExtN H H1) (b : ExtN H1 H2) : ExtN H H2 := fun x o h n => b x o (a x o h n) n
theorem extN_of {H H1 : Hp} (a : Ext H H1) : ExtN H H1 := fun x o h _ => a x o h
theorem sqT_extN {K : PySem.W.Frag} {H H' : Hp} {a : Addr} {xs : List V} (e : ExtN H H') (h : SqT K H a xs) : SqT K H' a xs := by
  rcases h with (h | ⟨o, h⟩) | h
  · exact .inl (.inl (e _ _ h (fun _ z => by cases z)))
  · exact .inl (.inr ⟨o, e _ _ h (fun _ z => by cases z)⟩)
  · exact .inr h
theorem tupX_extN {K : PySem.W.Frag} {H H' : Hp} {a : Addr} {xs : List V} (e : ExtN H H') (h : TupX K H a xs) : TupX K H' a xs := by
  rcases h with ⟨o, h, d⟩ | h
  · exact .inl ⟨o, e _ _ h (fun _ z => by cases z), d⟩
  · exact .inr h
theorem kindAt_extN {K : PySem.W.Frag} {C : Addr} {H H' : Hp} {q n t m : Addr} {ns : List Int} (e : ExtN H H') (h : KindAt K C H q n t m ns) : KindAt K C H' q n t m ns := by
  obtain ⟨⟨dy, h1⟩, h2, h3, h4, h5⟩ := h
  exact ⟨⟨dy, e _ _ h1 (fun _ z => by cases z)⟩, tupX_extN e h2, sqT_extN e h3, sqT_extN e h4, h5⟩
theorem extR_of {r : Addr} {H H' : Hp} (e : ExtN H H') : ExtR r H H' := fun b o _ h n => e b o h n
theorem dice_extN {H H' : Hp} {d : Addr} (e : ExtN H H') (h : DiceAt H d) : DiceAt H' d := by
  obtain ⟨a, b, c, h, r⟩ := h
  exact ⟨a, b, c, e _ _ h (fun _ z => by cases z), r⟩
theorem tabs_lstX {T : List (Addr × Str)} {H : Hp} {r : Addr} {xs zs : List V} (hr : H r = some (.lst xs)) (t : Tabs T H) : Tabs T (upd H r (.lst zs)) := fun p hp => by
  obtain ⟨ps, h1, h2, h3⟩ := t p hp
  refine ⟨ps, ?_, h2, fun pos cv hc => ?_⟩
  · rw [upd_ne (fun z => by rw [z, hr] at h1; cases h1)]
    exact h1
  · obtain ⟨c0, e1, e2⟩ := h3 pos cv hc
    refine ⟨c0, e1, ?_⟩
    rw [upd_ne (fun z => by rw [z, hr] at e2; unfold CodeO at e2; cases e2)]
    exact e2
/-- since H0: the list at r holds L now, all else stays but the tables -/
structure Gr (T : List (Addr × Str)) (H0 : Hp) (r : Addr) (L : List V) (H : Hp) : Prop where
  e : ExtN H0 H
  at_ : H r = some (.lst L)
  tb : Tabs T H
  r0 : H0 r = none
section
variable {T : List (Addr × Str)} {H0 H H' : Hp} {r : Addr} {L : List V} {v : V}
theorem Gr.start (tb : Tabs T H) (h : ExtN H0 H) (h0 : H0 r = none) (hr : H r = none) : Gr T H0 r L (upd H r (.lst L)) := ⟨extN_trans h (extN_of (Ext.new hr)), upd_same, tb.ext (Ext.new hr), h0⟩
theorem Gr.ext (g : Gr T H0 r L H) (e : Ext H H') : Gr T H0 r L H' := ⟨extN_trans g.e (extN_of e), e _ _ g.at_, g.tb.ext e, g.r0⟩
theorem Gr.n (g : Gr T H0 r L H) (e : ExtN H H') (t : Tabs T H') : Gr T H0 r L H' := ⟨extN_trans g.e e, e _ _ g.at_ (fun _ z => by cases z), t, g.r0⟩
theorem Gr.app (g : Gr T H0 r L H) (v : V) : Gr T H0 r (L ++ [v]) (upd H r (.lst (L ++ [v]))) := ⟨fun b o h n => by
  rw [upd_ne (ne_of_none h g.r0)]
  exact g.e b o h n, upd_same, tabs_lstX g.at_ g.tb, g.r0⟩
end
/-! ### what is told -/
section
variable {K : PySem.W.Frag} {CI CO CN CR CT : Addr} {H : Hp} {Q : VK}
theorem m_fine {tl : (XK → Hp → VK → Prop)} {E : XK → Prop} (k : ∀ E : XK, tl E H fun _ H1 => Q (.str "fine") H1) : TMet K CI CO CN CR CT tl H Q := k _
end
end

/-! What is told of a call; lists of words that grow while lambdas are told; lists of words compared. -/

section
open PySem PySem.Spec PyProof.Rows L2 Gd
open LamX (Tabs TabB ExtN GivesTo CodeO tLam)
section
variable {K : PySem.W.Frag} {C CI CO CN CR CT : Addr} {H H' H0 : Hp} {Q : VK} {x : V} {tx : Str} {T : List (Addr × Str)}
/-- what the def that tells errors hears of one -/
abbrev EM (K : PySem.W.Frag) (CI CO CN CR CT : Addr) (Q : VK) : XK := fun cls d H' => (cls = .ref CI ∧ d = none ∧ Q (.str "kind") H') ∨ (cls = .ref CO ∧ Q (.str "operation") H') ∨
      (cls = .ref CN ∧ ∃ dd r y, d = some dd ∧ H' dd = some (.xd [(("value" : Str), r)]) ∧ SaysV K H' "number " r y ∧ Q (.str y) H') ∨
      (cls = .ref CR ∧ ∃ dd r y, d = some dd ∧ H' dd = some (.xd [(("reason" : Str), r)]) ∧ SaysV K H' "refused " r y ∧ Q (.str y) H') ∨
      (cls = .ref CT ∧ ∃ dd r y, d = some dd ∧ H' dd = some (.xd [(("limit" : Str), r)]) ∧ SaysV K H' "many " r y ∧ Q (.str y) H')
theorem g_met {tl : XK → Hp → VK → Prop} (k : tl (EM K CI CO CN CR CT Q) H fun _ H1 => Q (.str "fine") H1) : TMet K CI CO CN CR CT tl H Q := k
theorem BadV.ext (e : Ext H H') (h : BadV H x tx) : BadV H' x tx := by
  cases h with
  | int i hi => exact .int i hi
  | non => exact .non
  | bl b => exact .bl b
  | str t ht => exact .str t ht
  | tup i hi h => exact .tup i hi (e _ _ h)
theorem BadV.extN (e : ExtN H H') (h : BadV H x tx) : BadV H' x tx := by
  cases h with
  | int i hi => exact .int i hi
  | non => exact .non
  | bl b => exact .bl b
  | str t ht => exact .str t ht
  | tup i hi h => exact .tup i hi (e _ _ h (fun _ z => by cases z))
theorem BadV.keeps (e : Keeps H H') (h : BadV H x tx) : BadV H' x tx := by
  cases h with
  | int i hi => exact .int i hi
  | non => exact .non
  | bl b => exact .bl b
  | str t ht => exact .str t ht
  | tup i hi h => exact .tup i hi (e _ _ (fun _ z => by cases z) h)
theorem OddK.extN (e : ExtN H H') (h : OddK K H x) : OddK K H' x := by
  cases h with
  | non => exact .non
  | int i => exact .int i
  | bl b => exact .bl b
  | str t => exact .str t
  | tup h => exact .tup (sqT_extN e h)
  | lst h => exact .lst (e _ _ h (fun _ z => by cases z))
  | dct h => exact .dct (e _ _ h (fun _ z => by cases z))
theorem em_bad0 (k : ∀ H', Ext H H' → Q (.str "kind") H') : Bad0 CI H (EM K CI CO CN CR CT Q) := fun H' e => .inl ⟨rfl, rfl, k H' e⟩
theorem em_badO (k : ∀ H', Ext H H' → Q (.str "operation") H') : Bad0 CO H (EM K CI CO CN CR CT Q) := fun H' e => .inr (.inl ⟨rfl, k H' e⟩)
theorem em_badN (hb : BadV H x tx) (k : ∀ H', Ext H H' → Q (.str (("number " : Str) ++ tx)) H') : BadN CN x H (EM K CI CO CN CR CT Q) := fun H' d e hd =>
  .inr (.inr (.inl ⟨rfl, d, x, _, rfl, upd_same, (hb.ext (Ext.trans e (Ext.new hd))).says, k _ (Ext.trans e (Ext.new hd))⟩))
theorem em_big (k : ∀ H', Ext H H' → Q (.str "many 12") H') : TooBig CT H (EM K CI CO CN CR CT Q) := fun H' d e hd =>
  .inr (.inr (.inr (.inr ⟨rfl, d, .int 12, "many 12", rfl, upd_same, ⟨"12", .inr (.inr (.inl ⟨12, rfl, by decide +kernel, by decide +kernel⟩)), by decide, by decide +kernel⟩, k _ (Ext.trans e (Ext.new hd))⟩)))
/-- what the reason of sizes looks like -/
def sizeTx (i j : Int) : Str := (PyData.tuple [.str "size", .int i, .int j]).shown
theorem size_ok : ∀ i : Nat, i < 13 → ∀ j : Nat, j < 13 → (PyData.tuple [.str "size", .int (i : Int), .int (j : Int)]).showable = true ∧ (PyData.tuple [.str "size", .int (i : Int), .int (j : Int)]).hasDict = false ∧ (PyData.tuple [.str "size", .int (i : Int), .int (j : Int)]).depth ≤ 60 ∧
    (PyData.tuple [.str "size", .int (i : Int), .int (j : Int)]).shown.length ≤ 100 ∧ PyData.strOk (("refused " : Str) ++ sizeTx (i : Int) (j : Int)) = true := by decide +kernel
theorem says_size {i j : Int} {a : Addr} (h0 : 0 ≤ i) (h1 : i ≤ 12) (h2 : 0 ≤ j) (h3 : j ≤ 12) (ha : SqT K H a [.str "size", .int i, .int j]) : ShowV K H (.ref a) (sizeTx i j) ∧ (sizeTx i j).length ≤ 100 ∧ PyData.strOk (("refused " : Str) ++ sizeTx i j) = true := by
  obtain ⟨n, rfl⟩ : ∃ n : Nat, i = (n : Int) := ⟨i.toNat, by omega⟩
  obtain ⟨m, rfl⟩ : ∃ n : Nat, j = (n : Int) := ⟨j.toNat, by omega⟩
  obtain ⟨z1, z2, z3, z4, z5⟩ := size_ok n (by omega) m (by omega)
  have z4' : (sizeTx (n : Int) (m : Int)).length ≤ 100 := z4
  refine ⟨.inr (.inr (.inr (.inr ⟨_, _, rfl, .tup ha (.cons (.str _) (.cons (.int _) (.cons (.int _) .nil))), z1, z2, z3, Nat.le_trans z4 (by decide), rfl⟩))), z4, z5⟩
theorem em_size {i j : Int} (h0 : 0 ≤ i) (h1 : i ≤ 12) (h2 : 0 ≤ j) (h3 : j ≤ 12) (k : ∀ H', Ext H H' → Q (.str (("refused " : Str) ++ sizeTx i j)) H') : OddSize K CR i j H (EM K CI CO CN CR CT Q) := fun H' d a e hd ha => by
  have en := Ext.new (o := HO.xd [(("reason" : Str), V.ref a)]) hd
  obtain ⟨s1, s2, _⟩ := says_size h0 h1 h2 h3 (sqT_ext en ha)
  exact .inr (.inr (.inr (.inl ⟨rfl, d, .ref a, _, rfl, upd_same, ⟨_, s1, by
    have e8 : ("refused " : Str).length ≤ 100 := by decide
    have : (200 : Nat) ≤ sizeLine := by decide
    omega, rfl⟩, k _ (Ext.trans e en)⟩)))
/-- the call gives this word -/
def Tells (K : PySem.W.Frag) (CI CO CN CR CT : Addr) (t : XK → TE) (σ : L2.St) (H : Hp) (w : Str) : Prop := ∀ Q : VK, (∀ H', Ext H H' → Q (.str w) H') → t (EM K CI CO CN CR CT Q) σ H fun _ H1 => Q (.str "fine") H1
theorem none_of {r : Addr} (e : Ext H H') (h : H' r = none) : H r = none := by
  cases q : H r with
  | none => rfl
  | some o =>
    have := e _ _ q
    rw [h] at this
    cases this
theorem g_lstM {t : XK → TE} {σ : L2.St} {w : Str} (hT : Tabs T H) (ht : ∀ H1, ExtN H H1 → Tells K CI CO CN CR CT t σ H1 w) (k : ∀ H1 H' r, ExtN H H1 → Tabs T H1 → Gr T H1 r [.str w] H' → Q (.ref r) H') :
    tLst (tCons (tLam T (TMet K CI CO CN CR CT) t) tNil) σ H Q := by
  refine g_lst (g_cons (g_lamM hT fun H1 e1 t1 => g_met (ht H1 e1 _ fun H2 e2 => g_nil ⟨by show 1 ≤ sizeLine; decide, fun r nr => ?_⟩)))
  exact k H1 _ r e1 t1 (Gr.start (t1.ext e2) (extN_of e2) (none_of e2 nr) nr)
theorem g_appM {i : Nat} {t : XK → TE} {σ : L2.St} {r : Addr} {L : List V} {w : Str} {rest : TS} {D : Ends} (hσ : σ[i]? = some (some (.ref r))) (g : Gr T H0 r L H) (hl : L.length < 100) (ht : ∀ H1, ExtN H0 H1 → Tells K CI CO CN CR CT t σ H1 w)
    (k : ∀ H', Gr T H0 r (L ++ [.str w]) H' → rest D σ H') : tSeq (tDrop (tBM K "list" rAppend (tVar i) (tCons (tLam T (TMet K CI CO CN CR CT) t) tNil))) rest D σ H := by
  have sz : (100000 : Nat) < sizeLine := by decide
  refine g_seq (g_drop (g_bm ⟨_, hσ, .inl ⟨rfl, _, SqL.of g.at_⟩, ?_⟩))
  refine g_cons (g_lamM g.tb fun H1 e1 t1 => g_met (ht H1 (extN_trans g.e e1) _ fun H2 e2 => g_nil ?_))
  have g2 := (g.n e1 t1).ext e2
  exact ⟨r, L, _, rfl, rfl, g2.at_, by omega, k _ (g2.app _)⟩
/-! ### lists of words compared -/
theorem words_lay : ∀ L : List Str, (∀ s ∈ L, PyData.strOk s = true) → PyData.canLayAll0 (L.map .str) = true
  | [], _ => rfl
  | s :: r, h => by
    show (PyData.canLay0 (.str s) && PyData.canLayAll0 (r.map .str)) = true
    rw [words_lay r (fun x hx => h x (List.mem_cons_of_mem _ hx))]
    show (PyData.strOk s && true) = true
    rw [h s (List.mem_cons_self ..)]
    rfl
theorem words_deep : ∀ L : List Str, PyData.depthAll (L.map .str) = 0
  | [] => rfl
  | s :: r => by
    show max (PyData.depth (.str s)) (PyData.depthAll (r.map .str)) = 0
    rw [words_deep r]
    rfl
theorem words_shaped (L : List Str) (h : ∀ s ∈ L, PyData.strOk s = true) : SeqAt.shaped (.list (L.map .str)) = true := by
  have e : PyData.canLay0 (.list (L.map .str)) = true := words_lay L h
  unfold SeqAt.shaped
  rw [e]
  refine decide_eq_true ?_
  show PyData.depthAll (L.map .str) + 1 ≤ 64
  rw [words_deep]
  decide
theorem words_dp : ∀ L : List Str, DpAll K H (L.map V.str) (L.map .str)
  | [] => .nil
  | s :: r => .cons (.str s) (words_dp r)
theorem words_eqv (L : List Str) (h : ∀ s ∈ L, PyData.strOk s = true) : PyData.eqv (.list (L.map .str)) (.list (L.map .str)) = true := SeqAt.eqv_refl _ (words_lay L h)
theorem g_eqWs {r o : Addr} {L : List Str} (hr : SqL K H r (L.map V.str)) (ho : SqL K H o (L.map V.str)) (h : ∀ s ∈ L, PyData.strOk s = true) (k : Q (.bl true) H) : rEqD K (.ref r) (.ref o) H Q := by
  refine ⟨_, _, .lst hr (words_dp L), .lst ho (words_dp L), words_shaped L h, words_shaped L h, ?_⟩
  rw [words_eqv L h]
  exact k
theorem g_neWs {r o : Addr} {L : List Str} (hr : SqL K H r (L.map V.str)) (ho : SqL K H o (L.map V.str)) (h : ∀ s ∈ L, PyData.strOk s = true) (k : Q (.bl false) H) : rNeD K (.ref r) (.ref o) H Q := by
  refine ⟨_, _, .lst hr (words_dp L), .lst ho (words_dp L), words_shaped L h, words_shaped L h, ?_⟩
  rw [words_eqv L h]
  exact k
theorem g_callV {Fs : Addr → Prop} {sp : Sp} {E : XK} {tf : TE} {t : TA} {σ : L2.St} (k : tf σ H fun x H1 => ∃ f, x = .ref f ∧ Fs f ∧ t σ H1 fun vs H2 => sp vs H2 Q E) : tCallV Fs sp E tf t σ H Q := k
theorem g_meK {m : Str} {B : Prop} {p n t' m' : Addr} {ns : List Int} (hP : KindAt K C H p n t' m' ns) (k : B) (h1 : (m == ("_numbers" : Str)) = false := by decide +kernel) (h2 : (m == ("_place" : Str)) = false := by decide +kernel) :
    ∃ a dx fs, V.ref p = .ref a ∧ H a = some (.ins C dx fs) ∧ fs.lookup m = none ∧ B := by
  obtain ⟨dx, hp⟩ := id hP.ins
  exact ⟨p, dx, _, rfl, hp, look_no h1 h2, k⟩
/-! ### repr and + on what is refused -/
theorem g_repB {H : Hp} (hb : BadV H x tx) (k : Q (.str tx) H) : rReprV K [x] H Q := ⟨x, tx, rfl, hb.show, k⟩
end
end

/-! Numbers that are refused, judged. -/

section
open PySem PySem.Spec PyProof.Rows L2 Gd
open LamX (Tabs TabB ExtN GivesTo CodeO tLam)
section
variable {P : Program} {w : World} {K : PySem.W.Frag} {mg : Str → Option Value} {base : Heap} {f C CK CI CO CN CR CT t0 F1 F2 : Addr} {fd : FuncData}
abbrev sNumR : Stmt := top 49
abbrev qNumR : Str := "_law_are_numbers_refused.<locals>.<lambda>"
theorem scNumR : FnScope ["_law_dice_here", "_law_kind_here", "_law_odd", "_law_bad", "_law_call", "_law_told", "_law_far"] ["_law_dice_here", "_law_kind_here", "_law_odd", "_law_bad"] (defScope sNumR) := ⟨rfl, rfl, rfl, by decide +kernel, rfl, by decide +kernel, by decide +kernel⟩
def spNumR (K : PySem.W.Frag) (C : Addr) (T : List (Addr × Str)) : Sp := fun vs H Q _ => ∃ (d p n t m : Addr) (ns : List Int) (odd bad : V) (tx : Str), vs = [.ref d, .ref p, odd, bad] ∧ DiceAt H d ∧ KindAt K C H p n t m ns ∧ OddK K H odd ∧ BadV H bad tx ∧ Tabs T H ∧ ∀ H', KeepT T d H H' → Q (.bl true) H'
theorem ok_numR {c Pt : Addr} {T : List (Addr × Str)} (F : Fun K "_law_are_numbers_refused" "_law_are_numbers_refused" sNumR f fd) (hc : fd.code = .ref c) (TB : TabB base mg c Pt) (hmT : (Pt, qNumR) ∈ T) (hu : ∀ p ∈ T, p.1 = Pt → p.2 = qNumR)
    (Tx : Txt K mg) (Cl : KC K mg C) (A : ApiX P w K mg base C CI CO CN CR CT t0) (R : Met K mg CK CI CO CN CR CT) (g1 : mg "flats_over" = some (.ref F1)) (g2 : mg "lines_over" = some (.ref F2)) (HF : ∀ f, (f = F1 ∨ f = F2) → PySem.W.keepIn K (.ref f) = true ∧ FnR P w K mg base (L2.CX P w) 16 f (spStep K C CI CN CT)) (NK : NKit K C) :
    FnG P w K mg base CX0 24 f fd ["_law_dice_here", "_law_kind_here", "_law_odd", "_law_bad"] (spNumR K C T) := by
  refine fnGc F hc scNumR (fun vs H Q E h => ?_) (fun Ar outer s H vs Q E hg hr h => ?_)
  · obtain ⟨d, p, n, t, m, ns, odd, bad, tx, rfl, _⟩ := h
    rfl
  · obtain ⟨d, p, n, t, m, ns, odd, bad, tx, rfl, hd, hp, ho, hb, hT, k⟩ := h
    refine ⟨_, PSs.nox (pss_cons (ps_for PassesOwn.never rfl (pi_tup (pe_tup (pa_cons (pe_glob (v := .ref F1) (by rfl) g1 rfl) (pa_cons (pe_glob (v := .ref F2) (by rfl) g2 rfl) pa_nil)))) (pg_name (i := 4) scNumR.nd rfl (Or.inr rfl)) (pss_cons (ps_set (i := 5) scNumR.nd rfl (Or.inl rfl) (pe_lst (pa_cons (pe_met (k := 20) (t := fun E => (tCallV (fun f => f = F1 ∨ f = F2) (spStep K C CI CN CT) E (tVar 4) (tCons (tVar 2) (tCons (tVar 3) tNil)))) (by rfl) R hg TB rfl hmT hu (hr.mono (by decide)) (LamX.lamS_by (by show LamX.lamSB (defScope sNumR) _ = true; decide +kernel)) rfl (fun _ _ _ _ _ => by rfl) (fun _ _ _ _ E _ _ hr' => (pe_callV (Fs := fun f => f = F1 ∨ f = F2) HF (hr'.mono (by decide)) (passes_call (takes_of rfl rfl rfl rfl) (fun _ _ _ _ h => h)) (pv 4) (pa_cons (pv 2) (pa_cons (pv 3) pa_nil))))) pa_nil)))
      (pss_cons (ps_expr (pe_bm PySem.F.plainAttrs_list PySem.F.slot_list_append PySem.F.type_list_append mt_append (pv 5) (pa_cons (pe_met (k := 20) (t := fun E => (tCallV (fun f => f = F1 ∨ f = F2) (spStep K C CI CN CT) E (tVar 4) (tCons (tVar 1) (tCons (tVar 3) tNil)))) (by rfl) R hg TB rfl hmT hu (hr.mono (by decide)) (LamX.lamS_by (by show LamX.lamSB (defScope sNumR) _ = true; decide +kernel)) rfl (fun _ _ _ _ _ => by rfl) (fun _ _ _ _ E _ _ hr' => (pe_callV (Fs := fun f => f = F1 ∨ f = F2) HF (hr'.mono (by decide)) (passes_call (takes_of rfl rfl rfl rfl) (fun _ _ _ _ h => h)) (pv 4) (pa_cons (pv 1) (pa_cons (pv 3) pa_nil))))) pa_nil)))
      (pss_cons (ps_expr (pe_bm PySem.F.plainAttrs_list PySem.F.slot_list_append PySem.F.type_list_append mt_append (pv 5) (pa_cons (pe_met (k := 20) (t := fun E => (tCallV (fun f => f = F1 ∨ f = F2) (spStep K C CI CN CT) E (tVar 4) (tCons (tVar 1) (tCons (tOp (rI0 fun i j => .int (i - j)) (tC (.int 12)) (tProp C (spGet K C fun _ ns => .int ns.sum) [] X0 (tVar 1))) tNil)))) (by rfl) R hg TB rfl hmT hu (hr.mono (by decide)) (LamX.lamS_by (by show LamX.lamSB (defScope sNumR) _ = true; decide +kernel)) rfl (fun _ _ _ _ _ => by rfl) (fun _ _ _ _ E _ _ hr' => (pe_callV (Fs := fun f => f = F1 ∨ f = F2) HF (hr'.mono (by decide)) (passes_call (takes_of rfl rfl rfl rfl) (fun _ _ _ _ h => h)) (pv 4) (pa_cons (pv 1) (pa_cons (pe_op op_sub pe_int (pe_pro1 Cl.cl A.size hr' (by decide) (pv 1))) pa_nil))))) pa_nil)))
      (pss_cons (ps_expr (pe_bm PySem.F.plainAttrs_list PySem.F.slot_list_append PySem.F.type_list_append mt_append (pv 5) (pa_cons (pe_met (k := 20) (t := fun E => (tCallV (fun f => f = F1 ∨ f = F2) (spStep K C CI CN CT) E (tVar 4) (tCons (tVar 1) (tCons (tC (.int 12)) tNil)))) (by rfl) R hg TB rfl hmT hu (hr.mono (by decide)) (LamX.lamS_by (by show LamX.lamSB (defScope sNumR) _ = true; decide +kernel)) rfl (fun _ _ _ _ _ => by rfl) (fun _ _ _ _ E _ _ hr' => (pe_callV (Fs := fun f => f = F1 ∨ f = F2) HF (hr'.mono (by decide)) (passes_call (takes_of rfl rfl rfl rfl) (fun _ _ _ _ h => h)) (pv 4) (pa_cons (pv 1) (pa_cons pe_int pa_nil))))) pa_nil)))
      (pss_one (ps_if (pt_cmpR (op_neD hr.units) (pv 5) (pe_lst (pa_cons pe_str (pa_cons (pe_op op_add_str pe_str (pe_callB (call_reprV hg hr.units) (by rfl) R.zr (by decide +kernel) (pa_cons (pv 3) pa_nil))) (pa_cons pe_str (pa_cons (pe_ifExp (pt_cmpR op_eq (pe_pro1 Cl.cl A.size hr (by decide) (pv 1)) pe_int (nomark _)) pe_str pe_str) pa_nil))))) (nomark _)) (pss_one (ps_ret pe_bl)) pss_nil)))))))
      (pss_cons (ps_set (i := 6) scNumR.nd rfl (Or.inr rfl) (pe_def A.pick hr (by decide) (by rfl) (pa_cons (pv 0) (pa_cons (pe_lst (pa_cons pe_int (pa_cons (pe_un un_neg pe_int) (pa_cons pe_non (pa_cons pe_bl (pa_cons pe_str pa_nil)))))) pa_nil))))
      (pss_cons (ps_set (i := 5) scNumR.nd rfl (Or.inl rfl) (pe_lst (pa_cons (pe_met (k := 20) (t := fun E => (tMeth C "opposite" (spOpX K C CN CT) [] E (tVar 1) (tCons (tVar 3) (tCons (tVar 6) tNil)))) (by rfl) R hg TB rfl hmT hu (hr.mono (by decide)) (LamX.lamS_by (by show LamX.lamSB (defScope sNumR) _ = true; decide +kernel)) rfl (fun _ _ _ _ _ => by rfl) (fun _ _ _ _ E _ _ hr' => (pe_me1 Cl.cl A.oppX (passes_call (takes_of rfl rfl rfl rfl) (fun _ _ _ _ h => h)) hr' (by decide) (pv 1) (pa_cons (pv 3) (pa_cons (pv 6) pa_nil))))) pa_nil)))
      (pss_cons (ps_expr (pe_bm PySem.F.plainAttrs_list PySem.F.slot_list_append PySem.F.type_list_append mt_append (pv 5) (pa_cons (pe_met (k := 20) (t := fun E => (tMeth C "opposite" (spOpX K C CN CT) [] E (tVar 1) (tCons (tC (.int 12)) (tCons (tVar 6) tNil)))) (by rfl) R hg TB rfl hmT hu (hr.mono (by decide)) (LamX.lamS_by (by show LamX.lamSB (defScope sNumR) _ = true; decide +kernel)) rfl (fun _ _ _ _ _ => by rfl) (fun _ _ _ _ E _ _ hr' => (pe_me1 Cl.cl A.oppX (passes_call (takes_of rfl rfl rfl rfl) (fun _ _ _ _ h => h)) hr' (by decide) (pv 1) (pa_cons pe_int (pa_cons (pv 6) pa_nil))))) pa_nil)))
      (pss_cons (ps_expr (pe_bm PySem.F.plainAttrs_list PySem.F.slot_list_append PySem.F.type_list_append mt_append (pv 5) (pa_cons (pe_met (k := 20) (t := fun E => (tCall (spKoX K CN) [] E (tCons (tVar 3) tNil))) (by rfl) R hg TB rfl hmT hu (hr.mono (by decide)) (LamX.lamS_by (by show LamX.lamSB (defScope sNumR) _ = true; decide +kernel)) rfl (fun _ _ _ _ _ => by rfl) (fun _ _ _ _ E _ _ hr' => (pe_defX A.ofX (passes_call (takes_of rfl rfl rfl rfl) (fun _ _ _ _ h => h)) hr' (by decide) (by rfl) (pa_cons (pv 3) pa_nil)))) pa_nil)))
      (pss_cons (ps_expr (pe_bm PySem.F.plainAttrs_list PySem.F.slot_list_append PySem.F.type_list_append mt_append (pv 5) (pa_cons (pe_met (k := 20) (t := fun E => (tMeth C "opposite" (spOpX K C CN CT) [] E (tVar 1) (tCons (tC (.int 12)) (tCons (tC (.int 12)) tNil)))) (by rfl) R hg TB rfl hmT hu (hr.mono (by decide)) (LamX.lamS_by (by show LamX.lamSB (defScope sNumR) _ = true; decide +kernel)) rfl (fun _ _ _ _ _ => by rfl) (fun _ _ _ _ E _ _ hr' => (pe_me1 Cl.cl A.oppX (passes_call (takes_of rfl rfl rfl rfl) (fun _ _ _ _ h => h)) hr' (by decide) (pv 1) (pa_cons pe_int (pa_cons pe_int pa_nil))))) pa_nil)))
      (pss_one (ps_ret (pe_cmpR (op_eqD hr.units) (pv 5) (pe_lst (pa_cons (pe_op op_add_str pe_str (pe_callB (call_reprV hg hr.units) (by rfl) R.zr (by decide +kernel) (pa_cons (pv 3) pa_nil))) (pa_cons (pe_op op_add_str pe_str (pe_callB (call_reprV hg hr.units) (by rfl) R.zr (by decide +kernel) (pa_cons (pv 6) pa_nil))) (pa_cons (pe_op op_add_str pe_str (pe_callB (call_reprV hg hr.units) (by rfl) R.zr (by decide +kernel) (pa_cons (pv 3) pa_nil))) (pa_cons pe_str pa_nil))))) (nomark _)))))))))), ?_⟩
    have sz : (100000 : Nat) < sizeLine := by decide
    try dsimp only [cx_nox, cx_K]
    have s12 := hp.fall.sum
    have s0 := hp.fall.sum0
    refine g_forT ?_
    walk_at "rd"
    refine ⟨by show 2 ≤ sizeLine; decide, fun tp ntp => ?_⟩
    have ep := Ext.new (o := HO.tup [V.ref F1, V.ref F2]) ntp
    have ftp : SqT K (upd H tp (.tup [V.ref F1, V.ref F2])) tp [V.ref F1, V.ref F2] := SqT.of upd_same
    have hd1 := hd.ext ep
    have hp1 := hp.ext ep
    have ho1 := ho.extN (extN_of ep)
    have hb1 := hb.ext ep
    have hT1 := hT.ext ep
    generalize upd H tp (.tup [V.ref F1, V.ref F2]) = G at ep ftp hd1 hp1 ho1 hb1 hT1
    refine forT ftp (fun i σ H' => ∃ x y : Option V, σ = [some (.ref d), some (.ref p), some odd, some bad, x, y, none] ∧ ExtN G H' ∧ Tabs T H') ⟨_, _, rfl, fun _ _ z _ => z, hT1⟩ (fun i σ H' _ q => ?_) (fun i x σ H' hx q => ?_) (fun σ H' q => ?_)
    · obtain ⟨_, _, _, e, _⟩ := q
      exact sqT_extN e ftp
    · obtain ⟨x4, x5, rfl, e, tb⟩ := q
      have hf : ∃ f, x = .ref f ∧ (f = F1 ∨ f = F2) := by
        match i, hx with
        | 0, hx => exact ⟨F1, (Option.some.inj hx).symm, .inl rfl⟩
        | 1, hx => exact ⟨F2, (Option.some.inj hx).symm, .inr rfl⟩
      obtain ⟨f, rfl, hf⟩ := hf
      refine g_name ?_
      refine g_seq (g_asg (g_lstM tb (w := "kind") (fun H1 e1 Q1 k1 => ?_) (fun H1 H2 r e1 t1 g => ?_)))
      · have ho2 := ho1.extN (extN_trans e e1)
        refine g_callV ?_
        walk_at "rd"
        refine ⟨f, rfl, hf, ?_⟩
        walk_at "rd"
        exact .inl (.inl ⟨odd, bad, rfl, ho2.notKind NK, em_bad0 k1⟩)
      have hp2 := kindAt_extN (extN_trans e e1) hp1
      have hb2 := hb1.extN (extN_trans e e1)
      clear tb
      refine g_name ?_
      refine g_appM (i := 5) (w := ("number " : Str) ++ tx) rfl g (by decide) (fun H3 e3 Q3 k3 => ?_) (fun H3 g3 => ?_)
      · have hp3 := kindAt_extN e3 hp2
        have hb3 := hb2.extN e3
        refine g_callV ?_
        walk_at "rd"
        refine ⟨f, rfl, hf, ?_⟩
        walk_at "rd"
        exact .inl (.inr (.inl ⟨p, n, t, m, ns, bad, rfl, hp3, hb3.out, em_badN hb3 k3⟩))
      refine g_appM (i := 5) (w := ("fine" : Str)) rfl g3 (by simp) (fun H4 e4 Q4 k4 => ?_) (fun H4 g4 => ?_)
      · have hp4 := kindAt_extN e4 hp2
        refine g_callV ?_
        walk_at "rd"
        refine ⟨f, rfl, hf, ?_⟩
        walk_at "rd"
        refine g_gets hp4 fun H5 e5 => ?_
        walk_at "rd"
        exact .inr ⟨p, n, t, m, ns, 12 - ns.sum, rfl, hp4.ext e5, by omega, by omega, fun H6 v e6 => k4 H6 (Ext.trans e5 e6)⟩
      refine g_appM (i := 5) (w := if ns.sum = 0 then ("fine" : Str) else ("many 12" : Str)) rfl g4 (by simp) (fun H5 e5 Q5 k5 => ?_) (fun H5 g5 => ?_)
      · have hp5 := kindAt_extN e5 hp2
        refine g_callV ?_
        walk_at "rd"
        refine ⟨f, rfl, hf, ?_⟩
        walk_at "rd"
        by_cases hs : ns.sum = 0
        · rw [if_pos hs] at k5
          exact .inr ⟨p, n, t, m, ns, 12, rfl, hp5, by decide, by omega, fun H6 v e6 => k5 H6 e6⟩
        · rw [if_neg hs] at k5
          exact .inl (.inr (.inr ⟨p, n, t, m, ns, 12, rfl, hp5, by decide, by decide, by omega, em_big k5⟩))
      have hp6 := kindAt_extN g5.e hp2
      have hb6 := hb2.extN g5.e
      have eN := extN_trans e e1
      have wl : ∀ w : Str, PyData.strOk w = true → ∀ s ∈ (["kind", ("number " : Str) ++ tx, "fine", w] : List Str), PyData.strOk s = true := fun w hw s hs => by
        simp only [List.mem_cons, List.not_mem_nil, or_false] at hs
        rcases hs with rfl | rfl | rfl | rfl
        · decide +kernel
        · exact hb.text.2
        · decide +kernel
        · exact hw
      have tl := hb.text.1
      clear hb2 hp2 g4 g3 g
      walk_at "rd"
      refine g_repB hb6 ⟨_, _, rfl, rfl, by omega, ?_⟩
      walk_at "rd"
      refine g_gets hp6 fun H7 e7 => ?_
      walk_at "rd"
      by_cases hs : ns.sum = 0
      · rw [if_pos hs] at g5
        rw [decide_eq_true hs]
        walk_at "rd"
        refine ⟨by show 4 ≤ sizeLine; decide, fun o no => ?_⟩
        have g6 := (g5.ext e7).ext (Ext.new (o := HO.lst [V.str "kind", V.str (("number " : Str) ++ tx), V.str "fine", V.str "fine"]) no)
        refine g_neWs (L := ["kind", ("number " : Str) ++ tx, "fine", "fine"]) (SqL.of g6.at_) (SqL.of upd_same) (wl _ (by decide +kernel)) ?_
        walk_at "rd"
        exact ⟨_, _, rfl, extN_trans eN g6.e, g6.tb⟩
      · rw [if_neg hs] at g5
        rw [decide_eq_false hs]
        walk_at "rd"
        refine ⟨by show 4 ≤ sizeLine; decide, fun o no => ?_⟩
        have g6 := (g5.ext e7).ext (Ext.new (o := HO.lst [V.str "kind", V.str (("number " : Str) ++ tx), V.str "fine", V.str "many 12"]) no)
        refine g_neWs (L := ["kind", ("number " : Str) ++ tx, "fine", "many 12"]) (SqL.of g6.at_) (SqL.of upd_same) (wl _ (by decide +kernel)) ?_
        walk_at "rd"
        exact ⟨_, _, rfl, extN_trans eN g6.e, g6.tb⟩
    · obtain ⟨x4, x5, rfl, e, tb⟩ := q
      have hp1 := kindAt_extN e hp1
      have hb1 := hb1.extN e
      have hd1 := dice_extN e hd1
      have e0 := extN_trans (extN_of ep) e
      clear ho1 hT1 ftp ep e
      walk_at "rd"
      refine ⟨by show 5 ≤ sizeLine; decide, fun l nl => ?_⟩
      have el := Ext.new (o := HO.lst [V.int 13, V.int (-1), V.non, V.bl true, V.str "2"]) nl
      refine ⟨d, l, _, rfl, hd1.ext el, SqL.of upd_same, dice_none hd1 nl, by show 0 < 5; decide, by show 5 ≤ 5000; decide, fun H2 far b2 hd2 hx => ?_⟩
      obtain ⟨tf, hf⟩ : ∃ tf, BadV H2 far tf := by
        simp only [List.mem_cons, List.not_mem_nil, or_false] at hx
        rcases hx with rfl | rfl | rfl | rfl | rfl
        · exact ⟨_, .int 13 (.inl rfl)⟩
        · exact ⟨_, .int (-1) (.inr (.inl rfl))⟩
        · exact ⟨_, .non⟩
        · exact ⟨_, .bl true⟩
        · exact ⟨_, .str "2" (.inl rfl)⟩
      have kd := dice_keepsX (hd1.ext el) b2
      have hp2 := kindAt_keeps kd (hp1.ext el)
      have hb2 := (hb1.ext el).keeps kd
      have tb2 := tabs_but (hd1.ext el) b2 (tb.ext el)
      have ke : ∀ b o, b ≠ d → H b = some o → (∀ ps, o ≠ .tbl ps) → H2 b = some o := fun b o nb h n => b2 b o nb (el _ _ (e0 b o h n))
      clear hx b2 el kd hp1 hb1 tb
      refine g_name ?_
      refine g_seq (g_asg (g_lstM tb2 (w := ("number " : Str) ++ tx) (fun H3 e3 Q3 k3 => ?_) (fun H3 H4 r e3 t3 g => ?_)))
      · have hp3 := kindAt_extN e3 hp2
        have hb3 := hb2.extN e3
        refine g_me ?_
        walk_at "rd"
        refine g_meK hp3 ?_
        walk_at "rd"
        exact ⟨p, n, t, m, ns, bad, far, rfl, hp3, .inl ⟨hb3.out, em_badN hb3 k3⟩⟩
      have hp3 := kindAt_extN e3 hp2
      have hb3 := hb2.extN e3
      have hf3 := hf.extN e3
      have ke3 : ∀ b o, b ≠ d → H b = some o → (∀ ps, o ≠ .tbl ps) → H3 b = some o := fun b o nb h n => e3 b o (ke b o nb h n) n
      have hd3 := dice_extN e3 hd2
      clear hp2 hb2 hf tb2 ke hd2
      refine g_name ?_
      refine g_appM (i := 5) (w := ("number " : Str) ++ tf) rfl g (by simp) (fun H5 e5 Q5 k5 => ?_) (fun H5 g5 => ?_)
      · have hp5 := kindAt_extN e5 hp3
        have hf5 := hf3.extN e5
        refine g_me ?_
        walk_at "rd"
        refine g_meK hp5 ?_
        walk_at "rd"
        exact ⟨p, n, t, m, ns, .int 12, far, rfl, hp5, .inr (.inl ⟨rfl, hf5.out, em_badN hf5 k5⟩)⟩
      refine g_appM (i := 5) (w := ("number " : Str) ++ tx) rfl g5 (by simp) (fun H6 e6 Q6 k6 => ?_) (fun H6 g6 => ?_)
      · have hb6 := hb3.extN e6
        walk_at "rd"
        exact ⟨bad, rfl, hb6.out, em_badN hb6 k6⟩
      refine g_appM (i := 5) (w := ("many 12" : Str)) rfl g6 (by simp) (fun H7 e7 Q7 k7 => ?_) (fun H7 g7 => ?_)
      · have hp7 := kindAt_extN e7 hp3
        refine g_me ?_
        walk_at "rd"
        refine g_meK hp7 ?_
        walk_at "rd"
        exact ⟨p, n, t, m, ns, .int 12, .int 12, rfl, hp7, .inr (.inr ⟨rfl, rfl, em_big k7⟩)⟩
      have hb7 := hb3.extN g7.e
      have hf7 := hf3.extN g7.e
      have tl := hb.text.1
      have tl2 := hf7.text.1
      clear g6 g5 g hp3 hb3 hf3
      walk_at "rd"
      refine g_repB hb7 ⟨_, _, rfl, rfl, by omega, ?_⟩
      walk_at "rd"
      refine g_repB hf7 ⟨_, _, rfl, rfl, by omega, ?_⟩
      walk_at "rd"
      refine g_repB hb7 ⟨_, _, rfl, rfl, by omega, ?_⟩
      walk_at "rd"
      refine ⟨by show 4 ≤ sizeLine; decide, fun o no => ?_⟩
      have g8 := g7.ext (Ext.new (o := HO.lst [V.str (("number " : Str) ++ tx), V.str (("number " : Str) ++ tf), V.str (("number " : Str) ++ tx), V.str "many 12"]) no)
      refine g_eqWs (L := [("number " : Str) ++ tx, ("number " : Str) ++ tf, ("number " : Str) ++ tx, "many 12"]) (SqL.of g8.at_) (SqL.of upd_same) (fun s hs => ?_) ?_
      · simp only [List.mem_cons, List.not_mem_nil, or_false] at hs
        rcases hs with rfl | rfl | rfl | rfl
        · exact hb.text.2
        · exact hf7.text.2
        · exact hb.text.2
        · decide +kernel
      exact k _ ⟨fun b o nb h n => g8.e b o (ke3 b o nb h n) n, dice_extN g8.e hd3, g8.tb⟩
end
end

/-! What is drawn, and that it stays. -/

section
open PySem PySem.Spec PyProof.Rows L2 Gd
open LamX (Tabs TabB ExtN GivesTo CodeO tLam)
section
variable {K : PySem.W.Frag} {C : Addr} {H H' : Hp} {x : V} {tx : Str} {d : Addr}
/-- a heap object that is no list stays; a list stays a list -/
theorem but_lst {a : Addr} {xs : List V} (hd' : DiceAt H' d) (e : ExtBut d H H') (h : H a = some (.lst xs)) : ∃ ys, H' a = some (.lst ys) := by
  by_cases z : a = d
  · obtain ⟨i, j, k, q, _⟩ := hd'
    exact ⟨_, by rw [z]; exact q⟩
  · exact ⟨xs, e _ _ z h⟩
theorem OddEl.keeps (e : Keeps H H') (h : OddEl H x) : OddEl H' x := by
  cases h with
  | str => exact .str
  | bl => exact .bl
  | tup h => exact .tup (e _ _ (fun _ z => by cases z) h)
  | non => exact .non
theorem WrongV.but (hd : DiceAt H d) (hd' : DiceAt H' d) (e : ExtBut d H H') (h : WrongV K H x) : WrongV K H' x := by
  have kd := dice_keepsX hd e
  cases h with
  | non => exact .non
  | three => exact .three
  | txt => exact .txt
  | dct h => exact .dct (kd _ _ (fun _ z => by cases z) h)
  | lst h =>
    obtain ⟨ys, q⟩ := but_lst hd' e h
    exact .lst q
  | nums h hl hb => exact .nums (sqT_keepsX kd h) hl hb
  | one h hv => exact .one (kd _ _ (fun _ z => by cases z) h) (hv.keeps kd)
  | two h => exact .two (kd _ _ (fun _ z => by cases z) h)
theorem OddEl.ext (e : Ext H H') (h : OddEl H x) : OddEl H' x := by
  cases h with
  | str => exact .str
  | bl => exact .bl
  | tup h => exact .tup (e _ _ h)
  | non => exact .non
theorem OddEl.extN (e : ExtN H H') (h : OddEl H x) : OddEl H' x := by
  cases h with
  | str => exact .str
  | bl => exact .bl
  | tup h => exact .tup (e _ _ h (fun _ z => by cases z))
  | non => exact .non
theorem WrongV.extN (e : ExtN H H') (h : WrongV K H x) : WrongV K H' x := by
  cases h with
  | non => exact .non
  | three => exact .three
  | txt => exact .txt
  | dct h => exact .dct (e _ _ h (fun _ z => by cases z))
  | lst h => exact .lst (e _ _ h (fun _ z => by cases z))
  | nums h hl hb => exact .nums (sqT_extN e h) hl hb
  | one h hv => exact .one (e _ _ h (fun _ z => by cases z)) (hv.extN e)
  | two h => exact .two (e _ _ h (fun _ z => by cases z))
theorem OddK.but (hd : DiceAt H d) (hd' : DiceAt H' d) (e : ExtBut d H H') (h : OddK K H x) : OddK K H' x := by
  have kd := dice_keepsX hd e
  cases h with
  | non => exact .non
  | int i => exact .int i
  | bl b => exact .bl b
  | str t => exact .str t
  | tup h => exact .tup (sqT_keepsX kd h)
  | lst h =>
    obtain ⟨ys, q⟩ := but_lst hd' e h
    exact .lst q
  | dct h => exact .dct (kd _ _ (fun _ z => by cases z) h)
/-- what is no text -/
inductive NoTxt (K : PySem.W.Frag) (C : Addr) (H : Hp) : V → Prop
  | non : NoTxt K C H .non
  | int (i : Int) : NoTxt K C H (.int i)
  | tup {a : Addr} {xs : List V} (h : SqT K H a xs) : NoTxt K C H (.ref a)
  | lst {a : Addr} {xs : List V} (h : H a = some (.lst xs)) : NoTxt K C H (.ref a)
  | own {p n t m : Addr} {ns : List Int} (h : KindAt K C H p n t m ns) : NoTxt K C H (.ref p)
theorem NoTxt.but (hd : DiceAt H d) (hd' : DiceAt H' d) (e : ExtBut d H H') (h : NoTxt K C H x) : NoTxt K C H' x := by
  have kd := dice_keepsX hd e
  cases h with
  | non => exact .non
  | int i => exact .int i
  | tup h => exact .tup (sqT_keepsX kd h)
  | lst h =>
    obtain ⟨ys, q⟩ := but_lst hd' e h
    exact .lst q
  | own h => exact .own (kindAt_keeps kd h)
theorem NoTxt.extN (e : ExtN H H') (h : NoTxt K C H x) : NoTxt K C H' x := by
  cases h with
  | non => exact .non
  | int i => exact .int i
  | tup h => exact .tup (sqT_extN e h)
  | lst h => exact .lst (e _ _ h (fun _ z => by cases z))
  | own h => exact .own (kindAt_extN e h)
theorem NoTxt.ty {mg : Str → Option Value} (Cl : KC K mg C) (nk : PySem.W.kitOne K (.ref C) (.type "str") = some false) (h : NoTxt K C H x) : ∃ t, TyX K H x t ∧ PySem.W.kitOne K t (.type "str") = some false := by
  cases h with
  | non => exact ⟨_, .base .non, by kernel_rfl⟩
  | int i => exact ⟨_, .base (.int i), by kernel_rfl⟩
  | tup h => exact ⟨_, tyT h, by kernel_rfl⟩
  | lst h => exact ⟨_, .base (.lst h), by kernel_rfl⟩
  | own h =>
    obtain ⟨dx, hp⟩ := h.ins
    exact ⟨_, Cl.ty hp, nk⟩
/-- all that is drawn -/
structure Bag (K : PySem.W.Frag) (C : Addr) (H : Hp) (p n t m q n2 t2 m2 : Addr) (ns ms : List Int) (wrong odd bad text idx : V) (tb ti : Str) : Prop where
  p : KindAt K C H p n t m ns
  q : KindAt K C H q n2 t2 m2 ms
  w : WrongV K H wrong
  o : OddK K H odd
  b : BadV H bad tb
  t : NoTxt K C H text
  i : BadV H idx ti
  ni : idx ≠ .int 13
theorem Bag.extN {p n t m q n2 t2 m2 : Addr} {ns ms : List Int} {wrong odd bad text idx : V} {tb ti : Str} (e : ExtN H H') (h : Bag K C H p n t m q n2 t2 m2 ns ms wrong odd bad text idx tb ti) : Bag K C H' p n t m q n2 t2 m2 ns ms wrong odd bad text idx tb ti :=
  ⟨kindAt_extN e h.p, kindAt_extN e h.q, h.w.extN e, h.o.extN e, h.b.extN e, h.t.extN e, h.i.extN e, h.ni⟩
theorem g_cm {sp : Sp} {E : XK} {ta : TE} {t : TA} {σ : L2.St} {Q : VK} (k : ta σ H fun x H1 => x = .ref C ∧ t σ H1 fun vs H2 => sp (.ref C :: vs) H2 Q E) : ClX.tCMeth C sp E ta t σ H Q := k
theorem g_ixo {sp : Sp} {E : L2.St → XK} {ta tb : TE} {σ : L2.St} {Q : VK} (k : ta σ H fun x H1 => tb σ H1 fun y H2 => ∃ p dx fs, x = .ref p ∧ H2 p = some (.ins C dx fs) ∧ sp [x, y] H2 Q (E σ)) : tIxO C sp E ta tb σ H Q := k
end
end

/-! One draw, judged. -/

section
open PySem PySem.Spec PyProof.Rows L2 Gd
open LamX (Tabs TabB ExtN GivesTo CodeO tLam)
section
variable {P : Program} {w : World} {K : PySem.W.Frag} {mg : Str → Option Value} {base : Heap} {f C CK CI CO CN CR CT t0 : Addr} {fd : FuncData}
theorem call_strK {X : Cx} {C : Addr} {k j : Nat} {sp : Sp} (D : Met1 X.prog X.w X.K X.mg X.base CX0 k C "__str__" ["self"] sp) (hr : Room j X.A) (hj : k + 2 ≤ j) : CallR X (.type "str") (rStrO C sp X0) := by
  obtain ⟨f, fd, M, _, F, hb⟩ := D.ex
  exact call_strO M F (hr.mono hj) hb (fun _ => quiet0)
abbrev sRight : Stmt := top 50
abbrev qRight : Str := "_law_right.<locals>.<lambda>"
theorem scRight : FnScope ["_law_dice_here", "_law_numbers", "_law_others", "_law_kind_here", "_law_other", "_law_wrong", "_law_odd", "_law_bad", "_law_text", "_law_index", "_law_told", "_law_sizes", "_law_due"] ["_law_dice_here"] (defScope sRight) := ⟨rfl, rfl, rfl, by decide +kernel, rfl, by decide +kernel, by decide +kernel⟩
def spRight (K : PySem.W.Frag) (T : List (Addr × Str)) : Sp := fun vs H Q _ => ∃ d : Addr, vs = [.ref d] ∧ DiceAt H d ∧ Tabs T H ∧ ∀ H', KeepT T d H H' → Q (.bl true) H'
theorem ok_right {c Pt : Addr} {T : List (Addr × Str)} (F : Fun K "_law_right" "_law_right" sRight f fd) (hc : fd.code = .ref c) (TB : TabB base mg c Pt) (hmT : (Pt, qRight) ∈ T) (hu : ∀ p ∈ T, p.1 = Pt → p.2 = qRight)
    (Tx : Txt K mg) (zstr : mg "str" = none) (Cl : KC K mg C) (A : ApiX P w K mg base C CI CO CN CR CT t0) (R : Met K mg CK CI CO CN CR CT) (NK : NKit K C) (nks : PySem.W.kitOne K (.ref C) (.type "str") = some false) (NR : Def1G P w K mg base CX0 24 "_law_are_numbers_refused" ["_law_dice_here", "_law_kind_here", "_law_odd", "_law_bad"] (spNumR K C T)) :
    FnG P w K mg base CX0 25 f fd ["_law_dice_here"] (spRight K T) := by
  refine fnGc F hc scRight (fun vs H Q E h => ?_) (fun Ar outer s H vs Q E hg hr h => ?_)
  · obtain ⟨d, rfl, _⟩ := h
    rfl
  · obtain ⟨d, rfl, hd, hT, k⟩ := h
    refine ⟨_, PSs.nox (pss_cons (ps_par (i := 1) (j := 2) (by rfl) scRight.nd rfl rfl (by decide) rfl rfl (pa_cons (pe_def A.kind hr (by decide) (by rfl) (pa_cons (pv 0) (pa_cons pe_int pa_nil))) (pa_cons (pe_def A.kind hr (by decide) (by rfl) (pa_cons (pv 0) (pa_cons pe_int pa_nil))) pa_nil)) (by rfl))
      (pss_cons (ps_asg (pe_tup (pa_cons (pe_mk1 A.ini pass0 hr (by decide) (by rfl) Cl.g (pa_cons (pv 1) pa_nil)) (pa_cons (pe_mk1 A.ini pass0 hr (by decide) (by rfl) Cl.g (pa_cons (pv 2) pa_nil)) pa_nil))) (pg_tup rfl (pgs_cons (pg_name (i := 3) scRight.nd rfl (Or.inr rfl)) (pgs_cons (pg_name (i := 4) scRight.nd rfl (Or.inr rfl)) pgs_nil))))
      (pss_cons (ps_asg (pe_tup (pa_cons (pe_def A.wrong hr (by decide) (by rfl) (pa_cons (pv 0) (pa_cons (pv 1) pa_nil))) (pa_cons (pe_def A.pick hr (by decide) (by rfl) (pa_cons (pv 0) (pa_cons (pe_lst (pa_cons pe_non (pa_cons (pv 1) (pa_cons (pe_callTy (call_strK A.str hr (by decide)) (by rfl) zstr (by decide +kernel) (pa_cons (pv 3) pa_nil)) (pa_cons pe_int (pa_cons (pe_lst pa_nil) (pa_cons (pe_dnewK) (pa_cons (pe_lst (pa_cons (pv 3) pa_nil)) (pa_cons pe_bl pa_nil))))))))) pa_nil))) pa_nil))) (pg_tup rfl (pgs_cons (pg_name (i := 5) scRight.nd rfl (Or.inr rfl)) (pgs_cons (pg_name (i := 6) scRight.nd rfl (Or.inr rfl)) pgs_nil))))
      (pss_cons (ps_set (i := 7) scRight.nd rfl (Or.inl rfl) (pe_def A.pick hr (by decide) (by rfl) (pa_cons (pv 0) (pa_cons (pe_lst (pa_cons pe_int (pa_cons (pe_un un_neg pe_int) (pa_cons pe_non (pa_cons pe_bl (pa_cons pe_str (pa_cons (pe_op op_pow pe_int pe_int) (pa_cons (pe_tup (pa_cons pe_int pa_nil)) pa_nil)))))))) pa_nil))))
      (pss_cons (ps_asg (pe_tup (pa_cons (pe_def A.pick hr (by decide) (by rfl) (pa_cons (pv 0) (pa_cons (pe_lst (pa_cons pe_non (pa_cons pe_int (pa_cons (pe_tup pa_nil) (pa_cons (pe_lst (pa_cons pe_str pa_nil)) (pa_cons (pv 3) pa_nil)))))) pa_nil))) (pa_cons (pe_def A.pick hr (by decide) (by rfl) (pa_cons (pv 0) (pa_cons (pe_lst (pa_cons (pe_un un_neg pe_int) (pa_cons pe_non (pa_cons pe_bl (pa_cons pe_str (pa_cons (pe_tup (pa_cons pe_int pa_nil)) pa_nil)))))) pa_nil))) pa_nil))) (pg_tup rfl (pgs_cons (pg_name (i := 8) scRight.nd rfl (Or.inr rfl)) (pgs_cons (pg_name (i := 9) scRight.nd rfl (Or.inr rfl)) pgs_nil))))
      (pss_cons (ps_set (i := 10) scRight.nd rfl (Or.inl rfl) (pe_lst (pa_cons (pe_met (k := 20) (t := fun E => (tMake C (spInitX K C CI) [] E (tCons (tVar 5) tNil))) (by rfl) R hg TB rfl hmT hu (hr.mono (by decide)) (LamX.lamS_by (by show LamX.lamSB (defScope sRight) _ = true; decide +kernel)) rfl (fun _ _ _ _ _ => by rfl) (fun _ _ _ _ E _ _ hr' => (pe_mk1 A.iniX (passes_call (takes_of rfl rfl rfl rfl) (fun _ _ _ _ h => h)) hr' (by decide) (by rfl) Cl.g (pa_cons (pv 5) pa_nil)))) pa_nil)))
      (pss_cons (ps_expr (pe_bm PySem.F.plainAttrs_list PySem.F.slot_list_append PySem.F.type_list_append mt_append (pv 10) (pa_cons (pe_met (k := 20) (t := fun E => (ClX.tCMeth C (spReadX K CO) E (tC (.ref C)) (tCons (tVar 8) tNil))) (by rfl) R hg TB rfl hmT hu (hr.mono (by decide)) (LamX.lamS_by (by show LamX.lamSB (defScope sRight) _ = true; decide +kernel)) rfl (fun _ _ _ _ _ => by rfl) (fun _ _ _ _ E _ _ hr' => (pe_rd A (passes_call (takes_of rfl rfl rfl rfl) (fun _ _ _ _ h => h)) (hr'.mono (by decide)) (pe_glob (v := .ref C) (by rfl) Cl.g rfl) (pa_cons (pv 8) pa_nil)))) pa_nil)))
      (pss_cons (ps_expr (pe_bm PySem.F.plainAttrs_list PySem.F.slot_list_append PySem.F.type_list_append mt_append (pv 10) (pa_cons (pe_met (k := 20) (t := fun E => (tMeth C "holds" (spMethX K C CI) [] E (tVar 3) (tCons (tVar 6) tNil))) (by rfl) R hg TB rfl hmT hu (hr.mono (by decide)) (LamX.lamS_by (by show LamX.lamSB (defScope sRight) _ = true; decide +kernel)) rfl (fun _ _ _ _ _ => by rfl) (fun _ _ _ _ E _ _ hr' => (pe_me1 Cl.cl A.holdsX (passes_call (takes_of rfl rfl rfl rfl) (fun _ _ _ _ h => h)) hr' (by decide) (pv 3) (pa_cons (pv 6) pa_nil)))) pa_nil)))
      (pss_cons (ps_expr (pe_bm PySem.F.plainAttrs_list PySem.F.slot_list_append PySem.F.type_list_append mt_append (pv 10) (pa_cons (pe_met (k := 20) (t := fun E => (tMeth C "tops" (spTopsA K C CI CR) [] E (tVar 3) (tCons (tVar 6) tNil))) (by rfl) R hg TB rfl hmT hu (hr.mono (by decide)) (LamX.lamS_by (by show LamX.lamSB (defScope sRight) _ = true; decide +kernel)) rfl (fun _ _ _ _ _ => by rfl) (fun _ _ _ _ E _ _ hr' => (pe_me1 Cl.cl A.tops (passes_call (takes_of rfl rfl rfl rfl) (fun _ _ _ _ h => h)) hr' (by decide) (pv 3) (pa_cons (pv 6) pa_nil)))) pa_nil)))
      (pss_cons (ps_expr (pe_bm PySem.F.plainAttrs_list PySem.F.slot_list_append PySem.F.type_list_append mt_append (pv 10) (pa_cons (pe_met (k := 20) (t := fun E => (tMeth C "over" (spOverA K C CI CT) [] E (tVar 3) (tCons (tVar 6) tNil))) (by rfl) R hg TB rfl hmT hu (hr.mono (by decide)) (LamX.lamS_by (by show LamX.lamSB (defScope sRight) _ = true; decide +kernel)) rfl (fun _ _ _ _ _ => by rfl) (fun _ _ _ _ E _ _ hr' => (pe_me1 Cl.cl A.over (passes_call (takes_of rfl rfl rfl rfl) (fun _ _ _ _ h => h)) hr' (by decide) (pv 3) (pa_cons (pv 6) pa_nil)))) pa_nil)))
      (pss_cons (ps_expr (pe_bm PySem.F.plainAttrs_list PySem.F.slot_list_append PySem.F.type_list_append mt_append (pv 10) (pa_cons (pe_met (k := 20) (t := fun E => (tCall (sp_wiX K C CI) [] E (tCons (tVar 6) tNil))) (by rfl) R hg TB rfl hmT hu (hr.mono (by decide)) (LamX.lamS_by (by show LamX.lamSB (defScope sRight) _ = true; decide +kernel)) rfl (fun _ _ _ _ _ => by rfl) (fun _ _ _ _ E _ _ hr' => (pe_defX A.withinX (passes_call (takes_of rfl rfl rfl rfl) (fun _ _ _ _ h => h)) hr' (by decide) (by rfl) (pa_cons (pv 6) pa_nil)))) pa_nil)))
      (pss_cons (ps_expr (pe_bm PySem.F.plainAttrs_list PySem.F.slot_list_append PySem.F.type_list_append mt_append (pv 10) (pa_cons (pe_met (k := 20) (t := fun E => (tIxO C (spItemX K C CN) (fun _ => E) (tVar 3) (tVar 9))) (by rfl) R hg TB rfl hmT hu (hr.mono (by decide)) (LamX.lamS_by (by show LamX.lamSB (defScope sRight) _ = true; decide +kernel)) rfl (fun _ _ _ _ _ => by rfl) (fun _ _ _ _ E _ _ hr' => (pe_it1 A.itemX (fun σ => passesAt (passes_call (takes_of rfl rfl rfl rfl) (fun _ _ _ _ h => h)) σ) hr' (by decide) (pv 3) (pv 9)))) pa_nil)))
      (pss_cons (ps_expr (pe_bm PySem.F.plainAttrs_list PySem.F.slot_list_append PySem.F.type_list_append mt_append (pv 10) (pa_cons (pe_met (k := 20) (t := fun E => (tMeth C "tops" (spTopsA K C CI CR) [] E (tVar 3) (tCons (tVar 4) tNil))) (by rfl) R hg TB rfl hmT hu (hr.mono (by decide)) (LamX.lamS_by (by show LamX.lamSB (defScope sRight) _ = true; decide +kernel)) rfl (fun _ _ _ _ _ => by rfl) (fun _ _ _ _ E _ _ hr' => (pe_me1 Cl.cl A.tops (passes_call (takes_of rfl rfl rfl rfl) (fun _ _ _ _ h => h)) hr' (by decide) (pv 3) (pa_cons (pv 4) pa_nil)))) pa_nil)))
      (pss_cons (ps_expr (pe_bm PySem.F.plainAttrs_list PySem.F.slot_list_append PySem.F.type_list_append mt_append (pv 10) (pa_cons (pe_met (k := 20) (t := fun E => (tMeth C "over" (spOverA K C CI CT) [] E (tVar 3) (tCons (tVar 4) tNil))) (by rfl) R hg TB rfl hmT hu (hr.mono (by decide)) (LamX.lamS_by (by show LamX.lamSB (defScope sRight) _ = true; decide +kernel)) rfl (fun _ _ _ _ _ => by rfl) (fun _ _ _ _ E _ _ hr' => (pe_me1 Cl.cl A.over (passes_call (takes_of rfl rfl rfl rfl) (fun _ _ _ _ h => h)) hr' (by decide) (pv 3) (pa_cons (pv 4) pa_nil)))) pa_nil)))
      (pss_cons (ps_expr (pe_bm PySem.F.plainAttrs_list PySem.F.slot_list_append PySem.F.type_list_append mt_append (pv 10) (pa_cons (pe_met (k := 20) (t := fun E => (tOp (rBinO C (spTwoK K C CT joinM) E) (tVar 3) (tVar 4))) (by rfl) R hg TB rfl hmT hu (hr.mono (by decide)) (LamX.lamS_by (by show LamX.lamSB (defScope sRight) _ = true; decide +kernel)) rfl (fun _ _ _ _ _ => by rfl) (fun _ _ _ _ E _ _ hr' => (pe_op (op_add1 A.add (fun σ => passesAt (passes_call (takes_of rfl rfl rfl rfl) (fun _ _ _ _ h => h)) σ) hr' (by decide)) (pv 3) (pv 4)))) pa_nil)))
      (pss_cons (ps_set (i := 11) scRight.nd rfl (Or.inl rfl) (pe_lst (pa_cons (pe_pro1 Cl.cl A.size hr (by decide) (pv 3)) (pa_cons (pe_pro1 Cl.cl A.size hr (by decide) (pv 4)) pa_nil))))
      (pss_cons (ps_set (i := 12) scRight.nd rfl (Or.inl rfl) (pe_lst (pa_cons pe_str (pa_cons pe_str (pa_cons pe_str (pa_cons pe_str (pa_cons pe_str (pa_cons pe_str (pa_cons (pe_op op_add_str pe_str (pe_callB (call_reprV hg hr.units) (by rfl) R.zr (by decide +kernel) (pa_cons (pv 9) pa_nil))) pa_nil)))))))))
      (pss_cons (ps_expr (pe_bm PySem.F.plainAttrs_list PySem.F.slot_list_append PySem.F.type_list_append mt_append (pv 12) (pa_cons (pe_ifExp (pt_cmpR op_eq (pe_ix ix_list (pv 11) pe_int (fun _ _ => rfl)) (pe_ix ix_list (pv 11) pe_int (fun _ _ => rfl)) (nomark _)) pe_str (pe_op op_add_str pe_str (pe_callB (call_reprV hg hr.units) (by rfl) R.zr (by decide +kernel) (pa_cons (pe_tup (pa_cons pe_str (pa_cons (pe_ix ix_list (pv 11) pe_int (fun _ _ => rfl)) (pa_cons (pe_ix ix_list (pv 11) pe_int (fun _ _ => rfl)) pa_nil)))) pa_nil)))) pa_nil)))
      (pss_cons (ps_set (i := 12) scRight.nd rfl (Or.inl rfl) (pe_op op_cat (pv 12) (pe_op op_rep (pe_lst (pa_cons (pe_ifExp (pt_cmpR op_gt (pe_callB (call_sumS rfl) (by rfl) Tx.sum (by decide +kernel) (pa_cons (pv 11) pa_nil)) pe_int (nomark _)) pe_str pe_str) pa_nil)) pe_int)))
      (pss_one (ps_ret (pe_and (pe_cmpR (op_eqD hr.units) (pv 10) (pv 12) (nomark _)) (pe_one (pe_defG hg NR hr (by decide) (by rfl) (pa_cons (pv 0) (pa_cons (pv 3) (pa_cons (pv 6) (pa_cons (pv 7) pa_nil)))))))))))))))))))))))))))), ?_⟩
    have sz : (100000 : Nat) < sizeLine := by decide
    try dsimp only [cx_nox, cx_K]
    walk_at "rd"
    refine g_par ?_
    walk_at "rd"
    refine ⟨d, 12, rfl, hd, by decide, by decide, fun H1 a ns b1 hd1 ta hF h12 => ?_⟩
    walk_at "rd"
    refine ⟨d, 12, rfl, hd1, by decide, by decide, fun H2 b ms b2 hd2 tb hG g12 => ?_⟩
    walk_at "rd"
    refine ⟨_, _, rfl, ?_⟩
    have ta2 := TupX.keeps (dice_keepsX hd1 b2) ta
    have k2 := b1.trans b2
    have T2 := tabs_but hd k2 hT
    clear b1 b2 ta hd1
    walk_at "rd"
    refine g_make ?_
    walk_at "rd"
    refine g_mk3 ta2 hF fun H3 p n t m e3 hp => ?_
    walk_at "rd"
    refine g_make ?_
    walk_at "rd"
    refine g_mk3 (tb.ext e3) hG fun H4 q n2 t2 m2 e4 hq => ?_
    walk_at "rd"
    refine ⟨by show 2 ≤ sizeLine; decide, fun z nz => ?_⟩
    refine ⟨z, _, rfl, SqT.of upd_same, rfl, _, _, rfl, ?_⟩
    refine ⟨_, _, rfl, rfl, ?_⟩
    have ez := Ext.new (o := HO.tup [V.ref p, V.ref q]) nz
    have e5 := Ext.trans e3 (Ext.trans e4 ez)
    have ta5 := ta2.ext e5
    have hp5 := (hp.ext e4).ext ez
    have hq5 := hq.ext ez
    have hd5 := hd2.ext e5
    have T5 := T2.ext e5
    have k5 := k2.trans (ExtBut.of (d := d) e5)
    generalize upd H4 z (.tup [V.ref p, V.ref q]) = H5 at hp5 hq5 ta5 hd5 T5 k5
    clear e3 hp e4 hq nz ez e5 ta2 T2 k2 hd2 tb
    walk_at "rd"
    refine ⟨d, a, ns, rfl, hd5, ta5, hF, fun H6 wrong b6 hd6 hw => ?_⟩
    have kd6 := dice_keepsX hd5 b6
    have ta6 := TupX.keeps kd6 ta5
    have hp6 := kindAt_keeps kd6 hp5
    have hq6 := kindAt_keeps kd6 hq5
    have T6 := tabs_but hd5 b6 T5
    have k6 := k5.trans b6
    clear b6 hd5 ta5 hp5 hq5 T5 k5 kd6
    obtain ⟨dp, ip⟩ := id hp6.ins
    walk_at "rd"
    refine ⟨p, dp, _, rfl, ip, p, n, t, m, ns, rfl, hp6, fun H7 e7 => ⟨_, rfl, ?_⟩⟩
    walk_at "rd"
    refine ⟨Nat.zero_le _, fun l1 n1 => ?_⟩
    have e8 := Ext.new (o := HO.lst []) n1
    walk_at "rd"
    intro l2 n2'
    have e9 := Ext.new (o := HO.dK []) n2'
    walk_at "rd"
    refine ⟨by show 1 ≤ sizeLine; decide, fun l3 n3 => ?_⟩
    have e10 := Ext.new (o := HO.lst [V.ref p]) n3
    walk_at "rd"
    refine ⟨by show 8 ≤ sizeLine; decide, fun l4 n4 => ?_⟩
    have e11 := Ext.new (o := HO.lst [V.non, V.ref a, V.str (kindTx ns), V.int 0, V.ref l1, V.ref l2, V.ref l3, V.bl true]) n4
    walk_at "rd"
    have e611 := Ext.trans e7 (Ext.trans e8 (Ext.trans e9 (Ext.trans e10 e11)))
    have hd11 := hd6.ext e611
    refine ⟨d, l4, _, rfl, hd11, SqL.of upd_same, dice_none (hd6.ext (Ext.trans e7 (Ext.trans e8 (Ext.trans e9 e10)))) n4, by show 0 < 8; decide, by show 8 ≤ 5000; decide, fun H12 odd b12 hd12 hx => ?_⟩
    have ho : OddK K H12 odd := by
      refine OddK.but hd11 hd12 b12 ?_
      simp only [List.mem_cons, List.not_mem_nil, or_false] at hx
      rcases hx with rfl | rfl | rfl | rfl | rfl | rfl | rfl | rfl
      · exact .non
      · exact .tup (ta6.ext e611).sq
      · exact .str _
      · exact .int 0
      · exact .lst (Ext.trans e9 (Ext.trans e10 e11) _ _ upd_same)
      · exact .dct (Ext.trans e10 e11 _ _ upd_same)
      · exact .lst (e11 _ _ upd_same)
      · exact .bl true
    have kd := dice_keepsX hd11 b12
    have hp12 := kindAt_keeps kd (hp6.ext e611)
    have hq12 := kindAt_keeps kd (hq6.ext e611)
    have hw12 : WrongV K H12 wrong := WrongV.but hd11 hd12 b12 (hw.extN (extN_of e611))
    have T12 := tabs_but hd11 b12 (T6.ext e611)
    have k12 := (k6.trans (ExtBut.of (d := d) e611)).trans b12
    refine ⟨by show 2 ≤ sizeLine; decide, fun z nz => ?_⟩
    refine ⟨z, _, rfl, SqT.of upd_same, rfl, _, _, rfl, ?_⟩
    refine ⟨_, _, rfl, rfl, ?_⟩
    have ez := Ext.new (o := HO.tup [wrong, odd]) nz
    have hd13 := hd12.ext ez
    have hp13 := hp12.ext ez
    have hq13 := hq12.ext ez
    have hw13 := hw12.extN (extN_of ez)
    have ho13 := ho.extN (extN_of ez)
    have T13 := T12.ext ez
    have k13 := k12.trans (ExtBut.of (d := d) ez)
    generalize upd H12 z (.tup [wrong, odd]) = H13 at hd13 hp13 hq13 hw13 ho13 T13 k13
    clear hx ip e7 e8 e9 e10 e11 e611 hd11 b12 kd n1 n2' n3 n4 hp12 hq12 hw12 T12 k12 hd6 hw ta6 hp6 hq6 T6 k6 ez nz ho hd12
    walk_at "rd"
    refine g_I ⟨by decide, by decide, by decide⟩ ?_
    walk_at "rd"
    refine ⟨by show 1 ≤ sizeLine; decide, fun l1 n1 => ?_⟩
    have e8 := Ext.new (o := HO.tup [V.int 1]) n1
    walk_at "rd"
    refine ⟨by show 7 ≤ sizeLine; decide, fun l4 n4 => ?_⟩
    have e9 := Ext.new (o := HO.lst [V.int 13, V.int (-1), V.non, V.bl true, V.str "2", V.int (10 ^ Int.toNat 60), V.ref l1]) n4
    have e89 := Ext.trans e8 e9
    have hd14 := hd13.ext e89
    walk_at "rd"
    refine ⟨d, l4, _, rfl, hd14, SqL.of upd_same, dice_none (hd13.ext e8) n4, by show 0 < 7; decide, by show 7 ≤ 5000; decide, fun H15 bad b15 hd15 hx => ?_⟩
    have kd := dice_keepsX hd14 b15
    obtain ⟨tb, hb⟩ : ∃ tb, BadV H15 bad tb := by
      simp only [List.mem_cons, List.not_mem_nil, or_false] at hx
      rcases hx with rfl | rfl | rfl | rfl | rfl | rfl | rfl
      · exact ⟨_, .int 13 (.inl rfl)⟩
      · exact ⟨_, .int (-1) (.inr (.inl rfl))⟩
      · exact ⟨_, .non⟩
      · exact ⟨_, .bl true⟩
      · exact ⟨_, .str "2" (.inl rfl)⟩
      · exact ⟨_, .int (10 ^ 60) (.inr (.inr rfl))⟩
      · exact ⟨_, .tup 1 (.inl rfl) (kd _ _ (fun _ z => by cases z) (e9 _ _ upd_same))⟩
    have hp15 := kindAt_keeps kd (hp13.ext e89)
    have hq15 := kindAt_keeps kd (hq13.ext e89)
    have hw15 : WrongV K H15 wrong := WrongV.but hd14 hd15 b15 (hw13.extN (extN_of e89))
    have ho15 : OddK K H15 odd := OddK.but hd14 hd15 b15 (ho13.extN (extN_of e89))
    have T15 := tabs_but hd14 b15 (T13.ext e89)
    have k15 := (k13.trans (ExtBut.of (d := d) e89)).trans b15
    clear hx e8 e9 e89 hd14 b15 kd n1 n4 hp13 hq13 hw13 ho13 T13 k13 hd13
    walk_at "rd"
    refine ⟨Nat.zero_le _, fun l1 n1 => ?_⟩
    have e8 := Ext.new (o := HO.tup []) n1
    walk_at "rd"
    refine ⟨by show 1 ≤ sizeLine; decide, fun l2 n2' => ?_⟩
    have e9 := Ext.new (o := HO.lst [V.str "[]"]) n2'
    walk_at "rd"
    refine ⟨by show 5 ≤ sizeLine; decide, fun l4 n4 => ?_⟩
    have e10 := Ext.new (o := HO.lst [V.non, V.int 3, V.ref l1, V.ref l2, V.ref p]) n4
    have e89 := Ext.trans e8 (Ext.trans e9 e10)
    have hd16 := hd15.ext e89
    walk_at "rd"
    refine ⟨d, l4, _, rfl, hd16, SqL.of upd_same, dice_none (hd15.ext (Ext.trans e8 e9)) n4, by show 0 < 5; decide, by show 5 ≤ 5000; decide, fun H17 text b17 hd17 hx => ?_⟩
    have kd := dice_keepsX hd16 b17
    have ht17 : NoTxt K C H17 text := by
      refine NoTxt.but hd16 hd17 b17 ?_
      simp only [List.mem_cons, List.not_mem_nil, or_false] at hx
      rcases hx with rfl | rfl | rfl | rfl | rfl
      · exact .non
      · exact .int 3
      · exact .tup (SqT.of (Ext.trans e9 e10 _ _ upd_same))
      · exact .lst (e10 _ _ upd_same)
      · exact .own (hp15.ext e89)
    have hp17 := kindAt_keeps kd (hp15.ext e89)
    have hq17 := kindAt_keeps kd (hq15.ext e89)
    have hw17 : WrongV K H17 wrong := WrongV.but hd16 hd17 b17 (hw15.extN (extN_of e89))
    have ho17 : OddK K H17 odd := OddK.but hd16 hd17 b17 (ho15.extN (extN_of e89))
    have hb17 := (hb.ext e89).keeps kd
    have T17 := tabs_but hd16 b17 (T15.ext e89)
    have k17 := (k15.trans (ExtBut.of (d := d) e89)).trans b17
    clear hx e8 e9 e10 e89 hd16 b17 kd n1 n2' n4 hp15 hq15 hw15 ho15 hb T15 k15 hd15
    walk_at "rd"
    refine ⟨by show 1 ≤ sizeLine; decide, fun l1 n1 => ?_⟩
    have e8 := Ext.new (o := HO.tup [V.int 0]) n1
    walk_at "rd"
    refine ⟨by show 5 ≤ sizeLine; decide, fun l4 n4 => ?_⟩
    have e9 := Ext.new (o := HO.lst [V.int (-1), V.non, V.bl false, V.str "0", V.ref l1]) n4
    have e89 := Ext.trans e8 e9
    have hd18 := hd17.ext e89
    walk_at "rd"
    refine ⟨d, l4, _, rfl, hd18, SqL.of upd_same, dice_none (hd17.ext e8) n4, by show 0 < 5; decide, by show 5 ≤ 5000; decide, fun H19 idx b19 hd19 hx => ?_⟩
    have kd := dice_keepsX hd18 b19
    obtain ⟨ti, hi, ni⟩ : ∃ ti, BadV H19 idx ti ∧ idx ≠ .int 13 := by
      simp only [List.mem_cons, List.not_mem_nil, or_false] at hx
      rcases hx with rfl | rfl | rfl | rfl | rfl
      · exact ⟨_, .int (-1) (.inr (.inl rfl)), fun z => by injection z with z; exact absurd z (by decide)⟩
      · exact ⟨_, .non, fun z => by cases z⟩
      · exact ⟨_, .bl false, fun z => by cases z⟩
      · exact ⟨_, .str "0" (.inr rfl), fun z => by cases z⟩
      · exact ⟨_, .tup 0 (.inr rfl) (kd _ _ (fun _ z => by cases z) (e9 _ _ upd_same)), fun z => by cases z⟩
    have hp19 := kindAt_keeps kd (hp17.ext e89)
    have hq19 := kindAt_keeps kd (hq17.ext e89)
    have hw19 : WrongV K H19 wrong := WrongV.but hd18 hd19 b19 (hw17.extN (extN_of e89))
    have ho19 : OddK K H19 odd := OddK.but hd18 hd19 b19 (ho17.extN (extN_of e89))
    have ht19 : NoTxt K C H19 text := NoTxt.but hd18 hd19 b19 (ht17.extN (extN_of e89))
    have hb19 := (hb17.ext e89).keeps kd
    have T19 := tabs_but hd18 b19 (T17.ext e89)
    have k19 := (k17.trans (ExtBut.of (d := d) e89)).trans b19
    have bag : Bag K C H19 p n t m q n2 t2 m2 ns ms wrong odd bad text idx tb ti := ⟨hp19, hq19, hw19, ho19, hb19, ht19, hi, ni⟩
    clear hx e8 e9 e89 hd18 b19 kd n1 n4 hp17 hq17 hw17 ho17 hb17 ht17 T17 k17 hd17 hp19 hq19 hw19 ho19 ht19 hb19 hi
    refine ⟨by show 2 ≤ sizeLine; decide, fun z nz => ?_⟩
    refine ⟨z, _, rfl, SqT.of upd_same, rfl, _, _, rfl, ?_⟩
    refine ⟨_, _, rfl, rfl, ?_⟩
    have ez := Ext.new (o := HO.tup [text, idx]) nz
    have hd20 := hd19.ext ez
    have bag2 := bag.extN (extN_of ez)
    have T20 := T19.ext ez
    have k20 := k19.trans (ExtBut.of (d := d) ez)
    generalize upd H19 z (.tup [text, idx]) = H20 at hd20 bag2 T20 k20
    clear ez nz hd19 bag T19 k19
    refine g_next ?_
    dsimp only
    refine g_seq (g_asg (g_lstM T20 (w := "kind") (fun H1 e1 Q1 k1 => ?_) (fun H21 H22 r e21 t21 g0 => ?_)))
    · have h1 := bag2.extN e1
      refine g_make ?_
      walk_at "rd"
      intro x dx hx hdx ne
      have em := made_ext (o := HO.own x) (u := HO.ins C dx []) hx hdx
      exact ⟨x, dx, wrong, rfl, upd_same, (h1.w.extN (extN_of em)).row, em_bad0 fun H' e' => k1 H' (Ext.trans em e')⟩
    have bag3 := bag2.extN e21
    have hd21 := dice_extN e21 hd20
    have k21 : ∀ b o, b ≠ d → H b = some o → (∀ ps, o ≠ .tbl ps) → H21 b = some o := fun b o nb h nt => e21 b o (k20 b o nb h) nt
    clear bag2 T20 k20 hd20 e21
    refine g_name ?_
    refine g_appM (i := 10) (w := ("operation" : Str)) rfl g0 (by simp) (fun H1 e1 Q1 k1 => ?_) (fun H1 g1 => ?_)
    · have h1 := bag3.extN e1
      obtain ⟨tt, htt, hkk⟩ := h1.t.ty Cl nks
      refine g_cm ?_
      walk_at "rd"
      refine ⟨rfl, ?_⟩
      walk_at "rd"
      exact ⟨.ref C, text, tt, rfl, htt, hkk, em_badO k1⟩
    clear g0
    generalize H1 = Hg1 at g1
    refine g_appM (i := 10) (w := ("kind" : Str)) rfl g1 (by simp) (fun H1 e1 Q1 k1 => ?_) (fun H1 g2 => ?_)
    · have h1 := bag3.extN e1
      refine g_me ?_
      walk_at "rd"
      refine g_meK h1.p ?_
      walk_at "rd"
      exact ⟨p, odd, rfl, h1.o.notKind NK, em_bad0 k1⟩
    clear g1
    generalize H1 = Hg2 at g2
    refine g_appM (i := 10) (w := ("kind" : Str)) rfl g2 (by simp) (fun H1 e1 Q1 k1 => ?_) (fun H1 g3 => ?_)
    · have h1 := bag3.extN e1
      refine g_me ?_
      walk_at "rd"
      refine g_meK h1.p ?_
      walk_at "rd"
      exact .inl ⟨p, odd, rfl, h1.o.notKind NK, em_bad0 k1⟩
    clear g2
    generalize H1 = Hg3 at g3
    refine g_appM (i := 10) (w := ("kind" : Str)) rfl g3 (by simp) (fun H1 e1 Q1 k1 => ?_) (fun H1 g4 => ?_)
    · have h1 := bag3.extN e1
      refine g_me ?_
      walk_at "rd"
      refine g_meK h1.p ?_
      walk_at "rd"
      exact .inl ⟨p, odd, rfl, h1.o.notKind NK, em_bad0 k1⟩
    clear g3
    generalize H1 = Hg4 at g4
    refine g_appM (i := 10) (w := ("kind" : Str)) rfl g4 (by simp) (fun H1 e1 Q1 k1 => ?_) (fun H1 g5 => ?_)
    · have h1 := bag3.extN e1
      walk_at "rd"
      exact ⟨odd, rfl, h1.o.notKind NK, em_bad0 k1⟩
    clear g4
    generalize H1 = Hg5 at g5
    refine g_appM (i := 10) (w := ("number " : Str) ++ ti) rfl g5 (by simp) (fun H1 e1 Q1 k1 => ?_) (fun H1 g6 => ?_)
    · have h1 := bag3.extN e1
      obtain ⟨dp1, ip1⟩ := id h1.p.ins
      refine g_ixo ?_
      walk_at "rd"
      exact ⟨p, dp1, _, rfl, ip1, p, n, t, m, ns, idx, rfl, h1.p, h1.i.index h1.ni, em_badN h1.i k1⟩
    clear g5
    generalize H1 = Hg6 at g6
    refine g_appM (i := 10) (w := if ns.sum = ms.sum then ("fine" : Str) else ("refused " : Str) ++ sizeTx ns.sum ms.sum) rfl g6 (by simp) (fun H1 e1 Q1 k1 => ?_) (fun H1 g7 => ?_)
    · have h1 := bag3.extN e1
      refine g_me ?_
      walk_at "rd"
      refine g_meK h1.p ?_
      walk_at "rd"
      refine .inr ⟨p, n, t, m, q, n2, t2, m2, ns, ms, rfl, h1.p, h1.q, fun hs H' b e' => ?_, fun hs => ?_⟩
      · rw [if_pos hs] at k1
        exact k1 H' e'
      · rw [if_neg hs] at k1
        exact em_size hF.sum0 hF.sum hG.sum0 hG.sum k1
    clear g6
    generalize H1 = Hg7 at g7
    refine g_appM (i := 10) (w := if 12 < ns.sum + ms.sum then ("many 12" : Str) else ("fine" : Str)) rfl g7 (by simp) (fun H1 e1 Q1 k1 => ?_) (fun H1 g8 => ?_)
    · have h1 := bag3.extN e1
      refine g_me ?_
      walk_at "rd"
      refine g_meK h1.p ?_
      walk_at "rd"
      refine .inr ⟨p, n, t, m, q, n2, t2, m2, ns, ms, rfl, h1.p, h1.q, fun hs H' p' n' t' m' e' _ => ?_, fun hs => ?_⟩
      · rw [if_neg (by omega)] at k1
        exact k1 H' e'
      · rw [if_pos hs] at k1
        exact em_big k1
    clear g7
    generalize H1 = Hg8 at g8
    refine g_appM (i := 10) (w := if 12 < ns.sum + ms.sum then ("many 12" : Str) else ("fine" : Str)) rfl g8 (by simp) (fun H1 e1 Q1 k1 => ?_) (fun H1 g9 => ?_)
    · have h1 := bag3.extN e1
      obtain ⟨dp1, ip1⟩ := id h1.p.ins
      obtain ⟨dq1, iq1⟩ := id h1.q.ins
      walk_at "rd"
      refine ⟨p, dp1, _, rfl, ip1, .inl ⟨q, dq1, _, rfl, iq1⟩, ⟨p, n, t, m, q, n2, t2, m2, ns, ms, rfl, h1.p, h1.q, fun hs H' p' n' t' m' e' _ => ⟨⟨p', rfl⟩, ?_⟩, fun hs => ?_⟩⟩
      · rw [if_neg (by omega)] at k1
        exact k1 H' e'
      · rw [if_pos hs] at k1
        exact em_big k1
    clear g8
    generalize H1 = Hg9 at g9
    have bag4 := bag3.extN g9.e
    have hd30 := dice_extN g9.e hd21
    have T30 := g9.tb
    have k30 : ∀ b o, b ≠ d → H b = some o → (∀ ps, o ≠ .tbl ps) → Hg9 b = some o := fun b o nb h nt => g9.e b o (k21 b o nb h nt) nt
    have told := g9.at_
    clear bag3 hd21 k21 g9 t21
    walk_at "rd"
    refine g_gets bag4.p fun J1 e1 => ?_
    walk_at "rd"
    refine g_gets (bag4.q.ext e1) fun J2 e2 => ?_
    walk_at "rd"
    refine ⟨by show 2 ≤ sizeLine; decide, fun rs nrs => ?_⟩
    have e13 := Ext.trans (Ext.trans e1 e2) (Ext.new (o := HO.lst [V.int ns.sum, V.int ms.sum]) nrs)
    have hrs : upd J2 rs (.lst [V.int ns.sum, V.int ms.sum]) rs = some (.lst [V.int ns.sum, V.int ms.sum]) := upd_same
    generalize upd J2 rs (.lst [V.int ns.sum, V.int ms.sum]) = J3 at e13 hrs
    clear e1 e2 nrs
    have tl := bag4.i.text.1
    walk_at "rd"
    refine g_repB (bag4.i.ext e13) ⟨_, _, rfl, rfl, by omega, ?_⟩
    walk_at "rd"
    refine ⟨by show 7 ≤ sizeLine; decide, fun r2 nr2 => ?_⟩
    have g := Gr.start (L := [V.str "kind", V.str "operation", V.str "kind", V.str "kind", V.str "kind", V.str "kind", V.str (("number " : Str) ++ ti)]) (T30.ext e13) (extN_of e13) (none_of e13 nr2) nr2
    have hrs2 := Ext.new (o := HO.lst [V.str "kind", V.str "operation", V.str "kind", V.str "kind", V.str "kind", V.str "kind", V.str (("number " : Str) ++ ti)]) nr2 _ _ hrs
    have nrs2 : rs ≠ r2 := fun z => by
      rw [← z, hrs] at nr2
      cases nr2
    generalize upd J3 r2 (.lst [V.str "kind", V.str "operation", V.str "kind", V.str "kind", V.str "kind", V.str "kind", V.str (("number " : Str) ++ ti)]) = J4 at g hrs2
    clear nr2 hrs e13
    refine g_name ?_
    dsimp only
    refine g_cut (fun σ H' => σ = [some (.ref d), some (.ref a), some (.ref b), some (.ref p), some (.ref q), some wrong, some odd, some bad, some text, some idx, some (.ref r), some (.ref rs), some (.ref r2)] ∧ Gr T Hg9 r2 ([V.str "kind", V.str "operation", V.str "kind", V.str "kind", V.str "kind", V.str "kind", V.str (("number " : Str) ++ ti)] ++ [V.str (if ns.sum = ms.sum then ("fine" : Str) else ("refused " : Str) ++ sizeTx ns.sum ms.sum)]) H' ∧ H' rs = some (.lst [V.int ns.sum, V.int ms.sum])) (fun σ' J5 hN => ?_) (fun go => ?_)
    rotate_left
    · walk_at "rd"
      refine ⟨.inl ⟨rfl, _, SqL.of g.at_⟩, ?_⟩
      walk_at "rd"
      refine g_ixL (SqL.of hrs2) (by rfl) ?_
      walk_at "rd"
      refine g_ixL (SqL.of hrs2) (by rfl) ?_
      walk_at "rd"
      by_cases hs : ns.sum = ms.sum
      · rw [decide_eq_true hs]
        walk_at "rd"
        refine ⟨r2, _, _, rfl, rfl, g.at_, by show 7 < sizeLine; decide, ?_⟩
        refine go _ _ ⟨rfl, ?_, (upd_ne nrs2).trans hrs2⟩
        rw [if_pos hs]
        exact g.app _
      · rw [decide_eq_false hs]
        walk_at "rd"
        refine g_ixL (SqL.of hrs2) (by rfl) ?_
        walk_at "rd"
        refine g_ixL (SqL.of hrs2) (by rfl) ?_
        walk_at "rd"
        refine ⟨by show 3 ≤ sizeLine; decide, fun tt ntt => ?_⟩
        have et := Ext.new (o := HO.tup [V.str "size", V.int ns.sum, V.int ms.sum]) ntt
        obtain ⟨s1, s2, _⟩ := says_size (K := K) (H := upd J4 tt (.tup [V.str "size", V.int ns.sum, V.int ms.sum])) (a := tt) hF.sum0 hF.sum hG.sum0 hG.sum (SqT.of upd_same)
        refine ⟨_, _, rfl, s1, ?_⟩
        have e8 : ("refused " : Str).length ≤ 100 := by decide
        refine ⟨_, _, rfl, rfl, by omega, ?_⟩
        walk_at "rd"
        refine ⟨r2, _, _, rfl, rfl, (g.ext et).at_, by show 7 < sizeLine; decide, ?_⟩
        refine go _ _ ⟨rfl, ?_, (upd_ne nrs2).trans (et _ _ hrs2)⟩
        rw [if_neg hs]
        exact (g.ext et).app _
    obtain ⟨rfl, g2, hrs3⟩ := hN
    clear g hrs2
    refine g_cut (fun σ H' => ∃ r3, σ = [some (.ref d), some (.ref a), some (.ref b), some (.ref p), some (.ref q), some wrong, some odd, some bad, some text, some idx, some (.ref r), some (.ref rs), some (.ref r3)] ∧ Ext J5 H' ∧ H' r3 = some (.lst ([V.str "kind", V.str "operation", V.str "kind", V.str "kind", V.str "kind", V.str "kind", V.str (("number " : Str) ++ ti)] ++ [V.str (if ns.sum = ms.sum then ("fine" : Str) else ("refused " : Str) ++ sizeTx ns.sum ms.sum)] ++ [V.str (if 12 < ns.sum + ms.sum then ("many 12" : Str) else ("fine" : Str)), V.str (if 12 < ns.sum + ms.sum then ("many 12" : Str) else ("fine" : Str))]))) (fun σ' J6 hN => ?_) (fun go => ?_)
    rotate_left
    · walk_at "rd"
      refine ⟨rs, [ns.sum, ms.sum], rfl, .inl (SqL.of hrs3), ?_⟩
      walk_at "rd"
      have es : [ns.sum, ms.sum].sum = ns.sum + ms.sum := by simp
      by_cases hs : 12 < ns.sum + ms.sum
      · rw [decide_eq_true (show (12 : Int) < [ns.sum, ms.sum].sum by rw [es]; exact hs)]
        walk_at "rd"
        refine ⟨by show 1 ≤ sizeLine; decide, fun l1 n1 => ?_⟩
        have e1 := Ext.new (o := HO.lst [V.str "many 12"]) n1
        refine ⟨l1, 2, [V.str "many 12"], rfl, rfl, upd_same, by decide, by decide, by show 1 * 2 ≤ sizeLine; decide, fun l2 n2 => ?_⟩
        have e2 := Ext.new (o := HO.lst (List.replicate (2 : Int).toNat [V.str "many 12"]).flatten) n2
        refine ⟨r2, l2, _, _, rfl, rfl, Ext.trans e1 e2 _ _ g2.at_, upd_same, by show 8 + 2 ≤ sizeLine; decide, fun r3 n3 => ?_⟩
        refine g_name (go _ _ ⟨r3, rfl, Ext.trans e1 (Ext.trans e2 (Ext.new n3)), ?_⟩)
        rw [upd_same, if_pos hs]
        rfl
      · rw [decide_eq_false (show ¬ (12 : Int) < [ns.sum, ms.sum].sum by rw [es]; exact hs)]
        walk_at "rd"
        refine ⟨by show 1 ≤ sizeLine; decide, fun l1 n1 => ?_⟩
        have e1 := Ext.new (o := HO.lst [V.str "fine"]) n1
        refine ⟨l1, 2, [V.str "fine"], rfl, rfl, upd_same, by decide, by decide, by show 1 * 2 ≤ sizeLine; decide, fun l2 n2 => ?_⟩
        have e2 := Ext.new (o := HO.lst (List.replicate (2 : Int).toNat [V.str "fine"]).flatten) n2
        refine ⟨r2, l2, _, _, rfl, rfl, Ext.trans e1 e2 _ _ g2.at_, upd_same, by show 8 + 2 ≤ sizeLine; decide, fun r3 n3 => ?_⟩
        refine g_name (go _ _ ⟨r3, rfl, Ext.trans e1 (Ext.trans e2 (Ext.new n3)), ?_⟩)
        rw [upd_same, if_neg hs]
        rfl
    obtain ⟨r3, rfl, e6, h3⟩ := hN
    have g3 := g2.ext e6
    have tolds := g3.e _ _ told (fun _ z => by cases z)
    have bag6 := bag4.extN g3.e
    have hd6 := dice_extN g3.e hd30
    have ti2 := bag4.i.text.2
    have w1 : PyData.strOk (if ns.sum = ms.sum then ("fine" : Str) else ("refused " : Str) ++ sizeTx ns.sum ms.sum) = true := by
      split
      · decide +kernel
      · exact (says_size (K := K) (H := upd J6 r3 (.tup [V.str "size", V.int ns.sum, V.int ms.sum])) (a := r3) hF.sum0 hF.sum hG.sum0 hG.sum (SqT.of upd_same)).2.2
    have w2 : PyData.strOk (if 12 < ns.sum + ms.sum then ("many 12" : Str) else ("fine" : Str)) = true := by split <;> decide +kernel
    walk_at "rd"
    refine g_eqWs (L := ["kind", "operation", "kind", "kind", "kind", "kind", ("number " : Str) ++ ti, (if ns.sum = ms.sum then ("fine" : Str) else ("refused " : Str) ++ sizeTx ns.sum ms.sum), (if 12 < ns.sum + ms.sum then ("many 12" : Str) else ("fine" : Str)), (if 12 < ns.sum + ms.sum then ("many 12" : Str) else ("fine" : Str))]) (SqL.of tolds) (SqL.of h3) (fun s hs => ?_) ?_
    · simp only [List.mem_cons, List.not_mem_nil, or_false] at hs
      rcases hs with rfl | rfl | rfl | rfl | rfl | rfl | rfl | rfl | rfl | rfl
      · decide +kernel
      · decide +kernel
      · decide +kernel
      · decide +kernel
      · decide +kernel
      · decide +kernel
      · exact ti2
      · exact w1
      · exact w2
      · exact w2
    walk_at "rd"
    refine ⟨d, p, n, t, m, ns, odd, bad, tb, rfl, hd6, bag6.p, bag6.o, bag6.b, g3.tb, fun H' kt => ?_⟩
    exact k H' ⟨fun b o nb h nt => kt.ext b o nb (g3.e b o (k30 b o nb h nt) nt) nt, kt.dice, kt.tabs⟩
end
end

/-! A kind made of numbers in any tuple. -/

section
open PySem PySem.Spec PyProof.Rows L2 Gd
section
variable {P : Program} {w : World} {K : PySem.W.Frag} {mg : Str → Option Value} {base : Heap} {f C : Addr} {fd : FuncData}
theorem scInitF : FnScope ["self", "numbers", "number"] ["self", "numbers"] (defScope sInit) := ⟨rfl, rfl, rfl, by decide +kernel, rfl, by decide +kernel, by decide +kernel⟩
def spInitF (K : PySem.W.Frag) (C : Addr) : Sp := fun vs H Q _ => ∃ (p dx a : Addr) (ns : List Int), vs = [.ref p, .ref a] ∧ H p = some (.ins C dx []) ∧ SqT K H a (ns.map V.int) ∧ Fall ns ∧ ∀ H', ExtBut p H H' → Q .non H'
theorem ok_initF {t0 : Addr} (F : FnI K t0 f fd) (T : Txt K mg) (Cl : KC K mg C) (Fa : Def1 P w K mg base CX0 4 "is_falling" ["value", "most"] (spFalling K)) :
    FnOk P w K mg base CX0 5 f fd ["self", "numbers"] (spInitF K C) := by
  obtain ⟨tM, gM⟩ := Cl.most
  refine F.ok scInitF (fun vs H Q E h => ?_) (fun cdv A outer s H vs Q E hr h => ?_)
  · obtain ⟨p, dx, a, ns, rfl, _⟩ := h
    rfl
  · obtain ⟨p, dx, a, ns, rfl, hp, ha, hF, k⟩ := h
    refine ⟨_, PSs.nox (pss_cons (ps_if (pt_not (pt_val (pe_def Fa hr (by decide) (by rfl) (pa_cons (pv 1) (pa_cons (pe_glob (v := .int 12) (by rfl) gM ⟨_, rfl⟩) pa_nil))))) (pss_one ps_never) pss_nil)
      (pss_cons (ps_fld (pv 0) (pe_callTy call_tupX (by rfl) T.tuple (by decide +kernel) (pa_cons (pv 1) pa_nil)) rfl)
      (pss_one (ps_fld (pv 0) (pe_tup (pa_cons (pe_callB (call_sumS rfl) (by rfl) T.sum (by decide +kernel) (pa_cons (pv 1) pa_nil)) (pa_cons (pe_callTy call_tupX (by rfl) T.tuple (by decide +kernel) (pa_cons (pe_lc (own := [("number", 2)]) (g := gName 2) (tt := tYes) rfl scInitF.nd (pi_tup (pv 1)) (blkOk_by (N := ["self", "numbers", "number"]) (sc := defScope sInit) (by decide +kernel)) (fun _ _ _ _ _ => pg_name (i := 2) scInitF.nd rfl (Or.inl rfl)) (fun _ _ _ _ _ => pts_nil) (fun _ _ _ _ _ => (pe_un un_neg (pv 2)))) pa_nil)) pa_nil))) rfl)))), ?_⟩
    try dsimp only [cx_nox, cx_K]
    have hl1 := hF.len
    walk_at "rd"
    refine ⟨a, ns, rfl, ha, hF, fun H1 e1 => ?_⟩
    have hp1 : H1 p = some (.ins C dx []) := e1 _ _ hp
    have ha1 := sqT_ext e1 ha
    walk_at "rd"
    refine ⟨a, _, rfl, .inr ⟨ha1, ?_⟩⟩
    walk_at "rd"
    refine ⟨p, C, dx, [], rfl, hp1, Cl.cl, Cl.noN, by decide, ?_⟩
    have hp2 : upd H1 p (.ins C dx (putF "_numbers" (.ref a) [])) p = some (.ins C dx [(("_numbers" : Str), .ref a)]) := upd_same
    have ha2 := sqT_up (gs := putF "_numbers" (.ref a) []) hp1 ha1
    have e2 : ExtBut p H (upd H1 p (.ins C dx (putF "_numbers" (.ref a) []))) := fun b o hb q => by
      rw [upd_ne hb]
      exact e1 _ _ q
    generalize upd H1 p (.ins C dx (putF "_numbers" (.ref a) [])) = H2 at hp2 ha2 e2 ⊢
    walk_at "rd"
    refine ⟨a, ns, rfl, .inr ha2, ?_⟩
    walk_at "rd"
    refine g_lc (g_itup ?_)
    walk_at "rd"
    refine lcT ha2 (small (by rw [List.length_map]; omega)) (fun _ => true) negV (fun x H' hx e Qe Qn he hn => ?_) (fun H3 D e3 hD hd => ?_)
    · obtain ⟨n, hn', rfl⟩ := List.mem_map.mp hx
      refine ⟨rfl, ?_⟩
      walk_at "rd"
      exact he _ (fun _ _ z => z) rfl
    · walk_at "rd"
      rw [List.filter_eq_self.mpr (fun _ _ => rfl), List.map_map] at hd
      refine ⟨D, _, rfl, .inl ⟨SqL.of hd, fun l o hl ho => ?_⟩⟩
      walk_at "rd"
      refine ⟨by show 2 ≤ sizeLine; decide, fun t ht => ?_⟩
      have el := Ext.new (o := HO.frz o (.tup (ns.map (negV ∘ V.int)))) hl
      have et := Ext.new (o := HO.tup [V.int ns.sum, V.ref l]) ht
      have e4 := Ext.trans e3 (Ext.trans el et)
      have hl4 : SqT K _ l ((ns.map fun x => -x).map V.int) := sqT_ext et (xs := (ns.map fun x => -x).map V.int) (by
        rw [List.map_map]
        exact .inl (.inr ⟨o, upd_same⟩))
      have ht4 : SqT K (upd (upd H3 l (HO.frz o (.tup (ns.map (negV ∘ V.int))))) t (HO.tup [V.int ns.sum, V.ref l])) t [V.int ns.sum, V.ref l] := SqT.of upd_same
      generalize upd (upd H3 l (HO.frz o (.tup (ns.map (negV ∘ V.int))))) t (HO.tup [V.int ns.sum, V.ref l]) = H4 at e4 hl4 ht4 ⊢
      have hp4 := e4 _ _ hp2
      walk_at "rd"
      refine ⟨p, C, dx, _, rfl, hp4, Cl.cl, Cl.noP, (by show 1 < 1000; omega), ?_⟩
      refine k _ ?_
      intro b o hb q
      rw [upd_ne hb]
      exact e4 _ _ (e2 b o hb q)
theorem g_mkF {E : XK} {H1 : Hp} {R : Addr → Hp → Prop} {a : Addr} {ns : List Int} (h : SqT K H1 a (ns.map V.int)) (hF : Fall ns) (k : ∀ H' p, Ext H1 H' → R p H') :
    ∀ x dx, H1 x = none → H1 dx = none → dx ≠ x → spInitF K C [.ref x, .ref a] (upd (upd H1 dx (.own x)) x (.ins C dx [])) (fun v H2 => v = .non ∧ R x H2) E := fun x dx hx hdx ne =>
  ⟨x, dx, a, ns, rfl, upd_same, sqT_ext (made_ext hx hdx) h, hF, fun H' e => ⟨rfl, k H' x (fun b o q => e b o (ne_of_none q hx) (made_ext hx hdx b o q))⟩⟩
end
end

/-! The law. -/

section
open PySem PySem.Spec PyProof.Rows L2 Gd
open LamX (Tabs TabB ExtN GivesTo CodeO tLam)
section
variable {P : Program} {w : World} {K : PySem.W.Frag} {mg : Str → Option Value} {base : Heap} {f C CK CI CO CN CR CT t0 : Addr} {fd : FuncData}
abbrev sLaw : Stmt := top 51
abbrev qLaw : Str := "law.<locals>.<lambda>"
theorem sqL_extN {H H' : Hp} {a : Addr} {xs : List V} (e : ExtN H H') (h : SqL K H a xs) : SqL K H' a xs := by
  rcases h with (h | ⟨o, h⟩) | h
  · exact .inl (.inl (e _ _ h (fun _ z => by cases z)))
  · exact .inl (.inr ⟨o, e _ _ h (fun _ z => by cases z)⟩)
  · exact .inr h
def spLaw (K : PySem.W.Frag) (T : List (Addr × Str)) : Sp := fun vs H Q _ => ∃ (a : Addr) (ns : List Int), vs = [.ref a] ∧ SqL K H a (ns.map V.int) ∧ ns.length ≤ 63 ∧ Tabs T H ∧ ∀ H', Q (.bl true) H'
theorem scLaw : FnScope ["_law_script", "_law_spot", "_law_dice_here", "_law_turn", "_law_told"] ["_law_script"] (defScope sLaw) := ⟨rfl, rfl, rfl, by decide +kernel, rfl, by decide +kernel, by decide +kernel⟩
theorem ok_law {c Pt : Addr} {T : List (Addr × Str)} (F : Fun K "law" "law" sLaw f fd) (hc : fd.code = .ref c) (TB : TabB base mg c Pt) (hmT : (Pt, qLaw) ∈ T) (hu : ∀ p ∈ T, p.1 = Pt → p.2 = qLaw)
    (Tx : Txt K mg) (Cl : KC K mg C) (A : ApiX P w K mg base C CI CO CN CR CT t0) (R : Met K mg CK CI CO CN CR CT) (h0 : ∀ H, TupX K H t0 []) (IF : Ini1 P w K mg base CX0 5 C t0 ["self", "numbers"] (spInitF K C)) (Eq : Met1 P w K mg base CX0 1 C "__eq__" ["self", "other"] (spKEq K C))
    (Dd : Def1 P w K mg base CX0 1 "_law_dice" ["_law_script", "_law_spot"] (spDice K)) (Rg : Def1G P w K mg base CX0 25 "_law_right" ["_law_dice_here"] (spRight K T)) :
    FnG P w K mg base CX0 26 f fd ["_law_script"] (spLaw K T) := by
  obtain ⟨tM, gM⟩ := Cl.most
  refine fnGc F hc scLaw (fun vs H Q E h => ?_) (fun Ar outer s H vs Q E hg hr h => ?_)
  · obtain ⟨a, ns, rfl, _⟩ := h
    rfl
  · obtain ⟨a, ns, rfl, hs, hl, hT, k⟩ := h
    refine ⟨_, PSs.nox (pss_cons (ps_for PassesOwn.never rfl (pi_range1 (by rfl) Tx.range (pa_cons (pe_callB (call_max2 rfl) (by rfl) Tx.max (by decide +kernel) (pa_cons pe_int (pa_cons (pe_callB (call_min2 rfl) (by rfl) Tx.min (by decide +kernel) (pa_cons pe_int (pa_cons (pe_callB call_len_seq (by rfl) Tx.len PySem.boot_len (pa_cons (pv 0) pa_nil)) pa_nil))) pa_nil))) pa_nil)) (pg_name (i := 1) scLaw.nd rfl (Or.inl rfl)) (pss_cons (ps_set (i := 2) scLaw.nd rfl (Or.inl rfl) (pe_def Dd hr (by decide) (by rfl) (pa_cons (pv 0) (pa_cons (pv 1) pa_nil))))
      (pss_one (ps_for PassesOwn.never rfl (pi_range1 (by rfl) Tx.range (pa_cons pe_int pa_nil)) (pg_name (i := 3) scLaw.nd rfl (Or.inl rfl)) (pss_one (ps_if (pt_not (pt_val (pe_defG hg Rg hr (by decide) (by rfl) (pa_cons (pv 2) pa_nil)))) (pss_one (ps_ret pe_bl)) pss_nil))))))
      (pss_cons (ps_set (i := 4) scLaw.nd rfl (Or.inl rfl) (pe_lst (pa_cons (pe_met (k := 20) (t := fun E => (tMake C (spInitF K C) [] E (tCons (tTup (tCons (tC (.int 12)) tNil)) tNil))) (by rfl) R hg TB rfl hmT hu (hr.mono (by decide)) (LamX.lamS_by (by show LamX.lamSB (defScope sLaw) _ = true; decide +kernel)) rfl (fun _ _ _ _ _ => by rfl) (fun _ _ _ _ E _ _ hr' => (pe_mk1 IF pass0 hr' (by decide) (by rfl) Cl.g (pa_cons (pe_tup (pa_cons pe_int pa_nil)) pa_nil)))) pa_nil)))
      (pss_cons (ps_expr (pe_bm PySem.F.plainAttrs_list PySem.F.slot_list_append PySem.F.type_list_append mt_append (pv 4) (pa_cons (pe_met (k := 20) (t := fun E => (tMake C (spInitF K C) [] E (tCons (tOp (rRepB K) (tTup (tCons (tC (.int 1)) tNil)) (tC (.int 12))) tNil))) (by rfl) R hg TB rfl hmT hu (hr.mono (by decide)) (LamX.lamS_by (by show LamX.lamSB (defScope sLaw) _ = true; decide +kernel)) rfl (fun _ _ _ _ _ => by rfl) (fun _ _ _ _ E _ _ hr' => (pe_mk1 IF pass0 hr' (by decide) (by rfl) Cl.g (pa_cons (pe_op op_repB (pe_tup (pa_cons pe_int pa_nil)) pe_int) pa_nil)))) pa_nil)))
      (pss_cons (ps_expr (pe_bm PySem.F.plainAttrs_list PySem.F.slot_list_append PySem.F.type_list_append mt_append (pv 4) (pa_cons (pe_met (k := 20) (t := fun E => (tCall spKoF [] X0 (tCons (tC (.int 12)) tNil))) (by rfl) R hg TB rfl hmT hu (hr.mono (by decide)) (LamX.lamS_by (by show LamX.lamSB (defScope sLaw) _ = true; decide +kernel)) rfl (fun _ _ _ _ _ => by rfl) (fun _ _ _ _ E _ _ hr' => (pe_def A.of hr' (by decide) (by rfl) (pa_cons pe_int pa_nil)))) pa_nil)))
      (pss_cons (ps_expr (pe_bm PySem.F.plainAttrs_list PySem.F.slot_list_append PySem.F.type_list_append mt_append (pv 4) (pa_cons (pe_met (k := 20) (t := fun E => (tMake C (spInitX K C CI) [] E (tCons (tTup (tCons (tC (.int 2)) (tCons (tC (.int 0)) tNil))) tNil))) (by rfl) R hg TB rfl hmT hu (hr.mono (by decide)) (LamX.lamS_by (by show LamX.lamSB (defScope sLaw) _ = true; decide +kernel)) rfl (fun _ _ _ _ _ => by rfl) (fun _ _ _ _ E _ _ hr' => (pe_mk1 A.iniX (passes_call (takes_of rfl rfl rfl rfl) (fun _ _ _ _ h => h)) hr' (by decide) (by rfl) Cl.g (pa_cons (pe_tup (pa_cons pe_int (pa_cons pe_int pa_nil))) pa_nil)))) pa_nil)))
      (pss_one (ps_ret (pe_and (pe_cmpR (op_eqD hr.units) (pv 4) (pe_op op_cat (pe_op op_rep (pe_lst (pa_cons pe_str pa_nil)) pe_int) (pe_lst (pa_cons pe_str pa_nil))) (nomark _)) (pe_and (pe_cmpR op_eq (pe_glob (v := .int 12) (by rfl) gM ⟨_, rfl⟩) pe_int (nomark _)) (pe_one (pe_cmpR (op_eq1 Eq hr (by decide)) (pe_mk0 A.ini pass0 hr (by decide) (by rfl) Cl.g) (pe_mk1 A.ini pass0 hr (by decide) (by rfl) Cl.g (pa_cons (pe_tupX pa_nil) pa_nil)) (nomark _)))))))))))), ?_⟩
    have sz : (100000 : Nat) < sizeLine := by decide
    try dsimp only [cx_nox, cx_K]
    refine g_cut (fun σ H' => ∃ x y z : Option V, σ = [some (.ref a), x, y, z, none] ∧ Tabs T H') (fun σ' H' hN => ?_) (fun go => ?_)
    rotate_left
    · refine g_forR ?_
      walk_at "rd"
      refine ⟨a, _, rfl, .inl hs, ?_⟩
      walk_at "rd"
      rw [List.length_map]
      refine ⟨by split <;> omega, by split <;> omega, ?_⟩
      refine for_range (fun i σ H' => ∃ x y z : Option V, σ = [some (.ref a), x, y, z, none] ∧ ExtN H H' ∧ Tabs T H') ⟨_, _, _, rfl, ExtN.refl H, hT⟩ ?_ ?_
      · rintro i σ H2 hi ⟨x, y, z, rfl, e, hT2⟩
        have hi63 : i ≤ 63 := by
          revert hi
          split <;> (try split) <;> intro hi <;> omega
        refine g_name (g_gen fun D1 hn1 _ => ?_)
        walk_at "rd"
        have hi0 : (0 : Int) + (i : Int) = (i : Int) := by omega
        rw [hi0]
        refine ⟨a, ns, i, rfl, sqL_extN e hs, hi63, fun H3 d e3 hd0 hd => ?_⟩
        walk_at "rd"
        dsimp only
        refine g_forR ?_
        walk_at "rd"
        refine ⟨by decide, by decide, ?_⟩
        refine for_range (fun j σ H' => ∃ z : Option V, σ = [some (.ref a), some (.int (i : Int)), some (.ref d), z, none] ∧ KeepT T d H3 H') ⟨_, rfl, fun _ _ _ z _ => z, hd, hT2.ext e3⟩ ?_ ?_
        · rintro j σ H4 hj ⟨z, rfl, k4⟩
          walk_at "rd"
          refine ⟨d, rfl, k4.dice, k4.tabs, fun H5 k5 => ?_⟩
          walk_at "rd"
          exact ⟨_, rfl, fun b o nb h nt => k5.ext b o nb (k4.ext b o nb h nt) nt, k5.dice, k5.tabs⟩
        · rintro σ H4 ⟨z, rfl, k4⟩
          refine hn1 _ _ ⟨_, _, _, rfl, fun b o q nt => ?_, k4.tabs⟩
          have q2 := e b o q nt
          exact k4.ext b o (ne_of_none q2 hd0) (e3 b o q2) nt
      · rintro σ H2 ⟨x, y, z, rfl, _, hT2⟩
        exact go _ _ ⟨_, _, _, rfl, hT2⟩
    obtain ⟨x0, y0, z0, rfl, hT1⟩ := hN
    have F12 : Fall [12] := fall_of (by decide +kernel)
    have F112 : Fall (List.replicate 12 1) := fall_of (by decide +kernel)
    refine g_seq (g_asg (g_lstM hT1 (w := "fine") (fun H1 e1 Q1 k1 => ?_) (fun H1 H2 r e1 t1 g0 => ?_)))
    · refine g_make ?_
      walk_at "rd"
      refine ⟨by show 1 ≤ sizeLine; decide, fun u nu => ?_⟩
      walk_at "rd"
      have eu := Ext.new (o := HO.tup [V.int 12]) nu
      refine g_mkF (ns := [12]) (SqT.of upd_same) F12 fun H3 p e3 => ?_
      exact k1 H3 (Ext.trans eu e3)
    refine g_name ?_
    dsimp only
    refine g_appM (i := 4) (w := "fine") rfl g0 (by simp) (fun H3 e3 Q3 k3 => ?_) (fun H3 g1 => ?_)
    · refine g_make ?_
      walk_at "rd"
      refine ⟨by show 1 ≤ sizeLine; decide, fun u nu => ?_⟩
      have eu := Ext.new (o := HO.tup [V.int 1]) nu
      walk_at "rd"
      refine ⟨u, 12, [V.int 1], rfl, rfl, SqT.of upd_same, by simp, by decide, by decide, by decide, fun z => absurd z (by decide), fun _ u8 n8 => ?_⟩
      have e8 := Ext.new (o := HO.tup (List.replicate (12 : Int).toNat [V.int 1]).flatten) n8
      walk_at "rd"
      refine g_mkF (ns := List.replicate 12 1) (SqT.of upd_same) F112 fun H4 p e4 => ?_
      exact k3 H4 (Ext.trans eu (Ext.trans e8 e4))
    refine g_appM (i := 4) (w := "fine") rfl g1 (by simp) (fun H4 e4 Q4 k4 => ?_) (fun H4 g2 => ?_)
    · walk_at "rd"
      exact ⟨rfl, fun H5 v e5 => k4 H5 e5⟩
    refine g_appM (i := 4) (w := "kind") rfl g2 (by simp) (fun H5 e5 Q5 k5 => ?_) (fun H5 g3 => ?_)
    · refine g_make ?_
      walk_at "rd"
      refine ⟨by show 2 ≤ sizeLine; decide, fun u nu => ?_⟩
      have eu := Ext.new (o := HO.tup [V.int 2, V.int 0]) nu
      walk_at "rd"
      intro x dx hx hdx ne
      have em := made_ext (o := HO.own x) (u := HO.ins C dx []) hx hdx
      have wr : WrongV K (upd H5 u (.tup [V.int 2, V.int 0])) (.ref u) := .nums (ms := [2, 0]) (SqT.of upd_same) (by decide) (by decide +kernel)
      exact ⟨x, dx, .ref u, rfl, upd_same, (wr.extN (extN_of em)).row, em_bad0 fun H' e' => k5 H' (Ext.trans eu (Ext.trans em e'))⟩
    have told := g3.at_
    clear g2 g1 g0 g3 hT1
    walk_at "rd"
    refine ⟨by show 1 ≤ sizeLine; decide, fun l1 n1 => ?_⟩
    have e6 := Ext.new (o := HO.lst [V.str "fine"]) n1
    walk_at "rd"
    refine ⟨l1, 3, [V.str "fine"], rfl, rfl, upd_same, by decide, by decide, by show 1 * 3 ≤ sizeLine; decide, fun l2 n2 => ?_⟩
    have e7 := Ext.new (o := HO.lst (List.replicate (3 : Int).toNat [V.str "fine"]).flatten) n2
    walk_at "rd"
    refine ⟨by show 1 ≤ sizeLine; decide, fun l3 n3 => ?_⟩
    have e8 := Ext.new (o := HO.lst [V.str "kind"]) n3
    refine ⟨l2, l3, _, _, rfl, rfl, e8 _ _ upd_same, upd_same, by show 3 + 1 ≤ sizeLine; decide, fun l4 n4 => ?_⟩
    have told2 := Ext.trans e6 (Ext.trans e7 (Ext.trans e8 (Ext.new (o := HO.lst ((List.replicate (3 : Int).toNat [V.str "fine"]).flatten ++ [V.str "kind"])) n4))) _ _ told
    refine g_eqWs (L := ["fine", "fine", "fine", "kind"]) (SqL.of told2) (SqL.of upd_same) (by decide +kernel) ?_
    generalize upd _ l4 _ = H6
    walk_at "rd"
    rw [decide_eq_true (show (12 : Int) = 12 from rfl)]
    walk_at "rd"
    refine g_make ?_
    walk_at "rd"
    refine g_mk3 (ns := []) (h0 _) fall_nil fun H7 p n t m e9 hp => ?_
    walk_at "rd"
    refine g_make ?_
    walk_at "rd"
    refine g_tupX ?_
    walk_at "rd"
    refine ⟨Nat.zero_le _, fun u o nu ho => ?_⟩
    have eu := Ext.new (o := HO.frz o (.tup [])) nu
    walk_at "rd"
    refine g_mk3 (ns := []) (TupX.new ho) fall_nil fun H8 q n2 t2 m2 e10 hq => ?_
    walk_at "rd"
    have hp8 := (hp.ext eu).ext e10
    obtain ⟨dp, ip⟩ := id hp8.ins
    obtain ⟨dq, iq⟩ := id hq.ins
    exact ⟨p, dp, _, _, rfl, ip, Cl.ty iq, notFirst_own, p, n, t, m, q, n2, t2, m2, [], [], rfl, hp8, hq, fun H9 e11 => ⟨⟨_, rfl⟩, k _⟩⟩
end
end

/-! What the top has written. -/

section
open PySem PySem.Spec PyProof.Rows L2 Gd
open LamX (Tabs TabB TabS ExtN)
/-- an error of the class at S, an except clause that names U -/
theorem exm_one {K : PySem.W.Frag} {S U : Addr} {b : Bool} (h1 : PySem.W.subIn K (.ref U) (.type "BaseException") = some true) (h2 : PySem.W.isClsIn K U = true) (h3 : PySem.W.typeIn K (.ref U) = some (.type "type")) (h4 : PySem.W.subIn K (.ref S) (.ref U) = some b) :
    PySem.W.exmOne K (.ref S) (.ref U) = some b := by
  have h2' : (PySem.W.clsIn K U).isSome = true := h2
  simp [PySem.W.exmOne, PySem.W.kitCls, h1, h2', h3, h4]
theorem kit_self {K : PySem.W.Frag} {C : Addr} : PySem.W.kitOne K (.ref C) (.ref C) = some true := by
  unfold PySem.W.kitOne
  simp
theorem kit_own {K : PySem.W.Frag} {C D : Addr} {b : Bool} (n : C ≠ D) (h : PySem.W.isClsIn K D = true) (ht : PySem.W.typeIn K (.ref D) = some (.type "type")) (hs : PySem.W.subIn K (.ref C) (.ref D) = some b) : PySem.W.kitOne K (.ref C) (.ref D) = some b := by
  have h' : (PySem.W.clsIn K D).isSome = true := h
  have e : (Value.ref C == Value.ref D) = false := by simpa using n
  simp [PySem.W.kitOne, PySem.W.kitCls, e, h', ht, hs]
theorem kit_ty {K : PySem.W.Frag} {C : Addr} {T : String} {b : Bool} (hT : PySem.W.kitMeta T = true) (hs : PySem.W.subIn K (.ref C) (.type T) = some b) : PySem.W.kitOne K (.ref C) (.type T) = some b := by
  have e : (Value.ref C == Value.type T) = false := rfl
  simp [PySem.W.kitOne, PySem.W.kitCls, e, hT, hs]
theorem kit_not {K : PySem.W.Frag} {C : Addr} {T : String} (h : PySem.W.isClsIn K C = true) (ht : PySem.W.typeIn K (.ref C) = some (.type "type")) (hs : PySem.W.subIn K (.type T) (.ref C) = some false) : PySem.W.kitOne K (.type T) (.ref C) = some false := by
  have h' : (PySem.W.clsIn K C).isSome = true := h
  have e : (Value.type T == Value.ref C) = false := rfl
  simp [PySem.W.kitOne, PySem.W.kitCls, e, h', ht, hs]
theorem of_len1 {us : List Value} (hl : us.length = 1) : ∃ a, us = [a] := List.length_eq_one_iff.mp hl
theorem of_lenS {us : List Value} {n : Nat} (hl : us.length = n + 1) : ∃ a t, us = a :: t ∧ t.length = n := by
  cases us with
  | nil => exact absurd hl (Nat.succ_ne_zero n).symm
  | cons a us => exact ⟨a, us, rfl, Nat.succ.inj hl⟩
theorem of_len2 {us : List Value} (hl : us.length = 2) : ∃ a b, us = [a, b] := by
  obtain ⟨a, t, rfl, h⟩ := of_lenS hl
  obtain ⟨b, rfl⟩ := of_len1 h
  exact ⟨a, b, rfl⟩
theorem of_len3 {us : List Value} (hl : us.length = 3) : ∃ a b c, us = [a, b, c] := by
  obtain ⟨a, t, rfl, h⟩ := of_lenS hl
  obtain ⟨b, c, rfl⟩ := of_len2 h
  exact ⟨a, b, c, rfl⟩
theorem of_len4 {us : List Value} (hl : us.length = 4) : ∃ a b c d, us = [a, b, c, d] := by
  obtain ⟨a, t, rfl, h⟩ := of_lenS hl
  obtain ⟨b, c, d, rfl⟩ := of_len3 h
  exact ⟨a, b, c, d, rfl⟩
theorem of_len5 {us : List Value} (hl : us.length = 5) : ∃ a b c d e, us = [a, b, c, d, e] := by
  obtain ⟨a, t, rfl, h⟩ := of_lenS hl
  obtain ⟨b, c, d, e, rfl⟩ := of_len4 h
  exact ⟨a, b, c, d, e, rfl⟩
theorem all_mk {l : PySem.W.OpenLaw} {w : World} {K : PySem.W.Frag} {h : Heap} {mg : Str → Option Value} {fa fWh fIn fIw fRw fRi fFa fFr fNa fHd fTp fJo fAd fFl fLn fTx fRk fRs fKo fWi fRv fFo fLo fDi fRo fPi fKs fKd fMe fWr fNr cNr tNr fRg cRg tRg fLa cLa tLa C fI0 TI0 tI0 fHo fTo fPa fOv fOk fIt fEq fSt fPn pPn fPs pPs fPr pPr fPh pPh fRd pRd CNx fNx qNx CMx fMx qMx CRx fRx qRx CIx COx CKx : Addr} (X : K.In h) (G : h.Ns mainGlobals mg) (hfa : mg "law" = some (.ref fa))
    {odWh anWh : Option Addr} {slWh : Array (Option Value)} {ocWh kVWh dcWh pmWh cdWh ctWh : Value}
    {odIn anIn : Option Addr} {slIn : Array (Option Value)} {ocIn kVIn dcIn pmIn cdIn ctIn : Value}
    {odIw anIw : Option Addr} {slIw : Array (Option Value)} {ocIw kVIw dcIw pmIw cdIw ctIw : Value}
    {odRw anRw : Option Addr} {slRw : Array (Option Value)} {ocRw kVRw dcRw pmRw cdRw ctRw : Value}
    {odRi anRi : Option Addr} {slRi : Array (Option Value)} {ocRi kVRi dcRi pmRi cdRi ctRi : Value}
    {odFa anFa : Option Addr} {slFa : Array (Option Value)} {ocFa kVFa dcFa pmFa cdFa ctFa : Value}
    {odFr anFr : Option Addr} {slFr : Array (Option Value)} {ocFr kVFr dcFr pmFr cdFr ctFr : Value}
    {odNa anNa : Option Addr} {slNa : Array (Option Value)} {ocNa kVNa dcNa pmNa cdNa ctNa : Value}
    {odHd anHd : Option Addr} {slHd : Array (Option Value)} {ocHd kVHd dcHd pmHd cdHd ctHd : Value}
    {odTp anTp : Option Addr} {slTp : Array (Option Value)} {ocTp kVTp dcTp pmTp cdTp ctTp : Value}
    {odJo anJo : Option Addr} {slJo : Array (Option Value)} {ocJo kVJo dcJo pmJo cdJo ctJo : Value}
    {odAd anAd : Option Addr} {slAd : Array (Option Value)} {ocAd kVAd dcAd pmAd cdAd ctAd : Value}
    {odFl anFl : Option Addr} {slFl : Array (Option Value)} {ocFl kVFl dcFl pmFl cdFl ctFl : Value}
    {odLn anLn : Option Addr} {slLn : Array (Option Value)} {ocLn kVLn dcLn pmLn cdLn ctLn : Value}
    {odTx anTx : Option Addr} {slTx : Array (Option Value)} {ocTx kVTx dcTx pmTx cdTx ctTx : Value}
    {odRk anRk : Option Addr} {slRk : Array (Option Value)} {ocRk kVRk dcRk pmRk cdRk ctRk : Value}
    {odRs anRs : Option Addr} {slRs : Array (Option Value)} {ocRs kVRs dcRs pmRs cdRs ctRs : Value}
    {odKo anKo : Option Addr} {slKo : Array (Option Value)} {ocKo kVKo dcKo pmKo cdKo ctKo : Value}
    {odWi anWi : Option Addr} {slWi : Array (Option Value)} {ocWi kVWi dcWi pmWi cdWi ctWi : Value}
    {odRv anRv : Option Addr} {slRv : Array (Option Value)} {ocRv kVRv dcRv pmRv cdRv ctRv : Value}
    {odFo anFo : Option Addr} {slFo : Array (Option Value)} {ocFo kVFo dcFo pmFo cdFo ctFo : Value}
    {odLo anLo : Option Addr} {slLo : Array (Option Value)} {ocLo kVLo dcLo pmLo cdLo ctLo : Value}
    {odDi anDi : Option Addr} {slDi : Array (Option Value)} {ocDi kVDi dcDi pmDi cdDi ctDi : Value}
    {odRo anRo : Option Addr} {slRo : Array (Option Value)} {ocRo kVRo dcRo pmRo cdRo ctRo : Value}
    {odPi anPi : Option Addr} {slPi : Array (Option Value)} {ocPi kVPi dcPi pmPi cdPi ctPi : Value}
    {odKs anKs : Option Addr} {slKs : Array (Option Value)} {ocKs kVKs dcKs pmKs cdKs ctKs : Value}
    {odKd anKd : Option Addr} {slKd : Array (Option Value)} {ocKd kVKd dcKd pmKd cdKd ctKd : Value}
    {odMe anMe : Option Addr} {slMe : Array (Option Value)} {ocMe kVMe dcMe pmMe cdMe ctMe : Value}
    {odWr anWr : Option Addr} {slWr : Array (Option Value)} {ocWr kVWr dcWr pmWr cdWr ctWr : Value}
    {odNr anNr : Option Addr} {slNr : Array (Option Value)} {ocNr kVNr dcNr pmNr ctNr : Value}
    {koNr : Value} {kdNr : Option Addr} {vsNr : Array Value} {ksNr : Array (Option Value)}
    {odRg anRg : Option Addr} {slRg : Array (Option Value)} {ocRg kVRg dcRg pmRg ctRg : Value}
    {koRg : Value} {kdRg : Option Addr} {vsRg : Array Value} {ksRg : Array (Option Value)}
    {odLa anLa : Option Addr} {slLa : Array (Option Value)} {ocLa kVLa dcLa pmLa ctLa : Value}
    {koLa : Value} {kdLa : Option Addr} {vsLa : Array Value} {ksLa : Array (Option Value)}
    {odI0 anI0 : Option Addr} {slI0 : Array (Option Value)} {ocI0 kVI0 dcI0 pmI0 cdI0 ctI0 : Value}
    {o1I0 : Value} {o2I0 : Option Addr} {o3I0 : Nat} {o4I0 : Array (Option Value)} {o6I0 : Nat} {o7I0 : Array (Option Value)}
    {odHo anHo : Option Addr} {slHo : Array (Option Value)} {ocHo kVHo dcHo pmHo cdHo ctHo : Value}
    {odTo anTo : Option Addr} {slTo : Array (Option Value)} {ocTo kVTo dcTo pmTo cdTo ctTo : Value}
    {odPa anPa : Option Addr} {slPa : Array (Option Value)} {ocPa kVPa dcPa pmPa cdPa ctPa : Value}
    {odOv anOv : Option Addr} {slOv : Array (Option Value)} {ocOv kVOv dcOv pmOv cdOv ctOv : Value}
    {odOk anOk : Option Addr} {slOk : Array (Option Value)} {ocOk kVOk dcOk pmOk cdOk ctOk : Value}
    {odIt anIt : Option Addr} {slIt : Array (Option Value)} {ocIt kVIt dcIt pmIt cdIt ctIt : Value}
    {odEq anEq : Option Addr} {slEq : Array (Option Value)} {ocEq kVEq dcEq pmEq cdEq ctEq : Value}
    {odSt anSt : Option Addr} {slSt : Array (Option Value)} {ocSt kVSt dcSt pmSt cdSt ctSt : Value}
    {restPn : List Value}
    {odPn anPn : Option Addr} {slPn : Array (Option Value)} {ocPn kVPn dcPn pmPn cdPn ctPn : Value}
    {restPs : List Value}
    {odPs anPs : Option Addr} {slPs : Array (Option Value)} {ocPs kVPs dcPs pmPs cdPs ctPs : Value}
    {restPr : List Value}
    {odPr anPr : Option Addr} {slPr : Array (Option Value)} {ocPr kVPr dcPr pmPr cdPr ctPr : Value}
    {restPh : List Value}
    {odPh anPh : Option Addr} {slPh : Array (Option Value)} {ocPh kVPh dcPh pmPh cdPh ctPh : Value}
    {restRd : List Value}
    {odRd anRd : Option Addr} {slRd : Array (Option Value)} {ocRd kVRd dcRd pmRd cdRd ctRd : Value}
    {tkBOUND : Tok}
    {tkMAX_SIZE : Tok}
    {nmN qN : Str} {bsN : List Value} {snN : List Str} {subN : List Value} {abN : Bool} {colN : Option Bool} {ddN : Option Addr} {m0N m1N m2N m3N m5N : Option Value} {odxN anxN : Option Addr} {slxN : Array (Option Value)} {ocxN dcxN pmxN cdxN ctxN : Value} {q1N q2N q3N q4N q5N q6N : Pos}
    {nmM qM : Str} {bsM : List Value} {snM : List Str} {subM : List Value} {abM : Bool} {colM : Option Bool} {ddM : Option Addr} {m0M m1M m2M m3M m5M : Option Value} {odxM anxM : Option Addr} {slxM : Array (Option Value)} {ocxM dcxM pmxM cdxM ctxM : Value} {q1M q2M q3M q4M q5M q6M : Pos}
    {nmR qR : Str} {bsR : List Value} {snR : List Str} {subR : List Value} {abR : Bool} {colR : Option Bool} {ddR : Option Addr} {m0R m1R m2R m3R m5R : Option Value} {odxR anxR : Option Addr} {slxR : Array (Option Value)} {ocxR dcxR pmxR cdxR ctxR : Value} {q1R q2R q3R q4R q5R q6R : Pos}
    (aWh : PySem.W.nsIn K mainGlobals "is_whole" = some (some (.ref fWh)))
    (lWh : K.lookup fWh = some ⟨ocWh, odWh, .func (PySem.W.fnOf "is_whole" "is_whole" (defArgs (sWhole)) (defBody (sWhole)) (defScope (sWhole)) .none kVWh dcWh pmWh anWh cdWh ctWh), slWh⟩)
    (cWh_ : PySem.W.codeIn K cdWh "is_whole" = true)
    (kWh : PySem.W.keepIn K (.ref fWh) = true)
    (aIn : PySem.W.nsIn K mainGlobals "is_integer" = some (some (.ref fIn)))
    (lIn : K.lookup fIn = some ⟨ocIn, odIn, .func (PySem.W.fnOf "is_integer" "is_integer" (defArgs (sInteger)) (defBody (sInteger)) (defScope (sInteger)) .none kVIn dcIn pmIn anIn cdIn ctIn), slIn⟩)
    (cIn_ : PySem.W.codeIn K cdIn "is_integer" = true)
    (kIn : PySem.W.keepIn K (.ref fIn) = true)
    (aIw : PySem.W.nsIn K mainGlobals "is_within" = some (some (.ref fIw)))
    (lIw : K.lookup fIw = some ⟨ocIw, odIw, .func (PySem.W.fnOf "is_within" "is_within" (defArgs (sIsWithin)) (defBody (sIsWithin)) (defScope (sIsWithin)) .none kVIw dcIw pmIw anIw cdIw ctIw), slIw⟩)
    (cIw_ : PySem.W.codeIn K cdIw "is_within" = true)
    (kIw : PySem.W.keepIn K (.ref fIw) = true)
    (aRw : PySem.W.nsIn K mainGlobals "require_within" = some (some (.ref fRw)))
    (lRw : K.lookup fRw = some ⟨ocRw, odRw, .func (PySem.W.fnOf "require_within" "require_within" (defArgs (sReqWi)) (defBody (sReqWi)) (defScope (sReqWi)) .none kVRw dcRw pmRw anRw cdRw ctRw), slRw⟩)
    (cRw_ : PySem.W.codeIn K cdRw "require_within" = true)
    (kRw : PySem.W.keepIn K (.ref fRw) = true)
    (aRi : PySem.W.nsIn K mainGlobals "require_index" = some (some (.ref fRi)))
    (lRi : K.lookup fRi = some ⟨ocRi, odRi, .func (PySem.W.fnOf "require_index" "require_index" (defArgs (sIndex)) (defBody (sIndex)) (defScope (sIndex)) .none kVRi dcRi pmRi anRi cdRi ctRi), slRi⟩)
    (cRi_ : PySem.W.codeIn K cdRi "require_index" = true)
    (kRi : PySem.W.keepIn K (.ref fRi) = true)
    (aFa : PySem.W.nsIn K mainGlobals "is_falling" = some (some (.ref fFa)))
    (lFa : K.lookup fFa = some ⟨ocFa, odFa, .func (PySem.W.fnOf "is_falling" "is_falling" (defArgs (sFalling)) (defBody (sFalling)) (defScope (sFalling)) .none kVFa dcFa pmFa anFa cdFa ctFa), slFa⟩)
    (cFa_ : PySem.W.codeIn K cdFa "is_falling" = true)
    (kFa : PySem.W.keepIn K (.ref fFa) = true)
    (aFr : PySem.W.nsIn K mainGlobals "falling_rows" = some (some (.ref fFr)))
    (lFr : K.lookup fFr = some ⟨ocFr, odFr, .func (PySem.W.fnOf "falling_rows" "falling_rows" (defArgs (sFR)) (defBody (sFR)) (defScope (sFR)) .none kVFr dcFr pmFr anFr cdFr ctFr), slFr⟩)
    (cFr_ : PySem.W.codeIn K cdFr "falling_rows" = true)
    (kFr : PySem.W.keepIn K (.ref fFr) = true)
    (aNa : PySem.W.nsIn K mainGlobals "number_at" = some (some (.ref fNa)))
    (lNa : K.lookup fNa = some ⟨ocNa, odNa, .func (PySem.W.fnOf "number_at" "number_at" (defArgs (sNumAt)) (defBody (sNumAt)) (defScope (sNumAt)) .none kVNa dcNa pmNa anNa cdNa ctNa), slNa⟩)
    (cNa_ : PySem.W.codeIn K cdNa "number_at" = true)
    (kNa : PySem.W.keepIn K (.ref fNa) = true)
    (aHd : PySem.W.nsIn K mainGlobals "is_held" = some (some (.ref fHd)))
    (lHd : K.lookup fHd = some ⟨ocHd, odHd, .func (PySem.W.fnOf "is_held" "is_held" (defArgs (sHeld)) (defBody (sHeld)) (defScope (sHeld)) .none kVHd dcHd pmHd anHd cdHd ctHd), slHd⟩)
    (cHd_ : PySem.W.codeIn K cdHd "is_held" = true)
    (kHd : PySem.W.keepIn K (.ref fHd) = true)
    (aTp : PySem.W.nsIn K mainGlobals "is_topped" = some (some (.ref fTp)))
    (lTp : K.lookup fTp = some ⟨ocTp, odTp, .func (PySem.W.fnOf "is_topped" "is_topped" (defArgs (sTopped)) (defBody (sTopped)) (defScope (sTopped)) .none kVTp dcTp pmTp anTp cdTp ctTp), slTp⟩)
    (cTp_ : PySem.W.codeIn K cdTp "is_topped" = true)
    (kTp : PySem.W.keepIn K (.ref fTp) = true)
    (aJo : PySem.W.nsIn K mainGlobals "joined_row" = some (some (.ref fJo)))
    (lJo : K.lookup fJo = some ⟨ocJo, odJo, .func (PySem.W.fnOf "joined_row" "joined_row" (defArgs (sJoined)) (defBody (sJoined)) (defScope (sJoined)) .none kVJo dcJo pmJo anJo cdJo ctJo), slJo⟩)
    (cJo_ : PySem.W.codeIn K cdJo "joined_row" = true)
    (kJo : PySem.W.keepIn K (.ref fJo) = true)
    (aAd : PySem.W.nsIn K mainGlobals "added_row" = some (some (.ref fAd)))
    (lAd : K.lookup fAd = some ⟨ocAd, odAd, .func (PySem.W.fnOf "added_row" "added_row" (defArgs (sAdded)) (defBody (sAdded)) (defScope (sAdded)) .none kVAd dcAd pmAd anAd cdAd ctAd), slAd⟩)
    (cAd_ : PySem.W.codeIn K cdAd "added_row" = true)
    (kAd : PySem.W.keepIn K (.ref fAd) = true)
    (aFl : PySem.W.nsIn K mainGlobals "is_flat_step" = some (some (.ref fFl)))
    (lFl : K.lookup fFl = some ⟨ocFl, odFl, .func (PySem.W.fnOf "is_flat_step" "is_flat_step" (defArgs (sFlat)) (defBody (sFlat)) (defScope (sFlat)) .none kVFl dcFl pmFl anFl cdFl ctFl), slFl⟩)
    (cFl_ : PySem.W.codeIn K cdFl "is_flat_step" = true)
    (kFl : PySem.W.keepIn K (.ref fFl) = true)
    (aLn : PySem.W.nsIn K mainGlobals "is_line_step" = some (some (.ref fLn)))
    (lLn : K.lookup fLn = some ⟨ocLn, odLn, .func (PySem.W.fnOf "is_line_step" "is_line_step" (defArgs (sLine)) (defBody (sLine)) (defScope (sLine)) .none kVLn dcLn pmLn anLn cdLn ctLn), slLn⟩)
    (cLn_ : PySem.W.codeIn K cdLn "is_line_step" = true)
    (kLn : PySem.W.keepIn K (.ref fLn) = true)
    (aTx : PySem.W.nsIn K mainGlobals "falling_text" = some (some (.ref fTx)))
    (lTx : K.lookup fTx = some ⟨ocTx, odTx, .func (PySem.W.fnOf "falling_text" "falling_text" (defArgs (sFTx)) (defBody (sFTx)) (defScope (sFTx)) .none kVTx dcTx pmTx anTx cdTx ctTx), slTx⟩)
    (cTx_ : PySem.W.codeIn K cdTx "falling_text" = true)
    (kTx : PySem.W.keepIn K (.ref fTx) = true)
    (aRk : PySem.W.nsIn K mainGlobals "require_kind" = some (some (.ref fRk)))
    (lRk : K.lookup fRk = some ⟨ocRk, odRk, .func (PySem.W.fnOf "require_kind" "require_kind" (defArgs (sReqKind)) (defBody (sReqKind)) (defScope (sReqKind)) .none kVRk dcRk pmRk anRk cdRk ctRk), slRk⟩)
    (cRk_ : PySem.W.codeIn K cdRk "require_kind" = true)
    (kRk : PySem.W.keepIn K (.ref fRk) = true)
    (aRs : PySem.W.nsIn K mainGlobals "require_size" = some (some (.ref fRs)))
    (lRs : K.lookup fRs = some ⟨ocRs, odRs, .func (PySem.W.fnOf "require_size" "require_size" (defArgs (sReqSize)) (defBody (sReqSize)) (defScope (sReqSize)) .none kVRs dcRs pmRs anRs cdRs ctRs), slRs⟩)
    (cRs_ : PySem.W.codeIn K cdRs "require_size" = true)
    (kRs : PySem.W.keepIn K (.ref fRs) = true)
    (aKo : PySem.W.nsIn K mainGlobals "kinds_of" = some (some (.ref fKo)))
    (lKo : K.lookup fKo = some ⟨ocKo, odKo, .func (PySem.W.fnOf "kinds_of" "kinds_of" (defArgs (s_koX)) (defBody (s_koX)) (defScope (s_koX)) .none kVKo dcKo pmKo anKo cdKo ctKo), slKo⟩)
    (cKo_ : PySem.W.codeIn K cdKo "kinds_of" = true)
    (kKo : PySem.W.keepIn K (.ref fKo) = true)
    (aWi : PySem.W.nsIn K mainGlobals "kinds_within" = some (some (.ref fWi)))
    (lWi : K.lookup fWi = some ⟨ocWi, odWi, .func (PySem.W.fnOf "kinds_within" "kinds_within" (defArgs (s_wiX)) (defBody (s_wiX)) (defScope (s_wiX)) .none kVWi dcWi pmWi anWi cdWi ctWi), slWi⟩)
    (cWi_ : PySem.W.codeIn K cdWi "kinds_within" = true)
    (kWi : PySem.W.keepIn K (.ref fWi) = true)
    (aRv : PySem.W.nsIn K mainGlobals "rows_over" = some (some (.ref fRv)))
    (lRv : K.lookup fRv = some ⟨ocRv, odRv, .func (PySem.W.fnOf "rows_over" "rows_over" (defArgs (sRowsOver)) (defBody (sRowsOver)) (defScope (sRowsOver)) .none kVRv dcRv pmRv anRv cdRv ctRv), slRv⟩)
    (cRv_ : PySem.W.codeIn K cdRv "rows_over" = true)
    (kRv : PySem.W.keepIn K (.ref fRv) = true)
    (aFo : PySem.W.nsIn K mainGlobals "flats_over" = some (some (.ref fFo)))
    (lFo : K.lookup fFo = some ⟨ocFo, odFo, .func (PySem.W.fnOf "flats_over" "flats_over" (defArgs (sFlats)) (defBody (sFlats)) (defScope (sFlats)) .none kVFo dcFo pmFo anFo cdFo ctFo), slFo⟩)
    (cFo_ : PySem.W.codeIn K cdFo "flats_over" = true)
    (kFo : PySem.W.keepIn K (.ref fFo) = true)
    (aLo : PySem.W.nsIn K mainGlobals "lines_over" = some (some (.ref fLo)))
    (lLo : K.lookup fLo = some ⟨ocLo, odLo, .func (PySem.W.fnOf "lines_over" "lines_over" (defArgs (sLines)) (defBody (sLines)) (defScope (sLines)) .none kVLo dcLo pmLo anLo cdLo ctLo), slLo⟩)
    (cLo_ : PySem.W.codeIn K cdLo "lines_over" = true)
    (kLo : PySem.W.keepIn K (.ref fLo) = true)
    (aDi : PySem.W.nsIn K mainGlobals "_law_dice" = some (some (.ref fDi)))
    (lDi : K.lookup fDi = some ⟨ocDi, odDi, .func (PySem.W.fnOf "_law_dice" "_law_dice" (defArgs (sDice)) (defBody (sDice)) (defScope (sDice)) .none kVDi dcDi pmDi anDi cdDi ctDi), slDi⟩)
    (cDi_ : PySem.W.codeIn K cdDi "_law_dice" = true)
    (kDi : PySem.W.keepIn K (.ref fDi) = true)
    (aRo : PySem.W.nsIn K mainGlobals "_law_roll" = some (some (.ref fRo)))
    (lRo : K.lookup fRo = some ⟨ocRo, odRo, .func (PySem.W.fnOf "_law_roll" "_law_roll" (defArgs (sRoll)) (defBody (sRoll)) (defScope (sRoll)) .none kVRo dcRo pmRo anRo cdRo ctRo), slRo⟩)
    (cRo_ : PySem.W.codeIn K cdRo "_law_roll" = true)
    (kRo : PySem.W.keepIn K (.ref fRo) = true)
    (aPi : PySem.W.nsIn K mainGlobals "_law_pick" = some (some (.ref fPi)))
    (lPi : K.lookup fPi = some ⟨ocPi, odPi, .func (PySem.W.fnOf "_law_pick" "_law_pick" (defArgs (sPick)) (defBody (sPick)) (defScope (sPick)) .none kVPi dcPi pmPi anPi cdPi ctPi), slPi⟩)
    (cPi_ : PySem.W.codeIn K cdPi "_law_pick" = true)
    (kPi : PySem.W.keepIn K (.ref fPi) = true)
    (aKs : PySem.W.nsIn K mainGlobals "_law_kinds" = some (some (.ref fKs)))
    (lKs : K.lookup fKs = some ⟨ocKs, odKs, .func (PySem.W.fnOf "_law_kinds" "_law_kinds" (defArgs (sKinds)) (defBody (sKinds)) (defScope (sKinds)) .none kVKs dcKs pmKs anKs cdKs ctKs), slKs⟩)
    (cKs_ : PySem.W.codeIn K cdKs "_law_kinds" = true)
    (kKs : PySem.W.keepIn K (.ref fKs) = true)
    (aKd : PySem.W.nsIn K mainGlobals "_law_kind" = some (some (.ref fKd)))
    (lKd : K.lookup fKd = some ⟨ocKd, odKd, .func (PySem.W.fnOf "_law_kind" "_law_kind" (defArgs (sKind)) (defBody (sKind)) (defScope (sKind)) .none kVKd dcKd pmKd anKd cdKd ctKd), slKd⟩)
    (cKd_ : PySem.W.codeIn K cdKd "_law_kind" = true)
    (kKd : PySem.W.keepIn K (.ref fKd) = true)
    (aMe : PySem.W.nsIn K mainGlobals "_law_met" = some (some (.ref fMe)))
    (lMe : K.lookup fMe = some ⟨ocMe, odMe, .func (PySem.W.fnOf "_law_met" "_law_met" (defArgs (sMet)) (defBody (sMet)) (defScope (sMet)) .none kVMe dcMe pmMe anMe cdMe ctMe), slMe⟩)
    (cMe_ : PySem.W.codeIn K cdMe "_law_met" = true)
    (kMe : PySem.W.keepIn K (.ref fMe) = true)
    (aWr : PySem.W.nsIn K mainGlobals "_law_wrong_numbers" = some (some (.ref fWr)))
    (lWr : K.lookup fWr = some ⟨ocWr, odWr, .func (PySem.W.fnOf "_law_wrong_numbers" "_law_wrong_numbers" (defArgs (sWrongN)) (defBody (sWrongN)) (defScope (sWrongN)) .none kVWr dcWr pmWr anWr cdWr ctWr), slWr⟩)
    (cWr_ : PySem.W.codeIn K cdWr "_law_wrong_numbers" = true)
    (kWr : PySem.W.keepIn K (.ref fWr) = true)
    (aNr : PySem.W.nsIn K mainGlobals "_law_are_numbers_refused" = some (some (.ref fNr)))
    (lNr : K.lookup fNr = some ⟨ocNr, odNr, .func (PySem.W.fnOf "_law_are_numbers_refused" "_law_are_numbers_refused" (defArgs (sNumR)) (defBody (sNumR)) (defScope (sNumR)) .none kVNr dcNr pmNr anNr (.ref cNr) ctNr), slNr⟩)
    (cNr_ : PySem.W.codeIn K (.ref cNr) "_law_are_numbers_refused" = true)
    (kNr : PySem.W.keepIn K (.ref fNr) = true)
    (qNr : K.lookup cNr = some ⟨koNr, kdNr, .fields vsNr, ksNr⟩)
    (vNr : (vsNr[11]? : Option Value) = some (.ref tNr))
    (dNr : PySem.W.codeHdIn K cNr tNr = true)
    (nNr : K.lookup tNr = none)
    (eNr : h.get? tNr = some { cls := .none, data := .fields #[] })
    (aRg : PySem.W.nsIn K mainGlobals "_law_right" = some (some (.ref fRg)))
    (lRg : K.lookup fRg = some ⟨ocRg, odRg, .func (PySem.W.fnOf "_law_right" "_law_right" (defArgs (sRight)) (defBody (sRight)) (defScope (sRight)) .none kVRg dcRg pmRg anRg (.ref cRg) ctRg), slRg⟩)
    (cRg_ : PySem.W.codeIn K (.ref cRg) "_law_right" = true)
    (kRg : PySem.W.keepIn K (.ref fRg) = true)
    (qRg : K.lookup cRg = some ⟨koRg, kdRg, .fields vsRg, ksRg⟩)
    (vRg : (vsRg[11]? : Option Value) = some (.ref tRg))
    (dRg : PySem.W.codeHdIn K cRg tRg = true)
    (nRg : K.lookup tRg = none)
    (eRg : h.get? tRg = some { cls := .none, data := .fields #[] })
    (aLa : PySem.W.nsIn K mainGlobals "law" = some (some (.ref fLa)))
    (lLa : K.lookup fLa = some ⟨ocLa, odLa, .func (PySem.W.fnOf "law" "law" (defArgs (sLaw)) (defBody (sLaw)) (defScope (sLaw)) .none kVLa dcLa pmLa anLa (.ref cLa) ctLa), slLa⟩)
    (cLa_ : PySem.W.codeIn K (.ref cLa) "law" = true)
    (kLa : PySem.W.keepIn K (.ref fLa) = true)
    (qLa : K.lookup cLa = some ⟨koLa, kdLa, .fields vsLa, ksLa⟩)
    (vLa : (vsLa[11]? : Option Value) = some (.ref tLa))
    (dLa : PySem.W.codeHdIn K cLa tLa = true)
    (nLa : K.lookup tLa = none)
    (eLa : h.get? tLa = some { cls := .none, data := .fields #[] })
    (aC : PySem.W.nsIn K mainGlobals "Kind" = some (some (.ref C)))
    (pgC : PySem.W.plainGet K C Str.empty = true)
    (hdC : PySem.W.hasDictIn K C = true)
    (poC : PySem.W.plainOver K C = true)
    (saC : PySem.W.findIn K (.ref C) "__setattr__" = some (some (.builtin "object.__setattr__")))
    (mkC : PySem.W.makesIn K C = true)
    (kcC : PySem.W.keepIn K (.ref C) = true)
    (haC : PySem.W.findIn K (.ref C) "__class__" = some (some (.builtin "object.__class__")))
    (hmC : PySem.W.mroIn K C (.type "object") = some true)
    (ciC : PySem.W.isClsIn K C = true)
    (ctC : PySem.W.typeIn K (.ref C) = some (.type "type"))
    (neC : PySem.W.findIn K (.ref C) "__ne__" = some (some (.builtin "object.__ne__")))
    (sfC : PySem.W.selfFirst K C = true)
    (raddC : PySem.W.findIn K (.ref C) "__radd__" = some none)
    (sNoneTypeC : PySem.W.subIn K (.type "NoneType") (.ref C) = some false)
    (sintC : PySem.W.subIn K (.type "int") (.ref C) = some false)
    (sboolC : PySem.W.subIn K (.type "bool") (.ref C) = some false)
    (sstrC : PySem.W.subIn K (.type "str") (.ref C) = some false)
    (stupleC : PySem.W.subIn K (.type "tuple") (.ref C) = some false)
    (slistC : PySem.W.subIn K (.type "list") (.ref C) = some false)
    (sdictC : PySem.W.subIn K (.type "dict") (.ref C) = some false)
    (no0C : PySem.W.findIn K (.ref C) "_numbers" = some none)
    (no1C : PySem.W.findIn K (.ref C) "_place" = some none)
    (hn : PySem.W.specialIn K (.builtin "object.__class__") "__get__" = some (some (.builtin "getset_descriptor.__get__")))
    (htk : PySem.W.takesIn K (.builtin "object.__class__") = some true)
    (aI0 : PySem.W.findIn K (.ref C) "__init__" = some (some (.ref fI0)))
    (lI0 : K.lookup fI0 = some ⟨ocI0, odI0, .func (PySem.W.fnOf "__init__" "Kind.__init__" (defArgs (cls 0)) (defBody (cls 0)) (defScope (cls 0)) (.ref TI0) kVI0 dcI0 pmI0 anI0 cdI0 ctI0), slI0⟩)
    (cI0_ : PySem.W.codeIn K cdI0 "Kind.__init__" = true)
    (kI0 : PySem.W.keepIn K (.ref fI0) = true)
    (iI0 : PySem.W.isFn K (.ref fI0) = true)
    (LI0 : K.lookup TI0 = some ⟨o1I0, o2I0, .seq #[.ref tI0] o3I0, o4I0⟩)
    (mI0 : K.lookup tI0 = some ⟨.type "tuple", none, .seq #[] o6I0, o7I0⟩)
    (aHo : PySem.W.findIn K (.ref C) "holds" = some (some (.ref fHo)))
    (lHo : K.lookup fHo = some ⟨ocHo, odHo, .func (PySem.W.fnOf "holds" "Kind.holds" (defArgs (cls 11)) (defBody (cls 11)) (defScope (cls 11)) .none kVHo dcHo pmHo anHo cdHo ctHo), slHo⟩)
    (cHo_ : PySem.W.codeIn K cdHo "Kind.holds" = true)
    (kHo : PySem.W.keepIn K (.ref fHo) = true)
    (iHo : PySem.W.isFn K (.ref fHo) = true)
    (jHo : PySem.W.fnIn K fHo = true)
    (aTo : PySem.W.findIn K (.ref C) "tops" = some (some (.ref fTo)))
    (lTo : K.lookup fTo = some ⟨ocTo, odTo, .func (PySem.W.fnOf "tops" "Kind.tops" (defArgs (cls 12)) (defBody (cls 12)) (defScope (cls 12)) .none kVTo dcTo pmTo anTo cdTo ctTo), slTo⟩)
    (cTo_ : PySem.W.codeIn K cdTo "Kind.tops" = true)
    (kTo : PySem.W.keepIn K (.ref fTo) = true)
    (iTo : PySem.W.isFn K (.ref fTo) = true)
    (jTo : PySem.W.fnIn K fTo = true)
    (aPa : PySem.W.findIn K (.ref C) "__add__" = some (some (.ref fPa)))
    (lPa : K.lookup fPa = some ⟨ocPa, odPa, .func (PySem.W.fnOf "__add__" "Kind.__add__" (defArgs (cls 13)) (defBody (cls 13)) (defScope (cls 13)) .none kVPa dcPa pmPa anPa cdPa ctPa), slPa⟩)
    (cPa_ : PySem.W.codeIn K cdPa "Kind.__add__" = true)
    (kPa : PySem.W.keepIn K (.ref fPa) = true)
    (iPa : PySem.W.isFn K (.ref fPa) = true)
    (jPa : PySem.W.fnIn K fPa = true)
    (aOv : PySem.W.findIn K (.ref C) "over" = some (some (.ref fOv)))
    (lOv : K.lookup fOv = some ⟨ocOv, odOv, .func (PySem.W.fnOf "over" "Kind.over" (defArgs (cls 14)) (defBody (cls 14)) (defScope (cls 14)) .none kVOv dcOv pmOv anOv cdOv ctOv), slOv⟩)
    (cOv_ : PySem.W.codeIn K cdOv "Kind.over" = true)
    (kOv : PySem.W.keepIn K (.ref fOv) = true)
    (iOv : PySem.W.isFn K (.ref fOv) = true)
    (jOv : PySem.W.fnIn K fOv = true)
    (aOk : PySem.W.findIn K (.ref C) "opposite" = some (some (.ref fOk)))
    (lOk : K.lookup fOk = some ⟨ocOk, odOk, .func (PySem.W.fnOf "opposite" "Kind.opposite" (defArgs (cls 15)) (defBody (cls 15)) (defScope (cls 15)) .none kVOk dcOk pmOk anOk cdOk ctOk), slOk⟩)
    (cOk_ : PySem.W.codeIn K cdOk "Kind.opposite" = true)
    (kOk : PySem.W.keepIn K (.ref fOk) = true)
    (iOk : PySem.W.isFn K (.ref fOk) = true)
    (jOk : PySem.W.fnIn K fOk = true)
    (aIt : PySem.W.findIn K (.ref C) "__getitem__" = some (some (.ref fIt)))
    (lIt : K.lookup fIt = some ⟨ocIt, odIt, .func (PySem.W.fnOf "__getitem__" "Kind.__getitem__" (defArgs (cls 16)) (defBody (cls 16)) (defScope (cls 16)) .none kVIt dcIt pmIt anIt cdIt ctIt), slIt⟩)
    (cIt_ : PySem.W.codeIn K cdIt "Kind.__getitem__" = true)
    (kIt : PySem.W.keepIn K (.ref fIt) = true)
    (iIt : PySem.W.isFn K (.ref fIt) = true)
    (jIt : PySem.W.fnIn K fIt = true)
    (aEq : PySem.W.findIn K (.ref C) "__eq__" = some (some (.ref fEq)))
    (lEq : K.lookup fEq = some ⟨ocEq, odEq, .func (PySem.W.fnOf "__eq__" "Kind.__eq__" (defArgs (cls 19)) (defBody (cls 19)) (defScope (cls 19)) .none kVEq dcEq pmEq anEq cdEq ctEq), slEq⟩)
    (cEq_ : PySem.W.codeIn K cdEq "Kind.__eq__" = true)
    (kEq : PySem.W.keepIn K (.ref fEq) = true)
    (iEq : PySem.W.isFn K (.ref fEq) = true)
    (jEq : PySem.W.fnIn K fEq = true)
    (aSt : PySem.W.findIn K (.ref C) "__str__" = some (some (.ref fSt)))
    (lSt : K.lookup fSt = some ⟨ocSt, odSt, .func (PySem.W.fnOf "__str__" "Kind.__str__" (defArgs (cls 21)) (defBody (cls 21)) (defScope (cls 21)) .none kVSt dcSt pmSt anSt cdSt ctSt), slSt⟩)
    (cSt_ : PySem.W.codeIn K cdSt "Kind.__str__" = true)
    (kSt : PySem.W.keepIn K (.ref fSt) = true)
    (iSt : PySem.W.isFn K (.ref fSt) = true)
    (jSt : PySem.W.fnIn K fSt = true)
    (aPn : PySem.W.findIn K (.ref C) "numbers" = some (some (.ref pPn)))
    (gPn : PySem.W.specialIn K (.ref pPn) "__get__" = some (some (.builtin "property.__get__")))
    (tPn_ : PySem.W.takesIn K (.ref pPn) = some true)
    (rPn : PySem.W.recIn K pPn "property" = some (.ref fPn :: restPn))
    (lPn : K.lookup fPn = some ⟨ocPn, odPn, .func (PySem.W.fnOf "numbers" "Kind.numbers" (defArgs (cls 2)) (defBody (cls 2)) (defScope (cls 2)) .none kVPn dcPn pmPn anPn cdPn ctPn), slPn⟩)
    (cPn_ : PySem.W.codeIn K cdPn "Kind.numbers" = true)
    (kPn : PySem.W.keepIn K (.ref fPn) = true)
    (aPs : PySem.W.findIn K (.ref C) "size" = some (some (.ref pPs)))
    (gPs : PySem.W.specialIn K (.ref pPs) "__get__" = some (some (.builtin "property.__get__")))
    (tPs_ : PySem.W.takesIn K (.ref pPs) = some true)
    (rPs : PySem.W.recIn K pPs "property" = some (.ref fPs :: restPs))
    (lPs : K.lookup fPs = some ⟨ocPs, odPs, .func (PySem.W.fnOf "size" "Kind.size" (defArgs (cls 3)) (defBody (cls 3)) (defScope (cls 3)) .none kVPs dcPs pmPs anPs cdPs ctPs), slPs⟩)
    (cPs_ : PySem.W.codeIn K cdPs "Kind.size" = true)
    (kPs : PySem.W.keepIn K (.ref fPs) = true)
    (aPr : PySem.W.findIn K (.ref C) "rank" = some (some (.ref pPr)))
    (gPr : PySem.W.specialIn K (.ref pPr) "__get__" = some (some (.builtin "property.__get__")))
    (tPr_ : PySem.W.takesIn K (.ref pPr) = some true)
    (rPr : PySem.W.recIn K pPr "property" = some (.ref fPr :: restPr))
    (lPr : K.lookup fPr = some ⟨ocPr, odPr, .func (PySem.W.fnOf "rank" "Kind.rank" (defArgs (cls 4)) (defBody (cls 4)) (defScope (cls 4)) .none kVPr dcPr pmPr anPr cdPr ctPr), slPr⟩)
    (cPr_ : PySem.W.codeIn K cdPr "Kind.rank" = true)
    (kPr : PySem.W.keepIn K (.ref fPr) = true)
    (aPh : PySem.W.findIn K (.ref C) "height" = some (some (.ref pPh)))
    (gPh : PySem.W.specialIn K (.ref pPh) "__get__" = some (some (.builtin "property.__get__")))
    (tPh_ : PySem.W.takesIn K (.ref pPh) = some true)
    (rPh : PySem.W.recIn K pPh "property" = some (.ref fPh :: restPh))
    (lPh : K.lookup fPh = some ⟨ocPh, odPh, .func (PySem.W.fnOf "height" "Kind.height" (defArgs (cls 5)) (defBody (cls 5)) (defScope (cls 5)) .none kVPh dcPh pmPh anPh cdPh ctPh), slPh⟩)
    (cPh_ : PySem.W.codeIn K cdPh "Kind.height" = true)
    (kPh : PySem.W.keepIn K (.ref fPh) = true)
    (aRd : PySem.W.findIn K (.ref C) "read" = some (some (.ref pRd)))
    (rRd : PySem.W.recIn K pRd "classmethod" = some (.ref fRd :: restRd))
    (lRd : K.lookup fRd = some ⟨ocRd, odRd, .func (PySem.W.fnOf "read" "Kind.read" (defArgs (cls 1)) (defBody (cls 1)) (defScope (cls 1)) .none kVRd dcRd pmRd anRd cdRd ctRd), slRd⟩)
    (cRd_ : PySem.W.codeIn K cdRd "Kind.read" = true)
    (kRd : PySem.W.keepIn K (.ref fRd) = true)
    (uRd : PySem.W.fnIn K fRd = true)
    (wRd : PySem.W.readsIn K C (.type "type") = true)
    (gaC : PySem.W.specialIn K (.ref C) "__getattribute__" = some (some (.builtin "type.__getattribute__")))
    (xRd : PySem.W.findCls K (.ref C) (.type "type") "read" = some (.get (.builtin "classmethod.__get__") (.ref pRd) .none (.ref C)))
    (z_isinstance : PySem.W.nsIn K mainGlobals "isinstance" = some none)
    (z_int : PySem.W.nsIn K mainGlobals "int" = some none)
    (z_bool : PySem.W.nsIn K mainGlobals "bool" = some none)
    (z_str : PySem.W.nsIn K mainGlobals "str" = some none)
    (z_tuple : PySem.W.nsIn K mainGlobals "tuple" = some none)
    (z_list : PySem.W.nsIn K mainGlobals "list" = some none)
    (z_dict : PySem.W.nsIn K mainGlobals "dict" = some none)
    (z_len : PySem.W.nsIn K mainGlobals "len" = some none)
    (z_all : PySem.W.nsIn K mainGlobals "all" = some none)
    (z_any : PySem.W.nsIn K mainGlobals "any" = some none)
    (z_sum : PySem.W.nsIn K mainGlobals "sum" = some none)
    (z_iter : PySem.W.nsIn K mainGlobals "iter" = some none)
    (z_max : PySem.W.nsIn K mainGlobals "max" = some none)
    (z_min : PySem.W.nsIn K mainGlobals "min" = some none)
    (z_abs : PySem.W.nsIn K mainGlobals "abs" = some none)
    (z_range : PySem.W.nsIn K mainGlobals "range" = some none)
    (z_repr : PySem.W.nsIn K mainGlobals "repr" = some none)
    (z_sorted : PySem.W.nsIn K mainGlobals "sorted" = some none)
    (z_enumerate : PySem.W.nsIn K mainGlobals "enumerate" = some none)
    (z_zip : PySem.W.nsIn K mainGlobals "zip" = some none)
    (z_ValueError : PySem.W.nsIn K mainGlobals "ValueError" = some none)
    (z_IndexError : PySem.W.nsIn K mainGlobals "IndexError" = some none)
    (v_BOUND : PySem.W.nsIn K mainGlobals "BOUND" = some (some (.int (10 ^ 60) tkBOUND)))
    (v_MAX_SIZE : PySem.W.nsIn K mainGlobals "MAX_SIZE" = some (some (.int (12) tkMAX_SIZE)))
    (xCN : PySem.W.nsIn K mainGlobals "InvalidNumber" = some (some (.ref CNx)))
    (xLN : K.lookup CNx = some (excClassObj nmN qN CNx qNx bsN [.type "IndexError", .type "LookupError", .type "Exception", .type "BaseException", .type "object"] true snN subN abN colN ddN m0N m1N m2N m3N m5N "IndexError.__new__"))
    (xsaN : PySem.W.findIn K (.ref CNx) "__setattr__" = some (some (.builtin "object.__setattr__")))
    (xgaN : PySem.W.findIn K (.ref CNx) "__getattribute__" = some (some (.builtin "BaseException.__getattribute__")))
    (xggN : PySem.W.findIn K (.ref CNx) "__getattr__" = some none)
    (xnbN : PySem.W.findIn K (.ref CNx) "value" = some none)
    (xaN : PySem.W.findIn K (.ref CNx) "__init__" = some (some (.ref fNx)))
    (xtN : PySem.W.typeIn K (.ref fNx) = some (.type "function"))
    (xlN : K.lookup fNx = some ⟨ocxN, odxN, .func (PySem.W.fnOf "__init__" "InvalidNumber.__init__" (PySem.XInvalidNumber.iA q1N q2N) (PySem.XInvalidNumber.iB q3N q4N q5N q6N) PySem.XInvalidNumber.iS .none .none dcxN pmxN anxN cdxN ctxN), slxN⟩)
    (xcN : PySem.W.codeIn K cdxN "InvalidNumber.__init__" = true)
    (xkN : PySem.W.keepIn K (.ref CNx) = true)
    (xeN : PySem.W.subIn K (.ref CNx) (.type "BaseException") = some true)
    (xTN : PySem.W.typeIn K (.ref CNx) = some (.type "type"))
    (xhN : PySem.W.hasDictIn K CNx = true)
    (xiN : PySem.W.isClsIn K CNx = true)
    (xsN : PySem.W.subIn K (.ref CNx) (.ref CNx) = some true)
    (xCM : PySem.W.nsIn K mainGlobals "TooMany" = some (some (.ref CMx)))
    (xLM : K.lookup CMx = some (excClassObj nmM qM CMx qMx bsM [.type "OverflowError", .type "ArithmeticError", .type "Exception", .type "BaseException", .type "object"] true snM subM abM colM ddM m0M m1M m2M m3M m5M "OverflowError.__new__"))
    (xsaM : PySem.W.findIn K (.ref CMx) "__setattr__" = some (some (.builtin "object.__setattr__")))
    (xgaM : PySem.W.findIn K (.ref CMx) "__getattribute__" = some (some (.builtin "BaseException.__getattribute__")))
    (xggM : PySem.W.findIn K (.ref CMx) "__getattr__" = some none)
    (xnbM : PySem.W.findIn K (.ref CMx) "limit" = some none)
    (xaM : PySem.W.findIn K (.ref CMx) "__init__" = some (some (.ref fMx)))
    (xtM : PySem.W.typeIn K (.ref fMx) = some (.type "function"))
    (xlM : K.lookup fMx = some ⟨ocxM, odxM, .func (PySem.W.fnOf "__init__" "TooMany.__init__" (PySem.XTooMany.iA q1M q2M) (PySem.XTooMany.iB q3M q4M q5M q6M) PySem.XTooMany.iS .none .none dcxM pmxM anxM cdxM ctxM), slxM⟩)
    (xcM : PySem.W.codeIn K cdxM "TooMany.__init__" = true)
    (xkM : PySem.W.keepIn K (.ref CMx) = true)
    (xeM : PySem.W.subIn K (.ref CMx) (.type "BaseException") = some true)
    (xTM : PySem.W.typeIn K (.ref CMx) = some (.type "type"))
    (xhM : PySem.W.hasDictIn K CMx = true)
    (xiM : PySem.W.isClsIn K CMx = true)
    (xsM : PySem.W.subIn K (.ref CMx) (.ref CMx) = some true)
    (xCR : PySem.W.nsIn K mainGlobals "Refused" = some (some (.ref CRx)))
    (xLR : K.lookup CRx = some (excClassObj nmR qR CRx qRx bsR [.type "ArithmeticError", .type "Exception", .type "BaseException", .type "object"] true snR subR abR colR ddR m0R m1R m2R m3R m5R "ArithmeticError.__new__"))
    (xsaR : PySem.W.findIn K (.ref CRx) "__setattr__" = some (some (.builtin "object.__setattr__")))
    (xgaR : PySem.W.findIn K (.ref CRx) "__getattribute__" = some (some (.builtin "BaseException.__getattribute__")))
    (xggR : PySem.W.findIn K (.ref CRx) "__getattr__" = some none)
    (xnbR : PySem.W.findIn K (.ref CRx) "reason" = some none)
    (xaR : PySem.W.findIn K (.ref CRx) "__init__" = some (some (.ref fRx)))
    (xtR : PySem.W.typeIn K (.ref fRx) = some (.type "function"))
    (xlR : K.lookup fRx = some ⟨ocxR, odxR, .func (PySem.W.fnOf "__init__" "Refused.__init__" (PySem.XRefused.iA q1R q2R) (PySem.XRefused.iB q3R q4R q5R q6R) PySem.XRefused.iS .none .none dcxR pmxR anxR cdxR ctxR), slxR⟩)
    (xcR : PySem.W.codeIn K cdxR "Refused.__init__" = true)
    (xkR : PySem.W.keepIn K (.ref CRx) = true)
    (xeR : PySem.W.subIn K (.ref CRx) (.type "BaseException") = some true)
    (xTR : PySem.W.typeIn K (.ref CRx) = some (.type "type"))
    (xhR : PySem.W.hasDictIn K CRx = true)
    (xiR : PySem.W.isClsIn K CRx = true)
    (xsR : PySem.W.subIn K (.ref CRx) (.ref CRx) = some true)
    (xCI : PySem.W.nsIn K mainGlobals "InvalidKind" = some (some (.ref CIx)))
    (xkI : PySem.W.keepIn K (.ref CIx) = true)
    (xeI : PySem.W.subIn K (.ref CIx) (.type "BaseException") = some true)
    (xTI : PySem.W.typeIn K (.ref CIx) = some (.type "type"))
    (xiI : PySem.W.isClsIn K CIx = true)
    (xsI : PySem.W.subIn K (.ref CIx) (.ref CIx) = some true)
    (xqI : PySem.W.excIn K CIx [.type "ValueError", .type "Exception", .type "BaseException", .type "object"] "ValueError.__new__" = true)
    (xCO : PySem.W.nsIn K mainGlobals "InvalidOperation" = some (some (.ref COx)))
    (xkO : PySem.W.keepIn K (.ref COx) = true)
    (xeO : PySem.W.subIn K (.ref COx) (.type "BaseException") = some true)
    (xTO : PySem.W.typeIn K (.ref COx) = some (.type "type"))
    (xiO : PySem.W.isClsIn K COx = true)
    (xsO : PySem.W.subIn K (.ref COx) (.ref COx) = some true)
    (xqO : PySem.W.excIn K COx [.type "ValueError", .type "Exception", .type "BaseException", .type "object"] "ValueError.__new__" = true)
    (xCK : PySem.W.nsIn K mainGlobals "KindsError" = some (some (.ref CKx)))
    (xiK : PySem.W.isClsIn K CKx = true)
    (xTK : PySem.W.typeIn K (.ref CKx) = some (.type "type"))
    (xgaI : PySem.W.findIn K (.ref CIx) "__getattribute__" = some (some (.builtin "BaseException.__getattribute__")))
    (xggI : PySem.W.findIn K (.ref CIx) "__getattr__" = some none)
    (xhI : PySem.W.hasDictIn K CIx = true)
    (xhaI : PySem.W.findIn K (.ref CIx) "__class__" = some (some (.builtin "object.__class__")))
    (xhmI : PySem.W.mroIn K CIx (.type "object") = some true)
    (xhaN : PySem.W.findIn K (.ref CNx) "__class__" = some (some (.builtin "object.__class__")))
    (xhmN : PySem.W.mroIn K CNx (.type "object") = some true)
    (nOI : PySem.W.subIn K (.ref COx) (.ref CIx) = some false)
    (nNI : PySem.W.subIn K (.ref CNx) (.ref CIx) = some false)
    (nNO : PySem.W.subIn K (.ref CNx) (.ref COx) = some false)
    (nRI : PySem.W.subIn K (.ref CRx) (.ref CIx) = some false)
    (nRO : PySem.W.subIn K (.ref CRx) (.ref COx) = some false)
    (nRN : PySem.W.subIn K (.ref CRx) (.ref CNx) = some false)
    (nMI : PySem.W.subIn K (.ref CMx) (.ref CIx) = some false)
    (nMO : PySem.W.subIn K (.ref CMx) (.ref COx) = some false)
    (nMN : PySem.W.subIn K (.ref CMx) (.ref CNx) = some false)
    (nMR : PySem.W.subIn K (.ref CMx) (.ref CRx) = some false)
    (u1 : PySem.W.subIn K (.ref CIx) (.ref CKx) = some true)
    (u2 : PySem.W.subIn K (.ref CIx) (.type "ValueError") = some true)
    (u3 : PySem.W.subIn K (.ref CNx) (.type "IndexError") = some true)
    (w1 : PySem.W.subIn K (.ref C) (.type "str") = some false)
    (neIK : CIx ≠ CKx)
    (neNrRg : tNr ≠ tRg)
    (neNrLa : tNr ≠ tLa)
    (neRgLa : tRg ≠ tLa)
    : LawG l w K CX0 26 63 "_law_script" mg fa h := by
  have e := hfa.symm.trans (PySem.W.mg_of X G aLa)
  cases e
  have FWh := fun_mk (st := sWhole) lWh cWh_ kWh
  have bWh := FWh.binds (ps := ["value"]) fun _ _ _ _ _ _ us hl => by obtain ⟨_, rfl⟩ := of_len1 hl; rfl
  have gWh_ := PySem.W.mg_of X G aWh
  have FIn := fun_mk (st := sInteger) lIn cIn_ kIn
  have bIn := FIn.binds (ps := ["value"]) fun _ _ _ _ _ _ us hl => by obtain ⟨_, rfl⟩ := of_len1 hl; rfl
  have gIn_ := PySem.W.mg_of X G aIn
  have FIw := fun_mk (st := sIsWithin) lIw cIw_ kIw
  have bIw := FIw.binds (ps := ["value", "low", "high"]) fun _ _ _ _ _ _ us hl => by obtain ⟨_, _, _, rfl⟩ := of_len3 hl; rfl
  have gIw_ := PySem.W.mg_of X G aIw
  have FRw := fun_mk (st := sReqWi) lRw cRw_ kRw
  have bRw := FRw.binds (ps := ["value", "low", "high"]) fun _ _ _ _ _ _ us hl => by obtain ⟨_, _, _, rfl⟩ := of_len3 hl; rfl
  have gRw_ := PySem.W.mg_of X G aRw
  have FRi := fun_mk (st := sIndex) lRi cRi_ kRi
  have bRi := FRi.binds (ps := ["value"]) fun _ _ _ _ _ _ us hl => by obtain ⟨_, rfl⟩ := of_len1 hl; rfl
  have gRi_ := PySem.W.mg_of X G aRi
  have FFa := fun_mk (st := sFalling) lFa cFa_ kFa
  have bFa := FFa.binds (ps := ["value", "most"]) fun _ _ _ _ _ _ us hl => by obtain ⟨_, _, rfl⟩ := of_len2 hl; rfl
  have gFa_ := PySem.W.mg_of X G aFa
  have FFr := fun_mk (st := sFR) lFr cFr_ kFr
  have bFr := FFr.binds (ps := ["total", "greatest"]) fun _ _ _ _ _ _ us hl => by obtain ⟨_, _, rfl⟩ := of_len2 hl; rfl
  have gFr_ := PySem.W.mg_of X G aFr
  have FNa := fun_mk (st := sNumAt) lNa cNa_ kNa
  have bNa := FNa.binds (ps := ["row", "index"]) fun _ _ _ _ _ _ us hl => by obtain ⟨_, _, rfl⟩ := of_len2 hl; rfl
  have gNa_ := PySem.W.mg_of X G aNa
  have FHd := fun_mk (st := sHeld) lHd cHd_ kHd
  have bHd := FHd.binds (ps := ["row", "other"]) fun _ _ _ _ _ _ us hl => by obtain ⟨_, _, rfl⟩ := of_len2 hl; rfl
  have gHd_ := PySem.W.mg_of X G aHd
  have FTp := fun_mk (st := sTopped) lTp cTp_ kTp
  have bTp := FTp.binds (ps := ["row", "other"]) fun _ _ _ _ _ _ us hl => by obtain ⟨_, _, rfl⟩ := of_len2 hl; rfl
  have gTp_ := PySem.W.mg_of X G aTp
  have FJo := fun_mk (st := sJoined) lJo cJo_ kJo
  have bJo := FJo.binds (ps := ["one", "other"]) fun _ _ _ _ _ _ us hl => by obtain ⟨_, _, rfl⟩ := of_len2 hl; rfl
  have gJo_ := PySem.W.mg_of X G aJo
  have FAd := fun_mk (st := sAdded) lAd cAd_ kAd
  have bAd := FAd.binds (ps := ["one", "other"]) fun _ _ _ _ _ _ us hl => by obtain ⟨_, _, rfl⟩ := of_len2 hl; rfl
  have gAd_ := PySem.W.mg_of X G aAd
  have FFl := fun_mk (st := sFlat) lFl cFl_ kFl
  have bFl := FFl.binds (ps := ["row", "other"]) fun _ _ _ _ _ _ us hl => by obtain ⟨_, _, rfl⟩ := of_len2 hl; rfl
  have gFl_ := PySem.W.mg_of X G aFl
  have FLn := fun_mk (st := sLine) lLn cLn_ kLn
  have bLn := FLn.binds (ps := ["row", "other"]) fun _ _ _ _ _ _ us hl => by obtain ⟨_, _, rfl⟩ := of_len2 hl; rfl
  have gLn_ := PySem.W.mg_of X G aLn
  have FTx := fun_mk (st := sFTx) lTx cTx_ kTx
  have bTx := FTx.binds (ps := ["row"]) fun _ _ _ _ _ _ us hl => by obtain ⟨_, rfl⟩ := of_len1 hl; rfl
  have gTx_ := PySem.W.mg_of X G aTx
  have FRk := fun_mk (st := sReqKind) lRk cRk_ kRk
  have bRk := FRk.binds (ps := ["value"]) fun _ _ _ _ _ _ us hl => by obtain ⟨_, rfl⟩ := of_len1 hl; rfl
  have gRk_ := PySem.W.mg_of X G aRk
  have FRs := fun_mk (st := sReqSize) lRs cRs_ kRs
  have bRs := FRs.binds (ps := ["size"]) fun _ _ _ _ _ _ us hl => by obtain ⟨_, rfl⟩ := of_len1 hl; rfl
  have gRs_ := PySem.W.mg_of X G aRs
  have FKo := fun_mk (st := s_koX) lKo cKo_ kKo
  have bKo := FKo.binds (ps := ["size"]) fun _ _ _ _ _ _ us hl => by obtain ⟨_, rfl⟩ := of_len1 hl; rfl
  have gKo_ := PySem.W.mg_of X G aKo
  have FWi := fun_mk (st := s_wiX) lWi cWi_ kWi
  have bWi := FWi.binds (ps := ["kind"]) fun _ _ _ _ _ _ us hl => by obtain ⟨_, rfl⟩ := of_len1 hl; rfl
  have gWi_ := PySem.W.mg_of X G aWi
  have FRv := fun_mk (st := sRowsOver) lRv cRv_ kRv
  have bRv := FRv.binds (ps := ["kind", "many"]) fun _ _ _ _ _ _ us hl => by obtain ⟨_, _, rfl⟩ := of_len2 hl; rfl
  have gRv_ := PySem.W.mg_of X G aRv
  have FFo := fun_mk (st := sFlats) lFo cFo_ kFo
  have bFo := FFo.binds (ps := ["kind", "many"]) fun _ _ _ _ _ _ us hl => by obtain ⟨_, _, rfl⟩ := of_len2 hl; rfl
  have gFo_ := PySem.W.mg_of X G aFo
  have FLo := fun_mk (st := sLines) lLo cLo_ kLo
  have bLo := FLo.binds (ps := ["kind", "many"]) fun _ _ _ _ _ _ us hl => by obtain ⟨_, _, rfl⟩ := of_len2 hl; rfl
  have gLo_ := PySem.W.mg_of X G aLo
  have FDi := fun_mk (st := sDice) lDi cDi_ kDi
  have bDi := FDi.binds (ps := ["_law_script", "_law_spot"]) fun _ _ _ _ _ _ us hl => by obtain ⟨_, _, rfl⟩ := of_len2 hl; rfl
  have gDi_ := PySem.W.mg_of X G aDi
  have FRo := fun_mk (st := sRoll) lRo cRo_ kRo
  have bRo := FRo.binds (ps := ["_law_dice_here", "_law_total"]) fun _ _ _ _ _ _ us hl => by obtain ⟨_, _, rfl⟩ := of_len2 hl; rfl
  have gRo_ := PySem.W.mg_of X G aRo
  have FPi := fun_mk (st := sPick) lPi cPi_ kPi
  have bPi := FPi.binds (ps := ["_law_dice_here", "_law_items"]) fun _ _ _ _ _ _ us hl => by obtain ⟨_, _, rfl⟩ := of_len2 hl; rfl
  have gPi_ := PySem.W.mg_of X G aPi
  have FKs := fun_mk (st := sKinds) lKs cKs_ kKs
  have bKs := FKs.binds (ps := ["_law_size"]) fun _ _ _ _ _ _ us hl => by obtain ⟨_, rfl⟩ := of_len1 hl; rfl
  have gKs_ := PySem.W.mg_of X G aKs
  have FKd := fun_mk (st := sKind) lKd cKd_ kKd
  have bKd := FKd.binds (ps := ["_law_dice_here", "_law_most"]) fun _ _ _ _ _ _ us hl => by obtain ⟨_, _, rfl⟩ := of_len2 hl; rfl
  have gKd_ := PySem.W.mg_of X G aKd
  have FMe := fun_mk (st := sMet) lMe cMe_ kMe
  have bMe := FMe.binds (ps := ["_law_call"]) fun _ _ _ _ _ _ us hl => by obtain ⟨_, rfl⟩ := of_len1 hl; rfl
  have gMe_ := PySem.W.mg_of X G aMe
  have FWr := fun_mk (st := sWrongN) lWr cWr_ kWr
  have bWr := FWr.binds (ps := ["_law_dice_here", "_law_numbers"]) fun _ _ _ _ _ _ us hl => by obtain ⟨_, _, rfl⟩ := of_len2 hl; rfl
  have gWr_ := PySem.W.mg_of X G aWr
  have FNr := fun_mk (st := sNumR) lNr cNr_ kNr
  have bNr := FNr.binds (ps := ["_law_dice_here", "_law_kind_here", "_law_odd", "_law_bad"]) fun _ _ _ _ _ _ us hl => by obtain ⟨_, _, _, _, rfl⟩ := of_len4 hl; rfl
  have gNr_ := PySem.W.mg_of X G aNr
  have FRg := fun_mk (st := sRight) lRg cRg_ kRg
  have bRg := FRg.binds (ps := ["_law_dice_here"]) fun _ _ _ _ _ _ us hl => by obtain ⟨_, rfl⟩ := of_len1 hl; rfl
  have gRg_ := PySem.W.mg_of X G aRg
  have FLa := fun_mk (st := sLaw) lLa cLa_ kLa
  have FHo := fun_mk (st := cls 11) lHo cHo_ kHo
  have bHo := FHo.binds (ps := ["self", "other"]) fun _ _ _ _ _ _ us hl => by obtain ⟨_, _, rfl⟩ := of_len2 hl; rfl
  have MHo : Meth K C "holds" fHo := ⟨aHo, iHo, kHo⟩
  have FTo := fun_mk (st := cls 12) lTo cTo_ kTo
  have bTo := FTo.binds (ps := ["self", "other"]) fun _ _ _ _ _ _ us hl => by obtain ⟨_, _, rfl⟩ := of_len2 hl; rfl
  have MTo : Meth K C "tops" fTo := ⟨aTo, iTo, kTo⟩
  have FPa := fun_mk (st := cls 13) lPa cPa_ kPa
  have bPa := FPa.binds (ps := ["self", "other"]) fun _ _ _ _ _ _ us hl => by obtain ⟨_, _, rfl⟩ := of_len2 hl; rfl
  have MPa : Meth K C "__add__" fPa := ⟨aPa, iPa, kPa⟩
  have FOv := fun_mk (st := cls 14) lOv cOv_ kOv
  have bOv := FOv.binds (ps := ["self", "other"]) fun _ _ _ _ _ _ us hl => by obtain ⟨_, _, rfl⟩ := of_len2 hl; rfl
  have MOv : Meth K C "over" fOv := ⟨aOv, iOv, kOv⟩
  have FOk := fun_mk (st := cls 15) lOk cOk_ kOk
  have bOk := FOk.binds (ps := ["self", "wide", "high"]) fun _ _ _ _ _ _ us hl => by obtain ⟨_, _, _, rfl⟩ := of_len3 hl; rfl
  have MOk : Meth K C "opposite" fOk := ⟨aOk, iOk, kOk⟩
  have FIt := fun_mk (st := cls 16) lIt cIt_ kIt
  have bIt := FIt.binds (ps := ["self", "index"]) fun _ _ _ _ _ _ us hl => by obtain ⟨_, _, rfl⟩ := of_len2 hl; rfl
  have MIt : Meth K C "__getitem__" fIt := ⟨aIt, iIt, kIt⟩
  have FEq := fun_mk (st := cls 19) lEq cEq_ kEq
  have bEq := FEq.binds (ps := ["self", "other"]) fun _ _ _ _ _ _ us hl => by obtain ⟨_, _, rfl⟩ := of_len2 hl; rfl
  have MEq : Meth K C "__eq__" fEq := ⟨aEq, iEq, kEq⟩
  have FSt := fun_mk (st := cls 21) lSt cSt_ kSt
  have bSt := FSt.binds (ps := ["self"]) fun _ _ _ _ _ _ us hl => by obtain ⟨_, rfl⟩ := of_len1 hl; rfl
  have MSt : Meth K C "__str__" fSt := ⟨aSt, iSt, kSt⟩
  have FPn := fun_mk (st := cls 2) lPn cPn_ kPn
  have bPn := FPn.binds (ps := ["self"]) fun _ _ _ _ _ _ us hl => by obtain ⟨_, rfl⟩ := of_len1 hl; rfl
  have FPs := fun_mk (st := cls 3) lPs cPs_ kPs
  have bPs := FPs.binds (ps := ["self"]) fun _ _ _ _ _ _ us hl => by obtain ⟨_, rfl⟩ := of_len1 hl; rfl
  have FPr := fun_mk (st := cls 4) lPr cPr_ kPr
  have bPr := FPr.binds (ps := ["self"]) fun _ _ _ _ _ _ us hl => by obtain ⟨_, rfl⟩ := of_len1 hl; rfl
  have FPh := fun_mk (st := cls 5) lPh cPh_ kPh
  have bPh := FPh.binds (ps := ["self"]) fun _ _ _ _ _ _ us hl => by obtain ⟨_, rfl⟩ := of_len1 hl; rfl
  have FRd := fun_mk (st := cls 1) lRd cRd_ kRd
  have bRd := FRd.binds (ps := ["cls", "text"]) fun _ _ _ _ _ _ us hl => by obtain ⟨_, _, rfl⟩ := of_len2 hl; rfl
  have Zisinstance := PySem.W.mg_none_of X G z_isinstance
  have Zint := PySem.W.mg_none_of X G z_int
  have Zbool := PySem.W.mg_none_of X G z_bool
  have Zstr := PySem.W.mg_none_of X G z_str
  have Ztuple := PySem.W.mg_none_of X G z_tuple
  have Zlist := PySem.W.mg_none_of X G z_list
  have Zdict := PySem.W.mg_none_of X G z_dict
  have Zlen := PySem.W.mg_none_of X G z_len
  have Zall := PySem.W.mg_none_of X G z_all
  have Zany := PySem.W.mg_none_of X G z_any
  have Zsum := PySem.W.mg_none_of X G z_sum
  have Ziter := PySem.W.mg_none_of X G z_iter
  have Zmax := PySem.W.mg_none_of X G z_max
  have Zmin := PySem.W.mg_none_of X G z_min
  have Zabs := PySem.W.mg_none_of X G z_abs
  have Zrange := PySem.W.mg_none_of X G z_range
  have Zrepr := PySem.W.mg_none_of X G z_repr
  have Zsorted := PySem.W.mg_none_of X G z_sorted
  have Zenumerate := PySem.W.mg_none_of X G z_enumerate
  have Zzip := PySem.W.mg_none_of X G z_zip
  have ZValueError := PySem.W.mg_none_of X G z_ValueError
  have ZIndexError := PySem.W.mg_none_of X G z_IndexError
  have VBOUND : ∃ t, mg "BOUND" = some (.int (10 ^ 60) t) := ⟨tkBOUND, PySem.W.mg_of X G v_BOUND⟩
  have VMAX_SIZE : ∃ t, mg "MAX_SIZE" = some (.int (12) t) := ⟨tkMAX_SIZE, PySem.W.mg_of X G v_MAX_SIZE⟩
  have EN : PySem.XInvalidNumber.InvalidNumberTxt K mg CNx fNx :=
    { gC := PySem.W.mg_of X G xCN, cls := ⟨nmN, qN, qNx, bsN, snN, subN, abN, colN, ddN, m0N, m1N, m2N, m3N, m5N, xLN⟩, sa := xsaN, ga := xgaN, gg := xggN, noN := xnbN, iC := xaN, tC := xtN, kC := xkN, exC := xeN, tyC := xTN, hdC := xhN, te := exm_one xeN xiN xTN xsN,
      fn := ⟨_, _, _, _, _, _, _, _, _, _, _, _, _, _, xlN, xcN⟩ }
  have EM : PySem.XTooMany.TooManyTxt K mg CMx fMx :=
    { gC := PySem.W.mg_of X G xCM, cls := ⟨nmM, qM, qMx, bsM, snM, subM, abM, colM, ddM, m0M, m1M, m2M, m3M, m5M, xLM⟩, sa := xsaM, ga := xgaM, gg := xggM, noN := xnbM, iC := xaM, tC := xtM, kC := xkM, exC := xeM, tyC := xTM, hdC := xhM, te := exm_one xeM xiM xTM xsM,
      fn := ⟨_, _, _, _, _, _, _, _, _, _, _, _, _, _, xlM, xcM⟩ }
  have ER : PySem.XRefused.RefusedTxt K mg CRx fRx :=
    { gC := PySem.W.mg_of X G xCR, cls := ⟨nmR, qR, qRx, bsR, snR, subR, abR, colR, ddR, m0R, m1R, m2R, m3R, m5R, xLR⟩, sa := xsaR, ga := xgaR, gg := xggR, noN := xnbR, iC := xaR, tC := xtR, kC := xkR, exC := xeR, tyC := xTR, hdC := xhR, te := exm_one xeR xiR xTR xsR,
      fn := ⟨_, _, _, _, _, _, _, _, _, _, _, _, _, _, xlR, xcR⟩ }
  have NI : OwnX K mg "InvalidKind" CIx := ⟨PySem.W.mg_of X G xCI, xkI, xqI, xeI, xTI, exm_one xeI xiI xTI xsI⟩
  have NO : OwnX K mg "InvalidOperation" COx := ⟨PySem.W.mg_of X G xCO, xkO, xqO, xeO, xTO, exm_one xeO xiO xTO xsO⟩
  have XI : ExcC K CIx := ⟨xgaI, xggI, xeI, xhI, xhaI, hn, htk, xhmI⟩
  have XN : ExcC K CNx := ⟨xgaN, xggN, xeN, xhN, xhaN, hn, htk, xhmN⟩
  refine ⟨PySem.W.fnOf "law" "law" (defArgs sLaw) (defBody sLaw) (defScope sLaw) .none kVLa dcLa pmLa anLa (.ref cLa) ctLa, [(cNr, tNr), (cRg, tRg), (cLa, tLa)], spLaw K [(tNr, qNumR), (tRg, qRight), (tLa, qLaw)], ?_, ?_, ?_, fun s v => .of_eq rfl, ?_, fun base hKb hGb TB => ?_⟩
  · intro p hp
    simp only [List.mem_cons, List.not_mem_nil, or_false] at hp
    rcases hp with rfl | rfl | rfl
    · exact eNr
    · exact eRg
    · exact eLa
  · intro p hp
    simp only [List.mem_cons, List.not_mem_nil, or_false] at hp
    rcases hp with rfl | rfl | rfl
    · exact nNr
    · exact nRg
    · exact nLa
  · intro p hp
    simp only [List.mem_cons, List.not_mem_nil, or_false] at hp
    rcases hp with rfl | rfl | rfl
    · exact PySem.W.codeHd_of_K X dNr
    · exact PySem.W.codeHd_of_K X dRg
    · exact PySem.W.codeHd_of_K X dLa
  · intro H a ns hl _ hH _ hS
    refine ⟨a, ns, rfl, hS, hl, fun p hp => ?_, fun _ => rfl⟩
    simp only [List.mem_cons, List.not_mem_nil, or_false] at hp
    rcases hp with rfl | rfl | rfl
    · exact TabS.nil (hH (cNr, tNr) (by simp))
    · exact TabS.nil (hH (cRg, tRg) (by simp))
    · exact TabS.nil (hH (cLa, tLa) (by simp))
  have TBNr := TB (cNr, tNr) (by simp)
  have TBRg := TB (cRg, tRg) (by simp)
  have TBLa := TB (cLa, tLa) (by simp)
  have huNr : ∀ p ∈ [(tNr, qNumR), (tRg, qRight), (tLa, qLaw)], p.1 = tNr → p.2 = qNumR := fun p hp e => by
    simp only [List.mem_cons, List.not_mem_nil, or_false] at hp
    rcases hp with rfl | rfl | rfl
    · rfl
    · exact absurd e.symm neNrRg
    · exact absurd e.symm neNrLa
  have huRg : ∀ p ∈ [(tNr, qNumR), (tRg, qRight), (tLa, qLaw)], p.1 = tRg → p.2 = qRight := fun p hp e => by
    simp only [List.mem_cons, List.not_mem_nil, or_false] at hp
    rcases hp with rfl | rfl | rfl
    · exact absurd e neNrRg
    · rfl
    · exact absurd e.symm neRgLa
  have huLa : ∀ p ∈ [(tNr, qNumR), (tRg, qRight), (tLa, qLaw)], p.1 = tLa → p.2 = qLaw := fun p hp e => by
    simp only [List.mem_cons, List.not_mem_nil, or_false] at hp
    rcases hp with rfl | rfl | rfl
    · exact absurd e neNrLa
    · exact absurd e neRgLa
    · rfl
  have T : Txt K mg := ⟨Zisinstance, Zint, Zbool, Zstr, Ztuple, Zlist, Zdict, Zlen, Zall, Zany, Zsum, Ziter, Zmax, Zmin, Zabs, Zrange, Zrepr, Zsorted, Zenumerate, Zzip, VBOUND⟩
  have Cl : KC K mg C := { cl := ⟨pgC, hdC, poC, saC⟩, noN := no0C, noP := no1C, g := PySem.W.mg_of X G aC, kp := kcC, ha := haC, hn := hn, htk := htk, hm := hmC, kit := kit_self, ne := ⟨neC, hmC⟩, most := VMAX_SIZE }
  have FI : FnI K tI0 fI0 (PySem.W.fnOf "__init__" "Kind.__init__" (defArgs (cls 0)) (defBody (cls 0)) (defScope (cls 0)) (.ref TI0) kVI0 dcI0 pmI0 anI0 cdI0 ctI0) := ⟨⟨ocI0, odI0, .ref TI0, kVI0, dcI0, pmI0, anI0, cdI0, ctI0, slI0, rfl, lI0, cI0_, .inr ⟨by simp, TI0, _, [.ref tI0], o3I0, rfl, LI0, rfl, .cons rfl .nil⟩, .inl rfl⟩, kI0⟩
  obtain ⟨ds, hds, b0⟩ : ∃ ds, Vals ([V.ref tI0].drop 0) ds ∧ Binds K (PySem.W.fnOf "__init__" "Kind.__init__" (defArgs (cls 0)) (defBody (cls 0)) (defScope (cls 0)) (.ref TI0) kVI0 dcI0 pmI0 anI0 cdI0 ctI0) ["self", "numbers"] ds := FI.binds1 1 0 (by simp) rfl fun T kV doc pm an cdv ct us its h1 h2 => by obtain ⟨_, rfl⟩ := of_len1 h1; obtain ⟨_, rfl⟩ := of_len1 h2; exact ⟨_, rfl, rfl⟩
  have bI : Binds K (PySem.W.fnOf "__init__" "Kind.__init__" (defArgs (cls 0)) (defBody (cls 0)) (defScope (cls 0)) (.ref TI0) kVI0 dcI0 pmI0 anI0 cdI0 ctI0) ["self", "numbers"] [] := by
    obtain ⟨ds, h1, h2⟩ : ∃ ds, Vals ([V.ref tI0].drop 1) ds ∧ Binds K (PySem.W.fnOf "__init__" "Kind.__init__" (defArgs (cls 0)) (defBody (cls 0)) (defScope (cls 0)) (.ref TI0) kVI0 dcI0 pmI0 anI0 cdI0 ctI0) ["self", "numbers"] ds := FI.binds1 2 1 (by simp) rfl fun T kV doc pm an cdv ct us its h1 h2 => by obtain ⟨_, _, rfl⟩ := of_len2 h1; obtain ⟨_, rfl⟩ := of_len1 h2; exact ⟨_, rfl, rfl⟩
    cases h1
    exact h2
  have hT0 : ∀ H : Hp, TupX K H tI0 [] := fun H => .inr ⟨_, #[], o6I0, mI0, rfl, rfl, rfl, Nat.zero_le _, .nil⟩
  have AW : AtW K mg fWh _ := ⟨FWh, bWh, gWh_⟩
  have AI : AtI K mg fIn _ := ⟨FIn, bIn, gIn_⟩
  have AR : AtR K mg fRo _ := ⟨FRo, bRo, gRo_⟩
  have DIw : Def1 l.prog w K mg base CX0 3 "is_within" ["value", "low", "high"] (spIsWithin K) := ⟨_, _, gIw_, kIw, ok_isWithin FIw T AW AI, bIw⟩
  have DRw : Def1 l.prog w K mg base CX0 4 "require_within" ["value", "low", "high"] (spReqWi K) := ⟨_, _, gRw_, kRw, ok_reqWi FRw T DIw, bRw⟩
  have DRwX : Def1 l.prog w K mg base (L2.CX l.prog w) 5 "require_within" ["value", "low", "high"] (spReqWiX K CNx) := ⟨_, _, gRw_, kRw, ok_reqWiX FRw T EN DIw, bRw⟩
  have DRwE : Def1 l.prog w K mg base (L2.CX l.prog w) 5 "require_within" ["value", "low", "high"] (fun vs H Q E => spReqWiX K CNx vs H Q E ∨ spReqWi K vs H Q E) := ⟨_, _, gRw_, kRw, fn_or (ok_reqWiX FRw T EN DIw) (fn_cx ((ok_reqWi FRw T DIw).mono (by decide))), bRw⟩
  have DRi : Def1 l.prog w K mg base (L2.CX l.prog w) 4 "require_index" ["value"] (spIndex K CNx) := ⟨_, _, gRi_, kRi, ok_index FRi T AW AI EN, bRi⟩
  have DFa : Def1 l.prog w K mg base CX0 4 "is_falling" ["value", "most"] (spFalling K) := ⟨_, _, gFa_, kFa, ok_falling FFa T DIw, bFa⟩
  have DFaX : Def1 l.prog w K mg base CX0 4 "is_falling" ["value", "most"] (spNotFall K) := ⟨_, _, gFa_, kFa, ok_notFall FFa T DIw, bFa⟩
  have DFr := fr_all (P := l.prog) (w := w) (base := base) FFr T gFr_ kFr bFr 13
  have DNa : Def1 l.prog w K mg base CX0 1 "number_at" ["row", "index"] (spNumAt K) := ⟨_, _, gNa_, kNa, ok_numAt FNa T, bNa⟩
  have DHd : Def1 l.prog w K mg base CX0 1 "is_held" ["row", "other"] (spHeld K) := ⟨_, _, gHd_, kHd, ok_held FHd T, bHd⟩
  have DTp : Def1 l.prog w K mg base CX0 1 "is_topped" ["row", "other"] (spTopped K) := ⟨_, _, gTp_, kTp, ok_topped FTp T, bTp⟩
  have DJo : Def1 l.prog w K mg base CX0 1 "joined_row" ["one", "other"] (spJoined K) := ⟨_, _, gJo_, kJo, ok_joinedR FJo T, bJo⟩
  have DAd : Def1 l.prog w K mg base CX0 2 "added_row" ["one", "other"] (spAdded K) := ⟨_, _, gAd_, kAd, ok_addedR FAd T DNa, bAd⟩
  have DFl : Def1 l.prog w K mg base CX0 2 "is_flat_step" ["row", "other"] (spFlat K) := ⟨_, _, gFl_, kFl, ok_flat FFl T DNa DHd, bFl⟩
  have DLn : Def1 l.prog w K mg base CX0 2 "is_line_step" ["row", "other"] (spLine K) := ⟨_, _, gLn_, kLn, ok_line FLn T DNa DHd, bLn⟩
  have DTx : Def1 l.prog w K mg base CX0 1 "falling_text" ["row"] (spFTx K) := ⟨_, _, gTx_, kTx, ok_fTx FTx T, bTx⟩
  have DRk : Def1 l.prog w K mg base CX0 1 "require_kind" ["value"] (spReqKind K C) := ⟨_, _, gRk_, kRk, ok_reqKind FRk T Cl, bRk⟩
  have DRkX : Def1 l.prog w K mg base (L2.CX l.prog w) 2 "require_kind" ["value"] (spReqKindX K C CIx) := ⟨_, _, gRk_, kRk, ok_reqKindX FRk T Cl NI, bRk⟩
  have DRs : Def1 l.prog w K mg base (L2.CX l.prog w) 3 "require_size" ["size"] (spReqSize CMx) := ⟨_, _, gRs_, kRs, ok_reqSize FRs Cl EM, bRs⟩
  have GI := ok_init (P := l.prog) (w := w) (base := base) FI T Cl DFa
  have Ini : Ini1 l.prog w K mg base CX0 5 C tI0 ["self", "numbers"] (spInit K C) := ⟨_, _, ds, ⟨mkC, aI0, iI0, kcC⟩, GI, bI, hds, b0⟩
  have IniF : Ini1 l.prog w K mg base CX0 5 C tI0 ["self", "numbers"] (spInitF K C) := ⟨_, _, ds, ⟨mkC, aI0, iI0, kcC⟩, ok_initF FI T Cl DFa, bI, hds, b0⟩
  have IniX : Ini1 l.prog w K mg base (L2.CX l.prog w) 5 C tI0 ["self", "numbers"] (spInitX K C CIx) := ⟨_, _, ds, ⟨mkC, aI0, iI0, kcC⟩, ok_initX FI T Cl NI DFaX, bI, hds, b0⟩
  have Qn : Pro1 l.prog w K mg base 1 C "numbers" (spGet K C fun n _ => .ref n) := ⟨_, _, _, ⟨aPn, gPn, tPn_, _, rPn⟩, ok_numbers FPn Cl, bPn⟩
  have Qs : Pro1 l.prog w K mg base 1 C "size" (spGet K C fun _ ns => .int ns.sum) := ⟨_, _, _, ⟨aPs, gPs, tPs_, _, rPs⟩, ok_size FPs T Cl, bPs⟩
  have Qr : Pro1 l.prog w K mg base 1 C "rank" (spGet K C fun _ ns => .int (ns.length : Int)) := ⟨_, _, _, ⟨aPr, gPr, tPr_, _, rPr⟩, ok_rank FPr T Cl, bPr⟩
  have Qh : Pro1 l.prog w K mg base 2 C "height" (spGet K C fun _ ns => .int (ns.getD 0 0)) := ⟨_, _, _, ⟨aPh, gPh, tPh_, _, rPh⟩, ok_height FPh Cl DNa, bPh⟩
  have HoX : Met1 l.prog w K mg base (L2.CX l.prog w) 3 C "holds" ["self", "other"] (spMethX K C CIx) := ⟨_, _, MHo, jHo, ok_hoX FHo DRkX, bHo⟩
  have ToA : Met1 l.prog w K mg base (L2.CX l.prog w) 4 C "tops" ["self", "other"] (spTopsA K C CIx CRx) := ⟨_, _, MTo, jTo, fn_or ((ok_toX FTo DRkX).mono (by decide)) (ok_topsE FTo Cl ER DRk DTp Qn Qs), bTo⟩
  have OvA : Met1 l.prog w K mg base (L2.CX l.prog w) 7 C "over" ["self", "other"] (spOverA K C CIx CMx) := ⟨_, _, MOv, jOv, fn_or ((ok_ovX FOv DRkX).mono (by decide)) (ok_over FOv Cl DRk DRs DAd Qn Qs Ini), bOv⟩
  have AdB : Bin1 l.prog w K mg base (L2.CX l.prog w) 7 C "__add__" "__radd__" (spTwoK K C CMx joinM) := ⟨_, _, ⟨sfC, MPa, raddC⟩, ok_add FPa T Cl DRs DJo Qn Qs Ini, bPa⟩
  have ItX : Met1 l.prog w K mg base (L2.CX l.prog w) 5 C "__getitem__" ["self", "index"] (spItemX K C CNx) := ⟨_, _, MIt, jIt, ok_itemX FIt DRi, bIt⟩
  have OkX : Met1 l.prog w K mg base (L2.CX l.prog w) 6 C "opposite" ["self", "wide", "high"] (spOpX K C CNx CMx) := ⟨_, _, MOk, jOk, ok_opX FOk Cl ER DRwE DRs Qs Qr Qh, bOk⟩
  have EqM : Met1 l.prog w K mg base CX0 1 C "__eq__" ["self", "other"] (spKEq K C) := ⟨_, _, MEq, jEq, ok_keq FEq T Cl, bEq⟩
  have StM : Met1 l.prog w K mg base CX0 2 C "__str__" ["self"] (spKSt K C) := ⟨_, _, MSt, jSt, ok_kstr FSt T Cl DTx, bSt⟩
  have DWi : Def1 l.prog w K mg base (L2.CX l.prog w) 3 "kinds_within" ["kind"] (sp_wiX K C CIx) := ⟨_, _, gWi_, kWi, ok_wiX FWi DRkX, bWi⟩
  have DKoX : Def1 l.prog w K mg base (L2.CX l.prog w) 6 "kinds_of" ["size"] (spKoX K CNx) := ⟨_, _, gKo_, kKo, ok_koX FKo Cl DRwX, bKo⟩
  have DKoF : Def1 l.prog w K mg base CX0 15 "kinds_of" ["size"] (spKoF) := ⟨_, _, gKo_, kKo, ok_koF FKo T Cl DRw DFr Ini, bKo⟩
  have DRv : Def1 l.prog w K mg base CX0 15 "rows_over" ["kind", "many"] (spRowsOver K C) := ⟨_, _, gRv_, kRv, ok_rowsOver FRv T Cl DRk DRw DRs DFr Qs, bRv⟩
  have DRvE : Def1 l.prog w K mg base (L2.CX l.prog w) 6 "rows_over" ["kind", "many"] (spRoE K C CIx CNx CMx) := ⟨_, _, gRv_, kRv, fn_or ((ok_roX FRv DRkX).mono (by decide)) (fn_or (ok_roN FRv Cl DRk DRwX) (ok_roT FRv Cl DRk DRw DRs Qs)), bRv⟩
  have SF := stepAt kFo (ok_step (ok_flX (P := l.prog) (w := w) (base := base) FFo DRvE) (ok_flats FFo T Cl DRv DFl Qn Ini)) bFo
  have SL := stepAt kLo (ok_step (ok_liX (P := l.prog) (w := w) (base := base) FLo DRvE) (ok_lines FLo T Cl DRv DLn Qn Ini)) bLo
  have DRo : Def1 l.prog w K mg base CX0 1 "_law_roll" ["_law_dice_here", "_law_total"] (spRoll) := ⟨_, _, gRo_, kRo, ok_roll FRo T, bRo⟩
  have DPi : Def1 l.prog w K mg base CX0 2 "_law_pick" ["_law_dice_here", "_law_items"] (spPick K) := ⟨_, _, gPi_, kPi, ok_pick FPi T AR, bPi⟩
  have DDi : Def1 l.prog w K mg base CX0 1 "_law_dice" ["_law_script", "_law_spot"] (spDice K) := ⟨_, _, gDi_, kDi, ok_dice FDi T, bDi⟩
  have DKs : Def1 l.prog w K mg base CX0 1 "_law_kinds" ["_law_size"] (spKinds K) := ⟨_, _, gKs_, kKs, ok_kinds FKs T, bKs⟩
  have DKd : Def1 l.prog w K mg base CX0 3 "_law_kind" ["_law_dice_here", "_law_most"] (spKind K) := ⟨_, _, gKd_, kKd, ok_kind FKd DRo DKs DPi, bKd⟩
  have DWr : Def1 l.prog w K mg base CX0 3 "_law_wrong_numbers" ["_law_dice_here", "_law_numbers"] (spWrongN K) := ⟨_, _, gWr_, kWr, ok_wrongN FWr T DPi, bWr⟩
  have RdF : FnR l.prog w K mg base (L2.CX l.prog w) 2 fRd (spReadX K COx) := ((ok_readX (P := l.prog) (w := w) (base := base) FRd T NO).raw bRd .nil).imp fun vs H Q E q => by
    rw [List.append_nil]
    exact q
  have A : ApiX l.prog w K mg base C CIx COx CNx CRx CMx tI0 := {
    ini := Ini
    iniX := IniX
    size := Qs
    str := StM
    holdsX := HoX
    tops := ToA
    over := OvA
    add := AdB
    itemX := ItX
    oppX := OkX
    withinX := DWi
    ofX := DKoX
    of := DKoF
    read := ⟨_, pRd, fRd, ⟨wRd, gaC⟩, ⟨xRd, ⟨_, rRd⟩, uRd⟩, RdF⟩
    kind := DKd
    pick := DPi
    wrong := DWr }
  have Mm : Met K mg CKx CIx COx CNx CRx CMx := {
    at_ := ⟨fMe, _, ⟨FMe, bMe, gMe_⟩⟩
    ni := NI
    no := NO
    n := ⟨_, EN⟩
    r := ⟨_, ER⟩
    m := ⟨_, EM⟩
    nOI := exm_one xeI xiI xTI nOI
    nNI := exm_one xeI xiI xTI nNI
    nNO := exm_one xeO xiO xTO nNO
    nRI := exm_one xeI xiI xTI nRI
    nRO := exm_one xeO xiO xTO nRO
    nRN := exm_one xeN xiN xTN nRN
    nTI := exm_one xeI xiI xTI nMI
    nTO := exm_one xeO xiO xTO nMO
    nTN := exm_one xeN xiN xTN nMN
    nTR := exm_one xeR xiR xTR nMR
    eI := XI
    eN := XN
    gK := PySem.W.mg_of X G xCK
    k1 := kit_own neIK xiK xTK u1
    k2 := kit_ty (by decide +kernel) u2
    k3 := kit_ty (by decide +kernel) u3
    zi := Zisinstance
    zr := Zrepr
    zv := ZValueError
    zx := ZIndexError }
  have NK : NKit K C := ⟨kit_not ciC ctC sNoneTypeC, kit_not ciC ctC sintC, kit_not ciC ctC sboolC, kit_not ciC ctC sstrC, kit_not ciC ctC stupleC, kit_not ciC ctC slistC, kit_not ciC ctC sdictC⟩
  have NRd : Def1G l.prog w K mg base CX0 24 "_law_are_numbers_refused" ["_law_dice_here", "_law_kind_here", "_law_odd", "_law_bad"] (spNumR K C [(tNr, qNumR), (tRg, qRight), (tLa, qLaw)]) := ⟨_, _, gNr_, kNr, ok_numR FNr rfl TBNr (by simp) huNr T Cl A Mm gFo_ gLo_ (fun f e => by rcases e with rfl | rfl; exact SF; exact SL) NK, bNr⟩
  have RgD : Def1G l.prog w K mg base CX0 25 "_law_right" ["_law_dice_here"] (spRight K [(tNr, qNumR), (tRg, qRight), (tLa, qLaw)]) := ⟨_, _, gRg_, kRg, ok_right FRg rfl TBRg (by simp) huRg T Zstr Cl A Mm NK (kit_ty (by decide +kernel) w1) NRd, bRg⟩
  exact ok_law FLa rfl TBLa (by simp) huLa T Cl A Mm hT0 IniF EqM DDi RgD
end

end Q0

set_option Elab.async false
set_option maxRecDepth 100000
open PySem PySem.W PyProof.Rows in
set_option maxRecDepth 100000 in
set_option maxHeartbeats 0 in
theorem PySem.Challenge.cw_primekinds_k10_errors_of_kinds_holds : PySem.Challenge.rw_primekinds_k10_errors_of_kinds.Holds := by
  w_on; o_law; k_head; (case hw => w_witness2)
  k_fill
  refine Gd.walkGT (n := 63) (k := 26) (x := "_law_script") (CX := fun _ => L2.CX0) (l := PySem.Challenge.rw_primekinds_k10_errors_of_kinds) rfl (by decide) rfl ⟨rfl, by decide, by decide⟩ (fun w h Y => PySem.W.km_in_of Y) ?F (fun _ _ _ _ _ z => z)
  case F =>
    intro w mg fa h Y KX G hmg
    have hT8 := PySem.W.km_tabs_of Y
    refine' Q0.all_mk KX G hmg ?aWh ?lWh ?cWh_ ?kWh ?aIn ?lIn ?cIn_ ?kIn ?aIw ?lIw ?cIw_ ?kIw ?aRw ?lRw ?cRw_ ?kRw ?aRi ?lRi ?cRi_ ?kRi ?aFa ?lFa ?cFa_ ?kFa ?aFr ?lFr ?cFr_ ?kFr ?aNa ?lNa ?cNa_ ?kNa ?aHd ?lHd ?cHd_ ?kHd ?aTp ?lTp ?cTp_ ?kTp ?aJo ?lJo ?cJo_ ?kJo ?aAd ?lAd ?cAd_ ?kAd ?aFl ?lFl ?cFl_ ?kFl ?aLn ?lLn ?cLn_ ?kLn ?aTx ?lTx ?cTx_ ?kTx ?aRk ?lRk ?cRk_ ?kRk ?aRs ?lRs ?cRs_ ?kRs ?aKo ?lKo ?cKo_ ?kKo ?aWi ?lWi ?cWi_ ?kWi ?aRv ?lRv ?cRv_ ?kRv ?aFo ?lFo ?cFo_ ?kFo ?aLo ?lLo ?cLo_ ?kLo ?aDi ?lDi ?cDi_ ?kDi ?aRo ?lRo ?cRo_ ?kRo ?aPi ?lPi ?cPi_ ?kPi ?aKs ?lKs ?cKs_ ?kKs ?aKd ?lKd ?cKd_ ?kKd ?aMe ?lMe ?cMe_ ?kMe ?aWr ?lWr ?cWr_ ?kWr ?aNr ?lNr ?cNr_ ?kNr ?qNr ?vNr ?dNr ?nNr ?eNr ?aRg ?lRg ?cRg_ ?kRg ?qRg ?vRg ?dRg ?nRg ?eRg ?aLa ?lLa ?cLa_ ?kLa ?qLa ?vLa ?dLa ?nLa ?eLa ?aC ?pgC ?hdC ?poC ?saC ?mkC ?kcC ?haC ?hmC ?ciC ?ctC ?neC ?sfC ?raddC ?sNoneTypeC ?sintC ?sboolC ?sstrC ?stupleC ?slistC ?sdictC ?no0C ?no1C ?hn ?htk ?aI0 ?lI0 ?cI0_ ?kI0 ?iI0 ?LI0 ?mI0 ?aHo ?lHo ?cHo_ ?kHo ?iHo ?jHo ?aTo ?lTo ?cTo_ ?kTo ?iTo ?jTo ?aPa ?lPa ?cPa_ ?kPa ?iPa ?jPa ?aOv ?lOv ?cOv_ ?kOv ?iOv ?jOv ?aOk ?lOk ?cOk_ ?kOk ?iOk ?jOk ?aIt ?lIt ?cIt_ ?kIt ?iIt ?jIt ?aEq ?lEq ?cEq_ ?kEq ?iEq ?jEq ?aSt ?lSt ?cSt_ ?kSt ?iSt ?jSt ?aPn ?gPn ?tPn_ ?rPn ?lPn ?cPn_ ?kPn ?aPs ?gPs ?tPs_ ?rPs ?lPs ?cPs_ ?kPs ?aPr ?gPr ?tPr_ ?rPr ?lPr ?cPr_ ?kPr ?aPh ?gPh ?tPh_ ?rPh ?lPh ?cPh_ ?kPh ?aRd ?rRd ?lRd ?cRd_ ?kRd ?uRd ?wRd ?gaC ?xRd ?z_isinstance ?z_int ?z_bool ?z_str ?z_tuple ?z_list ?z_dict ?z_len ?z_all ?z_any ?z_sum ?z_iter ?z_max ?z_min ?z_abs ?z_range ?z_repr ?z_sorted ?z_enumerate ?z_zip ?z_ValueError ?z_IndexError ?v_BOUND ?v_MAX_SIZE ?xCN ?xLN ?xsaN ?xgaN ?xggN ?xnbN ?xaN ?xtN ?xlN ?xcN ?xkN ?xeN ?xTN ?xhN ?xiN ?xsN ?xCM ?xLM ?xsaM ?xgaM ?xggM ?xnbM ?xaM ?xtM ?xlM ?xcM ?xkM ?xeM ?xTM ?xhM ?xiM ?xsM ?xCR ?xLR ?xsaR ?xgaR ?xggR ?xnbR ?xaR ?xtR ?xlR ?xcR ?xkR ?xeR ?xTR ?xhR ?xiR ?xsR ?xCI ?xkI ?xeI ?xTI ?xiI ?xsI ?xqI ?xCO ?xkO ?xeO ?xTO ?xiO ?xsO ?xqO ?xCK ?xiK ?xTK ?xgaI ?xggI ?xhI ?xhaI ?xhmI ?xhaN ?xhmN ?nOI ?nNI ?nNO ?nRI ?nRO ?nRN ?nMI ?nMO ?nMN ?nMR ?u1 ?u2 ?u3 ?w1 ?neIK ?neNrRg ?neNrLa ?neRgLa
    (case aWh => k_is)
    (case lWh => k_is)
    (case cWh_ => k_is)
    (case kWh => k_is)
    (case aIn => k_is)
    (case lIn => k_is)
    (case cIn_ => k_is)
    (case kIn => k_is)
    (case aIw => k_is)
    (case lIw => k_is)
    (case cIw_ => k_is)
    (case kIw => k_is)
    (case aRw => k_is)
    (case lRw => k_is)
    (case cRw_ => k_is)
    (case kRw => k_is)
    (case aRi => k_is)
    (case lRi => k_is)
    (case cRi_ => k_is)
    (case kRi => k_is)
    (case aFa => k_is)
    (case lFa => k_is)
    (case cFa_ => k_is)
    (case kFa => k_is)
    (case aFr => k_is)
    (case lFr => k_is)
    (case cFr_ => k_is)
    (case kFr => k_is)
    (case aNa => k_is)
    (case lNa => k_is)
    (case cNa_ => k_is)
    (case kNa => k_is)
    (case aHd => k_is)
    (case lHd => k_is)
    (case cHd_ => k_is)
    (case kHd => k_is)
    (case aTp => k_is)
    (case lTp => k_is)
    (case cTp_ => k_is)
    (case kTp => k_is)
    (case aJo => k_is)
    (case lJo => k_is)
    (case cJo_ => k_is)
    (case kJo => k_is)
    (case aAd => k_is)
    (case lAd => k_is)
    (case cAd_ => k_is)
    (case kAd => k_is)
    (case aFl => k_is)
    (case lFl => k_is)
    (case cFl_ => k_is)
    (case kFl => k_is)
    (case aLn => k_is)
    (case lLn => k_is)
    (case cLn_ => k_is)
    (case kLn => k_is)
    (case aTx => k_is)
    (case lTx => k_is)
    (case cTx_ => k_is)
    (case kTx => k_is)
    (case aRk => k_is)
    (case lRk => k_is)
    (case cRk_ => k_is)
    (case kRk => k_is)
    (case aRs => k_is)
    (case lRs => k_is)
    (case cRs_ => k_is)
    (case kRs => k_is)
    (case aKo => k_is)
    (case lKo => k_is)
    (case cKo_ => k_is)
    (case kKo => k_is)
    (case aWi => k_is)
    (case lWi => k_is)
    (case cWi_ => k_is)
    (case kWi => k_is)
    (case aRv => k_is)
    (case lRv => k_is)
    (case cRv_ => k_is)
    (case kRv => k_is)
    (case aFo => k_is)
    (case lFo => k_is)
    (case cFo_ => k_is)
    (case kFo => k_is)
    (case aLo => k_is)
    (case lLo => k_is)
    (case cLo_ => k_is)
    (case kLo => k_is)
    (case aDi => k_is)
    (case lDi => k_is)
    (case cDi_ => k_is)
    (case kDi => k_is)
    (case aRo => k_is)
    (case lRo => k_is)
    (case cRo_ => k_is)
    (case kRo => k_is)
    (case aPi => k_is)
    (case lPi => k_is)
    (case cPi_ => k_is)
    (case kPi => k_is)
    (case aKs => k_is)
    (case lKs => k_is)
    (case cKs_ => k_is)
    (case kKs => k_is)
    (case aKd => k_is)
    (case lKd => k_is)
    (case cKd_ => k_is)
    (case kKd => k_is)
    (case aMe => k_is)
    (case lMe => k_is)
    (case cMe_ => k_is)
    (case kMe => k_is)
    (case aWr => k_is)
    (case lWr => k_is)
    (case cWr_ => k_is)
    (case kWr => k_is)
    (case aNr => k_is)
    (case lNr => k_is)
    (case cNr_ => k_is)
    (case kNr => k_is)
    (case qNr => k_is)
    (case vNr => rfl)
    (case dNr => kernel_rfl)
    (case nNr => kernel_rfl)
    (case eNr => exact hT8 _ (by simp))
    (case aRg => k_is)
    (case lRg => k_is)
    (case cRg_ => k_is)
    (case kRg => k_is)
    (case qRg => k_is)
    (case vRg => rfl)
    (case dRg => kernel_rfl)
    (case nRg => kernel_rfl)
    (case eRg => exact hT8 _ (by simp))
    (case aLa => k_is)
    (case lLa => k_is)
    (case cLa_ => k_is)
    (case kLa => k_is)
    (case qLa => k_is)
    (case vLa => rfl)
    (case dLa => kernel_rfl)
    (case nLa => kernel_rfl)
    (case eLa => exact hT8 _ (by simp))
    (case aC => k_is)
    (case pgC => k_is)
    (case hdC => k_is)
    (case poC => k_is)
    (case saC => k_is)
    (case mkC => k_is)
    (case kcC => k_is)
    (case haC => k_is)
    (case hmC => k_is)
    (case ciC => k_is)
    (case ctC => k_is)
    (case neC => k_is)
    (case sfC => k_is)
    (case raddC => k_is)
    (case sNoneTypeC => k_is)
    (case sintC => k_is)
    (case sboolC => k_is)
    (case sstrC => k_is)
    (case stupleC => k_is)
    (case slistC => k_is)
    (case sdictC => k_is)
    (case no0C => k_is)
    (case no1C => k_is)
    (case hn => k_is)
    (case htk => k_is)
    (case aI0 => k_is)
    (case lI0 => k_is)
    (case cI0_ => k_is)
    (case kI0 => k_is)
    (case iI0 => k_is)
    (case LI0 => k_is)
    (case mI0 => k_is)
    (case aHo => k_is)
    (case lHo => k_is)
    (case cHo_ => k_is)
    (case kHo => k_is)
    (case iHo => k_is)
    (case jHo => k_is)
    (case aTo => k_is)
    (case lTo => k_is)
    (case cTo_ => k_is)
    (case kTo => k_is)
    (case iTo => k_is)
    (case jTo => k_is)
    (case aPa => k_is)
    (case lPa => k_is)
    (case cPa_ => k_is)
    (case kPa => k_is)
    (case iPa => k_is)
    (case jPa => k_is)
    (case aOv => k_is)
    (case lOv => k_is)
    (case cOv_ => k_is)
    (case kOv => k_is)
    (case iOv => k_is)
    (case jOv => k_is)
    (case aOk => k_is)
    (case lOk => k_is)
    (case cOk_ => k_is)
    (case kOk => k_is)
    (case iOk => k_is)
    (case jOk => k_is)
    (case aIt => k_is)
    (case lIt => k_is)
    (case cIt_ => k_is)
    (case kIt => k_is)
    (case iIt => k_is)
    (case jIt => k_is)
    (case aEq => k_is)
    (case lEq => k_is)
    (case cEq_ => k_is)
    (case kEq => k_is)
    (case iEq => k_is)
    (case jEq => k_is)
    (case aSt => k_is)
    (case lSt => k_is)
    (case cSt_ => k_is)
    (case kSt => k_is)
    (case iSt => k_is)
    (case jSt => k_is)
    (case aPn => k_is)
    (case gPn => k_is)
    (case tPn_ => k_is)
    (case rPn => k_is)
    (case lPn => k_is)
    (case cPn_ => k_is)
    (case kPn => k_is)
    (case aPs => k_is)
    (case gPs => k_is)
    (case tPs_ => k_is)
    (case rPs => k_is)
    (case lPs => k_is)
    (case cPs_ => k_is)
    (case kPs => k_is)
    (case aPr => k_is)
    (case gPr => k_is)
    (case tPr_ => k_is)
    (case rPr => k_is)
    (case lPr => k_is)
    (case cPr_ => k_is)
    (case kPr => k_is)
    (case aPh => k_is)
    (case gPh => k_is)
    (case tPh_ => k_is)
    (case rPh => k_is)
    (case lPh => k_is)
    (case cPh_ => k_is)
    (case kPh => k_is)
    (case aRd => k_is)
    (case rRd => k_is)
    (case lRd => k_is)
    (case cRd_ => k_is)
    (case kRd => k_is)
    (case uRd => k_is)
    (case wRd => first | k_is | kernel_rfl)
    (case gaC => first | k_is | kernel_rfl)
    (case xRd => first | k_is | kernel_rfl)
    (case z_isinstance => k_is)
    (case z_int => k_is)
    (case z_bool => k_is)
    (case z_str => k_is)
    (case z_tuple => k_is)
    (case z_list => k_is)
    (case z_dict => k_is)
    (case z_len => k_is)
    (case z_all => k_is)
    (case z_any => k_is)
    (case z_sum => k_is)
    (case z_iter => k_is)
    (case z_max => k_is)
    (case z_min => k_is)
    (case z_abs => k_is)
    (case z_range => k_is)
    (case z_repr => k_is)
    (case z_sorted => k_is)
    (case z_enumerate => k_is)
    (case z_zip => k_is)
    (case z_ValueError => k_is)
    (case z_IndexError => k_is)
    (case v_BOUND => k_is)
    (case v_MAX_SIZE => k_is)
    (case xCN => k_is)
    (case xLN => k_is)
    (case xsaN => k_is)
    (case xgaN => k_is)
    (case xggN => k_is)
    (case xnbN => k_is)
    (case xaN => k_is)
    (case xtN => k_is)
    (case xlN => k_is)
    (case xcN => k_is)
    (case xkN => k_is)
    (case xeN => k_is)
    (case xTN => k_is)
    (case xhN => k_is)
    (case xiN => k_is)
    (case xsN => k_is)
    (case xCM => k_is)
    (case xLM => k_is)
    (case xsaM => k_is)
    (case xgaM => k_is)
    (case xggM => k_is)
    (case xnbM => k_is)
    (case xaM => k_is)
    (case xtM => k_is)
    (case xlM => k_is)
    (case xcM => k_is)
    (case xkM => k_is)
    (case xeM => k_is)
    (case xTM => k_is)
    (case xhM => k_is)
    (case xiM => k_is)
    (case xsM => k_is)
    (case xCR => k_is)
    (case xLR => k_is)
    (case xsaR => k_is)
    (case xgaR => k_is)
    (case xggR => k_is)
    (case xnbR => k_is)
    (case xaR => k_is)
    (case xtR => k_is)
    (case xlR => k_is)
    (case xcR => k_is)
    (case xkR => k_is)
    (case xeR => k_is)
    (case xTR => k_is)
    (case xhR => k_is)
    (case xiR => k_is)
    (case xsR => k_is)
    (case xCI => k_is)
    (case xkI => k_is)
    (case xeI => k_is)
    (case xTI => k_is)
    (case xiI => k_is)
    (case xsI => k_is)
    (case xqI => first | k_exc | k_is | kernel_rfl)
    (case xCO => k_is)
    (case xkO => k_is)
    (case xeO => k_is)
    (case xTO => k_is)
    (case xiO => k_is)
    (case xsO => k_is)
    (case xqO => first | k_exc | k_is | kernel_rfl)
    (case xCK => k_is)
    (case xiK => k_is)
    (case xTK => k_is)
    (case xgaI => k_is)
    (case xggI => k_is)
    (case xhI => k_is)
    (case xhaI => k_is)
    (case xhmI => k_is)
    (case xhaN => k_is)
    (case xhmN => k_is)
    (case nOI => k_is)
    (case nNI => k_is)
    (case nNO => k_is)
    (case nRI => k_is)
    (case nRO => k_is)
    (case nRN => k_is)
    (case nMI => k_is)
    (case nMO => k_is)
    (case nMN => k_is)
    (case nMR => k_is)
    (case u1 => k_is)
    (case u2 => k_is)
    (case u3 => k_is)
    (case w1 => k_is)
    (case neIK => decide)
    (case neNrRg => decide)
    (case neNrLa => decide)
    (case neRgLa => decide)
