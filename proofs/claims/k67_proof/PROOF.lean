import PyProof.Rows.All
import Wide.All
import OpenK.AllK
import Wide.FinOn
import HandS.ForMost
import HandS.ForExc
import HandS.IsInst
import HandS.IterNext
import HandS.OwnIter
import KE.KOwnIter
import PyProof.Rows.Range3
import PyProof.Conv_bool
import KE.GoesMore
import KE.GoesEnum
import KE.GoesZip
import HandS.Walk
import PyProof.FactsInt
import PyProof.FactsInt2
import PyProof.Rows.FactsB_mul
import HandS.OwnEq
import HandS.SetFor
import HandS.TupLe
import HandS.TupAny
import PyProof.NeKinds
import PyProof.P3Eq
import HandS.TupMul
import KE.KExcInit
import KE.KRevSl
import KE.KDictPairs
import HandS.Style
import HandS.DictComp
import HandS.TryMany
import HandS.Wide
import HandS.Property
import HandS.Lambda
import PySem.Challenge.RW_primekinds_k67_whole_words_and_weights
import HandS.Conv
import HandS.RaiseMore
set_option Elab.async false
set_option linter.all false
set_option maxRecDepth 100000
set_option maxHeartbeats 4000000
/-! Promises of defs that are called where no container is being shown (the guards of the stack are known to be empty): repr of containers needs this. -/
namespace Gd
open PySem PySem.Spec PyProof.Rows L2

/-- no container is being shown -/
abbrev NoG (A : Around) : Prop := A.guards = some []

/-- the promise of a def, kept wherever no container is being shown -/
structure FnG (P : Program) (w : World) (K : PySem.W.Frag) (mg : Str → Option Value) (base : Heap) (CX : CXT) (k : Nat)
    (f : Addr) (fd : FuncData) (ps : List Str) (sp : Sp) : Prop where
  many : ∀ vs H Q E, sp vs H Q E → vs.length = ps.length
  go : ∀ (A : Around) (out : List Env) (s : Shared) (H : Hp) (ar : Args) (us : List Value) (vs : List V) (Q : VK) (E : XK),
    NoG A → Room k A → Env0 P w K mg base A out s H → BindsTo s fd ar (ps.zip us) → Vals vs us → sp vs H Q E →
      codeAny (model P w) A (.call (.ref f) ar) (CR CX out P w H s Q E) s

section
variable {P : Program} {w : World} {K : PySem.W.Frag} {mg : Str → Option Value} {base : Heap} {CX : CXT} {k : Nat}
  {f : Addr} {fd : FuncData} {ps : List Str} {sp : Sp}
theorem FnG.of (F : FnOk P w K mg base CX k f fd ps sp) : FnG P w K mg base CX k f fd ps sp :=
  ⟨F.len, fun A out s H ar us vs Q E _ => F.run A out s H ar us vs Q E⟩

/-- a def by its body, where no container is being shown -/
theorem fnG {x qual : Str} {st : Stmt} {N : List Str} (F : Fun K x qual st f fd) (S : FnScope N ps (defScope st))
    (many : ∀ vs H Q E, sp vs H Q E → vs.length = ps.length)
    (body : ∀ (cdv : Value) (A : Around) (out : List Env) (s : Shared) (H : Hp) (vs : List V) (Q : VK) (E : XK),
      NoG A → Room k (A.deeper (envOfC qual (defScope st) s.heap.objs.size f cdv)) → sp vs H Q E →
      ∃ t, PSs (cxOf CX P w K mg base N qual (defScope st) f cdv A out s H E) (defBody st) t ∧
        t { nx := fun _ H' => Q .non H', rt := Q } (start N vs) H) :
    FnG P w K mg base CX (k + 1) f fd ps sp := by
  obtain ⟨oc, od, kV, doc, pm, an, cdv, ct, osl, rfl, lk, hcd⟩ := F.ex
  refine ⟨many, ?_⟩
  intro A out s H ar us vs Q E hg hr e0 hb r hsp
  have hl := many vs H Q E hsp
  have KX : K.In s.heap := e0.mod.kin.keeps (fun b o e => (e0.bs b o e).1)
  have lim : s.heap.NoLimit := e0.mod.nolimit.keeps (fun b o e => (e0.bs b o e).1)
  have kinds : ∀ y ∈ ps.zip us, (defScope st).names.lookup y.1 = some .local ∨
      ((defScope st).names.lookup y.1 = some .cell ∧ ((cellsFrom (s.heap.objs.size + 1) (defScope st).names []).lookup y.1).isSome = true) := by
    rintro ⟨n, v⟩ hy
    rcases S.par n (List.of_mem_zip hy).1 with q | q
    · exact Or.inl q
    · exact Or.inr ⟨q, PySem.W.cellsFrom_some _ _ _ (Or.inl q)⟩
  refine codeAny_call_function hr.depth (KX _ _ lk) rfl S.co S.gen rfl
    (PySem.W.codeRec_of KX hcd) (hb _ _ _ _ ?_)
  refine wpAny_newFunctionEnv_cells S.kind kinds ?_
  intro env he s1 x
  cases he
  refine ⟨lim.keeps x.toInCall.keep, codeAny_func ?_⟩
  obtain ⟨t, ht, hq⟩ := body cdv A out s H vs Q E hg (hr.deeper _) hsp
  have I := inv_start (CX := CX) (E := E) S hr.hd e0 hl r x
  refine wpAny_mono (ht.run [] s1 (start N vs) H _ I hq) ?_ (fun e s' hs => hs)
  intro fl s' hs
  have fin : ∀ {σ' : L2.St} {H' : Hp} {v : V} {u : Value},
      Inv (cxOf CX P w K mg base N qual (defScope st) f cdv A out s H E) [] σ' H' s' →
      RelV v u → Q v H' → CE out P w H s Q u s' := by
    intro σ' H' v u J rv q
    exact ⟨v, H', J.os, J.bare, J.base, J.hok, rv, q⟩
  cases fl with
  | ret u =>
    obtain ⟨v, σ', H', J, rv, q⟩ := hs
    exact fin J rv q
  | next =>
    obtain ⟨σ', H', J, q⟩ := hs
    exact fin (v := V.non) (u := Value.none) J rfl q
  | brk =>
    obtain ⟨σ', H', J, q⟩ := hs
    exact False.elim q
  | cont =>
    obtain ⟨σ', H', J, q⟩ := hs
    exact False.elim q
end

section
variable {X : Cx} {CX : CXT} {k : Nat} {f C : Addr} {fd : FuncData} {ps : List Str} {sp : Sp} {dvs : List V} {ds : List Value} {E : XK}
  {x : Str} {p pos : Pos} {e : Expr} {es : List Expr} {t : TA}
/-- the call of such a def -/
theorem goG {pins : List (Addr × Obj)} {σ : L2.St} {H : Hp} {s : Shared} {Q : VK} {us : List Value} {vs : List V}
    (hg : NoG X.A) (F : FnG X.prog X.w X.K X.mg X.base CX k f fd ps sp) (hr : Room k X.A) (hb : Binds X.K fd ps ds)
    (hd : Vals dvs ds) (hx : Passes CX X E) (I : Inv X pins σ H s) (r : Vals vs us) (h : sp (vs ++ dvs) H Q E) :
    wpAny (model X.prog X.w) X.A (call (.ref f) us) (EP X pins σ Q) X.xe s := by
  have r2 := Vals.append r hd
  have hl : (us ++ ds).length = ps.length := by
    rw [← r2.length]
    exact F.many _ H Q E h
  have run := F.go X.A X.stack s H ⟨us, []⟩ (us ++ ds) _ Q E hg hr I.env0 (hb s us I.kIn hl) r2 h
  refine wpAny_call (codeAny_mono run ?_)
  intro r s' hq
  match r, hq with
  | .error e, hq => exact hx pins σ H s e s' I hq
  | .ok (.ret u), hq => exact I.after hq
  | .ok .next, hq => exact False.elim hq
  | .ok .brk, hq => exact False.elim hq
  | .ok .cont, hq => exact False.elim hq

theorem pe_callG (hg : NoG X.A) (F : FnG X.prog X.w X.K X.mg X.base CX k f fd ps sp) (hr : Room k X.A) (hgl : Gl X x)
    (hm : X.mg x = some (.ref f)) (hk : PySem.W.keepIn X.K (.ref f) = true) (hb : Binds X.K fd ps ds) (hd : Vals dvs ds)
    (hx : Passes CX X E) (ha : PA X (e :: es) t) (hdb : (x == ("__debug__" : Str)) = false := by decide)
    (he : starEach (e :: es) X.env = (false, eval e X.env) :: starEach es X.env := by rfl)
    (hpl : (backTo pos (starEach es X.env)).any (·.1) = false := by rfl) :
    PE X (.Call (.Name x p) (e :: es) [] pos) (tCall sp dvs E t) := by
  constructor
  intro pins s σ H Q I h
  refine wpAny_Call_Name_kw (ld_glob I hgl hm ?_ hdb)
  have go := thn (ha.run pos pins s σ H _ I h) (fun us s1 ⟨vs, H1, I1, r, q⟩ =>
    (⟨I1.kIn, goG hg F hr hb hd hx I1 r q⟩ : X.K.In s1.heap ∧ wpAny (model X.prog X.w) X.A (call (.ref f) us) (EP X pins σ Q) X.xe s1))
  exact PySem.W.callWith_K (h₀ := X.base) I.ok.mod.kin hk go he hpl
end

section
variable {P : Program} {w : World} {K : PySem.W.Frag} {mg mb : Str → Option Value} {CX : CXT} {k : Nat} {fa a : Addr}
  {fd : FuncData} {x : Str} {sp : Sp} {s₁ : Shared} {vs : List Value} {ns : List Int}
/-- the call of the law, from a heap H of which nothing but the script is tracked -/
theorem coreG (KX : K.In s₁.heap) (hns : s₁.heap.Ns mainGlobals mg) (hb : s₁.heap.Ns builtinsNs mb)
    (hbb : ∀ x : Str, x ≠ "__name__" → mb x = bootBuiltins x) (hlim : s₁.heap.NoLimit) (hg : s₁.gens = #[])
    (ha : s₁.heap.get? a = some { cls := .type "list", data := .seq vs.toArray }) (hr : Room k callerA)
    (F : ∀ base : Heap, K.In base → base.Ns mainGlobals mg → FnG P w K mg base CX k fa fd [x] sp)
    (hbind : ∀ (s : Shared) (u : Value), BindsTo s fd ⟨[u], []⟩ [(x, u)])
    (hCX : ∀ H e s', CX [] H s₁ (fun _ _ _ => False) e s' → False)
    (H : Hp) (hO : Only H) (hsp : sp [.ref a] H (fun v _ => v = .bl true) fun _ _ _ => False)
    (hok : HOk P w H s₁.heap) (hA : ∀ b, H b ≠ none → b = a) (hK : H a ≠ none → K.lookup a = none) :
    codeAny (model P w) callerA (.call (.ref fa) ⟨[.ref a], []⟩)
      (fun r s' => r = .ok (.ret (.bool true)) ∧ OldK s₁.heap s'.heap ∧ s'.os = s₁.os ∧ AllBare s'.gens) s₁ := by
  have at_a : ∀ {b : Addr}, H b ≠ none → b = a := fun {b} z => hA b z
  have keepB : ∀ {b : Addr} {o : Obj}, s₁.heap.get? b = some o → H b = none → (hidT s₁.heap H).get? b = some o := by
    intro b o e n
    exact hidT_get e n
  have noDict : ∀ {b : Addr} {o : Obj} {es : Array DictEntry} {ep : Nat},
      s₁.heap.get? b = some o → o.data = .dict es ep → H b = none := by
    intro b o es ep e d
    cases q : H b with
    | none => rfl
    | some u =>
      obtain rfl : b = a := at_a (by rw [q]; simp)
      rw [ha] at e
      cases e
      cases d
  have nsOf : ∀ {b : Addr} {m : Str → Option Value}, s₁.heap.Ns b m → (hidT s₁.heap H).Ns b m := by
    rintro b m ⟨o, es, ep, e, d, r⟩
    exact ⟨o, es, ep, keepB e (noDict e d), d, r⟩
  have inB : K.In (hidT s₁.heap H) := by
    intro b o e
    refine keepB (KX b o e) ?_
    cases q : H b with
    | none => rfl
    | some u =>
      obtain rfl : b = a := at_a (by rw [q]; simp)
      rw [hK (by rw [q]; simp)] at e
      cases e
  obtain ⟨mc, l1, l2⟩ := hlim
  have hM : Mod K mg (hidT s₁.heap H) := ⟨inB, nsOf hns, ⟨mb, nsOf hb, hbb⟩, ⟨mc, nsOf l1, l2⟩⟩
  have e0 : Env0 P w K mg (hidT s₁.heap H) callerA [] s₁ H := by
    refine ⟨rfl, hM, ?_, Nat.le_of_eq (hidT_size _ _), trivial, ?_, hok, .of_eq hg⟩
    · intro b o e
      exact of_hidT e
    · intro b z
      exact absurd (show b ∈ ([] : List Addr) from z) (by simp)
  have run := (F _ inB (nsOf hns)).go callerA [] s₁ H ⟨[.ref a], []⟩ [.ref a] [.ref a] _ _ rfl hr e0 (hbind s₁ (.ref a)) (.cons rfl .nil) hsp
  refine codeAny_mono run ?_
  intro r s' h
  match r, h with
  | .error e, h => exact (hCX H e s' h).elim
  | .ok .next, h => exact False.elim h
  | .ok .brk, h => exact False.elim h
  | .ok .cont, h => exact False.elim h
  | .ok (.ret u), h =>
    obtain ⟨v, H', os, bare, un, hok', rv, q⟩ := h
    obtain rfl : v = .bl true := q
    obtain rfl : u = Value.bool true := rv
    refine ⟨rfl, OldK.of_keep ?_, os, bare⟩
    intro b o e
    cases q : H b with
    | none => exact un.keep b o e q (fun z => absurd (show b ∈ ([] : List Addr) from z) (by simp)) (by simp)
    | some u =>
      rcases hO b with z | ⟨ob, xs, z⟩
      · rw [q] at z
        cases z
      · obtain ⟨e1, _⟩ := hok b _ z
        obtain ⟨e2, _⟩ := hok' b _ (un.frzs b ob _ z)
        rw [e] at e1
        cases e1
        exact e2

theorem law_callG (KX : K.In s₁.heap) (hns : s₁.heap.Ns mainGlobals mg) (hb : s₁.heap.Ns builtinsNs mb)
    (hbb : ∀ x : Str, x ≠ "__name__" → mb x = bootBuiltins x) (hlim : s₁.heap.NoLimit) (hg : s₁.gens = #[])
    (ha : s₁.heap.get? a = some { cls := .type "list", data := .seq vs.toArray }) (hi : IntsAre vs ns) (hl : ns.length ≤ sizeLine)
    (hr : Room k callerA) (F : ∀ base : Heap, K.In base → base.Ns mainGlobals mg → FnG P w K mg base CX k fa fd [x] sp)
    (hbind : ∀ (s : Shared) (u : Value), BindsTo s fd ⟨[u], []⟩ [(x, u)])
    (hsp : ∀ H : Hp, Only H → SqL K H a (ns.map V.int) → sp [.ref a] H (fun v _ => v = .bl true) fun _ _ _ => False)
    (hCX : ∀ H e s', CX [] H s₁ (fun _ _ _ => False) e s' → False) :
    codeAny (model P w) callerA (.call (.ref fa) ⟨[.ref a], []⟩)
      (fun r s' => r = .ok (.ret (.bool true)) ∧ OldK s₁.heap s'.heap ∧ s'.os = s₁.os ∧ AllBare s'.gens) s₁ := by
  have rv := vals_ints hi
  have lenV := hi.length
  cases hk : K.lookup a with
  | some o =>
    have e := KX a o hk
    rw [ha] at e
    cases e
    have none' : ∀ b : Addr, (fun _ : Addr => (none : Option HO)) b = none := fun _ => rfl
    refine coreG KX hns hb hbb hlim hg ha hr F hbind hCX (fun _ => none) (fun _ => .inl rfl) (hsp _ (fun _ => .inl rfl) ?_) ?_ (fun b z => absurd (none' b) z) (fun z => absurd (none' a) z)
    · exact .inr ⟨_, vs.toArray, _, hk, rfl, rfl, rfl, by rw [List.size_toArray, lenV]; exact hl, by simpa using rv⟩
    · intro b u z
      cases z
  | none =>
    have hpos : ∀ b, (fun b => if b = a then some (HO.frz { cls := .type "list", data := .seq vs.toArray } (.lst (ns.map V.int))) else none) b ≠ none → b = a := by
      intro b z
      by_cases q : b = a
      · exact q
      · exact absurd (if_neg q) z
    have hO : Only (fun b => if b = a then some (HO.frz { cls := .type "list", data := .seq vs.toArray } (.lst (ns.map V.int))) else none) := by
      intro b
      by_cases q : b = a
      · exact .inr ⟨_, _, if_pos q⟩
      · exact .inl (if_neg q)
    refine coreG KX hns hb hbb hlim hg ha hr F hbind hCX _ hO (hsp _ hO ?_) ?_ hpos (fun _ => hk)
    · exact .inl (.inr ⟨{ cls := .type "list", data := .seq vs.toArray }, if_pos rfl⟩)
    · intro b u z
      have q : b = a := hpos b (by rw [z]; simp)
      subst q
      have z' := (if_pos rfl).symm.trans z
      cases z'
      exact ⟨ha, by rw [List.length_map]; exact hl, vs, _, rv, ha⟩
end

/-- the end of a law -/
theorem walkG {l : PySem.W.OpenLaw} {n k : Nat} {q : Program} {loose : List Str} {XP : (Str → Option Value) → Heap → Prop} {YP : World → Heap → Prop} {d : DefRec} {K : Params → PySem.W.Frag} {CX : World → CXT} {sp : World → Sp} {x : Str}
    (hn : l.most = some n) (hn2 : n ≤ sizeLine) (hdf : d.params.defaults = []) (hr : Room k callerA)
    (hY : ∀ (w : World) (h : Heap), YP w h → (K w.params).In h)
    (F : ∀ (w : World) (mg : Str → Option Value) (fa : Addr) (h : Heap), (K w.params).In h → h.Ns mainGlobals mg → mg d.name = some (.ref fa) →
      ∃ fd : FuncData, (∀ (s : Shared) (u : Value), BindsTo s fd ⟨[u], []⟩ [(x, u)]) ∧
        ∀ base : Heap, (K w.params).In base → base.Ns mainGlobals mg → FnG l.prog w (K w.params) mg base (CX w) k fa fd [x] (sp w))
    (hsp : ∀ (w : World) (H : Hp) (a : Addr) (ns : List Int), ns.length ≤ n → Only H → SqL (K w.params) H a (ns.map V.int) → sp w [.ref a] H (fun v _ => v = .bl true) fun _ _ _ => False)
    (hCX : ∀ (w : World) (H : Hp) (s : Shared) (e : Value) (s' : Shared), CX w [] H s (fun _ _ _ => False) e s' → False) :
    PySem.W.WalkO q loose XP YP l.row.toRowW d [] (fun f vs => PySem.call f vs) := by
  refine Att.attach_call hn hdf ?_
  intro w s₀ s₁ mg mb fa o pm cd doc a vs ns G Y ho hd hcd hmg hobj hints hlen hg
  obtain ⟨fd, hb, hF⟩ := F w mg fa _ (hY w _ Y) G.T.g hmg
  exact law_callG (hY w _ Y) G.T.g G.T.b G.T.builtins G.T.nolimit hg hobj hints (Nat.le_trans hlen hn2) hr hF hb (fun H hO hS => hsp w H a ns hlen hO hS) fun H e s' => hCX w H s₁ e s'
end Gd

set_option Elab.async false
set_option linter.all false
set_option maxRecDepth 100000
set_option maxHeartbeats 4000000
/-! Operators of own classes, and repr of data, as rules of the hand layer. -/
namespace Gd
open PySem PySem.Spec PyProof.Rows L2

/-! ### repr of data -/
def rRepr (K : PySem.W.Frag) : List V → Hp → VK → Prop := fun xs H Q =>
  ∃ a d, xs = [.ref a] ∧ Dp K H (.ref a) d ∧ d.showable = true ∧ d.hasDict = false ∧ d.depth ≤ 60 ∧ d.shown.length ≤ sizeLine ∧ Q (.str d.shown) H
theorem call_repr {X : Cx} (hg : NoG X.A) (hu : X.A.units + 64 < cLine) : CallR X (.builtin "repr") (rRepr X.K) := by
  intro pins s σ H xs us Q I r h
  obtain ⟨a, d, rfl, hd, h1, h2, h3, h4, q⟩ := h
  obtain ⟨u, rfl, hu1⟩ := vals1 r
  cases hu1
  obtain ⟨as, rd⟩ := Dp.reads I d (.ref a) (.ref a) hd rfl
  refine repr_of_reads' rd h1 (PyData.noDict_hsm h2) hg (by omega) (fun _ _ e => e) ?_ h4
  intro h' u tk hk
  exact ⟨.str d.shown, H, I.kept hk, ⟨u, rfl⟩, q⟩

section
variable {X : Cx} {CX : CXT} {k : Nat} {f C : Addr} {fd : FuncData} {ps : List Str} {sp : Sp} {dvs : List V} {ds : List Value}
  {pos : Pos} {a b : Expr} {ta tb : TE}

/-- the callee runs, from the body or from a builtin that the body calls -/
theorem runAt {E : XK} {A : Around} (hA : A = X.A ∨ A = X.A.in1) {pins : List (Addr × Obj)} {σ : L2.St} {H : Hp} {s : Shared} {Q : VK} {us : List Value} {vs : List V}
    (F : FnOk X.prog X.w X.K X.mg X.base CX k f fd ps sp) (hr : Room (k + 1) X.A) (hb : Binds X.K fd ps ds) (hd : Vals dvs ds)
    (hx : PassesAt CX X σ E) (I : Inv X pins σ H s) (r : Vals vs us) (h : sp (vs ++ dvs) H Q E) :
    wpAny (model X.prog X.w) A (call (.ref f) us) (EP X pins σ Q) X.xe s := by
  have r2 := Vals.append r hd
  have hl : (us ++ ds).length = ps.length := by
    rw [← r2.length]
    exact F.len _ H Q E h
  have room : Room k A := by
    rcases hA with rfl | rfl
    · exact hr.mono (Nat.le_succ _)
    · exact hr.in1
  have env : Env0 X.prog X.w X.K X.mg X.base A X.stack s H := by
    rcases hA with rfl | rfl
    · exact I.env0
    · exact I.env0.in1
  refine wpAny_call (codeAny_mono (F.run A X.stack s H ⟨us, []⟩ (us ++ ds) _ Q E room env (hb s us I.kIn hl) r2 h) ?_)
  intro r s' hq
  match r, hq with
  | .error e, hq => exact hx pins H s e s' I hq
  | .ok (.ret u), hq => exact I.after hq
  | .ok .next, hq => exact False.elim hq
  | .ok .brk, hq => exact False.elim hq
  | .ok .cont, hq => exact False.elim hq
theorem quiet0 {σ : L2.St} {E : XK} : PassesAt CX0 X σ E := fun _ _ _ _ _ _ h => h.elim

/-- the instance at a, as the library sees it -/
theorem seen {pins : List (Addr × Obj)} {σ : L2.St} {H : Hp} {s : Shared} {p dx : Addr} {fs : List (Str × V)} (I : Inv X pins σ H s)
    (e : H p = some (.ins C dx fs)) : ∃ od, PySem.W.InstAt s.heap p (PySem.W.instObj C dx) C (some od) := by
  obtain ⟨mA, J, _⟩ := ins_get I.hok e
  obtain ⟨od, J, _⟩ := J.look
  exact ⟨od, J⟩

/-! ### comparisons -/
/-- x OP y by the own method of x's class, whose answer is a truth value -/
def rCmpO (K : PySem.W.Frag) (C : Addr) (sp : Sp) (E : XK) : R2 := fun x y H Q => ∃ p dx fs t, x = .ref p ∧ H p = some (.ins C dx fs) ∧
  TyX K H y t ∧ PySem.W.notFirst K C t = true ∧ sp [x, y] H (fun v H' => (∃ c, v = .bl c) ∧ Q v H') E
theorem cmpO {op : CmpOp} {E : XK} (hm : Meth X.K C (cmpInfo op).2.1 f) (F : FnOk X.prog X.w X.K X.mg X.base CX k f fd ps sp) (hr : Room (k + 1) X.A)
    (hb : Binds X.K fd ps []) (hx : ∀ σ, PassesAt CX X σ E)
    {pins : List (Addr × Obj)} {s : Shared} {σ : L2.St} {H : Hp} {x y : V} {v u : Value} {Q : VK} (I : Inv X pins σ H s) (rx : RelV x v) (ry : RelV y u)
    (h : rCmpO X.K C sp E x y H Q) : wpAny (model X.prog X.w) X.A (richCompare op v u) (EP X pins σ Q) X.xe s := by
  obtain ⟨p, dx, fs, t, rfl, ep, ty, hn, hsp⟩ := h
  cases rx
  obtain ⟨od, J⟩ := seen I ep
  obtain ⟨P, Z, hP, _⟩ := kit_of I ry ty
  obtain ⟨m, hF⟩ := I.fr
  refine PySem.W.cmp_K (op := op) (tb := t) hr.units0 hF I.ok.mod.kin J (Z.ty _ _ I.kIn hP) hn hm.at_ hm.fn ?_
  refine wpAny_mono (runAt (.inl rfl) F hr hb .nil (hx σ) I (.cons (show RelV (V.ref p) (Value.ref p) from rfl) (.cons ry .nil)) hsp) ?_ (fun _ _ z => z)
  rintro w s' ⟨z, H', I', rz, ⟨c, rfl⟩, q⟩
  cases rz
  exact ⟨.bl c, H', I', rfl, q⟩
theorem op_eqO {E : XK} (hm : Meth X.K C "__eq__" f) (F : FnOk X.prog X.w X.K X.mg X.base CX k f fd ps sp) (hr : Room (k + 1) X.A)
    (hb : Binds X.K fd ps []) (hx : ∀ σ, PassesAt CX X σ E) : OpR X (compareOp .Eq) (rCmpO X.K C sp E) := by
  intro pins s σ H x y v u Q I rx ry h
  exact cmpO (op := .Eq) hm F hr hb hx I rx ry h
theorem op_ltO {E : XK} (hm : Meth X.K C "__lt__" f) (F : FnOk X.prog X.w X.K X.mg X.base CX k f fd ps sp) (hr : Room (k + 1) X.A)
    (hb : Binds X.K fd ps []) (hx : ∀ σ, PassesAt CX X σ E) : OpR X (compareOp .Lt) (rCmpO X.K C sp E) := by
  intro pins s σ H x y v u Q I rx ry h
  exact cmpO (op := .Lt) hm F hr hb hx I rx ry h

/-! ### len, truth, items -/
def rLenO (C : Addr) (sp : Sp) (E : XK) : List V → Hp → VK → Prop := fun xs H Q => ∃ p dx fs, xs = [.ref p] ∧ H p = some (.ins C dx fs) ∧
  sp [.ref p] H (fun v H' => ∃ n : Int, v = .int n ∧ 0 ≤ n ∧ n < 2 ^ 63 ∧ Q (.int n) H') E
theorem call_lenO {E : XK} (hm : Meth X.K C "__len__" f) (F : FnOk X.prog X.w X.K X.mg X.base CX k f fd ps sp) (hr : Room (k + 1) X.A)
    (hb : Binds X.K fd ps []) (hx : ∀ σ, PassesAt CX X σ E) : CallR X (.builtin "len") (rLenO C sp E) := by
  intro pins s σ H xs us Q I r h
  obtain ⟨p, dx, fs, rfl, ep, hsp⟩ := h
  obtain ⟨u, rfl, hu1⟩ := vals1 r
  cases hu1
  obtain ⟨od, J⟩ := seen I ep
  obtain ⟨m, hF⟩ := I.fr
  refine PySem.W.len_K hF I.ok.mod.kin J hm.at_ hm.fn ?_
  refine wpAny_mono (runAt (.inr rfl) F hr hb .nil (hx σ) I (.cons (show RelV (V.ref p) (Value.ref p) from rfl) .nil) hsp) ?_ (fun _ _ z => z)
  rintro w s' ⟨z, H', I', rz, n, rfl, h0, h1, q⟩
  obtain ⟨t, rfl⟩ := rz
  exact ⟨⟨h0, h1⟩, .int n, H', I'.tok _, ⟨_, rfl⟩, q⟩
def rTruO (C : Addr) (sp : Sp) (E : XK) : V → Hp → (Bool → Hp → Prop) → Prop := fun x H Q => ∃ p dx fs, x = .ref p ∧ H p = some (.ins C dx fs) ∧
  sp [.ref p] H (fun v H' => ∃ c, v = .bl c ∧ Q c H') E
theorem tru_O {E : XK} (hm : Meth X.K C "__bool__" f) (F : FnOk X.prog X.w X.K X.mg X.base CX k f fd ps sp) (hr : Room (k + 1) X.A)
    (hb : Binds X.K fd ps []) (hx : ∀ σ, PassesAt CX X σ E) : TruR X (rTruO C sp E) := by
  intro pins s σ H x v Q I rx h
  obtain ⟨p, dx, fs, rfl, ep, hsp⟩ := h
  cases rx
  obtain ⟨od, J⟩ := seen I ep
  obtain ⟨m, hF⟩ := I.fr
  refine PySem.W.truthy_K hF I.ok.mod.kin J hm.at_ hm.fn ?_
  refine wpAny_mono (runAt (.inl rfl) F hr hb .nil (hx σ) I (.cons (show RelV (V.ref p) (Value.ref p) from rfl) .nil) hsp) ?_ (fun _ _ z => z)
  rintro w s' ⟨z, H', I', rz, c, rfl, q⟩
  cases rz
  exact ⟨H', I', q⟩
/-- o[i] by the own method, which may raise -/
def tIxO (C : Addr) (sp : Sp) (E : L2.St → XK) (ta tb : TE) : TE := fun σ H Q => ta σ H fun x H1 => tb σ H1 fun y H2 =>
  ∃ p dx fs, x = .ref p ∧ H2 p = some (.ins C dx fs) ∧ sp [x, y] H2 Q (E σ)
theorem pe_ixO {E : L2.St → XK} (hm : Meth X.K C "__getitem__" f) (hfn : PySem.W.fnIn X.K f = true) (F : FnOk X.prog X.w X.K X.mg X.base CX k f fd ps sp)
    (hr : Room (k + 1) X.A) (hb : Binds X.K fd ps []) (hx : ∀ σ, PassesAt CX X σ (E σ)) (ha : PE X a ta) (hb' : PE X b tb)
    (hs : ∀ v u : Value, subscripted b true v u = runValue (.builtin "lifetime.subscript" ⟨[v, u], []⟩) := by intro _ _; with_unfolding_all rfl) :
    PE X (.Subscript a b pos) (tIxO C sp E ta tb) := by
  refine ⟨fun pins s σ H Q I h => ?_⟩
  refine Subscript_ (binT ha hb' I h fun v u s2 x y H2 I2 rx ry q => ?_)
  obtain ⟨p, dx, fs, rfl, ep, hsp⟩ := q
  cases rx
  obtain ⟨od, J⟩ := seen I2 ep
  obtain ⟨m, hF⟩ := I2.fr
  refine PySem.W.sub_K hF I2.ok.mod.kin J hm.at_ hfn hm.fn ?_ (hs _ _)
  exact runAt (.inr rfl) F hr hb .nil (hx σ) I2 (.cons (show RelV (V.ref p) (Value.ref p) from rfl) (.cons ry .nil)) hsp
end
end Gd

set_option Elab.async false
set_option linter.all false
set_option maxRecDepth 100000
set_option maxHeartbeats 4000000
/-! iter(a tuple), and list(o) of an own class that hands on such an iterator and has a length. -/
namespace PySem
section
variable {prog : Program} {w : World} {A : Around} {E : Value → Shared → Prop} {s : Shared}
/-- the end of a tuple's iterator, which stays an object -/
theorem tuple_next_end {it t : Addr} {i : Nat} {items : Array Value} {Q : Option Value → Shared → Prop} (hh : A.handled = none)
    (hit : s.heap.IsTupleIter it t i) (ht : s.heap.IsTuple t items) (hx : items[i]? = none)
    (hQ : ∀ h', (∀ b o, b ≠ it → s.heap.get? b = some o → h'.get? b = some o) → (∃ o, h'.get? it = some o) → Q none { s with heap := h' }) :
    wpAny (model prog w) A (pyNext (.ref it)) Q E s := by
  obtain ⟨o, ho, hc, hd⟩ := id hit
  obtain ⟨ol, hol, _, nl, hdl⟩ := ht
  have self := Heap.get?_update_self (Obj.mapFields (·.setIfInBounds 0 Value.none)) ho (Obj.isFreed_of_fields (Obj.data_mapFields hd _))
  unfold pyNext
  refine wpAny_bind (wpAny_attempt (wpAny_callSpecial?_slot (name := Str.ofString "__next__") hit.typeIs F.slot_tuple_iterator_next (wpAny_call_entry
    F.slot_tuple_iterator_next hit.typeIs F.entry_tuple_iterator_next ?_ (F.args_tuple_iterator_next_1 _))))
  show wpAny _ _ (field (.ref it) 0 >>= _) _ _ s
  refine wpAny_bind (wpAny_field ho hd (x := .ref t) rfl ?_)
  have nn : ¬ ((Value.ref t == Value.none) = true) := Bool.false_ne_true
  show wpAny _ _ (if (Value.ref t == Value.none) = true then _ else _) _ _ s
  rw [if_neg nn]
  show wpAny _ _ (field (.ref it) 1 >>= _) _ _ s
  refine wpAny_bind (wpAny_field ho hd (x := .int i 0) rfl ?_)
  show wpAny _ _ (seqItems? (.ref t) >>= _) _ _ s
  refine wpAny_bind (wpAny_seqItems hol hdl ?_)
  simp only [Int.toNat_natCast, hx]
  refine wpAny_bind (wpAny_rule (wpAny_bind (wpAny_setField ho hd (by simp) ?_)))
  show wpAny _ _ (newExc (.type "StopIteration") [] >>= _) _ _ _
  refine wpAny_bind ?_
  simp only [newExc, newTuple]
  refine wpAny_bind (wpAny_newObj_type ?_ (by size_fits))
  refine wpAny_bind (m := firstArgMember _ _) (wpAny_of_eq (a := Value.none) (by first | rfl | (simp only [firstArgMember]; rfl)) ?_)
  refine wpAny_newObj_type ?_ (by size_fits)
  simp only [raiseNew]
  refine wpAny_bind (wpAny_handled ?_)
  first | rw [show A.in1.handled = none from hh] | rw [hh]
  refine wpAny_bind (wpAny_pure (wpAny_throw ?_))
  refine wpAny_bind (wpAny_isInstance (T := "StopIteration") (b := true) ⟨_, Heap.get?_push_size _ rfl, rfl⟩ isSubtype_stop ?_)
  refine wpAny_pure (hQ _ (fun b o hb e => ?_) ⟨_, Heap.get?_push_of_some _ (Heap.get?_push_of_some _ self)⟩)
  exact Heap.get?_push_of_some _ (Heap.get?_push_of_some _ ((Heap.get?_update_other _ _ (Ne.symm hb)).trans e))
end
end PySem

namespace Gd
open PySem PySem.Spec PyProof.Rows L2
/-- at it: an iterator over the tuple at t, behind i items; | whatever it is -/
def TitO (t it : Addr) (i : Nat) : HO := .ext fun h => h.IsTupleIter it t i
def OddO (it : Addr) : HO := .ext fun h => ∃ o, h.get? it = some o
section
variable {P : Program} {w : World} {H : Hp} {h : Heap} {t it : Addr} {i : Nat}
theorem tit_ok (e : h.IsTupleIter it t i) : ObjOk P w H h it (TitO t it i) := by
  obtain ⟨o, ho, r⟩ := e
  exact ⟨⟨o, ho, r⟩, ⟨o, ho⟩, fun h1 h2 ⟨o', q, r'⟩ k => ⟨o', k _ q, r'⟩⟩
theorem odd_ok (e : ∃ o, h.get? it = some o) : ObjOk P w H h it (OddO it) := ⟨e, e, fun h1 h2 ⟨o', q⟩ k => ⟨o', k _ q⟩⟩
end
section
variable {X : Cx} {pins : List (Addr × Obj)} {σ : L2.St} {H : Hp} {s : Shared} {t it q a : Addr} {i : Nat} {ys : List V}
/-- iter(t), t a tuple -/
def rIterT (K : PySem.W.Frag) : List V → Hp → VK → Prop := fun xs H Q => ∃ (t : Addr) (ys : List V), xs = [.ref t] ∧ SqT K H t ys ∧ ∀ it, H it = none → Q (.ref it) (upd H it (TitO t it 0))
theorem isTuple_of {h : Heap} {a : Addr} {items : Array Value} (x : IsTup h a items) : h.IsTuple a items := by
  obtain ⟨o, h1, h2, h3⟩ := x
  exact ⟨o, h1, h2, by first | exact h3 | exact h3.2⟩
theorem call_iterT : CallR X (.builtin "iter") (rIterT X.K) := by
  intro pins s σ H xs us Q I r h
  obtain ⟨t, ys, rfl, hq, q⟩ := h
  obtain rfl := Vals.ref1 r
  obtain ⟨its, rv, pl, hz⟩ := I.tuple hq
  refine Calls.call_function_entry (by decide +kernel) (by decide +kernel) PySem.W.kdk_entry_iter (PySem.W.kdk_args_iter _) ?_
  unfold Builtin.«iter»
  refine wpAny_bind (m := someArgs "iter" 1 2 _) (wpAny_of_eq (a := [Value.ref t]) (by first | rfl | kernel_rfl!) ?_)
  show wpAny _ _ (pyIter (.ref t) >>= _) _ _ _
  refine wpAny_bind (wpAny_pyIter_tuple (isTuple_of pl) ?_)
  refine wpAny_pure ⟨_, rfl, ?_⟩
  have nw : H s.heap.objs.size = none := I.hok.fresh (Nat.le_refl _)
  refine ⟨.ref s.heap.objs.size, _, I.laid (t' := s.toks) (fun b u e => Heap.get?_push_of_some _ e) (Nat.le_refl _) (tit_ok ⟨_, Heap.get?_push_size _ rfl, rfl, rfl⟩), rfl, q _ nw⟩

theorem take_one {α : Type} : ∀ {l : List α} {i : Nat} (h : i < l.length), l.take (i + 1) = l.take i ++ [l[i]]
  | a :: l, 0, _ => rfl
  | a :: l, i + 1, h => by
    have h' : i < l.length := Nat.lt_of_succ_lt_succ h
    have ih := take_one (l := l) (i := i) h'
    show a :: l.take (i + 1) = (a :: l.take i) ++ [l[i]'h']
    rw [ih]
    rfl
/-- what is known stays known, but for the iterator and the list -/
def But (q it : Addr) (H H' : Hp) : Prop := ∀ b o, b ≠ q → b ≠ it → H b = some o → H' b = some o
theorem drain {A1 : Around} {Rs : Result → Shared → Prop} (hh : A1.in1.handled = none) (hqi : q ≠ it) (hqt : q ≠ t) (hti : t ≠ it) (H0 : Hp)
    (hys : ys.length < sizeLine) (ht0 : SqT X.K H0 t ys)
    (hdone : ∀ H' s', Inv X pins σ H' s' → But q it H0 H' → H' q = some (.lst ys) → H' it = some (OddO it) → Rs (.ok (.ret .none)) s') :
    ∀ (m i : Nat) (H : Hp) (s : Shared), m + i = ys.length → Inv X pins σ H s → But q it H0 H → H it = some (TitO t it i) → H q = some (.lst (ys.take i)) →
      codeAny (model X.prog X.w) A1 (.builtin "list.extend.loop" ⟨[.ref q, .ref it, .none], []⟩) Rs s := by
  intro m
  induction m with
  | zero =>
    intro i H s hi I hB hit hq
    have ht : SqT X.K H t ys := by
      rcases ht0 with (z | ⟨o, z⟩) | z
      · exact .inl (.inl (hB _ _ hqt.symm hti z))
      · exact .inl (.inr ⟨o, hB _ _ hqt.symm hti z⟩)
      · exact .inr z
    obtain ⟨its, rv, pl, hz⟩ := I.tuple ht
    refine codeAny_builtin PySem.F.entry_extend_loop ?_
    rw [Around.under_plainId PySem.F.plain_extend_loop _]
    show wpAny _ A1.in1 (pyNext (.ref it) >>= _) _ _ s
    have hx : its.toArray[i]? = none := by
      have e := rv.length
      rw [List.getElem?_toArray, List.getElem?_eq_none_iff]
      omega
    have T : s.heap.IsTupleIter it t i := (I.hok it _ hit).1
    refine wpAny_bind (PySem.tuple_next_end (items := its.toArray) hh T (isTuple_of pl) hx ?_)
    intro h' keep ex
    have J : Inv X pins σ (upd H it (OddO it)) { s with heap := h' } := by
      refine I.write (t' := s.toks) (x := it) (e := it) (by rw [hit]; exact True.intro) (.inl rfl) (fun b u hb hu => keep b u hb hu) ex (odd_ok ex)
    refine wpAny_pure (hdone _ _ J ?_ ?_ upd_same)
    · intro b o h1 h2 e
      rw [upd_ne h2]
      exact hB b o h1 h2 e
    · rw [upd_ne hqi, hq, List.take_of_length_le (by omega)]
  | succ m ih =>
    intro i H s hi I hB hit hq
    have ht : SqT X.K H t ys := by
      rcases ht0 with (z | ⟨o, z⟩) | z
      · exact .inl (.inl (hB _ _ hqt.symm hti z))
      · exact .inl (.inr ⟨o, hB _ _ hqt.symm hti z⟩)
      · exact .inr z
    obtain ⟨its, rv, pl, hz⟩ := I.tuple ht
    have hlt : i < ys.length := by omega
    obtain ⟨u, hu, ru⟩ := rv.get (List.getElem?_eq_getElem hlt)
    refine codeAny_builtin PySem.F.entry_extend_loop ?_
    rw [Around.under_plainId PySem.F.plain_extend_loop _]
    show wpAny _ A1.in1 (pyNext (.ref it) >>= _) _ _ s
    have T : s.heap.IsTupleIter it t i := (I.hok it _ hit).1
    refine wpAny_bind (wpAny_pyNext_tuple_item (items := its.toArray) T (isTuple_of pl) (by rw [List.getElem?_toArray]; exact hu) ?_)
    intro h' T' same
    have ex : ∃ o, h'.get? it = some o := by
      obtain ⟨o, ho, _⟩ := T'
      exact ⟨o, ho⟩
    have J : Inv X pins σ (upd H it (TitO t it (i + 1))) { s with heap := h' } :=
      I.write (t' := s.toks) (x := it) (e := it) (by rw [hit]; exact True.intro) (.inl rfl) (fun b u hb hu => (same.2 b hb).trans hu) ex (tit_ok T')
    have hq' : upd H it (TitO t it (i + 1)) q = some (.lst (ys.take i)) := by rw [upd_ne hqi]; exact hq
    obtain ⟨z, its2, n2, r2, hl2, e2⟩ := J.lstM hq'
    have l2 : its2.length ≤ i := by rw [← hl2, List.length_take]; omega
    show wpAny _ A1.in1 (updateSeq q (·.push u) >>= _) _ _ _
    refine wpAny_bind (wpAny_updateSeq e2 rfl (wpAny_pure ⟨plainId_quiet PySem.F.plain_extend_loop _, ?_⟩) (by rw [List.size_toArray]; omega) (by show (its2.toArray.push u).size ≤ sizeLine + 1; rw [Array.size_push, List.size_toArray]; omega))
    have tk : ys.take (i + 1) = ys.take i ++ [ys[i]] := take_one hlt
    have J2 := J.lset (f := (·.push u)) (its' := its2 ++ [u]) (ys := ys.take i ++ [ys[i]]) (t' := s.toks) hq' e2 (List.push_toArray its2 u) (r2.append (.cons ru .nil)) (by rw [List.length_append, List.length_singleton, List.length_take]; omega)
    refine ih (i + 1) _ _ (by omega) J2 ?_ ?_ (by rw [tk, upd_same])
    · intro b o h1 h2 e
      rw [upd_ne h1, upd_ne h2]
      exact hB b o h1 h2 e
    · rw [upd_ne hqi.symm, upd_same]

/-- the list's room is made -/
theorem touched {q : Addr} {A : Around} {R : Unit → Shared → Prop} {E : Value → Shared → Prop} (I : Inv X pins σ H s) (hq : H q = some (.lst []))
    (h : ∀ s', Inv X pins σ H s' → R () s') : wpAny (model X.prog X.w) A (Builtin.List.listTouch (.ref q)) R E s := by
  obtain ⟨z, its, k, r3, hl3, e3⟩ := I.lstM hq
  cases r3
  show wpAny _ _ (updateSeq q (·.push .none) >>= fun _ => updateSeq q (·.pop)) _ _ _
  refine wpAny_bind (wpAny_updateSeq e3 rfl ?_)
  have I2 := I.lset (f := (·.push Value.none)) (its' := [Value.none]) (ys := [.non]) (t' := s.toks) hq e3 (by simp) (.cons rfl .nil) (by rw [List.length_singleton, sizeLine_eq]; decide)
  obtain ⟨z4, its4, k4, r4, hl4, e4⟩ := I2.lstM upd_same
  obtain ⟨u4, rfl, ru4⟩ := r4.one
  refine wpAny_updateSeq e4 rfl ?_ (by show 1 ≤ sizeLine; rw [sizeLine_eq]; decide) (by show 0 ≤ sizeLine + 1; exact Nat.zero_le _)
  have I3 := I2.lset (f := (·.pop)) (its := [u4]) (its' := []) (ys := []) (t' := s.toks) upd_same e4 (by rfl) .nil (Nat.zero_le _)
  rw [upd_upd] at I3
  have hH : upd H q (.lst []) = H := by
    funext b
    by_cases hb : b = q
    · rw [hb, upd_same, hq]
    · rw [upd_ne hb]
  rw [hH] at I3
  exact h _ I3

/-- a class whose instances hand on a tuple's iterator, and have a length -/
structure ItT (K : PySem.W.Frag) (C fi fl : Addr) : Prop where
  it : Meth K C "__iter__" fi
  ln : Meth K C "__len__" fl
/-- what its __iter__ promises: an iterator of the tuple that R tells; what its __len__ promises -/
def spIt (K : PySem.W.Frag) (R : Addr → Addr → List V → Hp → Prop) : Sp := fun vs H Q _ => ∃ a t ys, vs = [.ref a] ∧ R a t ys H ∧ SqT K H t ys ∧ ∀ it, H it = none → Q (.ref it) (upd H it (TitO t it 0))
def spLn (R : Addr → Addr → List V → Hp → Prop) : Sp := fun vs H Q _ => ∃ a t ys, vs = [.ref a] ∧ R a t ys H ∧ Q (.int (ys.length : Int)) H
/-- list(o) -/
def rListO (K : PySem.W.Frag) (C : Addr) (R : Addr → Addr → List V → Hp → Prop) : List V → Hp → VK → Prop := fun xs H Q =>
  ∃ a dx fs t ys, xs = [.ref a] ∧ H a = some (.ins C dx fs) ∧ (∀ H', (∀ b o, H b = some o → H' b = some o) → R a t ys H') ∧ SqT K H t ys ∧ ys.length < sizeLine ∧
    ∀ q H', (∀ b o, H b = some o → H' b = some o) → H q = none → H' q = some (.lst ys) → Q (.ref q) H'
theorem call_listO {C fi fl : Addr} {k : Nat} {fdI fdL : FuncData} {psI psL : List Str} {R : Addr → Addr → List V → Hp → Prop} (hc : ItT X.K C fi fl)
    (FI : FnOk X.prog X.w X.K X.mg X.base CX0 k fi fdI psI (spIt X.K R)) (bI : Binds X.K fdI psI []) (FL : FnOk X.prog X.w X.K X.mg X.base CX0 k fl fdL psL (spLn R)) (bL : Binds X.K fdL psL [])
    (hr : Room (k + 5) X.A) : CallR X (.type "list") (rListO X.K C R) := by
  intro pins s σ H xs us Q I rv h
  obtain ⟨a, dx, fs, t, ys, rfl, ha, hR, ht, hlen, hq⟩ := h
  obtain ⟨u, rfl, ru⟩ := rv.one
  cases ru
  have rm2 : Room (k + 3) X.A.in1.in1 := (hr.in1).in1
  have sb : Sub X (k + 3) X.A.in1.in1 := Sub.in1 (Sub.in1 (⟨hr, rfl⟩ : Sub X (k + 5) X.A))
  refine callType_codes (Q₁ := fun obj s₁ => obj = .ref s.heap.objs.size ∧ s₁ = { s with heap := s.heap.push { cls := .type "list", data := .seq #[] } }) PySem.F.called_list (PySem.F.typeCall_list_1 _) PySem.F.entry_list_init
    (code_list_new _ ⟨rfl, rfl⟩) ?_
  intro obj s₁ h₁
  obtain ⟨rfl, rfl⟩ := h₁
  have hS : (s.heap.push { cls := .type "list", data := .seq #[] }).get? s.heap.objs.size = some { cls := .type "list", data := .seq #[] } := Heap.get?_push_size _ rfl
  refine ⟨⟨_, hS, rfl⟩, PySem.F.args_list_init_2 _ _, ?_⟩
  have fr : H s.heap.objs.size = none := I.hok.fresh (Nat.le_refl _)
  have I1 : Inv X pins σ (upd H s.heap.objs.size (.lst [])) { s with heap := s.heap.push { cls := .type "list", data := .seq #[] } } := I.lnew (its := []) (t' := s.toks) .nil (Nat.zero_le _)
  generalize hqq : s.heap.objs.size = q at *
  show wpAny _ _ (do let old ← Builtin.List.listItems (.ref q); Builtin.List.listUpdate (.ref q) (fun _ => #[]); letGo old.toList.reverse; Builtin.List.listExtendWith (.ref q) (.ref a) .none) _ _ _
  refine wpAny_bind ?_
  unfold Builtin.List.listItems
  refine wpAny_bind (wpAny_seqItems hS rfl (wpAny_pure ?_))
  show wpAny _ _ (updateSeq q (fun _ => #[]) >>= fun _ => letGo (#[] : Array Value).toList.reverse >>= fun _ => Builtin.List.listExtendWith (.ref q) (.ref a) .none) _ _ _
  refine wpAny_bind (wpAny_updateSeq hS rfl ?_)
  have I2 := I1.lset (f := fun _ => #[]) (its := []) (its' := []) (ys := []) (t' := s.toks) upd_same hS rfl .nil (Nat.zero_le _)
  rw [upd_upd] at I2
  refine wpAny_bind (wpAny_letGo ?_)
  have H2ext : ∀ b o, H b = some o → upd H q (.lst []) b = some o := fun b o e => by
    rw [upd_ne (ne_of_none e fr)]
    exact e
  have ha2 := H2ext _ _ ha
  have hq2 : upd H q (.lst []) q = some (.lst []) := upd_same
  have ht2 : SqT X.K (upd H q (.lst [])) t ys := ht.ext H2ext
  generalize hH2 : upd H q (.lst []) = H2 at *
  have hne : q ≠ a := ne_of hq2 ha2 (fun z => nomatch z)
  obtain ⟨od, J⟩ := seen I2 ha2
  obtain ⟨m0, hF⟩ := I2.fr
  unfold Builtin.List.listExtendWith
  refine wpAny_bind (J.type.here ?_)
  have h1 : Builtin.List.listSameRef (.ref q) (.ref a) = false := by simp [Builtin.List.listSameRef, hne]
  have h2 : (Value.ref C == Value.type "list") = false := rfl
  have h3 : (Value.ref C == Value.type "tuple") = false := rfl
  simp only [h1, h2, h3, Bool.or_false, Bool.false_eq_true, if_false]
  refine wpAny_bind (PySem.W.owit_iter hF I2.ok.mod.kin J hc.it.at_ hc.it.fn ?_)
  have e0 : Env0 X.prog X.w X.K X.mg X.base X.A.in1.in1 X.stack _ H2 := I2.env0.in1.in1
  have room : Room k X.A.in1.in1 := rm2.mono (by omega)
  have hspI : spIt X.K R [.ref a] H2 (fun v H' => ∃ it, v = .ref it ∧ H2 it = none ∧ H' = upd H2 it (TitO t it 0)) E0 := ⟨a, t, ys, rfl, hR _ H2ext, ht2, fun it n => ⟨it, rfl, n, rfl⟩⟩
  have hl := FI.len _ _ _ _ hspI
  have r2 : Vals [V.ref a] [Value.ref a] := .cons rfl .nil
  refine wpAny_call (codeAny_mono (FI.run X.A.in1.in1 X.stack _ H2 ⟨[.ref a], []⟩ [.ref a] [.ref a] _ E0 room e0 (by
    have := bI _ [.ref a] I2.kIn (by simpa using hl)
    simpa using this) r2 hspI) ?_)
  intro r s' hq'
  match r, hq' with
  | .error e, hq' => exact hq'.elim
  | .ok .next, hq' => exact False.elim hq'
  | .ok .brk, hq' => exact False.elim hq'
  | .ok .cont, hq' => exact False.elim hq'
  | .ok (.ret u), hq' =>
    obtain ⟨v, H3, I3, rv3, it, rfl, itn, rfl⟩ := I2.after hq'
    cases rv3
    have hit : upd H2 it (TitO t it 0) it = some (TitO t it 0) := upd_same
    have T : s'.heap.IsTupleIter it t 0 := (I3.hok it _ hit).1
    have E3 : ∀ b o, H b = some o → upd H2 it (TitO t it 0) b = some o := fun b o e => by
      rw [upd_ne (ne_of_none (H2ext _ _ e) itn)]
      exact H2ext _ _ e
    have ha3 := E3 _ _ ha
    have hqi : q ≠ it := ne_of_none hq2 itn
    have hq3 : upd H2 it (TitO t it 0) q = some (.lst []) := by
      rw [upd_ne hqi]
      exact hq2
    have ht3 : SqT X.K (upd H2 it (TitO t it 0)) t ys := ht.ext E3
    have hqt : q ≠ t := by
      intro z
      subst z
      rcases ht with (z | ⟨o, z⟩) | ⟨o, its, n, z, hcls, _⟩
      · rw [fr] at z
        cases z
      · rw [fr] at z
        cases z
      · obtain ⟨_, its2, n2, _, _, e2⟩ := I2.lstM hq2
        have e3 := I2.kIn _ _ z
        rw [e2] at e3
        cases (Option.some.inj e3)
        exact absurd (Value.type.inj hcls) (by decide)
    have hti : t ≠ it := by
      intro z
      subst z
      rcases ht2 with (z | ⟨o, z⟩) | ⟨o, its, n, z, hcls, _⟩
      · rw [itn] at z
        cases z
      · rw [itn] at z
        cases z
      · obtain ⟨o2, e2, c2, _⟩ := T
        have e3 := I3.kIn _ _ z
        rw [e2] at e3
        cases (Option.some.inj e3)
        rw [c2] at hcls
        exact absurd (Value.type.inj hcls) (by decide)
    refine wpAny_specialOf (Heap.IsTupleIter.typeIs T) PySem.F.slot_tuple_iterator_next.lookup ?_
    have loop : ∀ s4, Inv X pins σ (upd H2 it (TitO t it 0)) s4 → codeAny (model X.prog X.w) X.A.in1 (.builtin "list.extend.loop" ⟨[.ref q, .ref it, .none], []⟩)
        (wants (fun r s₂ => r = Value.none ∧ EP X pins σ Q (Value.ref q) s₂) X.xe) s4 := by
      intro s4 I4
      refine drain (A1 := X.A.in1) rm2.hd hqi hqt hti (upd H2 it (TitO t it 0)) hlen ht3 ?_ ys.length 0 _ s4 rfl I4 (fun b o _ _ e => e) hit (by rw [List.take_zero]; exact hq3)
      intro H' s5 I5 hB5 hq5 _
      refine ⟨rfl, .ref q, H', I5, rfl, hq q H' ?_ fr hq5⟩
      intro b o e
      have nq : b ≠ q := ne_of_none e fr
      have ni : b ≠ it := ne_of_none (H2ext _ _ e) itn
      exact hB5 b o nq ni (E3 _ _ e)
    have fin : ∀ s4, Inv X pins σ (upd H2 it (TitO t it 0)) s4 → wpAny (model X.prog X.w) X.A.in1.in1 (again (.builtin "list.extend.loop" ⟨[.ref q, .ref it, .none], []⟩))
        (fun fin s' => match fin with | .done f => wants (fun r s₂ => r = Value.none ∧ EP X pins σ Q (Value.ref q) s₂) X.xe (.ok f) s' | .again c' => c'.quiet = true ∧ codeAny (model X.prog X.w) X.A.in1 c' (wants (fun r s₂ => r = Value.none ∧ EP X pins σ Q (Value.ref q) s₂) X.xe) s')
        (fun e s' => wants (fun r s₂ => r = Value.none ∧ EP X pins σ Q (Value.ref q) s₂) X.xe (.error e) s') s4 := by
      intro s4 I4
      exact wpAny_pure ⟨plainId_quiet PySem.F.plain_extend_loop _, loop s4 I4⟩
    refine wpAny_bind (wpAny_holding ?_)
    obtain ⟨od3, J3⟩ := seen I3 ha3
    obtain ⟨m3, hF3⟩ := I3.fr
    unfold Builtin.List.listLengthHint
    refine wpAny_bind (wpAny_bind (J3.type.here ((PySem.W.looks_findIn I3.kIn hc.ln.at_).here ?_)))
    refine PySem.W.KFB.if_not rfl ?_
    refine PySem.W.KFB.if_so rfl ?_
    refine wpAny_bind (wpAny_rule ?_)
    refine wpAny_bind (m := (call (.builtin "len") [Value.ref a]).attempt) (wpAny_attempt ?_)
    refine PySem.W.len_K hF3 I3.ok.mod.kin J3 hc.ln.at_ hc.ln.fn ?_
    have hspL : spLn R [.ref a] (upd H2 it (TitO t it 0)) (fun v H' => v = .int (ys.length : Int) ∧ H' = upd H2 it (TitO t it 0)) E0 := ⟨a, t, ys, rfl, hR _ E3, rfl, rfl⟩
    have hlL := FL.len _ _ _ _ hspL
    refine wpAny_call (codeAny_mono (FL.run X.A.in1.in1.in1 X.stack _ _ ⟨[.ref a], []⟩ [.ref a] [.ref a] _ E0 (rm2.in1.mono (by omega)) I3.env0.in1.in1.in1 (by
      have := bL _ [.ref a] I3.kIn (by simpa using hlL)
      simpa using this) r2 hspL) ?_)
    intro r4 s4 hq4
    match r4, hq4 with
    | .error e, hq4 => exact hq4.elim
    | .ok .next, hq4 => exact False.elim hq4
    | .ok .brk, hq4 => exact False.elim hq4
    | .ok .cont, hq4 => exact False.elim hq4
    | .ok (.ret u4), hq4 =>
      obtain ⟨v4, H4, I4, rv4, rfl, rfl⟩ := I3.after hq4
      obtain ⟨tk4, rfl⟩ := rv4
      have l63 := line63
      refine ⟨⟨Int.natCast_nonneg _, by omega⟩, ?_⟩
      show wpAny _ _ (asInt? (Value.int (ys.length : Int) s4.toks) >>= _) _ _ _
      refine wpAny_bind (wpAny_pure ?_)
      show wpAny _ _ (if Builtin.List.listTooLong (ys.length : Int).toNat = true then _ else _) _ _ _
      rw [if_neg (by rw [Int.toNat_natCast, notLongL (Nat.le_of_lt hlen)]; exact Bool.false_ne_true)]
      refine wpAny_pure ?_
      have I5 := I4.tok (s4.toks + 1)
      refine wpAny_ite_split (fun _ => ?_) (fun _ => fin _ I5)
      exact wpAny_bind (wpAny_rule (wpAny_bind (touched I5 hq3 fin)))
end
end Gd

set_option Elab.async false
set_option linter.all false
set_option maxRecDepth 100000
set_option maxHeartbeats 4000000
/-! bool(o) and != of own classes. -/
namespace PySem
section
variable {prog : Program} {w : World} {A : Around} {E : Value → Shared → Prop} {s : Shared}
theorem bool_new_any (x : Value) : MeetsIn prog w (Builtin.«bool.__new__» ⟨[.type "bool", x], []⟩) (fun A R s =>
    wpAny (model prog w) A.in1 (truthy x) (fun b s' => R (.ok (.ret (.bool b))) s') (fun e s' => R (.error e) s') s) := by
  intro A R s h
  have f1 := F.conv_sub_bool
  unfold Builtin.«bool.__new__»
  refine wpAny_bind (wpAny_of_eq (a := true) (by first | rfl | kernel_rfl) ?_)
  refine PySem.W.KFB.if_not rfl ?_
  refine wpAny_bind (wpAny_of_eq f1 ?_)
  refine PySem.W.KFB.if_not rfl ?_
  refine wpAny_bind (m := someArgs "bool" 0 1 _) (wpAny_of_eq (a := [x]) (by first | rfl | kernel_rfl!) ?_)
  refine wpAny_bind (wpAny_mono h (fun b s' q => ?_) fun _ _ z => z)
  exact wpAny_pure q
theorem call_bool_any {x : Value} {Q : Value → Shared → Prop}
    (h : wpAny (model prog w) A.in1.in1 (truthy x) (fun b s' => Q (.bool b) s') E s) : wpAny (model prog w) A (call (.type "bool") [x]) Q E s := by
  refine callType_newIn F.called_bool F.newNe_bool (F.typeCall_bool_1 x) (F.newCall_bool_1 x) (fun obj => F.args_object_init_2 obj x) F.entry_bool_new (bool_new_any x) ?_
  exact wpAny_mono h (fun b s' q => ⟨rfl, q⟩) fun _ _ z => z
end
end PySem

namespace HN2
open PySem PySem.Spec PyProof.Rows PySem.SeqAt
section
variable {prog : Program} {w : World} {A : Around} {E : Value → Shared → Prop} {s : Shared} {K : PySem.W.Frag} {x C f : Addr} {ox : Obj} {od : Option Obj} {y : Value}
theorem ne_entry (hu : A.units < cLine) (X : K.In s.heap) (I : PySem.W.InstAt s.heap x ox C od) (hs : PySem.W.findIn K (.ref C) "__eq__" = some (some (.ref f))) (hf : PySem.W.isFn K (.ref f) = true) {Q : Fin → Shared → Prop}
    (h : wpAny (model prog w) A (call (.ref f) [.ref x, y]) (fun v s' => ∃ b, v = .bool b ∧ Q (.done (.ret (.bool (!b)))) s') E s) :
    wpAny (model prog w) A (Builtin.«object.__ne__» ⟨[.ref x, y], []⟩) Q E s := by
  unfold Builtin.«object.__ne__»
  refine wpAny_bind (m := slotArgs "__ne__" 1 _) (wpAny_of_eq (a := (Value.ref x, [y])) (by first | rfl | kernel_rfl!) ?_)
  refine wpAny_bind (wpAny_cRoomFor hu ?_)
  refine wpAny_bind (m := callSpecialIfBound? (.ref x) (Str.ofString "__eq__") [y]) (PySem.W.ifBound_K X I hs hf (wpAny_mono h (fun v s' z => ?_) fun _ _ z => z))
  obtain ⟨b, rfl, q⟩ := z
  exact wpAny_bind (wpAny_truthy_bool (wpAny_pure q))
theorem ifBound_ne {M : Model} {args : List Value} {Q : Option Value → Shared → Prop} (X : K.In s.heap) (I : PySem.W.InstAt s.heap x ox C od) (hs : PySem.W.findIn K (.ref C) "__ne__" = some (some (.builtin "object.__ne__")))
    (h : wpAny M A (call (.builtin "object.__ne__") (.ref x :: args)) (fun v => Q (some v)) E s) : wpAny M A (callSpecialIfBound? (.ref x) "__ne__" args) Q E s := by
  simp only [callSpecialIfBound?, bindSpecialIfBound?]
  refine wpAny_holding (wpAny_bind (wpAny_bind (wpAny_bind (I.type.here ((PySem.W.looks_findIn X hs).here ?_)))))
  refine wpAny_bind (wpAny_askSetting (wpAny_ite ?_))
  have last : wpAny M A (call (.builtin "object.__ne__") ([.ref x] ++ args) >>= fun v => pure (some v)) Q E s :=
    wpAny_bind (wpAny_mono h (fun v s' h' => wpAny_pure h') fun _ _ h' => h')
  split
  · exact wpAny_bind (wpAny_of_eq (F.cmp_object.ne.bind _) (wpAny_pure (by exact last)))
  · exact wpAny_tryCatch (wpAny_bind (wpAny_of_eq (F.cmp_object.ne.bind _) (wpAny_pure (by exact last))))
theorem rich_ne {tb : Value} {Q : Value → Shared → Prop} (hu : A.units + 1 < cLine) (X : K.In s.heap) (I : PySem.W.InstAt s.heap x ox C od) (hb : PySem.W.Looks (model prog w) s.heap (typeOf y) tb)
    (hn : PySem.W.notFirst K C tb = true) (hne : PySem.W.findIn K (.ref C) "__ne__" = some (some (.builtin "object.__ne__"))) (ho : PySem.W.mroIn K C (.type "object") = some true)
    (hs : PySem.W.findIn K (.ref C) "__eq__" = some (some (.ref f))) (hf : PySem.W.isFn K (.ref f) = true)
    (h : wpAny (model prog w) A.in1 (call (.ref f) [.ref x, y]) (fun v s' => ∃ b, v = .bool b ∧ Q (.bool (!b)) s') E s) :
    wpAny (model prog w) A (richCompare .NotEq (.ref x) y) Q E s := by
  have one : wpAny (model prog w) A (tryCompare (.ref x) "__ne__" y) (fun r s' => ∃ v, r = some v ∧ Q v s') E s := by
    unfold tryCompare
    refine wpAny_bind (ifBound_ne X I hne (wpAny_call (codeAny_call_builtin F.cmp_object.ne.plain F.cmpEntry_ne (PySem.W.check_slot F.cmpKind_ne F.cmpSplit_ne (I.type.andThen (PySem.W.looks_mroIn X ho)) (F.cmpArgs_ne _ _)
      (ne_entry (A := A.in1) (by show A.units + 1 < cLine; exact hu) X I hs hf (wpAny_mono h (fun v s' z => ?_) fun _ _ z => z))))))
    obtain ⟨b, rfl, q⟩ := z
    exact ⟨b, rfl, wpAny_pure ⟨_, rfl, q⟩⟩
  unfold richCompare
  simp only [oneThing_ref]
  refine wpAny_holding (wpAny_bind (wpAny_cRoomFor (Nat.lt_of_succ_lt hu) ?_))
  rw [cmpInfo_NotEq]
  dsimp only
  refine wpAny_bind (I.type.here (wpAny_bind (hb.here ?_)))
  split
  · rename_i q
    have e : PySem.W.subIn K tb (.ref C) = some false := by
      rcases Bool.or_eq_true_iff.mp hn with e | e
      · rw [beq_iff_eq.mp e] at q
        simp at q
      · exact beq_iff_eq.mp e
    refine wpAny_bind ((PySem.W.looks_subIn X e).here ?_)
    simp only [Bool.false_eq_true, if_false]
    refine wpAny_bind (m := tryCompare (.ref x) _ y) (wpAny_mono one (fun r s' z => ?_) fun _ _ e => e)
    obtain ⟨v, rfl, hq⟩ := z
    exact wpAny_pure hq
  · refine wpAny_bind (wpAny_pure ?_)
    simp only [Bool.false_eq_true, if_false]
    refine wpAny_bind (m := tryCompare (.ref x) _ y) (wpAny_mono one (fun r s' z => ?_) fun _ _ e => e)
    obtain ⟨v, rfl, hq⟩ := z
    exact wpAny_pure hq
end
end HN2

namespace Gd
open PySem PySem.Spec PyProof.Rows L2
section
variable {X : Cx} {CX : CXT} {k : Nat} {f C : Addr} {fd : FuncData} {ps : List Str} {sp : Sp}
/-- what != of a class with an own == asks of the class -/
structure NeC (K : PySem.W.Frag) (C : Addr) : Prop where
  ne : PySem.W.findIn K (.ref C) "__ne__" = some (some (.builtin "object.__ne__"))
  ob : PySem.W.mroIn K C (.type "object") = some true
def rNeO (K : PySem.W.Frag) (C : Addr) (sp : Sp) (E : XK) : R2 := fun x y H Q => ∃ p dx fs t, x = .ref p ∧ H p = some (.ins C dx fs) ∧
  TyX K H y t ∧ PySem.W.notFirst K C t = true ∧ sp [x, y] H (fun v H' => ∃ c, v = .bl c ∧ Q (.bl (!c)) H') E
theorem op_neO {E : XK} (hn : NeC X.K C) (hm : Meth X.K C "__eq__" f) (F : FnOk X.prog X.w X.K X.mg X.base CX k f fd ps sp) (hr : Room (k + 1) X.A)
    (hb : Binds X.K fd ps []) (hx : ∀ σ, PassesAt CX X σ E) : OpR X (compareOp .NotEq) (rNeO X.K C sp E) := by
  intro pins s σ H x y v u Q I rx ry h
  obtain ⟨p, dx, fs, t, rfl, ep, ty, hnf, hsp⟩ := h
  cases rx
  obtain ⟨od, J⟩ := seen I ep
  obtain ⟨P, Z, hP, _⟩ := kit_of I ry ty
  show wpAny _ _ (richCompare .NotEq _ _) _ _ _
  refine HN2.rich_ne (hu_of hr) I.kIn J (Z.ty _ _ I.kIn hP) hnf hn.ne hn.ob hm.at_ hm.fn ?_
  refine wpAny_mono (runAt (.inr rfl) F hr hb .nil (hx σ) I (.cons (show RelV (V.ref p) (Value.ref p) from rfl) (.cons ry .nil)) hsp) ?_ (fun _ _ z => z)
  rintro w s' ⟨z, H', I', rz, c, rfl, q⟩
  cases rz
  exact ⟨c, rfl, .bl (!c), H', I', rfl, q⟩
/-- bool(o) -/
def rBoolO (C : Addr) (sp : Sp) (E : XK) : List V → Hp → VK → Prop := fun xs H Q => ∃ p dx fs, xs = [.ref p] ∧ H p = some (.ins C dx fs) ∧
  sp [.ref p] H (fun v H' => ∃ c, v = .bl c ∧ Q (.bl c) H') E
theorem call_boolO {E : XK} (hm : Meth X.K C "__bool__" f) (F : FnOk X.prog X.w X.K X.mg X.base CX k f fd ps sp) (hr : Room (k + 2) X.A)
    (hb : Binds X.K fd ps []) (hx : ∀ σ, PassesAt CX X σ E) : CallR X (.type "bool") (rBoolO C sp E) := by
  intro pins s σ H xs us Q I r h
  obtain ⟨p, dx, fs, rfl, ep, hsp⟩ := h
  obtain ⟨u, rfl, hu1⟩ := vals1 r
  cases hu1
  obtain ⟨od, J⟩ := seen I ep
  obtain ⟨m, hF⟩ := I.fr
  refine call_bool_any (PySem.W.truthy_K hF I.ok.mod.kin J hm.at_ hm.fn ?_)
  have hl := F.len _ _ _ _ hsp
  refine wpAny_call (codeAny_mono (F.run X.A.in1.in1 X.stack s H ⟨[.ref p], []⟩ [.ref p] [.ref p] _ E hr.in1.in1 I.env0.in1.in1 (by
    have := hb s [.ref p] I.kIn (by simpa using hl)
    simpa using this) (.cons (show RelV (V.ref p) (Value.ref p) from rfl) .nil) hsp) ?_)
  intro r s' hq
  match r, hq with
  | .error e, hq => exact hx σ pins H s e s' I hq
  | .ok .next, hq => exact False.elim hq
  | .ok .brk, hq => exact False.elim hq
  | .ok .cont, hq => exact False.elim hq
  | .ok (.ret u), hq =>
    obtain ⟨v, H', I', rv, c, rfl, q⟩ := I.after hq
    cases rv
    exact ⟨.bl c, H', I', rfl, q⟩
end
end Gd

set_option Elab.async false
set_option linter.all false
set_option maxRecDepth 100000
set_option maxHeartbeats 4000000
/-! enumerate(a tuple). -/
namespace HN4
open PySem PySem.Spec PyProof.Rows PySem.SeqAt
theorem meets_enum1 {v : Value} {o : Obj} {G : Heap → Prop} (B : Begins v o G) : Meets (Builtin.«enumerate.__new__» ⟨[.type "enumerate", v], []⟩) (fun _ R s => G s.heap ∧
    R (.ok (.ret (.ref (s.heap.push o).objs.size))) { s with heap := (s.heap.push o).push { cls := .type "enumerate", data := .fields #[.none, .bool false, .ref s.heap.objs.size, rawInt 0, .none, .none] } }) := by
  refine .of_wp fun prog w A R ⟨hp, g, d, tk, os⟩ hh => ?_
  obtain ⟨h1, h⟩ := hh
  have sb := sub_enumerate
  have it : ∀ {A' : Around} {E : Value → Shared → Prop} {Q : Value → Shared → Prop}, Q (.ref hp.objs.size) ⟨hp.push o, g, d, tk, os⟩ → wpAny (model prog w) A' (pyIter v) Q E ⟨hp, g, d, tk, os⟩ := fun q => B.iter prog w _ _ ⟨hp, g, d, tk, os⟩ _ h1 q
  wp_walk using it
  refine wpAny_stack_any fun st => wpAny_pure ?_
  split
  · rename_i c _ _ _ _ _
    cases (c == Value.type "enumerate") <;> (wp_walk using it; exact ⟨_, rfl, h⟩)
  · wp_walk using it
    exact ⟨_, rfl, h⟩
theorem begins_tup (t : Addr) (items : Array Value) : Begins (.ref t) { cls := .type "tuple_iterator", data := .fields #[.ref t, .int 0 0] } (fun h => h.IsTuple t items) where
  iter := fun prog w A E s Q ht hq => wpAny_pyIter_tuple ht hq
  keeps := fun h h' ht k => ht.at fun o e => k _ _ e
  free := rfl
section
variable {prog : Program} {w : World} {A : Around} {E : Value → Shared → Prop} {s : Shared}
theorem call_enumT {t : Addr} {items : Array Value} {Q : Value → Shared → Prop} (ht : s.heap.IsTuple t items)
    (h : ∀ h', IsEnum h' (s.heap.objs.size + 1) s.heap.objs.size 0 .none → h'.IsTupleIter s.heap.objs.size t 0 → (∀ b o, s.heap.get? b = some o → h'.get? b = some o) → Q (.ref (s.heap.objs.size + 1)) { s with heap := h' }) :
    wpAny (model prog w) A (call (.type "enumerate") [.ref t]) Q E s := by
  let o1 : Obj := { cls := .type "tuple_iterator", data := .fields #[.ref t, .int 0 0] }
  let o2 : Obj := { cls := .type "enumerate", data := .fields #[.none, .bool false, .ref s.heap.objs.size, rawInt 0, .none, .none] }
  have e1 : (s.heap.push o1).objs.size = s.heap.objs.size + 1 := Heap.size_push ..
  have e2 : ((s.heap.push o1).push o2).get? (s.heap.objs.size + 1) = some o2 := by
    have q := Heap.get?_push_size (s.heap.push o1) (o := o2) rfl
    rw [e1] at q
    exact q
  refine callType_new F.called_enumerate (by decide) (F.typeCall_enumerate_1 _) (F.newCall_enumerate_1 _) (fun obj => F.args_object_init_2 obj _) F.entry_enumerate_new (meets_enum1 (begins_tup t items)) ⟨ht, ?_⟩
  show _ ∧ _
  rw [e1]
  exact ⟨⟨_, e2, rfl⟩, h _ e2 ⟨_, Heap.get?_push_of_some _ (Heap.get?_push_size _ rfl), rfl, rfl⟩ fun b ob x => Heap.get?_push_of_some _ (Heap.get?_push_of_some _ x)⟩
end
end HN4
namespace Gd
open PySem PySem.Spec PyProof.Rows L2
/-- a tuple walked with its places: at each turn a new pair -/
def IteT (K : PySem.W.Frag) (t : Addr) : It where
  go := fun i H => ∃ (xs : List V) (x : V), SqT K H t xs ∧ xs[i]? = some x
  yld := fun i H v H' => ∃ T x, v = .ref T ∧ H T = none ∧ H' = upd H T (.tup [.int (i : Nat), x]) ∧ ∀ xs, SqT K H t xs → xs[i]? = some x
  stop := fun i H => ∃ xs : List V, SqT K H t xs ∧ xs.length = i
theorem tit_apart {h : Heap} {t it : Addr} {i : Nat} {items : Array Value} (a : h.IsTupleIter it t i) (b : h.IsTuple t items) : t ≠ it := by
  intro z
  subst z
  obtain ⟨o1, g1, c1, _⟩ := a
  obtain ⟨o2, g2, c2, _⟩ := b
  rw [g1] at g2
  cases g2
  rw [c1] at c2
  exact absurd c2 (by decide)
theorem enum_apart {h : Heap} {e it t : Addr} {k : Int} {old : Value} {items : Array Value} (a : IsEnum h e it k old) (b : h.IsTuple t items) : e ≠ t := by
  intro z
  subst z
  obtain ⟨o2, g2, c2, _⟩ := b
  have g1 : h.get? e = some _ := a
  rw [g1] at g2
  cases g2
  exact absurd c2 (by simp)
theorem turn_enumT {P : Program} {w : World} {K : PySem.W.Frag} {elts : List Expr} {kk : Nat} {tpos : Pos} (t e it : Addr) :
    Turn P w K (.Tuple elts kk tpos) (IteT K t) [e, it] e (fun i h => (∃ old, IsEnum h e it ((i : Nat) : Int) old) ∧ h.IsTupleIter it t i ∧ e ≠ it) where
  mem := List.mem_cons_self
  obj := by
    rintro i h ⟨⟨old, he⟩, ⟨o, ho, hc, hd⟩, _⟩ b hb
    rcases List.mem_cons.mp hb with rfl | hb
    · exact ⟨_, he, fun v q => nomatch q⟩
    · rw [List.mem_singleton.mp hb]
      refine ⟨o, ho, fun v q => ?_⟩
      rw [hd] at q
      cases q
  keep := by
    rintro i h h' ⟨⟨old, he⟩, hi, ne⟩ k
    exact ⟨⟨old, k e List.mem_cons_self _ he⟩, hi.at fun o q => k it (List.mem_cons_of_mem _ List.mem_cons_self) o q, ne⟩
  item := by
    intro X hP hw hK hc i pins s σ H E I hf st hg
    subst hP hw hK
    obtain ⟨⟨old, he⟩, hit, ne⟩ := st
    obtain ⟨xs, x, hq, hx⟩ := hg
    obtain ⟨its, rv, p, hz⟩ := I.tuple hq
    have pt := isTuple_of p
    obtain ⟨u, hu, ru⟩ := rv.get hx
    have a1 := tit_apart hit pt
    have a2 := enum_apart he pt
    have le : e < s.heap.objs.size := Heap.lt_size he
    have li : it < s.heap.objs.size := by
      obtain ⟨_, q, _⟩ := hit
      exact Heap.lt_size q
    have hlt : i < its.toArray.size := by
      rcases Nat.lt_or_ge i its.toArray.size with z | z
      · exact z
      · rw [List.getElem?_eq_none_iff.mpr (by simpa using z)] at hu
        cases hu
    refine wpAny_pyNext_enum_itemD (Draws.tuple (show X.A.in1.handled = none from I.ok.hd hc) it t a1 its.toArray) he ⟨hit, pt⟩ hlt ne (by simp [ne, a2]) fun y h1 tk hy ho st1 hT hsz hk => ?_
    obtain rfl : y = u := by
      rw [List.getElem?_toArray, hu] at hy
      exact (Option.some.inj hy).symm
    refine ⟨_, rfl, wpAny_letOwnedTupleGo_enum (s := { s with heap := h1, toks := tk + 1 }) ho fun h2 he2 sb => ?_⟩
    have hT2 : h2.get? s.heap.objs.size = some { cls := .type "tuple", data := .seq #[.int i tk, y] } := (sb.2 _ (Nat.ne_of_gt le)).trans hT
    have new : ObjOk X.prog X.w (upd H s.heap.objs.size (.tup [.int (i : Nat), x])) h2 s.heap.objs.size (.tup [.int (i : Nat), x]) :=
      ⟨by show 2 ≤ sizeLine; decide, [.int i tk, y], .cons ⟨_, rfl⟩ (.cons ru .nil), ⟨_, hT2, rfl, _, rfl⟩⟩
    have I1 : Inv X pins σ (upd H s.heap.objs.size (.tup [.int (i : Nat), x])) { s with heap := h2, toks := tk + 1 } :=
      I.turnedNew (ch := [e, it]) (fun b ob hb q => (sb.2 b (fun z => hb (by simp [z]))).trans (hk b ob (fun z => hb (by simp [z])) (fun z => hb (by simp [z])) q)) hf (Nat.le_refl _) new
    refine ⟨.ref s.heap.objs.size, _, I1, rfl, ⟨_, x, rfl, I.hok.fresh (Nat.le_refl _), rfl, fun ys hy => ?_⟩, ⟨⟨y, ?_⟩, st1.1.at fun o q => (sb.2 it (Ne.symm ne)).trans q, ne⟩, fun b hb => ?_⟩
    · rw [I.tuple_inj hy hq]
      exact hx
    · rw [show ((i + 1 : Nat) : Int) = (i : Int) + 1 by omega]
      exact he2
    · have lb : b < s.heap.objs.size := by
        rcases List.mem_cons.mp hb with rfl | hb
        · exact le
        · rw [List.mem_singleton.mp hb]
          exact li
      rw [upd_ne (Nat.ne_of_lt lb)]
      exact (hf b hb).1
  done := by
    intro X hP hw hK hc i pins s σ H E I hf st hg
    subst hP hw hK
    obtain ⟨⟨old, he⟩, hit, ne⟩ := st
    obtain ⟨xs, hq, hx⟩ := hg
    obtain ⟨its, rv, p, hz⟩ := I.tuple hq
    have pt := isTuple_of p
    obtain ⟨f0, f1, f2, f3, f4, f5⟩ := hf it (by simp)
    have n : i = its.toArray.size := by
      rw [List.size_toArray, ← rv.length]
      exact hx.symm
    subst n
    exact wpAny_pyNext_enum_endD (Draws.tuple (show X.A.in1.handled = none from I.ok.hd hc) it t (tit_apart hit pt) its.toArray) he ⟨hit, pt⟩ fun h1 eb => ⟨rfl, I.turned (t' := s.toks) (fun b o hb q => eb b o hb q) f0 f1 f3 f4 f5⟩
  self := fun A i s Q E st h => let ⟨⟨_, he⟩, _⟩ := st; wpAny_pyIter_enum he h
theorem call_of_enum {X : Cx} {elts : List Expr} {kk : Nat} {tpos : Pos} {pins : List (Addr × Obj)} {σ : L2.St} {H : Hp} {s : Shared} {R : It → Hp → Prop} {t : Addr} {items : Array Value} (I : Inv X pins σ H s) (pl : IsTup s.heap t items) (q : R (IteT X.K t) H) :
    wpAny (model X.prog X.w) X.A (call (.type "enumerate") [.ref t]) (fun v s2 => wpAny (model X.prog X.w) X.A (pyIter v) (PIE X pins σ (.Tuple elts kk tpos) R) X.xe s2) X.xe s := by
  refine HN4.call_enumT (isTuple_of pl) fun h1 he hit hk => wpAny_pyIter_enum he ?_
  refine ⟨s.heap.objs.size + 1, [s.heap.objs.size + 1, s.heap.objs.size], _, _, H, rfl, I.kept (t' := s.toks) hk, turn_enumT t _ _, ⟨⟨.none, he⟩, hit, Nat.succ_ne_self _⟩, fun b hb => ?_, q⟩
  have hle : s.heap.objs.size ≤ b := by
    rcases List.mem_cons.mp hb with rfl | hb
    · exact Nat.le_add_right _ _
    · rw [List.mem_singleton.mp hb]
      exact Nat.le_refl _
  exact I.fpOk hle (I.hok.fresh hle)
def iEnumT (K : PySem.W.Frag) (ta : TA) : TI := fun σ H R => ta σ H fun vs H1 => ∃ t xs, vs = [.ref t] ∧ SqT K H1 t xs ∧ R (IteT K t) H1
theorem pi_enumT {X : Cx} {e : Expr} {ta : TA} {p pos tpos : Pos} {elts : List Expr} {kk : Nat} (hg : Gl X "enumerate") (hm : X.mg "enumerate" = none) (ha : PA X [e] ta) (hs : starEach [e] X.env = [(false, eval e X.env)] := by rfl) :
    PI X (.Tuple elts kk tpos) (.Call (.Name "enumerate" p) [e] [] pos) (iEnumT X.K ta) := by
  constructor
  intro pins s σ H R I h
  refine Call_ (ld_blt I hg hm boot_enumerate (PyProof.Rows.callWith_type1 (thn (ha.run pos pins s σ H _ I h) fun us s1 q0 => ?_) hs rfl))
  obtain ⟨vs, H1, I1, r1, t, xs, ex, hq, q⟩ := q0
  subst ex
  obtain rfl := Vals.ref1 r1
  obtain ⟨its, rv, pl, hz⟩ := I1.tuple hq
  refine call_of_enum I1 pl q
/-- a loop over the pairs of a tuple -/
theorem for_enumT {K : PySem.W.Frag} {t : Addr} {xs : List V} {g : TG} {tb : TS} {D : Ends} {σ : L2.St} {H : Hp} (Pv : Nat → L2.St → Hp → Prop) (h0 : Pv 0 σ H) (hl : ∀ i σ H, i ≤ xs.length → Pv i σ H → SqT K H t xs)
    (hs : ∀ i x σ H T, xs[i]? = some x → Pv i σ H → H T = none → g (.ref T) σ (upd H T (.tup [.int (i : Nat), x])) fun σ2 H2 => tb { D with nx := Pv (i + 1), ct := Pv (i + 1), bk := D.nx } σ2 H2) (hd : ∀ σ H, Pv xs.length σ H → D.nx σ H) :
    ∃ W : Nat → Nat → L2.St → Hp → Prop, (∃ m, W 0 m σ H) ∧ ∀ i m σ H, W i m σ H →
      ((IteT K t).stop i H ∧ D.nx σ H) ∨ ((IteT K t).go i H ∧ ∃ N : L2.St → Hp → Prop, (∀ σ' H', N σ' H' → ∃ m', m' < m ∧ W (i + 1) m' σ' H') ∧ ∀ x H', (IteT K t).yld i H x H' → g x σ H' fun σ2 H2 => tb { D with nx := N, ct := N, bk := D.nx } σ2 H2) := by
  refine ⟨fun i m σ H => m = xs.length - i ∧ i ≤ xs.length ∧ Pv i σ H, ⟨xs.length, rfl, Nat.zero_le _, h0⟩, ?_⟩
  rintro i m σ H ⟨rfl, hi, p⟩
  have q := hl i σ H hi p
  rcases Nat.lt_or_ge i xs.length with hlt | hge
  · refine .inr ⟨⟨xs, xs[i], q, List.getElem?_eq_getElem hlt⟩, Pv (i + 1), fun σ' H' p' => ⟨xs.length - (i + 1), by omega, rfl, hlt, p'⟩, ?_⟩
    rintro y H' ⟨T, x, rfl, hT, rfl, hx⟩
    exact hs i x σ H T (hx xs q) p hT
  · have e : i = xs.length := Nat.le_antisymm hi hge
    subst e
    exact .inl ⟨⟨xs, q, rfl⟩, hd σ H p⟩
end Gd

set_option Elab.async false
set_option linter.all false
set_option maxRecDepth 100000
set_option maxHeartbeats 4000000
/-! zip of two sequences, each a list or a tuple. -/
namespace Gd
open PySem PySem.Spec PyProof.Rows L2
/-- a list (true) or a tuple (false) -/
def SqE (K : PySem.W.Frag) (l : Bool) (H : Hp) (a : Addr) (xs : List V) : Prop := match l with
  | true => SqL K H a xs
  | false => SqT K H a xs
def HpE (l : Bool) (h : Heap) (a : Addr) (items : Array Value) : Prop := match l with
  | true => h.IsList a items
  | false => h.IsTuple a items
def ItE (l : Bool) (h : Heap) (it a : Addr) (i : Nat) : Prop := match l with
  | true => h.IsListIter it a i
  | false => h.IsTupleIter it a i
def objE (l : Bool) (a : Addr) : Obj := match l with
  | true => { cls := .type "list_iterator", data := .fields #[.ref a, .int 0 0] }
  | false => { cls := .type "tuple_iterator", data := .fields #[.ref a, .int 0 0] }
section
variable {l : Bool} {h h' : Heap} {a it : Addr} {i : Nat} {items : Array Value}
theorem ItE.at (x : ItE l h it a i) (k : ∀ o, h.get? it = some o → h'.get? it = some o) : ItE l h' it a i := by
  cases l with
  | true => exact Heap.IsListIter.at (show h.IsListIter it a i from x) k
  | false => exact Heap.IsTupleIter.at (show h.IsTupleIter it a i from x) k
theorem ItE.there (x : ItE l h it a i) : ∃ o, h.get? it = some o ∧ ∀ v, o.data ≠ .cell v := by
  cases l with
  | true =>
    obtain ⟨o, g, _, d⟩ := (show h.IsListIter it a i from x)
    exact ⟨o, g, fun v q => by rw [d] at q; cases q⟩
  | false =>
    obtain ⟨o, g, _, d⟩ := (show h.IsTupleIter it a i from x)
    exact ⟨o, g, fun v q => by rw [d] at q; cases q⟩
theorem ItE.apart (x : ItE l h it a i) (y : HpE l h a items) : a ≠ it := by
  intro z
  subst z
  cases l with
  | true =>
    obtain ⟨o1, g1, c1, _⟩ := (show h.IsListIter a a i from x)
    obtain ⟨o2, g2, c2, _⟩ := (show h.IsList a items from y)
    rw [g1] at g2
    cases g2
    rw [c1] at c2
    exact absurd c2 (by simp)
  | false => exact tit_apart (show h.IsTupleIter a a i from x) (show h.IsTuple a items from y) rfl
theorem drawsE {prog : Program} {w : World} {A : Around} (hh : A.handled = none) (ne : a ≠ it) : Draws prog w A it [it, a] items.size (fun i v => items[i]? = some v) (fun i h => ItE l h it a i ∧ HpE l h a items) := by
  cases l with
  | true => exact Draws.list hh it a ne items
  | false => exact Draws.tuple hh it a ne items
theorem beginsE : Begins (.ref a) (objE l a) (fun h => HpE l h a items) := by
  cases l with
  | true => exact begins_list a items
  | false => exact begins_tuple a items
theorem ItE.new (g : h.get? it = some (objE l a)) : ItE l h it a 0 := by
  cases l with
  | true => exact ⟨_, g, rfl, rfl⟩
  | false => exact ⟨_, g, rfl, rfl⟩
end
section
variable {X : Cx} {pins : List (Addr × Obj)} {σ : L2.St} {H : Hp} {s : Shared} {l : Bool} {a : Addr} {xs ys : List V}
theorem seqE (I : Inv X pins σ H s) (h : SqE X.K l H a xs) : ∃ its : List Value, Vals xs its ∧ HpE l s.heap a its.toArray := by
  cases l with
  | true =>
    obtain ⟨its, rv, p, _⟩ := I.list (show SqL X.K H a xs from h)
    exact ⟨its, rv, p.isList⟩
  | false =>
    obtain ⟨its, rv, p, _⟩ := I.tuple (show SqT X.K H a xs from h)
    exact ⟨its, rv, isTuple_of p⟩
theorem injE (I : Inv X pins σ H s) (h1 : SqE X.K l H a xs) (h2 : SqE X.K l H a ys) : xs = ys := by
  cases l with
  | true => exact I.list_inj h1 h2
  | false => exact I.tuple_inj h1 h2
end
/-- both walked together: at each turn a new pair -/
def ItzE (K : PySem.W.Frag) (l1 l2 : Bool) (a b : Addr) : It where
  go := fun i H => ∃ (xs ys : List V) (x y : V), SqE K l1 H a xs ∧ SqE K l2 H b ys ∧ xs[i]? = some x ∧ ys[i]? = some y
  yld := fun i H v H' => ∃ T x y, v = .ref T ∧ H T = none ∧ H' = upd H T (.tup [x, y]) ∧ (∀ xs, SqE K l1 H a xs → xs[i]? = some x) ∧ ∀ ys, SqE K l2 H b ys → ys[i]? = some y
  stop := fun i H => ∃ xs ys : List V, SqE K l1 H a xs ∧ SqE K l2 H b ys ∧ i = min xs.length ys.length
theorem lt_of_get {its : List Value} {i : Nat} {u : Value} (h : its[i]? = some u) : i < its.toArray.size := by
  rw [List.size_toArray]
  exact (List.getElem?_eq_some_iff.mp h).1
theorem turn_zipE {P : Program} {w : World} {K : PySem.W.Frag} {elts : List Expr} {kk : Nat} {tpos : Pos} {l1 l2 : Bool} {a b z TI TO i1 i2 : Addr} (S : ZipSep2 z TI TO i1 i2 [i1, a] [i2, b]) :
    Turn P w K (.Tuple elts kk tpos) (ItzE K l1 l2 a b) [z, TI, TO, i1, i2] z (fun i h => IsZip h z TI TO .none ∧ IsTupOf2 h TI (.ref i1) (.ref i2) ∧ (∃ x y, IsTupOf2 h TO x y) ∧ ItE l1 h i1 a i ∧ ItE l2 h i2 b i) where
  mem := List.mem_cons_self
  obj := by
    rintro i h ⟨hz, hTI, ⟨x, y, hTO⟩, h1, h2⟩ c hc
    simp only [List.mem_cons, List.not_mem_nil, or_false] at hc
    rcases hc with rfl | rfl | rfl | rfl | rfl
    · exact ⟨_, hz, fun v q => nomatch q⟩
    · exact ⟨_, hTI, fun v q => nomatch q⟩
    · exact ⟨_, hTO, fun v q => nomatch q⟩
    · exact h1.there
    · exact h2.there
  keep := by
    rintro i h h' ⟨hz, hTI, ⟨x, y, hTO⟩, h1, h2⟩ k
    exact ⟨k _ (by simp) _ hz, k _ (by simp) _ hTI, ⟨x, y, k _ (by simp) _ hTO⟩, h1.at fun o q => k _ (by simp) o q, h2.at fun o q => k _ (by simp) o q⟩
  item := by
    intro X hP hw hK hc i pins s σ H E I hf st hg
    subst hP hw hK
    obtain ⟨hz, hTI, ⟨x0, y0, hTO⟩, h1, h2⟩ := st
    obtain ⟨xs, ys, x, y, hqx, hqy, hx, hy⟩ := hg
    obtain ⟨its, rv, p⟩ := seqE I hqx
    obtain ⟨its2, rv2, p2⟩ := seqE I hqy
    obtain ⟨u, hu, ru⟩ := rv.get hx
    obtain ⟨u2, hu2, ru2⟩ := rv2.get hy
    have hd : X.A.in1.handled = none := I.ok.hd hc
    have zl : z < s.heap.objs.size := Heap.lt_size hz
    refine wpAny_pyNext_zipD2_item S (drawsE hd (h1.apart p)) (drawsE hd (h2.apart p2)) hz hTI hTO ⟨h1, p⟩ ⟨h2, p2⟩ (lt_of_get hu) (lt_of_get hu2) fun v1 v2 h3 tk e1 e2 z3 TO3 s1 s2 hT hsz hk => ?_
    obtain rfl : v1 = u := by
      rw [List.getElem?_toArray, hu] at e1
      exact (Option.some.inj e1).symm
    obtain rfl : v2 = u2 := by
      rw [List.getElem?_toArray, hu2] at e2
      exact (Option.some.inj e2).symm
    refine ⟨_, rfl, wpAny_letOwnedTupleGo_zip (s := { s with heap := h3, toks := tk }) z3 fun h4 z4 sb => ?_⟩
    have hT4 : h4.get? s.heap.objs.size = some { cls := .type "tuple", data := .seq #[v1, v2] } := (sb.2 _ (Nat.ne_of_gt zl)).trans hT
    have new : ObjOk X.prog X.w (upd H s.heap.objs.size (.tup [x, y])) h4 s.heap.objs.size (.tup [x, y]) := ⟨by show 2 ≤ sizeLine; decide, [v1, v2], .cons ru (.cons ru2 .nil), ⟨_, hT4, rfl, _, rfl⟩⟩
    have kp : ∀ c o, c ∉ [z, TI, TO, i1, i2] → s.heap.get? c = some o → h4.get? c = some o := fun c o hb q => by
      simp only [List.mem_cons, List.not_mem_nil, or_false, not_or] at hb
      exact (sb.2 c hb.1).trans (hk c o hb.1 hb.2.2.1 hb.2.2.2.1 hb.2.2.2.2 q)
    have J : Inv X pins σ (upd H s.heap.objs.size (.tup [x, y])) { s with heap := h4, toks := tk } := I.turnedNew (t' := tk) kp hf (Nat.le_refl _) new
    refine ⟨.ref s.heap.objs.size, _, J, rfl, ⟨_, x, y, rfl, I.hok.fresh (Nat.le_refl _), rfl, fun m hm => ?_, fun m hm => ?_⟩, ⟨z4, ?_, ⟨v1, v2, ?_⟩, ?_, ?_⟩, fun c hcm => ?_⟩
    · rw [injE I hm hqx]
      exact hx
    · rw [injE I hm hqy]
      exact hy
    · exact (sb.2 _ S.TIz).trans (hk _ _ S.TIz S.TITO S.TIi1 S.TIi2 hTI)
    · exact (sb.2 _ S.TOz).trans TO3
    · exact s1.1.at fun o q => (sb.2 _ S.zi1.symm).trans q
    · exact s2.1.at fun o q => (sb.2 _ S.zi2.symm).trans q
    · have lt : c < s.heap.objs.size := by
        obtain ⟨_, g1, _⟩ := h1.there
        obtain ⟨_, g2, _⟩ := h2.there
        have hm := hcm
        simp only [List.mem_cons, List.not_mem_nil, or_false] at hm
        rcases hm with rfl | rfl | rfl | rfl | rfl
        · exact zl
        · exact Heap.lt_size hTI
        · exact Heap.lt_size hTO
        · exact Heap.lt_size g1
        · exact Heap.lt_size g2
      rw [upd_ne (Nat.ne_of_lt lt)]
      exact (hf c hcm).1
  done := by
    intro X hP hw hK hc i pins s σ H E I hf st hg
    subst hP hw hK
    obtain ⟨hz, hTI, ⟨x0, y0, hTO⟩, h1, h2⟩ := st
    obtain ⟨xs, ys, hqx, hqy, hend⟩ := hg
    obtain ⟨its, rv, p⟩ := seqE I hqx
    obtain ⟨its2, rv2, p2⟩ := seqE I hqy
    have n1 : its.toArray.size = xs.length := by rw [List.size_toArray, rv.length]
    have n2 : its2.toArray.size = ys.length := by rw [List.size_toArray, rv2.length]
    have hd : X.A.in1.handled = none := I.ok.hd hc
    refine wpAny_pyNext_zipD2_end S (drawsE hd (h1.apart p)) (drawsE hd (h2.apart p2)) hz hTI hTO ⟨h1, p⟩ ⟨h2, p2⟩ (by omega) (by omega) (by omega) fun h3 tk hk => ⟨rfl, I.turnedL (t' := tk) (fun c o hb q => ?_) hf⟩
    simp only [List.mem_cons, List.not_mem_nil, or_false, not_or] at hb
    exact hk c o hb.1 hb.2.2.1 hb.2.2.2.1 hb.2.2.2.2 q
  self := fun A i s Q E st h => wpAny_pyIter_zip st.1 h
def iZipE (K : PySem.W.Frag) (ta : TA) : TI := fun σ H R => ta σ H fun vs H1 => ∃ l1 l2 a b xs ys, vs = [.ref a, .ref b] ∧ SqE K l1 H1 a xs ∧ SqE K l2 H1 b ys ∧ R (ItzE K l1 l2 a b) H1
theorem HpE.lt {l : Bool} {h : Heap} {a : Addr} {items : Array Value} (x : HpE l h a items) : a < h.objs.size := by
  cases l with
  | true =>
    obtain ⟨o, g, _⟩ := (show h.IsList a items from x)
    exact Heap.lt_size g
  | false =>
    obtain ⟨o, g, _⟩ := (show h.IsTuple a items from x)
    exact Heap.lt_size g
theorem call_of_zip {X : Cx} {elts : List Expr} {kk : Nat} {tpos : Pos} {pins : List (Addr × Obj)} {σ : L2.St} {H : Hp} {s : Shared} {R : It → Hp → Prop} {l1 l2 : Bool} {a b : Addr} {i1 i2 : Array Value} (I : Inv X pins σ H s)
    (p1 : HpE l1 s.heap a i1) (p2 : HpE l2 s.heap b i2) (q : R (ItzE X.K l1 l2 a b) H) :
    wpAny (model X.prog X.w) X.A (call (.type "zip") [.ref a, .ref b]) (fun v s2 => wpAny (model X.prog X.w) X.A (pyIter v) (PIE X pins σ (.Tuple elts kk tpos) R) X.xe s2) X.xe s := by
  refine zip_begins2 beginsE beginsE p1 p2 fun h1 hz hTI hTO g1 g2 _ hk => wpAny_pyIter_zip hz ?_
  have sep : ZipSep2 (s.heap.objs.size + 4) (s.heap.objs.size + 2) (s.heap.objs.size + 3) s.heap.objs.size (s.heap.objs.size + 1) [s.heap.objs.size, a] [s.heap.objs.size + 1, b] :=
    zip_sep2 (fun c hc => by rw [List.mem_singleton.mp hc]; exact p1.lt) (fun c hc => by rw [List.mem_singleton.mp hc]; exact p2.lt)
  refine ⟨s.heap.objs.size + 4, [s.heap.objs.size + 4, s.heap.objs.size + 2, s.heap.objs.size + 3, s.heap.objs.size, s.heap.objs.size + 1], _, _, H, rfl, I.kept (t' := s.toks) hk, turn_zipE sep, ⟨hz, hTI, ⟨_, _, hTO⟩, .new g1, .new g2⟩, fun c hc => ?_, q⟩
  have le : s.heap.objs.size ≤ c := by
    simp only [List.mem_cons, List.not_mem_nil, or_false] at hc
    rcases hc with rfl | rfl | rfl | rfl | rfl
    all_goals first | exact Nat.le_refl _ | exact Nat.le_add_right _ _
  exact I.fpOk le (I.hok.fresh le)
theorem pi_zipE {X : Cx} {e e2 : Expr} {ta : TA} {p pos tpos : Pos} {elts : List Expr} {kk : Nat} (hg : Gl X "zip") (hm : X.mg "zip" = none) (ha : PA X [e, e2] ta)
    (hs : starEach [e, e2] X.env = (false, eval e X.env) :: starEach [e2] X.env := by rfl) (hpl : (backTo pos (starEach [e2] X.env)).any (·.1) = false := by rfl) :
    PI X (.Tuple elts kk tpos) (.Call (.Name "zip" p) [e, e2] [] pos) (iZipE X.K ta) := by
  constructor
  intro pins s σ H R I h
  refine Call_ (ld_blt I hg hm PyProof.Rows.boot_zip (PyProof.Rows.callWith_type1 (thn (ha.run pos pins s σ H _ I h) fun us s1 q0 => ?_) hs hpl))
  obtain ⟨vs, H1, I1, r1, l1, l2, a, b, xs, ys, ex, hx, hy, q⟩ := q0
  subst ex
  obtain ⟨u1, u2, rfl, r1, r2⟩ := vals2 r1
  cases r1
  cases r2
  obtain ⟨i1, _, p1⟩ := seqE I1 hx
  obtain ⟨i2, _, p2⟩ := seqE I1 hy
  exact call_of_zip I1 p1 p2 q
theorem walk_zipE {K : PySem.W.Frag} {l1 l2 : Bool} {a b : Addr} {xs ys : List V} {n : Nat} (hn : n = min xs.length ys.length) :
    Walk (ItzE K l1 l2 a b) n (fun H => SqE K l1 H a xs ∧ SqE K l2 H b ys) (YPair (fun i => xs[i]?) (fun i => ys[i]?)) where
  goes := fun i H hi q => by
    have h1 : i < xs.length := by omega
    have h2 : i < ys.length := by omega
    exact ⟨xs, ys, xs[i], ys[i], q.1, q.2, List.getElem?_eq_getElem h1, List.getElem?_eq_getElem h2⟩
  stops := fun H q => ⟨xs, ys, q.1, q.2, hn⟩
  yields := by
    rintro i H v H' _ q ⟨T, x, z, h1, h2, h3, h4, h5⟩
    exact ⟨T, x, z, h1, h2, h3, h4 xs q.1, h5 ys q.2⟩
theorem walk_enumT {K : PySem.W.Frag} {a : Addr} {xs : List V} : Walk (IteT K a) xs.length (fun H => SqT K H a xs) (YPair (fun i => some (.int (i : Nat))) (fun i => xs[i]?)) where
  goes := fun i H hi q => ⟨xs, xs[i], q, List.getElem?_eq_getElem hi⟩
  stops := fun H q => ⟨xs, q, rfl⟩
  yields := by
    rintro i H v H' _ q ⟨T, x, h1, h2, h3, h4⟩
    exact ⟨T, _, x, h1, h2, h3, rfl, h4 xs q⟩
end Gd

set_option Elab.async false
set_option linter.all false
set_option maxRecDepth 100000
set_option maxHeartbeats 4000000
/-! + - * of own classes, with an own object or an integer at the right; - of one. -/
namespace HN3
open PySem PySem.Spec PyProof.Rows PySem.SeqAt
section
variable {prog : Program} {w : World} {A : Around} {E : Value → Shared → Prop} {s : Shared} {K : PySem.W.Frag} {x C f : Addr} {ox : Obj} {od : Option Obj}
theorem name_there {M : Model} {h : Heap} {nm : String} (X : K.In h) (hs : PySem.W.findIn K (.ref C) (PySem.dunder nm) = some (some (.ref f))) (hr : PySem.W.findIn K (.ref C) (PySem.dunderR nm) = some none) :
    PySem.W.Looks M h (numberSlotInPython (.ref C) nm) true := by
  intro A Q E s k q
  unfold numberSlotInPython
  refine wpAny_bind (PySem.W.looks_findIn X hs A _ E s k ?_)
  refine wpAny_bind (wpAny_pure ?_)
  refine wpAny_bind (PySem.W.looks_findIn X hr A _ E s k ?_)
  refine wpAny_bind (wpAny_pure ?_)
  exact wpAny_pure q
theorem binop1_int {nm : String} {n : Int} {t : Tok} {z : Value} {Q : Value → Shared → Prop} (X : K.In s.heap) (I : PySem.W.InstAt s.heap x ox C od) (hc : PySem.W.selfFirst K C = true)
    (hs : PySem.W.findIn K (.ref C) (PySem.dunder nm) = some (some (.ref f))) (hrn : PySem.W.findIn K (.ref C) (PySem.dunderR nm) = some none) (hf : PySem.W.isFn K (.ref f) = true)
    (fi : fillsNumberSlot (.type "int") nm = pure true) (hsub : PySem.W.subIn K (.type "int") (.ref C) = some false) (hz : typeLookup (.type "int") (PySem.dunderR nm) = pure (some z))
    (h : wpAny (model prog w) A (call (.ref f) [.ref x, .int n t]) (PySem.W.CmpBack Q) E s) : wpAny (model prog w) A (binaryOp1 nm (.ref x) (.int n t)) (fun r s' => ∃ v, r = some v ∧ Q v s') E s := by
  obtain ⟨cd, hcd, hm⟩ := PySem.W.any_some hc
  obtain ⟨rest, hm⟩ : ∃ rest, cd.mro = .ref C :: rest := by
    cases q : cd.mro with
    | nil => rw [q] at hm; cases hm
    | cons a r => rw [q] at hm; exact ⟨r, by rw [List.head?_cons] at hm; cases (beq_iff_eq.mp hm); rfl⟩
  unfold binaryOp1
  refine wpAny_bind (I.type.here ?_)
  refine wpAny_bind (wpAny_of_eq (a := Value.type "int") rfl ?_)
  refine wpAny_bind ((PySem.W.fills_K X hcd hm hs).here ?_)
  have e : (Value.ref C == Value.type "int") = false := rfl
  rw [e]
  simp only [Bool.false_eq_true, if_false]
  refine wpAny_bind (wpAny_of_eq fi ?_)
  simp only [Bool.and_self, if_true]
  refine wpAny_bind ((PySem.W.looks_subIn X hsub).here ?_)
  simp only [Bool.false_eq_true, if_false]
  refine wpAny_bind ((name_there X hs hrn).here ?_)
  simp only [if_true]
  refine wpAny_bind (wpAny_of_eq (a := false) rfl ?_)
  simp only [Bool.not_false, if_true]
  refine wpAny_bind (wpAny_of_eq hz ?_)
  refine wpAny_bind (m := tryMethod (.ref x) _ (.int n t)) ?_
  unfold tryMethod
  refine wpAny_bind (PySem.W.special_fn X I hs (beq_iff_eq.mp hf) (wpAny_mono h (fun v s' hv => ?_) fun _ _ e => e))
  cases v <;> first | exact hv.elim | exact wpAny_pure (wpAny_pure ⟨_, rfl, hv⟩)
theorem binop_int {op : Operator} {n : Int} {t : Tok} {z : Value} {Q : Value → Shared → Prop} (X : K.In s.heap) (I : PySem.W.InstAt s.heap x ox C od) (hc : PySem.W.selfFirst K C = true)
    (hs : PySem.W.findIn K (.ref C) (PySem.dunder op.info.2) = some (some (.ref f))) (hrn : PySem.W.findIn K (.ref C) (PySem.dunderR op.info.2) = some none) (hf : PySem.W.isFn K (.ref f) = true)
    (fi : fillsNumberSlot (.type "int") op.info.2 = pure true) (hsub : PySem.W.subIn K (.type "int") (.ref C) = some false) (hz : typeLookup (.type "int") (PySem.dunderR op.info.2) = pure (some z))
    (h : wpAny (model prog w) A (call (.ref f) [.ref x, .int n t]) (PySem.W.CmpBack Q) E s) : wpAny (model prog w) A (binaryOp op (.ref x) (.int n t)) Q E s := by
  unfold binaryOp
  refine wpAny_holding (wpAny_bind (wpAny_mono (binop1_int X I hc hs hrn hf fi hsub hz h) (fun r s' hr => ?_) fun _ _ e => e))
  obtain ⟨v, rfl, q⟩ := hr
  exact wpAny_pure q
theorem neg_own {Q : Value → Shared → Prop} (X : K.In s.heap) (I : PySem.W.InstAt s.heap x ox C od)
    (hs : PySem.W.findIn K (.ref C) "__neg__" = some (some (.ref f))) (hf : PySem.W.isFn K (.ref f) = true)
    (h : wpAny (model prog w) A (call (.ref f) [.ref x]) Q E s) : wpAny (model prog w) A (unaryOp .USub (.ref x)) Q E s := by
  unfold unaryOp
  refine wpAny_holding ?_
  dsimp only
  rw [if_neg (by decide)]
  exact wpAny_bind (PySem.W.special_fn X I hs (beq_iff_eq.mp hf) (wpAny_mono h (fun v s' hv => wpAny_pure hv) fun _ _ e => e))
end
end HN3

namespace Gd
open PySem PySem.Spec PyProof.Rows L2
section
variable {X : Cx} {CX : CXT} {k : Nat} {f C : Addr} {fd : FuncData} {ps : List Str} {sp : Sp}
/-- what an operator of an own class asks of the class: m its method, r the name of the turned one, which nobody has -/
structure BinC (K : PySem.W.Frag) (C : Addr) (m r : Str) (f : Addr) : Prop where
  sf : PySem.W.selfFirst K C = true
  at_ : Meth K C m f
  rn : PySem.W.findIn K (.ref C) r = some none
/-- x OP y by the own method of x's class, y of that class or an integer; what it gives is an object -/
def rBinO (C : Addr) (sp : Sp) (E : XK) : R2 := fun x y H Q => ∃ p dx fs, x = .ref p ∧ H p = some (.ins C dx fs) ∧
  ((∃ q dy gs, y = .ref q ∧ H q = some (.ins C dy gs)) ∨ ∃ n, y = .int n) ∧ sp [x, y] H (fun v H' => (∃ q, v = .ref q) ∧ Q v H') E
theorem op_binO {op : Operator} {m r : Str} {z : Value} {E : XK} (e1 : PySem.dunder op.info.2 = m) (e2 : PySem.dunderR op.info.2 = r) (fi : fillsNumberSlot (.type "int") op.info.2 = pure true) (hz : typeLookup (.type "int") r = pure (some z))
    (B : BinC X.K C m r f) (F : FnOk X.prog X.w X.K X.mg X.base CX k f fd ps sp) (hr : Room (k + 1) X.A) (hb : Binds X.K fd ps []) (hx : ∀ σ, PassesAt CX X σ E) : OpR X (binaryOp op) (rBinO C sp E) := by
  subst e1 e2
  intro pins s σ H x y v u Q I rx ry h
  obtain ⟨p, dx, fs, rfl, ep, hy, hsp⟩ := h
  cases rx
  obtain ⟨od, J⟩ := seen I ep
  obtain ⟨m, hF⟩ := I.fr
  have run := wpAny_mono (runAt (.inl rfl) F hr hb .nil (hx σ) I (.cons (show RelV (V.ref p) (Value.ref p) from rfl) (.cons ry .nil)) hsp) (Q' := PySem.W.CmpBack (EP X pins σ Q)) (fun w s' hw => by
    obtain ⟨z, H', I', rz, ⟨q, rfl⟩, hq⟩ := hw
    cases rz
    exact ⟨.ref q, H', I', rfl, hq⟩) (fun _ _ z => z)
  rcases hy with ⟨q, dy, gs, rfl, eq⟩ | ⟨n, rfl⟩
  · cases ry
    obtain ⟨od2, J2⟩ := seen I eq
    exact PySem.W.binop_K hF I.ok.mod.kin J J2.type B.sf B.at_.at_ B.at_.fn run
  · obtain ⟨t, rfl⟩ := ry
    exact HN3.binop_int I.kIn J B.sf B.at_.at_ B.rn B.at_.fn fi (by kernel_rfl) hz run
theorem op_addO {E : XK} (B : BinC X.K C "__add__" "__radd__" f) (F : FnOk X.prog X.w X.K X.mg X.base CX k f fd ps sp) (hr : Room (k + 1) X.A) (hb : Binds X.K fd ps []) (hx : ∀ σ, PassesAt CX X σ E) : OpR X (binaryOp .Add) (rBinO C sp E) :=
  op_binO (op := .Add) (z := .builtin "int.__radd__") (by kernel_rfl) (by kernel_rfl) PySem.F.fills_int_add (by rw [typeLookup_type, builtinLookup_eq_fast]; kernel_rfl) B F hr hb hx
theorem op_subO {E : XK} (B : BinC X.K C "__sub__" "__rsub__" f) (F : FnOk X.prog X.w X.K X.mg X.base CX k f fd ps sp) (hr : Room (k + 1) X.A) (hb : Binds X.K fd ps []) (hx : ∀ σ, PassesAt CX X σ E) : OpR X (binaryOp .Sub) (rBinO C sp E) :=
  op_binO (op := .Sub) (z := .builtin "int.__rsub__") (by kernel_rfl) (by kernel_rfl) PySem.F.fills_int_sub (by rw [typeLookup_type, builtinLookup_eq_fast]; kernel_rfl) B F hr hb hx
theorem op_mulO {E : XK} (B : BinC X.K C "__mul__" "__rmul__" f) (F : FnOk X.prog X.w X.K X.mg X.base CX k f fd ps sp) (hr : Room (k + 1) X.A) (hb : Binds X.K fd ps []) (hx : ∀ σ, PassesAt CX X σ E) : OpR X (binaryOp .Mult) (rBinO C sp E) :=
  op_binO (op := .Mult) (z := .builtin "int.__rmul__") (by kernel_rfl) (by kernel_rfl) PySem.F.fills_int_mul (by rw [typeLookup_type, builtinLookup_eq_fast]; kernel_rfl) B F hr hb hx
/-- -x by the own method -/
def rNegO (C : Addr) (sp : Sp) (E : XK) : V → Hp → VK → Prop := fun x H Q => ∃ p dx fs, x = .ref p ∧ H p = some (.ins C dx fs) ∧ sp [x] H Q E
theorem un_negO {E : XK} (M : Meth X.K C "__neg__" f) (F : FnOk X.prog X.w X.K X.mg X.base CX k f fd ps sp) (hr : Room (k + 1) X.A) (hb : Binds X.K fd ps []) (hx : ∀ σ, PassesAt CX X σ E) : UnR X (unaryOp .USub) (rNegO C sp E) := by
  intro pins s σ H x v Q I rx h
  obtain ⟨p, dx, fs, rfl, ep, hsp⟩ := h
  cases rx
  obtain ⟨od, J⟩ := seen I ep
  exact HN3.neg_own I.kIn J M.at_ M.fn (runAt (.inl rfl) F hr hb .nil (hx σ) I (.cons (show RelV (V.ref p) (Value.ref p) from rfl) .nil) hsp)
end
end Gd

set_option Elab.async false
set_option linter.all false
set_option maxRecDepth 100000
set_option maxHeartbeats 4000000
/-! The sum and the count of a tuple; an integer and a tuple of integers, < ; != of two lists whose items are equal by an own ==. -/
namespace NeL
open PySem PySem.SeqAt
open AutoSeq1 (wpAny_loadPart')
open MeetsSeq MeetsSeq2 MeetsSeq3 SeqRoads2
section
variable {prog : Program} {w : World} {A : Around} {R : Result → Shared → Prop}
theorem ne_loopG (l b : Addr) (N : Nat) (I : Nat → Shared → Prop) (hl : GQ.ListI prog w A (fun e s' => R (.error e) s') l b N I)
    (fin : ∀ s, I N s → R (.ok (.ret (.bool false))) s) (k : Nat) :
    ∀ i : Nat, N - i = k → i ≤ N → ∀ s, I i s →
      wpAny (model prog w) A.in1 (Builtin.«list.__eq__.loop» ⟨[.ref l, .ref b, rawInt i, rawInt 3], []⟩) (GQ.FinOf prog w A R) (fun e s' => R (.error e) s') s := by
  induction k with
  | zero =>
    intro i hk hi s h
    obtain ⟨items, items2, n, n2, hl1, hb1, hs1, hs2, _⟩ := hl _ _ h
    have hi' : i = N := by omega
    have hR : R (.ok (.ret (.bool false))) s := fin s (hi' ▸ h)
    obtain ⟨hp, g, d, tk, os⟩ := s
    wp_walk using wpAny_loadPart' hl1, wpAny_loadPart' hb1
    have hi1 : items[((i : Nat) : Int).toNat]? = none := by simp; omega
    have hi2 : items2[((i : Nat) : Int).toNat]? = none := by simp; omega
    rw [hi1, hi2]
    wp_walk using wpAny_loadPart' hl1, wpAny_loadPart' hb1
    show R (.ok (.ret (.bool (items.size != items2.size)))) _
    rw [hs1, hs2]
    simpa using hR
  | succ k ih =>
    intro i hk hi s h
    obtain ⟨items, items2, n, n2, hl1, hb1, hs1, hs2, turn⟩ := hl _ _ h
    have hlt : i < items.size := by omega
    have hlt2 : i < items2.size := by omega
    have ht := turn hlt hlt2
    obtain ⟨hp, g, d, tk, os⟩ := s
    wp_walk using wpAny_loadPart' hl1, wpAny_loadPart' hb1
    have hi1 : items[((i : Nat) : Int).toNat]? = some items[i] := by simp [hlt]
    have hi2 : items2[((i : Nat) : Int).toNat]? = some items2[i] := by simp [hlt2]
    have hc : ((i : Int) + 1) = ((i + 1 : Nat) : Int) := by omega
    rw [hi1, hi2]
    refine wpAny_bind (wpAny_mono ht (fun r s2 h2 => ?_) fun _ _ x => x)
    obtain ⟨hr, h2⟩ := h2
    subst hr
    have hrec := ih (i + 1) (by omega) (by omega) s2 h2
    obtain ⟨hp2, g2, d2, tk2, os2⟩ := s2
    wp_walk
    rw [hc]
    exact ⟨plainId_quiet plain_eq_loop _, codeAny_builtin entry_eq_loop (by
      rw [Around.under_plainId plain_eq_loop _]
      exact hrec)⟩
theorem list_neG (l b : Addr) (N : Nat) (I : Nat → Shared → Prop) (hl : GQ.ListI prog w A (fun e s' => R (.error e) s') l b N I)
    (fin : ∀ s, I N s → R (.ok (.ret (.bool false))) s) {s : Shared} (h : I 0 s) :
    wpAny (model prog w) A.in1 (Builtin.«list.__ne__» ⟨[.ref l, .ref b], []⟩) (GQ.FinOf prog w A R) (fun e s' => R (.error e) s') s := by
  obtain ⟨items, items2, n, n2, hl1, hb1, hs1, hs2, _⟩ := hl _ _ h
  have hrec := ne_loopG (A := A) (R := R) l b N I hl fin _ 0 rfl (Nat.zero_le _) s h
  obtain ⟨hp, g, d, tk, os⟩ := s
  have f3 := AutoSeq1.sub_list_list
  have hne : ¬ (items.size != items2.size) = true := by simp [hs1, hs2]
  wp_walk using wpAny_loadPart' hl1, wpAny_loadPart' hb1
  exact ⟨plainId_quiet plain_eq_loop _, codeAny_builtin entry_eq_loop (by
    rw [Around.under_plainId plain_eq_loop _]
    exact hrec)⟩
end
section
variable {prog : Program} {w : World} {A : Around} {E : Value → Shared → Prop} {s : Shared}
theorem rc {l b : Addr} {N : Nat} {Q : Value → Shared → Prop} (hu : A.units < cLine) (I : Nat → Shared → Prop) (hl : GQ.ListI prog w A E l b N I)
    (fin : ∀ s, I N s → Q (.bool false) s) (h : I 0 s) : wpAny (model prog w) A (richCompare .NotEq (.ref l) (.ref b)) Q E s := by
  obtain ⟨items, items2, n, n2, hl1, hb1, _, _, _⟩ := hl _ _ h
  refine wpAny_richCompare_same_room (op := .NotEq) ⟨_, hl1, rfl⟩ ⟨_, hb1, rfl⟩ F.slot_list_ne (GQ.call_here F.slot_list_ne ⟨_, hl1, rfl⟩ F.entry_list_ne (F.args_list_ne_2 _ _) ?_) hu
  exact list_neG (R := wants (fun v s' => v ≠ .notImplemented ∧ Q v s') E) l b N I hl (fun s' q => ⟨(fun x => nomatch x), fin s' q⟩) h
end
section
variable {prog : Program} {w : World} {A : Around} {E : Value → Shared → Prop} {s : Shared} {l : Addr} {xs : Array (Int × Tok)}
theorem sum_tup {Q : Value → Shared → Prop} (hh : A.handled = none) (hl : s.heap.IsTuple l (intItems xs))
    (h : ∀ h' tk t', (∀ b o, s.heap.get? b = some o → h'.get? b = some o) → Q (.int (preSum (numAt xs) xs.size) t') { s with heap := h', toks := tk }) :
    wpAny (model prog w) A (call (.builtin "sum") [.ref l]) Q E s := by
  have hlt : l < s.heap.objs.size := by obtain ⟨_, e, _⟩ := hl; exact Heap.lt_size e
  refine call_sum_walkG (wpAny_pyIter_tuple hl ?_)
  refine ⟨_, _, _, _, _, _, numAt xs, rfl, Walks.tuple (A := A.in1) hh _ l (Nat.ne_of_lt hlt) (intItems xs), ⟨⟨_, Heap.get?_push_size _ rfl, rfl, rfl⟩, hl.push _⟩, fun b hb => ?_, (fun _ _ => intItems_at), fun h' tk t' hk => ?_⟩
  · show b < (s.heap.push _).objs.size
    rw [Heap.size_push]
    rcases List.mem_cons.mp hb with rfl | hb
    · exact Nat.lt_succ_self _
    · rcases List.mem_cons.mp hb with rfl | hb
      · exact Nat.lt_succ_of_lt hlt
      · cases hb
  · have hold : ∀ b o, s.heap.get? b = some o → h'.get? b = some o := fun b o e => by
      refine hk b o (fun hm => ?_) (Heap.get?_push_of_some _ e)
      rcases List.mem_cons.mp hm with e1 | hm
      · exact absurd (e1 ▸ Heap.lt_size e) (Nat.lt_irrefl _)
      · cases hm
    have := h h' tk t' hold
    simpa [intItems] using this
theorem sum_tup_raw {its : List Value} {ns : List Int} {Q : Value → Shared → Prop} (hh : A.handled = none) (hl : s.heap.IsTuple l its.toArray) (hi : PyProof.Rows.IntsAre its ns)
    (h : ∀ h' tk t', (∀ b o, s.heap.get? b = some o → h'.get? b = some o) → Q (.int ns.sum t') { s with heap := h', toks := tk }) : wpAny (model prog w) A (call (.builtin "sum") [.ref l]) Q E s := by
  obtain ⟨xs, e⟩ := hi.allInts.items
  have hn : numsOf (intItems xs).toList = ns := by rw [← e]; exact hi.numsOf
  rw [nums_intItems] at hn
  rw [e] at hl
  refine sum_tup hh hl fun h' tk t' hk => ?_
  have := h h' tk t' hk
  rw [preSum_eq, List.take_of_length_le (by simp), hn]; exact this
end
end NeL
namespace Gd
open PySem PySem.Spec PyProof.Rows L2
open PySem.SeqAt (EqAt)
/-- x != y of two lists, item by item equal -/
def rNeL (D : Eqv) : R2 := fun x y H Q => DList D x y H ∧ ∀ H', L2.Ext H H' → Q (.bl false) H'
theorem op_neL {X : Cx} {n : Nat} {D : Eqv} (hD : Mon D) (h : EqG X n D) (hr : Room (n + 1) X.A) : OpR X (compareOp .NotEq) (rNeL D) := by
  intro pins s σ H x y v u Q I rx ry hw
  obtain ⟨⟨a, b, xs, ys, rfl, rfl, ha, hb, p⟩, q⟩ := hw
  cases rx
  cases ry
  show wpAny (model X.prog X.w) X.A (richCompare .NotEq (.ref a) (.ref b)) (EP X pins σ Q) X.xe s
  refine NeL.rc (N := xs.length) hr.units0 (fun _ s' => LoopI X pins σ H s') (fun i s' q => ?_) (fun t z => ?_) ⟨H, I, L2.Ext.rfl'⟩
  · obtain ⟨H1, I1, e1⟩ := id q
    obtain ⟨z, its, k, r, e⟩ := I1.hok a _ (e1 _ _ ha)
    obtain ⟨z2, its2, k2, r2, e2⟩ := I1.hok b _ (e1 _ _ hb)
    refine ⟨its.toArray, its2.toArray, k, k2, e, e2, by rw [List.size_toArray, ← r.length], by rw [List.size_toArray, ← r2.length, ← p.1], fun h1 h2 => ?_⟩
    exact turnG hD h ⟨hr, rfl⟩ p r r2 i h1 h2 s' q
  · obtain ⟨H', I', e⟩ := z
    exact ⟨.bl false, H', I', rfl, q H' e⟩
section
variable {X : Cx}
/-- sum(t) of a tuple of ints -/
def rSumT (K : PySem.W.Frag) : List V → Hp → VK → Prop := fun vs H Q => ∃ (a : Addr) (ns : List Int), vs = [V.ref a] ∧ SqT K H a (ns.map V.int) ∧ Q (.int ns.sum) H
theorem cr_sumT (hc : X.calm = true) : CallR X (.builtin "sum") (rSumT X.K) := by
  intro pins s σ H vs us Q I r h
  obtain ⟨a, ns, rfl, hs, q⟩ := h
  obtain ⟨its, rv, hl, _⟩ := I.tuple hs
  rw [Vals.ref1 r]
  exact NeL.sum_tup_raw (I.ok.hd hc) hl (intsAre_of rv) fun h' tk t' hk => ⟨.int _, H, I.kept hk, ⟨_, rfl⟩, q⟩
/-- t.count(k) of a tuple of ints -/
def rCntT (K : PySem.W.Frag) : V → List V → Hp → VK → Prop := fun x xs H Q => ∃ (p : Addr) (ns : List Int) (k : Int), x = .ref p ∧ xs = [.int k] ∧ SqT K H p (ns.map V.int) ∧ Q (.int (ns.count k : Nat)) H
theorem mt_tcount : MtR X "tuple.count" (rCntT X.K) := by
  intro pins s σ H x xs v us Q I rx rxs h
  obtain ⟨p, ns, k, rfl, rfl, hs, q⟩ := h
  cases rx
  obtain ⟨u, rfl, ru⟩ := rxs.one
  obtain ⟨t, rfl⟩ := ru
  obtain ⟨its, rv, ⟨⟨cls, dd, data, sl⟩, ho, hc, n, hd⟩, hlen⟩ := I.tuple hs
  simp only at hc hd
  subst hc hd
  have hi := intsAre_of rv
  refine call_meets PySem.F.slot_tuple_count ⟨_, ho, rfl⟩ PySem.F.entry_tuple_count (PySem.F.args_tuple_count_2 _ _)
    (SeqAt.tuple_countAt p its.toArray n dd sl (.int k t) (eqk k)) ⟨ho, fun y hy => (eqk_gives hi y (by simpa using hy)).at _ _, ?_⟩
  have ec : its.toArray.toList.countP (eqk k) = ns.count k := eqk_count hi
  refine ⟨.int (ns.count k : Nat), H, I.tok _, ⟨s.toks, ?_⟩, q⟩
  show Value.int ((its.toArray.toList.countP (eqk k) : Nat) : Int) s.toks = Value.int ((ns.count k : Nat) : Int) s.toks
  rw [ec]
def pdata (ns : List Int) : List PyData := ns.map PyData.int
theorem pdp {K : PySem.W.Frag} {H : Hp} : ∀ ns : List Int, DpAll K H (ns.map V.int) (pdata ns)
  | [] => .nil
  | n :: r => .cons (.int n) (pdp r)
theorem play : ∀ ns : List Int, PyData.canLayAll0 (pdata ns) = true
  | [] => by simp [pdata, PyData.canLayAll0]
  | n :: r => by
    have := play r
    unfold pdata at this ⊢
    simp [PyData.canLayAll0, PyData.canLay0, this]
theorem peqv : ∀ ns ms : List Int, PyData.eqvAll (pdata ns) (pdata ms) = decide (ns = ms)
  | [], [] => by simp [pdata, PyData.eqvAll]
  | [], _ :: _ => by simp [pdata, PyData.eqvAll]
  | _ :: _, [] => by simp [pdata, PyData.eqvAll]
  | n :: r, m :: q => by
    have := peqv r q
    unfold pdata at this ⊢
    simp [PyData.eqvAll, PyData.eqv, this, Bool.decide_and]
    rfl
theorem lex_self : ∀ ns : List Int, HT.lexLt ns ns = false
  | [] => rfl
  | n :: r => by rw [HT.lexLt_cons, if_pos rfl]; exact lex_self r
/-- (i, t) < (j, u), ints and tuples of ints -/
def pairLt (i j : Int) (ns ms : List Int) : Bool := if i = j then HT.lexLt ns ms else decide (i < j)
def rLtP (K : PySem.W.Frag) : R2 := fun x y H Q => ∃ a b p q i j ns ms, x = .ref a ∧ y = .ref b ∧ SqT K H a [.int i, .ref p] ∧ SqT K H b [.int j, .ref q] ∧ SqT K H p (ns.map V.int) ∧ SqT K H q (ms.map V.int) ∧
  Q (.bl (pairLt i j ns ms)) H
theorem vals_ir {i : Int} {p : Addr} {us : List Value} (r : Vals [V.int i, V.ref p] us) : ∃ t, us = [Value.int i t, Value.ref p] := by
  cases r with
  | cons r t =>
    cases t with
    | cons r2 t2 =>
      cases t2
      obtain ⟨t, rfl⟩ := r
      cases r2
      exact ⟨t, rfl⟩
theorem eqAt_ints {pins : List (Addr × Obj)} {s : Shared} {σ : L2.St} {H : Hp} {A : Around} {p q : Addr} {ns ms : List Int} (I : Inv X pins σ H s) (hp : SqT X.K H p (ns.map V.int)) (hq : SqT X.K H q (ms.map V.int)) (hu : A.units + 64 < cLine) :
    EqAt A s (.ref p) (.ref q) (decide (ns = ms)) := by
  obtain ⟨as, r1⟩ := Dp.reads I (.tuple (pdata ns)) (.ref p) (.ref p) (.tup hp (pdp ns)) (show RelV (V.ref p) (Value.ref p) from rfl)
  obtain ⟨bs, r2⟩ := Dp.reads I (.tuple (pdata ms)) (.ref q) (.ref q) (.tup hq (pdp ms)) (show RelV (V.ref q) (Value.ref q) from rfl)
  have h := SeqAt.eqAt_reads _ _ A s _ _ _ _ r1 r2 (by simp [PyData.canLay0, play]) (by simp [PyData.canLay0, play]) (by
    have d : ∀ ns : List Int, PyData.depthAll (pdata ns) = 0 := fun ns => by
      induction ns with
      | nil => simp [pdata, PyData.depthAll]
      | cons n r ih =>
        unfold pdata at ih ⊢
        simp [PyData.depthAll, PyData.depth, ih]
    simp [PyData.depth, d]
    omega)
  simp only [PyData.eqv, peqv] at h
  exact h
theorem op_ltP (hu : X.A.units + 66 < cLine) : OpR X (compareOp .Lt) (rLtP X.K) := by
  intro pins s σ H x y v u Q I rx ry h
  obtain ⟨a, b, p, q, i, j, ns, ms, rfl, rfl, ha, hb, hp, hq, k⟩ := h
  cases rx
  cases ry
  obtain ⟨its, r1, p1, _⟩ := I.tuple ha
  obtain ⟨its2, r2, p2, _⟩ := I.tuple hb
  obtain ⟨t1, rfl⟩ := vals_ir r1
  obtain ⟨t2, rfl⟩ := vals_ir r2
  obtain ⟨us, v1, e1, _⟩ := I.tuple hp
  obtain ⟨vs, v2, e2, _⟩ := I.tuple hq
  have hA : X.A.in1.units + 64 < cLine := by
    show X.A.units + 1 + 64 < cLine
    omega
  have key := Ob.RcOp.tuples_lt (A := X.A) (s := s) (l := a) (b := b) (items := #[.int i t1, .ref p]) (items2 := #[.int j t2, .ref q]) (e := fun k => if k = 0 then decide (i = j) else decide (ns = ms)) (r := fun k => if k = 0 then decide (i < j) else HT.lexLt ns ms) p1 p2 (by omega)
    (fun k h1 h2 => ?_) (fun k h1 h2 hk => ?_)
  · refine key X.prog X.w X.xe _ ?_
    have e : Ob.lexAt (fun k => if k = 0 then decide (i = j) else decide (ns = ms)) (fun k => if k = 0 then decide (i < j) else HT.lexLt ns ms) (decide ((#[Value.int i t1, Value.ref p] : Array Value).size < (#[Value.int j t2, Value.ref q] : Array Value).size)) 0 (min (#[Value.int i t1, Value.ref p] : Array Value).size (#[Value.int j t2, Value.ref q] : Array Value).size) = pairLt i j ns ms := by
      show Ob.lexAt _ _ (decide (2 < 2)) 0 2 = _
      rw [Ob.lexAt_succ, Ob.lexAt_succ, Ob.lexAt_zero]
      unfold pairLt
      by_cases c1 : i = j
      · subst c1
        by_cases c2 : ns = ms
        · subst c2
          simp [lex_self]
        · simp [c2]
      · simp [c1]
    rw [e]
    exact ⟨.bl _, H, I, rfl, k⟩
  · match k, h1 with
    | 0, _ =>
      have := EqAt.int_int (A := X.A.in1) (s := s) i t1 j t2
      have e : (i == j) = decide (i = j) := rfl
      rw [e] at this
      simpa using this
    | 1, _ =>
      have := eqAt_ints I hp hq hA
      simpa using this
    | k + 2, h1 => exact absurd h1 (by simp)
  · match k, h1 with
    | 0, _ => exact Ob.RcOp.lt_int i j t1 t2
    | 1, _ =>
      intro prog w E Q' hQ
      exact HT.lt_tupInts e1 e2 (intsAre_of v1) (intsAre_of v2) (by omega) hQ
    | k + 2, h1 => exact absurd h1 (by simp)
end
end Gd
namespace Gd
open PySem PySem.Spec PyProof.Rows L2
/-- xs != [] -/
def rNeNil (K : PySem.W.Frag) : R2 := fun x y H Q => ∃ (a b : Addr) (xs : List V), x = .ref a ∧ y = .ref b ∧ SqL K H a xs ∧ SqL K H b [] ∧ Q (.bl (!xs.isEmpty)) H
theorem op_neNil {X : Cx} (hu : X.A.units < cLine) : OpR X (compareOp .NotEq) (rNeNil X.K) := by
  intro pins s σ H x y v u Q I rx ry h
  obtain ⟨a, b, xs, rfl, rfl, ha, hb, q⟩ := h
  cases rx
  cases ry
  obtain ⟨its, r1, p1, _⟩ := I.list ha
  obtain ⟨its2, r2, p2, _⟩ := I.list hb
  cases r2
  cases r1 with
  | nil => exact PySem.SeqAt.RcNeAt.lists (e := fun _ => true) p1.isList p2.isList rfl hu (fun j h1 _ => absurd h1 (Nat.not_lt_zero _)) _ _ _ _ ⟨.bl false, H, I, rfl, q⟩
  | cons r t => exact PySem.SeqAt.RcNeAt.lists_lengths p1.isList p2.isList rfl hu _ _ _ _ ⟨.bl true, H, I, rfl, q⟩
end Gd

set_option Elab.async false
set_option linter.all false
set_option maxRecDepth 100000
set_option maxHeartbeats 4000000
/-! Tuples of which it is known that they have no dict: so their methods can be called. -/
namespace Gd
open PySem PySem.Spec PyProof.Rows L2
def TupX (K : PySem.W.Frag) (H : Hp) (a : Addr) (xs : List V) : Prop := (∃ o : Obj, H a = some (.frz o (.tup xs)) ∧ o.dict = none) ∨
  ∃ (o : Obj) (its : Array Value) (n : Nat), K.lookup a = some o ∧ o.cls = .type "tuple" ∧ o.dict = none ∧ o.data = .seq its n ∧ its.size ≤ sizeLine ∧ Vals xs its.toList
theorem TupX.sq {K : PySem.W.Frag} {H : Hp} {a : Addr} {xs : List V} (h : TupX K H a xs) : SqT K H a xs := by
  rcases h with ⟨o, h, _⟩ | ⟨o, its, n, h, c, _, r⟩
  · exact .inl (.inr ⟨o, h⟩)
  · exact .inr ⟨o, its, n, h, c, r⟩
theorem TupX.ext {K : PySem.W.Frag} {H H' : Hp} {a : Addr} {xs : List V} (e : ∀ b o, H b = some o → H' b = some o) (h : TupX K H a xs) : TupX K H' a xs := by
  rcases h with ⟨o, h, d⟩ | h
  · exact .inl ⟨o, e _ _ h, d⟩
  · exact .inr h
theorem TupX.new {K : PySem.W.Frag} {H : Hp} {p : Addr} {xs : List V} {o : Obj} (d : o.dict = none) : TupX K (upd H p (.frz o (.tup xs))) p xs := .inl ⟨o, upd_same, d⟩
section
variable {X : Cx} {pins : List (Addr × Obj)} {σ : L2.St} {H : Hp} {s : Shared}
theorem TupX.is {a : Addr} {xs : List V} (I : Inv X pins σ H s) (h : TupX X.K H a xs) : s.TypeIs (.ref a) "tuple" ∧ ∀ b, Value.ref a = .ref b → ∃ ob, s.heap.get? b = some ob ∧ ob.dict = none := by
  rcases h with ⟨o, h, d⟩ | ⟨o, its, n, h, c, d, _⟩
  · obtain ⟨e, _, its, _, ob, e2, c, _⟩ := I.hok a _ h
    rw [e] at e2
    cases e2
    exact ⟨⟨o, e, c⟩, fun b z => by cases z; exact ⟨o, e, d⟩⟩
  · exact ⟨⟨o, I.kIn _ o h, c⟩, fun b z => by cases z; exact ⟨o, I.kIn _ o h, d⟩⟩
/-- t.m(..) of such a tuple -/
def tBMT (K : PySem.W.Frag) (r : V → List V → Hp → VK → Prop) (to : TE) (t : TA) : TE := fun σ H Q => to σ H fun x H1 => (∃ a xs, x = .ref a ∧ TupX K H1 a xs) ∧ t σ H1 fun xs H2 => r x xs H2 Q
theorem pe_bmT {o e : Expr} {es : List Expr} {to : TE} {t : TA} {name : Str} {apos cpos : Pos} {id : String} {r : V → List V → Hp → VK → Prop} (pa : PlainAttrs "tuple") (slot : Slot "tuple" name id) (hty : typeOf (.builtin id) = pure (.type "method_descriptor")) (hm : MtR X id r) (ho : PE X o to) (ha : PA X (e :: es) t)
    (hbase : attributeBase o name X.env (eval o X.env) = eval o X.env := by rfl)
    (hfew : ((backTo cpos (starEach (e :: es) X.env)).all (fun x => !x.1) && (backToKw cpos (keywordEach [] X.env)).all (fun x => x.1.isSome)
      && decide ((e :: es).length + ([] : List Keyword).length + (if ([] : List Keyword).isEmpty then 0 else 1) < 30)) = true := by rfl)
    (hline : (apos.endLine == cpos.line) = true := by rfl) (hs : starEach (e :: es) X.env = (false, eval e X.env) :: starEach es X.env := by rfl) (hplain : (backTo cpos (starEach es X.env)).any (·.1) = false := by rfl) :
    PE X (.Call (.Attribute o name apos) (e :: es) [] cpos) (tBMT X.K r to t) := by
  refine ⟨fun pins s σ H Q I h => ?_⟩
  refine wpAny_Call_method_late hbase hfew hline rfl (thn (ho.run pins s σ H _ I h) fun v s1 ⟨x, H1, I1, r1, ⟨a, xs, ex, hx⟩, q1⟩ => ?_)
  subst ex
  cases r1
  obtain ⟨h1, h2⟩ := TupX.is I1 hx
  refine ⟨"tuple", id, pa, slot, hty, h1, h2, ?_⟩
  have hA := ha.run cpos pins s1 σ H1 _ I1 q1
  rw [hs] at hA ⊢
  refine Calls.callWith_builtin (by show (false || (backTo cpos (starEach es X.env)).any (·.1)) = false; rw [hplain] <;> rfl) (Calls.evalArgs_plain ?_)
  exact thn hA fun us s2 ⟨vs, H2, I2, r2, q2⟩ => hm pins s2 σ H2 (.ref a) vs (.ref a) us Q I2 rfl r2 q2
/-! making them -/
def tTupX (t : TA) : TE := fun σ H Q => t σ H fun xs H1 => xs.length ≤ sizeLine ∧ ∀ p o, H1 p = none → o.dict = none → Q (.ref p) (upd H1 p (.frz o (.tup xs)))
theorem pe_tupX {es : List Expr} {t : TA} {pos : Pos} {x1} (h : PA X es t) : PE X (.Tuple es x1 pos) (tTupX t) := by
  refine ⟨fun pins s σ H Q I hq => ?_⟩
  refine wpAny_Tuple_spliced (thn (h.run pos pins s σ H _ I hq) fun us s1 ⟨xs, H1, I1, r, z, q⟩ => ⟨by rw [← r.length]; exact z, ?_⟩)
  have hf : H1 s1.heap.objs.size = none := I1.hok.fresh (Nat.le_refl _)
  refine ⟨.ref s1.heap.objs.size, upd H1 s1.heap.objs.size (.frz { cls := .type "tuple", data := .seq us.toArray } (.tup xs)), I1.laid (t' := s1.toks) (fun b u e => Heap.get?_push_of_some _ e) (Nat.le_refl _) ?_, rfl, q _ _ hf rfl⟩
  exact ⟨Heap.get?_push_size _ rfl, z, us, r, ⟨_, Heap.get?_push_size _ rfl, rfl, _, rfl⟩⟩
def rTupX (K : PySem.W.Frag) : List V → Hp → VK → Prop := fun xs H Q => ∃ p ys, xs = [.ref p] ∧ ((SqL K H p ys ∧ ∀ l o, H l = none → o.dict = none → Q (.ref l) (upd H l (.frz o (.tup ys)))) ∨ (SqT K H p ys ∧ Q (.ref p) H))
theorem call_tupX : CallR X (.type "tuple") (rTupX X.K) := by
  intro pins s σ H xs us Q I r h
  obtain ⟨p, ys, rfl, h⟩ := h
  obtain ⟨u, rfl, rx⟩ := vals1 r
  cases rx
  rcases h with ⟨hq, q⟩ | ⟨hq, q⟩
  · obtain ⟨its, r', pl, hz⟩ := I.list hq
    have hlen := r'.length
    refine call_tuple_list pl.isList (fun h' kp => ?_) (by simp only [List.size_toArray] <;> omega)
    have I1 : Inv X pins σ H { s with heap := h' } := I.kept (t' := s.toks) kp
    have I2 : Inv X pins σ (upd H h'.objs.size (.frz { cls := .type "tuple", data := .seq its.toArray } (.tup ys))) { s with heap := h'.push { cls := .type "tuple", data := .seq its.toArray } } :=
      I1.laid (t' := s.toks) (fun b o e => Heap.get?_push_of_some _ e) (Nat.le_refl _) (show ObjOk X.prog X.w _ _ _ (.frz _ (.tup ys)) from ⟨Heap.get?_push_size _ rfl, hz, its, r', IsTup.new _ _⟩)
    exact ⟨.ref h'.objs.size, _, I2, rfl, q _ _ (I1.hok.fresh (Nat.le_refl _)) rfl⟩
  · obtain ⟨its, r', pl, hz⟩ := I.tuple hq
    exact call_tuple_same pl ⟨.ref p, H, I, rfl, q⟩
def rCatX (K : PySem.W.Frag) : R2 := fun x y H Q => ∃ a b xs ys, x = .ref a ∧ y = .ref b ∧ TupX K H a xs ∧ TupX K H b ys ∧ xs.length + ys.length ≤ sizeLine ∧ ∀ H' p, L2.Ext H H' → TupX K H' p (xs ++ ys) → Q (.ref p) H'
theorem op_catX : OpR X (binaryOp .Add) (rCatX X.K) := by
  intro pins s σ H x y v u Q I rx ry h
  obtain ⟨a, b, xs, ys, rfl, rfl, ha, hb, hz, q⟩ := h
  cases rx
  cases ry
  obtain ⟨its, r1, p1, _⟩ := I.tuple ha.sq
  obtain ⟨its2, r2, p2, _⟩ := I.tuple hb.sq
  by_cases hx : xs = []
  · subst hx
    cases r1
    exact cat_tup0 p1 p2 ⟨.ref b, H, I, rfl, q H b (fun _ _ z => z) hb⟩
  · refine HT.cat_tup p1 p2 (fun z => hx (r1.nil_iff.mp z)) (fun z => ⟨.ref a, H, I, rfl, q H a (fun _ _ z => z) (by rw [r2.nil_iff.mp z, List.append_nil]; exact ha)⟩) (fun z => ?_) (by rw [← r1.length, ← r2.length]; exact hz)
    refine ⟨.ref s.heap.objs.size, _, I.laid (t' := s.toks) (o := .frz { cls := .type "tuple", data := .seq (its ++ its2).toArray } (.tup (xs ++ ys))) (fun b ob q => Heap.get?_push_of_some _ q) (Nat.le_refl _) ?_, rfl, q _ _ ?_ (TupX.new rfl)⟩
    · exact ⟨Heap.get?_push_size _ rfl, by rw [List.length_append]; exact hz, _, r1.append r2, IsTup.new _ _⟩
    · intro b o q
      rw [upd_ne (ne_of_none q (I.hok.fresh (Nat.le_refl _)))]
      exact q
end
theorem g_tupX {t : TA} {σ : L2.St} {H : Hp} {Q : VK} (k : t σ H fun xs H1 => xs.length ≤ sizeLine ∧ ∀ p o, H1 p = none → o.dict = none → Q (.ref p) (upd H1 p (.frz o (.tup xs)))) : tTupX t σ H Q := k
theorem g_bmT {K : PySem.W.Frag} {r : V → List V → Hp → VK → Prop} {to : TE} {t : TA} {σ : L2.St} {H : Hp} {Q : VK} (k : to σ H fun x H1 => (∃ a xs, x = .ref a ∧ TupX K H1 a xs) ∧ t σ H1 fun xs H2 => r x xs H2 Q) : tBMT K r to t σ H Q := k
end Gd

set_option Elab.async false
set_option linter.all false
set_option maxRecDepth 100000
set_option maxHeartbeats 4000000
/-! A tuple times 0 or 1. -/
namespace Gd
open PySem PySem.Spec PyProof.Rows L2
theorem tuple_mul1 (l : Addr) (items : Array Value) (n : Nat) (dd : Option Addr) (sl : Array (Option Value)) (u : Tok) :
    Meets (Builtin.«tuple.__mul__» ⟨[.ref l, .int 1 u], []⟩) (fun _ R s => s.heap.get? l = some { cls := .type "tuple", dict := dd, data := .seq items n, slots := sl } ∧
      R (.ok (.ret (Value.ref l))) s) :=
  .of_wp fun prog w A R s h => by
    obtain ⟨hp, g, d, tk, os⟩ := s
    obtain ⟨hl, h⟩ := h
    have f1 := AutoSeq1.idx_int
    have c1 : (items.isEmpty || (1 : Int) == 1) = true := by simp
    wp_walk using wpAny_loadPart' hl
    repeat (first
      | (refine wpAny_ite_true (decide_eq_true c1) ?_; wp_walk using wpAny_loadPart' hl))
    exact ⟨_, rfl, h⟩

theorem tuple_mul0 (l : Addr) (items : Array Value) (n : Nat) (dd : Option Addr) (sl : Array (Option Value)) (u : Tok) (ne : items.isEmpty = false) :
    Meets (Builtin.«tuple.__mul__» ⟨[.ref l, .int 0 u], []⟩) (fun _ R s => s.heap.get? l = some { cls := .type "tuple", dict := dd, data := .seq items n, slots := sl } ∧
      R (.ok (.ret (Value.ref s.heap.objs.size))) { s with heap := s.heap.push { cls := Value.type "tuple", data := Data.seq #[] }, toks := s.toks }) :=
  .of_wp fun prog w A R s h => by
    obtain ⟨hp, g, d, tk, os⟩ := s
    obtain ⟨hl, h⟩ := h
    have f1 := AutoSeq1.idx_int
    have c1 : ¬ (items.isEmpty || (0 : Int) == 1) = true := by rw [ne]; decide
    have c2 : (decide ((0 : Int) ≤ 0) || items.isEmpty) = true := by simp
    wp_walk using wpAny_loadPart' hl
    repeat (first
      | (refine wpAny_ite_false (decide_eq_false c1) ?_; wp_walk using wpAny_loadPart' hl)
      | (refine wpAny_ite_true (decide_eq_true c2) ?_; wp_walk using wpAny_loadPart' hl))
    exact ⟨_, rfl, h⟩
def rRepA (K : PySem.W.Frag) : R2 := fun x y H Q => ∃ l k xs, x = .ref l ∧ y = .int k ∧ SqT K H l xs ∧ xs ≠ [] ∧ 0 ≤ k ∧ k ≤ 1000 ∧ xs.length ≤ 1000 ∧
  (k = 1 → Q (.ref l) H) ∧ (k ≠ 1 → ∀ p, H p = none → Q (.ref p) (upd H p (.tup (List.replicate k.toNat xs).flatten)))
section
variable {X : Cx}
theorem op_repA : OpR X (binaryOp .Mult) (rRepA X.K) := by
  intro pins s σ H x y v u Q I rx ry h
  obtain ⟨l, k, xs, rfl, rfl, hT, hne, h1, h2, hz, q1, q2⟩ := h
  by_cases big : 2 ≤ k
  · exact op_repT pins s σ H _ _ v u Q I rx ry ⟨l, k, xs, rfl, rfl, hT, hne, big, h2, hz, q2 (by omega)⟩
  cases rx
  obtain ⟨t, rfl⟩ := ry
  obtain ⟨its, r, ⟨⟨cls, dd, data, sl⟩, ho, hc, n, hd⟩, hs⟩ := I.tuple hT
  simp only at hc hd
  subst hc hd
  have hle : its.length = xs.length := r.length.symm
  have hi : its.toArray.isEmpty = false := by
    cases its with
    | nil => exact absurd (List.eq_nil_of_length_eq_zero hle.symm) hne
    | cons a b => rfl
  have hk : k = 0 ∨ k = 1 := by omega
  rcases hk with rfl | rfl
  · refine wpAny_binaryOp_repeat_ref (T := "tuple") (U := "int") (by decide) ⟨_, ho, rfl⟩ (fun s' => typeIs_int s' 0 t) noFill_tuple_mul F.fills_int_mul F.slot_int_rmul repeat_tuple F.slot_int_index.lookup
      (call_meets F.slot_int_rmul (typeIs_int s 0 t) F.entry_int_rmul (F.args_int_rmul_2 _ _) (int_rmul_tuple 0 t l its.toArray n dd sl)
        ⟨ho, rfl, ⟨_, ho, rfl⟩, call_meets F.slot_tuple_mul ⟨_, ho, rfl⟩ F.entry_tuple_mul (F.args_tuple_mul_2 _ _) (tuple_mul0 l its.toArray n dd sl t hi) ⟨ho, ?_⟩⟩)
    have q := q2 (by decide) _ (I.hok.fresh (Nat.le_refl _))
    refine ⟨.ref s.heap.objs.size, _, I.laid (t' := s.toks) (o := .tup (List.replicate (0 : Int).toNat xs).flatten) (fun b ob q => Heap.get?_push_of_some _ q) (Nat.le_refl _) ?_, rfl, q⟩
    exact ⟨Nat.zero_le _, [], .nil, IsTup.new _ _⟩
  · refine wpAny_binaryOp_repeat_ref (T := "tuple") (U := "int") (by decide) ⟨_, ho, rfl⟩ (fun s' => typeIs_int s' 1 t) noFill_tuple_mul F.fills_int_mul F.slot_int_rmul repeat_tuple F.slot_int_index.lookup
      (call_meets F.slot_int_rmul (typeIs_int s 1 t) F.entry_int_rmul (F.args_int_rmul_2 _ _) (int_rmul_tuple 1 t l its.toArray n dd sl)
        ⟨ho, rfl, ⟨_, ho, rfl⟩, call_meets F.slot_tuple_mul ⟨_, ho, rfl⟩ F.entry_tuple_mul (F.args_tuple_mul_2 _ _) (tuple_mul1 l its.toArray n dd sl t) ⟨ho, ?_⟩⟩)
    exact ⟨.ref l, H, I, rfl, q1 rfl⟩
end
end Gd

set_option Elab.async false
set_option linter.all false
set_option maxRecDepth 100000
set_option maxHeartbeats 4000000
/-! A tuple many times. -/
namespace Gd
open PySem PySem.Spec PyProof.Rows L2
/-- t * k, t not empty, few values in all -/
def rRepB (K : PySem.W.Frag) : R2 := fun x y H Q => ∃ l k xs, x = .ref l ∧ y = .int k ∧ SqT K H l xs ∧ xs ≠ [] ∧ 0 ≤ k ∧ k ≤ 100000 ∧ xs.length ≤ 10 ∧
  (k = 1 → Q (.ref l) H) ∧ (k ≠ 1 → ∀ p, H p = none → Q (.ref p) (upd H p (.tup (List.replicate k.toNat xs).flatten)))
section
variable {X : Cx}
theorem op_repB : OpR X (binaryOp .Mult) (rRepB X.K) := by
  intro pins s σ H x y v u Q I rx ry h
  obtain ⟨l, k, xs, rfl, rfl, hT, hne, h1, h2, hz, q1, q2⟩ := h
  by_cases few : k ≤ 1
  · exact op_repA pins s σ H _ _ v u Q I rx ry ⟨l, k, xs, rfl, rfl, hT, hne, h1, by omega, by omega, q1, q2⟩
  have two : 2 ≤ k := by omega
  have q := q2 (by omega)
  clear q1 q2
  cases rx
  obtain ⟨t, rfl⟩ := ry
  obtain ⟨its, r, ⟨⟨cls, dd, data, sl⟩, ho, hc, n, hd⟩, hs⟩ := I.tuple hT
  simp only at hc hd
  subst hc hd
  have len : its.length = xs.length := r.length.symm
  have some_ : its.toArray.isEmpty = false := by
    cases its with
    | nil => exact absurd (List.eq_nil_of_length_eq_zero len.symm) hne
    | cons a b => rfl
  have sz : its.toArray.size = xs.length := by rw [List.size_toArray, len]
  have all_ : ((its.toArray.size : Nat) : Int) * k ≤ 1000000 := by
    rw [sz]
    have a1 : ((xs.length : Nat) : Int) * k ≤ 10 * k := Int.mul_le_mul_of_nonneg_right (by omega) (by omega)
    omega
  have many : k.toNat * xs.length ≤ 100000 * 10 := Nat.mul_le_mul (by omega) hz
  have flat_ : (List.replicate k.toNat its).flatten.length ≤ sizeLine := by
    rw [PyProof.Rows.lm_len_rep_flat, len, sizeLine_eq]
    omega
  have d0 : (decide (k < -(2 ^ 63)) || decide (k ≥ 2 ^ 63)) = false := by
    rw [decide_eq_false (by omega), decide_eq_false (by omega)]
    rfl
  have d1 : (its.toArray.isEmpty || k == 1) = false := by
    rw [some_, Bool.false_or]
    exact beq_eq_false_iff_ne.mpr (by omega)
  have d2 : (decide (k ≤ 0) || its.toArray.isEmpty) = false := by
    rw [some_, Bool.or_false]
    exact decide_eq_false (by omega)
  have d4 : Builtin.Tuple.tupleTooMany (((its.toArray.size : Nat) : Int) * k) = false := by
    unfold Builtin.Tuple.tupleTooMany
    rw [sizeLine_eq]
    exact decide_eq_false (by omega)
  have met := tuple_mulW l its.toArray n dd sl k t d0 d1 d2 (by omega) d4 (by rw [size_rep, List.size_toArray]; exact flat_)
  refine wpAny_binaryOp_repeat_ref (T := "tuple") (U := "int") (by decide) ⟨_, ho, rfl⟩ (fun s' => typeIs_int s' k t) noFill_tuple_mul F.fills_int_mul F.slot_int_rmul repeat_tuple F.slot_int_index.lookup
    (call_meets F.slot_int_rmul (typeIs_int s k t) F.entry_int_rmul (F.args_int_rmul_2 _ _) (int_rmul_tuple k t l its.toArray n dd sl)
      ⟨ho, rfl, ⟨_, ho, rfl⟩, call_meets F.slot_tuple_mul ⟨_, ho, rfl⟩ F.entry_tuple_mul (F.args_tuple_mul_2 _ _) met ⟨ho, ?_⟩⟩)
  rw [size_rep]
  refine ⟨.ref s.heap.objs.size, _, I.laid (t' := s.toks) (o := .tup (List.replicate k.toNat xs).flatten) (fun b ob q => Heap.get?_push_of_some _ q) (Nat.le_refl _) ?_, rfl, q _ (I.hok.fresh (Nat.le_refl _))⟩
  exact ⟨by rw [PyProof.Rows.lm_len_rep_flat, sizeLine_eq]; omega, _, r.rep k.toNat, IsTup.new _ _⟩
end
end Gd

set_option Elab.async false
set_option linter.all false
set_option maxRecDepth 100000
set_option maxHeartbeats 4000000
/-! The first field of an exception of an own class that stands directly below a builtin one. -/
namespace GdX
open PySem PySem.Calls PyProof.Rows PySem.HandSPX Builtin Builtin.ObjectAttr
section
variable {prog : Program} {w : World} {A : Around} {R : Result → Shared → Prop} {hp : Heap} {g : Array GenState} {d : Drawn} {t : Nat} {os : OsState}
theorem osaG {B : String} {bmB : List Value} (SF : StoreFacts B bmB "object.__setattr__" "object") {K : W.Frag} {name : Str} {tk : Tok} {v : Value} {x C : Addr} {fv : Array Value} {cd : ClassData}
    (X : K.In hp) (hx : hp.get? x = some { cls := .ref C, data := .fields fv }) (hcd : W.clsIn K C = some cd)
    (hm : cd.mro = .ref C :: bmB) (hh : cd.hasDict = true) (ha : W.findIn K (.ref C) name = some none)
    (hq : ∀ h' tk' dx, (∀ b o, b ≠ x → hp.get? b = some o → h'.get? b = some o) → hp.objs.size ≤ dx → dx ≠ x →
      h'.get? x = some { cls := .ref C, dict := some dx, data := .fields fv } →
      h'.Ns1 dx (fun y => if y = name then some v else none) → R (.ok (.ret .none)) ⟨h', g, d, tk', os⟩) :
    codeAny (model prog w) A (.call (.builtin "object.__setattr__") ⟨[.ref x, .str name tk, v], []⟩) R ⟨hp, g, d, t, os⟩ := by
  have I : W.InstAt hp x { cls := .ref C, data := .fields fv } C none := ⟨hx, rfl, rfl, trivial⟩
  have ne : cd.mro.isEmpty = false := by rw [hm]; rfl
  have hob : cd.mro.contains (.type "object") = true := by
    rw [hm, List.contains_cons, SF.hasOwner, Bool.or_true]
  have hxs : x ≠ hp.objs.size := Nat.ne_of_lt (Heap.lt_size hx)
  have sub : W.Looks (model prog w) hp (isInstance (.ref x) (.type "object")) true := by
    refine I.type.andThen (W.looks_mroIn X ?_)
    unfold W.mroIn
    rw [hcd, Option.bind_some, if_neg (by rw [ne]; decide), hob]
  refine codeAny_call_builtin SF.slot.plain SF.entry (@W.check_slot (model prog w) _ _ ⟨hp, g, d, t, os⟩ "object.__setattr__" "object" "__setattr__" (.ref x) [.str name tk, v] [] _
    SF.kind SF.split sub (SF.args (.ref x) (.str name tk) v) ?_)
  have hmr : W.Looks (model prog w) hp (mroOf (.ref C)) cd.mro := (W.looks_clsIn X hcd).andThen .now
  have L3 : W.Looks (model prog w) hp (storeTaker? none) none := .now
  have hcls : W.Looks (model prog w) hp (classData C) cd := W.looks_clsIn X hcd
  rw [W.osa_eq, refuse_eq]
  refine wpAny_bind (wpAny_bind (I.type.at (wpAny_bind (hmr.at ?_))))
  rw [hm, refuseLoop_ref, SF.passes]
  refine wpAny_pure (wpAny_bind (I.type.at (wpAny_bind ((W.looks_findIn X ha).at (wpAny_bind (L3.at ?_))))))
  show wpAny _ _ (storeInOwnDict (.ref x) (.ref C) (.str name tk) name v false) _ _ _
  clear hmr hob ne sub hm
  obtain ⟨nm, bs, mro, ns, qn, hd, sn, sb, ab, col, del⟩ := cd
  have hh' : hd = true := hh
  subst hh'
  unfold storeInOwnDict ownDictForStores
  repeat (first
    | with_reducible refine store_in_new ?_ ?_
    | with_reducible refine wpAny_loadPart_at hx ?_
    | with_reducible refine hcls.at ?_
    | wp_step)
  · exact ⟨_, #[], _, (Heap.get?_update_ne _ _ _ _ hxs.symm).trans (Heap.get?_push_at rfl rfl), rfl, fun e he => absurd he (by simp), fun _ => rfl⟩
  · intro h' tk' hn' hs
    have hx₁ : (hp.push { cls := .type "dict", data := .dict #[] }).get? x = some { cls := .ref C, data := .fields fv } := Heap.get?_push_of_some _ hx
    refine hq h' tk' hp.objs.size (fun b o hb ho => ?_) (Nat.le_refl _) hxs.symm ?_ hn'
    · have far : b ≠ hp.objs.size := Nat.ne_of_lt (Heap.lt_size ho)
      exact (hs.2 b far).trans ((Heap.get?_update_ne _ _ _ _ hb).trans (Heap.get?_push_of_some _ ho))
    · exact (hs.2 x hxs).trans (Heap.get?_update_self _ hx₁ rfl)
end
end GdX

set_option Elab.async false
set_option linter.all false
set_option maxRecDepth 100000
set_option maxHeartbeats 4000000
namespace PySem
namespace XInvalidNumber
open PySem.W PySem.Calls PyProof.Rows PySem.HandSPX
/-! ### the text of __init__ -/
def iA (p1 p2 : Pos) : Arguments := { posonlyargs := [], args := [{ arg := "self", annotation := none, pos := p1 }, { arg := "value", annotation := none, pos := p2 }], vararg := none, kwonlyargs := [], kw_defaults := [], kwarg := none, defaults := [] }
def iB (q1 q2 q3 q4 : Pos) : List Stmt := [.Assign [.Attribute (.Name "self" q1) "value" q2] (.Name "value" q3) q4]
def iS : Scope := { kind := .function, names := [(PySem.Str.ofString "self", .local), (PySem.Str.ofString "value", .local)], isGenerator := false, isCoroutine := false, more := [] }
/-- what the written part says of Low, at C, and of its __init__, at fI -/
structure InvalidNumberTxt (K : Frag) (mg : Str → Option Value) (C fI : Addr) : Prop where
  gC : mg "InvalidNumber" = some (.ref C)
  cls : ∃ nm q N bs sn sub ab col dd k0 k1 k2 k3 k5, K.lookup C = some (excClassObj nm q C N bs [.type "IndexError", .type "LookupError", .type "Exception", .type "BaseException", .type "object"] true sn sub ab col dd k0 k1 k2 k3 k5 "IndexError.__new__")
  sa : findIn K (.ref C) "__setattr__" = some (some (.builtin "object.__setattr__"))
  ga : findIn K (.ref C) "__getattribute__" = some (some (.builtin "BaseException.__getattribute__"))
  gg : findIn K (.ref C) "__getattr__" = some none
  noN : findIn K (.ref C) "value" = some none
  iC : findIn K (.ref C) "__init__" = some (some (.ref fI))
  tC : typeIn K (.ref fI) = some (.type "function")
  kC : keepIn K (.ref C) = true
  exC : subIn K (.ref C) (.type "BaseException") = some true
  tyC : typeIn K (.ref C) = some (.type "type")
  hdC : hasDictIn K C = true
  te : exmOne K (.ref C) (.ref C) = some true
  fn : ∃ (oc : Value) (od : Option Addr) (doc pm : Value) (an : Option Addr) (cdv ct : Value) (osl : Array (Option Value)) (p1 p2 q1 q2 q3 q4 : Pos),
    K.lookup fI = some ⟨oc, od, .func (fnOf "__init__" "InvalidNumber.__init__" (iA p1 p2) (iB q1 q2 q3 q4) iS .none .none doc pm an cdv ct), osl⟩ ∧ codeIn K cdv "InvalidNumber.__init__" = true
theorem one_size (v : Value) : [v].length ≤ sizeLine := by
  rw [sizeLine_eq]
  exact (by decide : 1 ≤ 16777216)
theorem kept_but {K : Frag} {h h' : Heap} {x : Addr} (X : K.In h) (hx : K.lookup x = none) (k : ∀ b o, b ≠ x → h.get? b = some o → h'.get? b = some o) : K.In h' := fun a o e =>
  k a o (fun z => by rw [z, hx] at e; cases e) (X a o e)
theorem ldC {M : Model} {s : Shared} {name : Str} {scope : Scope} {L a : Addr} {cd : Value} {m : Str → Option Value} {x : Str} {pos : Pos} {v : Value} {Q : Value → Shared → Prop} {A : Around} {E : Value → Shared → Prop} (hn : s.heap.Ns L m) (hv : m x = some v) (h : Q v s)
    (hk : scope.kind = .function := by rfl) (hl : (envOfC name scope L a cd).kindOf x = some .local := by rfl) (hd : (x == ("__debug__" : Str)) = false := by decide) :
    wpAny M A (eval (.Name x pos) (envOfC name scope L a cd)) Q E s := wpAny_Name (wpAny_loadName_local hk hl hn hv h) hd
/-- what __init__ leaves of a fresh exception at x -/
structure InitEnd (h h' : Heap) (x C dx t1 : Addr) (v : Value) : Prop where
  keep : ∀ b o, b ≠ x → h.get? b = some o → h'.get? b = some o
  obj : h'.get? x = some { cls := .ref C, dict := some dx, data := .fields #[.ref t1, .none, .none, .none, .bool false, .none] }
  dbig : h.objs.size ≤ dx
  dne : dx ≠ x
  ns : h'.Ns1 dx (fun y => if y = "value" then some v else none)
/-- a made Low -/
structure OwnMade (h h' : Heap) (e C d : Addr) (v : Value) : Prop where
  keep : ∀ b o, h.get? b = some o → h'.get? b = some o
  new : h.objs.size ≤ e
  obj : ∃ oe vs, h'.get? e = some oe ∧ oe.cls = .ref C ∧ oe.dict = some d ∧ oe.data = .fields vs ∧ vs[1]? = some .none
  dbig : h.objs.size ≤ d
  dne : d ≠ e
  ns : h'.Ns1 d (fun y => if y = "value" then some v else none)
section
variable {prog : Program} {w : World} {A : Around} {E : Value → Shared → Prop} {R : Result → Shared → Prop} {s : Shared} {K : Frag} {mg : Str → Option Value} {C fI : Addr}
theorem low_init (T : InvalidNumberTxt K mg C fI) {x t0 : Addr} {v : Value} (X : K.In s.heap) (hlim : s.heap.NoLimit) (hx : s.heap.get? x = some (excO C t0)) (hnx : K.lookup x = none) (hroom : A.depth < recursionLimit)
    (hq : ∀ h' tk dx, InitEnd s.heap h' x C dx t0 v → R (.ok (.ret .none)) { s with heap := h', toks := tk }) :
    codeAny (model prog w) A (.call (.ref fI) ⟨[.ref x, v], []⟩) R s := by
  obtain ⟨oc, od, doc, pm, an, cdv, ct, osl, p1, p2, q1, q2, q3, q4, ho, hcd⟩ := T.fn
  obtain ⟨nm, q, N, bs, sn, sub, ab, col, dd, k0, k1, k2, k3, k5, hC⟩ := T.cls
  have hcl : clsIn K C = some { name := nm, bases := bs, mro := .ref C :: [.type "IndexError", .type "LookupError", .type "Exception", .type "BaseException", .type "object"], ns := N, qualname := q, hasDict := true, slotNames := sn, subclasses := sub, abstract := ab, collection := col, hasDel := false } := by unfold clsIn; rw [hC] <;> rfl
  refine Att.call_fn (binds := [("self", .ref x), ("value", v)]) X hlim ho hcd hroom (BindsTo.of_eq (by first | rfl | with_unfolding_all rfl)) (by first | rfl | decide | with_unfolding_all rfl) (fun s₁ IC => ?_) rfl rfl rfl
  obtain ⟨h₁, tk₁, rfl⟩ := IC.toInCall.same
  have k : ∀ b o, s.heap.get? b = some o → h₁.get? b = some o := IC.toInCall.keep
  have hn := IC.toInCall.ns
  have hxL : s.heap.objs.size ≠ x := Nat.ne_of_gt (Heap.lt_size hx)
  have X₁ : K.In h₁ := X.keeps k
  have hx₁ := k _ _ hx
  -- self.by = by
  show wpAny _ _ (execs _ _) _ _ _
  refine wpAny_execs_cons (plainObj_wpAny_Assign_Attribute ?_)
  refine ldC (v := v) hn (by first | rfl | with_unfolding_all rfl | kernel_rfl) (ldC (v := .ref x) hn (by first | rfl | with_unfolding_all rfl | kernel_rfl) ?_)
  refine set_plain X₁ (ox := excO C t0) (od := none) ⟨hx₁, rfl, rfl, trivial⟩ T.sa ?_
  refine GdX.osaG F.store_IndexError X₁ hx₁ hcl rfl rfl T.noN (fun h₃ tk₃ dx k₃ dn dne hx₃ hn₃ => ?_)
  show wpAny _ _ (execs _ _) _ _ _
  have z : s.heap.objs.size < h₁.objs.size := hn.lt
  exact wpAny_execs_nil (hq h₃ tk₃ dx ⟨fun b o hb e => k₃ b o hb (k b o e), hx₃, Nat.le_of_lt (Nat.lt_of_lt_of_le z dn), dne, hn₃⟩)
theorem low_made (T : InvalidNumberTxt K mg C fI) {v : Value} (X : K.In s.heap) (hlim : s.heap.NoLimit) (hroom : A.depth + 1 < recursionLimit)
    (hq : ∀ h' tk e d, OwnMade s.heap h' e C d v → R (.ok (.ret (.ref e))) { s with heap := h', toks := tk }) :
    codeAny (model prog w) A (.call (.ref C) ⟨[v], []⟩) R s := by
  obtain ⟨nm, q, N, bs, sn, sub, ab, col, dd, k0, k1, k2, k3, k5, hC⟩ := T.cls
  obtain ⟨hp, g, dr, tk, os⟩ := s
  have k : ∀ b o, hp.get? b = some o → ((hp.push (kdv_tup [v])).push (excO C hp.objs.size)).get? b = some o := fun b o e => Heap.get?_push_of_some _ (Heap.get?_push_of_some _ e)
  have hget : ((hp.push (kdv_tup [v])).push (excO C hp.objs.size)).get? (hp.objs.size + 1) = some (excO C hp.objs.size) := by heap_get
  have hnx : K.lookup (hp.objs.size + 1) = none := by
    cases e : K.lookup (hp.objs.size + 1) with
    | none => rfl
    | some o =>
      have z : hp.get? (hp.objs.size + 1) = some o := X _ _ e
      exact absurd (Nat.lt_of_succ_lt (Heap.lt_size z)) (Nat.lt_irrefl _)
  refine call_own F.excBase_IndexError (fun _ => rfl) (X _ _ hC) (looks_findIn X T.iC) (fun self => bind_fn X self T.tC) (one_size v) ?_
  refine low_init (s := ⟨(hp.push (kdv_tup [v])).push (excO C hp.objs.size), g, dr, tk, os⟩) T (X.keeps k) (hlim.keeps k) hget hnx ?_ fun h' tk' dx ⟨k', hx, dn, dne, hns⟩ => ?_
  · show A.depth + 1 < recursionLimit
    exact hroom
  · have old : ∀ b o, hp.get? b = some o → h'.get? b = some o := fun b o e => k' b o (Nat.ne_of_lt (Nat.lt_succ_of_lt (Heap.lt_size e))) (k b o e)
    have z : hp.objs.size + 1 + 1 ≤ dx := by
      first
        | (simpa only [Heap.size_push] using dn)
        | exact dn
        | (have q := dn; rw [Heap.size_push, Heap.size_push] at q; exact q)
    exact ⟨rfl, hq h' tk' (hp.objs.size + 1) dx ⟨old, Nat.le_succ _, ⟨_, _, hx, rfl, rfl, rfl, rfl⟩, Nat.le_trans (Nat.le_trans (Nat.le_succ _) (Nat.le_succ _)) z, dne, hns⟩⟩
end
end XInvalidNumber
end PySem
namespace L2
open PySem PySem.Spec PyProof.Rows
theorem relO_InvalidNumber {v : V} {v' : Value} (r : RelV v v') (f : Str) : RelO (List.lookup f [(("value" : Str), v)]) (if f = "value" then some v' else none) := by
  by_cases hw : f = "value"
  · subst hw
    rw [if_pos rfl]
    have q : List.lookup ("value" : Str) [(("value" : Str), v)] = some v := by simp [List.lookup]
    rw [q]
    exact r
  · rw [if_neg hw]
    have qw : (f == ("value" : Str)) = false := by simpa using hw
    have q2 : List.lookup f [(("value" : Str), v)] = none := by simp [List.lookup, qw]
    rw [q2]
    trivial
section
variable {X : Cx} {C fI : Addr}
/-- Low(e) -/
def tMkInvalidNumber (C : Addr) (ta : TA) : St → Hp → XK → Prop := fun σ H Q => ta σ H fun vs H1 => ∃ v, vs = [v] ∧ ∀ d, H1 d = none → Q (.ref C) (some d) (upd H1 d (.xd [(("value" : Str), v)]))
theorem pmk_InvalidNumber {a : Expr} {ta : TA} {p pos : Pos} {k : Nat} (T : PySem.XInvalidNumber.InvalidNumberTxt X.K X.mg C fI) (hr : Room k X.A) (ha : PA X [a] ta) (hg : Gl X "InvalidNumber" := by rfl)
    (he : starEach (a :: []) X.env = (false, eval a X.env) :: starEach [] X.env := by rfl) (hpl : (backTo pos (starEach [] X.env)).any (·.1) = false := by rfl) :
    PMk X (.Call (.Name "InvalidNumber" p) [a] [] pos) (tMkInvalidNumber C ta) := by
  intro pins s σ H Q I h
  refine wpAny_Call_Name_kw (ld_glob I hg T.gC ?_)
  refine PySem.W.callWith_K (h₀ := X.base) I.ok.mod.kin T.kC (thn (ha.run pos pins s σ H _ I h) fun us s1 hh => ?_) he hpl
  obtain ⟨vs, H1, I1, r1, v, ev, q1⟩ := hh
  subst ev
  refine ⟨I1.kIn, ?_⟩
  cases r1 with
  | cons rv rn =>
    rename_i v' us'
    cases rn
    show wpAny _ _ (call (.ref C) [v']) _ _ _
    have hlim := I1.nolimit
    obtain ⟨hp, g, dr, tk, os⟩ := s1
    refine wpAny_call (PySem.XInvalidNumber.low_made T I1.kIn hlim (by have := hr.dp; omega) fun h' tk' e d M => ?_)
    show MkP X pins σ Q (.ref e) ⟨h', g, dr, tk', os⟩
    obtain ⟨oe, fv, hoe, hc, hd, hdat, h1⟩ := M.obj
    have hns := M.ns
    obtain ⟨G', g1, g2⟩ := restrict h' fun b => decide (b ≠ e)
    have gk : ∀ b, b ≠ e → G'.get? b = h'.get? b := fun b hb => g1 b (decide_eq_true hb)
    have ge : G'.get? e = none := g2 e (by simp)
    have old : ∀ b o, hp.get? b = some o → G'.get? b = some o := fun b o q => (gk b (Nat.ne_of_lt (Nat.lt_of_lt_of_le (Heap.lt_size q) M.new))).trans (M.keep b o q)
    have ob : ObjOk X.prog X.w (upd H1 d (.xd [(("value" : Str), v)])) G' d (.xd [(("value" : Str), v)]) :=
      ⟨_, hns.at (fun o q => (gk d M.dne).trans q), fun f => relO_InvalidNumber rv f⟩
    have J : Inv X pins σ (upd H1 d (.xd [(("value" : Str), v)])) ⟨G', g, dr, tk', os⟩ := I1.laid (t' := tk') old M.dbig ob
    refine ⟨e, oe, fv, ⟨G', g, dr, tk', os⟩, _, .ref C, some d, rfl, J, fun b o q => ?_, ge, hoe, ⟨hc, hd⟩, hdat, h1, ?_, rfl, I1.bare, raises_own T.exC T.tyC, q1 d (I1.hok.fresh M.dbig)⟩
    · by_cases hb : b = e
      · have q' : G'.get? b = some o := q
        rw [hb, ge] at q'; cases q'
      · exact (gk b hb).symm.trans q
    · rw [upd_ne (Ne.symm M.dne)]
      exact I1.hok.fresh M.new
/-- raise Low(e) -/
def tRaiseInvalidNumber (C : Addr) (W : WX) (ta : TA) : TS := fun _ σ H => tMkInvalidNumber C ta σ H fun cls d H' => W cls d σ H'
theorem ps_raiseInvalidNumber {a : Expr} {ta : TA} {W : WX} {p pos pos2 : Pos} {k : Nat} (hc : X.calm = true) (T : PySem.XInvalidNumber.InvalidNumberTxt X.K X.mg C fI) (hr : Room k X.A) (tk : Takes X W) (ha : PA X [a] ta) (hg : Gl X "InvalidNumber" := by rfl)
    (he : starEach (a :: []) X.env = (false, eval a X.env) :: starEach [] X.env := by rfl) (hpl : (backTo pos (starEach [] X.env)).any (·.1) = false := by rfl) :
    PS X (.Raise (some (.Call (.Name "InvalidNumber" p) [a] [] pos)) none pos2) (tRaiseInvalidNumber C W ta) := ps_raise hc tk (pmk_InvalidNumber T hr ha hg he hpl)
/-- low.by, low the exception that the suite holds (at a; its class cls, its dict d) -/
def tByInvalidNumber (C : Addr) (a : Addr) (cls : Value) (d : Option Addr) (te : TE) : TE := fun σ H Q => te σ H fun x H1 => x = .ref a ∧ cls = .ref C ∧ ∃ (dd : Addr) (v : V), d = some dd ∧ H1 dd = some (.xd [(("value" : Str), v)]) ∧ Q v H1
theorem pe_byInvalidNumber {a : Addr} {oe : Obj} {cls : Value} {d : Option Addr} {pn : List (Addr × Obj)} {e : Expr} {te : TE} {pos : Pos} (T : PySem.XInvalidNumber.InvalidNumberTxt X.K X.mg C fI) (hz : Zc cls d oe) (hf : ∃ vs, oe.data = .fields vs) (he : PE (X.suite a ((a, oe) :: pn)) e te)
    (hb : attributeBase e "value" X.env (eval e X.env) = eval e X.env := by rfl) :
    PE (X.suite a ((a, oe) :: pn)) (.Attribute e "value" pos) (tByInvalidNumber C a cls d te) := by
  refine ⟨fun pins s σ H Q I h => ?_⟩
  refine attr_of hb (thn (he.run pins s σ H _ I h) fun u s1 hh => ?_)
  obtain ⟨x, H1, I1, rx, ex, ec, dd, v, ed, ea, q⟩ := hh
  subst ex
  obtain rfl : u = Value.ref a := rx
  subst ec
  subst ed
  obtain ⟨ha, _⟩ := I1.pin (a, oe) (List.mem_append_left _ List.mem_cons_self)
  obtain ⟨vs, hd⟩ := hf
  have hx : ObjOk X.prog X.w H1 s1.heap dd (.xd [(("value" : Str), v)]) := I1.hok dd _ ea
  obtain ⟨mA, hns, hr⟩ := hx
  obtain ⟨od, ho, hl⟩ := lookIn_ns hns
  have l : List.lookup ("value" : Str) [(("value" : Str), v)] = some v := by simp [List.lookup]
  obtain ⟨u, hu, ru⟩ := RelO.some_of (v := v) (o := mA "value") (by rw [← l]; exact hr "value")
  have J : PySem.W.InstAt s1.heap a oe C (some od) := ⟨ha, hz.1, by unfold PySem.W.notCls; rw [hd] <;> rfl, by rw [hz.2]; exact ho⟩
  exact HandSPX.exc_get I1.kIn J T.ga T.gg T.exC (PySem.W.findObj_own T.hdC T.noN rfl (by rw [hl, hu])) (handed_of ru) ⟨v, H1, I1.tok _, ru, q⟩
end
end L2

set_option Elab.async false
set_option linter.all false
set_option maxRecDepth 100000
set_option maxHeartbeats 4000000
/-! xs[::-1] of a list; xs == [] ; the greatest of a tuple. -/
namespace Gd
open PySem PySem.Spec PyProof.Rows L2
section
variable {X : Cx}
def tRevL (K : PySem.W.Frag) (te : TE) : TE := fun σ H Q => te σ H fun x H1 => ∃ a xs, x = .ref a ∧ SqL K H1 a xs ∧ ∀ p, H1 p = none → Q (.ref p) (upd H1 p (.lst xs.reverse))
theorem pe_revL {e : Expr} {te : TE} {k : Nat} {p1 p2 p3 pos : Pos} (he : PE X e te) : PE X (.Subscript e (.Slice none none (some (.UnaryOp .USub (.Constant (.int 1) k p1) p2)) p3) pos) (tRevL X.K te) := by
  constructor
  intro pins s σ H Q I h
  refine Subscript_ (thn (he.run pins s σ H _ I h) fun v s1 ⟨x, H1, I1, r1, a, xs, ex, hx, q⟩ => ?_)
  subst ex
  cases r1
  have step : PO X (some (.UnaryOp .USub (.Constant (.int 1) k p1) p2)) (tPart (tUn (rU fun i => .int (-i)) (tC (.int 1)))) := po_some (pe_un un_neg pe_int)
  refine wpAny_Slice (thn (po_none.run pins s1 σ H1 (fun o G => o = none ∧ G = H1) I1 ⟨rfl, rfl⟩) fun vl s2 ⟨l, G, I2, pl, el, eG⟩ => ?_)
  subst el eG
  refine thn (po_none.run pins s2 σ G (fun o G2 => o = none ∧ G2 = G) I2 ⟨rfl, rfl⟩) fun vu s3 ⟨u, G2, I3, pu, eu, eG2⟩ => ?_
  subst eu eG2
  refine thn (step.run pins s3 σ G2 (fun o G3 => o = some (-1) ∧ G3 = G2) I3 ⟨1, rfl, -1, rfl, rfl, rfl⟩) fun vs s4 ⟨o, G3, I4, ps, eo, eG3⟩ => ?_
  subst eo eG3
  let sh : Shared := { s4 with heap := s4.heap.push { cls := .type "slice", data := .fields #[vl, vu, vs] } }
  have J : Inv X pins σ G3 sh := I4.kept (t' := s4.toks) fun b ob z => Heap.get?_push_of_some _ z
  obtain ⟨its, r, ht, hz⟩ := J.list hx
  have hlen := r.length
  show wpAny (model X.prog X.w) X.A (subscriptTail e (.Slice none none (some (.UnaryOp .USub (.Constant (.int 1) k p1) p2)) p3) (.ref a) (.ref s4.heap.objs.size)) (EP X pins σ Q) X.xe sh
  refine tail_any (ops := [.ref a, .ref s4.heap.objs.size]) ht.isList.typeIs (PySem.F.slot_list_getitem.lookup) ?_ (by with_unfolding_all rfl)
  refine wpAny_getItem_list_slice ht.isList (Heap.IsSliceOf.new _ vl vu vs) pl pu ps (by decide) ?_ (by rw [List.size_toArray]; omega)
  rw [PySem.W.krv_pick]
  refine ⟨.ref _, _, J.laid (t' := s4.toks) (o := .lst xs.reverse) (fun b ob z => Heap.get?_push_of_some _ z) (Nat.le_refl _) ?_, rfl, q _ (J.hok.fresh (Nat.le_refl _))⟩
  exact ⟨by rw [List.length_reverse]; exact hz, _, 0, r.reverse, Heap.get?_push_size _ rfl⟩
/-- xs == [] -/
def rEqNil (K : PySem.W.Frag) : R2 := fun x y H Q => ∃ (a b : Addr) (xs : List V), x = .ref a ∧ y = .ref b ∧ SqL K H a xs ∧ SqL K H b [] ∧ Q (.bl xs.isEmpty) H
theorem op_eqNil (hu : X.A.units < cLine) : OpR X (compareOp .Eq) (rEqNil X.K) := by
  intro pins s σ H x y v u Q I rx ry h
  obtain ⟨a, b, xs, rfl, rfl, ha, hb, q⟩ := h
  cases rx
  cases ry
  obtain ⟨its, r1, p1, _⟩ := I.list ha
  obtain ⟨its2, r2, p2, _⟩ := I.list hb
  cases r2
  cases r1 with
  | nil => exact PySem.SeqAt.RcAt.lists (e := fun _ => true) p1.isList p2.isList rfl hu (fun j h1 _ => absurd h1 (Nat.not_lt_zero _)) _ _ _ _ ⟨.bl true, H, I, rfl, q⟩
  | cons r t => exact PySem.SeqAt.RcAt.lists_lengths p1.isList p2.isList rfl hu _ _ _ _ ⟨.bl false, H, I, rfl, q⟩
end
section
variable {prog : Program} {w : World} {A : Around} {E : Value → Shared → Prop} {s : Shared} {l : Addr} {xs : Array (Int × Tok)}
theorem max_tup {Q : Value → Shared → Prop} (hh : A.handled = none) (hl : s.heap.IsTuple l (intItems xs)) (hne : 0 < xs.size)
    (h : ∀ v h' tk, (intItems xs)[argBest (fun i j => decide (numAt xs i > numAt xs j)) (xs.size - 1)]? = some v → (∀ b o, s.heap.get? b = some o → h'.get? b = some o) → Q v { s with heap := h', toks := tk }) :
    wpAny (model prog w) A (call (.builtin "max") [.ref l]) Q E s := by
  have hlt : l < s.heap.objs.size := by obtain ⟨_, e, _⟩ := hl; exact Heap.lt_size e
  refine call_max_walk (wpAny_pyIter_tuple hl ?_)
  refine ⟨_, _, _, _, _, _, _, rfl, Walks.tuple (A := A.in1) hh _ l (Nat.ne_of_lt hlt) (intItems xs), ⟨⟨_, Heap.get?_push_size _ rfl, rfl, rfl⟩, hl.push _⟩, fun b hb => ?_, by simpa [intItems] using hne, CmpOf.ints_gt (numAt xs) (fun _ _ => intItems_at), fun v h' tk hP hk => ?_⟩
  · show b < (s.heap.push _).objs.size
    rw [Heap.size_push]
    rcases List.mem_cons.mp hb with rfl | hb
    · exact Nat.lt_succ_self _
    · rcases List.mem_cons.mp hb with rfl | hb
      · exact Nat.lt_succ_of_lt hlt
      · cases hb
  · refine h v h' tk (by simpa [intItems] using hP) fun b o e => hk b o (fun hm => ?_) (Heap.get?_push_of_some _ e)
    rcases List.mem_cons.mp hm with e1 | hm
    · exact absurd (e1 ▸ Heap.lt_size e) (Nat.lt_irrefl _)
    · cases hm
theorem max_tup_raw {its : List Value} {ns : List Int} {Q : Value → Shared → Prop} (hh : A.handled = none) (hl : s.heap.IsTuple l its.toArray) (hi : IntsAre its ns) (hne : 0 < ns.length)
    (h : ∀ h' tk M t', (∀ b o, s.heap.get? b = some o → h'.get? b = some o) → M ∈ ns → (∀ a, a ∈ ns → a ≤ M) → Q (.int M t') { s with heap := h', toks := tk }) : wpAny (model prog w) A (call (.builtin "max") [.ref l]) Q E s := by
  obtain ⟨xs, e⟩ := hi.allInts.items
  have hn : numsOf (intItems xs).toList = ns := by rw [← e]; exact hi.numsOf
  rw [nums_intItems] at hn
  subst hn
  rw [e] at hl
  have hsz : 0 < xs.size := by simpa using hne
  refine max_tup hh hl hsz fun v h' tk hv hk => ?_
  obtain ⟨t, rfl⟩ := intItems_at hv
  obtain ⟨h1, h2⟩ := argBest_gt (numAt xs) (xs.size - 1)
  refine h h' tk _ t hk ?_ fun a ha => ?_
  · rw [numAt_eq]; exact PySem.getD_mem (by rw [List.length_map, Array.length_toList]; omega)
  · obtain ⟨j, hj, rfl⟩ := mem_getD ha
    rw [List.length_map, Array.length_toList] at hj
    rw [← numAt_eq]; exact h2 j (by omega)
end
section
variable {X : Cx}
/-- max(t) of a tuple of ints -/
def rMaxT (K : PySem.W.Frag) : List V → Hp → VK → Prop := fun vs H Q => ∃ (a : Addr) (ns : List Int), vs = [V.ref a] ∧ SqT K H a (ns.map V.int) ∧ 0 < ns.length ∧ ∀ m, m ∈ ns → (∀ y, y ∈ ns → y ≤ m) → Q (.int m) H
theorem cr_maxT (hc : X.calm = true) : CallR X (.builtin "max") (rMaxT X.K) := by
  intro pins s σ H vs us Q I r h
  obtain ⟨a, ns, rfl, hs, hne, q⟩ := h
  obtain ⟨its, rv, hl, _⟩ := I.tuple hs
  rw [Vals.ref1 r]
  exact max_tup_raw (I.ok.hd hc) hl (intsAre_of rv) hne fun h' tk m t' hk h1 h2 => ⟨.int _, H, I.kept hk, ⟨_, rfl⟩, q m h1 h2⟩
end
end Gd

set_option Elab.async false
set_option linter.all false
set_option maxRecDepth 100000
set_option maxHeartbeats 4000000
/-! Words and how their weight is found, step by step. -/
namespace Kn
abbrev W := Nat → Int
def put (v : W) (q : Nat) : W := fun j => if j = q then 0 else v j
theorem put_same {v : W} {q : Nat} : put v q q = 0 := by simp [put]
theorem put_ne {v : W} {q j : Nat} (h : j ≠ q) : put v q j = v j := by simp [put, h]
/-- the letter l nearest ahead of p -/
def Ahead (v : W) (l : Int) (p q : Nat) : Prop := v q = l ∧ q < p ∧ ∀ j, q < j → j < p → v j ≠ l
/-- the last letter l, none is ahead of p -/
def Behind (v : W) (l : Int) (p q : Nat) : Prop := v q = l ∧ (∀ j, j < p → v j ≠ l) ∧ ∀ j, q < j → v j ≠ l
inductive Cfg where
  | idle (v : W) (acc : Nat)
  | at (v : W) (p x : Nat) (l : Int) (acc : Nat)
inductive Step : Cfg → Cfg → Prop
  | begin {v : W} {q acc : Nat} (h : v q = 1) (m : ∀ j, q < j → v j ≠ 1) : Step (.idle v acc) (.at (put v q) q 0 2 acc)
  | ahead {v : W} {p q x acc : Nat} {l : Int} (h : Ahead v l p q) : Step (.at v p x l acc) (.at (put v q) q x (l + 1) (acc + x))
  | behind {v : W} {p q x acc : Nat} {l : Int} (h : Behind v l p q) : Step (.at v p x l acc) (.at (put v q) q (x + 1) (l + 1) (acc + (x + 1)))
  | done {v : W} {p x acc : Nat} {l : Int} (h : ∀ j, v j ≠ l) : Step (.at v p x l acc) (.idle v acc)
inductive Reach : Cfg → Cfg → Prop
  | refl {c : Cfg} : Reach c c
  | tail {a b c : Cfg} (h : Reach a b) (s : Step b c) : Reach a c
theorem Reach.trans {a b c : Cfg} (h : Reach a b) (k : Reach b c) : Reach a c := by
  induction k with
  | refl => exact h
  | tail _ s ih => exact .tail ih s
theorem Reach.head {a b c : Cfg} (s : Step a b) (k : Reach b c) : Reach a c := Reach.trans (.tail .refl s) k
/-- the weight of a word -/
def Charge (v : W) (N : Nat) : Prop := ∃ u, Reach (.idle v 0) (.idle u N) ∧ ∀ j, u j ≠ 1
theorem uniq_last {v : W} {l : Int} {q r : Nat} (h : v q = l) (m : ∀ j, q < j → v j ≠ l) (h2 : v r = l) (m2 : ∀ j, r < j → v j ≠ l) : q = r := by
  rcases Nat.lt_trichotomy q r with z | z | z
  · exact absurd h2 (m r z)
  · exact z
  · exact absurd h (m2 q z)
theorem Ahead.uniq {v : W} {l : Int} {p q r : Nat} (h : Ahead v l p q) (k : Ahead v l p r) : q = r := by
  rcases Nat.lt_trichotomy q r with z | z | z
  · exact absurd k.1 (h.2.2 r z k.2.1)
  · exact z
  · exact absurd h.1 (k.2.2 q z h.2.1)
theorem Step.det {a b c : Cfg} (h : Step a b) (k : Step a c) : b = c := by
  cases h with
  | begin h m => cases k with
    | begin h2 m2 => rw [uniq_last h m h2 m2]
  | ahead h => cases k with
    | ahead h2 => rw [h.uniq h2]
    | behind h2 => exact absurd h.1 (h2.2.1 _ h.2.1)
    | done h2 => exact absurd h.1 (h2 _)
  | behind h => cases k with
    | ahead h2 => exact absurd h2.1 (h.2.1 _ h2.2.1)
    | behind h2 => rw [uniq_last h.1 h.2.2 h2.1 h2.2.2]
    | done h2 => exact absurd h.1 (h2 _)
  | done h => cases k with
    | ahead h2 => exact absurd h2.1 (h _)
    | behind h2 => exact absurd h2.1 (h _)
    | done h2 => rfl
theorem Reach.cases_head {a c : Cfg} (h : Reach a c) : a = c ∨ ∃ b, Step a b ∧ Reach b c := by
  induction h with
  | refl => exact .inl rfl
  | tail h s ih =>
    rcases ih with rfl | ⟨b, s1, r⟩
    · exact .inr ⟨_, s, .refl⟩
    · exact .inr ⟨b, s1, .tail r s⟩
theorem final_no {v : W} {acc : Nat} {c : Cfg} (h : ∀ j, v j ≠ 1) (s : Step (.idle v acc) c) : False := by
  cases s with
  | begin h2 m => exact h _ h2
theorem Reach.end_uniq {a b c : Cfg} (h : Reach a b) (k : Reach a c) (fb : ∀ d, ¬ Step b d) (fc : ∀ d, ¬ Step c d) : b = c := by
  induction k with
  | refl =>
    rcases h.cases_head with e | ⟨d, s, _⟩
    · exact e.symm
    · exact absurd s (fc d)
  | @tail x y k s ih =>
    -- a reaches x, which steps to y; b is final
    have : ∀ {a b : Cfg}, Reach a b → (∀ d, ¬ Step b d) → ∀ {x}, Reach a x → Reach x b := by
      intro a b h fb x k
      induction k with
      | refl => exact h
      | tail _ s ih =>
        rcases ih.cases_head with e | ⟨d, s2, r⟩
        · subst e
          exact absurd s (fb _)
        · rw [← s2.det s]
          exact r
    have r := this h fb (.tail k s)
    rcases r.cases_head with e | ⟨d, s2, _⟩
    · exact e.symm
    · exact absurd s2 (fc d)
theorem Charge.uniq {v : W} {N M : Nat} (h : Charge v N) (k : Charge v M) : N = M := by
  obtain ⟨u, r, f⟩ := h
  obtain ⟨u2, r2, f2⟩ := k
  have e := Reach.end_uniq r r2 (fun d s => final_no f s) (fun d s => final_no f2 s)
  injection e
/-! ### a simulation -/
/-- S and S0 go along with every step -/
structure Sim (S0 : W → W → Prop) (S : W → Nat → W → Nat → Int → Prop) : Prop where
  begin : ∀ {v v' q}, S0 v v' → v q = 1 → (∀ j, q < j → v j ≠ 1) → ∃ q', v' q' = 1 ∧ (∀ j, q' < j → v' j ≠ 1) ∧ S (put v q) q (put v' q') q' 2
  ahead : ∀ {v p v' p' l q}, S v p v' p' l → Ahead v l p q → ∃ q', Ahead v' l p' q' ∧ S (put v q) q (put v' q') q' (l + 1)
  behind : ∀ {v p v' p' l q}, S v p v' p' l → Behind v l p q → ∃ q', Behind v' l p' q' ∧ S (put v q) q (put v' q') q' (l + 1)
  done : ∀ {v p v' p' l}, S v p v' p' l → (∀ j, v j ≠ l) → (∀ j, v' j ≠ l) ∧ S0 v v'
  final : ∀ {v v'}, S0 v v' → (∀ j, v j ≠ 1) → ∀ j, v' j ≠ 1
def Rel (S0 : W → W → Prop) (S : W → Nat → W → Nat → Int → Prop) : Cfg → Cfg → Prop
  | .idle v a, .idle v' a' => S0 v v' ∧ a = a'
  | .at v p x l a, .at v' p' x' l' a' => S v p v' p' l ∧ x = x' ∧ l = l' ∧ a = a'
  | _, _ => False
theorem Sim.step {S0 : W → W → Prop} {S : W → Nat → W → Nat → Int → Prop} (Z : Sim S0 S) {a b a' : Cfg} (h : Rel S0 S a a') (s : Step a b) : ∃ b', Step a' b' ∧ Rel S0 S b b' := by
  cases s with
  | begin h1 m => cases a' with
    | idle v' a' =>
      obtain ⟨h0, rfl⟩ := h
      obtain ⟨q', e1, e2, e3⟩ := Z.begin h0 h1 m
      exact ⟨_, .begin e1 e2, e3, rfl, rfl, rfl⟩
    | «at» => exact h.elim
  | ahead h1 => cases a' with
    | idle => exact h.elim
    | «at» v' p' x' l' a' =>
      obtain ⟨h0, rfl, rfl, rfl⟩ := h
      obtain ⟨q', e1, e2⟩ := Z.ahead h0 h1
      exact ⟨_, .ahead e1, e2, rfl, rfl, rfl⟩
  | behind h1 => cases a' with
    | idle => exact h.elim
    | «at» v' p' x' l' a' =>
      obtain ⟨h0, rfl, rfl, rfl⟩ := h
      obtain ⟨q', e1, e2⟩ := Z.behind h0 h1
      exact ⟨_, .behind e1, e2, rfl, rfl, rfl⟩
  | done h1 => cases a' with
    | idle => exact h.elim
    | «at» v' p' x' l' a' =>
      obtain ⟨h0, rfl, rfl, rfl⟩ := h
      obtain ⟨e1, e2⟩ := Z.done h0 h1
      exact ⟨_, .done e1, e2, rfl⟩
theorem Sim.reach {S0 : W → W → Prop} {S : W → Nat → W → Nat → Int → Prop} (Z : Sim S0 S) {a b a' : Cfg} (h : Rel S0 S a a') (r : Reach a b) : ∃ b', Reach a' b' ∧ Rel S0 S b b' := by
  induction r with
  | refl => exact ⟨a', .refl, h⟩
  | tail _ s ih =>
    obtain ⟨c', r', h'⟩ := ih
    obtain ⟨d', s', h2⟩ := Z.step h' s
    exact ⟨d', .tail r' s', h2⟩
theorem Sim.charge {S0 : W → W → Prop} {S : W → Nat → W → Nat → Int → Prop} (Z : Sim S0 S) {v v' : W} {N : Nat} (h : S0 v v') (c : Charge v N) : Charge v' N := by
  obtain ⟨u, r, f⟩ := c
  obtain ⟨b', r', h'⟩ := Z.reach (a := .idle v 0) (a' := .idle v' 0) ⟨h, rfl⟩ r
  cases b' with
  | idle u' a' =>
    obtain ⟨h1, rfl⟩ := h'
    exact ⟨u', r', Z.final h1 f⟩
  | «at» => exact h'.elim
end Kn

set_option Elab.async false
set_option linter.all false
set_option maxRecDepth 100000
set_option maxHeartbeats 4000000
/-! Two letters side by side that are not neighbours change places. -/
namespace Kn
def sw (i j : Nat) : Nat := if j = i then i + 1 else if j = i + 1 then i else j
theorem sw_sw (i j : Nat) : sw i (sw i j) = j := by
  unfold sw
  by_cases a : j = i
  · subst a
    simp
  · by_cases b : j = i + 1
    · subst b
      simp
    · simp [a, b]
theorem sw_lt {i q p : Nat} (h : q < p) (n : ¬ (q = i ∧ p = i + 1)) : sw i q < sw i p := by
  unfold sw
  split <;> split <;> (try split) <;> (try split) <;> omega
theorem sw_flip {i q p : Nat} (h : sw i q < sw i p) : q < p ∨ (q = i + 1 ∧ p = i) := by
  by_cases z : q = i + 1 ∧ p = i
  · exact .inr z
  · refine .inl ?_
    revert h
    unfold sw
    split <;> split <;> (try split) <;> (try split) <;> omega
theorem sw_inj {i a b : Nat} : sw i a = sw i b ↔ a = b := ⟨fun h => by rw [← sw_sw i a, h, sw_sw], fun h => by rw [h]⟩
theorem put_sw {v v' : W} {i q : Nat} (h : ∀ j, v' (sw i j) = v j) : ∀ j, put v' (sw i q) (sw i j) = put v q j := fun j => by
  unfold put
  by_cases e : j = q
  · rw [if_pos e, if_pos (by rw [e])]
  · rw [if_neg e, if_neg (fun z => e (sw_inj.mp z)), h]
theorem put_or {v : W} {q j : Nat} {X : Int} (h : v j = 0 ∨ v j = X) : put v q j = 0 ∨ put v q j = X := by
  by_cases e : j = q
  · exact .inl (by rw [e, put_same])
  · rw [put_ne e]
    exact h
structure F0 (i : Nat) (X Z : Int) (v v' : W) : Prop where
  sw : ∀ j, v' (sw i j) = v j
  a : v i = 0 ∨ v i = X
  b : v (i + 1) = 0 ∨ v (i + 1) = Z
structure F1 (i : Nat) (X Z : Int) (v : W) (p : Nat) (v' : W) (p' : Nat) (l : Int) : Prop where
  f : F0 i X Z v v'
  pe : p' = Kn.sw i p
  l2 : 2 ≤ l
  pa : p = i → l = X + 1
  pb : p = i + 1 → l = Z + 1
theorem F0.put {i : Nat} {X Z : Int} {v v' : W} (h : F0 i X Z v v') (q : Nat) : F0 i X Z (put v q) (put v' (Kn.sw i q)) := ⟨put_sw h.sw, put_or h.a, put_or h.b⟩
section
variable {i : Nat} {X Z : Int} {v v' : W} {p p' q : Nat} {l : Int}
theorem F0.at (h : F0 i X Z v v') (j : Nat) : v' j = v (Kn.sw i j) := by rw [← h.sw (Kn.sw i j), sw_sw]
theorem F0.no (h : F0 i X Z v v') (n : ∀ j, v j ≠ l) : ∀ j, v' j ≠ l := fun j => by rw [h.at j]; exact n _
theorem F0.next (h : F0 i X Z v v') (X1 : 1 ≤ X) (Z1 : 1 ≤ Z) (hl : 1 ≤ l) (e : v q = l) : F1 i X Z (Kn.put v q) q (Kn.put v' (Kn.sw i q)) (Kn.sw i q) (l + 1) := by
  refine ⟨h.put q, rfl, by omega, fun z => ?_, fun z => ?_⟩
  · subst z
    rcases h.a with a | a <;> omega
  · subst z
    rcases h.b with a | a <;> omega
/-- nothing of l behind q stays so -/
theorem F0.last (h : F0 i X Z v v') (n : X ≠ Z) (hl : 1 ≤ l) (e : v q = l) (m : ∀ j, q < j → v j ≠ l) : ∀ j, Kn.sw i q < j → v' j ≠ l := fun j hj => by
  rw [h.at j]
  rw [← sw_sw i j] at hj
  rcases sw_flip hj with z | ⟨z1, z2⟩
  · exact m _ z
  · rw [z2]
    rw [z1] at e
    rcases h.a with a | a <;> rcases h.b with b | b <;> omega
theorem far_sim (X1 : 1 ≤ X) (Z1 : 1 ≤ Z) (n : X ≠ Z) (n1 : X ≠ Z + 1) (n2 : Z ≠ X + 1) : Sim (F0 i X Z) (F1 i X Z) where
  begin := fun {v v' q} h e m => ⟨Kn.sw i q, by rw [h.sw]; exact e, h.last n (by decide) e m, h.next X1 Z1 (by decide) e⟩
  ahead := fun {v p v' p' l q} h a => by
    have f := h.f
    have hp := h.pe
    subst hp
    have hl := h.l2
    obtain ⟨e, lt, m⟩ := a
    refine ⟨Kn.sw i q, ⟨by rw [f.sw]; exact e, sw_lt lt (fun ⟨z1, z2⟩ => ?_), fun j h1 h2 => ?_⟩, f.next X1 Z1 (by omega) e⟩
    · have := h.pb z2
      rw [z1] at e
      rcases f.a with a | a <;> omega
    · rw [f.at j]
      rw [← sw_sw i j] at h1 h2
      rcases sw_flip h1 with z | ⟨z1, z2⟩
      · rcases sw_flip h2 with y | ⟨y1, y2⟩
        · exact m _ z y
        · rw [y1]
          have := h.pa y2
          rcases f.b with b | b <;> omega
      · rw [z2]
        rw [z1] at e
        rcases f.a with a | a <;> rcases f.b with b | b <;> omega
  behind := fun {v p v' p' l q} h a => by
    have f := h.f
    have hp := h.pe
    subst hp
    have hl := h.l2
    obtain ⟨e, m1, m2⟩ := a
    refine ⟨Kn.sw i q, ⟨by rw [f.sw]; exact e, fun j h2 => ?_, f.last n (by omega) e m2⟩, f.next X1 Z1 (by omega) e⟩
    rw [f.at j]
    rw [← sw_sw i j] at h2
    rcases sw_flip h2 with y | ⟨y1, y2⟩
    · exact m1 _ y
    · rw [y1]
      have := h.pa y2
      rcases f.b with b | b <;> omega
  done := fun h m => ⟨h.f.no m, h.f⟩
  final := fun h m => h.no m
end
end Kn

set_option Elab.async false
set_option linter.all false
set_option maxRecDepth 100000
set_option maxHeartbeats 4000000
/-! Two neighbours change places beside a third letter. -/
namespace Kn
def Blk (i j : Nat) : Prop := i ≤ j ∧ j ≤ i + 2
def Out (i : Nat) (v v' : W) : Prop := ∀ j, ¬ Blk i j → v' j = v j
section
variable {i : Nat} {v v' : W} {p p' q r r' : Nat} {l : Int}
theorem blk3 (h0 : v i ≠ l) (h1 : v (i + 1) ≠ l) (h2 : v (i + 2) ≠ l) : ∀ j, Blk i j → v j ≠ l := fun j ⟨a, b⟩ => by
  have : j = i ∨ j = i + 1 ∨ j = i + 2 := by omega
  rcases this with rfl | rfl | rfl
  · exact h0
  · exact h1
  · exact h2
theorem not_blk : ¬ Blk i q → q < i ∨ i + 2 < q := fun h => by
  unfold Blk at h
  omega
theorem Out.put_o (o : Out i v v') (h : ¬ Blk i q) : Out i (put v q) (put v' q) := fun j hj => by
  unfold put
  split
  · rfl
  · exact o j hj
theorem Out.put_i (o : Out i v v') (h : Blk i r) (h' : Blk i r') : Out i (put v r) (put v' r') := fun j hj => by
  rw [put_ne (q := r') (fun z => hj (by rw [z]; exact h')), put_ne (q := r) (fun z => hj (by rw [z]; exact h))]
  exact o j hj
theorem put_blk (h : ¬ Blk i q) : put v q i = v i ∧ put v q (i + 1) = v (i + 1) ∧ put v q (i + 2) = v (i + 2) := by
  have := not_blk h
  exact ⟨put_ne (by omega), put_ne (by omega), put_ne (by omega)⟩
def Same (i p p' : Nat) : Prop := (p = p' ∧ ¬ Blk i p) ∨ (Blk i p ∧ Blk i p')
theorem Same.lt (s : Same i p p') (h : ¬ Blk i q) (lt : q < p) : q < p' := by
  have := not_blk h
  rcases s with ⟨rfl, _⟩ | ⟨a, b⟩
  · exact lt
  · unfold Blk at a b
    omega
theorem Same.symm (s : Same i p p') : Same i p' p := by
  rcases s with ⟨rfl, n⟩ | ⟨a, b⟩
  · exact .inl ⟨rfl, n⟩
  · exact .inr ⟨b, a⟩
theorem ahead_o (o : Out i v v') (nb : ∀ j, Blk i j → v j ≠ l) (nb' : ∀ j, Blk i j → v' j ≠ l) (s : Same i p p') (a : Ahead v l p q) : ¬ Blk i q ∧ Ahead v' l p' q := by
  obtain ⟨e, lt, m⟩ := a
  have hq : ¬ Blk i q := fun z => nb q z e
  refine ⟨hq, by rw [o q hq]; exact e, s.lt hq lt, fun j h1 h2 => ?_⟩
  by_cases z : Blk i j
  · exact nb' j z
  · rw [o j z]
    exact m j h1 (s.symm.lt z h2)
theorem behind_o (o : Out i v v') (nb : ∀ j, Blk i j → v j ≠ l) (nb' : ∀ j, Blk i j → v' j ≠ l) (s : Same i p p') (a : Behind v l p q) : ¬ Blk i q ∧ Behind v' l p' q := by
  obtain ⟨e, m1, m2⟩ := a
  have hq : ¬ Blk i q := fun z => nb q z e
  refine ⟨hq, by rw [o q hq]; exact e, fun j h2 => ?_, fun j h1 => ?_⟩
  · by_cases z : Blk i j
    · exact nb' j z
    · rw [o j z]
      exact m1 j (s.symm.lt z h2)
  · by_cases z : Blk i j
    · exact nb' j z
    · rw [o j z]
      exact m2 j h1
theorem last_o (o : Out i v v') (nb : ∀ j, Blk i j → v j ≠ l) (nb' : ∀ j, Blk i j → v' j ≠ l) (e : v q = l) (m : ∀ j, q < j → v j ≠ l) : ¬ Blk i q ∧ v' q = l ∧ ∀ j, q < j → v' j ≠ l := by
  have hq : ¬ Blk i q := fun z => nb q z e
  refine ⟨hq, by rw [o q hq]; exact e, fun j h1 => ?_⟩
  by_cases z : Blk i j
  · exact nb' j z
  · rw [o j z]
    exact m j h1
theorem no_o (o : Out i v v') (nb' : ∀ j, Blk i j → v' j ≠ l) (m : ∀ j, v j ≠ l) : ∀ j, v' j ≠ l := fun j => by
  by_cases z : Blk i j
  · exact nb' j z
  · rw [o j z]
    exact m j
/-- the last l of the block stands at r, at r' -/
structure Lst (i : Nat) (v v' : W) (l : Int) (r r' : Nat) : Prop where
  br : Blk i r
  br' : Blk i r'
  e : v r = l
  e' : v' r' = l
  m : ∀ j, Blk i j → r < j → v j ≠ l
  m' : ∀ j, Blk i j → r' < j → v' j ≠ l
theorem Lst.last (L : Lst i v v' l r r') (o : Out i v v') (e : v q = l) (m : ∀ j, q < j → v j ≠ l) : (¬ Blk i q ∧ v' q = l ∧ ∀ j, q < j → v' j ≠ l) ∨ (q = r ∧ v' r' = l ∧ ∀ j, r' < j → v' j ≠ l) := by
  have b1 := L.br
  have b2 := L.br'
  by_cases hq : Blk i q
  · have hr : q = r := by
      rcases Nat.lt_trichotomy q r with z | z | z
      · exact absurd L.e (m r z)
      · exact z
      · exact absurd e (L.m q hq z)
    subst hr
    refine .inr ⟨rfl, L.e', fun j h1 => ?_⟩
    by_cases z : Blk i j
    · exact L.m' j z h1
    · rw [o j z]
      have := not_blk z
      unfold Blk at b1 b2
      exact m j (by omega)
  · have nq := not_blk hq
    have h1 : i + 2 < q := by
      rcases nq with z | z
      · exact absurd L.e (m r (by unfold Blk at b1; omega))
      · exact z
    refine .inl ⟨hq, by rw [o q hq]; exact e, fun j h2 => ?_⟩
    rw [o j (by unfold Blk; omega)]
    exact m j h2
theorem Lst.ahead (L : Lst i v v' l r r') (o : Out i v v') (np : ¬ Blk i p) (a : Ahead v l p q) : (¬ Blk i q ∧ Ahead v' l p q) ∨ (q = r ∧ Ahead v' l p r') := by
  obtain ⟨e, lt, m⟩ := a
  have b1 := L.br
  have b2 := L.br'
  have hp := not_blk np
  by_cases hq : Blk i q
  · have hq2 := hq
    unfold Blk at hq2 b1 b2
    have hr : q = r := by
      rcases Nat.lt_trichotomy q r with z | z | z
      · exact absurd L.e (m r z (by omega))
      · exact z
      · exact absurd e (L.m q hq z)
    subst hr
    refine .inr ⟨rfl, L.e', by omega, fun j h1 h2 => ?_⟩
    by_cases z : Blk i j
    · exact L.m' j z h1
    · rw [o j z]
      have := not_blk z
      exact m j (by omega) h2
  · have nq := not_blk hq
    refine .inl ⟨hq, by rw [o q hq]; exact e, lt, fun j h1 h2 => ?_⟩
    by_cases z : Blk i j
    · exfalso
      unfold Blk at z b1
      exact m r (by omega) (by omega) L.e
    · rw [o j z]
      exact m j h1 h2
theorem Lst.behind (L : Lst i v v' l r r') (o : Out i v v') (np : ¬ Blk i p) (a : Behind v l p q) : (¬ Blk i q ∧ Behind v' l p q) ∨ (q = r ∧ Behind v' l p r') := by
  obtain ⟨e, m1, m2⟩ := a
  have b1 := L.br
  have hp := not_blk np
  have hpi : p < i := by
    rcases hp with z | z
    · exact z
    · exact absurd L.e (m1 r (by unfold Blk at b1; omega))
  have h1 : ∀ j, j < p → v' j ≠ l := fun j hj => by
    rw [o j (by unfold Blk; omega)]
    exact m1 j hj
  rcases L.last o e m2 with ⟨a, b, c⟩ | ⟨a, b, c⟩
  · exact .inl ⟨a, b, h1, c⟩
  · exact .inr ⟨a, b, h1, c⟩
end
end Kn

set_option Elab.async false
set_option linter.all false
set_option maxRecDepth 100000
set_option maxHeartbeats 4000000
/-! (z, x, z) and (z, z, x), z the letter behind x. -/
namespace Kn
inductive BA (x z a0 a1 a2 b0 b1 b2 : Int) : Prop
  | m2 (h : a0 = z ∧ a1 = x ∧ a2 = z ∧ b0 = z ∧ b1 = z ∧ b2 = x)
  | m1 (h : a0 = z ∧ a1 = x ∧ a2 = 0 ∧ b0 = z ∧ b1 = 0 ∧ b2 = x)
  | m0 (h : a0 = 0 ∧ a1 = x ∧ a2 = 0 ∧ b0 = 0 ∧ b1 = 0 ∧ b2 = x)
  | n2 (h : a0 = z ∧ a1 = 0 ∧ a2 = z ∧ b0 = z ∧ b1 = z ∧ b2 = 0)
  | n1 (h : a0 = z ∧ a1 = 0 ∧ a2 = 0 ∧ b0 = z ∧ b1 = 0 ∧ b2 = 0)
  | nb (h : a0 = 0 ∧ a1 = 0 ∧ a2 = z ∧ b0 = z ∧ b1 = 0 ∧ b2 = 0)
  | n0 (h : a0 = 0 ∧ a1 = 0 ∧ a2 = 0 ∧ b0 = 0 ∧ b1 = 0 ∧ b2 = 0)
/-- behind the letter x is taken -/
inductive BM (z a0 a1 a2 b0 b1 b2 : Int) : Prop
  | n2 (h : a0 = z ∧ a1 = 0 ∧ a2 = z ∧ b0 = z ∧ b1 = z ∧ b2 = 0)
  | n1 (h : a0 = z ∧ a1 = 0 ∧ a2 = 0 ∧ b0 = z ∧ b1 = 0 ∧ b2 = 0)
  | n0 (h : a0 = 0 ∧ a1 = 0 ∧ a2 = 0 ∧ b0 = 0 ∧ b1 = 0 ∧ b2 = 0)
def BAt (i : Nat) (x : Int) (v v' : W) : Prop := BA x (x + 1) (v i) (v (i + 1)) (v (i + 2)) (v' i) (v' (i + 1)) (v' (i + 2))
def BMt (i : Nat) (x : Int) (v v' : W) : Prop := BM (x + 1) (v i) (v (i + 1)) (v (i + 2)) (v' i) (v' (i + 1)) (v' (i + 2))
structure A0 (i : Nat) (x : Int) (v v' : W) : Prop where
  o : Out i v v'
  b : BAt i x v v'
structure A1 (i : Nat) (x : Int) (v : W) (p : Nat) (v' : W) (p' : Nat) (l : Int) : Prop where
  a : A0 i x v v'
  l2 : 2 ≤ l
  pl : (p = p' ∧ ¬ Blk i p) ∨ (Blk i p ∧ Blk i p' ∧ l = x + 2) ∨ (p = i + 1 ∧ p' = i + 2 ∧ l = x + 1 ∧ BMt i x v v')
section
variable {i : Nat} {x : Int} {v v' : W} {p p' q : Nat} {l : Int}
theorem BMt.ba (h : BMt i x v v') : BAt i x v v' := by
  cases h with
  | n2 h => exact .n2 h
  | n1 h => exact .n1 h
  | n0 h => exact .n0 h
/-- what the block's letters can be -/
theorem BAt.vals (h : BAt i x v v') : (∀ j, Blk i j → v j = 0 ∨ v j = x ∨ v j = x + 1) ∧ ∀ j, Blk i j → v' j = 0 ∨ v' j = x ∨ v' j = x + 1 := by
  have go : ∀ {u : W} {c0 c1 c2 : Int}, u i = c0 → u (i + 1) = c1 → u (i + 2) = c2 → (c0 = 0 ∨ c0 = x ∨ c0 = x + 1) → (c1 = 0 ∨ c1 = x ∨ c1 = x + 1) → (c2 = 0 ∨ c2 = x ∨ c2 = x + 1) → ∀ j, Blk i j → u j = 0 ∨ u j = x ∨ u j = x + 1 := by
    intro u c0 c1 c2 e0 e1 e2 h0 h1 h2 j ⟨ha, hb⟩
    have : j = i ∨ j = i + 1 ∨ j = i + 2 := by omega
    rcases this with rfl | rfl | rfl
    · rw [e0]; exact h0
    · rw [e1]; exact h1
    · rw [e2]; exact h2
  cases h with
  | m2 h => obtain ⟨a0, a1, a2, b0, b1, b2⟩ := h; exact ⟨go a0 a1 a2 (by simp) (by simp) (by simp), go b0 b1 b2 (by simp) (by simp) (by simp)⟩
  | m1 h => obtain ⟨a0, a1, a2, b0, b1, b2⟩ := h; exact ⟨go a0 a1 a2 (by simp) (by simp) (by simp), go b0 b1 b2 (by simp) (by simp) (by simp)⟩
  | m0 h => obtain ⟨a0, a1, a2, b0, b1, b2⟩ := h; exact ⟨go a0 a1 a2 (by simp) (by simp) (by simp), go b0 b1 b2 (by simp) (by simp) (by simp)⟩
  | n2 h => obtain ⟨a0, a1, a2, b0, b1, b2⟩ := h; exact ⟨go a0 a1 a2 (by simp) (by simp) (by simp), go b0 b1 b2 (by simp) (by simp) (by simp)⟩
  | n1 h => obtain ⟨a0, a1, a2, b0, b1, b2⟩ := h; exact ⟨go a0 a1 a2 (by simp) (by simp) (by simp), go b0 b1 b2 (by simp) (by simp) (by simp)⟩
  | nb h => obtain ⟨a0, a1, a2, b0, b1, b2⟩ := h; exact ⟨go a0 a1 a2 (by simp) (by simp) (by simp), go b0 b1 b2 (by simp) (by simp) (by simp)⟩
  | n0 h => obtain ⟨a0, a1, a2, b0, b1, b2⟩ := h; exact ⟨go a0 a1 a2 (by simp) (by simp) (by simp), go b0 b1 b2 (by simp) (by simp) (by simp)⟩
theorem A0.next (h : A0 i x v v') (hq : ¬ Blk i q) : A0 i x (put v q) (put v' q) := by
  refine ⟨h.o.put_o hq, ?_⟩
  obtain ⟨e0, e1, e2⟩ := put_blk (v := v) hq
  obtain ⟨f0, f1, f2⟩ := put_blk (v := v') hq
  show BA x (x + 1) _ _ _ _ _ _
  rw [e0, e1, e2, f0, f1, f2]
  exact h.b
theorem A0.out (h : A0 i x v v') (hl : 1 ≤ l) (hq : ¬ Blk i q) : A1 i x (put v q) q (put v' q) q (l + 1) := ⟨h.next hq, by omega, .inl ⟨rfl, hq⟩⟩
/-- the letter l stands in the block, or it stands in neither -/
theorem BAt.find (x1 : 1 ≤ x) (h : BAt i x v v') (hl : 1 ≤ l) : ((∀ j, Blk i j → v j ≠ l) ∧ ∀ j, Blk i j → v' j ≠ l) ∨
    (l = x ∧ Lst i v v' l (i + 1) (i + 2) ∧ BMt i x (put v (i + 1)) (put v' (i + 2))) ∨
    (l = x + 1 ∧ ∃ r r', Lst i v v' l r r' ∧ BAt i x (put v r) (put v' r')) := by
  by_cases hx : l = x
  · subst hx
    cases h with
    | m2 h =>
      obtain ⟨a0, a1, a2, b0, b1, b2⟩ := h
      refine .inr (.inl ⟨rfl, ⟨by unfold Blk; omega, by unfold Blk; omega, a1, b2, fun j ⟨h1, h2⟩ h3 => ?_, fun j ⟨h1, h2⟩ h3 => by omega⟩, .n2 (by simp [put, a0, a2, b0, b1])⟩)
      obtain rfl : j = i + 2 := by omega
      omega
    | m1 h =>
      obtain ⟨a0, a1, a2, b0, b1, b2⟩ := h
      refine .inr (.inl ⟨rfl, ⟨by unfold Blk; omega, by unfold Blk; omega, a1, b2, fun j ⟨h1, h2⟩ h3 => ?_, fun j ⟨h1, h2⟩ h3 => by omega⟩, .n1 (by simp [put, a0, a2, b0, b1])⟩)
      obtain rfl : j = i + 2 := by omega
      omega
    | m0 h =>
      obtain ⟨a0, a1, a2, b0, b1, b2⟩ := h
      refine .inr (.inl ⟨rfl, ⟨by unfold Blk; omega, by unfold Blk; omega, a1, b2, fun j ⟨h1, h2⟩ h3 => ?_, fun j ⟨h1, h2⟩ h3 => by omega⟩, .n0 (by simp [put, a0, a2, b0, b1])⟩)
      obtain rfl : j = i + 2 := by omega
      omega
    | n2 h => obtain ⟨a0, a1, a2, b0, b1, b2⟩ := h; exact .inl ⟨blk3 (by omega) (by omega) (by omega), blk3 (by omega) (by omega) (by omega)⟩
    | n1 h => obtain ⟨a0, a1, a2, b0, b1, b2⟩ := h; exact .inl ⟨blk3 (by omega) (by omega) (by omega), blk3 (by omega) (by omega) (by omega)⟩
    | nb h => obtain ⟨a0, a1, a2, b0, b1, b2⟩ := h; exact .inl ⟨blk3 (by omega) (by omega) (by omega), blk3 (by omega) (by omega) (by omega)⟩
    | n0 h => obtain ⟨a0, a1, a2, b0, b1, b2⟩ := h; exact .inl ⟨blk3 (by omega) (by omega) (by omega), blk3 (by omega) (by omega) (by omega)⟩
  · by_cases hz : l = x + 1
    · subst hz
      cases h with
      | m2 h =>
        obtain ⟨a0, a1, a2, b0, b1, b2⟩ := h
        refine .inr (.inr ⟨rfl, i + 2, i + 1, ⟨by unfold Blk; omega, by unfold Blk; omega, a2, b1, fun j ⟨h1, h2⟩ h3 => by omega, fun j ⟨h1, h2⟩ h3 => ?_⟩, .m1 (by simp [put, a0, a1, b0, b2])⟩)
        obtain rfl : j = i + 2 := by omega
        omega
      | m1 h =>
        obtain ⟨a0, a1, a2, b0, b1, b2⟩ := h
        refine .inr (.inr ⟨rfl, i, i, ⟨by unfold Blk; omega, by unfold Blk; omega, a0, b0, fun j ⟨h1, h2⟩ h3 => ?_, fun j ⟨h1, h2⟩ h3 => ?_⟩, .m0 (by simp [put, a1, a2, b1, b2])⟩)
        · have : j = i + 1 ∨ j = i + 2 := by omega
          rcases this with rfl | rfl <;> omega
        · have : j = i + 1 ∨ j = i + 2 := by omega
          rcases this with rfl | rfl <;> omega
      | n2 h =>
        obtain ⟨a0, a1, a2, b0, b1, b2⟩ := h
        refine .inr (.inr ⟨rfl, i + 2, i + 1, ⟨by unfold Blk; omega, by unfold Blk; omega, a2, b1, fun j ⟨h1, h2⟩ h3 => by omega, fun j ⟨h1, h2⟩ h3 => ?_⟩, .n1 (by simp [put, a0, a1, b0, b2])⟩)
        obtain rfl : j = i + 2 := by omega
        omega
      | n1 h =>
        obtain ⟨a0, a1, a2, b0, b1, b2⟩ := h
        refine .inr (.inr ⟨rfl, i, i, ⟨by unfold Blk; omega, by unfold Blk; omega, a0, b0, fun j ⟨h1, h2⟩ h3 => ?_, fun j ⟨h1, h2⟩ h3 => ?_⟩, .n0 (by simp [put, a1, a2, b1, b2])⟩)
        · have : j = i + 1 ∨ j = i + 2 := by omega
          rcases this with rfl | rfl <;> omega
        · have : j = i + 1 ∨ j = i + 2 := by omega
          rcases this with rfl | rfl <;> omega
      | nb h =>
        obtain ⟨a0, a1, a2, b0, b1, b2⟩ := h
        refine .inr (.inr ⟨rfl, i + 2, i, ⟨by unfold Blk; omega, by unfold Blk; omega, a2, b0, fun j ⟨h1, h2⟩ h3 => by omega, fun j ⟨h1, h2⟩ h3 => ?_⟩, .n0 (by simp [put, a0, a1, b1, b2])⟩)
        have : j = i + 1 ∨ j = i + 2 := by omega
        rcases this with rfl | rfl <;> omega
      | m0 h => obtain ⟨a0, a1, a2, b0, b1, b2⟩ := h; exact .inl ⟨blk3 (by omega) (by omega) (by omega), blk3 (by omega) (by omega) (by omega)⟩
      | n0 h => obtain ⟨a0, a1, a2, b0, b1, b2⟩ := h; exact .inl ⟨blk3 (by omega) (by omega) (by omega), blk3 (by omega) (by omega) (by omega)⟩
    · refine .inl ⟨fun j hj => ?_, fun j hj => ?_⟩
      · rcases h.vals.1 j hj with e | e | e <;> omega
      · rcases h.vals.2 j hj with e | e | e <;> omega
theorem A0.no (x1 : 1 ≤ x) (h : A0 i x v v') (hl : 1 ≤ l) (m : ∀ j, v j ≠ l) : ∀ j, v' j ≠ l := by
  rcases h.b.find x1 hl with ⟨a, b⟩ | ⟨_, L, _⟩ | ⟨_, r, r', L, _⟩
  · exact no_o h.o b m
  · exact absurd L.e (m _)
  · exact absurd L.e (m _)
theorem case_a (x1 : 1 ≤ x) : Sim (A0 i x) (A1 i x) where
  begin := fun {v v' q} h e m => by
    rcases h.b.find (l := 1) x1 (by decide) with ⟨a, b⟩ | ⟨hl, L, B⟩ | ⟨hl, r, r', L, B⟩
    · obtain ⟨hq, e1, e2⟩ := last_o h.o a b e m
      exact ⟨q, e1, e2, h.out (l := 1) (by decide) hq⟩
    · rcases L.last h.o e m with ⟨hq, e1, e2⟩ | ⟨rfl, e1, e2⟩
      · exact ⟨q, e1, e2, h.out (l := 1) (by decide) hq⟩
      · exact ⟨_, e1, e2, ⟨h.o.put_i L.br L.br', B.ba⟩, by decide, .inr (.inr ⟨rfl, rfl, by omega, B⟩)⟩
    · omega
  ahead := fun {v p v' p' l q} h a => by
    have l2 := h.l2
    rcases h.pl with ⟨rfl, np⟩ | ⟨hp, hp', hl⟩ | ⟨rfl, rfl, hl, B⟩
    · rcases h.a.b.find (l := l) x1 (by omega) with ⟨c, b⟩ | ⟨hl, L, B⟩ | ⟨hl, r, r', L, B⟩
      · obtain ⟨hq, e⟩ := ahead_o h.a.o c b (.inl ⟨rfl, np⟩) a
        exact ⟨q, e, h.a.out (by omega) hq⟩
      · rcases L.ahead h.a.o np a with ⟨hq, e⟩ | ⟨rfl, e⟩
        · exact ⟨q, e, h.a.out (by omega) hq⟩
        · exact ⟨_, e, ⟨h.a.o.put_i L.br L.br', B.ba⟩, by omega, .inr (.inr ⟨rfl, rfl, by omega, B⟩)⟩
      · rcases L.ahead h.a.o np a with ⟨hq, e⟩ | ⟨rfl, e⟩
        · exact ⟨q, e, h.a.out (by omega) hq⟩
        · exact ⟨_, e, ⟨h.a.o.put_i L.br L.br', B⟩, by omega, .inr (.inl ⟨L.br, L.br', by omega⟩)⟩
    · have nb : ∀ j, Blk i j → v j ≠ l := fun j hj => by rcases h.a.b.vals.1 j hj with e | e | e <;> omega
      have nb' : ∀ j, Blk i j → v' j ≠ l := fun j hj => by rcases h.a.b.vals.2 j hj with e | e | e <;> omega
      obtain ⟨hq, e⟩ := ahead_o h.a.o nb nb' (.inr ⟨hp, hp'⟩) a
      exact ⟨q, e, h.a.out (by omega) hq⟩
    · subst hl
      have b1 : Blk i (i + 1) := by unfold Blk; omega
      have b2 : Blk i (i + 2) := by unfold Blk; omega
      have b0 : Blk i i := by unfold Blk; omega
      cases B with
      | n2 h2 =>
        obtain ⟨a0, a1, a2, c0, c1, c2⟩ := h2
        obtain ⟨e, lt, m⟩ := a
        have hq : q = i := by
          rcases Nat.lt_or_ge q i with z | z
          · exact absurd a0 (m i z (by omega))
          · omega
        subst hq
        refine ⟨q + 1, ⟨c1, by omega, fun j h1 h2 => by omega⟩, ⟨h.a.o.put_i b0 b1, .nb (by simp [put, a1, a2, c0, c2])⟩, by omega, .inr (.inl ⟨b0, b1, by omega⟩)⟩
      | n1 h2 =>
        obtain ⟨a0, a1, a2, c0, c1, c2⟩ := h2
        obtain ⟨e, lt, m⟩ := a
        have hq : q = i := by
          rcases Nat.lt_or_ge q i with z | z
          · exact absurd a0 (m i z (by omega))
          · omega
        subst hq
        refine ⟨q, ⟨c0, by omega, fun j h1 h2 => ?_⟩, ⟨h.a.o.put_i b0 b0, .n0 (by simp [put, a1, a2, c1, c2])⟩, by omega, .inr (.inl ⟨b0, b0, by omega⟩)⟩
        obtain rfl : j = q + 1 := by omega
        omega
      | n0 h2 =>
        obtain ⟨a0, a1, a2, c0, c1, c2⟩ := h2
        obtain ⟨hq, e⟩ := ahead_o h.a.o (blk3 (by omega) (by omega) (by omega)) (blk3 (by omega) (by omega) (by omega)) (.inr ⟨b1, b2⟩) a
        exact ⟨q, e, h.a.out (by omega) hq⟩
  behind := fun {v p v' p' l q} h a => by
    have l2 := h.l2
    rcases h.pl with ⟨rfl, np⟩ | ⟨hp, hp', hl⟩ | ⟨rfl, rfl, hl, B⟩
    · rcases h.a.b.find (l := l) x1 (by omega) with ⟨c, b⟩ | ⟨hl, L, B⟩ | ⟨hl, r, r', L, B⟩
      · obtain ⟨hq, e⟩ := behind_o h.a.o c b (.inl ⟨rfl, np⟩) a
        exact ⟨q, e, h.a.out (by omega) hq⟩
      · rcases L.behind h.a.o np a with ⟨hq, e⟩ | ⟨rfl, e⟩
        · exact ⟨q, e, h.a.out (by omega) hq⟩
        · exact ⟨_, e, ⟨h.a.o.put_i L.br L.br', B.ba⟩, by omega, .inr (.inr ⟨rfl, rfl, by omega, B⟩)⟩
      · rcases L.behind h.a.o np a with ⟨hq, e⟩ | ⟨rfl, e⟩
        · exact ⟨q, e, h.a.out (by omega) hq⟩
        · exact ⟨_, e, ⟨h.a.o.put_i L.br L.br', B⟩, by omega, .inr (.inl ⟨L.br, L.br', by omega⟩)⟩
    · have nb : ∀ j, Blk i j → v j ≠ l := fun j hj => by rcases h.a.b.vals.1 j hj with e | e | e <;> omega
      have nb' : ∀ j, Blk i j → v' j ≠ l := fun j hj => by rcases h.a.b.vals.2 j hj with e | e | e <;> omega
      obtain ⟨hq, e⟩ := behind_o h.a.o nb nb' (.inr ⟨hp, hp'⟩) a
      exact ⟨q, e, h.a.out (by omega) hq⟩
    · subst hl
      have b1 : Blk i (i + 1) := by unfold Blk; omega
      have b2 : Blk i (i + 2) := by unfold Blk; omega
      cases B with
      | n2 h2 => exact absurd h2.1 (a.2.1 i (by omega))
      | n1 h2 => exact absurd h2.1 (a.2.1 i (by omega))
      | n0 h2 =>
        obtain ⟨a0, a1, a2, c0, c1, c2⟩ := h2
        obtain ⟨hq, e⟩ := behind_o h.a.o (blk3 (by omega) (by omega) (by omega)) (blk3 (by omega) (by omega) (by omega)) (.inr ⟨b1, b2⟩) a
        exact ⟨q, e, h.a.out (by omega) hq⟩
  done := fun h m => ⟨h.a.no x1 (by have := h.l2; omega) m, h.a⟩
  final := fun h m => h.no x1 (by decide) m
end
end Kn

set_option Elab.async false
set_option linter.all false
set_option maxRecDepth 100000
set_option maxHeartbeats 4000000
/-! (x, z, x) and (z, x, x), z the letter behind x. -/
namespace Kn
inductive BB (x z a0 a1 a2 b0 b1 b2 : Int) : Prop
  | e1 (h : a0 = x ∧ a1 = z ∧ a2 = x ∧ b0 = z ∧ b1 = x ∧ b2 = x)
  | e0 (h : a0 = x ∧ a1 = 0 ∧ a2 = x ∧ b0 = 0 ∧ b1 = x ∧ b2 = x)
  | c0 (h : a0 = x ∧ a1 = 0 ∧ a2 = 0 ∧ b0 = 0 ∧ b1 = x ∧ b2 = 0)
  | n0 (h : a0 = 0 ∧ a1 = 0 ∧ a2 = 0 ∧ b0 = 0 ∧ b1 = 0 ∧ b2 = 0)
def BBt (i : Nat) (x : Int) (v v' : W) : Prop := BB x (x + 1) (v i) (v (i + 1)) (v (i + 2)) (v' i) (v' (i + 1)) (v' (i + 2))
/-- the last x is taken, z waits -/
def BTt (i : Nat) (x : Int) (v v' : W) : Prop := v i = x ∧ v (i + 1) = x + 1 ∧ v (i + 2) = 0 ∧ v' i = x + 1 ∧ v' (i + 1) = x ∧ v' (i + 2) = 0
structure B0 (i : Nat) (x : Int) (v v' : W) : Prop where
  o : Out i v v'
  b : BBt i x v v'
structure B1 (i : Nat) (x : Int) (v : W) (p : Nat) (v' : W) (p' : Nat) (l : Int) : Prop where
  o : Out i v v'
  l2 : 2 ≤ l
  pl : (p = p' ∧ ¬ Blk i p ∧ BBt i x v v') ∨ (Blk i p ∧ Blk i p' ∧ BBt i x v v' ∧ (∀ j, Blk i j → v j ≠ l) ∧ ∀ j, Blk i j → v' j ≠ l) ∨ (p = i + 2 ∧ p' = i + 2 ∧ l = x + 1 ∧ BTt i x v v')
section
variable {i : Nat} {x : Int} {v v' : W} {p p' q : Nat} {l : Int}
theorem B0.next (o : Out i v v') (b : BBt i x v v') (hq : ¬ Blk i q) : B0 i x (put v q) (put v' q) := by
  refine ⟨o.put_o hq, ?_⟩
  obtain ⟨e0, e1, e2⟩ := put_blk (v := v) hq
  obtain ⟨f0, f1, f2⟩ := put_blk (v := v') hq
  show BB x (x + 1) _ _ _ _ _ _
  rw [e0, e1, e2, f0, f1, f2]
  exact b
theorem B0.out (o : Out i v v') (b : BBt i x v v') (hl : 1 ≤ l) (hq : ¬ Blk i q) : B1 i x (put v q) q (put v' q) q (l + 1) :=
  have h := B0.next o b hq
  ⟨h.o, by omega, .inl ⟨rfl, hq, h.b⟩⟩
/-- the letter l stands in the block, or it stands in neither; what comes behind it -/
theorem BBt.find (x1 : 1 ≤ x) (o : Out i v v') (h : BBt i x v v') (hl : 1 ≤ l) : ((∀ j, Blk i j → v j ≠ l) ∧ ∀ j, Blk i j → v' j ≠ l) ∨
    ∃ r r', Lst i v v' l r r' ∧ B1 i x (put v r) r (put v' r') r' (l + 1) := by
  have k0 : Blk i i := by unfold Blk; omega
  have k1 : Blk i (i + 1) := by unfold Blk; omega
  have k2 : Blk i (i + 2) := by unfold Blk; omega
  by_cases hx : l = x
  · subst hx
    cases h with
    | e1 h =>
      obtain ⟨a0, a1, a2, b0, b1, b2⟩ := h
      refine .inr ⟨i + 2, i + 2, ⟨k2, k2, a2, b2, fun j ⟨h1, h2⟩ h3 => by omega, fun j ⟨h1, h2⟩ h3 => by omega⟩, o.put_i k2 k2, by omega, .inr (.inr ⟨rfl, rfl, rfl, ?_⟩)⟩
      unfold BTt
      simp [put, a0, a1, b0, b1]
    | e0 h =>
      obtain ⟨a0, a1, a2, b0, b1, b2⟩ := h
      refine .inr ⟨i + 2, i + 2, ⟨k2, k2, a2, b2, fun j ⟨h1, h2⟩ h3 => by omega, fun j ⟨h1, h2⟩ h3 => by omega⟩, o.put_i k2 k2, by omega, .inr (.inl ⟨k2, k2, .c0 (by simp [put, a0, a1, b0, b1]), blk3 ?_ ?_ ?_, blk3 ?_ ?_ ?_⟩)⟩
      all_goals simp [put, a0, a1, b0, b1]
      all_goals omega
    | c0 h =>
      obtain ⟨a0, a1, a2, b0, b1, b2⟩ := h
      refine .inr ⟨i, i + 1, ⟨k0, k1, a0, b1, fun j ⟨h1, h2⟩ h3 => ?_, fun j ⟨h1, h2⟩ h3 => ?_⟩, o.put_i k0 k1, by omega, .inr (.inl ⟨k0, k1, .n0 (by simp [put, a1, a2, b0, b2]), blk3 ?_ ?_ ?_, blk3 ?_ ?_ ?_⟩)⟩
      · have : j = i + 1 ∨ j = i + 2 := by omega
        rcases this with rfl | rfl <;> omega
      · obtain rfl : j = i + 2 := by omega
        omega
      all_goals simp [put, a1, a2, b0, b2]
      all_goals omega
    | n0 h => obtain ⟨a0, a1, a2, b0, b1, b2⟩ := h; exact .inl ⟨blk3 (by omega) (by omega) (by omega), blk3 (by omega) (by omega) (by omega)⟩
  · by_cases hz : l = x + 1
    · subst hz
      cases h with
      | e1 h =>
        obtain ⟨a0, a1, a2, b0, b1, b2⟩ := h
        refine .inr ⟨i + 1, i, ⟨k1, k0, a1, b0, fun j ⟨h1, h2⟩ h3 => ?_, fun j ⟨h1, h2⟩ h3 => ?_⟩, o.put_i k1 k0, by omega, .inr (.inl ⟨k1, k0, .e0 (by simp [put, a0, a2, b1, b2]), blk3 ?_ ?_ ?_, blk3 ?_ ?_ ?_⟩)⟩
        · obtain rfl : j = i + 2 := by omega
          omega
        · have : j = i + 1 ∨ j = i + 2 := by omega
          rcases this with rfl | rfl <;> omega
        all_goals simp [put, a0, a2, b1, b2]
        all_goals omega
      | e0 h => obtain ⟨a0, a1, a2, b0, b1, b2⟩ := h; exact .inl ⟨blk3 (by omega) (by omega) (by omega), blk3 (by omega) (by omega) (by omega)⟩
      | c0 h => obtain ⟨a0, a1, a2, b0, b1, b2⟩ := h; exact .inl ⟨blk3 (by omega) (by omega) (by omega), blk3 (by omega) (by omega) (by omega)⟩
      | n0 h => obtain ⟨a0, a1, a2, b0, b1, b2⟩ := h; exact .inl ⟨blk3 (by omega) (by omega) (by omega), blk3 (by omega) (by omega) (by omega)⟩
    · cases h with
      | e1 h => obtain ⟨a0, a1, a2, b0, b1, b2⟩ := h; exact .inl ⟨blk3 (by omega) (by omega) (by omega), blk3 (by omega) (by omega) (by omega)⟩
      | e0 h => obtain ⟨a0, a1, a2, b0, b1, b2⟩ := h; exact .inl ⟨blk3 (by omega) (by omega) (by omega), blk3 (by omega) (by omega) (by omega)⟩
      | c0 h => obtain ⟨a0, a1, a2, b0, b1, b2⟩ := h; exact .inl ⟨blk3 (by omega) (by omega) (by omega), blk3 (by omega) (by omega) (by omega)⟩
      | n0 h => obtain ⟨a0, a1, a2, b0, b1, b2⟩ := h; exact .inl ⟨blk3 (by omega) (by omega) (by omega), blk3 (by omega) (by omega) (by omega)⟩
theorem B0.no (x1 : 1 ≤ x) (o : Out i v v') (b : BBt i x v v') (hl : 1 ≤ l) (m : ∀ j, v j ≠ l) : ∀ j, v' j ≠ l := by
  rcases b.find x1 o hl with ⟨_, c⟩ | ⟨r, r', L, _⟩
  · exact no_o o c m
  · exact absurd L.e (m _)
/-- behind z is taken -/
theorem BTt.next (h : BTt i x v v') (o : Out i v v') (l2 : 2 ≤ x + 1) : B1 i x (put v (i + 1)) (i + 1) (put v' i) i (x + 1 + 1) := by
  have k0 : Blk i i := by unfold Blk; omega
  have k1 : Blk i (i + 1) := by unfold Blk; omega
  obtain ⟨a0, a1, a2, b0, b1, b2⟩ := h
  refine ⟨o.put_i k1 k0, by omega, .inr (.inl ⟨k1, k0, .c0 (by simp [put, a0, a2, b1, b2]), blk3 ?_ ?_ ?_, blk3 ?_ ?_ ?_⟩)⟩
  all_goals simp [put, a0, a2, b1, b2]
  all_goals omega
theorem case_b (x1 : 1 ≤ x) : Sim (B0 i x) (B1 i x) where
  begin := fun {v v' q} h e m => by
    rcases h.b.find (l := 1) x1 h.o (by decide) with ⟨a, b⟩ | ⟨r, r', L, B⟩
    · obtain ⟨hq, e1, e2⟩ := last_o h.o a b e m
      exact ⟨q, e1, e2, B0.out (l := 1) h.o h.b (by decide) hq⟩
    · rcases L.last h.o e m with ⟨hq, e1, e2⟩ | ⟨rfl, e1, e2⟩
      · exact ⟨q, e1, e2, B0.out (l := 1) h.o h.b (by decide) hq⟩
      · exact ⟨_, e1, e2, B⟩
  ahead := fun {v p v' p' l q} h a => by
    have l2 := h.l2
    rcases h.pl with ⟨rfl, np, b⟩ | ⟨hp, hp', b, nb, nb'⟩ | ⟨rfl, rfl, hl, B⟩
    · rcases b.find (l := l) x1 h.o (by omega) with ⟨c, d⟩ | ⟨r, r', L, B⟩
      · obtain ⟨hq, e⟩ := ahead_o h.o c d (.inl ⟨rfl, np⟩) a
        exact ⟨q, e, B0.out h.o b (by omega) hq⟩
      · rcases L.ahead h.o np a with ⟨hq, e⟩ | ⟨rfl, e⟩
        · exact ⟨q, e, B0.out h.o b (by omega) hq⟩
        · exact ⟨_, e, B⟩
    · obtain ⟨hq, e⟩ := ahead_o h.o nb nb' (.inr ⟨hp, hp'⟩) a
      exact ⟨q, e, B0.out h.o b (by omega) hq⟩
    · subst hl
      have B2 := B
      obtain ⟨a0, a1, a2, c0, c1, c2⟩ := B2
      obtain ⟨e, lt, m⟩ := a
      have hq : q = i + 1 := by
        rcases Nat.lt_or_ge q (i + 1) with z | z
        · exact absurd a1 (m (i + 1) z (by omega))
        · omega
      subst hq
      refine ⟨i, ⟨c0, by omega, fun j h1 h2 => ?_⟩, B.next h.o l2⟩
      obtain rfl : j = i + 1 := by omega
      omega
  behind := fun {v p v' p' l q} h a => by
    have l2 := h.l2
    rcases h.pl with ⟨rfl, np, b⟩ | ⟨hp, hp', b, nb, nb'⟩ | ⟨rfl, rfl, hl, B⟩
    · rcases b.find (l := l) x1 h.o (by omega) with ⟨c, d⟩ | ⟨r, r', L, B⟩
      · obtain ⟨hq, e⟩ := behind_o h.o c d (.inl ⟨rfl, np⟩) a
        exact ⟨q, e, B0.out h.o b (by omega) hq⟩
      · rcases L.behind h.o np a with ⟨hq, e⟩ | ⟨rfl, e⟩
        · exact ⟨q, e, B0.out h.o b (by omega) hq⟩
        · exact ⟨_, e, B⟩
    · obtain ⟨hq, e⟩ := behind_o h.o nb nb' (.inr ⟨hp, hp'⟩) a
      exact ⟨q, e, B0.out h.o b (by omega) hq⟩
    · subst hl
      exact absurd B.2.1 (a.2.1 (i + 1) (by omega))
  done := fun {v p v' p' l} h m => by
    have l2 := h.l2
    rcases h.pl with ⟨rfl, np, b⟩ | ⟨hp, hp', b, nb, nb'⟩ | ⟨rfl, rfl, hl, B⟩
    · exact ⟨B0.no x1 h.o b (by omega) m, h.o, b⟩
    · exact ⟨no_o h.o nb' m, h.o, b⟩
    · subst hl
      exact absurd B.2.1 (m _)
  final := fun h m => B0.no x1 h.o h.b (by decide) m
end
end Kn

set_option Elab.async false
set_option linter.all false
set_option maxRecDepth 100000
set_option maxHeartbeats 4000000
/-! Words as lists; how great a weight can be; ascending and descending words. -/
namespace Kn
def wd (w : List Int) : W := fun j => w.getD j 0
theorem wd_at (pre l : List Int) (j : Nat) : wd (pre ++ l) j = if j < pre.length then pre.getD j 0 else l.getD (j - pre.length) 0 := by
  unfold wd
  rw [List.getD_eq_getElem?_getD, List.getElem?_append]
  split
  · rw [List.getD_eq_getElem?_getD]
  · rw [List.getD_eq_getElem?_getD]
theorem wd0 (pre : List Int) (a : Int) (l : List Int) : wd (pre ++ a :: l) pre.length = a := by
  rw [wd_at, if_neg (by omega), Nat.sub_self]
  rfl
theorem wd1 (pre : List Int) (a b : Int) (l : List Int) : wd (pre ++ a :: b :: l) (pre.length + 1) = b := by
  rw [wd_at, if_neg (by omega), show pre.length + 1 - pre.length = 1 by omega]
  rfl
theorem wd2 (pre : List Int) (a b c : Int) (l : List Int) : wd (pre ++ a :: b :: c :: l) (pre.length + 2) = c := by
  rw [wd_at, if_neg (by omega), show pre.length + 2 - pre.length = 2 by omega]
  rfl
theorem wd_out (pre : List Int) (a b c a' b' c' : Int) (l : List Int) {j : Nat} (h : ¬ Blk pre.length j) : wd (pre ++ a' :: b' :: c' :: l) j = wd (pre ++ a :: b :: c :: l) j := by
  have := not_blk h
  rw [wd_at, wd_at]
  split
  · rfl
  · obtain ⟨k, hk⟩ : ∃ k, j - pre.length = k + 3 := ⟨j - pre.length - 3, by omega⟩
    rw [hk]
    rfl
theorem far_charge {v v' : W} {i : Nat} (h0 : v' i = v (i + 1)) (h1 : v' (i + 1) = v i) (o : ∀ j, j ≠ i → j ≠ i + 1 → v' j = v j) (X1 : 1 ≤ v i) (Z1 : 1 ≤ v (i + 1)) (n : v i ≠ v (i + 1)) (n1 : v i ≠ v (i + 1) + 1) (n2 : v (i + 1) ≠ v i + 1) {N : Nat}
    (c : Charge v N) : Charge v' N := by
  refine (far_sim (i := i) X1 Z1 n n1 n2).charge (v := v) ⟨fun j => ?_, .inr rfl, .inr rfl⟩ c
  unfold sw
  by_cases a : j = i
  · rw [if_pos a, h1, a]
  · rw [if_neg a]
    by_cases b : j = i + 1
    · rw [if_pos b, h0, b]
    · rw [if_neg b]
      exact o j a b
/-- the last two of three letters change places, the first one between them -/
theorem kn_right {pre post : List Int} {a b c : Int} {N M : Nat} (b1 : 1 ≤ b) (c1 : 1 ≤ c) (h : (b < a ∧ a ≤ c) ∨ (c < a ∧ a ≤ b)) (k : Charge (wd (pre ++ a :: b :: c :: post)) N) (k' : Charge (wd (pre ++ a :: c :: b :: post)) M) : N = M := by
  have O := fun j (hj : ¬ Blk pre.length j) => wd_out pre a b c a c b post hj
  have O' := fun j (hj : ¬ Blk pre.length j) => wd_out pre a c b a b c post hj
  by_cases n : b = c + 1 ∨ c = b + 1
  · rcases n with n | n
    · have e : a = b := by omega
      subst e
      subst n
      refine Charge.uniq k ((case_a c1).charge (v := wd (pre ++ (c + 1) :: c :: (c + 1) :: post)) ⟨O', .m2 ⟨?_, ?_, ?_, ?_, ?_, ?_⟩⟩ k')
      · exact wd0 ..
      · exact wd1 ..
      · exact wd2 ..
      · exact wd0 ..
      · exact wd1 ..
      · exact wd2 ..
    · have e : a = c := by omega
      subst e
      subst n
      refine Charge.uniq ((case_a b1).charge (v := wd (pre ++ (b + 1) :: b :: (b + 1) :: post)) ⟨O, .m2 ⟨?_, ?_, ?_, ?_, ?_, ?_⟩⟩ k) k'
      · exact wd0 ..
      · exact wd1 ..
      · exact wd2 ..
      · exact wd0 ..
      · exact wd1 ..
      · exact wd2 ..
  · have e1 := wd1 pre a b (c :: post)
    have e2 := wd2 pre a b c post
    have f1 := wd1 pre a c (b :: post)
    have f2 := wd2 pre a c b post
    refine Charge.uniq (far_charge (i := pre.length + 1) (f1.trans e2.symm) (f2.trans e1.symm) (fun j h1 h2 => ?_) (by rw [e1]; exact b1) (by rw [e2]; exact c1) (by rw [e1, e2]; omega) (by rw [e1, e2]; omega) (by rw [e1, e2]; omega) k) k'
    by_cases z : Blk pre.length j
    · have : j = pre.length := by unfold Blk at z; omega
      rw [this, wd0, wd0]
    · exact O j z
/-- the first two of three letters change places, the third one between them -/
theorem kn_left {pre post : List Int} {a b c : Int} {N M : Nat} (a1 : 1 ≤ a) (b1 : 1 ≤ b) (h : (a ≤ c ∧ c < b) ∨ (b ≤ c ∧ c < a)) (k : Charge (wd (pre ++ a :: b :: c :: post)) N) (k' : Charge (wd (pre ++ b :: a :: c :: post)) M) : N = M := by
  have O := fun j (hj : ¬ Blk pre.length j) => wd_out pre a b c b a c post hj
  have O' := fun j (hj : ¬ Blk pre.length j) => wd_out pre b a c a b c post hj
  by_cases n : b = a + 1 ∨ a = b + 1
  · rcases n with n | n
    · have e : c = a := by omega
      subst e
      subst n
      refine Charge.uniq ((case_b a1).charge (v := wd (pre ++ c :: (c + 1) :: c :: post)) ⟨O, .e1 ⟨?_, ?_, ?_, ?_, ?_, ?_⟩⟩ k) k'
      · exact wd0 ..
      · exact wd1 ..
      · exact wd2 ..
      · exact wd0 ..
      · exact wd1 ..
      · exact wd2 ..
    · have e : c = b := by omega
      subst e
      subst n
      refine Charge.uniq k ((case_b b1).charge (v := wd (pre ++ c :: (c + 1) :: c :: post)) ⟨O', .e1 ⟨?_, ?_, ?_, ?_, ?_, ?_⟩⟩ k')
      · exact wd0 ..
      · exact wd1 ..
      · exact wd2 ..
      · exact wd0 ..
      · exact wd1 ..
      · exact wd2 ..
  · have e0 := wd0 pre a (b :: c :: post)
    have e1 := wd1 pre a b (c :: post)
    have f0 := wd0 pre b (a :: c :: post)
    have f1 := wd1 pre b a (c :: post)
    refine Charge.uniq (far_charge (i := pre.length) (f0.trans e1.symm) (f1.trans e0.symm) (fun j h1 h2 => ?_) (by rw [e0]; exact a1) (by rw [e1]; exact b1) (by rw [e0, e1]; omega) (by rw [e0, e1]; omega) (by rw [e0, e1]; omega) k) k'
    by_cases z : Blk pre.length j
    · have : j = pre.length + 2 := by unfold Blk at z; omega
      rw [this, wd2, wd2]
    · exact O j z
/-! ### how great a weight can be -/
def pot (v : W) (n : Nat) : Nat := ((List.range n).map fun j => (v j - 1).toNat).sum
theorem pot_succ (v : W) (n : Nat) : pot v (n + 1) = pot v n + (v n - 1).toNat := by
  unfold pot
  rw [List.range_succ, List.map_append, List.sum_append]
  simp
theorem pot_put (v : W) (q : Nat) : ∀ n, pot (put v q) n + (if q < n then (v q - 1).toNat else 0) = pot v n
  | 0 => rfl
  | n + 1 => by
    have ih := pot_put v q n
    rw [pot_succ, pot_succ]
    by_cases e : q = n
    · subst e
      rw [put_same, if_pos (by omega)]
      rw [if_neg (by omega)] at ih
      have : ((0 : Int) - 1).toNat = 0 := rfl
      omega
    · rw [put_ne (fun z => e z.symm)]
      by_cases h : q < n
      · rw [if_pos h] at ih
        rw [if_pos (by omega)]
        omega
      · rw [if_neg h] at ih
        rw [if_neg (by omega)]
        omega
def Sup (v : W) (n : Nat) : Prop := ∀ j, n ≤ j → v j = 0
theorem Sup.put {v : W} {n : Nat} (h : Sup v n) (q : Nat) : Sup (put v q) n := fun j hj => by
  unfold Kn.put
  split
  · rfl
  · exact h j hj
theorem Sup.lt {v : W} {n q : Nat} (h : Sup v n) (e : v q ≠ 0) : q < n := by
  rcases Nat.lt_or_ge q n with z | z
  · exact z
  · exact absurd (h q z) e
theorem pot_take {v : W} {n q : Nat} {l : Int} (s : Sup v n) (e : v q = l) (hl : 1 ≤ l) : pot (put v q) n + (l - 1).toNat = pot v n := by
  have := pot_put v q n
  rw [if_pos (s.lt (by omega)), e] at this
  exact this
def Low (n P : Nat) : Cfg → Prop
  | .idle v a => a + pot v n ≤ P ∧ Sup v n
  | .at v p x l a => a + pot v n ≤ P ∧ Sup v n ∧ (x : Int) + 2 ≤ l
theorem Low.step {n P : Nat} {a b : Cfg} (h : Low n P a) (s : Step a b) : Low n P b := by
  cases s with
  | begin e m =>
    obtain ⟨h1, h2⟩ := h
    have := pot_take h2 e (by decide)
    exact ⟨by omega, h2.put _, by decide⟩
  | ahead k =>
    obtain ⟨h1, h2, h3⟩ := h
    have := pot_take h2 k.1 (by omega)
    exact ⟨by omega, h2.put _, by omega⟩
  | behind k =>
    obtain ⟨h1, h2, h3⟩ := h
    have := pot_take h2 k.1 (by omega)
    exact ⟨by omega, h2.put _, by omega⟩
  | done k => exact ⟨h.1, h.2.1⟩
theorem Reach.keeps {I : Cfg → Prop} (hI : ∀ {a b}, I a → Step a b → I b) {a b : Cfg} (r : Reach a b) (h : I a) : I b := by
  induction r with
  | refl => exact h
  | tail _ s ih => exact hI ih s
theorem Charge.le {v : W} {n N : Nat} (s : Sup v n) (c : Charge v N) : N ≤ pot v n := by
  obtain ⟨u, r, _⟩ := c
  have := (Reach.keeps (I := Low n (pot v n)) (fun h k => h.step k) r ⟨by omega, s⟩).1
  omega
/-! ### descending words -/
def Sub (v w : W) : Prop := ∀ j, v j = 0 ∨ v j = w j
theorem Sub.put {v w : W} (h : Sub v w) (q : Nat) : Sub (put v q) w := fun j => by
  unfold Kn.put
  split
  · exact .inl rfl
  · exact h j
theorem Sub.at {v w : W} (h : Sub v w) {q : Nat} {l : Int} (e : v q = l) (hl : 1 ≤ l) : w q = l := by
  rcases h q with z | z <;> omega
def Dn (w : W) : Cfg → Prop
  | .idle v a => a = 0 ∧ Sub v w
  | .at v p x l a => a = 0 ∧ Sub v w ∧ x = 0 ∧ w p = l - 1 ∧ 2 ≤ l
theorem Charge.desc {w : W} {N : Nat} (d : ∀ a b, a < b → w b ≤ w a) (c : Charge w N) : N = 0 := by
  obtain ⟨u, r, _⟩ := c
  refine (Reach.keeps (I := Dn w) (fun {a b} h s => ?_) r ⟨rfl, fun _ => .inr rfl⟩).1
  cases s with
  | begin e m => exact ⟨h.1, h.2.put _, rfl, h.2.at e (by decide), by decide⟩
  | ahead k =>
    obtain ⟨h1, h2, h3, h4, h5⟩ := h
    refine ⟨by omega, h2.put _, h3, ?_, by omega⟩
    have := h2.at k.1 (by omega)
    omega
  | @behind v p q x acc l k =>
    obtain ⟨h1, h2, h3, h4, h5⟩ := h
    have e := h2.at k.1 (by omega)
    exfalso
    rcases Nat.lt_trichotomy q p with z | z | z
    · exact k.2.1 q z k.1
    · rw [z] at e
      omega
    · have := d p q z
      omega
  | done k => exact ⟨h.1, h.2.1⟩
/-! ### ascending words -/
def cnt (v : W) (n : Nat) (l : Int) : Nat := ((List.range n).filter fun j => decide (v j = l)).length
theorem cnt_succ (v : W) (n : Nat) (l : Int) : cnt v (n + 1) l = cnt v n l + if v n = l then 1 else 0 := by
  unfold cnt
  rw [List.range_succ, List.filter_append, List.length_append]
  by_cases h : v n = l <;> simp [h]
theorem cnt_put (v : W) (q : Nat) {l : Int} (hl : 1 ≤ l) : ∀ n, cnt (put v q) n l + (if q < n ∧ v q = l then 1 else 0) = cnt v n l
  | 0 => by simp [cnt]
  | n + 1 => by
    have ih := cnt_put v q hl n
    rw [cnt_succ, cnt_succ]
    by_cases e : q = n
    · subst e
      rw [put_same, if_neg (show ¬ ((0 : Int) = l) by omega)]
      rw [if_neg (by omega)] at ih
      by_cases z : v q = l
      · rw [if_pos ⟨by omega, z⟩, if_pos z]
        omega
      · rw [if_neg (fun y => z y.2), if_neg z]
        omega
    · rw [put_ne (fun z => e z.symm)]
      by_cases h : q < n ∧ v q = l
      · rw [if_pos h] at ih
        rw [if_pos (show q < n + 1 ∧ v q = l from ⟨by omega, h.2⟩)]
        omega
      · rw [if_neg h] at ih
        rw [if_neg (show ¬ (q < n + 1 ∧ v q = l) from fun y => h ⟨by omega, y.2⟩)]
        omega
theorem cnt_no {v : W} {n : Nat} {l : Int} (h : ∀ j, v j ≠ l) : cnt v n l = 0 := by
  unfold cnt
  rw [List.filter_eq_nil_iff.mpr (fun j _ => by simp [h j])]
  rfl
theorem cnt_pos {v : W} {n j : Nat} {l : Int} (hj : j < n) (h : v j = l) : 1 ≤ cnt v n l := by
  unfold cnt
  exact List.length_pos_of_mem (List.mem_filter.mpr ⟨List.mem_range.mpr hj, by simp [h]⟩)
theorem cnt_take {v : W} {n q : Nat} {l k : Int} (s : Sup v n) (e : v q = l) (hl : 1 ≤ l) (hk : 1 ≤ k) : cnt (put v q) n k + (if k = l then 1 else 0) = cnt v n k := by
  have := cnt_put v q hk n
  have hq := s.lt (q := q) (by omega)
  by_cases z : k = l
  · rw [if_pos z]
    rw [if_pos ⟨hq, by omega⟩] at this
    exact this
  · rw [if_neg z]
    rw [if_neg (fun y => z (by omega))] at this
    exact this
def Up (w : W) (n P : Nat) : Cfg → Prop
  | .idle v a => a + pot v n = P ∧ Sub v w ∧ Sup v n ∧ ∀ k, 1 ≤ k → cnt v n (k + 1) ≤ cnt v n k
  | .at v p x l a => a + pot v n = P ∧ Sub v w ∧ Sup v n ∧ (x : Int) = l - 2 ∧ w p = l - 1 ∧ 2 ≤ l ∧ (∀ k, 1 ≤ k → k ≠ l - 1 → cnt v n (k + 1) ≤ cnt v n k) ∧ cnt v n l ≤ cnt v n (l - 1) + 1
theorem Charge.asc {w : W} {n N : Nat} (s : Sup w n) (d : ∀ a b, a < b → b < n → w a ≤ w b) (hc : ∀ k, 1 ≤ k → cnt w n (k + 1) ≤ cnt w n k) (c : Charge w N) : N = pot w n := by
  obtain ⟨u, r, f⟩ := c
  have U := Reach.keeps (I := Up w n (pot w n)) (fun {a b} h st => ?_) r ⟨by omega, fun _ => .inr rfl, s, hc⟩
  · obtain ⟨h1, h2, h3, h4⟩ := U
    have z : ∀ m : Nat, cnt u n ((m : Int) + 1) = 0 := by
      intro m
      induction m with
      | zero => exact cnt_no f
      | succ m ih =>
        have := h4 ((m : Int) + 1) (by omega)
        have e : ((m + 1 : Nat) : Int) + 1 = (m : Int) + 1 + 1 := by omega
        rw [e]
        omega
    have zero : ∀ j, j < n → (u j - 1).toNat = 0 := fun j hj => by
      by_cases h : u j ≤ 1
      · omega
      · have e := z (u j - 1).toNat
        rw [show (((u j - 1).toNat : Nat) : Int) + 1 = u j by omega] at e
        have := cnt_pos hj (rfl : u j = u j)
        omega
    have p0 : ∀ m, m ≤ n → pot u m = 0 := by
      intro m
      induction m with
      | zero => intro _; rfl
      | succ m ih =>
        intro hm
        rw [pot_succ, ih (by omega), zero m (by omega)]
    have := p0 n (Nat.le_refl _)
    omega
  · cases st with
    | @begin v q acc e m =>
      obtain ⟨h1, h2, h3, h4⟩ := h
      have p := pot_take h3 e (by decide)
      have p1 : ((1 : Int) - 1).toNat = 0 := rfl
      refine ⟨by omega, h2.put _, h3.put _, by omega, h2.at e (by decide), by decide, fun k hk hk2 => ?_, ?_⟩
      · have a1 := cnt_take h3 e (by decide) (show (1 : Int) ≤ k + 1 by omega)
        have a2 := cnt_take h3 e (by decide) hk
        have := h4 k hk
        rw [if_neg (by omega)] at a1 a2
        omega
      · have a1 := cnt_take h3 e (by decide) (show (1 : Int) ≤ 2 by decide)
        have a2 := cnt_take h3 e (by decide) (show (1 : Int) ≤ 1 by decide)
        have := h4 1 (by decide)
        rw [if_neg (by decide)] at a1
        rw [if_pos rfl] at a2
        show cnt _ n 2 ≤ cnt _ n 1 + 1
        have t : (1 : Int) + 1 = 2 := rfl
        rw [t] at this
        omega
    | @ahead v p q x acc l k =>
      obtain ⟨h1, h2, h3, h4, h5, h6, h7, h8⟩ := h
      exfalso
      have e := h2.at k.1 (by omega)
      have := d q p k.2.1 (s.lt (by omega))
      omega
    | @behind v p q x acc l k =>
      obtain ⟨h1, h2, h3, h4, h5, h6, h7, h8⟩ := h
      have e := k.1
      have p := pot_take h3 e (by omega)
      refine ⟨by omega, h2.put _, h3.put _, by omega, by rw [h2.at e (by omega)]; omega, by omega, fun m hm hm2 => ?_, ?_⟩
      · have a1 := cnt_take h3 e (by omega) (show (1 : Int) ≤ m + 1 by omega)
        have a2 := cnt_take h3 e (by omega) hm
        by_cases z : m = l - 1
        · subst z
          rw [if_pos (by omega)] at a1
          rw [if_neg (by omega)] at a2
          rw [show l - 1 + 1 = l by omega] at a1 ⊢
          omega
        · have := h7 m hm z
          rw [if_neg (by omega)] at a1 a2
          omega
      · have a1 := cnt_take h3 e (by omega) (show (1 : Int) ≤ l + 1 by omega)
        have a2 := cnt_take h3 e (by omega) (show (1 : Int) ≤ l by omega)
        rw [if_neg (by omega)] at a1
        rw [if_pos rfl] at a2
        have := h7 l (by omega) (by omega)
        rw [show l + 1 - 1 = l by omega]
        omega
    | @done v p x acc l k =>
      obtain ⟨h1, h2, h3, h4, h5, h6, h7, h8⟩ := h
      refine ⟨h1, h2, h3, fun m hm => ?_⟩
      by_cases z : m = l - 1
      · subst z
        rw [show l - 1 + 1 = l by omega, cnt_no k]
        exact Nat.zero_le _
      · exact h7 m hm z
end Kn

set_option Elab.async false
set_option linter.all false
set_option maxRecDepth 100000
set_option maxHeartbeats 4000000
/-! zip of three sequences, each a list or a tuple. -/
namespace Gd
open PySem PySem.Spec PyProof.Rows L2
/-- all three walked together: at each turn a new triple -/
def ItzF (K : PySem.W.Frag) (l1 l2 l3 : Bool) (a b c : Addr) : It where
  go := fun i H => ∃ (xs ys zs : List V) (x y z : V), SqE K l1 H a xs ∧ SqE K l2 H b ys ∧ SqE K l3 H c zs ∧ xs[i]? = some x ∧ ys[i]? = some y ∧ zs[i]? = some z
  yld := fun i H v H' => ∃ T x y z, v = .ref T ∧ H T = none ∧ H' = upd H T (.tup [x, y, z]) ∧ (∀ xs, SqE K l1 H a xs → xs[i]? = some x) ∧ (∀ ys, SqE K l2 H b ys → ys[i]? = some y) ∧ ∀ zs, SqE K l3 H c zs → zs[i]? = some z
  stop := fun i H => ∃ xs ys zs : List V, SqE K l1 H a xs ∧ SqE K l2 H b ys ∧ SqE K l3 H c zs ∧ i = min xs.length (min ys.length zs.length)
theorem turn_zipF {P : Program} {w : World} {K : PySem.W.Frag} {elts : List Expr} {kk : Nat} {tpos : Pos} {l1 l2 l3 : Bool} {a b c z TI TO i1 i2 i3 : Addr} (S : ZipSep3 z TI TO i1 i2 i3 [i1, a] [i2, b] [i3, c]) :
    Turn P w K (.Tuple elts kk tpos) (ItzF K l1 l2 l3 a b c) [z, TI, TO, i1, i2, i3] z (fun i h => IsZip h z TI TO .none ∧ IsTupOf3 h TI (.ref i1) (.ref i2) (.ref i3) ∧ (∃ x y u, IsTupOf3 h TO x y u) ∧ ItE l1 h i1 a i ∧ ItE l2 h i2 b i ∧ ItE l3 h i3 c i) where
  mem := List.mem_cons_self
  obj := by
    rintro i h ⟨hz, hTI, ⟨x, y, u, hTO⟩, h1, h2, h3⟩ d hc
    simp only [List.mem_cons, List.not_mem_nil, or_false] at hc
    rcases hc with rfl | rfl | rfl | rfl | rfl | rfl
    · exact ⟨_, hz, fun v q => nomatch q⟩
    · exact ⟨_, hTI, fun v q => nomatch q⟩
    · exact ⟨_, hTO, fun v q => nomatch q⟩
    · exact h1.there
    · exact h2.there
    · exact h3.there
  keep := by
    rintro i h h' ⟨hz, hTI, ⟨x, y, u, hTO⟩, h1, h2, h3⟩ k
    exact ⟨k _ (by simp) _ hz, k _ (by simp) _ hTI, ⟨x, y, u, k _ (by simp) _ hTO⟩, h1.at fun o q => k _ (by simp) o q, h2.at fun o q => k _ (by simp) o q, h3.at fun o q => k _ (by simp) o q⟩
  item := by
    intro X hP hw hK hc i pins s σ H E I hf st hg
    subst hP hw hK
    obtain ⟨hz, hTI, ⟨x0, y0, u0, hTO⟩, h1, h2, h3⟩ := st
    obtain ⟨xs, ys, ws, x, y, e, hqx, hqy, hqz, hx, hy, he⟩ := hg
    obtain ⟨its, rv, p⟩ := seqE I hqx
    obtain ⟨its2, rv2, p2⟩ := seqE I hqy
    obtain ⟨its3, rv3, p3⟩ := seqE I hqz
    obtain ⟨u, hu, ru⟩ := rv.get hx
    obtain ⟨u2, hu2, ru2⟩ := rv2.get hy
    obtain ⟨u3, hu3, ru3⟩ := rv3.get he
    have hd : X.A.in1.handled = none := I.ok.hd hc
    have zl : z < s.heap.objs.size := Heap.lt_size hz
    refine wpAny_pyNext_zipD3_item S (drawsE hd (h1.apart p)) (drawsE hd (h2.apart p2)) (drawsE hd (h3.apart p3)) hz hTI hTO ⟨h1, p⟩ ⟨h2, p2⟩ ⟨h3, p3⟩ (lt_of_get hu) (lt_of_get hu2) (lt_of_get hu3) fun v1 v2 v3 g3 tk e1 e2 e3 z3 TO3 s1 s2 s3 hT hsz hk => ?_
    obtain rfl : v1 = u := by
      rw [List.getElem?_toArray, hu] at e1
      exact (Option.some.inj e1).symm
    obtain rfl : v2 = u2 := by
      rw [List.getElem?_toArray, hu2] at e2
      exact (Option.some.inj e2).symm
    obtain rfl : v3 = u3 := by
      rw [List.getElem?_toArray, hu3] at e3
      exact (Option.some.inj e3).symm
    refine ⟨_, rfl, wpAny_letOwnedTupleGo_zip (s := { s with heap := g3, toks := tk }) z3 fun h4 z4 sb => ?_⟩
    have hT4 : h4.get? s.heap.objs.size = some { cls := .type "tuple", data := .seq #[v1, v2, v3] } := (sb.2 _ (Nat.ne_of_gt zl)).trans hT
    have new : ObjOk X.prog X.w (upd H s.heap.objs.size (.tup [x, y, e])) h4 s.heap.objs.size (.tup [x, y, e]) := ⟨by show 3 ≤ sizeLine; decide, [v1, v2, v3], .cons ru (.cons ru2 (.cons ru3 .nil)), ⟨_, hT4, rfl, _, rfl⟩⟩
    have kp : ∀ c o, c ∉ [z, TI, TO, i1, i2, i3] → s.heap.get? c = some o → h4.get? c = some o := fun c o hb q => by
      simp only [List.mem_cons, List.not_mem_nil, or_false, not_or] at hb
      exact (sb.2 c hb.1).trans (hk c o hb.1 hb.2.2.1 hb.2.2.2.1 hb.2.2.2.2.1 hb.2.2.2.2.2 q)
    have J : Inv X pins σ (upd H s.heap.objs.size (.tup [x, y, e])) { s with heap := h4, toks := tk } := I.turnedNew (t' := tk) kp hf (Nat.le_refl _) new
    refine ⟨.ref s.heap.objs.size, _, J, rfl, ⟨_, x, y, e, rfl, I.hok.fresh (Nat.le_refl _), rfl, fun m hm => ?_, fun m hm => ?_, fun m hm => ?_⟩, ⟨z4, ?_, ⟨v1, v2, v3, ?_⟩, ?_, ?_, ?_⟩, fun c hcm => ?_⟩
    · rw [injE I hm hqx]
      exact hx
    · rw [injE I hm hqy]
      exact hy
    · rw [injE I hm hqz]
      exact he
    · exact (sb.2 _ S.TIz).trans (hk _ _ S.TIz S.TITO S.TIi1 S.TIi2 S.TIi3 hTI)
    · exact (sb.2 _ S.TOz).trans TO3
    · exact s1.1.at fun o q => (sb.2 _ S.zi1.symm).trans q
    · exact s2.1.at fun o q => (sb.2 _ S.zi2.symm).trans q
    · exact s3.1.at fun o q => (sb.2 _ S.zi3.symm).trans q
    · have lt : c < s.heap.objs.size := by
        obtain ⟨_, g1, _⟩ := h1.there
        obtain ⟨_, g2, _⟩ := h2.there
        obtain ⟨_, g3, _⟩ := h3.there
        have hm := hcm
        simp only [List.mem_cons, List.not_mem_nil, or_false] at hm
        rcases hm with rfl | rfl | rfl | rfl | rfl | rfl
        · exact zl
        · exact Heap.lt_size hTI
        · exact Heap.lt_size hTO
        · exact Heap.lt_size g1
        · exact Heap.lt_size g2
        · exact Heap.lt_size g3
      rw [upd_ne (Nat.ne_of_lt lt)]
      exact (hf c hcm).1
  done := by
    intro X hP hw hK hc i pins s σ H E I hf st hg
    subst hP hw hK
    obtain ⟨hz, hTI, ⟨x0, y0, u0, hTO⟩, h1, h2, h3⟩ := st
    obtain ⟨xs, ys, ws, hqx, hqy, hqz, hend⟩ := hg
    obtain ⟨its, rv, p⟩ := seqE I hqx
    obtain ⟨its2, rv2, p2⟩ := seqE I hqy
    obtain ⟨its3, rv3, p3⟩ := seqE I hqz
    have n1 : its.toArray.size = xs.length := by rw [List.size_toArray, rv.length]
    have n2 : its2.toArray.size = ys.length := by rw [List.size_toArray, rv2.length]
    have n3 : its3.toArray.size = ws.length := by rw [List.size_toArray, rv3.length]
    have hd : X.A.in1.handled = none := I.ok.hd hc
    refine wpAny_pyNext_zipD3_end S (drawsE hd (h1.apart p)) (drawsE hd (h2.apart p2)) (drawsE hd (h3.apart p3)) hz hTI hTO ⟨h1, p⟩ ⟨h2, p2⟩ ⟨h3, p3⟩ (by omega) (by omega) (by omega) (by omega) fun g3 tk hk => ⟨rfl, I.turnedL (t' := tk) (fun c o hb q => ?_) hf⟩
    simp only [List.mem_cons, List.not_mem_nil, or_false, not_or] at hb
    exact hk c o hb.1 hb.2.2.1 hb.2.2.2.1 hb.2.2.2.2.1 hb.2.2.2.2.2 q
  self := fun A i s Q E st h => wpAny_pyIter_zip st.1 h
theorem vals_three {x y z : V} {us : List Value} (h : Vals [x, y, z] us) : ∃ u v w, us = [u, v, w] ∧ RelV x u ∧ RelV y v ∧ RelV z w := by
  cases h with
  | cons h1 t =>
    cases t with
    | cons h2 t =>
      cases t with
      | cons h3 t =>
        cases t
        exact ⟨_, _, _, rfl, h1, h2, h3⟩
def iZipF (K : PySem.W.Frag) (ta : TA) : TI := fun σ H R => ta σ H fun vs H1 => ∃ l1 l2 l3 a b c xs ys zs, vs = [.ref a, .ref b, .ref c] ∧ SqE K l1 H1 a xs ∧ SqE K l2 H1 b ys ∧ SqE K l3 H1 c zs ∧ R (ItzF K l1 l2 l3 a b c) H1
theorem call_of_zipF {X : Cx} {elts : List Expr} {kk : Nat} {tpos : Pos} {pins : List (Addr × Obj)} {σ : L2.St} {H : Hp} {s : Shared} {R : It → Hp → Prop} {l1 l2 l3 : Bool} {a b c : Addr} {i1 i2 i3 : Array Value} (I : Inv X pins σ H s)
    (p1 : HpE l1 s.heap a i1) (p2 : HpE l2 s.heap b i2) (p3 : HpE l3 s.heap c i3) (q : R (ItzF X.K l1 l2 l3 a b c) H) :
    wpAny (model X.prog X.w) X.A (call (.type "zip") [.ref a, .ref b, .ref c]) (fun v s2 => wpAny (model X.prog X.w) X.A (pyIter v) (PIE X pins σ (.Tuple elts kk tpos) R) X.xe s2) X.xe s := by
  refine zip_begins3 beginsE beginsE beginsE p1 p2 p3 fun h1 hz hTI hTO g1 g2 g3 _ hk => wpAny_pyIter_zip hz ?_
  have sep : ZipSep3 (s.heap.objs.size + 5) (s.heap.objs.size + 3) (s.heap.objs.size + 4) s.heap.objs.size (s.heap.objs.size + 1) (s.heap.objs.size + 2) [s.heap.objs.size, a] [s.heap.objs.size + 1, b] [s.heap.objs.size + 2, c] :=
    zip_sep3 (fun c hc => by rw [List.mem_singleton.mp hc]; exact p1.lt) (fun c hc => by rw [List.mem_singleton.mp hc]; exact p2.lt) (fun c hc => by rw [List.mem_singleton.mp hc]; exact p3.lt)
  refine ⟨s.heap.objs.size + 5, [s.heap.objs.size + 5, s.heap.objs.size + 3, s.heap.objs.size + 4, s.heap.objs.size, s.heap.objs.size + 1, s.heap.objs.size + 2], _, _, H, rfl, I.kept (t' := s.toks) hk, turn_zipF sep, ⟨hz, hTI, ⟨_, _, _, hTO⟩, .new g1, .new g2, .new g3⟩, fun c hc => ?_, q⟩
  have le : s.heap.objs.size ≤ c := by
    simp only [List.mem_cons, List.not_mem_nil, or_false] at hc
    rcases hc with rfl | rfl | rfl | rfl | rfl | rfl
    all_goals first | exact Nat.le_refl _ | exact Nat.le_add_right _ _
  exact I.fpOk le (I.hok.fresh le)
theorem pi_zipF {X : Cx} {e e2 e3 : Expr} {ta : TA} {p pos tpos : Pos} {elts : List Expr} {kk : Nat} (hg : Gl X "zip") (hm : X.mg "zip" = none) (ha : PA X [e, e2, e3] ta)
    (hs : starEach [e, e2, e3] X.env = (false, eval e X.env) :: starEach [e2, e3] X.env := by rfl) (hpl : (backTo pos (starEach [e2, e3] X.env)).any (·.1) = false := by rfl) :
    PI X (.Tuple elts kk tpos) (.Call (.Name "zip" p) [e, e2, e3] [] pos) (iZipF X.K ta) := by
  constructor
  intro pins s σ H R I h
  refine Call_ (ld_blt I hg hm PyProof.Rows.boot_zip (PyProof.Rows.callWith_type1 (thn (ha.run pos pins s σ H _ I h) fun us s1 q0 => ?_) hs hpl))
  obtain ⟨vs, H1, I1, r1, l1, l2, l3, a, b, c, xs, ys, zs, ex, hx, hy, hz, q⟩ := q0
  subst ex
  obtain ⟨u1, u2, u3, rfl, r1, r2, r3⟩ := vals_three r1
  cases r1
  cases r2
  cases r3
  obtain ⟨i1, _, p1⟩ := seqE I1 hx
  obtain ⟨i2, _, p2⟩ := seqE I1 hy
  obtain ⟨i3, _, p3⟩ := seqE I1 hz
  exact call_of_zipF I1 p1 p2 p3 q
/-- a new triple of the i-th ones -/
def YTri (xs ys zs : Nat → Option V) : Nat → Hp → V → Hp → Prop := fun i H v H' => ∃ T x y z, v = .ref T ∧ H T = none ∧ H' = upd H T (.tup [x, y, z]) ∧ xs i = some x ∧ ys i = some y ∧ zs i = some z
theorem walk_zipF {K : PySem.W.Frag} {l1 l2 l3 : Bool} {a b c : Addr} {xs ys zs : List V} {n : Nat} (hn : n = min xs.length (min ys.length zs.length)) :
    Walk (ItzF K l1 l2 l3 a b c) n (fun H => SqE K l1 H a xs ∧ SqE K l2 H b ys ∧ SqE K l3 H c zs) (YTri (fun i => xs[i]?) (fun i => ys[i]?) (fun i => zs[i]?)) where
  goes := fun i H hi q => by
    have h1 : i < xs.length := by omega
    have h2 : i < ys.length := by omega
    have h3 : i < zs.length := by omega
    exact ⟨xs, ys, zs, xs[i], ys[i], zs[i], q.1, q.2.1, q.2.2, List.getElem?_eq_getElem h1, List.getElem?_eq_getElem h2, List.getElem?_eq_getElem h3⟩
  stops := fun H q => ⟨xs, ys, zs, q.1, q.2.1, q.2.2, hn⟩
  yields := by
    rintro i H v H' _ q ⟨T, x, y, z, h1, h2, h3, h4, h5, h6⟩
    exact ⟨T, x, y, z, h1, h2, h3, h4 xs q.1, h5 ys q.2.1, h6 zs q.2.2⟩
end Gd

set_option Elab.async false
set_option linter.all false
set_option maxRecDepth 100000
set_option maxHeartbeats 4000000
/-! dict(list of pairs) with tuples of integers and texts as keys. -/
namespace Gd
open PySem PySem.Spec PyProof.Rows L2
section
variable {X : Cx}
/-- what is stored, one behind the other -/
def stoAll (kvs : List (List Key × V)) (qs : List (List Key × Addr × V)) : List (List Key × V) := qs.foldl (fun acc q => putK acc q.1 q.2.2) kvs
theorem pairsT_of {pins : List (Addr × Obj)} {σ : L2.St} {H : Hp} {s : Shared} (I : Inv X pins σ H s) : ∀ {ps : List Addr} {qs : List (List Key × Addr × V)},
    Paired (fun p (q : List Key × Addr × V) => SqT X.K H p [.ref q.2.1, q.2.2] ∧ H q.2.1 = some (.tup (q.1.map kV))) ps qs →
    ∃ prs : List (List Key × Addr × Value), prs.length = ps.length ∧ (∀ (j : Nat) (q : List Key × Addr × Value), prs[j]? = some q → ∃ b : Addr, ps[j]? = some b ∧ IsTup s.heap b #[.ref q.2.1, q.2.2] ∧ H q.2.1 = some (.tup (q.1.map kV))) ∧
      ∀ acc xs, KT H acc xs → KT H (stoAll acc qs) (storedAllH xs prs)
  | _, _, .nil => ⟨[], rfl, fun j q e => by simp at e, fun _ _ h => h⟩
  | _, _, .cons (a := p) (b := q) h t => by
    obtain ⟨prs, hl, hp, hf⟩ := pairsT_of I t
    obtain ⟨its, rv, ht, _⟩ := I.tuple h.1
    obtain ⟨u, y, ei, ru, ry⟩ := vals2 rv
    subst ei
    cases ru
    refine ⟨(q.1, q.2.1, y) :: prs, by rw [List.length_cons, List.length_cons, hl], fun j r e => ?_, fun acc xs r => hf _ _ (KT.put r q.1 h.2 ry)⟩
    cases j with
    | zero =>
      have e' : (q.1, q.2.1, y) = r := Option.some.inj e
      subst e'
      exact ⟨p, rfl, ht, h.2⟩
    | succ j =>
      obtain ⟨b, e1, e2, e3⟩ := hp j r (by simpa using e)
      exact ⟨b, by simpa using e1, e2, e3⟩
theorem length_stoAll : ∀ (qs : List (List Key × Addr × V)) (kvs : List (List Key × V)), (stoAll kvs qs).length ≤ kvs.length + qs.length
  | [], kvs => Nat.le_refl _
  | q :: qs, kvs => by
    have h1 := length_stoAll qs (putK kvs q.1 q.2.2)
    have h2 := length_putK kvs q.1 q.2.2
    rw [List.length_cons]
    show (stoAll (putK kvs q.1 q.2.2) qs).length ≤ _
    omega
def rDictPT (K : PySem.W.Frag) : List V → Hp → VK → Prop := fun xs H Q => ∃ (a : Addr) (ps : List Addr) (qs : List (List Key × Addr × V)), xs = [.ref a] ∧ SqL K H a (ps.map V.ref) ∧
  Paired (fun p (q : List Key × Addr × V) => SqT K H p [.ref q.2.1, q.2.2] ∧ H q.2.1 = some (.tup (q.1.map kV))) ps qs ∧ ∀ p, H p = none → Q (.ref p) (upd H p (.dT (stoAll [] qs)))
theorem paired_len {α β : Type} {F : α → β → Prop} : ∀ {a : List α} {b : List β}, Paired F a b → a.length = b.length
  | _, _, .nil => rfl
  | _, _, .cons _ t => by rw [List.length_cons, List.length_cons, paired_len t]
theorem call_dictPT (hcalm : X.calm = true) (hu : X.A.units + 66 < cLine) : CallR X (.type "dict") (rDictPT X.K) := by
  intro pins s σ H xs us Q I r q
  obtain ⟨a, ps, qs, ex, hq, hp, q⟩ := q
  subst ex
  obtain ⟨u, eu, rx⟩ := vals1 r
  subst eu
  cases rx
  obtain ⟨its, rv, pl, hz⟩ := I.list hq
  have ei := refs_at rv
  subst ei
  rw [List.length_map] at hz
  obtain ⟨prs, hl, hpr, hf⟩ := pairsT_of I hp
  have hlq := paired_len hp
  refine call_dict_pairsH (knd := tupleKind (mixKind X.prog X.w)) (ps := prs) (n := prs.length) (PairArg.list a ((ps.map Value.ref).toArray) (fun j => (ps.getD j 0)) (prs.map fun q => (Value.ref q.2.1, q.2.2)) |> fun P => by rw [List.length_map] at P; exact P) (I.ok.hd hcalm) ?_ ?_ ?_ ?_ ?_ ?_
  · show X.A.units + 2 < cLine
    omega
  · refine ⟨pl, by simp [hl], fun j k v hj => ?_⟩
    rw [List.getElem?_map] at hj
    cases e : prs[j]? with
    | none => rw [e] at hj; cases hj
    | some q' =>
      rw [e] at hj
      obtain ⟨b, e1, e2, e3⟩ := hpr j q' e
      cases hj
      refine ⟨?_, ?_⟩
      · simp [e1]
      · have eb : ps.getD j 0 = b := by rw [List.getD_eq_getElem?_getD, e1]; rfl
        show PairAt s.heap (ps.getD j 0) _ _
        rw [eb]
        exact .inl e2
  · refine ⟨rfl, fun i key v hr => ?_⟩
    have hr' : (prs.map fun q => (Value.ref q.2.1, q.2.2))[i]? = some (key, v) := hr
    rw [List.getElem?_map] at hr'
    cases e : prs[i]? with
    | none => rw [e] at hr'; cases hr'
    | some q' =>
      rw [e] at hr'
      cases hr'
      exact ⟨q'.1, q'.2.1, rfl, rfl⟩
  · intro h' hk x hx
    obtain ⟨j, hj, e⟩ := List.getElem_of_mem hx
    obtain ⟨b, e1, e2, e3⟩ := hpr j x (by rw [List.getElem?_eq_getElem hj, e])
    obtain ⟨o, items, n, h1, h2, h3, h4⟩ := key_of I.hok e3
    exact ⟨o, items, n, hk _ _ (Nat.ne_of_lt (Heap.lt_size h1)) (fun z => by cases z) h1, h2, h3, h4⟩
  · rw [hl]
    exact hz
  · intro h' tk hd' hk
    have hm : (s.heap.objs.size == sysModules) = false := beq_eq_false_iff_ne.mpr (Nat.ne_of_gt I.big)
    have hlen : (stoAll [] qs).length ≤ sizeLine := by
      refine Nat.le_trans (length_stoAll qs []) ?_
      rw [List.length_nil, Nat.zero_add, ← hlq]
      exact hz
    obtain ⟨o, es, ep, h1, h2, h3, h4, _, h5⟩ := hd'
    have fresh : H s.heap.objs.size = none := I.hok.fresh (Nat.le_refl _)
    have kt : KT H (stoAll [] qs) (storedAllH [] prs) := hf [] [] .nil
    exact ⟨.ref s.heap.objs.size, upd H s.heap.objs.size (.dT (stoAll [] qs)), I.laid (t' := tk) (fun b o e => hk b o (fun z => by cases z) e) (Nat.le_refl _)
      (show ObjOk X.prog X.w _ _ _ (.dT (stoAll [] qs)) from ⟨hlen, hm, _, kt.keeps (fun b ys e => by rw [upd_ne (ne_of_none e fresh)]; exact e), o, es, ep, h1, h2, h3, h4, h5⟩), rfl, q _ fresh⟩
end
end Gd

set_option Elab.async false
set_option linter.all false
set_option maxRecDepth 100000
set_option maxHeartbeats 4000000
/-! t[::-1], t a tuple. -/
namespace HN5
open PySem PySem.Spec PyProof.Rows PySem.SeqAt
section
variable {prog : Program} {w : World} {A : Around} {E : Value → Shared → Prop} {s : Shared}
theorem slice_rev {sl : Addr} {vl vu vs : Value} {n : Nat} {Q : Int × Int × Nat → Shared → Prop} (hs : s.heap.IsSliceOf sl vl vu vs) (pl : IsPart vl none) (pu : IsPart vu none) (ps : IsPart vs (some (-1)))
    (h : Q ((n : Int) - 1, -1, n) s) : wpAny (model prog w) A (Builtin.Slice.sliceApplied (.ref sl) (pure (n : Int))) Q E s := by
  obtain ⟨os, hos, hcs, hds⟩ := id hs
  cases pl
  cases pu
  cases ps with
  | int i t =>
  unfold Builtin.Slice.sliceApplied Builtin.Slice.sliceFields
  refine wpAny_bind (wpAny_bind (wpAny_field hos hds (x := .none) rfl (wpAny_bind (wpAny_field hos hds (x := .none) rfl (wpAny_bind (wpAny_field hos hds (x := .int (-1) t) rfl (wpAny_pure ?_)))))))
  refine wpAny_bind (HT.slicePart_ (.int (-1) t) ?_)
  show wpAny _ _ (if (((-1) : Int) == 0) = true then _ else _) _ _ s
  rw [if_neg (by decide)]
  refine wpAny_bind (HT.slicePart_ .none (wpAny_bind (HT.slicePart_ .none (wpAny_bind (wpAny_pure ?_)))))
  show wpAny _ _ (pure ((n : Int) - 1, (-1 : Int), Builtin.Slice.slicePlaces ((n : Int) - 1) (-1) (-1))) _ _ s
  have e : Builtin.Slice.slicePlaces ((n : Int) - 1) (-1) (-1) = n := by
    unfold Builtin.Slice.slicePlaces
    rw [if_neg (by decide)]
    by_cases z : n = 0
    · subst z
      rfl
    · rw [if_pos (by omega)]
      simp
  rw [e]
  exact wpAny_pure h
theorem pick_rev (items : Array Value) : ((List.range items.size).filterMap fun (m : Nat) => items[((items.size : Int) - 1 + (m : Int) * (-1)).toNat]?).toArray = items.toList.reverse.toArray := by
  congr 1
  have e : ∀ m, m < items.size → items[((items.size : Int) - 1 + (m : Int) * (-1)).toNat]? = items.toList.reverse[m]? := fun m hm => by
    rw [List.getElem?_reverse (by rw [Array.length_toList]; exact hm), Array.length_toList, Array.getElem?_toList]
    congr 1
    omega
  have f : ∀ l : List Nat, (∀ m ∈ l, m < items.size) → l.filterMap (fun (m : Nat) => items[((items.size : Int) - 1 + (m : Int) * (-1)).toNat]?) = l.filterMap (fun m => items.toList.reverse[m]?) := by
    intro l hl
    induction l with
    | nil => rfl
    | cons a r ih => rw [List.filterMap_cons, List.filterMap_cons, e a (hl a List.mem_cons_self), ih fun m hm => hl m (List.mem_cons_of_mem _ hm)]
  rw [f _ fun m hm => List.mem_range.mp hm]
  have g : ∀ (xs : List Value), (List.range xs.length).filterMap (fun m => xs[m]?) = xs := by
    intro xs
    induction xs with
    | nil => rfl
    | cons a r ih =>
      rw [List.length_cons, List.range_succ_eq_map, List.filterMap_cons, List.filterMap_map]
      show a :: List.filterMap (fun m => r[m]?) (List.range r.length) = a :: r
      rw [ih]
  have := g items.toList.reverse
  rw [List.length_reverse, Array.length_toList] at this
  exact this
theorem rev_tup {t sl : Addr} {items : Array Value} {vl vu vs : Value} {Q : Value → Shared → Prop} (ht : IsTup s.heap t items) (hs : s.heap.IsSliceOf sl vl vu vs) (pl : IsPart vl none) (pu : IsPart vu none) (ps : IsPart vs (some (-1)))
    (h : Q (.ref s.heap.objs.size) { s with heap := s.heap.push { cls := .type "tuple", data := .seq items.toList.reverse.toArray } }) (hsz : items.size ≤ sizeLine) : wpAny (model prog w) A (getItem (.ref t) (.ref sl)) Q E s := by
  have small : sizeOk (.seq items.toList.reverse.toArray) := by
    show items.toList.reverse.toArray.size ≤ sizeLine
    rw [List.size_toArray, List.length_reverse, Array.length_toList]
    exact hsz
  obtain ⟨os, hos, hcs, hds⟩ := id hs
  have isl : s.TypeIs (.ref sl) "slice" := ⟨os, hos, hcs⟩
  unfold getItem
  try with_reducible refine wpAny_holding ?_
  first | refine wpAny_bind (wpAny_pure ?_) | skip
  refine wpAny_bind (wpAny_sequenceKey ht.typeIs (by decide) (wpAny_bind (wpAny_callSpecial?_slot (name := Str.ofString "__getitem__") ht.typeIs PyProof.Rows.slot_tuple_getitem (wpAny_call_entry PyProof.Rows.slot_tuple_getitem ht.typeIs entry_tuple_getitem ?_ (args_tuple_getitem _ _)))))
  show wpAny _ _ (Builtin.Tuple.tupleItemsOf (.ref t) >>= _) _ _ s
  refine wpAny_bind (PyProof.Rows.tupleItemsOf_ ht (wpAny_bind (wpAny_typeOf isl ?_)))
  rw [if_pos (by decide)]
  refine wpAny_bind (slice_rev hs pl pu ps ?_)
  show wpAny _ _ (if ((((items.size : Int) - 1) == 0 && (-1 : Int) == 1 && items.size == items.size)) = true then _ else _) _ _ s
  rw [if_neg (by simp), pick_rev]
  first
    | exact wpAny_bind (m := Builtin.Tuple.tupleExact _) (wpAny_newObj_type (wpAny_pure ⟨_, rfl, wpAny_pure h⟩) small)
    | exact wpAny_bind (wpAny_bind (m := Builtin.Tuple.tupleExact _) (wpAny_newObj_type (wpAny_pure (wpAny_pure ⟨_, rfl, wpAny_pure h⟩)) small))
    | exact wpAny_bind (m := Builtin.Tuple.tupleExact _) (wpAny_newObj_type (wpAny_bind (wpAny_pure (wpAny_pure ⟨_, rfl, wpAny_pure h⟩))) small)
    | exact wpAny_bind (wpAny_bind (m := Builtin.Tuple.tupleExact _) (wpAny_newObj_type (wpAny_pure ⟨_, rfl, wpAny_pure h⟩) small))
end
end HN5
namespace Gd
open PySem PySem.Spec PyProof.Rows L2
section
variable {X : Cx}
def tRevT (K : PySem.W.Frag) (te : TE) : TE := fun σ H Q => te σ H fun x H1 => ∃ a xs, x = .ref a ∧ SqT K H1 a xs ∧ ∀ p, H1 p = none → Q (.ref p) (upd H1 p (.tup xs.reverse))
theorem pe_revT {e : Expr} {te : TE} {k : Nat} {p1 p2 p3 pos : Pos} (he : PE X e te) : PE X (.Subscript e (.Slice none none (some (.UnaryOp .USub (.Constant (.int 1) k p1) p2)) p3) pos) (tRevT X.K te) := by
  constructor
  intro pins s σ H Q I h
  refine Subscript_ (thn (he.run pins s σ H _ I h) fun v s1 ⟨x, H1, I1, r1, a, xs, ex, hx, q⟩ => ?_)
  subst ex
  cases r1
  have step : PO X (some (.UnaryOp .USub (.Constant (.int 1) k p1) p2)) (tPart (tUn (rU fun i => .int (-i)) (tC (.int 1)))) := po_some (pe_un un_neg pe_int)
  refine wpAny_Slice (thn (po_none.run pins s1 σ H1 (fun o G => o = none ∧ G = H1) I1 ⟨rfl, rfl⟩) fun vl s2 ⟨l, G, I2, pl, el, eG⟩ => ?_)
  subst el eG
  refine thn (po_none.run pins s2 σ G (fun o G2 => o = none ∧ G2 = G) I2 ⟨rfl, rfl⟩) fun vu s3 ⟨u, G2, I3, pu, eu, eG2⟩ => ?_
  subst eu eG2
  refine thn (step.run pins s3 σ G2 (fun o G3 => o = some (-1) ∧ G3 = G2) I3 ⟨1, rfl, -1, rfl, rfl, rfl⟩) fun vs s4 ⟨o, G3, I4, ps, eo, eG3⟩ => ?_
  subst eo eG3
  let sh : Shared := { s4 with heap := s4.heap.push { cls := .type "slice", data := .fields #[vl, vu, vs] } }
  have J : Inv X pins σ G3 sh := I4.kept (t' := s4.toks) fun b ob z => Heap.get?_push_of_some _ z
  obtain ⟨its, r, ht, hz⟩ := J.tuple hx
  have hlen := r.length
  show wpAny (model X.prog X.w) X.A (subscriptTail e (.Slice none none (some (.UnaryOp .USub (.Constant (.int 1) k p1) p2)) p3) (.ref a) (.ref s4.heap.objs.size)) (EP X pins σ Q) X.xe sh
  refine tail_any (ops := [.ref a, .ref s4.heap.objs.size]) ht.typeIs (PyProof.Rows.slot_tuple_getitem.lookup) ?_ (by with_unfolding_all rfl)
  refine HN5.rev_tup ht (Heap.IsSliceOf.new _ vl vu vs) pl pu ps ?_ (by rw [List.size_toArray]; omega)
  refine ⟨.ref _, _, J.laid (t' := s4.toks) (o := .tup xs.reverse) (fun b ob z => Heap.get?_push_of_some _ z) (Nat.le_refl _) ?_, rfl, q _ (J.hok.fresh (Nat.le_refl _))⟩
  exact ⟨by rw [List.length_reverse]; exact hz, _, r.reverse, ⟨_, Heap.get?_push_size _ rfl, rfl, _, rfl⟩⟩
end
end Gd

set_option Elab.async false
set_option linter.all false
set_option maxRecDepth 100000
set_option maxHeartbeats 4000000
/-! t[i:j] and t[::-1] of tuples: what they make has no dict. -/
namespace Gd
open PySem PySem.Spec PyProof.Rows L2
section
variable {X : Cx}
def rSlX (K : PySem.W.Frag) : V → Option Int → Option Int → Hp → VK → Prop := fun x lo hi H Q => ∃ a xs, x = .ref a ∧ SqT K H a xs ∧ ¬ (HT.sIx xs.length 0 lo = 0 ∧ HT.sIx xs.length xs.length hi = xs.length) ∧ ∀ p o, H p = none → o.dict = none → Q (.ref p) (upd H p (.frz o (.tup (cutV xs lo hi))))
theorem sl_tupX : SlR X (rSlX X.K) := by
  intro pins s σ H x v vl vu lo hi sl Q I rx hs pl pu h
  obtain ⟨a, xs, rfl, hx, hw, q⟩ := h
  cases rx
  obtain ⟨its, r, ht, hz⟩ := I.tuple hx
  have hlen : its.toArray.size = xs.length := by rw [List.size_toArray]; exact r.length.symm
  refine ⟨"tuple", _, PyProof.Rows.slot_tuple_getitem.lookup, ht.typeIs, ?_⟩
  refine HT.getItem_tuple_cut ht hs pl pu (by rw [hlen]; exact hw) ?_ (by rw [hlen]; exact hz)
  rw [hlen]
  refine ⟨.ref s.heap.objs.size, _, I.laid (t' := s.toks) (o := .frz { cls := .type "tuple", data := .seq ((its.toArray.toList.drop (HT.sIx xs.length 0 lo)).take (HT.sIx xs.length xs.length hi - HT.sIx xs.length 0 lo)).toArray } (.tup (cutV xs lo hi))) (fun b ob q => Heap.get?_push_of_some _ q) (Nat.le_refl _) ?_, rfl, q _ _ (I.hok.fresh (Nat.le_refl _)) rfl⟩
  · exact ⟨Heap.get?_push_size _ rfl, Nat.le_trans (cutV_length xs lo hi) hz, _, (r.drop (HT.sIx xs.length 0 lo)).take (HT.sIx xs.length xs.length hi - HT.sIx xs.length 0 lo), IsTup.new _ _⟩
def tRevX (K : PySem.W.Frag) (te : TE) : TE := fun σ H Q => te σ H fun x H1 => ∃ a xs, x = .ref a ∧ SqT K H1 a xs ∧ ∀ p o, H1 p = none → o.dict = none → Q (.ref p) (upd H1 p (.frz o (.tup xs.reverse)))
theorem pe_revX {e : Expr} {te : TE} {k : Nat} {p1 p2 p3 pos : Pos} (he : PE X e te) : PE X (.Subscript e (.Slice none none (some (.UnaryOp .USub (.Constant (.int 1) k p1) p2)) p3) pos) (tRevX X.K te) := by
  constructor
  intro pins s σ H Q I h
  refine Subscript_ (thn (he.run pins s σ H _ I h) fun v s1 ⟨x, H1, I1, r1, a, xs, ex, hx, q⟩ => ?_)
  subst ex
  cases r1
  have step : PO X (some (.UnaryOp .USub (.Constant (.int 1) k p1) p2)) (tPart (tUn (rU fun i => .int (-i)) (tC (.int 1)))) := po_some (pe_un un_neg pe_int)
  refine wpAny_Slice (thn (po_none.run pins s1 σ H1 (fun o G => o = none ∧ G = H1) I1 ⟨rfl, rfl⟩) fun vl s2 ⟨l, G, I2, pl, el, eG⟩ => ?_)
  subst el eG
  refine thn (po_none.run pins s2 σ G (fun o G2 => o = none ∧ G2 = G) I2 ⟨rfl, rfl⟩) fun vu s3 ⟨u, G2, I3, pu, eu, eG2⟩ => ?_
  subst eu eG2
  refine thn (step.run pins s3 σ G2 (fun o G3 => o = some (-1) ∧ G3 = G2) I3 ⟨1, rfl, -1, rfl, rfl, rfl⟩) fun vs s4 ⟨o, G3, I4, ps, eo, eG3⟩ => ?_
  subst eo eG3
  let sh : Shared := { s4 with heap := s4.heap.push { cls := .type "slice", data := .fields #[vl, vu, vs] } }
  have J : Inv X pins σ G3 sh := I4.kept (t' := s4.toks) fun b ob z => Heap.get?_push_of_some _ z
  obtain ⟨its, r, ht, hz⟩ := J.tuple hx
  have hlen := r.length
  show wpAny (model X.prog X.w) X.A (subscriptTail e (.Slice none none (some (.UnaryOp .USub (.Constant (.int 1) k p1) p2)) p3) (.ref a) (.ref s4.heap.objs.size)) (EP X pins σ Q) X.xe sh
  refine tail_any (ops := [.ref a, .ref s4.heap.objs.size]) ht.typeIs (PyProof.Rows.slot_tuple_getitem.lookup) ?_ (by with_unfolding_all rfl)
  refine HN5.rev_tup ht (Heap.IsSliceOf.new _ vl vu vs) pl pu ps ?_ (by rw [List.size_toArray]; omega)
  refine ⟨.ref _, _, J.laid (t' := s4.toks) (o := .frz { cls := .type "tuple", data := .seq its.toArray.toList.reverse.toArray } (.tup xs.reverse)) (fun b ob z => Heap.get?_push_of_some _ z) (Nat.le_refl _) ?_, rfl, q _ _ (J.hok.fresh (Nat.le_refl _)) rfl⟩
  · exact ⟨Heap.get?_push_size _ rfl, by rw [List.length_reverse]; exact hz, _, r.reverse, ⟨_, Heap.get?_push_size _ rfl, rfl, _, rfl⟩⟩
theorem g_slX {K : PySem.W.Frag} {lo hi : Option Int} {H : Hp} {Q : VK} {a : Addr} {xs : List V} (h : SqT K H a xs) (n : ¬ (HT.sIx xs.length 0 lo = 0 ∧ HT.sIx xs.length xs.length hi = xs.length)) (k : ∀ H' p, L2.Ext H H' → TupX K H' p (cutV xs lo hi) → Q (.ref p) H') : rSlX K (.ref a) lo hi H Q :=
  ⟨a, xs, rfl, h, n, fun p o hp ho => k _ p (fun b u q => by rw [upd_ne (fun z => by rw [z, hp] at q; cases q)]; exact q) (TupX.new ho)⟩
theorem g_revX {K : PySem.W.Frag} {te : TE} {σ : L2.St} {H : Hp} {Q : VK} (k : te σ H fun x H1 => ∃ a xs, x = .ref a ∧ SqT K H1 a xs ∧ ∀ p o, H1 p = none → o.dict = none → Q (.ref p) (upd H1 p (.frz o (.tup xs.reverse)))) : tRevX K te σ H Q := k
end
end Gd

set_option Elab.async false
set_option linter.all false
set_option maxRecDepth 100000
set_option maxHeartbeats 4000000
/-! Lists of places. -/
namespace Kn
def pos (v : W) (n : Nat) (l : Int) : List Nat := (List.range n).filter fun j => decide (v j = l)
def rem (v : W) (n : Nat) : List Nat := (List.range n).filter fun j => decide (v j ≠ 0)
section
variable {v w : W} {n p q : Nat} {l : Int}
theorem mem_pos {j : Nat} : j ∈ pos v n l ↔ j < n ∧ v j = l := by
  unfold pos
  rw [List.mem_filter, List.mem_range, decide_eq_true_eq]
theorem mem_rem {j : Nat} : j ∈ rem v n ↔ j < n ∧ v j ≠ 0 := by
  unfold rem
  rw [List.mem_filter, List.mem_range, decide_eq_true_eq]
theorem rem_filter (s : Sub v w) (hl : 1 ≤ l) : (rem v n).filter (fun j => decide (w j = l)) = pos v n l := by
  unfold rem pos
  rw [List.filter_filter]
  refine List.filter_congr fun j _ => ?_
  rcases s j with h | h
  · rw [h]
    rw [decide_eq_false (show ¬ ((0 : Int) ≠ 0) by simp), decide_eq_false (show ¬ ((0 : Int) = l) by omega), Bool.and_false]
  · rw [h]
    by_cases e : w j = l
    · rw [decide_eq_true e, decide_eq_true (show w j ≠ 0 by omega)]
      rfl
    · rw [decide_eq_false e]
      rfl
theorem rem_all (h : ∀ j, j < n → v j ≠ 0) : rem v n = List.range n := by
  unfold rem
  exact List.filter_eq_self.mpr fun j hj => decide_eq_true (h j (List.mem_range.mp hj))
theorem rem_put : rem (put v q) n = (rem v n).filter fun k => decide (k ≠ q) := by
  unfold rem
  rw [List.filter_filter]
  refine List.filter_congr fun j _ => ?_
  by_cases e : j = q
  · rw [e, put_same, decide_eq_false (show ¬ (q ≠ q) by simp), Bool.false_and]
    rfl
  · rw [put_ne e, decide_eq_true e, Bool.true_and]
theorem pos_put (hl : 1 ≤ l) : pos (put v q) n l = (pos v n l).filter fun k => decide (k ≠ q) := by
  unfold pos
  rw [List.filter_filter]
  refine List.filter_congr fun j _ => ?_
  by_cases e : j = q
  · rw [e, put_same, decide_eq_false (show ¬ (q ≠ q) by simp), Bool.false_and]
    exact decide_eq_false (by omega)
  · rw [put_ne e, decide_eq_true e, Bool.true_and]
theorem pos_other (hl : 1 ≤ l) (h : v q ≠ l) : pos (put v q) n l = pos v n l := by
  rw [pos_put hl]
  refine List.filter_eq_self.mpr fun j hj => decide_eq_true fun z => h ?_
  rw [← z]
  exact (mem_pos.mp hj).2
theorem asc_range : (List.range n).Pairwise (· < ·) := List.pairwise_lt_range
theorem asc_pos : (pos v n l).Pairwise (· < ·) := asc_range.filter _
theorem asc_rem : (rem v n).Pairwise (· < ·) := asc_range.filter _
theorem erase_at : ∀ {L : List Nat}, L.Pairwise (· < ·) → q ∈ L → ∃ j, L[j]? = some q ∧ (∀ m, m < j → L[m]? ≠ some q) ∧ L.eraseIdx j = L.filter fun k => decide (k ≠ q)
  | [], _, h => absurd h List.not_mem_nil
  | x :: r, a, h => by
    rw [List.pairwise_cons] at a
    by_cases e : x = q
    · subst e
      refine ⟨0, rfl, fun m hm => absurd hm (Nat.not_lt_zero _), ?_⟩
      rw [List.filter_cons_of_neg (by simp)]
      refine (List.filter_eq_self.mpr fun k hk => decide_eq_true ?_).symm
      have := a.1 k hk
      omega
    · have hr : q ∈ r := by
        rcases List.mem_cons.mp h with z | z
        · exact absurd z.symm e
        · exact z
      obtain ⟨j, h1, h2, h3⟩ := erase_at a.2 hr
      refine ⟨j + 1, h1, fun m hm => ?_, ?_⟩
      · cases m with
        | zero => exact fun z => e (Option.some.inj z)
        | succ m => exact h2 m (by omega)
      · rw [List.filter_cons_of_pos (by simpa using e)]
        show x :: r.eraseIdx j = _
        rw [h3]
theorem len_filter_ne : ∀ {L : List Nat}, q ∈ L → (L.filter fun k => decide (k ≠ q)).length < L.length
  | [], h => absurd h List.not_mem_nil
  | x :: r, h => by
    by_cases e : x = q
    · subst e
      rw [List.filter_cons_of_neg (by simp)]
      exact Nat.lt_succ_of_le (List.length_filter_le _ _)
    · rw [List.filter_cons_of_pos (by simpa using e)]
      rcases List.mem_cons.mp h with z | z
      · exact absurd z.symm e
      · exact Nat.succ_lt_succ (len_filter_ne z)
theorem last_max (s : Sup v n) (hl : 1 ≤ l) (h : q ∈ pos v n l) (m : ∀ j ∈ pos v n l, j ≤ q) : v q = l ∧ ∀ j, q < j → v j ≠ l := by
  refine ⟨(mem_pos.mp h).2, fun j hj z => ?_⟩
  have := m j (mem_pos.mpr ⟨s.lt (by omega), z⟩)
  omega
theorem ahead_max (s : Sup v n) (hl : 1 ≤ l) (h : q ∈ (pos v n l).filter fun j => decide (j < p)) (m : ∀ j ∈ (pos v n l).filter fun j => decide (j < p), j ≤ q) : Ahead v l p q := by
  rw [List.mem_filter, decide_eq_true_eq] at h
  refine ⟨(mem_pos.mp h.1).2, h.2, fun j h1 h2 z => ?_⟩
  have := m j (List.mem_filter.mpr ⟨mem_pos.mpr ⟨s.lt (by omega), z⟩, decide_eq_true h2⟩)
  omega
theorem behind_max (s : Sup v n) (hl : 1 ≤ l) (e : (pos v n l).filter (fun j => decide (j < p)) = []) (h : q ∈ pos v n l) (m : ∀ j ∈ pos v n l, j ≤ q) : Behind v l p q := by
  have k := last_max s hl h m
  refine ⟨k.1, fun j hj z => ?_, k.2⟩
  have := (List.filter_eq_nil_iff.mp e) j (mem_pos.mpr ⟨s.lt (by omega), z⟩)
  simp at this
  omega
theorem none_nil (s : Sup v n) (hl : 1 ≤ l) (e : pos v n l = []) : ∀ j, v j ≠ l := fun j z => by
  have h : j ∈ pos v n l := mem_pos.mpr ⟨s.lt (by omega), z⟩
  rw [e] at h
  cases h
end
/-- places as integers -/
def iz (ps : List Nat) : List Int := ps.map fun j : Nat => (j : Int)
theorem iz_len (ps : List Nat) : (iz ps).length = ps.length := List.length_map _
theorem mem_iz {ps : List Nat} {z : Int} (h : z ∈ iz ps) : ∃ q : Nat, z = (q : Int) ∧ q ∈ ps := by
  obtain ⟨q, hq, rfl⟩ := List.mem_map.mp h
  exact ⟨q, rfl, hq⟩
theorem max_iz {ps : List Nat} {m : Int} (h : m ∈ iz ps) (k : ∀ y ∈ iz ps, y ≤ m) : ∃ q : Nat, m = (q : Int) ∧ q ∈ ps ∧ ∀ j ∈ ps, j ≤ q := by
  obtain ⟨q, rfl, hq⟩ := mem_iz h
  refine ⟨q, rfl, hq, fun j hj => ?_⟩
  have := k (j : Int) (List.mem_map.mpr ⟨j, hj, rfl⟩)
  omega
theorem iz_at {ps : List Nat} {q j : Nat} : (iz ps)[j]? = some (q : Int) ↔ ps[j]? = some q := by
  unfold iz
  rw [List.getElem?_map]
  constructor
  · intro h
    obtain ⟨k, hk, e⟩ := Option.map_eq_some_iff.mp h
    rw [hk]
    congr 1
    omega
  · intro h
    rw [h]
    rfl
theorem iz_erase : ∀ (ps : List Nat) (j : Nat), (iz ps).eraseIdx j = iz (ps.eraseIdx j)
  | [], _ => rfl
  | _ :: _, 0 => rfl
  | x :: r, j + 1 => by
    show (x : Int) :: (iz r).eraseIdx j = (x : Int) :: iz (r.eraseIdx j)
    rw [iz_erase r j]
theorem iz_filter (c : Int → Bool) (d : Nat → Bool) (h : ∀ j : Nat, c (j : Int) = d j) : ∀ ps : List Nat, (iz ps).filter c = iz (ps.filter d)
  | [] => rfl
  | x :: r => by
    show ((x : Int) :: iz r).filter c = iz ((x :: r).filter d)
    cases e : d x with
    | true => rw [List.filter_cons_of_pos (by rw [h, e]), List.filter_cons_of_pos e, iz_filter c d h r]; rfl
    | false => rw [List.filter_cons_of_neg (by rw [h, e]; simp), List.filter_cons_of_neg (by rw [e]; simp), iz_filter c d h r]
end Kn

set_option Elab.async false
set_option linter.all false
set_option maxRecDepth 100000
set_option maxHeartbeats 4000000
/-! name = {k: v for ..} on one row. -/
namespace Gd
open PySem PySem.Spec PyProof.Rows L2
section
variable {X : Cx}
theorem ps_setDc {i : Nat} {y : Str} {py : Pos} {kx vx tg iter : Expr} {ifs : List Expr} {scope : Scope} {own : List (Str × Nat)} {pos spos : Pos} {wi : TI} {g : TG} {tt : TT} {tk tv : TE} (hc : X.calm = true) (hN : X.N.Nodup) (hy : X.N[i]? = some y) (hyl : X.env.scope.names.lookup y = some .local)
    (hsw : swapsWith (.DictComp kx vx [⟨tg, iter, ifs, 0⟩] scope pos) (some (.Name y py)) spos.line X.env = pure true) (hi : PI X tg iter wi) (ok : BlkOk X.N X.env.scope scope own)
    (hg : ∀ (s : Shared) (H : Hp) (C : Addr) (cl : List (Str × Addr)) (fp : List Addr), PG (X.blk s H scope (compEnvC scope cl C X.env) fp) tg g) (ht : ∀ (s : Shared) (H : Hp) (C : Addr) (cl : List (Str × Addr)) (fp : List Addr), PTs (X.blk s H scope (compEnvC scope cl C X.env) fp) ifs tt)
    (hk : ∀ (s : Shared) (H : Hp) (C : Addr) (cl : List (Str × Addr)) (fp : List Addr), PE (X.blk s H scope (compEnvC scope cl C X.env) fp) kx tk)
    (he : ∀ (s : Shared) (H : Hp) (C : Addr) (cl : List (Str × Addr)) (fp : List Addr), PE (X.blk s H scope (compEnvC scope cl C X.env) fp) vx tv) (hs : ∀ x, foldedSetIterable iter X.env x = pure x := by intro _; rfl) :
    PS X (.Assign [.Name y py] (.DictComp kx vx [⟨tg, iter, ifs, 0⟩] scope pos) spos) (tAsg (tDc wi g tt tk tv (own.map (·.2))) (gName i)) := by
  refine ⟨fun pins s σ H D I h => ?_⟩
  rw [exec_Assign_Name_used _ _ _ _ hsw]
  refine wpAny_bind (wpAny_standAt (wpAny_bind ?_))
  show wpAny _ X.A (do let _ ← comprehension (.DictComp kx vx [⟨tg, iter, ifs, 0⟩] scope pos) scope X.env (firstIterPos [⟨tg, iter, ifs, 0⟩] pos) newDict false (eval iter X.env) (some (assign (.Name y py) X.env))) _ _ s
  have h : tDc wi g tt tk tv (own.map (·.2)) σ H (fun x H1 => gName i x σ H1 D.nx) := h
  refine wpAny_bind (thn (dc_core (Qf := fun _ s' => SP X pins D .next s') hc hN I hi ok hg ht hk he hs h fun L C s' m H' I' q hn f => ?_) fun _ s' hq => wpAny_pure (wpAny_pure hq))
  show wpAny _ _ (assign (.Name y py) X.env (.ref L)) _ _ _
  refine wpAny_assign_Name (store_ok2 (v := V.ref L) I' hN hy (.inl hyl) rfl (fun s2 I2 ⟨a, sb, ha⟩ => ?_) (.inr hyl))
  obtain ⟨f0, f1, f2, f3, f4, f5⟩ := f
  have haC : C ≠ a := by
    rcases ha with z | z
    · rw [z]; exact f1
    · exact fun e => f4 y a z e.symm
  refine ⟨m, hn.sameBut sb haC, fun h3 sb3 => ?_⟩
  exact ⟨_, H', I2.turned (t' := s2.toks) (fun b o hb e => (sb3.2 b hb).trans e) f0 f1 f3 f4 f5, q⟩
theorem sw_trueD {kx vx : Expr} {gs : List Comprehension} {scope : Scope} {pos py : Pos} {y : Str} {l : Nat} {env : Env} (hk : env.scope.kind = .function) (hy : env.scope.names.lookup y = some .local) (hl : (py.line == pos.line) = true)
    (ha : (scope.names.any fun (n, k) => n == y && (k == .local || k == .cell)) = false) : swapsWith (.DictComp kx vx gs scope pos) (some (.Name y py)) l env = pure true := by
  have ky : env.kindOf y = some .local := hy
  have hb : env.blockKind = .function := by unfold Env.blockKind; rw [hk]; rfl
  unfold swapsWith
  simp only [hb, ky, ha, Expr.pos, hl]
  rfl
end
end Gd

set_option Elab.async false
set_option linter.all false
set_option maxRecDepth 100000
set_option maxHeartbeats 4000000
namespace PySem
namespace XRefused
open PySem.W PySem.Calls PyProof.Rows PySem.HandSPX
/-! ### the text of __init__ -/
def iA (p1 p2 : Pos) : Arguments := { posonlyargs := [], args := [{ arg := "self", annotation := none, pos := p1 }, { arg := "reason", annotation := none, pos := p2 }], vararg := none, kwonlyargs := [], kw_defaults := [], kwarg := none, defaults := [] }
def iB (q1 q2 q3 q4 : Pos) : List Stmt := [.Assign [.Attribute (.Name "self" q1) "reason" q2] (.Name "reason" q3) q4]
def iS : Scope := { kind := .function, names := [(PySem.Str.ofString "self", .local), (PySem.Str.ofString "reason", .local)], isGenerator := false, isCoroutine := false, more := [] }
/-- what the written part says of Low, at C, and of its __init__, at fI -/
structure RefusedTxt (K : Frag) (mg : Str → Option Value) (C fI : Addr) : Prop where
  gC : mg "Refused" = some (.ref C)
  cls : ∃ nm q N bs sn sub ab col dd k0 k1 k2 k3 k5, K.lookup C = some (excClassObj nm q C N bs [.type "ArithmeticError", .type "Exception", .type "BaseException", .type "object"] true sn sub ab col dd k0 k1 k2 k3 k5 "ArithmeticError.__new__")
  sa : findIn K (.ref C) "__setattr__" = some (some (.builtin "object.__setattr__"))
  ga : findIn K (.ref C) "__getattribute__" = some (some (.builtin "BaseException.__getattribute__"))
  gg : findIn K (.ref C) "__getattr__" = some none
  noN : findIn K (.ref C) "reason" = some none
  iC : findIn K (.ref C) "__init__" = some (some (.ref fI))
  tC : typeIn K (.ref fI) = some (.type "function")
  kC : keepIn K (.ref C) = true
  exC : subIn K (.ref C) (.type "BaseException") = some true
  tyC : typeIn K (.ref C) = some (.type "type")
  hdC : hasDictIn K C = true
  te : exmOne K (.ref C) (.ref C) = some true
  fn : ∃ (oc : Value) (od : Option Addr) (doc pm : Value) (an : Option Addr) (cdv ct : Value) (osl : Array (Option Value)) (p1 p2 q1 q2 q3 q4 : Pos),
    K.lookup fI = some ⟨oc, od, .func (fnOf "__init__" "Refused.__init__" (iA p1 p2) (iB q1 q2 q3 q4) iS .none .none doc pm an cdv ct), osl⟩ ∧ codeIn K cdv "Refused.__init__" = true
theorem one_size (v : Value) : [v].length ≤ sizeLine := by
  rw [sizeLine_eq]
  exact (by decide : 1 ≤ 16777216)
theorem kept_but {K : Frag} {h h' : Heap} {x : Addr} (X : K.In h) (hx : K.lookup x = none) (k : ∀ b o, b ≠ x → h.get? b = some o → h'.get? b = some o) : K.In h' := fun a o e =>
  k a o (fun z => by rw [z, hx] at e; cases e) (X a o e)
theorem ldC {M : Model} {s : Shared} {name : Str} {scope : Scope} {L a : Addr} {cd : Value} {m : Str → Option Value} {x : Str} {pos : Pos} {v : Value} {Q : Value → Shared → Prop} {A : Around} {E : Value → Shared → Prop} (hn : s.heap.Ns L m) (hv : m x = some v) (h : Q v s)
    (hk : scope.kind = .function := by rfl) (hl : (envOfC name scope L a cd).kindOf x = some .local := by rfl) (hd : (x == ("__debug__" : Str)) = false := by decide) :
    wpAny M A (eval (.Name x pos) (envOfC name scope L a cd)) Q E s := wpAny_Name (wpAny_loadName_local hk hl hn hv h) hd
/-- what __init__ leaves of a fresh exception at x -/
structure InitEnd (h h' : Heap) (x C dx t1 : Addr) (v : Value) : Prop where
  keep : ∀ b o, b ≠ x → h.get? b = some o → h'.get? b = some o
  obj : h'.get? x = some { cls := .ref C, dict := some dx, data := .fields #[.ref t1, .none, .none, .none, .bool false, .none] }
  dbig : h.objs.size ≤ dx
  dne : dx ≠ x
  ns : h'.Ns1 dx (fun y => if y = "reason" then some v else none)
/-- a made Low -/
structure OwnMade (h h' : Heap) (e C d : Addr) (v : Value) : Prop where
  keep : ∀ b o, h.get? b = some o → h'.get? b = some o
  new : h.objs.size ≤ e
  obj : ∃ oe vs, h'.get? e = some oe ∧ oe.cls = .ref C ∧ oe.dict = some d ∧ oe.data = .fields vs ∧ vs[1]? = some .none
  dbig : h.objs.size ≤ d
  dne : d ≠ e
  ns : h'.Ns1 d (fun y => if y = "reason" then some v else none)
section
variable {prog : Program} {w : World} {A : Around} {E : Value → Shared → Prop} {R : Result → Shared → Prop} {s : Shared} {K : Frag} {mg : Str → Option Value} {C fI : Addr}
theorem low_init (T : RefusedTxt K mg C fI) {x t0 : Addr} {v : Value} (X : K.In s.heap) (hlim : s.heap.NoLimit) (hx : s.heap.get? x = some (excO C t0)) (hnx : K.lookup x = none) (hroom : A.depth < recursionLimit)
    (hq : ∀ h' tk dx, InitEnd s.heap h' x C dx t0 v → R (.ok (.ret .none)) { s with heap := h', toks := tk }) :
    codeAny (model prog w) A (.call (.ref fI) ⟨[.ref x, v], []⟩) R s := by
  obtain ⟨oc, od, doc, pm, an, cdv, ct, osl, p1, p2, q1, q2, q3, q4, ho, hcd⟩ := T.fn
  obtain ⟨nm, q, N, bs, sn, sub, ab, col, dd, k0, k1, k2, k3, k5, hC⟩ := T.cls
  have hcl : clsIn K C = some { name := nm, bases := bs, mro := .ref C :: [.type "ArithmeticError", .type "Exception", .type "BaseException", .type "object"], ns := N, qualname := q, hasDict := true, slotNames := sn, subclasses := sub, abstract := ab, collection := col, hasDel := false } := by unfold clsIn; rw [hC] <;> rfl
  refine Att.call_fn (binds := [("self", .ref x), ("reason", v)]) X hlim ho hcd hroom (BindsTo.of_eq (by first | rfl | with_unfolding_all rfl)) (by first | rfl | decide | with_unfolding_all rfl) (fun s₁ IC => ?_) rfl rfl rfl
  obtain ⟨h₁, tk₁, rfl⟩ := IC.toInCall.same
  have k : ∀ b o, s.heap.get? b = some o → h₁.get? b = some o := IC.toInCall.keep
  have hn := IC.toInCall.ns
  have hxL : s.heap.objs.size ≠ x := Nat.ne_of_gt (Heap.lt_size hx)
  have X₁ : K.In h₁ := X.keeps k
  have hx₁ := k _ _ hx
  -- self.by = by
  show wpAny _ _ (execs _ _) _ _ _
  refine wpAny_execs_cons (plainObj_wpAny_Assign_Attribute ?_)
  refine ldC (v := v) hn (by first | rfl | with_unfolding_all rfl | kernel_rfl) (ldC (v := .ref x) hn (by first | rfl | with_unfolding_all rfl | kernel_rfl) ?_)
  refine set_plain X₁ (ox := excO C t0) (od := none) ⟨hx₁, rfl, rfl, trivial⟩ T.sa ?_
  refine GdX.osaG F.store_ArithmeticError X₁ hx₁ hcl rfl rfl T.noN (fun h₃ tk₃ dx k₃ dn dne hx₃ hn₃ => ?_)
  show wpAny _ _ (execs _ _) _ _ _
  have z : s.heap.objs.size < h₁.objs.size := hn.lt
  exact wpAny_execs_nil (hq h₃ tk₃ dx ⟨fun b o hb e => k₃ b o hb (k b o e), hx₃, Nat.le_of_lt (Nat.lt_of_lt_of_le z dn), dne, hn₃⟩)
theorem low_made (T : RefusedTxt K mg C fI) {v : Value} (X : K.In s.heap) (hlim : s.heap.NoLimit) (hroom : A.depth + 1 < recursionLimit)
    (hq : ∀ h' tk e d, OwnMade s.heap h' e C d v → R (.ok (.ret (.ref e))) { s with heap := h', toks := tk }) :
    codeAny (model prog w) A (.call (.ref C) ⟨[v], []⟩) R s := by
  obtain ⟨nm, q, N, bs, sn, sub, ab, col, dd, k0, k1, k2, k3, k5, hC⟩ := T.cls
  obtain ⟨hp, g, dr, tk, os⟩ := s
  have k : ∀ b o, hp.get? b = some o → ((hp.push (kdv_tup [v])).push (excO C hp.objs.size)).get? b = some o := fun b o e => Heap.get?_push_of_some _ (Heap.get?_push_of_some _ e)
  have hget : ((hp.push (kdv_tup [v])).push (excO C hp.objs.size)).get? (hp.objs.size + 1) = some (excO C hp.objs.size) := by heap_get
  have hnx : K.lookup (hp.objs.size + 1) = none := by
    cases e : K.lookup (hp.objs.size + 1) with
    | none => rfl
    | some o =>
      have z : hp.get? (hp.objs.size + 1) = some o := X _ _ e
      exact absurd (Nat.lt_of_succ_lt (Heap.lt_size z)) (Nat.lt_irrefl _)
  refine call_own F.excBase_ArithmeticError (fun _ => rfl) (X _ _ hC) (looks_findIn X T.iC) (fun self => bind_fn X self T.tC) (one_size v) ?_
  refine low_init (s := ⟨(hp.push (kdv_tup [v])).push (excO C hp.objs.size), g, dr, tk, os⟩) T (X.keeps k) (hlim.keeps k) hget hnx ?_ fun h' tk' dx ⟨k', hx, dn, dne, hns⟩ => ?_
  · show A.depth + 1 < recursionLimit
    exact hroom
  · have old : ∀ b o, hp.get? b = some o → h'.get? b = some o := fun b o e => k' b o (Nat.ne_of_lt (Nat.lt_succ_of_lt (Heap.lt_size e))) (k b o e)
    have z : hp.objs.size + 1 + 1 ≤ dx := by
      first
        | (simpa only [Heap.size_push] using dn)
        | exact dn
        | (have q := dn; rw [Heap.size_push, Heap.size_push] at q; exact q)
    exact ⟨rfl, hq h' tk' (hp.objs.size + 1) dx ⟨old, Nat.le_succ _, ⟨_, _, hx, rfl, rfl, rfl, rfl⟩, Nat.le_trans (Nat.le_trans (Nat.le_succ _) (Nat.le_succ _)) z, dne, hns⟩⟩
end
end XRefused
end PySem
namespace L2
open PySem PySem.Spec PyProof.Rows
theorem relO_Refused {v : V} {v' : Value} (r : RelV v v') (f : Str) : RelO (List.lookup f [(("reason" : Str), v)]) (if f = "reason" then some v' else none) := by
  by_cases hw : f = "reason"
  · subst hw
    rw [if_pos rfl]
    have q : List.lookup ("reason" : Str) [(("reason" : Str), v)] = some v := by simp [List.lookup]
    rw [q]
    exact r
  · rw [if_neg hw]
    have qw : (f == ("reason" : Str)) = false := by simpa using hw
    have q2 : List.lookup f [(("reason" : Str), v)] = none := by simp [List.lookup, qw]
    rw [q2]
    trivial
section
variable {X : Cx} {C fI : Addr}
/-- Low(e) -/
def tMkRefused (C : Addr) (ta : TA) : St → Hp → XK → Prop := fun σ H Q => ta σ H fun vs H1 => ∃ v, vs = [v] ∧ ∀ d, H1 d = none → Q (.ref C) (some d) (upd H1 d (.xd [(("reason" : Str), v)]))
theorem pmk_Refused {a : Expr} {ta : TA} {p pos : Pos} {k : Nat} (T : PySem.XRefused.RefusedTxt X.K X.mg C fI) (hr : Room k X.A) (ha : PA X [a] ta) (hg : Gl X "Refused" := by rfl)
    (he : starEach (a :: []) X.env = (false, eval a X.env) :: starEach [] X.env := by rfl) (hpl : (backTo pos (starEach [] X.env)).any (·.1) = false := by rfl) :
    PMk X (.Call (.Name "Refused" p) [a] [] pos) (tMkRefused C ta) := by
  intro pins s σ H Q I h
  refine wpAny_Call_Name_kw (ld_glob I hg T.gC ?_)
  refine PySem.W.callWith_K (h₀ := X.base) I.ok.mod.kin T.kC (thn (ha.run pos pins s σ H _ I h) fun us s1 hh => ?_) he hpl
  obtain ⟨vs, H1, I1, r1, v, ev, q1⟩ := hh
  subst ev
  refine ⟨I1.kIn, ?_⟩
  cases r1 with
  | cons rv rn =>
    rename_i v' us'
    cases rn
    show wpAny _ _ (call (.ref C) [v']) _ _ _
    have hlim := I1.nolimit
    obtain ⟨hp, g, dr, tk, os⟩ := s1
    refine wpAny_call (PySem.XRefused.low_made T I1.kIn hlim (by have := hr.dp; omega) fun h' tk' e d M => ?_)
    show MkP X pins σ Q (.ref e) ⟨h', g, dr, tk', os⟩
    obtain ⟨oe, fv, hoe, hc, hd, hdat, h1⟩ := M.obj
    have hns := M.ns
    obtain ⟨G', g1, g2⟩ := restrict h' fun b => decide (b ≠ e)
    have gk : ∀ b, b ≠ e → G'.get? b = h'.get? b := fun b hb => g1 b (decide_eq_true hb)
    have ge : G'.get? e = none := g2 e (by simp)
    have old : ∀ b o, hp.get? b = some o → G'.get? b = some o := fun b o q => (gk b (Nat.ne_of_lt (Nat.lt_of_lt_of_le (Heap.lt_size q) M.new))).trans (M.keep b o q)
    have ob : ObjOk X.prog X.w (upd H1 d (.xd [(("reason" : Str), v)])) G' d (.xd [(("reason" : Str), v)]) :=
      ⟨_, hns.at (fun o q => (gk d M.dne).trans q), fun f => relO_Refused rv f⟩
    have J : Inv X pins σ (upd H1 d (.xd [(("reason" : Str), v)])) ⟨G', g, dr, tk', os⟩ := I1.laid (t' := tk') old M.dbig ob
    refine ⟨e, oe, fv, ⟨G', g, dr, tk', os⟩, _, .ref C, some d, rfl, J, fun b o q => ?_, ge, hoe, ⟨hc, hd⟩, hdat, h1, ?_, rfl, I1.bare, raises_own T.exC T.tyC, q1 d (I1.hok.fresh M.dbig)⟩
    · by_cases hb : b = e
      · have q' : G'.get? b = some o := q
        rw [hb, ge] at q'; cases q'
      · exact (gk b hb).symm.trans q
    · rw [upd_ne (Ne.symm M.dne)]
      exact I1.hok.fresh M.new
/-- raise Low(e) -/
def tRaiseRefused (C : Addr) (W : WX) (ta : TA) : TS := fun _ σ H => tMkRefused C ta σ H fun cls d H' => W cls d σ H'
theorem ps_raiseRefused {a : Expr} {ta : TA} {W : WX} {p pos pos2 : Pos} {k : Nat} (hc : X.calm = true) (T : PySem.XRefused.RefusedTxt X.K X.mg C fI) (hr : Room k X.A) (tk : Takes X W) (ha : PA X [a] ta) (hg : Gl X "Refused" := by rfl)
    (he : starEach (a :: []) X.env = (false, eval a X.env) :: starEach [] X.env := by rfl) (hpl : (backTo pos (starEach [] X.env)).any (·.1) = false := by rfl) :
    PS X (.Raise (some (.Call (.Name "Refused" p) [a] [] pos)) none pos2) (tRaiseRefused C W ta) := ps_raise hc tk (pmk_Refused T hr ha hg he hpl)
/-- low.by, low the exception that the suite holds (at a; its class cls, its dict d) -/
def tByRefused (C : Addr) (a : Addr) (cls : Value) (d : Option Addr) (te : TE) : TE := fun σ H Q => te σ H fun x H1 => x = .ref a ∧ cls = .ref C ∧ ∃ (dd : Addr) (v : V), d = some dd ∧ H1 dd = some (.xd [(("reason" : Str), v)]) ∧ Q v H1
theorem pe_byRefused {a : Addr} {oe : Obj} {cls : Value} {d : Option Addr} {pn : List (Addr × Obj)} {e : Expr} {te : TE} {pos : Pos} (T : PySem.XRefused.RefusedTxt X.K X.mg C fI) (hz : Zc cls d oe) (hf : ∃ vs, oe.data = .fields vs) (he : PE (X.suite a ((a, oe) :: pn)) e te)
    (hb : attributeBase e "reason" X.env (eval e X.env) = eval e X.env := by rfl) :
    PE (X.suite a ((a, oe) :: pn)) (.Attribute e "reason" pos) (tByRefused C a cls d te) := by
  refine ⟨fun pins s σ H Q I h => ?_⟩
  refine attr_of hb (thn (he.run pins s σ H _ I h) fun u s1 hh => ?_)
  obtain ⟨x, H1, I1, rx, ex, ec, dd, v, ed, ea, q⟩ := hh
  subst ex
  obtain rfl : u = Value.ref a := rx
  subst ec
  subst ed
  obtain ⟨ha, _⟩ := I1.pin (a, oe) (List.mem_append_left _ List.mem_cons_self)
  obtain ⟨vs, hd⟩ := hf
  have hx : ObjOk X.prog X.w H1 s1.heap dd (.xd [(("reason" : Str), v)]) := I1.hok dd _ ea
  obtain ⟨mA, hns, hr⟩ := hx
  obtain ⟨od, ho, hl⟩ := lookIn_ns hns
  have l : List.lookup ("reason" : Str) [(("reason" : Str), v)] = some v := by simp [List.lookup]
  obtain ⟨u, hu, ru⟩ := RelO.some_of (v := v) (o := mA "reason") (by rw [← l]; exact hr "reason")
  have J : PySem.W.InstAt s1.heap a oe C (some od) := ⟨ha, hz.1, by unfold PySem.W.notCls; rw [hd] <;> rfl, by rw [hz.2]; exact ho⟩
  exact HandSPX.exc_get I1.kIn J T.ga T.gg T.exC (PySem.W.findObj_own T.hdC T.noN rfl (by rw [hl, hu])) (handed_of ru) ⟨v, H1, I1.tok _, ru, q⟩
end
end L2

set_option Elab.async false
set_option linter.all false
set_option maxRecDepth 100000
set_option maxHeartbeats 4000000
/-! try with several clauses «except x as n» of one name n. -/
namespace Gd
open PySem PySem.Spec PyProof.Rows L2
abbrev Clause := Value × (Addr → Value → Option Addr → TS)
/-- what the clauses wish, one after the other; slot i is the name's -/
def wAsAll (K : PySem.W.Frag) (i : Nat) (Wo : WX) (D : Ends) : List Clause → WX
  | [] => Wo
  | (c, ts) :: r => wAs K c i ts (wAsAll K i Wo D r) D
inductive AsOk (X : Cx) (n : Str) : List ExceptHandler → List Clause → Prop
  | nil : AsOk X n [] []
  | cons {x : Str} {c : Value} {ts : Addr → Value → Option Addr → TS} {b₀ : Stmt} {rows : List Stmt} {np po : Pos} {hds : List ExceptHandler} {l : List Clause} (hc : Names X x c)
      (hsu : ∀ (a : Addr) (oe : Obj) (k : Value) (d : Option Addr) (pn : List (Addr × Obj)), Zc k d oe → (∃ us, oe.data = .fields us) → PSs (X.suite a ((a, oe) :: pn)) (b₀ :: rows) (ts a k d)) (more : AsOk X n hds l) :
      AsOk X n (.ExceptHandler (some (.Name x np)) (some n) (b₀ :: rows) po :: hds) ((c, ts) :: l)
section
variable {X : Cx} {n : Str} {i : Nat} {body : List Stmt} {h₀ : ExceptHandler} {hds : List ExceptHandler} {l : List Clause} {pos : Pos} {tb : WX → TS} {Wo : WX}
theorem ps_try_asAll (hst : X.stack = X.env :: X.outer) (hfr0 : X.env.frame = some X.env.locals) (hN : X.N.Nodup) (hi : X.N[i]? = some n) (hl : X.env.kindOf n = some .local) (tk : Takes X Wo)
    (hb : ∀ (W : WX) (pn : List (Addr × Obj)) (xe : Value → Shared → Prop), Takes (X.tr pn xe) W → PassesOwn (model X.prog X.w) X.A X.env xe → PSs (X.tr pn xe) body (tb W))
    (hh : AsOk X n (h₀ :: hds) l) : PS X (.Try body (h₀ :: hds) [] [] pos) (fun D σ H => tb (wAsAll X.K i Wo D l) D σ H) := by
  constructor
  intro pins s0 σ0 H0 D I h
  have okX := I.ok
  have hfr : X.A.frames = some (X.env :: X.outer) := by rw [okX.frames, hst]
  have hloc : Loc X.env.scope n := .inl hl
  refine wpAny_Try_except ?_
  have go := hb (wAsAll X.K i Wo D l) (X.pn ++ pins) (fun e t₁ => wpAny (model X.prog X.w) X.A (noteFrame e X.env) (fun _ t₂ => wpAny (model X.prog X.w) X.A (setFlight e none) (fun _ t₃ =>
    wpAny (model X.prog X.w) X.A (handleBy e X.env (h₀ :: hds)) (SP X pins D) X.xe t₃) X.xe t₂) X.xe t₁) (fun u t' caught => ?_) PassesOwn.looking
  · refine wpAny_mono (go.run [] s0 σ0 H0 D (I.toTry _) h) (fun f t1 done => ?_) (fun e t1 z => z)
    match f, done with
    | .next, ⟨σ1, H1, J, q⟩ => exact wpAny_execs_nil ⟨σ1, H1, J.ofTry okX, q⟩
    | .brk, ⟨σ1, H1, J, q⟩ => exact ⟨σ1, H1, J.ofTry okX, q⟩
    | .cont, ⟨σ1, H1, J, q⟩ => exact ⟨σ1, H1, J.ofTry okX, q⟩
    | .ret u, ⟨v, σ1, H1, J, r, q⟩ => exact ⟨v, σ1, H1, J.ofTry okX, r, q⟩
  obtain ⟨a, B, sI, pins2, σ2, H2, cls, d, rfl, J0, nb, up, sky, na, os, ag, wish⟩ := caught
  have J : Inv X pins σ2 H2 sI := J0.ofTry okX
  have sky2 : Sky B (X.env :: X.outer) a (Zc cls d) X.env.locals t'.heap := by rw [← hst]; exact sky
  show wpAny (model X.prog X.w) X.A (noteFrame (.ref a) X.env) _ _ _
  refine Sky.land Zc.steady hfr hfr0 sky2 ?_
  intro h3 fl3 up3
  have J3 : Inv X pins σ2 H2 { t' with heap := h3 } := J.landed nb fl3.1 (up.trans up3) os ag
  obtain ⟨o3, vs3, at3, z3, d3⟩ := fl3.there
  have off : a ∉ frs (X.env :: X.outer) := by
    intro hm
    obtain ⟨_, o', e', hnf⟩ := fl3.2.2.1.mem hm
    rw [at3] at e'
    cases e'
    exact hnf _ d3
  have nL : a ≠ X.env.locals := by
    intro z
    exact off (List.mem_filterMap.mpr ⟨X.env, List.mem_cons_self, by rw [hfr0, z]⟩)
  have nF : a ∉ X.fs := by
    intro hm
    obtain ⟨e, he, q⟩ := List.mem_filterMap.mp hm
    exact off (List.mem_filterMap.mpr ⟨e, List.mem_cons_of_mem _ he, q⟩)
  have S3 := J3.suite at3 d3 na nL nF
  have clauses : ∀ (hs2 : List ExceptHandler) (l2 : List Clause), AsOk X n hs2 l2 → wAsAll X.K i Wo D l2 cls d σ2 H2 →
      wpAny (model X.prog X.w) X.A (handleBy (.ref a) X.env hs2) (SP X pins D) X.xe { t' with heap := h3 } := by
    intro hs2 l2 ok2
    induction ok2 with
    | nil =>
      intro wo
      refine wpAny_handleBy_nil ?_
      obtain ⟨_, _, _, oe, us, T, oT, ts2, at_, hz, hd, hT, hr⟩ := id fl3
      unfold PySem.passOn
      refine wpAny_bind (wpAny_field at_ hd hT ?_)
      rw [if_neg (show ¬ ((Value.ref T == Value.none) = true) by simp)]
      have out : wpAny (model X.prog X.w) X.A (setFlight (.ref a) X.env.frame) (fun _ t4 => wpAny (model X.prog X.w) X.A (throw (.ref a) : Sem Flow) (SP X pins D) X.xe t4) X.xe { t' with heap := h3 } := by
        rw [hfr0]
        refine HandSPX.setFlight_upZ fl3 ?_
        intro h4 hh4 up4
        refine wpAny_throw (tk _ _ ⟨a, B, sI, pins, σ2, H2, cls, d, rfl, J, nb, (up.trans up3).trans up4, .inr (.inr ?_), na, os, ag, wo⟩)
        rw [hst]
        exact hh4
      first
        | exact wpAny_bind (wpAny_pure (wpAny_bind out))
        | exact wpAny_bind out
    | @cons x c ts b₀ rows np po hds2 l3 hc hsu more ih =>
      rintro ⟨b, hb1, yes, no⟩
      refine wpAny_handleBy_cons (codeAny_handlers_test ?_) (by intro q; cases q)
      have LT : PySem.W.Looks (model X.prog X.w) h3 (typeOf (.ref a)) cls := by
        intro A Q E s k q
        exact wpAny_typeOf_ref (k _ _ at3) (by rw [z3.1]; exact q)
      have LM := PySem.W.exm_one (M := model X.prog X.w) J3.kIn LT hb1
      have named : ∀ {Q : Value → Shared → Prop} {E : Value → Shared → Prop}, Q c { t' with heap := h3 } → wpAny (model X.prog X.w) (X.A.mark (some (.ref a))) (eval (.Name x np) X.env) Q E { t' with heap := h3 } := by
        intro Q E q
        obtain ⟨hg, hdb, hm | ⟨hm, hv, hnn⟩⟩ := hc
        · exact ld_glob (X := X.suite a ((a, o3) :: (X.pn ++ pins))) S3 hg hm q hdb
        · exact ld_blt (X := X.suite a ((a, o3) :: (X.pn ++ pins))) S3 hg hm hv q hnn hdb
      refine named (LM.here ?_)
      cases b with
      | false =>
        show wpAny _ X.A (handleBy (.ref a) X.env hds2) _ _ _
        exact ih (no rfl)
      | true =>
        refine codeAny_handlers_suite_as ?_
        refine HandSPX.lands_againZ fl3 ?_
        intro h4 fl4 up4
        have J4 : Inv X pins σ2 H2 { t' with heap := h4 } := J.landed nb fl4.1 ((up.trans up3).trans up4) os ag
        obtain ⟨o4, vs4, at4, z4, d4⟩ := fl4.there
        refine store_ok (X := X.suite a ((a, o4) :: (X.pn ++ pins))) (v := .ref a) (J4.suite at4 d4 na nL nF) hN hi hloc rfl (fun t5 S5 => ?_) (.inr hl)
        refine wpAny_mono ((hsu a o4 cls d (X.pn ++ pins) z4 ⟨_, d4⟩).run [] t5 _ H2 _ S5 (yes rfl a na)) (fun f t6 done => ?_) (fun _ _ z => z.elim)
        have gone : ∀ {σ6 : L2.St} {H6 : Hp} {Q : Shared → Prop}, Inv (X.suite a ((a, o4) :: (X.pn ++ pins))) [] σ6 H6 t6 → (∀ t7, Inv X pins (σ6.set i none) H6 t7 → Q t7) →
            wpAny (model X.prog X.w) X.A (do bindName X.env n .none; unbindBehindTheSuite X.env n po) (fun _ t7 => Q t7) X.xe t6 := by
          intro σ6 H6 Q S6 hq
          exact gone_ok (S6.unsuite okX) hN hi hl hq
        match f, done with
        | .next, ⟨σ6, H6, S6, q6⟩ => exact gone S6 fun t7 J7 => ⟨_, _, J7, q6⟩
        | .brk, ⟨σ6, H6, S6, q6⟩ => exact gone S6 fun t7 J7 => ⟨_, _, J7, q6⟩
        | .cont, ⟨σ6, H6, S6, q6⟩ => exact gone S6 fun t7 J7 => ⟨_, _, J7, q6⟩
        | .ret u, ⟨v6, σ6, H6, S6, r6, q6⟩ => exact gone S6 fun t7 J7 => ⟨_, _, _, J7, r6, q6⟩
  exact clauses _ _ hh wish
end
end Gd

set_option Elab.async false
set_option linter.all false
set_option maxRecDepth 100000
set_option maxHeartbeats 4000000
/-! Readings, step by step: one lemma a word of the readings, and a tactic that goes as far as nothing is asked. -/
namespace Gd
open PySem PySem.Spec PyProof.Rows L2
section
variable {σ : L2.St} {H : Hp} {Q : VK} {QA : List V → Hp → Prop} {QT : Bool → Hp → Prop} {D : Ends} {te ta tb tc to : TE} {t u : TT} {tr : TA} {s1 s2 : TS} {v : V} {i : Nat} {K : PySem.W.Frag}
theorem g_var (h : σ[i]? = some (some v)) (k : Q v H) : tVar i σ H Q := ⟨v, h, k⟩
theorem g_c (k : Q v H) : tC v σ H Q := k
theorem g_ret (k : te σ H D.rt) : tRet te D σ H := k
theorem g_retN (k : D.rt .non H) : tRetN D σ H := k
theorem g_seq (k : s1 { D with nx := s2 D } σ H) : tSeq s1 s2 D σ H := k
theorem g_next (k : D.nx σ H) : tNext D σ H := k
theorem g_drop (k : te σ H fun _ H1 => D.nx σ H1) : tDrop te D σ H := k
theorem g_asg {g : TG} (k : te σ H fun x H1 => g x σ H1 D.nx) : tAsg te g D σ H := k
theorem g_name {Qs : L2.St → Hp → Prop} (k : Qs (σ.set i (some v)) H) : gName i v σ H Qs := k
theorem g_ifs (k : t σ H fun b H1 => if b = true then s1 D σ H1 else s2 D σ H1) : tIfS t s1 s2 D σ H := k
theorem g_test (k : te σ H fun x H' => ∃ c, x = .bl c ∧ QT c H') : tTest te σ H QT := k
theorem g_tb (k : te σ H fun x H' => ∃ c, x = .bl c ∧ QT c H') : tB te σ H QT := k
theorem g_and (k : t σ H fun c H1 => if c = true then u σ H1 QT else QT false H1) : tAnd t u σ H QT := k
theorem g_or (k : t σ H fun c H1 => if c = true then QT true H1 else u σ H1 QT) : tOr t u σ H QT := k
theorem g_not (k : t σ H fun c H1 => QT (!c) H1) : tNot t σ H QT := k
theorem g_andV (k : ta σ H fun x H1 => ∃ c, x = .bl c ∧ if c = true then tb σ H1 Q else Q (.bl false) H1) : tAndV ta tb σ H Q := k
theorem g_orV (k : ta σ H fun x H1 => ∃ c, x = .bl c ∧ if c = true then Q (.bl true) H1 else tb σ H1 Q) : tOrV ta tb σ H Q := k
theorem g_notV (k : ta σ H fun x H1 => ∃ c, x = .bl c ∧ Q (.bl (!c)) H1) : tNotV ta σ H Q := k
theorem g_if (k : t σ H fun c H1 => if c = true then ta σ H1 Q else tb σ H1 Q) : tIf t ta tb σ H Q := k
theorem g_op {r : R2} (k : ta σ H fun x H1 => tb σ H1 fun y H2 => r x y H2 Q) : tOp r ta tb σ H Q := k
theorem g_un {r : V → Hp → VK → Prop} (k : ta σ H fun x H1 => r x H1 Q) : tUn r ta σ H Q := k
theorem g_cb {r : List V → Hp → VK → Prop} (k : tr σ H fun vs H1 => r vs H1 Q) : tCB r tr σ H Q := k
theorem g_nil (k : QA [] H) : tNil σ H QA := k
theorem g_cons (k : ta σ H fun x H1 => tr σ H1 fun xs H2 => QA (x :: xs) H2) : tCons ta tr σ H QA := k
theorem g_call {sp : Sp} {dvs : List V} {E : XK} (k : tr σ H fun vs H1 => sp (vs ++ dvs) H1 Q E) : tCall sp dvs E tr σ H Q := k
theorem g_callS {sp : Sp} {E : L2.St → XK} (k : tr σ H fun vs H1 => sp vs H1 Q (E σ)) : tCallS sp E tr σ H Q := k
theorem g_tup (k : tr σ H fun xs H1 => xs.length ≤ sizeLine ∧ ∀ p, H1 p = none → Q (.ref p) (upd H1 p (.tup xs))) : tTup tr σ H Q := k
theorem g_lst (k : tr σ H fun xs H1 => xs.length ≤ sizeLine ∧ ∀ p, H1 p = none → Q (.ref p) (upd H1 p (.lst xs))) : tLst tr σ H Q := k
theorem g_isN (k : ta σ H fun x H1 => Q (.bl (decide (x = .non))) H1) : tIsN ta σ H Q := k
theorem g_sl {r : V → Option Int → Option Int → Hp → VK → Prop} {tl th : TO} (k : te σ H fun x H1 => tl σ H1 fun l H2 => th σ H2 fun u H3 => r x l u H3 Q) : tSl r te tl th σ H Q := k
theorem g_nopart {Qo : Option Int → Hp → Prop} (k : Qo none H) : tNoPart σ H Qo := k
theorem g_part {Qo : Option Int → Hp → Prop} (k : te σ H fun x H1 => ∃ i, x = .int i ∧ Qo (some i) H1) : tPart te σ H Qo := k
theorem g_chain {r r' : R2} (k : ta σ H fun x H1 => tb σ H1 fun y H2 => r x y H2 fun z H3 => ∃ c, z = .bl c ∧
    if c = true then tc σ H3 fun w H4 => r' y w H4 Q else Q (.bl false) H3) : tChain r r' ta tb tc σ H Q := by
  exact k
theorem g_fld {f : Str} (k : ta σ H fun x H1 => ∃ a C dx fs v, x = .ref a ∧ H1 a = some (.ins C dx fs) ∧ Cls K C ∧ NoAttr K C f ∧ fs.lookup f = some v ∧ Q v H1) : tFld K ta f σ H Q := k
theorem g_prop {C : Addr} {sp : Sp} {dvs : List V} {E : XK} (k : ta σ H fun x H1 => ∃ a dx fs, x = .ref a ∧ H1 a = some (.ins C dx fs) ∧ sp (.ref a :: dvs) H1 Q E) : tProp C sp dvs E ta σ H Q := k
theorem g_bm {T : String} {r : V → List V → Hp → VK → Prop} (k : to σ H fun x H1 => tyV K T x H1 ∧ tr σ H1 fun xs H2 => r x xs H2 Q) : tBM K T r to tr σ H Q := k
theorem g_bm0 {T : String} {r : V → List V → Hp → VK → Prop} (k : to σ H fun x H1 => tyV K T x H1 ∧ r x [] H1 Q) : tBM0 K T r to σ H Q := k
theorem g_tru {r : V → Hp → (Bool → Hp → Prop) → Prop} (k : te σ H fun x H' => r x H' QT) : (fun (σ : L2.St) (H : Hp) (Q : Bool → Hp → Prop) => te σ H fun x H' => r x H' Q) σ H QT := k
-- values
theorem g_I0 {g : Int → Int → V} {a b : Int} (k : Q (g a b) H) : rI0 g (.int a) (.int b) H Q := ⟨a, b, rfl, rfl, k⟩
theorem g_I {C : Int → Int → Prop} {g : Int → Int → V} {a b : Int} (c : C a b) (k : Q (g a b) H) : rI C g (.int a) (.int b) H Q := ⟨a, b, rfl, rfl, c, k⟩
theorem g_U {g : Int → V} {a : Int} (k : Q (g a) H) : rU g (.int a) H Q := ⟨a, rfl, k⟩
theorem g_eqI {a b : Int} (k : Q (.bl (decide (a = b))) H) : rEq (.int a) (.int b) H Q := by
  refine ⟨rfl, ?_⟩
  have e : (V.int a = V.int b) = (a = b) := by simp
  simpa [e] using k
theorem g_eq {x y : V} (s : scal x y = true) (k : Q (.bl (decide (x = y))) H) : rEq x y H Q := ⟨s, k⟩
theorem g_ne {x y : V} (s : scal x y = true) (k : Q (.bl (!decide (x = y))) H) : rNe x y H Q := ⟨s, k⟩
theorem g_bl {b : Bool} (k : QT b H) : ∃ c, (V.bl b) = .bl c ∧ QT c H := ⟨b, rfl, k⟩
theorem g_blV {b : Bool} {A : Bool → Prop} (k : A b) : ∃ c, (V.bl b) = .bl c ∧ A c := ⟨b, rfl, k⟩
theorem g_inV {a : Int} {A : Int → Prop} (k : A a) : ∃ c, (V.int a) = .int c ∧ A c := ⟨a, rfl, k⟩
theorem g_ixT {p : Addr} {xs : List V} {a : Int} (h : SqT K H p xs) (e : atI xs a = some v) (k : Q v H) : rIxT K (.ref p) (.int a) H Q := ⟨p, xs, a, v, rfl, rfl, h, e, k⟩
theorem g_ixL {p : Addr} {xs : List V} {a : Int} (h : SqL K H p xs) (e : atI xs a = some v) (k : Q v H) : rIxL K (.ref p) (.int a) H Q := ⟨p, xs, a, v, rfl, rfl, h, e, k⟩
end

/-- the turn's end: the invariant again, the measure less -/
abbrev Turn (Pv : L2.St → Hp → Prop) (μ : L2.St → Hp → Nat) (m : Nat) : L2.St → Hp → Prop := fun σ' H' => Pv σ' H' ∧ μ σ' H' < m
theorem g_while {c : TT} {tb : TS} {D : Ends} {σ : L2.St} {H : Hp} (Pv : L2.St → Hp → Prop) (μ : L2.St → Hp → Nat) (h0 : Pv σ H)
    (hs : ∀ σ H, Pv σ H → c σ H fun b H1 => if b = true then ∃ N : L2.St → Hp → Prop, (∀ σ' H', N σ' H' → ∃ m', m' < μ σ H ∧ m' = μ σ' H' ∧ Pv σ' H') ∧
      tb { D with nx := N, ct := N, bk := D.nx } σ H1 else D.nx σ H1) : tWhile c tb D σ H := by
  refine ⟨fun m σ H => m = μ σ H ∧ Pv σ H, ⟨_, rfl, h0⟩, ?_⟩
  rintro m σ H ⟨rfl, p⟩
  exact hs σ H p
theorem g_turn {tb : TS} {D : Ends} {σ : L2.St} {H H1 : Hp} {Pv : L2.St → Hp → Prop} {μ : L2.St → Hp → Nat}
    (h : tb { D with nx := Turn Pv μ (μ σ H), ct := Turn Pv μ (μ σ H), bk := D.nx } σ H1) :
    ∃ N : L2.St → Hp → Prop, (∀ σ' H', N σ' H' → ∃ m', m' < μ σ H ∧ m' = μ σ' H' ∧ Pv σ' H') ∧ tb { D with nx := N, ct := N, bk := D.nx } σ H1 :=
  ⟨Turn Pv μ (μ σ H), fun σ' H' n => ⟨_, n.2, rfl, n.1⟩, h⟩
theorem g_aug {σ : L2.St} {H : Hp} {D : Ends} {i : Nat} {te : TE} {ti : TIp} {x : V} (h : σ[i]? = some (some x)) (k : te σ H fun y H1 => ti x y H1 fun z H2 => D.nx (σ.set i (some z)) H2) : tAug i te ti D σ H := ⟨x, h, k⟩
theorem tyT {K : PySem.W.Frag} {H : Hp} {a : Addr} {xs : List V} (h : SqT K H a xs) : TyX K H (.ref a) (.type "tuple") := by
  rcases h with (h | ⟨o, h⟩) | ⟨o, its, n, h, c, _⟩
  · exact .base (.tup h)
  · exact .fTuple h
  · exact .kTuple h c
theorem tyL {K : PySem.W.Frag} {H : Hp} {a : Addr} {xs : List V} (h : SqL K H a xs) : TyX K H (.ref a) (.type "list") ∨ ∃ o, K.lookup a = some o := by
  rcases h with (h | ⟨o, h⟩) | ⟨o, its, n, h, c, _⟩
  · exact .inl (.base (.lst h))
  · exact .inl (.base (.frz h))
  · exact .inr ⟨o, h⟩

theorem g_yes {σ : L2.St} {H : Hp} {Q : Bool → Hp → Prop} (k : Q true H) : tYes σ H Q := k
theorem g_sfld {σ : L2.St} {H : Hp} {D : Ends} {K : PySem.W.Frag} {ta te : TE} {f : Str} (k : te σ H fun y H1 => ta σ H1 fun x H2 => ∃ a C dx fs, x = .ref a ∧ H2 a = some (.ins C dx fs) ∧ Cls K C ∧ NoAttr K C f ∧
    fs.length < 1000 ∧ D.nx σ (upd H2 a (.ins C dx (putF f y fs)))) : sFld K ta te f D σ H := k
theorem g_int1 {a : Int} {A : Int → Prop} (k : A a) : ∃ i, [V.int a] = [V.int i] ∧ A i := ⟨a, rfl, k⟩
theorem g_int2 {a b : Int} {A : Int → Int → Prop} (k : A a b) : ∃ i j, [V.int a, V.int b] = [V.int i, V.int j] ∧ A i j := ⟨a, b, rfl, k⟩
theorem g_sub {σ : L2.St} {H : Hp} {Qs : L2.St → Hp → Prop} {to ti : TE} {t : TSet} {v : V} (k : to σ H fun o H1 => ti σ H1 fun i H2 => t o i v H2 fun H3 => Qs σ H3) : gSub to ti t v σ H Qs := k
theorem g_NT {A B : Prop} (h : B) : if (!true) = true then A else B := h
theorem g_NF {A B : Prop} (h : A) : if (!false) = true then A else B := h
end Gd

set_option Elab.async false
set_option linter.all false
set_option maxRecDepth 100000
set_option maxHeartbeats 4000000
/-! More readings. -/
namespace Gd
open PySem PySem.Spec PyProof.Rows L2
theorem g_forR {ta : TA} {g : TG} {tb : TS} {D : Ends} {σ : L2.St} {H : Hp} (k : ta σ H fun vs H1 => ∃ j : Int, vs = [.int j] ∧ -(2 ^ 62) ≤ j ∧ j < 2 ^ 62 ∧ ∃ W : Nat → Nat → L2.St → Hp → Prop, (∃ m, W 0 m σ H1) ∧ ∀ i m σ H, W i m σ H →
  ((Itr 0 j.toNat).stop i H ∧ D.nx σ H) ∨ ((Itr 0 j.toNat).go i H ∧ ∃ N : L2.St → Hp → Prop, (∀ σ' H', N σ' H' → ∃ m', m' < m ∧ W (i + 1) m' σ' H') ∧ ∀ x H', (Itr 0 j.toNat).yld i H x H' → g x σ H' fun σ2 H2 => tb { D with nx := N, ct := N, bk := D.nx } σ2 H2)) :
    tFor (iRng1 ta) g tb D σ H := k
theorem g_ifV {c : Bool} {ta tb : TE} {σ : L2.St} {H : Hp} {Q : VK} (v : V) (ha : c = true → ∀ Q' : VK, Q' v H → ta σ H Q') (hb : c = false → ∀ Q' : VK, Q' v H → tb σ H Q') (k : Q v H) : if c = true then ta σ H Q else tb σ H Q := by
  cases c with
  | true => exact ha rfl Q k
  | false => exact hb rfl Q k
theorem g_neS {x : Str} {H : Hp} {Q : VK} (k : Q (.bl false) H) : rNe (.str x) (.str x) H Q := ⟨rfl, by simpa using k⟩
theorem g_ixO {C : Addr} {sp : Sp} {E : L2.St → XK} {ta tb : TE} {σ : L2.St} {H : Hp} {Q : VK} (k : ta σ H fun x H1 => tb σ H1 fun y H2 => ∃ p dx fs, x = .ref p ∧ H2 p = some (.ins C dx fs) ∧ sp [x, y] H2 Q (E σ)) : tIxO C sp E ta tb σ H Q := k
/-- a place that is reached from more than one side -/
theorem g_cut {s1 s2 : TS} {D : Ends} {σ : L2.St} {H : Hp} (N : L2.St → Hp → Prop) (hN : ∀ σ' H', N σ' H' → s2 D σ' H') (k : (∀ σ' H', N σ' H' → s2 D σ' H') → s1 { D with nx := s2 D } σ H) : tSeq s1 s2 D σ H := k hN
theorem g_eqS {x : Str} {H : Hp} {Q : VK} (k : Q (.bl true) H) : rEq (.str x) (.str x) H Q := ⟨rfl, by simpa using k⟩
theorem g_par {i j : Nat} {ta : TA} {D : Ends} {σ : L2.St} {H : Hp} (k : ta σ H fun vs H1 => ∃ v w, vs = [v, w] ∧ D.nx ((σ.set i (some v)).set j (some w)) H1) : tPar i j ta D σ H := k
theorem g_make {C : Addr} {sp : Sp} {dvs : List V} {E : XK} {t : TA} {σ : L2.St} {H : Hp} {Q : VK} (k : t σ H fun vs H1 => ∀ x dx, H1 x = none → H1 dx = none → dx ≠ x →
  sp (.ref x :: (vs ++ dvs)) (upd (upd H1 dx (.own x)) x (.ins C dx [])) (fun v H2 => v = .non ∧ Q (.ref x) H2) E) : tMake C sp dvs E t σ H Q := k
end Gd

set_option Elab.async false
set_option linter.all false
set_option maxRecDepth 100000
set_option maxHeartbeats 4000000
/-! Readings by name, for the bodies of comprehensions. -/
namespace Gd
open PySem PySem.Spec PyProof.Rows L2
def rLenS (K : PySem.W.Frag) : List V → Hp → VK → Prop := fun xs H Q => ∃ p ys, xs = [.ref p] ∧ (SqL K H p ys ∨ SqT K H p ys) ∧ Q (.int (ys.length : Int)) H
def rListOf (K : PySem.W.Frag) : List V → Hp → VK → Prop := fun xs H Q => ∃ p ys, xs = [.ref p] ∧ (SqL K H p ys ∨ SqT K H p ys) ∧ ∀ l, H l = none → Q (.ref l) (upd H l (.lst ys))
def rTupOf (K : PySem.W.Frag) : List V → Hp → VK → Prop := fun xs H Q => ∃ p ys, xs = [.ref p] ∧ ((SqL K H p ys ∧ ∀ l, H l = none → Q (.ref l) (upd H l (.tup ys))) ∨ (SqT K H p ys ∧ Q (.ref p) H))
theorem call_lenS {X : Cx} : CallR X (.builtin "len") (rLenS X.K) := call_len_seq
theorem call_listS {X : Cx} : CallR X (.type "list") (rListOf X.K) := call_list_of
theorem call_tupS {X : Cx} : CallR X (.type "tuple") (rTupOf X.K) := call_tuple_of
end Gd

set_option Elab.async false
set_option linter.all false
set_option maxRecDepth 100000
set_option maxHeartbeats 4000000
/-! Heaps that grow; comprehensions told as maps. -/
namespace Q0

open PySem PySem.Spec PyProof.Rows L2 Gd
open LamX (ExtN)

local macro_rules | `(tactic| walk_at "rd1") => `(tactic| first | with_reducible refine g_ret ?_ | with_reducible refine g_retN ?_ | with_reducible refine g_seq ?_ | with_reducible refine g_next ?_ | with_reducible refine g_drop ?_ | with_reducible refine g_asg ?_ | with_reducible refine g_name ?_ | with_reducible refine g_ifs ?_ | with_reducible refine g_test ?_ | with_reducible refine g_tb ?_ | with_reducible refine g_and ?_ | with_reducible refine g_or ?_ | with_reducible refine g_not ?_ | with_reducible refine g_andV ?_ | with_reducible refine g_orV ?_ | with_reducible refine g_notV ?_ | with_reducible refine g_if ?_ | with_reducible refine g_op ?_ | with_reducible refine g_un ?_ | with_reducible refine g_cb ?_ | with_reducible refine g_nil ?_ | with_reducible refine g_cons ?_ | with_reducible refine g_call ?_ | with_reducible refine g_callS ?_ | with_reducible refine g_tup ?_ | with_reducible refine g_lst ?_ | with_reducible refine g_isN ?_ | with_reducible refine g_sl ?_ | with_reducible refine g_nopart ?_ | with_reducible refine g_part ?_ | with_reducible refine g_chain ?_ | with_reducible refine g_fld ?_ | with_reducible refine g_prop ?_ | with_reducible refine g_bm ?_ | with_reducible refine g_bm0 ?_ | with_reducible refine g_c ?_ | with_reducible refine g_sub ?_ | with_reducible refine g_int1 ?_ | with_reducible refine g_int2 ?_ | with_reducible refine g_yes ?_ | with_reducible refine g_sfld ?_ | with_reducible refine g_NT ?_ | with_reducible refine g_NF ?_ | with_reducible refine iteT ?_ | with_reducible refine iteF ?_ | ((with_reducible refine' g_aug ?hv ?_); (case hv => exact rfl)) | ((with_reducible refine' g_var ?hv ?_); (case hv => exact rfl)) | with_reducible refine g_I0 ?_ | with_reducible refine g_U ?_ | with_reducible refine g_eqI ?_ | with_reducible refine g_blV ?_ | with_reducible refine g_inV ?_)
local macro_rules | `(tactic| walk_at "rd") => `(tactic| repeat walk_at "rd1")

section
open PySem PySem.Spec PyProof.Rows L2 Gd
open LamX (ExtN)
def Ext (H H' : Hp) : Prop := ∀ b o, H b = some o → H' b = some o
theorem Ext.rfl' {H : Hp} : Ext H H := fun _ _ h => h
theorem Ext.new {H : Hp} {p : Addr} {o : HO} (h : H p = none) : Ext H (upd H p o) := fun b u e => by
  rw [upd_ne (ne_of_none e h)]
  exact e
theorem Ext.trans {H H1 H2 : Hp} (a : Ext H H1) (b : Ext H1 H2) : Ext H H2 := fun c o h => b c o (a c o h)
def ExtBut (p : Addr) (H H' : Hp) : Prop := ∀ b o, b ≠ p → H b = some o → H' b = some o
theorem ExtBut.trans {d : Addr} {H H1 H2 : Hp} (a : ExtBut d H H1) (b : ExtBut d H1 H2) : ExtBut d H H2 := fun x o n h => b x o n (a x o n h)
theorem ExtBut.of {d : Addr} {H H1 : Hp} (a : Ext H H1) : ExtBut d H H1 := fun x o _ h => a x o h
section
variable {K : PySem.W.Frag} {H H' : Hp} {a d : Addr} {xs ys : List V}
theorem sqT_ext (e : Ext H H') (h : SqT K H a xs) : SqT K H' a xs := by
  rcases h with (h | ⟨o, h⟩) | h
  · exact .inl (.inl (e _ _ h))
  · exact .inl (.inr ⟨o, e _ _ h⟩)
  · exact .inr h
theorem sqL_ext (e : Ext H H') (h : SqL K H a xs) : SqL K H' a xs := by
  rcases h with (h | ⟨o, h⟩) | h
  · exact .inl (.inl (e _ _ h))
  · exact .inl (.inr ⟨o, e _ _ h⟩)
  · exact .inr h
theorem sqT_but (e : ExtBut d H H') (n : a ≠ d) (h : SqT K H a xs) : SqT K H' a xs := by
  rcases h with (h | ⟨o, h⟩) | h
  · exact .inl (.inl (e _ _ n h))
  · exact .inl (.inr ⟨o, e _ _ n h⟩)
  · exact .inr h
theorem sqL_but (e : ExtBut d H H') (n : a ≠ d) (h : SqL K H a xs) : SqL K H' a xs := by
  rcases h with (h | ⟨o, h⟩) | h
  · exact .inl (.inl (e _ _ n h))
  · exact .inl (.inr ⟨o, e _ _ n h⟩)
  · exact .inr h
/-- a tuple beside a list that changes -/
theorem sqT_butL (hd : H d = some (.lst ys)) (e : ExtBut d H H') (h : SqT K H a xs) : SqT K H' a xs := by
  rcases h with (h | ⟨o, h⟩) | h
  · exact .inl (.inl (e _ _ (fun z => by rw [z, hd] at h; cases h) h))
  · exact .inl (.inr ⟨o, e _ _ (fun z => by rw [z, hd] at h; cases h) h⟩)
  · exact .inr h
theorem new_ne {o : HO} (h : H a = some o) (n : H d = none) : d ≠ a := fun z => by
  rw [z, h] at n
  cases n
theorem new_up (e : Ext H H') (h : H' d = none) : H d = none := by
  cases q : H d with
  | none => rfl
  | some o =>
    have := e _ _ q
    rw [h] at this
    cases this
theorem mapget {α : Type} {ns : List α} {f : α → V} {i : Nat} : (ns.map f)[i]? = (ns[i]?).map f := List.getElem?_map
end
/-! ### texts kept small: the frame's own K, and what comes behind a turn as a letter -/
theorem cx_nox (X : Cx) : X.nox.K = X.K := rfl
theorem cx_K {CX : CXT} {P : Program} {w : World} {K : PySem.W.Frag} {mg : Str → Option Value} {base : Heap} {N : List Str} {q : Str} {sc : Scope} {f : Addr} {cd : Value} {A : Around} {o : List Env} {s : Shared} {H : Hp} {E : XK} : (cxOf CX P w K mg base N q sc f cd A o s H E).K = K := rfl
theorem g_gen {tb : TS} {D : Ends} {σ : L2.St} {H : Hp} (h : ∀ D' : Ends, (∀ σ H, D.nx σ H → D'.nx σ H) → (∀ v H, D.rt v H → D'.rt v H) → tb D' σ H) : tb D σ H := h D (fun _ _ z => z) fun _ _ z => z
/-! ### comprehensions -/
section
variable {J : It} {n : Nat} {G : Hp → Prop} {Y : Nat → Hp → V → Hp → Prop} {g : TG} {tt : TT} {te : TE} {vs : List Nat} {σ : L2.St} {H1 : Hp} {D : Addr} {Qd : Hp → Prop}
/-- the indices that are taken -/
def idx (c : Nat → Bool) (n : Nat) : List Nat := (List.range n).filter c
theorem idx_succ (c : Nat → Bool) (n : Nat) : idx c (n + 1) = if c n then idx c n ++ [n] else idx c n := by
  unfold idx
  rw [List.range_succ, List.filter_append]
  cases h : c n <;> simp [h]
theorem idx_len (c : Nat → Bool) (n : Nat) : (idx c n).length ≤ n := by
  have := List.length_filter_le c (List.range n)
  rw [List.length_range] at this
  exact this
/-- results that stand in a relation to the turn -/
def Rel (R : Nat → V → Hp → Prop) (is : List Nat) (ys : List V) (H : Hp) : Prop := is.length = ys.length ∧ ∀ (j i : Nat) (y : V), is[j]? = some i → ys[j]? = some y → R i y H
/-- what a relation says stays where nothing but lists at one place change -/
def Mono (R : Nat → V → Hp → Prop) : Prop := ∀ i y D ys H H', (H D = none ∨ H D = some (.lst ys)) → ExtBut D H H' → R i y H → R i y H'
theorem Mono.ext {R : Nat → V → Hp → Prop} (mono : Mono R) {i : Nat} {y : V} {H H' : Hp} (e : Ext H H') (h : R i y H) (D : Addr) (ys : List V) (hd : H D = none ∨ H D = some (.lst ys)) : R i y H' := mono i y D ys H H' hd (ExtBut.of e) h
theorem Rel.ext {R : Nat → V → Hp → Prop} (mono : ∀ i y H H', Ext H H' → R i y H → R i y H') {is : List Nat} {ys : List V} {H H' : Hp} (e : Ext H H') (h : Rel R is ys H) : Rel R is ys H' := ⟨h.1, fun j i y a b => mono i y H H' e (h.2 j i y a b)⟩
theorem Rel.snoc {R : Nat → V → Hp → Prop} {is : List Nat} {ys : List V} {H : Hp} {i : Nat} {y : V} (h : Rel R is ys H) (hy : R i y H) : Rel R (is ++ [i]) (ys ++ [y]) H := by
  refine ⟨by rw [List.length_append, List.length_append, h.1]; rfl, fun j i' y' a b => ?_⟩
  by_cases hj : j < is.length
  · rw [List.getElem?_append_left hj] at a
    rw [List.getElem?_append_left (by rw [← h.1]; exact hj)] at b
    exact h.2 j i' y' a b
  · rw [List.getElem?_append_right (by omega)] at a
    rw [List.getElem?_append_right (by rw [← h.1]; omega), ← h.1] at b
    cases q : j - is.length with
    | zero =>
      rw [q] at a b
      cases a
      cases b
      exact hy
    | succ m =>
      rw [q] at a
      cases a
theorem lc_rel (w : Walk J n G Y) (R : Nat → V → Hp → Prop) (c : Nat → Bool) (mono : Mono R) (hD : H1 D = none) (hG : ∀ H', Ext H1 H' → G H') (sz : n < sizeLine)
    (body : ∀ i x H' H'', i < n → Ext H1 H' → Y i H' x H'' → ∀ (Qe : VK) (Qn : Hp → Prop), (∀ y H3, Ext H' H3 → R i y H3 → c i = true → Qe y H3) → (∀ H3, Ext H' H3 → c i = false → Qn H3) →
      g x (wipe σ vs) H'' fun σ2 H2 => wipe σ2 vs = wipe σ vs ∧ tt σ2 H2 fun b H3 => if b = true then te σ2 H3 Qe else Qn H3)
    (k : ∀ H' ys, Ext H1 H' → H' D = some (.lst ys) → Rel R (idx c n) ys H' → Qd H') :
    ∃ W : Nat → Nat → Hp → Prop, (∃ m, W 0 m (upd H1 D (.lst []))) ∧ ∀ i m H, W i m H →
      (J.stop i H ∧ Qd H) ∨ (J.go i H ∧ ∃ Nx : Hp → Prop, (∀ H', Nx H' → ∃ m', m' < m ∧ W (i + 1) m' H') ∧ ∀ x H', J.yld i H x H' → g x (wipe σ vs) H' fun σ2 H2 => wipe σ2 vs = wipe σ vs ∧ tt σ2 H2 fun b H3 =>
        if b = true then te σ2 H3 fun y H4 => ∃ acc, H4 D = some (.lst acc) ∧ acc.length < sizeLine ∧ Nx (upd H4 D (.lst (acc ++ [y]))) else Nx H3) := by
  refine lc_it w (fun i H' => ∃ ys, Ext H1 H' ∧ H' D = some (.lst ys) ∧ Rel R (idx c i) ys H') ⟨[], Ext.new hD, upd_same, rfl, fun j i y h => by cases h⟩ (fun i H' _ ⟨ys, e, _⟩ => hG H' e) ?_ ?_
  · rintro i x H' H'' hi ⟨ys, e, hd, hr⟩ hy
    have hys : ys.length < sizeLine := by
      have := idx_len c i
      have := hr.1
      omega
    refine body i x H' H'' hi e hy _ _ (fun y H3 e3 hR hc => ⟨ys, e3 _ _ hd, hys, ys ++ [y], ?_, upd_same, ?_⟩) (fun H3 e3 hc => ⟨ys, Ext.trans e e3, e3 _ _ hd, ?_⟩)
    · intro b o q
      rw [upd_ne (ne_of_none q hD)]
      exact e3 _ _ (e b o q)
    · rw [idx_succ, hc, if_pos rfl]
      have h3 : H3 D = some (.lst ys) := e3 _ _ hd
      have eB : ExtBut D H3 (upd H3 D (.lst (ys ++ [y]))) := fun b o n q => by
        rw [upd_ne n]
        exact q
      refine Rel.snoc ⟨hr.1, fun j i' y' a b => ?_⟩ (mono _ _ D ys _ _ (.inr h3) eB hR)
      exact mono _ _ D ys _ _ (.inr h3) eB (mono _ _ D ys _ _ (.inr hd) (ExtBut.of e3) (hr.2 j i' y' a b))
    · rw [idx_succ, hc, if_neg (by decide)]
      exact ⟨hr.1, fun j i' y' a b => mono _ _ D ys _ _ (.inr hd) (ExtBut.of e3) (hr.2 j i' y' a b)⟩
  · rintro H' ⟨ys, e, hd, hr⟩
    exact k H' ys e hd hr
theorem mono_fun (f : Nat → V) : Mono (fun i y _ => y = f i) := fun _ _ _ _ _ _ _ _ h => h
theorem rel_fun {f : Nat → V} {is : List Nat} {ys : List V} {H : Hp} (h : Rel (fun i y _ => y = f i) is ys H) : ys = is.map f := by
  refine List.ext_getElem? fun j => ?_
  rw [List.getElem?_map]
  cases a : is[j]? with
  | none =>
    have := List.getElem?_eq_none_iff.mp a
    rw [h.1] at this
    rw [List.getElem?_eq_none_iff.mpr this]
    rfl
  | some i =>
    have hj := (List.getElem?_eq_some_iff.mp a).1
    rw [h.1] at hj
    rw [List.getElem?_eq_getElem hj]
    exact congrArg some (h.2 j i _ a (List.getElem?_eq_getElem hj))
theorem idx_all (n : Nat) : idx (fun _ => true) n = List.range n := by
  unfold idx
  simp
/-- over the items of a list: taken ones, changed -/
theorem idx_items' {α β : Type} (xs : List α) (z : α) (c : α → Bool) (f : α → β) : (idx (fun i => c (xs.getD i z)) xs.length).map (fun i => f (xs.getD i z)) = (xs.filter c).map f := by
  unfold idx
  induction xs with
  | nil => rfl
  | cons x r ih =>
    rw [List.length_cons, List.range_succ_eq_map, List.filter_cons, List.filter_cons]
    have e1 : ((x :: r).getD 0 z) = x := rfl
    rw [e1]
    have e2 : (List.filter (fun i => c ((x :: r).getD i z)) (List.map Nat.succ (List.range r.length))) = (List.filter (fun i => c (r.getD i z)) (List.range r.length)).map Nat.succ := by
      rw [List.filter_map]
      rfl
    rw [e2]
    have e3 : List.map (fun i => f ((x :: r).getD i z)) (List.map Nat.succ (List.filter (fun i => c (r.getD i z)) (List.range r.length))) = (r.filter c).map f := by
      rw [List.map_map, ← ih]
      rfl
    split
    · rw [List.map_cons, List.map_cons, e3]
      rfl
    · exact e3
theorem idx_items (xs : List V) (c : V → Bool) (f : V → V) : (idx (fun i => c (xs.getD i .non)) xs.length).map (fun i => f (xs.getD i .non)) = (xs.filter c).map f := idx_items' xs .non c f
section
variable {K : PySem.W.Frag} {Q : VK}
/-- what a comprehension over J asks, told of its turns -/
def LcG (J : It) (g : TG) (tt : TT) (te : TE) (vs : List Nat) (σ : L2.St) (H1 : Hp) (Q : VK) : Prop := ∀ D, H1 D = none → ∃ W : Nat → Nat → Hp → Prop, (∃ m, W 0 m (upd H1 D (.lst []))) ∧ ∀ i m H, W i m H →
      (J.stop i H ∧ Q (.ref D) H) ∨ (J.go i H ∧ ∃ Nx : Hp → Prop, (∀ H', Nx H' → ∃ m', m' < m ∧ W (i + 1) m' H') ∧ ∀ x H', J.yld i H x H' → g x (wipe σ vs) H' fun σ2 H2 => wipe σ2 vs = wipe σ vs ∧ tt σ2 H2 fun b H3 =>
        if b = true then te σ2 H3 fun y H4 => ∃ acc, H4 D = some (.lst acc) ∧ acc.length < sizeLine ∧ Nx (upd H4 D (.lst (acc ++ [y]))) else Nx H3)
theorem lcT {a : Addr} {xs : List V} (hs : SqT K H1 a xs) (sz : xs.length < sizeLine) (c : V → Bool) (f : V → V)
    (body : ∀ x H', x ∈ xs → Ext H1 H' → ∀ (Qe : VK) (Qn : Hp → Prop), (∀ H3, Ext H' H3 → c x = true → Qe (f x) H3) → (∀ H3, Ext H' H3 → c x = false → Qn H3) →
      g x (wipe σ vs) H' fun σ2 H2 => wipe σ2 vs = wipe σ vs ∧ tt σ2 H2 fun b H3 => if b = true then te σ2 H3 Qe else Qn H3)
    (k : ∀ H' D, Ext H1 H' → H1 D = none → H' D = some (.lst ((xs.filter c).map f)) → Q (.ref D) H') :
    ∃ a', V.ref a = .ref a' ∧ (∃ xs, SqT K H1 a' xs) ∧ LcG (Itt K a') g tt te vs σ H1 Q := by
  refine ⟨a, rfl, ⟨_, hs⟩, fun D hD => lc_rel walk_tup (fun i y _ => y = f (xs.getD i .non)) (fun i => c (xs.getD i .non)) (mono_fun fun i => f (xs.getD i .non)) hD (fun H' e => sqT_ext e hs) sz (fun i x H' H'' hi e hy Qe Qn he hn => ?_) (fun H' ys e hd hr => ?_)⟩
  · obtain ⟨rfl, hx⟩ := hy
    have ex : xs.getD i .non = x := by rw [List.getD_eq_getElem?_getD, hx]; rfl
    refine body x _ (List.mem_of_getElem? hx) e Qe Qn (fun H3 e3 hc => he _ H3 e3 (by rw [ex]) (by rw [ex]; exact hc)) (fun H3 e3 hc => hn H3 e3 (by rw [ex]; exact hc))
  · have := rel_fun hr
    rw [idx_items] at this
    rw [this] at hd
    exact k H' D e hD hd
theorem lcL {a : Addr} {xs : List V} (hs : SqL K H1 a xs) (sz : xs.length < sizeLine) (c : V → Bool) (f : V → V)
    (body : ∀ x H', x ∈ xs → Ext H1 H' → ∀ (Qe : VK) (Qn : Hp → Prop), (∀ H3, Ext H' H3 → c x = true → Qe (f x) H3) → (∀ H3, Ext H' H3 → c x = false → Qn H3) →
      g x (wipe σ vs) H' fun σ2 H2 => wipe σ2 vs = wipe σ vs ∧ tt σ2 H2 fun b H3 => if b = true then te σ2 H3 Qe else Qn H3)
    (k : ∀ H' D, Ext H1 H' → H1 D = none → H' D = some (.lst ((xs.filter c).map f)) → Q (.ref D) H') :
    ∃ a', V.ref a = .ref a' ∧ (∃ xs, SqL K H1 a' xs) ∧ LcG (Itl K a') g tt te vs σ H1 Q := by
  refine ⟨a, rfl, ⟨_, hs⟩, fun D hD => lc_rel walk_list (fun i y _ => y = f (xs.getD i .non)) (fun i => c (xs.getD i .non)) (mono_fun fun i => f (xs.getD i .non)) hD (fun H' e => sqL_ext e hs) sz (fun i x H' H'' hi e hy Qe Qn he hn => ?_) (fun H' ys e hd hr => ?_)⟩
  · obtain ⟨rfl, hx⟩ := hy
    have ex : xs.getD i .non = x := by rw [List.getD_eq_getElem?_getD, hx]; rfl
    refine body x _ (List.mem_of_getElem? hx) e Qe Qn (fun H3 e3 hc => he _ H3 e3 (by rw [ex]) (by rw [ex]; exact hc)) (fun H3 e3 hc => hn H3 e3 (by rw [ex]; exact hc))
  · have := rel_fun hr
    rw [idx_items] at this
    rw [this] at hd
    exact k H' D e hD hd
/-- over a range: the turn's number is lo + i -/
theorem lcR {lo : Int} {n : Nat} (sz : n < sizeLine) (c : Nat → Bool) (f : Nat → V)
    (body : ∀ (i : Nat) H', i < n → Ext H1 H' → ∀ (Qe : VK) (Qn : Hp → Prop), (∀ H3, Ext H' H3 → c i = true → Qe (f i) H3) → (∀ H3, Ext H' H3 → c i = false → Qn H3) →
      g (.int (lo + i)) (wipe σ vs) H' fun σ2 H2 => wipe σ2 vs = wipe σ vs ∧ tt σ2 H2 fun b H3 => if b = true then te σ2 H3 Qe else Qn H3)
    (k : ∀ H' D, Ext H1 H' → H1 D = none → H' D = some (.lst ((idx c n).map f)) → Q (.ref D) H') : LcG (Itr lo n) g tt te vs σ H1 Q := by
  refine fun D hD => lc_rel walk_range (fun i y _ => y = f i) c (mono_fun f) hD (fun H' e => True.intro) sz (fun i x H' H'' hi e hy Qe Qn he hn => ?_) (fun H' ys e hd hr => ?_)
  · obtain ⟨rfl, rfl⟩ := hy
    exact body i _ hi e Qe Qn (fun H3 e3 hc => he _ H3 e3 rfl hc) hn
  · rw [rel_fun hr] at hd
    exact k H' D e hD hd
theorem lcRC {lo st : Int} {n : Nat} (sz : n < sizeLine) (c : Nat → Bool) (f : Nat → V)
    (body : ∀ (i : Nat) H', i < n → Ext H1 H' → ∀ (Qe : VK) (Qn : Hp → Prop), (∀ H3, Ext H' H3 → c i = true → Qe (f i) H3) → (∀ H3, Ext H' H3 → c i = false → Qn H3) →
      g (.int (lo + (i : Nat) * st)) (wipe σ vs) H' fun σ2 H2 => wipe σ2 vs = wipe σ vs ∧ tt σ2 H2 fun b H3 => if b = true then te σ2 H3 Qe else Qn H3)
    (k : ∀ H' D, Ext H1 H' → H1 D = none → H' D = some (.lst ((idx c n).map f)) → Q (.ref D) H') : LcG (Itc lo st n) g tt te vs σ H1 Q := by
  refine fun D hD => lc_rel walk_rangeC (fun i y _ => y = f i) c (mono_fun f) hD (fun H' e => True.intro) sz (fun i x H' H'' hi e hy Qe Qn he hn => ?_) (fun H' ys e hd hr => ?_)
  · obtain ⟨rfl, rfl⟩ := hy
    exact body i _ hi e Qe Qn (fun H3 e3 hc => he _ H3 e3 rfl hc) hn
  · rw [rel_fun hr] at hd
    exact k H' D e hD hd
/-! pairs -/
theorem walk_enumT {a : Addr} {xs : List V} : Walk (IteT K a) xs.length (fun H => SqT K H a xs) (YPair (fun i => some (.int (i : Nat))) (fun i => xs[i]?)) := by
  refine ⟨fun i _ hi q => ⟨xs, xs[i], q, by simp [hi]⟩, fun _ q => ⟨xs, q, rfl⟩, fun i H v H' _ q y => ?_⟩
  obtain ⟨T, x, h1, h2, h3, h4⟩ := y
  exact ⟨T, .int (i : Nat), x, h1, h2, h3, rfl, h4 xs q⟩
theorem sqE_ext {l : Bool} {H H' : Hp} {a : Addr} {xs : List V} (e : Ext H H') (h : SqE K l H a xs) : SqE K l H' a xs := by
  cases l with
  | true => exact sqL_ext e h
  | false => exact sqT_ext e h
theorem walk_zipE {l1 l2 : Bool} {a b : Addr} {xs ys : List V} : Walk (ItzE K l1 l2 a b) (min xs.length ys.length) (fun H => SqE K l1 H a xs ∧ SqE K l2 H b ys) (YPair (fun i => xs[i]?) (fun i => ys[i]?)) := by
  refine ⟨fun i _ hi q => ?_, fun _ q => ⟨xs, ys, q.1, q.2, rfl⟩, fun i H v H' _ q y => ?_⟩
  · have h1 : i < xs.length := by omega
    have h2 : i < ys.length := by omega
    exact ⟨xs, ys, xs[i], ys[i], q.1, q.2, by simp [h1], by simp [h2]⟩
  · obtain ⟨T, x, z, h1, h2, h3, h4, h5⟩ := y
    exact ⟨T, x, z, h1, h2, h3, h4 xs q.1, h5 ys q.2⟩
/-- a walk that gives pairs, into two names -/
theorem lcP {J : It} {n : Nat} {G : Hp → Prop} {px py : Nat → Option V} {i1 i2 : Nat} (w : Walk J n G (YPair px py)) (hG : ∀ H', Ext H1 H' → G H') (sz : n < sizeLine) (c : Nat → Bool) (f : Nat → V)
    (body : ∀ (i : Nat) x y H', i < n → px i = some x → py i = some y → Ext H1 H' → ∀ (Qe : VK) (Qn : Hp → Prop), (∀ H3, Ext H' H3 → c i = true → Qe (f i) H3) → (∀ H3, Ext H' H3 → c i = false → Qn H3) →
      wipe (((wipe σ vs).set i1 (some x)).set i2 (some y)) vs = wipe σ vs ∧ tt (((wipe σ vs).set i1 (some x)).set i2 (some y)) H' fun b H3 => if b = true then te (((wipe σ vs).set i1 (some x)).set i2 (some y)) H3 Qe else Qn H3)
    (k : ∀ H' D, Ext H1 H' → H1 D = none → H' D = some (.lst ((idx c n).map f)) → Q (.ref D) H') : LcG J (gTup K 2 (gCons (gName i1) (gCons (gName i2) gNil))) tt te vs σ H1 Q := by
  refine fun D hD => lc_rel w (fun i y _ => y = f i) c (mono_fun f) hD hG sz (fun i x H' H'' hi e hy Qe Qn he hn => ?_) (fun H' ys e hd hr => ?_)
  · obtain ⟨T, x, y, rfl, hT, rfl, hx, hy⟩ := hy
    have eT := Ext.new (o := HO.tup [x, y]) hT
    refine ⟨T, _, rfl, SqT.of upd_same, rfl, _, _, rfl, ?_⟩
    refine ⟨_, _, rfl, rfl, ?_⟩
    exact body i x y _ hi hx hy (Ext.trans e eT) Qe Qn (fun H3 e3 hc => he _ H3 (Ext.trans eT e3) rfl hc) (fun H3 e3 hc => hn H3 (Ext.trans eT e3) hc)
  · rw [rel_fun hr] at hd
    exact k H' D e hD hd
theorem zip_items (xs ys : List V) (c : V → V → Bool) (f : V → V → V) : (idx (fun i => c (xs.getD i .non) (ys.getD i .non)) (min xs.length ys.length)).map (fun i => f (xs.getD i .non) (ys.getD i .non)) = ((xs.zip ys).filter fun p => c p.1 p.2).map fun p => f p.1 p.2 := by
  have e := idx_items' (xs.zip ys) (V.non, V.non) (fun p => c p.1 p.2) (fun p => f p.1 p.2)
  rw [List.length_zip] at e
  rw [← e]
  unfold idx
  have hz : ∀ i, i < min xs.length ys.length → (xs.zip ys).getD i (V.non, V.non) = (xs.getD i .non, ys.getD i .non) := fun i hi => by
    have h1 : i < xs.length := by omega
    have h2 : i < ys.length := by omega
    have hl : i < (xs.zip ys).length := by rw [List.length_zip]; exact hi
    rw [List.getD_eq_getElem?_getD, List.getElem?_eq_getElem hl, List.getElem_zip, List.getD_eq_getElem?_getD, List.getElem?_eq_getElem h1, List.getD_eq_getElem?_getD, List.getElem?_eq_getElem h2]
    rfl
  have hf : (List.range (min xs.length ys.length)).filter (fun i => c (xs.getD i .non) (ys.getD i .non)) = (List.range (min xs.length ys.length)).filter (fun i => c ((xs.zip ys).getD i (V.non, V.non)).1 ((xs.zip ys).getD i (V.non, V.non)).2) := by
    refine List.filter_congr fun i hi => ?_
    rw [hz i (List.mem_range.mp hi)]
  rw [hf]
  refine List.map_congr_left fun i hi => ?_
  rw [hz i (List.mem_range.mp (List.mem_filter.mp hi).1)]
/-- over zip(a, b) -/
theorem lcZ {l1 l2 : Bool} {a b : Addr} {xs ys : List V} {i1 i2 : Nat} (ha : SqE K l1 H1 a xs) (hb : SqE K l2 H1 b ys) (sz : min xs.length ys.length < sizeLine) (c : V → V → Bool) (f : V → V → V)
    (body : ∀ x y H', (x, y) ∈ xs.zip ys → Ext H1 H' → ∀ (Qe : VK) (Qn : Hp → Prop), (∀ H3, Ext H' H3 → c x y = true → Qe (f x y) H3) → (∀ H3, Ext H' H3 → c x y = false → Qn H3) →
      wipe (((wipe σ vs).set i1 (some x)).set i2 (some y)) vs = wipe σ vs ∧ tt (((wipe σ vs).set i1 (some x)).set i2 (some y)) H' fun b H3 => if b = true then te (((wipe σ vs).set i1 (some x)).set i2 (some y)) H3 Qe else Qn H3)
    (k : ∀ H' D, Ext H1 H' → H1 D = none → H' D = some (.lst (((xs.zip ys).filter fun p => c p.1 p.2).map fun p => f p.1 p.2)) → Q (.ref D) H') :
    ∃ k1 k2 a' b' xs ys, [V.ref a, V.ref b] = [V.ref a', V.ref b'] ∧ SqE K k1 H1 a' xs ∧ SqE K k2 H1 b' ys ∧ LcG (ItzE K k1 k2 a' b') (gTup K 2 (gCons (gName i1) (gCons (gName i2) gNil))) tt te vs σ H1 Q := by
  refine ⟨l1, l2, a, b, xs, ys, rfl, ha, hb, lcP walk_zipE (fun H' e => ⟨sqE_ext e ha, sqE_ext e hb⟩) sz (fun i => c (xs.getD i .non) (ys.getD i .non)) (fun i => f (xs.getD i .non) (ys.getD i .non)) (fun i x y H' hi hx hy e Qe Qn he hn => ?_) (fun H' D e hD hd => ?_)⟩
  · have ex : xs.getD i .non = x := by rw [List.getD_eq_getElem?_getD, hx]; rfl
    have ey : ys.getD i .non = y := by rw [List.getD_eq_getElem?_getD, hy]; rfl
    have mem : (x, y) ∈ xs.zip ys := List.mem_of_getElem? (i := i) (by rw [List.getElem?_zip_eq_some]; exact ⟨hx, hy⟩)
    refine body x y _ mem e Qe Qn (fun H3 e3 hc => ?_) (fun H3 e3 hc => hn H3 e3 (by rw [ex, ey]; exact hc))
    have := he H3 e3 (by rw [ex, ey]; exact hc)
    rw [ex, ey] at this
    exact this
  · rw [zip_items] at hd
    exact k H' D e hD hd
/-- over enumerate(a) -/
theorem lcE {a : Addr} {xs : List V} {i1 i2 : Nat} (ha : SqT K H1 a xs) (sz : xs.length < sizeLine) (c : Nat → V → Bool) (f : Nat → V → V)
    (body : ∀ (i : Nat) x H', xs[i]? = some x → Ext H1 H' → ∀ (Qe : VK) (Qn : Hp → Prop), (∀ H3, Ext H' H3 → c i x = true → Qe (f i x) H3) → (∀ H3, Ext H' H3 → c i x = false → Qn H3) →
      wipe (((wipe σ vs).set i1 (some (.int (i : Nat)))).set i2 (some x)) vs = wipe σ vs ∧ tt (((wipe σ vs).set i1 (some (.int (i : Nat)))).set i2 (some x)) H' fun b H3 => if b = true then te (((wipe σ vs).set i1 (some (.int (i : Nat)))).set i2 (some x)) H3 Qe else Qn H3)
    (k : ∀ H' D, Ext H1 H' → H1 D = none → H' D = some (.lst ((idx (fun i => c i (xs.getD i .non)) xs.length).map fun i => f i (xs.getD i .non))) → Q (.ref D) H') :
    ∃ t xs, [V.ref a] = [V.ref t] ∧ SqT K H1 t xs ∧ LcG (IteT K t) (gTup K 2 (gCons (gName i1) (gCons (gName i2) gNil))) tt te vs σ H1 Q := by
  refine ⟨a, xs, rfl, ha, lcP walk_enumT (fun H' e => sqT_ext e ha) sz (fun i => c i (xs.getD i .non)) (fun i => f i (xs.getD i .non)) (fun i x y H' hi hx hy e Qe Qn he hn => ?_) k⟩
  cases hx
  have ey : xs.getD i .non = y := by rw [List.getD_eq_getElem?_getD, hy]; rfl
  refine body i y _ hy e Qe Qn (fun H3 e3 hc => ?_) (fun H3 e3 hc => hn H3 e3 (by rw [ey]; exact hc))
  have := he H3 e3 (by rw [ey]; exact hc)
  rw [ey] at this
  exact this
end
end
end

/-! Defs and methods, their places hidden. -/

section
open PySem PySem.Spec PyProof.Rows L2 Gd
structure Def1 (P : Program) (w : World) (K : PySem.W.Frag) (mg : Str → Option Value) (base : Heap) (CX : CXT) (k : Nat) (name : Str) (ps : List Str) (sp : Sp) : Prop where
  ex : ∃ (f : Addr) (fd : FuncData), mg name = some (.ref f) ∧ PySem.W.keepIn K (.ref f) = true ∧ FnOk P w K mg base CX k f fd ps sp ∧ Binds K fd ps []
structure Bin1 (P : Program) (w : World) (K : PySem.W.Frag) (mg : Str → Option Value) (base : Heap) (CX : CXT) (k : Nat) (C : Addr) (m r : Str) (sp : Sp) : Prop where
  ex : ∃ (f : Addr) (fd : FuncData), BinC K C m r f ∧ FnOk P w K mg base CX k f fd ["self", "other"] sp ∧ Binds K fd ["self", "other"] []
structure Met1 (P : Program) (w : World) (K : PySem.W.Frag) (mg : Str → Option Value) (base : Heap) (CX : CXT) (k : Nat) (C : Addr) (m : Str) (ps : List Str) (sp : Sp) : Prop where
  ex : ∃ (f : Addr) (fd : FuncData), Meth K C m f ∧ PySem.W.fnIn K f = true ∧ FnOk P w K mg base CX k f fd ps sp ∧ Binds K fd ps []
structure Pro1 (P : Program) (w : World) (K : PySem.W.Frag) (mg : Str → Option Value) (base : Heap) (k : Nat) (C : Addr) (x : Str) (sp : Sp) : Prop where
  ex : ∃ (p f : Addr) (fd : FuncData), PropOf K C x p f ∧ FnOk P w K mg base CX0 k f fd ["self"] sp ∧ Binds K fd ["self"] []
structure Ini1 (P : Program) (w : World) (K : PySem.W.Frag) (mg : Str → Option Value) (base : Heap) (CX : CXT) (k : Nat) (C t0 : Addr) (ps : List Str) (sp : Sp) : Prop where
  ex : ∃ (f : Addr) (fd : FuncData) (ds : List Value), Mk K C f ∧ FnOk P w K mg base CX k f fd ps sp ∧ Binds K fd ps [] ∧ Vals [V.ref t0] ds ∧ Binds K fd ps ds
abbrev X0 : XK := fun _ _ _ => False
section
variable {X : Cx} {CX : CXT} {C t0 : Addr} {k j : Nat} {x m r : Str} {ps : List Str} {sp : Sp} {e a : Expr} {es : List Expr} {t : TA} {ta tb : TE} {p pos apos : Pos}
theorem pe_def (D : Def1 X.prog X.w X.K X.mg X.base CX0 k x ps sp) (hr : Room j X.A) (hj : k ≤ j) (hgl : Gl X x) (ha : PA X (e :: es) t) (hdb : (x == ("__debug__" : Str)) = false := by decide)
    (he : starEach (e :: es) X.env = (false, eval e X.env) :: starEach es X.env := by rfl) (hpl : (backTo pos (starEach es X.env)).any (·.1) = false := by rfl) : PE X (.Call (.Name x p) (e :: es) [] pos) (tCall sp [] X0 t) := by
  obtain ⟨f, fd, hm, hk, F, hb⟩ := D.ex
  exact pe_call F (hr.mono hj) hgl hm hk hb .nil pass0 ha hdb he hpl
theorem pe_defX {E : XK} (D : Def1 X.prog X.w X.K X.mg X.base CX k x ps sp) (hx : Passes CX X E) (hr : Room j X.A) (hj : k ≤ j) (hgl : Gl X x) (ha : PA X (e :: es) t) (hdb : (x == ("__debug__" : Str)) = false := by decide)
    (he : starEach (e :: es) X.env = (false, eval e X.env) :: starEach es X.env := by rfl) (hpl : (backTo pos (starEach es X.env)).any (·.1) = false := by rfl) : PE X (.Call (.Name x p) (e :: es) [] pos) (tCall sp [] E t) := by
  obtain ⟨f, fd, hm, hk, F, hb⟩ := D.ex
  exact pe_call F (hr.mono hj) hgl hm hk hb .nil hx ha hdb he hpl
theorem op_add1 {E : XK} (D : Bin1 X.prog X.w X.K X.mg X.base CX k C "__add__" "__radd__" sp) (hx : ∀ σ, PassesAt CX X σ E) (hr : Room j X.A) (hj : k + 1 ≤ j) : OpR X (binaryOp .Add) (rBinO C sp E) := by
  obtain ⟨f, fd, B, F, hb⟩ := D.ex
  exact op_addO B F (hr.mono hj) hb hx
theorem op_eq1 (D : Met1 X.prog X.w X.K X.mg X.base CX0 k C "__eq__" ["self", "other"] sp) (hr : Room j X.A) (hj : k + 1 ≤ j) : OpR X (compareOp .Eq) (rCmpO X.K C sp X0) := by
  obtain ⟨f, fd, M, _, F, hb⟩ := D.ex
  exact op_eqO M F (hr.mono hj) hb (fun _ => quiet0)
theorem op_lt1 (D : Met1 X.prog X.w X.K X.mg X.base CX0 k C "__lt__" ["self", "other"] sp) (hr : Room j X.A) (hj : k + 1 ≤ j) : OpR X (compareOp .Lt) (rCmpO X.K C sp X0) := by
  obtain ⟨f, fd, M, _, F, hb⟩ := D.ex
  exact op_ltO M F (hr.mono hj) hb (fun _ => quiet0)
theorem op_ne1 (hn : NeC X.K C) (D : Met1 X.prog X.w X.K X.mg X.base CX0 k C "__eq__" ["self", "other"] sp) (hr : Room j X.A) (hj : k + 1 ≤ j) : OpR X (compareOp .NotEq) (rNeO X.K C sp X0) := by
  obtain ⟨f, fd, M, _, F, hb⟩ := D.ex
  exact op_neO hn M F (hr.mono hj) hb (fun _ => quiet0)
theorem pe_pro1 (c : Cls X.K C) (D : Pro1 X.prog X.w X.K X.mg X.base k C x sp) (hr : Room j X.A) (hj : k + 1 ≤ j) (ha : PE X e ta) (hab : attributeBase e x X.env (eval e X.env) = eval e X.env := by rfl) : PE X (.Attribute e x pos) (tProp C sp [] X0 ta) := by
  obtain ⟨p, f, fd, hp, F, hb⟩ := D.ex
  exact pe_prop ha c hp F (hr.mono hj) hb .nil pass0 hab
theorem pe_mk1 {E : XK} (D : Ini1 X.prog X.w X.K X.mg X.base CX k C t0 ps sp) (hx : Passes CX X E) (hr : Room j X.A) (hj : k + 1 ≤ j) (hgl : Gl X x) (hm : X.mg x = some (.ref C)) (ha : PA X (e :: es) t) (hdb : (x == ("__debug__" : Str)) = false := by decide)
    (he : starEach (e :: es) X.env = (false, eval e X.env) :: starEach es X.env := by rfl) (hpl : (backTo pos (starEach es X.env)).any (·.1) = false := by rfl) : PE X (.Call (.Name x p) (e :: es) [] pos) (tMake C sp [] E t) := by
  obtain ⟨f, fd, ds, M, F, hb, _, _⟩ := D.ex
  exact pe_make M F (hr.mono hj) hgl hm hb .nil hx ha hdb he hpl
theorem pe_mk0 {E : XK} (D : Ini1 X.prog X.w X.K X.mg X.base CX k C t0 ps sp) (hx : Passes CX X E) (hr : Room j X.A) (hj : k + 1 ≤ j) (hgl : Gl X x) (hm : X.mg x = some (.ref C)) (hdb : (x == ("__debug__" : Str)) = false := by decide) : PE X (.Call (.Name x p) [] [] pos) (tMake C sp [.ref t0] E tNil) := by
  obtain ⟨f, fd, ds, M, F, _, hv, hb⟩ := D.ex
  exact pe_make0 M F (hr.mono hj) hgl hm hb hv hx hdb
theorem pe_it1 (D : Met1 X.prog X.w X.K X.mg X.base CX k C "__getitem__" ["self", "index"] sp) {E : L2.St → XK} (hx : ∀ σ, PassesAt CX X σ (E σ)) (hr : Room j X.A) (hj : k + 1 ≤ j) (ha : PE X e ta) (hb : PE X a tb)
    (hs : ∀ v u : Value, subscripted a true v u = runValue (.builtin "lifetime.subscript" ⟨[v, u], []⟩) := by intro _ _; with_unfolding_all rfl) : PE X (.Subscript e a pos) (tIxO C sp E ta tb) := by
  obtain ⟨f, fd, M, hfn, F, hB⟩ := D.ex
  exact pe_ixO M hfn F (hr.mono hj) hB hx ha hb hs
theorem pe_me1 {o : Expr} {pl : Sem Bool} {E : XK} (c : Cls X.K C) (D : Met1 X.prog X.w X.K X.mg X.base CX k C m ps sp) (hx : Passes CX X E) (hr : Room j X.A) (hj : k ≤ j) (ho : PE X o ta) (ha : PA X (e :: es) t)
    (ht : eval (.Call (.Attribute o m apos) (e :: es) [] pos) X.env = (do
      let ov ← eval o X.env
      standAt apos.atName
      let (f, first) ← holding [ov] (getMethod ov m pl)
      callWith pos f first (backTo pos (starEach (e :: es) X.env)) (backToKw pos (keywordEach [] X.env))) := by rfl)
    (hst : starEach (e :: es) X.env = (false, eval e X.env) :: starEach es X.env := by rfl) (hpl : (backTo pos (starEach es X.env)).any (·.1) = false := by rfl) :
    PE X (.Call (.Attribute o m apos) (e :: es) [] pos) (tMeth C m sp [] E ta t) := by
  obtain ⟨f, fd, M, _, F, hb⟩ := D.ex
  exact pe_meth ho c M F (hr.mono hj) hb .nil hx ha hst hpl ht
theorem g_lc {wi : TI} {g : TG} {tt : TT} {te : TE} {vs : List Nat} {σ : L2.St} {H : Hp} {Q : VK} (k : wi σ H fun J H1 => LcG J g tt te vs σ H1 Q) : tLc wi g tt te vs σ H Q := k
theorem g_rng1 {ta : TA} {σ : L2.St} {H : Hp} {R : It → Hp → Prop} (k : ta σ H fun vs H1 => ∃ j : Int, vs = [.int j] ∧ -(2 ^ 62) ≤ j ∧ j < 2 ^ 62 ∧ R (Itr 0 j.toNat) H1) : iRng1 ta σ H R := k
theorem g_rng2 {ta : TA} {σ : L2.St} {H : Hp} {R : It → Hp → Prop} (k : ta σ H fun vs H1 => ∃ i j : Int, vs = [.int i, .int j] ∧ (-(2 ^ 62) ≤ i ∧ i < 2 ^ 62 ∧ -(2 ^ 62) ≤ j ∧ j < 2 ^ 62) ∧ R (Itr i (j - i).toNat) H1) : iRng2 ta σ H R := k
theorem g_itup {K : PySem.W.Frag} {te : TE} {σ : L2.St} {H : Hp} {R : It → Hp → Prop} (k : te σ H fun x H1 => ∃ a, x = .ref a ∧ (∃ xs, SqT K H1 a xs) ∧ R (Itt K a) H1) : iTup K te σ H R := k
theorem g_ilist {K : PySem.W.Frag} {te : TE} {σ : L2.St} {H : Hp} {R : It → Hp → Prop} (k : te σ H fun x H1 => ∃ a, x = .ref a ∧ (∃ xs, SqL K H1 a xs) ∧ R (Itl K a) H1) : iList K te σ H R := k
/-- a reading given two ways -/
theorem CallR.or {f : Value} {r1 r2 : List V → Hp → VK → Prop} (h1 : CallR X f r1) (h2 : CallR X f r2) : CallR X f (fun vs H Q => r1 vs H Q ∨ r2 vs H Q) := by
  intro pins s σ H vs us Q I r h
  rcases h with h | h
  · exact h1 pins s σ H vs us Q I r h
  · exact h2 pins s σ H vs us Q I r h
def rSumS (K : PySem.W.Frag) : List V → Hp → VK → Prop := fun vs H Q => ∃ (a : Addr) (ns : List Int), vs = [V.ref a] ∧ (SqL K H a (ns.map V.int) ∨ SqT K H a (ns.map V.int)) ∧ Q (.int ns.sum) H
theorem call_sumS (hc : X.calm = true) : CallR X (.builtin "sum") (rSumS X.K) := by
  intro pins s σ H vs us Q I r h
  obtain ⟨a, ns, e, h | h, k⟩ := h
  · exact cr_sum hc pins s σ H vs us Q I r ⟨a, ns, e, h, k⟩
  · exact cr_sumT hc pins s σ H vs us Q I r ⟨a, ns, e, h, k⟩
end
end

/-! The text by places; integers; dice. -/

section
open PySem PySem.Spec PyProof.Rows L2 Gd
open LamX (ExtN)
def top (i : Nat) : Stmt := PySem.Challenge.pw_primekinds_k67_whole_words_and_weights.main.body.getD i (.Pass ⟨0, 0, 0, 0⟩)
abbrev sWhole : Stmt := top 7
abbrev sInteger : Stmt := top 8
abbrev sDice : Stmt := top 23
abbrev sRoll : Stmt := top 24
abbrev sPick : Stmt := top 25
/-- what is known of the module's names -/
structure Txt (K : PySem.W.Frag) (mg : Str → Option Value) : Prop where
  isinstance : mg "isinstance" = none
  int : mg "int" = none
  bool : mg "bool" = none
  str : mg "str" = none
  tuple : mg "tuple" = none
  list : mg "list" = none
  dict : mg "dict" = none
  len : mg "len" = none
  all : mg "all" = none
  any : mg "any" = none
  sum : mg "sum" = none
  iter : mg "iter" = none
  max : mg "max" = none
  min : mg "min" = none
  abs : mg "abs" = none
  range : mg "range" = none
  repr : mg "repr" = none
  sorted : mg "sorted" = none
  enumerate : mg "enumerate" = none
  zip : mg "zip" = none
  bound : ∃ t, mg "BOUND" = some (.int (10 ^ 60) t)
section
variable {P : Program} {w : World} {K : PySem.W.Frag} {mg : Str → Option Value} {base : Heap} {f : Addr} {fd : FuncData}
theorem dec_l {p q : Prop} [Decidable p] [Decidable q] (h : p) : decide (p ∧ q) = decide q := by simp [h]
theorem dec_n {p q : Prop} [Decidable p] [Decidable q] (h : ¬ p) : decide (p ∧ q) = false := by simp [h]
/-! ### is_whole -/
/-- whether a value is an integer other than True and False -/
def WholeB (K : PySem.W.Frag) (H : Hp) (x : V) (b : Bool) : Prop := ∃ t b1 b2, TyX K H x t ∧ PySem.W.kitOne K t (.type "int") = some b1 ∧
  PySem.W.kitOne K t (.type "bool") = some b2 ∧ b = (b1 && !b2)
theorem whole_int {H : Hp} {i : Int} : WholeB K H (.int i) true := ⟨_, true, false, .base (.int i), by kernel_rfl, by kernel_rfl, rfl⟩
theorem whole_bl {H : Hp} {b : Bool} : WholeB K H (.bl b) false := ⟨_, true, true, .base (.bl b), by kernel_rfl, by kernel_rfl, rfl⟩
theorem whole_non {H : Hp} : WholeB K H .non false := ⟨_, false, false, .base .non, by kernel_rfl, by kernel_rfl, rfl⟩
theorem whole_str {H : Hp} {x : Str} : WholeB K H (.str x) false := ⟨_, false, false, .base (.str x), by kernel_rfl, by kernel_rfl, rfl⟩
theorem whole_tup {H : Hp} {a : Addr} {xs : List V} (h : H a = some (.tup xs)) : WholeB K H (.ref a) false := ⟨_, false, false, .base (.tup h), by kernel_rfl, by kernel_rfl, rfl⟩
def spWhole (K : PySem.W.Frag) : Sp := fun vs H Q _ => ∃ x b, vs = [x] ∧ WholeB K H x b ∧ Q (.bl b) H
theorem scWhole : FnScope ["value"] ["value"] (defScope sWhole) := ⟨rfl, rfl, rfl, by decide +kernel, rfl, by decide +kernel, by decide +kernel⟩
theorem ok_whole {f : Addr} {fd : FuncData} (F : Fun K "is_whole" "is_whole" sWhole f fd) (T : Txt K mg) : FnOk P w K mg base CX0 1 f fd ["value"] (spWhole K) := by
  refine F.ok scWhole (fun vs H Q E h => ?_) (fun cdv A outer s H vs Q E hr h => ?_)
  · obtain ⟨x, b, rfl, _⟩ := h
    rfl
  · obtain ⟨x, b, rfl, ⟨t, b1, b2, ty, k1, k2, rfl⟩, k⟩ := h
    refine ⟨_, pss_one (ps_ret (pe_and (pe_callB call_isi (by rfl) T.isinstance (by decide +kernel) (pa_cons (pv 0) (pa_cons (pe_bltn (v := .ty "int") (by rfl) T.int (by decide +kernel) rfl) pa_nil)))
      (pe_one (pe_not (pe_callB call_isi (by rfl) T.isinstance (by decide +kernel) (pa_cons (pv 0) (pa_cons (pe_bltn (v := .ty "bool") (by rfl) T.bool (by decide +kernel) rfl) pa_nil))))))), ?_⟩
    walk_at "rd"
    refine ⟨_, _, _, _, _, rfl, .ty _, ty, k1, ?_⟩
    walk_at "rd"
    refine ite2 (fun h1 => ?_) (fun h1 => ?_)
    · walk_at "rd"
      refine ⟨_, _, _, _, _, rfl, .ty _, ty, k2, ?_⟩
      walk_at "rd"
      rw [h1] at k
      exact k
    · rw [Bool.not_eq_true] at h1
      rw [h1] at k
      exact k

/-! ### is_integer -/
def IntB (K : PySem.W.Frag) (H : Hp) (x : V) (b : Bool) : Prop := (∃ i : Int, x = .int i ∧ b = decide (-(10 ^ 60) < i ∧ i < 10 ^ 60)) ∨ (WholeB K H x false ∧ b = false)
def spInteger (K : PySem.W.Frag) : Sp := fun vs H Q _ => ∃ x b, vs = [x] ∧ IntB K H x b ∧ Q (.bl b) H
theorem scInteger : FnScope ["value"] ["value"] (defScope sInteger) := ⟨rfl, rfl, rfl, by decide +kernel, rfl, by decide +kernel, by decide +kernel⟩
/-- where is_whole stands -/
structure AtW (K : PySem.W.Frag) (mg : Str → Option Value) (f : Addr) (fd : FuncData) : Prop where
  F : Fun K "is_whole" "is_whole" sWhole f fd
  b : Binds K fd ["value"] []
  g : mg "is_whole" = some (.ref f)
theorem ok_integer {f fW : Addr} {fd fdW : FuncData} (F : Fun K "is_integer" "is_integer" sInteger f fd) (T : Txt K mg) (W : AtW K mg fW fdW) : FnOk P w K mg base CX0 2 f fd ["value"] (spInteger K) := by
  have GW : FnOk P w K mg base CX0 1 fW fdW ["value"] (spWhole K) := ok_whole W.F T
  obtain ⟨tB, gB⟩ := T.bound
  refine F.ok scInteger (fun vs H Q E h => ?_) (fun cdv A outer s H vs Q E hr h => ?_)
  · obtain ⟨x, b, rfl, _⟩ := h
    rfl
  · obtain ⟨x, b, rfl, hx, k⟩ := h
    refine ⟨_, pss_one (ps_ret (pe_and (pe_call GW hr (by rfl) W.g W.F.kp W.b .nil pass0 (pa_cons (pv 0) pa_nil))
      (pe_one (pe_chain op_lt op_lt (pe_un un_neg (pe_glob (v := .int (10 ^ 60)) (by rfl) gB ⟨_, rfl⟩)) (pv 0) (pe_glob (v := .int (10 ^ 60)) (by rfl) gB ⟨_, rfl⟩))))), ?_⟩
    walk_at "rd"
    rcases hx with ⟨i, rfl, rfl⟩ | ⟨hx, rfl⟩
    · refine ⟨_, true, rfl, whole_int, ?_⟩
      walk_at "rd"
      try refine iteT ?_
      walk_at "rd"
      refine ite2 (fun h1 => ?_) (fun h1 => ?_)
      · walk_at "rd"
        have e : decide (-(10 ^ 60) < i ∧ i < 10 ^ 60) = decide (i < 10 ^ 60) := dec_l (of_decide_eq_true h1)
        rw [e] at k
        exact k
      · have h2 : ¬ (-(10 ^ 60) : Int) < i := fun z => h1 (decide_eq_true z)
        have e : decide (-(10 ^ 60) < i ∧ i < 10 ^ 60) = false := dec_n h2
        rw [e] at k
        exact k
    · refine ⟨_, false, rfl, hx, ?_⟩
      walk_at "rd"
      first | exact k | exact iteF k

/-! ### require_index -/
def IndexOk (K : PySem.W.Frag) (H : Hp) (x : V) (b : Bool) : Prop := (∃ i : Int, x = .int i ∧ b = decide (0 ≤ i ∧ i < 10 ^ 60)) ∨ (WholeB K H x false ∧ b = false)
def spIndex (K : PySem.W.Frag) (C : Addr) : Sp := fun vs H Q E => ∃ x b, vs = [x] ∧ IndexOk K H x b ∧ (b = true → Q .non H) ∧
  (b = false → ∀ d, H d = none → E (.ref C) (some d) (upd H d (.xd [(("value" : Str), x)])))
structure AtI (K : PySem.W.Frag) (mg : Str → Option Value) (f : Addr) (fd : FuncData) : Prop where
  F : Fun K "is_integer" "is_integer" sInteger f fd
  b : Binds K fd ["value"] []
  g : mg "is_integer" = some (.ref f)
abbrev sIsWithin : Stmt := top 9
/-- whether a value is an integer from lo to hi (the bounds have at most sixty digits) -/
def WithB (K : PySem.W.Frag) (H : Hp) (x : V) (lo hi : Int) (b : Bool) : Prop := (∃ i : Int, x = .int i ∧ b = decide (lo ≤ i ∧ i ≤ hi)) ∨ (WholeB K H x false ∧ b = false)
def spIsWithin (K : PySem.W.Frag) : Sp := fun vs H Q _ => ∃ (x : V) (lo hi : Int) (b : Bool), vs = [x, .int lo, .int hi] ∧ -(10 ^ 60) < lo ∧ hi < 10 ^ 60 ∧ WithB K H x lo hi b ∧ Q (.bl b) H
theorem scIsWithin : FnScope ["value", "low", "high"] ["value", "low", "high"] (defScope sIsWithin) := ⟨rfl, rfl, rfl, by decide +kernel, rfl, by decide +kernel, by decide +kernel⟩
theorem ok_isWithin {fW fI : Addr} {fdW fdI : FuncData} (F : Fun K "is_within" "is_within" sIsWithin f fd) (T : Txt K mg) (W : AtW K mg fW fdW) (I : AtI K mg fI fdI) : FnOk P w K mg base CX0 3 f fd ["value", "low", "high"] (spIsWithin K) := by
  have GI : FnOk P w K mg base CX0 2 fI fdI ["value"] (spInteger K) := ok_integer I.F T W
  refine F.ok scIsWithin (fun vs H Q E h => ?_) (fun cdv A outer s H vs Q E hr h => ?_)
  · obtain ⟨x, lo, hi, b, rfl, _⟩ := h
    rfl
  · obtain ⟨x, lo, hi, b, rfl, hlo, hhi, hx, k⟩ := h
    refine ⟨_, pss_one (ps_ret (pe_and (pe_call GI hr (by rfl) I.g I.F.kp I.b .nil pass0 (pa_cons (pv 0) pa_nil))
      (pe_one (pe_chain op_le op_le (pv 1) (pv 0) (pv 2))))), ?_⟩
    walk_at "rd"
    rcases hx with ⟨i, rfl, rfl⟩ | ⟨hx, rfl⟩
    · refine ⟨_, _, rfl, .inl ⟨i, rfl, rfl⟩, ?_⟩
      walk_at "rd"
      refine ite2 (fun h0 => ?_) (fun h0 => ?_)
      · walk_at "rd"
        refine ite2 (fun h1 => ?_) (fun h1 => ?_)
        · walk_at "rd"
          have e : decide (lo ≤ i ∧ i ≤ hi) = decide (i ≤ hi) := dec_l (of_decide_eq_true h1)
          rw [e] at k
          exact k
        · have h2 : ¬ lo ≤ i := fun z => h1 (decide_eq_true z)
          have e : decide (lo ≤ i ∧ i ≤ hi) = false := dec_n h2
          rw [e] at k
          exact k
      · have h2 : ¬ (-(10 ^ 60) < i ∧ i < 10 ^ 60) := fun z => h0 (decide_eq_true z)
        have e : decide (lo ≤ i ∧ i ≤ hi) = false := decide_eq_false (by omega)
        rw [e] at k
        exact k
    · refine ⟨_, _, rfl, .inr ⟨hx, rfl⟩, ?_⟩
      walk_at "rd"
      first | exact k | exact iteF k
/-- the dice at d -/
def DiceAt (H : Hp) (d : Addr) : Prop := ∃ a b c : Int, H d = some (.lst [.int a, .int b, .int c]) ∧ 0 ≤ a ∧ a < 10 ^ 120 ∧ 0 ≤ b ∧ b < 2 ^ 80 ∧ 0 ≤ c
theorem fmod_lo {a n : Int} (h : 0 < n) : 0 ≤ a.fmod n := by
  rw [Int.fmod_eq_emod_of_nonneg _ (Int.le_of_lt h)]
  exact Int.emod_nonneg _ (Int.ne_of_gt h)
theorem fmod_hi {a n : Int} (h : 0 < n) : a.fmod n < n := by
  rw [Int.fmod_eq_emod_of_nonneg _ (Int.le_of_lt h)]
  exact Int.emod_lt_of_pos _ h
theorem g_fmod {H : Hp} {Q : VK} {a n : Int} (hn : 0 < n) (k : ∀ r, 0 ≤ r → r < n → Q (.int r) H) : rI (fun _ j => j ≠ 0) (fun i j => .int (i.fmod j)) (.int a) (.int n) H Q :=
  ⟨a, n, rfl, rfl, Int.ne_of_gt hn, k _ (fmod_lo hn) (fmod_hi hn)⟩
def spDice (K : PySem.W.Frag) : Sp := fun vs H Q _ => ∃ (a : Addr) (ns : List Int) (i : Nat), vs = [.ref a, .int (i : Int)] ∧ SqL K H a (ns.map V.int) ∧ i ≤ 63 ∧
  ∀ H' d, Ext H H' → H d = none → DiceAt H' d → Q (.ref d) H'
theorem scDice : FnScope ["_law_script", "_law_spot", "_law_cell", "_law_left"] ["_law_script", "_law_spot"] (defScope sDice) := ⟨rfl, rfl, rfl, by decide +kernel, rfl, by decide +kernel, by decide +kernel⟩
theorem ok_dice (F : Fun K "_law_dice" "_law_dice" sDice f fd) (T : Txt K mg) : FnOk P w K mg base CX0 1 f fd ["_law_script", "_law_spot"] (spDice K) := by
  refine F.ok scDice (fun vs H Q E h => ?_) (fun cdv A outer s H vs Q E hr h => ?_)
  · obtain ⟨a, ns, i, rfl, _⟩ := h
    rfl
  · obtain ⟨a, ns, i, rfl, hs, hi, k⟩ := h
    refine ⟨_, pss_cons (ps_set (i := 2) scDice.nd rfl (Or.inl rfl) (pe_ifExp (pt_cmpR op_lt (pv 1) (pe_callB call_len_seq (by rfl) T.len PySem.boot_len (pa_cons (pv 0) pa_nil)) (nomark _))
          (pe_callTy call_int1 (by rfl) T.int (by decide +kernel) (pa_cons (pe_ix ix_list (pv 0) (pv 1) (fun _ _ => rfl)) pa_nil)) (pe_op op_add (pe_op op_mul pe_int (pv 1)) pe_int)))
      (pss_cons (ps_set (i := 3) scDice.nd rfl (Or.inl rfl) (pe_op op_modN (pe_callB (call_max2 rfl) (by rfl) T.max (by decide +kernel) (pa_cons pe_int (pa_cons (pe_op op_sub (pe_callB call_abs (by rfl) T.abs (by decide +kernel) (pa_cons (pv 2) pa_nil)) (pe_op op_pow pe_int pe_int)) pa_nil)))
          (pe_op op_mulW (pe_op op_pow pe_int pe_int) (pe_op op_pow pe_int pe_int))))
        (pss_one (ps_ret (pe_lst (pa_cons (pv 3) (pa_cons (pe_op op_add (pe_op op_add (pe_op op_add (pe_op op_mul (pe_op op_modN (pe_callB call_abs (by rfl) T.abs (by decide +kernel) (pa_cons (pv 2) pa_nil)) pe_int) pe_int) (pe_op op_mul pe_int (pv 1)))
          (pe_op op_mul pe_int (pe_callTy call_int1 (by rfl) T.int (by decide +kernel) (pa_cons (pe_cmpR op_lt (pv 2) pe_int (nomark _)) pa_nil)))) pe_int) (pa_cons pe_int pa_nil))))))), ?_⟩
    walk_at "rd"
    refine ⟨a, _, rfl, .inl hs, ?_⟩
    walk_at "rd"
    refine ite2 (fun h1 => ?_) (fun h1 => ?_)
    have h2 := of_decide_eq_true h1
    rw [List.length_map] at h2
    have hlt : i < ns.length := by omega
    walk_at "rd"
    refine g_ixL hs (v := .int ns[i]) (atI_nat (by rw [mapget, List.getElem?_eq_getElem hlt]; rfl)) ?_
    walk_at "rd"
    refine .inl ⟨_, rfl, ?_⟩
    generalize ns[i] = c
    walk_at "rd"
    rotate_left
    walk_at "rd"
    refine g_I (.inr ⟨by omega, by omega⟩) ?_
    walk_at "rd"
    generalize (83 * (i : Int) + 61) = c
    walk_at "rd"
    all_goals
      refine g_I ⟨by decide, by decide, by decide⟩ ?_
      walk_at "rd"
      refine g_I ⟨by decide, by decide, by decide⟩ ?_
      walk_at "rd"
      refine g_I ⟨by decide, by decide, by decide⟩ ?_
      walk_at "rd"
      refine g_I (wide_mul (a := 200) (b := 200) (by decide +kernel) (by decide +kernel) (by decide) (by decide) (by decide)) ?_
      walk_at "rd"
      refine g_fmod (by decide +kernel) (fun l l0 l1 => ?_)
      walk_at "rd"
      refine g_fmod (by decide +kernel) (fun r r0 r1 => ?_)
      walk_at "rd"
      refine g_I (.inr ⟨by decide, by decide⟩) ?_
      walk_at "rd"
      refine g_I (.inl ⟨by decide, by decide⟩) ?_
      walk_at "rd"
      refine .inr ⟨_, rfl, ?_⟩
      refine g_I (.inl ⟨by decide, by decide⟩) ?_
      walk_at "rd"
      refine ⟨by show 3 ≤ sizeLine; decide, fun d hd => ?_⟩
      have l1' : l < 10 ^ 120 := Int.lt_of_lt_of_le l1 (by decide +kernel)
      refine k _ d (Ext.new hd) hd ⟨l, _, 0, upd_same, l0, l1', ?_, ?_, Int.le_refl _⟩
      · split <;> omega
      · split <;> omega

/-! ### a roll -/
def spRoll : Sp := fun vs H Q _ => ∃ (d : Addr) (n : Int), vs = [.ref d, .int n] ∧ DiceAt H d ∧ 0 < n ∧ n < 2 ^ 1000 ∧
  ∀ H' r, ExtBut d H H' → DiceAt H' d → 0 ≤ r → r < n → Q (.int r) H'
theorem scRoll : FnScope ["_law_dice_here", "_law_total", "_law_found", "_law_one", "_law_two"] ["_law_dice_here", "_law_total"] (defScope sRoll) := ⟨rfl, rfl, rfl, by decide +kernel, rfl, by decide +kernel, by decide +kernel⟩
theorem ok_roll (F : Fun K "_law_roll" "_law_roll" sRoll f fd) (T : Txt K mg) : FnOk P w K mg base CX0 1 f fd ["_law_dice_here", "_law_total"] spRoll := by
  refine F.ok scRoll (fun vs H Q E h => ?_) (fun cdv A outer s H vs Q E hr h => ?_)
  · obtain ⟨d, n, rfl, _⟩ := h
    rfl
  · obtain ⟨d, n, rfl, ⟨a, b, c, hd, a0, a1, b0, b1, c0⟩, n0, n1, k⟩ := h
    refine ⟨_, pss_cons (ps_if (pt_cmpR op_gt (pe_ix ix_list (pv 0) pe_int (fun _ _ => rfl)) pe_int (nomark _))
        (pss_cons (ps_set (i := 2) scRoll.nd rfl (Or.inl rfl) (pe_op op_modN (pe_callTy call_int1 (by rfl) T.int (by decide +kernel) (pa_cons (pe_ix ix_list (pv 0) pe_int (fun _ _ => rfl)) pa_nil)) (pv 1)))
          (pss_cons (ps_asg (pe_op op_fdivW (pe_ix ix_list (pv 0) pe_int (fun _ _ => rfl)) (pv 1)) (pg_sub (pv 0) pe_int set_list)) (pss_one (ps_ret (pv 2))))) pss_nil)
      (pss_cons (ps_asg (pe_op op_add (pe_ix ix_list (pv 0) pe_int (fun _ _ => rfl)) pe_int) (pg_sub (pv 0) pe_int set_list))
        (pss_cons (ps_set (i := 3) scRoll.nd rfl (Or.inl rfl) (pe_op op_modN (pe_callTy call_int1 (by rfl) T.int (by decide +kernel) (pa_cons (pe_op op_add (pe_ix ix_list (pv 0) pe_int (fun _ _ => rfl)) (pe_op op_mul pe_int (pe_ix ix_list (pv 0) pe_int (fun _ _ => rfl)))) pa_nil)) pe_int))
          (pss_cons (ps_set (i := 4) scRoll.nd rfl (Or.inl rfl) (pe_op op_add (pe_op op_mul (pe_op op_modN (pe_callTy call_int1 (by rfl) T.int (by decide +kernel)
              (pa_cons (pe_op op_add (pe_op op_mul (pv 3) (pv 3)) (pe_op op_mul pe_int (pe_ix ix_list (pv 0) pe_int (fun _ _ => rfl)))) pa_nil)) pe_int) pe_int) (pv 3)))
            (pss_one (ps_ret (pe_op op_modN (pe_callTy call_int1 (by rfl) T.int (by decide +kernel) (pa_cons (pe_op op_fdiv (pv 4) pe_int) pa_nil)) (pv 1))))))), ?_⟩
    walk_at "rd"
    refine g_ixL (SqL.of hd) (v := .int a) rfl ?_
    walk_at "rd"
    refine ite2 (fun h1 => ?_) (fun h1 => ?_)
    · walk_at "rd"
      refine g_ixL (SqL.of hd) (v := .int a) rfl ?_
      walk_at "rd"
      refine .inl ⟨_, rfl, ?_⟩
      walk_at "rd"
      refine g_fmod n0 (fun r r0 r1 => ?_)
      walk_at "rd"
      refine g_ixL (SqL.of hd) (v := .int a) rfl ?_
      walk_at "rd"
      refine g_I (wide_div (b := 1000) n0 (by omega) (by decide) (by decide)) ?_
      walk_at "rd"
      refine ⟨d, _, _, 0, rfl, rfl, hd, rfl, ?_⟩
      walk_at "rd"
      refine k _ r (fun x o hx q => by rw [upd_ne hx]; exact q) ⟨a / n, b, c, upd_same, Int.ediv_nonneg a0 (Int.le_of_lt n0), Int.lt_of_le_of_lt (Int.ediv_le_self _ a0) a1, b0, b1, c0⟩ r0 r1
    · walk_at "rd"
      refine g_ixL (SqL.of hd) (v := .int c) rfl ?_
      walk_at "rd"
      refine ⟨d, _, _, 2, rfl, rfl, hd, rfl, ?_⟩
      walk_at "rd"
      have hd2 : upd H d (.lst (List.set [V.int a, V.int b, V.int c] 2 (V.int (c + 1)))) d = some (.lst [.int a, .int b, .int (c + 1)]) := upd_same
      generalize hH2 : upd H d (.lst (List.set [V.int a, V.int b, V.int c] 2 (V.int (c + 1)))) = H2 at hd2 ⊢
      have e2 : ExtBut d H H2 := fun x o hx q => by rw [← hH2, upd_ne hx]; exact q
      refine g_ixL (SqL.of hd2) (v := .int b) rfl ?_
      walk_at "rd"
      refine g_ixL (SqL.of hd2) (v := .int (c + 1)) rfl ?_
      refine g_I (.inl ⟨by decide, by decide⟩) ?_
      walk_at "rd"
      refine .inl ⟨_, rfl, ?_⟩
      walk_at "rd"
      refine g_fmod (by decide) (fun r r0 r1 => ?_)
      walk_at "rd"
      refine g_I (.inl ⟨by omega, by omega⟩) ?_
      walk_at "rd"
      refine g_ixL (SqL.of hd2) (v := .int (c + 1)) rfl ?_
      refine g_I (.inl ⟨by decide, by decide⟩) ?_
      walk_at "rd"
      refine .inl ⟨_, rfl, ?_⟩
      walk_at "rd"
      refine g_fmod (by decide) (fun t t0 t1 => ?_)
      walk_at "rd"
      refine g_I (.inr ⟨by decide, by decide⟩) ?_
      walk_at "rd"
      refine g_I ⟨by decide, by decide⟩ ?_
      walk_at "rd"
      refine .inl ⟨_, rfl, ?_⟩
      walk_at "rd"
      refine g_fmod n0 (fun z z0 z1 => ?_)
      exact k _ z e2 ⟨a, b, c + 1, hd2, a0, a1, b0, b1, by omega⟩ z0 z1
theorem dice_none {H : Hp} {d l : Addr} (h : DiceAt H d) (e : H l = none) : l ≠ d := by
  obtain ⟨a, b, c, h, _⟩ := h
  intro z
  subst z
  rw [e] at h
  cases h
theorem dice_ne {H : Hp} {d l : Addr} {o : HO} (h : DiceAt H d) (e : H l = some o) (n : ∀ xs, o ≠ .lst xs) : l ≠ d := by
  obtain ⟨a, b, c, h, _⟩ := h
  intro z
  subst z
  rw [e] at h
  cases h
  exact n _ rfl
structure AtR (K : PySem.W.Frag) (mg : Str → Option Value) (f : Addr) (fd : FuncData) : Prop where
  F : Fun K "_law_roll" "_law_roll" sRoll f fd
  b : Binds K fd ["_law_dice_here", "_law_total"] []
  g : mg "_law_roll" = some (.ref f)
theorem DiceAt.ext {d : Addr} {H H1 : Hp} (e : Ext H H1) (h : DiceAt H d) : DiceAt H1 d := by
  obtain ⟨a, b, c, h, r⟩ := h
  exact ⟨a, b, c, e _ _ h, r⟩
/-! ### pick -/
def spPick (K : PySem.W.Frag) : Sp := fun vs H Q _ => ∃ (d l : Addr) (xs : List V), vs = [.ref d, .ref l] ∧ DiceAt H d ∧ SqL K H l xs ∧ l ≠ d ∧ 0 < xs.length ∧ xs.length ≤ 5000 ∧
  ∀ H' x, ExtBut d H H' → DiceAt H' d → x ∈ xs → Q x H'
theorem scPick : FnScope ["_law_dice_here", "_law_items"] ["_law_dice_here", "_law_items"] (defScope sPick) := ⟨rfl, rfl, rfl, by decide +kernel, rfl, by decide +kernel, by decide +kernel⟩
theorem ok_pick {fR : Addr} {fdR : FuncData} (F : Fun K "_law_pick" "_law_pick" sPick f fd) (T : Txt K mg) (R : AtR K mg fR fdR) : FnOk P w K mg base CX0 2 f fd ["_law_dice_here", "_law_items"] (spPick K) := by
  have GR : FnOk P w K mg base CX0 1 fR fdR ["_law_dice_here", "_law_total"] spRoll := ok_roll R.F T
  refine F.ok scPick (fun vs H Q E h => ?_) (fun cdv A outer s H vs Q E hr h => ?_)
  · obtain ⟨d, l, xs, rfl, _⟩ := h
    rfl
  · obtain ⟨d, l, xs, rfl, hd, hl, ne, l0, l1, k⟩ := h
    refine ⟨_, pss_one (ps_ret (pe_ix ix_list (pv 1) (pe_call GR hr (by rfl) R.g R.F.kp R.b .nil pass0 (pa_cons (pv 0) (pa_cons (pe_callB call_len_seq (by rfl) T.len PySem.boot_len (pa_cons (pv 1) pa_nil)) pa_nil))) (fun _ _ => rfl))), ?_⟩
    walk_at "rd"
    refine ⟨l, xs, rfl, .inl hl, ?_⟩
    walk_at "rd"
    refine ⟨d, _, rfl, hd, by omega, by omega, ?_⟩
    intro H' r e hd' r0 r1
    have hlt : r.toNat < xs.length := by omega
    have er : r = (r.toNat : Int) := by omega
    rw [er]
    exact g_ixL (sqL_but e ne hl) (atI_nat (List.getElem?_eq_getElem hlt)) (k _ _ e hd' (List.getElem_mem hlt))
end
end

/-! Falling rows: what they are; is_falling. -/

section
open PySem PySem.Spec PyProof.Rows L2 Gd
theorem getI {ns : List Int} {i : Nat} (h : i < ns.length) : (ns.map V.int)[i]? = some (.int (ns.getD i 0)) := by
  rw [mapget, List.getElem?_eq_getElem h, List.getD_eq_getElem?_getD, List.getElem?_eq_getElem h]
  rfl
theorem getDI {ns : List Int} {i : Nat} (h : i < ns.length) : (ns.map V.int).getD i .non = .int (ns.getD i 0) := by
  rw [List.getD_eq_getElem?_getD, getI h]
  rfl
theorem getD_big {ns : List Int} {i : Nat} (h : ¬ i < ns.length) : ns.getD i 0 = 0 := by
  rw [List.getD_eq_getElem?_getD, List.getElem?_eq_none (by omega)]
  rfl
structure Fall (ns : List Int) : Prop where
  pos : ∀ x ∈ ns, 1 ≤ x
  sum : ns.sum ≤ 12
  desc : ∀ i : Nat, i + 1 < ns.length → ns.getD (i + 1) 0 ≤ ns.getD i 0
theorem sum_len : ∀ {ns : List Int}, (∀ x ∈ ns, 1 ≤ x) → (ns.length : Int) ≤ ns.sum
  | [], _ => by simp
  | x :: r, h => by
    have h1 := h x List.mem_cons_self
    have h2 := sum_len (ns := r) fun y hy => h y (List.mem_cons_of_mem _ hy)
    rw [List.sum_cons, List.length_cons]
    omega
theorem mem_sum : ∀ {ns : List Int}, (∀ x ∈ ns, 1 ≤ x) → ∀ x ∈ ns, x ≤ ns.sum
  | [], _, x, hx => by cases hx
  | y :: r, h, x, hx => by
    have h1 := h y List.mem_cons_self
    have hr : ∀ z ∈ r, 1 ≤ z := fun z hz => h z (List.mem_cons_of_mem _ hz)
    have h2 := sum_len hr
    rw [List.sum_cons]
    rcases List.mem_cons.mp hx with e | e
    · subst e
      omega
    · have := mem_sum hr x e
      omega
theorem Fall.len {ns : List Int} (h : Fall ns) : ns.length ≤ 12 := by
  have := sum_len h.pos
  have := h.sum
  omega
theorem Fall.le {ns : List Int} (h : Fall ns) : ∀ x ∈ ns, x ≤ 12 := fun x hx => by
  have := mem_sum h.pos x hx
  have := h.sum
  omega
theorem Fall.sum0 {ns : List Int} (h : Fall ns) : 0 ≤ ns.sum := by
  have := sum_len h.pos
  omega
theorem Fall.at {ns : List Int} (h : Fall ns) (i : Nat) : 0 ≤ ns.getD i 0 ∧ ns.getD i 0 ≤ 12 := by
  by_cases hi : i < ns.length
  · rw [List.getD_eq_getElem?_getD, List.getElem?_eq_getElem hi]
    have := h.pos _ (List.getElem_mem hi)
    have := h.le _ (List.getElem_mem hi)
    show 0 ≤ ns[i] ∧ ns[i] ≤ 12
    omega
  · rw [getD_big hi]
    omega
theorem Fall.size {ns : List Int} (h : Fall ns) {n : Nat} (hn : n ≤ 1000) : n < sizeLine := by
  have : (1000 : Nat) < sizeLine := by decide
  omega
theorem small {n : Nat} (hn : n ≤ 1000) : n < sizeLine := by
  have : (1000 : Nat) < sizeLine := by decide
  omega
theorem getD_mem {ns : List Int} {i : Nat} (h : i < ns.length) : ns.getD i 0 ∈ ns := by
  rw [List.getD_eq_getElem?_getD, List.getElem?_eq_getElem h]
  exact List.getElem_mem h
theorem Fall.down {ns : List Int} (h : Fall ns) (i : Nat) : ns.getD (i + 1) 0 ≤ ns.getD i 0 := by
  by_cases hi : i + 1 < ns.length
  · exact h.desc i hi
  · rw [getD_big hi]
    exact (h.at i).1
theorem Fall.headI {ns : List Int} (h : Fall ns) : ∀ i : Nat, ns.getD i 0 ≤ ns.getD 0 0
  | 0 => Int.le_refl _
  | i + 1 => Int.le_trans (h.down i) (h.headI i)
theorem Fall.head {ns : List Int} (h : Fall ns) : ∀ x ∈ ns, x ≤ ns.getD 0 0 := fun x hx => by
  obtain ⟨i, hi, rfl⟩ := List.getElem_of_mem hx
  have := h.headI i
  rw [List.getD_eq_getElem?_getD, List.getElem?_eq_getElem hi] at this
  exact this
theorem fall_nil : Fall [] := ⟨(nofun), (by decide), fun i hi => absurd hi (by simp)⟩
theorem head_mem {ns : List Int} (h : Fall ns) (hne : ns ≠ []) : ns.getD 0 0 ∈ ns := getD_mem (List.length_pos_iff.mpr hne)
theorem lt66 {A : Around} {k : Nat} (hr : Room k A) : A.units + 66 < cLine := by
  have := hr.un
  omega
section
variable {P : Program} {w : World} {K : PySem.W.Frag} {mg : Str → Option Value} {base : Heap} {f : Addr} {fd : FuncData}
/-! ### falling -/
abbrev sFalling : Stmt := top 11
theorem scFalling : FnScope ["value", "most", "number", "i"] ["value", "most"] (defScope sFalling) := ⟨rfl, rfl, rfl, by decide +kernel, rfl, by decide +kernel, by decide +kernel⟩
def spFalling (K : PySem.W.Frag) : Sp := fun vs H Q _ => ∃ (a : Addr) (ns : List Int), vs = [.ref a, .int 12] ∧ SqT K H a (ns.map V.int) ∧ Fall ns ∧ ∀ H', Ext H H' → Q (.bl true) H'
theorem ok_falling (F : Fun K "is_falling" "is_falling" sFalling f fd) (T : Txt K mg) (Wi : Def1 P w K mg base CX0 3 "is_within" ["value", "low", "high"] (spIsWithin K)) : FnOk P w K mg base CX0 4 f fd ["value", "most"] (spFalling K) := by
  refine F.ok scFalling (fun vs H Q E h => ?_) (fun cdv A outer s H vs Q E hr h => ?_)
  · obtain ⟨a, ns, rfl, _⟩ := h
    rfl
  · obtain ⟨a, ns, rfl, hs, hF, k⟩ := h
    refine ⟨_, pss_cons (ps_if (PW.pt (pw_or (pt_not (pt_val (pe_callB call_isi (by rfl) T.isinstance (by decide +kernel) (pa_cons (pv 0) (pa_cons (pe_bltn (v := .ty "tuple") (by rfl) T.tuple (by decide +kernel) rfl) pa_nil))))) (pw_or1 (pt_not (pt_val (pe_callB (cr_all rfl) (by rfl) T.all (by decide +kernel) (pa_cons (pe_lc (own := [("number", 2)]) (g := gName 2) (tt := tYes) rfl scFalling.nd (pi_tup (pv 0)) (blkOk_by (N := ["value", "most", "number", "i"]) (sc := defScope sFalling) (by decide +kernel)) (fun _ _ _ _ _ => pg_name (i := 2) scFalling.nd rfl (Or.inl rfl)) (fun _ _ _ _ _ => pts_nil) (fun _ _ _ _ _ => (pe_def Wi hr (by decide) (by rfl) (pa_cons (pv 2) (pa_cons pe_int (pa_cons (pv 1) pa_nil)))))) pa_nil))))))) (pss_one (ps_ret pe_bl)) pss_nil)
      (pss_one (ps_ret (pe_and (pe_cmpR op_le (pe_callB (call_sumS rfl) (by rfl) T.sum (by decide +kernel) (pa_cons (pv 0) pa_nil)) (pv 1) (nomark _)) (pe_one (pe_callB (cr_all rfl) (by rfl) T.all (by decide +kernel) (pa_cons (pe_lc (own := [("i", 3)]) (g := gName 3) (tt := tYes) rfl scFalling.nd (pi_range2 (by rfl) T.range (pa_cons pe_int (pa_cons (pe_callB call_len_seq (by rfl) T.len PySem.boot_len (pa_cons (pv 0) pa_nil)) pa_nil))) (blkOk_by (N := ["value", "most", "number", "i"]) (sc := defScope sFalling) (by decide +kernel)) (fun _ _ _ _ _ => pg_name (i := 3) scFalling.nd rfl (Or.inl rfl)) (fun _ _ _ _ _ => pts_nil) (fun _ _ _ _ _ => (pe_cmpR op_le (pe_ix (r := rIxT K) ix_tup (pv 0) (pv 3) (fun _ _ => rfl)) (pe_ix (r := rIxT K) ix_tup (pv 0) (pe_op op_sub (pv 3) pe_int) (fun _ _ => rfl)) (nomark _)))) pa_nil)))))), ?_⟩
    try dsimp only [cx_nox, cx_K]
    have hl1 := hF.len
    have hs1 := hF.sum
    walk_at "rd"
    refine ⟨_, _, _, _, true, rfl, .ty _, tyT hs, by kernel_rfl, ?_⟩
    walk_at "rd"
    refine g_lc (g_itup ?_)
    walk_at "rd"
    refine lcT hs (small (by rw [List.length_map]; omega)) (fun _ => true) (fun _ => .bl true) (fun x H' hx e Qe Qn he hn => ?_) (fun H1 D e1 hD hd => ?_)
    · obtain ⟨n, hn', rfl⟩ := List.mem_map.mp hx
      refine ⟨rfl, ?_⟩
      walk_at "rd"
      refine ⟨_, 1, 12, true, rfl, by decide, by decide, .inl ⟨n, rfl, (decide_eq_true ⟨hF.pos n hn', hF.le n hn'⟩).symm⟩, ?_⟩
      exact he _ (fun _ _ z => z) rfl
    · walk_at "rd"
      refine ⟨D, ns.map fun _ => true, rfl, SqL.of ?_, ?_⟩
      · rw [hd, List.filter_eq_self.mpr (fun _ _ => rfl), List.map_map, List.map_map]
        rfl
      have all : (ns.map fun _ => true).all id = true := by simp
      rw [all]
      walk_at "rd"
      refine ⟨a, ns, rfl, .inr (sqT_ext e1 hs), ?_⟩
      walk_at "rd"
      rw [decide_eq_true hs1]
      walk_at "rd"
      refine g_lc (g_rng2 ?_)
      walk_at "rd"
      refine ⟨a, _, rfl, .inr (sqT_ext e1 hs), ?_⟩
      walk_at "rd"
      rw [List.length_map]
      refine ⟨⟨by decide, by decide, by omega, by omega⟩, ?_⟩
      have en : ((ns.length : Int) - 1).toNat = ns.length - 1 := by omega
      rw [en]
      refine lcR (small (by omega)) (fun _ => true) (fun _ => .bl true) (fun i H' hi e Qe Qn he hn => ?_) (fun H' D2 e hD2 hd2 => ?_)
      · have ei : (1 + (i : Int)) = ((i + 1 : Nat) : Int) := by omega
        rw [ei]
        refine ⟨rfl, ?_⟩
        walk_at "rd"
        refine g_ixT (sqT_ext e (sqT_ext e1 hs)) (atI_nat (getI (i := i + 1) (by omega))) ?_
        walk_at "rd"
        have ej : (((i + 1 : Nat) : Int) - 1) = (i : Int) := by omega
        rw [ej]
        refine g_ixT (sqT_ext e (sqT_ext e1 hs)) (atI_nat (getI (i := i) (by omega))) ?_
        walk_at "rd"
        rw [decide_eq_true (hF.desc i (by omega))]
        exact he _ (fun _ _ z => z) rfl
      · rw [idx_all] at hd2
        walk_at "rd"
        refine ⟨D2, (List.range (ns.length - 1)).map fun _ => true, rfl, SqL.of ?_, ?_⟩
        · rw [hd2, List.map_map]
          rfl
        have all2 : ((List.range (ns.length - 1)).map fun _ => true).all id = true := by simp
        rw [all2]
        exact k _ (Ext.trans e1 e)
end
end

/-! All kinds of a size, as the law lists them. -/

section
open PySem PySem.Spec PyProof.Rows L2 Gd
theorem geo2 (l : Nat) : ∀ n : Nat, n ≤ l → ((List.range n).map fun i => 2 ^ (l - (i + 1))).sum + 2 ^ (l - n) ≤ 2 ^ l
  | 0, _ => by simp
  | n + 1, h => by
    have ih := geo2 l n (by omega)
    rw [List.range_succ, List.map_append, List.sum_append]
    have e : 2 ^ (l - n) = 2 ^ (l - (n + 1)) + 2 ^ (l - (n + 1)) := by
      rw [show l - n = (l - (n + 1)) + 1 by omega, Nat.pow_succ]
      omega
    have e2 : ([n].map fun i => 2 ^ (l - (i + 1))).sum = 2 ^ (l - (n + 1)) := by simp
    rw [e2]
    omega
theorem len_pow : ∀ ls : List Nat, ls.length ≤ (ls.map fun l => 2 ^ l).sum
  | [] => Nat.le_refl _
  | l :: r => by
    have := len_pow r
    have := Nat.one_le_two_pow (n := l)
    rw [List.length_cons, List.map_cons, List.sum_cons]
    omega
section
variable {K : PySem.W.Frag} {H H' : Hp} {size : Nat}
/-- a kind of that size, as a tuple -/
def KT (K : PySem.W.Frag) (size : Nat) (H : Hp) (f : V) : Prop := ∃ (a : Addr) (ns : List Int), f = .ref a ∧ TupX K H a (ns.map V.int) ∧ Fall ns ∧ ns.sum = (size : Int)
/-- the beginning of one, with what is left -/
def WT (K : PySem.W.Frag) (size : Nat) (H : Hp) (l : Nat) (v : V) : Prop := ∃ (b a : Addr) (ns : List Int), v = .ref b ∧ H b = some (.tup [.ref a, .int (l : Int)]) ∧ TupX K H a (ns.map V.int) ∧ Fall ns ∧ ns.sum + (l : Int) = (size : Int)
/-- what is no list stays -/
def Keeps (H H' : Hp) : Prop := ∀ b o, (∀ xs, o ≠ .lst xs) → H b = some o → H' b = some o
theorem Keeps.of (e : Ext H H') : Keeps H H' := fun b o _ q => e b o q
theorem Keeps.trans {H2 : Hp} (a : Keeps H H') (b : Keeps H' H2) : Keeps H H2 := fun x o n q => b x o n (a x o n q)
theorem Keeps.up {D : Addr} {xs ys : List V} (h : H D = some (.lst xs)) : Keeps H (upd H D (.lst ys)) := fun b o n q => by
  rw [upd_ne (fun z => by rw [z, h] at q; cases q; exact n _ rfl)]
  exact q
theorem TupX.keeps {a : Addr} {xs : List V} (e : Keeps H H') (h : TupX K H a xs) : TupX K H' a xs := by
  rcases h with ⟨o, h, d⟩ | h
  · exact .inl ⟨o, e _ _ (fun _ z => by cases z) h, d⟩
  · exact .inr h
theorem KT.keeps {f : V} (e : Keeps H H') (h : KT K size H f) : KT K size H' f := by
  obtain ⟨a, ns, rfl, ht, r⟩ := h
  exact ⟨a, ns, rfl, TupX.keeps e ht, r⟩
theorem WT.keeps {l : Nat} {v : V} (e : Keeps H H') (h : WT K size H l v) : WT K size H' l v := by
  obtain ⟨b, a, ns, rfl, hb, ht, r⟩ := h
  exact ⟨b, a, ns, rfl, e _ _ (fun _ z => by cases z) hb, TupX.keeps e ht, r⟩
theorem keeps_but {D : Addr} {ys : List V} (hd : H D = none ∨ H D = some (.lst ys)) (e : ExtBut D H H') : Keeps H H' := fun b o n q => e b o (fun z => by
  rw [z] at q
  rcases hd with hd | hd
  · rw [hd] at q
    cases q
  · rw [hd] at q
    cases q
    exact n _ rfl) q
theorem fall_snoc {ns : List Int} {k : Int} (h : Fall ns) (k1 : 1 ≤ k) (hs : ns.sum + k ≤ 12) (hl : ns ≠ [] → k ≤ ns.getD (ns.length - 1) 0) : Fall (ns ++ [k]) := by
  have e : [k].sum = k := by simp
  refine ⟨fun x hx => (List.mem_append.mp hx).elim (h.pos x) fun q => by rw [List.mem_singleton.mp q]; exact k1, by rw [List.sum_append, e]; exact hs, fun i hi => ?_⟩
  rw [List.length_append, List.length_singleton] at hi
  by_cases hin : i + 1 < ns.length
  · have := h.desc i hin
    rw [List.getD_eq_getElem?_getD, List.getD_eq_getElem?_getD, List.getElem?_append_left hin, List.getElem?_append_left (by omega), ← List.getD_eq_getElem?_getD, ← List.getD_eq_getElem?_getD]
    exact this
  · have en : i + 1 = ns.length := by omega
    have hne : ns ≠ [] := fun z => by rw [z] at en; simp at en
    have := hl hne
    rw [List.getD_eq_getElem?_getD, List.getD_eq_getElem?_getD, List.getElem?_append_right (by omega), List.getElem?_append_left (by omega), ← List.getD_eq_getElem?_getD (l := ns), en, Nat.sub_self]
    rw [show ns.length - 1 = i by omega] at this
    exact this
/-- a comprehension over numbers whose results stand in a relation to the turn -/
theorem lcRR {σ : L2.St} {H1 : Hp} {vs : List Nat} {g : TG} {tt : TT} {te : TE} {Q : VK} {lo : Int} {n : Nat} (sz : n < sizeLine) (R : Nat → V → Hp → Prop) (mono : ∀ i y H H', Keeps H H' → R i y H → R i y H')
    (body : ∀ (i : Nat) H', i < n → Ext H1 H' → ∀ (Qe : VK) (Qn : Hp → Prop), (∀ y H3, Ext H' H3 → R i y H3 → Qe y H3) →
      g (.int (lo + i)) (wipe σ vs) H' fun σ2 H2 => wipe σ2 vs = wipe σ vs ∧ tt σ2 H2 fun b H3 => if b = true then te σ2 H3 Qe else Qn H3)
    (k : ∀ H' D ys, Ext H1 H' → H1 D = none → H' D = some (.lst ys) → ys.length = n → (∀ i y, ys[i]? = some y → R i y H') → Q (.ref D) H') : LcG (Itr lo n) g tt te vs σ H1 Q := by
  refine fun D hD => lc_rel walk_range R (fun _ => true) (fun i y D ys H H' hd e r => mono i y H H' (keeps_but hd e) r) hD (fun H' e => True.intro) sz (fun i x H' H'' hi e hy Qe Qn he hn => ?_) (fun H' ys e hd hr => ?_)
  · obtain ⟨rfl, rfl⟩ := hy
    exact body i _ hi e Qe Qn fun y H3 e3 r => he y H3 e3 r rfl
  · rw [idx_all] at hr
    have hl := hr.1
    rw [List.length_range] at hl
    refine k H' D ys e hD hd hl.symm fun i y hy => hr.2 i i y ?_ hy
    rw [List.getElem?_range (by have := (List.getElem?_eq_some_iff.mp hy).1; omega)]
end
section
variable {P : Program} {w : World} {K : PySem.W.Frag} {mg : Str → Option Value} {base : Heap} {f : Addr} {fd : FuncData}
abbrev sKinds : Stmt := top 27
theorem scKinds : FnScope ["_law_size", "_law_found", "_law_waits", "_law_kind_here", "_law_left", "_law_most", "_law_number"] ["_law_size"] (defScope sKinds) := ⟨rfl, rfl, rfl, by decide +kernel, rfl, by decide +kernel, by decide +kernel⟩
def spKinds (K : PySem.W.Frag) : Sp := fun vs H Q _ => ∃ size : Nat, vs = [.int (size : Int)] ∧ size ≤ 12 ∧
  ∀ H' F fs, Ext H H' → H F = none → H' F = some (.lst fs) → fs ≠ [] → fs.length ≤ 4096 → (∀ f ∈ fs, KT K size H' f) → Q (.ref F) H'
def PvK (K : PySem.W.Frag) (size : Nat) (F W : Addr) (H0 : Hp) (m : Nat) : L2.St → Hp → Prop := fun σ H => ∃ (fs : List V) (ps : List (V × Nat)) (x y z : Option V),
  σ = [some (.int (size : Int)), some (.ref F), some (.ref W), x, y, z, none] ∧ m = (ps.map fun p => 2 ^ p.2).sum ∧ H F = some (.lst fs) ∧ H W = some (.lst (ps.map (·.1))) ∧ (∀ f ∈ fs, KT K size H f) ∧ (∀ p ∈ ps, WT K size H p.2 p.1) ∧
  fs.length + (ps.map fun p => 2 ^ p.2).sum ≤ 2 ^ size ∧ (fs ≠ [] ∨ ps ≠ []) ∧ (∀ b o, b ≠ F → b ≠ W → H0 b = some o → H b = some o)
theorem sh_row (ns : List Int) : SeqAt.shaped (.tuple (pdata ns)) = true := by
  have d : ∀ ns : List Int, PyData.depthAll (pdata ns) = 0 := fun ns => by
    induction ns with
    | nil => simp [pdata, PyData.depthAll]
    | cons n r ih =>
      unfold pdata at ih ⊢
      simp [PyData.depthAll, PyData.depth, ih]
  unfold SeqAt.shaped
  simp [PyData.canLay0, play, PyData.depth, d]
theorem g_seqP {i j : Nat} {ta : TA} {D : Ends} {σ : L2.St} {H : Hp} (k : ta σ H fun vs H1 => ∃ v w, vs = [v, w] ∧ D.nx ((σ.set i (some v)).set j (some w)) H1) : tPar i j ta D σ H := k
theorem ok_kinds (F : Fun K "_law_kinds" "_law_kinds" sKinds f fd) (T : Txt K mg) : FnOk P w K mg base CX0 1 f fd ["_law_size"] (spKinds K) := by
  refine F.ok scKinds (fun vs H Q E h => ?_) (fun cdv A outer s H vs Q E hr h => ?_)
  · obtain ⟨size, rfl, _⟩ := h
    rfl
  · obtain ⟨size, rfl, hsz, k⟩ := h
    refine ⟨_, pss_cons (ps_par (i := 1) (j := 2) (by rfl) scKinds.nd rfl rfl (by decide) rfl rfl (pa_cons (pe_lst pa_nil) (pa_cons (pe_lst (pa_cons (pe_tup (pa_cons (pe_tupX pa_nil) (pa_cons (pv 0) pa_nil))) pa_nil)) pa_nil)) (by rfl))
      (pss_cons (ps_while PassesOwn.never (pt_cmpR (op_neNil (Nat.lt_of_le_of_lt (Nat.le_add_right _ _) (lt66 hr))) (pv 2) (pe_lst pa_nil) (nomark _)) (pss_cons (ps_asg (pe_bm0 PySem.F.plainAttrs_list PySem.F.slot_list_pop PySem.F.type_list_pop mt_pop (pv 2)) (pg_tup rfl (pgs_cons (pg_name (i := 3) scKinds.nd rfl (Or.inr rfl)) (pgs_cons (pg_name (i := 4) scKinds.nd rfl (Or.inr rfl)) pgs_nil))))
      (pss_one (ps_if (pt_cmpR op_eq (pv 4) pe_int (nomark _)) (pss_one (ps_expr (pe_bm PySem.F.plainAttrs_list PySem.F.slot_list_append PySem.F.type_list_append mt_append (pv 1) (pa_cons (pv 3) pa_nil)))) (pss_cons (ps_set (i := 5) scKinds.nd rfl (Or.inl rfl) (pe_ifExp (pt_cmpR (op_neD hr.units) (pv 3) (pe_tupX pa_nil) (nomark _)) (pe_callB (call_min2 rfl) (by rfl) T.min (by decide +kernel) (pa_cons (pv 4) (pa_cons (pe_ix ix_tup (pv 3) (pe_un un_neg pe_int) (fun _ _ => rfl)) pa_nil))) (pv 4)))
      (pss_one (ps_expr (pe_bm PySem.F.plainAttrs_list PySem.F.slot_list_extend PySem.F.type_list_extend mt_extend (pv 2) (pa_cons (pe_lc (own := [("_law_number", 6)]) (g := gName 6) (tt := tYes) rfl scKinds.nd (pi_range2 (by rfl) T.range (pa_cons pe_int (pa_cons (pe_op op_add (pv 5) pe_int) pa_nil))) (blkOk_by (N := ["_law_size", "_law_found", "_law_waits", "_law_kind_here", "_law_left", "_law_most", "_law_number"]) (sc := defScope sKinds) (by decide +kernel)) (fun _ _ _ _ _ => pg_name (i := 6) scKinds.nd rfl (Or.inl rfl)) (fun _ _ _ _ _ => pts_nil) (fun _ _ _ _ _ => by exact (pe_tup (pa_cons (pe_op (r := rCatX K) op_catX (pv 3) (pe_tupX (pa_cons (pv 6) pa_nil))) (pa_cons (pe_op op_sub (pv 4) (pv 6)) pa_nil))))) pa_nil)))))))))
      (pss_one (ps_ret (pv 1)))), ?_⟩
    try dsimp only [cx_nox, cx_K]
    refine g_seqP ?_
    walk_at "rd"
    refine ⟨Nat.zero_le _, fun Fa hFa => ?_⟩
    walk_at "rd"
    refine g_tupX ?_
    walk_at "rd"
    refine ⟨Nat.zero_le _, fun a o ha ho => ?_⟩
    walk_at "rd"
    refine ⟨by show 2 ≤ sizeLine; decide, fun b hb => ?_⟩
    walk_at "rd"
    refine ⟨by show 1 ≤ sizeLine; decide, fun Wa hWa => ?_⟩
    walk_at "rd"
    refine ⟨_, _, rfl, ?_⟩
    have e1 : Ext H (upd H Fa (.lst [])) := Ext.new hFa
    have e2 := Ext.new (o := HO.frz o (.tup [])) ha
    have e3 := Ext.new (o := HO.tup [V.ref a, V.int (size : Int)]) hb
    have e4 := Ext.new (o := HO.lst [V.ref b]) hWa
    have t1 : TupX K (upd (upd H Fa (.lst [])) a (.frz o (.tup []))) a (([] : List Int).map V.int) := TupX.new ho
    have t2 := (t1.ext e3).ext e4
    have b2 := e4 _ _ (upd_same : upd (upd (upd H Fa (.lst [])) a (.frz o (.tup []))) b (HO.tup [V.ref a, V.int (size : Int)]) b = _)
    have f2 := e4 _ _ (e3 _ _ (e2 _ _ (upd_same : upd H Fa (.lst []) Fa = _)))
    have w2 : upd (upd (upd (upd H Fa (.lst [])) a (.frz o (.tup []))) b (HO.tup [V.ref a, V.int (size : Int)])) Wa (HO.lst [V.ref b]) Wa = some (.lst [V.ref b]) := upd_same
    have eall := Ext.trans e1 (Ext.trans e2 (Ext.trans e3 e4))
    have nFW : Fa ≠ Wa := ne_of_none (e3 _ _ (e2 _ _ (upd_same : upd H Fa (.lst []) Fa = _))) hWa
    have hW0 : H Wa = none := new_up (Ext.trans e1 (Ext.trans e2 e3)) hWa
    generalize upd (upd (upd (upd H Fa (.lst [])) a (.frz o (.tup []))) b (HO.tup [V.ref a, V.int (size : Int)])) Wa (HO.lst [V.ref b]) = H1 at t2 b2 f2 w2 eall ⊢
    walk_at "rd"
    refine ⟨PvK K size Fa Wa H, ⟨_, [], [(.ref b, size)], none, none, none, rfl, rfl, f2, w2, nofun, fun p hp => ?_, ?_, .inr (by simp), fun c u _ _ q => eall c u q⟩, ?_⟩
    · rw [List.mem_singleton.mp hp]
      exact ⟨b, a, [], rfl, b2, t2, fall_nil, by simp⟩
    · simp
    rintro m σ1 H2 ⟨fs, ps, x, y, z, rfl, rfl, hF, hW, hf, hw, hs, hne, hk⟩
    walk_at "rd"
    refine ⟨Nat.zero_le _, fun e he => ?_⟩
    walk_at "rd"
    have ee := Ext.new (o := HO.lst []) he
    refine ⟨Wa, e, _, rfl, rfl, SqL.of (ee _ _ hW), SqL.of upd_same, ?_⟩
    have hF3 := ee _ _ hF
    have hW3 := ee _ _ hW
    have hk3 : ∀ c u, c ≠ Fa → c ≠ Wa → H c = some u → upd H2 e (.lst []) c = some u := fun c u n1 n2 q => ee _ _ (hk c u n1 n2 q)
    have hf3 := fun f hf0 => (hf f hf0).keeps (Keeps.of ee)
    have hw3 := fun p hp => (hw p hp).keeps (Keeps.of ee)
    generalize upd H2 e (.lst []) = H3 at hF3 hW3 hk3 hf3 hw3 ⊢
    have hs12 : 2 ^ size ≤ 2 ^ 12 := Nat.pow_le_pow_right (by omega) hsz
    walk_at "rd"
    rcases List.eq_nil_or_concat ps with rfl | ⟨qs, ⟨v, l⟩, rfl⟩
    · refine iteF ?_
      walk_at "rd"
      refine k H3 Fa fs (fun c u q => hk3 c u (ne_of_none q hFa) (ne_of_none q hW0) q) hFa hF3 (hne.resolve_right (fun h => h rfl)) ?_ hf3
      have : (([] : List (V × Nat)).map fun p => 2 ^ p.2).sum = 0 := rfl
      rw [this] at hs
      have : (2 : Nat) ^ 12 = 4096 := by decide
      omega
    have hw0 := hw3 (v, l) (by simp)
    obtain ⟨b, a, ns, hv, hb, ht, hfl, hsum⟩ := hw0
    have hv : v = .ref b := hv
    subst hv
    have hb : H3 b = some (.tup [.ref a, .int (l : Int)]) := hb
    have hsum : ns.sum + (l : Int) = (size : Int) := hsum
    have nem : (!(((qs.concat (V.ref b, l)).map fun x => x.1).isEmpty)) = true := by
      rw [List.concat_eq_append, List.map_append]
      cases qs <;> rfl
    rw [nem]
    refine iteT ?_
    have esum : ((qs.concat (V.ref b, l)).map fun p => 2 ^ p.2).sum = (qs.map fun p => 2 ^ p.2).sum + 2 ^ l := by
      rw [List.concat_eq_append, List.map_append, List.sum_append]
      simp
    rw [esum] at hs ⊢
    have emap : (qs.concat (V.ref b, l)).map (fun x => x.1) = qs.map (fun x => x.1) ++ [.ref b] := by
      rw [List.concat_eq_append, List.map_append]
      rfl
    rw [emap] at hW3
    refine ⟨fun σ' H' => ∃ m', m' < (qs.map fun p => 2 ^ p.2).sum + 2 ^ l ∧ PvK K size Fa Wa H m' σ' H', fun _ _ q => q, ?_⟩
    walk_at "rd"
    refine ⟨.inl ⟨rfl, _, SqL.of hW3⟩, Wa, _, .ref b, rfl, rfl, hW3, by simp, ?_⟩
    rw [List.dropLast_concat]
    have kW := Keeps.up (ys := qs.map (fun x => x.1)) hW3
    have hF4 : upd H3 Wa (.lst (qs.map fun x => x.1)) Fa = some (.lst fs) := by
      rw [upd_ne nFW]
      exact hF3
    have hW4 : upd H3 Wa (.lst (qs.map fun x => x.1)) Wa = some (.lst (qs.map fun x => x.1)) := upd_same
    have hk4 : ∀ c u, c ≠ Fa → c ≠ Wa → H c = some u → upd H3 Wa (.lst (qs.map fun x => x.1)) c = some u := fun c u n1 n2 q => by
      rw [upd_ne n2]
      exact hk3 c u n1 n2 q
    have hf4 := fun f hf0 => (hf3 f hf0).keeps kW
    have hw4 : ∀ p ∈ qs, WT K size (upd H3 Wa (.lst (qs.map fun x => x.1))) p.2 p.1 := fun p hp => (hw3 p (by simp [hp])).keeps kW
    have hb4 := kW _ _ (fun _ z => by cases z) hb
    have ht4 := TupX.keeps kW ht
    generalize upd H3 Wa (.lst (qs.map fun x => x.1)) = H4 at hF4 hW4 hk4 hf4 hw4 hb4 ht4 ⊢
    refine ⟨b, _, rfl, SqT.of hb4, rfl, _, _, rfl, ?_⟩
    refine ⟨_, _, rfl, rfl, ?_⟩
    walk_at "rd"
    refine ite2 (fun hl => ?_) (fun hl => ?_)
    · have hl0 : l = 0 := by
        have := of_decide_eq_true hl
        omega
      subst hl0
      walk_at "rd"
      refine ⟨.inl ⟨rfl, _, SqL.of hF4⟩, ?_⟩
      walk_at "rd"
      have hlen := len_pow (qs.map fun p => p.2)
      rw [List.map_map, List.length_map] at hlen
      have h1 : (2 : Nat) ^ 0 = 1 := rfl
      refine ⟨Fa, fs, .ref a, rfl, rfl, hF4, by have : (4096 : Nat) < sizeLine := by decide
                                                have : (2 : Nat) ^ 12 = 4096 := by decide
                                                omega, ?_⟩
      have kF := Keeps.up (ys := fs ++ [.ref a]) hF4
      refine ⟨(qs.map fun p => 2 ^ p.2).sum, by omega, fs ++ [.ref a], qs, _, _, _, rfl, rfl, upd_same, ?_, fun f0 hf0 => ?_, fun p hp => (hw4 p hp).keeps kF, ?_, .inl (by simp), fun c u n1 n2 q => ?_⟩
      · rw [upd_ne (Ne.symm nFW)]
        exact hW4
      · rcases List.mem_append.mp hf0 with q | q
        · exact (hf4 f0 q).keeps kF
        · rw [List.mem_singleton.mp q]
          exact ⟨a, ns, rfl, TupX.keeps kF ht4, hfl, by omega⟩
      · rw [List.length_append, List.length_singleton]
        omega
      · rw [upd_ne n1]
        exact hk4 c u n1 n2 q
    · have hl0 : l ≠ 0 := fun z => hl (decide_eq_true (by rw [z]; rfl))
      walk_at "rd"
      refine g_tupX ?_
      walk_at "rd"
      refine ⟨Nat.zero_le _, fun u o2 hu ho2 => ?_⟩
      have e5 := Ext.new (o := HO.frz o2 (.tup [])) hu
      refine ⟨_, _, .tup (ht4.ext e5).sq (pdp ns), .tup (xs := ([] : List Int).map V.int) (TupX.new ho2).sq (pdp []), sh_row ns, sh_row [], ?_⟩
      have ene : PyData.eqv (.tuple (pdata ns)) (.tuple (pdata [])) = decide (ns = []) := by
        simp only [PyData.eqv, peqv]
      rw [ene]
      have hF5 := e5 _ _ hF4
      have hW5 := e5 _ _ hW4
      have hk5 : ∀ c v, c ≠ Fa → c ≠ Wa → H c = some v → upd H4 u (HO.frz o2 (.tup [])) c = some v := fun c v n1 n2 q => e5 _ _ (hk4 c v n1 n2 q)
      have hf5 := fun f0 hf0 => (hf4 f0 hf0).keeps (Keeps.of e5)
      have hw5 := fun p hp => (hw4 p hp).keeps (Keeps.of e5)
      have ht5 := ht4.ext e5
      generalize upd H4 u (HO.frz o2 (.tup [])) = H5 at hF5 hW5 hk5 hf5 hw5 ht5 ⊢
      obtain ⟨mo, m1, m2, m3, m4⟩ : ∃ mo : Nat, 1 ≤ mo ∧ mo ≤ l ∧ (ns ≠ [] → (mo : Int) ≤ ns.getD (ns.length - 1) 0) ∧ (mo : Int) = if ns = [] then (l : Int) else if ns.getD (ns.length - 1) 0 < (l : Int) then ns.getD (ns.length - 1) 0 else (l : Int) := by
        by_cases hn : ns = []
        · exact ⟨l, by omega, Nat.le_refl _, fun h => absurd hn h, by rw [if_pos hn]⟩
        · have hp := hfl.pos _ (getD_mem (i := ns.length - 1) (by have := List.length_pos_iff.mpr hn; omega))
          by_cases hc : ns.getD (ns.length - 1) 0 < (l : Int)
          · exact ⟨(ns.getD (ns.length - 1) 0).toNat, by omega, by omega, fun _ => by omega, by rw [if_neg hn, if_pos hc]; omega⟩
          · exact ⟨l, by omega, Nat.le_refl _, fun _ => by omega, by rw [if_neg hn, if_neg hc]⟩
      walk_at "rd"
      refine g_ifV (.int (mo : Int)) (fun h1 Q' q => ?_) (fun h1 Q' q => ?_) ?_
      · have hn : ns ≠ [] := fun z => by simp [z] at h1
        rw [if_neg hn] at m4
        walk_at "rd"
        refine g_ixT (v := .int (ns.getD (ns.length - 1) 0)) ht5.sq ?_ ?_
        · have hlen := List.length_pos_iff.mpr hn
          unfold atI ixN
          rw [List.length_map, if_neg (by decide), if_pos (by omega)]
          have : ((-1 : Int) + (ns.length : Int)).toNat = ns.length - 1 := by omega
          show (ns.map V.int)[((-1 : Int) + (ns.length : Int)).toNat]? = _
          rw [this]
          exact getI (by omega)
        · refine ⟨_, _, rfl, ?_⟩
          rw [← m4]
          exact q
      · have hn : ns = [] := by simpa using h1
        rw [if_pos hn] at m4
        walk_at "rd"
        rw [← m4]
        exact q
      walk_at "rd"
      refine ⟨.inl ⟨rfl, _, SqL.of hW5⟩, ?_⟩
      walk_at "rd"
      refine g_lc (g_rng2 ?_)
      walk_at "rd"
      have hl13 : (l : Int) ≤ 12 := by
        have := hfl.sum0
        omega
      refine ⟨⟨by decide, by decide, by omega, by omega⟩, ?_⟩
      have en : ((mo : Int) + 1 - 1).toNat = mo := by omega
      rw [en]
      refine lcRR (small (by omega)) (fun i y H => WT K size H (l - (i + 1)) y) (fun i y H H' e r => r.keeps e) (fun i H6 hi e6 Qe Qn he => ?_) (fun H6 D ys e6 hD hd hyl hyr => ?_)
      · refine ⟨rfl, ?_⟩
        walk_at "rd"
        refine g_tupX ?_
        walk_at "rd"
        refine ⟨by show 1 ≤ sizeLine; decide, fun c o3 hc ho3 => ?_⟩
        have e7 := Ext.new (o := HO.frz o3 (.tup [V.int (1 + (i : Int))])) hc
        have hfl' : Fall (ns ++ [1 + (i : Int)]) := fall_snoc hfl (by omega) (by omega) (fun hn => by have := m3 hn; omega)
        refine ⟨a, c, ns.map V.int, [V.int (1 + (i : Int))], rfl, rfl, (ht5.ext e6).ext e7, TupX.new ho3, ?_, fun H8 p e8 hp => ?_⟩
        · have := hfl'.len
          rw [List.length_append, List.length_singleton] at this
          rw [List.length_map, List.length_singleton]
          exact Nat.le_of_lt (small (by omega))
        walk_at "rd"
        refine ⟨by show 2 ≤ sizeLine; decide, fun q hq => ?_⟩
        have e9 := Ext.new (o := HO.tup [V.ref p, V.int ((l : Int) - (1 + (i : Int)))]) hq
        refine he _ _ (Ext.trans e7 (Ext.trans e8 e9)) ⟨q, p, ns ++ [1 + (i : Int)], rfl, ?_, ?_, hfl', ?_⟩
        · rw [upd_same]
          have : (l : Int) - (1 + (i : Int)) = ((l - (i + 1) : Nat) : Int) := by omega
          rw [this]
        · rw [List.map_append]
          exact hp.ext e9
        · rw [List.sum_append]
          have : [1 + (i : Int)].sum = 1 + (i : Int) := by simp
          rw [this]
          omega
      · walk_at "rd"
        have hlen := len_pow (qs.map fun p => p.2)
        rw [List.map_map, List.length_map] at hlen
        have hlen' : qs.length ≤ (qs.map fun p => 2 ^ p.2).sum := hlen
        have h12 : (2 : Nat) ^ 12 = 4096 := by decide
        refine ⟨Wa, D, _, ys, rfl, rfl, e6 _ _ hW5, hd, ?_, ?_⟩
        · rw [List.length_map, hyl]
          have : (5000 : Nat) < sizeLine := by decide
          have := Nat.one_le_two_pow (n := l)
          omega
        have kX := Keeps.up (ys := qs.map (fun x => x.1) ++ ys) (e6 _ _ hW5)
        have ksum := geo2 l mo m2
        have kpos := Nat.one_le_two_pow (n := l - mo)
        have ecs : (((List.range mo).map fun i => (ys.getD i V.non, l - (i + 1))).map fun p => 2 ^ p.2).sum = ((List.range mo).map fun i => 2 ^ (l - (i + 1))).sum := by
          rw [List.map_map]
          rfl
        have efs : ((List.range mo).map fun i => (ys.getD i V.non, l - (i + 1))).map (fun p => p.1) = ys := by
          rw [List.map_map]
          refine List.ext_getElem? fun j => ?_
          rw [List.getElem?_map]
          by_cases hj : j < mo
          · rw [List.getElem?_range hj]
            show some (ys.getD j V.non) = _
            rw [List.getD_eq_getElem?_getD, List.getElem?_eq_getElem (by omega)]
            rfl
          · rw [List.getElem?_eq_none (by rw [List.length_range]; omega), List.getElem?_eq_none (by omega)]
            rfl
        refine ⟨((qs ++ (List.range mo).map fun i => (ys.getD i V.non, l - (i + 1))).map fun p => 2 ^ p.2).sum, ?_, fs, qs ++ (List.range mo).map fun i => (ys.getD i V.non, l - (i + 1)), _, _, _, rfl, rfl, ?_, ?_, fun f0 hf0 => ((hf5 f0 hf0).keeps (Keeps.of e6)).keeps kX, fun p hp => ?_, ?_, .inr ?_, fun c v n1 n2 q => ?_⟩
        · rw [List.map_append, List.sum_append, ecs]
          omega
        · rw [upd_ne nFW]
          exact e6 _ _ hF5
        · rw [upd_same, List.map_append, efs]
        · rcases List.mem_append.mp hp with q | q
          · exact ((hw5 p q).keeps (Keeps.of e6)).keeps kX
          · obtain ⟨i, hi, rfl⟩ := List.mem_map.mp q
            have hi' : i < ys.length := by rw [hyl]; exact List.mem_range.mp hi
            have := hyr i ys[i] (List.getElem?_eq_getElem hi')
            have eg : ys.getD i V.non = ys[i] := by
              rw [List.getD_eq_getElem?_getD, List.getElem?_eq_getElem hi']
              rfl
            show WT K size _ (l - (i + 1)) (ys.getD i V.non)
            rw [eg]
            exact this.keeps kX
        · rw [List.map_append, List.sum_append, ecs]
          omega
        · intro hnil
          have := congrArg List.length hnil
          rw [List.length_append, List.length_map, List.length_range] at this
          simp at this
          omega
        · rw [upd_ne n2]
          exact e6 _ _ (hk5 c v n1 n2 q)
end
end

/-! A drawn kind. -/

section
open PySem PySem.Spec PyProof.Rows L2 Gd
section
variable {P : Program} {w : World} {K : PySem.W.Frag} {mg : Str → Option Value} {base : Heap} {f : Addr} {fd : FuncData}
/-! ### a drawn kind -/
abbrev sKind : Stmt := top 28
theorem scKind : FnScope ["_law_dice_here", "_law_most"] ["_law_dice_here", "_law_most"] (defScope sKind) := ⟨rfl, rfl, rfl, by decide +kernel, rfl, by decide +kernel, by decide +kernel⟩
def spKind (K : PySem.W.Frag) : Sp := fun vs H Q _ => ∃ (d : Addr) (most : Int), vs = [.ref d, .int most] ∧ DiceAt H d ∧ 0 ≤ most ∧ most ≤ 12 ∧
  ∀ H' a ns, ExtBut d H H' → DiceAt H' d → TupX K H' a (ns.map V.int) → Fall ns → ns.sum ≤ most → Q (.ref a) H'
theorem ok_kind (F : Fun K "_law_kind" "_law_kind" sKind f fd) (Ro : Def1 P w K mg base CX0 1 "_law_roll" ["_law_dice_here", "_law_total"] spRoll) (Ks : Def1 P w K mg base CX0 1 "_law_kinds" ["_law_size"] (spKinds K))
    (Pi : Def1 P w K mg base CX0 2 "_law_pick" ["_law_dice_here", "_law_items"] (spPick K)) : FnOk P w K mg base CX0 3 f fd ["_law_dice_here", "_law_most"] (spKind K) := by
  refine F.ok scKind (fun vs H Q E h => ?_) (fun cdv A outer s H vs Q E hr h => ?_)
  · obtain ⟨d, most, rfl, _⟩ := h
    rfl
  · obtain ⟨d, most, rfl, hd, h0, h1, k⟩ := h
    refine ⟨_, pss_one (ps_ret (pe_def Pi hr (by decide) (by rfl) (pa_cons (pv 0) (pa_cons (pe_def Ks hr (by decide) (by rfl) (pa_cons (pe_def Ro hr (by decide) (by rfl) (pa_cons (pv 0) (pa_cons (pe_op op_add (pv 1) pe_int) pa_nil))) pa_nil)) pa_nil)))), ?_⟩
    try dsimp only [cx_nox, cx_K]
    walk_at "rd"
    have big : (13 : Int) < 2 ^ 1000 := by decide +kernel
    refine ⟨d, most + 1, rfl, hd, by omega, by omega, fun H1 r e1 d1 r0 r1 => ?_⟩
    walk_at "rd"
    have er : r = (r.toNat : Int) := by omega
    refine ⟨r.toNat, (by rw [← er]; rfl), by omega, fun H2 Fa fs e2 hFa hF hne hl hf => ?_⟩
    walk_at "rd"
    have hlen := List.length_pos_iff.mpr hne
    refine ⟨d, Fa, fs, rfl, d1.ext e2, SqL.of hF, dice_none d1 hFa, hlen, by omega, fun H3 x e3 d3 hx => ?_⟩
    obtain ⟨a, ns, rfl, ht, hfl, hs⟩ := hf x hx
    obtain ⟨q1, q2, q3, hdq, _⟩ := d1.ext e2
    have ht3 := TupX.keeps (keeps_but (.inr hdq) e3) ht
    exact k H3 a ns (ExtBut.trans e1 (ExtBut.trans (ExtBut.of e2) e3)) d3 ht3 hfl (by omega)
end
end

/-! Zips of tuples of integers. -/

section
open PySem PySem.Spec PyProof.Rows L2 Gd
theorem smallH {n : Nat} (h : n ≤ 1000) : n ≤ sizeLine := Nat.le_trans h (by show 1000 ≤ sizeLine; decide)
def lift2 (g : Int → Int → V) : V → V → V := fun x y => match x, y with
  | .int a, .int b => g a b
  | _, _ => .non
def lift2b (c : Int → Int → Bool) : V → V → Bool := fun x y => match x, y with
  | .int a, .int b => c a b
  | _, _ => false
theorem zip_lift (c : Int → Int → Bool) (g : Int → Int → V) : ∀ xs ys : List Int, (((xs.map V.int).zip (ys.map V.int)).filter fun p => lift2b c p.1 p.2).map (fun p => lift2 g p.1 p.2) = ((xs.zip ys).filter fun q => c q.1 q.2).map fun q => g q.1 q.2
  | [], _ => by simp
  | _ :: _, [] => by simp
  | x :: xs, y :: ys => by
    have ih := zip_lift c g xs ys
    simp only [List.map_cons, List.zip_cons_cons, List.filter_cons]
    have e : lift2b c (V.int x) (V.int y) = c x y := rfl
    rw [e]
    split
    · rw [List.map_cons, List.map_cons, ih]
      rfl
    · exact ih
section
variable {K : PySem.W.Frag} {H1 : Hp} {tt : TT} {te : TE} {vs : List Nat} {σ : L2.St} {Q : VK} {a b : Addr} {i1 i2 : Nat}
/-- over zip of two tuples of integers -/
theorem lcZI {ns ms : List Int} (ha : SqT K H1 a (ns.map V.int)) (hb : SqT K H1 b (ms.map V.int)) (hl : ns.length ≤ 900) (c : Int → Int → Bool) (g : Int → Int → V)
    (body : ∀ (x y : Int) H', (x, y) ∈ ns.zip ms → Ext H1 H' → ∀ (Qe : VK) (Qn : Hp → Prop), (∀ H3, Ext H' H3 → c x y = true → Qe (g x y) H3) → (∀ H3, Ext H' H3 → c x y = false → Qn H3) →
      wipe (((wipe σ vs).set i1 (some (.int x))).set i2 (some (.int y))) vs = wipe σ vs ∧ tt (((wipe σ vs).set i1 (some (.int x))).set i2 (some (.int y))) H' fun b H3 => if b = true then te (((wipe σ vs).set i1 (some (.int x))).set i2 (some (.int y))) H3 Qe else Qn H3)
    (k : ∀ H' D, Ext H1 H' → H1 D = none → H' D = some (.lst (((ns.zip ms).filter fun q => c q.1 q.2).map fun q => g q.1 q.2)) → Q (.ref D) H') :
    ∃ k1 k2 a' b' xs ys, [V.ref a, V.ref b] = [V.ref a', V.ref b'] ∧ SqE K k1 H1 a' xs ∧ SqE K k2 H1 b' ys ∧ LcG (ItzE K k1 k2 a' b') (gTup K 2 (gCons (gName i1) (gCons (gName i2) gNil))) tt te vs σ H1 Q := by
  refine lcZ (l1 := false) (l2 := false) ha hb (small (by simp only [List.length_map]; omega)) (lift2b c) (lift2 g) (fun x y H' hxy e Qe Qn he hn => ?_) (fun H' D e hD hd => ?_)
  · rw [List.zip_map] at hxy
    obtain ⟨⟨n, m⟩, hnm, e1⟩ := List.mem_map.mp hxy
    cases e1
    exact body n m H' hnm e Qe Qn he hn
  · rw [zip_lift] at hd
    exact k H' D e hD hd
end
theorem filter_yes {α : Type} (xs : List α) : (xs.filter fun _ => true) = xs := List.filter_eq_self.mpr fun _ _ => rfl
theorem g_neS1 {H : Hp} {Q : VK} {i j : Int} (e : i = j) (k : Q (.bl false) H) : rNe (.int i) (.int j) H Q := by
  subst e
  exact ⟨rfl, by simpa using k⟩
end

/-! Tuples of integers in the heap; loops and comprehensions over lists and tuples. -/

section
open PySem PySem.Spec PyProof.Rows L2 Gd
/-- a tuple of integers -/
def TR (H : Hp) (f : V) (xs : List Int) : Prop := ∃ b, f = .ref b ∧ H b = some (.tup (xs.map V.int))
abbrev TRs (H : Hp) (fs : List V) (xss : List (List Int)) : Prop := Paired (TR H) fs xss
theorem TR.ext {H H' : Hp} (e : Ext H H') {f : V} {xs : List Int} (h : TR H f xs) : TR H' f xs := by
  obtain ⟨b, rfl, h⟩ := h
  exact ⟨b, rfl, e _ _ h⟩
theorem TR.but {H H' : Hp} {d : Addr} {ys : List V} (hd : H d = none ∨ H d = some (.lst ys)) (e : ExtBut d H H') {f : V} {xs : List Int} (h : TR H f xs) : TR H' f xs := by
  obtain ⟨b, rfl, h⟩ := h
  refine ⟨b, rfl, e _ _ (fun z => ?_) h⟩
  subst z
  rcases hd with hd | hd <;> rw [h] at hd <;> cases hd
theorem TR.sq {K : PySem.W.Frag} {H : Hp} {b : Addr} {xs : List Int} (h : TR H (.ref b) xs) : SqT K H b (xs.map V.int) := by
  obtain ⟨c, e, h⟩ := h
  cases e
  exact .inl (.inl h)
theorem trs_ext {H H' : Hp} (e : Ext H H') {fs : List V} {xss : List (List Int)} (h : TRs H fs xss) : TRs H' fs xss := Paired.mapP h fun _ _ z => TR.ext e z
theorem trs_but {H H' : Hp} {d : Addr} {ys : List V} (hd : H d = none ∨ H d = some (.lst ys)) (e : ExtBut d H H') {fs : List V} {xss : List (List Int)} (h : TRs H fs xss) : TRs H' fs xss := Paired.mapP h fun _ _ z => TR.but hd e z
theorem pair_append {α β : Type} {F : α → β → Prop} : ∀ {a c : List α} {b d : List β}, Paired F a b → Paired F c d → Paired F (a ++ c) (b ++ d)
  | _, _, _, _, .nil, h => h
  | _, _, _, _, .cons h t, h2 => .cons h (pair_append t h2)
theorem pair_at {α β : Type} {F : α → β → Prop} : ∀ {a : List α} {b : List β}, Paired F a b → ∀ (i : Nat) (x : α), a[i]? = some x → ∃ y, b[i]? = some y ∧ F x y
  | _, _, .nil, i, x, e => by simp at e
  | _, _, .cons (b := q) h t, 0, x, e => by
    have e' := Option.some.inj e
    subst e'
    exact ⟨q, rfl, h⟩
  | _, _, .cons h t, i + 1, x, e => pair_at t i x e
theorem pair_of {α β : Type} {F : α → β → Prop} : ∀ {a : List α} {b : List β}, a.length = b.length → (∀ (i : Nat) x y, a[i]? = some x → b[i]? = some y → F x y) → Paired F a b
  | [], [], _, _ => .nil
  | [], _ :: _, h, _ => by simp at h
  | _ :: _, [], h, _ => by simp at h
  | x :: a, y :: b, h, f => .cons (f 0 x y rfl rfl) (pair_of (by simpa using h) fun i x y h1 h2 => f (i + 1) x y h1 h2)
theorem pair_len {α β : Type} {F : α → β → Prop} {a : List α} {b : List β} (h : Paired F a b) : a.length = b.length := Gd.paired_len h
/-- what a loop over J asks -/
abbrev ForG (J : It) (g : TG) (tb : TS) (D : Ends) (σ : L2.St) (H : Hp) : Prop := ∃ W : Nat → Nat → L2.St → Hp → Prop, (∃ m, W 0 m σ H) ∧ ∀ i m σ H, W i m σ H →
      (J.stop i H ∧ D.nx σ H) ∨ (J.go i H ∧ ∃ N : L2.St → Hp → Prop, (∀ σ' H', N σ' H' → ∃ m', m' < m ∧ W (i + 1) m' σ' H') ∧ ∀ x H', J.yld i H x H' → g x σ H' fun σ2 H2 => tb { D with nx := N, ct := N, bk := D.nx } σ2 H2)
theorem g_forT {K : PySem.W.Frag} {te : TE} {g : TG} {tb : TS} {D : Ends} {σ : L2.St} {H : Hp} (k : te σ H fun x H1 => ∃ a, x = .ref a ∧ (∃ xs, SqT K H1 a xs) ∧ ForG (Itt K a) g tb D σ H1) : tFor (iTup K te) g tb D σ H := k
theorem g_forL {K : PySem.W.Frag} {te : TE} {g : TG} {tb : TS} {D : Ends} {σ : L2.St} {H : Hp} (k : te σ H fun x H1 => ∃ a, x = .ref a ∧ (∃ xs, SqL K H1 a xs) ∧ ForG (Itl K a) g tb D σ H1) : tFor (iList K te) g tb D σ H := k
/-- over the items of a tuple -/
theorem forT {K : PySem.W.Frag} {a : Addr} {xs : List V} {g : TG} {tb : TS} {D : Ends} {σ : L2.St} {H : Hp} (hs : SqT K H a xs) (Pv : Nat → L2.St → Hp → Prop) (h0 : Pv 0 σ H) (hG : ∀ i σ H, i ≤ xs.length → Pv i σ H → SqT K H a xs)
    (hb : ∀ i x σ H, xs[i]? = some x → Pv i σ H → g x σ H fun σ2 H2 => tb { D with nx := Pv (i + 1), ct := Pv (i + 1), bk := D.nx } σ2 H2) (hd : ∀ σ H, Pv xs.length σ H → D.nx σ H) :
    ∃ a', V.ref a = .ref a' ∧ (∃ xs, SqT K H a' xs) ∧ ForG (Itt K a') g tb D σ H :=
  ⟨a, rfl, ⟨_, hs⟩, for_it walk_tup Pv h0 hG (fun i x σ H H' _ p y => by obtain ⟨rfl, e⟩ := y; exact hb i x σ _ e p) hd⟩
/-- over the items of a list -/
theorem forL {K : PySem.W.Frag} {a : Addr} {xs : List V} {g : TG} {tb : TS} {D : Ends} {σ : L2.St} {H : Hp} (hs : SqL K H a xs) (Pv : Nat → L2.St → Hp → Prop) (h0 : Pv 0 σ H) (hG : ∀ i σ H, i ≤ xs.length → Pv i σ H → SqL K H a xs)
    (hb : ∀ i x σ H, xs[i]? = some x → Pv i σ H → g x σ H fun σ2 H2 => tb { D with nx := Pv (i + 1), ct := Pv (i + 1), bk := D.nx } σ2 H2) (hd : ∀ σ H, Pv xs.length σ H → D.nx σ H) :
    ∃ a', V.ref a = .ref a' ∧ (∃ xs, SqL K H a' xs) ∧ ForG (Itl K a') g tb D σ H :=
  ⟨a, rfl, ⟨_, hs⟩, for_it walk_list Pv h0 hG (fun i x σ H H' _ p y => by obtain ⟨rfl, e⟩ := y; exact hb i x σ _ e p) hd⟩
/-- a comprehension over a list whose results stand in a relation to the item -/
theorem lcLR {K : PySem.W.Frag} {σ : L2.St} {H1 : Hp} {vs : List Nat} {g : TG} {tt : TT} {te : TE} {Q : VK} {a : Addr} {xs : List V} (hs : SqL K H1 a xs) (sz : xs.length < sizeLine) (R : Nat → V → Hp → Prop) (mono : ∀ i y H H', Keeps H H' → R i y H → R i y H')
    (body : ∀ (i : Nat) x H', xs[i]? = some x → Ext H1 H' → ∀ (Qe : VK) (Qn : Hp → Prop), (∀ y H3, Ext H' H3 → R i y H3 → Qe y H3) →
      g x (wipe σ vs) H' fun σ2 H2 => wipe σ2 vs = wipe σ vs ∧ tt σ2 H2 fun b H3 => if b = true then te σ2 H3 Qe else Qn H3)
    (k : ∀ H' D ys, Ext H1 H' → H1 D = none → H' D = some (.lst ys) → ys.length = xs.length → (∀ i y, ys[i]? = some y → R i y H') → Q (.ref D) H') :
    ∃ a', V.ref a = .ref a' ∧ (∃ xs, SqL K H1 a' xs) ∧ LcG (Itl K a') g tt te vs σ H1 Q := by
  refine ⟨a, rfl, ⟨_, hs⟩, fun D hD => lc_rel walk_list R (fun _ => true) (fun i y D ys H H' hd e r => mono i y H H' (keeps_but hd e) r) hD (fun H' e => sqL_ext e hs) sz (fun i x H' H'' hi e hy Qe Qn he hn => ?_) (fun H' ys e hd hr => ?_)⟩
  · obtain ⟨rfl, hx⟩ := hy
    exact body i x _ hx e Qe Qn fun y H3 e3 r => he y H3 e3 r rfl
  · rw [idx_all] at hr
    have hl := hr.1
    rw [List.length_range] at hl
    refine k H' D ys e hD hd hl.symm fun i y hy => hr.2 i i y ?_ hy
    rw [List.getElem?_range (by have := (List.getElem?_eq_some_iff.mp hy).1; omega)]
theorem g_ilistC {K : PySem.W.Frag} {te : TE} {σ : L2.St} {H : Hp} {R : It → Hp → Prop} (k : te σ H fun x H1 => ∃ a, x = .ref a ∧ (∃ xs, SqL K H1 a xs) ∧ R (Itl K a) H1) : iList K te σ H R := k
theorem TR.keeps {H H' : Hp} (e : Keeps H H') {f : V} {xs : List Int} (h : TR H f xs) : TR H' f xs := by
  obtain ⟨b, rfl, h⟩ := h
  exact ⟨b, rfl, e _ _ (fun _ z => by cases z) h⟩
theorem g_catR {K : PySem.W.Frag} {H : Hp} {Q : VK} {a b : Addr} {xs : List Int} {n : Int} (ha : TR H (.ref a) xs) (hb : H b = some (.tup [.int n])) (hl : xs.length ≤ 900) (k : ∀ H' p, Ext H H' → TR H' (.ref p) (xs ++ [n]) → Q (.ref p) H') : rCatA K (.ref a) (.ref b) H Q := by
  refine ⟨a, b, _, [.int n], rfl, rfl, ha.sq, SqT.of hb, by rw [List.length_map, List.length_singleton]; exact smallH (by omega), fun e => ?_, fun _ e => (by cases e), fun _ _ p hp => ?_⟩
  · have e' : xs = [] := by simpa using e
    subst e'
    exact k H b (fun _ _ z => z) ⟨b, rfl, hb⟩
  · refine k _ p (Ext.new hp) ⟨p, rfl, ?_⟩
    rw [upd_same, List.map_append]
    rfl
end

/-! Items mixed; letters of a kind; the slant. -/

section
open PySem PySem.Spec PyProof.Rows L2 Gd
section
variable {P : Program} {w : World} {K : PySem.W.Frag} {mg : Str → Option Value} {base : Heap} {f : Addr} {fd : FuncData}
theorem none_ofX {H H' : Hp} {r : Addr} (e : Ext H H') (h : H' r = none) : H r = none := by
  cases q : H r with
  | none => rfl
  | some o =>
    have := e _ _ q
    rw [h] at this
    cases this
theorem erase_map {α β : Type} (f : α → β) : ∀ (l : List α) (j : Nat), (l.map f).eraseIdx j = (l.eraseIdx j).map f
  | [], _ => rfl
  | _ :: _, 0 => rfl
  | x :: r, j + 1 => by
    show f x :: (r.map f).eraseIdx j = f x :: (r.eraseIdx j).map f
    rw [erase_map f r j]
theorem erase_perm {α : Type} : ∀ (l : List α) (j : Nat) (h : j < l.length), (l[j] :: l.eraseIdx j).Perm l
  | [], _, h => absurd h (Nat.not_lt_zero _)
  | _ :: _, 0, _ => .refl _
  | x :: r, j + 1, h => by
    have ih := erase_perm r j (Nat.lt_of_succ_lt_succ h)
    show (r[j]'(Nat.lt_of_succ_lt_succ h) :: x :: r.eraseIdx j).Perm (x :: r)
    exact (List.Perm.swap _ _ _).trans (ih.cons x)
theorem seqIndex_nat {j n : Nat} (h : j < n) : seqIndex? (j : Int) n = some j := by
  unfold seqIndex?
  have h0 : ¬ ((j : Int) < 0) := by omega
  simp [h0, h]
abbrev sMixed : Stmt := top 26
theorem scMixed : FnScope ["_law_dice_here", "_law_items", "_law_left", "_law_found", "_law_turn"] ["_law_dice_here", "_law_items"] (defScope sMixed) := ⟨rfl, rfl, rfl, by decide +kernel, rfl, by decide +kernel, by decide +kernel⟩
def spMixed (K : PySem.W.Frag) : Sp := fun vs H Q _ => ∃ (d l : Addr) (ns : List Int), vs = [.ref d, .ref l] ∧ DiceAt H d ∧ SqL K H l (ns.map V.int) ∧ l ≠ d ∧ ns.length ≤ 1000 ∧
  ∀ H' r ms, ExtBut d H H' → DiceAt H' d → H r = none → H' r = some (.lst ((ms : List Int).map V.int)) → ms.Perm ns → Q (.ref r) H'
theorem ok_mixed (F : Fun K "_law_mixed" "_law_mixed" sMixed f fd) (T : Txt K mg) (Ro : Def1 P w K mg base CX0 1 "_law_roll" ["_law_dice_here", "_law_total"] spRoll) : FnOk P w K mg base CX0 2 f fd ["_law_dice_here", "_law_items"] (spMixed K) := by
  refine F.ok scMixed (fun vs H Q E h => ?_) (fun cdv A outer s H vs Q E hr h => ?_)
  · obtain ⟨d, l, ns, rfl, _⟩ := h
    rfl
  · obtain ⟨d, l, ns, rfl, hd, hs, hld, hl, k⟩ := h
    refine ⟨_, pss_cons (ps_par (i := 2) (j := 3) (by rfl) scMixed.nd rfl rfl (by decide) rfl rfl (pa_cons (pe_callTy call_list_of (by rfl) T.list (by decide +kernel) (pa_cons (pv 1) pa_nil)) (pa_cons (pe_lst pa_nil) pa_nil)) (by rfl))
      (pss_cons (ps_for PassesOwn.never rfl (pi_range1 (by rfl) T.range (pa_cons (pe_callB call_len_seq (by rfl) T.len PySem.boot_len (pa_cons (pv 1) pa_nil)) pa_nil)) (pg_name (i := 4) scMixed.nd rfl (Or.inl rfl)) (pss_one (ps_expr (pe_bm PySem.F.plainAttrs_list PySem.F.slot_list_append PySem.F.type_list_append mt_append (pv 3) (pa_cons (pe_bm PySem.F.plainAttrs_list PySem.F.slot_list_pop PySem.F.type_list_pop mt_popAt (pv 2) (pa_cons (pe_def Ro hr (by decide) (by rfl) (pa_cons (pv 0) (pa_cons (pe_callB call_len_seq (by rfl) T.len PySem.boot_len (pa_cons (pv 2) pa_nil)) pa_nil))) pa_nil)) pa_nil)))))
      (pss_one (ps_ret (pv 3)))), ?_⟩
    try dsimp only [cx_nox, cx_K]
    have sz : (100000 : Nat) < sizeLine := by decide
    walk_at "rd"
    refine g_par ?_
    walk_at "rd"
    refine ⟨l, _, rfl, .inl hs, fun a na => ?_⟩
    walk_at "rd"
    refine ⟨Nat.zero_le _, fun b nb => ?_⟩
    walk_at "rd"
    refine ⟨_, _, rfl, ?_⟩
    dsimp only
    have ea := Ext.new (o := HO.lst (ns.map V.int)) na
    have eb := Ext.new (o := HO.lst []) nb
    have nab : a ≠ b := fun z => by
      rw [← z, upd_same] at nb
      cases nb
    have nad := dice_none hd na
    have nbd := dice_none (hd.ext ea) nb
    have hs2 := sqL_ext eb (sqL_ext ea hs)
    have hd2 := (hd.ext ea).ext eb
    have ha2 : upd (upd H a (.lst (ns.map V.int))) b (.lst []) a = some (.lst (ns.map V.int)) := eb _ _ upd_same
    have hb2 : upd (upd H a (.lst (ns.map V.int))) b (.lst []) b = some (.lst []) := upd_same
    have e2 := Ext.trans ea eb
    have hbn : H b = none := none_ofX ea nb
    generalize upd (upd H a (.lst (ns.map V.int))) b (.lst []) = G at hs2 hd2 ha2 hb2 e2
    refine g_seq (g_forR ?_)
    walk_at "rd"
    refine ⟨l, _, rfl, .inl hs2, ?_⟩
    walk_at "rd"
    rw [List.length_map]
    refine ⟨by omega, by omega, ?_⟩
    refine for_range (fun i σ H' => ∃ (x : Option V) (ls ms : List Int), σ = [some (.ref d), some (.ref l), some (.ref a), some (.ref b), x] ∧ H' a = some (.lst (ls.map V.int)) ∧ H' b = some (.lst (ms.map V.int)) ∧ ls.length + i = ns.length ∧ (ms ++ ls).Perm ns ∧ DiceAt H' d ∧ ∀ c o, c ≠ d → H c = some o → H' c = some o) ⟨_, ns, [], rfl, ha2, hb2, rfl, .refl _, hd2, fun c o _ h => e2 c o h⟩ ?_ ?_
    · rintro i σ H2 hi ⟨x, ls, ms, rfl, ha, hb, hlen, hp, hd3, ke⟩
      have hi2 : i < ns.length := by
        revert hi
        rw [Int.toNat_natCast]
        exact id
      walk_at "rd"
      refine ⟨.inl ⟨rfl, _, SqL.of hb⟩, ?_⟩
      walk_at "rd"
      refine ⟨.inl ⟨rfl, _, SqL.of ha⟩, ?_⟩
      walk_at "rd"
      refine ⟨a, _, rfl, .inl (SqL.of ha), ?_⟩
      walk_at "rd"
      rw [List.length_map]
      refine ⟨d, (ls.length : Int), rfl, hd3, by omega, by omega, fun H3 z b3 hd4 z0 z1 => ?_⟩
      walk_at "rd"
      obtain ⟨j, rfl⟩ : ∃ j : Nat, z = (j : Int) := ⟨z.toNat, by omega⟩
      have hj : j < ls.length := by omega
      have ha3 := b3 _ _ nad ha
      have hb3 := b3 _ _ nbd hb
      refine ⟨a, _, (j : Int), j, V.int ls[j], rfl, rfl, ha3, by omega, by omega, ?_, by rw [List.getElem?_map, List.getElem?_eq_getElem hj]; rfl, ?_⟩
      · rw [List.length_map]
        exact seqIndex_nat hj
      walk_at "rd"
      have hb4 : upd H3 a (.lst ((ls.map V.int).eraseIdx j)) b = some (.lst (ms.map V.int)) := by rw [upd_ne (fun z => nab z.symm)]; exact hb3
      refine ⟨b, _, _, rfl, rfl, hb4, by rw [List.length_map]; have := hp.length_eq; rw [List.length_append] at this; omega, ?_⟩
      refine ⟨_, ls.eraseIdx j, ms ++ [ls[j]], rfl, ?_, ?_, ?_, ?_, ?_, fun c o hc q => ?_⟩
      · rw [upd_ne nab, upd_same, erase_map]
      · rw [upd_same, List.map_append]
        rfl
      · rw [List.length_eraseIdx, if_pos hj]
        omega
      · refine List.Perm.trans ?_ hp
        rw [List.append_assoc]
        refine List.Perm.append_left ms ?_
        exact erase_perm ls j hj
      · obtain ⟨x1, x2, x3, g, r⟩ := hd4
        exact ⟨x1, x2, x3, by rw [upd_ne (fun z => nbd z.symm), upd_ne (fun z => nad z.symm)]; exact g, r⟩
      · rw [upd_ne (fun z => by rw [z, hbn] at q; cases q), upd_ne (fun z => by rw [z, na] at q; cases q)]
        exact b3 _ _ hc (ke c o hc q)
    · rintro σ H2 ⟨x, ls, ms, rfl, ha, hb, hlen, hp, hd3, ke⟩
      walk_at "rd"
      have h0 : ls = [] := List.length_eq_zero_iff.mp (by
        rw [Int.toNat_natCast] at hlen
        omega)
      subst h0
      rw [List.append_nil] at hp
      exact k H2 b ms (fun c o hc q => ke c o hc q) hd3 hbn hb hp
end
end

/-! Letters of a kind; the slant; which letter is too often. -/

section
open PySem PySem.Spec PyProof.Rows L2 Gd
/-- the letters of the first n rows -/
def lets (ns : List Int) (n : Nat) : List Int := (List.range n).flatMap fun i => List.replicate (ns.getD i 0).toNat ((i : Int) + 1)
theorem lets_succ (ns : List Int) (n : Nat) : lets ns (n + 1) = lets ns n ++ List.replicate (ns.getD n 0).toNat ((n : Int) + 1) := by
  unfold lets
  rw [List.range_succ, List.flatMap_append]
  simp
theorem lets_len (ns : List Int) : ∀ n, (lets ns n).length ≤ n * 12 ∨ ∃ i : Nat, i < n ∧ 12 < ns.getD i 0
  | 0 => .inl (by simp [lets])
  | n + 1 => by
    rcases lets_len ns n with h | ⟨i, h1, h2⟩
    · by_cases z : 12 < ns.getD n 0
      · exact .inr ⟨n, by omega, z⟩
      · refine .inl ?_
        rw [lets_succ, List.length_append, List.length_replicate]
        omega
    · exact .inr ⟨i, by omega, h2⟩
def mulV (i : Nat) : V → V
  | .int n => .int ((i : Int) * n)
  | y => y
def slantI (ns : List Int) : Int := ((List.range ns.length).map fun i : Nat => (i : Int) * ns.getD i 0).sum
/-- the letter i + 2 stands more often than i + 1 -/
def BadAt (w : List Int) (i : Nat) : Prop := w.count ((i : Int) + 1) < w.count ((i : Int) + 2)
def TooAt (w : List Int) (n : Int) : Prop := (n = 0 ∧ ∀ i : Nat, i < 11 → ¬ BadAt w i) ∨ ∃ i : Nat, i < 11 ∧ n = (i : Int) + 1 ∧ BadAt w i ∧ ∀ j : Nat, j < i → ¬ BadAt w j
theorem TooAt.uniq {w : List Int} {n m : Int} (h : TooAt w n) (k : TooAt w m) : n = m := by
  rcases h with ⟨rfl, h⟩ | ⟨i, hi, rfl, h1, h2⟩
  · rcases k with ⟨rfl, k⟩ | ⟨j, hj, rfl, k1, k2⟩
    · rfl
    · exact absurd k1 (h j hj)
  · rcases k with ⟨rfl, k⟩ | ⟨j, hj, rfl, k1, k2⟩
    · exact absurd h1 (k i hi)
    · rcases Nat.lt_trichotomy i j with z | z | z
      · exact absurd h1 (k2 i z)
      · rw [z]
      · exact absurd k1 (h2 j z)
theorem g_forE {K : PySem.W.Frag} {ta : TA} {g : TG} {tb : TS} {D : Ends} {σ : L2.St} {H : Hp} (k : ta σ H fun vs H1 => ∃ t xs, vs = [.ref t] ∧ SqT K H1 t xs ∧ ForG (IteT K t) g tb D σ H1) : tFor (iEnumT K ta) g tb D σ H := k
theorem g_enu {K : PySem.W.Frag} {ta : TA} {σ : L2.St} {H : Hp} {R : It → Hp → Prop} (k : ta σ H fun vs H1 => ∃ t xs, vs = [.ref t] ∧ SqT K H1 t xs ∧ R (IteT K t) H1) : iEnumT K ta σ H R := k
theorem g_forR2 {ta : TA} {g : TG} {tb : TS} {D : Ends} {σ : L2.St} {H : Hp} (k : ta σ H fun vs H1 => ∃ i j : Int, vs = [.int i, .int j] ∧ (-(2 ^ 62) ≤ i ∧ i < 2 ^ 62 ∧ -(2 ^ 62) ≤ j ∧ j < 2 ^ 62) ∧ ForG (Itr i (j - i).toNat) g tb D σ H1) : tFor (iRng2 ta) g tb D σ H := k
section
variable {P : Program} {w : World} {K : PySem.W.Frag} {mg : Str → Option Value} {base : Heap} {f : Addr} {fd : FuncData}
abbrev sLetters : Stmt := top 31
theorem scLetters : FnScope ["_law_kind_here", "_law_found", "_law_at", "_law_many"] ["_law_kind_here"] (defScope sLetters) := ⟨rfl, rfl, rfl, by decide +kernel, rfl, by decide +kernel, by decide +kernel⟩
def spLetters (K : PySem.W.Frag) : Sp := fun vs H Q _ => ∃ (a : Addr) (ns : List Int), vs = [.ref a] ∧ SqT K H a (ns.map V.int) ∧ Fall ns ∧ ∀ H' r, Ext H H' → H r = none → H' r = some (.lst ((lets ns ns.length).map V.int)) → Q (.ref r) H'
theorem ok_letters (F : Fun K "_law_letters" "_law_letters" sLetters f fd) (T : Txt K mg) : FnOk P w K mg base CX0 1 f fd ["_law_kind_here"] (spLetters K) := by
  refine F.ok scLetters (fun vs H Q E h => ?_) (fun cdv A outer s H vs Q E hr h => ?_)
  · obtain ⟨a, ns, rfl, _⟩ := h
    rfl
  · obtain ⟨a, ns, rfl, hs, hF, k⟩ := h
    refine ⟨_, pss_cons (ps_set (i := 1) scLetters.nd rfl (Or.inl rfl) (pe_lst pa_nil))
      (pss_cons (ps_for PassesOwn.never rfl (pi_enumT (by rfl) T.enumerate (pa_cons (pv 0) pa_nil)) (pg_tup rfl (pgs_cons (pg_name (i := 2) scLetters.nd rfl (Or.inl rfl)) (pgs_cons (pg_name (i := 3) scLetters.nd rfl (Or.inl rfl)) pgs_nil))) (pss_one (ps_expr (pe_bm PySem.F.plainAttrs_list PySem.F.slot_list_extend PySem.F.type_list_extend mt_extend (pv 1) (pa_cons (pe_op op_rep (pe_lst (pa_cons (pe_op op_add (pv 2) pe_int) pa_nil)) (pv 3)) pa_nil)))))
      (pss_one (ps_ret (pv 1)))), ?_⟩
    try dsimp only [cx_nox, cx_K]
    have sz : (100000 : Nat) < sizeLine := by decide
    have hlen := hF.len
    walk_at "rd"
    refine ⟨Nat.zero_le _, fun b nb => ?_⟩
    have eb := Ext.new (o := HO.lst []) nb
    refine g_name ?_
    dsimp only
    refine g_seq (g_forE ?_)
    walk_at "rd"
    refine ⟨a, _, rfl, sqT_ext eb hs, for_enumT (xs := ns.map V.int) (fun i σ H' => ∃ x y : Option V, σ = [some (.ref a), some (.ref b), x, y] ∧ (∀ c o, H c = some o → H' c = some o) ∧ H' b = some (.lst ((lets ns i).map V.int))) ⟨_, _, rfl, eb, upd_same⟩ (fun i σ H2 _ p => ?_) ?_ ?_⟩
    · obtain ⟨_, _, _, e, _⟩ := p
      exact sqT_ext e hs
    · rintro i v σ H2 T2 hi ⟨x1, x2, rfl, e2, hb2⟩ hT
      rw [mapget] at hi
      obtain ⟨x, hx, rfl⟩ := Option.map_eq_some_iff.mp hi
      have hlt : i < ns.length := (List.getElem?_eq_some_iff.mp hx).1
      have gx : ns.getD i 0 = x := by
        rw [List.getD_eq_getElem?_getD, hx]
        rfl
      have h12 := hF.at i
      rw [gx] at h12
      have eT := Ext.new (o := HO.tup [V.int (i : Nat), V.int x]) hT
      refine ⟨T2, _, rfl, SqT.of upd_same, rfl, _, _, rfl, ?_⟩
      refine ⟨_, _, rfl, rfl, ?_⟩
      have hb3 := eT _ _ hb2
      walk_at "rd"
      refine ⟨.inl ⟨rfl, _, SqL.of hb3⟩, ?_⟩
      walk_at "rd"
      refine ⟨by show 1 ≤ sizeLine; decide, fun l nl => ?_⟩
      have el := Ext.new (o := HO.lst [V.int ((i : Int) + 1)]) nl
      walk_at "rd"
      refine ⟨l, x, _, rfl, rfl, upd_same, by omega, by omega, by rw [List.length_singleton]; omega, fun p np => ?_⟩
      have ep := Ext.new (o := HO.lst (List.replicate x.toNat [V.int ((i : Int) + 1)]).flatten) np
      have hb4 := ep _ _ (el _ _ hb3)
      have fl : (List.replicate x.toNat [V.int ((i : Int) + 1)]).flatten = (List.replicate x.toNat ((i : Int) + 1)).map V.int := by simp
      have ll := lets_len ns i
      walk_at "rd"
      refine ⟨b, p, _, _, rfl, rfl, hb4, upd_same, ?_, ?_⟩
      · rw [fl, List.length_map, List.length_map, List.length_replicate]
        rcases ll with ll | ⟨j, _, hj⟩
        · omega
        · have := (hF.at j).2
          omega
      refine ⟨_, _, rfl, fun c o q => ?_, ?_⟩
      · rw [upd_ne (fun z => by rw [z, nb] at q; cases q)]
        exact ep _ _ (el _ _ (eT _ _ (e2 c o q)))
      · rw [upd_same, fl, lets_succ, gx, List.map_append]
    · rintro σ H2 ⟨x1, x2, rfl, e2, hb2⟩
      rw [List.length_map] at hb2
      walk_at "rd"
      exact k H2 b e2 nb hb2
abbrev sSlant : Stmt := top 29
theorem scSlant : FnScope ["_law_kind_here", "_law_at", "_law_number"] ["_law_kind_here"] (defScope sSlant) := ⟨rfl, rfl, rfl, by decide +kernel, rfl, by decide +kernel, by decide +kernel⟩
def spSlant (K : PySem.W.Frag) : Sp := fun vs H Q _ => ∃ (a : Addr) (ns : List Int), vs = [.ref a] ∧ SqT K H a (ns.map V.int) ∧ Fall ns ∧ ∀ H', Ext H H' → Q (.int (slantI ns)) H'
theorem ok_slant (F : Fun K "_law_slant" "_law_slant" sSlant f fd) (T : Txt K mg) : FnOk P w K mg base CX0 1 f fd ["_law_kind_here"] (spSlant K) := by
  refine F.ok scSlant (fun vs H Q E h => ?_) (fun cdv A outer s H vs Q E hr h => ?_)
  · obtain ⟨a, ns, rfl, _⟩ := h
    rfl
  · obtain ⟨a, ns, rfl, hs, hF, k⟩ := h
    refine ⟨_, pss_one (ps_ret (pe_callB (call_sumS rfl) (by rfl) T.sum (by decide +kernel) (pa_cons (pe_lc (own := [("_law_at", 1), ("_law_number", 2)]) (g := gTup K 2 (gCons (gName 1) (gCons (gName 2) gNil))) (tt := tYes) rfl scSlant.nd (pi_enumT (by rfl) T.enumerate (pa_cons (pv 0) pa_nil)) (blkOk_by (N := ["_law_kind_here", "_law_at", "_law_number"]) (sc := defScope sSlant) (by decide +kernel)) (fun _ _ _ _ _ => pg_tup rfl (pgs_cons (pg_name (i := 1) scSlant.nd rfl (Or.inl rfl)) (pgs_cons (pg_name (i := 2) scSlant.nd rfl (Or.inl rfl)) pgs_nil))) (fun _ _ _ _ _ => pts_nil) (fun _ _ _ _ _ => by exact (pe_op op_mul (pv 1) (pv 2)))) pa_nil))), ?_⟩
    try dsimp only [cx_nox, cx_K]
    have sz : (100000 : Nat) < sizeLine := by decide
    have hlen := hF.len
    walk_at "rd"
    refine g_lc (g_enu ?_)
    walk_at "rd"
    refine lcE hs (by rw [List.length_map]; omega) (fun _ _ => true) mulV (fun i v H' hi e Qe Qn he hn => ?_) (fun H' D e hD hd => ?_)
    · rw [mapget] at hi
      obtain ⟨x, hx, rfl⟩ := Option.map_eq_some_iff.mp hi
      have hlt : i < ns.length := (List.getElem?_eq_some_iff.mp hx).1
      have h12 := hF.at i
      rw [show ns.getD i 0 = x by rw [List.getD_eq_getElem?_getD, hx]; rfl] at h12
      refine ⟨rfl, ?_⟩
      walk_at "rd"
      refine g_I (.inr ⟨by omega, by omega⟩) ?_
      exact he _ (fun _ _ z => z) rfl
    · rw [idx_all, List.length_map] at hd
      walk_at "rd"
      refine ⟨D, (List.range ns.length).map fun i : Nat => (i : Int) * ns.getD i 0, rfl, .inl (SqL.of ?_), k H' e⟩
      rw [hd, List.map_map]
      congr 2
      refine List.map_congr_left fun i hi => ?_
      have hi := List.mem_range.mp hi
      show mulV i ((ns.map V.int).getD i .non) = V.int ((i : Int) * ns.getD i 0)
      rw [List.getD_eq_getElem?_getD, List.getD_eq_getElem?_getD, List.getElem?_map, List.getElem?_eq_getElem hi]
      rfl
abbrev sToo : Stmt := top 33
theorem scToo : FnScope ["_law_word", "_law_number"] ["_law_word"] (defScope sToo) := ⟨rfl, rfl, rfl, by decide +kernel, rfl, by decide +kernel, by decide +kernel⟩
def spToo (K : PySem.W.Frag) : Sp := fun vs H Q _ => ∃ (a : Addr) (ns : List Int), vs = [.ref a] ∧ TupX K H a (ns.map V.int) ∧ ∀ n, TooAt ns n → Q (.int n) H
theorem ok_too (F : Fun K "_law_too_often" "_law_too_often" sToo f fd) (T : Txt K mg) : FnOk P w K mg base CX0 1 f fd ["_law_word"] (spToo K) := by
  refine F.ok scToo (fun vs H Q E h => ?_) (fun cdv A outer s H vs Q E hr h => ?_)
  · obtain ⟨a, ns, rfl, _⟩ := h
    rfl
  · obtain ⟨a, ns, rfl, ha, k⟩ := h
    refine ⟨_, pss_cons (ps_for PassesOwn.never rfl (pi_range2 (by rfl) T.range (pa_cons pe_int (pa_cons pe_int pa_nil))) (pg_name (i := 1) scToo.nd rfl (Or.inl rfl)) (pss_one (ps_if (pt_cmpR op_gt (pe_bmT PySem.F.plainAttrs_tuple PySem.F.slot_tuple_count PySem.F.type_tuple_count mt_tcount (pv 0) (pa_cons (pe_op op_add (pv 1) pe_int) pa_nil)) (pe_bmT PySem.F.plainAttrs_tuple PySem.F.slot_tuple_count PySem.F.type_tuple_count mt_tcount (pv 0) (pa_cons (pv 1) pa_nil)) (nomark _)) (pss_one (ps_ret (pv 1))) pss_nil)))
      (pss_one (ps_ret pe_int)), ?_⟩
    try dsimp only [cx_nox, cx_K]
    refine g_seq (g_forR2 ?_)
    walk_at "rd"
    refine ⟨⟨by decide, by decide, by decide, by decide⟩, for_range (fun i σ H' => ∃ x : Option V, σ = [some (.ref a), x] ∧ H' = H ∧ ∀ j, j < i → ¬ BadAt ns j) ⟨_, rfl, rfl, fun j hj => absurd hj (Nat.not_lt_zero _)⟩ ?_ ?_⟩
    · rintro i σ H2 hi ⟨x, rfl, rfl, nb⟩
      have hi2 : i < 11 := hi
      walk_at "rd"
      refine g_bmT ?_
      walk_at "rd"
      refine ⟨⟨a, _, rfl, ha⟩, ?_⟩
      walk_at "rd"
      refine ⟨a, ns, _, rfl, rfl, ha.sq, ?_⟩
      walk_at "rd"
      refine g_bmT ?_
      walk_at "rd"
      refine ⟨⟨a, _, rfl, ha⟩, ?_⟩
      walk_at "rd"
      refine ⟨a, ns, _, rfl, rfl, ha.sq, ?_⟩
      walk_at "rd"
      have e1 : (1 : Int) + (i : Int) = (i : Int) + 1 := by omega
      have e2 : (1 : Int) + (i : Int) + 1 = (i : Int) + 2 := by omega
      rw [e2, e1]
      by_cases hb : BadAt ns i
      · have hb2 := hb
        unfold BadAt at hb2
        rw [decide_eq_true (by omega)]
        walk_at "rd"
        exact k _ (.inr ⟨i, hi2, rfl, hb, nb⟩)
      · have hb2 := hb
        unfold BadAt at hb2
        rw [decide_eq_false (by omega)]
        walk_at "rd"
        refine ⟨_, rfl, rfl, fun j hj => ?_⟩
        rcases Nat.lt_or_ge j i with z | z
        · exact nb j z
        · rw [show j = i by omega]
          exact hb
    · rintro σ H2 ⟨x, rfl, rfl, nb⟩
      walk_at "rd"
      exact k _ (.inl ⟨rfl, nb⟩)
end
end

/-! The weight as the law finds it. -/

section
open PySem PySem.Spec PyProof.Rows L2 Gd
section
variable {P : Program} {w : World} {K : PySem.W.Frag} {mg : Str → Option Value} {base : Heap} {f : Addr} {fd : FuncData}
theorem g_brk {D : Ends} {σ : L2.St} {H : Hp} (k : D.bk σ H) : tBreak D σ H := k
theorem g_lrg {ta : TE} {σ : L2.St} {H : Hp} {Q : VK} (k : ta σ H fun x H1 => ∃ n, x = .int n ∧ RgOk 0 n ∧ ∀ q, H1 q = none → Q (.ref q) (upd H1 q (.lst (rgV 0 n)))) : tLstRg (tRg1 ta) σ H Q := k
theorem rg_iz (n : Nat) : rgV 0 (n : Int) = (Kn.iz (List.range n)).map V.int := by
  unfold rgV Kn.iz
  rw [List.map_map, Int.sub_zero, Int.toNat_natCast]
  refine List.map_congr_left fun i _ => ?_
  show V.int (0 + (i : Int)) = V.int (i : Int)
  rw [Int.zero_add]
def cN (c : Nat → Bool) : V → Bool
  | .int i => c i.toNat
  | _ => false
theorem cN_filter (c : Nat → Bool) (ps : List Nat) : (((Kn.iz ps).map V.int).filter (cN c)).map id = (Kn.iz (ps.filter c)).map V.int := by
  rw [List.map_id, List.filter_map]
  congr 1
  exact Kn.iz_filter _ c (fun j => rfl) ps
theorem lcI {K : PySem.W.Frag} {g : TG} {tt : TT} {te : TE} {vs : List Nat} {σ : L2.St} {H1 : Hp} {Q : VK} {a : Addr} {ps : List Nat} (hs : SqL K H1 a ((Kn.iz ps).map V.int)) (sz : ps.length < sizeLine) (c : Nat → Bool)
    (body : ∀ (q : Nat) H', q ∈ ps → Ext H1 H' → ∀ (Qe : VK) (Qn : Hp → Prop), (∀ H3, Ext H' H3 → c q = true → Qe (.int (q : Int)) H3) → (∀ H3, Ext H' H3 → c q = false → Qn H3) →
      g (.int (q : Int)) (wipe σ vs) H' fun σ2 H2 => wipe σ2 vs = wipe σ vs ∧ tt σ2 H2 fun b H3 => if b = true then te σ2 H3 Qe else Qn H3)
    (k : ∀ H' D, Ext H1 H' → H1 D = none → H' D = some (.lst ((Kn.iz (ps.filter c)).map V.int)) → Q (.ref D) H') :
    ∃ a', V.ref a = .ref a' ∧ (∃ xs, SqL K H1 a' xs) ∧ LcG (Itl K a') g tt te vs σ H1 Q := by
  refine lcL hs (by rw [List.length_map, Kn.iz_len]; exact sz) (cN c) id (fun x H' hx e Qe Qn he hn => ?_) (fun H' D e hD hd => ?_)
  · obtain ⟨z, hz, rfl⟩ := List.mem_map.mp hx
    obtain ⟨q, rfl, hq⟩ := Kn.mem_iz hz
    exact body q H' hq e Qe Qn (fun H3 e3 h => he H3 e3 h) (fun H3 e3 h => hn H3 e3 h)
  · rw [cN_filter] at hd
    exact k H' D e hD hd
abbrev sWW : Stmt := top 30
theorem scWW : FnScope ["_law_word", "_law_left", "_law_total", "_law_turn", "_law_ones", "_law_at", "_law_index", "_law_number", "_law_fit", "_law_spot", "_law_near"] ["_law_word"] (defScope sWW) := ⟨rfl, rfl, rfl, by decide +kernel, rfl, by decide +kernel, by decide +kernel⟩
def spWW (K : PySem.W.Frag) : Sp := fun vs H Q _ => ∃ (a : Addr) (ws : List Int), vs = [.ref a] ∧ SqT K H a (ws.map V.int) ∧ (∀ x ∈ ws, 1 ≤ x) ∧ ws.length ≤ 100 ∧ ∀ H' N, Ext H H' → Kn.Charge (Kn.wd ws) N → Q (.int N) H'
theorem ok_ww (F : Fun K "_law_word_weight" "_law_word_weight" sWW f fd) (T : Txt K mg) : FnOk P w K mg base CX0 1 f fd ["_law_word"] (spWW K) := by
  refine F.ok scWW (fun vs H Q E h => ?_) (fun cdv A outer s H vs Q E hr h => ?_)
  · obtain ⟨a, ws, rfl, _⟩ := h
    rfl
  · obtain ⟨a, ws, rfl, hs, hp, hl, k⟩ := h
    refine ⟨_, pss_cons (ps_par (i := 1) (j := 2) (by rfl) scWW.nd rfl rfl (by decide) rfl rfl (pa_cons (pe_listRg rfl (by rfl) T.list (prg_1 (by rfl) T.range (pe_callB call_len_seq (by rfl) T.len PySem.boot_len (pa_cons (pv 0) pa_nil)))) (pa_cons pe_int pa_nil)) (by rfl))
      (pss_cons (ps_for PassesOwn.never rfl (pi_range1 (by rfl) T.range (pa_cons (pe_callB call_len_seq (by rfl) T.len PySem.boot_len (pa_cons (pv 0) pa_nil)) pa_nil)) (pg_name (i := 3) scWW.nd rfl (Or.inl rfl)) (pss_cons (ps_setLc (i := 4) (own := [("_law_at", 5)]) (g := gName 5) rfl scWW.nd rfl rfl (sw_true rfl rfl rfl (by decide +kernel)) (pi_list (pv 1)) (blkOk_by (N := ["_law_word", "_law_left", "_law_total", "_law_turn", "_law_ones", "_law_at", "_law_index", "_law_number", "_law_fit", "_law_spot", "_law_near"]) (sc := defScope sWW) (by decide +kernel)) (fun _ _ _ _ _ => pg_name (i := 5) scWW.nd rfl (Or.inl rfl)) (fun _ _ _ _ _ => pts_one (pt_cmpR op_eq (pe_ix (r := rIxT K) ix_tup (pv 0) (pv 5) (fun _ _ => rfl)) pe_int (nomark _))) (fun _ _ _ _ _ => by exact (pv 5)))
      (pss_cons (ps_if (pt_cmpR (op_eqNil (Nat.lt_of_le_of_lt (Nat.le_add_right _ _) (lt66 hr))) (pv 4) (pe_lst pa_nil) (nomark _)) (pss_one ps_break) pss_nil)
      (pss_cons (ps_asg (pe_tup (pa_cons (pe_callB (cr_max rfl) (by rfl) T.max (by decide +kernel) (pa_cons (pv 4) pa_nil)) (pa_cons pe_int (pa_cons pe_int pa_nil)))) (pg_tup rfl (pgs_cons (pg_name (i := 5) scWW.nd rfl (Or.inr rfl)) (pgs_cons (pg_name (i := 6) scWW.nd rfl (Or.inl rfl)) (pgs_cons (pg_name (i := 7) scWW.nd rfl (Or.inr rfl)) pgs_nil)))))
      (pss_cons (ps_expr (pe_bm PySem.F.plainAttrs_list PySem.F.slot_list_remove PySem.F.type_list_remove mt_remove (pv 1) (pa_cons (pv 5) pa_nil)))
      (pss_cons (ps_setLc (i := 8) (own := [("_law_spot", 9)]) (g := gName 9) rfl scWW.nd rfl rfl (sw_true rfl rfl rfl (by decide +kernel)) (pi_list (pv 1)) (blkOk_by (N := ["_law_word", "_law_left", "_law_total", "_law_turn", "_law_ones", "_law_at", "_law_index", "_law_number", "_law_fit", "_law_spot", "_law_near"]) (sc := defScope sWW) (by decide +kernel)) (fun _ _ _ _ _ => pg_name (i := 9) scWW.nd rfl (Or.inl rfl)) (fun _ _ _ _ _ => pts_one (pt_cmpR op_eq (pe_ix (r := rIxT K) ix_tup (pv 0) (pv 9) (fun _ _ => rfl)) pe_int (nomark _))) (fun _ _ _ _ _ => by exact (pv 9)))
      (pss_one (ps_while PassesOwn.never (pt_cmpR (op_neNil (Nat.lt_of_le_of_lt (Nat.le_add_right _ _) (lt66 hr))) (pv 8) (pe_lst pa_nil) (nomark _)) (pss_cons (ps_setLc (i := 10) (own := [("_law_spot", 9)]) (g := gName 9) rfl scWW.nd rfl rfl (sw_true rfl rfl rfl (by decide +kernel)) (pi_list (pv 8)) (blkOk_by (N := ["_law_word", "_law_left", "_law_total", "_law_turn", "_law_ones", "_law_at", "_law_index", "_law_number", "_law_fit", "_law_spot", "_law_near"]) (sc := defScope sWW) (by decide +kernel)) (fun _ _ _ _ _ => pg_name (i := 9) scWW.nd rfl (Or.inl rfl)) (fun _ _ _ _ _ => pts_one (pt_cmpR op_lt (pv 9) (pv 5) (nomark _))) (fun _ _ _ _ _ => by exact (pv 9)))
      (pss_cons (ps_set (i := 6) scWW.nd rfl (Or.inl rfl) (pe_op op_add (pv 6) (pe_callTy call_int1 (by rfl) T.int (by decide +kernel) (pa_cons (pe_cmpR (op_eqNil (Nat.lt_of_le_of_lt (Nat.le_add_right _ _) (lt66 hr))) (pv 10) (pe_lst pa_nil) (nomark _)) pa_nil))))
      (pss_cons (ps_asg (pe_tup (pa_cons (pe_ifExp (pt_cmpR (op_neNil (Nat.lt_of_le_of_lt (Nat.le_add_right _ _) (lt66 hr))) (pv 10) (pe_lst pa_nil) (nomark _)) (pe_callB (cr_max rfl) (by rfl) T.max (by decide +kernel) (pa_cons (pv 10) pa_nil)) (pe_callB (cr_max rfl) (by rfl) T.max (by decide +kernel) (pa_cons (pv 8) pa_nil))) (pa_cons (pe_op op_add (pv 7) pe_int) pa_nil))) (pg_tup rfl (pgs_cons (pg_name (i := 5) scWW.nd rfl (Or.inr rfl)) (pgs_cons (pg_name (i := 7) scWW.nd rfl (Or.inr rfl)) pgs_nil))))
      (pss_cons (ps_expr (pe_bm PySem.F.plainAttrs_list PySem.F.slot_list_remove PySem.F.type_list_remove mt_remove (pv 1) (pa_cons (pv 5) pa_nil)))
      (pss_cons (ps_set (i := 2) scWW.nd rfl (Or.inl rfl) (pe_op op_add (pv 2) (pv 6)))
      (pss_one (ps_setLc (i := 8) (own := [("_law_spot", 9)]) (g := gName 9) rfl scWW.nd rfl rfl (sw_true rfl rfl rfl (by decide +kernel)) (pi_list (pv 1)) (blkOk_by (N := ["_law_word", "_law_left", "_law_total", "_law_turn", "_law_ones", "_law_at", "_law_index", "_law_number", "_law_fit", "_law_spot", "_law_near"]) (sc := defScope sWW) (by decide +kernel)) (fun _ _ _ _ _ => pg_name (i := 9) scWW.nd rfl (Or.inl rfl)) (fun _ _ _ _ _ => pts_one (pt_cmpR op_eq (pe_ix (r := rIxT K) ix_tup (pv 0) (pv 9) (fun _ _ => rfl)) (pe_op op_add (pv 7) pe_int) (nomark _))) (fun _ _ _ _ _ => by exact (pv 9)))))))))))))))))
      (pss_one (ps_ret (pv 2)))), ?_⟩
    try dsimp only [cx_nox, cx_K]
    have sz : (100000 : Nat) < sizeLine := by decide
    have hw : ∀ j, j < ws.length → 1 ≤ Kn.wd ws j := fun j hj => by
      unfold Kn.wd
      rw [List.getD_eq_getElem?_getD, List.getElem?_eq_getElem hj]
      exact hp _ (List.getElem_mem hj)
    have hsup : Kn.Sup (Kn.wd ws) ws.length := fun j hj => by
      unfold Kn.wd
      rw [List.getD_eq_getElem?_getD, List.getElem?_eq_none hj]
      rfl
    have ix : ∀ (H' : Hp) (j : Nat) (Q' : VK), Ext H H' → j < ws.length → Q' (.int (Kn.wd ws j)) H' → rIxT K (.ref a) (.int (j : Int)) H' Q' := fun H' j Q' e hj q => g_ixT (sqT_ext e hs) (atI_nat (getI (i := j) hj)) q
    refine g_par ?_
    refine g_cons (g_lrg ?_)
    walk_at "rd"
    refine ⟨a, _, rfl, .inr hs, ?_⟩
    rw [List.length_map]
    refine ⟨_, rfl, RgOk.of_le (by decide) (by omega) (by decide) (by omega), fun lf nlf => ?_⟩
    rw [rg_iz]
    have e0 := Ext.new (o := HO.lst ((Kn.iz (List.range ws.length)).map V.int)) nlf
    have hf0 : upd H lf (.lst ((Kn.iz (List.range ws.length)).map V.int)) lf = some (.lst ((Kn.iz (List.range ws.length)).map V.int)) := upd_same
    generalize upd H lf (.lst ((Kn.iz (List.range ws.length)).map V.int)) = G at e0 hf0
    walk_at "rd"
    refine ⟨_, _, rfl, ?_⟩
    dsimp only
    refine g_seq (g_forR ?_)
    walk_at "rd"
    refine ⟨a, _, rfl, .inr (sqT_ext e0 hs), ?_⟩
    walk_at "rd"
    rw [List.length_map]
    refine ⟨by omega, by omega, ?_⟩
    refine for_range (fun i σ H' => ∃ (v : Kn.W) (tot : Nat) (x3 x4 x5 x6 x7 x8 x10 : Option V), σ = [some (.ref a), some (.ref lf), some (.int (tot : Int)), x3, x4, x5, x6, x7, x8, none, x10] ∧ Ext H H' ∧ H' lf = some (.lst ((Kn.iz (Kn.rem v ws.length)).map V.int)) ∧ Kn.Sub v (Kn.wd ws) ∧ Kn.Sup v ws.length ∧
      Kn.Reach (.idle (Kn.wd ws) 0) (.idle v tot) ∧ (Kn.rem v ws.length).length + i ≤ ws.length) ⟨Kn.wd ws, 0, _, _, _, _, _, _, _, rfl, e0, ?_, fun _ => .inr rfl, hsup, .refl, ?_⟩ ?_ ?_
    · rw [Kn.rem_all (fun j hj => by have := hw j hj; omega)]
      exact hf0
    · rw [Kn.rem_all (fun j hj => by have := hw j hj; omega), List.length_range]
      omega
    · rintro i σ H2 hi ⟨v, tot, x3, x4, x5, x6, x7, x8, x10, rfl, e, hlf, hsub, hsp, hre, hln⟩
      refine g_name ?_
      dsimp only
      refine g_seq (g_asg (g_lc (g_ilist ?_)))
      walk_at "rd"
      refine lcI (SqL.of hlf) (by omega) (fun j => decide (Kn.wd ws j = 1)) (fun q H3 hq e3 Qe Qn he hn => ?_) (fun H3 D e3 hD hd => ?_)
      · refine ⟨rfl, ?_⟩
        walk_at "rd"
        refine ix _ _ _ (Ext.trans e e3) (Kn.mem_rem.mp hq).1 ?_
        walk_at "rd"
        by_cases h1 : Kn.wd ws q = 1
        · rw [decide_eq_true h1]
          walk_at "rd"
          exact he _ (fun _ _ z => z) (decide_eq_true h1)
        · rw [decide_eq_false h1]
          walk_at "rd"
          exact hn _ (fun _ _ z => z) (decide_eq_false h1)
      rw [Kn.rem_filter hsub (by decide)] at hd
      have hlf3 := e3 _ _ hlf
      have e' := Ext.trans e e3
      have hi2 : i < ws.length := by
        revert hi
        rw [Int.toNat_natCast]
        exact id
      clear hlf e e3
      walk_at "rd"
      refine ⟨Nat.zero_le _, fun ne nne => ?_⟩
      have en := Ext.new (o := HO.lst []) nne
      refine ⟨D, ne, _, rfl, rfl, SqL.of (en _ _ hd), SqL.of upd_same, ?_⟩
      have hlf4 := en _ _ hlf3
      have hd4 := en _ _ hd
      have e4 := Ext.trans e' en
      generalize upd H3 ne (.lst []) = H4 at hlf4 hd4 e4
      clear hlf3 hd e' nne en
      walk_at "rd"
      by_cases hone : Kn.pos v ws.length 1 = []
      · rw [hone]
        refine iteT ?_
        refine g_brk ?_
        dsimp only
        walk_at "rd"
        exact k H4 tot e4 ⟨v, hre, Kn.none_nil hsp (by decide) hone⟩
      have hpos : 0 < (Kn.pos v ws.length 1).length := List.length_pos_iff.mpr hone
      rw [show (List.map V.int (Kn.iz (Kn.pos v ws.length 1))).isEmpty = false by
        rw [List.isEmpty_eq_false_iff]
        intro z
        have := congrArg List.length z
        rw [List.length_map, Kn.iz_len] at this
        simp at this
        exact hone this]
      refine iteF ?_
      walk_at "rd"
      refine ⟨D, _, rfl, SqL.of hd4, by rw [Kn.iz_len]; exact hpos, fun m hm hmax => ?_⟩
      obtain ⟨q, rfl, hq, hqm⟩ := Kn.max_iz hm hmax
      have hlast := Kn.last_max hsp (by decide) hq hqm
      walk_at "rd"
      refine ⟨by show 3 ≤ sizeLine; decide, fun z nz => ?_⟩
      have ez := Ext.new (o := HO.tup [V.int (q : Int), V.int 0, V.int 1]) nz
      refine ⟨z, _, rfl, SqT.of upd_same, rfl, _, _, rfl, ?_⟩
      refine ⟨_, _, rfl, ?_⟩
      refine ⟨_, _, rfl, rfl, ?_⟩
      have hlf5 := ez _ _ hlf4
      have e5 := Ext.trans e4 ez
      generalize upd H4 z (.tup [V.int (q : Int), V.int 0, V.int 1]) = H5 at hlf5 e5
      clear hlf4 hd4 e4 nz ez hm hmax
      have hqr : q ∈ Kn.rem v ws.length := Kn.mem_rem.mpr ⟨(Kn.mem_pos.mp hq).1, by rw [hlast.1]; decide⟩
      have hst : Kn.Step (.idle v tot) (.at (Kn.put v q) q 0 2 tot) := .begin hlast.1 hlast.2
      have hlen2 := Kn.len_filter_ne hqr
      rw [← Kn.rem_put (v := v)] at hlen2
      walk_at "rd"
      obtain ⟨j, hj1, hj2, hj3⟩ := Kn.erase_at Kn.asc_rem hqr
      refine ⟨.inl ⟨rfl, _, SqL.of hlf5⟩, ?_⟩
      walk_at "rd"
      refine ⟨lf, _, _, j, rfl, rfl, hlf5, Kn.iz_at.mpr hj1, fun m hm z => hj2 m hm (Kn.iz_at.mp z), ?_⟩
      rw [Kn.iz_erase, hj3, ← Kn.rem_put]
      have e6 : Ext H (upd H5 lf (.lst ((Kn.iz (Kn.rem (Kn.put v q) ws.length)).map V.int))) := fun c o y => by
        rw [upd_ne (fun z => by rw [z, nlf] at y; cases y)]
        exact e5 c o y
      have hlf6 : upd H5 lf (.lst ((Kn.iz (Kn.rem (Kn.put v q) ws.length)).map V.int)) lf = some (.lst ((Kn.iz (Kn.rem (Kn.put v q) ws.length)).map V.int)) := upd_same
      generalize upd H5 lf (.lst ((Kn.iz (Kn.rem (Kn.put v q) ws.length)).map V.int)) = H6 at e6 hlf6
      clear hlf5 e5 hj1 hj2 hj3
      have hre2 := hre.tail hst
      have hsub2 := hsub.put q
      have hsp2 := hsp.put q
      generalize Kn.put v q = u at hlen2 hst e6 hlf6 hre2 hsub2 hsp2
      clear hre hsub hsp hst hqr hlast hq hqm hpos hone
      dsimp only
      refine g_seq (g_asg (g_lc (g_ilist ?_)))
      walk_at "rd"
      refine lcI (SqL.of hlf6) (by omega) (fun j => decide (Kn.wd ws j = 2)) (fun q2 H7 hq2 e7 Qe Qn he hn => ?_) (fun H7 F7 e7 hF7 hd7 => ?_)
      · refine ⟨rfl, ?_⟩
        walk_at "rd"
        refine ix _ _ _ (Ext.trans e6 e7) (Kn.mem_rem.mp hq2).1 ?_
        walk_at "rd"
        by_cases h1 : Kn.wd ws q2 = 2
        · rw [decide_eq_true h1]
          walk_at "rd"
          exact he _ (fun _ _ z => z) (decide_eq_true h1)
        · rw [decide_eq_false h1]
          walk_at "rd"
          exact hn _ (fun _ _ z => z) (decide_eq_false h1)
      rw [Kn.rem_filter hsub2 (by decide)] at hd7
      have hlf7 := e7 _ _ hlf6
      have e8 := Ext.trans e6 e7
      clear hlf6 e6 e7
      refine g_name ?_
      dsimp only
      refine ⟨fun m σ H' => ∃ (v : Kn.W) (p x tot : Nat) (l : Int) (ft : Addr) (x10 : Option V), m = (Kn.rem v ws.length).length ∧ σ = [some (.ref a), some (.ref lf), some (.int (tot : Int)), some (.int (0 + (i : Int))), some (.ref D), some (.int (p : Int)), some (.int (x : Int)), some (.int (l - 1)), some (.ref ft), none, x10] ∧ Ext H H' ∧
        H' lf = some (.lst ((Kn.iz (Kn.rem v ws.length)).map V.int)) ∧ H' ft = some (.lst ((Kn.iz (Kn.pos v ws.length l)).map V.int)) ∧ Kn.Sub v (Kn.wd ws) ∧ Kn.Sup v ws.length ∧ 2 ≤ l ∧ Kn.Reach (.idle (Kn.wd ws) 0) (.at v p x l tot) ∧ (Kn.rem v ws.length).length + (i + 1) ≤ ws.length,
        ⟨_, u, q, 0, tot, 2, F7, _, rfl, rfl, e8, hlf7, hd7, hsub2, hsp2, by decide, hre2, by omega⟩, ?_⟩
      clear hlf7 hd7 e8 hsub2 hsp2 hre2 hlen2 hln
      rintro m σ H8 ⟨v, p, x, tot, l, ft, x10, rfl, rfl, e, hlf, hft, hsub, hsp, hl2, hre, hln⟩
      walk_at "rd"
      refine ⟨Nat.zero_le _, fun ne nne => ?_⟩
      have en := Ext.new (o := HO.lst []) nne
      refine ⟨ft, ne, _, rfl, rfl, SqL.of (en _ _ hft), SqL.of upd_same, ?_⟩
      have hlf2 := en _ _ hlf
      have hft2 := en _ _ hft
      have e2 := Ext.trans e en
      generalize upd H8 ne (.lst []) = H9 at hlf2 hft2 e2
      clear hlf hft e nne en
      walk_at "rd"
      by_cases hone : Kn.pos v ws.length l = []
      · rw [hone]
        refine iteF ?_
        exact ⟨v, tot, _, _, _, _, _, _, _, rfl, e2, hlf2, hsub, hsp, hre.tail (.done (Kn.none_nil hsp (by omega) hone)), hln⟩
      have hpos : 0 < (Kn.pos v ws.length l).length := List.length_pos_iff.mpr hone
      rw [show (List.map V.int (Kn.iz (Kn.pos v ws.length l))).isEmpty = false by
        rw [List.isEmpty_eq_false_iff]
        intro z
        have := congrArg List.length z
        rw [List.length_map, Kn.iz_len] at this
        simp at this
        exact hone this]
      refine iteT ?_
      refine ⟨_, fun σ' H' h => h, ?_⟩
      refine g_seq (g_asg (g_lc (g_ilist ?_)))
      walk_at "rd"
      have hlp : (Kn.pos v ws.length l).length ≤ ws.length := Nat.le_trans (List.length_filter_le _ _) (by rw [List.length_range]; omega)
      refine lcI (SqL.of hft2) (by omega) (fun j => decide (j < p)) (fun q2 H7 hq2 e7 Qe Qn he hn => ?_) (fun H10 Nr e7 hNr hd => ?_)
      · refine ⟨rfl, ?_⟩
        walk_at "rd"
        by_cases h1 : q2 < p
        · rw [decide_eq_true (show (q2 : Int) < (p : Int) by omega)]
          walk_at "rd"
          exact he _ (fun _ _ z => z) (decide_eq_true h1)
        · rw [decide_eq_false (show ¬ (q2 : Int) < (p : Int) by omega)]
          walk_at "rd"
          exact hn _ (fun _ _ z => z) (decide_eq_false h1)
      have hlf3 := e7 _ _ hlf2
      have hft3 := e7 _ _ hft2
      have e3 := Ext.trans e2 e7
      clear hlf2 hft2 e2 e7
      refine g_name ?_
      dsimp only
      refine g_cut (fun σ H' => σ = [some (.ref a), some (.ref lf), some (.int (tot : Int)), some (.int (0 + (i : Int))), some (.ref D), some (.int (p : Int)), some (.int ((x : Int) + (if (List.map V.int (Kn.iz ((Kn.pos v ws.length l).filter fun j => decide (j < p)))).isEmpty = true then 1 else 0))), some (.int (l - 1)), some (.ref ft), none, some (.ref Nr)] ∧ Ext H10 H') (fun σ' H11 hN => ?_) (fun go => ?_)
      rotate_left
      · walk_at "rd"
        refine ⟨Nat.zero_le _, fun n2 hn2 => ?_⟩
        refine ⟨Nr, n2, _, rfl, rfl, SqL.of (Ext.new hn2 _ _ hd), SqL.of upd_same, ?_⟩
        walk_at "rd"
        refine .inr ⟨_, rfl, ?_⟩
        refine g_I0 (g_name ?_)
        exact go _ _ ⟨rfl, Ext.new hn2⟩
      obtain ⟨rfl, e11⟩ := hN
      have hlf4 := e11 _ _ hlf3
      have hft4 := e11 _ _ hft3
      have hd4 := e11 _ _ hd
      have e4 := Ext.trans e3 e11
      clear hlf3 hft3 hd e3 e11
      refine g_cut (fun σ H' => ∃ (q x' : Nat), σ = [some (.ref a), some (.ref lf), some (.int (tot : Int)), some (.int (0 + (i : Int))), some (.ref D), some (.int (q : Int)), some (.int (x' : Int)), some (.int (l - 1 + 1)), some (.ref ft), none, some (.ref Nr)] ∧ Ext H11 H' ∧ q ∈ Kn.pos v ws.length l ∧
        Kn.Step (.at v p x l tot) (.at (Kn.put v q) q x' (l + 1) (tot + x'))) (fun σ' H12 hN => ?_) (fun go => ?_)
      rotate_left
      · walk_at "rd"
        refine ⟨Nat.zero_le _, fun n2 hn2 => ?_⟩
        have e5 := Ext.new (o := HO.lst []) hn2
        refine ⟨Nr, n2, _, rfl, rfl, SqL.of (e5 _ _ hd4), SqL.of upd_same, ?_⟩
        have hft5 := e5 _ _ hft4
        have hd5 := e5 _ _ hd4
        generalize upd H11 n2 (.lst []) = H13 at e5 hft5 hd5
        walk_at "rd"
        by_cases hne : (Kn.pos v ws.length l).filter (fun j => decide (j < p)) = []
        · rw [hne]
          refine iteF ?_
          walk_at "rd"
          refine ⟨ft, _, rfl, SqL.of hft5, by rw [Kn.iz_len]; exact hpos, fun m hm hmax => ?_⟩
          obtain ⟨q, rfl, hq, hqm⟩ := Kn.max_iz hm hmax
          walk_at "rd"
          refine ⟨by show 2 ≤ sizeLine; decide, fun z nz => ?_⟩
          refine ⟨z, _, rfl, SqT.of upd_same, rfl, _, _, rfl, ?_⟩
          refine ⟨_, _, rfl, rfl, ?_⟩
          exact go _ _ ⟨q, x + 1, rfl, Ext.trans e5 (Ext.new nz), hq, .behind (Kn.behind_max hsp (by omega) hne hq hqm)⟩
        · have hnp : 0 < ((Kn.pos v ws.length l).filter fun j => decide (j < p)).length := List.length_pos_iff.mpr hne
          have hb : (List.map V.int (Kn.iz ((Kn.pos v ws.length l).filter fun j => decide (j < p)))).isEmpty = false := by
            rw [List.isEmpty_eq_false_iff]
            intro z
            have := congrArg List.length z
            rw [List.length_map, Kn.iz_len] at this
            exact absurd this (by show ¬ _ = 0; omega)
          rw [hb]
          refine iteT ?_
          walk_at "rd"
          refine ⟨Nr, _, rfl, SqL.of hd5, by rw [Kn.iz_len]; exact hnp, fun m hm hmax => ?_⟩
          obtain ⟨q, rfl, hq, hqm⟩ := Kn.max_iz hm hmax
          walk_at "rd"
          refine ⟨by show 2 ≤ sizeLine; decide, fun z nz => ?_⟩
          refine ⟨z, _, rfl, SqT.of upd_same, rfl, _, _, rfl, ?_⟩
          refine ⟨_, _, rfl, rfl, ?_⟩
          exact go _ _ ⟨q, x, rfl, Ext.trans e5 (Ext.new nz), (List.mem_filter.mp hq).1, .ahead (Kn.ahead_max hsp (by omega) hq hqm)⟩
      obtain ⟨q, x', rfl, e12, hq, hst⟩ := hN
      have hlf5 := e12 _ _ hlf4
      have e5 := Ext.trans e4 e12
      clear hlf4 hft4 hd4 e4 e12
      have hqv := (Kn.mem_pos.mp hq).2
      have hqr : q ∈ Kn.rem v ws.length := Kn.mem_rem.mpr ⟨(Kn.mem_pos.mp hq).1, by omega⟩
      have hlen2 := Kn.len_filter_ne hqr
      rw [← Kn.rem_put (v := v)] at hlen2
      walk_at "rd"
      obtain ⟨j, hj1, hj2, hj3⟩ := Kn.erase_at Kn.asc_rem hqr
      refine ⟨.inl ⟨rfl, _, SqL.of hlf5⟩, ?_⟩
      walk_at "rd"
      refine ⟨lf, _, _, j, rfl, rfl, hlf5, Kn.iz_at.mpr hj1, fun m hm z => hj2 m hm (Kn.iz_at.mp z), ?_⟩
      rw [Kn.iz_erase, hj3, ← Kn.rem_put]
      have e6 : Ext H (upd H12 lf (.lst ((Kn.iz (Kn.rem (Kn.put v q) ws.length)).map V.int))) := fun c o y => by
        rw [upd_ne (fun z => by rw [z, nlf] at y; cases y)]
        exact e5 c o y
      have hlf6 : upd H12 lf (.lst ((Kn.iz (Kn.rem (Kn.put v q) ws.length)).map V.int)) lf = some (.lst ((Kn.iz (Kn.rem (Kn.put v q) ws.length)).map V.int)) := upd_same
      generalize upd H12 lf (.lst ((Kn.iz (Kn.rem (Kn.put v q) ws.length)).map V.int)) = H14 at e6 hlf6
      clear hlf5 e5 hj1 hj2 hj3
      have hre2 := hre.tail hst
      have hsub2 := hsub.put q
      have hsp2 := hsp.put q
      dsimp only
      have tt : ((tot : Int) + (x' : Int)) = ((tot + x' : Nat) : Int) := by omega
      walk_at "rd"
      rw [tt]
      refine g_lc (g_ilist ?_)
      walk_at "rd"
      refine lcI (SqL.of hlf6) (by omega) (fun j => decide (Kn.wd ws j = l + 1)) (fun q2 H7 hq2 e7 Qe Qn he hn => ?_) (fun H7 F7 e7 hF7 hd7 => ?_)
      · refine ⟨rfl, ?_⟩
        walk_at "rd"
        refine ix _ _ _ (Ext.trans e6 e7) (Kn.mem_rem.mp hq2).1 ?_
        walk_at "rd"
        rw [show l - 1 + 1 + 1 = l + 1 by omega]
        by_cases h1 : Kn.wd ws q2 = l + 1
        · rw [decide_eq_true h1]
          walk_at "rd"
          exact he _ (fun _ _ z => z) (decide_eq_true h1)
        · rw [decide_eq_false h1]
          walk_at "rd"
          exact hn _ (fun _ _ z => z) (decide_eq_false h1)
      rw [Kn.rem_filter hsub2 (by omega)] at hd7
      have hlf7 := e7 _ _ hlf6
      have e8 := Ext.trans e6 e7
      walk_at "rd"
      exact ⟨_, hlen2, Kn.put v q, q, x', tot + x', l + 1, F7, _, rfl, by rw [show l + 1 - 1 = l - 1 + 1 by omega]; rfl, e8, hlf7, hd7, hsub2, hsp2, by omega, hre2, by omega⟩
    · rintro σ H2 ⟨v, tot, x3, x4, x5, x6, x7, x8, x10, rfl, e, hlf, hsub, hsp, hre, hln⟩
      rw [Int.toNat_natCast] at hln
      walk_at "rd"
      refine k H2 tot e ⟨v, hre, fun j z => ?_⟩
      have : j ∈ Kn.rem v ws.length := Kn.mem_rem.mpr ⟨hsp.lt (by omega), by omega⟩
      have := List.length_pos_of_mem this
      omega
end
end

/-! The weight as the program finds it. -/

section
open PySem PySem.Spec PyProof.Rows L2 Gd
theorem iz_snoc (L : List Nat) (q : Nat) : (Kn.iz (L ++ [q])).map V.int = (Kn.iz L).map V.int ++ [V.int (q : Int)] := by
  unfold Kn.iz
  simp
theorem asc_last {L : List Nat} {q : Nat} (h : (L ++ [q]).Pairwise (· < ·)) : ∀ j ∈ L ++ [q], j ≤ q := fun j hj => by
  rw [List.pairwise_append] at h
  rcases List.mem_append.mp hj with z | z
  · have := h.2.2 j z q (List.mem_singleton.mpr rfl)
    omega
  · rw [List.mem_singleton.mp z]
    exact Nat.le_refl _
/-- the dict at D: a list of places for each letter -/
structure DW (H0 H : Hp) (D : Addr) (n : Nat) (v : Kn.W) (A : Int → Addr) (S : List Int) : Prop where
  ex : ∃ kvs : List (L2.Key × V), H D = some (.dK kvs) ∧ (∀ l : Int, l ∈ S → valV kvs (Sum.inl l) = some (.ref (A l))) ∧ ∀ l : Int, l ∉ S → valV kvs (Sum.inl l) = none
  at_ : ∀ l, l ∈ S → l ≠ 1 → H (A l) = some (.lst ((Kn.iz (Kn.pos v n l)).map V.int))
  nd : ∀ l, l ∈ S → A l ≠ D
  nw : ∀ l, l ∈ S → H0 (A l) = none
  inj : ∀ l m, l ∈ S → m ∈ S → A l = A m → l = m
theorem DW.ext {H0 H H' : Hp} {D : Addr} {n : Nat} {v : Kn.W} {A : Int → Addr} {S : List Int} (e : Ext H H') (h : DW H0 H D n v A S) : DW H0 H' D n v A S := by
  obtain ⟨⟨kvs, h1, h2, h3⟩, a, b, c, d⟩ := h
  exact ⟨⟨kvs, e _ _ h1, h2, h3⟩, fun l hl h1 => e _ _ (a l hl h1), b, c, d⟩
/-- a place is taken -/
theorem DW.take {H0 H : Hp} {D : Addr} {n q : Nat} {v : Kn.W} {A : Int → Addr} {S : List Int} (h : DW H0 H D n v A S) (hp : ∀ l ∈ S, 1 ≤ l) {l : Int} (hl : l ∈ S) (e : v q = l) : DW H0 (upd H (A l) (.lst ((Kn.iz (Kn.pos (Kn.put v q) n l)).map V.int))) D n (Kn.put v q) A S := by
  obtain ⟨⟨kvs, h1, h2, h3⟩, a, b, c, d⟩ := h
  refine ⟨⟨kvs, ?_, h2, h3⟩, fun m hm h1 => ?_, b, c, d⟩
  · rw [upd_ne (fun z => b l hl z.symm)]
    exact h1
  · by_cases z : m = l
    · rw [z, upd_same]
    · rw [upd_ne (fun y => z (d m l hm hl y)), a m hm h1, Kn.pos_other (hp m hm) (by rw [e]; exact fun y => z y.symm)]
theorem DW.get {H0 H : Hp} {D : Addr} {n : Nat} {v : Kn.W} {A : Int → Addr} {S : List Int} (h : DW H0 H D n v A S) {l : Int} (hl : l ∈ S) : DGet H D (.int l) (some (.ref (A l))) := by
  obtain ⟨kvs, h1, h2, _⟩ := h.ex
  exact .inl ⟨kvs, Sum.inl l, .inl h1, rfl, (h2 l hl).symm⟩
theorem DW.no {H0 H : Hp} {D : Addr} {n : Nat} {v : Kn.W} {A : Int → Addr} {S : List Int} (h : DW H0 H D n v A S) {l : Int} (hl : l ∉ S) : DGet H D (.int l) none := by
  obtain ⟨kvs, h1, _, h2⟩ := h.ex
  exact .inl ⟨kvs, Sum.inl l, .inl h1, rfl, (h2 l hl).symm⟩
theorem DW.isD {H0 H : Hp} {D : Addr} {n : Nat} {v : Kn.W} {A : Int → Addr} {S : List Int} (h : DW H0 H D n v A S) : IsD H D := by
  obtain ⟨kvs, h1, _⟩ := h.ex
  exact .inl ⟨kvs, .inl h1⟩
theorem g_dget2 {td ty tx : TE} {σ : L2.St} {H : Hp} {Q : VK} (k : td σ H fun x H1 => ∃ a, x = .ref a ∧ IsD H1 a ∧ ty σ H1 fun y H2 => tx σ H2 fun z H3 => ∃ o, DGet H3 a y o ∧ Q (o.getD z) H3) : tDGet2 td ty tx σ H Q := k
theorem g_dget {td ty : TE} {σ : L2.St} {H : Hp} {Q : VK} (k : td σ H fun x H1 => ty σ H1 fun y H2 => ∃ a v, x = .ref a ∧ DGet H2 a y (some v) ∧ Q v H2) : tDGet td ty σ H Q := k
theorem g_par3 {i j l : Nat} {ta : TA} {D : Ends} {σ : L2.St} {H : Hp} (k : ta σ H fun vs H1 => ∃ u v w, vs = [u, v, w] ∧ D.nx (((σ.set i (some u)).set j (some v)).set l (some w)) H1) : tPar3 i j l ta D σ H := k
theorem g_revL {K : PySem.W.Frag} {te : TE} {σ : L2.St} {H : Hp} {Q : VK} (k : te σ H fun x H1 => ∃ a xs, x = .ref a ∧ SqL K H1 a xs ∧ ∀ p, H1 p = none → Q (.ref p) (upd H1 p (.lst xs.reverse))) : Gd.tRevL K te σ H Q := k
/-- what left.get(l, []) gives -/
theorem g_getD {H0 H : Hp} {D : Addr} {n : Nat} {v : Kn.W} {A : Int → Addr} {S : List Int} {td ty : TE} {σ : L2.St} {Q : VK} (h : DW H0 H D n v A S) {l : Int} (hd : ∀ Q', Q' (V.ref D) H → td σ H Q') (hy : ∀ Q', Q' (V.int l) H → ty σ H Q')
    (k : ∀ H' s, Ext H H' → (l ∈ S → s = A l) → (l ∉ S → H' s = some (.lst [])) → Q (.ref s) H') : tDGet2 td ty (tLst tNil) σ H Q := by
  refine g_dget2 (hd _ ⟨D, rfl, h.isD, hy _ ⟨Nat.zero_le _, fun z nz => ?_⟩⟩)
  have ez := Ext.new (o := HO.lst []) nz
  have hz := h.ext ez
  by_cases hl : l ∈ S
  · exact ⟨_, hz.get hl, k _ (A l) ez (fun _ => rfl) (fun q => absurd hl q)⟩
  · exact ⟨_, hz.no hl, k _ z ez (fun q => absurd q hl) (fun _ => upd_same)⟩
theorem take_filter : ∀ {L : List Nat} {k : Nat} (h : k < L.length), L.Pairwise (· < ·) → (L.take (k + 1)).filter (fun j => decide (j ≠ L[k])) = L.take k
  | [], _, h, _ => absurd h (Nat.not_lt_zero _)
  | x :: r, 0, h, a => by
    show ([x] : List Nat).filter _ = []
    exact List.filter_eq_nil_iff.mpr fun j hj => by
      rw [List.mem_singleton.mp hj]
      simp
  | x :: r, k + 1, h, a => by
    rw [List.pairwise_cons] at a
    have h' : k < r.length := Nat.lt_of_succ_lt_succ h
    have ih := take_filter h' a.2
    show (x :: r.take (k + 1)).filter (fun j => decide (j ≠ r[k])) = x :: r.take k
    rw [List.filter_cons_of_pos (by have := a.1 r[k] (List.getElem_mem h'); simp; omega), ih]
theorem take_max {L : List Nat} {k : Nat} (h : k < L.length) (a : L.Pairwise (· < ·)) : L[k] ∈ L.take (k + 1) ∧ ∀ j ∈ L.take (k + 1), j ≤ L[k] := by
  have e : L.take (k + 1) = L.take k ++ [L[k]] := by
    rw [List.take_add_one, List.getElem?_eq_getElem h]
    rfl
  rw [e]
  refine ⟨List.mem_append.mpr (.inr (List.mem_singleton.mpr rfl)), asc_last ?_⟩
  rw [← e]
  exact a.sublist (List.take_sublist _ _)
def cL (l : Int) : V → Bool
  | .int z => decide (z = l)
  | _ => false
theorem idx_pos {ws : List Int} {l : Int} : (idx (fun i => cL l ((ws.map V.int).getD i .non)) ws.length).map (fun i => V.int ((i : Nat) : Int)) = (Kn.iz (Kn.pos (Kn.wd ws) ws.length l)).map V.int := by
  unfold Kn.iz Kn.pos
  rw [List.map_map]
  have e : idx (fun i => cL l ((ws.map V.int).getD i .non)) ws.length = (List.range ws.length).filter fun j => decide (Kn.wd ws j = l) := by
    unfold idx
    refine List.filter_congr fun j hj => ?_
    have hj := List.mem_range.mp hj
    unfold Kn.wd
    rw [List.getD_eq_getElem?_getD, List.getD_eq_getElem?_getD, List.getElem?_map, List.getElem?_eq_getElem hj]
    rfl
  rw [e]
  rfl
section
variable {P : Program} {w : World} {K : PySem.W.Frag} {mg : Str → Option Value} {base : Heap} {f : Addr} {fd : FuncData}
abbrev sNext : Stmt := top 16
theorem scNext : FnScope ["some", "place", "ahead", "other"] ["some", "place"] (defScope sNext) := ⟨rfl, rfl, rfl, by decide +kernel, rfl, by decide +kernel, by decide +kernel⟩
def spNext (K : PySem.W.Frag) : Sp := fun vs H Q _ => ∃ (s : Addr) (ps : List Nat) (p : Nat), vs = [.ref s, .int (p : Int)] ∧ SqL K H s ((Kn.iz ps).map V.int) ∧ ps.Pairwise (· < ·) ∧ 0 < ps.length ∧ ps.length ≤ 100 ∧
  ∀ H' t (q : Nat) (b : Bool), Ext H H' → SqT K H' t [.int (q : Int), .bl b] → ((b = true ∧ q ∈ ps.filter (fun j => decide (j < p)) ∧ ∀ j ∈ ps.filter (fun j => decide (j < p)), j ≤ q) ∨ (b = false ∧ ps.filter (fun j => decide (j < p)) = [] ∧ q ∈ ps ∧ ∀ j ∈ ps, j ≤ q)) → Q (.ref t) H'
theorem ok_next (F : Fun K "next_place" "next_place" sNext f fd) (T : Txt K mg) : FnOk P w K mg base CX0 1 f fd ["some", "place"] (spNext K) := by
  refine F.ok scNext (fun vs H Q E h => ?_) (fun cdv A outer s H vs Q E hr h => ?_)
  · obtain ⟨s, ps, p, rfl, _⟩ := h
    rfl
  · obtain ⟨s, ps, p, rfl, hs, ha, h0, hl, k⟩ := h
    refine ⟨_, pss_cons (ps_setLc (i := 2) (own := [("other", 3)]) (g := gName 3) rfl scNext.nd rfl rfl (sw_true rfl rfl rfl (by decide +kernel)) (pi_list (pv 0)) (blkOk_by (N := ["some", "place", "ahead", "other"]) (sc := defScope sNext) (by decide +kernel)) (fun _ _ _ _ _ => pg_name (i := 3) scNext.nd rfl (Or.inl rfl)) (fun _ _ _ _ _ => pts_one (pt_cmpR op_lt (pv 3) (pv 1) (nomark _))) (fun _ _ _ _ _ => by exact (pv 3)))
      (pss_one (ps_ret (pe_ifExp (pt_cmpR op_gt (pe_callB call_len_seq (by rfl) T.len PySem.boot_len (pa_cons (pv 2) pa_nil)) pe_int (nomark _)) (pe_tup (pa_cons (pe_ix ix_list (pv 2) (pe_un un_neg pe_int) (fun _ _ => rfl)) (pa_cons pe_bl pa_nil))) (pe_tup (pa_cons (pe_ix ix_list (pv 0) (pe_un un_neg pe_int) (fun _ _ => rfl)) (pa_cons pe_bl pa_nil)))))), ?_⟩
    try dsimp only [cx_nox, cx_K]
    have sz : (100000 : Nat) < sizeLine := by decide
    refine g_seq (g_asg (g_lc (g_ilist ?_)))
    walk_at "rd"
    refine lcI hs (by omega) (fun j => decide (j < p)) (fun q2 H7 hq2 e7 Qe Qn he hn => ?_) (fun H1 D e1 hD hd => ?_)
    · refine ⟨rfl, ?_⟩
      walk_at "rd"
      by_cases h1 : q2 < p
      · rw [decide_eq_true (show (q2 : Int) < (p : Int) by omega)]
        walk_at "rd"
        exact he _ (fun _ _ z => z) (decide_eq_true h1)
      · rw [decide_eq_false (show ¬ (q2 : Int) < (p : Int) by omega)]
        walk_at "rd"
        exact hn _ (fun _ _ z => z) (decide_eq_false h1)
    have hfa := ha.filter (fun j => decide (j < p))
    walk_at "rd"
    refine ⟨D, _, rfl, .inl (SqL.of hd), ?_⟩
    walk_at "rd"
    rw [List.length_map, Kn.iz_len]
    rcases List.eq_nil_or_concat (ps.filter fun j => decide (j < p)) with hne | ⟨L, q, hq⟩
    · rw [hne, decide_eq_false (show ¬ (0 : Int) < (([] : List Nat).length : Int) by decide)]
      walk_at "rd"
      rcases List.eq_nil_or_concat ps with rfl | ⟨L, q, hps⟩
      · exact absurd h0 (Nat.lt_irrefl _)
      rw [List.concat_eq_append] at hps
      subst hps
      refine g_ixL (sqL_ext e1 hs) (by rw [iz_snoc]; exact atI_last _ _) ?_
      walk_at "rd"
      refine ⟨by show 2 ≤ sizeLine; decide, fun t nt => ?_⟩
      exact k _ t q false (Ext.trans e1 (Ext.new nt)) (SqT.of upd_same) (.inr ⟨rfl, hne, by simp, asc_last ha⟩)
    · rw [List.concat_eq_append] at hq
      rw [hq] at hd hfa
      rw [hq, List.length_append, List.length_singleton, decide_eq_true (show (0 : Int) < ((L.length + 1 : Nat) : Int) by omega)]
      walk_at "rd"
      refine g_ixL (SqL.of hd) (by rw [iz_snoc]; exact atI_last _ _) ?_
      walk_at "rd"
      refine ⟨by show 2 ≤ sizeLine; decide, fun t nt => ?_⟩
      exact k _ t q true (Ext.trans e1 (Ext.new nt)) (SqT.of upd_same) (.inl ⟨rfl, by rw [hq]; simp, by rw [hq]; exact asc_last hfa⟩)
abbrev sWO : Stmt := top 17
theorem scWO : FnScope ["word", "left", "letter", "i", "one", "total", "start", "place", "index", "is_ahead"] ["word"] (defScope sWO) := ⟨rfl, rfl, rfl, by decide +kernel, rfl, by decide +kernel, by decide +kernel⟩
def spWO (K : PySem.W.Frag) : Sp := fun vs H Q _ => ∃ (a : Addr) (ws : List Int), vs = [.ref a] ∧ SqT K H a (ws.map V.int) ∧ (∀ x ∈ ws, 1 ≤ x) ∧ ws.length ≤ 100 ∧ ∀ H' N, Ext H H' → Kn.Charge (Kn.wd ws) N → Q (.int N) H'
theorem ok_wo (F : Fun K "weight_of" "weight_of" sWO f fd) (T : Txt K mg) (Nx : Def1 P w K mg base CX0 1 "next_place" ["some", "place"] (spNext K)) : FnOk P w K mg base CX0 2 f fd ["word"] (spWO K) := by
  refine F.ok scWO (fun vs H Q E h => ?_) (fun cdv A outer s H vs Q E hr h => ?_)
  · obtain ⟨a, ws, rfl, _⟩ := h
    rfl
  · obtain ⟨a, ws, rfl, hs, hp, hl, k⟩ := h
    have hu1 := Nat.lt_of_le_of_lt (Nat.add_le_add_left (by decide : 1 ≤ 66) _) (lt66 hr)
    refine ⟨_, pss_cons (ps_setDc (i := 1) (own := [("letter", 2)]) (g := gName 2) (tt := tYes) rfl scWO.nd rfl rfl (sw_trueD rfl rfl rfl (by decide +kernel)) (pi_tup (pv 0)) (blkOk_by (N := ["word", "left", "letter", "i", "one", "total", "start", "place", "index", "is_ahead"]) (sc := defScope sWO) (by decide +kernel)) (fun _ _ _ _ _ => pg_name (i := 2) scWO.nd rfl (Or.inr rfl)) (fun _ _ _ _ _ => pts_nil) (fun _ _ _ _ _ => by exact (pv 2)) (fun _ _ _ _ _ => by exact (pe_lc (own := [("i", 3), ("one", 4)]) (wi := iEnumT K (tCons (tVar 0) tNil)) (g := gTup K 2 (gCons (gName 3) (gCons (gName 4) gNil))) rfl scWO.nd (by exact (pi_enumT (by rfl) T.enumerate (pa_cons (pv 0) pa_nil))) (blkOk_by (N := ["word", "left", "letter", "i", "one", "total", "start", "place", "index", "is_ahead"]) (sc := { kind := .function, names := [((".0" : Str), .local), ("letter", .cell), ("enumerate", .globalImplicit), ("word", .cell)], isGenerator := false, isCoroutine := false, more := [] }) (by decide +kernel)) (fun _ _ _ _ _ => pg_tup rfl (pgs_cons (pg_name (i := 3) scWO.nd rfl (Or.inl rfl)) (pgs_cons (pg_name (i := 4) scWO.nd rfl (Or.inl rfl)) pgs_nil))) (fun _ _ _ _ _ => pts_one (pt_cmpR op_eq (pv 4) (pv 2) (nomark _))) (fun _ _ _ _ _ => by exact (pv 3)))))
      (pss_cons (ps_set (i := 5) scWO.nd rfl (Or.inl rfl) pe_int)
      (pss_cons (ps_for PassesOwn.never rfl (pi_list (Gd.pe_revL (pe_dget2 hu1 (pv 1) pe_int (pe_lst pa_nil) ⟨rfl, by rfl, rfl, rfl⟩))) (pg_name (i := 6) scWO.nd rfl (Or.inl rfl)) (pss_cons (ps_par3 (i := 7) (j := 8) (l := 2) (by rfl) scWO.nd rfl rfl rfl (by decide) (by decide) (by decide) rfl rfl rfl (pa_cons (pv 6) (pa_cons pe_int (pa_cons pe_int pa_nil))) (by rfl))
      (pss_one (ps_while PassesOwn.never (pt_cmpR op_gt (pe_callB call_len_seq (by rfl) T.len PySem.boot_len (pa_cons (pe_dget2 hu1 (pv 1) (pv 2) (pe_lst pa_nil) ⟨rfl, by rfl, rfl, rfl⟩) pa_nil)) pe_int (nomark _)) (pss_cons (ps_asg (pe_def Nx hr (by decide) (by rfl) (pa_cons (pe_dget hu1 (pv 1) (pv 2) (fun _ _ => rfl)) (pa_cons (pv 7) pa_nil))) (pg_tup rfl (pgs_cons (pg_name (i := 7) scWO.nd rfl (Or.inl rfl)) (pgs_cons (pg_name (i := 9) scWO.nd rfl (Or.inl rfl)) pgs_nil))))
      (pss_cons (ps_expr (pe_bm PySem.F.plainAttrs_list PySem.F.slot_list_remove PySem.F.type_list_remove mt_remove (pe_dget hu1 (pv 1) (pv 2) (fun _ _ => rfl)) (pa_cons (pv 7) pa_nil)))
      (pss_cons (ps_set (i := 8) scWO.nd rfl (Or.inl rfl) (pe_ifExp (pt_val (pv 9)) (pv 8) (pe_op op_add (pv 8) pe_int)))
      (pss_cons (ps_set (i := 5) scWO.nd rfl (Or.inl rfl) (pe_op op_add (pv 5) (pv 8)))
      (pss_one (ps_aug (i := 2) scWO.nd rfl (Or.inl rfl) pe_int ip_add))))))))))
      (pss_one (ps_ret (pv 5))))), ?_⟩
    try dsimp only [cx_nox, cx_K]
    have sz : (100000 : Nat) < sizeLine := by decide
    refine g_seq (g_asg ?_)
    unfold tDc
    refine g_itup ?_
    walk_at "rd"
    refine ⟨a, rfl, ⟨_, hs⟩, fun D hD => dc_tup (xs := ws.map V.int) (fun i H' => Ext H H' ∧ ∃ A : Int → Addr, DW H H' D ws.length (Kn.wd ws) A (ws.take i) ∧ ((1 : Int) ∈ ws.take i → H' (A 1) = some (.lst ((Kn.iz (Kn.pos (Kn.wd ws) ws.length 1)).map V.int))) ∧ ∃ kvs : List (L2.Key × V), H' D = some (.dK kvs) ∧ kvs.length ≤ i) ⟨Ext.new hD, fun _ => 0, ⟨⟨[], upd_same, fun l h => by simp at h, fun l _ => rfl⟩, fun l h => by simp at h, fun l h => by simp at h, fun l h => by simp at h, fun l m h => by simp at h⟩, fun h => by simp at h, [], upd_same, Nat.le_refl _⟩ (fun i H2 _ p => sqT_ext p.1 hs) (fun i x H2 hx p => ?_) (fun H2 p => ?_)⟩
    · rw [mapget] at hx
      obtain ⟨l, hl2, rfl⟩ := Option.map_eq_some_iff.mp hx
      have hlt : i < ws.length := (List.getElem?_eq_some_iff.mp hl2).1
      obtain ⟨e2, A, dw, h1, kvs, hk1, hk2⟩ := p
      refine ⟨rfl, ?_⟩
      walk_at "rd"
      refine g_lc (g_enu ?_)
      walk_at "rd"
      refine lcE (sqT_ext e2 hs) (by rw [List.length_map]; omega) (fun _ v => cL l v) (fun i _ => V.int ((i : Nat) : Int)) (fun j v H' hi e Qe Qn he hn => ?_) (fun H3 Dl e3 hDl hd => ?_)
      · rw [mapget] at hi
        obtain ⟨z, hz, rfl⟩ := Option.map_eq_some_iff.mp hi
        refine ⟨rfl, ?_⟩
        walk_at "rd"
        by_cases h2 : z = l
        · rw [decide_eq_true h2]
          walk_at "rd"
          exact he _ (fun _ _ z => z) (decide_eq_true h2)
        · rw [decide_eq_false h2]
          walk_at "rd"
          exact hn _ (fun _ _ z => z) (decide_eq_false h2)
      rw [List.length_map, idx_pos] at hd
      have old : ∀ m, m ∈ ws.take i → H2 (A m) = some (.lst ((Kn.iz (Kn.pos (Kn.wd ws) ws.length m)).map V.int)) := fun m hm => by
        by_cases z : m = 1
        · subst z
          exact h1 hm
        · exact dw.at_ m hm z
      obtain ⟨kvs0, g1, g2, g3⟩ := dw.ex
      obtain rfl : kvs0 = kvs := by
        rw [hk1] at g1
        injection g1 with g1
        injection g1 with g1
        exact g1.symm
      have nDl : Dl ≠ D := fun z => by
        rw [z, hk1] at hDl
        cases hDl
      have tk : ∀ m, m ∈ ws.take (i + 1) ↔ m ∈ ws.take i ∨ m = l := fun m => by
        rw [List.take_add_one, hl2]
        simp
      have nA : ∀ m, m ∈ ws.take i → A m ≠ Dl := fun m hm z => by
        have := old m hm
        rw [z, hDl] at this
        cases this
      refine ⟨kvs0, Sum.inl l, rfl, e3 _ _ hk1, by omega, fun c o q => ?_, fun m => if m = l then Dl else A m, ⟨⟨_, upd_same, fun m hm => ?_, fun m hm => ?_⟩, fun m hm z => ?_, fun m hm => ?_, fun m hm => ?_, fun m m2 hm hm2 z => ?_⟩, fun hm => ?_, _, upd_same, Nat.le_trans (length_putK _ _ _) (by omega)⟩
      · rw [upd_ne (ne_of_none q hD)]
        exact e3 _ _ (e2 c o q)
      · rw [valV_put]
        by_cases y : m = l
        · rw [if_pos (by rw [y]), if_pos y]
        · rw [if_neg (fun z => y (by injection z)), if_neg y]
          exact g2 m (((tk m).mp hm).resolve_right y)
      · rw [valV_put, if_neg (fun z => hm ((tk m).mpr (.inr (by injection z))))]
        exact g3 m (fun z => hm ((tk m).mpr (.inl z)))
      · by_cases y : m = l
        · subst y
          rw [if_pos rfl, upd_ne nDl]
          exact hd
        · rw [if_neg y]
          have hm := ((tk m).mp hm).resolve_right y
          rw [upd_ne (dw.nd m hm)]
          exact e3 _ _ (old m hm)
      · by_cases y : m = l
        · rw [if_pos y]
          exact nDl
        · rw [if_neg y]
          exact dw.nd m (((tk m).mp hm).resolve_right y)
      · by_cases y : m = l
        · rw [if_pos y]
          exact none_ofX e2 hDl
        · rw [if_neg y]
          exact dw.nw m (((tk m).mp hm).resolve_right y)
      · by_cases y : m = l
        · by_cases y2 : m2 = l
          · rw [y, y2]
          · rw [if_pos y, if_neg y2] at z
            exact absurd z.symm (nA m2 (((tk m2).mp hm2).resolve_right y2))
        · by_cases y2 : m2 = l
          · rw [if_neg y, if_pos y2] at z
            exact absurd z (nA m (((tk m).mp hm).resolve_right y))
          · rw [if_neg y, if_neg y2] at z
            exact dw.inj m m2 (((tk m).mp hm).resolve_right y) (((tk m2).mp hm2).resolve_right y2) z
      · dsimp only
        by_cases y : (1 : Int) = l
        · rw [if_pos y, upd_ne nDl, hd, ← y]
        · rw [if_neg y]
          have hm := ((tk 1).mp hm).resolve_right y
          rw [upd_ne (dw.nd 1 hm)]
          exact e3 _ _ (old 1 hm)
    · obtain ⟨e, A, dw, h1, _⟩ := p
      rw [List.length_map, List.take_length] at dw h1
      clear hD
      refine g_name ?_
      dsimp only
      have hw : ∀ j, j < ws.length → 1 ≤ Kn.wd ws j := fun j hj => by
        unfold Kn.wd
        rw [List.getD_eq_getElem?_getD, List.getElem?_eq_getElem hj]
        exact hp _ (List.getElem_mem hj)
      have hsup : Kn.Sup (Kn.wd ws) ws.length := fun j hj => by
        unfold Kn.wd
        rw [List.getD_eq_getElem?_getD, List.getElem?_eq_none hj]
        rfl
      have hmem : ∀ (v : Kn.W) (l : Int), Kn.Sub v (Kn.wd ws) → Kn.Sup v ws.length → 1 ≤ l → l ∉ ws → Kn.pos v ws.length l = [] := fun v l hs1 hs2 h1 hl => by
        refine List.filter_eq_nil_iff.mpr fun j hj z => hl ?_
        have hj := List.mem_range.mp hj
        have z := of_decide_eq_true z
        have e := hs1.at z h1
        unfold Kn.wd at e
        rw [List.getD_eq_getElem?_getD, List.getElem?_eq_getElem hj] at e
        rw [← e]
        exact List.getElem_mem hj
      generalize hP1 : Kn.pos (Kn.wd ws) ws.length 1 = P1 at h1
      have aP1 : P1.Pairwise (· < ·) := by rw [← hP1]; exact Kn.asc_pos
      have lP1 : P1.length ≤ ws.length := by rw [← hP1]; exact Nat.le_trans (List.length_filter_le _ _) (by rw [List.length_range]; omega)
      walk_at "rd"
      refine g_forL ?_
      refine g_revL ?_
      refine g_getD dw (l := 1) (fun Q' q => g_var rfl q) (fun Q' q => g_c q) (fun H3 s e3 k1 k2 => ?_)
      have hs3 : H3 s = some (.lst ((Kn.iz P1).map V.int)) := by
        by_cases h : (1 : Int) ∈ ws
        · rw [k1 h]
          exact e3 _ _ (h1 h)
        · rw [k2 h, ← hP1, hmem _ 1 (fun _ => .inr rfl) hsup (by decide) h]
          rfl
      refine ⟨s, _, rfl, SqL.of hs3, fun R nR => ?_⟩
      have e4 := Ext.trans e3 (Ext.new (o := HO.lst ((Kn.iz P1).map V.int).reverse) nR)
      have dw4 := dw.ext e4
      have hR : upd H3 R (.lst ((Kn.iz P1).map V.int).reverse) R = some (.lst ((Kn.iz P1).map V.int).reverse) := upd_same
      have nAR : ∀ l, l ∈ ws → l ≠ 1 → A l ≠ R := fun l hl hn z => by
        have := e3 _ _ (dw.at_ l hl hn)
        rw [z, nR] at this
        cases this
      have nRH : H R = none := none_ofX (Ext.trans e e3) nR
      have e5 := Ext.trans e e4
      generalize upd H3 R (.lst ((Kn.iz P1).map V.int).reverse) = H4 at dw4 hR e5
      clear hs3 k1 k2 e3 e4 nR dw h1 e
      refine forL (SqL.of hR) (fun i σ H' => ∃ (v : Kn.W) (tot : Nat) (x2 x6 x7 x8 x9 : Option V), σ = [some (.ref a), some (.ref D), x2, none, none, some (.int (tot : Int)), x6, x7, x8, x9] ∧ Ext H H' ∧ DW H H' D ws.length v A ws ∧ H' R = some (.lst ((Kn.iz P1).map V.int).reverse) ∧ Kn.Sub v (Kn.wd ws) ∧ Kn.Sup v ws.length ∧
        Kn.Reach (.idle (Kn.wd ws) 0) (.idle v tot) ∧ Kn.pos v ws.length 1 = P1.take (P1.length - i)) ⟨Kn.wd ws, 0, _, _, _, _, _, rfl, e5, dw4, hR, fun _ => .inr rfl, hsup, .refl, by rw [hP1, Nat.sub_zero, List.take_length]⟩ (fun i σ H' _ p => ?_) (fun i x σ H' hx p => ?_) (fun σ H' p => ?_)
      · obtain ⟨_, _, _, _, _, _, _, _, _, _, h, _⟩ := p
        exact SqL.of h
      · obtain ⟨v, tot, x2, x6, x7, x8, x9, rfl, e, dw, hR, hsub, hsp, hre, hpos⟩ := p
        have hi : i < P1.length := by
          have := (List.getElem?_eq_some_iff.mp hx).1
          rw [List.length_reverse, List.length_map, Kn.iz_len] at this
          exact this
        obtain ⟨j, hj⟩ : ∃ j, P1.length - i = j + 1 := ⟨P1.length - i - 1, by omega⟩
        have hjl : j < P1.length := by omega
        have ex : x = V.int ((P1[j] : Nat) : Int) := by
          rw [List.getElem?_reverse (by rw [List.length_map, Kn.iz_len]; exact hi)] at hx
          rw [List.length_map, Kn.iz_len, show P1.length - 1 - i = j by omega, List.getElem?_map, Kn.iz_at.mpr (List.getElem?_eq_getElem hjl)] at hx
          exact (Option.some.inj hx).symm
        subst ex
        rw [hj] at hpos
        have hmx := take_max hjl aP1
        rw [← hpos] at hmx
        have hlast := Kn.last_max hsp (by decide) hmx.1 hmx.2
        have hst : Kn.Step (.idle v tot) (.at (Kn.put v P1[j]) P1[j] 0 2 tot) := .begin hlast.1 hlast.2
        refine g_name ?_
        dsimp only
        refine g_seq ?_
        refine g_par3 ?_
        walk_at "rd"
        refine ⟨_, _, _, rfl, ?_⟩
        dsimp only
        have hpos2 : Kn.pos (Kn.put v P1[j]) ws.length 1 = P1.take j := by
          rw [Kn.pos_put (by decide), hpos]
          exact take_filter hjl aP1
        have hji : P1.length - (i + 1) = j := by omega
        have dw2 : DW H H' D ws.length (Kn.put v P1[j]) A ws := ⟨dw.ex, fun l hl hn => by rw [dw.at_ l hl hn, Kn.pos_other (hp l hl) (by rw [hlast.1]; exact fun z => hn z.symm)], dw.nd, dw.nw, dw.inj⟩
        have hre2 := hre.tail hst
        have hsub2 := hsub.put P1[j]
        have hsp2 := hsp.put P1[j]
        generalize hst2 : P1[j] = st at *
        generalize Kn.put v st = u at hpos2 dw2 hre2 hsub2 hsp2
        clear hst hlast hmx hpos dw hre hsub hsp hx
        refine ⟨fun m σ H' => ∃ (v : Kn.W) (p x tot : Nat) (l : Int) (x9 : Option V), m = (Kn.rem v ws.length).length ∧ σ = [some (.ref a), some (.ref D), some (.int l), none, none, some (.int (tot : Int)), some (.int (st : Int)), some (.int (p : Int)), some (.int (x : Int)), x9] ∧ Ext H H' ∧ DW H H' D ws.length v A ws ∧ H' R = some (.lst ((Kn.iz P1).map V.int).reverse) ∧
          Kn.Sub v (Kn.wd ws) ∧ Kn.Sup v ws.length ∧ 2 ≤ l ∧ Kn.Reach (.idle (Kn.wd ws) 0) (.at v p x l tot) ∧ Kn.pos v ws.length 1 = P1.take j, ⟨_, u, st, 0, tot, 2, _, rfl, rfl, e, dw2, hR, hsub2, hsp2, by decide, hre2, hpos2⟩, ?_⟩
        clear dw2 hpos2 hre2 hsub2 hsp2 e hR
        rintro m σ H5 ⟨v, p, x, tot, l, x9, rfl, rfl, e, dw, hR, hsub, hsp, hl2, hre, hpos⟩
        walk_at "rd"
        refine g_getD dw (fun Q' q => g_var rfl q) (fun Q' q => g_var rfl q) (fun H6 s2 e6 k1 k2 => ?_)
        have hs6 : H6 s2 = some (.lst ((Kn.iz (Kn.pos v ws.length l)).map V.int)) := by
          by_cases h : l ∈ ws
          · rw [k1 h]
            exact e6 _ _ (dw.at_ l h (by omega))
          · rw [k2 h, hmem v l hsub hsp (by omega) h]
            rfl
        have dw6 := dw.ext e6
        have hR6 := e6 _ _ hR
        have e7 := Ext.trans e e6
        clear k1 k2 dw hR e e6
        have hlp : (Kn.pos v ws.length l).length ≤ ws.length := Nat.le_trans (List.length_filter_le _ _) (by rw [List.length_range]; omega)
        walk_at "rd"
        refine ⟨s2, _, rfl, .inl (SqL.of hs6), ?_⟩
        walk_at "rd"
        rw [List.length_map, Kn.iz_len]
        by_cases hone : Kn.pos v ws.length l = []
        · rw [hone, decide_eq_false (show ¬ (0 : Int) < (([] : List Nat).length : Int) by decide)]
          walk_at "rd"
          exact ⟨v, tot, _, _, _, _, _, rfl, e7, dw6, hR6, hsub, hsp, hre.tail (.done (Kn.none_nil hsp (by omega) hone)), by rw [hji]; exact hpos⟩
        have hpos0 : 0 < (Kn.pos v ws.length l).length := List.length_pos_iff.mpr hone
        have hlw : l ∈ ws := by
          by_cases h : l ∈ ws
          · exact h
          · exact absurd (hmem v l hsub hsp (by omega) h) hone
        rw [decide_eq_true (show (0 : Int) < ((Kn.pos v ws.length l).length : Int) by omega)]
        walk_at "rd"
        refine ⟨_, fun σ' H' h => h, ?_⟩
        walk_at "rd"
        refine g_dget ?_
        walk_at "rd"
        refine ⟨D, _, rfl, dw6.get hlw, ?_⟩
        walk_at "rd"
        have hal := dw6.at_ l hlw (by omega)
        refine ⟨A l, Kn.pos v ws.length l, p, rfl, SqL.of hal, Kn.asc_pos, hpos0, by omega, fun H7 t q b e8 ht hcs => ?_⟩
        walk_at "rd"
        refine ⟨t, _, rfl, ht, rfl, _, _, rfl, ?_⟩
        refine ⟨_, _, rfl, rfl, ?_⟩
        have dw7 := dw6.ext e8
        have hR7 := e8 _ _ hR6
        have e9 := Ext.trans e7 e8
        have hal7 := e8 _ _ hal
        clear dw6 hR6 e7 e8 hal hs6
        have hq : q ∈ Kn.pos v ws.length l := by
          rcases hcs with ⟨_, h, _⟩ | ⟨_, _, h, _⟩
          · exact (List.mem_filter.mp h).1
          · exact h
        have hst : Kn.Step (.at v p x l tot) (.at (Kn.put v q) q (if b = true then x else x + 1) (l + 1) (tot + (if b = true then x else x + 1))) := by
          rcases hcs with ⟨rfl, h, h2⟩ | ⟨rfl, h0, h, h2⟩
          · exact .ahead (Kn.ahead_max hsp (by omega) h h2)
          · exact .behind (Kn.behind_max hsp (by omega) h0 h h2)
        have hqv := (Kn.mem_pos.mp hq).2
        have hqr : q ∈ Kn.rem v ws.length := Kn.mem_rem.mpr ⟨(Kn.mem_pos.mp hq).1, by omega⟩
        have hlen2 := Kn.len_filter_ne hqr
        rw [← Kn.rem_put (v := v)] at hlen2
        obtain ⟨j2, hj1, hj2, hj3⟩ := Kn.erase_at Kn.asc_pos hq
        walk_at "rd"
        refine g_dget ?_
        walk_at "rd"
        refine ⟨D, _, rfl, dw7.get hlw, ?_⟩
        refine ⟨.inl ⟨rfl, _, SqL.of hal7⟩, ?_⟩
        walk_at "rd"
        refine ⟨A l, _, _, j2, rfl, rfl, hal7, Kn.iz_at.mpr hj1, fun m hm z => hj2 m hm (Kn.iz_at.mp z), ?_⟩
        rw [Kn.iz_erase, hj3, ← Kn.pos_put (by omega)]
        have dw8 := dw7.take hp hlw hqv
        have e10 : Ext H (upd H7 (A l) (.lst ((Kn.iz (Kn.pos (Kn.put v q) ws.length l)).map V.int))) := fun c o y => by
          rw [upd_ne (fun z => by rw [z, dw7.nw l hlw] at y; cases y)]
          exact e9 c o y
        have hR8 : upd H7 (A l) (.lst ((Kn.iz (Kn.pos (Kn.put v q) ws.length l)).map V.int)) R = some (.lst ((Kn.iz P1).map V.int).reverse) := by
          rw [upd_ne (fun z => nAR l hlw (by omega) z.symm)]
          exact hR7
        generalize upd H7 (A l) (.lst ((Kn.iz (Kn.pos (Kn.put v q) ws.length l)).map V.int)) = H8 at dw8 e10 hR8
        dsimp only
        have hpos8 : Kn.pos (Kn.put v q) ws.length 1 = P1.take j := by
          rw [Kn.pos_other (by decide) (by omega)]
          exact hpos
        have hre8 := hre.tail hst
        refine g_cut (fun σ H' => σ = [some (.ref a), some (.ref D), some (.int l), none, none, some (.int (tot : Int)), some (.int (st : Int)), some (.int (q : Int)), some (.int ((if b = true then x else x + 1 : Nat) : Int)), some (.bl b)] ∧ H' = H8) (fun σ' H9 hN => ?_) (fun go => ?_)
        rotate_left
        · walk_at "rd"
          cases b with
          | true =>
            refine iteT ?_
            refine g_var rfl (g_name ?_)
            exact go _ _ ⟨rfl, rfl⟩
          | false =>
            refine iteF ?_
            refine g_op (g_var rfl (g_c (g_I0 (g_name ?_))))
            exact go _ _ ⟨rfl, rfl⟩
        obtain ⟨rfl, rfl⟩ := hN
        walk_at "rd"
        refine ⟨l, 1, rfl, rfl, ?_⟩
        exact ⟨_, hlen2, Kn.put v q, q, _, _, l + 1, _, rfl, rfl, e10, dw8, hR8, hsub.put q, hsp.put q, by omega, hre8, hpos8⟩
      · obtain ⟨v, tot, x2, x6, x7, x8, x9, rfl, e, dw, hR, hsub, hsp, hre, hpos⟩ := p
        rw [List.length_reverse, List.length_map, Kn.iz_len, Nat.sub_self, List.take_zero] at hpos
        walk_at "rd"
        exact k _ tot e ⟨v, hre, Kn.none_nil hsp (by decide) hpos⟩
end
end

/-! The words beside a word. -/

section
open PySem PySem.Spec PyProof.Rows L2 Gd
/-- one exchange of two neighbours beside a third one -/
def Kin (ws vs : List Int) : Prop := ∃ pre a b c post, ws = pre ++ a :: b :: c :: post ∧
  ((vs = pre ++ a :: c :: b :: post ∧ ((b < a ∧ a ≤ c) ∨ (c < a ∧ a ≤ b))) ∨ (vs = pre ++ b :: a :: c :: post ∧ ((a ≤ c ∧ c < b) ∨ (b ≤ c ∧ c < a))))
theorem Kin.perm {ws vs : List Int} (h : Kin ws vs) : vs.Perm ws := by
  obtain ⟨pre, a, b, c, post, rfl, h | h⟩ := h
  · obtain ⟨rfl, _⟩ := h
    exact List.Perm.append_left pre (List.Perm.cons a (List.Perm.swap b c post))
  · obtain ⟨rfl, _⟩ := h
    exact List.Perm.append_left pre (List.Perm.swap a b _)
theorem Kin.charge {ws vs : List Int} (h : Kin ws vs) (p : ∀ x ∈ ws, 1 ≤ x) {N M : Nat} (k : Kn.Charge (Kn.wd ws) N) (k' : Kn.Charge (Kn.wd vs) M) : N = M := by
  obtain ⟨pre, a, b, c, post, rfl, h | h⟩ := h
  · obtain ⟨rfl, h⟩ := h
    exact Kn.kn_right (p b (by simp)) (p c (by simp)) h k k'
  · obtain ⟨rfl, h⟩ := h
    exact Kn.kn_left (p a (by simp)) (p b (by simp)) h k k'
def KinT (K : PySem.W.Frag) (H : Hp) (ws : List Int) (v : V) : Prop := ∃ t vs, v = .ref t ∧ TupX K H t ((vs : List Int).map V.int) ∧ Kin ws vs
theorem KinT.keeps {K : PySem.W.Frag} {H H' : Hp} {ws : List Int} {v : V} (e : Keeps H H') (h : KinT K H ws v) : KinT K H' ws v := by
  obtain ⟨t, vs, rfl, ht, hk⟩ := h
  exact ⟨t, vs, rfl, TupX.keeps e ht, hk⟩
theorem three {ws : List Int} {i : Nat} (h : i + 2 < ws.length) : ∃ pre a b c post, ws = pre ++ a :: b :: c :: post ∧ pre.length = i := by
  refine ⟨ws.take i, ws[i], ws[i+1], ws[i+2], ws.drop (i + 3), ?_, by rw [List.length_take]; omega⟩
  rw [List.getElem_cons_drop, List.getElem_cons_drop, List.getElem_cons_drop, List.take_append_drop]
theorem cut_pre (pre l : List V) : cutV (pre ++ l) none (some (pre.length : Int)) = pre := by
  unfold cutV
  rw [HT.sIx_none, HT.sIx_nat, List.drop_zero, List.length_append, Nat.min_eq_left (by omega), Nat.sub_zero, List.take_left]
theorem cut_mid (pre post : List V) (a b c : V) : cutV (pre ++ a :: b :: c :: post) (some (pre.length : Int)) (some ((pre.length : Int) + 3)) = [a, b, c] := by
  unfold cutV
  have e : ((pre.length : Int) + 3) = ((pre.length + 3 : Nat) : Int) := by omega
  rw [e, HT.sIx_nat, HT.sIx_nat, List.length_append, List.length_cons, List.length_cons, List.length_cons, Nat.min_eq_left (by omega), Nat.min_eq_left (by omega), List.drop_left, show pre.length + 3 - pre.length = 3 by omega]
  rfl
theorem cut_post (pre post : List V) (a b c : V) : cutV (pre ++ a :: b :: c :: post) (some ((pre.length : Int) + 3)) none = post := by
  unfold cutV
  have e : ((pre.length : Int) + 3) = ((pre.length + 3 : Nat) : Int) := by omega
  rw [e, HT.sIx_nat, HT.sIx_none, List.length_append, List.length_cons, List.length_cons, List.length_cons, Nat.min_eq_left (by omega)]
  have : pre ++ a :: b :: c :: post = (pre ++ [a, b, c]) ++ post := by simp
  rw [this, show pre.length + 3 = (pre ++ [a, b, c]).length by simp, List.drop_left, List.take_of_length_le]
  simp
  omega
theorem g_slA {K : PySem.W.Frag} {lo hi : Option Int} {H : Hp} {Q : VK} {a : Addr} {xs : List V} (h : SqT K H a xs) (k : ∀ H' p, Ext H H' → SqT K H' p (cutV xs lo hi) → Q (.ref p) H') : rSlA K (.ref a) lo hi H Q := by
  refine ⟨a, xs, rfl, h, fun z => ?_, fun _ p np => k _ p (Ext.new np) (SqT.of upd_same)⟩
  refine k H a (fun _ _ z => z) ?_
  have : cutV xs lo hi = xs := by
    unfold cutV
    rw [z.1, z.2, List.drop_zero, Nat.sub_zero, List.take_length]
  rw [this]
  exact h
theorem keepsE {H H' : Hp} (e : Ext H H') : Keeps H H' := fun b o _ q => e b o q
/-- one word more -/
theorem app_word {K : PySem.W.Frag} {D : Ends} {H0 H : Hp} {a r : Addr} {i : Nat} {s3 s4 s5 : Option V} {pre post : List Int} {x y z u v w : Int} {ks : List V} {tx : TE} (e : Ext H0 H) (nr : H0 r = none) (ha : TupX K H0 a ((pre ++ x :: y :: z :: post).map V.int)) (hi : i = pre.length) (hpl : pre.length ≤ 100) (hpo : post.length ≤ 100) (hr : H r = some (.lst ks)) (hk : ks.length ≤ 1000) (σ : L2.St)
    (hσ : σ = [some (.ref a), some (.ref r), some (.int (i : Int)), s3, s4, s5])
    (htx : ∀ H' Q', Ext H H' → (∀ p H'', Ext H' H'' → TupX K H'' p [V.int u, V.int v, V.int w] → Q' (.ref p) H'') → tx σ H' Q')
    (k : ∀ H' t, Ext H0 H' → Keeps H H' → H' r = some (.lst (ks ++ [.ref t])) → TupX K H' t ((pre ++ u :: v :: w :: post).map V.int) → D.nx σ H') :
    tDrop (tBM K "list" rAppend (tVar 1) (tCons (tOp (rCatX K) (tOp (rCatX K) (tSl (rSlX K) (tVar 0) tNoPart (tPart (tVar 2))) tx) (tSl (rSlX K) (tVar 0) (tPart (tOp (rI0 fun i j => V.int (i + j)) (tVar 2) (tC (V.int 3)))) tNoPart)) tNil)) D σ H := by
  have sz : (100000 : Nat) < sizeLine := by decide
  subst hσ
  subst hi
  have eV : (pre ++ x :: y :: z :: post).map V.int = pre.map V.int ++ V.int x :: V.int y :: V.int z :: post.map V.int := by simp
  have lV : (pre.map V.int).length = pre.length := List.length_map _
  have ha2 := ha.ext e
  rw [eV] at ha2
  walk_at "rd"
  refine ⟨.inl ⟨rfl, _, SqL.of hr⟩, ?_⟩
  walk_at "rd"
  refine g_slX ha2.sq (fun z => ?_) (fun H1 p1 e1 h1 => ?_)
  · have z := z.2
    rw [HT.sIx_nat, List.length_append, lV] at z
    simp at z <;> omega
  have := cut_pre (pre.map V.int) (V.int x :: V.int y :: V.int z :: post.map V.int)
  rw [lV] at this
  rw [this] at h1
  refine htx _ _ e1 (fun p2 H2 e2 h2 => ?_)
  refine ⟨p1, p2, _, _, rfl, rfl, h1.ext e2, h2, ?_, fun H3 p3 e3 h3 => ?_⟩
  · simp <;> omega
  walk_at "rd"
  refine g_slX (sqT_ext (Ext.trans e1 (Ext.trans e2 e3)) ha2.sq) (fun z => ?_) (fun H4 p4 e4 h4 => ?_)
  · have z := z.1
    have e' : ((pre.length : Int) + 3) = ((pre.length + 3 : Nat) : Int) := by omega
    rw [e', HT.sIx_nat, List.length_append, lV] at z
    simp at z <;> omega
  have := cut_post (pre.map V.int) (post.map V.int) (V.int x) (V.int y) (V.int z)
  rw [lV] at this
  rw [this] at h4
  refine ⟨p3, p4, _, _, rfl, rfl, h3.ext e4, h4, ?_, fun H5 p5 e5 h5 => ?_⟩
  · simp <;> omega
  have e6 := Ext.trans e1 (Ext.trans e2 (Ext.trans e3 (Ext.trans e4 e5)))
  have hr5 := e6 _ _ hr
  walk_at "rd"
  refine ⟨r, ks, _, rfl, rfl, hr5, by omega, ?_⟩
  refine k _ p5 (fun b o q => ?_) (Keeps.trans (keepsE e6) (Keeps.up hr5)) upd_same (TupX.keeps (Keeps.up hr5) ?_)
  · rw [upd_ne (ne_of_none q nr)]
    exact e6 _ _ (e b o q)
  · have : (pre ++ u :: v :: w :: post).map V.int = pre.map V.int ++ [V.int u, V.int v, V.int w] ++ post.map V.int := by simp
    rw [this]
    exact h5
theorem g_kt {R S : Int → Int → Prop} [iR : ∀ i j, Decidable (R i j)] [iS : ∀ i j, Decidable (S i j)] {p1 p2 p3 p4 p5 p6 : Nat} {u v w u' v' w' : Int} {σ : L2.St} {H : Hp} {QT : Bool → Hp → Prop} (h1 : σ[p1]? = some (some (.int u))) (h2 : σ[p2]? = some (some (.int v))) (h3 : σ[p3]? = some (some (.int w)))
    (h4 : σ[p4]? = some (some (.int u'))) (h5 : σ[p5]? = some (some (.int v'))) (h6 : σ[p6]? = some (some (.int w'))) (ky : (R u v ∧ S v w) ∨ (R u' v' ∧ S v' w') → QT true H) (kn : ¬ ((R u v ∧ S v w) ∨ (R u' v' ∧ S v' w')) → QT false H) :
    tOr (tTest (tChain (rI0 fun i j => V.bl (decide (R i j))) (rI0 fun i j => V.bl (decide (S i j))) (tVar p1) (tVar p2) (tVar p3))) (tTest (tChain (rI0 fun i j => V.bl (decide (R i j))) (rI0 fun i j => V.bl (decide (S i j))) (tVar p4) (tVar p5) (tVar p6))) σ H QT := by
  have snd : ¬ (R u v ∧ S v w) → tTest (tChain (rI0 fun i j => V.bl (decide (R i j))) (rI0 fun i j => V.bl (decide (S i j))) (tVar p4) (tVar p5) (tVar p6)) σ H QT := fun n => by
    refine g_test (g_chain (g_var h4 (g_var h5 (g_I0 ⟨_, rfl, ?_⟩))))
    by_cases c1 : R u' v'
    · rw [decide_eq_true c1]
      refine iteT (g_var h6 (g_I0 ⟨_, rfl, ?_⟩))
      by_cases c2 : S v' w'
      · rw [decide_eq_true c2]
        exact ky (.inr ⟨c1, c2⟩)
      · rw [decide_eq_false c2]
        exact kn fun z => z.elim n fun z => c2 z.2
    · rw [decide_eq_false c1]
      exact iteF ⟨_, rfl, kn fun z => z.elim n fun z => c1 z.1⟩
  refine g_or (g_test (g_chain (g_var h1 (g_var h2 (g_I0 ⟨_, rfl, ?_⟩)))))
  by_cases c1 : R u v
  · rw [decide_eq_true c1]
    refine iteT (g_var h3 (g_I0 ⟨_, rfl, ?_⟩))
    by_cases c2 : S v w
    · rw [decide_eq_true c2]
      exact iteT (ky (.inl ⟨c1, c2⟩))
    · rw [decide_eq_false c2]
      exact iteF (snd fun z => c2 z.2)
  · rw [decide_eq_false c1]
    exact iteF ⟨_, rfl, iteF (snd fun z => c1 z.1)⟩
section
variable {P : Program} {w : World} {K : PySem.W.Frag} {mg : Str → Option Value} {base : Heap} {f : Addr} {fd : FuncData}
abbrev sKin : Stmt := top 32
theorem scKin : FnScope ["_law_word", "_law_found", "_law_at", "_law_one", "_law_two", "_law_three"] ["_law_word"] (defScope sKin) := ⟨rfl, rfl, rfl, by decide +kernel, rfl, by decide +kernel, by decide +kernel⟩
def spKin (K : PySem.W.Frag) : Sp := fun vs H Q _ => ∃ (a : Addr) (ws : List Int), vs = [.ref a] ∧ TupX K H a (ws.map V.int) ∧ ws.length ≤ 100 ∧ ∀ H' r ks, Ext H H' → H r = none → H' r = some (.lst ks) → ks.length ≤ 1000 → (∀ v ∈ ks, KinT K H' ws v) → Q (.ref r) H'
theorem ok_kin (F : Fun K "_law_kin_words" "_law_kin_words" sKin f fd) (T : Txt K mg) : FnOk P w K mg base CX0 1 f fd ["_law_word"] (spKin K) := by
  refine F.ok scKin (fun vs H Q E h => ?_) (fun cdv A outer s H vs Q E hr h => ?_)
  · obtain ⟨a, ws, rfl, _⟩ := h
    rfl
  · obtain ⟨a, ws, rfl, ha, hl, k⟩ := h
    refine ⟨_, pss_cons (ps_set (i := 1) scKin.nd rfl (Or.inl rfl) (pe_lst pa_nil))
      (pss_cons (ps_for PassesOwn.never rfl (pi_range1 (by rfl) T.range (pa_cons (pe_op op_sub (pe_callB call_len_seq (by rfl) T.len PySem.boot_len (pa_cons (pv 0) pa_nil)) pe_int) pa_nil)) (pg_name (i := 2) scKin.nd rfl (Or.inl rfl)) (pss_cons (ps_asg (pe_slice sl_tupA (pv 0) (po_some (pv 2)) (po_some (pe_op op_add (pv 2) pe_int))) (pg_tup rfl (pgs_cons (pg_name (i := 3) scKin.nd rfl (Or.inl rfl)) (pgs_cons (pg_name (i := 4) scKin.nd rfl (Or.inl rfl)) (pgs_cons (pg_name (i := 5) scKin.nd rfl (Or.inl rfl)) pgs_nil)))))
      (pss_cons (ps_if (PW.pt (pw_or (pt_chain op_lt op_le (pv 4) (pv 3) (pv 5)) (pw_or1 (pt_chain op_lt op_le (pv 5) (pv 3) (pv 4))))) (pss_one (ps_expr (pe_bm PySem.F.plainAttrs_list PySem.F.slot_list_append PySem.F.type_list_append mt_append (pv 1) (pa_cons (pe_op op_catX (pe_op op_catX (pe_slice sl_tupX (pv 0) po_none (po_some (pv 2))) (pe_tupX (pa_cons (pv 3) (pa_cons (pv 5) (pa_cons (pv 4) pa_nil))))) (pe_slice sl_tupX (pv 0) (po_some (pe_op op_add (pv 2) pe_int)) po_none)) pa_nil)))) pss_nil)
      (pss_one (ps_if (PW.pt (pw_or (pt_chain op_le op_lt (pv 3) (pv 5) (pv 4)) (pw_or1 (pt_chain op_le op_lt (pv 4) (pv 5) (pv 3))))) (pss_one (ps_expr (pe_bm PySem.F.plainAttrs_list PySem.F.slot_list_append PySem.F.type_list_append mt_append (pv 1) (pa_cons (pe_op op_catX (pe_op op_catX (pe_slice sl_tupX (pv 0) po_none (po_some (pv 2))) (pe_tupX (pa_cons (pv 4) (pa_cons (pv 3) (pa_cons (pv 5) pa_nil))))) (pe_slice sl_tupX (pv 0) (po_some (pe_op op_add (pv 2) pe_int)) po_none)) pa_nil)))) pss_nil)))))
      (pss_one (ps_ret (pv 1)))), ?_⟩
    try dsimp only [cx_nox, cx_K]
    have sz : (100000 : Nat) < sizeLine := by decide
    walk_at "rd"
    refine ⟨Nat.zero_le _, fun r nr => ?_⟩
    have e0 := Ext.new (o := HO.lst []) nr
    refine g_name ?_
    dsimp only
    refine g_seq (g_forR ?_)
    walk_at "rd"
    refine ⟨a, _, rfl, .inr (sqT_ext e0 ha.sq), ?_⟩
    walk_at "rd"
    rw [List.length_map]
    refine ⟨by omega, by omega, ?_⟩
    refine for_range (fun i σ H' => ∃ (x2 x3 x4 x5 : Option V) (ks : List V), σ = [some (.ref a), some (.ref r), x2, x3, x4, x5] ∧ Ext H H' ∧ H' r = some (.lst ks) ∧ ks.length ≤ 2 * i ∧ ∀ v ∈ ks, KinT K H' ws v) ⟨_, _, _, _, [], rfl, e0, upd_same, Nat.le_refl _, fun v hv => by cases hv⟩ ?_ ?_
    · rintro i σ H2 hi ⟨x2, x3, x4, x5, ks, rfl, e, hr2, hk2, hks⟩
      have hi2 : i + 2 < ws.length := by omega
      obtain ⟨pre, x, y, z, post, ew, el⟩ := three hi2
      have ewV : ws.map V.int = pre.map V.int ++ V.int x :: V.int y :: V.int z :: post.map V.int := by rw [ew]; simp
      have elV : (pre.map V.int).length = i := by rw [List.length_map, el]
      have lenV : (ws.map V.int).length = ws.length := List.length_map _
      have ha2 := ha.ext e
      rw [Int.zero_add] at *
      refine g_name ?_
      dsimp only
      refine g_seq ?_
      walk_at "rd"
      rw [ewV] at ha2
      refine g_slA ha2.sq (fun H3 p e3 h3 => ?_)
      have := cut_mid (pre.map V.int) (post.map V.int) (V.int x) (V.int y) (V.int z)
      rw [elV] at this
      rw [this] at h3
      refine ⟨p, _, rfl, h3, rfl, _, _, rfl, ?_⟩
      refine ⟨_, _, rfl, ?_⟩
      refine ⟨_, _, rfl, rfl, ?_⟩
      dsimp only
      have hr3 := e3 _ _ hr2
      have e4 := Ext.trans e e3
      have hks3 : ∀ v ∈ ks, KinT K H3 ws v := fun v hv => (hks v hv).keeps (keepsE e3)
      clear ha2 h3 this e e3 hr2 hks
      rw [ew] at ha
      have hl2 : pre.length + (post.length + 3) ≤ 100 := by
        rw [ew, List.length_append, List.length_cons, List.length_cons, List.length_cons] at hl
        omega
      refine g_cut (fun σ H' => σ = [some (.ref a), some (.ref r), some (.int (i : Int)), some (.int x), some (.int y), some (.int z)] ∧ ∃ ks', Ext H H' ∧ H' r = some (.lst ks') ∧ ks'.length ≤ 2 * i + 1 ∧ ∀ v ∈ ks', KinT K H' ws v) (fun σ' H4 hN => ?_) (fun go => ?_)
      rotate_left
      · refine g_seq (g_ifs ?_)
        refine g_kt rfl rfl rfl rfl rfl rfl (fun c => iteT ?_) (fun _ => iteF ?_)
        · refine app_word (u := x) (v := z) (w := y) e4 nr ha el.symm (by omega) (by omega) hr3 (by omega) _ rfl (fun H' Q' e5 q => ?_) (fun H' t e5 ke hr5 ht => ?_)
          · refine g_tupX ?_
            walk_at "rd"
            exact ⟨by show 3 ≤ sizeLine; omega, fun p o hp ho => q p _ (Ext.new hp) (TupX.new ho)⟩
          refine go _ _ ⟨rfl, _, e5, hr5, by rw [List.length_append, List.length_singleton]; omega, fun v hv => ?_⟩
          rcases List.mem_append.mp hv with hv | hv
          · exact (hks3 v hv).keeps ke
          · rw [List.mem_singleton] at hv
            exact ⟨t, _, hv, ht, pre, x, y, z, post, ew, .inl ⟨rfl, c⟩⟩
        · exact go _ _ ⟨rfl, _, e4, hr3, by omega, hks3⟩
      obtain ⟨rfl, ks', e5, hr5, hk5, hks5⟩ := hN
      refine g_ifs ?_
      refine g_kt rfl rfl rfl rfl rfl rfl (fun c => iteT ?_) (fun _ => iteF ?_)
      · refine app_word (u := y) (v := x) (w := z) e5 nr ha el.symm (by omega) (by omega) hr5 (by omega) _ rfl (fun H' Q' e6 q => ?_) (fun H' t e6 ke hr6 ht => ?_)
        · refine g_tupX ?_
          walk_at "rd"
          exact ⟨by show 3 ≤ sizeLine; omega, fun p o hp ho => q p _ (Ext.new hp) (TupX.new ho)⟩
        refine ⟨_, _, _, _, _, rfl, e6, hr6, by rw [List.length_append, List.length_singleton]; omega, fun v hv => ?_⟩
        rcases List.mem_append.mp hv with hv | hv
        · exact (hks5 v hv).keeps ke
        · rw [List.mem_singleton] at hv
          exact ⟨t, _, hv, ht, pre, x, y, z, post, ew, .inr ⟨rfl, c⟩⟩
      · exact ⟨_, _, _, _, _, rfl, e5, hr5, by omega, hks5⟩
    · rintro σ H2 ⟨x2, x3, x4, x5, ks, rfl, e, hr2, hk2, hks⟩
      walk_at "rd"
      exact k H2 r ks e nr hr2 (by omega) hks
end
end

/-! The words of a kind's letters. -/
section
open PySem PySem.Spec PyProof.Rows L2 Gd
theorem range_getD (ns : List Int) : (List.range ns.length).map (fun i => ns.getD i 0) = ns := by
  refine List.ext_getElem (by simp) fun i h1 h2 => ?_
  rw [List.getElem_map, List.getElem_range, List.getD_eq_getElem?_getD, List.getElem?_eq_getElem h2]
  rfl
theorem lets_count (ns : List Int) (k : Nat) : ∀ n, (lets ns n).count ((k : Int) + 1) = if k < n then (ns.getD k 0).toNat else 0
  | 0 => by simp [lets]
  | n + 1 => by
    rw [lets_succ, List.count_append, lets_count ns k n, List.count_replicate]
    by_cases h : n = k
    · subst h
      simp
    · have e : ((n : Int) + 1 == (k : Int) + 1) = false := by
        rw [beq_eq_false_iff_ne]
        omega
      rw [e]
      by_cases h2 : k < n
      · rw [if_pos h2, if_pos (show k < n + 1 by omega)]
        simp
      · rw [if_neg h2, if_neg (show ¬ k < n + 1 by omega)]
        simp
theorem lets_mem (ns : List Int) : ∀ n x, x ∈ lets ns n → ∃ k : Nat, k < n ∧ x = (k : Int) + 1
  | 0, x, h => by simp [lets] at h
  | n + 1, x, h => by
    rw [lets_succ] at h
    rcases List.mem_append.mp h with h | h
    · obtain ⟨k, h1, h2⟩ := lets_mem ns n x h
      exact ⟨k, by omega, h2⟩
    · exact ⟨n, by omega, (List.mem_replicate.mp h).2⟩
theorem lets_sorted (ns : List Int) : ∀ n, (lets ns n).Pairwise (· ≤ ·)
  | 0 => by simp [lets]
  | n + 1 => by
    rw [lets_succ]
    refine List.pairwise_append.mpr ⟨lets_sorted ns n, List.pairwise_replicate.mpr (.inr (Int.le_refl _)), fun a ha b hb => ?_⟩
    obtain ⟨k, h1, h2⟩ := lets_mem ns n a ha
    have := (List.mem_replicate.mp hb).2
    omega
theorem sum_snoc (f : Nat → Nat) (n : Nat) : ((List.range (n + 1)).map f).sum = ((List.range n).map f).sum + f n := by
  rw [List.range_succ, List.map_append, List.sum_append]
  simp
theorem lets_pot (ns : List Int) : ∀ n, ((lets ns n).map fun x => (x - 1).toNat).sum = ((List.range n).map fun i => (ns.getD i 0).toNat * i).sum
  | 0 => by simp [lets]
  | n + 1 => by
    rw [lets_succ, List.map_append, List.sum_append, lets_pot ns n, sum_snoc, List.map_replicate, List.sum_replicate_nat]
    have : ((n : Int) + 1 - 1).toNat = n := by omega
    rw [this]
theorem lets_length (ns : List Int) : ∀ n, (lets ns n).length = ((List.range n).map fun i => (ns.getD i 0).toNat).sum
  | 0 => by simp [lets]
  | n + 1 => by rw [lets_succ, List.length_append, lets_length ns n, sum_snoc, List.length_replicate]
theorem cast_sum (f : Nat → Nat) (g : Nat → Int) (n : Nat) (h : ∀ i, i < n → ((f i : Nat) : Int) = g i) : ((((List.range n).map f).sum : Nat) : Int) = ((List.range n).map g).sum := by
  induction n with
  | zero => rfl
  | succ n ih =>
    rw [sum_snoc, List.range_succ, List.map_append, List.sum_append, Int.natCast_add, ih fun i hi => h i (by omega), h n (by omega)]
    simp
/-- a word of a kind's letters -/
def WordOf (ns ws : List Int) : Prop := ws.Perm (lets ns ns.length)
section
variable {ns ws : List Int}
theorem WordOf.len (h : WordOf ns ws) (F : Fall ns) : ws.length ≤ 12 := by
  have e : ((ws.length : Nat) : Int) = ns.sum := by
    rw [h.length_eq, lets_length, cast_sum _ (fun i => ns.getD i 0) _ fun i _ => by have := (F.at i).1; omega, range_getD]
  have := F.sum
  omega
theorem WordOf.mem (h : WordOf ns ws) (F : Fall ns) : ∀ x ∈ ws, 1 ≤ x ∧ x ≤ 12 := fun x hx => by
  obtain ⟨k, h1, h2⟩ := lets_mem ns _ x (h.mem_iff.mp hx)
  have := F.len
  omega
theorem WordOf.count (h : WordOf ns ws) (k : Nat) : ws.count ((k : Int) + 1) = (ns.getD k 0).toNat := by
  rw [List.Perm.count_eq h, lets_count]
  split
  · rfl
  · rw [getD_big (by assumption)]
    rfl
theorem WordOf.good (h : WordOf ns ws) (F : Fall ns) (i : Nat) : ¬ BadAt ws i := by
  unfold BadAt
  have e : ((i : Int) + 2) = ((i + 1 : Nat) : Int) + 1 := by omega
  rw [e, h.count, h.count]
  have := F.down i
  omega
theorem wd_sup (ws : List Int) : Kn.Sup (Kn.wd ws) ws.length := fun j hj => by
  unfold Kn.wd
  exact getD_big (by omega)
theorem pot_eq (ws : List Int) : Kn.pot (Kn.wd ws) ws.length = (ws.map fun x => (x - 1).toNat).sum := by
  unfold Kn.pot Kn.wd
  conv => rhs; rw [← range_getD ws, List.map_map]
  rfl
theorem WordOf.pot (h : WordOf ns ws) (F : Fall ns) : ((Kn.pot (Kn.wd ws) ws.length : Nat) : Int) = slantI ns := by
  rw [pot_eq, (h.map fun x => (x - 1).toNat).sum_nat, lets_pot]
  unfold slantI
  refine cast_sum _ _ _ fun i _ => ?_
  have := (F.at i).1
  rw [Int.natCast_mul, Int.mul_comm, Int.toNat_of_nonneg this]
theorem cnt_eq (ws : List Int) (l : Int) : Kn.cnt (Kn.wd ws) ws.length l = ws.count l := by
  unfold Kn.cnt Kn.wd
  conv => rhs; rw [← range_getD ws, List.count, List.countP_map, List.countP_eq_length_filter]
  congr 1
theorem asc_le {n : Nat} : ∀ a b, a < b → b < (lets ns n).length → Kn.wd (lets ns n) a ≤ Kn.wd (lets ns n) b := fun a b h hb => by
  have := List.pairwise_iff_getElem.mp (lets_sorted ns n) a b (by omega) hb h
  unfold Kn.wd
  rw [List.getD_eq_getElem?_getD, List.getD_eq_getElem?_getD, List.getElem?_eq_getElem hb, List.getElem?_eq_getElem (by omega)]
  exact this
theorem desc_le {n : Nat} : ∀ a b, a < b → Kn.wd (lets ns n).reverse b ≤ Kn.wd (lets ns n).reverse a := fun a b h => by
  have pos : ∀ x ∈ (lets ns n).reverse, 1 ≤ x := fun x hx => by
    obtain ⟨k, _, h2⟩ := lets_mem ns n x (List.mem_reverse.mp hx)
    omega
  unfold Kn.wd
  by_cases hb : b < (lets ns n).reverse.length
  · have := List.pairwise_iff_getElem.mp (List.pairwise_reverse.mpr (lets_sorted ns n)) a b (by omega) hb h
    rw [List.getD_eq_getElem?_getD, List.getD_eq_getElem?_getD, List.getElem?_eq_getElem hb, List.getElem?_eq_getElem (by omega)]
    exact this
  · rw [getD_big hb]
    by_cases ha : a < (lets ns n).reverse.length
    · have := pos _ (getD_mem ha)
      omega
    · rw [getD_big ha]
      omega
/-- the greatest weight is the slant -/
theorem WordOf.le (h : WordOf ns ws) (F : Fall ns) {N : Nat} (c : Kn.Charge (Kn.wd ws) N) : (N : Int) ≤ slantI ns := by
  have := Kn.Charge.le (wd_sup ws) c
  rw [← h.pot F]
  omega
theorem asc_charge (F : Fall ns) {N : Nat} (c : Kn.Charge (Kn.wd (lets ns ns.length)) N) : (N : Int) = slantI ns := by
  have h : WordOf ns (lets ns ns.length) := List.Perm.refl _
  rw [← h.pot F, Kn.Charge.asc (wd_sup _) asc_le (fun k hk => ?_) c]
  obtain ⟨j, rfl⟩ : ∃ j : Nat, k = (j : Int) + 1 := ⟨(k - 1).toNat, by omega⟩
  have e : ((j : Int) + 1 + 1) = ((j + 1 : Nat) : Int) + 1 := by omega
  rw [cnt_eq, cnt_eq, e, h.count, h.count]
  have := F.down j
  omega
theorem desc_charge {N : Nat} (c : Kn.Charge (Kn.wd (lets ns ns.length).reverse) N) : N = 0 := Kn.Charge.desc desc_le c
theorem WordOf.rev : WordOf ns (lets ns ns.length).reverse := List.reverse_perm _
theorem WordOf.self : WordOf ns (lets ns ns.length) := List.Perm.refl _
theorem WordOf.kin {vs : List Int} (h : WordOf ns ws) (k : Kin ws vs) : WordOf ns vs := k.perm.trans h
end
end

/-! Rows of letters; the word of a filling. -/

section
open PySem PySem.Spec PyProof.Rows L2 Gd
/-- what two clauses ask, told of their turns -/
def Lc2G (J : It) (g : TG) (tt : TT) (wi1 : TI) (g1 : TG) (tt1 : TT) (te : TE) (vs vs1 : List Nat) (σ : L2.St) (H1 : Hp) (Q : VK) : Prop := ∀ D, H1 D = none → ∃ W : Nat → Nat → Hp → Prop, (∃ m, W 0 m (upd H1 D (.lst []))) ∧ ∀ i m H, W i m H →
  (J.stop i H ∧ Q (.ref D) H) ∨ (J.go i H ∧ ∃ Nx : Hp → Prop, (∀ H', Nx H' → ∃ m', m' < m ∧ W (i + 1) m' H') ∧ ∀ x H', J.yld i H x H' → g x (wipe σ vs) H' fun σ2 H2 => wipe σ2 vs = wipe σ vs ∧ tt σ2 H2 fun b H3 =>
    if b = true then wi1 σ2 H3 fun J1 H4 => ∃ W1 : Nat → Nat → Hp → Prop, (∃ m, W1 0 m H4) ∧ ∀ j k H, W1 j k H →
      (J1.stop j H ∧ Nx H) ∨ (J1.go j H ∧ ∃ Nx1 : Hp → Prop, (∀ H', Nx1 H' → ∃ k', k' < k ∧ W1 (j + 1) k' H') ∧ ∀ x H', J1.yld j H x H' → g1 x (wipe σ2 vs1) H' fun σ3 H5 => wipe σ3 vs1 = wipe σ2 vs1 ∧ tt1 σ3 H5 fun b H6 =>
        if b = true then te σ3 H6 fun y H7 => ∃ acc, H7 D = some (.lst acc) ∧ acc.length < sizeLine ∧ Nx1 (upd H7 D (.lst (acc ++ [y]))) else Nx1 H6)
    else Nx H3)
theorem g_lc2 {wi wi1 : TI} {g g1 : TG} {tt tt1 : TT} {te : TE} {vs vs1 : List Nat} {σ : L2.St} {H : Hp} {Q : VK} (k : wi σ H fun J H1 => Lc2G J g tt wi1 g1 tt1 te vs vs1 σ H1 Q) : tLc2 wi g tt wi1 g1 tt1 te vs vs1 σ H Q := k
theorem fm_succ (L : Nat → List Int) (n : Nat) : (List.range (n + 1)).flatMap L = (List.range n).flatMap L ++ L n := by
  rw [List.range_succ, List.flatMap_append]
  simp
theorem fm_len {L : Nat → List Int} (h : ∀ i, (L i).length ≤ 30) : ∀ n, ((List.range n).flatMap L).length ≤ n * 30
  | 0 => Nat.zero_le _
  | n + 1 => by
    rw [fm_succ, List.length_append]
    have := fm_len h n
    have := h n
    omega
/-- the letters of a tuple of rows -/
theorem lc2TT {K : PySem.W.Frag} {σ : L2.St} {H1 : Hp} {Q : VK} {vs vs1 : List Nat} {i1 i2 : Nat} {a : Addr} {xs : List V} (hs : SqT K H1 a xs) (hn : xs.length ≤ 30) (L : Nat → List Int) (hL : ∀ i, (L i).length ≤ 30) (hx : ∀ (i : Nat) x, xs[i]? = some x → ∃ r, x = .ref r ∧ SqT K H1 r ((L i).map V.int))
    (h1 : ∀ v, wipe ((wipe σ vs).set i1 (some v)) vs = wipe σ vs)
    (h2 : ∀ v u, wipe ((wipe ((wipe σ vs).set i1 (some v)) vs1).set i2 (some u)) vs1 = wipe ((wipe σ vs).set i1 (some v)) vs1)
    (h3 : ∀ v u, ((wipe ((wipe σ vs).set i1 (some v)) vs1).set i2 (some u))[i2]? = some (some u))
    (h4 : ∀ v, ((wipe σ vs).set i1 (some v))[i1]? = some (some v))
    (k : ∀ H' D, Ext H1 H' → H1 D = none → H' D = some (.lst (((List.range xs.length).flatMap L).map V.int)) → Q (.ref D) H') :
    Lc2G (Itt K a) (gName i1) tYes (iTup K (tVar i1)) (gName i2) tYes (tVar i2) vs vs1 σ H1 Q := by
  unfold Lc2G
  intro D hD
  have put : ∀ {H : Hp} {xs : List V}, Ext H1 H → Ext H1 (upd H D (.lst xs)) := fun {H xs} e b o q => by
    rw [upd_ne (ne_of_none q hD)]
    exact e b o q
  have sz : (100000 : Nat) < sizeLine := by decide
  refine ⟨fun i m H => m = xs.length - i ∧ i ≤ xs.length ∧ Ext H1 H ∧ H D = some (.lst (((List.range i).flatMap L).map V.int)), ⟨xs.length, rfl, Nat.zero_le _, put fun _ _ z => z, upd_same⟩, fun i m H hW => ?_⟩
  obtain ⟨rfl, hi, e, hd⟩ := hW
  by_cases hin : i < xs.length
  · have hxi : xs[i]? = some xs[i] := List.getElem?_eq_getElem hin
    refine .inr ⟨⟨xs, xs[i], sqT_ext e hs, hxi⟩, fun H' => Ext H1 H' ∧ H' D = some (.lst (((List.range (i + 1)).flatMap L).map V.int)), fun H' q => ⟨xs.length - (i + 1), by omega, rfl, by omega, q.1, q.2⟩, fun x H' hy => ?_⟩
    obtain ⟨rfl, hy⟩ := hy
    have ex : xs[i]? = some x := hy xs (sqT_ext e hs)
    obtain ⟨r, rfl, hr⟩ := hx i x ex
    refine ⟨h1 _, g_yes (iteT ?_)⟩
    refine g_var (h4 _) ?_
    refine ⟨r, rfl, ⟨_, sqT_ext e hr⟩, ?_⟩
    have hfl := fm_len hL i
    have hLi := hL i
    refine ⟨fun j k' H' => k' = (L i).length - j ∧ j ≤ (L i).length ∧ Ext H1 H' ∧ H' D = some (.lst (((List.range i).flatMap L ++ (L i).take j).map V.int)), ⟨(L i).length, rfl, Nat.zero_le _, e, ?_⟩, fun j k' H2 hW1 => ?_⟩
    · rw [List.take_zero, List.append_nil]
      exact hd
    · obtain ⟨rfl, hj, e2, hd2⟩ := hW1
      have hr2 := sqT_ext e2 hr
      by_cases hjc : j < (L i).length
      · refine .inr ⟨⟨_, V.int (L i)[j], hr2, by rw [List.getElem?_map, List.getElem?_eq_getElem hjc]; rfl⟩, fun H' => Ext H1 H' ∧ H' D = some (.lst (((List.range i).flatMap L ++ (L i).take (j + 1)).map V.int)), fun H' q => ⟨(L i).length - (j + 1), by omega, rfl, by omega, q.1, q.2⟩, fun x H' hy => ?_⟩
        obtain ⟨rfl, hy⟩ := hy
        have ey := hy _ hr2
        rw [List.getElem?_map, List.getElem?_eq_getElem hjc] at ey
        cases ey
        refine ⟨h2 _ _, g_yes (iteT ?_)⟩
        refine g_var (h3 _ _) ⟨_, hd2, ?_, put e2, ?_⟩
        · rw [List.length_map, List.length_append, List.length_take]
          omega
        · rw [upd_same, List.take_add_one, List.getElem?_eq_getElem hjc, ← List.append_assoc, List.map_append (l₁ := (List.range i).flatMap L ++ (L i).take j)]
          rfl
      · refine .inl ⟨⟨_, hr2, by rw [List.length_map]; omega⟩, e2, ?_⟩
        rw [hd2, fm_succ, List.take_of_length_le (by omega)]
  · refine .inl ⟨⟨xs, sqT_ext e hs, by omega⟩, ?_⟩
    have ei : i = xs.length := by omega
    rw [ei] at hd
    exact k H D e hD hd
section
variable {P : Program} {w : World} {K : PySem.W.Frag} {mg : Str → Option Value} {base : Heap} {f : Addr} {fd : FuncData}
/-! ### joined_rows -/
abbrev sJR : Stmt := top 15
theorem scJR : FnScope ["filling", "row", "letter"] ["filling"] (defScope sJR) := ⟨rfl, rfl, rfl, by decide +kernel, rfl, by decide +kernel, by decide +kernel⟩
def spJR (K : PySem.W.Frag) : Sp := fun vs H Q _ => ∃ (a r1 r2 : Addr), vs = [.ref a] ∧ SqT K H a [.ref r1, .ref r2] ∧ SqT K H r1 (([1, 1, 2] : List Int).map V.int) ∧ SqT K H r2 (([3] : List Int).map V.int) ∧ ∀ H' r, Ext H H' → SqT K H' r (([3, 1, 1, 2] : List Int).map V.int) → Q (.ref r) H'
theorem ok_jr (F : Fun K "joined_rows" "joined_rows" sJR f fd) (T : Txt K mg) : FnOk P w K mg base CX0 1 f fd ["filling"] (spJR K) := by
  refine F.ok scJR (fun vs H Q E h => ?_) (fun cdv A outer s H vs Q E hr h => ?_)
  · obtain ⟨a, r1, r2, rfl, _⟩ := h
    rfl
  · obtain ⟨a, r1, r2, rfl, ha, h1, h2, k⟩ := h
    refine ⟨_, pss_one (ps_ret (pe_callTy call_tuple_of (by rfl) T.tuple (by decide +kernel) (pa_cons (pe_lc2 (own := [("row", 1), ("letter", 2)]) (vs1 := [2]) (g := gName 1) (tt := tYes) (g1 := gName 2) (tt1 := tYes) (te := tVar 2) (wi1 := iTup K (tVar 1)) rfl scJR.nd (pi_tup (pe_revT (pv 0))) (blkOk_by (N := ["filling", "row", "letter"]) (sc := defScope sJR) (by decide +kernel)) (by decide) (fun _ _ _ _ _ => pg_name (i := 1) scJR.nd rfl (Or.inl rfl)) (fun _ _ _ _ _ => pts_nil) (fun _ _ _ _ _ => by exact pi_tup (pv 1)) (fun _ _ _ _ _ => pg_name (i := 2) scJR.nd rfl (Or.inl rfl)) (fun _ _ _ _ _ => pts_nil) (fun _ _ _ _ _ => pv 2)) pa_nil))), ?_⟩
    try dsimp only [cx_nox, cx_K]
    walk_at "rd"
    refine g_lc2 ?_
    refine g_itup ?_
    unfold tRevT
    walk_at "rd"
    refine ⟨a, _, rfl, ha, fun p np => ?_⟩
    have e0 := Ext.new (o := HO.tup [V.ref r1, V.ref r2].reverse) np
    refine ⟨p, rfl, ⟨_, SqT.of upd_same⟩, ?_⟩
    refine lc2TT (SqT.of upd_same) (by simp) (fun i => if i = 0 then [3] else if i = 1 then [1, 1, 2] else []) (fun i => ?_) (fun i x hx => ?_) ?_ ?_ ?_ ?_ ?_
    · split
      · decide
      · split <;> decide
    · match i, hx with
      | 0, hx =>
        cases hx
        exact ⟨r2, rfl, sqT_ext e0 h2⟩
      | 1, hx =>
        cases hx
        exact ⟨r1, rfl, sqT_ext e0 h1⟩
      | i + 2, hx => cases hx
    · intros
      rfl
    · intros
      rfl
    · intros
      rfl
    · intros
      rfl
    · intro H' D e hD hd
      walk_at "rd"
      refine ⟨D, _, rfl, .inl ⟨SqL.of hd, fun l hl => ?_⟩⟩
      exact k _ l (Ext.trans (Ext.trans e0 e) (Ext.new hl)) (SqT.of upd_same)
/-! ### is_letter_row -/
abbrev sLR : Stmt := top 14
theorem scLR : FnScope ["value", "length", "letter", "i"] ["value", "length"] (defScope sLR) := ⟨rfl, rfl, rfl, by decide +kernel, rfl, by decide +kernel, by decide +kernel⟩
def spLR (K : PySem.W.Frag) : Sp := fun vs H Q _ => ∃ (a : Addr) (ns : List Int), vs = [.ref a, .int (ns.length : Int)] ∧ SqT K H a (ns.map V.int) ∧ ns.length ≤ 100 ∧ (∀ x ∈ ns, 1 ≤ x) ∧ (∀ i : Nat, i + 1 < ns.length → ns.getD i 0 ≤ ns.getD (i + 1) 0) ∧ ∀ H', Ext H H' → Q (.bl true) H'
theorem ok_lr (F : Fun K "is_letter_row" "is_letter_row" sLR f fd) (T : Txt K mg) (Wh : Def1 P w K mg base CX0 1 "is_whole" ["value"] (spWhole K)) : FnOk P w K mg base CX0 2 f fd ["value", "length"] (spLR K) := by
  refine F.ok scLR (fun vs H Q E h => ?_) (fun cdv A outer s H vs Q E hr h => ?_)
  · obtain ⟨a, ns, rfl, _⟩ := h
    rfl
  · obtain ⟨a, ns, rfl, hs, hl, hp, ha, k⟩ := h
    refine ⟨_, pss_cons (ps_if (PW.pt (pw_or (pt_not (pt_val (pe_callB call_isi (by rfl) T.isinstance (by decide +kernel) (pa_cons (pv 0) (pa_cons (pe_bltn (v := .ty "tuple") (by rfl) T.tuple (by decide +kernel) rfl) pa_nil))))) (pw_or1 (pt_cmpR op_ne (pe_callB call_len_seq (by rfl) T.len PySem.boot_len (pa_cons (pv 0) pa_nil)) (pv 1) (nomark _))))) (pss_one (ps_ret pe_bl)) pss_nil)
      (pss_cons (ps_if (pt_not (pt_val (pe_callB (cr_all rfl) (by rfl) T.all (by decide +kernel) (pa_cons (pe_lc (own := [("letter", 2)]) (g := gName 2) (tt := tYes) rfl scLR.nd (pi_tup (pv 0)) (blkOk_by (N := ["value", "length", "letter", "i"]) (sc := defScope sLR) (by decide +kernel)) (fun _ _ _ _ _ => pg_name (i := 2) scLR.nd rfl (Or.inl rfl)) (fun _ _ _ _ _ => pts_nil) (fun _ _ _ _ _ => (pe_and (pe_def Wh hr (by decide) (by rfl) (pa_cons (pv 2) pa_nil)) (pe_one (pe_cmpR op_ge (pv 2) pe_int (nomark _)))))) pa_nil)))) (pss_one (ps_ret pe_bl)) pss_nil)
      (pss_one (ps_ret (pe_callB (cr_all rfl) (by rfl) T.all (by decide +kernel) (pa_cons (pe_lc (own := [("i", 3)]) (g := gName 3) (tt := tYes) rfl scLR.nd (pi_range2 (by rfl) T.range (pa_cons pe_int (pa_cons (pv 1) pa_nil))) (blkOk_by (N := ["value", "length", "letter", "i"]) (sc := defScope sLR) (by decide +kernel)) (fun _ _ _ _ _ => pg_name (i := 3) scLR.nd rfl (Or.inl rfl)) (fun _ _ _ _ _ => pts_nil) (fun _ _ _ _ _ => (pe_cmpR op_ge (pe_ix (r := rIxT K) ix_tup (pv 0) (pv 3) (fun _ _ => rfl)) (pe_ix (r := rIxT K) ix_tup (pv 0) (pe_op op_sub (pv 3) pe_int) (fun _ _ => rfl)) (nomark _)))) pa_nil))))), ?_⟩
    try dsimp only [cx_nox, cx_K]
    walk_at "rd"
    refine ⟨_, _, _, _, true, rfl, .ty _, tyT hs, by kernel_rfl, ?_⟩
    walk_at "rd"
    refine ⟨a, _, rfl, .inr hs, ?_⟩
    walk_at "rd"
    rw [List.length_map]
    refine ⟨rfl, ?_⟩
    rw [show (!decide (V.int (ns.length : Int) = V.int (ns.length : Int))) = false by simp]
    walk_at "rd"
    refine g_lc (g_itup ?_)
    walk_at "rd"
    refine lcT hs (small (by rw [List.length_map]; omega)) (fun _ => true) (fun _ => .bl true) (fun x H' hx e Qe Qn he hn => ?_) (fun H1 D e1 hD hd => ?_)
    · obtain ⟨n, hn', rfl⟩ := List.mem_map.mp hx
      refine ⟨rfl, ?_⟩
      walk_at "rd"
      refine ⟨_, true, rfl, whole_int, ?_⟩
      walk_at "rd"
      rw [decide_eq_true (hp n hn')]
      exact he _ (fun _ _ z => z) rfl
    · walk_at "rd"
      refine ⟨D, ns.map fun _ => true, rfl, SqL.of ?_, ?_⟩
      · rw [hd, List.filter_eq_self.mpr (fun _ _ => rfl), List.map_map, List.map_map]
        rfl
      have all : (ns.map fun _ => true).all id = true := by simp
      rw [all]
      walk_at "rd"
      refine g_lc (g_rng2 ?_)
      walk_at "rd"
      refine ⟨⟨by decide, by decide, by omega, by omega⟩, ?_⟩
      have en : ((ns.length : Int) - 1).toNat = ns.length - 1 := by omega
      rw [en]
      refine lcR (small (by omega)) (fun _ => true) (fun _ => .bl true) (fun i H' hi e Qe Qn he hn => ?_) (fun H' D2 e hD2 hd2 => ?_)
      · have ei : (1 + (i : Int)) = ((i + 1 : Nat) : Int) := by omega
        rw [ei]
        refine ⟨rfl, ?_⟩
        walk_at "rd"
        refine g_ixT (sqT_ext e (sqT_ext e1 hs)) (atI_nat (getI (i := i + 1) (by omega))) ?_
        walk_at "rd"
        have ej : (((i + 1 : Nat) : Int) - 1) = (i : Int) := by omega
        rw [ej]
        refine g_ixT (sqT_ext e (sqT_ext e1 hs)) (atI_nat (getI (i := i) (by omega))) ?_
        walk_at "rd"
        rw [decide_eq_true (ha i (by omega))]
        exact he _ (fun _ _ z => z) rfl
      · rw [idx_all] at hd2
        walk_at "rd"
        refine ⟨D2, (List.range (ns.length - 1)).map fun _ => true, rfl, SqL.of ?_, ?_⟩
        · rw [hd2, List.map_map]
          rfl
        have all2 : ((List.range (ns.length - 1)).map fun _ => true).all id = true := by simp
        rw [all2]
        exact k _ (Ext.trans e1 e)
end
end

/-! The word of a filling. -/

section
open PySem PySem.Spec PyProof.Rows L2 Gd
theorem asc3 : ∀ i : Nat, i + 1 < ([1, 1, 2] : List Int).length → ([1, 1, 2] : List Int).getD i 0 ≤ ([1, 1, 2] : List Int).getD (i + 1) 0 := fun i hi => by
  have : i = 0 ∨ i = 1 := by
    simp at hi
    omega
  rcases this with rfl | rfl <;> decide
theorem asc1 : ∀ i : Nat, i + 1 < ([3] : List Int).length → ([3] : List Int).getD i 0 ≤ ([3] : List Int).getD (i + 1) 0 := fun i hi => by
  simp at hi
section
variable {P : Program} {w : World} {K : PySem.W.Frag} {mg : Str → Option Value} {base : Heap} {f : Addr} {fd : FuncData}
/-! ### is_filled -/
abbrev sFilled : Stmt := top 13
theorem scFilled : FnScope ["shape", "value", "row", "number", "i", "lower", "upper"] ["shape", "value"] (defScope sFilled) := ⟨rfl, rfl, rfl, by decide +kernel, rfl, by decide +kernel, by decide +kernel⟩
def spFilled (K : PySem.W.Frag) : Sp := fun vs H Q _ => ∃ (t a r1 r2 : Addr), vs = [.ref t, .ref a] ∧ SqT K H t (([3, 1] : List Int).map V.int) ∧ SqT K H a [.ref r1, .ref r2] ∧ SqT K H r1 (([1, 1, 2] : List Int).map V.int) ∧ SqT K H r2 (([3] : List Int).map V.int) ∧ ∀ H', Ext H H' → Q (.bl true) H'
theorem ok_filled (F : Fun K "is_filled" "is_filled" sFilled f fd) (T : Txt K mg) (Lr : Def1 P w K mg base CX0 2 "is_letter_row" ["value", "length"] (spLR K)) : FnOk P w K mg base CX0 3 f fd ["shape", "value"] (spFilled K) := by
  refine F.ok scFilled (fun vs H Q E h => ?_) (fun cdv A outer s H vs Q E hr h => ?_)
  · obtain ⟨t, a, r1, r2, rfl, _⟩ := h
    rfl
  · obtain ⟨t, a, r1, r2, rfl, ht, ha, h1, h2, k⟩ := h
    refine ⟨_, pss_cons (ps_if (PW.pt (pw_or (pt_not (pt_val (pe_callB call_isi (by rfl) T.isinstance (by decide +kernel) (pa_cons (pv 1) (pa_cons (pe_bltn (v := .ty "tuple") (by rfl) T.tuple (by decide +kernel) rfl) pa_nil))))) (pw_or1 (pt_cmpR op_ne (pe_callB call_len_seq (by rfl) T.len PySem.boot_len (pa_cons (pv 1) pa_nil)) (pe_callB call_len_seq (by rfl) T.len PySem.boot_len (pa_cons (pv 0) pa_nil)) (nomark _))))) (pss_one (ps_ret pe_bl)) pss_nil)
      (pss_cons (ps_if (pt_not (pt_val (pe_callB (cr_all rfl) (by rfl) T.all (by decide +kernel) (pa_cons (pe_lc (own := [("row", 2), ("number", 3)]) (g := gTup K 2 (gCons (gName 2) (gCons (gName 3) gNil))) (tt := tYes) rfl scFilled.nd (pi_zipE (by rfl) T.zip (pa_cons (pv 1) (pa_cons (pv 0) pa_nil))) (blkOk_by (N := ["shape", "value", "row", "number", "i", "lower", "upper"]) (sc := defScope sFilled) (by decide +kernel)) (fun _ _ _ _ _ => pg_tup rfl (pgs_cons (pg_name (i := 2) scFilled.nd rfl (Or.inl rfl)) (pgs_cons (pg_name (i := 3) scFilled.nd rfl (Or.inl rfl)) pgs_nil))) (fun _ _ _ _ _ => pts_nil) (fun _ _ _ _ _ => (pe_def Lr hr (by decide) (by rfl) (pa_cons (pv 2) (pa_cons (pv 3) pa_nil))))) pa_nil)))) (pss_one (ps_ret pe_bl)) pss_nil)
      (pss_one (ps_ret (pe_callB (cr_all rfl) (by rfl) T.all (by decide +kernel) (pa_cons (pe_lc2 (own := [("i", 4), ("row", 2), ("lower", 5), ("upper", 6)]) (vs1 := [5, 6]) (g := gTup K 2 (gCons (gName 4) (gCons (gName 2) gNil))) (g1 := gTup K 2 (gCons (gName 5) (gCons (gName 6) gNil))) (tt1 := tYes) (wi1 := iZipE K (tCons (tVar 2) (tCons (tOp (rIxT K) (tVar 1) (tOp (rI0 fun i j => .int (i - j)) (tVar 4) (tC (.int 1)))) tNil))) rfl scFilled.nd (pi_enumT (by rfl) T.enumerate (pa_cons (pv 1) pa_nil)) (blkOk_by (N := ["shape", "value", "row", "number", "i", "lower", "upper"]) (sc := defScope sFilled) (by decide +kernel)) (by decide) (fun _ _ _ _ _ => (pg_tup rfl (pgs_cons (pg_name (i := 4) scFilled.nd rfl (Or.inl rfl)) (pgs_cons (pg_name (i := 2) scFilled.nd rfl (Or.inl rfl)) pgs_nil)))) (fun _ _ _ _ _ => pts_one (pt_cmpR op_gt (pv 4) pe_int (nomark _))) (fun _ _ _ _ _ => by exact pi_zipE (by rfl) T.zip (pa_cons (pv 2) (pa_cons (pe_ix ix_tup (pv 1) (pe_op op_sub (pv 4) pe_int) (fun _ _ => rfl)) pa_nil))) (fun _ _ _ _ _ => (pg_tup rfl (pgs_cons (pg_name (i := 5) scFilled.nd rfl (Or.inl rfl)) (pgs_cons (pg_name (i := 6) scFilled.nd rfl (Or.inl rfl)) pgs_nil)))) (fun _ _ _ _ _ => pts_nil) (fun _ _ _ _ _ => pe_cmpR op_gt (pv 5) (pv 6) (nomark _))) pa_nil))))), ?_⟩
    try dsimp only [cx_nox, cx_K]
    walk_at "rd"
    refine ⟨_, _, _, _, true, rfl, .ty _, tyT ha, by kernel_rfl, ?_⟩
    walk_at "rd"
    refine ⟨a, _, rfl, .inr ha, ?_⟩
    walk_at "rd"
    refine ⟨t, _, rfl, .inr ht, ?_⟩
    refine ⟨rfl, ?_⟩
    refine ⟨false, by simp, iteF ?_⟩
    walk_at "rd"
    refine g_lc ?_
    unfold iZipE
    walk_at "rd"
    refine lcZ (l1 := false) (l2 := false) ha ht (by simp; decide) (fun _ _ => true) (fun _ _ => .bl true) (fun x y H' hxy e Qe Qn he hn => ?_) (fun H1 D e1 hD hd => ?_)
    · refine ⟨rfl, ?_⟩
      have hxy : (x, y) = (V.ref r1, V.int 3) ∨ (x, y) = (V.ref r2, V.int 1) := by simpa using hxy
      rcases hxy with z | z
      · cases z
        walk_at "rd"
        exact ⟨r1, _, rfl, sqT_ext e h1, by decide, by decide, asc3, fun H3 e3 => he _ e3 rfl⟩
      · cases z
        walk_at "rd"
        exact ⟨r2, _, rfl, sqT_ext e h2, by decide, by decide, asc1, fun H3 e3 => he _ e3 rfl⟩
    · walk_at "rd"
      refine ⟨D, [true, true], rfl, SqL.of hd, ?_⟩
      walk_at "rd"
      refine iteF ?_
      walk_at "rd"
      refine g_lc2 ?_
      unfold iEnumT
      walk_at "rd"
      have ha1 := sqT_ext e1 ha
      have h11 := sqT_ext e1 h1
      have h21 := sqT_ext e1 h2
      refine ⟨a, _, rfl, ha1, ?_⟩
      unfold Lc2G
      intro D2 hD2
      have put : ∀ {H : Hp} {xs : List V}, Ext H1 H → Ext H1 (upd H D2 (.lst xs)) := fun {H xs} e b o q => by
        rw [upd_ne (ne_of_none q hD2)]
        exact e b o q
      refine ⟨fun i m H => m = 2 - i ∧ i ≤ 2 ∧ Ext H1 H ∧ H D2 = some (.lst (if i = 2 then [.bl true] else [])), ⟨2, rfl, by omega, put fun _ _ z => z, upd_same⟩, fun i m H2 hW => ?_⟩
      obtain ⟨rfl, hi, e, hd2⟩ := hW
      have hai := sqT_ext e ha1
      match i, hi with
      | 0, _ =>
        refine .inr ⟨⟨_, _, hai, rfl⟩, fun H' => Ext H1 H' ∧ H' D2 = some (.lst []), fun H' q => ⟨1, by omega, rfl, by omega, q.1, q.2⟩, fun x H' hy => ?_⟩
        obtain ⟨T0, x, rfl, hT, rfl, hx⟩ := hy
        cases hx _ hai
        have eT := Ext.new (o := HO.tup [V.int ((0 : Nat) : Int), V.ref r1]) hT
        refine ⟨T0, _, rfl, SqT.of upd_same, rfl, _, _, rfl, ?_⟩
        refine ⟨_, _, rfl, rfl, ?_⟩
        refine ⟨rfl, ?_⟩
        walk_at "rd"
        exact ⟨Ext.trans e eT, eT _ _ hd2⟩
      | 1, _ =>
        refine .inr ⟨⟨_, _, hai, rfl⟩, fun H' => Ext H1 H' ∧ H' D2 = some (.lst [.bl true]), fun H' q => ⟨0, by omega, rfl, by omega, q.1, q.2⟩, fun x H' hy => ?_⟩
        obtain ⟨T0, x, rfl, hT, rfl, hx⟩ := hy
        cases hx _ hai
        have eT := Ext.new (o := HO.tup [V.int ((1 : Nat) : Int), V.ref r2]) hT
        have e2 := Ext.trans e eT
        have hd3 := eT _ _ hd2
        refine ⟨T0, _, rfl, SqT.of upd_same, rfl, _, _, rfl, ?_⟩
        refine ⟨_, _, rfl, rfl, ?_⟩
        refine ⟨rfl, ?_⟩
        walk_at "rd"
        refine iteT ?_
        walk_at "rd"
        refine g_ixT (sqT_ext e2 ha1) (v := V.ref r1) (by rfl) ?_
        refine ⟨false, false, r2, r1, _, _, rfl, sqT_ext e2 h21, sqT_ext e2 h11, ?_⟩
        refine ⟨fun j k' H' => k' = 1 - j ∧ j ≤ 1 ∧ Ext H1 H' ∧ H' D2 = some (.lst (if j = 1 then [.bl true] else [])), ⟨1, rfl, by omega, e2, hd3⟩, fun j k' H3 hW1 => ?_⟩
        obtain ⟨rfl, hj, e3, hd4⟩ := hW1
        have q2 := sqT_ext e3 h21
        have q1 := sqT_ext e3 h11
        match j, hj with
        | 0, _ =>
          refine .inr ⟨⟨_, _, _, _, q2, q1, rfl, rfl⟩, fun H' => Ext H1 H' ∧ H' D2 = some (.lst [.bl true]), fun H' q => ⟨0, by omega, rfl, by omega, q.1, q.2⟩, fun x H' hy => ?_⟩
          obtain ⟨T1, x, y, rfl, hT1, rfl, hx, hy⟩ := hy
          cases hx _ q2
          cases hy _ q1
          have eT1 := Ext.new (o := HO.tup [V.int 3, V.int 1]) hT1
          refine ⟨T1, _, rfl, SqT.of upd_same, rfl, _, _, rfl, ?_⟩
          refine ⟨_, _, rfl, rfl, ?_⟩
          refine ⟨rfl, ?_⟩
          walk_at "rd"
          refine ⟨[], eT1 _ _ hd4, by decide, put (Ext.trans e3 eT1), upd_same⟩
        | 1, _ =>
          exact .inl ⟨⟨_, _, q2, q1, rfl⟩, e3, hd4⟩
      | 2, _ =>
        refine .inl ⟨⟨_, hai, rfl⟩, ?_⟩
        walk_at "rd"
        refine ⟨D2, [true], rfl, SqL.of hd2, ?_⟩
        exact k _ (Ext.trans e1 e)
end
end

/-! word_of. -/

section
open PySem PySem.Spec PyProof.Rows L2 Gd
section
variable {P : Program} {w : World} {K : PySem.W.Frag} {mg : Str → Option Value} {base : Heap} {f : Addr} {fd : FuncData}
abbrev sWordOf : Stmt := top 20
theorem scWordOf : FnScope ["filling", "row", "shape", "word", "letter"] ["filling"] (defScope sWordOf) := ⟨rfl, rfl, rfl, by decide +kernel, rfl, by decide +kernel, by decide +kernel⟩
def spWordOf (K : PySem.W.Frag) : Sp := fun vs H Q _ => ∃ (a r1 r2 : Addr), vs = [.ref a] ∧ r1 ≠ r2 ∧ SqT K H a [.ref r1, .ref r2] ∧ SqT K H r1 (([1, 1, 2] : List Int).map V.int) ∧ SqT K H r2 (([3] : List Int).map V.int) ∧ ∀ H' r, Ext H H' → SqT K H' r (([3, 1, 1, 2] : List Int).map V.int) → Q (.ref r) H'
theorem fall31 : Fall [3, 1] := ⟨by decide, by decide, fun i hi => by
  have : i = 0 := by
    simp at hi
    omega
  subst this
  decide⟩
theorem ok_wof (F : Fun K "word_of" "word_of" sWordOf f fd) (T : Txt K mg) (gM : ∃ t, mg "MAX_SIZE" = some (.int 12 t)) (Fa : Def1 P w K mg base CX0 4 "is_falling" ["value", "most"] (spFalling K)) (Fi : Def1 P w K mg base CX0 3 "is_filled" ["shape", "value"] (spFilled K)) (Jr : Def1 P w K mg base CX0 1 "joined_rows" ["filling"] (spJR K)) :
    FnOk P w K mg base CX0 5 f fd ["filling"] (spWordOf K) := by
  obtain ⟨tM, gM⟩ := gM
  refine F.ok scWordOf (fun vs H Q E h => ?_) (fun cdv A outer s H vs Q E hr h => ?_)
  · obtain ⟨a, r1, r2, rfl, _⟩ := h
    rfl
  · obtain ⟨a, r1, r2, rfl, hne, ha, h1, h2, k⟩ := h
    refine ⟨_, pss_cons (ps_if (PW.pt (pw_or (pt_not (pt_val (pe_callB call_isi (by rfl) T.isinstance (by decide +kernel) (pa_cons (pv 0) (pa_cons (pe_bltn (v := .ty "tuple") (by rfl) T.tuple (by decide +kernel) rfl) pa_nil))))) (pw_or1 (pt_not (pt_val (pe_callB (cr_all rfl) (by rfl) T.all (by decide +kernel) (pa_cons (pe_lc (own := [("row", 1)]) (g := gName 1) (tt := tYes) rfl scWordOf.nd (pi_tup (pv 0)) (blkOk_by (N := ["filling", "row", "shape", "word", "letter"]) (sc := defScope sWordOf) (by decide +kernel)) (fun _ _ _ _ _ => pg_name (i := 1) scWordOf.nd rfl (Or.inl rfl)) (fun _ _ _ _ _ => pts_nil) (fun _ _ _ _ _ => by exact (pe_callB (r := rIsi K) call_isi (by rfl) T.isinstance (by decide +kernel) (pa_cons (pv 1) (pa_cons (pe_bltn (v := .ty "tuple") (by rfl) T.tuple (by decide +kernel) rfl) pa_nil))))) pa_nil))))))) (pss_one ps_never) pss_nil)
      (pss_cons (ps_set (i := 2) scWordOf.nd rfl (Or.inl rfl) (pe_callTy call_tuple_of (by rfl) T.tuple (by decide +kernel) (pa_cons (pe_lc (own := [("row", 1)]) (g := gName 1) (tt := tYes) rfl scWordOf.nd (pi_tup (pv 0)) (blkOk_by (N := ["filling", "row", "shape", "word", "letter"]) (sc := defScope sWordOf) (by decide +kernel)) (fun _ _ _ _ _ => pg_name (i := 1) scWordOf.nd rfl (Or.inl rfl)) (fun _ _ _ _ _ => pts_nil) (fun _ _ _ _ _ => by exact (pe_callB (r := rLenS K) call_len_seq (by rfl) T.len PySem.boot_len (pa_cons (pv 1) pa_nil)))) pa_nil)))
      (pss_cons (ps_if (PW.pt (pw_or (pt_not (pt_val (pe_def Fa hr (by decide) (by rfl) (pa_cons (pv 2) (pa_cons (pe_glob (v := .int 12) (by rfl) gM ⟨_, rfl⟩) pa_nil))))) (pw_or1 (pt_not (pt_val (pe_def Fi hr (by decide) (by rfl) (pa_cons (pv 2) (pa_cons (pv 0) pa_nil)))))))) (pss_one ps_never) pss_nil)
      (pss_cons (ps_set (i := 3) scWordOf.nd rfl (Or.inl rfl) (pe_def Jr hr (by decide) (by rfl) (pa_cons (pv 0) pa_nil)))
      (pss_cons (ps_if (pt_not (pt_val (pe_callB (cr_all rfl) (by rfl) T.all (by decide +kernel) (pa_cons (pe_lc (own := [("letter", 4)]) (g := gName 4) (tt := tYes) rfl scWordOf.nd (pi_tup (pv 3)) (blkOk_by (N := ["filling", "row", "shape", "word", "letter"]) (sc := defScope sWordOf) (by decide +kernel)) (fun _ _ _ _ _ => pg_name (i := 4) scWordOf.nd rfl (Or.inl rfl)) (fun _ _ _ _ _ => pts_nil) (fun _ _ _ _ _ => by exact (pe_cmpR op_le (pv 4) (pe_glob (v := .int 12) (by rfl) gM ⟨_, rfl⟩) (nomark _)))) pa_nil)))) (pss_one ps_never) pss_nil)
      (pss_one (ps_ret (pv 3))))))), ?_⟩
    try dsimp only [cx_nox, cx_K]
    have sz : (100000 : Nat) < sizeLine := by decide
    walk_at "rd"
    refine ⟨_, _, _, _, true, rfl, .ty _, tyT ha, by kernel_rfl, ?_⟩
    walk_at "rd"
    refine g_lc (g_itup ?_)
    walk_at "rd"
    refine lcT ha (by simp; decide) (fun _ => true) (fun _ => .bl true) (fun x H' hx e Qe Qn he hn => ?_) (fun H1 D e1 hD hd => ?_)
    · have hx : x = V.ref r1 ∨ x = V.ref r2 := by simpa using hx
      refine ⟨rfl, ?_⟩
      rcases hx with rfl | rfl
      · walk_at "rd"
        refine ⟨_, _, _, _, true, rfl, .ty _, tyT (sqT_ext e h1), by kernel_rfl, ?_⟩
        exact he _ (fun _ _ z => z) rfl
      · walk_at "rd"
        refine ⟨_, _, _, _, true, rfl, .ty _, tyT (sqT_ext e h2), by kernel_rfl, ?_⟩
        exact he _ (fun _ _ z => z) rfl
    walk_at "rd"
    refine ⟨D, [true, true], rfl, SqL.of hd, ?_⟩
    refine ⟨true, rfl, iteF ?_⟩
    have ha1 := sqT_ext e1 ha
    have h11 := sqT_ext e1 h1
    have h21 := sqT_ext e1 h2
    walk_at "rd"
    refine g_lc (g_itup ?_)
    walk_at "rd"
    refine lcT ha1 (by simp; decide) (fun _ => true) (fun x => if x = V.ref r1 then .int 3 else .int 1) (fun x H' hx e Qe Qn he hn => ?_) (fun H2 D2 e2 hD2 hd2 => ?_)
    · have hx : x = V.ref r1 ∨ x = V.ref r2 := by simpa using hx
      refine ⟨rfl, ?_⟩
      rcases hx with rfl | rfl
      · walk_at "rd"
        refine ⟨r1, _, rfl, .inr (sqT_ext e h11), ?_⟩
        have := he _ (fun _ _ z => z) rfl
        rw [if_pos rfl] at this
        exact this
      · walk_at "rd"
        refine ⟨r2, _, rfl, .inr (sqT_ext e h21), ?_⟩
        have := he _ (fun _ _ z => z) rfl
        rw [if_neg (fun z => hne (by injection z with z; exact z.symm))] at this
        exact this
    have hd2 : H2 D2 = some (.lst (([3, 1] : List Int).map V.int)) := by
      rw [hd2]
      simp [Ne.symm hne]
    have e12 := Ext.trans e1 e2
    have ha2 := sqT_ext e2 ha1
    have h12 := sqT_ext e2 h11
    have h22 := sqT_ext e2 h21
    clear ha1 h11 h21 hd hD e1
    walk_at "rd"
    refine ⟨D2, _, rfl, .inl ⟨SqL.of hd2, fun t ht => ?_⟩⟩
    have e3 := Ext.new (o := HO.tup (([3, 1] : List Int).map V.int)) ht
    have hts : SqT K (upd H2 t (HO.tup (([3, 1] : List Int).map V.int))) t (([3, 1] : List Int).map V.int) := SqT.of upd_same
    generalize upd H2 t (HO.tup (([3, 1] : List Int).map V.int)) = H3 at e3 hts
    walk_at "rd"
    refine ⟨t, [3, 1], rfl, hts, fall31, fun H4 e4 => ?_⟩
    walk_at "rd"
    have e34 := Ext.trans e3 e4
    refine ⟨t, a, r1, r2, rfl, sqT_ext e4 hts, sqT_ext e34 ha2, sqT_ext e34 h12, sqT_ext e34 h22, fun H5 e5 => ?_⟩
    have e35 := Ext.trans e34 e5
    walk_at "rd"
    refine ⟨a, r1, r2, rfl, sqT_ext e35 ha2, sqT_ext e35 h12, sqT_ext e35 h22, fun H6 r e6 hr6 => ?_⟩
    have e36 := Ext.trans e35 e6
    walk_at "rd"
    refine g_lc (g_itup ?_)
    walk_at "rd"
    refine lcT hr6 (by simp; decide) (fun _ => true) (fun _ => .bl true) (fun x H' hx e Qe Qn he hn => ?_) (fun H7 D7 e7 hD7 hd7 => ?_)
    · have hx : x = V.int 3 ∨ x = V.int 1 ∨ x = V.int 2 := by simpa using hx
      refine ⟨rfl, ?_⟩
      rcases hx with rfl | rfl | rfl
      · walk_at "rd"
        exact he _ (fun _ _ z => z) rfl
      · walk_at "rd"
        exact he _ (fun _ _ z => z) rfl
      · walk_at "rd"
        exact he _ (fun _ _ z => z) rfl
    walk_at "rd"
    refine ⟨D7, [true, true, true, true], rfl, SqL.of hd7, ?_⟩
    walk_at "rd"
    refine iteF ?_
    walk_at "rd"
    exact k _ r (Ext.trans e12 (Ext.trans e36 e7)) (sqT_ext e7 hr6)
end
end

/-! weight(word). -/

section
open PySem PySem.Spec PyProof.Rows L2 Gd
section
variable {P : Program} {w : World} {K : PySem.W.Frag} {mg : Str → Option Value} {base : Heap} {f CR fR : Addr} {fd : FuncData}
abbrev sWeight : Stmt := top 21
theorem scWeight : FnScope ["word", "letter"] ["word"] (defScope sWeight) := ⟨rfl, rfl, rfl, by decide +kernel, rfl, by decide +kernel, by decide +kernel⟩
/-- how a word is refused whose letter i + 2 stands too often -/
def OddW (K : PySem.W.Frag) (CR : Addr) (i : Nat) (H : Hp) (E : XK) : Prop := ∀ H' d a, Ext H H' → H' d = none → SqT K H' a [.str "contents", .int ((i : Int) + 1)] → E (.ref CR) (some d) (upd H' d (.xd [(("reason" : Str), .ref a)]))
def spWeight (K : PySem.W.Frag) (CR : Addr) : Sp := fun vs H Q E => ∃ (a : Addr) (ws : List Int), vs = [.ref a] ∧ TupX K H a (ws.map V.int) ∧ ws.length ≤ 12 ∧ (∀ x ∈ ws, 1 ≤ x ∧ x ≤ 12) ∧
  ((∀ i, i < 11 → ¬ BadAt ws i) → ∀ H' N, Ext H H' → Kn.Charge (Kn.wd ws) N → Q (.int N) H') ∧ ∀ i, i < 11 → BadAt ws i → (∀ j, j < i → ¬ BadAt ws j) → OddW K CR i H E
theorem ok_weight (F : Fun K "weight" "weight" sWeight f fd) (T : Txt K mg) (gM : ∃ t, mg "MAX_SIZE" = some (.int 12 t)) (R : PySem.XRefused.RefusedTxt K mg CR fR) (Wi : Def1 P w K mg base CX0 3 "is_within" ["value", "low", "high"] (spIsWithin K)) (Wo : Def1 P w K mg base CX0 2 "weight_of" ["word"] (spWO K)) :
    FnOk P w K mg base (L2.CX P w) 4 f fd ["word"] (spWeight K CR) := by
  obtain ⟨tM, gM⟩ := gM
  refine F.okX scWeight (fun vs H Q E h => ?_) (fun cdv A outer s H vs Q E hr h => ?_)
  · obtain ⟨a, ws, rfl, _⟩ := h
    rfl
  · obtain ⟨a, ws, rfl, ha, hl, hp, k1, k2⟩ := h
    refine ⟨_, pss_cons (ps_if (PW.pt (pw_or (pt_not (pt_val (pe_callB call_isi (by rfl) T.isinstance (by decide +kernel) (pa_cons (pv 0) (pa_cons (pe_bltn (v := .ty "tuple") (by rfl) T.tuple (by decide +kernel) rfl) pa_nil))))) (pw_or1 (pt_cmpR op_gt (pe_callB call_len_seq (by rfl) T.len PySem.boot_len (pa_cons (pv 0) pa_nil)) (pe_glob (v := .int 12) (by rfl) gM ⟨_, rfl⟩) (nomark _))))) (pss_one ps_never) pss_nil)
      (pss_cons (ps_if (pt_not (pt_val (pe_callB (cr_all rfl) (by rfl) T.all (by decide +kernel) (pa_cons (pe_lc (own := [("letter", 1)]) (g := gName 1) (tt := tYes) rfl scWeight.nd (pi_tup (pv 0)) (blkOk_by (N := ["word", "letter"]) (sc := defScope sWeight) (by decide +kernel)) (fun _ _ _ _ _ => pg_name (i := 1) scWeight.nd rfl (Or.inl rfl)) (fun _ _ _ _ _ => pts_nil) (fun _ _ _ _ _ => by exact (pe_def Wi hr (by decide) (by rfl) (pa_cons (pv 1) (pa_cons pe_int (pa_cons (pe_glob (v := .int 12) (by rfl) gM ⟨_, rfl⟩) pa_nil)))))) pa_nil)))) (pss_one ps_never) pss_nil)
      (pss_cons (ps_for (passes_of rfl) rfl (pi_range2 (by rfl) T.range (pa_cons pe_int (pa_cons (pe_glob (v := .int 12) (by rfl) gM ⟨_, rfl⟩) pa_nil))) (pg_name (i := 1) scWeight.nd rfl (Or.inl rfl)) (pss_one (ps_if (pt_cmpR op_gt (pe_bmT PySem.F.plainAttrs_tuple PySem.F.slot_tuple_count PySem.F.type_tuple_count mt_tcount (pv 0) (pa_cons (pe_op op_add (pv 1) pe_int) pa_nil)) (pe_bmT PySem.F.plainAttrs_tuple PySem.F.slot_tuple_count PySem.F.type_tuple_count mt_tcount (pv 0) (pa_cons (pv 1) pa_nil)) (nomark _)) (pss_one (ps_raiseRefused rfl R hr (takes_of rfl rfl rfl rfl) (by exact (pa_cons (pe_tup (pa_cons pe_str (pa_cons (pv 1) pa_nil))) pa_nil)))) pss_nil)))
      (pss_one (ps_ret (pe_def Wo hr (by decide) (by rfl) (pa_cons (pv 0) pa_nil)))))), ?_⟩
    try dsimp only [cx_nox, cx_K]
    have sz : (100000 : Nat) < sizeLine := by decide
    have hs := ha.sq
    walk_at "rd"
    refine ⟨_, _, _, _, true, rfl, .ty _, tyT hs, by kernel_rfl, ?_⟩
    walk_at "rd"
    refine ⟨a, _, rfl, .inr hs, ?_⟩
    walk_at "rd"
    rw [List.length_map, decide_eq_false (show ¬ (12 : Int) < (ws.length : Int) by omega)]
    walk_at "rd"
    refine g_lc (g_itup ?_)
    walk_at "rd"
    refine lcT hs (by rw [List.length_map]; omega) (fun _ => true) (fun _ => .bl true) (fun x H' hx e Qe Qn he hn => ?_) (fun H1 D e1 hD hd => ?_)
    · obtain ⟨n, hn', rfl⟩ := List.mem_map.mp hx
      refine ⟨rfl, ?_⟩
      walk_at "rd"
      refine ⟨_, 1, 12, true, rfl, by decide, by decide, .inl ⟨n, rfl, (decide_eq_true (hp n hn')).symm⟩, ?_⟩
      exact he _ (fun _ _ z => z) rfl
    · walk_at "rd"
      refine ⟨D, ws.map fun _ => true, rfl, SqL.of ?_, ?_⟩
      · rw [hd, List.filter_eq_self.mpr (fun _ _ => rfl), List.map_map, List.map_map]
        rfl
      have all : (ws.map fun _ => true).all id = true := by simp
      rw [all]
      walk_at "rd"
      have ha1 := ha.ext e1
      refine g_forR2 ?_
      walk_at "rd"
      refine ⟨⟨by decide, by decide, by decide, by decide⟩, for_range (fun i σ H' => ∃ x : Option V, σ = [some (.ref a), x] ∧ H' = H1 ∧ ∀ j, j < i → ¬ BadAt ws j) ⟨_, rfl, rfl, fun j hj => absurd hj (Nat.not_lt_zero _)⟩ ?_ ?_⟩
      · rintro i σ H2 hi ⟨x, rfl, rfl, nb⟩
        have hi2 : i < 11 := hi
        walk_at "rd"
        refine g_bmT ?_
        walk_at "rd"
        refine ⟨⟨a, _, rfl, ha1⟩, ?_⟩
        walk_at "rd"
        refine ⟨a, ws, _, rfl, rfl, ha1.sq, ?_⟩
        walk_at "rd"
        refine g_bmT ?_
        walk_at "rd"
        refine ⟨⟨a, _, rfl, ha1⟩, ?_⟩
        walk_at "rd"
        refine ⟨a, ws, _, rfl, rfl, ha1.sq, ?_⟩
        walk_at "rd"
        have e1' : (1 : Int) + (i : Int) = (i : Int) + 1 := by omega
        have e2 : (1 : Int) + (i : Int) + 1 = (i : Int) + 2 := by omega
        rw [e2, e1']
        by_cases hb : BadAt ws i
        · have hb2 := hb
          unfold BadAt at hb2
          rw [decide_eq_true (by omega)]
          walk_at "rd"
          unfold tRaiseRefused tMkRefused
          walk_at "rd"
          refine ⟨by show 2 ≤ sizeLine; decide, fun t nt => ?_⟩
          exact ⟨_, rfl, fun d hd => k2 i hi2 hb nb _ d t (Ext.trans e1 (Ext.new nt)) hd (SqT.of upd_same)⟩
        · have hb2 := hb
          unfold BadAt at hb2
          rw [decide_eq_false (by omega)]
          walk_at "rd"
          refine ⟨_, rfl, rfl, fun j hj => ?_⟩
          rcases Nat.lt_or_ge j i with z | z
          · exact nb j z
          · rw [show j = i by omega]
            exact hb
      · rintro σ H2 ⟨x, rfl, rfl, nb⟩
        walk_at "rd"
        exact ⟨a, ws, rfl, ha1.sq, fun x hx => (hp x hx).1, by omega, fun H3 N e3 hc => k1 nb H3 N (Ext.trans e1 e3) hc⟩
end
end

/-! How a word is refused. -/

section
open PySem PySem.Spec PyProof.Rows L2 Gd
section
variable {P : Program} {w : World} {K : PySem.W.Frag} {mg : Str → Option Value} {base : Heap} {f CR fR : Addr} {fd : FuncData}
theorem ps_guard {X : Cx} {G : Prop} {st : Stmt} {t : TS} (h : G → PS X st t) : PS X st (fun D σ H => G ∧ t D σ H) := ⟨fun pins s σ H D I hw => (h hw.1).run pins s σ H D I hw.2⟩
theorem passLen {X : Cx} {W : WX} {E : XK} {n : Nat} (hn : X.N.length = n) (tk : Takes X W) (G : ∀ cls d σ H, σ.length = n → E cls d H → W cls d σ H) (σ : L2.St) : PassesAt (L2.CX X.prog X.w) X σ E :=
  fun _ _ _ e s' I c => tk e s' (XE.of_call I (fun cls d H' h => G cls d σ H' (I.len.trans hn) h) c)
theorem passLen' {X : Cx} {W : WX} {E : XK} {n : Nat} (hn : X.N.length = n) (tk : Takes X W) (G : ∀ cls d σ H, σ.length = n → E cls d H → W cls d σ H) : Passes (L2.CX X.prog X.w) X E :=
  fun pins σ H s e s' I c => passLen hn tk G σ pins H s e s' I c
theorem of_len2V {α : Type} {l : List α} (h : l.length = 2) : ∃ a b, l = [a, b] := by
  match l, h with
  | [a, b], _ => exact ⟨a, b, rfl⟩
abbrev sRefusal : Stmt := top 34
theorem scRefusal : FnScope ["_law_word", "e"] ["_law_word"] (defScope sRefusal) := ⟨rfl, rfl, rfl, by decide +kernel, rfl, by decide +kernel, by decide +kernel⟩
def spRefusal (K : PySem.W.Frag) : Sp := fun vs H Q _ => ∃ (a : Addr) (ws : List Int) (n : Int), vs = [.ref a] ∧ TupX K H a (ws.map V.int) ∧ ws.length ≤ 12 ∧ (∀ x ∈ ws, 1 ≤ x ∧ x ≤ 12) ∧ TooAt ws n ∧
  (n = 0 → ∀ H' r, Ext H H' → SqT K H' r [] → Q (.ref r) H') ∧ (0 < n → ∀ H' r, Ext H H' → SqT K H' r [.str "contents", .int n] → Q (.ref r) H')
/-- what the refusal says -/
def ERef (K : PySem.W.Frag) (CR : Addr) (H0 : Hp) (n : Int) : XK := fun cls d H => cls = .ref CR ∧ 0 < n ∧ ∃ d' H1 a, d = some d' ∧ Ext H0 H1 ∧ H1 d' = none ∧ SqT K H1 a [.str "contents", .int n] ∧ H = upd H1 d' (.xd [(("reason" : Str), .ref a)])
theorem ok_refusal (F : Fun K "_law_refusal" "_law_refusal" sRefusal f fd) (T : Txt K mg) (R : PySem.XRefused.RefusedTxt K mg CR fR) (We : Def1 P w K mg base (L2.CX P w) 4 "weight" ["word"] (spWeight K CR)) :
    FnOk P w K mg base CX0 5 f fd ["_law_word"] (spRefusal K) := by
  refine F.ok scRefusal (fun vs H Q E h => ?_) (fun cdv Ar outer s H vs Q E hr h => ?_)
  · obtain ⟨a, ws, n, rfl, _⟩ := h
    rfl
  · obtain ⟨a, ws, n, rfl, ha, hl, hp, ht, k0, k1⟩ := h
    refine ⟨_, pss_cons (ps_try_asAll (i := 1) (tb := fun W => fun D σ H' => (∀ cls d σ H', σ.length = 2 → ERef K CR H n cls d H' → W cls d σ H') ∧ tDrop (tCall (spWeight K CR) [] (ERef K CR H n) (tCons (tVar 0) tNil)) D σ H')
          (Wo := fun _ _ _ _ => False) rfl rfl scRefusal.nd rfl rfl takes0
          (fun W pn xe tk _ => pss_one (ps_guard fun G => ps_expr (by exact (pe_defX We (passLen' rfl tk G) hr (by decide) (by rfl) (pa_cons (pv 0) pa_nil)))))
          (AsOk.cons (c := .ref CR) ⟨rfl, by decide, Or.inl R.gC⟩ (fun a oe cls d pn hz hf => pss_one (ps_ret (by exact (pe_byRefused R hz hf (pv 1))))) AsOk.nil)) (pss_one (ps_ret (by exact (pe_tup pa_nil)))), ?_⟩
    refine g_seq ?_
    refine ⟨fun cls d σ H' hlen hE => ?_, ?_⟩
    · obtain ⟨s0, s1, rfl⟩ := of_len2V hlen
      obtain ⟨rfl, h0, d', H1, a, rfl, e1, hd', ha, rfl⟩ := hE
      refine ⟨true, R.te, fun _ a0 _ => ?_, fun z => Bool.noConfusion z⟩
      refine ⟨_, rfl, rfl, rfl, d', _, rfl, upd_same, ?_⟩
      exact k1 h0 _ a (Ext.trans e1 (Ext.new hd')) (sqT_ext (Ext.new hd') ha)
    walk_at "rd"
    refine ⟨a, ws, rfl, ha, hl, hp, fun nb H1 N e1 _ => ?_, fun i hi hb nb H1 d t e1 hd hq => ?_⟩
    · walk_at "rd"
      refine ⟨by show 0 ≤ sizeLine; decide, fun z nz => ?_⟩
      refine k0 (TooAt.uniq ht (.inl ⟨rfl, nb⟩)) _ z (Ext.trans e1 (Ext.new nz)) (SqT.of upd_same)
    · have en : n = (i : Int) + 1 := TooAt.uniq ht (.inr ⟨i, hi, rfl, hb, nb⟩)
      subst en
      exact ⟨rfl, by omega, d, H1, t, rfl, e1, hd, hq, rfl⟩
end
end

/-! One draw. -/

section
open PySem PySem.Spec PyProof.Rows L2 Gd
theorem dice_keepsX {H H' : Hp} {d : Addr} (hd : DiceAt H d) (e : ExtBut d H H') : Keeps H H' := by
  obtain ⟨_, _, _, q, _⟩ := hd
  exact keeps_but (.inr q) e
theorem weighs {K : PySem.W.Frag} {CR : Addr} {H : Hp} {u : Addr} {ns ws : List Int} {Q : VK} (h : TupX K H u (ws.map V.int)) (hW : WordOf ns ws) (F : Fall ns) (k : ∀ H' N, Ext H H' → Kn.Charge (Kn.wd ws) N → Q (.int N) H') : spWeight K CR [.ref u] H Q X0 :=
  ⟨u, ws, rfl, h, hW.len F, hW.mem F, fun _ => k, fun i _ b _ => absurd b (hW.good F i)⟩
theorem g_neZ {H : Hp} {Q : VK} {i j : Int} (e : i = j) (k : Q (.bl false) H) : rNe (.int i) (.int j) H Q := by
  subst e
  exact ⟨rfl, by simpa using k⟩
def cands : List (List Int) := [[1, 2, 3], [1, 1, 2, 2, 3], [1, 2, 2], [2], [1, 3], [1, 1, 2, 4], [12], [1, 2, 3, 3]]
theorem cands_ok : ∀ ns ∈ cands, ns.length ≤ 12 ∧ ∀ x ∈ ns, 1 ≤ x ∧ x ≤ 12 := by decide
/-- rows made one after the other -/
structure RS (d : Addr) (H0 H : Hp) (vs : List V) : Prop where
  ext : Ext H0 H
  dice : DiceAt H d
  rows : ∀ v ∈ vs, ∃ l ns, v = V.ref l ∧ l ≠ d ∧ H l = some (.lst ((ns : List Int).map V.int)) ∧ ns ∈ cands
theorem RS.step {d : Addr} {H0 H : Hp} {vs : List V} (h : RS d H0 H vs) {l : Addr} (n : H l = none) (ns : List Int) {xs : List V} (hx : ns.map V.int = xs) (m : ns ∈ cands) : RS d H0 (upd H l (.lst xs)) (.ref l :: vs) := by
  subst hx
  exact ⟨Ext.trans h.ext (Ext.new n), h.dice.ext (Ext.new n), fun v hv => by
    rcases List.mem_cons.mp hv with rfl | hv
    · exact ⟨l, ns, rfl, dice_none h.dice n, upd_same, m⟩
    · obtain ⟨l', ns', h1, h2, h3, h4⟩ := h.rows v hv
      exact ⟨l', ns', h1, h2, Ext.new n _ _ h3, h4⟩⟩
theorem told_eqv (l : Int) : PyData.eqv (.tuple [.str "contents", .int l]) (.tuple [.str "contents", .int l]) = true := by
  show (decide (("contents" : Str) = "contents") && (decide (l = l) && true)) = true
  simp
theorem told_sh (l : Int) : SeqAt.shaped (.tuple [.str "contents", .int l]) = true := by
  unfold SeqAt.shaped
  rw [show PyData.canLay0 (.tuple [.str "contents", .int l]) = (PyData.canLay0 (.str "contents") && (PyData.canLay0 (.int l) && true)) from rfl]
  have : PyData.canLay0 (.str "contents") = true := by decide +kernel
  rw [this, show PyData.canLay0 (.int l) = true from rfl]
  rfl
theorem log_ok {N : Nat} (h : (N : Int) ≤ 1000) : ((N : Int)).natAbs.log2 < 1920 := by
  have := Nat.log2_le_self N
  rw [Int.natAbs_natCast]
  omega
theorem mul_le' {a b : Int} {i : Nat} (hi : (i : Int) ≤ 12) (h0 : 0 ≤ b) (h1 : b ≤ 12) : (i : Int) * b ≤ 144 := by
  have := Int.mul_le_mul hi h1 h0 (by decide)
  omega
theorem slant_le {ns : List Int} (F : Fall ns) : slantI ns ≤ 1000 ∧ 0 ≤ slantI ns := by
  have h : WordOf ns (lets ns ns.length) := .self
  rw [← h.pot F, pot_eq]
  have hm := h.mem F
  have hl := h.len F
  have : ∀ l : List Int, (∀ x ∈ l, 1 ≤ x ∧ x ≤ 12) → (l.map fun x => (x - 1).toNat).sum ≤ 12 * l.length := fun l => by
    induction l with
    | nil => intro _; exact Nat.zero_le _
    | cons x r ih =>
      intro hx
      have := ih fun y hy => hx y (List.mem_cons_of_mem _ hy)
      have := hx x List.mem_cons_self
      rw [List.map_cons, List.sum_cons, List.length_cons]
      omega
  have := this _ hm
  omega
section
variable {P : Program} {w : World} {K : PySem.W.Frag} {mg : Str → Option Value} {base : Heap} {f CR fR : Addr} {fd : FuncData}
abbrev sRight : Stmt := top 35
theorem scRight : FnScope ["_law_dice_here", "_law_kind_here", "_law_word", "_law_due", "_law_ascending", "_law_other", "_law_rows", "_law_odd", "_law_number"] ["_law_dice_here"] (defScope sRight) := ⟨rfl, rfl, rfl, by decide +kernel, rfl, by decide +kernel, by decide +kernel⟩
def spRight : Sp := fun vs H Q _ => ∃ d : Addr, vs = [.ref d] ∧ DiceAt H d ∧ ∀ H', ExtBut d H H' → DiceAt H' d → Q (.bl true) H'
theorem ok_right (F : Fun K "_law_right" "_law_right" sRight f fd) (T : Txt K mg) (hRp : mg "repr" = none) (We : Def1 P w K mg base (L2.CX P w) 4 "weight" ["word"] (spWeight K CR)) (Dk : Def1 P w K mg base CX0 3 "_law_kind" ["_law_dice_here", "_law_most"] (spKind K))
    (Mi : Def1 P w K mg base CX0 2 "_law_mixed" ["_law_dice_here", "_law_items"] (spMixed K)) (Le : Def1 P w K mg base CX0 1 "_law_letters" ["_law_kind_here"] (spLetters K)) (Ww : Def1 P w K mg base CX0 1 "_law_word_weight" ["_law_word"] (spWW K)) (Sl : Def1 P w K mg base CX0 1 "_law_slant" ["_law_kind_here"] (spSlant K))
    (Kw : Def1 P w K mg base CX0 1 "_law_kin_words" ["_law_word"] (spKin K)) (Pi : Def1 P w K mg base CX0 2 "_law_pick" ["_law_dice_here", "_law_items"] (spPick K)) (To : Def1 P w K mg base CX0 1 "_law_too_often" ["_law_word"] (spToo K)) (Rf : Def1 P w K mg base CX0 5 "_law_refusal" ["_law_word"] (spRefusal K)) :
    FnOk P w K mg base CX0 6 f fd ["_law_dice_here"] spRight := by
  refine F.ok scRight (fun vs H Q E h => ?_) (fun cdv A outer s H vs Q E hr h => ?_)
  · obtain ⟨d, rfl, _⟩ := h
    rfl
  · obtain ⟨d, rfl, hd, k⟩ := h
    refine ⟨_, pss_cons (ps_set (i := 1) scRight.nd rfl (Or.inl rfl) (pe_def Dk hr (by decide) (by rfl) (pa_cons (pv 0) (pa_cons pe_int pa_nil))))
      (pss_cons (ps_set (i := 2) scRight.nd rfl (Or.inl rfl) (pe_callTy call_tupX (by rfl) T.tuple (by decide +kernel) (pa_cons (pe_def Mi hr (by decide) (by rfl) (pa_cons (pv 0) (pa_cons (pe_def Le hr (by decide) (by rfl) (pa_cons (pv 1) pa_nil)) pa_nil))) pa_nil)))
      (pss_cons (ps_par (i := 3) (j := 4) (by rfl) scRight.nd rfl rfl (by decide) rfl rfl (pa_cons (pe_def Ww hr (by decide) (by rfl) (pa_cons (pv 2) pa_nil)) (pa_cons (pe_callTy call_tupX (by rfl) T.tuple (by decide +kernel) (pa_cons (pe_def Le hr (by decide) (by rfl) (pa_cons (pv 1) pa_nil)) pa_nil)) pa_nil)) (by rfl))
      (pss_cons (ps_if (PW.pt (pw_or (pt_cmpR op_ne (pe_callB SkE.call_repr_int (by rfl) hRp (by decide +kernel) (pa_cons (pe_defX (E := X0) We (passes_call L2.takes0 (fun _ _ _ _ h => h)) hr (by decide) (by rfl) (pa_cons (pv 2) pa_nil)) pa_nil)) (pe_callB SkE.call_repr_int (by rfl) hRp (by decide +kernel) (pa_cons (pv 3) pa_nil)) (nomark _)) (pw_or1 (pt_not (pt_chain op_le op_le pe_int (pv 3) (pe_def Sl hr (by decide) (by rfl) (pa_cons (pv 1) pa_nil))))))) (pss_one (ps_ret pe_bl)) pss_nil)
      (pss_cons (ps_if (PW.pt (pw_or (pt_cmpR op_ne (pe_defX (E := X0) We (passes_call L2.takes0 (fun _ _ _ _ h => h)) hr (by decide) (by rfl) (pa_cons (pe_revX (pv 4)) pa_nil)) pe_int (nomark _)) (pw_or1 (pt_cmpR op_ne (pe_defX (E := X0) We (passes_call L2.takes0 (fun _ _ _ _ h => h)) hr (by decide) (by rfl) (pa_cons (pv 4) pa_nil)) (pe_def Sl hr (by decide) (by rfl) (pa_cons (pv 1) pa_nil)) (nomark _))))) (pss_one (ps_ret pe_bl)) pss_nil)
      (pss_cons (ps_for PassesOwn.never rfl (pi_list (pe_slice sl_list (pe_def Kw hr (by decide) (by rfl) (pa_cons (pv 2) pa_nil)) po_none (po_some pe_int))) (pg_name (i := 5) scRight.nd rfl (Or.inl rfl)) (pss_one (ps_if (pt_cmpR op_ne (pe_defX (E := X0) We (passes_call L2.takes0 (fun _ _ _ _ h => h)) hr (by decide) (by rfl) (pa_cons (pv 5) pa_nil)) (pv 3) (nomark _)) (pss_one (ps_ret pe_bl)) pss_nil)))
      (pss_cons (ps_set (i := 6) scRight.nd rfl (Or.inl rfl) (pe_def Pi hr (by decide) (by rfl) (pa_cons (pv 0) (pa_cons (pe_lst (pa_cons (pe_lst (pa_cons pe_int (pa_cons pe_int (pa_cons pe_int pa_nil)))) (pa_cons (pe_lst (pa_cons pe_int (pa_cons pe_int (pa_cons pe_int (pa_cons pe_int (pa_cons pe_int pa_nil)))))) (pa_cons (pe_lst (pa_cons pe_int (pa_cons pe_int (pa_cons pe_int pa_nil)))) (pa_cons (pe_lst (pa_cons pe_int pa_nil)) (pa_cons (pe_lst (pa_cons pe_int (pa_cons pe_int pa_nil))) (pa_cons (pe_lst (pa_cons pe_int (pa_cons pe_int (pa_cons pe_int (pa_cons pe_int pa_nil))))) (pa_cons (pe_lst (pa_cons pe_int pa_nil)) (pa_cons (pe_lst (pa_cons pe_int (pa_cons pe_int (pa_cons pe_int (pa_cons pe_int pa_nil))))) pa_nil))))))))) pa_nil))))
      (pss_cons (ps_set (i := 7) scRight.nd rfl (Or.inl rfl) (pe_callTy call_tupX (by rfl) T.tuple (by decide +kernel) (pa_cons (pe_def Mi hr (by decide) (by rfl) (pa_cons (pv 0) (pa_cons (pv 6) pa_nil))) pa_nil)))
      (pss_cons (ps_set (i := 8) scRight.nd rfl (Or.inl rfl) (pe_def To hr (by decide) (by rfl) (pa_cons (pv 7) pa_nil)))
      (pss_one (ps_ret (pe_cmpR (op_eqD hr.units) (pe_def Rf hr (by decide) (by rfl) (pa_cons (pv 7) pa_nil)) (pe_ifExp (pt_cmpR op_gt (pv 8) pe_int (nomark _)) (pe_tup (pa_cons pe_str (pa_cons (pv 8) pa_nil))) (pe_tup pa_nil)) (nomark _)))))))))))), ?_⟩
    try dsimp only [cx_nox, cx_K]
    have sz : (100000 : Nat) < sizeLine := by decide
    walk_at "rd"
    refine ⟨d, 12, rfl, hd, by decide, by decide, fun H1 a ns b1 hd1 ha hF _ => ?_⟩
    walk_at "rd"
    refine ⟨a, ns, rfl, ha.sq, hF, fun H2 l e2 hl0 hl => ?_⟩
    walk_at "rd"
    have hself : WordOf ns (lets ns ns.length) := .self
    have hlen := hself.len hF
    have hd2 := hd1.ext e2
    have hld : l ≠ d := dice_none hd1 hl0
    refine ⟨d, l, _, rfl, hd2, SqL.of hl, hld, by omega, fun H3 r ms b3 hd3 _ hr3 hms => ?_⟩
    have hW : WordOf ns ms := hms
    walk_at "rd"
    refine ⟨r, _, rfl, .inl ⟨SqL.of hr3, fun u o hu ho => ?_⟩⟩
    have e4 := Ext.new (o := HO.frz o (.tup (ms.map V.int))) hu
    have hu4 : TupX K (upd H3 u (HO.frz o (.tup (ms.map V.int)))) u (ms.map V.int) := TupX.new ho
    have hd4 := hd3.ext e4
    have ha4 : TupX K (upd H3 u (HO.frz o (.tup (ms.map V.int)))) a (ns.map V.int) := (TupX.keeps (dice_keepsX hd2 b3) (ha.ext e2)).ext e4
    have k4 : ∀ H', ExtBut d (upd H3 u (HO.frz o (.tup (ms.map V.int)))) H' → DiceAt H' d → Q (.bl true) H' := fun H' e q => k H' (ExtBut.trans b1 (ExtBut.trans (ExtBut.of e2) (ExtBut.trans b3 (ExtBut.trans (ExtBut.of e4) e)))) q
    generalize upd H3 u (HO.frz o (.tup (ms.map V.int))) = H4 at hu4 hd4 ha4 k4
    clear e4 hu ho hr3 hms b3 hd3 hl hld hd2 e2 hl0 ha b1 hd1 k hd
    have mlen := hW.len hF
    have mmem := hW.mem hF
    have hsl := slant_le hF
    walk_at "rd"
    refine g_par ?_
    walk_at "rd"
    refine ⟨u, ms, rfl, hu4.sq, fun x hx => (mmem x hx).1, by omega, fun H5 due e5 hdue => ?_⟩
    walk_at "rd"
    refine ⟨a, ns, rfl, (ha4.ext e5).sq, hF, fun H6 l6 e6 _ hl6 => ?_⟩
    walk_at "rd"
    refine ⟨l6, _, rfl, .inl ⟨SqL.of hl6, fun u7 o7 hu7 ho7 => ?_⟩⟩
    refine ⟨_, _, rfl, ?_⟩
    have e7 := Ext.new (o := HO.frz o7 (.tup ((lets ns ns.length).map V.int))) hu7
    have e47 := Ext.trans e5 (Ext.trans e6 e7)
    have hv7 : TupX K (upd H6 u7 (HO.frz o7 (.tup ((lets ns ns.length).map V.int)))) u7 ((lets ns ns.length).map V.int) := TupX.new ho7
    generalize upd H6 u7 (HO.frz o7 (.tup ((lets ns ns.length).map V.int))) = H7 at e7 e47 hv7
    have hdle := hW.le hF hdue
    clear e5 e6 e7 hl6 hu7 ho7
    dsimp only
    refine g_cut (fun σ H' => σ = [some (.ref d), some (.ref a), some (.ref u), some (.int (due : Int)), some (.ref u7), none, none, none, none] ∧ Ext H4 H' ∧ TupX K H' u7 ((lets ns ns.length).map V.int)) (fun σ' H8 hN => ?_) (fun go => ?_)
    rotate_left
    · walk_at "rd"
      refine weighs (hu4.ext e47) hW hF fun H8 N e8 hN => ?_
      obtain rfl : N = due := Kn.Charge.uniq hN hdue
      walk_at "rd"
      refine ⟨log_ok (by omega), ?_⟩
      walk_at "rd"
      refine ⟨log_ok (by omega), ?_⟩
      refine g_neS ?_
      walk_at "rd"
      rw [decide_eq_true (show (0 : Int) ≤ (N : Int) by omega)]
      walk_at "rd"
      refine ⟨a, ns, rfl, (ha4.ext (Ext.trans e47 e8)).sq, hF, fun H9 e9 => ?_⟩
      walk_at "rd"
      rw [decide_eq_true hdle]
      walk_at "rd"
      exact go _ _ ⟨rfl, Ext.trans e47 (Ext.trans e8 e9), hv7.ext (Ext.trans e8 e9)⟩
    obtain ⟨rfl, e48, hv8⟩ := hN
    clear e47 hv7
    refine g_cut (fun σ H' => σ = [some (.ref d), some (.ref a), some (.ref u), some (.int (due : Int)), some (.ref u7), none, none, none, none] ∧ Ext H4 H') (fun σ' H9 hN => ?_) (fun go => ?_)
    rotate_left
    · walk_at "rd"
      refine g_revX ?_
      walk_at "rd"
      refine ⟨u7, _, rfl, hv8.sq, fun p o hp ho => ?_⟩
      have e9 := Ext.new (o := HO.frz o (.tup ((lets ns ns.length).map V.int).reverse)) hp
      have hp9 : TupX K (upd H8 p (HO.frz o (.tup ((lets ns ns.length).map V.int).reverse))) p ((lets ns ns.length).reverse.map V.int) := by
        rw [List.map_reverse]
        exact TupX.new ho
      walk_at "rd"
      refine weighs hp9 .rev hF fun H10 N e10 hN => ?_
      obtain rfl := desc_charge hN
      have e11 := Ext.trans e9 e10
      clear hp9 e9 e10 hN
      walk_at "rd"
      refine g_neZ rfl ?_
      walk_at "rd"
      refine weighs (hv8.ext e11) .self hF fun H12 N e12 hN => ?_
      walk_at "rd"
      refine ⟨a, ns, rfl, (ha4.ext (Ext.trans e48 (Ext.trans e11 e12))).sq, hF, fun H13 e13 => ?_⟩
      walk_at "rd"
      refine g_neZ (asc_charge hF hN) ?_
      walk_at "rd"
      exact go _ _ ⟨rfl, Ext.trans e48 (Ext.trans e11 (Ext.trans e12 e13))⟩
    obtain ⟨rfl, e49⟩ := hN
    clear e48 hv8
    refine g_cut (fun σ H' => ∃ x : Option V, σ = [some (.ref d), some (.ref a), some (.ref u), some (.int (due : Int)), some (.ref u7), x, none, none, none] ∧ Ext H4 H') (fun σ' H10 hN => ?_) (fun go => ?_)
    rotate_left
    · refine g_seq (g_forL ?_)
      walk_at "rd"
      refine ⟨u, ms, rfl, hu4.ext e49, by omega, fun H10 l10 ks e10 _ hl10 hk10 hks => ?_⟩
      walk_at "rd"
      refine ⟨l10, ks, rfl, SqL.of hl10, fun p10 hp10 => ?_⟩
      have e11 := Ext.new (o := HO.lst (cutV ks none (some 6))) hp10
      have hcut : upd H10 p10 (HO.lst (cutV ks none (some 6))) p10 = some (.lst (cutV ks none (some 6))) := upd_same
      have hks2 : ∀ v ∈ cutV ks none (some 6), KinT K (upd H10 p10 (HO.lst (cutV ks none (some 6)))) ms v := fun v hv => (hks v (List.mem_of_mem_drop (List.mem_of_mem_take hv))).keeps (keepsE e11)
      have e411 := Ext.trans e49 (Ext.trans e10 e11)
      generalize upd H10 p10 (HO.lst (cutV ks none (some 6))) = H11 at hcut hks2 e411
      clear hks hl10 e10 hp10 e11
      generalize cutV ks none (some 6) = cs at hcut hks2
      refine forL (SqL.of hcut) (fun i σ H' => ∃ x : Option V, σ = [some (.ref d), some (.ref a), some (.ref u), some (.int (due : Int)), some (.ref u7), x, none, none, none] ∧ Ext H4 H' ∧ Ext H11 H') ⟨_, rfl, e411, fun _ _ z => z⟩ (fun i σ H' _ p => ?_) (fun i x σ H' hx p => ?_) (fun σ H' p => ?_)
      · obtain ⟨_, _, _, e⟩ := p
        exact sqL_ext e (SqL.of hcut)
      · obtain ⟨x5, rfl, e, e'⟩ := p
        obtain ⟨t, vs, rfl, ht, hkin⟩ := (hks2 x (List.mem_of_getElem? hx)).keeps (keepsE e')
        walk_at "rd"
        refine weighs ht (hW.kin hkin) hF fun H12 N e12 hN => ?_
        obtain rfl : due = N := hkin.charge (fun x hx => (mmem x hx).1) hdue hN
        walk_at "rd"
        refine g_neZ rfl ?_
        walk_at "rd"
        exact ⟨_, rfl, Ext.trans e e12, Ext.trans e' e12⟩
      · obtain ⟨x5, rfl, e, e'⟩ := p
        exact go _ _ ⟨_, rfl, e⟩
    obtain ⟨x5, rfl, e⟩ := hN
    clear e49
    have q0 : RS d H4 H10 [] := ⟨e, hd4.ext e, fun v hv => by cases hv⟩
    walk_at "rd"
    refine ⟨by show 3 ≤ sizeLine; omega, fun r1 n1 => ?_⟩
    have q1 := q0.step n1 [1, 2, 3] (xs := [V.int 1, V.int 2, V.int 3]) rfl (by decide)
    generalize upd H10 r1 (HO.lst [V.int 1, V.int 2, V.int 3]) = G1 at q1
    walk_at "rd"
    refine ⟨by show 5 ≤ sizeLine; omega, fun r2 n2 => ?_⟩
    have q2 := q1.step n2 [1, 1, 2, 2, 3] (xs := [V.int 1, V.int 1, V.int 2, V.int 2, V.int 3]) rfl (by decide)
    generalize upd G1 r2 (HO.lst [V.int 1, V.int 1, V.int 2, V.int 2, V.int 3]) = G2 at q2
    walk_at "rd"
    refine ⟨by show 3 ≤ sizeLine; omega, fun r3 n3 => ?_⟩
    have q3 := q2.step n3 [1, 2, 2] (xs := [V.int 1, V.int 2, V.int 2]) rfl (by decide)
    generalize upd G2 r3 (HO.lst [V.int 1, V.int 2, V.int 2]) = G3 at q3
    walk_at "rd"
    refine ⟨by show 1 ≤ sizeLine; omega, fun r4 n4 => ?_⟩
    have q4 := q3.step n4 [2] (xs := [V.int 2]) rfl (by decide)
    generalize upd G3 r4 (HO.lst [V.int 2]) = G4 at q4
    walk_at "rd"
    refine ⟨by show 2 ≤ sizeLine; omega, fun r5 n5 => ?_⟩
    have q5 := q4.step n5 [1, 3] (xs := [V.int 1, V.int 3]) rfl (by decide)
    generalize upd G4 r5 (HO.lst [V.int 1, V.int 3]) = G5 at q5
    walk_at "rd"
    refine ⟨by show 4 ≤ sizeLine; omega, fun r6 n6 => ?_⟩
    have q6 := q5.step n6 [1, 1, 2, 4] (xs := [V.int 1, V.int 1, V.int 2, V.int 4]) rfl (by decide)
    generalize upd G5 r6 (HO.lst [V.int 1, V.int 1, V.int 2, V.int 4]) = G6 at q6
    walk_at "rd"
    refine ⟨by show 1 ≤ sizeLine; omega, fun r7 n7 => ?_⟩
    have q7 := q6.step n7 [12] (xs := [V.int 12]) rfl (by decide)
    generalize upd G6 r7 (HO.lst [V.int 12]) = G7 at q7
    walk_at "rd"
    refine ⟨by show 4 ≤ sizeLine; omega, fun r8 n8 => ?_⟩
    have q8 := q7.step n8 [1, 2, 3, 3] (xs := [V.int 1, V.int 2, V.int 3, V.int 3]) rfl (by decide)
    generalize upd G7 r8 (HO.lst [V.int 1, V.int 2, V.int 3, V.int 3]) = G8 at q8
    walk_at "rd"
    refine ⟨by show 8 ≤ sizeLine; omega, fun L nL => ?_⟩
    have eL := Ext.new (o := HO.lst [V.ref r1, V.ref r2, V.ref r3, V.ref r4, V.ref r5, V.ref r6, V.ref r7, V.ref r8]) nL
    have hdL := q8.dice.ext eL
    have hLd := dice_none q8.dice nL
    have hL : upd G8 L (HO.lst [V.ref r1, V.ref r2, V.ref r3, V.ref r4, V.ref r5, V.ref r6, V.ref r7, V.ref r8]) L = some (HO.lst [V.ref r1, V.ref r2, V.ref r3, V.ref r4, V.ref r5, V.ref r6, V.ref r7, V.ref r8]) := upd_same
    have k8 : ∀ H', ExtBut d (upd G8 L (HO.lst [V.ref r1, V.ref r2, V.ref r3, V.ref r4, V.ref r5, V.ref r6, V.ref r7, V.ref r8])) H' → DiceAt H' d → Q (.bl true) H' := fun H' e q => k4 H' (ExtBut.trans (ExtBut.of (Ext.trans q8.ext eL)) e) q
    have rows : ∀ v ∈ [V.ref r1, V.ref r2, V.ref r3, V.ref r4, V.ref r5, V.ref r6, V.ref r7, V.ref r8], ∃ l ns, v = V.ref l ∧ l ≠ d ∧ upd G8 L (HO.lst [V.ref r1, V.ref r2, V.ref r3, V.ref r4, V.ref r5, V.ref r6, V.ref r7, V.ref r8]) l = some (.lst ((ns : List Int).map V.int)) ∧ ns ∈ cands := fun v hv => by
      obtain ⟨l', ns', h1, h2, h3, h4⟩ := q8.rows v (List.mem_reverse.mp hv)
      exact ⟨l', ns', h1, h2, eL _ _ h3, h4⟩
    clear q8 q7 q6 q5 q4 q3 q2 q1 q0 k4 e eL
    generalize upd G8 L (HO.lst [V.ref r1, V.ref r2, V.ref r3, V.ref r4, V.ref r5, V.ref r6, V.ref r7, V.ref r8]) = H12 at hdL hL k8 rows
    walk_at "rd"
    refine ⟨d, L, _, rfl, hdL, SqL.of hL, hLd, by simp, by simp, fun H13 x b13 hd13 hx => ?_⟩
    obtain ⟨l, cs, rfl, hld, hl, hc⟩ := rows x hx
    obtain ⟨clen, cmem⟩ := cands_ok cs hc
    have hl13 := b13 _ _ hld hl
    clear rows hx hL hc
    walk_at "rd"
    refine ⟨d, l, cs, rfl, hd13, SqL.of hl13, hld, by omega, fun H14 r14 os b14 hd14 _ hr14 hperm => ?_⟩
    walk_at "rd"
    refine ⟨r14, _, rfl, .inl ⟨SqL.of hr14, fun v o hv ho => ?_⟩⟩
    have e15 := Ext.new (o := HO.frz o (.tup (os.map V.int))) hv
    have hv15 : TupX K (upd H14 v (HO.frz o (.tup (os.map V.int)))) v (os.map V.int) := TupX.new ho
    have hd15 := hd14.ext e15
    have k15 : ∀ H', ExtBut d (upd H14 v (HO.frz o (.tup (os.map V.int)))) H' → DiceAt H' d → Q (.bl true) H' := fun H' e q => k8 H' (ExtBut.trans b13 (ExtBut.trans b14 (ExtBut.trans (ExtBut.of e15) e))) q
    generalize upd H14 v (HO.frz o (.tup (os.map V.int))) = H15 at hv15 hd15 k15
    clear e15 hr14
    have olen : os.length ≤ 12 := by rw [hperm.length_eq]; exact clen
    have omem : ∀ x ∈ os, 1 ≤ x ∧ x ≤ 12 := fun x hx => cmem x (hperm.mem_iff.mp hx)
    walk_at "rd"
    refine ⟨v, os, rfl, hv15, fun n hn => ?_⟩
    have hn0 : n = 0 ∨ 0 < n := by
      rcases hn with ⟨h, _⟩ | ⟨i, _, h, _⟩
      · exact .inl h
      · exact .inr (by omega)
    walk_at "rd"
    refine ⟨v, os, n, rfl, hv15, olen, omem, hn, fun z H16 r16 e16 hr16 => ?_, fun z H16 r16 e16 hr16 => ?_⟩
    · subst z
      walk_at "rd"
      refine iteF ?_
      walk_at "rd"
      refine ⟨by show 0 ≤ sizeLine; omega, fun p hp => ?_⟩
      have e17 := Ext.new (o := HO.tup []) hp
      refine ⟨.tuple [], .tuple [], .tup (sqT_ext e17 hr16) .nil, .tup (SqT.of upd_same) .nil, by decide +kernel, by decide +kernel, ?_⟩
      exact k15 _ (ExtBut.of (Ext.trans e16 e17)) (hd15.ext (Ext.trans e16 e17))
    · walk_at "rd"
      rw [decide_eq_true z]
      walk_at "rd"
      refine ⟨by show 2 ≤ sizeLine; omega, fun p hp => ?_⟩
      have e17 := Ext.new (o := HO.tup [V.str "contents", V.int n]) hp
      refine ⟨.tuple [.str "contents", .int n], .tuple [.str "contents", .int n], .tup (sqT_ext e17 hr16) (.cons (.str _) (.cons (.int _) .nil)), .tup (SqT.of upd_same) (.cons (.str _) (.cons (.int _) .nil)), told_sh n, told_sh n, ?_⟩
      rw [told_eqv]
      exact k15 _ (ExtBut.of (Ext.trans e16 e17)) (hd15.ext (Ext.trans e16 e17))
end
end

/-! The law. -/

section
open PySem PySem.Spec PyProof.Rows L2 Gd
theorem put_wd (L : List Int) (q : Nat) : Kn.put (Kn.wd L) q = Kn.wd (L.set q 0) := by
  funext j
  unfold Kn.put Kn.wd
  rw [List.getD_eq_getElem?_getD, List.getD_eq_getElem?_getD, List.getElem?_set]
  by_cases h : j = q
  · subst h
    rw [if_pos rfl, if_pos rfl]
    split <;> rfl
  · rw [if_neg h, if_neg (fun z => h z.symm)]
theorem wd_ne {L : List Int} {l : Int} {p : Nat → Prop} (hl : 0 ≠ l) (h : ∀ j, j < L.length → p j → L.getD j 0 ≠ l) : ∀ j, p j → Kn.wd L j ≠ l := fun j hp => by
  by_cases z : j < L.length
  · exact h j z hp
  · unfold Kn.wd
    rw [getD_big z]
    exact hl
theorem st_begin {L L' : List Int} {q acc : Nat} (hq : L.getD q 0 = 1) (h : ∀ j, j < L.length → q < j → L.getD j 0 ≠ 1) (e : L.set q 0 = L') : Kn.Step (.idle (Kn.wd L) acc) (.at (Kn.wd L') q 0 2 acc) := by
  rw [← e, ← put_wd]
  exact .begin hq (wd_ne (by decide) h)
theorem st_ahead {L L' : List Int} {p q x acc : Nat} {l : Int} (hl : 0 ≠ l) (hq : L.getD q 0 = l) (hp : q < p) (h : ∀ j, j < L.length → q < j → j < p → L.getD j 0 ≠ l) (e : L.set q 0 = L') : Kn.Step (.at (Kn.wd L) p x l acc) (.at (Kn.wd L') q x (l + 1) (acc + x)) := by
  rw [← e, ← put_wd]
  exact .ahead ⟨hq, hp, fun j a b => wd_ne (p := fun j => q < j ∧ j < p) hl (fun j z y => h j z y.1 y.2) j ⟨a, b⟩⟩
theorem st_behind {L L' : List Int} {p q x acc : Nat} {l : Int} (hl : 0 ≠ l) (hq : L.getD q 0 = l) (h1 : ∀ j, j < L.length → j < p → L.getD j 0 ≠ l) (h2 : ∀ j, j < L.length → q < j → L.getD j 0 ≠ l) (e : L.set q 0 = L') : Kn.Step (.at (Kn.wd L) p x l acc) (.at (Kn.wd L') q (x + 1) (l + 1) (acc + (x + 1))) := by
  rw [← e, ← put_wd]
  exact .behind ⟨hq, wd_ne hl h1, wd_ne hl h2⟩
theorem st_done {L : List Int} {p x acc : Nat} {l : Int} (hl : 0 ≠ l) (h : ∀ j, j < L.length → True → L.getD j 0 ≠ l) : Kn.Step (.at (Kn.wd L) p x l acc) (.idle (Kn.wd L) acc) :=
  .done fun j => wd_ne (p := fun _ => True) hl h j trivial
theorem charge312 : Kn.Charge (Kn.wd [3, 1, 2]) 2 :=
  ⟨Kn.wd [0, 0, 0], ((((Kn.Reach.refl.tail (st_begin (q := 1) (L' := [3, 0, 2]) (by decide) (by decide) (by decide))).tail (st_behind (q := 2) (L' := [3, 0, 0]) (by decide) (by decide) (by decide) (by decide) (by decide))).tail (st_ahead (q := 0) (L' := [0, 0, 0]) (by decide) (by decide) (by decide) (by decide) (by decide))).tail (st_done (by decide) (by decide))), fun j => wd_ne (p := fun _ => True) (by decide) (by decide) j trivial⟩
theorem charge213 : Kn.Charge (Kn.wd [2, 1, 3]) 1 :=
  ⟨Kn.wd [0, 0, 0], ((((Kn.Reach.refl.tail (st_begin (q := 1) (L' := [2, 0, 3]) (by decide) (by decide) (by decide))).tail (st_ahead (q := 0) (L' := [0, 0, 3]) (by decide) (by decide) (by decide) (by decide) (by decide))).tail (st_behind (q := 2) (L' := [0, 0, 0]) (by decide) (by decide) (by decide) (by decide) (by decide))).tail (st_done (by decide) (by decide))), fun j => wd_ne (p := fun _ => True) (by decide) (by decide) j trivial⟩
theorem fall111 : Fall [1, 1, 1] := ⟨by decide, by decide, fun i hi => by
  have : i = 0 ∨ i = 1 := by
    simp at hi
    omega
  rcases this with rfl | rfl <;> decide⟩
theorem w312 : WordOf [1, 1, 1] [3, 1, 2] := by
  unfold WordOf
  decide
theorem w213 : WordOf [1, 1, 1] [2, 1, 3] := by
  unfold WordOf
  decide
theorem w123 : WordOf [1, 1, 1] [1, 2, 3] := by
  unfold WordOf
  decide
abbrev dEnd : PyData := .list [.int 0, .int 2, .int 1, .int 3, .tuple (pdata [3, 1, 1, 2])]
theorem sh_end : SeqAt.shaped dEnd = true := by decide +kernel
theorem eq_end : PyData.eqv dEnd dEnd = true := by decide +kernel
theorem dp_end {K : PySem.W.Frag} {H : Hp} {l b : Addr} (h : SqL K H l [.int 0, .int 2, .int 1, .int 3, .ref b]) (hb : SqT K H b (([3, 1, 1, 2] : List Int).map V.int)) : Dp K H (.ref l) dEnd :=
  .lst h (.cons (.int _) (.cons (.int _) (.cons (.int _) (.cons (.int _) (.cons (.tup hb (pdp _)) .nil)))))
section
variable {P : Program} {w : World} {K : PySem.W.Frag} {mg : Str → Option Value} {base : Heap} {f CR fR : Addr} {fd : FuncData}
abbrev sLaw : Stmt := top 36
theorem scLaw : FnScope ["_law_script", "_law_spot", "_law_dice_here", "_law_turn", "_law_told"] ["_law_script"] (defScope sLaw) := ⟨rfl, rfl, rfl, by decide +kernel, rfl, by decide +kernel, by decide +kernel⟩
def spLaw (K : PySem.W.Frag) : Sp := fun vs H Q _ => ∃ (a : Addr) (ns : List Int), vs = [.ref a] ∧ SqL K H a (ns.map V.int) ∧ ns.length ≤ 63 ∧ ∀ H', Q (.bl true) H'
theorem ok_law (F : Fun K "law" "law" sLaw f fd) (T : Txt K mg) (Dd : Def1 P w K mg base CX0 1 "_law_dice" ["_law_script", "_law_spot"] (spDice K)) (Dr : Def1 P w K mg base CX0 6 "_law_right" ["_law_dice_here"] spRight)
    (We : Def1 P w K mg base (L2.CX P w) 4 "weight" ["word"] (spWeight K CR)) (Wf : Def1 P w K mg base CX0 5 "word_of" ["filling"] (spWordOf K)) :
    FnOk P w K mg base CX0 7 f fd ["_law_script"] (spLaw K) := by
  refine F.ok scLaw (fun vs H Q E h => ?_) (fun cdv Ar outer s H vs Q E hr h => ?_)
  · obtain ⟨a, ns, rfl, _⟩ := h
    rfl
  · obtain ⟨a, ns, rfl, hs, hl, k⟩ := h
    refine ⟨_, pss_cons (ps_for PassesOwn.never rfl (pi_range1 (by rfl) T.range (pa_cons (pe_callB (call_max2 rfl) (by rfl) T.max (by decide +kernel) (pa_cons pe_int (pa_cons (pe_callB (call_min2 rfl) (by rfl) T.min (by decide +kernel) (pa_cons pe_int (pa_cons (pe_callB call_len_seq (by rfl) T.len PySem.boot_len (pa_cons (pv 0) pa_nil)) pa_nil))) pa_nil))) pa_nil)) (pg_name (i := 1) scLaw.nd rfl (Or.inl rfl)) (pss_cons (ps_set (i := 2) scLaw.nd rfl (Or.inl rfl) (pe_def Dd hr (by decide) (by rfl) (pa_cons (pv 0) (pa_cons (pv 1) pa_nil))))
      (pss_one (ps_for PassesOwn.never rfl (pi_range1 (by rfl) T.range (pa_cons pe_int pa_nil)) (pg_name (i := 3) scLaw.nd rfl (Or.inl rfl)) (pss_one (ps_if (pt_not (pt_val (pe_def Dr hr (by decide) (by rfl) (pa_cons (pv 2) pa_nil)))) (pss_one (ps_ret pe_bl)) pss_nil))))))
      (pss_cons (ps_set (i := 4) scLaw.nd rfl (Or.inl rfl) (pe_lst (pa_cons (pe_defX (E := X0) We (passes_call L2.takes0 (fun _ _ _ _ h => h)) hr (by decide) (by rfl) (pa_cons (pe_tupX pa_nil) pa_nil)) (pa_cons (pe_defX (E := X0) We (passes_call L2.takes0 (fun _ _ _ _ h => h)) hr (by decide) (by rfl) (pa_cons (pe_tupX (pa_cons pe_int (pa_cons pe_int (pa_cons pe_int pa_nil)))) pa_nil)) (pa_cons (pe_defX (E := X0) We (passes_call L2.takes0 (fun _ _ _ _ h => h)) hr (by decide) (by rfl) (pa_cons (pe_tupX (pa_cons pe_int (pa_cons pe_int (pa_cons pe_int pa_nil)))) pa_nil)) (pa_cons (pe_defX (E := X0) We (passes_call L2.takes0 (fun _ _ _ _ h => h)) hr (by decide) (by rfl) (pa_cons (pe_tupX (pa_cons pe_int (pa_cons pe_int (pa_cons pe_int pa_nil)))) pa_nil)) (pa_cons (pe_def Wf hr (by decide) (by rfl) (pa_cons (pe_tup (pa_cons (pe_tup (pa_cons pe_int (pa_cons pe_int (pa_cons pe_int pa_nil)))) (pa_cons (pe_tup (pa_cons pe_int pa_nil)) pa_nil))) pa_nil)) pa_nil)))))))
      (pss_one (ps_ret (pe_cmpR (op_eqD hr.units) (pv 4) (pe_lst (pa_cons pe_int (pa_cons pe_int (pa_cons pe_int (pa_cons pe_int (pa_cons (pe_tup (pa_cons pe_int (pa_cons pe_int (pa_cons pe_int (pa_cons pe_int pa_nil))))) pa_nil)))))) (nomark _))))), ?_⟩
    try dsimp only [cx_nox, cx_K]
    have sz : (100000 : Nat) < sizeLine := by decide
    refine g_cut (fun σ H' => ∃ x1 x2 x3 : Option V, σ = [some (.ref a), x1, x2, x3, none]) (fun σ' H' hN => ?_) (fun go => ?_)
    rotate_left
    · refine g_forR ?_
      walk_at "rd"
      refine ⟨a, _, rfl, .inl hs, ?_⟩
      walk_at "rd"
      rw [List.length_map]
      refine ⟨by split <;> omega, by split <;> omega, ?_⟩
      refine for_range (fun i σ H' => ∃ x1 x2 x3 : Option V, σ = [some (.ref a), x1, x2, x3, none] ∧ Ext H H') ⟨_, _, _, rfl, fun _ _ z => z⟩ ?_ ?_
      · rintro i σ H2 hi ⟨x1, x2, x3, rfl, e⟩
        have hi63 : i ≤ 63 := by
          revert hi
          split <;> (try split) <;> intro hi <;> omega
        refine g_name (g_gen fun D1 hn1 _ => ?_)
        walk_at "rd"
        have hi0 : (0 : Int) + (i : Int) = (i : Int) := by omega
        rw [hi0]
        refine ⟨a, ns, i, rfl, sqL_ext e hs, hi63, fun H3 d e3 hd0 hd => ?_⟩
        walk_at "rd"
        dsimp only
        refine g_forR ?_
        walk_at "rd"
        refine ⟨by decide, by decide, ?_⟩
        refine for_range (fun j σ H' => ∃ x3 : Option V, σ = [some (.ref a), some (.int (i : Int)), some (.ref d), x3, none] ∧ DiceAt H' d ∧ ExtBut d H3 H') ⟨_, rfl, hd, fun _ _ _ z => z⟩ ?_ ?_
        · rintro j σ H4 hj ⟨x3, rfl, hd4, e4⟩
          walk_at "rd"
          refine ⟨d, rfl, hd4, fun H5 e5 hd5 => ?_⟩
          walk_at "rd"
          exact ⟨_, rfl, hd5, ExtBut.trans e4 e5⟩
        · rintro σ H4 ⟨x3, rfl, hd4, e4⟩
          refine hn1 _ _ ⟨_, _, _, rfl, fun b o q => ?_⟩
          have q2 := e b o q
          exact e4 b o (ne_of_none q2 hd0) (e3 b o q2)
      · rintro σ H2 ⟨x1, x2, x3, rfl, _⟩
        exact go _ _ ⟨_, _, _, rfl⟩
    obtain ⟨x1, x2, x3, rfl⟩ := hN
    walk_at "rd"
    refine g_tupX ?_
    walk_at "rd"
    refine ⟨Nat.zero_le _, fun u0 o0 hu0 ho0 => ?_⟩
    walk_at "rd"
    refine weighs (ns := []) (ws := []) (TupX.new ho0) (List.Perm.refl _) fall_nil fun H1 N0 _ c0 => ?_
    obtain rfl : N0 = 0 := desc_charge (ns := []) c0
    walk_at "rd"
    refine g_tupX ?_
    walk_at "rd"
    refine ⟨by show 3 ≤ sizeLine; omega, fun u1 o1 hu1 ho1 => ?_⟩
    walk_at "rd"
    refine weighs (ws := [3, 1, 2]) (TupX.new ho1) w312 fall111 fun H2 N1 _ c1 => ?_
    obtain rfl : N1 = 2 := Kn.Charge.uniq c1 charge312
    walk_at "rd"
    refine g_tupX ?_
    walk_at "rd"
    refine ⟨by show 3 ≤ sizeLine; omega, fun u2 o2 hu2 ho2 => ?_⟩
    walk_at "rd"
    refine weighs (ws := [2, 1, 3]) (TupX.new ho2) w213 fall111 fun H3 N2 _ c2 => ?_
    obtain rfl : N2 = 1 := Kn.Charge.uniq c2 charge213
    walk_at "rd"
    refine g_tupX ?_
    walk_at "rd"
    refine ⟨by show 3 ≤ sizeLine; omega, fun u3 o3 hu3 ho3 => ?_⟩
    walk_at "rd"
    refine weighs (ws := [1, 2, 3]) (TupX.new ho3) w123 fall111 fun H4 N3 _ c3 => ?_
    obtain rfl : N3 = 3 := by
      have h : lets [1, 1, 1] ([1, 1, 1] : List Int).length = [1, 2, 3] := by decide
      rw [← h] at c3
      have := asc_charge fall111 c3
      have e : slantI [1, 1, 1] = 3 := by decide
      omega
    walk_at "rd"
    refine ⟨by show 3 ≤ sizeLine; omega, fun t1 n1 => ?_⟩
    have f1 := Ext.new (o := HO.tup [V.int 1, V.int 1, V.int 2]) n1
    walk_at "rd"
    refine ⟨by show 1 ≤ sizeLine; omega, fun t2 n2 => ?_⟩
    have f2 := Ext.new (o := HO.tup [V.int 3]) n2
    have ne12 : t1 ≠ t2 := fun z => by
      rw [← z, upd_same] at n2
      cases n2
    walk_at "rd"
    refine ⟨by show 2 ≤ sizeLine; omega, fun t3 n3 => ?_⟩
    have f3 := Ext.new (o := HO.tup [V.ref t1, V.ref t2]) n3
    walk_at "rd"
    refine ⟨t3, t1, t2, rfl, ne12, SqT.of upd_same, SqT.of (f3 _ _ (f2 _ _ upd_same)), SqT.of (f3 _ _ upd_same), fun H5 r e5 hr5 => ?_⟩
    walk_at "rd"
    refine ⟨by show 5 ≤ sizeLine; omega, fun l1 m1 => ?_⟩
    have g1 := Ext.new (o := HO.lst [V.int 0, V.int 2, V.int 1, V.int 3, V.ref r]) m1
    walk_at "rd"
    refine ⟨by show 4 ≤ sizeLine; omega, fun t4 n4 => ?_⟩
    have g2 := Ext.new (o := HO.tup [V.int 3, V.int 1, V.int 1, V.int 2]) n4
    walk_at "rd"
    refine ⟨by show 5 ≤ sizeLine; omega, fun l2 m2 => ?_⟩
    have g3 := Ext.new (o := HO.lst [V.int 0, V.int 2, V.int 1, V.int 3, V.ref t4]) m2
    trace_state
    refine ⟨dEnd, dEnd, dp_end (SqL.of (g3 _ _ (g2 _ _ upd_same))) (sqT_ext (Ext.trans g1 (Ext.trans g2 g3)) hr5), dp_end (SqL.of upd_same) (SqT.of (g3 _ _ upd_same)), sh_end, sh_end, ?_⟩
    rw [eq_end]
    exact k _
end
end

/-! What the top has written. -/

section
open PySem PySem.Spec PyProof.Rows L2 Gd
open LamX (Tabs TabB TabS ExtN)
/-- an error of the class at S, an except clause that names U -/
theorem exm_one {K : PySem.W.Frag} {S U : Addr} {b : Bool} (h1 : PySem.W.subIn K (.ref U) (.type "BaseException") = some true) (h2 : PySem.W.isClsIn K U = true) (h3 : PySem.W.typeIn K (.ref U) = some (.type "type")) (h4 : PySem.W.subIn K (.ref S) (.ref U) = some b) :
    PySem.W.exmOne K (.ref S) (.ref U) = some b := by
  have h2' : (PySem.W.clsIn K U).isSome = true := h2
  simp [PySem.W.exmOne, PySem.W.kitCls, h1, h2', h3, h4]
theorem kit_self {K : PySem.W.Frag} {C : Addr} : PySem.W.kitOne K (.ref C) (.ref C) = some true := by
  unfold PySem.W.kitOne
  simp
theorem kit_own {K : PySem.W.Frag} {C D : Addr} {b : Bool} (n : C ≠ D) (h : PySem.W.isClsIn K D = true) (ht : PySem.W.typeIn K (.ref D) = some (.type "type")) (hs : PySem.W.subIn K (.ref C) (.ref D) = some b) : PySem.W.kitOne K (.ref C) (.ref D) = some b := by
  have h' : (PySem.W.clsIn K D).isSome = true := h
  have e : (Value.ref C == Value.ref D) = false := by simpa using n
  simp [PySem.W.kitOne, PySem.W.kitCls, e, h', ht, hs]
theorem kit_ty {K : PySem.W.Frag} {C : Addr} {T : String} {b : Bool} (hT : PySem.W.kitMeta T = true) (hs : PySem.W.subIn K (.ref C) (.type T) = some b) : PySem.W.kitOne K (.ref C) (.type T) = some b := by
  have e : (Value.ref C == Value.type T) = false := rfl
  simp [PySem.W.kitOne, PySem.W.kitCls, e, hT, hs]
theorem kit_not {K : PySem.W.Frag} {C : Addr} {T : String} (h : PySem.W.isClsIn K C = true) (ht : PySem.W.typeIn K (.ref C) = some (.type "type")) (hs : PySem.W.subIn K (.type T) (.ref C) = some false) : PySem.W.kitOne K (.type T) (.ref C) = some false := by
  have h' : (PySem.W.clsIn K C).isSome = true := h
  have e : (Value.type T == Value.ref C) = false := rfl
  simp [PySem.W.kitOne, PySem.W.kitCls, e, h', ht, hs]
theorem of_len1 {us : List Value} (hl : us.length = 1) : ∃ a, us = [a] := List.length_eq_one_iff.mp hl
theorem of_lenS {us : List Value} {n : Nat} (hl : us.length = n + 1) : ∃ a t, us = a :: t ∧ t.length = n := by
  cases us with
  | nil => exact absurd hl (Nat.succ_ne_zero n).symm
  | cons a us => exact ⟨a, us, rfl, Nat.succ.inj hl⟩
theorem of_len2 {us : List Value} (hl : us.length = 2) : ∃ a b, us = [a, b] := by
  obtain ⟨a, t, rfl, h⟩ := of_lenS hl
  obtain ⟨b, rfl⟩ := of_len1 h
  exact ⟨a, b, rfl⟩
theorem of_len3 {us : List Value} (hl : us.length = 3) : ∃ a b c, us = [a, b, c] := by
  obtain ⟨a, t, rfl, h⟩ := of_lenS hl
  obtain ⟨b, c, rfl⟩ := of_len2 h
  exact ⟨a, b, c, rfl⟩
theorem of_len4 {us : List Value} (hl : us.length = 4) : ∃ a b c d, us = [a, b, c, d] := by
  obtain ⟨a, t, rfl, h⟩ := of_lenS hl
  obtain ⟨b, c, d, rfl⟩ := of_len3 h
  exact ⟨a, b, c, d, rfl⟩
theorem of_len5 {us : List Value} (hl : us.length = 5) : ∃ a b c d e, us = [a, b, c, d, e] := by
  obtain ⟨a, t, rfl, h⟩ := of_lenS hl
  obtain ⟨b, c, d, e, rfl⟩ := of_len4 h
  exact ⟨a, b, c, d, e, rfl⟩
theorem all_mk {l : PySem.W.OpenLaw} {w : World} {K : PySem.W.Frag} {h : Heap} {mg : Str → Option Value} {fa fWh fIn fIw fFa fFi fLr fJr fNx fWo fWf fWe fDi fRo fPi fMi fKs fKd fSl fWw fLe fKw fTo fRf fRg fLa CRx fRx qRx : Addr} (X : K.In h) (G : h.Ns mainGlobals mg) (hfa : mg "law" = some (.ref fa))
    {odWh anWh : Option Addr} {slWh : Array (Option Value)} {ocWh kVWh dcWh pmWh cdWh ctWh : Value}
    {odIn anIn : Option Addr} {slIn : Array (Option Value)} {ocIn kVIn dcIn pmIn cdIn ctIn : Value}
    {odIw anIw : Option Addr} {slIw : Array (Option Value)} {ocIw kVIw dcIw pmIw cdIw ctIw : Value}
    {odFa anFa : Option Addr} {slFa : Array (Option Value)} {ocFa kVFa dcFa pmFa cdFa ctFa : Value}
    {odFi anFi : Option Addr} {slFi : Array (Option Value)} {ocFi kVFi dcFi pmFi cdFi ctFi : Value}
    {odLr anLr : Option Addr} {slLr : Array (Option Value)} {ocLr kVLr dcLr pmLr cdLr ctLr : Value}
    {odJr anJr : Option Addr} {slJr : Array (Option Value)} {ocJr kVJr dcJr pmJr cdJr ctJr : Value}
    {odNx anNx : Option Addr} {slNx : Array (Option Value)} {ocNx kVNx dcNx pmNx cdNx ctNx : Value}
    {odWo anWo : Option Addr} {slWo : Array (Option Value)} {ocWo kVWo dcWo pmWo cdWo ctWo : Value}
    {odWf anWf : Option Addr} {slWf : Array (Option Value)} {ocWf kVWf dcWf pmWf cdWf ctWf : Value}
    {odWe anWe : Option Addr} {slWe : Array (Option Value)} {ocWe kVWe dcWe pmWe cdWe ctWe : Value}
    {odDi anDi : Option Addr} {slDi : Array (Option Value)} {ocDi kVDi dcDi pmDi cdDi ctDi : Value}
    {odRo anRo : Option Addr} {slRo : Array (Option Value)} {ocRo kVRo dcRo pmRo cdRo ctRo : Value}
    {odPi anPi : Option Addr} {slPi : Array (Option Value)} {ocPi kVPi dcPi pmPi cdPi ctPi : Value}
    {odMi anMi : Option Addr} {slMi : Array (Option Value)} {ocMi kVMi dcMi pmMi cdMi ctMi : Value}
    {odKs anKs : Option Addr} {slKs : Array (Option Value)} {ocKs kVKs dcKs pmKs cdKs ctKs : Value}
    {odKd anKd : Option Addr} {slKd : Array (Option Value)} {ocKd kVKd dcKd pmKd cdKd ctKd : Value}
    {odSl anSl : Option Addr} {slSl : Array (Option Value)} {ocSl kVSl dcSl pmSl cdSl ctSl : Value}
    {odWw anWw : Option Addr} {slWw : Array (Option Value)} {ocWw kVWw dcWw pmWw cdWw ctWw : Value}
    {odLe anLe : Option Addr} {slLe : Array (Option Value)} {ocLe kVLe dcLe pmLe cdLe ctLe : Value}
    {odKw anKw : Option Addr} {slKw : Array (Option Value)} {ocKw kVKw dcKw pmKw cdKw ctKw : Value}
    {odTo anTo : Option Addr} {slTo : Array (Option Value)} {ocTo kVTo dcTo pmTo cdTo ctTo : Value}
    {odRf anRf : Option Addr} {slRf : Array (Option Value)} {ocRf kVRf dcRf pmRf cdRf ctRf : Value}
    {odRg anRg : Option Addr} {slRg : Array (Option Value)} {ocRg kVRg dcRg pmRg cdRg ctRg : Value}
    {odLa anLa : Option Addr} {slLa : Array (Option Value)} {ocLa kVLa dcLa pmLa cdLa ctLa : Value}
    {tkBOUND : Tok}
    {tkMAX_SIZE : Tok}
    {nmR qR : Str} {bsR : List Value} {snR : List Str} {subR : List Value} {abR : Bool} {colR : Option Bool} {ddR : Option Addr} {m0R m1R m2R m3R m5R : Option Value} {odxR anxR : Option Addr} {slxR : Array (Option Value)} {ocxR dcxR pmxR cdxR ctxR : Value} {q1R q2R q3R q4R q5R q6R : Pos}
    (aWh : PySem.W.nsIn K mainGlobals "is_whole" = some (some (.ref fWh)))
    (lWh : K.lookup fWh = some ⟨ocWh, odWh, .func (PySem.W.fnOf "is_whole" "is_whole" (defArgs (sWhole)) (defBody (sWhole)) (defScope (sWhole)) .none kVWh dcWh pmWh anWh cdWh ctWh), slWh⟩)
    (cWh_ : PySem.W.codeIn K cdWh "is_whole" = true)
    (kWh : PySem.W.keepIn K (.ref fWh) = true)
    (aIn : PySem.W.nsIn K mainGlobals "is_integer" = some (some (.ref fIn)))
    (lIn : K.lookup fIn = some ⟨ocIn, odIn, .func (PySem.W.fnOf "is_integer" "is_integer" (defArgs (sInteger)) (defBody (sInteger)) (defScope (sInteger)) .none kVIn dcIn pmIn anIn cdIn ctIn), slIn⟩)
    (cIn_ : PySem.W.codeIn K cdIn "is_integer" = true)
    (kIn : PySem.W.keepIn K (.ref fIn) = true)
    (aIw : PySem.W.nsIn K mainGlobals "is_within" = some (some (.ref fIw)))
    (lIw : K.lookup fIw = some ⟨ocIw, odIw, .func (PySem.W.fnOf "is_within" "is_within" (defArgs (sIsWithin)) (defBody (sIsWithin)) (defScope (sIsWithin)) .none kVIw dcIw pmIw anIw cdIw ctIw), slIw⟩)
    (cIw_ : PySem.W.codeIn K cdIw "is_within" = true)
    (kIw : PySem.W.keepIn K (.ref fIw) = true)
    (aFa : PySem.W.nsIn K mainGlobals "is_falling" = some (some (.ref fFa)))
    (lFa : K.lookup fFa = some ⟨ocFa, odFa, .func (PySem.W.fnOf "is_falling" "is_falling" (defArgs (sFalling)) (defBody (sFalling)) (defScope (sFalling)) .none kVFa dcFa pmFa anFa cdFa ctFa), slFa⟩)
    (cFa_ : PySem.W.codeIn K cdFa "is_falling" = true)
    (kFa : PySem.W.keepIn K (.ref fFa) = true)
    (aFi : PySem.W.nsIn K mainGlobals "is_filled" = some (some (.ref fFi)))
    (lFi : K.lookup fFi = some ⟨ocFi, odFi, .func (PySem.W.fnOf "is_filled" "is_filled" (defArgs (sFilled)) (defBody (sFilled)) (defScope (sFilled)) .none kVFi dcFi pmFi anFi cdFi ctFi), slFi⟩)
    (cFi_ : PySem.W.codeIn K cdFi "is_filled" = true)
    (kFi : PySem.W.keepIn K (.ref fFi) = true)
    (aLr : PySem.W.nsIn K mainGlobals "is_letter_row" = some (some (.ref fLr)))
    (lLr : K.lookup fLr = some ⟨ocLr, odLr, .func (PySem.W.fnOf "is_letter_row" "is_letter_row" (defArgs (sLR)) (defBody (sLR)) (defScope (sLR)) .none kVLr dcLr pmLr anLr cdLr ctLr), slLr⟩)
    (cLr_ : PySem.W.codeIn K cdLr "is_letter_row" = true)
    (kLr : PySem.W.keepIn K (.ref fLr) = true)
    (aJr : PySem.W.nsIn K mainGlobals "joined_rows" = some (some (.ref fJr)))
    (lJr : K.lookup fJr = some ⟨ocJr, odJr, .func (PySem.W.fnOf "joined_rows" "joined_rows" (defArgs (sJR)) (defBody (sJR)) (defScope (sJR)) .none kVJr dcJr pmJr anJr cdJr ctJr), slJr⟩)
    (cJr_ : PySem.W.codeIn K cdJr "joined_rows" = true)
    (kJr : PySem.W.keepIn K (.ref fJr) = true)
    (aNx : PySem.W.nsIn K mainGlobals "next_place" = some (some (.ref fNx)))
    (lNx : K.lookup fNx = some ⟨ocNx, odNx, .func (PySem.W.fnOf "next_place" "next_place" (defArgs (sNext)) (defBody (sNext)) (defScope (sNext)) .none kVNx dcNx pmNx anNx cdNx ctNx), slNx⟩)
    (cNx_ : PySem.W.codeIn K cdNx "next_place" = true)
    (kNx : PySem.W.keepIn K (.ref fNx) = true)
    (aWo : PySem.W.nsIn K mainGlobals "weight_of" = some (some (.ref fWo)))
    (lWo : K.lookup fWo = some ⟨ocWo, odWo, .func (PySem.W.fnOf "weight_of" "weight_of" (defArgs (sWO)) (defBody (sWO)) (defScope (sWO)) .none kVWo dcWo pmWo anWo cdWo ctWo), slWo⟩)
    (cWo_ : PySem.W.codeIn K cdWo "weight_of" = true)
    (kWo : PySem.W.keepIn K (.ref fWo) = true)
    (aWf : PySem.W.nsIn K mainGlobals "word_of" = some (some (.ref fWf)))
    (lWf : K.lookup fWf = some ⟨ocWf, odWf, .func (PySem.W.fnOf "word_of" "word_of" (defArgs (sWordOf)) (defBody (sWordOf)) (defScope (sWordOf)) .none kVWf dcWf pmWf anWf cdWf ctWf), slWf⟩)
    (cWf_ : PySem.W.codeIn K cdWf "word_of" = true)
    (kWf : PySem.W.keepIn K (.ref fWf) = true)
    (aWe : PySem.W.nsIn K mainGlobals "weight" = some (some (.ref fWe)))
    (lWe : K.lookup fWe = some ⟨ocWe, odWe, .func (PySem.W.fnOf "weight" "weight" (defArgs (sWeight)) (defBody (sWeight)) (defScope (sWeight)) .none kVWe dcWe pmWe anWe cdWe ctWe), slWe⟩)
    (cWe_ : PySem.W.codeIn K cdWe "weight" = true)
    (kWe : PySem.W.keepIn K (.ref fWe) = true)
    (aDi : PySem.W.nsIn K mainGlobals "_law_dice" = some (some (.ref fDi)))
    (lDi : K.lookup fDi = some ⟨ocDi, odDi, .func (PySem.W.fnOf "_law_dice" "_law_dice" (defArgs (sDice)) (defBody (sDice)) (defScope (sDice)) .none kVDi dcDi pmDi anDi cdDi ctDi), slDi⟩)
    (cDi_ : PySem.W.codeIn K cdDi "_law_dice" = true)
    (kDi : PySem.W.keepIn K (.ref fDi) = true)
    (aRo : PySem.W.nsIn K mainGlobals "_law_roll" = some (some (.ref fRo)))
    (lRo : K.lookup fRo = some ⟨ocRo, odRo, .func (PySem.W.fnOf "_law_roll" "_law_roll" (defArgs (sRoll)) (defBody (sRoll)) (defScope (sRoll)) .none kVRo dcRo pmRo anRo cdRo ctRo), slRo⟩)
    (cRo_ : PySem.W.codeIn K cdRo "_law_roll" = true)
    (kRo : PySem.W.keepIn K (.ref fRo) = true)
    (aPi : PySem.W.nsIn K mainGlobals "_law_pick" = some (some (.ref fPi)))
    (lPi : K.lookup fPi = some ⟨ocPi, odPi, .func (PySem.W.fnOf "_law_pick" "_law_pick" (defArgs (sPick)) (defBody (sPick)) (defScope (sPick)) .none kVPi dcPi pmPi anPi cdPi ctPi), slPi⟩)
    (cPi_ : PySem.W.codeIn K cdPi "_law_pick" = true)
    (kPi : PySem.W.keepIn K (.ref fPi) = true)
    (aMi : PySem.W.nsIn K mainGlobals "_law_mixed" = some (some (.ref fMi)))
    (lMi : K.lookup fMi = some ⟨ocMi, odMi, .func (PySem.W.fnOf "_law_mixed" "_law_mixed" (defArgs (sMixed)) (defBody (sMixed)) (defScope (sMixed)) .none kVMi dcMi pmMi anMi cdMi ctMi), slMi⟩)
    (cMi_ : PySem.W.codeIn K cdMi "_law_mixed" = true)
    (kMi : PySem.W.keepIn K (.ref fMi) = true)
    (aKs : PySem.W.nsIn K mainGlobals "_law_kinds" = some (some (.ref fKs)))
    (lKs : K.lookup fKs = some ⟨ocKs, odKs, .func (PySem.W.fnOf "_law_kinds" "_law_kinds" (defArgs (sKinds)) (defBody (sKinds)) (defScope (sKinds)) .none kVKs dcKs pmKs anKs cdKs ctKs), slKs⟩)
    (cKs_ : PySem.W.codeIn K cdKs "_law_kinds" = true)
    (kKs : PySem.W.keepIn K (.ref fKs) = true)
    (aKd : PySem.W.nsIn K mainGlobals "_law_kind" = some (some (.ref fKd)))
    (lKd : K.lookup fKd = some ⟨ocKd, odKd, .func (PySem.W.fnOf "_law_kind" "_law_kind" (defArgs (sKind)) (defBody (sKind)) (defScope (sKind)) .none kVKd dcKd pmKd anKd cdKd ctKd), slKd⟩)
    (cKd_ : PySem.W.codeIn K cdKd "_law_kind" = true)
    (kKd : PySem.W.keepIn K (.ref fKd) = true)
    (aSl : PySem.W.nsIn K mainGlobals "_law_slant" = some (some (.ref fSl)))
    (lSl : K.lookup fSl = some ⟨ocSl, odSl, .func (PySem.W.fnOf "_law_slant" "_law_slant" (defArgs (sSlant)) (defBody (sSlant)) (defScope (sSlant)) .none kVSl dcSl pmSl anSl cdSl ctSl), slSl⟩)
    (cSl_ : PySem.W.codeIn K cdSl "_law_slant" = true)
    (kSl : PySem.W.keepIn K (.ref fSl) = true)
    (aWw : PySem.W.nsIn K mainGlobals "_law_word_weight" = some (some (.ref fWw)))
    (lWw : K.lookup fWw = some ⟨ocWw, odWw, .func (PySem.W.fnOf "_law_word_weight" "_law_word_weight" (defArgs (sWW)) (defBody (sWW)) (defScope (sWW)) .none kVWw dcWw pmWw anWw cdWw ctWw), slWw⟩)
    (cWw_ : PySem.W.codeIn K cdWw "_law_word_weight" = true)
    (kWw : PySem.W.keepIn K (.ref fWw) = true)
    (aLe : PySem.W.nsIn K mainGlobals "_law_letters" = some (some (.ref fLe)))
    (lLe : K.lookup fLe = some ⟨ocLe, odLe, .func (PySem.W.fnOf "_law_letters" "_law_letters" (defArgs (sLetters)) (defBody (sLetters)) (defScope (sLetters)) .none kVLe dcLe pmLe anLe cdLe ctLe), slLe⟩)
    (cLe_ : PySem.W.codeIn K cdLe "_law_letters" = true)
    (kLe : PySem.W.keepIn K (.ref fLe) = true)
    (aKw : PySem.W.nsIn K mainGlobals "_law_kin_words" = some (some (.ref fKw)))
    (lKw : K.lookup fKw = some ⟨ocKw, odKw, .func (PySem.W.fnOf "_law_kin_words" "_law_kin_words" (defArgs (sKin)) (defBody (sKin)) (defScope (sKin)) .none kVKw dcKw pmKw anKw cdKw ctKw), slKw⟩)
    (cKw_ : PySem.W.codeIn K cdKw "_law_kin_words" = true)
    (kKw : PySem.W.keepIn K (.ref fKw) = true)
    (aTo : PySem.W.nsIn K mainGlobals "_law_too_often" = some (some (.ref fTo)))
    (lTo : K.lookup fTo = some ⟨ocTo, odTo, .func (PySem.W.fnOf "_law_too_often" "_law_too_often" (defArgs (sToo)) (defBody (sToo)) (defScope (sToo)) .none kVTo dcTo pmTo anTo cdTo ctTo), slTo⟩)
    (cTo_ : PySem.W.codeIn K cdTo "_law_too_often" = true)
    (kTo : PySem.W.keepIn K (.ref fTo) = true)
    (aRf : PySem.W.nsIn K mainGlobals "_law_refusal" = some (some (.ref fRf)))
    (lRf : K.lookup fRf = some ⟨ocRf, odRf, .func (PySem.W.fnOf "_law_refusal" "_law_refusal" (defArgs (sRefusal)) (defBody (sRefusal)) (defScope (sRefusal)) .none kVRf dcRf pmRf anRf cdRf ctRf), slRf⟩)
    (cRf_ : PySem.W.codeIn K cdRf "_law_refusal" = true)
    (kRf : PySem.W.keepIn K (.ref fRf) = true)
    (aRg : PySem.W.nsIn K mainGlobals "_law_right" = some (some (.ref fRg)))
    (lRg : K.lookup fRg = some ⟨ocRg, odRg, .func (PySem.W.fnOf "_law_right" "_law_right" (defArgs (sRight)) (defBody (sRight)) (defScope (sRight)) .none kVRg dcRg pmRg anRg cdRg ctRg), slRg⟩)
    (cRg_ : PySem.W.codeIn K cdRg "_law_right" = true)
    (kRg : PySem.W.keepIn K (.ref fRg) = true)
    (aLa : PySem.W.nsIn K mainGlobals "law" = some (some (.ref fLa)))
    (lLa : K.lookup fLa = some ⟨ocLa, odLa, .func (PySem.W.fnOf "law" "law" (defArgs (sLaw)) (defBody (sLaw)) (defScope (sLaw)) .none kVLa dcLa pmLa anLa cdLa ctLa), slLa⟩)
    (cLa_ : PySem.W.codeIn K cdLa "law" = true)
    (kLa : PySem.W.keepIn K (.ref fLa) = true)
    (z_isinstance : PySem.W.nsIn K mainGlobals "isinstance" = some none)
    (z_int : PySem.W.nsIn K mainGlobals "int" = some none)
    (z_bool : PySem.W.nsIn K mainGlobals "bool" = some none)
    (z_str : PySem.W.nsIn K mainGlobals "str" = some none)
    (z_tuple : PySem.W.nsIn K mainGlobals "tuple" = some none)
    (z_list : PySem.W.nsIn K mainGlobals "list" = some none)
    (z_dict : PySem.W.nsIn K mainGlobals "dict" = some none)
    (z_len : PySem.W.nsIn K mainGlobals "len" = some none)
    (z_all : PySem.W.nsIn K mainGlobals "all" = some none)
    (z_any : PySem.W.nsIn K mainGlobals "any" = some none)
    (z_sum : PySem.W.nsIn K mainGlobals "sum" = some none)
    (z_iter : PySem.W.nsIn K mainGlobals "iter" = some none)
    (z_max : PySem.W.nsIn K mainGlobals "max" = some none)
    (z_min : PySem.W.nsIn K mainGlobals "min" = some none)
    (z_abs : PySem.W.nsIn K mainGlobals "abs" = some none)
    (z_range : PySem.W.nsIn K mainGlobals "range" = some none)
    (z_repr : PySem.W.nsIn K mainGlobals "repr" = some none)
    (z_sorted : PySem.W.nsIn K mainGlobals "sorted" = some none)
    (z_enumerate : PySem.W.nsIn K mainGlobals "enumerate" = some none)
    (z_zip : PySem.W.nsIn K mainGlobals "zip" = some none)
    (v_BOUND : PySem.W.nsIn K mainGlobals "BOUND" = some (some (.int (10 ^ 60) tkBOUND)))
    (v_MAX_SIZE : PySem.W.nsIn K mainGlobals "MAX_SIZE" = some (some (.int (12) tkMAX_SIZE)))
    (xCR : PySem.W.nsIn K mainGlobals "Refused" = some (some (.ref CRx)))
    (xLR : K.lookup CRx = some (excClassObj nmR qR CRx qRx bsR [.type "ArithmeticError", .type "Exception", .type "BaseException", .type "object"] true snR subR abR colR ddR m0R m1R m2R m3R m5R "ArithmeticError.__new__"))
    (xsaR : PySem.W.findIn K (.ref CRx) "__setattr__" = some (some (.builtin "object.__setattr__")))
    (xgaR : PySem.W.findIn K (.ref CRx) "__getattribute__" = some (some (.builtin "BaseException.__getattribute__")))
    (xggR : PySem.W.findIn K (.ref CRx) "__getattr__" = some none)
    (xnbR : PySem.W.findIn K (.ref CRx) "reason" = some none)
    (xaR : PySem.W.findIn K (.ref CRx) "__init__" = some (some (.ref fRx)))
    (xtR : PySem.W.typeIn K (.ref fRx) = some (.type "function"))
    (xlR : K.lookup fRx = some ⟨ocxR, odxR, .func (PySem.W.fnOf "__init__" "Refused.__init__" (PySem.XRefused.iA q1R q2R) (PySem.XRefused.iB q3R q4R q5R q6R) PySem.XRefused.iS .none .none dcxR pmxR anxR cdxR ctxR), slxR⟩)
    (xcR : PySem.W.codeIn K cdxR "Refused.__init__" = true)
    (xkR : PySem.W.keepIn K (.ref CRx) = true)
    (xeR : PySem.W.subIn K (.ref CRx) (.type "BaseException") = some true)
    (xTR : PySem.W.typeIn K (.ref CRx) = some (.type "type"))
    (xhR : PySem.W.hasDictIn K CRx = true)
    (xiR : PySem.W.isClsIn K CRx = true)
    (xsR : PySem.W.subIn K (.ref CRx) (.ref CRx) = some true)
    : ∃ fd : FuncData, (∀ (s : Shared) (v : Value), BindsTo s fd ⟨[v], []⟩ [("_law_script", v)]) ∧ ∀ base : Heap, K.In base → base.Ns mainGlobals mg → FnG l.prog w K mg base CX0 7 fa fd ["_law_script"] (spLaw K) := by
  have e := hfa.symm.trans (PySem.W.mg_of X G aLa)
  cases e
  have FWh := fun_mk (st := sWhole) lWh cWh_ kWh
  have bWh := FWh.binds (ps := ["value"]) fun _ _ _ _ _ _ us hl => by obtain ⟨_, rfl⟩ := of_len1 hl; rfl
  have gWh_ := PySem.W.mg_of X G aWh
  have FIn := fun_mk (st := sInteger) lIn cIn_ kIn
  have bIn := FIn.binds (ps := ["value"]) fun _ _ _ _ _ _ us hl => by obtain ⟨_, rfl⟩ := of_len1 hl; rfl
  have gIn_ := PySem.W.mg_of X G aIn
  have FIw := fun_mk (st := sIsWithin) lIw cIw_ kIw
  have bIw := FIw.binds (ps := ["value", "low", "high"]) fun _ _ _ _ _ _ us hl => by obtain ⟨_, _, _, rfl⟩ := of_len3 hl; rfl
  have gIw_ := PySem.W.mg_of X G aIw
  have FFa := fun_mk (st := sFalling) lFa cFa_ kFa
  have bFa := FFa.binds (ps := ["value", "most"]) fun _ _ _ _ _ _ us hl => by obtain ⟨_, _, rfl⟩ := of_len2 hl; rfl
  have gFa_ := PySem.W.mg_of X G aFa
  have FFi := fun_mk (st := sFilled) lFi cFi_ kFi
  have bFi := FFi.binds (ps := ["shape", "value"]) fun _ _ _ _ _ _ us hl => by obtain ⟨_, _, rfl⟩ := of_len2 hl; rfl
  have gFi_ := PySem.W.mg_of X G aFi
  have FLr := fun_mk (st := sLR) lLr cLr_ kLr
  have bLr := FLr.binds (ps := ["value", "length"]) fun _ _ _ _ _ _ us hl => by obtain ⟨_, _, rfl⟩ := of_len2 hl; rfl
  have gLr_ := PySem.W.mg_of X G aLr
  have FJr := fun_mk (st := sJR) lJr cJr_ kJr
  have bJr := FJr.binds (ps := ["filling"]) fun _ _ _ _ _ _ us hl => by obtain ⟨_, rfl⟩ := of_len1 hl; rfl
  have gJr_ := PySem.W.mg_of X G aJr
  have FNx := fun_mk (st := sNext) lNx cNx_ kNx
  have bNx := FNx.binds (ps := ["some", "place"]) fun _ _ _ _ _ _ us hl => by obtain ⟨_, _, rfl⟩ := of_len2 hl; rfl
  have gNx_ := PySem.W.mg_of X G aNx
  have FWo := fun_mk (st := sWO) lWo cWo_ kWo
  have bWo := FWo.binds (ps := ["word"]) fun _ _ _ _ _ _ us hl => by obtain ⟨_, rfl⟩ := of_len1 hl; rfl
  have gWo_ := PySem.W.mg_of X G aWo
  have FWf := fun_mk (st := sWordOf) lWf cWf_ kWf
  have bWf := FWf.binds (ps := ["filling"]) fun _ _ _ _ _ _ us hl => by obtain ⟨_, rfl⟩ := of_len1 hl; rfl
  have gWf_ := PySem.W.mg_of X G aWf
  have FWe := fun_mk (st := sWeight) lWe cWe_ kWe
  have bWe := FWe.binds (ps := ["word"]) fun _ _ _ _ _ _ us hl => by obtain ⟨_, rfl⟩ := of_len1 hl; rfl
  have gWe_ := PySem.W.mg_of X G aWe
  have FDi := fun_mk (st := sDice) lDi cDi_ kDi
  have bDi := FDi.binds (ps := ["_law_script", "_law_spot"]) fun _ _ _ _ _ _ us hl => by obtain ⟨_, _, rfl⟩ := of_len2 hl; rfl
  have gDi_ := PySem.W.mg_of X G aDi
  have FRo := fun_mk (st := sRoll) lRo cRo_ kRo
  have bRo := FRo.binds (ps := ["_law_dice_here", "_law_total"]) fun _ _ _ _ _ _ us hl => by obtain ⟨_, _, rfl⟩ := of_len2 hl; rfl
  have gRo_ := PySem.W.mg_of X G aRo
  have FPi := fun_mk (st := sPick) lPi cPi_ kPi
  have bPi := FPi.binds (ps := ["_law_dice_here", "_law_items"]) fun _ _ _ _ _ _ us hl => by obtain ⟨_, _, rfl⟩ := of_len2 hl; rfl
  have gPi_ := PySem.W.mg_of X G aPi
  have FMi := fun_mk (st := sMixed) lMi cMi_ kMi
  have bMi := FMi.binds (ps := ["_law_dice_here", "_law_items"]) fun _ _ _ _ _ _ us hl => by obtain ⟨_, _, rfl⟩ := of_len2 hl; rfl
  have gMi_ := PySem.W.mg_of X G aMi
  have FKs := fun_mk (st := sKinds) lKs cKs_ kKs
  have bKs := FKs.binds (ps := ["_law_size"]) fun _ _ _ _ _ _ us hl => by obtain ⟨_, rfl⟩ := of_len1 hl; rfl
  have gKs_ := PySem.W.mg_of X G aKs
  have FKd := fun_mk (st := sKind) lKd cKd_ kKd
  have bKd := FKd.binds (ps := ["_law_dice_here", "_law_most"]) fun _ _ _ _ _ _ us hl => by obtain ⟨_, _, rfl⟩ := of_len2 hl; rfl
  have gKd_ := PySem.W.mg_of X G aKd
  have FSl := fun_mk (st := sSlant) lSl cSl_ kSl
  have bSl := FSl.binds (ps := ["_law_kind_here"]) fun _ _ _ _ _ _ us hl => by obtain ⟨_, rfl⟩ := of_len1 hl; rfl
  have gSl_ := PySem.W.mg_of X G aSl
  have FWw := fun_mk (st := sWW) lWw cWw_ kWw
  have bWw := FWw.binds (ps := ["_law_word"]) fun _ _ _ _ _ _ us hl => by obtain ⟨_, rfl⟩ := of_len1 hl; rfl
  have gWw_ := PySem.W.mg_of X G aWw
  have FLe := fun_mk (st := sLetters) lLe cLe_ kLe
  have bLe := FLe.binds (ps := ["_law_kind_here"]) fun _ _ _ _ _ _ us hl => by obtain ⟨_, rfl⟩ := of_len1 hl; rfl
  have gLe_ := PySem.W.mg_of X G aLe
  have FKw := fun_mk (st := sKin) lKw cKw_ kKw
  have bKw := FKw.binds (ps := ["_law_word"]) fun _ _ _ _ _ _ us hl => by obtain ⟨_, rfl⟩ := of_len1 hl; rfl
  have gKw_ := PySem.W.mg_of X G aKw
  have FTo := fun_mk (st := sToo) lTo cTo_ kTo
  have bTo := FTo.binds (ps := ["_law_word"]) fun _ _ _ _ _ _ us hl => by obtain ⟨_, rfl⟩ := of_len1 hl; rfl
  have gTo_ := PySem.W.mg_of X G aTo
  have FRf := fun_mk (st := sRefusal) lRf cRf_ kRf
  have bRf := FRf.binds (ps := ["_law_word"]) fun _ _ _ _ _ _ us hl => by obtain ⟨_, rfl⟩ := of_len1 hl; rfl
  have gRf_ := PySem.W.mg_of X G aRf
  have FRg := fun_mk (st := sRight) lRg cRg_ kRg
  have bRg := FRg.binds (ps := ["_law_dice_here"]) fun _ _ _ _ _ _ us hl => by obtain ⟨_, rfl⟩ := of_len1 hl; rfl
  have gRg_ := PySem.W.mg_of X G aRg
  have FLa := fun_mk (st := sLaw) lLa cLa_ kLa
  have Zisinstance := PySem.W.mg_none_of X G z_isinstance
  have Zint := PySem.W.mg_none_of X G z_int
  have Zbool := PySem.W.mg_none_of X G z_bool
  have Zstr := PySem.W.mg_none_of X G z_str
  have Ztuple := PySem.W.mg_none_of X G z_tuple
  have Zlist := PySem.W.mg_none_of X G z_list
  have Zdict := PySem.W.mg_none_of X G z_dict
  have Zlen := PySem.W.mg_none_of X G z_len
  have Zall := PySem.W.mg_none_of X G z_all
  have Zany := PySem.W.mg_none_of X G z_any
  have Zsum := PySem.W.mg_none_of X G z_sum
  have Ziter := PySem.W.mg_none_of X G z_iter
  have Zmax := PySem.W.mg_none_of X G z_max
  have Zmin := PySem.W.mg_none_of X G z_min
  have Zabs := PySem.W.mg_none_of X G z_abs
  have Zrange := PySem.W.mg_none_of X G z_range
  have Zrepr := PySem.W.mg_none_of X G z_repr
  have Zsorted := PySem.W.mg_none_of X G z_sorted
  have Zenumerate := PySem.W.mg_none_of X G z_enumerate
  have Zzip := PySem.W.mg_none_of X G z_zip
  have VBOUND : ∃ t, mg "BOUND" = some (.int (10 ^ 60) t) := ⟨tkBOUND, PySem.W.mg_of X G v_BOUND⟩
  have VMAX_SIZE : ∃ t, mg "MAX_SIZE" = some (.int (12) t) := ⟨tkMAX_SIZE, PySem.W.mg_of X G v_MAX_SIZE⟩
  have ER : PySem.XRefused.RefusedTxt K mg CRx fRx :=
    { gC := PySem.W.mg_of X G xCR, cls := ⟨nmR, qR, qRx, bsR, snR, subR, abR, colR, ddR, m0R, m1R, m2R, m3R, m5R, xLR⟩, sa := xsaR, ga := xgaR, gg := xggR, noN := xnbR, iC := xaR, tC := xtR, kC := xkR, exC := xeR, tyC := xTR, hdC := xhR, te := exm_one xeR xiR xTR xsR,
      fn := ⟨_, _, _, _, _, _, _, _, _, _, _, _, _, _, xlR, xcR⟩ }
  refine ⟨PySem.W.fnOf "law" "law" (defArgs sLaw) (defBody sLaw) (defScope sLaw) .none kVLa dcLa pmLa anLa cdLa ctLa, fun s v => .of_eq rfl, fun base _ _ => ?_⟩
  have T : Txt K mg := ⟨Zisinstance, Zint, Zbool, Zstr, Ztuple, Zlist, Zdict, Zlen, Zall, Zany, Zsum, Ziter, Zmax, Zmin, Zabs, Zrange, Zrepr, Zsorted, Zenumerate, Zzip, VBOUND⟩
  have AW : AtW K mg fWh _ := ⟨FWh, bWh, gWh_⟩
  have AI : AtI K mg fIn _ := ⟨FIn, bIn, gIn_⟩
  have AR : AtR K mg fRo _ := ⟨FRo, bRo, gRo_⟩
  have DWh : Def1 l.prog w K mg base CX0 1 "is_whole" ["value"] (spWhole K) := ⟨_, _, gWh_, kWh, ok_whole FWh T, bWh⟩
  have DIw : Def1 l.prog w K mg base CX0 3 "is_within" ["value", "low", "high"] (spIsWithin K) := ⟨_, _, gIw_, kIw, ok_isWithin FIw T AW AI, bIw⟩
  have DFa : Def1 l.prog w K mg base CX0 4 "is_falling" ["value", "most"] (spFalling K) := ⟨_, _, gFa_, kFa, ok_falling FFa T DIw, bFa⟩
  have DLr : Def1 l.prog w K mg base CX0 2 "is_letter_row" ["value", "length"] (spLR K) := ⟨_, _, gLr_, kLr, ok_lr FLr T DWh, bLr⟩
  have DFi : Def1 l.prog w K mg base CX0 3 "is_filled" ["shape", "value"] (spFilled K) := ⟨_, _, gFi_, kFi, ok_filled FFi T DLr, bFi⟩
  have DJr : Def1 l.prog w K mg base CX0 1 "joined_rows" ["filling"] (spJR K) := ⟨_, _, gJr_, kJr, ok_jr FJr T, bJr⟩
  have DNx : Def1 l.prog w K mg base CX0 1 "next_place" ["some", "place"] (spNext K) := ⟨_, _, gNx_, kNx, ok_next FNx T, bNx⟩
  have DWo : Def1 l.prog w K mg base CX0 2 "weight_of" ["word"] (spWO K) := ⟨_, _, gWo_, kWo, ok_wo FWo T DNx, bWo⟩
  have DWf : Def1 l.prog w K mg base CX0 5 "word_of" ["filling"] (spWordOf K) := ⟨_, _, gWf_, kWf, ok_wof FWf T VMAX_SIZE DFa DFi DJr, bWf⟩
  have DWe : Def1 l.prog w K mg base (L2.CX l.prog w) 4 "weight" ["word"] (spWeight K CRx) := ⟨_, _, gWe_, kWe, ok_weight FWe T VMAX_SIZE ER DIw DWo, bWe⟩
  have DRo : Def1 l.prog w K mg base CX0 1 "_law_roll" ["_law_dice_here", "_law_total"] (spRoll) := ⟨_, _, gRo_, kRo, ok_roll FRo T, bRo⟩
  have DPi : Def1 l.prog w K mg base CX0 2 "_law_pick" ["_law_dice_here", "_law_items"] (spPick K) := ⟨_, _, gPi_, kPi, ok_pick FPi T AR, bPi⟩
  have DDi : Def1 l.prog w K mg base CX0 1 "_law_dice" ["_law_script", "_law_spot"] (spDice K) := ⟨_, _, gDi_, kDi, ok_dice FDi T, bDi⟩
  have DMi : Def1 l.prog w K mg base CX0 2 "_law_mixed" ["_law_dice_here", "_law_items"] (spMixed K) := ⟨_, _, gMi_, kMi, ok_mixed FMi T DRo, bMi⟩
  have DKs : Def1 l.prog w K mg base CX0 1 "_law_kinds" ["_law_size"] (spKinds K) := ⟨_, _, gKs_, kKs, ok_kinds FKs T, bKs⟩
  have DKd : Def1 l.prog w K mg base CX0 3 "_law_kind" ["_law_dice_here", "_law_most"] (spKind K) := ⟨_, _, gKd_, kKd, ok_kind FKd DRo DKs DPi, bKd⟩
  have DSl : Def1 l.prog w K mg base CX0 1 "_law_slant" ["_law_kind_here"] (spSlant K) := ⟨_, _, gSl_, kSl, ok_slant FSl T, bSl⟩
  have DWw : Def1 l.prog w K mg base CX0 1 "_law_word_weight" ["_law_word"] (spWW K) := ⟨_, _, gWw_, kWw, ok_ww FWw T, bWw⟩
  have DLe : Def1 l.prog w K mg base CX0 1 "_law_letters" ["_law_kind_here"] (spLetters K) := ⟨_, _, gLe_, kLe, ok_letters FLe T, bLe⟩
  have DKw : Def1 l.prog w K mg base CX0 1 "_law_kin_words" ["_law_word"] (spKin K) := ⟨_, _, gKw_, kKw, ok_kin FKw T, bKw⟩
  have DTo : Def1 l.prog w K mg base CX0 1 "_law_too_often" ["_law_word"] (spToo K) := ⟨_, _, gTo_, kTo, ok_too FTo T, bTo⟩
  have DRf : Def1 l.prog w K mg base CX0 5 "_law_refusal" ["_law_word"] (spRefusal K) := ⟨_, _, gRf_, kRf, ok_refusal FRf T ER DWe, bRf⟩
  have DRg : Def1 l.prog w K mg base CX0 6 "_law_right" ["_law_dice_here"] (spRight) := ⟨_, _, gRg_, kRg, ok_right FRg T Zrepr DWe DKd DMi DLe DWw DSl DKw DPi DTo DRf, bRg⟩
  have L := ok_law (P := l.prog) (w := w) (base := base) FLa T DDi DRg DWe DWf
  exact ⟨L.len, fun A out s H ar us vs Q E _ hr he hb hv hs => L.run A out s H ar us vs Q E hr he hb hv hs⟩
end

end Q0

set_option Elab.async false
set_option maxRecDepth 100000
open PySem PySem.W PyProof.Rows in
set_option maxRecDepth 100000 in
set_option maxHeartbeats 0 in
theorem PySem.Challenge.cw_primekinds_k67_whole_words_and_weights_holds : PySem.Challenge.rw_primekinds_k67_whole_words_and_weights.Holds := by
  w_on; o_law; k_head; (case hw => w_witness2)
  k_fill
  refine Gd.walkG (n := 63) (k := 7) (x := "_law_script") (CX := fun _ => L2.CX0) (l := PySem.Challenge.rw_primekinds_k67_whole_words_and_weights) (sp := fun w => Q0.spLaw _) rfl (by decide) rfl ⟨rfl, by decide, by decide⟩ (fun w h Y => PySem.W.kIn_of Y) ?F
    (fun _ _ a ns hl _ hS => ⟨a, ns, rfl, hS, hl, fun _ => rfl⟩) (fun _ _ _ _ _ z => z)
  case F =>
    intro w mg fa h KX G hmg
    refine' Q0.all_mk KX G hmg ?aWh ?lWh ?cWh_ ?kWh ?aIn ?lIn ?cIn_ ?kIn ?aIw ?lIw ?cIw_ ?kIw ?aFa ?lFa ?cFa_ ?kFa ?aFi ?lFi ?cFi_ ?kFi ?aLr ?lLr ?cLr_ ?kLr ?aJr ?lJr ?cJr_ ?kJr ?aNx ?lNx ?cNx_ ?kNx ?aWo ?lWo ?cWo_ ?kWo ?aWf ?lWf ?cWf_ ?kWf ?aWe ?lWe ?cWe_ ?kWe ?aDi ?lDi ?cDi_ ?kDi ?aRo ?lRo ?cRo_ ?kRo ?aPi ?lPi ?cPi_ ?kPi ?aMi ?lMi ?cMi_ ?kMi ?aKs ?lKs ?cKs_ ?kKs ?aKd ?lKd ?cKd_ ?kKd ?aSl ?lSl ?cSl_ ?kSl ?aWw ?lWw ?cWw_ ?kWw ?aLe ?lLe ?cLe_ ?kLe ?aKw ?lKw ?cKw_ ?kKw ?aTo ?lTo ?cTo_ ?kTo ?aRf ?lRf ?cRf_ ?kRf ?aRg ?lRg ?cRg_ ?kRg ?aLa ?lLa ?cLa_ ?kLa ?z_isinstance ?z_int ?z_bool ?z_str ?z_tuple ?z_list ?z_dict ?z_len ?z_all ?z_any ?z_sum ?z_iter ?z_max ?z_min ?z_abs ?z_range ?z_repr ?z_sorted ?z_enumerate ?z_zip ?v_BOUND ?v_MAX_SIZE ?xCR ?xLR ?xsaR ?xgaR ?xggR ?xnbR ?xaR ?xtR ?xlR ?xcR ?xkR ?xeR ?xTR ?xhR ?xiR ?xsR
    (case aWh => k_is)
    (case lWh => k_is)
    (case cWh_ => k_is)
    (case kWh => k_is)
    (case aIn => k_is)
    (case lIn => k_is)
    (case cIn_ => k_is)
    (case kIn => k_is)
    (case aIw => k_is)
    (case lIw => k_is)
    (case cIw_ => k_is)
    (case kIw => k_is)
    (case aFa => k_is)
    (case lFa => k_is)
    (case cFa_ => k_is)
    (case kFa => k_is)
    (case aFi => k_is)
    (case lFi => k_is)
    (case cFi_ => k_is)
    (case kFi => k_is)
    (case aLr => k_is)
    (case lLr => k_is)
    (case cLr_ => k_is)
    (case kLr => k_is)
    (case aJr => k_is)
    (case lJr => k_is)
    (case cJr_ => k_is)
    (case kJr => k_is)
    (case aNx => k_is)
    (case lNx => k_is)
    (case cNx_ => k_is)
    (case kNx => k_is)
    (case aWo => k_is)
    (case lWo => k_is)
    (case cWo_ => k_is)
    (case kWo => k_is)
    (case aWf => k_is)
    (case lWf => k_is)
    (case cWf_ => k_is)
    (case kWf => k_is)
    (case aWe => k_is)
    (case lWe => k_is)
    (case cWe_ => k_is)
    (case kWe => k_is)
    (case aDi => k_is)
    (case lDi => k_is)
    (case cDi_ => k_is)
    (case kDi => k_is)
    (case aRo => k_is)
    (case lRo => k_is)
    (case cRo_ => k_is)
    (case kRo => k_is)
    (case aPi => k_is)
    (case lPi => k_is)
    (case cPi_ => k_is)
    (case kPi => k_is)
    (case aMi => k_is)
    (case lMi => k_is)
    (case cMi_ => k_is)
    (case kMi => k_is)
    (case aKs => k_is)
    (case lKs => k_is)
    (case cKs_ => k_is)
    (case kKs => k_is)
    (case aKd => k_is)
    (case lKd => k_is)
    (case cKd_ => k_is)
    (case kKd => k_is)
    (case aSl => k_is)
    (case lSl => k_is)
    (case cSl_ => k_is)
    (case kSl => k_is)
    (case aWw => k_is)
    (case lWw => k_is)
    (case cWw_ => k_is)
    (case kWw => k_is)
    (case aLe => k_is)
    (case lLe => k_is)
    (case cLe_ => k_is)
    (case kLe => k_is)
    (case aKw => k_is)
    (case lKw => k_is)
    (case cKw_ => k_is)
    (case kKw => k_is)
    (case aTo => k_is)
    (case lTo => k_is)
    (case cTo_ => k_is)
    (case kTo => k_is)
    (case aRf => k_is)
    (case lRf => k_is)
    (case cRf_ => k_is)
    (case kRf => k_is)
    (case aRg => k_is)
    (case lRg => k_is)
    (case cRg_ => k_is)
    (case kRg => k_is)
    (case aLa => k_is)
    (case lLa => k_is)
    (case cLa_ => k_is)
    (case kLa => k_is)
    (case z_isinstance => k_is)
    (case z_int => k_is)
    (case z_bool => k_is)
    (case z_str => k_is)
    (case z_tuple => k_is)
    (case z_list => k_is)
    (case z_dict => k_is)
    (case z_len => k_is)
    (case z_all => k_is)
    (case z_any => k_is)
    (case z_sum => k_is)
    (case z_iter => k_is)
    (case z_max => k_is)
    (case z_min => k_is)
    (case z_abs => k_is)
    (case z_range => k_is)
    (case z_repr => k_is)
    (case z_sorted => k_is)
    (case z_enumerate => k_is)
    (case z_zip => k_is)
    (case v_BOUND => k_is)
    (case v_MAX_SIZE => k_is)
    (case xCR => k_is)
    (case xLR => k_is)
    (case xsaR => k_is)
    (case xgaR => k_is)
    (case xggR => k_is)
    (case xnbR => k_is)
    (case xaR => k_is)
    (case xtR => k_is)
    (case xlR => k_is)
    (case xcR => k_is)
    (case xkR => k_is)
    (case xeR => k_is)
    (case xTR => k_is)
    (case xhR => k_is)
    (case xiR => k_is)
    (case xsR => k_is)
