import PyProof.Rows.All
import Wide.All
import OpenK.AllK
import Wide.FinOn
import HandS.ForMost
import HandS.ForExc
import HandS.IsInst
import HandS.IterNext
import HandS.OwnIter
import KE.KOwnIter
import PyProof.Rows.Range3
import PyProof.Conv_bool
import KE.GoesMore
import KE.GoesEnum
import KE.GoesZip
import HandS.Walk
import PyProof.FactsInt
import PyProof.FactsInt2
import PyProof.Rows.FactsB_mul
import HandS.OwnEq
import HandS.SetFor
import HandS.TupLe
import HandS.TupAny
import PyProof.NeKinds
import PyProof.P3Eq
import HandS.TupMul
import KE.KExcInit
import KE.KRevSl
import KE.KDictPairs
import HandS.FStr
import KE.KFmtOwn
import KE.KCallOwn
import HandS.GenYield
import HandS.GenCall
import HandS.GenList
import HandS.Wide
import HandS.Property
import HandS.Lambda
import PySem.Challenge.RW_primekinds_k11_groups_and_their_members
import HandS.Defaults
import HandS.RaiseOp
import HandS.Style
import HandS.Conv
import HandS.Star
import HandS.RaiseMore
import HandS.Text
set_option Elab.async false
set_option linter.all false
set_option maxRecDepth 100000
set_option maxHeartbeats 4000000
/-! Promises of defs that are called where no container is being shown (the guards of the stack are known to be empty): repr of containers needs this. -/
namespace Gd
open PySem PySem.Spec PyProof.Rows L2

/-- no container is being shown -/
abbrev NoG (A : Around) : Prop := A.guards = some []

/-- the promise of a def, kept wherever no container is being shown -/
structure FnG (P : Program) (w : World) (K : PySem.W.Frag) (mg : Str → Option Value) (base : Heap) (CX : CXT) (k : Nat)
    (f : Addr) (fd : FuncData) (ps : List Str) (sp : Sp) : Prop where
  many : ∀ vs H Q E, sp vs H Q E → vs.length = ps.length
  go : ∀ (A : Around) (out : List Env) (s : Shared) (H : Hp) (ar : Args) (us : List Value) (vs : List V) (Q : VK) (E : XK),
    NoG A → Room k A → Env0 P w K mg base A out s H → BindsTo s fd ar (ps.zip us) → Vals vs us → sp vs H Q E →
      codeAny (model P w) A (.call (.ref f) ar) (CR CX out P w H s Q E) s

section
variable {P : Program} {w : World} {K : PySem.W.Frag} {mg : Str → Option Value} {base : Heap} {CX : CXT} {k : Nat}
  {f : Addr} {fd : FuncData} {ps : List Str} {sp : Sp}
theorem FnG.of (F : FnOk P w K mg base CX k f fd ps sp) : FnG P w K mg base CX k f fd ps sp :=
  ⟨F.len, fun A out s H ar us vs Q E _ => F.run A out s H ar us vs Q E⟩

/-- a def by its body, where no container is being shown -/
theorem fnG {x qual : Str} {st : Stmt} {N : List Str} (F : Fun K x qual st f fd) (S : FnScope N ps (defScope st))
    (many : ∀ vs H Q E, sp vs H Q E → vs.length = ps.length)
    (body : ∀ (cdv : Value) (A : Around) (out : List Env) (s : Shared) (H : Hp) (vs : List V) (Q : VK) (E : XK),
      NoG A → Room k (A.deeper (envOfC qual (defScope st) s.heap.objs.size f cdv)) → sp vs H Q E →
      ∃ t, PSs (cxOf CX P w K mg base N qual (defScope st) f cdv A out s H E) (defBody st) t ∧
        t { nx := fun _ H' => Q .non H', rt := Q } (start N vs) H) :
    FnG P w K mg base CX (k + 1) f fd ps sp := by
  obtain ⟨oc, od, kV, doc, pm, an, cdv, ct, osl, rfl, lk, hcd⟩ := F.ex
  refine ⟨many, ?_⟩
  intro A out s H ar us vs Q E hg hr e0 hb r hsp
  have hl := many vs H Q E hsp
  have KX : K.In s.heap := e0.mod.kin.keeps (fun b o e => (e0.bs b o e).1)
  have lim : s.heap.NoLimit := e0.mod.nolimit.keeps (fun b o e => (e0.bs b o e).1)
  have kinds : ∀ y ∈ ps.zip us, (defScope st).names.lookup y.1 = some .local ∨
      ((defScope st).names.lookup y.1 = some .cell ∧ ((cellsFrom (s.heap.objs.size + 1) (defScope st).names []).lookup y.1).isSome = true) := by
    rintro ⟨n, v⟩ hy
    rcases S.par n (List.of_mem_zip hy).1 with q | q
    · exact Or.inl q
    · exact Or.inr ⟨q, PySem.W.cellsFrom_some _ _ _ (Or.inl q)⟩
  refine codeAny_call_function hr.depth (KX _ _ lk) rfl S.co S.gen rfl
    (PySem.W.codeRec_of KX hcd) (hb _ _ _ _ ?_)
  refine wpAny_newFunctionEnv_cells S.kind kinds ?_
  intro env he s1 x
  cases he
  refine ⟨lim.keeps x.toInCall.keep, codeAny_func ?_⟩
  obtain ⟨t, ht, hq⟩ := body cdv A out s H vs Q E hg (hr.deeper _) hsp
  have I := inv_start (CX := CX) (E := E) S hr.hd e0 hl r x
  refine wpAny_mono (ht.run [] s1 (start N vs) H _ I hq) ?_ (fun e s' hs => hs)
  intro fl s' hs
  have fin : ∀ {σ' : L2.St} {H' : Hp} {v : V} {u : Value},
      Inv (cxOf CX P w K mg base N qual (defScope st) f cdv A out s H E) [] σ' H' s' →
      RelV v u → Q v H' → CE out P w H s Q u s' := by
    intro σ' H' v u J rv q
    exact ⟨v, H', J.os, J.bare, J.base, J.hok, rv, q⟩
  cases fl with
  | ret u =>
    obtain ⟨v, σ', H', J, rv, q⟩ := hs
    exact fin J rv q
  | next =>
    obtain ⟨σ', H', J, q⟩ := hs
    exact fin (v := V.non) (u := Value.none) J rfl q
  | brk =>
    obtain ⟨σ', H', J, q⟩ := hs
    exact False.elim q
  | cont =>
    obtain ⟨σ', H', J, q⟩ := hs
    exact False.elim q
end

section
variable {X : Cx} {CX : CXT} {k : Nat} {f C : Addr} {fd : FuncData} {ps : List Str} {sp : Sp} {dvs : List V} {ds : List Value} {E : XK}
  {x : Str} {p pos : Pos} {e : Expr} {es : List Expr} {t : TA}
/-- the call of such a def -/
theorem goG {pins : List (Addr × Obj)} {σ : L2.St} {H : Hp} {s : Shared} {Q : VK} {us : List Value} {vs : List V}
    (hg : NoG X.A) (F : FnG X.prog X.w X.K X.mg X.base CX k f fd ps sp) (hr : Room k X.A) (hb : Binds X.K fd ps ds)
    (hd : Vals dvs ds) (hx : Passes CX X E) (I : Inv X pins σ H s) (r : Vals vs us) (h : sp (vs ++ dvs) H Q E) :
    wpAny (model X.prog X.w) X.A (call (.ref f) us) (EP X pins σ Q) X.xe s := by
  have r2 := Vals.append r hd
  have hl : (us ++ ds).length = ps.length := by
    rw [← r2.length]
    exact F.many _ H Q E h
  have run := F.go X.A X.stack s H ⟨us, []⟩ (us ++ ds) _ Q E hg hr I.env0 (hb s us I.kIn hl) r2 h
  refine wpAny_call (codeAny_mono run ?_)
  intro r s' hq
  match r, hq with
  | .error e, hq => exact hx pins σ H s e s' I hq
  | .ok (.ret u), hq => exact I.after hq
  | .ok .next, hq => exact False.elim hq
  | .ok .brk, hq => exact False.elim hq
  | .ok .cont, hq => exact False.elim hq

theorem pe_callG (hg : NoG X.A) (F : FnG X.prog X.w X.K X.mg X.base CX k f fd ps sp) (hr : Room k X.A) (hgl : Gl X x)
    (hm : X.mg x = some (.ref f)) (hk : PySem.W.keepIn X.K (.ref f) = true) (hb : Binds X.K fd ps ds) (hd : Vals dvs ds)
    (hx : Passes CX X E) (ha : PA X (e :: es) t) (hdb : (x == ("__debug__" : Str)) = false := by decide)
    (he : starEach (e :: es) X.env = (false, eval e X.env) :: starEach es X.env := by rfl)
    (hpl : (backTo pos (starEach es X.env)).any (·.1) = false := by rfl) :
    PE X (.Call (.Name x p) (e :: es) [] pos) (tCall sp dvs E t) := by
  constructor
  intro pins s σ H Q I h
  refine wpAny_Call_Name_kw (ld_glob I hgl hm ?_ hdb)
  have go := thn (ha.run pos pins s σ H _ I h) (fun us s1 ⟨vs, H1, I1, r, q⟩ =>
    (⟨I1.kIn, goG hg F hr hb hd hx I1 r q⟩ : X.K.In s1.heap ∧ wpAny (model X.prog X.w) X.A (call (.ref f) us) (EP X pins σ Q) X.xe s1))
  exact PySem.W.callWith_K (h₀ := X.base) I.ok.mod.kin hk go he hpl
end

section
variable {P : Program} {w : World} {K : PySem.W.Frag} {mg mb : Str → Option Value} {CX : CXT} {k : Nat} {fa a : Addr}
  {fd : FuncData} {x : Str} {sp : Sp} {s₁ : Shared} {vs : List Value} {ns : List Int}
/-- the call of the law, from a heap H of which nothing but the script is tracked -/
theorem coreG (KX : K.In s₁.heap) (hns : s₁.heap.Ns mainGlobals mg) (hb : s₁.heap.Ns builtinsNs mb)
    (hbb : ∀ x : Str, x ≠ "__name__" → mb x = bootBuiltins x) (hlim : s₁.heap.NoLimit) (hg : s₁.gens = #[])
    (ha : s₁.heap.get? a = some { cls := .type "list", data := .seq vs.toArray }) (hr : Room k callerA)
    (F : ∀ base : Heap, K.In base → base.Ns mainGlobals mg → FnG P w K mg base CX k fa fd [x] sp)
    (hbind : ∀ (s : Shared) (u : Value), BindsTo s fd ⟨[u], []⟩ [(x, u)])
    (hCX : ∀ H e s', CX [] H s₁ (fun _ _ _ => False) e s' → False)
    (H : Hp) (hO : Only H) (hsp : sp [.ref a] H (fun v _ => v = .bl true) fun _ _ _ => False)
    (hok : HOk P w H s₁.heap) (hA : ∀ b, H b ≠ none → b = a) (hK : H a ≠ none → K.lookup a = none) :
    codeAny (model P w) callerA (.call (.ref fa) ⟨[.ref a], []⟩)
      (fun r s' => r = .ok (.ret (.bool true)) ∧ OldK s₁.heap s'.heap ∧ s'.os = s₁.os ∧ AllBare s'.gens) s₁ := by
  have at_a : ∀ {b : Addr}, H b ≠ none → b = a := fun {b} z => hA b z
  have keepB : ∀ {b : Addr} {o : Obj}, s₁.heap.get? b = some o → H b = none → (hidT s₁.heap H).get? b = some o := by
    intro b o e n
    exact hidT_get e n
  have noDict : ∀ {b : Addr} {o : Obj} {es : Array DictEntry} {ep : Nat},
      s₁.heap.get? b = some o → o.data = .dict es ep → H b = none := by
    intro b o es ep e d
    cases q : H b with
    | none => rfl
    | some u =>
      obtain rfl : b = a := at_a (by rw [q]; simp)
      rw [ha] at e
      cases e
      cases d
  have nsOf : ∀ {b : Addr} {m : Str → Option Value}, s₁.heap.Ns b m → (hidT s₁.heap H).Ns b m := by
    rintro b m ⟨o, es, ep, e, d, r⟩
    exact ⟨o, es, ep, keepB e (noDict e d), d, r⟩
  have inB : K.In (hidT s₁.heap H) := by
    intro b o e
    refine keepB (KX b o e) ?_
    cases q : H b with
    | none => rfl
    | some u =>
      obtain rfl : b = a := at_a (by rw [q]; simp)
      rw [hK (by rw [q]; simp)] at e
      cases e
  obtain ⟨mc, l1, l2⟩ := hlim
  have hM : Mod K mg (hidT s₁.heap H) := ⟨inB, nsOf hns, ⟨mb, nsOf hb, hbb⟩, ⟨mc, nsOf l1, l2⟩⟩
  have e0 : Env0 P w K mg (hidT s₁.heap H) callerA [] s₁ H := by
    refine ⟨rfl, hM, ?_, Nat.le_of_eq (hidT_size _ _), trivial, ?_, hok, .of_eq hg⟩
    · intro b o e
      exact of_hidT e
    · intro b z
      exact absurd (show b ∈ ([] : List Addr) from z) (by simp)
  have run := (F _ inB (nsOf hns)).go callerA [] s₁ H ⟨[.ref a], []⟩ [.ref a] [.ref a] _ _ rfl hr e0 (hbind s₁ (.ref a)) (.cons rfl .nil) hsp
  refine codeAny_mono run ?_
  intro r s' h
  match r, h with
  | .error e, h => exact (hCX H e s' h).elim
  | .ok .next, h => exact False.elim h
  | .ok .brk, h => exact False.elim h
  | .ok .cont, h => exact False.elim h
  | .ok (.ret u), h =>
    obtain ⟨v, H', os, bare, un, hok', rv, q⟩ := h
    obtain rfl : v = .bl true := q
    obtain rfl : u = Value.bool true := rv
    refine ⟨rfl, OldK.of_keep ?_, os, bare⟩
    intro b o e
    cases q : H b with
    | none => exact un.keep b o e q (fun z => absurd (show b ∈ ([] : List Addr) from z) (by simp)) (by simp)
    | some u =>
      rcases hO b with z | ⟨ob, xs, z⟩
      · rw [q] at z
        cases z
      · obtain ⟨e1, _⟩ := hok b _ z
        obtain ⟨e2, _⟩ := hok' b _ (un.frzs b ob _ z)
        rw [e] at e1
        cases e1
        exact e2

theorem law_callG (KX : K.In s₁.heap) (hns : s₁.heap.Ns mainGlobals mg) (hb : s₁.heap.Ns builtinsNs mb)
    (hbb : ∀ x : Str, x ≠ "__name__" → mb x = bootBuiltins x) (hlim : s₁.heap.NoLimit) (hg : s₁.gens = #[])
    (ha : s₁.heap.get? a = some { cls := .type "list", data := .seq vs.toArray }) (hi : IntsAre vs ns) (hl : ns.length ≤ sizeLine)
    (hr : Room k callerA) (F : ∀ base : Heap, K.In base → base.Ns mainGlobals mg → FnG P w K mg base CX k fa fd [x] sp)
    (hbind : ∀ (s : Shared) (u : Value), BindsTo s fd ⟨[u], []⟩ [(x, u)])
    (hsp : ∀ H : Hp, Only H → SqL K H a (ns.map V.int) → sp [.ref a] H (fun v _ => v = .bl true) fun _ _ _ => False)
    (hCX : ∀ H e s', CX [] H s₁ (fun _ _ _ => False) e s' → False) :
    codeAny (model P w) callerA (.call (.ref fa) ⟨[.ref a], []⟩)
      (fun r s' => r = .ok (.ret (.bool true)) ∧ OldK s₁.heap s'.heap ∧ s'.os = s₁.os ∧ AllBare s'.gens) s₁ := by
  have rv := vals_ints hi
  have lenV := hi.length
  cases hk : K.lookup a with
  | some o =>
    have e := KX a o hk
    rw [ha] at e
    cases e
    have none' : ∀ b : Addr, (fun _ : Addr => (none : Option HO)) b = none := fun _ => rfl
    refine coreG KX hns hb hbb hlim hg ha hr F hbind hCX (fun _ => none) (fun _ => .inl rfl) (hsp _ (fun _ => .inl rfl) ?_) ?_ (fun b z => absurd (none' b) z) (fun z => absurd (none' a) z)
    · exact .inr ⟨_, vs.toArray, _, hk, rfl, rfl, rfl, by rw [List.size_toArray, lenV]; exact hl, by simpa using rv⟩
    · intro b u z
      cases z
  | none =>
    have hpos : ∀ b, (fun b => if b = a then some (HO.frz { cls := .type "list", data := .seq vs.toArray } (.lst (ns.map V.int))) else none) b ≠ none → b = a := by
      intro b z
      by_cases q : b = a
      · exact q
      · exact absurd (if_neg q) z
    have hO : Only (fun b => if b = a then some (HO.frz { cls := .type "list", data := .seq vs.toArray } (.lst (ns.map V.int))) else none) := by
      intro b
      by_cases q : b = a
      · exact .inr ⟨_, _, if_pos q⟩
      · exact .inl (if_neg q)
    refine coreG KX hns hb hbb hlim hg ha hr F hbind hCX _ hO (hsp _ hO ?_) ?_ hpos (fun _ => hk)
    · exact .inl (.inr ⟨{ cls := .type "list", data := .seq vs.toArray }, if_pos rfl⟩)
    · intro b u z
      have q : b = a := hpos b (by rw [z]; simp)
      subst q
      have z' := (if_pos rfl).symm.trans z
      cases z'
      exact ⟨ha, by rw [List.length_map]; exact hl, vs, _, rv, ha⟩
end

/-- the end of a law -/
theorem walkG {l : PySem.W.OpenLaw} {n k : Nat} {q : Program} {loose : List Str} {XP : (Str → Option Value) → Heap → Prop} {YP : World → Heap → Prop} {d : DefRec} {K : Params → PySem.W.Frag} {CX : World → CXT} {sp : World → Sp} {x : Str}
    (hn : l.most = some n) (hn2 : n ≤ sizeLine) (hdf : d.params.defaults = []) (hr : Room k callerA)
    (hY : ∀ (w : World) (h : Heap), YP w h → (K w.params).In h)
    (F : ∀ (w : World) (mg : Str → Option Value) (fa : Addr) (h : Heap), (K w.params).In h → h.Ns mainGlobals mg → mg d.name = some (.ref fa) →
      ∃ fd : FuncData, (∀ (s : Shared) (u : Value), BindsTo s fd ⟨[u], []⟩ [(x, u)]) ∧
        ∀ base : Heap, (K w.params).In base → base.Ns mainGlobals mg → FnG l.prog w (K w.params) mg base (CX w) k fa fd [x] (sp w))
    (hsp : ∀ (w : World) (H : Hp) (a : Addr) (ns : List Int), ns.length ≤ n → Only H → SqL (K w.params) H a (ns.map V.int) → sp w [.ref a] H (fun v _ => v = .bl true) fun _ _ _ => False)
    (hCX : ∀ (w : World) (H : Hp) (s : Shared) (e : Value) (s' : Shared), CX w [] H s (fun _ _ _ => False) e s' → False) :
    PySem.W.WalkO q loose XP YP l.row.toRowW d [] (fun f vs => PySem.call f vs) := by
  refine Att.attach_call hn hdf ?_
  intro w s₀ s₁ mg mb fa o pm cd doc a vs ns G Y ho hd hcd hmg hobj hints hlen hg
  obtain ⟨fd, hb, hF⟩ := F w mg fa _ (hY w _ Y) G.T.g hmg
  exact law_callG (hY w _ Y) G.T.g G.T.b G.T.builtins G.T.nolimit hg hobj hints (Nat.le_trans hlen hn2) hr hF hb (fun H hO hS => hsp w H a ns hlen hO hS) fun H e s' => hCX w H s₁ e s'
end Gd

set_option Elab.async false
set_option linter.all false
set_option maxRecDepth 100000
set_option maxHeartbeats 4000000
/-! Operators of own classes, and repr of data, as rules of the hand layer. -/
namespace Gd
open PySem PySem.Spec PyProof.Rows L2

/-! ### repr of data -/
def rRepr (K : PySem.W.Frag) : List V → Hp → VK → Prop := fun xs H Q =>
  ∃ a d, xs = [.ref a] ∧ Dp K H (.ref a) d ∧ d.showable = true ∧ d.hasDict = false ∧ d.depth ≤ 60 ∧ d.shown.length ≤ sizeLine ∧ Q (.str d.shown) H
theorem call_repr {X : Cx} (hg : NoG X.A) (hu : X.A.units + 64 < cLine) : CallR X (.builtin "repr") (rRepr X.K) := by
  intro pins s σ H xs us Q I r h
  obtain ⟨a, d, rfl, hd, h1, h2, h3, h4, q⟩ := h
  obtain ⟨u, rfl, hu1⟩ := vals1 r
  cases hu1
  obtain ⟨as, rd⟩ := Dp.reads I d (.ref a) (.ref a) hd rfl
  refine repr_of_reads' rd h1 (PyData.noDict_hsm h2) hg (by omega) (fun _ _ e => e) ?_ h4
  intro h' u tk hk
  exact ⟨.str d.shown, H, I.kept hk, ⟨u, rfl⟩, q⟩

section
variable {X : Cx} {CX : CXT} {k : Nat} {f C : Addr} {fd : FuncData} {ps : List Str} {sp : Sp} {dvs : List V} {ds : List Value}
  {pos : Pos} {a b : Expr} {ta tb : TE}

/-- the callee runs, from the body or from a builtin that the body calls -/
theorem runAt {E : XK} {A : Around} (hA : A = X.A ∨ A = X.A.in1) {pins : List (Addr × Obj)} {σ : L2.St} {H : Hp} {s : Shared} {Q : VK} {us : List Value} {vs : List V}
    (F : FnOk X.prog X.w X.K X.mg X.base CX k f fd ps sp) (hr : Room (k + 1) X.A) (hb : Binds X.K fd ps ds) (hd : Vals dvs ds)
    (hx : PassesAt CX X σ E) (I : Inv X pins σ H s) (r : Vals vs us) (h : sp (vs ++ dvs) H Q E) :
    wpAny (model X.prog X.w) A (call (.ref f) us) (EP X pins σ Q) X.xe s := by
  have r2 := Vals.append r hd
  have hl : (us ++ ds).length = ps.length := by
    rw [← r2.length]
    exact F.len _ H Q E h
  have room : Room k A := by
    rcases hA with rfl | rfl
    · exact hr.mono (Nat.le_succ _)
    · exact hr.in1
  have env : Env0 X.prog X.w X.K X.mg X.base A X.stack s H := by
    rcases hA with rfl | rfl
    · exact I.env0
    · exact I.env0.in1
  refine wpAny_call (codeAny_mono (F.run A X.stack s H ⟨us, []⟩ (us ++ ds) _ Q E room env (hb s us I.kIn hl) r2 h) ?_)
  intro r s' hq
  match r, hq with
  | .error e, hq => exact hx pins H s e s' I hq
  | .ok (.ret u), hq => exact I.after hq
  | .ok .next, hq => exact False.elim hq
  | .ok .brk, hq => exact False.elim hq
  | .ok .cont, hq => exact False.elim hq
theorem quiet0 {σ : L2.St} {E : XK} : PassesAt CX0 X σ E := fun _ _ _ _ _ _ h => h.elim

/-- the instance at a, as the library sees it -/
theorem seen {pins : List (Addr × Obj)} {σ : L2.St} {H : Hp} {s : Shared} {p dx : Addr} {fs : List (Str × V)} (I : Inv X pins σ H s)
    (e : H p = some (.ins C dx fs)) : ∃ od, PySem.W.InstAt s.heap p (PySem.W.instObj C dx) C (some od) := by
  obtain ⟨mA, J, _⟩ := ins_get I.hok e
  obtain ⟨od, J, _⟩ := J.look
  exact ⟨od, J⟩

/-! ### comparisons -/
/-- x OP y by the own method of x's class, whose answer is a truth value -/
def rCmpO (K : PySem.W.Frag) (C : Addr) (sp : Sp) (E : XK) : R2 := fun x y H Q => ∃ p dx fs t, x = .ref p ∧ H p = some (.ins C dx fs) ∧
  TyX K H y t ∧ PySem.W.notFirst K C t = true ∧ sp [x, y] H (fun v H' => (∃ c, v = .bl c) ∧ Q v H') E
theorem cmpO {op : CmpOp} {E : XK} (hm : Meth X.K C (cmpInfo op).2.1 f) (F : FnOk X.prog X.w X.K X.mg X.base CX k f fd ps sp) (hr : Room (k + 1) X.A)
    (hb : Binds X.K fd ps []) (hx : ∀ σ, PassesAt CX X σ E)
    {pins : List (Addr × Obj)} {s : Shared} {σ : L2.St} {H : Hp} {x y : V} {v u : Value} {Q : VK} (I : Inv X pins σ H s) (rx : RelV x v) (ry : RelV y u)
    (h : rCmpO X.K C sp E x y H Q) : wpAny (model X.prog X.w) X.A (richCompare op v u) (EP X pins σ Q) X.xe s := by
  obtain ⟨p, dx, fs, t, rfl, ep, ty, hn, hsp⟩ := h
  cases rx
  obtain ⟨od, J⟩ := seen I ep
  obtain ⟨P, Z, hP, _⟩ := kit_of I ry ty
  obtain ⟨m, hF⟩ := I.fr
  refine PySem.W.cmp_K (op := op) (tb := t) hr.units0 hF I.ok.mod.kin J (Z.ty _ _ I.kIn hP) hn hm.at_ hm.fn ?_
  refine wpAny_mono (runAt (.inl rfl) F hr hb .nil (hx σ) I (.cons (show RelV (V.ref p) (Value.ref p) from rfl) (.cons ry .nil)) hsp) ?_ (fun _ _ z => z)
  rintro w s' ⟨z, H', I', rz, ⟨c, rfl⟩, q⟩
  cases rz
  exact ⟨.bl c, H', I', rfl, q⟩
theorem op_eqO {E : XK} (hm : Meth X.K C "__eq__" f) (F : FnOk X.prog X.w X.K X.mg X.base CX k f fd ps sp) (hr : Room (k + 1) X.A)
    (hb : Binds X.K fd ps []) (hx : ∀ σ, PassesAt CX X σ E) : OpR X (compareOp .Eq) (rCmpO X.K C sp E) := by
  intro pins s σ H x y v u Q I rx ry h
  exact cmpO (op := .Eq) hm F hr hb hx I rx ry h
theorem op_ltO {E : XK} (hm : Meth X.K C "__lt__" f) (F : FnOk X.prog X.w X.K X.mg X.base CX k f fd ps sp) (hr : Room (k + 1) X.A)
    (hb : Binds X.K fd ps []) (hx : ∀ σ, PassesAt CX X σ E) : OpR X (compareOp .Lt) (rCmpO X.K C sp E) := by
  intro pins s σ H x y v u Q I rx ry h
  exact cmpO (op := .Lt) hm F hr hb hx I rx ry h

/-! ### len, truth, items -/
def rLenO (C : Addr) (sp : Sp) (E : XK) : List V → Hp → VK → Prop := fun xs H Q => ∃ p dx fs, xs = [.ref p] ∧ H p = some (.ins C dx fs) ∧
  sp [.ref p] H (fun v H' => ∃ n : Int, v = .int n ∧ 0 ≤ n ∧ n < 2 ^ 63 ∧ Q (.int n) H') E
theorem call_lenO {E : XK} (hm : Meth X.K C "__len__" f) (F : FnOk X.prog X.w X.K X.mg X.base CX k f fd ps sp) (hr : Room (k + 1) X.A)
    (hb : Binds X.K fd ps []) (hx : ∀ σ, PassesAt CX X σ E) : CallR X (.builtin "len") (rLenO C sp E) := by
  intro pins s σ H xs us Q I r h
  obtain ⟨p, dx, fs, rfl, ep, hsp⟩ := h
  obtain ⟨u, rfl, hu1⟩ := vals1 r
  cases hu1
  obtain ⟨od, J⟩ := seen I ep
  obtain ⟨m, hF⟩ := I.fr
  refine PySem.W.len_K hF I.ok.mod.kin J hm.at_ hm.fn ?_
  refine wpAny_mono (runAt (.inr rfl) F hr hb .nil (hx σ) I (.cons (show RelV (V.ref p) (Value.ref p) from rfl) .nil) hsp) ?_ (fun _ _ z => z)
  rintro w s' ⟨z, H', I', rz, n, rfl, h0, h1, q⟩
  obtain ⟨t, rfl⟩ := rz
  exact ⟨⟨h0, h1⟩, .int n, H', I'.tok _, ⟨_, rfl⟩, q⟩
def rTruO (C : Addr) (sp : Sp) (E : XK) : V → Hp → (Bool → Hp → Prop) → Prop := fun x H Q => ∃ p dx fs, x = .ref p ∧ H p = some (.ins C dx fs) ∧
  sp [.ref p] H (fun v H' => ∃ c, v = .bl c ∧ Q c H') E
theorem tru_O {E : XK} (hm : Meth X.K C "__bool__" f) (F : FnOk X.prog X.w X.K X.mg X.base CX k f fd ps sp) (hr : Room (k + 1) X.A)
    (hb : Binds X.K fd ps []) (hx : ∀ σ, PassesAt CX X σ E) : TruR X (rTruO C sp E) := by
  intro pins s σ H x v Q I rx h
  obtain ⟨p, dx, fs, rfl, ep, hsp⟩ := h
  cases rx
  obtain ⟨od, J⟩ := seen I ep
  obtain ⟨m, hF⟩ := I.fr
  refine PySem.W.truthy_K hF I.ok.mod.kin J hm.at_ hm.fn ?_
  refine wpAny_mono (runAt (.inl rfl) F hr hb .nil (hx σ) I (.cons (show RelV (V.ref p) (Value.ref p) from rfl) .nil) hsp) ?_ (fun _ _ z => z)
  rintro w s' ⟨z, H', I', rz, c, rfl, q⟩
  cases rz
  exact ⟨H', I', q⟩
/-- o[i] by the own method, which may raise -/
def tIxO (C : Addr) (sp : Sp) (E : L2.St → XK) (ta tb : TE) : TE := fun σ H Q => ta σ H fun x H1 => tb σ H1 fun y H2 =>
  ∃ p dx fs, x = .ref p ∧ H2 p = some (.ins C dx fs) ∧ sp [x, y] H2 Q (E σ)
theorem pe_ixO {E : L2.St → XK} (hm : Meth X.K C "__getitem__" f) (hfn : PySem.W.fnIn X.K f = true) (F : FnOk X.prog X.w X.K X.mg X.base CX k f fd ps sp)
    (hr : Room (k + 1) X.A) (hb : Binds X.K fd ps []) (hx : ∀ σ, PassesAt CX X σ (E σ)) (ha : PE X a ta) (hb' : PE X b tb)
    (hs : ∀ v u : Value, subscripted b true v u = runValue (.builtin "lifetime.subscript" ⟨[v, u], []⟩) := by intro _ _; with_unfolding_all rfl) :
    PE X (.Subscript a b pos) (tIxO C sp E ta tb) := by
  refine ⟨fun pins s σ H Q I h => ?_⟩
  refine Subscript_ (binT ha hb' I h fun v u s2 x y H2 I2 rx ry q => ?_)
  obtain ⟨p, dx, fs, rfl, ep, hsp⟩ := q
  cases rx
  obtain ⟨od, J⟩ := seen I2 ep
  obtain ⟨m, hF⟩ := I2.fr
  refine PySem.W.sub_K hF I2.ok.mod.kin J hm.at_ hfn hm.fn ?_ (hs _ _)
  exact runAt (.inr rfl) F hr hb .nil (hx σ) I2 (.cons (show RelV (V.ref p) (Value.ref p) from rfl) (.cons ry .nil)) hsp
end
end Gd

set_option Elab.async false
set_option linter.all false
set_option maxRecDepth 100000
set_option maxHeartbeats 4000000
/-! iter(a tuple), and list(o) of an own class that hands on such an iterator and has a length. -/
namespace PySem
section
variable {prog : Program} {w : World} {A : Around} {E : Value → Shared → Prop} {s : Shared}
/-- the end of a tuple's iterator, which stays an object -/
theorem tuple_next_end {it t : Addr} {i : Nat} {items : Array Value} {Q : Option Value → Shared → Prop} (hh : A.handled = none)
    (hit : s.heap.IsTupleIter it t i) (ht : s.heap.IsTuple t items) (hx : items[i]? = none)
    (hQ : ∀ h', (∀ b o, b ≠ it → s.heap.get? b = some o → h'.get? b = some o) → (∃ o, h'.get? it = some o) → Q none { s with heap := h' }) :
    wpAny (model prog w) A (pyNext (.ref it)) Q E s := by
  obtain ⟨o, ho, hc, hd⟩ := id hit
  obtain ⟨ol, hol, _, nl, hdl⟩ := ht
  have self := Heap.get?_update_self (Obj.mapFields (·.setIfInBounds 0 Value.none)) ho (Obj.isFreed_of_fields (Obj.data_mapFields hd _))
  unfold pyNext
  refine wpAny_bind (wpAny_attempt (wpAny_callSpecial?_slot (name := Str.ofString "__next__") hit.typeIs F.slot_tuple_iterator_next (wpAny_call_entry
    F.slot_tuple_iterator_next hit.typeIs F.entry_tuple_iterator_next ?_ (F.args_tuple_iterator_next_1 _))))
  show wpAny _ _ (field (.ref it) 0 >>= _) _ _ s
  refine wpAny_bind (wpAny_field ho hd (x := .ref t) rfl ?_)
  have nn : ¬ ((Value.ref t == Value.none) = true) := Bool.false_ne_true
  show wpAny _ _ (if (Value.ref t == Value.none) = true then _ else _) _ _ s
  rw [if_neg nn]
  show wpAny _ _ (field (.ref it) 1 >>= _) _ _ s
  refine wpAny_bind (wpAny_field ho hd (x := .int i 0) rfl ?_)
  show wpAny _ _ (seqItems? (.ref t) >>= _) _ _ s
  refine wpAny_bind (wpAny_seqItems hol hdl ?_)
  simp only [Int.toNat_natCast, hx]
  refine wpAny_bind (wpAny_rule (wpAny_bind (wpAny_setField ho hd (by simp) ?_)))
  show wpAny _ _ (newExc (.type "StopIteration") [] >>= _) _ _ _
  refine wpAny_bind ?_
  simp only [newExc, newTuple]
  refine wpAny_bind (wpAny_newObj_type ?_ (by size_fits))
  refine wpAny_bind (m := firstArgMember _ _) (wpAny_of_eq (a := Value.none) (by first | rfl | (simp only [firstArgMember]; rfl)) ?_)
  refine wpAny_newObj_type ?_ (by size_fits)
  simp only [raiseNew]
  refine wpAny_bind (wpAny_handled ?_)
  first | rw [show A.in1.handled = none from hh] | rw [hh]
  refine wpAny_bind (wpAny_pure (wpAny_throw ?_))
  refine wpAny_bind (wpAny_isInstance (T := "StopIteration") (b := true) ⟨_, Heap.get?_push_size _ rfl, rfl⟩ isSubtype_stop ?_)
  refine wpAny_pure (hQ _ (fun b o hb e => ?_) ⟨_, Heap.get?_push_of_some _ (Heap.get?_push_of_some _ self)⟩)
  exact Heap.get?_push_of_some _ (Heap.get?_push_of_some _ ((Heap.get?_update_other _ _ (Ne.symm hb)).trans e))
end
end PySem

namespace Gd
open PySem PySem.Spec PyProof.Rows L2
/-- at it: an iterator over the tuple at t, behind i items; | whatever it is -/
def TitO (t it : Addr) (i : Nat) : HO := .ext fun h => h.IsTupleIter it t i
def OddO (it : Addr) : HO := .ext fun h => ∃ o, h.get? it = some o
section
variable {P : Program} {w : World} {H : Hp} {h : Heap} {t it : Addr} {i : Nat}
theorem tit_ok (e : h.IsTupleIter it t i) : ObjOk P w H h it (TitO t it i) := by
  obtain ⟨o, ho, r⟩ := e
  exact ⟨⟨o, ho, r⟩, ⟨o, ho⟩, fun h1 h2 ⟨o', q, r'⟩ k => ⟨o', k _ q, r'⟩⟩
theorem odd_ok (e : ∃ o, h.get? it = some o) : ObjOk P w H h it (OddO it) := ⟨e, e, fun h1 h2 ⟨o', q⟩ k => ⟨o', k _ q⟩⟩
end
section
variable {X : Cx} {pins : List (Addr × Obj)} {σ : L2.St} {H : Hp} {s : Shared} {t it q a : Addr} {i : Nat} {ys : List V}
/-- iter(t), t a tuple -/
def rIterT (K : PySem.W.Frag) : List V → Hp → VK → Prop := fun xs H Q => ∃ (t : Addr) (ys : List V), xs = [.ref t] ∧ SqT K H t ys ∧ ∀ it, H it = none → Q (.ref it) (upd H it (TitO t it 0))
theorem isTuple_of {h : Heap} {a : Addr} {items : Array Value} (x : IsTup h a items) : h.IsTuple a items := by
  obtain ⟨o, h1, h2, h3⟩ := x
  exact ⟨o, h1, h2, by first | exact h3 | exact h3.2⟩
theorem call_iterT : CallR X (.builtin "iter") (rIterT X.K) := by
  intro pins s σ H xs us Q I r h
  obtain ⟨t, ys, rfl, hq, q⟩ := h
  obtain rfl := Vals.ref1 r
  obtain ⟨its, rv, pl, hz⟩ := I.tuple hq
  refine Calls.call_function_entry (by decide +kernel) (by decide +kernel) PySem.W.kdk_entry_iter (PySem.W.kdk_args_iter _) ?_
  unfold Builtin.«iter»
  refine wpAny_bind (m := someArgs "iter" 1 2 _) (wpAny_of_eq (a := [Value.ref t]) (by first | rfl | kernel_rfl!) ?_)
  show wpAny _ _ (pyIter (.ref t) >>= _) _ _ _
  refine wpAny_bind (wpAny_pyIter_tuple (isTuple_of pl) ?_)
  refine wpAny_pure ⟨_, rfl, ?_⟩
  have nw : H s.heap.objs.size = none := I.hok.fresh (Nat.le_refl _)
  refine ⟨.ref s.heap.objs.size, _, I.laid (t' := s.toks) (fun b u e => Heap.get?_push_of_some _ e) (Nat.le_refl _) (tit_ok ⟨_, Heap.get?_push_size _ rfl, rfl, rfl⟩), rfl, q _ nw⟩

theorem take_one {α : Type} : ∀ {l : List α} {i : Nat} (h : i < l.length), l.take (i + 1) = l.take i ++ [l[i]]
  | a :: l, 0, _ => rfl
  | a :: l, i + 1, h => by
    have h' : i < l.length := Nat.lt_of_succ_lt_succ h
    have ih := take_one (l := l) (i := i) h'
    show a :: l.take (i + 1) = (a :: l.take i) ++ [l[i]'h']
    rw [ih]
    rfl
/-- what is known stays known, but for the iterator and the list -/
def But (q it : Addr) (H H' : Hp) : Prop := ∀ b o, b ≠ q → b ≠ it → H b = some o → H' b = some o
theorem drain {A1 : Around} {Rs : Result → Shared → Prop} (hh : A1.in1.handled = none) (hqi : q ≠ it) (hqt : q ≠ t) (hti : t ≠ it) (H0 : Hp)
    (hys : ys.length < sizeLine) (ht0 : SqT X.K H0 t ys)
    (hdone : ∀ H' s', Inv X pins σ H' s' → But q it H0 H' → H' q = some (.lst ys) → H' it = some (OddO it) → Rs (.ok (.ret .none)) s') :
    ∀ (m i : Nat) (H : Hp) (s : Shared), m + i = ys.length → Inv X pins σ H s → But q it H0 H → H it = some (TitO t it i) → H q = some (.lst (ys.take i)) →
      codeAny (model X.prog X.w) A1 (.builtin "list.extend.loop" ⟨[.ref q, .ref it, .none], []⟩) Rs s := by
  intro m
  induction m with
  | zero =>
    intro i H s hi I hB hit hq
    have ht : SqT X.K H t ys := by
      rcases ht0 with (z | ⟨o, z⟩) | z
      · exact .inl (.inl (hB _ _ hqt.symm hti z))
      · exact .inl (.inr ⟨o, hB _ _ hqt.symm hti z⟩)
      · exact .inr z
    obtain ⟨its, rv, pl, hz⟩ := I.tuple ht
    refine codeAny_builtin PySem.F.entry_extend_loop ?_
    rw [Around.under_plainId PySem.F.plain_extend_loop _]
    show wpAny _ A1.in1 (pyNext (.ref it) >>= _) _ _ s
    have hx : its.toArray[i]? = none := by
      have e := rv.length
      rw [List.getElem?_toArray, List.getElem?_eq_none_iff]
      omega
    have T : s.heap.IsTupleIter it t i := (I.hok it _ hit).1
    refine wpAny_bind (PySem.tuple_next_end (items := its.toArray) hh T (isTuple_of pl) hx ?_)
    intro h' keep ex
    have J : Inv X pins σ (upd H it (OddO it)) { s with heap := h' } := by
      refine I.write (t' := s.toks) (x := it) (e := it) (by rw [hit]; exact True.intro) (.inl rfl) (fun b u hb hu => keep b u hb hu) ex (odd_ok ex)
    refine wpAny_pure (hdone _ _ J ?_ ?_ upd_same)
    · intro b o h1 h2 e
      rw [upd_ne h2]
      exact hB b o h1 h2 e
    · rw [upd_ne hqi, hq, List.take_of_length_le (by omega)]
  | succ m ih =>
    intro i H s hi I hB hit hq
    have ht : SqT X.K H t ys := by
      rcases ht0 with (z | ⟨o, z⟩) | z
      · exact .inl (.inl (hB _ _ hqt.symm hti z))
      · exact .inl (.inr ⟨o, hB _ _ hqt.symm hti z⟩)
      · exact .inr z
    obtain ⟨its, rv, pl, hz⟩ := I.tuple ht
    have hlt : i < ys.length := by omega
    obtain ⟨u, hu, ru⟩ := rv.get (List.getElem?_eq_getElem hlt)
    refine codeAny_builtin PySem.F.entry_extend_loop ?_
    rw [Around.under_plainId PySem.F.plain_extend_loop _]
    show wpAny _ A1.in1 (pyNext (.ref it) >>= _) _ _ s
    have T : s.heap.IsTupleIter it t i := (I.hok it _ hit).1
    refine wpAny_bind (wpAny_pyNext_tuple_item (items := its.toArray) T (isTuple_of pl) (by rw [List.getElem?_toArray]; exact hu) ?_)
    intro h' T' same
    have ex : ∃ o, h'.get? it = some o := by
      obtain ⟨o, ho, _⟩ := T'
      exact ⟨o, ho⟩
    have J : Inv X pins σ (upd H it (TitO t it (i + 1))) { s with heap := h' } :=
      I.write (t' := s.toks) (x := it) (e := it) (by rw [hit]; exact True.intro) (.inl rfl) (fun b u hb hu => (same.2 b hb).trans hu) ex (tit_ok T')
    have hq' : upd H it (TitO t it (i + 1)) q = some (.lst (ys.take i)) := by rw [upd_ne hqi]; exact hq
    obtain ⟨z, its2, n2, r2, hl2, e2⟩ := J.lstM hq'
    have l2 : its2.length ≤ i := by rw [← hl2, List.length_take]; omega
    show wpAny _ A1.in1 (updateSeq q (·.push u) >>= _) _ _ _
    refine wpAny_bind (wpAny_updateSeq e2 rfl (wpAny_pure ⟨plainId_quiet PySem.F.plain_extend_loop _, ?_⟩) (by rw [List.size_toArray]; omega) (by show (its2.toArray.push u).size ≤ sizeLine + 1; rw [Array.size_push, List.size_toArray]; omega))
    have tk : ys.take (i + 1) = ys.take i ++ [ys[i]] := take_one hlt
    have J2 := J.lset (f := (·.push u)) (its' := its2 ++ [u]) (ys := ys.take i ++ [ys[i]]) (t' := s.toks) hq' e2 (List.push_toArray its2 u) (r2.append (.cons ru .nil)) (by rw [List.length_append, List.length_singleton, List.length_take]; omega)
    refine ih (i + 1) _ _ (by omega) J2 ?_ ?_ (by rw [tk, upd_same])
    · intro b o h1 h2 e
      rw [upd_ne h1, upd_ne h2]
      exact hB b o h1 h2 e
    · rw [upd_ne hqi.symm, upd_same]

/-- the list's room is made -/
theorem touched {q : Addr} {A : Around} {R : Unit → Shared → Prop} {E : Value → Shared → Prop} (I : Inv X pins σ H s) (hq : H q = some (.lst []))
    (h : ∀ s', Inv X pins σ H s' → R () s') : wpAny (model X.prog X.w) A (Builtin.List.listTouch (.ref q)) R E s := by
  obtain ⟨z, its, k, r3, hl3, e3⟩ := I.lstM hq
  cases r3
  show wpAny _ _ (updateSeq q (·.push .none) >>= fun _ => updateSeq q (·.pop)) _ _ _
  refine wpAny_bind (wpAny_updateSeq e3 rfl ?_)
  have I2 := I.lset (f := (·.push Value.none)) (its' := [Value.none]) (ys := [.non]) (t' := s.toks) hq e3 (by simp) (.cons rfl .nil) (by rw [List.length_singleton, sizeLine_eq]; decide)
  obtain ⟨z4, its4, k4, r4, hl4, e4⟩ := I2.lstM upd_same
  obtain ⟨u4, rfl, ru4⟩ := r4.one
  refine wpAny_updateSeq e4 rfl ?_ (by show 1 ≤ sizeLine; rw [sizeLine_eq]; decide) (by show 0 ≤ sizeLine + 1; exact Nat.zero_le _)
  have I3 := I2.lset (f := (·.pop)) (its := [u4]) (its' := []) (ys := []) (t' := s.toks) upd_same e4 (by rfl) .nil (Nat.zero_le _)
  rw [upd_upd] at I3
  have hH : upd H q (.lst []) = H := by
    funext b
    by_cases hb : b = q
    · rw [hb, upd_same, hq]
    · rw [upd_ne hb]
  rw [hH] at I3
  exact h _ I3

/-- a class whose instances hand on a tuple's iterator, and have a length -/
structure ItT (K : PySem.W.Frag) (C fi fl : Addr) : Prop where
  it : Meth K C "__iter__" fi
  ln : Meth K C "__len__" fl
/-- what its __iter__ promises: an iterator of the tuple that R tells; what its __len__ promises -/
def spIt (K : PySem.W.Frag) (R : Addr → Addr → List V → Hp → Prop) : Sp := fun vs H Q _ => ∃ a t ys, vs = [.ref a] ∧ R a t ys H ∧ SqT K H t ys ∧ ∀ it, H it = none → Q (.ref it) (upd H it (TitO t it 0))
def spLn (R : Addr → Addr → List V → Hp → Prop) : Sp := fun vs H Q _ => ∃ a t ys, vs = [.ref a] ∧ R a t ys H ∧ Q (.int (ys.length : Int)) H
/-- list(o) -/
def rListO (K : PySem.W.Frag) (C : Addr) (R : Addr → Addr → List V → Hp → Prop) : List V → Hp → VK → Prop := fun xs H Q =>
  ∃ a dx fs t ys, xs = [.ref a] ∧ H a = some (.ins C dx fs) ∧ (∀ H', (∀ b o, H b = some o → H' b = some o) → R a t ys H') ∧ SqT K H t ys ∧ ys.length < sizeLine ∧
    ∀ q H', (∀ b o, H b = some o → H' b = some o) → H q = none → H' q = some (.lst ys) → Q (.ref q) H'
theorem call_listO {C fi fl : Addr} {k : Nat} {fdI fdL : FuncData} {psI psL : List Str} {R : Addr → Addr → List V → Hp → Prop} (hc : ItT X.K C fi fl)
    (FI : FnOk X.prog X.w X.K X.mg X.base CX0 k fi fdI psI (spIt X.K R)) (bI : Binds X.K fdI psI []) (FL : FnOk X.prog X.w X.K X.mg X.base CX0 k fl fdL psL (spLn R)) (bL : Binds X.K fdL psL [])
    (hr : Room (k + 5) X.A) : CallR X (.type "list") (rListO X.K C R) := by
  intro pins s σ H xs us Q I rv h
  obtain ⟨a, dx, fs, t, ys, rfl, ha, hR, ht, hlen, hq⟩ := h
  obtain ⟨u, rfl, ru⟩ := rv.one
  cases ru
  have rm2 : Room (k + 3) X.A.in1.in1 := (hr.in1).in1
  have sb : Sub X (k + 3) X.A.in1.in1 := Sub.in1 (Sub.in1 (⟨hr, rfl⟩ : Sub X (k + 5) X.A))
  refine callType_codes (Q₁ := fun obj s₁ => obj = .ref s.heap.objs.size ∧ s₁ = { s with heap := s.heap.push { cls := .type "list", data := .seq #[] } }) PySem.F.called_list (PySem.F.typeCall_list_1 _) PySem.F.entry_list_init
    (code_list_new _ ⟨rfl, rfl⟩) ?_
  intro obj s₁ h₁
  obtain ⟨rfl, rfl⟩ := h₁
  have hS : (s.heap.push { cls := .type "list", data := .seq #[] }).get? s.heap.objs.size = some { cls := .type "list", data := .seq #[] } := Heap.get?_push_size _ rfl
  refine ⟨⟨_, hS, rfl⟩, PySem.F.args_list_init_2 _ _, ?_⟩
  have fr : H s.heap.objs.size = none := I.hok.fresh (Nat.le_refl _)
  have I1 : Inv X pins σ (upd H s.heap.objs.size (.lst [])) { s with heap := s.heap.push { cls := .type "list", data := .seq #[] } } := I.lnew (its := []) (t' := s.toks) .nil (Nat.zero_le _)
  generalize hqq : s.heap.objs.size = q at *
  show wpAny _ _ (do let old ← Builtin.List.listItems (.ref q); Builtin.List.listUpdate (.ref q) (fun _ => #[]); letGo old.toList.reverse; Builtin.List.listExtendWith (.ref q) (.ref a) .none) _ _ _
  refine wpAny_bind ?_
  unfold Builtin.List.listItems
  refine wpAny_bind (wpAny_seqItems hS rfl (wpAny_pure ?_))
  show wpAny _ _ (updateSeq q (fun _ => #[]) >>= fun _ => letGo (#[] : Array Value).toList.reverse >>= fun _ => Builtin.List.listExtendWith (.ref q) (.ref a) .none) _ _ _
  refine wpAny_bind (wpAny_updateSeq hS rfl ?_)
  have I2 := I1.lset (f := fun _ => #[]) (its := []) (its' := []) (ys := []) (t' := s.toks) upd_same hS rfl .nil (Nat.zero_le _)
  rw [upd_upd] at I2
  refine wpAny_bind (wpAny_letGo ?_)
  have H2ext : ∀ b o, H b = some o → upd H q (.lst []) b = some o := fun b o e => by
    rw [upd_ne (ne_of_none e fr)]
    exact e
  have ha2 := H2ext _ _ ha
  have hq2 : upd H q (.lst []) q = some (.lst []) := upd_same
  have ht2 : SqT X.K (upd H q (.lst [])) t ys := ht.ext H2ext
  generalize hH2 : upd H q (.lst []) = H2 at *
  have hne : q ≠ a := ne_of hq2 ha2 (fun z => nomatch z)
  obtain ⟨od, J⟩ := seen I2 ha2
  obtain ⟨m0, hF⟩ := I2.fr
  unfold Builtin.List.listExtendWith
  refine wpAny_bind (J.type.here ?_)
  have h1 : Builtin.List.listSameRef (.ref q) (.ref a) = false := by simp [Builtin.List.listSameRef, hne]
  have h2 : (Value.ref C == Value.type "list") = false := rfl
  have h3 : (Value.ref C == Value.type "tuple") = false := rfl
  simp only [h1, h2, h3, Bool.or_false, Bool.false_eq_true, if_false]
  refine wpAny_bind (PySem.W.owit_iter hF I2.ok.mod.kin J hc.it.at_ hc.it.fn ?_)
  have e0 : Env0 X.prog X.w X.K X.mg X.base X.A.in1.in1 X.stack _ H2 := I2.env0.in1.in1
  have room : Room k X.A.in1.in1 := rm2.mono (by omega)
  have hspI : spIt X.K R [.ref a] H2 (fun v H' => ∃ it, v = .ref it ∧ H2 it = none ∧ H' = upd H2 it (TitO t it 0)) E0 := ⟨a, t, ys, rfl, hR _ H2ext, ht2, fun it n => ⟨it, rfl, n, rfl⟩⟩
  have hl := FI.len _ _ _ _ hspI
  have r2 : Vals [V.ref a] [Value.ref a] := .cons rfl .nil
  refine wpAny_call (codeAny_mono (FI.run X.A.in1.in1 X.stack _ H2 ⟨[.ref a], []⟩ [.ref a] [.ref a] _ E0 room e0 (by
    have := bI _ [.ref a] I2.kIn (by simpa using hl)
    simpa using this) r2 hspI) ?_)
  intro r s' hq'
  match r, hq' with
  | .error e, hq' => exact hq'.elim
  | .ok .next, hq' => exact False.elim hq'
  | .ok .brk, hq' => exact False.elim hq'
  | .ok .cont, hq' => exact False.elim hq'
  | .ok (.ret u), hq' =>
    obtain ⟨v, H3, I3, rv3, it, rfl, itn, rfl⟩ := I2.after hq'
    cases rv3
    have hit : upd H2 it (TitO t it 0) it = some (TitO t it 0) := upd_same
    have T : s'.heap.IsTupleIter it t 0 := (I3.hok it _ hit).1
    have E3 : ∀ b o, H b = some o → upd H2 it (TitO t it 0) b = some o := fun b o e => by
      rw [upd_ne (ne_of_none (H2ext _ _ e) itn)]
      exact H2ext _ _ e
    have ha3 := E3 _ _ ha
    have hqi : q ≠ it := ne_of_none hq2 itn
    have hq3 : upd H2 it (TitO t it 0) q = some (.lst []) := by
      rw [upd_ne hqi]
      exact hq2
    have ht3 : SqT X.K (upd H2 it (TitO t it 0)) t ys := ht.ext E3
    have hqt : q ≠ t := by
      intro z
      subst z
      rcases ht with (z | ⟨o, z⟩) | ⟨o, its, n, z, hcls, _⟩
      · rw [fr] at z
        cases z
      · rw [fr] at z
        cases z
      · obtain ⟨_, its2, n2, _, _, e2⟩ := I2.lstM hq2
        have e3 := I2.kIn _ _ z
        rw [e2] at e3
        cases (Option.some.inj e3)
        exact absurd (Value.type.inj hcls) (by decide)
    have hti : t ≠ it := by
      intro z
      subst z
      rcases ht2 with (z | ⟨o, z⟩) | ⟨o, its, n, z, hcls, _⟩
      · rw [itn] at z
        cases z
      · rw [itn] at z
        cases z
      · obtain ⟨o2, e2, c2, _⟩ := T
        have e3 := I3.kIn _ _ z
        rw [e2] at e3
        cases (Option.some.inj e3)
        rw [c2] at hcls
        exact absurd (Value.type.inj hcls) (by decide)
    refine wpAny_specialOf (Heap.IsTupleIter.typeIs T) PySem.F.slot_tuple_iterator_next.lookup ?_
    have loop : ∀ s4, Inv X pins σ (upd H2 it (TitO t it 0)) s4 → codeAny (model X.prog X.w) X.A.in1 (.builtin "list.extend.loop" ⟨[.ref q, .ref it, .none], []⟩)
        (wants (fun r s₂ => r = Value.none ∧ EP X pins σ Q (Value.ref q) s₂) X.xe) s4 := by
      intro s4 I4
      refine drain (A1 := X.A.in1) rm2.hd hqi hqt hti (upd H2 it (TitO t it 0)) hlen ht3 ?_ ys.length 0 _ s4 rfl I4 (fun b o _ _ e => e) hit (by rw [List.take_zero]; exact hq3)
      intro H' s5 I5 hB5 hq5 _
      refine ⟨rfl, .ref q, H', I5, rfl, hq q H' ?_ fr hq5⟩
      intro b o e
      have nq : b ≠ q := ne_of_none e fr
      have ni : b ≠ it := ne_of_none (H2ext _ _ e) itn
      exact hB5 b o nq ni (E3 _ _ e)
    have fin : ∀ s4, Inv X pins σ (upd H2 it (TitO t it 0)) s4 → wpAny (model X.prog X.w) X.A.in1.in1 (again (.builtin "list.extend.loop" ⟨[.ref q, .ref it, .none], []⟩))
        (fun fin s' => match fin with | .done f => wants (fun r s₂ => r = Value.none ∧ EP X pins σ Q (Value.ref q) s₂) X.xe (.ok f) s' | .again c' => c'.quiet = true ∧ codeAny (model X.prog X.w) X.A.in1 c' (wants (fun r s₂ => r = Value.none ∧ EP X pins σ Q (Value.ref q) s₂) X.xe) s')
        (fun e s' => wants (fun r s₂ => r = Value.none ∧ EP X pins σ Q (Value.ref q) s₂) X.xe (.error e) s') s4 := by
      intro s4 I4
      exact wpAny_pure ⟨plainId_quiet PySem.F.plain_extend_loop _, loop s4 I4⟩
    refine wpAny_bind (wpAny_holding ?_)
    obtain ⟨od3, J3⟩ := seen I3 ha3
    obtain ⟨m3, hF3⟩ := I3.fr
    unfold Builtin.List.listLengthHint
    refine wpAny_bind (wpAny_bind (J3.type.here ((PySem.W.looks_findIn I3.kIn hc.ln.at_).here ?_)))
    refine PySem.W.KFB.if_not rfl ?_
    refine PySem.W.KFB.if_so rfl ?_
    refine wpAny_bind (wpAny_rule ?_)
    refine wpAny_bind (m := (call (.builtin "len") [Value.ref a]).attempt) (wpAny_attempt ?_)
    refine PySem.W.len_K hF3 I3.ok.mod.kin J3 hc.ln.at_ hc.ln.fn ?_
    have hspL : spLn R [.ref a] (upd H2 it (TitO t it 0)) (fun v H' => v = .int (ys.length : Int) ∧ H' = upd H2 it (TitO t it 0)) E0 := ⟨a, t, ys, rfl, hR _ E3, rfl, rfl⟩
    have hlL := FL.len _ _ _ _ hspL
    refine wpAny_call (codeAny_mono (FL.run X.A.in1.in1.in1 X.stack _ _ ⟨[.ref a], []⟩ [.ref a] [.ref a] _ E0 (rm2.in1.mono (by omega)) I3.env0.in1.in1.in1 (by
      have := bL _ [.ref a] I3.kIn (by simpa using hlL)
      simpa using this) r2 hspL) ?_)
    intro r4 s4 hq4
    match r4, hq4 with
    | .error e, hq4 => exact hq4.elim
    | .ok .next, hq4 => exact False.elim hq4
    | .ok .brk, hq4 => exact False.elim hq4
    | .ok .cont, hq4 => exact False.elim hq4
    | .ok (.ret u4), hq4 =>
      obtain ⟨v4, H4, I4, rv4, rfl, rfl⟩ := I3.after hq4
      obtain ⟨tk4, rfl⟩ := rv4
      have l63 := line63
      refine ⟨⟨Int.natCast_nonneg _, by omega⟩, ?_⟩
      show wpAny _ _ (asInt? (Value.int (ys.length : Int) s4.toks) >>= _) _ _ _
      refine wpAny_bind (wpAny_pure ?_)
      show wpAny _ _ (if Builtin.List.listTooLong (ys.length : Int).toNat = true then _ else _) _ _ _
      rw [if_neg (by rw [Int.toNat_natCast, notLongL (Nat.le_of_lt hlen)]; exact Bool.false_ne_true)]
      refine wpAny_pure ?_
      have I5 := I4.tok (s4.toks + 1)
      refine wpAny_ite_split (fun _ => ?_) (fun _ => fin _ I5)
      exact wpAny_bind (wpAny_rule (wpAny_bind (touched I5 hq3 fin)))
end
end Gd

set_option Elab.async false
set_option linter.all false
set_option maxRecDepth 100000
set_option maxHeartbeats 4000000
/-! bool(o) and != of own classes. -/
namespace PySem
section
variable {prog : Program} {w : World} {A : Around} {E : Value → Shared → Prop} {s : Shared}
theorem bool_new_any (x : Value) : MeetsIn prog w (Builtin.«bool.__new__» ⟨[.type "bool", x], []⟩) (fun A R s =>
    wpAny (model prog w) A.in1 (truthy x) (fun b s' => R (.ok (.ret (.bool b))) s') (fun e s' => R (.error e) s') s) := by
  intro A R s h
  have f1 := F.conv_sub_bool
  unfold Builtin.«bool.__new__»
  refine wpAny_bind (wpAny_of_eq (a := true) (by first | rfl | kernel_rfl) ?_)
  refine PySem.W.KFB.if_not rfl ?_
  refine wpAny_bind (wpAny_of_eq f1 ?_)
  refine PySem.W.KFB.if_not rfl ?_
  refine wpAny_bind (m := someArgs "bool" 0 1 _) (wpAny_of_eq (a := [x]) (by first | rfl | kernel_rfl!) ?_)
  refine wpAny_bind (wpAny_mono h (fun b s' q => ?_) fun _ _ z => z)
  exact wpAny_pure q
theorem call_bool_any {x : Value} {Q : Value → Shared → Prop}
    (h : wpAny (model prog w) A.in1.in1 (truthy x) (fun b s' => Q (.bool b) s') E s) : wpAny (model prog w) A (call (.type "bool") [x]) Q E s := by
  refine callType_newIn F.called_bool F.newNe_bool (F.typeCall_bool_1 x) (F.newCall_bool_1 x) (fun obj => F.args_object_init_2 obj x) F.entry_bool_new (bool_new_any x) ?_
  exact wpAny_mono h (fun b s' q => ⟨rfl, q⟩) fun _ _ z => z
end
end PySem

namespace HN2
open PySem PySem.Spec PyProof.Rows PySem.SeqAt
section
variable {prog : Program} {w : World} {A : Around} {E : Value → Shared → Prop} {s : Shared} {K : PySem.W.Frag} {x C f : Addr} {ox : Obj} {od : Option Obj} {y : Value}
theorem ne_entry (hu : A.units < cLine) (X : K.In s.heap) (I : PySem.W.InstAt s.heap x ox C od) (hs : PySem.W.findIn K (.ref C) "__eq__" = some (some (.ref f))) (hf : PySem.W.isFn K (.ref f) = true) {Q : Fin → Shared → Prop}
    (h : wpAny (model prog w) A (call (.ref f) [.ref x, y]) (fun v s' => ∃ b, v = .bool b ∧ Q (.done (.ret (.bool (!b)))) s') E s) :
    wpAny (model prog w) A (Builtin.«object.__ne__» ⟨[.ref x, y], []⟩) Q E s := by
  unfold Builtin.«object.__ne__»
  refine wpAny_bind (m := slotArgs "__ne__" 1 _) (wpAny_of_eq (a := (Value.ref x, [y])) (by first | rfl | kernel_rfl!) ?_)
  refine wpAny_bind (wpAny_cRoomFor hu ?_)
  refine wpAny_bind (m := callSpecialIfBound? (.ref x) (Str.ofString "__eq__") [y]) (PySem.W.ifBound_K X I hs hf (wpAny_mono h (fun v s' z => ?_) fun _ _ z => z))
  obtain ⟨b, rfl, q⟩ := z
  exact wpAny_bind (wpAny_truthy_bool (wpAny_pure q))
theorem ifBound_ne {M : Model} {args : List Value} {Q : Option Value → Shared → Prop} (X : K.In s.heap) (I : PySem.W.InstAt s.heap x ox C od) (hs : PySem.W.findIn K (.ref C) "__ne__" = some (some (.builtin "object.__ne__")))
    (h : wpAny M A (call (.builtin "object.__ne__") (.ref x :: args)) (fun v => Q (some v)) E s) : wpAny M A (callSpecialIfBound? (.ref x) "__ne__" args) Q E s := by
  simp only [callSpecialIfBound?, bindSpecialIfBound?]
  refine wpAny_holding (wpAny_bind (wpAny_bind (wpAny_bind (I.type.here ((PySem.W.looks_findIn X hs).here ?_)))))
  refine wpAny_bind (wpAny_askSetting (wpAny_ite ?_))
  have last : wpAny M A (call (.builtin "object.__ne__") ([.ref x] ++ args) >>= fun v => pure (some v)) Q E s :=
    wpAny_bind (wpAny_mono h (fun v s' h' => wpAny_pure h') fun _ _ h' => h')
  split
  · exact wpAny_bind (wpAny_of_eq (F.cmp_object.ne.bind _) (wpAny_pure (by exact last)))
  · exact wpAny_tryCatch (wpAny_bind (wpAny_of_eq (F.cmp_object.ne.bind _) (wpAny_pure (by exact last))))
theorem rich_ne {tb : Value} {Q : Value → Shared → Prop} (hu : A.units + 1 < cLine) (X : K.In s.heap) (I : PySem.W.InstAt s.heap x ox C od) (hb : PySem.W.Looks (model prog w) s.heap (typeOf y) tb)
    (hn : PySem.W.notFirst K C tb = true) (hne : PySem.W.findIn K (.ref C) "__ne__" = some (some (.builtin "object.__ne__"))) (ho : PySem.W.mroIn K C (.type "object") = some true)
    (hs : PySem.W.findIn K (.ref C) "__eq__" = some (some (.ref f))) (hf : PySem.W.isFn K (.ref f) = true)
    (h : wpAny (model prog w) A.in1 (call (.ref f) [.ref x, y]) (fun v s' => ∃ b, v = .bool b ∧ Q (.bool (!b)) s') E s) :
    wpAny (model prog w) A (richCompare .NotEq (.ref x) y) Q E s := by
  have one : wpAny (model prog w) A (tryCompare (.ref x) "__ne__" y) (fun r s' => ∃ v, r = some v ∧ Q v s') E s := by
    unfold tryCompare
    refine wpAny_bind (ifBound_ne X I hne (wpAny_call (codeAny_call_builtin F.cmp_object.ne.plain F.cmpEntry_ne (PySem.W.check_slot F.cmpKind_ne F.cmpSplit_ne (I.type.andThen (PySem.W.looks_mroIn X ho)) (F.cmpArgs_ne _ _)
      (ne_entry (A := A.in1) (by show A.units + 1 < cLine; exact hu) X I hs hf (wpAny_mono h (fun v s' z => ?_) fun _ _ z => z))))))
    obtain ⟨b, rfl, q⟩ := z
    exact ⟨b, rfl, wpAny_pure ⟨_, rfl, q⟩⟩
  unfold richCompare
  simp only [oneThing_ref]
  refine wpAny_holding (wpAny_bind (wpAny_cRoomFor (Nat.lt_of_succ_lt hu) ?_))
  rw [cmpInfo_NotEq]
  dsimp only
  refine wpAny_bind (I.type.here (wpAny_bind (hb.here ?_)))
  split
  · rename_i q
    have e : PySem.W.subIn K tb (.ref C) = some false := by
      rcases Bool.or_eq_true_iff.mp hn with e | e
      · rw [beq_iff_eq.mp e] at q
        simp at q
      · exact beq_iff_eq.mp e
    refine wpAny_bind ((PySem.W.looks_subIn X e).here ?_)
    simp only [Bool.false_eq_true, if_false]
    refine wpAny_bind (m := tryCompare (.ref x) _ y) (wpAny_mono one (fun r s' z => ?_) fun _ _ e => e)
    obtain ⟨v, rfl, hq⟩ := z
    exact wpAny_pure hq
  · refine wpAny_bind (wpAny_pure ?_)
    simp only [Bool.false_eq_true, if_false]
    refine wpAny_bind (m := tryCompare (.ref x) _ y) (wpAny_mono one (fun r s' z => ?_) fun _ _ e => e)
    obtain ⟨v, rfl, hq⟩ := z
    exact wpAny_pure hq
end
end HN2

namespace Gd
open PySem PySem.Spec PyProof.Rows L2
section
variable {X : Cx} {CX : CXT} {k : Nat} {f C : Addr} {fd : FuncData} {ps : List Str} {sp : Sp}
/-- what != of a class with an own == asks of the class -/
structure NeC (K : PySem.W.Frag) (C : Addr) : Prop where
  ne : PySem.W.findIn K (.ref C) "__ne__" = some (some (.builtin "object.__ne__"))
  ob : PySem.W.mroIn K C (.type "object") = some true
def rNeO (K : PySem.W.Frag) (C : Addr) (sp : Sp) (E : XK) : R2 := fun x y H Q => ∃ p dx fs t, x = .ref p ∧ H p = some (.ins C dx fs) ∧
  TyX K H y t ∧ PySem.W.notFirst K C t = true ∧ sp [x, y] H (fun v H' => ∃ c, v = .bl c ∧ Q (.bl (!c)) H') E
theorem op_neO {E : XK} (hn : NeC X.K C) (hm : Meth X.K C "__eq__" f) (F : FnOk X.prog X.w X.K X.mg X.base CX k f fd ps sp) (hr : Room (k + 1) X.A)
    (hb : Binds X.K fd ps []) (hx : ∀ σ, PassesAt CX X σ E) : OpR X (compareOp .NotEq) (rNeO X.K C sp E) := by
  intro pins s σ H x y v u Q I rx ry h
  obtain ⟨p, dx, fs, t, rfl, ep, ty, hnf, hsp⟩ := h
  cases rx
  obtain ⟨od, J⟩ := seen I ep
  obtain ⟨P, Z, hP, _⟩ := kit_of I ry ty
  show wpAny _ _ (richCompare .NotEq _ _) _ _ _
  refine HN2.rich_ne (hu_of hr) I.kIn J (Z.ty _ _ I.kIn hP) hnf hn.ne hn.ob hm.at_ hm.fn ?_
  refine wpAny_mono (runAt (.inr rfl) F hr hb .nil (hx σ) I (.cons (show RelV (V.ref p) (Value.ref p) from rfl) (.cons ry .nil)) hsp) ?_ (fun _ _ z => z)
  rintro w s' ⟨z, H', I', rz, c, rfl, q⟩
  cases rz
  exact ⟨c, rfl, .bl (!c), H', I', rfl, q⟩
/-- bool(o) -/
def rBoolO (C : Addr) (sp : Sp) (E : XK) : List V → Hp → VK → Prop := fun xs H Q => ∃ p dx fs, xs = [.ref p] ∧ H p = some (.ins C dx fs) ∧
  sp [.ref p] H (fun v H' => ∃ c, v = .bl c ∧ Q (.bl c) H') E
theorem call_boolO {E : XK} (hm : Meth X.K C "__bool__" f) (F : FnOk X.prog X.w X.K X.mg X.base CX k f fd ps sp) (hr : Room (k + 2) X.A)
    (hb : Binds X.K fd ps []) (hx : ∀ σ, PassesAt CX X σ E) : CallR X (.type "bool") (rBoolO C sp E) := by
  intro pins s σ H xs us Q I r h
  obtain ⟨p, dx, fs, rfl, ep, hsp⟩ := h
  obtain ⟨u, rfl, hu1⟩ := vals1 r
  cases hu1
  obtain ⟨od, J⟩ := seen I ep
  obtain ⟨m, hF⟩ := I.fr
  refine call_bool_any (PySem.W.truthy_K hF I.ok.mod.kin J hm.at_ hm.fn ?_)
  have hl := F.len _ _ _ _ hsp
  refine wpAny_call (codeAny_mono (F.run X.A.in1.in1 X.stack s H ⟨[.ref p], []⟩ [.ref p] [.ref p] _ E hr.in1.in1 I.env0.in1.in1 (by
    have := hb s [.ref p] I.kIn (by simpa using hl)
    simpa using this) (.cons (show RelV (V.ref p) (Value.ref p) from rfl) .nil) hsp) ?_)
  intro r s' hq
  match r, hq with
  | .error e, hq => exact hx σ pins H s e s' I hq
  | .ok .next, hq => exact False.elim hq
  | .ok .brk, hq => exact False.elim hq
  | .ok .cont, hq => exact False.elim hq
  | .ok (.ret u), hq =>
    obtain ⟨v, H', I', rv, c, rfl, q⟩ := I.after hq
    cases rv
    exact ⟨.bl c, H', I', rfl, q⟩
end
end Gd

set_option Elab.async false
set_option linter.all false
set_option maxRecDepth 100000
set_option maxHeartbeats 4000000
/-! enumerate(a tuple). -/
namespace HN4
open PySem PySem.Spec PyProof.Rows PySem.SeqAt
theorem meets_enum1 {v : Value} {o : Obj} {G : Heap → Prop} (B : Begins v o G) : Meets (Builtin.«enumerate.__new__» ⟨[.type "enumerate", v], []⟩) (fun _ R s => G s.heap ∧
    R (.ok (.ret (.ref (s.heap.push o).objs.size))) { s with heap := (s.heap.push o).push { cls := .type "enumerate", data := .fields #[.none, .bool false, .ref s.heap.objs.size, rawInt 0, .none, .none] } }) := by
  refine .of_wp fun prog w A R ⟨hp, g, d, tk, os⟩ hh => ?_
  obtain ⟨h1, h⟩ := hh
  have sb := sub_enumerate
  have it : ∀ {A' : Around} {E : Value → Shared → Prop} {Q : Value → Shared → Prop}, Q (.ref hp.objs.size) ⟨hp.push o, g, d, tk, os⟩ → wpAny (model prog w) A' (pyIter v) Q E ⟨hp, g, d, tk, os⟩ := fun q => B.iter prog w _ _ ⟨hp, g, d, tk, os⟩ _ h1 q
  wp_walk using it
  refine wpAny_stack_any fun st => wpAny_pure ?_
  split
  · rename_i c _ _ _ _ _
    cases (c == Value.type "enumerate") <;> (wp_walk using it; exact ⟨_, rfl, h⟩)
  · wp_walk using it
    exact ⟨_, rfl, h⟩
theorem begins_tup (t : Addr) (items : Array Value) : Begins (.ref t) { cls := .type "tuple_iterator", data := .fields #[.ref t, .int 0 0] } (fun h => h.IsTuple t items) where
  iter := fun prog w A E s Q ht hq => wpAny_pyIter_tuple ht hq
  keeps := fun h h' ht k => ht.at fun o e => k _ _ e
  free := rfl
section
variable {prog : Program} {w : World} {A : Around} {E : Value → Shared → Prop} {s : Shared}
theorem call_enumT {t : Addr} {items : Array Value} {Q : Value → Shared → Prop} (ht : s.heap.IsTuple t items)
    (h : ∀ h', IsEnum h' (s.heap.objs.size + 1) s.heap.objs.size 0 .none → h'.IsTupleIter s.heap.objs.size t 0 → (∀ b o, s.heap.get? b = some o → h'.get? b = some o) → Q (.ref (s.heap.objs.size + 1)) { s with heap := h' }) :
    wpAny (model prog w) A (call (.type "enumerate") [.ref t]) Q E s := by
  let o1 : Obj := { cls := .type "tuple_iterator", data := .fields #[.ref t, .int 0 0] }
  let o2 : Obj := { cls := .type "enumerate", data := .fields #[.none, .bool false, .ref s.heap.objs.size, rawInt 0, .none, .none] }
  have e1 : (s.heap.push o1).objs.size = s.heap.objs.size + 1 := Heap.size_push ..
  have e2 : ((s.heap.push o1).push o2).get? (s.heap.objs.size + 1) = some o2 := by
    have q := Heap.get?_push_size (s.heap.push o1) (o := o2) rfl
    rw [e1] at q
    exact q
  refine callType_new F.called_enumerate (by decide) (F.typeCall_enumerate_1 _) (F.newCall_enumerate_1 _) (fun obj => F.args_object_init_2 obj _) F.entry_enumerate_new (meets_enum1 (begins_tup t items)) ⟨ht, ?_⟩
  show _ ∧ _
  rw [e1]
  exact ⟨⟨_, e2, rfl⟩, h _ e2 ⟨_, Heap.get?_push_of_some _ (Heap.get?_push_size _ rfl), rfl, rfl⟩ fun b ob x => Heap.get?_push_of_some _ (Heap.get?_push_of_some _ x)⟩
end
end HN4
namespace Gd
open PySem PySem.Spec PyProof.Rows L2
/-- a tuple walked with its places: at each turn a new pair -/
def IteT (K : PySem.W.Frag) (t : Addr) : It where
  go := fun i H => ∃ (xs : List V) (x : V), SqT K H t xs ∧ xs[i]? = some x
  yld := fun i H v H' => ∃ T x, v = .ref T ∧ H T = none ∧ H' = upd H T (.tup [.int (i : Nat), x]) ∧ ∀ xs, SqT K H t xs → xs[i]? = some x
  stop := fun i H => ∃ xs : List V, SqT K H t xs ∧ xs.length = i
theorem tit_apart {h : Heap} {t it : Addr} {i : Nat} {items : Array Value} (a : h.IsTupleIter it t i) (b : h.IsTuple t items) : t ≠ it := by
  intro z
  subst z
  obtain ⟨o1, g1, c1, _⟩ := a
  obtain ⟨o2, g2, c2, _⟩ := b
  rw [g1] at g2
  cases g2
  rw [c1] at c2
  exact absurd c2 (by decide)
theorem enum_apart {h : Heap} {e it t : Addr} {k : Int} {old : Value} {items : Array Value} (a : IsEnum h e it k old) (b : h.IsTuple t items) : e ≠ t := by
  intro z
  subst z
  obtain ⟨o2, g2, c2, _⟩ := b
  have g1 : h.get? e = some _ := a
  rw [g1] at g2
  cases g2
  exact absurd c2 (by simp)
theorem turn_enumT {P : Program} {w : World} {K : PySem.W.Frag} {elts : List Expr} {kk : Nat} {tpos : Pos} (t e it : Addr) :
    Turn P w K (.Tuple elts kk tpos) (IteT K t) [e, it] e (fun i h => (∃ old, IsEnum h e it ((i : Nat) : Int) old) ∧ h.IsTupleIter it t i ∧ e ≠ it) where
  mem := List.mem_cons_self
  obj := by
    rintro i h ⟨⟨old, he⟩, ⟨o, ho, hc, hd⟩, _⟩ b hb
    rcases List.mem_cons.mp hb with rfl | hb
    · exact ⟨_, he, fun v q => nomatch q⟩
    · rw [List.mem_singleton.mp hb]
      refine ⟨o, ho, fun v q => ?_⟩
      rw [hd] at q
      cases q
  keep := by
    rintro i h h' ⟨⟨old, he⟩, hi, ne⟩ k
    exact ⟨⟨old, k e List.mem_cons_self _ he⟩, hi.at fun o q => k it (List.mem_cons_of_mem _ List.mem_cons_self) o q, ne⟩
  item := by
    intro X hP hw hK hc i pins s σ H E I hf st hg
    subst hP hw hK
    obtain ⟨⟨old, he⟩, hit, ne⟩ := st
    obtain ⟨xs, x, hq, hx⟩ := hg
    obtain ⟨its, rv, p, hz⟩ := I.tuple hq
    have pt := isTuple_of p
    obtain ⟨u, hu, ru⟩ := rv.get hx
    have a1 := tit_apart hit pt
    have a2 := enum_apart he pt
    have le : e < s.heap.objs.size := Heap.lt_size he
    have li : it < s.heap.objs.size := by
      obtain ⟨_, q, _⟩ := hit
      exact Heap.lt_size q
    have hlt : i < its.toArray.size := by
      rcases Nat.lt_or_ge i its.toArray.size with z | z
      · exact z
      · rw [List.getElem?_eq_none_iff.mpr (by simpa using z)] at hu
        cases hu
    refine wpAny_pyNext_enum_itemD (Draws.tuple (show X.A.in1.handled = none from I.ok.hd hc) it t a1 its.toArray) he ⟨hit, pt⟩ hlt ne (by simp [ne, a2]) fun y h1 tk hy ho st1 hT hsz hk => ?_
    obtain rfl : y = u := by
      rw [List.getElem?_toArray, hu] at hy
      exact (Option.some.inj hy).symm
    refine ⟨_, rfl, wpAny_letOwnedTupleGo_enum (s := { s with heap := h1, toks := tk + 1 }) ho fun h2 he2 sb => ?_⟩
    have hT2 : h2.get? s.heap.objs.size = some { cls := .type "tuple", data := .seq #[.int i tk, y] } := (sb.2 _ (Nat.ne_of_gt le)).trans hT
    have new : ObjOk X.prog X.w (upd H s.heap.objs.size (.tup [.int (i : Nat), x])) h2 s.heap.objs.size (.tup [.int (i : Nat), x]) :=
      ⟨by show 2 ≤ sizeLine; decide, [.int i tk, y], .cons ⟨_, rfl⟩ (.cons ru .nil), ⟨_, hT2, rfl, _, rfl⟩⟩
    have I1 : Inv X pins σ (upd H s.heap.objs.size (.tup [.int (i : Nat), x])) { s with heap := h2, toks := tk + 1 } :=
      I.turnedNew (ch := [e, it]) (fun b ob hb q => (sb.2 b (fun z => hb (by simp [z]))).trans (hk b ob (fun z => hb (by simp [z])) (fun z => hb (by simp [z])) q)) hf (Nat.le_refl _) new
    refine ⟨.ref s.heap.objs.size, _, I1, rfl, ⟨_, x, rfl, I.hok.fresh (Nat.le_refl _), rfl, fun ys hy => ?_⟩, ⟨⟨y, ?_⟩, st1.1.at fun o q => (sb.2 it (Ne.symm ne)).trans q, ne⟩, fun b hb => ?_⟩
    · rw [I.tuple_inj hy hq]
      exact hx
    · rw [show ((i + 1 : Nat) : Int) = (i : Int) + 1 by omega]
      exact he2
    · have lb : b < s.heap.objs.size := by
        rcases List.mem_cons.mp hb with rfl | hb
        · exact le
        · rw [List.mem_singleton.mp hb]
          exact li
      rw [upd_ne (Nat.ne_of_lt lb)]
      exact (hf b hb).1
  done := by
    intro X hP hw hK hc i pins s σ H E I hf st hg
    subst hP hw hK
    obtain ⟨⟨old, he⟩, hit, ne⟩ := st
    obtain ⟨xs, hq, hx⟩ := hg
    obtain ⟨its, rv, p, hz⟩ := I.tuple hq
    have pt := isTuple_of p
    obtain ⟨f0, f1, f2, f3, f4, f5⟩ := hf it (by simp)
    have n : i = its.toArray.size := by
      rw [List.size_toArray, ← rv.length]
      exact hx.symm
    subst n
    exact wpAny_pyNext_enum_endD (Draws.tuple (show X.A.in1.handled = none from I.ok.hd hc) it t (tit_apart hit pt) its.toArray) he ⟨hit, pt⟩ fun h1 eb => ⟨rfl, I.turned (t' := s.toks) (fun b o hb q => eb b o hb q) f0 f1 f3 f4 f5⟩
  self := fun A i s Q E st h => let ⟨⟨_, he⟩, _⟩ := st; wpAny_pyIter_enum he h
theorem call_of_enum {X : Cx} {elts : List Expr} {kk : Nat} {tpos : Pos} {pins : List (Addr × Obj)} {σ : L2.St} {H : Hp} {s : Shared} {R : It → Hp → Prop} {t : Addr} {items : Array Value} (I : Inv X pins σ H s) (pl : IsTup s.heap t items) (q : R (IteT X.K t) H) :
    wpAny (model X.prog X.w) X.A (call (.type "enumerate") [.ref t]) (fun v s2 => wpAny (model X.prog X.w) X.A (pyIter v) (PIE X pins σ (.Tuple elts kk tpos) R) X.xe s2) X.xe s := by
  refine HN4.call_enumT (isTuple_of pl) fun h1 he hit hk => wpAny_pyIter_enum he ?_
  refine ⟨s.heap.objs.size + 1, [s.heap.objs.size + 1, s.heap.objs.size], _, _, H, rfl, I.kept (t' := s.toks) hk, turn_enumT t _ _, ⟨⟨.none, he⟩, hit, Nat.succ_ne_self _⟩, fun b hb => ?_, q⟩
  have hle : s.heap.objs.size ≤ b := by
    rcases List.mem_cons.mp hb with rfl | hb
    · exact Nat.le_add_right _ _
    · rw [List.mem_singleton.mp hb]
      exact Nat.le_refl _
  exact I.fpOk hle (I.hok.fresh hle)
def iEnumT (K : PySem.W.Frag) (ta : TA) : TI := fun σ H R => ta σ H fun vs H1 => ∃ t xs, vs = [.ref t] ∧ SqT K H1 t xs ∧ R (IteT K t) H1
theorem pi_enumT {X : Cx} {e : Expr} {ta : TA} {p pos tpos : Pos} {elts : List Expr} {kk : Nat} (hg : Gl X "enumerate") (hm : X.mg "enumerate" = none) (ha : PA X [e] ta) (hs : starEach [e] X.env = [(false, eval e X.env)] := by rfl) :
    PI X (.Tuple elts kk tpos) (.Call (.Name "enumerate" p) [e] [] pos) (iEnumT X.K ta) := by
  constructor
  intro pins s σ H R I h
  refine Call_ (ld_blt I hg hm boot_enumerate (PyProof.Rows.callWith_type1 (thn (ha.run pos pins s σ H _ I h) fun us s1 ⟨vs, H1, I1, r1, t, xs, ex, hq, q⟩ => ?_) hs rfl))
  subst ex
  obtain rfl := Vals.ref1 r1
  obtain ⟨its, rv, pl, hz⟩ := I1.tuple hq
  refine call_of_enum I1 pl q
/-- a loop over the pairs of a tuple -/
theorem for_enumT {K : PySem.W.Frag} {t : Addr} {xs : List V} {g : TG} {tb : TS} {D : Ends} {σ : L2.St} {H : Hp} (Pv : Nat → L2.St → Hp → Prop) (h0 : Pv 0 σ H) (hl : ∀ i σ H, i ≤ xs.length → Pv i σ H → SqT K H t xs)
    (hs : ∀ i x σ H T, xs[i]? = some x → Pv i σ H → H T = none → g (.ref T) σ (upd H T (.tup [.int (i : Nat), x])) fun σ2 H2 => tb { D with nx := Pv (i + 1), ct := Pv (i + 1), bk := D.nx } σ2 H2) (hd : ∀ σ H, Pv xs.length σ H → D.nx σ H) :
    ∃ W : Nat → Nat → L2.St → Hp → Prop, (∃ m, W 0 m σ H) ∧ ∀ i m σ H, W i m σ H →
      ((IteT K t).stop i H ∧ D.nx σ H) ∨ ((IteT K t).go i H ∧ ∃ N : L2.St → Hp → Prop, (∀ σ' H', N σ' H' → ∃ m', m' < m ∧ W (i + 1) m' σ' H') ∧ ∀ x H', (IteT K t).yld i H x H' → g x σ H' fun σ2 H2 => tb { D with nx := N, ct := N, bk := D.nx } σ2 H2) := by
  refine ⟨fun i m σ H => m = xs.length - i ∧ i ≤ xs.length ∧ Pv i σ H, ⟨xs.length, rfl, Nat.zero_le _, h0⟩, ?_⟩
  rintro i m σ H ⟨rfl, hi, p⟩
  have q := hl i σ H hi p
  rcases Nat.lt_or_ge i xs.length with hlt | hge
  · refine .inr ⟨⟨xs, xs[i], q, List.getElem?_eq_getElem hlt⟩, Pv (i + 1), fun σ' H' p' => ⟨xs.length - (i + 1), by omega, rfl, hlt, p'⟩, ?_⟩
    rintro y H' ⟨T, x, rfl, hT, rfl, hx⟩
    exact hs i x σ H T (hx xs q) p hT
  · have e : i = xs.length := Nat.le_antisymm hi hge
    subst e
    exact .inl ⟨⟨xs, q, rfl⟩, hd σ H p⟩
end Gd

set_option Elab.async false
set_option linter.all false
set_option maxRecDepth 100000
set_option maxHeartbeats 4000000
/-! zip of two sequences, each a list or a tuple. -/
namespace Gd
open PySem PySem.Spec PyProof.Rows L2
/-- a list (true) or a tuple (false) -/
def SqE (K : PySem.W.Frag) (l : Bool) (H : Hp) (a : Addr) (xs : List V) : Prop := match l with
  | true => SqL K H a xs
  | false => SqT K H a xs
def HpE (l : Bool) (h : Heap) (a : Addr) (items : Array Value) : Prop := match l with
  | true => h.IsList a items
  | false => h.IsTuple a items
def ItE (l : Bool) (h : Heap) (it a : Addr) (i : Nat) : Prop := match l with
  | true => h.IsListIter it a i
  | false => h.IsTupleIter it a i
def objE (l : Bool) (a : Addr) : Obj := match l with
  | true => { cls := .type "list_iterator", data := .fields #[.ref a, .int 0 0] }
  | false => { cls := .type "tuple_iterator", data := .fields #[.ref a, .int 0 0] }
section
variable {l : Bool} {h h' : Heap} {a it : Addr} {i : Nat} {items : Array Value}
theorem ItE.at (x : ItE l h it a i) (k : ∀ o, h.get? it = some o → h'.get? it = some o) : ItE l h' it a i := by
  cases l with
  | true => exact Heap.IsListIter.at (show h.IsListIter it a i from x) k
  | false => exact Heap.IsTupleIter.at (show h.IsTupleIter it a i from x) k
theorem ItE.there (x : ItE l h it a i) : ∃ o, h.get? it = some o ∧ ∀ v, o.data ≠ .cell v := by
  cases l with
  | true =>
    obtain ⟨o, g, _, d⟩ := (show h.IsListIter it a i from x)
    exact ⟨o, g, fun v q => by rw [d] at q; cases q⟩
  | false =>
    obtain ⟨o, g, _, d⟩ := (show h.IsTupleIter it a i from x)
    exact ⟨o, g, fun v q => by rw [d] at q; cases q⟩
theorem ItE.apart (x : ItE l h it a i) (y : HpE l h a items) : a ≠ it := by
  intro z
  subst z
  cases l with
  | true =>
    obtain ⟨o1, g1, c1, _⟩ := (show h.IsListIter a a i from x)
    obtain ⟨o2, g2, c2, _⟩ := (show h.IsList a items from y)
    rw [g1] at g2
    cases g2
    rw [c1] at c2
    exact absurd c2 (by simp)
  | false => exact tit_apart (show h.IsTupleIter a a i from x) (show h.IsTuple a items from y) rfl
theorem drawsE {prog : Program} {w : World} {A : Around} (hh : A.handled = none) (ne : a ≠ it) : Draws prog w A it [it, a] items.size (fun i v => items[i]? = some v) (fun i h => ItE l h it a i ∧ HpE l h a items) := by
  cases l with
  | true => exact Draws.list hh it a ne items
  | false => exact Draws.tuple hh it a ne items
theorem beginsE : Begins (.ref a) (objE l a) (fun h => HpE l h a items) := by
  cases l with
  | true => exact begins_list a items
  | false => exact begins_tuple a items
theorem ItE.new (g : h.get? it = some (objE l a)) : ItE l h it a 0 := by
  cases l with
  | true => exact ⟨_, g, rfl, rfl⟩
  | false => exact ⟨_, g, rfl, rfl⟩
end
section
variable {X : Cx} {pins : List (Addr × Obj)} {σ : L2.St} {H : Hp} {s : Shared} {l : Bool} {a : Addr} {xs ys : List V}
theorem seqE (I : Inv X pins σ H s) (h : SqE X.K l H a xs) : ∃ its : List Value, Vals xs its ∧ HpE l s.heap a its.toArray := by
  cases l with
  | true =>
    obtain ⟨its, rv, p, _⟩ := I.list (show SqL X.K H a xs from h)
    exact ⟨its, rv, p.isList⟩
  | false =>
    obtain ⟨its, rv, p, _⟩ := I.tuple (show SqT X.K H a xs from h)
    exact ⟨its, rv, isTuple_of p⟩
theorem injE (I : Inv X pins σ H s) (h1 : SqE X.K l H a xs) (h2 : SqE X.K l H a ys) : xs = ys := by
  cases l with
  | true => exact I.list_inj h1 h2
  | false => exact I.tuple_inj h1 h2
end
/-- both walked together: at each turn a new pair -/
def ItzE (K : PySem.W.Frag) (l1 l2 : Bool) (a b : Addr) : It where
  go := fun i H => ∃ (xs ys : List V) (x y : V), SqE K l1 H a xs ∧ SqE K l2 H b ys ∧ xs[i]? = some x ∧ ys[i]? = some y
  yld := fun i H v H' => ∃ T x y, v = .ref T ∧ H T = none ∧ H' = upd H T (.tup [x, y]) ∧ (∀ xs, SqE K l1 H a xs → xs[i]? = some x) ∧ ∀ ys, SqE K l2 H b ys → ys[i]? = some y
  stop := fun i H => ∃ xs ys : List V, SqE K l1 H a xs ∧ SqE K l2 H b ys ∧ i = min xs.length ys.length
theorem lt_of_get {its : List Value} {i : Nat} {u : Value} (h : its[i]? = some u) : i < its.toArray.size := by
  rw [List.size_toArray]
  exact (List.getElem?_eq_some_iff.mp h).1
theorem turn_zipE {P : Program} {w : World} {K : PySem.W.Frag} {elts : List Expr} {kk : Nat} {tpos : Pos} {l1 l2 : Bool} {a b z TI TO i1 i2 : Addr} (S : ZipSep2 z TI TO i1 i2 [i1, a] [i2, b]) :
    Turn P w K (.Tuple elts kk tpos) (ItzE K l1 l2 a b) [z, TI, TO, i1, i2] z (fun i h => IsZip h z TI TO .none ∧ IsTupOf2 h TI (.ref i1) (.ref i2) ∧ (∃ x y, IsTupOf2 h TO x y) ∧ ItE l1 h i1 a i ∧ ItE l2 h i2 b i) where
  mem := List.mem_cons_self
  obj := by
    rintro i h ⟨hz, hTI, ⟨x, y, hTO⟩, h1, h2⟩ c hc
    simp only [List.mem_cons, List.not_mem_nil, or_false] at hc
    rcases hc with rfl | rfl | rfl | rfl | rfl
    · exact ⟨_, hz, fun v q => nomatch q⟩
    · exact ⟨_, hTI, fun v q => nomatch q⟩
    · exact ⟨_, hTO, fun v q => nomatch q⟩
    · exact h1.there
    · exact h2.there
  keep := by
    rintro i h h' ⟨hz, hTI, ⟨x, y, hTO⟩, h1, h2⟩ k
    exact ⟨k _ (by simp) _ hz, k _ (by simp) _ hTI, ⟨x, y, k _ (by simp) _ hTO⟩, h1.at fun o q => k _ (by simp) o q, h2.at fun o q => k _ (by simp) o q⟩
  item := by
    intro X hP hw hK hc i pins s σ H E I hf st hg
    subst hP hw hK
    obtain ⟨hz, hTI, ⟨x0, y0, hTO⟩, h1, h2⟩ := st
    obtain ⟨xs, ys, x, y, hqx, hqy, hx, hy⟩ := hg
    obtain ⟨its, rv, p⟩ := seqE I hqx
    obtain ⟨its2, rv2, p2⟩ := seqE I hqy
    obtain ⟨u, hu, ru⟩ := rv.get hx
    obtain ⟨u2, hu2, ru2⟩ := rv2.get hy
    have hd : X.A.in1.handled = none := I.ok.hd hc
    have zl : z < s.heap.objs.size := Heap.lt_size hz
    refine wpAny_pyNext_zipD2_item S (drawsE hd (h1.apart p)) (drawsE hd (h2.apart p2)) hz hTI hTO ⟨h1, p⟩ ⟨h2, p2⟩ (lt_of_get hu) (lt_of_get hu2) fun v1 v2 h3 tk e1 e2 z3 TO3 s1 s2 hT hsz hk => ?_
    obtain rfl : v1 = u := by
      rw [List.getElem?_toArray, hu] at e1
      exact (Option.some.inj e1).symm
    obtain rfl : v2 = u2 := by
      rw [List.getElem?_toArray, hu2] at e2
      exact (Option.some.inj e2).symm
    refine ⟨_, rfl, wpAny_letOwnedTupleGo_zip (s := { s with heap := h3, toks := tk }) z3 fun h4 z4 sb => ?_⟩
    have hT4 : h4.get? s.heap.objs.size = some { cls := .type "tuple", data := .seq #[v1, v2] } := (sb.2 _ (Nat.ne_of_gt zl)).trans hT
    have new : ObjOk X.prog X.w (upd H s.heap.objs.size (.tup [x, y])) h4 s.heap.objs.size (.tup [x, y]) := ⟨by show 2 ≤ sizeLine; decide, [v1, v2], .cons ru (.cons ru2 .nil), ⟨_, hT4, rfl, _, rfl⟩⟩
    have kp : ∀ c o, c ∉ [z, TI, TO, i1, i2] → s.heap.get? c = some o → h4.get? c = some o := fun c o hb q => by
      simp only [List.mem_cons, List.not_mem_nil, or_false, not_or] at hb
      exact (sb.2 c hb.1).trans (hk c o hb.1 hb.2.2.1 hb.2.2.2.1 hb.2.2.2.2 q)
    have J : Inv X pins σ (upd H s.heap.objs.size (.tup [x, y])) { s with heap := h4, toks := tk } := I.turnedNew (t' := tk) kp hf (Nat.le_refl _) new
    refine ⟨.ref s.heap.objs.size, _, J, rfl, ⟨_, x, y, rfl, I.hok.fresh (Nat.le_refl _), rfl, fun m hm => ?_, fun m hm => ?_⟩, ⟨z4, ?_, ⟨v1, v2, ?_⟩, ?_, ?_⟩, fun c hcm => ?_⟩
    · rw [injE I hm hqx]
      exact hx
    · rw [injE I hm hqy]
      exact hy
    · exact (sb.2 _ S.TIz).trans (hk _ _ S.TIz S.TITO S.TIi1 S.TIi2 hTI)
    · exact (sb.2 _ S.TOz).trans TO3
    · exact s1.1.at fun o q => (sb.2 _ S.zi1.symm).trans q
    · exact s2.1.at fun o q => (sb.2 _ S.zi2.symm).trans q
    · have lt : c < s.heap.objs.size := by
        obtain ⟨_, g1, _⟩ := h1.there
        obtain ⟨_, g2, _⟩ := h2.there
        have hm := hcm
        simp only [List.mem_cons, List.not_mem_nil, or_false] at hm
        rcases hm with rfl | rfl | rfl | rfl | rfl
        · exact zl
        · exact Heap.lt_size hTI
        · exact Heap.lt_size hTO
        · exact Heap.lt_size g1
        · exact Heap.lt_size g2
      rw [upd_ne (Nat.ne_of_lt lt)]
      exact (hf c hcm).1
  done := by
    intro X hP hw hK hc i pins s σ H E I hf st hg
    subst hP hw hK
    obtain ⟨hz, hTI, ⟨x0, y0, hTO⟩, h1, h2⟩ := st
    obtain ⟨xs, ys, hqx, hqy, hend⟩ := hg
    obtain ⟨its, rv, p⟩ := seqE I hqx
    obtain ⟨its2, rv2, p2⟩ := seqE I hqy
    have n1 : its.toArray.size = xs.length := by rw [List.size_toArray, rv.length]
    have n2 : its2.toArray.size = ys.length := by rw [List.size_toArray, rv2.length]
    have hd : X.A.in1.handled = none := I.ok.hd hc
    refine wpAny_pyNext_zipD2_end S (drawsE hd (h1.apart p)) (drawsE hd (h2.apart p2)) hz hTI hTO ⟨h1, p⟩ ⟨h2, p2⟩ (by omega) (by omega) (by omega) fun h3 tk hk => ⟨rfl, I.turnedL (t' := tk) (fun c o hb q => ?_) hf⟩
    simp only [List.mem_cons, List.not_mem_nil, or_false, not_or] at hb
    exact hk c o hb.1 hb.2.2.1 hb.2.2.2.1 hb.2.2.2.2 q
  self := fun A i s Q E st h => wpAny_pyIter_zip st.1 h
def iZipE (K : PySem.W.Frag) (ta : TA) : TI := fun σ H R => ta σ H fun vs H1 => ∃ l1 l2 a b xs ys, vs = [.ref a, .ref b] ∧ SqE K l1 H1 a xs ∧ SqE K l2 H1 b ys ∧ R (ItzE K l1 l2 a b) H1
theorem HpE.lt {l : Bool} {h : Heap} {a : Addr} {items : Array Value} (x : HpE l h a items) : a < h.objs.size := by
  cases l with
  | true =>
    obtain ⟨o, g, _⟩ := (show h.IsList a items from x)
    exact Heap.lt_size g
  | false =>
    obtain ⟨o, g, _⟩ := (show h.IsTuple a items from x)
    exact Heap.lt_size g
theorem call_of_zip {X : Cx} {elts : List Expr} {kk : Nat} {tpos : Pos} {pins : List (Addr × Obj)} {σ : L2.St} {H : Hp} {s : Shared} {R : It → Hp → Prop} {l1 l2 : Bool} {a b : Addr} {i1 i2 : Array Value} (I : Inv X pins σ H s)
    (p1 : HpE l1 s.heap a i1) (p2 : HpE l2 s.heap b i2) (q : R (ItzE X.K l1 l2 a b) H) :
    wpAny (model X.prog X.w) X.A (call (.type "zip") [.ref a, .ref b]) (fun v s2 => wpAny (model X.prog X.w) X.A (pyIter v) (PIE X pins σ (.Tuple elts kk tpos) R) X.xe s2) X.xe s := by
  refine zip_begins2 beginsE beginsE p1 p2 fun h1 hz hTI hTO g1 g2 _ hk => wpAny_pyIter_zip hz ?_
  have sep : ZipSep2 (s.heap.objs.size + 4) (s.heap.objs.size + 2) (s.heap.objs.size + 3) s.heap.objs.size (s.heap.objs.size + 1) [s.heap.objs.size, a] [s.heap.objs.size + 1, b] :=
    zip_sep2 (fun c hc => by rw [List.mem_singleton.mp hc]; exact p1.lt) (fun c hc => by rw [List.mem_singleton.mp hc]; exact p2.lt)
  refine ⟨s.heap.objs.size + 4, [s.heap.objs.size + 4, s.heap.objs.size + 2, s.heap.objs.size + 3, s.heap.objs.size, s.heap.objs.size + 1], _, _, H, rfl, I.kept (t' := s.toks) hk, turn_zipE sep, ⟨hz, hTI, ⟨_, _, hTO⟩, .new g1, .new g2⟩, fun c hc => ?_, q⟩
  have le : s.heap.objs.size ≤ c := by
    simp only [List.mem_cons, List.not_mem_nil, or_false] at hc
    rcases hc with rfl | rfl | rfl | rfl | rfl
    all_goals first | exact Nat.le_refl _ | exact Nat.le_add_right _ _
  exact I.fpOk le (I.hok.fresh le)
theorem pi_zipE {X : Cx} {e e2 : Expr} {ta : TA} {p pos tpos : Pos} {elts : List Expr} {kk : Nat} (hg : Gl X "zip") (hm : X.mg "zip" = none) (ha : PA X [e, e2] ta)
    (hs : starEach [e, e2] X.env = (false, eval e X.env) :: starEach [e2] X.env := by rfl) (hpl : (backTo pos (starEach [e2] X.env)).any (·.1) = false := by rfl) :
    PI X (.Tuple elts kk tpos) (.Call (.Name "zip" p) [e, e2] [] pos) (iZipE X.K ta) := by
  constructor
  intro pins s σ H R I h
  refine Call_ (ld_blt I hg hm PyProof.Rows.boot_zip (PyProof.Rows.callWith_type1 (thn (ha.run pos pins s σ H _ I h) fun us s1 ⟨vs, H1, I1, r1, l1, l2, a, b, xs, ys, ex, hx, hy, q⟩ => ?_) hs hpl))
  subst ex
  obtain ⟨u1, u2, rfl, r1, r2⟩ := vals2 r1
  cases r1
  cases r2
  obtain ⟨i1, _, p1⟩ := seqE I1 hx
  obtain ⟨i2, _, p2⟩ := seqE I1 hy
  exact call_of_zip I1 p1 p2 q
theorem walk_zipE {K : PySem.W.Frag} {l1 l2 : Bool} {a b : Addr} {xs ys : List V} {n : Nat} (hn : n = min xs.length ys.length) :
    Walk (ItzE K l1 l2 a b) n (fun H => SqE K l1 H a xs ∧ SqE K l2 H b ys) (YPair (fun i => xs[i]?) (fun i => ys[i]?)) where
  goes := fun i H hi q => by
    have h1 : i < xs.length := by omega
    have h2 : i < ys.length := by omega
    exact ⟨xs, ys, xs[i], ys[i], q.1, q.2, List.getElem?_eq_getElem h1, List.getElem?_eq_getElem h2⟩
  stops := fun H q => ⟨xs, ys, q.1, q.2, hn⟩
  yields := by
    rintro i H v H' _ q ⟨T, x, z, h1, h2, h3, h4, h5⟩
    exact ⟨T, x, z, h1, h2, h3, h4 xs q.1, h5 ys q.2⟩
theorem walk_enumT {K : PySem.W.Frag} {a : Addr} {xs : List V} : Walk (IteT K a) xs.length (fun H => SqT K H a xs) (YPair (fun i => some (.int (i : Nat))) (fun i => xs[i]?)) where
  goes := fun i H hi q => ⟨xs, xs[i], q, List.getElem?_eq_getElem hi⟩
  stops := fun H q => ⟨xs, q, rfl⟩
  yields := by
    rintro i H v H' _ q ⟨T, x, h1, h2, h3, h4⟩
    exact ⟨T, _, x, h1, h2, h3, rfl, h4 xs q⟩
end Gd

set_option Elab.async false
set_option linter.all false
set_option maxRecDepth 100000
set_option maxHeartbeats 4000000
/-! + - * of own classes, with an own object or an integer at the right; - of one. -/
namespace HN3
open PySem PySem.Spec PyProof.Rows PySem.SeqAt
section
variable {prog : Program} {w : World} {A : Around} {E : Value → Shared → Prop} {s : Shared} {K : PySem.W.Frag} {x C f : Addr} {ox : Obj} {od : Option Obj}
theorem name_there {M : Model} {h : Heap} {nm : String} (X : K.In h) (hs : PySem.W.findIn K (.ref C) (PySem.dunder nm) = some (some (.ref f))) (hr : PySem.W.findIn K (.ref C) (PySem.dunderR nm) = some none) :
    PySem.W.Looks M h (numberSlotInPython (.ref C) nm) true := by
  intro A Q E s k q
  unfold numberSlotInPython
  refine wpAny_bind (PySem.W.looks_findIn X hs A _ E s k ?_)
  refine wpAny_bind (wpAny_pure ?_)
  refine wpAny_bind (PySem.W.looks_findIn X hr A _ E s k ?_)
  refine wpAny_bind (wpAny_pure ?_)
  exact wpAny_pure q
theorem binop1_int {nm : String} {n : Int} {t : Tok} {z : Value} {Q : Value → Shared → Prop} (X : K.In s.heap) (I : PySem.W.InstAt s.heap x ox C od) (hc : PySem.W.selfFirst K C = true)
    (hs : PySem.W.findIn K (.ref C) (PySem.dunder nm) = some (some (.ref f))) (hrn : PySem.W.findIn K (.ref C) (PySem.dunderR nm) = some none) (hf : PySem.W.isFn K (.ref f) = true)
    (fi : fillsNumberSlot (.type "int") nm = pure true) (hsub : PySem.W.subIn K (.type "int") (.ref C) = some false) (hz : typeLookup (.type "int") (PySem.dunderR nm) = pure (some z))
    (h : wpAny (model prog w) A (call (.ref f) [.ref x, .int n t]) (PySem.W.CmpBack Q) E s) : wpAny (model prog w) A (binaryOp1 nm (.ref x) (.int n t)) (fun r s' => ∃ v, r = some v ∧ Q v s') E s := by
  obtain ⟨cd, hcd, hm⟩ := PySem.W.any_some hc
  obtain ⟨rest, hm⟩ : ∃ rest, cd.mro = .ref C :: rest := by
    cases q : cd.mro with
    | nil => rw [q] at hm; cases hm
    | cons a r => rw [q] at hm; exact ⟨r, by rw [List.head?_cons] at hm; cases (beq_iff_eq.mp hm); rfl⟩
  unfold binaryOp1
  refine wpAny_bind (I.type.here ?_)
  refine wpAny_bind (wpAny_of_eq (a := Value.type "int") rfl ?_)
  refine wpAny_bind ((PySem.W.fills_K X hcd hm hs).here ?_)
  have e : (Value.ref C == Value.type "int") = false := rfl
  rw [e]
  simp only [Bool.false_eq_true, if_false]
  refine wpAny_bind (wpAny_of_eq fi ?_)
  simp only [Bool.and_self, if_true]
  refine wpAny_bind ((PySem.W.looks_subIn X hsub).here ?_)
  simp only [Bool.false_eq_true, if_false]
  refine wpAny_bind ((name_there X hs hrn).here ?_)
  simp only [if_true]
  refine wpAny_bind (wpAny_of_eq (a := false) rfl ?_)
  simp only [Bool.not_false, if_true]
  refine wpAny_bind (wpAny_of_eq hz ?_)
  refine wpAny_bind (m := tryMethod (.ref x) _ (.int n t)) ?_
  unfold tryMethod
  refine wpAny_bind (PySem.W.special_fn X I hs (beq_iff_eq.mp hf) (wpAny_mono h (fun v s' hv => ?_) fun _ _ e => e))
  cases v <;> first | exact hv.elim | exact wpAny_pure (wpAny_pure ⟨_, rfl, hv⟩)
theorem binop_int {op : Operator} {n : Int} {t : Tok} {z : Value} {Q : Value → Shared → Prop} (X : K.In s.heap) (I : PySem.W.InstAt s.heap x ox C od) (hc : PySem.W.selfFirst K C = true)
    (hs : PySem.W.findIn K (.ref C) (PySem.dunder op.info.2) = some (some (.ref f))) (hrn : PySem.W.findIn K (.ref C) (PySem.dunderR op.info.2) = some none) (hf : PySem.W.isFn K (.ref f) = true)
    (fi : fillsNumberSlot (.type "int") op.info.2 = pure true) (hsub : PySem.W.subIn K (.type "int") (.ref C) = some false) (hz : typeLookup (.type "int") (PySem.dunderR op.info.2) = pure (some z))
    (h : wpAny (model prog w) A (call (.ref f) [.ref x, .int n t]) (PySem.W.CmpBack Q) E s) : wpAny (model prog w) A (binaryOp op (.ref x) (.int n t)) Q E s := by
  unfold binaryOp
  refine wpAny_holding (wpAny_bind (wpAny_mono (binop1_int X I hc hs hrn hf fi hsub hz h) (fun r s' hr => ?_) fun _ _ e => e))
  obtain ⟨v, rfl, q⟩ := hr
  exact wpAny_pure q
theorem neg_own {Q : Value → Shared → Prop} (X : K.In s.heap) (I : PySem.W.InstAt s.heap x ox C od)
    (hs : PySem.W.findIn K (.ref C) "__neg__" = some (some (.ref f))) (hf : PySem.W.isFn K (.ref f) = true)
    (h : wpAny (model prog w) A (call (.ref f) [.ref x]) Q E s) : wpAny (model prog w) A (unaryOp .USub (.ref x)) Q E s := by
  unfold unaryOp
  refine wpAny_holding ?_
  dsimp only
  rw [if_neg (by decide)]
  exact wpAny_bind (PySem.W.special_fn X I hs (beq_iff_eq.mp hf) (wpAny_mono h (fun v s' hv => wpAny_pure hv) fun _ _ e => e))
end
end HN3

namespace Gd
open PySem PySem.Spec PyProof.Rows L2
section
variable {X : Cx} {CX : CXT} {k : Nat} {f C : Addr} {fd : FuncData} {ps : List Str} {sp : Sp}
/-- what an operator of an own class asks of the class: m its method, r the name of the turned one, which nobody has -/
structure BinC (K : PySem.W.Frag) (C : Addr) (m r : Str) (f : Addr) : Prop where
  sf : PySem.W.selfFirst K C = true
  at_ : Meth K C m f
  rn : PySem.W.findIn K (.ref C) r = some none
/-- x OP y by the own method of x's class, y of that class or an integer; what it gives is an object -/
def rBinO (C : Addr) (sp : Sp) (E : XK) : R2 := fun x y H Q => ∃ p dx fs, x = .ref p ∧ H p = some (.ins C dx fs) ∧
  ((∃ q dy gs, y = .ref q ∧ H q = some (.ins C dy gs)) ∨ ∃ n, y = .int n) ∧ sp [x, y] H (fun v H' => (∃ q, v = .ref q) ∧ Q v H') E
theorem op_binO {op : Operator} {m r : Str} {z : Value} {E : XK} (e1 : PySem.dunder op.info.2 = m) (e2 : PySem.dunderR op.info.2 = r) (fi : fillsNumberSlot (.type "int") op.info.2 = pure true) (hz : typeLookup (.type "int") r = pure (some z))
    (B : BinC X.K C m r f) (F : FnOk X.prog X.w X.K X.mg X.base CX k f fd ps sp) (hr : Room (k + 1) X.A) (hb : Binds X.K fd ps []) (hx : ∀ σ, PassesAt CX X σ E) : OpR X (binaryOp op) (rBinO C sp E) := by
  subst e1 e2
  intro pins s σ H x y v u Q I rx ry h
  obtain ⟨p, dx, fs, rfl, ep, hy, hsp⟩ := h
  cases rx
  obtain ⟨od, J⟩ := seen I ep
  obtain ⟨m, hF⟩ := I.fr
  have run := wpAny_mono (runAt (.inl rfl) F hr hb .nil (hx σ) I (.cons (show RelV (V.ref p) (Value.ref p) from rfl) (.cons ry .nil)) hsp) (Q' := PySem.W.CmpBack (EP X pins σ Q)) (fun w s' hw => by
    obtain ⟨z, H', I', rz, ⟨q, rfl⟩, hq⟩ := hw
    cases rz
    exact ⟨.ref q, H', I', rfl, hq⟩) (fun _ _ z => z)
  rcases hy with ⟨q, dy, gs, rfl, eq⟩ | ⟨n, rfl⟩
  · cases ry
    obtain ⟨od2, J2⟩ := seen I eq
    exact PySem.W.binop_K hF I.ok.mod.kin J J2.type B.sf B.at_.at_ B.at_.fn run
  · obtain ⟨t, rfl⟩ := ry
    exact HN3.binop_int I.kIn J B.sf B.at_.at_ B.rn B.at_.fn fi (by kernel_rfl) hz run
theorem op_addO {E : XK} (B : BinC X.K C "__add__" "__radd__" f) (F : FnOk X.prog X.w X.K X.mg X.base CX k f fd ps sp) (hr : Room (k + 1) X.A) (hb : Binds X.K fd ps []) (hx : ∀ σ, PassesAt CX X σ E) : OpR X (binaryOp .Add) (rBinO C sp E) :=
  op_binO (op := .Add) (z := .builtin "int.__radd__") (by kernel_rfl) (by kernel_rfl) PySem.F.fills_int_add (by rw [typeLookup_type, builtinLookup_eq_fast]; kernel_rfl) B F hr hb hx
theorem op_subO {E : XK} (B : BinC X.K C "__sub__" "__rsub__" f) (F : FnOk X.prog X.w X.K X.mg X.base CX k f fd ps sp) (hr : Room (k + 1) X.A) (hb : Binds X.K fd ps []) (hx : ∀ σ, PassesAt CX X σ E) : OpR X (binaryOp .Sub) (rBinO C sp E) :=
  op_binO (op := .Sub) (z := .builtin "int.__rsub__") (by kernel_rfl) (by kernel_rfl) PySem.F.fills_int_sub (by rw [typeLookup_type, builtinLookup_eq_fast]; kernel_rfl) B F hr hb hx
theorem op_mulO {E : XK} (B : BinC X.K C "__mul__" "__rmul__" f) (F : FnOk X.prog X.w X.K X.mg X.base CX k f fd ps sp) (hr : Room (k + 1) X.A) (hb : Binds X.K fd ps []) (hx : ∀ σ, PassesAt CX X σ E) : OpR X (binaryOp .Mult) (rBinO C sp E) :=
  op_binO (op := .Mult) (z := .builtin "int.__rmul__") (by kernel_rfl) (by kernel_rfl) PySem.F.fills_int_mul (by rw [typeLookup_type, builtinLookup_eq_fast]; kernel_rfl) B F hr hb hx
/-- -x by the own method -/
def rNegO (C : Addr) (sp : Sp) (E : XK) : V → Hp → VK → Prop := fun x H Q => ∃ p dx fs, x = .ref p ∧ H p = some (.ins C dx fs) ∧ sp [x] H Q E
theorem un_negO {E : XK} (M : Meth X.K C "__neg__" f) (F : FnOk X.prog X.w X.K X.mg X.base CX k f fd ps sp) (hr : Room (k + 1) X.A) (hb : Binds X.K fd ps []) (hx : ∀ σ, PassesAt CX X σ E) : UnR X (unaryOp .USub) (rNegO C sp E) := by
  intro pins s σ H x v Q I rx h
  obtain ⟨p, dx, fs, rfl, ep, hsp⟩ := h
  cases rx
  obtain ⟨od, J⟩ := seen I ep
  exact HN3.neg_own I.kIn J M.at_ M.fn (runAt (.inl rfl) F hr hb .nil (hx σ) I (.cons (show RelV (V.ref p) (Value.ref p) from rfl) .nil) hsp)
end
end Gd

set_option Elab.async false
set_option linter.all false
set_option maxRecDepth 100000
set_option maxHeartbeats 4000000
/-! The sum and the count of a tuple; an integer and a tuple of integers, < ; != of two lists whose items are equal by an own ==. -/
namespace NeL
open PySem PySem.SeqAt
open AutoSeq1 (wpAny_loadPart')
open MeetsSeq MeetsSeq2 MeetsSeq3 SeqRoads2
section
variable {prog : Program} {w : World} {A : Around} {R : Result → Shared → Prop}
theorem ne_loopG (l b : Addr) (N : Nat) (I : Nat → Shared → Prop) (hl : GQ.ListI prog w A (fun e s' => R (.error e) s') l b N I)
    (fin : ∀ s, I N s → R (.ok (.ret (.bool false))) s) (k : Nat) :
    ∀ i : Nat, N - i = k → i ≤ N → ∀ s, I i s →
      wpAny (model prog w) A.in1 (Builtin.«list.__eq__.loop» ⟨[.ref l, .ref b, rawInt i, rawInt 3], []⟩) (GQ.FinOf prog w A R) (fun e s' => R (.error e) s') s := by
  induction k with
  | zero =>
    intro i hk hi s h
    obtain ⟨items, items2, n, n2, hl1, hb1, hs1, hs2, _⟩ := hl _ _ h
    have hi' : i = N := by omega
    have hR : R (.ok (.ret (.bool false))) s := fin s (hi' ▸ h)
    obtain ⟨hp, g, d, tk, os⟩ := s
    wp_walk using wpAny_loadPart' hl1, wpAny_loadPart' hb1
    have hi1 : items[((i : Nat) : Int).toNat]? = none := by simp; omega
    have hi2 : items2[((i : Nat) : Int).toNat]? = none := by simp; omega
    rw [hi1, hi2]
    wp_walk using wpAny_loadPart' hl1, wpAny_loadPart' hb1
    show R (.ok (.ret (.bool (items.size != items2.size)))) _
    rw [hs1, hs2]
    simpa using hR
  | succ k ih =>
    intro i hk hi s h
    obtain ⟨items, items2, n, n2, hl1, hb1, hs1, hs2, turn⟩ := hl _ _ h
    have hlt : i < items.size := by omega
    have hlt2 : i < items2.size := by omega
    have ht := turn hlt hlt2
    obtain ⟨hp, g, d, tk, os⟩ := s
    wp_walk using wpAny_loadPart' hl1, wpAny_loadPart' hb1
    have hi1 : items[((i : Nat) : Int).toNat]? = some items[i] := by simp [hlt]
    have hi2 : items2[((i : Nat) : Int).toNat]? = some items2[i] := by simp [hlt2]
    have hc : ((i : Int) + 1) = ((i + 1 : Nat) : Int) := by omega
    rw [hi1, hi2]
    refine wpAny_bind (wpAny_mono ht (fun r s2 h2 => ?_) fun _ _ x => x)
    obtain ⟨hr, h2⟩ := h2
    subst hr
    have hrec := ih (i + 1) (by omega) (by omega) s2 h2
    obtain ⟨hp2, g2, d2, tk2, os2⟩ := s2
    wp_walk
    rw [hc]
    exact ⟨plainId_quiet plain_eq_loop _, codeAny_builtin entry_eq_loop (by
      rw [Around.under_plainId plain_eq_loop _]
      exact hrec)⟩
theorem list_neG (l b : Addr) (N : Nat) (I : Nat → Shared → Prop) (hl : GQ.ListI prog w A (fun e s' => R (.error e) s') l b N I)
    (fin : ∀ s, I N s → R (.ok (.ret (.bool false))) s) {s : Shared} (h : I 0 s) :
    wpAny (model prog w) A.in1 (Builtin.«list.__ne__» ⟨[.ref l, .ref b], []⟩) (GQ.FinOf prog w A R) (fun e s' => R (.error e) s') s := by
  obtain ⟨items, items2, n, n2, hl1, hb1, hs1, hs2, _⟩ := hl _ _ h
  have hrec := ne_loopG (A := A) (R := R) l b N I hl fin _ 0 rfl (Nat.zero_le _) s h
  obtain ⟨hp, g, d, tk, os⟩ := s
  have f3 := AutoSeq1.sub_list_list
  have hne : ¬ (items.size != items2.size) = true := by simp [hs1, hs2]
  wp_walk using wpAny_loadPart' hl1, wpAny_loadPart' hb1
  exact ⟨plainId_quiet plain_eq_loop _, codeAny_builtin entry_eq_loop (by
    rw [Around.under_plainId plain_eq_loop _]
    exact hrec)⟩
end
section
variable {prog : Program} {w : World} {A : Around} {E : Value → Shared → Prop} {s : Shared}
theorem rc {l b : Addr} {N : Nat} {Q : Value → Shared → Prop} (hu : A.units < cLine) (I : Nat → Shared → Prop) (hl : GQ.ListI prog w A E l b N I)
    (fin : ∀ s, I N s → Q (.bool false) s) (h : I 0 s) : wpAny (model prog w) A (richCompare .NotEq (.ref l) (.ref b)) Q E s := by
  obtain ⟨items, items2, n, n2, hl1, hb1, _, _, _⟩ := hl _ _ h
  refine wpAny_richCompare_same_room (op := .NotEq) ⟨_, hl1, rfl⟩ ⟨_, hb1, rfl⟩ F.slot_list_ne (GQ.call_here F.slot_list_ne ⟨_, hl1, rfl⟩ F.entry_list_ne (F.args_list_ne_2 _ _) ?_) hu
  exact list_neG (R := wants (fun v s' => v ≠ .notImplemented ∧ Q v s') E) l b N I hl (fun s' q => ⟨(fun x => nomatch x), fin s' q⟩) h
end
section
variable {prog : Program} {w : World} {A : Around} {E : Value → Shared → Prop} {s : Shared} {l : Addr} {xs : Array (Int × Tok)}
theorem sum_tup {Q : Value → Shared → Prop} (hh : A.handled = none) (hl : s.heap.IsTuple l (intItems xs))
    (h : ∀ h' tk t', (∀ b o, s.heap.get? b = some o → h'.get? b = some o) → Q (.int (preSum (numAt xs) xs.size) t') { s with heap := h', toks := tk }) :
    wpAny (model prog w) A (call (.builtin "sum") [.ref l]) Q E s := by
  have hlt : l < s.heap.objs.size := by obtain ⟨_, e, _⟩ := hl; exact Heap.lt_size e
  refine call_sum_walkG (wpAny_pyIter_tuple hl ?_)
  refine ⟨_, _, _, _, _, _, numAt xs, rfl, Walks.tuple (A := A.in1) hh _ l (Nat.ne_of_lt hlt) (intItems xs), ⟨⟨_, Heap.get?_push_size _ rfl, rfl, rfl⟩, hl.push _⟩, fun b hb => ?_, (fun _ _ => intItems_at), fun h' tk t' hk => ?_⟩
  · show b < (s.heap.push _).objs.size
    rw [Heap.size_push]
    rcases List.mem_cons.mp hb with rfl | hb
    · exact Nat.lt_succ_self _
    · rcases List.mem_cons.mp hb with rfl | hb
      · exact Nat.lt_succ_of_lt hlt
      · cases hb
  · have hold : ∀ b o, s.heap.get? b = some o → h'.get? b = some o := fun b o e => by
      refine hk b o (fun hm => ?_) (Heap.get?_push_of_some _ e)
      rcases List.mem_cons.mp hm with e1 | hm
      · exact absurd (e1 ▸ Heap.lt_size e) (Nat.lt_irrefl _)
      · cases hm
    have := h h' tk t' hold
    simpa [intItems] using this
theorem sum_tup_raw {its : List Value} {ns : List Int} {Q : Value → Shared → Prop} (hh : A.handled = none) (hl : s.heap.IsTuple l its.toArray) (hi : PyProof.Rows.IntsAre its ns)
    (h : ∀ h' tk t', (∀ b o, s.heap.get? b = some o → h'.get? b = some o) → Q (.int ns.sum t') { s with heap := h', toks := tk }) : wpAny (model prog w) A (call (.builtin "sum") [.ref l]) Q E s := by
  obtain ⟨xs, e⟩ := hi.allInts.items
  have hn : numsOf (intItems xs).toList = ns := by rw [← e]; exact hi.numsOf
  rw [nums_intItems] at hn
  rw [e] at hl
  refine sum_tup hh hl fun h' tk t' hk => ?_
  have := h h' tk t' hk
  rw [preSum_eq, List.take_of_length_le (by simp), hn]; exact this
end
end NeL
namespace Gd
open PySem PySem.Spec PyProof.Rows L2
open PySem.SeqAt (EqAt)
/-- x != y of two lists, item by item equal -/
def rNeL (D : Eqv) : R2 := fun x y H Q => DList D x y H ∧ ∀ H', L2.Ext H H' → Q (.bl false) H'
theorem op_neL {X : Cx} {n : Nat} {D : Eqv} (hD : Mon D) (h : EqG X n D) (hr : Room (n + 1) X.A) : OpR X (compareOp .NotEq) (rNeL D) := by
  intro pins s σ H x y v u Q I rx ry hw
  obtain ⟨⟨a, b, xs, ys, rfl, rfl, ha, hb, p⟩, q⟩ := hw
  cases rx
  cases ry
  show wpAny (model X.prog X.w) X.A (richCompare .NotEq (.ref a) (.ref b)) (EP X pins σ Q) X.xe s
  refine NeL.rc (N := xs.length) hr.units0 (fun _ s' => LoopI X pins σ H s') (fun i s' q => ?_) (fun t z => ?_) ⟨H, I, L2.Ext.rfl'⟩
  · obtain ⟨H1, I1, e1⟩ := id q
    obtain ⟨z, its, k, r, e⟩ := I1.hok a _ (e1 _ _ ha)
    obtain ⟨z2, its2, k2, r2, e2⟩ := I1.hok b _ (e1 _ _ hb)
    refine ⟨its.toArray, its2.toArray, k, k2, e, e2, by rw [List.size_toArray, ← r.length], by rw [List.size_toArray, ← r2.length, ← p.1], fun h1 h2 => ?_⟩
    exact turnG hD h ⟨hr, rfl⟩ p r r2 i h1 h2 s' q
  · obtain ⟨H', I', e⟩ := z
    exact ⟨.bl false, H', I', rfl, q H' e⟩
section
variable {X : Cx}
/-- sum(t) of a tuple of ints -/
def rSumT (K : PySem.W.Frag) : List V → Hp → VK → Prop := fun vs H Q => ∃ (a : Addr) (ns : List Int), vs = [V.ref a] ∧ SqT K H a (ns.map V.int) ∧ Q (.int ns.sum) H
theorem cr_sumT (hc : X.calm = true) : CallR X (.builtin "sum") (rSumT X.K) := by
  intro pins s σ H vs us Q I r h
  obtain ⟨a, ns, rfl, hs, q⟩ := h
  obtain ⟨its, rv, hl, _⟩ := I.tuple hs
  rw [Vals.ref1 r]
  exact NeL.sum_tup_raw (I.ok.hd hc) hl (intsAre_of rv) fun h' tk t' hk => ⟨.int _, H, I.kept hk, ⟨_, rfl⟩, q⟩
/-- t.count(k) of a tuple of ints -/
def rCntT (K : PySem.W.Frag) : V → List V → Hp → VK → Prop := fun x xs H Q => ∃ (p : Addr) (ns : List Int) (k : Int), x = .ref p ∧ xs = [.int k] ∧ SqT K H p (ns.map V.int) ∧ Q (.int (ns.count k : Nat)) H
theorem mt_tcount : MtR X "tuple.count" (rCntT X.K) := by
  intro pins s σ H x xs v us Q I rx rxs h
  obtain ⟨p, ns, k, rfl, rfl, hs, q⟩ := h
  cases rx
  obtain ⟨u, rfl, ru⟩ := rxs.one
  obtain ⟨t, rfl⟩ := ru
  obtain ⟨its, rv, ⟨⟨cls, dd, data, sl⟩, ho, hc, n, hd⟩, hlen⟩ := I.tuple hs
  simp only at hc hd
  subst hc hd
  have hi := intsAre_of rv
  refine call_meets PySem.F.slot_tuple_count ⟨_, ho, rfl⟩ PySem.F.entry_tuple_count (PySem.F.args_tuple_count_2 _ _)
    (SeqAt.tuple_countAt p its.toArray n dd sl (.int k t) (eqk k)) ⟨ho, fun y hy => (eqk_gives hi y (by simpa using hy)).at _ _, ?_⟩
  have ec : its.toArray.toList.countP (eqk k) = ns.count k := eqk_count hi
  refine ⟨.int (ns.count k : Nat), H, I.tok _, ⟨s.toks, ?_⟩, q⟩
  show Value.int ((its.toArray.toList.countP (eqk k) : Nat) : Int) s.toks = Value.int ((ns.count k : Nat) : Int) s.toks
  rw [ec]
def pdata (ns : List Int) : List PyData := ns.map PyData.int
theorem pdp {K : PySem.W.Frag} {H : Hp} : ∀ ns : List Int, DpAll K H (ns.map V.int) (pdata ns)
  | [] => .nil
  | n :: r => .cons (.int n) (pdp r)
theorem play : ∀ ns : List Int, PyData.canLayAll0 (pdata ns) = true
  | [] => by simp [pdata, PyData.canLayAll0]
  | n :: r => by
    have := play r
    unfold pdata at this ⊢
    simp [PyData.canLayAll0, PyData.canLay0, this]
theorem peqv : ∀ ns ms : List Int, PyData.eqvAll (pdata ns) (pdata ms) = decide (ns = ms)
  | [], [] => by simp [pdata, PyData.eqvAll]
  | [], _ :: _ => by simp [pdata, PyData.eqvAll]
  | _ :: _, [] => by simp [pdata, PyData.eqvAll]
  | n :: r, m :: q => by
    have := peqv r q
    unfold pdata at this ⊢
    simp [PyData.eqvAll, PyData.eqv, this, Bool.decide_and]
    rfl
theorem lex_self : ∀ ns : List Int, HT.lexLt ns ns = false
  | [] => rfl
  | n :: r => by rw [HT.lexLt_cons, if_pos rfl]; exact lex_self r
/-- (i, t) < (j, u), ints and tuples of ints -/
def pairLt (i j : Int) (ns ms : List Int) : Bool := if i = j then HT.lexLt ns ms else decide (i < j)
def rLtP (K : PySem.W.Frag) : R2 := fun x y H Q => ∃ a b p q i j ns ms, x = .ref a ∧ y = .ref b ∧ SqT K H a [.int i, .ref p] ∧ SqT K H b [.int j, .ref q] ∧ SqT K H p (ns.map V.int) ∧ SqT K H q (ms.map V.int) ∧
  Q (.bl (pairLt i j ns ms)) H
theorem vals_ir {i : Int} {p : Addr} {us : List Value} (r : Vals [V.int i, V.ref p] us) : ∃ t, us = [Value.int i t, Value.ref p] := by
  cases r with
  | cons r t =>
    cases t with
    | cons r2 t2 =>
      cases t2
      obtain ⟨t, rfl⟩ := r
      cases r2
      exact ⟨t, rfl⟩
theorem eqAt_ints {pins : List (Addr × Obj)} {s : Shared} {σ : L2.St} {H : Hp} {A : Around} {p q : Addr} {ns ms : List Int} (I : Inv X pins σ H s) (hp : SqT X.K H p (ns.map V.int)) (hq : SqT X.K H q (ms.map V.int)) (hu : A.units + 64 < cLine) :
    EqAt A s (.ref p) (.ref q) (decide (ns = ms)) := by
  obtain ⟨as, r1⟩ := Dp.reads I (.tuple (pdata ns)) (.ref p) (.ref p) (.tup hp (pdp ns)) (show RelV (V.ref p) (Value.ref p) from rfl)
  obtain ⟨bs, r2⟩ := Dp.reads I (.tuple (pdata ms)) (.ref q) (.ref q) (.tup hq (pdp ms)) (show RelV (V.ref q) (Value.ref q) from rfl)
  have h := SeqAt.eqAt_reads _ _ A s _ _ _ _ r1 r2 (by simp [PyData.canLay0, play]) (by simp [PyData.canLay0, play]) (by
    have d : ∀ ns : List Int, PyData.depthAll (pdata ns) = 0 := fun ns => by
      induction ns with
      | nil => simp [pdata, PyData.depthAll]
      | cons n r ih =>
        unfold pdata at ih ⊢
        simp [PyData.depthAll, PyData.depth, ih]
    simp [PyData.depth, d]
    omega)
  simp only [PyData.eqv, peqv] at h
  exact h
theorem op_ltP (hu : X.A.units + 66 < cLine) : OpR X (compareOp .Lt) (rLtP X.K) := by
  intro pins s σ H x y v u Q I rx ry h
  obtain ⟨a, b, p, q, i, j, ns, ms, rfl, rfl, ha, hb, hp, hq, k⟩ := h
  cases rx
  cases ry
  obtain ⟨its, r1, p1, _⟩ := I.tuple ha
  obtain ⟨its2, r2, p2, _⟩ := I.tuple hb
  obtain ⟨t1, rfl⟩ := vals_ir r1
  obtain ⟨t2, rfl⟩ := vals_ir r2
  obtain ⟨us, v1, e1, _⟩ := I.tuple hp
  obtain ⟨vs, v2, e2, _⟩ := I.tuple hq
  have hA : X.A.in1.units + 64 < cLine := by
    show X.A.units + 1 + 64 < cLine
    omega
  have key := Ob.RcOp.tuples_lt (A := X.A) (s := s) (l := a) (b := b) (items := #[.int i t1, .ref p]) (items2 := #[.int j t2, .ref q]) (e := fun k => if k = 0 then decide (i = j) else decide (ns = ms)) (r := fun k => if k = 0 then decide (i < j) else HT.lexLt ns ms) p1 p2 (by omega)
    (fun k h1 h2 => ?_) (fun k h1 h2 hk => ?_)
  · refine key X.prog X.w X.xe _ ?_
    have e : Ob.lexAt (fun k => if k = 0 then decide (i = j) else decide (ns = ms)) (fun k => if k = 0 then decide (i < j) else HT.lexLt ns ms) (decide ((#[Value.int i t1, Value.ref p] : Array Value).size < (#[Value.int j t2, Value.ref q] : Array Value).size)) 0 (min (#[Value.int i t1, Value.ref p] : Array Value).size (#[Value.int j t2, Value.ref q] : Array Value).size) = pairLt i j ns ms := by
      show Ob.lexAt _ _ (decide (2 < 2)) 0 2 = _
      rw [Ob.lexAt_succ, Ob.lexAt_succ, Ob.lexAt_zero]
      unfold pairLt
      by_cases c1 : i = j
      · subst c1
        by_cases c2 : ns = ms
        · subst c2
          simp [lex_self]
        · simp [c2]
      · simp [c1]
    rw [e]
    exact ⟨.bl _, H, I, rfl, k⟩
  · match k, h1 with
    | 0, _ =>
      have := EqAt.int_int (A := X.A.in1) (s := s) i t1 j t2
      have e : (i == j) = decide (i = j) := rfl
      rw [e] at this
      simpa using this
    | 1, _ =>
      have := eqAt_ints I hp hq hA
      simpa using this
    | k + 2, h1 => exact absurd h1 (by simp)
  · match k, h1 with
    | 0, _ => exact Ob.RcOp.lt_int i j t1 t2
    | 1, _ =>
      intro prog w E Q' hQ
      exact HT.lt_tupInts e1 e2 (intsAre_of v1) (intsAre_of v2) (by omega) hQ
    | k + 2, h1 => exact absurd h1 (by simp)
end
end Gd
namespace Gd
open PySem PySem.Spec PyProof.Rows L2
/-- xs != [] -/
def rNeNil (K : PySem.W.Frag) : R2 := fun x y H Q => ∃ (a b : Addr) (xs : List V), x = .ref a ∧ y = .ref b ∧ SqL K H a xs ∧ SqL K H b [] ∧ Q (.bl (!xs.isEmpty)) H
theorem op_neNil {X : Cx} (hu : X.A.units < cLine) : OpR X (compareOp .NotEq) (rNeNil X.K) := by
  intro pins s σ H x y v u Q I rx ry h
  obtain ⟨a, b, xs, rfl, rfl, ha, hb, q⟩ := h
  cases rx
  cases ry
  obtain ⟨its, r1, p1, _⟩ := I.list ha
  obtain ⟨its2, r2, p2, _⟩ := I.list hb
  cases r2
  cases r1 with
  | nil => exact PySem.SeqAt.RcNeAt.lists (e := fun _ => true) p1.isList p2.isList rfl hu (fun j h1 _ => absurd h1 (Nat.not_lt_zero _)) _ _ _ _ ⟨.bl false, H, I, rfl, q⟩
  | cons r t => exact PySem.SeqAt.RcNeAt.lists_lengths p1.isList p2.isList rfl hu _ _ _ _ ⟨.bl true, H, I, rfl, q⟩
end Gd

set_option Elab.async false
set_option linter.all false
set_option maxRecDepth 100000
set_option maxHeartbeats 4000000
/-! Tuples of which it is known that they have no dict: so their methods can be called. -/
namespace Gd
open PySem PySem.Spec PyProof.Rows L2
def TupX (K : PySem.W.Frag) (H : Hp) (a : Addr) (xs : List V) : Prop := (∃ o : Obj, H a = some (.frz o (.tup xs)) ∧ o.dict = none) ∨
  ∃ (o : Obj) (its : Array Value) (n : Nat), K.lookup a = some o ∧ o.cls = .type "tuple" ∧ o.dict = none ∧ o.data = .seq its n ∧ its.size ≤ sizeLine ∧ Vals xs its.toList
theorem TupX.sq {K : PySem.W.Frag} {H : Hp} {a : Addr} {xs : List V} (h : TupX K H a xs) : SqT K H a xs := by
  rcases h with ⟨o, h, _⟩ | ⟨o, its, n, h, c, _, r⟩
  · exact .inl (.inr ⟨o, h⟩)
  · exact .inr ⟨o, its, n, h, c, r⟩
theorem TupX.ext {K : PySem.W.Frag} {H H' : Hp} {a : Addr} {xs : List V} (e : ∀ b o, H b = some o → H' b = some o) (h : TupX K H a xs) : TupX K H' a xs := by
  rcases h with ⟨o, h, d⟩ | h
  · exact .inl ⟨o, e _ _ h, d⟩
  · exact .inr h
theorem TupX.new {K : PySem.W.Frag} {H : Hp} {p : Addr} {xs : List V} {o : Obj} (d : o.dict = none) : TupX K (upd H p (.frz o (.tup xs))) p xs := .inl ⟨o, upd_same, d⟩
section
variable {X : Cx} {pins : List (Addr × Obj)} {σ : L2.St} {H : Hp} {s : Shared}
theorem TupX.is {a : Addr} {xs : List V} (I : Inv X pins σ H s) (h : TupX X.K H a xs) : s.TypeIs (.ref a) "tuple" ∧ ∀ b, Value.ref a = .ref b → ∃ ob, s.heap.get? b = some ob ∧ ob.dict = none := by
  rcases h with ⟨o, h, d⟩ | ⟨o, its, n, h, c, d, _⟩
  · obtain ⟨e, _, its, _, ob, e2, c, _⟩ := I.hok a _ h
    rw [e] at e2
    cases e2
    exact ⟨⟨o, e, c⟩, fun b z => by cases z; exact ⟨o, e, d⟩⟩
  · exact ⟨⟨o, I.kIn _ o h, c⟩, fun b z => by cases z; exact ⟨o, I.kIn _ o h, d⟩⟩
/-- t.m(..) of such a tuple -/
def tBMT (K : PySem.W.Frag) (r : V → List V → Hp → VK → Prop) (to : TE) (t : TA) : TE := fun σ H Q => to σ H fun x H1 => (∃ a xs, x = .ref a ∧ TupX K H1 a xs) ∧ t σ H1 fun xs H2 => r x xs H2 Q
theorem pe_bmT {o e : Expr} {es : List Expr} {to : TE} {t : TA} {name : Str} {apos cpos : Pos} {id : String} {r : V → List V → Hp → VK → Prop} (pa : PlainAttrs "tuple") (slot : Slot "tuple" name id) (hty : typeOf (.builtin id) = pure (.type "method_descriptor")) (hm : MtR X id r) (ho : PE X o to) (ha : PA X (e :: es) t)
    (hbase : attributeBase o name X.env (eval o X.env) = eval o X.env := by rfl)
    (hfew : ((backTo cpos (starEach (e :: es) X.env)).all (fun x => !x.1) && (backToKw cpos (keywordEach [] X.env)).all (fun x => x.1.isSome)
      && decide ((e :: es).length + ([] : List Keyword).length + (if ([] : List Keyword).isEmpty then 0 else 1) < 30)) = true := by rfl)
    (hline : (apos.endLine == cpos.line) = true := by rfl) (hs : starEach (e :: es) X.env = (false, eval e X.env) :: starEach es X.env := by rfl) (hplain : (backTo cpos (starEach es X.env)).any (·.1) = false := by rfl) :
    PE X (.Call (.Attribute o name apos) (e :: es) [] cpos) (tBMT X.K r to t) := by
  refine ⟨fun pins s σ H Q I h => ?_⟩
  refine wpAny_Call_method_late hbase hfew hline rfl (thn (ho.run pins s σ H _ I h) fun v s1 ⟨x, H1, I1, r1, ⟨a, xs, ex, hx⟩, q1⟩ => ?_)
  subst ex
  cases r1
  obtain ⟨h1, h2⟩ := TupX.is I1 hx
  refine ⟨"tuple", id, pa, slot, hty, h1, h2, ?_⟩
  have hA := ha.run cpos pins s1 σ H1 _ I1 q1
  rw [hs] at hA ⊢
  refine Calls.callWith_builtin (by show (false || (backTo cpos (starEach es X.env)).any (·.1)) = false; rw [hplain] <;> rfl) (Calls.evalArgs_plain ?_)
  exact thn hA fun us s2 ⟨vs, H2, I2, r2, q2⟩ => hm pins s2 σ H2 (.ref a) vs (.ref a) us Q I2 rfl r2 q2
/-! making them -/
def tTupX (t : TA) : TE := fun σ H Q => t σ H fun xs H1 => xs.length ≤ sizeLine ∧ ∀ p o, H1 p = none → o.dict = none → Q (.ref p) (upd H1 p (.frz o (.tup xs)))
theorem pe_tupX {es : List Expr} {t : TA} {pos : Pos} {x1} (h : PA X es t) : PE X (.Tuple es x1 pos) (tTupX t) := by
  refine ⟨fun pins s σ H Q I hq => ?_⟩
  refine wpAny_Tuple_spliced (thn (h.run pos pins s σ H _ I hq) fun us s1 ⟨xs, H1, I1, r, z, q⟩ => ⟨by rw [← r.length]; exact z, ?_⟩)
  have hf : H1 s1.heap.objs.size = none := I1.hok.fresh (Nat.le_refl _)
  refine ⟨.ref s1.heap.objs.size, upd H1 s1.heap.objs.size (.frz { cls := .type "tuple", data := .seq us.toArray } (.tup xs)), I1.laid (t' := s1.toks) (fun b u e => Heap.get?_push_of_some _ e) (Nat.le_refl _) ?_, rfl, q _ _ hf rfl⟩
  exact ⟨Heap.get?_push_size _ rfl, z, us, r, ⟨_, Heap.get?_push_size _ rfl, rfl, _, rfl⟩⟩
def rTupX (K : PySem.W.Frag) : List V → Hp → VK → Prop := fun xs H Q => ∃ p ys, xs = [.ref p] ∧ ((SqL K H p ys ∧ ∀ l o, H l = none → o.dict = none → Q (.ref l) (upd H l (.frz o (.tup ys)))) ∨ (SqT K H p ys ∧ Q (.ref p) H))
theorem call_tupX : CallR X (.type "tuple") (rTupX X.K) := by
  intro pins s σ H xs us Q I r h
  obtain ⟨p, ys, rfl, h⟩ := h
  obtain ⟨u, rfl, rx⟩ := vals1 r
  cases rx
  rcases h with ⟨hq, q⟩ | ⟨hq, q⟩
  · obtain ⟨its, r', pl, hz⟩ := I.list hq
    have hlen := r'.length
    refine call_tuple_list pl.isList (fun h' kp => ?_) (by simp only [List.size_toArray] <;> omega)
    have I1 : Inv X pins σ H { s with heap := h' } := I.kept (t' := s.toks) kp
    have I2 : Inv X pins σ (upd H h'.objs.size (.frz { cls := .type "tuple", data := .seq its.toArray } (.tup ys))) { s with heap := h'.push { cls := .type "tuple", data := .seq its.toArray } } :=
      I1.laid (t' := s.toks) (fun b o e => Heap.get?_push_of_some _ e) (Nat.le_refl _) (show ObjOk X.prog X.w _ _ _ (.frz _ (.tup ys)) from ⟨Heap.get?_push_size _ rfl, hz, its, r', IsTup.new _ _⟩)
    exact ⟨.ref h'.objs.size, _, I2, rfl, q _ _ (I1.hok.fresh (Nat.le_refl _)) rfl⟩
  · obtain ⟨its, r', pl, hz⟩ := I.tuple hq
    exact call_tuple_same pl ⟨.ref p, H, I, rfl, q⟩
def rCatX (K : PySem.W.Frag) : R2 := fun x y H Q => ∃ a b xs ys, x = .ref a ∧ y = .ref b ∧ TupX K H a xs ∧ TupX K H b ys ∧ xs.length + ys.length ≤ sizeLine ∧ ∀ H' p, L2.Ext H H' → TupX K H' p (xs ++ ys) → Q (.ref p) H'
theorem op_catX : OpR X (binaryOp .Add) (rCatX X.K) := by
  intro pins s σ H x y v u Q I rx ry h
  obtain ⟨a, b, xs, ys, rfl, rfl, ha, hb, hz, q⟩ := h
  cases rx
  cases ry
  obtain ⟨its, r1, p1, _⟩ := I.tuple ha.sq
  obtain ⟨its2, r2, p2, _⟩ := I.tuple hb.sq
  by_cases hx : xs = []
  · subst hx
    cases r1
    exact cat_tup0 p1 p2 ⟨.ref b, H, I, rfl, q H b (fun _ _ z => z) hb⟩
  · refine HT.cat_tup p1 p2 (fun z => hx (r1.nil_iff.mp z)) (fun z => ⟨.ref a, H, I, rfl, q H a (fun _ _ z => z) (by rw [r2.nil_iff.mp z, List.append_nil]; exact ha)⟩) (fun z => ?_) (by rw [← r1.length, ← r2.length]; exact hz)
    refine ⟨.ref s.heap.objs.size, _, I.laid (t' := s.toks) (o := .frz { cls := .type "tuple", data := .seq (its ++ its2).toArray } (.tup (xs ++ ys))) (fun b ob q => Heap.get?_push_of_some _ q) (Nat.le_refl _) ?_, rfl, q _ _ ?_ (TupX.new rfl)⟩
    · exact ⟨Heap.get?_push_size _ rfl, by rw [List.length_append]; exact hz, _, r1.append r2, IsTup.new _ _⟩
    · intro b o q
      rw [upd_ne (ne_of_none q (I.hok.fresh (Nat.le_refl _)))]
      exact q
end
theorem g_tupX {t : TA} {σ : L2.St} {H : Hp} {Q : VK} (k : t σ H fun xs H1 => xs.length ≤ sizeLine ∧ ∀ p o, H1 p = none → o.dict = none → Q (.ref p) (upd H1 p (.frz o (.tup xs)))) : tTupX t σ H Q := k
theorem g_bmT {K : PySem.W.Frag} {r : V → List V → Hp → VK → Prop} {to : TE} {t : TA} {σ : L2.St} {H : Hp} {Q : VK} (k : to σ H fun x H1 => (∃ a xs, x = .ref a ∧ TupX K H1 a xs) ∧ t σ H1 fun xs H2 => r x xs H2 Q) : tBMT K r to t σ H Q := k
end Gd

set_option Elab.async false
set_option linter.all false
set_option maxRecDepth 100000
set_option maxHeartbeats 4000000
/-! A tuple times 0 or 1. -/
namespace Gd
open PySem PySem.Spec PyProof.Rows L2
theorem tuple_mul1 (l : Addr) (items : Array Value) (n : Nat) (dd : Option Addr) (sl : Array (Option Value)) (u : Tok) :
    Meets (Builtin.«tuple.__mul__» ⟨[.ref l, .int 1 u], []⟩) (fun _ R s => s.heap.get? l = some { cls := .type "tuple", dict := dd, data := .seq items n, slots := sl } ∧
      R (.ok (.ret (Value.ref l))) s) :=
  .of_wp fun prog w A R s h => by
    obtain ⟨hp, g, d, tk, os⟩ := s
    obtain ⟨hl, h⟩ := h
    have f1 := AutoSeq1.idx_int
    have c1 : (items.isEmpty || (1 : Int) == 1) = true := by simp
    wp_walk using wpAny_loadPart' hl
    repeat (first
      | (refine wpAny_ite_true (decide_eq_true c1) ?_; wp_walk using wpAny_loadPart' hl))
    exact ⟨_, rfl, h⟩

theorem tuple_mul0 (l : Addr) (items : Array Value) (n : Nat) (dd : Option Addr) (sl : Array (Option Value)) (u : Tok) (ne : items.isEmpty = false) :
    Meets (Builtin.«tuple.__mul__» ⟨[.ref l, .int 0 u], []⟩) (fun _ R s => s.heap.get? l = some { cls := .type "tuple", dict := dd, data := .seq items n, slots := sl } ∧
      R (.ok (.ret (Value.ref s.heap.objs.size))) { s with heap := s.heap.push { cls := Value.type "tuple", data := Data.seq #[] }, toks := s.toks }) :=
  .of_wp fun prog w A R s h => by
    obtain ⟨hp, g, d, tk, os⟩ := s
    obtain ⟨hl, h⟩ := h
    have f1 := AutoSeq1.idx_int
    have c1 : ¬ (items.isEmpty || (0 : Int) == 1) = true := by rw [ne]; decide
    have c2 : (decide ((0 : Int) ≤ 0) || items.isEmpty) = true := by simp
    wp_walk using wpAny_loadPart' hl
    repeat (first
      | (refine wpAny_ite_false (decide_eq_false c1) ?_; wp_walk using wpAny_loadPart' hl)
      | (refine wpAny_ite_true (decide_eq_true c2) ?_; wp_walk using wpAny_loadPart' hl))
    exact ⟨_, rfl, h⟩
def rRepA (K : PySem.W.Frag) : R2 := fun x y H Q => ∃ l k xs, x = .ref l ∧ y = .int k ∧ SqT K H l xs ∧ xs ≠ [] ∧ 0 ≤ k ∧ k ≤ 1000 ∧ xs.length ≤ 1000 ∧
  (k = 1 → Q (.ref l) H) ∧ (k ≠ 1 → ∀ p, H p = none → Q (.ref p) (upd H p (.tup (List.replicate k.toNat xs).flatten)))
section
variable {X : Cx}
theorem op_repA : OpR X (binaryOp .Mult) (rRepA X.K) := by
  intro pins s σ H x y v u Q I rx ry h
  obtain ⟨l, k, xs, rfl, rfl, hT, hne, h1, h2, hz, q1, q2⟩ := h
  by_cases big : 2 ≤ k
  · exact op_repT pins s σ H _ _ v u Q I rx ry ⟨l, k, xs, rfl, rfl, hT, hne, big, h2, hz, q2 (by omega)⟩
  cases rx
  obtain ⟨t, rfl⟩ := ry
  obtain ⟨its, r, ⟨⟨cls, dd, data, sl⟩, ho, hc, n, hd⟩, hs⟩ := I.tuple hT
  simp only at hc hd
  subst hc hd
  have hle : its.length = xs.length := r.length.symm
  have hi : its.toArray.isEmpty = false := by
    cases its with
    | nil => exact absurd (List.eq_nil_of_length_eq_zero hle.symm) hne
    | cons a b => rfl
  have hk : k = 0 ∨ k = 1 := by omega
  rcases hk with rfl | rfl
  · refine wpAny_binaryOp_repeat_ref (T := "tuple") (U := "int") (by decide) ⟨_, ho, rfl⟩ (fun s' => typeIs_int s' 0 t) noFill_tuple_mul F.fills_int_mul F.slot_int_rmul repeat_tuple F.slot_int_index.lookup
      (call_meets F.slot_int_rmul (typeIs_int s 0 t) F.entry_int_rmul (F.args_int_rmul_2 _ _) (int_rmul_tuple 0 t l its.toArray n dd sl)
        ⟨ho, rfl, ⟨_, ho, rfl⟩, call_meets F.slot_tuple_mul ⟨_, ho, rfl⟩ F.entry_tuple_mul (F.args_tuple_mul_2 _ _) (tuple_mul0 l its.toArray n dd sl t hi) ⟨ho, ?_⟩⟩)
    have q := q2 (by decide) _ (I.hok.fresh (Nat.le_refl _))
    refine ⟨.ref s.heap.objs.size, _, I.laid (t' := s.toks) (o := .tup (List.replicate (0 : Int).toNat xs).flatten) (fun b ob q => Heap.get?_push_of_some _ q) (Nat.le_refl _) ?_, rfl, q⟩
    exact ⟨Nat.zero_le _, [], .nil, IsTup.new _ _⟩
  · refine wpAny_binaryOp_repeat_ref (T := "tuple") (U := "int") (by decide) ⟨_, ho, rfl⟩ (fun s' => typeIs_int s' 1 t) noFill_tuple_mul F.fills_int_mul F.slot_int_rmul repeat_tuple F.slot_int_index.lookup
      (call_meets F.slot_int_rmul (typeIs_int s 1 t) F.entry_int_rmul (F.args_int_rmul_2 _ _) (int_rmul_tuple 1 t l its.toArray n dd sl)
        ⟨ho, rfl, ⟨_, ho, rfl⟩, call_meets F.slot_tuple_mul ⟨_, ho, rfl⟩ F.entry_tuple_mul (F.args_tuple_mul_2 _ _) (tuple_mul1 l its.toArray n dd sl t) ⟨ho, ?_⟩⟩)
    exact ⟨.ref l, H, I, rfl, q1 rfl⟩
end
end Gd

set_option Elab.async false
set_option linter.all false
set_option maxRecDepth 100000
set_option maxHeartbeats 4000000
/-! A tuple many times. -/
namespace Gd
open PySem PySem.Spec PyProof.Rows L2
/-- t * k, t not empty, few values in all -/
def rRepB (K : PySem.W.Frag) : R2 := fun x y H Q => ∃ l k xs, x = .ref l ∧ y = .int k ∧ SqT K H l xs ∧ xs ≠ [] ∧ 0 ≤ k ∧ k ≤ 100000 ∧ xs.length ≤ 10 ∧
  (k = 1 → Q (.ref l) H) ∧ (k ≠ 1 → ∀ p, H p = none → Q (.ref p) (upd H p (.tup (List.replicate k.toNat xs).flatten)))
section
variable {X : Cx}
theorem op_repB : OpR X (binaryOp .Mult) (rRepB X.K) := by
  intro pins s σ H x y v u Q I rx ry h
  obtain ⟨l, k, xs, rfl, rfl, hT, hne, h1, h2, hz, q1, q2⟩ := h
  by_cases few : k ≤ 1
  · exact op_repA pins s σ H _ _ v u Q I rx ry ⟨l, k, xs, rfl, rfl, hT, hne, h1, by omega, by omega, q1, q2⟩
  have two : 2 ≤ k := by omega
  have q := q2 (by omega)
  clear q1 q2
  cases rx
  obtain ⟨t, rfl⟩ := ry
  obtain ⟨its, r, ⟨⟨cls, dd, data, sl⟩, ho, hc, n, hd⟩, hs⟩ := I.tuple hT
  simp only at hc hd
  subst hc hd
  have len : its.length = xs.length := r.length.symm
  have some_ : its.toArray.isEmpty = false := by
    cases its with
    | nil => exact absurd (List.eq_nil_of_length_eq_zero len.symm) hne
    | cons a b => rfl
  have sz : its.toArray.size = xs.length := by rw [List.size_toArray, len]
  have all_ : ((its.toArray.size : Nat) : Int) * k ≤ 1000000 := by
    rw [sz]
    have a1 : ((xs.length : Nat) : Int) * k ≤ 10 * k := Int.mul_le_mul_of_nonneg_right (by omega) (by omega)
    omega
  have many : k.toNat * xs.length ≤ 100000 * 10 := Nat.mul_le_mul (by omega) hz
  have flat_ : (List.replicate k.toNat its).flatten.length ≤ sizeLine := by
    rw [PyProof.Rows.lm_len_rep_flat, len, sizeLine_eq]
    omega
  have d0 : (decide (k < -(2 ^ 63)) || decide (k ≥ 2 ^ 63)) = false := by
    rw [decide_eq_false (by omega), decide_eq_false (by omega)]
    rfl
  have d1 : (its.toArray.isEmpty || k == 1) = false := by
    rw [some_, Bool.false_or]
    exact beq_eq_false_iff_ne.mpr (by omega)
  have d2 : (decide (k ≤ 0) || its.toArray.isEmpty) = false := by
    rw [some_, Bool.or_false]
    exact decide_eq_false (by omega)
  have d4 : Builtin.Tuple.tupleTooMany (((its.toArray.size : Nat) : Int) * k) = false := by
    unfold Builtin.Tuple.tupleTooMany
    rw [sizeLine_eq]
    exact decide_eq_false (by omega)
  have met := tuple_mulW l its.toArray n dd sl k t d0 d1 d2 (by omega) d4 (by rw [size_rep, List.size_toArray]; exact flat_)
  refine wpAny_binaryOp_repeat_ref (T := "tuple") (U := "int") (by decide) ⟨_, ho, rfl⟩ (fun s' => typeIs_int s' k t) noFill_tuple_mul F.fills_int_mul F.slot_int_rmul repeat_tuple F.slot_int_index.lookup
    (call_meets F.slot_int_rmul (typeIs_int s k t) F.entry_int_rmul (F.args_int_rmul_2 _ _) (int_rmul_tuple k t l its.toArray n dd sl)
      ⟨ho, rfl, ⟨_, ho, rfl⟩, call_meets F.slot_tuple_mul ⟨_, ho, rfl⟩ F.entry_tuple_mul (F.args_tuple_mul_2 _ _) met ⟨ho, ?_⟩⟩)
  rw [size_rep]
  refine ⟨.ref s.heap.objs.size, _, I.laid (t' := s.toks) (o := .tup (List.replicate k.toNat xs).flatten) (fun b ob q => Heap.get?_push_of_some _ q) (Nat.le_refl _) ?_, rfl, q _ (I.hok.fresh (Nat.le_refl _))⟩
  exact ⟨by rw [PyProof.Rows.lm_len_rep_flat, sizeLine_eq]; omega, _, r.rep k.toNat, IsTup.new _ _⟩
end
end Gd

set_option Elab.async false
set_option linter.all false
set_option maxRecDepth 100000
set_option maxHeartbeats 4000000
/-! The first field of an exception of an own class that stands directly below a builtin one. -/
namespace GdX
open PySem PySem.Calls PyProof.Rows PySem.HandSPX Builtin Builtin.ObjectAttr
section
variable {prog : Program} {w : World} {A : Around} {R : Result → Shared → Prop} {hp : Heap} {g : Array GenState} {d : Drawn} {t : Nat} {os : OsState}
theorem osaG {B : String} {bmB : List Value} (SF : StoreFacts B bmB "object.__setattr__" "object") {K : W.Frag} {name : Str} {tk : Tok} {v : Value} {x C : Addr} {fv : Array Value} {cd : ClassData}
    (X : K.In hp) (hx : hp.get? x = some { cls := .ref C, data := .fields fv }) (hcd : W.clsIn K C = some cd)
    (hm : cd.mro = .ref C :: bmB) (hh : cd.hasDict = true) (ha : W.findIn K (.ref C) name = some none)
    (hq : ∀ h' tk' dx, (∀ b o, b ≠ x → hp.get? b = some o → h'.get? b = some o) → hp.objs.size ≤ dx → dx ≠ x →
      h'.get? x = some { cls := .ref C, dict := some dx, data := .fields fv } →
      h'.Ns1 dx (fun y => if y = name then some v else none) → R (.ok (.ret .none)) ⟨h', g, d, tk', os⟩) :
    codeAny (model prog w) A (.call (.builtin "object.__setattr__") ⟨[.ref x, .str name tk, v], []⟩) R ⟨hp, g, d, t, os⟩ := by
  have I : W.InstAt hp x { cls := .ref C, data := .fields fv } C none := ⟨hx, rfl, rfl, trivial⟩
  have ne : cd.mro.isEmpty = false := by rw [hm]; rfl
  have hob : cd.mro.contains (.type "object") = true := by
    rw [hm, List.contains_cons, SF.hasOwner, Bool.or_true]
  have hxs : x ≠ hp.objs.size := Nat.ne_of_lt (Heap.lt_size hx)
  have sub : W.Looks (model prog w) hp (isInstance (.ref x) (.type "object")) true := by
    refine I.type.andThen (W.looks_mroIn X ?_)
    unfold W.mroIn
    rw [hcd, Option.bind_some, if_neg (by rw [ne]; decide), hob]
  refine codeAny_call_builtin SF.slot.plain SF.entry (@W.check_slot (model prog w) _ _ ⟨hp, g, d, t, os⟩ "object.__setattr__" "object" "__setattr__" (.ref x) [.str name tk, v] [] _
    SF.kind SF.split sub (SF.args (.ref x) (.str name tk) v) ?_)
  have hmr : W.Looks (model prog w) hp (mroOf (.ref C)) cd.mro := (W.looks_clsIn X hcd).andThen .now
  have L3 : W.Looks (model prog w) hp (storeTaker? none) none := .now
  have hcls : W.Looks (model prog w) hp (classData C) cd := W.looks_clsIn X hcd
  rw [W.osa_eq, refuse_eq]
  refine wpAny_bind (wpAny_bind (I.type.at (wpAny_bind (hmr.at ?_))))
  rw [hm, refuseLoop_ref, SF.passes]
  refine wpAny_pure (wpAny_bind (I.type.at (wpAny_bind ((W.looks_findIn X ha).at (wpAny_bind (L3.at ?_))))))
  show wpAny _ _ (storeInOwnDict (.ref x) (.ref C) (.str name tk) name v false) _ _ _
  clear hmr hob ne sub hm
  obtain ⟨nm, bs, mro, ns, qn, hd, sn, sb, ab, col, del⟩ := cd
  have hh' : hd = true := hh
  subst hh'
  unfold storeInOwnDict ownDictForStores
  repeat (first
    | with_reducible refine store_in_new ?_ ?_
    | with_reducible refine wpAny_loadPart_at hx ?_
    | with_reducible refine hcls.at ?_
    | wp_step)
  · exact ⟨_, #[], _, (Heap.get?_update_ne _ _ _ _ hxs.symm).trans (Heap.get?_push_at rfl rfl), rfl, fun e he => absurd he (by simp), fun _ => rfl⟩
  · intro h' tk' hn' hs
    have hx₁ : (hp.push { cls := .type "dict", data := .dict #[] }).get? x = some { cls := .ref C, data := .fields fv } := Heap.get?_push_of_some _ hx
    refine hq h' tk' hp.objs.size (fun b o hb ho => ?_) (Nat.le_refl _) hxs.symm ?_ hn'
    · have far : b ≠ hp.objs.size := Nat.ne_of_lt (Heap.lt_size ho)
      exact (hs.2 b far).trans ((Heap.get?_update_ne _ _ _ _ hb).trans (Heap.get?_push_of_some _ ho))
    · exact (hs.2 x hxs).trans (Heap.get?_update_self _ hx₁ rfl)
end
end GdX

set_option Elab.async false
set_option linter.all false
set_option maxRecDepth 100000
set_option maxHeartbeats 4000000
namespace PySem
namespace XInvalidNumber
open PySem.W PySem.Calls PyProof.Rows PySem.HandSPX
/-! ### the text of __init__ -/
def iA (p1 p2 : Pos) : Arguments := { posonlyargs := [], args := [{ arg := "self", annotation := none, pos := p1 }, { arg := "value", annotation := none, pos := p2 }], vararg := none, kwonlyargs := [], kw_defaults := [], kwarg := none, defaults := [] }
def iB (q1 q2 q3 q4 : Pos) : List Stmt := [.Assign [.Attribute (.Name "self" q1) "value" q2] (.Name "value" q3) q4]
def iS : Scope := { kind := .function, names := [(PySem.Str.ofString "self", .local), (PySem.Str.ofString "value", .local)], isGenerator := false, isCoroutine := false, more := [] }
/-- what the written part says of Low, at C, and of its __init__, at fI -/
structure InvalidNumberTxt (K : Frag) (mg : Str → Option Value) (C fI : Addr) : Prop where
  gC : mg "InvalidNumber" = some (.ref C)
  cls : ∃ nm q N bs sn sub ab col dd k0 k1 k2 k3 k5, K.lookup C = some (excClassObj nm q C N bs [.type "IndexError", .type "LookupError", .type "Exception", .type "BaseException", .type "object"] true sn sub ab col dd k0 k1 k2 k3 k5 "IndexError.__new__")
  sa : findIn K (.ref C) "__setattr__" = some (some (.builtin "object.__setattr__"))
  ga : findIn K (.ref C) "__getattribute__" = some (some (.builtin "BaseException.__getattribute__"))
  gg : findIn K (.ref C) "__getattr__" = some none
  noN : findIn K (.ref C) "value" = some none
  iC : findIn K (.ref C) "__init__" = some (some (.ref fI))
  tC : typeIn K (.ref fI) = some (.type "function")
  kC : keepIn K (.ref C) = true
  exC : subIn K (.ref C) (.type "BaseException") = some true
  tyC : typeIn K (.ref C) = some (.type "type")
  hdC : hasDictIn K C = true
  te : exmOne K (.ref C) (.ref C) = some true
  fn : ∃ (oc : Value) (od : Option Addr) (doc pm : Value) (an : Option Addr) (cdv ct : Value) (osl : Array (Option Value)) (p1 p2 q1 q2 q3 q4 : Pos),
    K.lookup fI = some ⟨oc, od, .func (fnOf "__init__" "InvalidNumber.__init__" (iA p1 p2) (iB q1 q2 q3 q4) iS .none .none doc pm an cdv ct), osl⟩ ∧ codeIn K cdv "InvalidNumber.__init__" = true
theorem one_size (v : Value) : [v].length ≤ sizeLine := by
  rw [sizeLine_eq]
  exact (by decide : 1 ≤ 16777216)
theorem kept_but {K : Frag} {h h' : Heap} {x : Addr} (X : K.In h) (hx : K.lookup x = none) (k : ∀ b o, b ≠ x → h.get? b = some o → h'.get? b = some o) : K.In h' := fun a o e =>
  k a o (fun z => by rw [z, hx] at e; cases e) (X a o e)
theorem ldC {M : Model} {s : Shared} {name : Str} {scope : Scope} {L a : Addr} {cd : Value} {m : Str → Option Value} {x : Str} {pos : Pos} {v : Value} {Q : Value → Shared → Prop} {A : Around} {E : Value → Shared → Prop} (hn : s.heap.Ns L m) (hv : m x = some v) (h : Q v s)
    (hk : scope.kind = .function := by rfl) (hl : (envOfC name scope L a cd).kindOf x = some .local := by rfl) (hd : (x == ("__debug__" : Str)) = false := by decide) :
    wpAny M A (eval (.Name x pos) (envOfC name scope L a cd)) Q E s := wpAny_Name (wpAny_loadName_local hk hl hn hv h) hd
/-- what __init__ leaves of a fresh exception at x -/
structure InitEnd (h h' : Heap) (x C dx t1 : Addr) (v : Value) : Prop where
  keep : ∀ b o, b ≠ x → h.get? b = some o → h'.get? b = some o
  obj : h'.get? x = some { cls := .ref C, dict := some dx, data := .fields #[.ref t1, .none, .none, .none, .bool false, .none] }
  dbig : h.objs.size ≤ dx
  dne : dx ≠ x
  ns : h'.Ns1 dx (fun y => if y = "value" then some v else none)
/-- a made Low -/
structure OwnMade (h h' : Heap) (e C d : Addr) (v : Value) : Prop where
  keep : ∀ b o, h.get? b = some o → h'.get? b = some o
  new : h.objs.size ≤ e
  obj : ∃ oe vs, h'.get? e = some oe ∧ oe.cls = .ref C ∧ oe.dict = some d ∧ oe.data = .fields vs ∧ vs[1]? = some .none
  dbig : h.objs.size ≤ d
  dne : d ≠ e
  ns : h'.Ns1 d (fun y => if y = "value" then some v else none)
section
variable {prog : Program} {w : World} {A : Around} {E : Value → Shared → Prop} {R : Result → Shared → Prop} {s : Shared} {K : Frag} {mg : Str → Option Value} {C fI : Addr}
theorem low_init (T : InvalidNumberTxt K mg C fI) {x t0 : Addr} {v : Value} (X : K.In s.heap) (hlim : s.heap.NoLimit) (hx : s.heap.get? x = some (excO C t0)) (hnx : K.lookup x = none) (hroom : A.depth < recursionLimit)
    (hq : ∀ h' tk dx, InitEnd s.heap h' x C dx t0 v → R (.ok (.ret .none)) { s with heap := h', toks := tk }) :
    codeAny (model prog w) A (.call (.ref fI) ⟨[.ref x, v], []⟩) R s := by
  obtain ⟨oc, od, doc, pm, an, cdv, ct, osl, p1, p2, q1, q2, q3, q4, ho, hcd⟩ := T.fn
  obtain ⟨nm, q, N, bs, sn, sub, ab, col, dd, k0, k1, k2, k3, k5, hC⟩ := T.cls
  have hcl : clsIn K C = some { name := nm, bases := bs, mro := .ref C :: [.type "IndexError", .type "LookupError", .type "Exception", .type "BaseException", .type "object"], ns := N, qualname := q, hasDict := true, slotNames := sn, subclasses := sub, abstract := ab, collection := col, hasDel := false } := by unfold clsIn; rw [hC] <;> rfl
  refine Att.call_fn (binds := [("self", .ref x), ("value", v)]) X hlim ho hcd hroom (BindsTo.of_eq (by first | rfl | with_unfolding_all rfl)) (by first | rfl | decide | with_unfolding_all rfl) (fun s₁ IC => ?_) rfl rfl rfl
  obtain ⟨h₁, tk₁, rfl⟩ := IC.toInCall.same
  have k : ∀ b o, s.heap.get? b = some o → h₁.get? b = some o := IC.toInCall.keep
  have hn := IC.toInCall.ns
  have hxL : s.heap.objs.size ≠ x := Nat.ne_of_gt (Heap.lt_size hx)
  have X₁ : K.In h₁ := X.keeps k
  have hx₁ := k _ _ hx
  -- self.by = by
  show wpAny _ _ (execs _ _) _ _ _
  refine wpAny_execs_cons (plainObj_wpAny_Assign_Attribute ?_)
  refine ldC (v := v) hn (by first | rfl | with_unfolding_all rfl | kernel_rfl) (ldC (v := .ref x) hn (by first | rfl | with_unfolding_all rfl | kernel_rfl) ?_)
  refine set_plain X₁ (ox := excO C t0) (od := none) ⟨hx₁, rfl, rfl, trivial⟩ T.sa ?_
  refine GdX.osaG F.store_IndexError X₁ hx₁ hcl rfl rfl T.noN (fun h₃ tk₃ dx k₃ dn dne hx₃ hn₃ => ?_)
  show wpAny _ _ (execs _ _) _ _ _
  have z : s.heap.objs.size < h₁.objs.size := hn.lt
  exact wpAny_execs_nil (hq h₃ tk₃ dx ⟨fun b o hb e => k₃ b o hb (k b o e), hx₃, Nat.le_of_lt (Nat.lt_of_lt_of_le z dn), dne, hn₃⟩)
theorem low_made (T : InvalidNumberTxt K mg C fI) {v : Value} (X : K.In s.heap) (hlim : s.heap.NoLimit) (hroom : A.depth + 1 < recursionLimit)
    (hq : ∀ h' tk e d, OwnMade s.heap h' e C d v → R (.ok (.ret (.ref e))) { s with heap := h', toks := tk }) :
    codeAny (model prog w) A (.call (.ref C) ⟨[v], []⟩) R s := by
  obtain ⟨nm, q, N, bs, sn, sub, ab, col, dd, k0, k1, k2, k3, k5, hC⟩ := T.cls
  obtain ⟨hp, g, dr, tk, os⟩ := s
  have k : ∀ b o, hp.get? b = some o → ((hp.push (kdv_tup [v])).push (excO C hp.objs.size)).get? b = some o := fun b o e => Heap.get?_push_of_some _ (Heap.get?_push_of_some _ e)
  have hget : ((hp.push (kdv_tup [v])).push (excO C hp.objs.size)).get? (hp.objs.size + 1) = some (excO C hp.objs.size) := by heap_get
  have hnx : K.lookup (hp.objs.size + 1) = none := by
    cases e : K.lookup (hp.objs.size + 1) with
    | none => rfl
    | some o =>
      have z : hp.get? (hp.objs.size + 1) = some o := X _ _ e
      exact absurd (Nat.lt_of_succ_lt (Heap.lt_size z)) (Nat.lt_irrefl _)
  refine call_own F.excBase_IndexError (fun _ => rfl) (X _ _ hC) (looks_findIn X T.iC) (fun self => bind_fn X self T.tC) (one_size v) ?_
  refine low_init (s := ⟨(hp.push (kdv_tup [v])).push (excO C hp.objs.size), g, dr, tk, os⟩) T (X.keeps k) (hlim.keeps k) hget hnx ?_ fun h' tk' dx ⟨k', hx, dn, dne, hns⟩ => ?_
  · show A.depth + 1 < recursionLimit
    exact hroom
  · have old : ∀ b o, hp.get? b = some o → h'.get? b = some o := fun b o e => k' b o (Nat.ne_of_lt (Nat.lt_succ_of_lt (Heap.lt_size e))) (k b o e)
    have z : hp.objs.size + 1 + 1 ≤ dx := by
      first
        | (simpa only [Heap.size_push] using dn)
        | exact dn
        | (have q := dn; rw [Heap.size_push, Heap.size_push] at q; exact q)
    exact ⟨rfl, hq h' tk' (hp.objs.size + 1) dx ⟨old, Nat.le_succ _, ⟨_, _, hx, rfl, rfl, rfl, rfl⟩, Nat.le_trans (Nat.le_trans (Nat.le_succ _) (Nat.le_succ _)) z, dne, hns⟩⟩
end
end XInvalidNumber
end PySem
namespace L2
open PySem PySem.Spec PyProof.Rows
theorem relO_InvalidNumber {v : V} {v' : Value} (r : RelV v v') (f : Str) : RelO (List.lookup f [(("value" : Str), v)]) (if f = "value" then some v' else none) := by
  by_cases hw : f = "value"
  · subst hw
    rw [if_pos rfl]
    have q : List.lookup ("value" : Str) [(("value" : Str), v)] = some v := by simp [List.lookup]
    rw [q]
    exact r
  · rw [if_neg hw]
    have qw : (f == ("value" : Str)) = false := by simpa using hw
    have q2 : List.lookup f [(("value" : Str), v)] = none := by simp [List.lookup, qw]
    rw [q2]
    trivial
section
variable {X : Cx} {C fI : Addr}
/-- Low(e) -/
def tMkInvalidNumber (C : Addr) (ta : TA) : St → Hp → XK → Prop := fun σ H Q => ta σ H fun vs H1 => ∃ v, vs = [v] ∧ ∀ d, H1 d = none → Q (.ref C) (some d) (upd H1 d (.xd [(("value" : Str), v)]))
theorem pmk_InvalidNumber {a : Expr} {ta : TA} {p pos : Pos} {k : Nat} (T : PySem.XInvalidNumber.InvalidNumberTxt X.K X.mg C fI) (hr : Room k X.A) (ha : PA X [a] ta) (hg : Gl X "InvalidNumber" := by rfl)
    (he : starEach (a :: []) X.env = (false, eval a X.env) :: starEach [] X.env := by rfl) (hpl : (backTo pos (starEach [] X.env)).any (·.1) = false := by rfl) :
    PMk X (.Call (.Name "InvalidNumber" p) [a] [] pos) (tMkInvalidNumber C ta) := by
  intro pins s σ H Q I h
  refine wpAny_Call_Name_kw (ld_glob I hg T.gC ?_)
  refine PySem.W.callWith_K (h₀ := X.base) I.ok.mod.kin T.kC (thn (ha.run pos pins s σ H _ I h) fun us s1 hh => ?_) he hpl
  obtain ⟨vs, H1, I1, r1, v, ev, q1⟩ := hh
  subst ev
  refine ⟨I1.kIn, ?_⟩
  cases r1 with
  | cons rv rn =>
    rename_i v' us'
    cases rn
    show wpAny _ _ (call (.ref C) [v']) _ _ _
    have hlim := I1.nolimit
    obtain ⟨hp, g, dr, tk, os⟩ := s1
    refine wpAny_call (PySem.XInvalidNumber.low_made T I1.kIn hlim (by have := hr.dp; omega) fun h' tk' e d M => ?_)
    show MkP X pins σ Q (.ref e) ⟨h', g, dr, tk', os⟩
    obtain ⟨oe, fv, hoe, hc, hd, hdat, h1⟩ := M.obj
    have hns := M.ns
    obtain ⟨G', g1, g2⟩ := restrict h' fun b => decide (b ≠ e)
    have gk : ∀ b, b ≠ e → G'.get? b = h'.get? b := fun b hb => g1 b (decide_eq_true hb)
    have ge : G'.get? e = none := g2 e (by simp)
    have old : ∀ b o, hp.get? b = some o → G'.get? b = some o := fun b o q => (gk b (Nat.ne_of_lt (Nat.lt_of_lt_of_le (Heap.lt_size q) M.new))).trans (M.keep b o q)
    have ob : ObjOk X.prog X.w (upd H1 d (.xd [(("value" : Str), v)])) G' d (.xd [(("value" : Str), v)]) :=
      ⟨_, hns.at (fun o q => (gk d M.dne).trans q), fun f => relO_InvalidNumber rv f⟩
    have J : Inv X pins σ (upd H1 d (.xd [(("value" : Str), v)])) ⟨G', g, dr, tk', os⟩ := I1.laid (t' := tk') old M.dbig ob
    refine ⟨e, oe, fv, ⟨G', g, dr, tk', os⟩, _, .ref C, some d, rfl, J, fun b o q => ?_, ge, hoe, ⟨hc, hd⟩, hdat, h1, ?_, rfl, I1.bare, raises_own T.exC T.tyC, q1 d (I1.hok.fresh M.dbig)⟩
    · by_cases hb : b = e
      · have q' : G'.get? b = some o := q
        rw [hb, ge] at q'; cases q'
      · exact (gk b hb).symm.trans q
    · rw [upd_ne (Ne.symm M.dne)]
      exact I1.hok.fresh M.new
/-- raise Low(e) -/
def tRaiseInvalidNumber (C : Addr) (W : WX) (ta : TA) : TS := fun _ σ H => tMkInvalidNumber C ta σ H fun cls d H' => W cls d σ H'
theorem ps_raiseInvalidNumber {a : Expr} {ta : TA} {W : WX} {p pos pos2 : Pos} {k : Nat} (hc : X.calm = true) (T : PySem.XInvalidNumber.InvalidNumberTxt X.K X.mg C fI) (hr : Room k X.A) (tk : Takes X W) (ha : PA X [a] ta) (hg : Gl X "InvalidNumber" := by rfl)
    (he : starEach (a :: []) X.env = (false, eval a X.env) :: starEach [] X.env := by rfl) (hpl : (backTo pos (starEach [] X.env)).any (·.1) = false := by rfl) :
    PS X (.Raise (some (.Call (.Name "InvalidNumber" p) [a] [] pos)) none pos2) (tRaiseInvalidNumber C W ta) := ps_raise hc tk (pmk_InvalidNumber T hr ha hg he hpl)
/-- low.by, low the exception that the suite holds (at a; its class cls, its dict d) -/
def tByInvalidNumber (C : Addr) (a : Addr) (cls : Value) (d : Option Addr) (te : TE) : TE := fun σ H Q => te σ H fun x H1 => x = .ref a ∧ cls = .ref C ∧ ∃ (dd : Addr) (v : V), d = some dd ∧ H1 dd = some (.xd [(("value" : Str), v)]) ∧ Q v H1
theorem pe_byInvalidNumber {a : Addr} {oe : Obj} {cls : Value} {d : Option Addr} {pn : List (Addr × Obj)} {e : Expr} {te : TE} {pos : Pos} (T : PySem.XInvalidNumber.InvalidNumberTxt X.K X.mg C fI) (hz : Zc cls d oe) (hf : ∃ vs, oe.data = .fields vs) (he : PE (X.suite a ((a, oe) :: pn)) e te)
    (hb : attributeBase e "value" X.env (eval e X.env) = eval e X.env := by rfl) :
    PE (X.suite a ((a, oe) :: pn)) (.Attribute e "value" pos) (tByInvalidNumber C a cls d te) := by
  refine ⟨fun pins s σ H Q I h => ?_⟩
  refine attr_of hb (thn (he.run pins s σ H _ I h) fun u s1 hh => ?_)
  obtain ⟨x, H1, I1, rx, ex, ec, dd, v, ed, ea, q⟩ := hh
  subst ex
  obtain rfl : u = Value.ref a := rx
  subst ec
  subst ed
  obtain ⟨ha, _⟩ := I1.pin (a, oe) (List.mem_append_left _ List.mem_cons_self)
  obtain ⟨vs, hd⟩ := hf
  have hx : ObjOk X.prog X.w H1 s1.heap dd (.xd [(("value" : Str), v)]) := I1.hok dd _ ea
  obtain ⟨mA, hns, hr⟩ := hx
  obtain ⟨od, ho, hl⟩ := lookIn_ns hns
  have l : List.lookup ("value" : Str) [(("value" : Str), v)] = some v := by simp [List.lookup]
  obtain ⟨u, hu, ru⟩ := RelO.some_of (v := v) (o := mA "value") (by rw [← l]; exact hr "value")
  have J : PySem.W.InstAt s1.heap a oe C (some od) := ⟨ha, hz.1, by unfold PySem.W.notCls; rw [hd] <;> rfl, by rw [hz.2]; exact ho⟩
  exact HandSPX.exc_get I1.kIn J T.ga T.gg T.exC (PySem.W.findObj_own T.hdC T.noN rfl (by rw [hl, hu])) (handed_of ru) ⟨v, H1, I1.tok _, ru, q⟩
end
end L2

set_option Elab.async false
set_option linter.all false
set_option maxRecDepth 100000
set_option maxHeartbeats 4000000
/-! zip of three sequences, each a list or a tuple. -/
namespace Gd
open PySem PySem.Spec PyProof.Rows L2
/-- all three walked together: at each turn a new triple -/
def ItzF (K : PySem.W.Frag) (l1 l2 l3 : Bool) (a b c : Addr) : It where
  go := fun i H => ∃ (xs ys zs : List V) (x y z : V), SqE K l1 H a xs ∧ SqE K l2 H b ys ∧ SqE K l3 H c zs ∧ xs[i]? = some x ∧ ys[i]? = some y ∧ zs[i]? = some z
  yld := fun i H v H' => ∃ T x y z, v = .ref T ∧ H T = none ∧ H' = upd H T (.tup [x, y, z]) ∧ (∀ xs, SqE K l1 H a xs → xs[i]? = some x) ∧ (∀ ys, SqE K l2 H b ys → ys[i]? = some y) ∧ ∀ zs, SqE K l3 H c zs → zs[i]? = some z
  stop := fun i H => ∃ xs ys zs : List V, SqE K l1 H a xs ∧ SqE K l2 H b ys ∧ SqE K l3 H c zs ∧ i = min xs.length (min ys.length zs.length)
theorem turn_zipF {P : Program} {w : World} {K : PySem.W.Frag} {elts : List Expr} {kk : Nat} {tpos : Pos} {l1 l2 l3 : Bool} {a b c z TI TO i1 i2 i3 : Addr} (S : ZipSep3 z TI TO i1 i2 i3 [i1, a] [i2, b] [i3, c]) :
    Turn P w K (.Tuple elts kk tpos) (ItzF K l1 l2 l3 a b c) [z, TI, TO, i1, i2, i3] z (fun i h => IsZip h z TI TO .none ∧ IsTupOf3 h TI (.ref i1) (.ref i2) (.ref i3) ∧ (∃ x y u, IsTupOf3 h TO x y u) ∧ ItE l1 h i1 a i ∧ ItE l2 h i2 b i ∧ ItE l3 h i3 c i) where
  mem := List.mem_cons_self
  obj := by
    rintro i h ⟨hz, hTI, ⟨x, y, u, hTO⟩, h1, h2, h3⟩ d hc
    simp only [List.mem_cons, List.not_mem_nil, or_false] at hc
    rcases hc with rfl | rfl | rfl | rfl | rfl | rfl
    · exact ⟨_, hz, fun v q => nomatch q⟩
    · exact ⟨_, hTI, fun v q => nomatch q⟩
    · exact ⟨_, hTO, fun v q => nomatch q⟩
    · exact h1.there
    · exact h2.there
    · exact h3.there
  keep := by
    rintro i h h' ⟨hz, hTI, ⟨x, y, u, hTO⟩, h1, h2, h3⟩ k
    exact ⟨k _ (by simp) _ hz, k _ (by simp) _ hTI, ⟨x, y, u, k _ (by simp) _ hTO⟩, h1.at fun o q => k _ (by simp) o q, h2.at fun o q => k _ (by simp) o q, h3.at fun o q => k _ (by simp) o q⟩
  item := by
    intro X hP hw hK hc i pins s σ H E I hf st hg
    subst hP hw hK
    obtain ⟨hz, hTI, ⟨x0, y0, u0, hTO⟩, h1, h2, h3⟩ := st
    obtain ⟨xs, ys, ws, x, y, e, hqx, hqy, hqz, hx, hy, he⟩ := hg
    obtain ⟨its, rv, p⟩ := seqE I hqx
    obtain ⟨its2, rv2, p2⟩ := seqE I hqy
    obtain ⟨its3, rv3, p3⟩ := seqE I hqz
    obtain ⟨u, hu, ru⟩ := rv.get hx
    obtain ⟨u2, hu2, ru2⟩ := rv2.get hy
    obtain ⟨u3, hu3, ru3⟩ := rv3.get he
    have hd : X.A.in1.handled = none := I.ok.hd hc
    have zl : z < s.heap.objs.size := Heap.lt_size hz
    refine wpAny_pyNext_zipD3_item S (drawsE hd (h1.apart p)) (drawsE hd (h2.apart p2)) (drawsE hd (h3.apart p3)) hz hTI hTO ⟨h1, p⟩ ⟨h2, p2⟩ ⟨h3, p3⟩ (lt_of_get hu) (lt_of_get hu2) (lt_of_get hu3) fun v1 v2 v3 g3 tk e1 e2 e3 z3 TO3 s1 s2 s3 hT hsz hk => ?_
    obtain rfl : v1 = u := by
      rw [List.getElem?_toArray, hu] at e1
      exact (Option.some.inj e1).symm
    obtain rfl : v2 = u2 := by
      rw [List.getElem?_toArray, hu2] at e2
      exact (Option.some.inj e2).symm
    obtain rfl : v3 = u3 := by
      rw [List.getElem?_toArray, hu3] at e3
      exact (Option.some.inj e3).symm
    refine ⟨_, rfl, wpAny_letOwnedTupleGo_zip (s := { s with heap := g3, toks := tk }) z3 fun h4 z4 sb => ?_⟩
    have hT4 : h4.get? s.heap.objs.size = some { cls := .type "tuple", data := .seq #[v1, v2, v3] } := (sb.2 _ (Nat.ne_of_gt zl)).trans hT
    have new : ObjOk X.prog X.w (upd H s.heap.objs.size (.tup [x, y, e])) h4 s.heap.objs.size (.tup [x, y, e]) := ⟨by show 3 ≤ sizeLine; decide, [v1, v2, v3], .cons ru (.cons ru2 (.cons ru3 .nil)), ⟨_, hT4, rfl, _, rfl⟩⟩
    have kp : ∀ c o, c ∉ [z, TI, TO, i1, i2, i3] → s.heap.get? c = some o → h4.get? c = some o := fun c o hb q => by
      simp only [List.mem_cons, List.not_mem_nil, or_false, not_or] at hb
      exact (sb.2 c hb.1).trans (hk c o hb.1 hb.2.2.1 hb.2.2.2.1 hb.2.2.2.2.1 hb.2.2.2.2.2 q)
    have J : Inv X pins σ (upd H s.heap.objs.size (.tup [x, y, e])) { s with heap := h4, toks := tk } := I.turnedNew (t' := tk) kp hf (Nat.le_refl _) new
    refine ⟨.ref s.heap.objs.size, _, J, rfl, ⟨_, x, y, e, rfl, I.hok.fresh (Nat.le_refl _), rfl, fun m hm => ?_, fun m hm => ?_, fun m hm => ?_⟩, ⟨z4, ?_, ⟨v1, v2, v3, ?_⟩, ?_, ?_, ?_⟩, fun c hcm => ?_⟩
    · rw [injE I hm hqx]
      exact hx
    · rw [injE I hm hqy]
      exact hy
    · rw [injE I hm hqz]
      exact he
    · exact (sb.2 _ S.TIz).trans (hk _ _ S.TIz S.TITO S.TIi1 S.TIi2 S.TIi3 hTI)
    · exact (sb.2 _ S.TOz).trans TO3
    · exact s1.1.at fun o q => (sb.2 _ S.zi1.symm).trans q
    · exact s2.1.at fun o q => (sb.2 _ S.zi2.symm).trans q
    · exact s3.1.at fun o q => (sb.2 _ S.zi3.symm).trans q
    · have lt : c < s.heap.objs.size := by
        obtain ⟨_, g1, _⟩ := h1.there
        obtain ⟨_, g2, _⟩ := h2.there
        obtain ⟨_, g3, _⟩ := h3.there
        have hm := hcm
        simp only [List.mem_cons, List.not_mem_nil, or_false] at hm
        rcases hm with rfl | rfl | rfl | rfl | rfl | rfl
        · exact zl
        · exact Heap.lt_size hTI
        · exact Heap.lt_size hTO
        · exact Heap.lt_size g1
        · exact Heap.lt_size g2
        · exact Heap.lt_size g3
      rw [upd_ne (Nat.ne_of_lt lt)]
      exact (hf c hcm).1
  done := by
    intro X hP hw hK hc i pins s σ H E I hf st hg
    subst hP hw hK
    obtain ⟨hz, hTI, ⟨x0, y0, u0, hTO⟩, h1, h2, h3⟩ := st
    obtain ⟨xs, ys, ws, hqx, hqy, hqz, hend⟩ := hg
    obtain ⟨its, rv, p⟩ := seqE I hqx
    obtain ⟨its2, rv2, p2⟩ := seqE I hqy
    obtain ⟨its3, rv3, p3⟩ := seqE I hqz
    have n1 : its.toArray.size = xs.length := by rw [List.size_toArray, rv.length]
    have n2 : its2.toArray.size = ys.length := by rw [List.size_toArray, rv2.length]
    have n3 : its3.toArray.size = ws.length := by rw [List.size_toArray, rv3.length]
    have hd : X.A.in1.handled = none := I.ok.hd hc
    refine wpAny_pyNext_zipD3_end S (drawsE hd (h1.apart p)) (drawsE hd (h2.apart p2)) (drawsE hd (h3.apart p3)) hz hTI hTO ⟨h1, p⟩ ⟨h2, p2⟩ ⟨h3, p3⟩ (by omega) (by omega) (by omega) (by omega) fun g3 tk hk => ⟨rfl, I.turnedL (t' := tk) (fun c o hb q => ?_) hf⟩
    simp only [List.mem_cons, List.not_mem_nil, or_false, not_or] at hb
    exact hk c o hb.1 hb.2.2.1 hb.2.2.2.1 hb.2.2.2.2.1 hb.2.2.2.2.2 q
  self := fun A i s Q E st h => wpAny_pyIter_zip st.1 h
theorem vals_three {x y z : V} {us : List Value} (h : Vals [x, y, z] us) : ∃ u v w, us = [u, v, w] ∧ RelV x u ∧ RelV y v ∧ RelV z w := by
  cases h with
  | cons h1 t =>
    cases t with
    | cons h2 t =>
      cases t with
      | cons h3 t =>
        cases t
        exact ⟨_, _, _, rfl, h1, h2, h3⟩
def iZipF (K : PySem.W.Frag) (ta : TA) : TI := fun σ H R => ta σ H fun vs H1 => ∃ l1 l2 l3 a b c xs ys zs, vs = [.ref a, .ref b, .ref c] ∧ SqE K l1 H1 a xs ∧ SqE K l2 H1 b ys ∧ SqE K l3 H1 c zs ∧ R (ItzF K l1 l2 l3 a b c) H1
theorem call_of_zipF {X : Cx} {elts : List Expr} {kk : Nat} {tpos : Pos} {pins : List (Addr × Obj)} {σ : L2.St} {H : Hp} {s : Shared} {R : It → Hp → Prop} {l1 l2 l3 : Bool} {a b c : Addr} {i1 i2 i3 : Array Value} (I : Inv X pins σ H s)
    (p1 : HpE l1 s.heap a i1) (p2 : HpE l2 s.heap b i2) (p3 : HpE l3 s.heap c i3) (q : R (ItzF X.K l1 l2 l3 a b c) H) :
    wpAny (model X.prog X.w) X.A (call (.type "zip") [.ref a, .ref b, .ref c]) (fun v s2 => wpAny (model X.prog X.w) X.A (pyIter v) (PIE X pins σ (.Tuple elts kk tpos) R) X.xe s2) X.xe s := by
  refine zip_begins3 beginsE beginsE beginsE p1 p2 p3 fun h1 hz hTI hTO g1 g2 g3 _ hk => wpAny_pyIter_zip hz ?_
  have sep : ZipSep3 (s.heap.objs.size + 5) (s.heap.objs.size + 3) (s.heap.objs.size + 4) s.heap.objs.size (s.heap.objs.size + 1) (s.heap.objs.size + 2) [s.heap.objs.size, a] [s.heap.objs.size + 1, b] [s.heap.objs.size + 2, c] :=
    zip_sep3 (fun c hc => by rw [List.mem_singleton.mp hc]; exact p1.lt) (fun c hc => by rw [List.mem_singleton.mp hc]; exact p2.lt) (fun c hc => by rw [List.mem_singleton.mp hc]; exact p3.lt)
  refine ⟨s.heap.objs.size + 5, [s.heap.objs.size + 5, s.heap.objs.size + 3, s.heap.objs.size + 4, s.heap.objs.size, s.heap.objs.size + 1, s.heap.objs.size + 2], _, _, H, rfl, I.kept (t' := s.toks) hk, turn_zipF sep, ⟨hz, hTI, ⟨_, _, _, hTO⟩, .new g1, .new g2, .new g3⟩, fun c hc => ?_, q⟩
  have le : s.heap.objs.size ≤ c := by
    simp only [List.mem_cons, List.not_mem_nil, or_false] at hc
    rcases hc with rfl | rfl | rfl | rfl | rfl | rfl
    all_goals first | exact Nat.le_refl _ | exact Nat.le_add_right _ _
  exact I.fpOk le (I.hok.fresh le)
theorem pi_zipF {X : Cx} {e e2 e3 : Expr} {ta : TA} {p pos tpos : Pos} {elts : List Expr} {kk : Nat} (hg : Gl X "zip") (hm : X.mg "zip" = none) (ha : PA X [e, e2, e3] ta)
    (hs : starEach [e, e2, e3] X.env = (false, eval e X.env) :: starEach [e2, e3] X.env := by rfl) (hpl : (backTo pos (starEach [e2, e3] X.env)).any (·.1) = false := by rfl) :
    PI X (.Tuple elts kk tpos) (.Call (.Name "zip" p) [e, e2, e3] [] pos) (iZipF X.K ta) := by
  constructor
  intro pins s σ H R I h
  refine Call_ (ld_blt I hg hm PyProof.Rows.boot_zip (PyProof.Rows.callWith_type1 (thn (ha.run pos pins s σ H _ I h) fun us s1 ⟨vs, H1, I1, r1, l1, l2, l3, a, b, c, xs, ys, zs, ex, hx, hy, hz, q⟩ => ?_) hs hpl))
  subst ex
  obtain ⟨u1, u2, u3, rfl, r1, r2, r3⟩ := vals_three r1
  cases r1
  cases r2
  cases r3
  obtain ⟨i1, _, p1⟩ := seqE I1 hx
  obtain ⟨i2, _, p2⟩ := seqE I1 hy
  obtain ⟨i3, _, p3⟩ := seqE I1 hz
  exact call_of_zipF I1 p1 p2 p3 q
/-- a new triple of the i-th ones -/
def YTri (xs ys zs : Nat → Option V) : Nat → Hp → V → Hp → Prop := fun i H v H' => ∃ T x y z, v = .ref T ∧ H T = none ∧ H' = upd H T (.tup [x, y, z]) ∧ xs i = some x ∧ ys i = some y ∧ zs i = some z
theorem walk_zipF {K : PySem.W.Frag} {l1 l2 l3 : Bool} {a b c : Addr} {xs ys zs : List V} {n : Nat} (hn : n = min xs.length (min ys.length zs.length)) :
    Walk (ItzF K l1 l2 l3 a b c) n (fun H => SqE K l1 H a xs ∧ SqE K l2 H b ys ∧ SqE K l3 H c zs) (YTri (fun i => xs[i]?) (fun i => ys[i]?) (fun i => zs[i]?)) where
  goes := fun i H hi q => by
    have h1 : i < xs.length := by omega
    have h2 : i < ys.length := by omega
    have h3 : i < zs.length := by omega
    exact ⟨xs, ys, zs, xs[i], ys[i], zs[i], q.1, q.2.1, q.2.2, List.getElem?_eq_getElem h1, List.getElem?_eq_getElem h2, List.getElem?_eq_getElem h3⟩
  stops := fun H q => ⟨xs, ys, zs, q.1, q.2.1, q.2.2, hn⟩
  yields := by
    rintro i H v H' _ q ⟨T, x, y, z, h1, h2, h3, h4, h5, h6⟩
    exact ⟨T, x, y, z, h1, h2, h3, h4 xs q.1, h5 ys q.2.1, h6 zs q.2.2⟩
end Gd

set_option Elab.async false
set_option linter.all false
set_option maxRecDepth 100000
set_option maxHeartbeats 4000000
/-! y in o, y not in o by an own __contains__ whose answer is a truth value. -/
namespace Gd
open PySem PySem.Spec PyProof.Rows L2
section
variable {X : Cx} {CX : CXT} {C f : Addr} {fd : FuncData} {k : Nat} {ps : List Str} {sp : Sp}
def rContO (C : Addr) (no : Bool) (sp : Sp) (E : XK) : R2 := fun y x H Q => ∃ p dx fs, x = .ref p ∧ H p = some (.ins C dx fs) ∧ sp [x, y] H (fun v H' => ∃ c, v = .bl c ∧ Q (.bl (c != no)) H') E
theorem op_inO {E : XK} (hm : Meth X.K C "__contains__" f) (F : FnOk X.prog X.w X.K X.mg X.base CX k f fd ps sp) (hr : Room (k + 1) X.A) (hb : Binds X.K fd ps []) (hx : ∀ σ, PassesAt CX X σ E) : OpR X (compareOp .In) (rContO C false sp E) := by
  intro pins s σ H y x u v Q I ry rx h
  obtain ⟨p, dx, fs, rfl, ep, hsp⟩ := h
  cases rx
  obtain ⟨od, J⟩ := seen I ep
  obtain ⟨m, hF⟩ := I.fr
  refine PySem.W.in_K hF I.ok.mod.kin J hm.at_ hm.fn ?_
  refine wpAny_mono (runAt (.inl rfl) F hr hb .nil (hx σ) I (.cons (show RelV (V.ref p) (Value.ref p) from rfl) (.cons ry .nil)) hsp) ?_ (fun _ _ z => z)
  rintro w s' ⟨z, H', I', rz, c, rfl, q⟩
  cases rz
  exact wpAny_truthy_bool ⟨.bl c, H', I', rfl, by simpa using q⟩
theorem op_notInO {E : XK} (hm : Meth X.K C "__contains__" f) (F : FnOk X.prog X.w X.K X.mg X.base CX k f fd ps sp) (hr : Room (k + 1) X.A) (hb : Binds X.K fd ps []) (hx : ∀ σ, PassesAt CX X σ E) : OpR X (compareOp .NotIn) (rContO C true sp E) := by
  intro pins s σ H y x u v Q I ry rx h
  obtain ⟨p, dx, fs, rfl, ep, hsp⟩ := h
  cases rx
  obtain ⟨od, J⟩ := seen I ep
  obtain ⟨m, hF⟩ := I.fr
  refine PySem.W.notIn_K hF I.ok.mod.kin J hm.at_ hm.fn ?_
  refine wpAny_mono (runAt (.inl rfl) F hr hb .nil (hx σ) I (.cons (show RelV (V.ref p) (Value.ref p) from rfl) (.cons ry .nil)) hsp) ?_ (fun _ _ z => z)
  rintro w s' ⟨z, H', I', rz, c, rfl, q⟩
  cases rz
  exact wpAny_truthy_bool ⟨.bl (!c), H', I', rfl, by simpa using q⟩
end
end Gd

set_option Elab.async false
set_option linter.all false
set_option maxRecDepth 100000
set_option maxHeartbeats 4000000
/-! xs[::-1] of a list; xs == [] ; the greatest of a tuple. -/
namespace Gd
open PySem PySem.Spec PyProof.Rows L2
section
variable {X : Cx}
def tRevL (K : PySem.W.Frag) (te : TE) : TE := fun σ H Q => te σ H fun x H1 => ∃ a xs, x = .ref a ∧ SqL K H1 a xs ∧ ∀ p, H1 p = none → Q (.ref p) (upd H1 p (.lst xs.reverse))
theorem pe_revL {e : Expr} {te : TE} {k : Nat} {p1 p2 p3 pos : Pos} (he : PE X e te) : PE X (.Subscript e (.Slice none none (some (.UnaryOp .USub (.Constant (.int 1) k p1) p2)) p3) pos) (tRevL X.K te) := by
  constructor
  intro pins s σ H Q I h
  refine Subscript_ (thn (he.run pins s σ H _ I h) fun v s1 ⟨x, H1, I1, r1, a, xs, ex, hx, q⟩ => ?_)
  subst ex
  cases r1
  have step : PO X (some (.UnaryOp .USub (.Constant (.int 1) k p1) p2)) (tPart (tUn (rU fun i => .int (-i)) (tC (.int 1)))) := po_some (pe_un un_neg pe_int)
  refine wpAny_Slice (thn (po_none.run pins s1 σ H1 (fun o G => o = none ∧ G = H1) I1 ⟨rfl, rfl⟩) fun vl s2 ⟨l, G, I2, pl, el, eG⟩ => ?_)
  subst el eG
  refine thn (po_none.run pins s2 σ G (fun o G2 => o = none ∧ G2 = G) I2 ⟨rfl, rfl⟩) fun vu s3 ⟨u, G2, I3, pu, eu, eG2⟩ => ?_
  subst eu eG2
  refine thn (step.run pins s3 σ G2 (fun o G3 => o = some (-1) ∧ G3 = G2) I3 ⟨1, rfl, -1, rfl, rfl, rfl⟩) fun vs s4 ⟨o, G3, I4, ps, eo, eG3⟩ => ?_
  subst eo eG3
  let sh : Shared := { s4 with heap := s4.heap.push { cls := .type "slice", data := .fields #[vl, vu, vs] } }
  have J : Inv X pins σ G3 sh := I4.kept (t' := s4.toks) fun b ob z => Heap.get?_push_of_some _ z
  obtain ⟨its, r, ht, hz⟩ := J.list hx
  have hlen := r.length
  show wpAny (model X.prog X.w) X.A (subscriptTail e (.Slice none none (some (.UnaryOp .USub (.Constant (.int 1) k p1) p2)) p3) (.ref a) (.ref s4.heap.objs.size)) (EP X pins σ Q) X.xe sh
  refine tail_any (ops := [.ref a, .ref s4.heap.objs.size]) ht.isList.typeIs (PySem.F.slot_list_getitem.lookup) ?_ (by with_unfolding_all rfl)
  refine wpAny_getItem_list_slice ht.isList (Heap.IsSliceOf.new _ vl vu vs) pl pu ps (by decide) ?_ (by rw [List.size_toArray]; omega)
  rw [PySem.W.krv_pick]
  refine ⟨.ref _, _, J.laid (t' := s4.toks) (o := .lst xs.reverse) (fun b ob z => Heap.get?_push_of_some _ z) (Nat.le_refl _) ?_, rfl, q _ (J.hok.fresh (Nat.le_refl _))⟩
  exact ⟨by rw [List.length_reverse]; exact hz, _, 0, r.reverse, Heap.get?_push_size _ rfl⟩
/-- xs == [] -/
def rEqNil (K : PySem.W.Frag) : R2 := fun x y H Q => ∃ (a b : Addr) (xs : List V), x = .ref a ∧ y = .ref b ∧ SqL K H a xs ∧ SqL K H b [] ∧ Q (.bl xs.isEmpty) H
theorem op_eqNil (hu : X.A.units < cLine) : OpR X (compareOp .Eq) (rEqNil X.K) := by
  intro pins s σ H x y v u Q I rx ry h
  obtain ⟨a, b, xs, rfl, rfl, ha, hb, q⟩ := h
  cases rx
  cases ry
  obtain ⟨its, r1, p1, _⟩ := I.list ha
  obtain ⟨its2, r2, p2, _⟩ := I.list hb
  cases r2
  cases r1 with
  | nil => exact PySem.SeqAt.RcAt.lists (e := fun _ => true) p1.isList p2.isList rfl hu (fun j h1 _ => absurd h1 (Nat.not_lt_zero _)) _ _ _ _ ⟨.bl true, H, I, rfl, q⟩
  | cons r t => exact PySem.SeqAt.RcAt.lists_lengths p1.isList p2.isList rfl hu _ _ _ _ ⟨.bl false, H, I, rfl, q⟩
end
section
variable {prog : Program} {w : World} {A : Around} {E : Value → Shared → Prop} {s : Shared} {l : Addr} {xs : Array (Int × Tok)}
theorem max_tup {Q : Value → Shared → Prop} (hh : A.handled = none) (hl : s.heap.IsTuple l (intItems xs)) (hne : 0 < xs.size)
    (h : ∀ v h' tk, (intItems xs)[argBest (fun i j => decide (numAt xs i > numAt xs j)) (xs.size - 1)]? = some v → (∀ b o, s.heap.get? b = some o → h'.get? b = some o) → Q v { s with heap := h', toks := tk }) :
    wpAny (model prog w) A (call (.builtin "max") [.ref l]) Q E s := by
  have hlt : l < s.heap.objs.size := by obtain ⟨_, e, _⟩ := hl; exact Heap.lt_size e
  refine call_max_walk (wpAny_pyIter_tuple hl ?_)
  refine ⟨_, _, _, _, _, _, _, rfl, Walks.tuple (A := A.in1) hh _ l (Nat.ne_of_lt hlt) (intItems xs), ⟨⟨_, Heap.get?_push_size _ rfl, rfl, rfl⟩, hl.push _⟩, fun b hb => ?_, by simpa [intItems] using hne, CmpOf.ints_gt (numAt xs) (fun _ _ => intItems_at), fun v h' tk hP hk => ?_⟩
  · show b < (s.heap.push _).objs.size
    rw [Heap.size_push]
    rcases List.mem_cons.mp hb with rfl | hb
    · exact Nat.lt_succ_self _
    · rcases List.mem_cons.mp hb with rfl | hb
      · exact Nat.lt_succ_of_lt hlt
      · cases hb
  · refine h v h' tk (by simpa [intItems] using hP) fun b o e => hk b o (fun hm => ?_) (Heap.get?_push_of_some _ e)
    rcases List.mem_cons.mp hm with e1 | hm
    · exact absurd (e1 ▸ Heap.lt_size e) (Nat.lt_irrefl _)
    · cases hm
theorem max_tup_raw {its : List Value} {ns : List Int} {Q : Value → Shared → Prop} (hh : A.handled = none) (hl : s.heap.IsTuple l its.toArray) (hi : IntsAre its ns) (hne : 0 < ns.length)
    (h : ∀ h' tk M t', (∀ b o, s.heap.get? b = some o → h'.get? b = some o) → M ∈ ns → (∀ a, a ∈ ns → a ≤ M) → Q (.int M t') { s with heap := h', toks := tk }) : wpAny (model prog w) A (call (.builtin "max") [.ref l]) Q E s := by
  obtain ⟨xs, e⟩ := hi.allInts.items
  have hn : numsOf (intItems xs).toList = ns := by rw [← e]; exact hi.numsOf
  rw [nums_intItems] at hn
  subst hn
  rw [e] at hl
  have hsz : 0 < xs.size := by simpa using hne
  refine max_tup hh hl hsz fun v h' tk hv hk => ?_
  obtain ⟨t, rfl⟩ := intItems_at hv
  obtain ⟨h1, h2⟩ := argBest_gt (numAt xs) (xs.size - 1)
  refine h h' tk _ t hk ?_ fun a ha => ?_
  · rw [numAt_eq]; exact PySem.getD_mem (by rw [List.length_map, Array.length_toList]; omega)
  · obtain ⟨j, hj, rfl⟩ := mem_getD ha
    rw [List.length_map, Array.length_toList] at hj
    rw [← numAt_eq]; exact h2 j (by omega)
end
section
variable {X : Cx}
/-- max(t) of a tuple of ints -/
def rMaxT (K : PySem.W.Frag) : List V → Hp → VK → Prop := fun vs H Q => ∃ (a : Addr) (ns : List Int), vs = [V.ref a] ∧ SqT K H a (ns.map V.int) ∧ 0 < ns.length ∧ ∀ m, m ∈ ns → (∀ y, y ∈ ns → y ≤ m) → Q (.int m) H
theorem cr_maxT (hc : X.calm = true) : CallR X (.builtin "max") (rMaxT X.K) := by
  intro pins s σ H vs us Q I r h
  obtain ⟨a, ns, rfl, hs, hne, q⟩ := h
  obtain ⟨its, rv, hl, _⟩ := I.tuple hs
  rw [Vals.ref1 r]
  exact max_tup_raw (I.ok.hd hc) hl (intsAre_of rv) hne fun h' tk m t' hk h1 h2 => ⟨.int _, H, I.kept hk, ⟨_, rfl⟩, q m h1 h2⟩
end
end Gd

set_option Elab.async false
set_option linter.all false
set_option maxRecDepth 100000
set_option maxHeartbeats 4000000
/-! dict(list of pairs) with tuples of integers and texts as keys. -/
namespace Gd
open PySem PySem.Spec PyProof.Rows L2
section
variable {X : Cx}
/-- what is stored, one behind the other -/
def stoAll (kvs : List (List Key × V)) (qs : List (List Key × Addr × V)) : List (List Key × V) := qs.foldl (fun acc q => putK acc q.1 q.2.2) kvs
theorem pairsT_of {pins : List (Addr × Obj)} {σ : L2.St} {H : Hp} {s : Shared} (I : Inv X pins σ H s) : ∀ {ps : List Addr} {qs : List (List Key × Addr × V)},
    Paired (fun p (q : List Key × Addr × V) => SqT X.K H p [.ref q.2.1, q.2.2] ∧ H q.2.1 = some (.tup (q.1.map kV))) ps qs →
    ∃ prs : List (List Key × Addr × Value), prs.length = ps.length ∧ (∀ (j : Nat) (q : List Key × Addr × Value), prs[j]? = some q → ∃ b : Addr, ps[j]? = some b ∧ IsTup s.heap b #[.ref q.2.1, q.2.2] ∧ H q.2.1 = some (.tup (q.1.map kV))) ∧
      ∀ acc xs, KT H acc xs → KT H (stoAll acc qs) (storedAllH xs prs)
  | _, _, .nil => ⟨[], rfl, fun j q e => by simp at e, fun _ _ h => h⟩
  | _, _, .cons (a := p) (b := q) h t => by
    obtain ⟨prs, hl, hp, hf⟩ := pairsT_of I t
    obtain ⟨its, rv, ht, _⟩ := I.tuple h.1
    obtain ⟨u, y, ei, ru, ry⟩ := vals2 rv
    subst ei
    cases ru
    refine ⟨(q.1, q.2.1, y) :: prs, by rw [List.length_cons, List.length_cons, hl], fun j r e => ?_, fun acc xs r => hf _ _ (KT.put r q.1 h.2 ry)⟩
    cases j with
    | zero =>
      have e' : (q.1, q.2.1, y) = r := Option.some.inj e
      subst e'
      exact ⟨p, rfl, ht, h.2⟩
    | succ j =>
      obtain ⟨b, e1, e2, e3⟩ := hp j r (by simpa using e)
      exact ⟨b, by simpa using e1, e2, e3⟩
theorem length_stoAll : ∀ (qs : List (List Key × Addr × V)) (kvs : List (List Key × V)), (stoAll kvs qs).length ≤ kvs.length + qs.length
  | [], kvs => Nat.le_refl _
  | q :: qs, kvs => by
    have h1 := length_stoAll qs (putK kvs q.1 q.2.2)
    have h2 := length_putK kvs q.1 q.2.2
    rw [List.length_cons]
    show (stoAll (putK kvs q.1 q.2.2) qs).length ≤ _
    omega
def rDictPT (K : PySem.W.Frag) : List V → Hp → VK → Prop := fun xs H Q => ∃ (a : Addr) (ps : List Addr) (qs : List (List Key × Addr × V)), xs = [.ref a] ∧ SqL K H a (ps.map V.ref) ∧
  Paired (fun p (q : List Key × Addr × V) => SqT K H p [.ref q.2.1, q.2.2] ∧ H q.2.1 = some (.tup (q.1.map kV))) ps qs ∧ ∀ p, H p = none → Q (.ref p) (upd H p (.dT (stoAll [] qs)))
theorem paired_len {α β : Type} {F : α → β → Prop} : ∀ {a : List α} {b : List β}, Paired F a b → a.length = b.length
  | _, _, .nil => rfl
  | _, _, .cons _ t => by rw [List.length_cons, List.length_cons, paired_len t]
theorem call_dictPT (hcalm : X.calm = true) (hu : X.A.units + 66 < cLine) : CallR X (.type "dict") (rDictPT X.K) := by
  intro pins s σ H xs us Q I r q
  obtain ⟨a, ps, qs, ex, hq, hp, q⟩ := q
  subst ex
  obtain ⟨u, eu, rx⟩ := vals1 r
  subst eu
  cases rx
  obtain ⟨its, rv, pl, hz⟩ := I.list hq
  have ei := refs_at rv
  subst ei
  rw [List.length_map] at hz
  obtain ⟨prs, hl, hpr, hf⟩ := pairsT_of I hp
  have hlq := paired_len hp
  refine call_dict_pairsH (knd := tupleKind (mixKind X.prog X.w)) (ps := prs) (n := prs.length) (PairArg.list a ((ps.map Value.ref).toArray) (fun j => (ps.getD j 0)) (prs.map fun q => (Value.ref q.2.1, q.2.2)) |> fun P => by rw [List.length_map] at P; exact P) (I.ok.hd hcalm) ?_ ?_ ?_ ?_ ?_ ?_
  · show X.A.units + 2 < cLine
    omega
  · refine ⟨pl, by simp [hl], fun j k v hj => ?_⟩
    rw [List.getElem?_map] at hj
    cases e : prs[j]? with
    | none => rw [e] at hj; cases hj
    | some q' =>
      rw [e] at hj
      obtain ⟨b, e1, e2, e3⟩ := hpr j q' e
      cases hj
      refine ⟨?_, ?_⟩
      · simp [e1]
      · have eb : ps.getD j 0 = b := by rw [List.getD_eq_getElem?_getD, e1]; rfl
        show PairAt s.heap (ps.getD j 0) _ _
        rw [eb]
        exact .inl e2
  · refine ⟨rfl, fun i key v hr => ?_⟩
    have hr' : (prs.map fun q => (Value.ref q.2.1, q.2.2))[i]? = some (key, v) := hr
    rw [List.getElem?_map] at hr'
    cases e : prs[i]? with
    | none => rw [e] at hr'; cases hr'
    | some q' =>
      rw [e] at hr'
      cases hr'
      exact ⟨q'.1, q'.2.1, rfl, rfl⟩
  · intro h' hk x hx
    obtain ⟨j, hj, e⟩ := List.getElem_of_mem hx
    obtain ⟨b, e1, e2, e3⟩ := hpr j x (by rw [List.getElem?_eq_getElem hj, e])
    obtain ⟨o, items, n, h1, h2, h3, h4⟩ := key_of I.hok e3
    exact ⟨o, items, n, hk _ _ (Nat.ne_of_lt (Heap.lt_size h1)) (fun z => by cases z) h1, h2, h3, h4⟩
  · rw [hl]
    exact hz
  · intro h' tk hd' hk
    have hm : (s.heap.objs.size == sysModules) = false := beq_eq_false_iff_ne.mpr (Nat.ne_of_gt I.big)
    have hlen : (stoAll [] qs).length ≤ sizeLine := by
      refine Nat.le_trans (length_stoAll qs []) ?_
      rw [List.length_nil, Nat.zero_add, ← hlq]
      exact hz
    obtain ⟨o, es, ep, h1, h2, h3, h4, _, h5⟩ := hd'
    have fresh : H s.heap.objs.size = none := I.hok.fresh (Nat.le_refl _)
    have kt : KT H (stoAll [] qs) (storedAllH [] prs) := hf [] [] .nil
    exact ⟨.ref s.heap.objs.size, upd H s.heap.objs.size (.dT (stoAll [] qs)), I.laid (t' := tk) (fun b o e => hk b o (fun z => by cases z) e) (Nat.le_refl _)
      (show ObjOk X.prog X.w _ _ _ (.dT (stoAll [] qs)) from ⟨hlen, hm, _, kt.keeps (fun b ys e => by rw [upd_ne (ne_of_none e fresh)]; exact e), o, es, ep, h1, h2, h3, h4, h5⟩), rfl, q _ fresh⟩
end
end Gd

set_option Elab.async false
set_option linter.all false
set_option maxRecDepth 100000
set_option maxHeartbeats 4000000
/-! str(o) and {o} in an f-string by an own __str__. -/
namespace Gd
open PySem PySem.Spec PyProof.Rows L2
section
variable {X : Cx} {CX : CXT} {C f : Addr} {fd : FuncData} {k : Nat} {ps : List Str} {sp : Sp}
theorem strBack_of {pins : List (Addr × Obj)} {σ : L2.St} {Q : VK} {w : Value} {s' : Shared} (h : EP X pins σ (fun v H' => ∃ y : Str, v = .str y ∧ Q (.str y) H') w s') : PySem.W.StrBack (EP X pins σ Q) w s' := by
  obtain ⟨z, H', I', rz, y, rfl, q⟩ := h
  obtain ⟨t, rfl⟩ := rz
  exact ⟨.str y, H', I', ⟨t, rfl⟩, q⟩
/-- the callee runs, from two builtins that the body calls -/
theorem runAt2 {E : XK} {A : Around} (hA : A = X.A.in1 ∨ A = X.A.in1.in1) {pins : List (Addr × Obj)} {σ : L2.St} {H : Hp} {s : Shared} {Q : VK} {us : List Value} {vs : List V}
    (F : FnOk X.prog X.w X.K X.mg X.base CX k f fd ps sp) (hr : Room (k + 2) X.A) (hb : Binds X.K fd ps [])
    (hx : PassesAt CX X σ E) (I : Inv X pins σ H s) (r : Vals vs us) (h : sp vs H Q E) :
    wpAny (model X.prog X.w) A (call (.ref f) us) (EP X pins σ Q) X.xe s := by
  have hl : us.length = ps.length := by
    rw [← r.length]
    exact F.len _ H Q E h
  have room : Room k A := by
    rcases hA with rfl | rfl
    · exact (hr.mono (Nat.le_succ _)).in1
    · exact hr.in1.in1
  have env : Env0 X.prog X.w X.K X.mg X.base A X.stack s H := by
    rcases hA with rfl | rfl
    · exact I.env0.in1
    · exact I.env0.in1.in1
  have hbs := hb s us I.kIn (by rw [List.append_nil]; exact hl)
  rw [List.append_nil] at hbs
  refine wpAny_call (codeAny_mono (F.run A X.stack s H ⟨us, []⟩ us _ Q E room env hbs r h) ?_)
  intro r s' hq
  match r, hq with
  | .error e, hq => exact hx pins H s e s' I hq
  | .ok (.ret u), hq => exact I.after hq
  | .ok .next, hq => exact False.elim hq
  | .ok .brk, hq => exact False.elim hq
  | .ok .cont, hq => exact False.elim hq
def rStrO (C : Addr) (sp : Sp) (E : XK) : List V → Hp → VK → Prop := fun xs H Q => ∃ p dx fs, xs = [.ref p] ∧ H p = some (.ins C dx fs) ∧ sp [.ref p] H (fun v H' => ∃ y : Str, v = .str y ∧ Q (.str y) H') E
theorem call_strO {E : XK} (hm : Meth X.K C "__str__" f) (F : FnOk X.prog X.w X.K X.mg X.base CX k f fd ps sp) (hr : Room (k + 2) X.A) (hb : Binds X.K fd ps []) (hx : ∀ σ, PassesAt CX X σ E) : CallR X (.type "str") (rStrO C sp E) := by
  intro pins s σ H xs us Q I r h
  obtain ⟨p, dx, fs, rfl, ep, hsp⟩ := h
  obtain ⟨u, rfl, hu1⟩ := vals1 r
  cases hu1
  obtain ⟨od, J⟩ := seen I ep
  refine PySem.W.kso_call (by have := hr.un; show X.A.units + 2 < cLine; omega) I.kIn J hm.at_ hm.fn ?_
  exact wpAny_mono (runAt2 (.inr rfl) F hr hb (hx σ) I (.cons (show RelV (V.ref p) (Value.ref p) from rfl) .nil) hsp) (fun _ _ z => strBack_of z) (fun _ _ z => z)
/-- {o} -/
def tFmtO (C : Addr) (sp : Sp) (E : XK) (te : TE) : TE := fun σ H Q => te σ H fun x H1 => ∃ p dx fs, x = .ref p ∧ H1 p = some (.ins C dx fs) ∧ sp [.ref p] H1 (fun v H' => ∃ y : Str, v = .str y ∧ Q (.str y) H') E
theorem pe_fmtO {E : XK} {e : Expr} {te : TE} {pos : Pos} (hm : Meth X.K C "__str__" f) (hfm : PySem.W.findIn X.K (.ref C) "__format__" = some (some (.builtin "object.__format__"))) (hmr : PySem.W.mroIn X.K C (.type "object") = some true)
    (F : FnOk X.prog X.w X.K X.mg X.base CX k f fd ps sp) (hr : Room (k + 2) X.A) (hb : Binds X.K fd ps []) (hx : ∀ σ, PassesAt CX X σ E) (he : PE X e te) : PE X (.FormattedValue e (-1) none pos) (tFmtO C sp E te) := by
  refine ⟨fun pins s σ H Q I h => ?_⟩
  refine wpAny_FormattedValue_plain (thn (he.run pins s σ H _ I h) fun v s1 hv => ?_)
  obtain ⟨x, H1, I1, r1, p, dx, fs, rfl, ep, hsp⟩ := hv
  cases r1
  obtain ⟨od, J⟩ := seen I1 ep
  have I2 : Inv X pins σ H1 { s1 with toks := s1.toks + 1 } := I1.tok _
  refine PySem.W.kfo_fieldS (by have := hr.un; show X.A.units + 1 < cLine; omega) I1.kIn J hfm hmr hm.at_ hm.fn ?_
  exact wpAny_mono (runAt2 (.inl rfl) F hr hb (hx σ) I2 (.cons (show RelV (V.ref p) (Value.ref p) from rfl) .nil) hsp) (fun _ _ z => strBack_of z) (fun _ _ z => z)
end
end Gd

set_option Elab.async false
set_option linter.all false
set_option maxRecDepth 100000
set_option maxHeartbeats 4000000
/-! yield from a list. -/
namespace Gd
open PySem PySem.Spec PyProof.Rows L2 GenW
section
variable {pg : Program} {wd : World} {Ar : Around} {Er : Value → Shared → Prop} {st : Shared}
theorem spec_lst_item {I L : Addr} {k : Nat} {vs : Array Value} {y : Value} {Qo : Option Value → Shared → Prop} (hI : st.heap.IsListIter I L k) (hL : st.heap.IsList L vs) (hy : vs[k]? = some y)
    (cont : ∀ h1, Heap.IsListIter h1 I L (k + 1) → Heap.SameBut I st.heap h1 → Qo (some y) { st with heap := h1 }) : wpAny (model pg wd) Ar (callSpecial? (.ref I) "__next__") Qo Er st := by
  obtain ⟨oI, e1, c1, d1⟩ := id hI
  obtain ⟨oL, e2, _, z, d2⟩ := hL
  refine wpAny_callSpecial?_slot (name := Str.ofString "__next__") hI.typeIs slot_listiter_next (wpAny_call_entry slot_listiter_next hI.typeIs entry_listiter_next ?_ (args_listiter_next _))
  show wpAny (model pg wd) _ (field (.ref I) 0 >>= _) _ _ st
  refine wpAny_bind (wpAny_field e1 d1 (x := .ref L) rfl ?_)
  show wpAny (model pg wd) _ (if (Value.ref L == Value.none) = true then _ else _) _ _ st
  rw [if_neg (fun hc : (Value.ref L == Value.none) = true => Bool.false_ne_true hc)]
  show wpAny (model pg wd) _ (field (.ref I) 1 >>= _) _ _ st
  refine wpAny_bind (wpAny_field e1 d1 (x := .int k 0) rfl ?_)
  show wpAny (model pg wd) _ (seqItems? (.ref L) >>= _) _ _ st
  refine wpAny_bind (wpAny_seqItems e2 d2 ?_); simp only [Int.toNat_natCast, hy]
  refine wpAny_bind (wpAny_setField e1 d1 (by simp) (wpAny_pure ⟨y, rfl, cont _ ?_ (Heap.SameBut.update ..)⟩))
  refine ⟨_, Heap.get?_update_self _ e1 (Obj.isFreed_of_fields (Obj.data_mapFields d1 _)), (Obj.cls_mapFields ..).trans c1, ?_⟩
  rw [Obj.data_mapFields d1]
  simp [rawInt]
theorem spec_lst_end {I L : Addr} {k : Nat} {vs : Array Value} {Qo : Option Value → Shared → Prop} (hA : Ar.handled = none) (hI : st.heap.IsListIter I L k) (hL : st.heap.IsList L vs) (hy : vs[k]? = none)
    (cont : ∀ u h1, StopX u h1 → Heap.ExtBut I st.heap h1 → Er u { st with heap := h1 }) : wpAny (model pg wd) Ar (callSpecial? (.ref I) "__next__") Qo Er st := by
  obtain ⟨oI, e1, c1, d1⟩ := id hI
  obtain ⟨oL, e2, _, z, d2⟩ := hL
  refine wpAny_callSpecial?_slot (name := Str.ofString "__next__") hI.typeIs slot_listiter_next (wpAny_call_entry slot_listiter_next hI.typeIs entry_listiter_next ?_ (args_listiter_next _))
  show wpAny (model pg wd) _ (field (.ref I) 0 >>= _) _ _ st
  refine wpAny_bind (wpAny_field e1 d1 (x := .ref L) rfl ?_)
  show wpAny (model pg wd) _ (if (Value.ref L == Value.none) = true then _ else _) _ _ st
  rw [if_neg (fun hc : (Value.ref L == Value.none) = true => Bool.false_ne_true hc)]
  show wpAny (model pg wd) _ (field (.ref I) 1 >>= _) _ _ st
  refine wpAny_bind (wpAny_field e1 d1 (x := .int k 0) rfl ?_)
  show wpAny (model pg wd) _ (seqItems? (.ref L) >>= _) _ _ st
  refine wpAny_bind (wpAny_seqItems e2 d2 ?_); simp only [Int.toNat_natCast, hy]
  refine wpAny_bind (wpAny_rule (wpAny_bind (wpAny_setField e1 d1 (by simp) ?_)))
  show wpAny (model pg wd) _ (newExc (.type "StopIteration") [] >>= _) _ _ _
  refine wpAny_bind ?_; simp only [newExc, newTuple]
  refine wpAny_bind (wpAny_newObj_type ?_ (by size_fits)); refine wpAny_bind (m := firstArgMember _ _) (wpAny_of_eq (a := Value.none) (by first | rfl | (simp only [firstArgMember]; rfl)) ?_)
  refine wpAny_newObj_type ?_ (by size_fits); simp only [raiseNew]
  refine wpAny_bind (wpAny_handled ?_)
  first | rw [show Ar.in1.handled = none from hA] | rw [hA]
  refine wpAny_bind (wpAny_pure (wpAny_throw ?_))
  refine cont _ _ ⟨_, _, _, rfl, Heap.get?_push_size _ rfl, rfl, rfl, ?_⟩ (((Heap.SameBut.update ..).extBut.push _).push _)
  first | rfl | (rw [Array.getElem?_append_left (by decide)]; rfl) | kernel_rfl
end
section
variable {X : Cx} {e : Expr} {te : TE}
def tYfLst (te : TE) : TYf := fun σ H Q => te σ H fun x H1 => ∃ a xs, x = .ref a ∧ H1 a = some (.lst xs) ∧ Q xs H1
theorem shut_lst : typeLookup (.type "list_iterator") "close" = pure none := by rw [typeLookup_type, builtinLookup_eq_fast]; kernel_rfl
theorem yf_lst (he : PE X e te) : YfE X e (tYfLst te) := by
  constructor
  intro pins s σ H Q I h
  refine thn (he.run pins s σ H _ I h) fun v s1 ⟨x, H1, I1, r1, a, xs, ex, ha, hq⟩ => ?_
  subst ex
  obtain rfl : v = Value.ref a := r1
  obtain ⟨hlen, its, m, rits, hobj⟩ := I1.hok a _ ha
  have ht : s1.heap.IsList a its.toArray := ⟨_, hobj, rfl, m, rfl⟩
  have alt : a < s1.heap.objs.size := Heap.lt_size hobj
  refine ⟨"list", ht.typeIs, by decide, wpAny_pyIter_list ht ?_⟩
  have old : ∀ b o, s1.heap.get? b = some o → b ≠ s1.heap.objs.size := fun b o z => Nat.ne_of_lt (Heap.lt_size z)
  have kp : ∀ b o, s1.heap.get? b = some o → (s1.heap.push { cls := .type "list_iterator", data := .fields #[.ref a, .int 0 0] }).get? b = some o := fun b o z => Heap.get?_push_of_some _ z
  refine ⟨s1.heap.objs.size, H1, xs, fun j h => Heap.IsListIter h s1.heap.objs.size a j ∧ Heap.IsList h a its.toArray, rfl, I1.kept (t' := s1.toks) kp, .inr I1.sz, Nat.ne_of_gt I1.lt, fun y c hy => ?_, I1.hok.fresh (Nat.le_refl _), fun p hp => old p.1 _ (I1.pin p hp).1,
    ⟨⟨_, Heap.get?_push_size _ rfl, rfl, rfl⟩, ht.push _⟩, ⟨⟨"list_iterator", fun j h q => ?_, shut_lst, by decide⟩, fun j h h' q hk => ?_, fun A' j x s2 Q' E' hA hx q hQ => ?_, fun A' s2 Q' E' hA q hE => ?_⟩, hq⟩
  · obtain ⟨v, o, ho, _⟩ := I1.cell y c hy
    exact old c o ho
  · obtain ⟨⟨o, ho, hc, _⟩, _⟩ := q
    exact ⟨o, ho, hc⟩
  · obtain ⟨⟨o, ho, r⟩, o2, ho2, r2⟩ := q
    exact ⟨⟨o, hk _ o (.inl rfl) ho, r⟩, o2, hk _ o2 (.inr fun z => by rw [ha] at z; cases z) ho2, r2⟩
  · obtain ⟨q1, q2⟩ := q
    obtain ⟨u, hu, ru⟩ := rits.get hx
    have hne : a ≠ s1.heap.objs.size := Nat.ne_of_lt alt
    exact spec_lst_item q1 q2 (y := u) (by simpa using hu) fun h' i1 hs => hQ u h' s2.toks ru ⟨i1, q2.extBut hs.extBut hne⟩ fun b o hb eb => hs.extBut b o hb eb
  · obtain ⟨q1, q2⟩ := q
    have none1 : its.toArray[xs.length]? = none := by
      have e0 := rits.length
      have e2 : its[xs.length]? = none := List.getElem?_eq_none_iff.mpr (by omega)
      simpa using e2
    exact spec_lst_end hA q1 q2 none1 fun u h' hS hk => hE u h' s2.toks hS fun b o hb eb => hk b o hb eb
end
end Gd

set_option Elab.async false
set_option linter.all false
set_option maxRecDepth 100000
set_option maxHeartbeats 4000000
/-! A short text many times: some text. -/
namespace Gd
open PySem PySem.Spec PyProof.Rows L2
def rRepS : R2 := fun x y H Q => ∃ (z : Str) (k : Int), x = .str z ∧ y = .int k ∧ z.length ≤ 1 ∧ 0 ≤ k ∧ k ≤ 1000 ∧ ∀ r, Q (.str r) H
theorem foldl_app (c : Array Nat) : ∀ (n : Nat) (acc : Array Nat), (List.foldl (fun a b => a ++ b) acc (List.replicate n c)).size = acc.size + n * c.size
  | 0, acc => by simp
  | n + 1, acc => by
    rw [List.replicate_succ, List.foldl_cons, foldl_app c n, Array.size_append, Nat.succ_mul]
    omega
theorem op_repS {X : Cx} : OpR X (binaryOp .Mult) rRepS := by
  intro pins s σ H x y v u Q I rx ry h
  obtain ⟨z, k, rfl, rfl, hz, k0, k1, q⟩ := h
  obtain ⟨t, rfl⟩ := rx
  obtain ⟨t', rfl⟩ := ry
  have big : (1000000 : Nat) ≤ sizeLine := by decide
  have hm : z.length * k.toNat ≤ 1 * 1000 := Nat.mul_le_mul hz (by omega)
  refine PySem.P.mul_str ?_ (fun h1 _ => ?_) (fun h1 _ => ?_) ?_
  · rw [decide_eq_false (by omega), decide_eq_false (by omega)]
    rfl
  · have h2 : (1 : Int) ≤ (2 ^ 63 - 1) / k := by
      rw [Int.le_ediv_iff_mul_le (by omega)]
      omega
    omega
  · show decide (_ > sizeLine) = false
    exact decide_eq_false (by omega)
  · split
    · exact ⟨Nat.zero_le _, .str _, H, I.tok _, ⟨_, rfl⟩, q _⟩
    · split
      · exact ⟨.str z, H, I, ⟨_, rfl⟩, q z⟩
      · refine ⟨?_, .str _, H, I.tok _, ⟨_, rfl⟩, q _⟩
        show (List.foldl (fun a b => a ++ b) #[] (List.replicate k.toNat z.cps)).size ≤ sizeLine
        rw [foldl_app]
        have : z.cps.size = z.length := rfl
        rw [this, Nat.mul_comm]
        show 0 + _ ≤ _
        omega
end Gd

set_option Elab.async false
set_option linter.all false
set_option maxRecDepth 100000
set_option maxHeartbeats 4000000
/-! Readings, step by step: one lemma a word of the readings, and a tactic that goes as far as nothing is asked. -/
namespace Gd
open PySem PySem.Spec PyProof.Rows L2
section
variable {σ : L2.St} {H : Hp} {Q : VK} {QA : List V → Hp → Prop} {QT : Bool → Hp → Prop} {D : Ends} {te ta tb tc to : TE} {t u : TT} {tr : TA} {s1 s2 : TS} {v : V} {i : Nat} {K : PySem.W.Frag}
theorem g_var (h : σ[i]? = some (some v)) (k : Q v H) : tVar i σ H Q := ⟨v, h, k⟩
theorem g_c (k : Q v H) : tC v σ H Q := k
theorem g_ret (k : te σ H D.rt) : tRet te D σ H := k
theorem g_retN (k : D.rt .non H) : tRetN D σ H := k
theorem g_seq (k : s1 { D with nx := s2 D } σ H) : tSeq s1 s2 D σ H := k
theorem g_next (k : D.nx σ H) : tNext D σ H := k
theorem g_drop (k : te σ H fun _ H1 => D.nx σ H1) : tDrop te D σ H := k
theorem g_asg {g : TG} (k : te σ H fun x H1 => g x σ H1 D.nx) : tAsg te g D σ H := k
theorem g_name {Qs : L2.St → Hp → Prop} (k : Qs (σ.set i (some v)) H) : gName i v σ H Qs := k
theorem g_ifs (k : t σ H fun b H1 => if b = true then s1 D σ H1 else s2 D σ H1) : tIfS t s1 s2 D σ H := k
theorem g_test (k : te σ H fun x H' => ∃ c, x = .bl c ∧ QT c H') : tTest te σ H QT := k
theorem g_tb (k : te σ H fun x H' => ∃ c, x = .bl c ∧ QT c H') : tB te σ H QT := k
theorem g_and (k : t σ H fun c H1 => if c = true then u σ H1 QT else QT false H1) : tAnd t u σ H QT := k
theorem g_or (k : t σ H fun c H1 => if c = true then QT true H1 else u σ H1 QT) : tOr t u σ H QT := k
theorem g_not (k : t σ H fun c H1 => QT (!c) H1) : tNot t σ H QT := k
theorem g_andV (k : ta σ H fun x H1 => ∃ c, x = .bl c ∧ if c = true then tb σ H1 Q else Q (.bl false) H1) : tAndV ta tb σ H Q := k
theorem g_orV (k : ta σ H fun x H1 => ∃ c, x = .bl c ∧ if c = true then Q (.bl true) H1 else tb σ H1 Q) : tOrV ta tb σ H Q := k
theorem g_notV (k : ta σ H fun x H1 => ∃ c, x = .bl c ∧ Q (.bl (!c)) H1) : tNotV ta σ H Q := k
theorem g_if (k : t σ H fun c H1 => if c = true then ta σ H1 Q else tb σ H1 Q) : tIf t ta tb σ H Q := k
theorem g_op {r : R2} (k : ta σ H fun x H1 => tb σ H1 fun y H2 => r x y H2 Q) : tOp r ta tb σ H Q := k
theorem g_un {r : V → Hp → VK → Prop} (k : ta σ H fun x H1 => r x H1 Q) : tUn r ta σ H Q := k
theorem g_cb {r : List V → Hp → VK → Prop} (k : tr σ H fun vs H1 => r vs H1 Q) : tCB r tr σ H Q := k
theorem g_nil (k : QA [] H) : tNil σ H QA := k
theorem g_cons (k : ta σ H fun x H1 => tr σ H1 fun xs H2 => QA (x :: xs) H2) : tCons ta tr σ H QA := k
theorem g_call {sp : Sp} {dvs : List V} {E : XK} (k : tr σ H fun vs H1 => sp (vs ++ dvs) H1 Q E) : tCall sp dvs E tr σ H Q := k
theorem g_callS {sp : Sp} {E : L2.St → XK} (k : tr σ H fun vs H1 => sp vs H1 Q (E σ)) : tCallS sp E tr σ H Q := k
theorem g_tup (k : tr σ H fun xs H1 => xs.length ≤ sizeLine ∧ ∀ p, H1 p = none → Q (.ref p) (upd H1 p (.tup xs))) : tTup tr σ H Q := k
theorem g_lst (k : tr σ H fun xs H1 => xs.length ≤ sizeLine ∧ ∀ p, H1 p = none → Q (.ref p) (upd H1 p (.lst xs))) : tLst tr σ H Q := k
theorem g_isN (k : ta σ H fun x H1 => Q (.bl (decide (x = .non))) H1) : tIsN ta σ H Q := k
theorem g_sl {r : V → Option Int → Option Int → Hp → VK → Prop} {tl th : TO} (k : te σ H fun x H1 => tl σ H1 fun l H2 => th σ H2 fun u H3 => r x l u H3 Q) : tSl r te tl th σ H Q := k
theorem g_nopart {Qo : Option Int → Hp → Prop} (k : Qo none H) : tNoPart σ H Qo := k
theorem g_part {Qo : Option Int → Hp → Prop} (k : te σ H fun x H1 => ∃ i, x = .int i ∧ Qo (some i) H1) : tPart te σ H Qo := k
theorem g_chain {r r' : R2} (k : ta σ H fun x H1 => tb σ H1 fun y H2 => r x y H2 fun z H3 => ∃ c, z = .bl c ∧
    if c = true then tc σ H3 fun w H4 => r' y w H4 Q else Q (.bl false) H3) : tChain r r' ta tb tc σ H Q := by
  exact k
theorem g_fld {f : Str} (k : ta σ H fun x H1 => ∃ a C dx fs v, x = .ref a ∧ H1 a = some (.ins C dx fs) ∧ Cls K C ∧ NoAttr K C f ∧ fs.lookup f = some v ∧ Q v H1) : tFld K ta f σ H Q := k
theorem g_prop {C : Addr} {sp : Sp} {dvs : List V} {E : XK} (k : ta σ H fun x H1 => ∃ a dx fs, x = .ref a ∧ H1 a = some (.ins C dx fs) ∧ sp (.ref a :: dvs) H1 Q E) : tProp C sp dvs E ta σ H Q := k
theorem g_bm {T : String} {r : V → List V → Hp → VK → Prop} (k : to σ H fun x H1 => tyV K T x H1 ∧ tr σ H1 fun xs H2 => r x xs H2 Q) : tBM K T r to tr σ H Q := k
theorem g_bm0 {T : String} {r : V → List V → Hp → VK → Prop} (k : to σ H fun x H1 => tyV K T x H1 ∧ r x [] H1 Q) : tBM0 K T r to σ H Q := k
theorem g_tru {r : V → Hp → (Bool → Hp → Prop) → Prop} (k : te σ H fun x H' => r x H' QT) : (fun (σ : L2.St) (H : Hp) (Q : Bool → Hp → Prop) => te σ H fun x H' => r x H' Q) σ H QT := k
-- values
theorem g_I0 {g : Int → Int → V} {a b : Int} (k : Q (g a b) H) : rI0 g (.int a) (.int b) H Q := ⟨a, b, rfl, rfl, k⟩
theorem g_I {C : Int → Int → Prop} {g : Int → Int → V} {a b : Int} (c : C a b) (k : Q (g a b) H) : rI C g (.int a) (.int b) H Q := ⟨a, b, rfl, rfl, c, k⟩
theorem g_U {g : Int → V} {a : Int} (k : Q (g a) H) : rU g (.int a) H Q := ⟨a, rfl, k⟩
theorem g_eqI {a b : Int} (k : Q (.bl (decide (a = b))) H) : rEq (.int a) (.int b) H Q := by
  refine ⟨rfl, ?_⟩
  have e : (V.int a = V.int b) = (a = b) := by simp
  simpa [e] using k
theorem g_eq {x y : V} (s : scal x y = true) (k : Q (.bl (decide (x = y))) H) : rEq x y H Q := ⟨s, k⟩
theorem g_ne {x y : V} (s : scal x y = true) (k : Q (.bl (!decide (x = y))) H) : rNe x y H Q := ⟨s, k⟩
theorem g_bl {b : Bool} (k : QT b H) : ∃ c, (V.bl b) = .bl c ∧ QT c H := ⟨b, rfl, k⟩
theorem g_blV {b : Bool} {A : Bool → Prop} (k : A b) : ∃ c, (V.bl b) = .bl c ∧ A c := ⟨b, rfl, k⟩
theorem g_inV {a : Int} {A : Int → Prop} (k : A a) : ∃ c, (V.int a) = .int c ∧ A c := ⟨a, rfl, k⟩
theorem g_ixT {p : Addr} {xs : List V} {a : Int} (h : SqT K H p xs) (e : atI xs a = some v) (k : Q v H) : rIxT K (.ref p) (.int a) H Q := ⟨p, xs, a, v, rfl, rfl, h, e, k⟩
theorem g_ixL {p : Addr} {xs : List V} {a : Int} (h : SqL K H p xs) (e : atI xs a = some v) (k : Q v H) : rIxL K (.ref p) (.int a) H Q := ⟨p, xs, a, v, rfl, rfl, h, e, k⟩
end

/-- the turn's end: the invariant again, the measure less -/
abbrev Turn (Pv : L2.St → Hp → Prop) (μ : L2.St → Hp → Nat) (m : Nat) : L2.St → Hp → Prop := fun σ' H' => Pv σ' H' ∧ μ σ' H' < m
theorem g_while {c : TT} {tb : TS} {D : Ends} {σ : L2.St} {H : Hp} (Pv : L2.St → Hp → Prop) (μ : L2.St → Hp → Nat) (h0 : Pv σ H)
    (hs : ∀ σ H, Pv σ H → c σ H fun b H1 => if b = true then ∃ N : L2.St → Hp → Prop, (∀ σ' H', N σ' H' → ∃ m', m' < μ σ H ∧ m' = μ σ' H' ∧ Pv σ' H') ∧
      tb { D with nx := N, ct := N, bk := D.nx } σ H1 else D.nx σ H1) : tWhile c tb D σ H := by
  refine ⟨fun m σ H => m = μ σ H ∧ Pv σ H, ⟨_, rfl, h0⟩, ?_⟩
  rintro m σ H ⟨rfl, p⟩
  exact hs σ H p
theorem g_turn {tb : TS} {D : Ends} {σ : L2.St} {H H1 : Hp} {Pv : L2.St → Hp → Prop} {μ : L2.St → Hp → Nat}
    (h : tb { D with nx := Turn Pv μ (μ σ H), ct := Turn Pv μ (μ σ H), bk := D.nx } σ H1) :
    ∃ N : L2.St → Hp → Prop, (∀ σ' H', N σ' H' → ∃ m', m' < μ σ H ∧ m' = μ σ' H' ∧ Pv σ' H') ∧ tb { D with nx := N, ct := N, bk := D.nx } σ H1 :=
  ⟨Turn Pv μ (μ σ H), fun σ' H' n => ⟨_, n.2, rfl, n.1⟩, h⟩
theorem g_aug {σ : L2.St} {H : Hp} {D : Ends} {i : Nat} {te : TE} {ti : TIp} {x : V} (h : σ[i]? = some (some x)) (k : te σ H fun y H1 => ti x y H1 fun z H2 => D.nx (σ.set i (some z)) H2) : tAug i te ti D σ H := ⟨x, h, k⟩
theorem tyT {K : PySem.W.Frag} {H : Hp} {a : Addr} {xs : List V} (h : SqT K H a xs) : TyX K H (.ref a) (.type "tuple") := by
  rcases h with (h | ⟨o, h⟩) | ⟨o, its, n, h, c, _⟩
  · exact .base (.tup h)
  · exact .fTuple h
  · exact .kTuple h c
theorem tyL {K : PySem.W.Frag} {H : Hp} {a : Addr} {xs : List V} (h : SqL K H a xs) : TyX K H (.ref a) (.type "list") ∨ ∃ o, K.lookup a = some o := by
  rcases h with (h | ⟨o, h⟩) | ⟨o, its, n, h, c, _⟩
  · exact .inl (.base (.lst h))
  · exact .inl (.base (.frz h))
  · exact .inr ⟨o, h⟩

theorem g_yes {σ : L2.St} {H : Hp} {Q : Bool → Hp → Prop} (k : Q true H) : tYes σ H Q := k
theorem g_sfld {σ : L2.St} {H : Hp} {D : Ends} {K : PySem.W.Frag} {ta te : TE} {f : Str} (k : te σ H fun y H1 => ta σ H1 fun x H2 => ∃ a C dx fs, x = .ref a ∧ H2 a = some (.ins C dx fs) ∧ Cls K C ∧ NoAttr K C f ∧
    fs.length < 1000 ∧ D.nx σ (upd H2 a (.ins C dx (putF f y fs)))) : sFld K ta te f D σ H := k
theorem g_int1 {a : Int} {A : Int → Prop} (k : A a) : ∃ i, [V.int a] = [V.int i] ∧ A i := ⟨a, rfl, k⟩
theorem g_int2 {a b : Int} {A : Int → Int → Prop} (k : A a b) : ∃ i j, [V.int a, V.int b] = [V.int i, V.int j] ∧ A i j := ⟨a, b, rfl, k⟩
theorem g_sub {σ : L2.St} {H : Hp} {Qs : L2.St → Hp → Prop} {to ti : TE} {t : TSet} {v : V} (k : to σ H fun o H1 => ti σ H1 fun i H2 => t o i v H2 fun H3 => Qs σ H3) : gSub to ti t v σ H Qs := k
theorem g_NT {A B : Prop} (h : B) : if (!true) = true then A else B := h
theorem g_NF {A B : Prop} (h : A) : if (!false) = true then A else B := h
end Gd

set_option Elab.async false
set_option linter.all false
set_option maxRecDepth 100000
set_option maxHeartbeats 4000000
/-! More readings. -/
namespace Gd
open PySem PySem.Spec PyProof.Rows L2
theorem g_forR {ta : TA} {g : TG} {tb : TS} {D : Ends} {σ : L2.St} {H : Hp} (k : ta σ H fun vs H1 => ∃ j : Int, vs = [.int j] ∧ -(2 ^ 62) ≤ j ∧ j < 2 ^ 62 ∧ ∃ W : Nat → Nat → L2.St → Hp → Prop, (∃ m, W 0 m σ H1) ∧ ∀ i m σ H, W i m σ H →
  ((Itr 0 j.toNat).stop i H ∧ D.nx σ H) ∨ ((Itr 0 j.toNat).go i H ∧ ∃ N : L2.St → Hp → Prop, (∀ σ' H', N σ' H' → ∃ m', m' < m ∧ W (i + 1) m' σ' H') ∧ ∀ x H', (Itr 0 j.toNat).yld i H x H' → g x σ H' fun σ2 H2 => tb { D with nx := N, ct := N, bk := D.nx } σ2 H2)) :
    tFor (iRng1 ta) g tb D σ H := k
theorem g_ifV {c : Bool} {ta tb : TE} {σ : L2.St} {H : Hp} {Q : VK} (v : V) (ha : c = true → ∀ Q' : VK, Q' v H → ta σ H Q') (hb : c = false → ∀ Q' : VK, Q' v H → tb σ H Q') (k : Q v H) : if c = true then ta σ H Q else tb σ H Q := by
  cases c with
  | true => exact ha rfl Q k
  | false => exact hb rfl Q k
theorem g_neS {x : Str} {H : Hp} {Q : VK} (k : Q (.bl false) H) : rNe (.str x) (.str x) H Q := ⟨rfl, by simpa using k⟩
theorem g_ixO {C : Addr} {sp : Sp} {E : L2.St → XK} {ta tb : TE} {σ : L2.St} {H : Hp} {Q : VK} (k : ta σ H fun x H1 => tb σ H1 fun y H2 => ∃ p dx fs, x = .ref p ∧ H2 p = some (.ins C dx fs) ∧ sp [x, y] H2 Q (E σ)) : tIxO C sp E ta tb σ H Q := k
/-- a place that is reached from more than one side -/
theorem g_cut {s1 s2 : TS} {D : Ends} {σ : L2.St} {H : Hp} (N : L2.St → Hp → Prop) (hN : ∀ σ' H', N σ' H' → s2 D σ' H') (k : (∀ σ' H', N σ' H' → s2 D σ' H') → s1 { D with nx := s2 D } σ H) : tSeq s1 s2 D σ H := k hN
theorem g_eqS {x : Str} {H : Hp} {Q : VK} (k : Q (.bl true) H) : rEq (.str x) (.str x) H Q := ⟨rfl, by simpa using k⟩
theorem g_par {i j : Nat} {ta : TA} {D : Ends} {σ : L2.St} {H : Hp} (k : ta σ H fun vs H1 => ∃ v w, vs = [v, w] ∧ D.nx ((σ.set i (some v)).set j (some w)) H1) : tPar i j ta D σ H := k
theorem g_make {C : Addr} {sp : Sp} {dvs : List V} {E : XK} {t : TA} {σ : L2.St} {H : Hp} {Q : VK} (k : t σ H fun vs H1 => ∀ x dx, H1 x = none → H1 dx = none → dx ≠ x →
  sp (.ref x :: (vs ++ dvs)) (upd (upd H1 dx (.own x)) x (.ins C dx [])) (fun v H2 => v = .non ∧ Q (.ref x) H2) E) : tMake C sp dvs E t σ H Q := k
end Gd

set_option Elab.async false
set_option linter.all false
set_option maxRecDepth 100000
set_option maxHeartbeats 4000000
/-! Readings by name, for the bodies of comprehensions. -/
namespace Gd
open PySem PySem.Spec PyProof.Rows L2
def rLenS (K : PySem.W.Frag) : List V → Hp → VK → Prop := fun xs H Q => ∃ p ys, xs = [.ref p] ∧ (SqL K H p ys ∨ SqT K H p ys) ∧ Q (.int (ys.length : Int)) H
def rListOf (K : PySem.W.Frag) : List V → Hp → VK → Prop := fun xs H Q => ∃ p ys, xs = [.ref p] ∧ (SqL K H p ys ∨ SqT K H p ys) ∧ ∀ l, H l = none → Q (.ref l) (upd H l (.lst ys))
def rTupOf (K : PySem.W.Frag) : List V → Hp → VK → Prop := fun xs H Q => ∃ p ys, xs = [.ref p] ∧ ((SqL K H p ys ∧ ∀ l, H l = none → Q (.ref l) (upd H l (.tup ys))) ∨ (SqT K H p ys ∧ Q (.ref p) H))
theorem call_lenS {X : Cx} : CallR X (.builtin "len") (rLenS X.K) := call_len_seq
theorem call_listS {X : Cx} : CallR X (.type "list") (rListOf X.K) := call_list_of
theorem call_tupS {X : Cx} : CallR X (.type "tuple") (rTupOf X.K) := call_tuple_of
end Gd

set_option Elab.async false
set_option linter.all false
set_option maxRecDepth 100000
set_option maxHeartbeats 4000000
/-! Heaps that grow; comprehensions told as maps. -/
namespace Q0
open PySem PySem.Spec PyProof.Rows L2 Gd
open LamX (ExtN)
local macro_rules | `(tactic| walk_at "rd1") => `(tactic| first | with_reducible refine g_ret ?_ | with_reducible refine g_retN ?_ | with_reducible refine g_seq ?_ | with_reducible refine g_next ?_ | with_reducible refine g_drop ?_ | with_reducible refine g_asg ?_ | with_reducible refine g_name ?_ | with_reducible refine g_ifs ?_ | with_reducible refine g_test ?_ | with_reducible refine g_tb ?_ | with_reducible refine g_and ?_ | with_reducible refine g_or ?_ | with_reducible refine g_not ?_ | with_reducible refine g_andV ?_ | with_reducible refine g_orV ?_ | with_reducible refine g_notV ?_ | with_reducible refine g_if ?_ | with_reducible refine g_op ?_ | with_reducible refine g_un ?_ | with_reducible refine g_cb ?_ | with_reducible refine g_nil ?_ | with_reducible refine g_cons ?_ | with_reducible refine g_call ?_ | with_reducible refine g_callS ?_ | with_reducible refine g_tup ?_ | with_reducible refine g_lst ?_ | with_reducible refine g_isN ?_ | with_reducible refine g_sl ?_ | with_reducible refine g_nopart ?_ | with_reducible refine g_part ?_ | with_reducible refine g_chain ?_ | with_reducible refine g_fld ?_ | with_reducible refine g_prop ?_ | with_reducible refine g_bm ?_ | with_reducible refine g_bm0 ?_ | with_reducible refine g_c ?_ | with_reducible refine g_sub ?_ | with_reducible refine g_int1 ?_ | with_reducible refine g_int2 ?_ | with_reducible refine g_yes ?_ | with_reducible refine g_sfld ?_ | with_reducible refine g_NT ?_ | with_reducible refine g_NF ?_ | with_reducible refine iteT ?_ | with_reducible refine iteF ?_ | ((with_reducible refine' g_aug ?hv ?_); (case hv => exact rfl)) | ((with_reducible refine' g_var ?hv ?_); (case hv => exact rfl)) | with_reducible refine g_I0 ?_ | with_reducible refine g_U ?_ | with_reducible refine g_eqI ?_ | with_reducible refine g_blV ?_ | with_reducible refine g_inV ?_)
local macro_rules | `(tactic| walk_at "rd") => `(tactic| repeat walk_at "rd1")
def Ext (H H' : Hp) : Prop := ∀ b o, H b = some o → H' b = some o
theorem Ext.rfl' {H : Hp} : Ext H H := fun _ _ h => h
theorem Ext.new {H : Hp} {p : Addr} {o : HO} (h : H p = none) : Ext H (upd H p o) := fun b u e => by
  rw [upd_ne (ne_of_none e h)]
  exact e
theorem Ext.trans {H H1 H2 : Hp} (a : Ext H H1) (b : Ext H1 H2) : Ext H H2 := fun c o h => b c o (a c o h)
def ExtBut (p : Addr) (H H' : Hp) : Prop := ∀ b o, b ≠ p → H b = some o → H' b = some o
theorem ExtBut.trans {d : Addr} {H H1 H2 : Hp} (a : ExtBut d H H1) (b : ExtBut d H1 H2) : ExtBut d H H2 := fun x o n h => b x o n (a x o n h)
theorem ExtBut.of {d : Addr} {H H1 : Hp} (a : Ext H H1) : ExtBut d H H1 := fun x o _ h => a x o h
section
variable {K : PySem.W.Frag} {H H' : Hp} {a d : Addr} {xs ys : List V}
theorem sqT_ext (e : Ext H H') (h : SqT K H a xs) : SqT K H' a xs := by
  rcases h with (h | ⟨o, h⟩) | h
  · exact .inl (.inl (e _ _ h))
  · exact .inl (.inr ⟨o, e _ _ h⟩)
  · exact .inr h
theorem sqL_ext (e : Ext H H') (h : SqL K H a xs) : SqL K H' a xs := by
  rcases h with (h | ⟨o, h⟩) | h
  · exact .inl (.inl (e _ _ h))
  · exact .inl (.inr ⟨o, e _ _ h⟩)
  · exact .inr h
theorem sqT_but (e : ExtBut d H H') (n : a ≠ d) (h : SqT K H a xs) : SqT K H' a xs := by
  rcases h with (h | ⟨o, h⟩) | h
  · exact .inl (.inl (e _ _ n h))
  · exact .inl (.inr ⟨o, e _ _ n h⟩)
  · exact .inr h
theorem sqL_but (e : ExtBut d H H') (n : a ≠ d) (h : SqL K H a xs) : SqL K H' a xs := by
  rcases h with (h | ⟨o, h⟩) | h
  · exact .inl (.inl (e _ _ n h))
  · exact .inl (.inr ⟨o, e _ _ n h⟩)
  · exact .inr h
/-- a tuple beside a list that changes -/
theorem sqT_butL (hd : H d = some (.lst ys)) (e : ExtBut d H H') (h : SqT K H a xs) : SqT K H' a xs := by
  rcases h with (h | ⟨o, h⟩) | h
  · exact .inl (.inl (e _ _ (fun z => by rw [z, hd] at h; cases h) h))
  · exact .inl (.inr ⟨o, e _ _ (fun z => by rw [z, hd] at h; cases h) h⟩)
  · exact .inr h
theorem new_ne {o : HO} (h : H a = some o) (n : H d = none) : d ≠ a := fun z => by
  rw [z, h] at n
  cases n
theorem new_up (e : Ext H H') (h : H' d = none) : H d = none := by
  cases q : H d with
  | none => rfl
  | some o =>
    have := e _ _ q
    rw [h] at this
    cases this
theorem mapget {α : Type} {ns : List α} {f : α → V} {i : Nat} : (ns.map f)[i]? = (ns[i]?).map f := List.getElem?_map
end
/-! ### comprehensions -/
section
variable {J : It} {n : Nat} {G : Hp → Prop} {Y : Nat → Hp → V → Hp → Prop} {g : TG} {tt : TT} {te : TE} {vs : List Nat} {σ : L2.St} {H1 : Hp} {D : Addr} {Qd : Hp → Prop}
/-- the indices that are taken -/
def idx (c : Nat → Bool) (n : Nat) : List Nat := (List.range n).filter c
theorem idx_succ (c : Nat → Bool) (n : Nat) : idx c (n + 1) = if c n then idx c n ++ [n] else idx c n := by
  unfold idx
  rw [List.range_succ, List.filter_append]
  cases h : c n <;> simp [h]
theorem idx_len (c : Nat → Bool) (n : Nat) : (idx c n).length ≤ n := by
  have := List.length_filter_le c (List.range n)
  rw [List.length_range] at this
  exact this
/-- results that stand in a relation to the turn -/
def Rel (R : Nat → V → Hp → Prop) (is : List Nat) (ys : List V) (H : Hp) : Prop := is.length = ys.length ∧ ∀ (j i : Nat) (y : V), is[j]? = some i → ys[j]? = some y → R i y H
/-- what a relation says stays where nothing but lists at one place change -/
def Mono (R : Nat → V → Hp → Prop) : Prop := ∀ i y D ys H H', (H D = none ∨ H D = some (.lst ys)) → ExtBut D H H' → R i y H → R i y H'
theorem Mono.ext {R : Nat → V → Hp → Prop} (mono : Mono R) {i : Nat} {y : V} {H H' : Hp} (e : Ext H H') (h : R i y H) (D : Addr) (ys : List V) (hd : H D = none ∨ H D = some (.lst ys)) : R i y H' := mono i y D ys H H' hd (ExtBut.of e) h
theorem Rel.ext {R : Nat → V → Hp → Prop} (mono : ∀ i y H H', Ext H H' → R i y H → R i y H') {is : List Nat} {ys : List V} {H H' : Hp} (e : Ext H H') (h : Rel R is ys H) : Rel R is ys H' := ⟨h.1, fun j i y a b => mono i y H H' e (h.2 j i y a b)⟩
theorem Rel.snoc {R : Nat → V → Hp → Prop} {is : List Nat} {ys : List V} {H : Hp} {i : Nat} {y : V} (h : Rel R is ys H) (hy : R i y H) : Rel R (is ++ [i]) (ys ++ [y]) H := by
  refine ⟨by rw [List.length_append, List.length_append, h.1]; rfl, fun j i' y' a b => ?_⟩
  by_cases hj : j < is.length
  · rw [List.getElem?_append_left hj] at a
    rw [List.getElem?_append_left (by rw [← h.1]; exact hj)] at b
    exact h.2 j i' y' a b
  · rw [List.getElem?_append_right (by omega)] at a
    rw [List.getElem?_append_right (by rw [← h.1]; omega), ← h.1] at b
    cases q : j - is.length with
    | zero =>
      rw [q] at a b
      cases a
      cases b
      exact hy
    | succ m =>
      rw [q] at a
      cases a
theorem lc_rel (w : Walk J n G Y) (R : Nat → V → Hp → Prop) (c : Nat → Bool) (mono : Mono R) (hD : H1 D = none) (hG : ∀ H', Ext H1 H' → G H') (sz : n < sizeLine)
    (body : ∀ i x H' H'', i < n → Ext H1 H' → Y i H' x H'' → ∀ (Qe : VK) (Qn : Hp → Prop), (∀ y H3, Ext H' H3 → R i y H3 → c i = true → Qe y H3) → (∀ H3, Ext H' H3 → c i = false → Qn H3) →
      g x (wipe σ vs) H'' fun σ2 H2 => wipe σ2 vs = wipe σ vs ∧ tt σ2 H2 fun b H3 => if b = true then te σ2 H3 Qe else Qn H3)
    (k : ∀ H' ys, Ext H1 H' → H' D = some (.lst ys) → Rel R (idx c n) ys H' → Qd H') :
    ∃ W : Nat → Nat → Hp → Prop, (∃ m, W 0 m (upd H1 D (.lst []))) ∧ ∀ i m H, W i m H →
      (J.stop i H ∧ Qd H) ∨ (J.go i H ∧ ∃ Nx : Hp → Prop, (∀ H', Nx H' → ∃ m', m' < m ∧ W (i + 1) m' H') ∧ ∀ x H', J.yld i H x H' → g x (wipe σ vs) H' fun σ2 H2 => wipe σ2 vs = wipe σ vs ∧ tt σ2 H2 fun b H3 =>
        if b = true then te σ2 H3 fun y H4 => ∃ acc, H4 D = some (.lst acc) ∧ acc.length < sizeLine ∧ Nx (upd H4 D (.lst (acc ++ [y]))) else Nx H3) := by
  refine lc_it w (fun i H' => ∃ ys, Ext H1 H' ∧ H' D = some (.lst ys) ∧ Rel R (idx c i) ys H') ⟨[], Ext.new hD, upd_same, rfl, fun j i y h => by cases h⟩ (fun i H' _ ⟨ys, e, _⟩ => hG H' e) ?_ ?_
  · rintro i x H' H'' hi ⟨ys, e, hd, hr⟩ hy
    have hys : ys.length < sizeLine := by
      have := idx_len c i
      have := hr.1
      omega
    refine body i x H' H'' hi e hy _ _ (fun y H3 e3 hR hc => ⟨ys, e3 _ _ hd, hys, ys ++ [y], ?_, upd_same, ?_⟩) (fun H3 e3 hc => ⟨ys, Ext.trans e e3, e3 _ _ hd, ?_⟩)
    · intro b o q
      rw [upd_ne (ne_of_none q hD)]
      exact e3 _ _ (e b o q)
    · rw [idx_succ, hc, if_pos rfl]
      have h3 : H3 D = some (.lst ys) := e3 _ _ hd
      have eB : ExtBut D H3 (upd H3 D (.lst (ys ++ [y]))) := fun b o n q => by
        rw [upd_ne n]
        exact q
      refine Rel.snoc ⟨hr.1, fun j i' y' a b => ?_⟩ (mono _ _ D ys _ _ (.inr h3) eB hR)
      exact mono _ _ D ys _ _ (.inr h3) eB (mono _ _ D ys _ _ (.inr hd) (ExtBut.of e3) (hr.2 j i' y' a b))
    · rw [idx_succ, hc, if_neg (by decide)]
      exact ⟨hr.1, fun j i' y' a b => mono _ _ D ys _ _ (.inr hd) (ExtBut.of e3) (hr.2 j i' y' a b)⟩
  · rintro H' ⟨ys, e, hd, hr⟩
    exact k H' ys e hd hr
theorem mono_fun (f : Nat → V) : Mono (fun i y _ => y = f i) := fun _ _ _ _ _ _ _ _ h => h
theorem rel_fun {f : Nat → V} {is : List Nat} {ys : List V} {H : Hp} (h : Rel (fun i y _ => y = f i) is ys H) : ys = is.map f := by
  refine List.ext_getElem? fun j => ?_
  rw [List.getElem?_map]
  cases a : is[j]? with
  | none =>
    have := List.getElem?_eq_none_iff.mp a
    rw [h.1] at this
    rw [List.getElem?_eq_none_iff.mpr this]
    rfl
  | some i =>
    have hj := (List.getElem?_eq_some_iff.mp a).1
    rw [h.1] at hj
    rw [List.getElem?_eq_getElem hj]
    exact congrArg some (h.2 j i _ a (List.getElem?_eq_getElem hj))
theorem idx_all (n : Nat) : idx (fun _ => true) n = List.range n := by
  unfold idx
  simp
/-- over the items of a list: taken ones, changed -/
theorem idx_items' {α β : Type} (xs : List α) (z : α) (c : α → Bool) (f : α → β) : (idx (fun i => c (xs.getD i z)) xs.length).map (fun i => f (xs.getD i z)) = (xs.filter c).map f := by
  unfold idx
  induction xs with
  | nil => rfl
  | cons x r ih =>
    rw [List.length_cons, List.range_succ_eq_map, List.filter_cons, List.filter_cons]
    have e1 : ((x :: r).getD 0 z) = x := rfl
    rw [e1]
    have e2 : (List.filter (fun i => c ((x :: r).getD i z)) (List.map Nat.succ (List.range r.length))) = (List.filter (fun i => c (r.getD i z)) (List.range r.length)).map Nat.succ := by
      rw [List.filter_map]
      rfl
    rw [e2]
    have e3 : List.map (fun i => f ((x :: r).getD i z)) (List.map Nat.succ (List.filter (fun i => c (r.getD i z)) (List.range r.length))) = (r.filter c).map f := by
      rw [List.map_map, ← ih]
      rfl
    split
    · rw [List.map_cons, List.map_cons, e3]
      rfl
    · exact e3
theorem idx_items (xs : List V) (c : V → Bool) (f : V → V) : (idx (fun i => c (xs.getD i .non)) xs.length).map (fun i => f (xs.getD i .non)) = (xs.filter c).map f := idx_items' xs .non c f
section
variable {K : PySem.W.Frag} {Q : VK}
/-- what a comprehension over J asks, told of its turns -/
def LcG (J : It) (g : TG) (tt : TT) (te : TE) (vs : List Nat) (σ : L2.St) (H1 : Hp) (Q : VK) : Prop := ∀ D, H1 D = none → ∃ W : Nat → Nat → Hp → Prop, (∃ m, W 0 m (upd H1 D (.lst []))) ∧ ∀ i m H, W i m H →
      (J.stop i H ∧ Q (.ref D) H) ∨ (J.go i H ∧ ∃ Nx : Hp → Prop, (∀ H', Nx H' → ∃ m', m' < m ∧ W (i + 1) m' H') ∧ ∀ x H', J.yld i H x H' → g x (wipe σ vs) H' fun σ2 H2 => wipe σ2 vs = wipe σ vs ∧ tt σ2 H2 fun b H3 =>
        if b = true then te σ2 H3 fun y H4 => ∃ acc, H4 D = some (.lst acc) ∧ acc.length < sizeLine ∧ Nx (upd H4 D (.lst (acc ++ [y]))) else Nx H3)
theorem lcT {a : Addr} {xs : List V} (hs : SqT K H1 a xs) (sz : xs.length < sizeLine) (c : V → Bool) (f : V → V)
    (body : ∀ x H', x ∈ xs → Ext H1 H' → ∀ (Qe : VK) (Qn : Hp → Prop), (∀ H3, Ext H' H3 → c x = true → Qe (f x) H3) → (∀ H3, Ext H' H3 → c x = false → Qn H3) →
      g x (wipe σ vs) H' fun σ2 H2 => wipe σ2 vs = wipe σ vs ∧ tt σ2 H2 fun b H3 => if b = true then te σ2 H3 Qe else Qn H3)
    (k : ∀ H' D, Ext H1 H' → H1 D = none → H' D = some (.lst ((xs.filter c).map f)) → Q (.ref D) H') :
    ∃ a', V.ref a = .ref a' ∧ (∃ xs, SqT K H1 a' xs) ∧ LcG (Itt K a') g tt te vs σ H1 Q := by
  refine ⟨a, rfl, ⟨_, hs⟩, fun D hD => lc_rel walk_tup (fun i y _ => y = f (xs.getD i .non)) (fun i => c (xs.getD i .non)) (mono_fun fun i => f (xs.getD i .non)) hD (fun H' e => sqT_ext e hs) sz (fun i x H' H'' hi e hy Qe Qn he hn => ?_) (fun H' ys e hd hr => ?_)⟩
  · obtain ⟨rfl, hx⟩ := hy
    have ex : xs.getD i .non = x := by rw [List.getD_eq_getElem?_getD, hx]; rfl
    refine body x _ (List.mem_of_getElem? hx) e Qe Qn (fun H3 e3 hc => he _ H3 e3 (by rw [ex]) (by rw [ex]; exact hc)) (fun H3 e3 hc => hn H3 e3 (by rw [ex]; exact hc))
  · have := rel_fun hr
    rw [idx_items] at this
    rw [this] at hd
    exact k H' D e hD hd
theorem lcL {a : Addr} {xs : List V} (hs : SqL K H1 a xs) (sz : xs.length < sizeLine) (c : V → Bool) (f : V → V)
    (body : ∀ x H', x ∈ xs → Ext H1 H' → ∀ (Qe : VK) (Qn : Hp → Prop), (∀ H3, Ext H' H3 → c x = true → Qe (f x) H3) → (∀ H3, Ext H' H3 → c x = false → Qn H3) →
      g x (wipe σ vs) H' fun σ2 H2 => wipe σ2 vs = wipe σ vs ∧ tt σ2 H2 fun b H3 => if b = true then te σ2 H3 Qe else Qn H3)
    (k : ∀ H' D, Ext H1 H' → H1 D = none → H' D = some (.lst ((xs.filter c).map f)) → Q (.ref D) H') :
    ∃ a', V.ref a = .ref a' ∧ (∃ xs, SqL K H1 a' xs) ∧ LcG (Itl K a') g tt te vs σ H1 Q := by
  refine ⟨a, rfl, ⟨_, hs⟩, fun D hD => lc_rel walk_list (fun i y _ => y = f (xs.getD i .non)) (fun i => c (xs.getD i .non)) (mono_fun fun i => f (xs.getD i .non)) hD (fun H' e => sqL_ext e hs) sz (fun i x H' H'' hi e hy Qe Qn he hn => ?_) (fun H' ys e hd hr => ?_)⟩
  · obtain ⟨rfl, hx⟩ := hy
    have ex : xs.getD i .non = x := by rw [List.getD_eq_getElem?_getD, hx]; rfl
    refine body x _ (List.mem_of_getElem? hx) e Qe Qn (fun H3 e3 hc => he _ H3 e3 (by rw [ex]) (by rw [ex]; exact hc)) (fun H3 e3 hc => hn H3 e3 (by rw [ex]; exact hc))
  · have := rel_fun hr
    rw [idx_items] at this
    rw [this] at hd
    exact k H' D e hD hd
/-- over a range: the turn's number is lo + i -/
theorem lcR {lo : Int} {n : Nat} (sz : n < sizeLine) (c : Nat → Bool) (f : Nat → V)
    (body : ∀ (i : Nat) H', i < n → Ext H1 H' → ∀ (Qe : VK) (Qn : Hp → Prop), (∀ H3, Ext H' H3 → c i = true → Qe (f i) H3) → (∀ H3, Ext H' H3 → c i = false → Qn H3) →
      g (.int (lo + i)) (wipe σ vs) H' fun σ2 H2 => wipe σ2 vs = wipe σ vs ∧ tt σ2 H2 fun b H3 => if b = true then te σ2 H3 Qe else Qn H3)
    (k : ∀ H' D, Ext H1 H' → H1 D = none → H' D = some (.lst ((idx c n).map f)) → Q (.ref D) H') : LcG (Itr lo n) g tt te vs σ H1 Q := by
  refine fun D hD => lc_rel walk_range (fun i y _ => y = f i) c (mono_fun f) hD (fun H' e => True.intro) sz (fun i x H' H'' hi e hy Qe Qn he hn => ?_) (fun H' ys e hd hr => ?_)
  · obtain ⟨rfl, rfl⟩ := hy
    exact body i _ hi e Qe Qn (fun H3 e3 hc => he _ H3 e3 rfl hc) hn
  · rw [rel_fun hr] at hd
    exact k H' D e hD hd
theorem lcRC {lo st : Int} {n : Nat} (sz : n < sizeLine) (c : Nat → Bool) (f : Nat → V)
    (body : ∀ (i : Nat) H', i < n → Ext H1 H' → ∀ (Qe : VK) (Qn : Hp → Prop), (∀ H3, Ext H' H3 → c i = true → Qe (f i) H3) → (∀ H3, Ext H' H3 → c i = false → Qn H3) →
      g (.int (lo + (i : Nat) * st)) (wipe σ vs) H' fun σ2 H2 => wipe σ2 vs = wipe σ vs ∧ tt σ2 H2 fun b H3 => if b = true then te σ2 H3 Qe else Qn H3)
    (k : ∀ H' D, Ext H1 H' → H1 D = none → H' D = some (.lst ((idx c n).map f)) → Q (.ref D) H') : LcG (Itc lo st n) g tt te vs σ H1 Q := by
  refine fun D hD => lc_rel walk_rangeC (fun i y _ => y = f i) c (mono_fun f) hD (fun H' e => True.intro) sz (fun i x H' H'' hi e hy Qe Qn he hn => ?_) (fun H' ys e hd hr => ?_)
  · obtain ⟨rfl, rfl⟩ := hy
    exact body i _ hi e Qe Qn (fun H3 e3 hc => he _ H3 e3 rfl hc) hn
  · rw [rel_fun hr] at hd
    exact k H' D e hD hd
/-! pairs -/
theorem walk_enumT {a : Addr} {xs : List V} : Walk (IteT K a) xs.length (fun H => SqT K H a xs) (YPair (fun i => some (.int (i : Nat))) (fun i => xs[i]?)) := by
  refine ⟨fun i _ hi q => ⟨xs, xs[i], q, by simp [hi]⟩, fun _ q => ⟨xs, q, rfl⟩, fun i H v H' _ q y => ?_⟩
  obtain ⟨T, x, h1, h2, h3, h4⟩ := y
  exact ⟨T, .int (i : Nat), x, h1, h2, h3, rfl, h4 xs q⟩
theorem sqE_ext {l : Bool} {H H' : Hp} {a : Addr} {xs : List V} (e : Ext H H') (h : SqE K l H a xs) : SqE K l H' a xs := by
  cases l with
  | true => exact sqL_ext e h
  | false => exact sqT_ext e h
theorem walk_zipE {l1 l2 : Bool} {a b : Addr} {xs ys : List V} : Walk (ItzE K l1 l2 a b) (min xs.length ys.length) (fun H => SqE K l1 H a xs ∧ SqE K l2 H b ys) (YPair (fun i => xs[i]?) (fun i => ys[i]?)) := by
  refine ⟨fun i _ hi q => ?_, fun _ q => ⟨xs, ys, q.1, q.2, rfl⟩, fun i H v H' _ q y => ?_⟩
  · have h1 : i < xs.length := by omega
    have h2 : i < ys.length := by omega
    exact ⟨xs, ys, xs[i], ys[i], q.1, q.2, by simp [h1], by simp [h2]⟩
  · obtain ⟨T, x, z, h1, h2, h3, h4, h5⟩ := y
    exact ⟨T, x, z, h1, h2, h3, h4 xs q.1, h5 ys q.2⟩
/-- a walk that gives pairs, into two names -/
theorem lcP {J : It} {n : Nat} {G : Hp → Prop} {px py : Nat → Option V} {i1 i2 : Nat} (w : Walk J n G (YPair px py)) (hG : ∀ H', Ext H1 H' → G H') (sz : n < sizeLine) (c : Nat → Bool) (f : Nat → V)
    (body : ∀ (i : Nat) x y H', i < n → px i = some x → py i = some y → Ext H1 H' → ∀ (Qe : VK) (Qn : Hp → Prop), (∀ H3, Ext H' H3 → c i = true → Qe (f i) H3) → (∀ H3, Ext H' H3 → c i = false → Qn H3) →
      wipe (((wipe σ vs).set i1 (some x)).set i2 (some y)) vs = wipe σ vs ∧ tt (((wipe σ vs).set i1 (some x)).set i2 (some y)) H' fun b H3 => if b = true then te (((wipe σ vs).set i1 (some x)).set i2 (some y)) H3 Qe else Qn H3)
    (k : ∀ H' D, Ext H1 H' → H1 D = none → H' D = some (.lst ((idx c n).map f)) → Q (.ref D) H') : LcG J (gTup K 2 (gCons (gName i1) (gCons (gName i2) gNil))) tt te vs σ H1 Q := by
  refine fun D hD => lc_rel w (fun i y _ => y = f i) c (mono_fun f) hD hG sz (fun i x H' H'' hi e hy Qe Qn he hn => ?_) (fun H' ys e hd hr => ?_)
  · obtain ⟨T, x, y, rfl, hT, rfl, hx, hy⟩ := hy
    have eT := Ext.new (o := HO.tup [x, y]) hT
    refine ⟨T, _, rfl, SqT.of upd_same, rfl, _, _, rfl, ?_⟩
    refine ⟨_, _, rfl, rfl, ?_⟩
    exact body i x y _ hi hx hy (Ext.trans e eT) Qe Qn (fun H3 e3 hc => he _ H3 (Ext.trans eT e3) rfl hc) (fun H3 e3 hc => hn H3 (Ext.trans eT e3) hc)
  · rw [rel_fun hr] at hd
    exact k H' D e hD hd
theorem zip_items (xs ys : List V) (c : V → V → Bool) (f : V → V → V) : (idx (fun i => c (xs.getD i .non) (ys.getD i .non)) (min xs.length ys.length)).map (fun i => f (xs.getD i .non) (ys.getD i .non)) = ((xs.zip ys).filter fun p => c p.1 p.2).map fun p => f p.1 p.2 := by
  have e := idx_items' (xs.zip ys) (V.non, V.non) (fun p => c p.1 p.2) (fun p => f p.1 p.2)
  rw [List.length_zip] at e
  rw [← e]
  unfold idx
  have hz : ∀ i, i < min xs.length ys.length → (xs.zip ys).getD i (V.non, V.non) = (xs.getD i .non, ys.getD i .non) := fun i hi => by
    have h1 : i < xs.length := by omega
    have h2 : i < ys.length := by omega
    have hl : i < (xs.zip ys).length := by rw [List.length_zip]; exact hi
    rw [List.getD_eq_getElem?_getD, List.getElem?_eq_getElem hl, List.getElem_zip, List.getD_eq_getElem?_getD, List.getElem?_eq_getElem h1, List.getD_eq_getElem?_getD, List.getElem?_eq_getElem h2]
    rfl
  have hf : (List.range (min xs.length ys.length)).filter (fun i => c (xs.getD i .non) (ys.getD i .non)) = (List.range (min xs.length ys.length)).filter (fun i => c ((xs.zip ys).getD i (V.non, V.non)).1 ((xs.zip ys).getD i (V.non, V.non)).2) := by
    refine List.filter_congr fun i hi => ?_
    rw [hz i (List.mem_range.mp hi)]
  rw [hf]
  refine List.map_congr_left fun i hi => ?_
  rw [hz i (List.mem_range.mp (List.mem_filter.mp hi).1)]
/-- over zip(a, b) -/
theorem lcZ {l1 l2 : Bool} {a b : Addr} {xs ys : List V} {i1 i2 : Nat} (ha : SqE K l1 H1 a xs) (hb : SqE K l2 H1 b ys) (sz : min xs.length ys.length < sizeLine) (c : V → V → Bool) (f : V → V → V)
    (body : ∀ x y H', (x, y) ∈ xs.zip ys → Ext H1 H' → ∀ (Qe : VK) (Qn : Hp → Prop), (∀ H3, Ext H' H3 → c x y = true → Qe (f x y) H3) → (∀ H3, Ext H' H3 → c x y = false → Qn H3) →
      wipe (((wipe σ vs).set i1 (some x)).set i2 (some y)) vs = wipe σ vs ∧ tt (((wipe σ vs).set i1 (some x)).set i2 (some y)) H' fun b H3 => if b = true then te (((wipe σ vs).set i1 (some x)).set i2 (some y)) H3 Qe else Qn H3)
    (k : ∀ H' D, Ext H1 H' → H1 D = none → H' D = some (.lst (((xs.zip ys).filter fun p => c p.1 p.2).map fun p => f p.1 p.2)) → Q (.ref D) H') :
    ∃ k1 k2 a' b' xs ys, [V.ref a, V.ref b] = [V.ref a', V.ref b'] ∧ SqE K k1 H1 a' xs ∧ SqE K k2 H1 b' ys ∧ LcG (ItzE K k1 k2 a' b') (gTup K 2 (gCons (gName i1) (gCons (gName i2) gNil))) tt te vs σ H1 Q := by
  refine ⟨l1, l2, a, b, xs, ys, rfl, ha, hb, lcP walk_zipE (fun H' e => ⟨sqE_ext e ha, sqE_ext e hb⟩) sz (fun i => c (xs.getD i .non) (ys.getD i .non)) (fun i => f (xs.getD i .non) (ys.getD i .non)) (fun i x y H' hi hx hy e Qe Qn he hn => ?_) (fun H' D e hD hd => ?_)⟩
  · have ex : xs.getD i .non = x := by rw [List.getD_eq_getElem?_getD, hx]; rfl
    have ey : ys.getD i .non = y := by rw [List.getD_eq_getElem?_getD, hy]; rfl
    have mem : (x, y) ∈ xs.zip ys := List.mem_of_getElem? (i := i) (by rw [List.getElem?_zip_eq_some]; exact ⟨hx, hy⟩)
    refine body x y _ mem e Qe Qn (fun H3 e3 hc => ?_) (fun H3 e3 hc => hn H3 e3 (by rw [ex, ey]; exact hc))
    have := he H3 e3 (by rw [ex, ey]; exact hc)
    rw [ex, ey] at this
    exact this
  · rw [zip_items] at hd
    exact k H' D e hD hd
/-- over enumerate(a) -/
theorem lcE {a : Addr} {xs : List V} {i1 i2 : Nat} (ha : SqT K H1 a xs) (sz : xs.length < sizeLine) (c : Nat → V → Bool) (f : Nat → V → V)
    (body : ∀ (i : Nat) x H', xs[i]? = some x → Ext H1 H' → ∀ (Qe : VK) (Qn : Hp → Prop), (∀ H3, Ext H' H3 → c i x = true → Qe (f i x) H3) → (∀ H3, Ext H' H3 → c i x = false → Qn H3) →
      wipe (((wipe σ vs).set i1 (some (.int (i : Nat)))).set i2 (some x)) vs = wipe σ vs ∧ tt (((wipe σ vs).set i1 (some (.int (i : Nat)))).set i2 (some x)) H' fun b H3 => if b = true then te (((wipe σ vs).set i1 (some (.int (i : Nat)))).set i2 (some x)) H3 Qe else Qn H3)
    (k : ∀ H' D, Ext H1 H' → H1 D = none → H' D = some (.lst ((idx (fun i => c i (xs.getD i .non)) xs.length).map fun i => f i (xs.getD i .non))) → Q (.ref D) H') :
    ∃ t xs, [V.ref a] = [V.ref t] ∧ SqT K H1 t xs ∧ LcG (IteT K t) (gTup K 2 (gCons (gName i1) (gCons (gName i2) gNil))) tt te vs σ H1 Q := by
  refine ⟨a, xs, rfl, ha, lcP walk_enumT (fun H' e => sqT_ext e ha) sz (fun i => c i (xs.getD i .non)) (fun i => f i (xs.getD i .non)) (fun i x y H' hi hx hy e Qe Qn he hn => ?_) k⟩
  cases hx
  have ey : xs.getD i .non = y := by rw [List.getD_eq_getElem?_getD, hy]; rfl
  refine body i y _ hy e Qe Qn (fun H3 e3 hc => ?_) (fun H3 e3 hc => hn H3 e3 (by rw [ey]; exact hc))
  have := he H3 e3 (by rw [ey]; exact hc)
  rw [ey] at this
  exact this
end
end
end Q0

set_option Elab.async false
set_option linter.all false
set_option maxRecDepth 100000
set_option maxHeartbeats 4000000
/-! Defs and methods, their places hidden. -/
namespace Q0
open PySem PySem.Spec PyProof.Rows L2 Gd
local macro_rules | `(tactic| walk_at "rd1") => `(tactic| first | with_reducible refine g_ret ?_ | with_reducible refine g_retN ?_ | with_reducible refine g_seq ?_ | with_reducible refine g_next ?_ | with_reducible refine g_drop ?_ | with_reducible refine g_asg ?_ | with_reducible refine g_name ?_ | with_reducible refine g_ifs ?_ | with_reducible refine g_test ?_ | with_reducible refine g_tb ?_ | with_reducible refine g_and ?_ | with_reducible refine g_or ?_ | with_reducible refine g_not ?_ | with_reducible refine g_andV ?_ | with_reducible refine g_orV ?_ | with_reducible refine g_notV ?_ | with_reducible refine g_if ?_ | with_reducible refine g_op ?_ | with_reducible refine g_un ?_ | with_reducible refine g_cb ?_ | with_reducible refine g_nil ?_ | with_reducible refine g_cons ?_ | with_reducible refine g_call ?_ | with_reducible refine g_callS ?_ | with_reducible refine g_tup ?_ | with_reducible refine g_lst ?_ | with_reducible refine g_isN ?_ | with_reducible refine g_sl ?_ | with_reducible refine g_nopart ?_ | with_reducible refine g_part ?_ | with_reducible refine g_chain ?_ | with_reducible refine g_fld ?_ | with_reducible refine g_prop ?_ | with_reducible refine g_bm ?_ | with_reducible refine g_bm0 ?_ | with_reducible refine g_c ?_ | with_reducible refine g_sub ?_ | with_reducible refine g_int1 ?_ | with_reducible refine g_int2 ?_ | with_reducible refine g_yes ?_ | with_reducible refine g_sfld ?_ | with_reducible refine g_NT ?_ | with_reducible refine g_NF ?_ | with_reducible refine iteT ?_ | with_reducible refine iteF ?_ | ((with_reducible refine' g_aug ?hv ?_); (case hv => exact rfl)) | ((with_reducible refine' g_var ?hv ?_); (case hv => exact rfl)) | with_reducible refine g_I0 ?_ | with_reducible refine g_U ?_ | with_reducible refine g_eqI ?_ | with_reducible refine g_blV ?_ | with_reducible refine g_inV ?_)
local macro_rules | `(tactic| walk_at "rd") => `(tactic| repeat walk_at "rd1")
structure Def1 (P : Program) (w : World) (K : PySem.W.Frag) (mg : Str → Option Value) (base : Heap) (CX : CXT) (k : Nat) (name : Str) (ps : List Str) (sp : Sp) : Prop where
  ex : ∃ (f : Addr) (fd : FuncData), mg name = some (.ref f) ∧ PySem.W.keepIn K (.ref f) = true ∧ FnOk P w K mg base CX k f fd ps sp ∧ Binds K fd ps []
structure Bin1 (P : Program) (w : World) (K : PySem.W.Frag) (mg : Str → Option Value) (base : Heap) (CX : CXT) (k : Nat) (C : Addr) (m r : Str) (sp : Sp) : Prop where
  ex : ∃ (f : Addr) (fd : FuncData), BinC K C m r f ∧ FnOk P w K mg base CX k f fd ["self", "other"] sp ∧ Binds K fd ["self", "other"] []
structure Met1 (P : Program) (w : World) (K : PySem.W.Frag) (mg : Str → Option Value) (base : Heap) (CX : CXT) (k : Nat) (C : Addr) (m : Str) (ps : List Str) (sp : Sp) : Prop where
  ex : ∃ (f : Addr) (fd : FuncData), Meth K C m f ∧ PySem.W.fnIn K f = true ∧ FnOk P w K mg base CX k f fd ps sp ∧ Binds K fd ps []
structure Pro1 (P : Program) (w : World) (K : PySem.W.Frag) (mg : Str → Option Value) (base : Heap) (k : Nat) (C : Addr) (x : Str) (sp : Sp) : Prop where
  ex : ∃ (p f : Addr) (fd : FuncData), PropOf K C x p f ∧ FnOk P w K mg base CX0 k f fd ["self"] sp ∧ Binds K fd ["self"] []
structure Ini1 (P : Program) (w : World) (K : PySem.W.Frag) (mg : Str → Option Value) (base : Heap) (CX : CXT) (k : Nat) (C t0 : Addr) (ps : List Str) (sp : Sp) : Prop where
  ex : ∃ (f : Addr) (fd : FuncData) (ds : List Value), Mk K C f ∧ FnOk P w K mg base CX k f fd ps sp ∧ Binds K fd ps [] ∧ Vals [V.ref t0] ds ∧ Binds K fd ps ds
abbrev X0 : XK := fun _ _ _ => False
section
variable {X : Cx} {CX : CXT} {C t0 : Addr} {k j : Nat} {x m r : Str} {ps : List Str} {sp : Sp} {e a : Expr} {es : List Expr} {t : TA} {ta tb : TE} {p pos apos : Pos}
theorem pe_def (D : Def1 X.prog X.w X.K X.mg X.base CX0 k x ps sp) (hr : Room j X.A) (hj : k ≤ j) (hgl : Gl X x) (ha : PA X (e :: es) t) (hdb : (x == ("__debug__" : Str)) = false := by decide)
    (he : starEach (e :: es) X.env = (false, eval e X.env) :: starEach es X.env := by rfl) (hpl : (backTo pos (starEach es X.env)).any (·.1) = false := by rfl) : PE X (.Call (.Name x p) (e :: es) [] pos) (tCall sp [] X0 t) := by
  obtain ⟨f, fd, hm, hk, F, hb⟩ := D.ex
  exact pe_call F (hr.mono hj) hgl hm hk hb .nil pass0 ha hdb he hpl
theorem pe_defX {E : XK} (D : Def1 X.prog X.w X.K X.mg X.base CX k x ps sp) (hx : Passes CX X E) (hr : Room j X.A) (hj : k ≤ j) (hgl : Gl X x) (ha : PA X (e :: es) t) (hdb : (x == ("__debug__" : Str)) = false := by decide)
    (he : starEach (e :: es) X.env = (false, eval e X.env) :: starEach es X.env := by rfl) (hpl : (backTo pos (starEach es X.env)).any (·.1) = false := by rfl) : PE X (.Call (.Name x p) (e :: es) [] pos) (tCall sp [] E t) := by
  obtain ⟨f, fd, hm, hk, F, hb⟩ := D.ex
  exact pe_call F (hr.mono hj) hgl hm hk hb .nil hx ha hdb he hpl
theorem op_add1 {E : XK} (D : Bin1 X.prog X.w X.K X.mg X.base CX k C "__add__" "__radd__" sp) (hx : ∀ σ, PassesAt CX X σ E) (hr : Room j X.A) (hj : k + 1 ≤ j) : OpR X (binaryOp .Add) (rBinO C sp E) := by
  obtain ⟨f, fd, B, F, hb⟩ := D.ex
  exact op_addO B F (hr.mono hj) hb hx
theorem op_eq1 (D : Met1 X.prog X.w X.K X.mg X.base CX0 k C "__eq__" ["self", "other"] sp) (hr : Room j X.A) (hj : k + 1 ≤ j) : OpR X (compareOp .Eq) (rCmpO X.K C sp X0) := by
  obtain ⟨f, fd, M, _, F, hb⟩ := D.ex
  exact op_eqO M F (hr.mono hj) hb (fun _ => quiet0)
theorem op_lt1 (D : Met1 X.prog X.w X.K X.mg X.base CX0 k C "__lt__" ["self", "other"] sp) (hr : Room j X.A) (hj : k + 1 ≤ j) : OpR X (compareOp .Lt) (rCmpO X.K C sp X0) := by
  obtain ⟨f, fd, M, _, F, hb⟩ := D.ex
  exact op_ltO M F (hr.mono hj) hb (fun _ => quiet0)
theorem op_ne1 (hn : NeC X.K C) (D : Met1 X.prog X.w X.K X.mg X.base CX0 k C "__eq__" ["self", "other"] sp) (hr : Room j X.A) (hj : k + 1 ≤ j) : OpR X (compareOp .NotEq) (rNeO X.K C sp X0) := by
  obtain ⟨f, fd, M, _, F, hb⟩ := D.ex
  exact op_neO hn M F (hr.mono hj) hb (fun _ => quiet0)
theorem pe_pro1 (c : Cls X.K C) (D : Pro1 X.prog X.w X.K X.mg X.base k C x sp) (hr : Room j X.A) (hj : k + 1 ≤ j) (ha : PE X e ta) (hab : attributeBase e x X.env (eval e X.env) = eval e X.env := by rfl) : PE X (.Attribute e x pos) (tProp C sp [] X0 ta) := by
  obtain ⟨p, f, fd, hp, F, hb⟩ := D.ex
  exact pe_prop ha c hp F (hr.mono hj) hb .nil pass0 hab
theorem pe_mk1 {E : XK} (D : Ini1 X.prog X.w X.K X.mg X.base CX k C t0 ps sp) (hx : Passes CX X E) (hr : Room j X.A) (hj : k + 1 ≤ j) (hgl : Gl X x) (hm : X.mg x = some (.ref C)) (ha : PA X (e :: es) t) (hdb : (x == ("__debug__" : Str)) = false := by decide)
    (he : starEach (e :: es) X.env = (false, eval e X.env) :: starEach es X.env := by rfl) (hpl : (backTo pos (starEach es X.env)).any (·.1) = false := by rfl) : PE X (.Call (.Name x p) (e :: es) [] pos) (tMake C sp [] E t) := by
  obtain ⟨f, fd, ds, M, F, hb, _, _⟩ := D.ex
  exact pe_make M F (hr.mono hj) hgl hm hb .nil hx ha hdb he hpl
theorem pe_mk0 {E : XK} (D : Ini1 X.prog X.w X.K X.mg X.base CX k C t0 ps sp) (hx : Passes CX X E) (hr : Room j X.A) (hj : k + 1 ≤ j) (hgl : Gl X x) (hm : X.mg x = some (.ref C)) (hdb : (x == ("__debug__" : Str)) = false := by decide) : PE X (.Call (.Name x p) [] [] pos) (tMake C sp [.ref t0] E tNil) := by
  obtain ⟨f, fd, ds, M, F, _, hv, hb⟩ := D.ex
  exact pe_make0 M F (hr.mono hj) hgl hm hb hv hx hdb
theorem pe_it1 (D : Met1 X.prog X.w X.K X.mg X.base CX k C "__getitem__" ["self", "index"] sp) {E : L2.St → XK} (hx : ∀ σ, PassesAt CX X σ (E σ)) (hr : Room j X.A) (hj : k + 1 ≤ j) (ha : PE X e ta) (hb : PE X a tb)
    (hs : ∀ v u : Value, subscripted a true v u = runValue (.builtin "lifetime.subscript" ⟨[v, u], []⟩) := by intro _ _; with_unfolding_all rfl) : PE X (.Subscript e a pos) (tIxO C sp E ta tb) := by
  obtain ⟨f, fd, M, hfn, F, hB⟩ := D.ex
  exact pe_ixO M hfn F (hr.mono hj) hB hx ha hb hs
theorem pe_me1 {o : Expr} {pl : Sem Bool} {E : XK} (c : Cls X.K C) (D : Met1 X.prog X.w X.K X.mg X.base CX k C m ps sp) (hx : Passes CX X E) (hr : Room j X.A) (hj : k ≤ j) (ho : PE X o ta) (ha : PA X (e :: es) t)
    (ht : eval (.Call (.Attribute o m apos) (e :: es) [] pos) X.env = (do
      let ov ← eval o X.env
      standAt apos.atName
      let (f, first) ← holding [ov] (getMethod ov m pl)
      callWith pos f first (backTo pos (starEach (e :: es) X.env)) (backToKw pos (keywordEach [] X.env))) := by rfl)
    (hst : starEach (e :: es) X.env = (false, eval e X.env) :: starEach es X.env := by rfl) (hpl : (backTo pos (starEach es X.env)).any (·.1) = false := by rfl) :
    PE X (.Call (.Attribute o m apos) (e :: es) [] pos) (tMeth C m sp [] E ta t) := by
  obtain ⟨f, fd, M, _, F, hb⟩ := D.ex
  exact pe_meth ho c M F (hr.mono hj) hb .nil hx ha hst hpl ht
theorem g_lc {wi : TI} {g : TG} {tt : TT} {te : TE} {vs : List Nat} {σ : L2.St} {H : Hp} {Q : VK} (k : wi σ H fun J H1 => LcG J g tt te vs σ H1 Q) : tLc wi g tt te vs σ H Q := k
theorem g_rng1 {ta : TA} {σ : L2.St} {H : Hp} {R : It → Hp → Prop} (k : ta σ H fun vs H1 => ∃ j : Int, vs = [.int j] ∧ -(2 ^ 62) ≤ j ∧ j < 2 ^ 62 ∧ R (Itr 0 j.toNat) H1) : iRng1 ta σ H R := k
theorem g_rng2 {ta : TA} {σ : L2.St} {H : Hp} {R : It → Hp → Prop} (k : ta σ H fun vs H1 => ∃ i j : Int, vs = [.int i, .int j] ∧ (-(2 ^ 62) ≤ i ∧ i < 2 ^ 62 ∧ -(2 ^ 62) ≤ j ∧ j < 2 ^ 62) ∧ R (Itr i (j - i).toNat) H1) : iRng2 ta σ H R := k
theorem g_itup {K : PySem.W.Frag} {te : TE} {σ : L2.St} {H : Hp} {R : It → Hp → Prop} (k : te σ H fun x H1 => ∃ a, x = .ref a ∧ (∃ xs, SqT K H1 a xs) ∧ R (Itt K a) H1) : iTup K te σ H R := k
theorem g_ilist {K : PySem.W.Frag} {te : TE} {σ : L2.St} {H : Hp} {R : It → Hp → Prop} (k : te σ H fun x H1 => ∃ a, x = .ref a ∧ (∃ xs, SqL K H1 a xs) ∧ R (Itl K a) H1) : iList K te σ H R := k
/-- a reading given two ways -/
theorem CallR.or {f : Value} {r1 r2 : List V → Hp → VK → Prop} (h1 : CallR X f r1) (h2 : CallR X f r2) : CallR X f (fun vs H Q => r1 vs H Q ∨ r2 vs H Q) := by
  intro pins s σ H vs us Q I r h
  rcases h with h | h
  · exact h1 pins s σ H vs us Q I r h
  · exact h2 pins s σ H vs us Q I r h
def rSumS (K : PySem.W.Frag) : List V → Hp → VK → Prop := fun vs H Q => ∃ (a : Addr) (ns : List Int), vs = [V.ref a] ∧ (SqL K H a (ns.map V.int) ∨ SqT K H a (ns.map V.int)) ∧ Q (.int ns.sum) H
theorem call_sumS (hc : X.calm = true) : CallR X (.builtin "sum") (rSumS X.K) := by
  intro pins s σ H vs us Q I r h
  obtain ⟨a, ns, e, h | h, k⟩ := h
  · exact cr_sum hc pins s σ H vs us Q I r ⟨a, ns, e, h, k⟩
  · exact cr_sumT hc pins s σ H vs us Q I r ⟨a, ns, e, h, k⟩
end
end Q0

set_option Elab.async false
set_option linter.all false
set_option maxRecDepth 100000
set_option maxHeartbeats 4000000
/-! The text by places; integers; dice. -/
namespace Q0
open PySem PySem.Spec PyProof.Rows L2 Gd
open LamX (ExtN)
local macro_rules | `(tactic| walk_at "rd1") => `(tactic| first | with_reducible refine g_ret ?_ | with_reducible refine g_retN ?_ | with_reducible refine g_seq ?_ | with_reducible refine g_next ?_ | with_reducible refine g_drop ?_ | with_reducible refine g_asg ?_ | with_reducible refine g_name ?_ | with_reducible refine g_ifs ?_ | with_reducible refine g_test ?_ | with_reducible refine g_tb ?_ | with_reducible refine g_and ?_ | with_reducible refine g_or ?_ | with_reducible refine g_not ?_ | with_reducible refine g_andV ?_ | with_reducible refine g_orV ?_ | with_reducible refine g_notV ?_ | with_reducible refine g_if ?_ | with_reducible refine g_op ?_ | with_reducible refine g_un ?_ | with_reducible refine g_cb ?_ | with_reducible refine g_nil ?_ | with_reducible refine g_cons ?_ | with_reducible refine g_call ?_ | with_reducible refine g_callS ?_ | with_reducible refine g_tup ?_ | with_reducible refine g_lst ?_ | with_reducible refine g_isN ?_ | with_reducible refine g_sl ?_ | with_reducible refine g_nopart ?_ | with_reducible refine g_part ?_ | with_reducible refine g_chain ?_ | with_reducible refine g_fld ?_ | with_reducible refine g_prop ?_ | with_reducible refine g_bm ?_ | with_reducible refine g_bm0 ?_ | with_reducible refine g_c ?_ | with_reducible refine g_sub ?_ | with_reducible refine g_int1 ?_ | with_reducible refine g_int2 ?_ | with_reducible refine g_yes ?_ | with_reducible refine g_sfld ?_ | with_reducible refine g_NT ?_ | with_reducible refine g_NF ?_ | with_reducible refine iteT ?_ | with_reducible refine iteF ?_ | ((with_reducible refine' g_aug ?hv ?_); (case hv => exact rfl)) | ((with_reducible refine' g_var ?hv ?_); (case hv => exact rfl)) | with_reducible refine g_I0 ?_ | with_reducible refine g_U ?_ | with_reducible refine g_eqI ?_ | with_reducible refine g_blV ?_ | with_reducible refine g_inV ?_)
local macro_rules | `(tactic| walk_at "rd") => `(tactic| repeat walk_at "rd1")
def top (i : Nat) : Stmt := PySem.Challenge.pw_primekinds_k11_groups_and_their_members.main.body.getD i (.Pass ⟨0, 0, 0, 0⟩)
abbrev sWhole : Stmt := top 13
abbrev sInteger : Stmt := top 14
abbrev sIndex : Stmt := top 16
def cls (j : Nat) : Stmt := inClass (top 32) j
abbrev sDice : Stmt := top 42
abbrev sRoll : Stmt := top 43
abbrev sPick : Stmt := top 44
/-- what is known of the module's names -/
structure Txt (K : PySem.W.Frag) (mg : Str → Option Value) : Prop where
  isinstance : mg "isinstance" = none
  int : mg "int" = none
  bool : mg "bool" = none
  str : mg "str" = none
  tuple : mg "tuple" = none
  list : mg "list" = none
  dict : mg "dict" = none
  len : mg "len" = none
  all : mg "all" = none
  any : mg "any" = none
  sum : mg "sum" = none
  iter : mg "iter" = none
  max : mg "max" = none
  min : mg "min" = none
  abs : mg "abs" = none
  range : mg "range" = none
  repr : mg "repr" = none
  sorted : mg "sorted" = none
  enumerate : mg "enumerate" = none
  zip : mg "zip" = none
  bound : ∃ t, mg "BOUND" = some (.int (10 ^ 60) t)
section
variable {P : Program} {w : World} {K : PySem.W.Frag} {mg : Str → Option Value} {base : Heap} {f : Addr} {fd : FuncData}
theorem dec_l {p q : Prop} [Decidable p] [Decidable q] (h : p) : decide (p ∧ q) = decide q := by simp [h]
theorem dec_n {p q : Prop} [Decidable p] [Decidable q] (h : ¬ p) : decide (p ∧ q) = false := by simp [h]
/-! ### is_whole -/
/-- whether a value is an integer other than True and False -/
def WholeB (K : PySem.W.Frag) (H : Hp) (x : V) (b : Bool) : Prop := ∃ t b1 b2, TyX K H x t ∧ PySem.W.kitOne K t (.type "int") = some b1 ∧
  PySem.W.kitOne K t (.type "bool") = some b2 ∧ b = (b1 && !b2)
theorem whole_int {H : Hp} {i : Int} : WholeB K H (.int i) true := ⟨_, true, false, .base (.int i), by kernel_rfl, by kernel_rfl, rfl⟩
theorem whole_bl {H : Hp} {b : Bool} : WholeB K H (.bl b) false := ⟨_, true, true, .base (.bl b), by kernel_rfl, by kernel_rfl, rfl⟩
theorem whole_non {H : Hp} : WholeB K H .non false := ⟨_, false, false, .base .non, by kernel_rfl, by kernel_rfl, rfl⟩
theorem whole_str {H : Hp} {x : Str} : WholeB K H (.str x) false := ⟨_, false, false, .base (.str x), by kernel_rfl, by kernel_rfl, rfl⟩
theorem whole_tup {H : Hp} {a : Addr} {xs : List V} (h : H a = some (.tup xs)) : WholeB K H (.ref a) false := ⟨_, false, false, .base (.tup h), by kernel_rfl, by kernel_rfl, rfl⟩
def spWhole (K : PySem.W.Frag) : Sp := fun vs H Q _ => ∃ x b, vs = [x] ∧ WholeB K H x b ∧ Q (.bl b) H
theorem scWhole : FnScope ["value"] ["value"] (defScope sWhole) := ⟨rfl, rfl, rfl, by decide +kernel, rfl, by decide +kernel, by decide +kernel⟩
theorem ok_whole {f : Addr} {fd : FuncData} (F : Fun K "is_whole" "is_whole" sWhole f fd) (T : Txt K mg) : FnOk P w K mg base CX0 1 f fd ["value"] (spWhole K) := by
  refine F.ok scWhole (fun vs H Q E h => ?_) (fun cdv A outer s H vs Q E hr h => ?_)
  · obtain ⟨x, b, rfl, _⟩ := h
    rfl
  · obtain ⟨x, b, rfl, ⟨t, b1, b2, ty, k1, k2, rfl⟩, k⟩ := h
    refine ⟨_, pss_one (ps_ret (pe_and (pe_callB call_isi (by rfl) T.isinstance (by decide +kernel) (pa_cons (pv 0) (pa_cons (pe_bltn (v := .ty "int") (by rfl) T.int (by decide +kernel) rfl) pa_nil)))
      (pe_one (pe_not (pe_callB call_isi (by rfl) T.isinstance (by decide +kernel) (pa_cons (pv 0) (pa_cons (pe_bltn (v := .ty "bool") (by rfl) T.bool (by decide +kernel) rfl) pa_nil))))))), ?_⟩
    walk_at "rd"
    refine ⟨_, _, _, _, _, rfl, .ty _, ty, k1, ?_⟩
    walk_at "rd"
    refine ite2 (fun h1 => ?_) (fun h1 => ?_)
    · walk_at "rd"
      refine ⟨_, _, _, _, _, rfl, .ty _, ty, k2, ?_⟩
      walk_at "rd"
      rw [h1] at k
      exact k
    · rw [Bool.not_eq_true] at h1
      rw [h1] at k
      exact k

/-! ### is_integer -/
def IntB (K : PySem.W.Frag) (H : Hp) (x : V) (b : Bool) : Prop := (∃ i : Int, x = .int i ∧ b = decide (-(10 ^ 60) < i ∧ i < 10 ^ 60)) ∨ (WholeB K H x false ∧ b = false)
def spInteger (K : PySem.W.Frag) : Sp := fun vs H Q _ => ∃ x b, vs = [x] ∧ IntB K H x b ∧ Q (.bl b) H
theorem scInteger : FnScope ["value"] ["value"] (defScope sInteger) := ⟨rfl, rfl, rfl, by decide +kernel, rfl, by decide +kernel, by decide +kernel⟩
/-- where is_whole stands -/
structure AtW (K : PySem.W.Frag) (mg : Str → Option Value) (f : Addr) (fd : FuncData) : Prop where
  F : Fun K "is_whole" "is_whole" sWhole f fd
  b : Binds K fd ["value"] []
  g : mg "is_whole" = some (.ref f)
theorem ok_integer {f fW : Addr} {fd fdW : FuncData} (F : Fun K "is_integer" "is_integer" sInteger f fd) (T : Txt K mg) (W : AtW K mg fW fdW) : FnOk P w K mg base CX0 2 f fd ["value"] (spInteger K) := by
  have GW : FnOk P w K mg base CX0 1 fW fdW ["value"] (spWhole K) := ok_whole W.F T
  obtain ⟨tB, gB⟩ := T.bound
  refine F.ok scInteger (fun vs H Q E h => ?_) (fun cdv A outer s H vs Q E hr h => ?_)
  · obtain ⟨x, b, rfl, _⟩ := h
    rfl
  · obtain ⟨x, b, rfl, hx, k⟩ := h
    refine ⟨_, pss_one (ps_ret (pe_and (pe_call GW hr (by rfl) W.g W.F.kp W.b .nil pass0 (pa_cons (pv 0) pa_nil))
      (pe_one (pe_chain op_lt op_lt (pe_un un_neg (pe_glob (v := .int (10 ^ 60)) (by rfl) gB ⟨_, rfl⟩)) (pv 0) (pe_glob (v := .int (10 ^ 60)) (by rfl) gB ⟨_, rfl⟩))))), ?_⟩
    walk_at "rd"
    rcases hx with ⟨i, rfl, rfl⟩ | ⟨hx, rfl⟩
    · refine ⟨_, true, rfl, whole_int, ?_⟩
      walk_at "rd"
      try refine iteT ?_
      walk_at "rd"
      refine ite2 (fun h1 => ?_) (fun h1 => ?_)
      · walk_at "rd"
        have e : decide (-(10 ^ 60) < i ∧ i < 10 ^ 60) = decide (i < 10 ^ 60) := dec_l (of_decide_eq_true h1)
        rw [e] at k
        exact k
      · have h2 : ¬ (-(10 ^ 60) : Int) < i := fun z => h1 (decide_eq_true z)
        have e : decide (-(10 ^ 60) < i ∧ i < 10 ^ 60) = false := dec_n h2
        rw [e] at k
        exact k
    · refine ⟨_, false, rfl, hx, ?_⟩
      walk_at "rd"
      first | exact k | exact iteF k

/-! ### require_index -/
def IndexOk (K : PySem.W.Frag) (H : Hp) (x : V) (b : Bool) : Prop := (∃ i : Int, x = .int i ∧ b = decide (0 ≤ i ∧ i < 10 ^ 60)) ∨ (WholeB K H x false ∧ b = false)
def spIndex (K : PySem.W.Frag) (C : Addr) : Sp := fun vs H Q E => ∃ x b, vs = [x] ∧ IndexOk K H x b ∧ (b = true → Q .non H) ∧
  (b = false → ∀ d, H d = none → E (.ref C) (some d) (upd H d (.xd [(("value" : Str), x)])))
structure AtI (K : PySem.W.Frag) (mg : Str → Option Value) (f : Addr) (fd : FuncData) : Prop where
  F : Fun K "is_integer" "is_integer" sInteger f fd
  b : Binds K fd ["value"] []
  g : mg "is_integer" = some (.ref f)
theorem scIndex : FnScope ["value"] ["value"] (defScope sIndex) := ⟨rfl, rfl, rfl, by decide +kernel, rfl, by decide +kernel, by decide +kernel⟩
theorem ok_index {f fW fI C fC : Addr} {fd fdW fdI : FuncData} (F : Fun K "require_index" "require_index" sIndex f fd) (T : Txt K mg) (W : AtW K mg fW fdW) (I : AtI K mg fI fdI) (N : PySem.XInvalidNumber.InvalidNumberTxt K mg C fC) :
    FnOk P w K mg base (L2.CX P w) 4 f fd ["value"] (spIndex K C) := by
  have GI : FnOk P w K mg base CX0 2 fI fdI ["value"] (spInteger K) := ok_integer I.F T W
  refine F.okX scIndex (fun vs H Q E h => ?_) (fun cdv A outer s H vs Q E hr h => ?_)
  · obtain ⟨x, b, rfl, _⟩ := h
    rfl
  · obtain ⟨x, b, rfl, hx, k1, k2⟩ := h
    refine ⟨_, pss_one (ps_if (PW.pt (pw_or (pt_not (pt_val (pe_call GI (hr.mono (by decide)) (by rfl) I.g I.F.kp I.b .nil pass0 (pa_cons (pv 0) pa_nil)))) (pw_or1 (pt_cmpR op_lt (pv 0) pe_int (nomark _)))))
      (pss_one (ps_raiseInvalidNumber rfl N hr (takes_of rfl rfl rfl rfl) (by exact (pa_cons (pv 0) pa_nil)))) pss_nil), ?_⟩
    walk_at "rd"
    rcases hx with ⟨i, rfl, rfl⟩ | ⟨hx, rfl⟩
    · refine ⟨_, _, rfl, .inl ⟨i, rfl, rfl⟩, ?_⟩
      walk_at "rd"
      by_cases h1 : -(10 ^ 60) < i ∧ i < 10 ^ 60
      · rw [decide_eq_true h1]
        try refine iteF ?_
        walk_at "rd"
        by_cases h2 : i < 0
        · rw [decide_eq_true h2]
          try refine iteT ?_
          refine ⟨_, rfl, _, rfl, ?_⟩
          exact k2 (decide_eq_false (by omega))
        · rw [decide_eq_false h2]
          try refine iteF ?_
          exact k1 (decide_eq_true (by omega))
      · rw [decide_eq_false h1]
        iterate 2 (try refine iteT ?_)
        refine ⟨_, rfl, _, rfl, ?_⟩
        exact k2 (decide_eq_false (by omega))
    · refine ⟨_, _, rfl, .inr ⟨hx, rfl⟩, ?_⟩
      walk_at "rd"
      iterate 2 (try refine iteT ?_)
      refine ⟨_, rfl, _, rfl, ?_⟩
      exact k2 rfl
abbrev sIsWithin : Stmt := top 15
/-- whether a value is an integer from lo to hi (the bounds have at most sixty digits) -/
def WithB (K : PySem.W.Frag) (H : Hp) (x : V) (lo hi : Int) (b : Bool) : Prop := (∃ i : Int, x = .int i ∧ b = decide (lo ≤ i ∧ i ≤ hi)) ∨ (WholeB K H x false ∧ b = false)
def spIsWithin (K : PySem.W.Frag) : Sp := fun vs H Q _ => ∃ (x : V) (lo hi : Int) (b : Bool), vs = [x, .int lo, .int hi] ∧ -(10 ^ 60) < lo ∧ hi < 10 ^ 60 ∧ WithB K H x lo hi b ∧ Q (.bl b) H
theorem scIsWithin : FnScope ["value", "low", "high"] ["value", "low", "high"] (defScope sIsWithin) := ⟨rfl, rfl, rfl, by decide +kernel, rfl, by decide +kernel, by decide +kernel⟩
theorem ok_isWithin {fW fI : Addr} {fdW fdI : FuncData} (F : Fun K "is_within" "is_within" sIsWithin f fd) (T : Txt K mg) (W : AtW K mg fW fdW) (I : AtI K mg fI fdI) : FnOk P w K mg base CX0 3 f fd ["value", "low", "high"] (spIsWithin K) := by
  have GI : FnOk P w K mg base CX0 2 fI fdI ["value"] (spInteger K) := ok_integer I.F T W
  refine F.ok scIsWithin (fun vs H Q E h => ?_) (fun cdv A outer s H vs Q E hr h => ?_)
  · obtain ⟨x, lo, hi, b, rfl, _⟩ := h
    rfl
  · obtain ⟨x, lo, hi, b, rfl, hlo, hhi, hx, k⟩ := h
    refine ⟨_, pss_one (ps_ret (pe_and (pe_call GI hr (by rfl) I.g I.F.kp I.b .nil pass0 (pa_cons (pv 0) pa_nil))
      (pe_one (pe_chain op_le op_le (pv 1) (pv 0) (pv 2))))), ?_⟩
    walk_at "rd"
    rcases hx with ⟨i, rfl, rfl⟩ | ⟨hx, rfl⟩
    · refine ⟨_, _, rfl, .inl ⟨i, rfl, rfl⟩, ?_⟩
      walk_at "rd"
      refine ite2 (fun h0 => ?_) (fun h0 => ?_)
      · walk_at "rd"
        refine ite2 (fun h1 => ?_) (fun h1 => ?_)
        · walk_at "rd"
          have e : decide (lo ≤ i ∧ i ≤ hi) = decide (i ≤ hi) := dec_l (of_decide_eq_true h1)
          rw [e] at k
          exact k
        · have h2 : ¬ lo ≤ i := fun z => h1 (decide_eq_true z)
          have e : decide (lo ≤ i ∧ i ≤ hi) = false := dec_n h2
          rw [e] at k
          exact k
      · have h2 : ¬ (-(10 ^ 60) < i ∧ i < 10 ^ 60) := fun z => h0 (decide_eq_true z)
        have e : decide (lo ≤ i ∧ i ≤ hi) = false := decide_eq_false (by omega)
        rw [e] at k
        exact k
    · refine ⟨_, _, rfl, .inr ⟨hx, rfl⟩, ?_⟩
      walk_at "rd"
      first | exact k | exact iteF k
/-- the dice at d -/
def DiceAt (H : Hp) (d : Addr) : Prop := ∃ a b c : Int, H d = some (.lst [.int a, .int b, .int c]) ∧ 0 ≤ a ∧ a < 10 ^ 120 ∧ 0 ≤ b ∧ b < 2 ^ 80 ∧ 0 ≤ c
theorem fmod_lo {a n : Int} (h : 0 < n) : 0 ≤ a.fmod n := by
  rw [Int.fmod_eq_emod_of_nonneg _ (Int.le_of_lt h)]
  exact Int.emod_nonneg _ (Int.ne_of_gt h)
theorem fmod_hi {a n : Int} (h : 0 < n) : a.fmod n < n := by
  rw [Int.fmod_eq_emod_of_nonneg _ (Int.le_of_lt h)]
  exact Int.emod_lt_of_pos _ h
theorem g_fmod {H : Hp} {Q : VK} {a n : Int} (hn : 0 < n) (k : ∀ r, 0 ≤ r → r < n → Q (.int r) H) : rI (fun _ j => j ≠ 0) (fun i j => .int (i.fmod j)) (.int a) (.int n) H Q :=
  ⟨a, n, rfl, rfl, Int.ne_of_gt hn, k _ (fmod_lo hn) (fmod_hi hn)⟩
def spDice (K : PySem.W.Frag) : Sp := fun vs H Q _ => ∃ (a : Addr) (ns : List Int) (i : Nat), vs = [.ref a, .int (i : Int)] ∧ SqL K H a (ns.map V.int) ∧ i ≤ 63 ∧
  ∀ H' d, Ext H H' → H d = none → DiceAt H' d → Q (.ref d) H'
theorem scDice : FnScope ["_law_script", "_law_spot", "_law_cell", "_law_left"] ["_law_script", "_law_spot"] (defScope sDice) := ⟨rfl, rfl, rfl, by decide +kernel, rfl, by decide +kernel, by decide +kernel⟩
theorem ok_dice (F : Fun K "_law_dice" "_law_dice" sDice f fd) (T : Txt K mg) : FnOk P w K mg base CX0 1 f fd ["_law_script", "_law_spot"] (spDice K) := by
  refine F.ok scDice (fun vs H Q E h => ?_) (fun cdv A outer s H vs Q E hr h => ?_)
  · obtain ⟨a, ns, i, rfl, _⟩ := h
    rfl
  · obtain ⟨a, ns, i, rfl, hs, hi, k⟩ := h
    refine ⟨_, pss_cons (ps_set (i := 2) scDice.nd rfl (Or.inl rfl) (pe_ifExp (pt_cmpR op_lt (pv 1) (pe_callB call_len_seq (by rfl) T.len PySem.boot_len (pa_cons (pv 0) pa_nil)) (nomark _))
          (pe_callTy call_int1 (by rfl) T.int (by decide +kernel) (pa_cons (pe_ix ix_list (pv 0) (pv 1) (fun _ _ => rfl)) pa_nil)) (pe_op op_add (pe_op op_mul pe_int (pv 1)) pe_int)))
      (pss_cons (ps_set (i := 3) scDice.nd rfl (Or.inl rfl) (pe_op op_modN (pe_callB (call_max2 rfl) (by rfl) T.max (by decide +kernel) (pa_cons pe_int (pa_cons (pe_op op_sub (pe_callB call_abs (by rfl) T.abs (by decide +kernel) (pa_cons (pv 2) pa_nil)) (pe_op op_pow pe_int pe_int)) pa_nil)))
          (pe_op op_mulW (pe_op op_pow pe_int pe_int) (pe_op op_pow pe_int pe_int))))
        (pss_one (ps_ret (pe_lst (pa_cons (pv 3) (pa_cons (pe_op op_add (pe_op op_add (pe_op op_add (pe_op op_mul (pe_op op_modN (pe_callB call_abs (by rfl) T.abs (by decide +kernel) (pa_cons (pv 2) pa_nil)) pe_int) pe_int) (pe_op op_mul pe_int (pv 1)))
          (pe_op op_mul pe_int (pe_callTy call_int1 (by rfl) T.int (by decide +kernel) (pa_cons (pe_cmpR op_lt (pv 2) pe_int (nomark _)) pa_nil)))) pe_int) (pa_cons pe_int pa_nil))))))), ?_⟩
    walk_at "rd"
    refine ⟨a, _, rfl, .inl hs, ?_⟩
    walk_at "rd"
    refine ite2 (fun h1 => ?_) (fun h1 => ?_)
    have h2 := of_decide_eq_true h1
    rw [List.length_map] at h2
    have hlt : i < ns.length := by omega
    walk_at "rd"
    refine g_ixL hs (v := .int ns[i]) (atI_nat (by rw [mapget, List.getElem?_eq_getElem hlt]; rfl)) ?_
    walk_at "rd"
    refine .inl ⟨_, rfl, ?_⟩
    generalize ns[i] = c
    walk_at "rd"
    rotate_left
    walk_at "rd"
    refine g_I (.inr ⟨by omega, by omega⟩) ?_
    walk_at "rd"
    generalize (83 * (i : Int) + 61) = c
    walk_at "rd"
    all_goals
      refine g_I ⟨by decide, by decide, by decide⟩ ?_
      walk_at "rd"
      refine g_I ⟨by decide, by decide, by decide⟩ ?_
      walk_at "rd"
      refine g_I ⟨by decide, by decide, by decide⟩ ?_
      walk_at "rd"
      refine g_I (wide_mul (a := 200) (b := 200) (by decide +kernel) (by decide +kernel) (by decide) (by decide) (by decide)) ?_
      walk_at "rd"
      refine g_fmod (by decide +kernel) (fun l l0 l1 => ?_)
      walk_at "rd"
      refine g_fmod (by decide +kernel) (fun r r0 r1 => ?_)
      walk_at "rd"
      refine g_I (.inr ⟨by decide, by decide⟩) ?_
      walk_at "rd"
      refine g_I (.inl ⟨by decide, by decide⟩) ?_
      walk_at "rd"
      refine .inr ⟨_, rfl, ?_⟩
      refine g_I (.inl ⟨by decide, by decide⟩) ?_
      walk_at "rd"
      refine ⟨by show 3 ≤ sizeLine; decide, fun d hd => ?_⟩
      have l1' : l < 10 ^ 120 := Int.lt_of_lt_of_le l1 (by decide +kernel)
      refine k _ d (Ext.new hd) hd ⟨l, _, 0, upd_same, l0, l1', ?_, ?_, Int.le_refl _⟩
      · split <;> omega
      · split <;> omega

/-! ### a roll -/
def spRoll : Sp := fun vs H Q _ => ∃ (d : Addr) (n : Int), vs = [.ref d, .int n] ∧ DiceAt H d ∧ 0 < n ∧ n < 2 ^ 1000 ∧
  ∀ H' r, ExtBut d H H' → DiceAt H' d → 0 ≤ r → r < n → Q (.int r) H'
theorem scRoll : FnScope ["_law_dice_here", "_law_total", "_law_found", "_law_one", "_law_two"] ["_law_dice_here", "_law_total"] (defScope sRoll) := ⟨rfl, rfl, rfl, by decide +kernel, rfl, by decide +kernel, by decide +kernel⟩
theorem ok_roll (F : Fun K "_law_roll" "_law_roll" sRoll f fd) (T : Txt K mg) : FnOk P w K mg base CX0 1 f fd ["_law_dice_here", "_law_total"] spRoll := by
  refine F.ok scRoll (fun vs H Q E h => ?_) (fun cdv A outer s H vs Q E hr h => ?_)
  · obtain ⟨d, n, rfl, _⟩ := h
    rfl
  · obtain ⟨d, n, rfl, ⟨a, b, c, hd, a0, a1, b0, b1, c0⟩, n0, n1, k⟩ := h
    refine ⟨_, pss_cons (ps_if (pt_cmpR op_gt (pe_ix ix_list (pv 0) pe_int (fun _ _ => rfl)) pe_int (nomark _))
        (pss_cons (ps_set (i := 2) scRoll.nd rfl (Or.inl rfl) (pe_op op_modN (pe_callTy call_int1 (by rfl) T.int (by decide +kernel) (pa_cons (pe_ix ix_list (pv 0) pe_int (fun _ _ => rfl)) pa_nil)) (pv 1)))
          (pss_cons (ps_asg (pe_op op_fdivW (pe_ix ix_list (pv 0) pe_int (fun _ _ => rfl)) (pv 1)) (pg_sub (pv 0) pe_int set_list)) (pss_one (ps_ret (pv 2))))) pss_nil)
      (pss_cons (ps_asg (pe_op op_add (pe_ix ix_list (pv 0) pe_int (fun _ _ => rfl)) pe_int) (pg_sub (pv 0) pe_int set_list))
        (pss_cons (ps_set (i := 3) scRoll.nd rfl (Or.inl rfl) (pe_op op_modN (pe_callTy call_int1 (by rfl) T.int (by decide +kernel) (pa_cons (pe_op op_add (pe_ix ix_list (pv 0) pe_int (fun _ _ => rfl)) (pe_op op_mul pe_int (pe_ix ix_list (pv 0) pe_int (fun _ _ => rfl)))) pa_nil)) pe_int))
          (pss_cons (ps_set (i := 4) scRoll.nd rfl (Or.inl rfl) (pe_op op_add (pe_op op_mul (pe_op op_modN (pe_callTy call_int1 (by rfl) T.int (by decide +kernel)
              (pa_cons (pe_op op_add (pe_op op_mul (pv 3) (pv 3)) (pe_op op_mul pe_int (pe_ix ix_list (pv 0) pe_int (fun _ _ => rfl)))) pa_nil)) pe_int) pe_int) (pv 3)))
            (pss_one (ps_ret (pe_op op_modN (pe_callTy call_int1 (by rfl) T.int (by decide +kernel) (pa_cons (pe_op op_fdiv (pv 4) pe_int) pa_nil)) (pv 1))))))), ?_⟩
    walk_at "rd"
    refine g_ixL (SqL.of hd) (v := .int a) rfl ?_
    walk_at "rd"
    refine ite2 (fun h1 => ?_) (fun h1 => ?_)
    · walk_at "rd"
      refine g_ixL (SqL.of hd) (v := .int a) rfl ?_
      walk_at "rd"
      refine .inl ⟨_, rfl, ?_⟩
      walk_at "rd"
      refine g_fmod n0 (fun r r0 r1 => ?_)
      walk_at "rd"
      refine g_ixL (SqL.of hd) (v := .int a) rfl ?_
      walk_at "rd"
      refine g_I (wide_div (b := 1000) n0 (by omega) (by decide) (by decide)) ?_
      walk_at "rd"
      refine ⟨d, _, _, 0, rfl, rfl, hd, rfl, ?_⟩
      walk_at "rd"
      refine k _ r (fun x o hx q => by rw [upd_ne hx]; exact q) ⟨a / n, b, c, upd_same, Int.ediv_nonneg a0 (Int.le_of_lt n0), Int.lt_of_le_of_lt (Int.ediv_le_self _ a0) a1, b0, b1, c0⟩ r0 r1
    · walk_at "rd"
      refine g_ixL (SqL.of hd) (v := .int c) rfl ?_
      walk_at "rd"
      refine ⟨d, _, _, 2, rfl, rfl, hd, rfl, ?_⟩
      walk_at "rd"
      have hd2 : upd H d (.lst (List.set [V.int a, V.int b, V.int c] 2 (V.int (c + 1)))) d = some (.lst [.int a, .int b, .int (c + 1)]) := upd_same
      generalize hH2 : upd H d (.lst (List.set [V.int a, V.int b, V.int c] 2 (V.int (c + 1)))) = H2 at hd2 ⊢
      have e2 : ExtBut d H H2 := fun x o hx q => by rw [← hH2, upd_ne hx]; exact q
      refine g_ixL (SqL.of hd2) (v := .int b) rfl ?_
      walk_at "rd"
      refine g_ixL (SqL.of hd2) (v := .int (c + 1)) rfl ?_
      refine g_I (.inl ⟨by decide, by decide⟩) ?_
      walk_at "rd"
      refine .inl ⟨_, rfl, ?_⟩
      walk_at "rd"
      refine g_fmod (by decide) (fun r r0 r1 => ?_)
      walk_at "rd"
      refine g_I (.inl ⟨by omega, by omega⟩) ?_
      walk_at "rd"
      refine g_ixL (SqL.of hd2) (v := .int (c + 1)) rfl ?_
      refine g_I (.inl ⟨by decide, by decide⟩) ?_
      walk_at "rd"
      refine .inl ⟨_, rfl, ?_⟩
      walk_at "rd"
      refine g_fmod (by decide) (fun t t0 t1 => ?_)
      walk_at "rd"
      refine g_I (.inr ⟨by decide, by decide⟩) ?_
      walk_at "rd"
      refine g_I ⟨by decide, by decide⟩ ?_
      walk_at "rd"
      refine .inl ⟨_, rfl, ?_⟩
      walk_at "rd"
      refine g_fmod n0 (fun z z0 z1 => ?_)
      exact k _ z e2 ⟨a, b, c + 1, hd2, a0, a1, b0, b1, by omega⟩ z0 z1
theorem dice_none {H : Hp} {d l : Addr} (h : DiceAt H d) (e : H l = none) : l ≠ d := by
  obtain ⟨a, b, c, h, _⟩ := h
  intro z
  subst z
  rw [e] at h
  cases h
theorem dice_ne {H : Hp} {d l : Addr} {o : HO} (h : DiceAt H d) (e : H l = some o) (n : ∀ xs, o ≠ .lst xs) : l ≠ d := by
  obtain ⟨a, b, c, h, _⟩ := h
  intro z
  subst z
  rw [e] at h
  cases h
  exact n _ rfl
structure AtR (K : PySem.W.Frag) (mg : Str → Option Value) (f : Addr) (fd : FuncData) : Prop where
  F : Fun K "_law_roll" "_law_roll" sRoll f fd
  b : Binds K fd ["_law_dice_here", "_law_total"] []
  g : mg "_law_roll" = some (.ref f)
theorem DiceAt.ext {d : Addr} {H H1 : Hp} (e : Ext H H1) (h : DiceAt H d) : DiceAt H1 d := by
  obtain ⟨a, b, c, h, r⟩ := h
  exact ⟨a, b, c, e _ _ h, r⟩
/-! ### pick -/
def spPick (K : PySem.W.Frag) : Sp := fun vs H Q _ => ∃ (d l : Addr) (xs : List V), vs = [.ref d, .ref l] ∧ DiceAt H d ∧ SqL K H l xs ∧ l ≠ d ∧ 0 < xs.length ∧ xs.length ≤ 5000 ∧
  ∀ H' x, ExtBut d H H' → DiceAt H' d → x ∈ xs → Q x H'
theorem scPick : FnScope ["_law_dice_here", "_law_items"] ["_law_dice_here", "_law_items"] (defScope sPick) := ⟨rfl, rfl, rfl, by decide +kernel, rfl, by decide +kernel, by decide +kernel⟩
theorem ok_pick {fR : Addr} {fdR : FuncData} (F : Fun K "_law_pick" "_law_pick" sPick f fd) (T : Txt K mg) (R : AtR K mg fR fdR) : FnOk P w K mg base CX0 2 f fd ["_law_dice_here", "_law_items"] (spPick K) := by
  have GR : FnOk P w K mg base CX0 1 fR fdR ["_law_dice_here", "_law_total"] spRoll := ok_roll R.F T
  refine F.ok scPick (fun vs H Q E h => ?_) (fun cdv A outer s H vs Q E hr h => ?_)
  · obtain ⟨d, l, xs, rfl, _⟩ := h
    rfl
  · obtain ⟨d, l, xs, rfl, hd, hl, ne, l0, l1, k⟩ := h
    refine ⟨_, pss_one (ps_ret (pe_ix ix_list (pv 1) (pe_call GR hr (by rfl) R.g R.F.kp R.b .nil pass0 (pa_cons (pv 0) (pa_cons (pe_callB call_len_seq (by rfl) T.len PySem.boot_len (pa_cons (pv 1) pa_nil)) pa_nil))) (fun _ _ => rfl))), ?_⟩
    walk_at "rd"
    refine ⟨l, xs, rfl, .inl hl, ?_⟩
    walk_at "rd"
    refine ⟨d, _, rfl, hd, by omega, by omega, ?_⟩
    intro H' r e hd' r0 r1
    have hlt : r.toNat < xs.length := by omega
    have er : r = (r.toNat : Int) := by omega
    rw [er]
    exact g_ixL (sqL_but e ne hl) (atI_nat (List.getElem?_eq_getElem hlt)) (k _ _ e hd' (List.getElem_mem hlt))
end
end Q0

set_option Elab.async false
set_option linter.all false
set_option maxRecDepth 100000
set_option maxHeartbeats 4000000
/-! Falling rows: what they are; is_falling. -/
namespace Q0
open PySem PySem.Spec PyProof.Rows L2 Gd
local macro_rules | `(tactic| walk_at "rd1") => `(tactic| first | with_reducible refine g_ret ?_ | with_reducible refine g_retN ?_ | with_reducible refine g_seq ?_ | with_reducible refine g_next ?_ | with_reducible refine g_drop ?_ | with_reducible refine g_asg ?_ | with_reducible refine g_name ?_ | with_reducible refine g_ifs ?_ | with_reducible refine g_test ?_ | with_reducible refine g_tb ?_ | with_reducible refine g_and ?_ | with_reducible refine g_or ?_ | with_reducible refine g_not ?_ | with_reducible refine g_andV ?_ | with_reducible refine g_orV ?_ | with_reducible refine g_notV ?_ | with_reducible refine g_if ?_ | with_reducible refine g_op ?_ | with_reducible refine g_un ?_ | with_reducible refine g_cb ?_ | with_reducible refine g_nil ?_ | with_reducible refine g_cons ?_ | with_reducible refine g_call ?_ | with_reducible refine g_callS ?_ | with_reducible refine g_tup ?_ | with_reducible refine g_lst ?_ | with_reducible refine g_isN ?_ | with_reducible refine g_sl ?_ | with_reducible refine g_nopart ?_ | with_reducible refine g_part ?_ | with_reducible refine g_chain ?_ | with_reducible refine g_fld ?_ | with_reducible refine g_prop ?_ | with_reducible refine g_bm ?_ | with_reducible refine g_bm0 ?_ | with_reducible refine g_c ?_ | with_reducible refine g_sub ?_ | with_reducible refine g_int1 ?_ | with_reducible refine g_int2 ?_ | with_reducible refine g_yes ?_ | with_reducible refine g_sfld ?_ | with_reducible refine g_NT ?_ | with_reducible refine g_NF ?_ | with_reducible refine iteT ?_ | with_reducible refine iteF ?_ | ((with_reducible refine' g_aug ?hv ?_); (case hv => exact rfl)) | ((with_reducible refine' g_var ?hv ?_); (case hv => exact rfl)) | with_reducible refine g_I0 ?_ | with_reducible refine g_U ?_ | with_reducible refine g_eqI ?_ | with_reducible refine g_blV ?_ | with_reducible refine g_inV ?_)
local macro_rules | `(tactic| walk_at "rd") => `(tactic| repeat walk_at "rd1")
theorem getI {ns : List Int} {i : Nat} (h : i < ns.length) : (ns.map V.int)[i]? = some (.int (ns.getD i 0)) := by
  rw [mapget, List.getElem?_eq_getElem h, List.getD_eq_getElem?_getD, List.getElem?_eq_getElem h]
  rfl
theorem getDI {ns : List Int} {i : Nat} (h : i < ns.length) : (ns.map V.int).getD i .non = .int (ns.getD i 0) := by
  rw [List.getD_eq_getElem?_getD, getI h]
  rfl
theorem getD_big {ns : List Int} {i : Nat} (h : ¬ i < ns.length) : ns.getD i 0 = 0 := by
  rw [List.getD_eq_getElem?_getD, List.getElem?_eq_none (by omega)]
  rfl
structure Fall (ns : List Int) : Prop where
  pos : ∀ x ∈ ns, 1 ≤ x
  sum : ns.sum ≤ 12
  desc : ∀ i : Nat, i + 1 < ns.length → ns.getD (i + 1) 0 ≤ ns.getD i 0
theorem sum_len : ∀ {ns : List Int}, (∀ x ∈ ns, 1 ≤ x) → (ns.length : Int) ≤ ns.sum
  | [], _ => by simp
  | x :: r, h => by
    have h1 := h x List.mem_cons_self
    have h2 := sum_len (ns := r) fun y hy => h y (List.mem_cons_of_mem _ hy)
    rw [List.sum_cons, List.length_cons]
    omega
theorem mem_sum : ∀ {ns : List Int}, (∀ x ∈ ns, 1 ≤ x) → ∀ x ∈ ns, x ≤ ns.sum
  | [], _, x, hx => by cases hx
  | y :: r, h, x, hx => by
    have h1 := h y List.mem_cons_self
    have hr : ∀ z ∈ r, 1 ≤ z := fun z hz => h z (List.mem_cons_of_mem _ hz)
    have h2 := sum_len hr
    rw [List.sum_cons]
    rcases List.mem_cons.mp hx with e | e
    · subst e
      omega
    · have := mem_sum hr x e
      omega
theorem Fall.len {ns : List Int} (h : Fall ns) : ns.length ≤ 12 := by
  have := sum_len h.pos
  have := h.sum
  omega
theorem Fall.le {ns : List Int} (h : Fall ns) : ∀ x ∈ ns, x ≤ 12 := fun x hx => by
  have := mem_sum h.pos x hx
  have := h.sum
  omega
theorem Fall.sum0 {ns : List Int} (h : Fall ns) : 0 ≤ ns.sum := by
  have := sum_len h.pos
  omega
theorem Fall.at {ns : List Int} (h : Fall ns) (i : Nat) : 0 ≤ ns.getD i 0 ∧ ns.getD i 0 ≤ 12 := by
  by_cases hi : i < ns.length
  · rw [List.getD_eq_getElem?_getD, List.getElem?_eq_getElem hi]
    have := h.pos _ (List.getElem_mem hi)
    have := h.le _ (List.getElem_mem hi)
    show 0 ≤ ns[i] ∧ ns[i] ≤ 12
    omega
  · rw [getD_big hi]
    omega
theorem Fall.size {ns : List Int} (h : Fall ns) {n : Nat} (hn : n ≤ 1000) : n < sizeLine := by
  have : (1000 : Nat) < sizeLine := by decide
  omega
theorem small {n : Nat} (hn : n ≤ 1000) : n < sizeLine := by
  have : (1000 : Nat) < sizeLine := by decide
  omega
theorem getD_mem {ns : List Int} {i : Nat} (h : i < ns.length) : ns.getD i 0 ∈ ns := by
  rw [List.getD_eq_getElem?_getD, List.getElem?_eq_getElem h]
  exact List.getElem_mem h
theorem Fall.down {ns : List Int} (h : Fall ns) (i : Nat) : ns.getD (i + 1) 0 ≤ ns.getD i 0 := by
  by_cases hi : i + 1 < ns.length
  · exact h.desc i hi
  · rw [getD_big hi]
    exact (h.at i).1
theorem Fall.headI {ns : List Int} (h : Fall ns) : ∀ i : Nat, ns.getD i 0 ≤ ns.getD 0 0
  | 0 => Int.le_refl _
  | i + 1 => Int.le_trans (h.down i) (h.headI i)
theorem Fall.head {ns : List Int} (h : Fall ns) : ∀ x ∈ ns, x ≤ ns.getD 0 0 := fun x hx => by
  obtain ⟨i, hi, rfl⟩ := List.getElem_of_mem hx
  have := h.headI i
  rw [List.getD_eq_getElem?_getD, List.getElem?_eq_getElem hi] at this
  exact this
theorem fall_nil : Fall [] := ⟨(nofun), (by decide), fun i hi => absurd hi (by simp)⟩
theorem head_mem {ns : List Int} (h : Fall ns) (hne : ns ≠ []) : ns.getD 0 0 ∈ ns := getD_mem (List.length_pos_iff.mpr hne)
theorem lt66 {A : Around} {k : Nat} (hr : Room k A) : A.units + 66 < cLine := by
  have := hr.un
  omega
section
variable {P : Program} {w : World} {K : PySem.W.Frag} {mg : Str → Option Value} {base : Heap} {f : Addr} {fd : FuncData}
/-! ### falling -/
abbrev sFalling : Stmt := top 24
theorem scFalling : FnScope ["value", "most", "number", "i"] ["value", "most"] (defScope sFalling) := ⟨rfl, rfl, rfl, by decide +kernel, rfl, by decide +kernel, by decide +kernel⟩
def spFalling (K : PySem.W.Frag) : Sp := fun vs H Q _ => ∃ (a : Addr) (ns : List Int), vs = [.ref a, .int 12] ∧ SqT K H a (ns.map V.int) ∧ Fall ns ∧ ∀ H', Ext H H' → Q (.bl true) H'
theorem ok_falling (F : Fun K "is_falling" "is_falling" sFalling f fd) (T : Txt K mg) (Wi : Def1 P w K mg base CX0 3 "is_within" ["value", "low", "high"] (spIsWithin K)) : FnOk P w K mg base CX0 4 f fd ["value", "most"] (spFalling K) := by
  refine F.ok scFalling (fun vs H Q E h => ?_) (fun cdv A outer s H vs Q E hr h => ?_)
  · obtain ⟨a, ns, rfl, _⟩ := h
    rfl
  · obtain ⟨a, ns, rfl, hs, hF, k⟩ := h
    refine ⟨_, pss_cons (ps_if (PW.pt (pw_or (pt_not (pt_val (pe_callB call_isi (by rfl) T.isinstance (by decide +kernel) (pa_cons (pv 0) (pa_cons (pe_bltn (v := .ty "tuple") (by rfl) T.tuple (by decide +kernel) rfl) pa_nil))))) (pw_or1 (pt_not (pt_val (pe_callB (cr_all rfl) (by rfl) T.all (by decide +kernel) (pa_cons (pe_lc (own := [("number", 2)]) (g := gName 2) (tt := tYes) rfl scFalling.nd (pi_tup (pv 0)) (blkOk_by (N := ["value", "most", "number", "i"]) (sc := defScope sFalling) (by decide +kernel)) (fun _ _ _ _ _ => pg_name (i := 2) scFalling.nd rfl (Or.inl rfl)) (fun _ _ _ _ _ => pts_nil) (fun _ _ _ _ _ => (pe_def Wi hr (by decide) (by rfl) (pa_cons (pv 2) (pa_cons pe_int (pa_cons (pv 1) pa_nil)))))) pa_nil))))))) (pss_one (ps_ret pe_bl)) pss_nil)
      (pss_one (ps_ret (pe_and (pe_cmpR op_le (pe_callB (call_sumS rfl) (by rfl) T.sum (by decide +kernel) (pa_cons (pv 0) pa_nil)) (pv 1) (nomark _)) (pe_one (pe_callB (cr_all rfl) (by rfl) T.all (by decide +kernel) (pa_cons (pe_lc (own := [("i", 3)]) (g := gName 3) (tt := tYes) rfl scFalling.nd (pi_range2 (by rfl) T.range (pa_cons pe_int (pa_cons (pe_callB call_len_seq (by rfl) T.len PySem.boot_len (pa_cons (pv 0) pa_nil)) pa_nil))) (blkOk_by (N := ["value", "most", "number", "i"]) (sc := defScope sFalling) (by decide +kernel)) (fun _ _ _ _ _ => pg_name (i := 3) scFalling.nd rfl (Or.inl rfl)) (fun _ _ _ _ _ => pts_nil) (fun _ _ _ _ _ => (pe_cmpR op_le (pe_ix (r := rIxT K) ix_tup (pv 0) (pv 3) (fun _ _ => rfl)) (pe_ix (r := rIxT K) ix_tup (pv 0) (pe_op op_sub (pv 3) pe_int) (fun _ _ => rfl)) (nomark _)))) pa_nil)))))), ?_⟩
    have hl1 := hF.len
    have hs1 := hF.sum
    walk_at "rd"
    refine ⟨_, _, _, _, true, rfl, .ty _, tyT hs, by kernel_rfl, ?_⟩
    walk_at "rd"
    refine g_lc (g_itup ?_)
    walk_at "rd"
    refine lcT hs (small (by rw [List.length_map]; omega)) (fun _ => true) (fun _ => .bl true) (fun x H' hx e Qe Qn he hn => ?_) (fun H1 D e1 hD hd => ?_)
    · obtain ⟨n, hn', rfl⟩ := List.mem_map.mp hx
      refine ⟨rfl, ?_⟩
      walk_at "rd"
      refine ⟨_, 1, 12, true, rfl, by decide, by decide, .inl ⟨n, rfl, (decide_eq_true ⟨hF.pos n hn', hF.le n hn'⟩).symm⟩, ?_⟩
      exact he _ (fun _ _ z => z) rfl
    · walk_at "rd"
      refine ⟨D, ns.map fun _ => true, rfl, SqL.of ?_, ?_⟩
      · rw [hd, List.filter_eq_self.mpr (fun _ _ => rfl), List.map_map, List.map_map]
        rfl
      have all : (ns.map fun _ => true).all id = true := by simp
      rw [all]
      walk_at "rd"
      refine ⟨a, ns, rfl, .inr (sqT_ext e1 hs), ?_⟩
      walk_at "rd"
      rw [decide_eq_true hs1]
      walk_at "rd"
      refine g_lc (g_rng2 ?_)
      walk_at "rd"
      refine ⟨a, _, rfl, .inr (sqT_ext e1 hs), ?_⟩
      walk_at "rd"
      rw [List.length_map]
      refine ⟨⟨by decide, by decide, by omega, by omega⟩, ?_⟩
      have en : ((ns.length : Int) - 1).toNat = ns.length - 1 := by omega
      rw [en]
      refine lcR (small (by omega)) (fun _ => true) (fun _ => .bl true) (fun i H' hi e Qe Qn he hn => ?_) (fun H' D2 e hD2 hd2 => ?_)
      · have ei : (1 + (i : Int)) = ((i + 1 : Nat) : Int) := by omega
        rw [ei]
        refine ⟨rfl, ?_⟩
        walk_at "rd"
        refine g_ixT (sqT_ext e (sqT_ext e1 hs)) (atI_nat (getI (i := i + 1) (by omega))) ?_
        walk_at "rd"
        have ej : (((i + 1 : Nat) : Int) - 1) = (i : Int) := by omega
        rw [ej]
        refine g_ixT (sqT_ext e (sqT_ext e1 hs)) (atI_nat (getI (i := i) (by omega))) ?_
        walk_at "rd"
        rw [decide_eq_true (hF.desc i (by omega))]
        exact he _ (fun _ _ z => z) rfl
      · rw [idx_all] at hd2
        walk_at "rd"
        refine ⟨D2, (List.range (ns.length - 1)).map fun _ => true, rfl, SqL.of ?_, ?_⟩
        · rw [hd2, List.map_map]
          rfl
        have all2 : ((List.range (ns.length - 1)).map fun _ => true).all id = true := by simp
        rw [all2]
        exact k _ (Ext.trans e1 e)
end
end Q0

set_option Elab.async false
set_option linter.all false
set_option maxRecDepth 100000
set_option maxHeartbeats 4000000
/-! Kinds: made, told. -/
namespace Q0
open PySem PySem.Spec PyProof.Rows L2 Gd
local macro_rules | `(tactic| walk_at "rd1") => `(tactic| first | with_reducible refine g_ret ?_ | with_reducible refine g_retN ?_ | with_reducible refine g_seq ?_ | with_reducible refine g_next ?_ | with_reducible refine g_drop ?_ | with_reducible refine g_asg ?_ | with_reducible refine g_name ?_ | with_reducible refine g_ifs ?_ | with_reducible refine g_test ?_ | with_reducible refine g_tb ?_ | with_reducible refine g_and ?_ | with_reducible refine g_or ?_ | with_reducible refine g_not ?_ | with_reducible refine g_andV ?_ | with_reducible refine g_orV ?_ | with_reducible refine g_notV ?_ | with_reducible refine g_if ?_ | with_reducible refine g_op ?_ | with_reducible refine g_un ?_ | with_reducible refine g_cb ?_ | with_reducible refine g_nil ?_ | with_reducible refine g_cons ?_ | with_reducible refine g_call ?_ | with_reducible refine g_callS ?_ | with_reducible refine g_tup ?_ | with_reducible refine g_lst ?_ | with_reducible refine g_isN ?_ | with_reducible refine g_sl ?_ | with_reducible refine g_nopart ?_ | with_reducible refine g_part ?_ | with_reducible refine g_chain ?_ | with_reducible refine g_fld ?_ | with_reducible refine g_prop ?_ | with_reducible refine g_bm ?_ | with_reducible refine g_bm0 ?_ | with_reducible refine g_c ?_ | with_reducible refine g_sub ?_ | with_reducible refine g_int1 ?_ | with_reducible refine g_int2 ?_ | with_reducible refine g_yes ?_ | with_reducible refine g_sfld ?_ | with_reducible refine g_NT ?_ | with_reducible refine g_NF ?_ | with_reducible refine iteT ?_ | with_reducible refine iteF ?_ | ((with_reducible refine' g_aug ?hv ?_); (case hv => exact rfl)) | ((with_reducible refine' g_var ?hv ?_); (case hv => exact rfl)) | with_reducible refine g_I0 ?_ | with_reducible refine g_U ?_ | with_reducible refine g_eqI ?_ | with_reducible refine g_blV ?_ | with_reducible refine g_inV ?_)
local macro_rules | `(tactic| walk_at "rd") => `(tactic| repeat walk_at "rd1")
section
variable {P : Program} {w : World} {K : PySem.W.Frag} {mg : Str → Option Value} {base : Heap} {f C : Addr} {fd : FuncData}
/-- the class at C -/
structure KC (K : PySem.W.Frag) (mg : Str → Option Value) (C : Addr) : Prop where
  cl : Cls K C
  noN : NoAttr K C "_numbers"
  noP : NoAttr K C "_place"
  g : mg "Kind" = some (.ref C)
  kp : PySem.W.keepIn K (.ref C) = true
  ha : PySem.W.findIn K (.ref C) "__class__" = some (some (.builtin "object.__class__"))
  hn : PySem.W.specialIn K (.builtin "object.__class__") "__get__" = some (some (.builtin "getset_descriptor.__get__"))
  htk : PySem.W.takesIn K (.builtin "object.__class__") = some true
  hm : PySem.W.mroIn K C (.type "object") = some true
  kit : PySem.W.kitOne K (.ref C) (.ref C) = some true
  ne : NeC K C
  most : ∃ t, mg "MAX_SIZE" = some (.int 12 t)
theorem KC.ty {C : Addr} (T : KC K mg C) {H : Hp} {p dx : Addr} {fs : List (Str × V)} (h : H p = some (.ins C dx fs)) : TyX K H (.ref p) (.ref C) := .base (.ins h T.cl T.ha T.hn T.htk T.hm)
/-- a kind at p, with the numbers ns -/
structure KindAt (K : PySem.W.Frag) (C : Addr) (H : Hp) (p n t m : Addr) (ns : List Int) : Prop where
  ins : ∃ dx, H p = some (.ins C dx [(("_numbers" : Str), .ref n), (("_place" : Str), .ref t)])
  num : TupX K H n (ns.map V.int)
  pl : SqT K H t [.int ns.sum, .ref m]
  neg : SqT K H m ((ns.map fun x => -x).map V.int)
  fall : Fall ns
theorem KindAt.ext {H H' : Hp} {p n t m : Addr} {ns : List Int} (e : Ext H H') (h : KindAt K C H p n t m ns) : KindAt K C H' p n t m ns := by
  obtain ⟨⟨dx, h1⟩, h2, h3, h4, h5⟩ := h
  exact ⟨⟨dx, e _ _ h1⟩, h2.ext e, sqT_ext e h3, sqT_ext e h4, h5⟩
theorem look1 {u t : V} : ([(("_numbers" : Str), u), (("_place" : Str), t)] : List (Str × V)).lookup ("_numbers" : Str) = some u := by simp [List.lookup]
theorem look2 {u t : V} : ([(("_numbers" : Str), u), (("_place" : Str), t)] : List (Str × V)).lookup ("_place" : Str) = some t := by
  have : (("_place" : Str) == ("_numbers" : Str)) = false := by decide
  simp [List.lookup, this]
/-! ### __init__ -/
abbrev sInit : Stmt := cls 0
theorem scInit : FnScope ["self", "numbers", "number"] ["self", "numbers"] (defScope sInit) := ⟨rfl, rfl, rfl, by decide +kernel, rfl, by decide +kernel, by decide +kernel⟩
def spInit (K : PySem.W.Frag) (C : Addr) : Sp := fun vs H Q _ => ∃ (p dx a : Addr) (ns : List Int), vs = [.ref p, .ref a] ∧ H p = some (.ins C dx []) ∧ TupX K H a (ns.map V.int) ∧ Fall ns ∧
  ∀ H' n t m, ExtBut p H H' → KindAt K C H' p n t m ns → Q .non H'
abbrev FnI (K : PySem.W.Frag) (t0 f : Addr) (fd : FuncData) : Prop := FunD K "__init__" "Kind.__init__" (defArgs sInit) (defBody sInit) (defScope sInit) [.ref t0] [] f fd
def negV : V → V := fun v => match v with
  | .int n => .int (-n)
  | y => y
theorem sqT_up {H : Hp} {p a C dx : Addr} {fs gs : List (Str × V)} {xs : List V} (hp : H p = some (.ins C dx fs)) (h : SqT K H a xs) : SqT K (upd H p (.ins C dx gs)) a xs := by
  rcases h with (h | ⟨o, h⟩) | h
  · refine .inl (.inl ?_)
    rw [upd_ne (ne_of h hp (by intro z; cases z))]
    exact h
  · refine .inl (.inr ⟨o, ?_⟩)
    rw [upd_ne (ne_of h hp (by intro z; cases z))]
    exact h
  · exact .inr h
theorem tupX_up {H : Hp} {p a C dx : Addr} {fs gs : List (Str × V)} {xs : List V} (hp : H p = some (.ins C dx fs)) (h : TupX K H a xs) : TupX K (upd H p (.ins C dx gs)) a xs := by
  rcases h with ⟨o, h, d⟩ | h
  · refine .inl ⟨o, ?_, d⟩
    rw [upd_ne (ne_of h hp (by intro z; cases z))]
    exact h
  · exact .inr h
theorem ok_init {t0 : Addr} (F : FnI K t0 f fd) (T : Txt K mg) (Cl : KC K mg C) (Fa : Def1 P w K mg base CX0 4 "is_falling" ["value", "most"] (spFalling K)) :
    FnOk P w K mg base CX0 5 f fd ["self", "numbers"] (spInit K C) := by
  obtain ⟨tM, gM⟩ := Cl.most
  refine F.ok scInit (fun vs H Q E h => ?_) (fun cdv A outer s H vs Q E hr h => ?_)
  · obtain ⟨p, dx, a, ns, rfl, _⟩ := h
    rfl
  · obtain ⟨p, dx, a, ns, rfl, hp, ha, hF, k⟩ := h
    refine ⟨_, PSs.nox (pss_cons (ps_if (pt_not (pt_val (pe_def Fa hr (by decide) (by rfl) (pa_cons (pv 1) (pa_cons (pe_glob (v := .int 12) (by rfl) gM ⟨_, rfl⟩) pa_nil))))) (pss_one ps_never) pss_nil)
      (pss_cons (ps_fld (pv 0) (pe_callTy call_tupX (by rfl) T.tuple (by decide +kernel) (pa_cons (pv 1) pa_nil)) rfl)
      (pss_one (ps_fld (pv 0) (pe_tup (pa_cons (pe_callB (call_sumS rfl) (by rfl) T.sum (by decide +kernel) (pa_cons (pv 1) pa_nil)) (pa_cons (pe_callTy call_tupX (by rfl) T.tuple (by decide +kernel) (pa_cons (pe_lc (own := [("number", 2)]) (g := gName 2) (tt := tYes) rfl scInit.nd (pi_tup (pv 1)) (blkOk_by (N := ["self", "numbers", "number"]) (sc := defScope sInit) (by decide +kernel)) (fun _ _ _ _ _ => pg_name (i := 2) scInit.nd rfl (Or.inl rfl)) (fun _ _ _ _ _ => pts_nil) (fun _ _ _ _ _ => (pe_un un_neg (pv 2)))) pa_nil)) pa_nil))) rfl)))), ?_⟩
    have hl1 := hF.len
    walk_at "rd"
    refine ⟨a, ns, rfl, ha.sq, hF, fun H1 e1 => ?_⟩
    have hp1 : H1 p = some (.ins C dx []) := e1 _ _ hp
    have ha1 := ha.ext e1
    walk_at "rd"
    refine ⟨a, _, rfl, .inr ⟨ha1.sq, ?_⟩⟩
    walk_at "rd"
    refine ⟨p, C, dx, [], rfl, hp1, Cl.cl, Cl.noN, by decide, ?_⟩
    have hp2 : upd H1 p (.ins C dx (putF "_numbers" (.ref a) [])) p = some (.ins C dx [(("_numbers" : Str), .ref a)]) := upd_same
    have ha2 := tupX_up (gs := putF "_numbers" (.ref a) []) hp1 ha1
    have e2 : ExtBut p H (upd H1 p (.ins C dx (putF "_numbers" (.ref a) []))) := fun b o hb q => by
      rw [upd_ne hb]
      exact e1 _ _ q
    generalize upd H1 p (.ins C dx (putF "_numbers" (.ref a) [])) = H2 at hp2 ha2 e2 ⊢
    walk_at "rd"
    refine ⟨a, ns, rfl, .inr ha2.sq, ?_⟩
    walk_at "rd"
    refine g_lc (g_itup ?_)
    walk_at "rd"
    refine lcT ha2.sq (small (by rw [List.length_map]; omega)) (fun _ => true) negV (fun x H' hx e Qe Qn he hn => ?_) (fun H3 D e3 hD hd => ?_)
    · obtain ⟨n, hn', rfl⟩ := List.mem_map.mp hx
      refine ⟨rfl, ?_⟩
      walk_at "rd"
      exact he _ (fun _ _ z => z) rfl
    · walk_at "rd"
      rw [List.filter_eq_self.mpr (fun _ _ => rfl), List.map_map] at hd
      refine ⟨D, _, rfl, .inl ⟨SqL.of hd, fun l o hl ho => ?_⟩⟩
      walk_at "rd"
      refine ⟨by show 2 ≤ sizeLine; decide, fun t ht => ?_⟩
      have el := Ext.new (o := HO.frz o (.tup (ns.map (negV ∘ V.int)))) hl
      have et := Ext.new (o := HO.tup [V.int ns.sum, V.ref l]) ht
      have e4 := Ext.trans e3 (Ext.trans el et)
      have hl4 : SqT K _ l ((ns.map fun x => -x).map V.int) := sqT_ext et (xs := (ns.map fun x => -x).map V.int) (by
        rw [List.map_map]
        exact .inl (.inr ⟨o, upd_same⟩))
      have ht4 : SqT K (upd (upd H3 l (HO.frz o (.tup (ns.map (negV ∘ V.int))))) t (HO.tup [V.int ns.sum, V.ref l])) t [V.int ns.sum, V.ref l] := SqT.of upd_same
      generalize upd (upd H3 l (HO.frz o (.tup (ns.map (negV ∘ V.int))))) t (HO.tup [V.int ns.sum, V.ref l]) = H4 at e4 hl4 ht4 ⊢
      have hp4 := e4 _ _ hp2
      walk_at "rd"
      refine ⟨p, C, dx, _, rfl, hp4, Cl.cl, Cl.noP, (by show 1 < 1000; omega), ?_⟩
      refine k _ a t l ?_ ⟨⟨dx, upd_same⟩, tupX_up hp4 (ha2.ext e4), sqT_up hp4 ht4, sqT_up hp4 hl4, hF⟩
      intro b o hb q
      rw [upd_ne hb]
      exact e4 _ _ (e2 b o hb q)
end
end Q0

set_option Elab.async false
set_option linter.all false
set_option maxRecDepth 100000
set_option maxHeartbeats 4000000
/-! Kinds: numbers, size, kinds that are asked. -/
namespace Q0
open PySem PySem.Spec PyProof.Rows L2 Gd
local macro_rules | `(tactic| walk_at "rd1") => `(tactic| first | with_reducible refine g_ret ?_ | with_reducible refine g_retN ?_ | with_reducible refine g_seq ?_ | with_reducible refine g_next ?_ | with_reducible refine g_drop ?_ | with_reducible refine g_asg ?_ | with_reducible refine g_name ?_ | with_reducible refine g_ifs ?_ | with_reducible refine g_test ?_ | with_reducible refine g_tb ?_ | with_reducible refine g_and ?_ | with_reducible refine g_or ?_ | with_reducible refine g_not ?_ | with_reducible refine g_andV ?_ | with_reducible refine g_orV ?_ | with_reducible refine g_notV ?_ | with_reducible refine g_if ?_ | with_reducible refine g_op ?_ | with_reducible refine g_un ?_ | with_reducible refine g_cb ?_ | with_reducible refine g_nil ?_ | with_reducible refine g_cons ?_ | with_reducible refine g_call ?_ | with_reducible refine g_callS ?_ | with_reducible refine g_tup ?_ | with_reducible refine g_lst ?_ | with_reducible refine g_isN ?_ | with_reducible refine g_sl ?_ | with_reducible refine g_nopart ?_ | with_reducible refine g_part ?_ | with_reducible refine g_chain ?_ | with_reducible refine g_fld ?_ | with_reducible refine g_prop ?_ | with_reducible refine g_bm ?_ | with_reducible refine g_bm0 ?_ | with_reducible refine g_c ?_ | with_reducible refine g_sub ?_ | with_reducible refine g_int1 ?_ | with_reducible refine g_int2 ?_ | with_reducible refine g_yes ?_ | with_reducible refine g_sfld ?_ | with_reducible refine g_NT ?_ | with_reducible refine g_NF ?_ | with_reducible refine iteT ?_ | with_reducible refine iteF ?_ | ((with_reducible refine' g_aug ?hv ?_); (case hv => exact rfl)) | ((with_reducible refine' g_var ?hv ?_); (case hv => exact rfl)) | with_reducible refine g_I0 ?_ | with_reducible refine g_U ?_ | with_reducible refine g_eqI ?_ | with_reducible refine g_blV ?_ | with_reducible refine g_inV ?_)
local macro_rules | `(tactic| walk_at "rd") => `(tactic| repeat walk_at "rd1")
section
variable {P : Program} {w : World} {K : PySem.W.Frag} {mg : Str → Option Value} {base : Heap} {f C t0 : Addr} {fd : FuncData}
/-- a promise of a property: the answer v and nothing changed -/
def spGet (K : PySem.W.Frag) (C : Addr) (v : Addr → List Int → V) : Sp := fun vs H Q _ => ∃ (p n t m : Addr) (ns : List Int), vs = [.ref p] ∧ KindAt K C H p n t m ns ∧ ∀ H', Ext H H' → Q (v n ns) H'
theorem scNum : FnScope ["self"] ["self"] (defScope (cls 2)) := ⟨rfl, rfl, rfl, by decide +kernel, rfl, by decide +kernel, by decide +kernel⟩
theorem ok_numbers (F : Fun K "numbers" "Kind.numbers" (cls 2) f fd) (Cl : KC K mg C) : FnOk P w K mg base CX0 1 f fd ["self"] (spGet K C fun n _ => .ref n) := by
  refine F.ok scNum (fun vs H Q E h => ?_) (fun cdv A outer s H vs Q E hr h => ?_)
  · obtain ⟨p, n, t, m, ns, rfl, _⟩ := h
    rfl
  · obtain ⟨p, n, t, m, ns, rfl, ⟨⟨dx, hp⟩, hn, ht, hm, hF⟩, k⟩ := h
    refine ⟨_, pss_one (ps_ret (pe_fld (pv 0) rfl)), ?_⟩
    walk_at "rd"
    exact ⟨p, C, dx, _, _, rfl, hp, Cl.cl, Cl.noN, look1, k H (fun _ _ z => z)⟩
theorem scSiz : FnScope ["self"] ["self"] (defScope (cls 3)) := ⟨rfl, rfl, rfl, by decide +kernel, rfl, by decide +kernel, by decide +kernel⟩
theorem ok_size (F : Fun K "size" "Kind.size" (cls 3) f fd) (T : Txt K mg) (Cl : KC K mg C) : FnOk P w K mg base CX0 1 f fd ["self"] (spGet K C fun _ ns => .int ns.sum) := by
  refine F.ok scSiz (fun vs H Q E h => ?_) (fun cdv A outer s H vs Q E hr h => ?_)
  · obtain ⟨p, n, t, m, ns, rfl, _⟩ := h
    rfl
  · obtain ⟨p, n, t, m, ns, rfl, ⟨⟨dx, hp⟩, hn, ht, hm, hF⟩, k⟩ := h
    refine ⟨_, pss_one (ps_ret (pe_callB (call_sumS rfl) (by rfl) T.sum (by decide +kernel) (pa_cons (pe_fld (pv 0) rfl) pa_nil))), ?_⟩
    walk_at "rd"
    refine ⟨p, C, dx, _, _, rfl, hp, Cl.cl, Cl.noN, look1, ?_⟩
    walk_at "rd"
    exact ⟨n, ns, rfl, .inr hn.sq, k H (fun _ _ z => z)⟩
theorem made_ext {H : Hp} {x dx : Addr} {o u : HO} (hx : H x = none) (hdx : H dx = none) : Ext H (upd (upd H dx o) x u) := fun b ob q => by
  rw [upd_ne (ne_of_none q hx), upd_ne (ne_of_none q hdx)]
  exact q
theorem g_mk2 {E : XK} {H1 : Hp} {Q : VK} {a : Addr} {ns : List Int} (h : TupX K H1 a (ns.map V.int)) (hF : Fall ns) (k : ∀ H' p n t m, Ext H1 H' → KindAt K C H' p n t m ns → Q (.ref p) H') :
    ∀ x dx, H1 x = none → H1 dx = none → dx ≠ x → spInit K C [.ref x, .ref a] (upd (upd H1 dx (.own x)) x (.ins C dx [])) (fun v H2 => v = .non ∧ Q (.ref x) H2) E := fun x dx hx hdx ne =>
  ⟨x, dx, a, ns, rfl, upd_same, h.ext (made_ext hx hdx), hF, fun H' n t m e hk => ⟨rfl, k H' x n t m (fun b o q => e b o (ne_of_none q hx) (made_ext hx hdx b o q)) hk⟩⟩
abbrev sReqKind : Stmt := top 33
theorem scReqKind : FnScope ["value"] ["value"] (defScope sReqKind) := ⟨rfl, rfl, rfl, by decide +kernel, rfl, by decide +kernel, by decide +kernel⟩
def spReqKind (K : PySem.W.Frag) (C : Addr) : Sp := fun vs H Q _ => ∃ (p n t m : Addr) (ns : List Int), vs = [.ref p] ∧ KindAt K C H p n t m ns ∧ Q .non H
theorem ok_reqKind (F : Fun K "require_kind" "require_kind" sReqKind f fd) (T : Txt K mg) (Cl : KC K mg C) : FnOk P w K mg base CX0 1 f fd ["value"] (spReqKind K C) := by
  refine F.ok scReqKind (fun vs H Q E h => ?_) (fun cdv A outer s H vs Q E hr h => ?_)
  · obtain ⟨p, n, t, m, ns, rfl, _⟩ := h
    rfl
  · obtain ⟨p, n, t, m, ns, rfl, ⟨⟨dx, hp⟩, hn, ht, hm, hF⟩, k⟩ := h
    refine ⟨_, PSs.nox (pss_one (ps_if (pt_not (pt_val (pe_callB call_isi (by rfl) T.isinstance (by decide +kernel) (pa_cons (pv 0) (pa_cons (pe_glob (v := .ref C) (by rfl) Cl.g rfl) pa_nil))))) (pss_one ps_never) pss_nil)), ?_⟩
    walk_at "rd"
    refine ⟨_, _, _, _, true, rfl, .own C, Cl.ty hp, Cl.kit, ?_⟩
    walk_at "rd"
    exact k
theorem g_mk3 {E : XK} {H1 : Hp} {R : Addr → Hp → Prop} {a : Addr} {ns : List Int} (h : TupX K H1 a (ns.map V.int)) (hF : Fall ns) (k : ∀ H' p n t m, Ext H1 H' → KindAt K C H' p n t m ns → R p H') :
    ∀ x dx, H1 x = none → H1 dx = none → dx ≠ x → spInit K C [.ref x, .ref a] (upd (upd H1 dx (.own x)) x (.ins C dx [])) (fun v H2 => v = .non ∧ R x H2) E := fun x dx hx hdx ne =>
  ⟨x, dx, a, ns, rfl, upd_same, h.ext (made_ext hx hdx), hF, fun H' n t m e hk => ⟨rfl, k H' x n t m (fun b o q => e b o (ne_of_none q hx) (made_ext hx hdx b o q)) hk⟩⟩
end
end Q0

set_option Elab.async false
set_option linter.all false
set_option maxRecDepth 100000
set_option maxHeartbeats 4000000
/-! k12: powers. -/
namespace Q0
open PySem PySem.Spec PyProof.Rows L2 Gd
local macro_rules | `(tactic| walk_at "rd1") => `(tactic| first | with_reducible refine g_ret ?_ | with_reducible refine g_retN ?_ | with_reducible refine g_seq ?_ | with_reducible refine g_next ?_ | with_reducible refine g_drop ?_ | with_reducible refine g_asg ?_ | with_reducible refine g_name ?_ | with_reducible refine g_ifs ?_ | with_reducible refine g_test ?_ | with_reducible refine g_tb ?_ | with_reducible refine g_and ?_ | with_reducible refine g_or ?_ | with_reducible refine g_not ?_ | with_reducible refine g_andV ?_ | with_reducible refine g_orV ?_ | with_reducible refine g_notV ?_ | with_reducible refine g_if ?_ | with_reducible refine g_op ?_ | with_reducible refine g_un ?_ | with_reducible refine g_cb ?_ | with_reducible refine g_nil ?_ | with_reducible refine g_cons ?_ | with_reducible refine g_call ?_ | with_reducible refine g_callS ?_ | with_reducible refine g_tup ?_ | with_reducible refine g_lst ?_ | with_reducible refine g_isN ?_ | with_reducible refine g_sl ?_ | with_reducible refine g_nopart ?_ | with_reducible refine g_part ?_ | with_reducible refine g_chain ?_ | with_reducible refine g_fld ?_ | with_reducible refine g_prop ?_ | with_reducible refine g_bm ?_ | with_reducible refine g_bm0 ?_ | with_reducible refine g_c ?_ | with_reducible refine g_sub ?_ | with_reducible refine g_int1 ?_ | with_reducible refine g_int2 ?_ | with_reducible refine g_yes ?_ | with_reducible refine g_sfld ?_ | with_reducible refine g_NT ?_ | with_reducible refine g_NF ?_ | with_reducible refine iteT ?_ | with_reducible refine iteF ?_ | ((with_reducible refine' g_aug ?hv ?_); (case hv => exact rfl)) | ((with_reducible refine' g_var ?hv ?_); (case hv => exact rfl)) | with_reducible refine g_I0 ?_ | with_reducible refine g_U ?_ | with_reducible refine g_eqI ?_ | with_reducible refine g_blV ?_ | with_reducible refine g_inV ?_)
local macro_rules | `(tactic| walk_at "rd") => `(tactic| repeat walk_at "rd1")
section
variable {P : Program} {w : World} {K : PySem.W.Frag} {mg : Str → Option Value} {base : Heap} {f : Addr} {fd : FuncData}
abbrev sPowerOf : Stmt := top 2
def powI (n : Int) : Nat → Int
  | 0 => 1
  | k + 1 => powI n k * n
def spPowerOf (K : PySem.W.Frag) : Sp := fun vs H Q _ => ∃ (n : Int) (m : Nat), vs = [.int n, .int (m : Int)] ∧ m ≤ 1000 ∧ (-(2 ^ 64) < n ∧ n < 2 ^ 64) ∧ Q (.int (powI n m)) H
theorem scPowerOf : FnScope ["number", "many", "value", "_"] ["number", "many"] (defScope sPowerOf) := ⟨rfl, rfl, rfl, by decide +kernel, rfl, by decide +kernel, by decide +kernel⟩
def PvPO (n : Int) (m : Nat) (H : Hp) (i : Nat) : L2.St → Hp → Prop := fun σ H' => ∃ (x : Option V), σ = [some (.int n), some (.int (m : Int)), some (.int (powI n i)), x] ∧ H' = H
theorem ok_powerOf (F : Fun K "power_of" "power_of" sPowerOf f fd) (T : Txt K mg) : FnOk P w K mg base CX0 1 f fd ["number", "many"] (spPowerOf K) := by
  refine F.ok scPowerOf (fun vs H Q E h => ?_) (fun cdv A outer s H vs Q E hr h => ?_)
  · obtain ⟨n, m, rfl, _⟩ := h
    rfl
  · obtain ⟨n, m, rfl, hm, hf, k⟩ := h
    refine ⟨_, pss_cons (ps_set (i := 2) scPowerOf.nd rfl (Or.inl rfl) pe_int)
      (pss_cons (ps_for PassesOwn.never rfl (pi_range1 (by rfl) T.range (pa_cons (pv 1) pa_nil)) (pg_name (i := 3) scPowerOf.nd rfl (Or.inl rfl))
          (pss_one (ps_set (i := 2) scPowerOf.nd rfl (Or.inl rfl) (pe_op op_mul (pv 2) (pv 0)))))
        (pss_one (ps_ret (pv 2)))), ?_⟩
    walk_at "rd"
    refine g_forR ?_
    walk_at "rd"
    refine ⟨by omega, by omega, ?_⟩
    rw [Int.toNat_natCast]
    refine for_range (PvPO n m H) ⟨_, rfl, rfl⟩ ?_ ?_
    · rintro i σ H2 hi ⟨x, rfl, rfl⟩
      walk_at "rd"
      refine g_I (.inr hf) ?_
      walk_at "rd"
      exact ⟨_, rfl, rfl⟩
    · rintro σ H2 ⟨x, rfl, rfl⟩
      walk_at "rd"
      exact k
end
end Q0

set_option Elab.async false
set_option linter.all false
set_option maxRecDepth 100000
set_option maxHeartbeats 4000000
/-! Zips of tuples of integers. -/
namespace Q0
open PySem PySem.Spec PyProof.Rows L2 Gd
local macro_rules | `(tactic| walk_at "rd1") => `(tactic| first | with_reducible refine g_ret ?_ | with_reducible refine g_retN ?_ | with_reducible refine g_seq ?_ | with_reducible refine g_next ?_ | with_reducible refine g_drop ?_ | with_reducible refine g_asg ?_ | with_reducible refine g_name ?_ | with_reducible refine g_ifs ?_ | with_reducible refine g_test ?_ | with_reducible refine g_tb ?_ | with_reducible refine g_and ?_ | with_reducible refine g_or ?_ | with_reducible refine g_not ?_ | with_reducible refine g_andV ?_ | with_reducible refine g_orV ?_ | with_reducible refine g_notV ?_ | with_reducible refine g_if ?_ | with_reducible refine g_op ?_ | with_reducible refine g_un ?_ | with_reducible refine g_cb ?_ | with_reducible refine g_nil ?_ | with_reducible refine g_cons ?_ | with_reducible refine g_call ?_ | with_reducible refine g_callS ?_ | with_reducible refine g_tup ?_ | with_reducible refine g_lst ?_ | with_reducible refine g_isN ?_ | with_reducible refine g_sl ?_ | with_reducible refine g_nopart ?_ | with_reducible refine g_part ?_ | with_reducible refine g_chain ?_ | with_reducible refine g_fld ?_ | with_reducible refine g_prop ?_ | with_reducible refine g_bm ?_ | with_reducible refine g_bm0 ?_ | with_reducible refine g_c ?_ | with_reducible refine g_sub ?_ | with_reducible refine g_int1 ?_ | with_reducible refine g_int2 ?_ | with_reducible refine g_yes ?_ | with_reducible refine g_sfld ?_ | with_reducible refine g_NT ?_ | with_reducible refine g_NF ?_ | with_reducible refine iteT ?_ | with_reducible refine iteF ?_ | ((with_reducible refine' g_aug ?hv ?_); (case hv => exact rfl)) | ((with_reducible refine' g_var ?hv ?_); (case hv => exact rfl)) | with_reducible refine g_I0 ?_ | with_reducible refine g_U ?_ | with_reducible refine g_eqI ?_ | with_reducible refine g_blV ?_ | with_reducible refine g_inV ?_)
local macro_rules | `(tactic| walk_at "rd") => `(tactic| repeat walk_at "rd1")
theorem smallH {n : Nat} (h : n ≤ 1000) : n ≤ sizeLine := Nat.le_trans h (by show 1000 ≤ sizeLine; decide)
def lift2 (g : Int → Int → V) : V → V → V := fun x y => match x, y with
  | .int a, .int b => g a b
  | _, _ => .non
def lift2b (c : Int → Int → Bool) : V → V → Bool := fun x y => match x, y with
  | .int a, .int b => c a b
  | _, _ => false
theorem zip_lift (c : Int → Int → Bool) (g : Int → Int → V) : ∀ xs ys : List Int, (((xs.map V.int).zip (ys.map V.int)).filter fun p => lift2b c p.1 p.2).map (fun p => lift2 g p.1 p.2) = ((xs.zip ys).filter fun q => c q.1 q.2).map fun q => g q.1 q.2
  | [], _ => by simp
  | _ :: _, [] => by simp
  | x :: xs, y :: ys => by
    have ih := zip_lift c g xs ys
    simp only [List.map_cons, List.zip_cons_cons, List.filter_cons]
    have e : lift2b c (V.int x) (V.int y) = c x y := rfl
    rw [e]
    split
    · rw [List.map_cons, List.map_cons, ih]
      rfl
    · exact ih
section
variable {K : PySem.W.Frag} {H1 : Hp} {tt : TT} {te : TE} {vs : List Nat} {σ : L2.St} {Q : VK} {a b : Addr} {i1 i2 : Nat}
/-- over zip of two tuples of integers -/
theorem lcZI {ns ms : List Int} (ha : SqT K H1 a (ns.map V.int)) (hb : SqT K H1 b (ms.map V.int)) (hl : ns.length ≤ 900) (c : Int → Int → Bool) (g : Int → Int → V)
    (body : ∀ (x y : Int) H', (x, y) ∈ ns.zip ms → Ext H1 H' → ∀ (Qe : VK) (Qn : Hp → Prop), (∀ H3, Ext H' H3 → c x y = true → Qe (g x y) H3) → (∀ H3, Ext H' H3 → c x y = false → Qn H3) →
      wipe (((wipe σ vs).set i1 (some (.int x))).set i2 (some (.int y))) vs = wipe σ vs ∧ tt (((wipe σ vs).set i1 (some (.int x))).set i2 (some (.int y))) H' fun b H3 => if b = true then te (((wipe σ vs).set i1 (some (.int x))).set i2 (some (.int y))) H3 Qe else Qn H3)
    (k : ∀ H' D, Ext H1 H' → H1 D = none → H' D = some (.lst (((ns.zip ms).filter fun q => c q.1 q.2).map fun q => g q.1 q.2)) → Q (.ref D) H') :
    ∃ k1 k2 a' b' xs ys, [V.ref a, V.ref b] = [V.ref a', V.ref b'] ∧ SqE K k1 H1 a' xs ∧ SqE K k2 H1 b' ys ∧ LcG (ItzE K k1 k2 a' b') (gTup K 2 (gCons (gName i1) (gCons (gName i2) gNil))) tt te vs σ H1 Q := by
  refine lcZ (l1 := false) (l2 := false) ha hb (small (by simp only [List.length_map]; omega)) (lift2b c) (lift2 g) (fun x y H' hxy e Qe Qn he hn => ?_) (fun H' D e hD hd => ?_)
  · rw [List.zip_map] at hxy
    obtain ⟨⟨n, m⟩, hnm, e1⟩ := List.mem_map.mp hxy
    cases e1
    exact body n m H' hnm e Qe Qn he hn
  · rw [zip_lift] at hd
    exact k H' D e hD hd
end
theorem filter_yes {α : Type} (xs : List α) : (xs.filter fun _ => true) = xs := List.filter_eq_self.mpr fun _ _ => rfl
theorem g_neS1 {H : Hp} {Q : VK} {i j : Int} (e : i = j) (k : Q (.bl false) H) : rNe (.int i) (.int j) H Q := by
  subst e
  exact ⟨rfl, by simpa using k⟩
end Q0

set_option Elab.async false
set_option linter.all false
set_option maxRecDepth 100000
set_option maxHeartbeats 4000000
/-! What is an element. -/
namespace Q0
open PySem PySem.Spec PyProof.Rows L2 Gd
local macro_rules | `(tactic| walk_at "rd1") => `(tactic| first | with_reducible refine g_ret ?_ | with_reducible refine g_retN ?_ | with_reducible refine g_seq ?_ | with_reducible refine g_next ?_ | with_reducible refine g_drop ?_ | with_reducible refine g_asg ?_ | with_reducible refine g_name ?_ | with_reducible refine g_ifs ?_ | with_reducible refine g_test ?_ | with_reducible refine g_tb ?_ | with_reducible refine g_and ?_ | with_reducible refine g_or ?_ | with_reducible refine g_not ?_ | with_reducible refine g_andV ?_ | with_reducible refine g_orV ?_ | with_reducible refine g_notV ?_ | with_reducible refine g_if ?_ | with_reducible refine g_op ?_ | with_reducible refine g_un ?_ | with_reducible refine g_cb ?_ | with_reducible refine g_nil ?_ | with_reducible refine g_cons ?_ | with_reducible refine g_call ?_ | with_reducible refine g_callS ?_ | with_reducible refine g_tup ?_ | with_reducible refine g_lst ?_ | with_reducible refine g_isN ?_ | with_reducible refine g_sl ?_ | with_reducible refine g_nopart ?_ | with_reducible refine g_part ?_ | with_reducible refine g_chain ?_ | with_reducible refine g_fld ?_ | with_reducible refine g_prop ?_ | with_reducible refine g_bm ?_ | with_reducible refine g_bm0 ?_ | with_reducible refine g_c ?_ | with_reducible refine g_sub ?_ | with_reducible refine g_int1 ?_ | with_reducible refine g_int2 ?_ | with_reducible refine g_yes ?_ | with_reducible refine g_sfld ?_ | with_reducible refine g_NT ?_ | with_reducible refine g_NF ?_ | with_reducible refine iteT ?_ | with_reducible refine iteF ?_ | ((with_reducible refine' g_aug ?hv ?_); (case hv => exact rfl)) | ((with_reducible refine' g_var ?hv ?_); (case hv => exact rfl)) | with_reducible refine g_I0 ?_ | with_reducible refine g_U ?_ | with_reducible refine g_eqI ?_ | with_reducible refine g_blV ?_ | with_reducible refine g_inV ?_)
local macro_rules | `(tactic| walk_at "rd") => `(tactic| repeat walk_at "rd1")
/-- whether a value is an entry below o -/
def entOk (v : V) (o : Int) : Bool := match v with
  | .int x => decide (0 ≤ x) && decide (x < o)
  | _ => false
/-- an integer, or known not to be one -/
def WhV (K : PySem.W.Frag) (H : Hp) (v : V) : Prop := (∃ i : Int, v = .int i) ∨ ∀ H', Ext H H' → WholeB K H' v false
/-- known not to be a tuple -/
def NotTup (K : PySem.W.Frag) (H : Hp) (v : V) : Prop := ∃ t, TyX K H v t ∧ PySem.W.kitOne K t (.type "tuple") = some false
/-- whether a value is a row of entries -/
def EntB (K : PySem.W.Frag) (H : Hp) (x : V) (os : List Int) (b : Bool) : Prop := (NotTup K H x ∧ b = false) ∨
  ∃ c vs, x = .ref c ∧ SqT K H c vs ∧ vs.length ≤ 900 ∧ (∀ v ∈ vs, WhV K H v) ∧ b = (decide (vs.length = os.length) && ((vs.zip os).all fun q => entOk q.1 q.2))
theorem WhV.ext {K : PySem.W.Frag} {H H' : Hp} {v : V} (e : Ext H H') (h : WhV K H v) : WhV K H' v := h.imp id fun g H2 e2 => g H2 (Ext.trans e e2)
theorem entB_ints {K : PySem.W.Frag} {H : Hp} {c : Addr} {xs os : List Int} {b : Bool} (h : SqT K H c (xs.map V.int)) (hl : xs.length ≤ 900) (hb : b = (decide (xs.length = os.length) && ((xs.zip os).all fun q => decide (0 ≤ q.1) && decide (q.1 < q.2)))) : EntB K H (.ref c) os b := by
  refine .inr ⟨c, _, rfl, h, by rw [List.length_map]; exact hl, fun v hv => ?_, ?_⟩
  · obtain ⟨i, _, rfl⟩ := List.mem_map.mp hv
    exact .inl ⟨i, rfl⟩
  · rw [hb, List.length_map, List.zip_map_left, List.all_map]
    rfl
def entV : V → V → V := fun x y => match y with
  | .int o => .bl (entOk x o)
  | _ => .non
section
variable {P : Program} {w : World} {K : PySem.W.Frag} {mg : Str → Option Value} {base : Heap} {f : Addr} {fd : FuncData}
abbrev sIsEntries : Stmt := top 18
theorem scIsEntries : FnScope ["orders", "value", "entry", "order"] ["orders", "value"] (defScope sIsEntries) := ⟨rfl, rfl, rfl, by decide +kernel, rfl, by decide +kernel, by decide +kernel⟩
def spIsEnt (K : PySem.W.Frag) : Sp := fun vs H Q _ => ∃ (a : Addr) (x : V) (os : List Int) (b : Bool), vs = [.ref a, x] ∧ SqT K H a (os.map V.int) ∧ EntB K H x os b ∧ ∀ H', Ext H H' → Q (.bl b) H'
theorem ent_all (vs : List V) (os : List Int) : ((((vs.zip (os.map V.int)).filter fun _ => true).map fun p => entV p.1 p.2)) = ((vs.zip os).map fun q => entOk q.1 q.2).map V.bl := by
  rw [filter_yes, List.zip_map_right, List.map_map, List.map_map]
  rfl
theorem ok_isEnt (F : Fun K "is_entries" "is_entries" sIsEntries f fd) (T : Txt K mg) (Wh : Def1 P w K mg base CX0 1 "is_whole" ["value"] (spWhole K)) : FnOk P w K mg base CX0 2 f fd ["orders", "value"] (spIsEnt K) := by
  refine F.ok scIsEntries (fun vs H Q E h => ?_) (fun cdv A outer s H vs Q E hr h => ?_)
  · obtain ⟨a, x, os, b, rfl, _⟩ := h
    rfl
  · obtain ⟨a, x, os, b, rfl, hs, hx, k⟩ := h
    refine ⟨_, pss_cons (ps_if (PW.pt (pw_or (pt_not (pt_val (pe_callB call_isi (by rfl) T.isinstance (by decide +kernel) (pa_cons (pv 1) (pa_cons (pe_bltn (v := .ty "tuple") (by rfl) T.tuple (by decide +kernel) rfl) pa_nil))))) (pw_or1 (pt_cmpR op_ne (pe_callB call_len_seq (by rfl) T.len PySem.boot_len (pa_cons (pv 1) pa_nil)) (pe_callB call_len_seq (by rfl) T.len PySem.boot_len (pa_cons (pv 0) pa_nil)) (nomark _))))) (pss_one (ps_ret pe_bl)) pss_nil)
      (pss_one (ps_ret (pe_callB (cr_all rfl) (by rfl) T.all (by decide +kernel) (pa_cons (pe_lc (own := [("entry", 2), ("order", 3)]) (g := gTup K 2 (gCons (gName 2) (gCons (gName 3) gNil))) (tt := tYes) rfl scIsEntries.nd (pi_zipE (by rfl) T.zip (pa_cons (pv 1) (pa_cons (pv 0) pa_nil))) (blkOk_by (N := ["orders", "value", "entry", "order"]) (sc := defScope sIsEntries) (by decide +kernel)) (fun _ _ _ _ _ => pg_tup rfl (pgs_cons (pg_name (i := 2) scIsEntries.nd rfl (Or.inl rfl)) (pgs_cons (pg_name (i := 3) scIsEntries.nd rfl (Or.inl rfl)) pgs_nil))) (fun _ _ _ _ _ => pts_nil) (fun _ _ _ _ _ => by exact (pe_and (pe_def Wh hr (by decide) (by rfl) (pa_cons (pv 2) pa_nil)) (pe_one (pe_chain op_le op_lt pe_int (pv 2) (pv 3)))))) pa_nil)))), ?_⟩
    walk_at "rd"
    rcases hx with ⟨⟨t, ht, hk⟩, rfl⟩ | ⟨c, vs, rfl, ht, hl, hv, rfl⟩
    · refine ⟨_, _, _, _, false, rfl, .ty _, ht, hk, ?_⟩
      walk_at "rd"
      exact k H (fun _ _ z => z)
    · refine ⟨_, _, _, _, true, rfl, .ty _, tyT ht, by kernel_rfl, ?_⟩
      walk_at "rd"
      refine ⟨c, _, rfl, .inr ht, ?_⟩
      walk_at "rd"
      refine ⟨a, _, rfl, .inr hs, ?_⟩
      rw [List.length_map]
      by_cases hlen : vs.length = os.length
      · refine g_neS1 (by omega) ?_
        walk_at "rd"
        rw [decide_eq_true hlen, Bool.true_and] at k
        refine g_lc ?_
        unfold iZipE
        walk_at "rd"
        refine lcZ (l1 := false) (l2 := false) ht hs (small (by rw [List.length_map]; omega)) (fun _ _ => true) entV (fun x y H' hxo e Qe Qn he _ => ?_) (fun H' D e hD hd => ?_)
        · rw [List.zip_map_right] at hxo
          obtain ⟨⟨x', o⟩, hm, e1⟩ := List.mem_map.mp hxo
          have ex : x = x' := (congrArg Prod.fst e1).symm
          have ey : y = .int o := (congrArg Prod.snd e1).symm
          subst ex ey
          have hv0 := hv x (List.of_mem_zip hm).1
          refine ⟨rfl, ?_⟩
          walk_at "rd"
          rcases hv0 with ⟨i, rfl⟩ | hv0
          · refine ⟨_, true, rfl, whole_int, ?_⟩
            walk_at "rd"
            have h3 : Qe (entV (.int i) (.int o)) H' := he _ (fun _ _ z => z) rfl
            by_cases h1 : 0 ≤ i
            · rw [decide_eq_true h1]
              walk_at "rd"
              have e2 : entV (.int i) (.int o) = .bl (decide (i < o)) := by
                show V.bl (decide (0 ≤ i) && decide (i < o)) = _
                rw [decide_eq_true h1, Bool.true_and]
              rw [e2] at h3
              exact h3
            · rw [decide_eq_false h1]
              walk_at "rd"
              have e2 : entV (.int i) (.int o) = .bl false := by
                show V.bl (decide (0 ≤ i) && decide (i < o)) = _
                rw [decide_eq_false h1, Bool.false_and]
              rw [e2] at h3
              exact h3
          · refine ⟨_, false, rfl, hv0 _ e, ?_⟩
            walk_at "rd"
            have e2 : entV x (.int o) = .bl false := by
              show V.bl (entOk x o) = _
              unfold entOk
              split
              · next i =>
                obtain ⟨t, b1, b2, ty, k1, k2, hb⟩ := hv0 _ e
                cases ty with
                | base h =>
                  cases h
                  have q1 : some b1 = some true := k1.symm.trans (by kernel_rfl)
                  have q2 : some b2 = some false := k2.symm.trans (by kernel_rfl)
                  cases q1
                  cases q2
                  cases hb
              · rfl
            have h3 : Qe (entV x (.int o)) H' := he _ (fun _ _ z => z) rfl
            rw [e2] at h3
            exact h3
        · rw [ent_all] at hd
          walk_at "rd"
          refine ⟨D, _, rfl, SqL.of hd, ?_⟩
          rw [List.all_map] 
          exact k _ e
      · refine ⟨rfl, ?_⟩
        have hd : decide (V.int (vs.length : Int) = V.int (os.length : Int)) = false := decide_eq_false fun z => hlen (by injection z with z; omega)
        rw [hd]
        walk_at "rd"
        rw [decide_eq_false hlen, Bool.false_and] at k
        exact k H (fun _ _ z => z)
/-- of an element -/
def spIsEntries (K : PySem.W.Frag) : Sp := fun vs H Q _ => ∃ (a b : Addr) (os xs : List Int), vs = [.ref a, .ref b] ∧ SqT K H a (os.map V.int) ∧ SqT K H b (xs.map V.int) ∧ xs.length = os.length ∧ xs.length ≤ 900 ∧ (∀ q ∈ xs.zip os, 0 ≤ q.1 ∧ q.1 < q.2) ∧
  ∀ H', Ext H H' → Q (.bl true) H'
theorem spEnt_of {vs : List V} {H : Hp} {Q : VK} {E : XK} (h : spIsEntries K vs H Q E) : spIsEnt K vs H Q E := by
  obtain ⟨a, b, os, xs, rfl, hs, ht, hl, hl2, hq, k⟩ := h
  refine ⟨a, .ref b, os, true, rfl, hs, entB_ints ht hl2 ?_, k⟩
  rw [decide_eq_true hl, Bool.true_and]
  refine Eq.symm (List.all_eq_true.mpr fun q hm => ?_)
  have := hq q hm
  rw [decide_eq_true this.1, decide_eq_true this.2]
  rfl
theorem ok_isEntries (F : Fun K "is_entries" "is_entries" sIsEntries f fd) (T : Txt K mg) (Wh : Def1 P w K mg base CX0 1 "is_whole" ["value"] (spWhole K)) : FnOk P w K mg base CX0 2 f fd ["orders", "value"] (spIsEntries K) :=
  (ok_isEnt F T Wh).imp fun _ _ _ _ h => spEnt_of h
end
end Q0

set_option Elab.async false
set_option linter.all false
set_option maxRecDepth 100000
set_option maxHeartbeats 4000000
/-! Groups: made. -/
namespace Q0
open PySem PySem.Spec PyProof.Rows L2 Gd
local macro_rules | `(tactic| walk_at "rd1") => `(tactic| first | with_reducible refine g_ret ?_ | with_reducible refine g_retN ?_ | with_reducible refine g_seq ?_ | with_reducible refine g_next ?_ | with_reducible refine g_drop ?_ | with_reducible refine g_asg ?_ | with_reducible refine g_name ?_ | with_reducible refine g_ifs ?_ | with_reducible refine g_test ?_ | with_reducible refine g_tb ?_ | with_reducible refine g_and ?_ | with_reducible refine g_or ?_ | with_reducible refine g_not ?_ | with_reducible refine g_andV ?_ | with_reducible refine g_orV ?_ | with_reducible refine g_notV ?_ | with_reducible refine g_if ?_ | with_reducible refine g_op ?_ | with_reducible refine g_un ?_ | with_reducible refine g_cb ?_ | with_reducible refine g_nil ?_ | with_reducible refine g_cons ?_ | with_reducible refine g_call ?_ | with_reducible refine g_callS ?_ | with_reducible refine g_tup ?_ | with_reducible refine g_lst ?_ | with_reducible refine g_isN ?_ | with_reducible refine g_sl ?_ | with_reducible refine g_nopart ?_ | with_reducible refine g_part ?_ | with_reducible refine g_chain ?_ | with_reducible refine g_fld ?_ | with_reducible refine g_prop ?_ | with_reducible refine g_bm ?_ | with_reducible refine g_bm0 ?_ | with_reducible refine g_c ?_ | with_reducible refine g_sub ?_ | with_reducible refine g_int1 ?_ | with_reducible refine g_int2 ?_ | with_reducible refine g_yes ?_ | with_reducible refine g_sfld ?_ | with_reducible refine g_NT ?_ | with_reducible refine g_NF ?_ | with_reducible refine iteT ?_ | with_reducible refine iteF ?_ | ((with_reducible refine' g_aug ?hv ?_); (case hv => exact rfl)) | ((with_reducible refine' g_var ?hv ?_); (case hv => exact rfl)) | with_reducible refine g_I0 ?_ | with_reducible refine g_U ?_ | with_reducible refine g_eqI ?_ | with_reducible refine g_blV ?_ | with_reducible refine g_inV ?_)
local macro_rules | `(tactic| walk_at "rd") => `(tactic| repeat walk_at "rd1")
def gcl (j : Nat) : Stmt := inClass (top 38) j
/-- the primes of groups -/
def PrG (p : Int) : Prop := p = 2 ∨ p = 3 ∨ p = 5 ∨ p = 7
theorem PrG.bd {p : Int} (h : PrG p) : 2 ≤ p ∧ p ≤ 7 := by
  rcases h with h | h | h | h <;> omega
theorem powI_mono {p : Int} (hp : 1 ≤ p) : ∀ n : Nat, 1 ≤ powI p n
  | 0 => Int.le_refl _
  | n + 1 => by
    have := powI_mono hp n
    show 1 ≤ powI p n * p
    have h := Int.mul_le_mul this hp (by decide) (by omega)
    omega
theorem powI_le {p : Int} (hp : 1 ≤ p) : ∀ (m n : Nat), n ≤ m → powI p n ≤ powI p m
  | 0, n, h => by
    have : n = 0 := by omega
    rw [this]
    exact Int.le_refl _
  | m + 1, n, h => by
    by_cases e : n = m + 1
    · rw [e]
      exact Int.le_refl _
    · have ih := powI_le hp m n (by omega)
      have h1 := powI_mono hp m
      show powI p n ≤ powI p m * p
      have h := Int.mul_le_mul_of_nonneg_left hp (show 0 ≤ powI p m by omega)
      omega
def ordsM (p : Int) (ns : List Int) : List Int := ns.map fun n => powI p n.toNat
section
variable {P : Program} {w : World} {K : PySem.W.Frag} {mg : Str → Option Value} {base : Heap} {f C G tP : Addr} {fd : FuncData}
/-- the class at G -/
structure GC (K : PySem.W.Frag) (mg : Str → Option Value) (G tP : Addr) : Prop where
  cl : Cls K G
  nP : NoAttr K G "_prime"
  nK : NoAttr K G "_kind"
  nO : NoAttr K G "_orders"
  nL : NoAttr K G "_place"
  g : mg "Group" = some (.ref G)
  most : ∃ t, mg "MAX_ELEMENTS" = some (.int 256 t)
  gP : mg "GROUP_PRIMES" = some (.ref tP)
  prs : ∀ H : Hp, SqT K H tP [.int 2, .int 3, .int 5, .int 7]
structure GrpAt (K : PySem.W.Frag) (C G : Addr) (H : Hp) (g : Addr) (p : Int) (ns : List Int) : Prop where
  ins : ∃ dx q o l n t m, H g = some (.ins G dx [(("_prime" : Str), .int p), (("_kind" : Str), .ref q), (("_orders" : Str), .ref o), (("_place" : Str), .ref l)]) ∧ KindAt K C H q n t m ns ∧ SqT K H o ((ordsM p ns).map V.int) ∧ SqT K H l [.int p, .ref n]
  pr : PrG p
  fall : Fall ns
  sz : powI p ns.sum.toNat ≤ 256
theorem GrpAt.ext {H H' : Hp} {g : Addr} {p : Int} {ns : List Int} (e : Ext H H') (h : GrpAt K C G H g p ns) : GrpAt K C G H' g p ns := by
  obtain ⟨dx, q, o, l, n, t, m, h1, h2, h3, h4⟩ := h.ins
  exact ⟨⟨dx, q, o, l, n, t, m, e _ _ h1, h2.ext e, sqT_ext e h3, sqT_ext e h4⟩, h.pr, h.fall, h.sz⟩
theorem sqT_ins {H H' : Hp} {g dx a : Addr} {fs : List (Str × V)} {xs : List V} (hg : H g = some (.ins G dx fs)) (e : ExtBut g H H') (h : SqT K H a xs) : SqT K H' a xs := by
  rcases h with (h | ⟨o, h⟩) | h
  · exact .inl (.inl (e _ _ (ne_of h hg (by intro z; cases z)) h))
  · exact .inl (.inr ⟨o, e _ _ (ne_of h hg (by intro z; cases z)) h⟩)
  · exact .inr h
theorem tupX_ins {H H' : Hp} {g dx a : Addr} {fs : List (Str × V)} {xs : List V} (hg : H g = some (.ins G dx fs)) (e : ExtBut g H H') (h : TupX K H a xs) : TupX K H' a xs := by
  rcases h with ⟨o, h, d⟩ | h
  · exact .inl ⟨o, e _ _ (ne_of h hg (by intro z; cases z)) h, d⟩
  · exact .inr h
theorem KindAt.but {H H' : Hp} {g dx q n t m : Addr} {fs : List (Str × V)} {ns : List Int} (hg : H g = some (.ins G dx fs)) (nf : ∀ u r, fs ≠ (("_numbers" : Str), u) :: r) (e : ExtBut g H H') (h : KindAt K C H q n t m ns) : KindAt K C H' q n t m ns := by
  obtain ⟨⟨dy, h1⟩, h2, h3, h4, h5⟩ := h
  refine ⟨⟨dy, e _ _ (ne_of h1 hg (fun z => ?_)) h1⟩, tupX_ins hg e h2, sqT_ins hg e h3, sqT_ins hg e h4, h5⟩
  injection z with _ _ z
  exact nf _ _ z.symm
theorem ExtBut.up {H : Hp} {g : Addr} {o : HO} : ExtBut g H (upd H g o) := fun b u hb q => by
  rw [upd_ne hb]
  exact q
/-! ### require_group_prime -/
abbrev sReqPrime : Stmt := top 39
theorem scReqPrime : FnScope ["value"] ["value"] (defScope sReqPrime) := ⟨rfl, rfl, rfl, by decide +kernel, rfl, by decide +kernel, by decide +kernel⟩
def spReqPrime : Sp := fun vs H Q _ => ∃ p : Int, vs = [.int p] ∧ PrG p ∧ Q .non H
theorem ok_reqPrime (F : Fun K "require_group_prime" "require_group_prime" sReqPrime f fd) (Gl : GC K mg G tP) (In : Def1 P w K mg base CX0 2 "is_integer" ["value"] (spInteger K)) : FnOk P w K mg base CX0 3 f fd ["value"] spReqPrime := by
  refine F.ok scReqPrime (fun vs H Q E h => ?_) (fun cdv A outer s H vs Q E hr h => ?_)
  · obtain ⟨p, rfl, _⟩ := h
    rfl
  · obtain ⟨p, rfl, hp, k⟩ := h
    refine ⟨_, PSs.nox (pss_one (ps_if (PW.pt (pw_or (pt_not (pt_val (pe_def In hr (by decide) (by rfl) (pa_cons (pv 0) pa_nil)))) (pw_or1 (pt_cmpR op_notIn_seq (pv 0) (pe_glob (v := .ref tP) (by rfl) Gl.gP rfl) (by rfl))))) (pss_one ps_never) pss_nil)), ?_⟩
    have h7 := hp.bd
    have big : (7 : Int) < 10 ^ 60 := by decide +kernel
    walk_at "rd"
    refine ⟨_, _, rfl, .inl ⟨p, rfl, rfl⟩, ?_⟩
    rw [decide_eq_true (show -(10 ^ 60) < p ∧ p < 10 ^ 60 by omega)]
    walk_at "rd"
    refine ⟨tP, _, rfl, .inr (Gl.prs _), rfl, rfl, ?_⟩
    have e : inV (.int p) [.int 2, .int 3, .int 5, .int 7] = true := by
      rcases hp with h | h | h | h <;> subst h <;> decide
    rw [e]
    exact ⟨false, rfl, iteF k⟩
end
end Q0

set_option Elab.async false
set_option linter.all false
set_option maxRecDepth 100000
set_option maxHeartbeats 4000000
/-! Groups: __init__. -/
namespace Q0
open PySem PySem.Spec PyProof.Rows L2 Gd
local macro_rules | `(tactic| walk_at "rd1") => `(tactic| first | with_reducible refine g_ret ?_ | with_reducible refine g_retN ?_ | with_reducible refine g_seq ?_ | with_reducible refine g_next ?_ | with_reducible refine g_drop ?_ | with_reducible refine g_asg ?_ | with_reducible refine g_name ?_ | with_reducible refine g_ifs ?_ | with_reducible refine g_test ?_ | with_reducible refine g_tb ?_ | with_reducible refine g_and ?_ | with_reducible refine g_or ?_ | with_reducible refine g_not ?_ | with_reducible refine g_andV ?_ | with_reducible refine g_orV ?_ | with_reducible refine g_notV ?_ | with_reducible refine g_if ?_ | with_reducible refine g_op ?_ | with_reducible refine g_un ?_ | with_reducible refine g_cb ?_ | with_reducible refine g_nil ?_ | with_reducible refine g_cons ?_ | with_reducible refine g_call ?_ | with_reducible refine g_callS ?_ | with_reducible refine g_tup ?_ | with_reducible refine g_lst ?_ | with_reducible refine g_isN ?_ | with_reducible refine g_sl ?_ | with_reducible refine g_nopart ?_ | with_reducible refine g_part ?_ | with_reducible refine g_chain ?_ | with_reducible refine g_fld ?_ | with_reducible refine g_prop ?_ | with_reducible refine g_bm ?_ | with_reducible refine g_bm0 ?_ | with_reducible refine g_c ?_ | with_reducible refine g_sub ?_ | with_reducible refine g_int1 ?_ | with_reducible refine g_int2 ?_ | with_reducible refine g_yes ?_ | with_reducible refine g_sfld ?_ | with_reducible refine g_NT ?_ | with_reducible refine g_NF ?_ | with_reducible refine iteT ?_ | with_reducible refine iteF ?_ | ((with_reducible refine' g_aug ?hv ?_); (case hv => exact rfl)) | ((with_reducible refine' g_var ?hv ?_); (case hv => exact rfl)) | with_reducible refine g_I0 ?_ | with_reducible refine g_U ?_ | with_reducible refine g_eqI ?_ | with_reducible refine g_blV ?_ | with_reducible refine g_inV ?_)
local macro_rules | `(tactic| walk_at "rd") => `(tactic| repeat walk_at "rd1")
section
variable {P : Program} {w : World} {K : PySem.W.Frag} {mg : Str → Option Value} {base : Heap} {f C G tP : Addr} {fd : FuncData}
theorem scGInit : FnScope ["self", "prime", "kind", "number"] ["self", "prime", "kind"] (defScope (gcl 0)) := ⟨rfl, rfl, rfl, by decide +kernel, rfl, by decide +kernel, by decide +kernel⟩
def spGInit (K : PySem.W.Frag) (C G : Addr) : Sp := fun vs H Q _ => ∃ (g dx q n t m : Addr) (p : Int) (ns : List Int), vs = [.ref g, .int p, .ref q] ∧ H g = some (.ins G dx []) ∧ KindAt K C H q n t m ns ∧ PrG p ∧ powI p ns.sum.toNat ≤ 256 ∧
  ∀ H', ExtBut g H H' → GrpAt K C G H' g p ns → Q .non H'
theorem ok_ginit (F : Fun K "__init__" "Group.__init__" (gcl 0) f fd) (T : Txt K mg) (Cl : KC K mg C) (Gl : GC K mg G tP) (Rp : Def1 P w K mg base CX0 3 "require_group_prime" ["value"] spReqPrime) (Rk : Def1 P w K mg base CX0 1 "require_kind" ["value"] (spReqKind K C))
    (Po : Def1 P w K mg base CX0 1 "power_of" ["number", "many"] (spPowerOf K)) (Pn : Pro1 P w K mg base 1 C "numbers" (spGet K C fun n _ => .ref n)) (Ps : Pro1 P w K mg base 1 C "size" (spGet K C fun _ ns => .int ns.sum)) : FnOk P w K mg base CX0 4 f fd ["self", "prime", "kind"] (spGInit K C G) := by
  obtain ⟨tM, gM⟩ := Gl.most
  refine F.ok scGInit (fun vs H Q E h => ?_) (fun cdv A outer s H vs Q E hr h => ?_)
  · obtain ⟨g, dx, q, n, t, m, p, ns, rfl, _⟩ := h
    rfl
  · obtain ⟨g, dx, q, n, t, m, p, ns, rfl, hg, hq, hp, hz, k⟩ := h
    refine ⟨_, PSs.nox (pss_cons (ps_expr (pe_def Rp hr (by decide) (by rfl) (pa_cons (pv 1) pa_nil)))
      (pss_cons (ps_expr (pe_def Rk hr (by decide) (by rfl) (pa_cons (pv 2) pa_nil)))
      (pss_cons (ps_if (pt_cmpR op_gt (pe_def Po hr (by decide) (by rfl) (pa_cons (pv 1) (pa_cons (pe_pro1 Cl.cl Ps hr (by decide) (pv 2)) pa_nil))) (pe_glob (v := .int 256) (by rfl) gM ⟨_, rfl⟩) (nomark _)) (pss_one ps_never) pss_nil)
      (pss_cons (ps_fld (pv 0) (pv 1) rfl)
      (pss_cons (ps_fld (pv 0) (pv 2) rfl)
      (pss_cons (ps_fld (pv 0) (pe_callTy call_tuple_of (by rfl) T.tuple (by decide +kernel) (pa_cons (pe_lc (own := [("number", 3)]) (g := gName 3) (tt := tYes) rfl scGInit.nd (pi_tup (pe_pro1 Cl.cl Pn hr (by decide) (pv 2))) (blkOk_by (N := ["self", "prime", "kind", "number"]) (sc := defScope (gcl 0)) (by decide +kernel)) (fun _ _ _ _ _ => pg_name (i := 3) scGInit.nd rfl (Or.inl rfl)) (fun _ _ _ _ _ => pts_nil) (fun _ _ _ _ _ => by exact (pe_def Po hr (by decide) (by rfl) (pa_cons (pv 1) (pa_cons (pv 3) pa_nil))))) pa_nil)) rfl)
      (pss_one (ps_fld (pv 0) (pe_tup (pa_cons (pv 1) (pa_cons (pe_pro1 Cl.cl Pn hr (by decide) (pv 2)) pa_nil))) rfl)))))))), ?_⟩
    have h7 := hp.bd
    have h0 := hq.fall.sum0
    have h12 := hq.fall.sum
    walk_at "rd"
    refine ⟨p, rfl, hp, ?_⟩
    walk_at "rd"
    refine ⟨q, n, t, m, ns, rfl, hq, ?_⟩
    walk_at "rd"
    obtain ⟨dy, hqi⟩ := id hq.ins
    refine ⟨q, dy, _, rfl, hqi, q, n, t, m, ns, rfl, hq, fun H1 e1 => ?_⟩
    walk_at "rd"
    refine ⟨p, ns.sum.toNat, by rw [Int.toNat_of_nonneg h0]; rfl, by omega, ⟨by omega, by omega⟩, ?_⟩
    walk_at "rd"
    rw [decide_eq_false (by omega)]
    walk_at "rd"
    have hq1 := hq.ext e1
    have hg1 := e1 _ _ hg
    refine ⟨g, G, dx, [], rfl, hg1, Gl.cl, Gl.nP, by decide, ?_⟩
    have w1 : upd H1 g (.ins G dx (putF "_prime" (.int p) [])) g = some (.ins G dx [(("_prime" : Str), .int p)]) := upd_same
    have hq2 : KindAt K C (upd H1 g (.ins G dx (putF "_prime" (.int p) []))) q n t m ns := hq1.but hg1 (fun _ _ z => by cases z) ExtBut.up
    have e2 : ExtBut g H (upd H1 g (.ins G dx (putF "_prime" (.int p) []))) := ExtBut.trans (ExtBut.of e1) ExtBut.up
    generalize upd H1 g (.ins G dx (putF "_prime" (.int p) [])) = H2 at w1 hq2 e2 ⊢
    walk_at "rd"
    refine ⟨g, G, dx, _, rfl, w1, Gl.cl, Gl.nK, (by show 1 < 1000; omega), ?_⟩
    have w2 : upd H2 g (.ins G dx (putF "_kind" (.ref q) [(("_prime" : Str), .int p)])) g = some (.ins G dx [(("_prime" : Str), .int p), (("_kind" : Str), .ref q)]) := upd_same
    have hq3 : KindAt K C (upd H2 g (.ins G dx (putF "_kind" (.ref q) [(("_prime" : Str), .int p)]))) q n t m ns := hq2.but w1 (fun _ _ z => by cases z) ExtBut.up
    have e3 : ExtBut g H (upd H2 g (.ins G dx (putF "_kind" (.ref q) [(("_prime" : Str), .int p)]))) := ExtBut.trans e2 ExtBut.up
    generalize upd H2 g (.ins G dx (putF "_kind" (.ref q) [(("_prime" : Str), .int p)])) = H3 at w2 hq3 e3 ⊢
    walk_at "rd"
    refine g_lc (g_itup ?_)
    walk_at "rd"
    obtain ⟨dy3, hqi3⟩ := id hq3.ins
    refine ⟨q, dy3, _, rfl, hqi3, q, n, t, m, ns, rfl, hq3, fun H4 e4 => ?_⟩
    have hq4 := hq3.ext e4
    have w4 := e4 _ _ w2
    have hl := hq.fall.len
    refine lcT hq4.num.sq (small (by rw [List.length_map]; omega)) (fun _ => true) (fun v => match v with | .int x => .int (powI p x.toNat) | y => y) (fun x H5 hx e5 Qe Qn he hn => ?_) (fun H5 D e5 hD hd => ?_)
    · obtain ⟨x, hx', rfl⟩ := List.mem_map.mp hx
      have hp1 := hq.fall.pos x hx'
      have hp2 := hq.fall.le x hx'
      refine ⟨rfl, ?_⟩
      walk_at "rd"
      refine ⟨p, x.toNat, by rw [Int.toNat_of_nonneg (by omega)]; rfl, by omega, ⟨by omega, by omega⟩, ?_⟩
      exact he _ (fun _ _ z => z) rfl
    · walk_at "rd"
      rw [filter_yes, List.map_map] at hd
      refine ⟨D, _, rfl, .inl ⟨SqL.of hd, fun l hl0 => ?_⟩⟩
      have eo : SqT K (upd H5 l (.tup (ns.map (((fun v => match v with | .int x => .int (powI p x.toNat) | y => y) : V → V) ∘ V.int)))) l ((ordsM p ns).map V.int) := by
        have : (ordsM p ns).map V.int = ns.map (((fun v => match v with | .int x => .int (powI p x.toNat) | y => y) : V → V) ∘ V.int) := by
          unfold ordsM
          rw [List.map_map]
          rfl
        rw [this]
        exact SqT.of upd_same
      have e6 := Ext.trans e5 (Ext.new (o := .tup (ns.map (((fun v => match v with | .int x => .int (powI p x.toNat) | y => y) : V → V) ∘ V.int))) hl0)
      generalize upd H5 l (.tup (ns.map (((fun v => match v with | .int x => .int (powI p x.toNat) | y => y) : V → V) ∘ V.int))) = H6 at eo e6 ⊢
      have hq6 := hq4.ext e6
      have w6 := e6 _ _ w4
      walk_at "rd"
      refine ⟨g, G, dx, _, rfl, w6, Gl.cl, Gl.nO, (by show 2 < 1000; omega), ?_⟩
      have w7 : upd H6 g (.ins G dx (putF "_orders" (.ref l) [(("_prime" : Str), .int p), (("_kind" : Str), .ref q)])) g = some (.ins G dx [(("_prime" : Str), .int p), (("_kind" : Str), .ref q), (("_orders" : Str), .ref l)]) := upd_same
      have hq7 : KindAt K C (upd H6 g (.ins G dx (putF "_orders" (.ref l) [(("_prime" : Str), .int p), (("_kind" : Str), .ref q)]))) q n t m ns := hq6.but w6 (fun _ _ z => by cases z) ExtBut.up
      have ho7 : SqT K (upd H6 g (.ins G dx (putF "_orders" (.ref l) [(("_prime" : Str), .int p), (("_kind" : Str), .ref q)]))) l ((ordsM p ns).map V.int) := sqT_ins w6 ExtBut.up eo
      have e7 : ExtBut g H (upd H6 g (.ins G dx (putF "_orders" (.ref l) [(("_prime" : Str), .int p), (("_kind" : Str), .ref q)]))) := ExtBut.trans e3 (ExtBut.trans (ExtBut.of (Ext.trans e4 e6)) ExtBut.up)
      generalize upd H6 g (.ins G dx (putF "_orders" (.ref l) [(("_prime" : Str), .int p), (("_kind" : Str), .ref q)])) = H7 at w7 hq7 ho7 e7 ⊢
      walk_at "rd"
      obtain ⟨dy7, hqi7⟩ := id hq7.ins
      refine ⟨q, dy7, _, rfl, hqi7, q, n, t, m, ns, rfl, hq7, fun H8 e8 => ?_⟩
      walk_at "rd"
      refine ⟨by show 2 ≤ sizeLine; decide, fun z hz0 => ?_⟩
      have e9 := Ext.trans e8 (Ext.new (o := HO.tup [V.int p, V.ref n]) hz0)
      have hz9 : SqT K (upd H8 z (HO.tup [V.int p, V.ref n])) z [V.int p, V.ref n] := SqT.of upd_same
      generalize upd H8 z (HO.tup [V.int p, V.ref n]) = H9 at e9 hz9 ⊢
      have w9 := e9 _ _ w7
      walk_at "rd"
      refine ⟨g, G, dx, _, rfl, w9, Gl.cl, Gl.nL, (by show 3 < 1000; omega), ?_⟩
      refine k _ (ExtBut.trans e7 (ExtBut.trans (ExtBut.of e9) ExtBut.up)) ⟨⟨dx, q, l, z, n, t, m, upd_same, (hq7.ext e9).but w9 (fun _ _ z => by cases z) ExtBut.up, sqT_ins w9 ExtBut.up (sqT_ext e9 ho7), sqT_ins w9 ExtBut.up hz9⟩, hp, hq.fall, hz⟩
end
end Q0

set_option Elab.async false
set_option linter.all false
set_option maxRecDepth 100000
set_option maxHeartbeats 4000000
/-! Groups: properties, elements. -/
namespace Q0
open PySem PySem.Spec PyProof.Rows L2 Gd
local macro_rules | `(tactic| walk_at "rd1") => `(tactic| first | with_reducible refine g_ret ?_ | with_reducible refine g_retN ?_ | with_reducible refine g_seq ?_ | with_reducible refine g_next ?_ | with_reducible refine g_drop ?_ | with_reducible refine g_asg ?_ | with_reducible refine g_name ?_ | with_reducible refine g_ifs ?_ | with_reducible refine g_test ?_ | with_reducible refine g_tb ?_ | with_reducible refine g_and ?_ | with_reducible refine g_or ?_ | with_reducible refine g_not ?_ | with_reducible refine g_andV ?_ | with_reducible refine g_orV ?_ | with_reducible refine g_notV ?_ | with_reducible refine g_if ?_ | with_reducible refine g_op ?_ | with_reducible refine g_un ?_ | with_reducible refine g_cb ?_ | with_reducible refine g_nil ?_ | with_reducible refine g_cons ?_ | with_reducible refine g_call ?_ | with_reducible refine g_callS ?_ | with_reducible refine g_tup ?_ | with_reducible refine g_lst ?_ | with_reducible refine g_isN ?_ | with_reducible refine g_sl ?_ | with_reducible refine g_nopart ?_ | with_reducible refine g_part ?_ | with_reducible refine g_chain ?_ | with_reducible refine g_fld ?_ | with_reducible refine g_prop ?_ | with_reducible refine g_bm ?_ | with_reducible refine g_bm0 ?_ | with_reducible refine g_c ?_ | with_reducible refine g_sub ?_ | with_reducible refine g_int1 ?_ | with_reducible refine g_int2 ?_ | with_reducible refine g_yes ?_ | with_reducible refine g_sfld ?_ | with_reducible refine g_NT ?_ | with_reducible refine g_NF ?_ | with_reducible refine iteT ?_ | with_reducible refine iteF ?_ | ((with_reducible refine' g_aug ?hv ?_); (case hv => exact rfl)) | ((with_reducible refine' g_var ?hv ?_); (case hv => exact rfl)) | with_reducible refine g_I0 ?_ | with_reducible refine g_U ?_ | with_reducible refine g_eqI ?_ | with_reducible refine g_blV ?_ | with_reducible refine g_inV ?_)
local macro_rules | `(tactic| walk_at "rd") => `(tactic| repeat walk_at "rd1")
/-- an element of the group of ns at p -/
structure InG (p : Int) (ns xs : List Int) : Prop where
  len : xs.length = ns.length
  bd : ∀ q ∈ xs.zip ns, 0 ≤ q.1 ∧ q.1 < powI p q.2.toNat
theorem lookG1 {a b c d : V} : ([(("_prime" : Str), a), (("_kind" : Str), b), (("_orders" : Str), c), (("_place" : Str), d)] : List (Str × V)).lookup ("_prime" : Str) = some a := by simp [List.lookup]
theorem lookG2 {a b c d : V} : ([(("_prime" : Str), a), (("_kind" : Str), b), (("_orders" : Str), c), (("_place" : Str), d)] : List (Str × V)).lookup ("_kind" : Str) = some b := by
  have e1 : (("_kind" : Str) == ("_prime" : Str)) = false := by decide
  simp [List.lookup, e1]
theorem lookG3 {a b c d : V} : ([(("_prime" : Str), a), (("_kind" : Str), b), (("_orders" : Str), c), (("_place" : Str), d)] : List (Str × V)).lookup ("_orders" : Str) = some c := by
  have e1 : (("_orders" : Str) == ("_prime" : Str)) = false := by decide
  have e2 : (("_orders" : Str) == ("_kind" : Str)) = false := by decide
  simp [List.lookup, e1, e2]
section
variable {P : Program} {w : World} {K : PySem.W.Frag} {mg : Str → Option Value} {base : Heap} {f C G tP : Addr} {fd : FuncData}
theorem scGPr : FnScope ["self"] ["self"] (defScope (gcl 1)) := ⟨rfl, rfl, rfl, by decide +kernel, rfl, by decide +kernel, by decide +kernel⟩
def spGPr (K : PySem.W.Frag) (C G : Addr) : Sp := fun vs H Q _ => ∃ (g : Addr) (p : Int) (ns : List Int), vs = [.ref g] ∧ GrpAt K C G H g p ns ∧ Q (.int p) H
theorem ok_gprime (F : Fun K "prime" "Group.prime" (gcl 1) f fd) (Gl : GC K mg G tP) : FnOk P w K mg base CX0 1 f fd ["self"] (spGPr K C G) := by
  refine F.ok scGPr (fun vs H Q E h => ?_) (fun cdv A outer s H vs Q E hr h => ?_)
  · obtain ⟨g, p, ns, rfl, _⟩ := h
    rfl
  · obtain ⟨g, p, ns, rfl, hg, k⟩ := h
    obtain ⟨dx, q, o, l, n, t, m, h1, h2, h3, h4⟩ := id hg.ins
    refine ⟨_, pss_one (ps_ret (pe_fld (pv 0) rfl)), ?_⟩
    walk_at "rd"
    exact ⟨g, G, dx, _, _, rfl, h1, Gl.cl, Gl.nP, lookG1, k⟩
theorem scGKi : FnScope ["self"] ["self"] (defScope (gcl 2)) := ⟨rfl, rfl, rfl, by decide +kernel, rfl, by decide +kernel, by decide +kernel⟩
def spGKi (K : PySem.W.Frag) (C G : Addr) : Sp := fun vs H Q _ => ∃ (g : Addr) (p : Int) (ns : List Int), vs = [.ref g] ∧ GrpAt K C G H g p ns ∧ ∀ q n t m, KindAt K C H q n t m ns → Q (.ref q) H
theorem ok_gkind (F : Fun K "kind" "Group.kind" (gcl 2) f fd) (Gl : GC K mg G tP) : FnOk P w K mg base CX0 1 f fd ["self"] (spGKi K C G) := by
  refine F.ok scGKi (fun vs H Q E h => ?_) (fun cdv A outer s H vs Q E hr h => ?_)
  · obtain ⟨g, p, ns, rfl, _⟩ := h
    rfl
  · obtain ⟨g, p, ns, rfl, hg, k⟩ := h
    obtain ⟨dx, q, o, l, n, t, m, h1, h2, h3, h4⟩ := id hg.ins
    refine ⟨_, pss_one (ps_ret (pe_fld (pv 0) rfl)), ?_⟩
    walk_at "rd"
    exact ⟨g, G, dx, _, _, rfl, h1, Gl.cl, Gl.nK, lookG2, k q n t m h2⟩
theorem scGZe : FnScope ["self"] ["self"] (defScope (gcl 4)) := ⟨rfl, rfl, rfl, by decide +kernel, rfl, by decide +kernel, by decide +kernel⟩
def spGZe (K : PySem.W.Frag) (C G : Addr) : Sp := fun vs H Q _ => ∃ (g : Addr) (p : Int) (ns : List Int), vs = [.ref g] ∧ GrpAt K C G H g p ns ∧ ∀ H' u, Ext H H' → SqT K H' u ((List.replicate ns.length (0 : Int)).map V.int) → Q (.ref u) H'
theorem ok_gzero (F : Fun K "zero" "Group.zero" (gcl 4) f fd) (T : Txt K mg) (Gl : GC K mg G tP) : FnOk P w K mg base CX0 1 f fd ["self"] (spGZe K C G) := by
  refine F.ok scGZe (fun vs H Q E h => ?_) (fun cdv A outer s H vs Q E hr h => ?_)
  · obtain ⟨g, p, ns, rfl, _⟩ := h
    rfl
  · obtain ⟨g, p, ns, rfl, hg, k⟩ := h
    obtain ⟨dx, q, o, l, n, t, m, h1, h2, h3, h4⟩ := id hg.ins
    refine ⟨_, pss_one (ps_ret (pe_op op_repB (pe_tup (pa_cons pe_int pa_nil)) (pe_callB call_len_seq (by rfl) T.len PySem.boot_len (pa_cons (pe_fld (pv 0) rfl) pa_nil)))), ?_⟩
    walk_at "rd"
    refine ⟨by show 1 ≤ sizeLine; decide, fun z hz => ?_⟩
    have e := Ext.new (o := HO.tup [V.int 0]) hz
    walk_at "rd"
    refine ⟨g, G, dx, _, _, rfl, e _ _ h1, Gl.cl, Gl.nO, lookG3, ?_⟩
    walk_at "rd"
    refine ⟨o, _, rfl, .inr (sqT_ext e h3), ?_⟩
    have el : ((ordsM p ns).map V.int).length = ns.length := by
      unfold ordsM
      rw [List.length_map, List.length_map]
    have h12 := hg.fall.len
    rw [el]
    refine ⟨z, (ns.length : Int), [.int 0], rfl, rfl, SqT.of upd_same, by simp, by omega, by omega, by decide, fun h1 => k _ z e ?_, fun h1 u hu => k _ u (Ext.trans e (Ext.new hu)) ?_⟩
    · have : ns.length = 1 := by omega
      rw [this]
      exact SqT.of upd_same
    · have : (List.replicate ns.length (0 : Int)).map V.int = (List.replicate ((ns.length : Int)).toNat [V.int 0]).flatten := by
        rw [Int.toNat_natCast, List.map_replicate]
        generalize ns.length = r
        induction r with
        | zero => rfl
        | succ r ih =>
          rw [List.replicate_succ, List.replicate_succ, List.flatten_cons, ← ih]
          rfl
      rw [this]
      exact SqT.of upd_same
theorem scGCo : FnScope ["self", "value"] ["self", "value"] (defScope (gcl 13)) := ⟨rfl, rfl, rfl, by decide +kernel, rfl, by decide +kernel, by decide +kernel⟩
/-- value in group, of an element -/
def spGCo (K : PySem.W.Frag) (C G : Addr) : Sp := fun vs H Q _ => ∃ (g b : Addr) (p : Int) (ns xs : List Int), vs = [.ref g, .ref b] ∧ GrpAt K C G H g p ns ∧ SqT K H b (xs.map V.int) ∧ InG p ns xs ∧ ∀ H', Ext H H' → Q (.bl true) H'
theorem ok_gcont (F : Fun K "__contains__" "Group.__contains__" (gcl 13) f fd) (Gl : GC K mg G tP) (Ie : Def1 P w K mg base CX0 2 "is_entries" ["orders", "value"] (spIsEntries K)) : FnOk P w K mg base CX0 3 f fd ["self", "value"] (spGCo K C G) := by
  refine F.ok scGCo (fun vs H Q E h => ?_) (fun cdv A outer s H vs Q E hr h => ?_)
  · obtain ⟨g, b, p, ns, xs, rfl, _⟩ := h
    rfl
  · obtain ⟨g, b, p, ns, xs, rfl, hg, hb, hx, k⟩ := h
    obtain ⟨dx, q, o, l, n, t, m, h1, h2, h3, h4⟩ := id hg.ins
    refine ⟨_, pss_one (ps_ret (pe_def Ie hr (by decide) (by rfl) (pa_cons (pe_fld (pv 0) rfl) (pa_cons (pv 1) pa_nil)))), ?_⟩
    walk_at "rd"
    refine ⟨g, G, dx, _, _, rfl, h1, Gl.cl, Gl.nO, lookG3, ?_⟩
    walk_at "rd"
    have hl := hg.fall.len
    refine ⟨o, b, _, xs, rfl, h3, hb, by unfold ordsM; rw [List.length_map]; exact hx.len, by rw [hx.len]; omega, fun y hy => ?_, k⟩
    unfold ordsM at hy
    rw [List.zip_map_right] at hy
    obtain ⟨z, hz, rfl⟩ := List.mem_map.mp hy
    exact hx.bd z hz
theorem op_notIn1 {X : Cx} {C : Addr} {j k : Nat} {ps : List Str} {sp : Sp} (D : Met1 X.prog X.w X.K X.mg X.base CX0 k C "__contains__" ps sp) (hr : Room j X.A) (hj : k + 1 ≤ j) : OpR X (compareOp .NotIn) (rContO C true sp X0) := by
  obtain ⟨f, fd, M, _, F, hb⟩ := D.ex
  exact op_notInO M F (hr.mono hj) hb (fun _ => quiet0)
abbrev sReqElem : Stmt := top 40
theorem scReqElem : FnScope ["group", "value"] ["group", "value"] (defScope sReqElem) := ⟨rfl, rfl, rfl, by decide +kernel, rfl, by decide +kernel, by decide +kernel⟩
def spReqElem (K : PySem.W.Frag) (C G : Addr) : Sp := fun vs H Q _ => ∃ (g b : Addr) (p : Int) (ns xs : List Int), vs = [.ref g, .ref b] ∧ GrpAt K C G H g p ns ∧ SqT K H b (xs.map V.int) ∧ InG p ns xs ∧ ∀ H', Ext H H' → Q .non H'
theorem ok_reqElem (F : Fun K "require_element" "require_element" sReqElem f fd) (Co : Met1 P w K mg base CX0 3 G "__contains__" ["self", "value"] (spGCo K C G)) : FnOk P w K mg base CX0 5 f fd ["group", "value"] (spReqElem K C G) := by
  refine F.ok scReqElem (fun vs H Q E h => ?_) (fun cdv A outer s H vs Q E hr h => ?_)
  · obtain ⟨g, b, p, ns, xs, rfl, _⟩ := h
    rfl
  · obtain ⟨g, b, p, ns, xs, rfl, hg, hb, hx, k⟩ := h
    obtain ⟨dx, q, o, l, n, t, m, h1, h2, h3, h4⟩ := id hg.ins
    refine ⟨_, PSs.nox (pss_one (ps_if (pt_cmpR (op_notIn1 Co hr (by decide)) (pv 1) (pv 0) (by rfl)) (pss_one ps_never) pss_nil)), ?_⟩
    walk_at "rd"
    refine ⟨g, dx, _, rfl, h1, g, b, p, ns, xs, rfl, hg, hb, hx, fun H1 e1 => ⟨true, rfl, ?_⟩⟩
    exact ⟨false, rfl, iteF (k H1 e1)⟩
end
end Q0

set_option Elab.async false
set_option linter.all false
set_option maxRecDepth 100000
set_option maxHeartbeats 4000000
/-! Comprehensions of two clauses. -/
namespace Q0
open PySem PySem.Spec PyProof.Rows L2 Gd
local macro_rules | `(tactic| walk_at "rd1") => `(tactic| first | with_reducible refine g_ret ?_ | with_reducible refine g_retN ?_ | with_reducible refine g_seq ?_ | with_reducible refine g_next ?_ | with_reducible refine g_drop ?_ | with_reducible refine g_asg ?_ | with_reducible refine g_name ?_ | with_reducible refine g_ifs ?_ | with_reducible refine g_test ?_ | with_reducible refine g_tb ?_ | with_reducible refine g_and ?_ | with_reducible refine g_or ?_ | with_reducible refine g_not ?_ | with_reducible refine g_andV ?_ | with_reducible refine g_orV ?_ | with_reducible refine g_notV ?_ | with_reducible refine g_if ?_ | with_reducible refine g_op ?_ | with_reducible refine g_un ?_ | with_reducible refine g_cb ?_ | with_reducible refine g_nil ?_ | with_reducible refine g_cons ?_ | with_reducible refine g_call ?_ | with_reducible refine g_callS ?_ | with_reducible refine g_tup ?_ | with_reducible refine g_lst ?_ | with_reducible refine g_isN ?_ | with_reducible refine g_sl ?_ | with_reducible refine g_nopart ?_ | with_reducible refine g_part ?_ | with_reducible refine g_chain ?_ | with_reducible refine g_fld ?_ | with_reducible refine g_prop ?_ | with_reducible refine g_bm ?_ | with_reducible refine g_bm0 ?_ | with_reducible refine g_c ?_ | with_reducible refine g_sub ?_ | with_reducible refine g_int1 ?_ | with_reducible refine g_int2 ?_ | with_reducible refine g_yes ?_ | with_reducible refine g_sfld ?_ | with_reducible refine g_NT ?_ | with_reducible refine g_NF ?_ | with_reducible refine iteT ?_ | with_reducible refine iteF ?_ | ((with_reducible refine' g_aug ?hv ?_); (case hv => exact rfl)) | ((with_reducible refine' g_var ?hv ?_); (case hv => exact rfl)) | with_reducible refine g_I0 ?_ | with_reducible refine g_U ?_ | with_reducible refine g_eqI ?_ | with_reducible refine g_blV ?_ | with_reducible refine g_inV ?_)
local macro_rules | `(tactic| walk_at "rd") => `(tactic| repeat walk_at "rd1")
/-- what two clauses ask, told of their turns -/
def Lc2G (J : It) (g : TG) (tt : TT) (wi1 : TI) (g1 : TG) (tt1 : TT) (te : TE) (vs vs1 : List Nat) (σ : L2.St) (H1 : Hp) (Q : VK) : Prop := ∀ D, H1 D = none → ∃ W : Nat → Nat → Hp → Prop, (∃ m, W 0 m (upd H1 D (.lst []))) ∧ ∀ i m H, W i m H →
  (J.stop i H ∧ Q (.ref D) H) ∨ (J.go i H ∧ ∃ Nx : Hp → Prop, (∀ H', Nx H' → ∃ m', m' < m ∧ W (i + 1) m' H') ∧ ∀ x H', J.yld i H x H' → g x (wipe σ vs) H' fun σ2 H2 => wipe σ2 vs = wipe σ vs ∧ tt σ2 H2 fun b H3 =>
    if b = true then wi1 σ2 H3 fun J1 H4 => ∃ W1 : Nat → Nat → Hp → Prop, (∃ m, W1 0 m H4) ∧ ∀ j k H, W1 j k H →
      (J1.stop j H ∧ Nx H) ∨ (J1.go j H ∧ ∃ Nx1 : Hp → Prop, (∀ H', Nx1 H' → ∃ k', k' < k ∧ W1 (j + 1) k' H') ∧ ∀ x H', J1.yld j H x H' → g1 x (wipe σ2 vs1) H' fun σ3 H5 => wipe σ3 vs1 = wipe σ2 vs1 ∧ tt1 σ3 H5 fun b H6 =>
        if b = true then te σ3 H6 fun y H7 => ∃ acc, H7 D = some (.lst acc) ∧ acc.length < sizeLine ∧ Nx1 (upd H7 D (.lst (acc ++ [y]))) else Nx1 H6)
    else Nx H3)
theorem g_lc2 {wi wi1 : TI} {g g1 : TG} {tt tt1 : TT} {te : TE} {vs vs1 : List Nat} {σ : L2.St} {H : Hp} {Q : VK} (k : wi σ H fun J H1 => Lc2G J g tt wi1 g1 tt1 te vs vs1 σ H1 Q) : tLc2 wi g tt wi1 g1 tt1 te vs vs1 σ H Q := k

/-- what is no list stays -/
def KeepsN (H H' : Hp) : Prop := ∀ b o, (∀ xs, o ≠ .lst xs) → H b = some o → H' b = some o
/-- a list walked, in each turn a range of one length: results that stand in a relation to both turns -/
theorem lc2LR {K : PySem.W.Frag} {σ : L2.St} {H1 : Hp} {Q : VK} {vs vs1 : List Nat} {i1 i2 : Nat} {a : Addr} {xs : List V} {n : Nat} {wi1 : TI} {te : TE} (hs : SqL K H1 a xs) (sz : xs.length * n < sizeLine) (R : Nat → Nat → V → Hp → Prop) (mono : ∀ i j y H H', KeepsN H H' → R i j y H → R i j y H')
    (h1 : ∀ v, wipe ((wipe σ vs).set i1 (some v)) vs = wipe σ vs)
    (h2 : ∀ v u, wipe ((wipe ((wipe σ vs).set i1 (some v)) vs1).set i2 (some u)) vs1 = wipe ((wipe σ vs).set i1 (some v)) vs1)
    (hw : ∀ (i : Nat) x H', xs[i]? = some x → Ext H1 H' → ∀ R : It → Hp → Prop, R (Itr 0 n) H' → wi1 ((wipe σ vs).set i1 (some x)) H' R)
    (body : ∀ (i j : Nat) x H', xs[i]? = some x → j < n → Ext H1 H' → ∀ Qe : VK, (∀ y H3, Ext H' H3 → R i j y H3 → Qe y H3) → te ((wipe ((wipe σ vs).set i1 (some x)) vs1).set i2 (some (.int (j : Int)))) H' Qe)
    (k : ∀ H' D ys, Ext H1 H' → H1 D = none → H' D = some (.lst ys) → ys.length = xs.length * n → (∀ i j y, j < n → ys[i * n + j]? = some y → R i j y H') → Q (.ref D) H') :
    ∃ a', V.ref a = .ref a' ∧ (∃ xs, SqL K H1 a' xs) ∧ Lc2G (Itl K a') (gName i1) tYes wi1 (gName i2) tYes te vs vs1 σ H1 Q := by
  refine ⟨a, rfl, ⟨_, hs⟩, ?_⟩
  unfold Lc2G
  intro D hD
  have put : ∀ {H : Hp} {zs : List V}, Ext H1 H → Ext H1 (upd H D (.lst zs)) := fun {H zs} e b o q => by
    rw [upd_ne (ne_of_none q hD)]
    exact e b o q
  have kup : ∀ {H : Hp} {ys zs : List V}, H D = some (.lst ys) → KeepsN H (upd H D (.lst zs)) := fun {H ys zs} h b o no q => by
    rw [upd_ne (fun z => by rw [z, h] at q; cases q; exact no _ rfl)]
    exact q
  have kE : ∀ {H H' : Hp}, Ext H H' → KeepsN H H' := fun e b o _ q => e b o q
  refine ⟨fun i m H => m = xs.length - i ∧ i ≤ xs.length ∧ Ext H1 H ∧ ∃ ys, H D = some (.lst ys) ∧ ys.length = i * n ∧ ∀ i' j y, j < n → ys[i' * n + j]? = some y → R i' j y H, ⟨xs.length, rfl, Nat.zero_le _, put fun _ _ z => z, [], upd_same, by simp, fun i' j y hj q => by cases q⟩, fun i m H hW => ?_⟩
  obtain ⟨rfl, hi, e, ys, hd, hl, hR⟩ := hW
  by_cases hin : i < xs.length
  · have hx : xs[i]? = some xs[i] := List.getElem?_eq_getElem hin
    refine .inr ⟨⟨xs, xs[i], sqL_ext e hs, hx⟩, fun H' => Ext H1 H' ∧ ∃ ys, H' D = some (.lst ys) ∧ ys.length = (i + 1) * n ∧ ∀ i' j y, j < n → ys[i' * n + j]? = some y → R i' j y H', fun H' q => ⟨xs.length - (i + 1), by omega, rfl, by omega, q.1, q.2⟩, fun x H' hy => ?_⟩
    obtain ⟨eH, hy⟩ := hy
    subst eH
    have ex : x = xs[i] := by
      have := hy xs (sqL_ext e hs)
      rw [hx] at this
      exact (Option.some.inj this).symm
    subst ex
    refine ⟨h1 _, g_yes (iteT ?_)⟩
    refine hw i _ _ hx e _ ?_
    refine ⟨fun j k' H' => k' = n - j ∧ j ≤ n ∧ Ext H1 H' ∧ ∃ zs, H' D = some (.lst zs) ∧ zs.length = i * n + j ∧ ∀ i' j' y, j' < n → zs[i' * n + j']? = some y → R i' j' y H', ⟨n, rfl, Nat.zero_le _, e, ys, hd, by omega, hR⟩, fun j k' H2 hW1 => ?_⟩
    obtain ⟨rfl, hj, e2, zs, hd2, hl2, hR2⟩ := hW1
    by_cases hjn : j < n
    · refine .inr ⟨hjn, fun H' => Ext H1 H' ∧ ∃ zs, H' D = some (.lst zs) ∧ zs.length = i * n + (j + 1) ∧ ∀ i' j' y, j' < n → zs[i' * n + j']? = some y → R i' j' y H', fun H' q => ⟨n - (j + 1), by omega, rfl, by omega, q.1, q.2⟩, fun x H' hy => ?_⟩
      obtain ⟨rfl, rfl⟩ := hy
      refine ⟨h2 _ _, g_yes (iteT ?_)⟩
      rw [Int.zero_add]
      refine body i j _ _ hx hjn e2 _ fun y H3 e3 hr => ?_
      have hsz : i * n + (j + 1) ≤ xs.length * n := by
        have : i * n + n ≤ xs.length * n := by
          rw [← Nat.succ_mul]
          exact Nat.mul_le_mul_right n hin
        omega
      refine ⟨zs, e3 _ _ hd2, by omega, put (Ext.trans e2 e3), zs ++ [y], upd_same, by rw [List.length_append, List.length_singleton]; omega, fun i' j' y' hj' q => ?_⟩
      have k3 := kup (zs := zs ++ [y]) (e3 _ _ hd2)
      by_cases hlt : i' * n + j' < zs.length
      · rw [List.getElem?_append_left hlt] at q
        exact mono _ _ _ _ _ k3 (mono _ _ _ _ _ (kE e3) (hR2 i' j' y' hj' q))
      · rw [List.getElem?_append_right (by omega)] at q
        have h0 : i' * n + j' - zs.length = 0 := by
          by_cases z : i' * n + j' - zs.length = 0
          · exact z
          · rw [List.getElem?_eq_none (by rw [List.length_singleton]; omega)] at q
            cases q
        rw [h0] at q
        cases q
        have hij : i' * n + j' = i * n + j := by omega
        have ei : i' = i := by
          have a1 : (i' * n + j') / n = i' := by rw [Nat.mul_comm, Nat.mul_add_div (by omega), Nat.div_eq_of_lt hj']; omega
          have a2 : (i * n + j) / n = i := by rw [Nat.mul_comm, Nat.mul_add_div (by omega), Nat.div_eq_of_lt hjn]; omega
          rw [← a1, hij, a2]
        subst ei
        have ej : j' = j := by omega
        subst ej
        exact mono _ _ _ _ _ k3 hr
    · refine .inl ⟨Nat.le_of_not_lt hjn, e2, zs, hd2, ?_, hR2⟩
      rw [hl2, Nat.succ_mul]
      omega
  · have ei : i = xs.length := by omega
    subst ei
    exact .inl ⟨⟨xs, sqL_ext e hs, Nat.le_refl _⟩, k H D ys e hD hd hl hR⟩
end Q0

set_option Elab.async false
set_option linter.all false
set_option maxRecDepth 100000
set_option maxHeartbeats 4000000
/-! All kinds of a size, as the law lists them. -/
namespace Q0
open PySem PySem.Spec PyProof.Rows L2 Gd
local macro_rules | `(tactic| walk_at "rd1") => `(tactic| first | with_reducible refine g_ret ?_ | with_reducible refine g_retN ?_ | with_reducible refine g_seq ?_ | with_reducible refine g_next ?_ | with_reducible refine g_drop ?_ | with_reducible refine g_asg ?_ | with_reducible refine g_name ?_ | with_reducible refine g_ifs ?_ | with_reducible refine g_test ?_ | with_reducible refine g_tb ?_ | with_reducible refine g_and ?_ | with_reducible refine g_or ?_ | with_reducible refine g_not ?_ | with_reducible refine g_andV ?_ | with_reducible refine g_orV ?_ | with_reducible refine g_notV ?_ | with_reducible refine g_if ?_ | with_reducible refine g_op ?_ | with_reducible refine g_un ?_ | with_reducible refine g_cb ?_ | with_reducible refine g_nil ?_ | with_reducible refine g_cons ?_ | with_reducible refine g_call ?_ | with_reducible refine g_callS ?_ | with_reducible refine g_tup ?_ | with_reducible refine g_lst ?_ | with_reducible refine g_isN ?_ | with_reducible refine g_sl ?_ | with_reducible refine g_nopart ?_ | with_reducible refine g_part ?_ | with_reducible refine g_chain ?_ | with_reducible refine g_fld ?_ | with_reducible refine g_prop ?_ | with_reducible refine g_bm ?_ | with_reducible refine g_bm0 ?_ | with_reducible refine g_c ?_ | with_reducible refine g_sub ?_ | with_reducible refine g_int1 ?_ | with_reducible refine g_int2 ?_ | with_reducible refine g_yes ?_ | with_reducible refine g_sfld ?_ | with_reducible refine g_NT ?_ | with_reducible refine g_NF ?_ | with_reducible refine iteT ?_ | with_reducible refine iteF ?_ | ((with_reducible refine' g_aug ?hv ?_); (case hv => exact rfl)) | ((with_reducible refine' g_var ?hv ?_); (case hv => exact rfl)) | with_reducible refine g_I0 ?_ | with_reducible refine g_U ?_ | with_reducible refine g_eqI ?_ | with_reducible refine g_blV ?_ | with_reducible refine g_inV ?_)
local macro_rules | `(tactic| walk_at "rd") => `(tactic| repeat walk_at "rd1")
theorem geo2 (l : Nat) : ∀ n : Nat, n ≤ l → ((List.range n).map fun i => 2 ^ (l - (i + 1))).sum + 2 ^ (l - n) ≤ 2 ^ l
  | 0, _ => by simp
  | n + 1, h => by
    have ih := geo2 l n (by omega)
    rw [List.range_succ, List.map_append, List.sum_append]
    have e : 2 ^ (l - n) = 2 ^ (l - (n + 1)) + 2 ^ (l - (n + 1)) := by
      rw [show l - n = (l - (n + 1)) + 1 by omega, Nat.pow_succ]
      omega
    have e2 : ([n].map fun i => 2 ^ (l - (i + 1))).sum = 2 ^ (l - (n + 1)) := by simp
    rw [e2]
    omega
theorem len_pow : ∀ ls : List Nat, ls.length ≤ (ls.map fun l => 2 ^ l).sum
  | [] => Nat.le_refl _
  | l :: r => by
    have := len_pow r
    have := Nat.one_le_two_pow (n := l)
    rw [List.length_cons, List.map_cons, List.sum_cons]
    omega
section
variable {K : PySem.W.Frag} {H H' : Hp} {size : Nat}
/-- a kind of that size, as a tuple -/
def KT (K : PySem.W.Frag) (size : Nat) (H : Hp) (f : V) : Prop := ∃ (a : Addr) (ns : List Int), f = .ref a ∧ TupX K H a (ns.map V.int) ∧ Fall ns ∧ ns.sum = (size : Int)
/-- the beginning of one, with what is left -/
def WT (K : PySem.W.Frag) (size : Nat) (H : Hp) (l : Nat) (v : V) : Prop := ∃ (b a : Addr) (ns : List Int), v = .ref b ∧ H b = some (.tup [.ref a, .int (l : Int)]) ∧ TupX K H a (ns.map V.int) ∧ Fall ns ∧ ns.sum + (l : Int) = (size : Int)
/-- what is no list stays -/
def Keeps (H H' : Hp) : Prop := ∀ b o, (∀ xs, o ≠ .lst xs) → H b = some o → H' b = some o
theorem Keeps.of (e : Ext H H') : Keeps H H' := fun b o _ q => e b o q
theorem Keeps.trans {H2 : Hp} (a : Keeps H H') (b : Keeps H' H2) : Keeps H H2 := fun x o n q => b x o n (a x o n q)
theorem Keeps.up {D : Addr} {xs ys : List V} (h : H D = some (.lst xs)) : Keeps H (upd H D (.lst ys)) := fun b o n q => by
  rw [upd_ne (fun z => by rw [z, h] at q; cases q; exact n _ rfl)]
  exact q
theorem TupX.keeps {a : Addr} {xs : List V} (e : Keeps H H') (h : TupX K H a xs) : TupX K H' a xs := by
  rcases h with ⟨o, h, d⟩ | h
  · exact .inl ⟨o, e _ _ (fun _ z => by cases z) h, d⟩
  · exact .inr h
theorem KT.keeps {f : V} (e : Keeps H H') (h : KT K size H f) : KT K size H' f := by
  obtain ⟨a, ns, rfl, ht, r⟩ := h
  exact ⟨a, ns, rfl, TupX.keeps e ht, r⟩
theorem WT.keeps {l : Nat} {v : V} (e : Keeps H H') (h : WT K size H l v) : WT K size H' l v := by
  obtain ⟨b, a, ns, rfl, hb, ht, r⟩ := h
  exact ⟨b, a, ns, rfl, e _ _ (fun _ z => by cases z) hb, TupX.keeps e ht, r⟩
theorem keeps_but {D : Addr} {ys : List V} (hd : H D = none ∨ H D = some (.lst ys)) (e : ExtBut D H H') : Keeps H H' := fun b o n q => e b o (fun z => by
  rw [z] at q
  rcases hd with hd | hd
  · rw [hd] at q
    cases q
  · rw [hd] at q
    cases q
    exact n _ rfl) q
theorem fall_snoc {ns : List Int} {k : Int} (h : Fall ns) (k1 : 1 ≤ k) (hs : ns.sum + k ≤ 12) (hl : ns ≠ [] → k ≤ ns.getD (ns.length - 1) 0) : Fall (ns ++ [k]) := by
  have e : [k].sum = k := by simp
  refine ⟨fun x hx => (List.mem_append.mp hx).elim (h.pos x) fun q => by rw [List.mem_singleton.mp q]; exact k1, by rw [List.sum_append, e]; exact hs, fun i hi => ?_⟩
  rw [List.length_append, List.length_singleton] at hi
  by_cases hin : i + 1 < ns.length
  · have := h.desc i hin
    rw [List.getD_eq_getElem?_getD, List.getD_eq_getElem?_getD, List.getElem?_append_left hin, List.getElem?_append_left (by omega), ← List.getD_eq_getElem?_getD, ← List.getD_eq_getElem?_getD]
    exact this
  · have en : i + 1 = ns.length := by omega
    have hne : ns ≠ [] := fun z => by rw [z] at en; simp at en
    have := hl hne
    rw [List.getD_eq_getElem?_getD, List.getD_eq_getElem?_getD, List.getElem?_append_right (by omega), List.getElem?_append_left (by omega), ← List.getD_eq_getElem?_getD (l := ns), en, Nat.sub_self]
    rw [show ns.length - 1 = i by omega] at this
    exact this
/-- a comprehension over numbers whose results stand in a relation to the turn -/
theorem lcRR {σ : L2.St} {H1 : Hp} {vs : List Nat} {g : TG} {tt : TT} {te : TE} {Q : VK} {lo : Int} {n : Nat} (sz : n < sizeLine) (R : Nat → V → Hp → Prop) (mono : ∀ i y H H', Keeps H H' → R i y H → R i y H')
    (body : ∀ (i : Nat) H', i < n → Ext H1 H' → ∀ (Qe : VK) (Qn : Hp → Prop), (∀ y H3, Ext H' H3 → R i y H3 → Qe y H3) →
      g (.int (lo + i)) (wipe σ vs) H' fun σ2 H2 => wipe σ2 vs = wipe σ vs ∧ tt σ2 H2 fun b H3 => if b = true then te σ2 H3 Qe else Qn H3)
    (k : ∀ H' D ys, Ext H1 H' → H1 D = none → H' D = some (.lst ys) → ys.length = n → (∀ i y, ys[i]? = some y → R i y H') → Q (.ref D) H') : LcG (Itr lo n) g tt te vs σ H1 Q := by
  refine fun D hD => lc_rel walk_range R (fun _ => true) (fun i y D ys H H' hd e r => mono i y H H' (keeps_but hd e) r) hD (fun H' e => True.intro) sz (fun i x H' H'' hi e hy Qe Qn he hn => ?_) (fun H' ys e hd hr => ?_)
  · obtain ⟨rfl, rfl⟩ := hy
    exact body i _ hi e Qe Qn fun y H3 e3 r => he y H3 e3 r rfl
  · rw [idx_all] at hr
    have hl := hr.1
    rw [List.length_range] at hl
    refine k H' D ys e hD hd hl.symm fun i y hy => hr.2 i i y ?_ hy
    rw [List.getElem?_range (by have := (List.getElem?_eq_some_iff.mp hy).1; omega)]
end
section
variable {P : Program} {w : World} {K : PySem.W.Frag} {mg : Str → Option Value} {base : Heap} {f : Addr} {fd : FuncData}
abbrev sKinds : Stmt := top 46
theorem scKinds : FnScope ["_law_size", "_law_found", "_law_waits", "_law_kind_here", "_law_left", "_law_most", "_law_number"] ["_law_size"] (defScope sKinds) := ⟨rfl, rfl, rfl, by decide +kernel, rfl, by decide +kernel, by decide +kernel⟩
def spKinds (K : PySem.W.Frag) : Sp := fun vs H Q _ => ∃ size : Nat, vs = [.int (size : Int)] ∧ size ≤ 12 ∧
  ∀ H' F fs, Ext H H' → H F = none → H' F = some (.lst fs) → fs ≠ [] → fs.length ≤ 4096 → (∀ f ∈ fs, KT K size H' f) → Q (.ref F) H'
def PvK (K : PySem.W.Frag) (size : Nat) (F W : Addr) (H0 : Hp) (m : Nat) : L2.St → Hp → Prop := fun σ H => ∃ (fs : List V) (ps : List (V × Nat)) (x y z : Option V),
  σ = [some (.int (size : Int)), some (.ref F), some (.ref W), x, y, z, none] ∧ m = (ps.map fun p => 2 ^ p.2).sum ∧ H F = some (.lst fs) ∧ H W = some (.lst (ps.map (·.1))) ∧ (∀ f ∈ fs, KT K size H f) ∧ (∀ p ∈ ps, WT K size H p.2 p.1) ∧
  fs.length + (ps.map fun p => 2 ^ p.2).sum ≤ 2 ^ size ∧ (fs ≠ [] ∨ ps ≠ []) ∧ (∀ b o, b ≠ F → b ≠ W → H0 b = some o → H b = some o)
theorem sh_row (ns : List Int) : SeqAt.shaped (.tuple (pdata ns)) = true := by
  have d : ∀ ns : List Int, PyData.depthAll (pdata ns) = 0 := fun ns => by
    induction ns with
    | nil => simp [pdata, PyData.depthAll]
    | cons n r ih =>
      unfold pdata at ih ⊢
      simp [PyData.depthAll, PyData.depth, ih]
  unfold SeqAt.shaped
  simp [PyData.canLay0, play, PyData.depth, d]
theorem g_seqP {i j : Nat} {ta : TA} {D : Ends} {σ : L2.St} {H : Hp} (k : ta σ H fun vs H1 => ∃ v w, vs = [v, w] ∧ D.nx ((σ.set i (some v)).set j (some w)) H1) : tPar i j ta D σ H := k
theorem ok_kinds (F : Fun K "_law_kinds" "_law_kinds" sKinds f fd) (T : Txt K mg) : FnOk P w K mg base CX0 1 f fd ["_law_size"] (spKinds K) := by
  refine F.ok scKinds (fun vs H Q E h => ?_) (fun cdv A outer s H vs Q E hr h => ?_)
  · obtain ⟨size, rfl, _⟩ := h
    rfl
  · obtain ⟨size, rfl, hsz, k⟩ := h
    refine ⟨_, pss_cons (ps_par (i := 1) (j := 2) (by rfl) scKinds.nd rfl rfl (by decide) rfl rfl (pa_cons (pe_lst pa_nil) (pa_cons (pe_lst (pa_cons (pe_tup (pa_cons (pe_tupX pa_nil) (pa_cons (pv 0) pa_nil))) pa_nil)) pa_nil)) (by rfl))
      (pss_cons (ps_while PassesOwn.never (pt_cmpR (op_neNil (Nat.lt_of_le_of_lt (Nat.le_add_right _ _) (lt66 hr))) (pv 2) (pe_lst pa_nil) (nomark _)) (pss_cons (ps_asg (pe_bm0 PySem.F.plainAttrs_list PySem.F.slot_list_pop PySem.F.type_list_pop mt_pop (pv 2)) (pg_tup rfl (pgs_cons (pg_name (i := 3) scKinds.nd rfl (Or.inr rfl)) (pgs_cons (pg_name (i := 4) scKinds.nd rfl (Or.inr rfl)) pgs_nil))))
      (pss_one (ps_if (pt_cmpR op_eq (pv 4) pe_int (nomark _)) (pss_one (ps_expr (pe_bm PySem.F.plainAttrs_list PySem.F.slot_list_append PySem.F.type_list_append mt_append (pv 1) (pa_cons (pv 3) pa_nil)))) (pss_cons (ps_set (i := 5) scKinds.nd rfl (Or.inl rfl) (pe_ifExp (pt_cmpR (op_neD hr.units) (pv 3) (pe_tupX pa_nil) (nomark _)) (pe_callB (call_min2 rfl) (by rfl) T.min (by decide +kernel) (pa_cons (pv 4) (pa_cons (pe_ix ix_tup (pv 3) (pe_un un_neg pe_int) (fun _ _ => rfl)) pa_nil))) (pv 4)))
      (pss_one (ps_expr (pe_bm PySem.F.plainAttrs_list PySem.F.slot_list_extend PySem.F.type_list_extend mt_extend (pv 2) (pa_cons (pe_lc (own := [("_law_number", 6)]) (g := gName 6) (tt := tYes) rfl scKinds.nd (pi_range2 (by rfl) T.range (pa_cons pe_int (pa_cons (pe_op op_add (pv 5) pe_int) pa_nil))) (blkOk_by (N := ["_law_size", "_law_found", "_law_waits", "_law_kind_here", "_law_left", "_law_most", "_law_number"]) (sc := defScope sKinds) (by decide +kernel)) (fun _ _ _ _ _ => pg_name (i := 6) scKinds.nd rfl (Or.inl rfl)) (fun _ _ _ _ _ => pts_nil) (fun _ _ _ _ _ => by exact (pe_tup (pa_cons (pe_op (r := rCatX K) op_catX (pv 3) (pe_tupX (pa_cons (pv 6) pa_nil))) (pa_cons (pe_op op_sub (pv 4) (pv 6)) pa_nil))))) pa_nil)))))))))
      (pss_one (ps_ret (pv 1)))), ?_⟩
    refine g_seqP ?_
    walk_at "rd"
    refine ⟨Nat.zero_le _, fun Fa hFa => ?_⟩
    walk_at "rd"
    refine g_tupX ?_
    walk_at "rd"
    refine ⟨Nat.zero_le _, fun a o ha ho => ?_⟩
    walk_at "rd"
    refine ⟨by show 2 ≤ sizeLine; decide, fun b hb => ?_⟩
    walk_at "rd"
    refine ⟨by show 1 ≤ sizeLine; decide, fun Wa hWa => ?_⟩
    walk_at "rd"
    refine ⟨_, _, rfl, ?_⟩
    have e1 : Ext H (upd H Fa (.lst [])) := Ext.new hFa
    have e2 := Ext.new (o := HO.frz o (.tup [])) ha
    have e3 := Ext.new (o := HO.tup [V.ref a, V.int (size : Int)]) hb
    have e4 := Ext.new (o := HO.lst [V.ref b]) hWa
    have t1 : TupX K (upd (upd H Fa (.lst [])) a (.frz o (.tup []))) a (([] : List Int).map V.int) := TupX.new ho
    have t2 := (t1.ext e3).ext e4
    have b2 := e4 _ _ (upd_same : upd (upd (upd H Fa (.lst [])) a (.frz o (.tup []))) b (HO.tup [V.ref a, V.int (size : Int)]) b = _)
    have f2 := e4 _ _ (e3 _ _ (e2 _ _ (upd_same : upd H Fa (.lst []) Fa = _)))
    have w2 : upd (upd (upd (upd H Fa (.lst [])) a (.frz o (.tup []))) b (HO.tup [V.ref a, V.int (size : Int)])) Wa (HO.lst [V.ref b]) Wa = some (.lst [V.ref b]) := upd_same
    have eall := Ext.trans e1 (Ext.trans e2 (Ext.trans e3 e4))
    have nFW : Fa ≠ Wa := ne_of_none (e3 _ _ (e2 _ _ (upd_same : upd H Fa (.lst []) Fa = _))) hWa
    have hW0 : H Wa = none := new_up (Ext.trans e1 (Ext.trans e2 e3)) hWa
    generalize upd (upd (upd (upd H Fa (.lst [])) a (.frz o (.tup []))) b (HO.tup [V.ref a, V.int (size : Int)])) Wa (HO.lst [V.ref b]) = H1 at t2 b2 f2 w2 eall ⊢
    walk_at "rd"
    refine ⟨PvK K size Fa Wa H, ⟨_, [], [(.ref b, size)], none, none, none, rfl, rfl, f2, w2, nofun, fun p hp => ?_, ?_, .inr (by simp), fun c u _ _ q => eall c u q⟩, ?_⟩
    · rw [List.mem_singleton.mp hp]
      exact ⟨b, a, [], rfl, b2, t2, fall_nil, by simp⟩
    · simp
    rintro m σ1 H2 ⟨fs, ps, x, y, z, rfl, rfl, hF, hW, hf, hw, hs, hne, hk⟩
    walk_at "rd"
    refine ⟨Nat.zero_le _, fun e he => ?_⟩
    walk_at "rd"
    have ee := Ext.new (o := HO.lst []) he
    refine ⟨Wa, e, _, rfl, rfl, SqL.of (ee _ _ hW), SqL.of upd_same, ?_⟩
    have hF3 := ee _ _ hF
    have hW3 := ee _ _ hW
    have hk3 : ∀ c u, c ≠ Fa → c ≠ Wa → H c = some u → upd H2 e (.lst []) c = some u := fun c u n1 n2 q => ee _ _ (hk c u n1 n2 q)
    have hf3 := fun f hf0 => (hf f hf0).keeps (Keeps.of ee)
    have hw3 := fun p hp => (hw p hp).keeps (Keeps.of ee)
    generalize upd H2 e (.lst []) = H3 at hF3 hW3 hk3 hf3 hw3 ⊢
    have hs12 : 2 ^ size ≤ 2 ^ 12 := Nat.pow_le_pow_right (by omega) hsz
    walk_at "rd"
    rcases List.eq_nil_or_concat ps with rfl | ⟨qs, ⟨v, l⟩, rfl⟩
    · refine iteF ?_
      walk_at "rd"
      refine k H3 Fa fs (fun c u q => hk3 c u (ne_of_none q hFa) (ne_of_none q hW0) q) hFa hF3 (hne.resolve_right (fun h => h rfl)) ?_ hf3
      have : (([] : List (V × Nat)).map fun p => 2 ^ p.2).sum = 0 := rfl
      rw [this] at hs
      have : (2 : Nat) ^ 12 = 4096 := by decide
      omega
    have hw0 := hw3 (v, l) (by simp)
    obtain ⟨b, a, ns, hv, hb, ht, hfl, hsum⟩ := hw0
    have hv : v = .ref b := hv
    subst hv
    have hb : H3 b = some (.tup [.ref a, .int (l : Int)]) := hb
    have hsum : ns.sum + (l : Int) = (size : Int) := hsum
    have nem : (!(((qs.concat (V.ref b, l)).map fun x => x.1).isEmpty)) = true := by
      rw [List.concat_eq_append, List.map_append]
      cases qs <;> rfl
    rw [nem]
    refine iteT ?_
    have esum : ((qs.concat (V.ref b, l)).map fun p => 2 ^ p.2).sum = (qs.map fun p => 2 ^ p.2).sum + 2 ^ l := by
      rw [List.concat_eq_append, List.map_append, List.sum_append]
      simp
    rw [esum] at hs ⊢
    have emap : (qs.concat (V.ref b, l)).map (fun x => x.1) = qs.map (fun x => x.1) ++ [.ref b] := by
      rw [List.concat_eq_append, List.map_append]
      rfl
    rw [emap] at hW3
    refine ⟨fun σ' H' => ∃ m', m' < (qs.map fun p => 2 ^ p.2).sum + 2 ^ l ∧ PvK K size Fa Wa H m' σ' H', fun _ _ q => q, ?_⟩
    walk_at "rd"
    refine ⟨.inl ⟨rfl, _, SqL.of hW3⟩, Wa, _, .ref b, rfl, rfl, hW3, by simp, ?_⟩
    rw [List.dropLast_concat]
    have kW := Keeps.up (ys := qs.map (fun x => x.1)) hW3
    have hF4 : upd H3 Wa (.lst (qs.map fun x => x.1)) Fa = some (.lst fs) := by
      rw [upd_ne nFW]
      exact hF3
    have hW4 : upd H3 Wa (.lst (qs.map fun x => x.1)) Wa = some (.lst (qs.map fun x => x.1)) := upd_same
    have hk4 : ∀ c u, c ≠ Fa → c ≠ Wa → H c = some u → upd H3 Wa (.lst (qs.map fun x => x.1)) c = some u := fun c u n1 n2 q => by
      rw [upd_ne n2]
      exact hk3 c u n1 n2 q
    have hf4 := fun f hf0 => (hf3 f hf0).keeps kW
    have hw4 : ∀ p ∈ qs, WT K size (upd H3 Wa (.lst (qs.map fun x => x.1))) p.2 p.1 := fun p hp => (hw3 p (by simp [hp])).keeps kW
    have hb4 := kW _ _ (fun _ z => by cases z) hb
    have ht4 := TupX.keeps kW ht
    generalize upd H3 Wa (.lst (qs.map fun x => x.1)) = H4 at hF4 hW4 hk4 hf4 hw4 hb4 ht4 ⊢
    refine ⟨b, _, rfl, SqT.of hb4, rfl, _, _, rfl, ?_⟩
    refine ⟨_, _, rfl, rfl, ?_⟩
    walk_at "rd"
    refine ite2 (fun hl => ?_) (fun hl => ?_)
    · have hl0 : l = 0 := by
        have := of_decide_eq_true hl
        omega
      subst hl0
      walk_at "rd"
      refine ⟨.inl ⟨rfl, _, SqL.of hF4⟩, ?_⟩
      walk_at "rd"
      have hlen := len_pow (qs.map fun p => p.2)
      rw [List.map_map, List.length_map] at hlen
      have h1 : (2 : Nat) ^ 0 = 1 := rfl
      refine ⟨Fa, fs, .ref a, rfl, rfl, hF4, by have : (4096 : Nat) < sizeLine := by decide
                                                have : (2 : Nat) ^ 12 = 4096 := by decide
                                                omega, ?_⟩
      have kF := Keeps.up (ys := fs ++ [.ref a]) hF4
      refine ⟨(qs.map fun p => 2 ^ p.2).sum, by omega, fs ++ [.ref a], qs, _, _, _, rfl, rfl, upd_same, ?_, fun f0 hf0 => ?_, fun p hp => (hw4 p hp).keeps kF, ?_, .inl (by simp), fun c u n1 n2 q => ?_⟩
      · rw [upd_ne (Ne.symm nFW)]
        exact hW4
      · rcases List.mem_append.mp hf0 with q | q
        · exact (hf4 f0 q).keeps kF
        · rw [List.mem_singleton.mp q]
          exact ⟨a, ns, rfl, TupX.keeps kF ht4, hfl, by omega⟩
      · rw [List.length_append, List.length_singleton]
        omega
      · rw [upd_ne n1]
        exact hk4 c u n1 n2 q
    · have hl0 : l ≠ 0 := fun z => hl (decide_eq_true (by rw [z]; rfl))
      walk_at "rd"
      refine g_tupX ?_
      walk_at "rd"
      refine ⟨Nat.zero_le _, fun u o2 hu ho2 => ?_⟩
      have e5 := Ext.new (o := HO.frz o2 (.tup [])) hu
      refine ⟨_, _, .tup (ht4.ext e5).sq (pdp ns), .tup (xs := ([] : List Int).map V.int) (TupX.new ho2).sq (pdp []), sh_row ns, sh_row [], ?_⟩
      have ene : PyData.eqv (.tuple (pdata ns)) (.tuple (pdata [])) = decide (ns = []) := by
        simp only [PyData.eqv, peqv]
      rw [ene]
      have hF5 := e5 _ _ hF4
      have hW5 := e5 _ _ hW4
      have hk5 : ∀ c v, c ≠ Fa → c ≠ Wa → H c = some v → upd H4 u (HO.frz o2 (.tup [])) c = some v := fun c v n1 n2 q => e5 _ _ (hk4 c v n1 n2 q)
      have hf5 := fun f0 hf0 => (hf4 f0 hf0).keeps (Keeps.of e5)
      have hw5 := fun p hp => (hw4 p hp).keeps (Keeps.of e5)
      have ht5 := ht4.ext e5
      generalize upd H4 u (HO.frz o2 (.tup [])) = H5 at hF5 hW5 hk5 hf5 hw5 ht5 ⊢
      obtain ⟨mo, m1, m2, m3, m4⟩ : ∃ mo : Nat, 1 ≤ mo ∧ mo ≤ l ∧ (ns ≠ [] → (mo : Int) ≤ ns.getD (ns.length - 1) 0) ∧ (mo : Int) = if ns = [] then (l : Int) else if ns.getD (ns.length - 1) 0 < (l : Int) then ns.getD (ns.length - 1) 0 else (l : Int) := by
        by_cases hn : ns = []
        · exact ⟨l, by omega, Nat.le_refl _, fun h => absurd hn h, by rw [if_pos hn]⟩
        · have hp := hfl.pos _ (getD_mem (i := ns.length - 1) (by have := List.length_pos_iff.mpr hn; omega))
          by_cases hc : ns.getD (ns.length - 1) 0 < (l : Int)
          · exact ⟨(ns.getD (ns.length - 1) 0).toNat, by omega, by omega, fun _ => by omega, by rw [if_neg hn, if_pos hc]; omega⟩
          · exact ⟨l, by omega, Nat.le_refl _, fun _ => by omega, by rw [if_neg hn, if_neg hc]⟩
      walk_at "rd"
      refine g_ifV (.int (mo : Int)) (fun h1 Q' q => ?_) (fun h1 Q' q => ?_) ?_
      · have hn : ns ≠ [] := fun z => by simp [z] at h1
        rw [if_neg hn] at m4
        walk_at "rd"
        refine g_ixT (v := .int (ns.getD (ns.length - 1) 0)) ht5.sq ?_ ?_
        · have hlen := List.length_pos_iff.mpr hn
          unfold atI ixN
          rw [List.length_map, if_neg (by decide), if_pos (by omega)]
          have : ((-1 : Int) + (ns.length : Int)).toNat = ns.length - 1 := by omega
          show (ns.map V.int)[((-1 : Int) + (ns.length : Int)).toNat]? = _
          rw [this]
          exact getI (by omega)
        · refine ⟨_, _, rfl, ?_⟩
          rw [← m4]
          exact q
      · have hn : ns = [] := by simpa using h1
        rw [if_pos hn] at m4
        walk_at "rd"
        rw [← m4]
        exact q
      walk_at "rd"
      refine ⟨.inl ⟨rfl, _, SqL.of hW5⟩, ?_⟩
      walk_at "rd"
      refine g_lc (g_rng2 ?_)
      walk_at "rd"
      have hl13 : (l : Int) ≤ 12 := by
        have := hfl.sum0
        omega
      refine ⟨⟨by decide, by decide, by omega, by omega⟩, ?_⟩
      have en : ((mo : Int) + 1 - 1).toNat = mo := by omega
      rw [en]
      refine lcRR (small (by omega)) (fun i y H => WT K size H (l - (i + 1)) y) (fun i y H H' e r => r.keeps e) (fun i H6 hi e6 Qe Qn he => ?_) (fun H6 D ys e6 hD hd hyl hyr => ?_)
      · refine ⟨rfl, ?_⟩
        walk_at "rd"
        refine g_tupX ?_
        walk_at "rd"
        refine ⟨by show 1 ≤ sizeLine; decide, fun c o3 hc ho3 => ?_⟩
        have e7 := Ext.new (o := HO.frz o3 (.tup [V.int (1 + (i : Int))])) hc
        have hfl' : Fall (ns ++ [1 + (i : Int)]) := fall_snoc hfl (by omega) (by omega) (fun hn => by have := m3 hn; omega)
        refine ⟨a, c, ns.map V.int, [V.int (1 + (i : Int))], rfl, rfl, (ht5.ext e6).ext e7, TupX.new ho3, ?_, fun H8 p e8 hp => ?_⟩
        · have := hfl'.len
          rw [List.length_append, List.length_singleton] at this
          rw [List.length_map, List.length_singleton]
          exact Nat.le_of_lt (small (by omega))
        walk_at "rd"
        refine ⟨by show 2 ≤ sizeLine; decide, fun q hq => ?_⟩
        have e9 := Ext.new (o := HO.tup [V.ref p, V.int ((l : Int) - (1 + (i : Int)))]) hq
        refine he _ _ (Ext.trans e7 (Ext.trans e8 e9)) ⟨q, p, ns ++ [1 + (i : Int)], rfl, ?_, ?_, hfl', ?_⟩
        · rw [upd_same]
          have : (l : Int) - (1 + (i : Int)) = ((l - (i + 1) : Nat) : Int) := by omega
          rw [this]
        · rw [List.map_append]
          exact hp.ext e9
        · rw [List.sum_append]
          have : [1 + (i : Int)].sum = 1 + (i : Int) := by simp
          rw [this]
          omega
      · walk_at "rd"
        have hlen := len_pow (qs.map fun p => p.2)
        rw [List.map_map, List.length_map] at hlen
        have hlen' : qs.length ≤ (qs.map fun p => 2 ^ p.2).sum := hlen
        have h12 : (2 : Nat) ^ 12 = 4096 := by decide
        refine ⟨Wa, D, _, ys, rfl, rfl, e6 _ _ hW5, hd, ?_, ?_⟩
        · rw [List.length_map, hyl]
          have : (5000 : Nat) < sizeLine := by decide
          have := Nat.one_le_two_pow (n := l)
          omega
        have kX := Keeps.up (ys := qs.map (fun x => x.1) ++ ys) (e6 _ _ hW5)
        have ksum := geo2 l mo m2
        have kpos := Nat.one_le_two_pow (n := l - mo)
        have ecs : (((List.range mo).map fun i => (ys.getD i V.non, l - (i + 1))).map fun p => 2 ^ p.2).sum = ((List.range mo).map fun i => 2 ^ (l - (i + 1))).sum := by
          rw [List.map_map]
          rfl
        have efs : ((List.range mo).map fun i => (ys.getD i V.non, l - (i + 1))).map (fun p => p.1) = ys := by
          rw [List.map_map]
          refine List.ext_getElem? fun j => ?_
          rw [List.getElem?_map]
          by_cases hj : j < mo
          · rw [List.getElem?_range hj]
            show some (ys.getD j V.non) = _
            rw [List.getD_eq_getElem?_getD, List.getElem?_eq_getElem (by omega)]
            rfl
          · rw [List.getElem?_eq_none (by rw [List.length_range]; omega), List.getElem?_eq_none (by omega)]
            rfl
        refine ⟨((qs ++ (List.range mo).map fun i => (ys.getD i V.non, l - (i + 1))).map fun p => 2 ^ p.2).sum, ?_, fs, qs ++ (List.range mo).map fun i => (ys.getD i V.non, l - (i + 1)), _, _, _, rfl, rfl, ?_, ?_, fun f0 hf0 => ((hf5 f0 hf0).keeps (Keeps.of e6)).keeps kX, fun p hp => ?_, ?_, .inr ?_, fun c v n1 n2 q => ?_⟩
        · rw [List.map_append, List.sum_append, ecs]
          omega
        · rw [upd_ne nFW]
          exact e6 _ _ hF5
        · rw [upd_same, List.map_append, efs]
        · rcases List.mem_append.mp hp with q | q
          · exact ((hw5 p q).keeps (Keeps.of e6)).keeps kX
          · obtain ⟨i, hi, rfl⟩ := List.mem_map.mp q
            have hi' : i < ys.length := by rw [hyl]; exact List.mem_range.mp hi
            have := hyr i ys[i] (List.getElem?_eq_getElem hi')
            have eg : ys.getD i V.non = ys[i] := by
              rw [List.getD_eq_getElem?_getD, List.getElem?_eq_getElem hi']
              rfl
            show WT K size _ (l - (i + 1)) (ys.getD i V.non)
            rw [eg]
            exact this.keeps kX
        · rw [List.map_append, List.sum_append, ecs]
          omega
        · intro hnil
          have := congrArg List.length hnil
          rw [List.length_append, List.length_map, List.length_range] at this
          simp at this
          omega
        · rw [upd_ne n2]
          exact e6 _ _ (hk5 c v n1 n2 q)
end
end Q0

set_option Elab.async false
set_option linter.all false
set_option maxRecDepth 100000
set_option maxHeartbeats 4000000
/-! A drawn kind. -/
namespace Q0
open PySem PySem.Spec PyProof.Rows L2 Gd
local macro_rules | `(tactic| walk_at "rd1") => `(tactic| first | with_reducible refine g_ret ?_ | with_reducible refine g_retN ?_ | with_reducible refine g_seq ?_ | with_reducible refine g_next ?_ | with_reducible refine g_drop ?_ | with_reducible refine g_asg ?_ | with_reducible refine g_name ?_ | with_reducible refine g_ifs ?_ | with_reducible refine g_test ?_ | with_reducible refine g_tb ?_ | with_reducible refine g_and ?_ | with_reducible refine g_or ?_ | with_reducible refine g_not ?_ | with_reducible refine g_andV ?_ | with_reducible refine g_orV ?_ | with_reducible refine g_notV ?_ | with_reducible refine g_if ?_ | with_reducible refine g_op ?_ | with_reducible refine g_un ?_ | with_reducible refine g_cb ?_ | with_reducible refine g_nil ?_ | with_reducible refine g_cons ?_ | with_reducible refine g_call ?_ | with_reducible refine g_callS ?_ | with_reducible refine g_tup ?_ | with_reducible refine g_lst ?_ | with_reducible refine g_isN ?_ | with_reducible refine g_sl ?_ | with_reducible refine g_nopart ?_ | with_reducible refine g_part ?_ | with_reducible refine g_chain ?_ | with_reducible refine g_fld ?_ | with_reducible refine g_prop ?_ | with_reducible refine g_bm ?_ | with_reducible refine g_bm0 ?_ | with_reducible refine g_c ?_ | with_reducible refine g_sub ?_ | with_reducible refine g_int1 ?_ | with_reducible refine g_int2 ?_ | with_reducible refine g_yes ?_ | with_reducible refine g_sfld ?_ | with_reducible refine g_NT ?_ | with_reducible refine g_NF ?_ | with_reducible refine iteT ?_ | with_reducible refine iteF ?_ | ((with_reducible refine' g_aug ?hv ?_); (case hv => exact rfl)) | ((with_reducible refine' g_var ?hv ?_); (case hv => exact rfl)) | with_reducible refine g_I0 ?_ | with_reducible refine g_U ?_ | with_reducible refine g_eqI ?_ | with_reducible refine g_blV ?_ | with_reducible refine g_inV ?_)
local macro_rules | `(tactic| walk_at "rd") => `(tactic| repeat walk_at "rd1")
section
variable {P : Program} {w : World} {K : PySem.W.Frag} {mg : Str → Option Value} {base : Heap} {f : Addr} {fd : FuncData}
/-! ### a drawn kind -/
abbrev sKind : Stmt := top 47
theorem scKind : FnScope ["_law_dice_here", "_law_most"] ["_law_dice_here", "_law_most"] (defScope sKind) := ⟨rfl, rfl, rfl, by decide +kernel, rfl, by decide +kernel, by decide +kernel⟩
def spKind (K : PySem.W.Frag) : Sp := fun vs H Q _ => ∃ (d : Addr) (most : Int), vs = [.ref d, .int most] ∧ DiceAt H d ∧ 0 ≤ most ∧ most ≤ 12 ∧
  ∀ H' a ns, ExtBut d H H' → DiceAt H' d → TupX K H' a (ns.map V.int) → Fall ns → ns.sum ≤ most → Q (.ref a) H'
theorem ok_kind (F : Fun K "_law_kind" "_law_kind" sKind f fd) (Ro : Def1 P w K mg base CX0 1 "_law_roll" ["_law_dice_here", "_law_total"] spRoll) (Ks : Def1 P w K mg base CX0 1 "_law_kinds" ["_law_size"] (spKinds K))
    (Pi : Def1 P w K mg base CX0 2 "_law_pick" ["_law_dice_here", "_law_items"] (spPick K)) : FnOk P w K mg base CX0 3 f fd ["_law_dice_here", "_law_most"] (spKind K) := by
  refine F.ok scKind (fun vs H Q E h => ?_) (fun cdv A outer s H vs Q E hr h => ?_)
  · obtain ⟨d, most, rfl, _⟩ := h
    rfl
  · obtain ⟨d, most, rfl, hd, h0, h1, k⟩ := h
    refine ⟨_, pss_one (ps_ret (pe_def Pi hr (by decide) (by rfl) (pa_cons (pv 0) (pa_cons (pe_def Ks hr (by decide) (by rfl) (pa_cons (pe_def Ro hr (by decide) (by rfl) (pa_cons (pv 0) (pa_cons (pe_op op_add (pv 1) pe_int) pa_nil))) pa_nil)) pa_nil)))), ?_⟩
    walk_at "rd"
    have big : (13 : Int) < 2 ^ 1000 := by decide +kernel
    refine ⟨d, most + 1, rfl, hd, by omega, by omega, fun H1 r e1 d1 r0 r1 => ?_⟩
    walk_at "rd"
    have er : r = (r.toNat : Int) := by omega
    refine ⟨r.toNat, (by rw [← er]; rfl), by omega, fun H2 Fa fs e2 hFa hF hne hl hf => ?_⟩
    walk_at "rd"
    have hlen := List.length_pos_iff.mpr hne
    refine ⟨d, Fa, fs, rfl, d1.ext e2, SqL.of hF, dice_none d1 hFa, hlen, by omega, fun H3 x e3 d3 hx => ?_⟩
    obtain ⟨a, ns, rfl, ht, hfl, hs⟩ := hf x hx
    obtain ⟨q1, q2, q3, hdq, _⟩ := d1.ext e2
    have ht3 := TupX.keeps (keeps_but (.inr hdq) e3) ht
    exact k H3 a ns (ExtBut.trans e1 (ExtBut.trans (ExtBut.of e2) e3)) d3 ht3 hfl (by omega)
end
end Q0

set_option Elab.async false
set_option linter.all false
set_option maxRecDepth 100000
set_option maxHeartbeats 4000000
/-! One item of a list or a tuple; a prime and a kind. -/
namespace Q0
open PySem PySem.Spec PyProof.Rows L2 Gd
local macro_rules | `(tactic| walk_at "rd1") => `(tactic| first | with_reducible refine g_ret ?_ | with_reducible refine g_retN ?_ | with_reducible refine g_seq ?_ | with_reducible refine g_next ?_ | with_reducible refine g_drop ?_ | with_reducible refine g_asg ?_ | with_reducible refine g_name ?_ | with_reducible refine g_ifs ?_ | with_reducible refine g_test ?_ | with_reducible refine g_tb ?_ | with_reducible refine g_and ?_ | with_reducible refine g_or ?_ | with_reducible refine g_not ?_ | with_reducible refine g_andV ?_ | with_reducible refine g_orV ?_ | with_reducible refine g_notV ?_ | with_reducible refine g_if ?_ | with_reducible refine g_op ?_ | with_reducible refine g_un ?_ | with_reducible refine g_cb ?_ | with_reducible refine g_nil ?_ | with_reducible refine g_cons ?_ | with_reducible refine g_call ?_ | with_reducible refine g_callS ?_ | with_reducible refine g_tup ?_ | with_reducible refine g_lst ?_ | with_reducible refine g_isN ?_ | with_reducible refine g_sl ?_ | with_reducible refine g_nopart ?_ | with_reducible refine g_part ?_ | with_reducible refine g_chain ?_ | with_reducible refine g_fld ?_ | with_reducible refine g_prop ?_ | with_reducible refine g_bm ?_ | with_reducible refine g_bm0 ?_ | with_reducible refine g_c ?_ | with_reducible refine g_sub ?_ | with_reducible refine g_int1 ?_ | with_reducible refine g_int2 ?_ | with_reducible refine g_yes ?_ | with_reducible refine g_sfld ?_ | with_reducible refine g_NT ?_ | with_reducible refine g_NF ?_ | with_reducible refine iteT ?_ | with_reducible refine iteF ?_ | ((with_reducible refine' g_aug ?hv ?_); (case hv => exact rfl)) | ((with_reducible refine' g_var ?hv ?_); (case hv => exact rfl)) | with_reducible refine g_I0 ?_ | with_reducible refine g_U ?_ | with_reducible refine g_eqI ?_ | with_reducible refine g_blV ?_ | with_reducible refine g_inV ?_)
local macro_rules | `(tactic| walk_at "rd") => `(tactic| repeat walk_at "rd1")
section
variable {P : Program} {w : World} {K : PySem.W.Frag} {mg : Str → Option Value} {base : Heap} {f : Addr} {fd : FuncData}
def spPickS (K : PySem.W.Frag) : Sp := fun vs H Q _ => ∃ (d l : Addr) (xs : List V), vs = [.ref d, .ref l] ∧ DiceAt H d ∧ (SqL K H l xs ∧ l ≠ d ∨ SqT K H l xs) ∧ 0 < xs.length ∧ xs.length ≤ 40000 ∧
  ∀ H' x, ExtBut d H H' → DiceAt H' d → x ∈ xs → Q x H'
theorem sqT_dice {H H' : Hp} {d a : Addr} {xs : List V} (hd : DiceAt H d) (e : ExtBut d H H') (h : SqT K H a xs) : SqT K H' a xs := by
  obtain ⟨_, _, _, q, _⟩ := hd
  exact sqT_butL q e h
theorem ok_pickS {fR : Addr} {fdR : FuncData} (F : Fun K "_law_pick" "_law_pick" sPick f fd) (T : Txt K mg) (R : AtR K mg fR fdR) : FnOk P w K mg base CX0 2 f fd ["_law_dice_here", "_law_items"] (spPickS K) := by
  have GR : FnOk P w K mg base CX0 1 fR fdR ["_law_dice_here", "_law_total"] spRoll := ok_roll R.F T
  refine F.ok scPick (fun vs H Q E h => ?_) (fun cdv A outer s H vs Q E hr h => ?_)
  · obtain ⟨d, l, xs, rfl, _⟩ := h
    rfl
  · obtain ⟨d, l, xs, rfl, hd, hl, l0, l1, k⟩ := h
    refine ⟨_, pss_one (ps_ret (pe_ix ix_seq (pv 1) (pe_call GR hr (by rfl) R.g R.F.kp R.b .nil pass0 (pa_cons (pv 0) (pa_cons (pe_callB call_len_seq (by rfl) T.len PySem.boot_len (pa_cons (pv 1) pa_nil)) pa_nil))) (fun _ _ => rfl))), ?_⟩
    walk_at "rd"
    refine ⟨l, xs, rfl, hl.imp (·.1) id, ?_⟩
    walk_at "rd"
    refine ⟨d, _, rfl, hd, by omega, by omega, ?_⟩
    intro H' r e hd' r0 r1
    have hlt : r.toNat < xs.length := by omega
    have er : r = (r.toNat : Int) := by omega
    rw [er]
    rcases hl with ⟨hl, ne⟩ | hl
    · exact .inl ⟨l, xs, _, _, rfl, rfl, sqL_but e ne hl, atI_nat (List.getElem?_eq_getElem hlt), k _ _ e hd' (List.getElem_mem hlt)⟩
    · exact .inr (.inl ⟨l, xs, _, _, rfl, rfl, sqT_dice hd e hl, atI_nat (List.getElem?_eq_getElem hlt), k _ _ e hd' (List.getElem_mem hlt)⟩)
theorem ok_pickL {fR : Addr} {fdR : FuncData} (F : Fun K "_law_pick" "_law_pick" sPick f fd) (T : Txt K mg) (R : AtR K mg fR fdR) : FnOk P w K mg base CX0 2 f fd ["_law_dice_here", "_law_items"] (spPick K) :=
  (ok_pickS F T R).imp fun vs H Q E ⟨d, l, xs, e, hd, hl, ne, l0, l1, k⟩ => ⟨d, l, xs, e, hd, .inl ⟨hl, ne⟩, l0, by omega, k⟩
/-! ### a group that is not too great -/
abbrev sTall : Stmt := top 52
theorem scTall : FnScope ["_law_dice_here", "_law_most", "_law_prime", "_law_top", "_law_size"] ["_law_dice_here", "_law_most"] (defScope sTall) := ⟨rfl, rfl, rfl, by decide +kernel, rfl, by decide +kernel, by decide +kernel⟩
def spTall (K : PySem.W.Frag) : Sp := fun vs H Q _ => ∃ (d : Addr) (most : Int), vs = [.ref d, .int most] ∧ DiceAt H d ∧ 1 ≤ most ∧ most ≤ 256 ∧
  ∀ H' u a p ns, ExtBut d H H' → DiceAt H' d → SqT K H' u [.int p, .ref a] → TupX K H' a (ns.map V.int) → Fall ns → PrG p → powI p ns.sum.toNat ≤ most → Q (.ref u) H'
theorem g_par3 {i j l : Nat} {ta : TA} {D : Ends} {σ : L2.St} {H : Hp} (k : ta σ H fun vs H1 => ∃ u v w, vs = [u, v, w] ∧ D.nx (((σ.set i (some u)).set j (some v)).set l (some w)) H1) : tPar3 i j l ta D σ H := k
def PvT (d : Addr) (p most : Int) (H : Hp) : L2.St → Hp → Prop := fun σ H' => ∃ (t : Nat), σ = [some (.ref d), some (.int most), some (.int p), some (.int (t : Int)), some (.int (powI p t))] ∧ powI p t ≤ most ∧ H' = H
def muT (most : Int) : L2.St → Hp → Nat := fun σ _ => match σ with
  | [_, _, _, _, some (.int z)] => (most - z).toNat
  | _ => 0
theorem powI_two {p : Int} (hp : 2 ≤ p) : ∀ n : Nat, (n : Int) < powI p n
  | 0 => by show (0 : Int) < 1; decide
  | n + 1 => by
    have ih := powI_two hp n
    have h := Int.mul_le_mul_of_nonneg_left hp (show 0 ≤ powI p n by omega)
    show ((n + 1 : Nat) : Int) < powI p n * p
    omega
theorem powI_256 {p : Int} (hp : 2 ≤ p) {n : Nat} (h : powI p n ≤ 256) : n ≤ 8 := by
  by_cases q : n ≤ 8
  · exact q
  · have h1 : powI p 9 ≤ powI p n := powI_le (by omega) n 9 (by omega)
    have h2 : ∀ m : Nat, (2 : Int) ^ m ≤ powI p m := fun m => by
      induction m with
      | zero => exact Int.le_refl _
      | succ m ih =>
        show (2 : Int) ^ (m + 1) ≤ powI p m * p
        rw [Int.pow_succ]
        have h0 : (0 : Int) ≤ (2 : Int) ^ m := Int.pow_nonneg (by decide)
        exact Int.mul_le_mul ih hp (by decide) (by omega)
    have := h2 9
    have e : (2 : Int) ^ 9 = 512 := by decide
    omega
theorem ok_tall (F : Fun K "_law_tall_group" "_law_tall_group" sTall f fd) (Pi : Def1 P w K mg base CX0 2 "_law_pick" ["_law_dice_here", "_law_items"] (spPickS K)) (Ki : Def1 P w K mg base CX0 3 "_law_kind" ["_law_dice_here", "_law_most"] (spKind K)) :
    FnOk P w K mg base CX0 4 f fd ["_law_dice_here", "_law_most"] (spTall K) := by
  refine F.ok scTall (fun vs H Q E h => ?_) (fun cdv A outer s H vs Q E hr h => ?_)
  · obtain ⟨d, most, rfl, _⟩ := h
    rfl
  · obtain ⟨d, most, rfl, hd, hm1, hm2, k⟩ := h
    refine ⟨_, pss_cons (ps_par3 (i := 2) (j := 3) (l := 4) (by rfl) scTall.nd rfl rfl rfl (by decide) (by decide) (by decide) rfl rfl rfl (pa_cons (pe_def Pi hr (by decide) (by rfl) (pa_cons (pv 0) (pa_cons (pe_tup (pa_cons pe_int (pa_cons pe_int (pa_cons pe_int (pa_cons pe_int (pa_cons pe_int (pa_cons pe_int (pa_cons pe_int pa_nil)))))))) pa_nil))) (pa_cons pe_int (pa_cons pe_int pa_nil))) (by rfl))
      (pss_cons (ps_while PassesOwn.never (pt_cmpR op_le (pe_op op_mul (pv 4) (pv 2)) (pv 1) (nomark _)) (pss_one (ps_par (i := 3) (j := 4) (by rfl) scTall.nd rfl rfl (by decide) rfl rfl (pa_cons (pe_op op_add (pv 3) pe_int) (pa_cons (pe_op op_mul (pv 4) (pv 2)) pa_nil)) (by rfl))))
      (pss_one (ps_ret (pe_tup (pa_cons (pv 2) (pa_cons (pe_def Ki hr (by decide) (by rfl) (pa_cons (pv 0) (pa_cons (pv 3) pa_nil))) pa_nil)))))), ?_⟩
    walk_at "rd"
    refine g_par3 ?_
    walk_at "rd"
    refine ⟨by show 7 ≤ sizeLine; decide, fun u hu => ?_⟩
    walk_at "rd"
    have eu := Ext.new (o := HO.tup [V.int 2, V.int 2, V.int 2, V.int 3, V.int 3, V.int 5, V.int 7]) hu
    refine ⟨d, u, _, rfl, hd.ext eu, .inr (SqT.of upd_same), by decide, by decide, fun H1 x e1 hd1 hx => ?_⟩
    have hp : ∃ p, x = .int p ∧ PrG p := by
      simp only [List.mem_cons, List.not_mem_nil, or_false] at hx
      rcases hx with h | h | h | h | h | h | h <;> exact ⟨_, h, by unfold PrG; decide⟩
    obtain ⟨p, rfl, hp⟩ := hp
    have hp7 := hp.bd
    walk_at "rd"
    refine ⟨_, _, _, rfl, ?_⟩
    refine g_while (PvT d p most H1) (muT most) ⟨0, rfl, hm1, rfl⟩ ?_
    rintro σ H2 ⟨t, rfl, ht, rfl⟩
    have htp := powI_two (p := p) (by omega) t
    walk_at "rd"
    refine g_I (.inr ⟨by omega, by omega⟩) ?_
    walk_at "rd"
    refine ite2 (fun h1 => ?_) (fun h1 => ?_)
    · have h1' := of_decide_eq_true h1
      refine g_turn ?_
      refine g_par ?_
      walk_at "rd"
      refine g_I (.inr ⟨by omega, by omega⟩) ?_
      walk_at "rd"
      refine ⟨_, _, rfl, ⟨t + 1, rfl, h1', rfl⟩, ?_⟩
      show (most - powI p t * p).toNat < (most - powI p t).toNat
      have := Int.mul_le_mul_of_nonneg_left (show 2 ≤ p by omega) (show 0 ≤ powI p t by omega)
      omega
    · walk_at "rd"
      have ht8 := powI_256 (p := p) (by omega) (show powI p t ≤ 256 by omega)
      refine ⟨d, (t : Int), rfl, hd1, by omega, by omega, fun H3 a ns e3 hd3 ha hF hs => ?_⟩
      walk_at "rd"
      refine ⟨by show 2 ≤ sizeLine; decide, fun z hz => ?_⟩
      have ez := Ext.new (o := HO.tup [V.int p, V.ref a]) hz
      have h0 := hF.sum0
      refine k _ z a p ns (ExtBut.trans (ExtBut.trans (ExtBut.of eu) e1) (ExtBut.trans e3 (ExtBut.of ez))) (hd3.ext ez) (SqT.of upd_same) (ha.ext ez) hF hp ?_
      exact Int.le_trans (powI_le (by omega) t _ (by omega)) ht
end
end Q0

set_option Elab.async false
set_option linter.all false
set_option maxRecDepth 100000
set_option maxHeartbeats 4000000
/-! The law's list of all elements. -/
namespace Q0
open PySem PySem.Spec PyProof.Rows L2 Gd
local macro_rules | `(tactic| walk_at "rd1") => `(tactic| first | with_reducible refine g_ret ?_ | with_reducible refine g_retN ?_ | with_reducible refine g_seq ?_ | with_reducible refine g_next ?_ | with_reducible refine g_drop ?_ | with_reducible refine g_asg ?_ | with_reducible refine g_name ?_ | with_reducible refine g_ifs ?_ | with_reducible refine g_test ?_ | with_reducible refine g_tb ?_ | with_reducible refine g_and ?_ | with_reducible refine g_or ?_ | with_reducible refine g_not ?_ | with_reducible refine g_andV ?_ | with_reducible refine g_orV ?_ | with_reducible refine g_notV ?_ | with_reducible refine g_if ?_ | with_reducible refine g_op ?_ | with_reducible refine g_un ?_ | with_reducible refine g_cb ?_ | with_reducible refine g_nil ?_ | with_reducible refine g_cons ?_ | with_reducible refine g_call ?_ | with_reducible refine g_callS ?_ | with_reducible refine g_tup ?_ | with_reducible refine g_lst ?_ | with_reducible refine g_isN ?_ | with_reducible refine g_sl ?_ | with_reducible refine g_nopart ?_ | with_reducible refine g_part ?_ | with_reducible refine g_chain ?_ | with_reducible refine g_fld ?_ | with_reducible refine g_prop ?_ | with_reducible refine g_bm ?_ | with_reducible refine g_bm0 ?_ | with_reducible refine g_c ?_ | with_reducible refine g_sub ?_ | with_reducible refine g_int1 ?_ | with_reducible refine g_int2 ?_ | with_reducible refine g_yes ?_ | with_reducible refine g_sfld ?_ | with_reducible refine g_NT ?_ | with_reducible refine g_NF ?_ | with_reducible refine iteT ?_ | with_reducible refine iteF ?_ | ((with_reducible refine' g_aug ?hv ?_); (case hv => exact rfl)) | ((with_reducible refine' g_var ?hv ?_); (case hv => exact rfl)) | with_reducible refine g_I0 ?_ | with_reducible refine g_U ?_ | with_reducible refine g_eqI ?_ | with_reducible refine g_blV ?_ | with_reducible refine g_inV ?_)
local macro_rules | `(tactic| walk_at "rd") => `(tactic| repeat walk_at "rd1")
/-- a tuple of integers -/
def TR (H : Hp) (f : V) (xs : List Int) : Prop := ∃ b, f = .ref b ∧ H b = some (.tup (xs.map V.int))
abbrev TRs (H : Hp) (fs : List V) (xss : List (List Int)) : Prop := Paired (TR H) fs xss
theorem TR.ext {H H' : Hp} (e : Ext H H') {f : V} {xs : List Int} (h : TR H f xs) : TR H' f xs := by
  obtain ⟨b, rfl, h⟩ := h
  exact ⟨b, rfl, e _ _ h⟩
theorem TR.but {H H' : Hp} {d : Addr} {ys : List V} (hd : H d = none ∨ H d = some (.lst ys)) (e : ExtBut d H H') {f : V} {xs : List Int} (h : TR H f xs) : TR H' f xs := by
  obtain ⟨b, rfl, h⟩ := h
  refine ⟨b, rfl, e _ _ (fun z => ?_) h⟩
  subst z
  rcases hd with hd | hd <;> rw [h] at hd <;> cases hd
theorem TR.sq {K : PySem.W.Frag} {H : Hp} {b : Addr} {xs : List Int} (h : TR H (.ref b) xs) : SqT K H b (xs.map V.int) := by
  obtain ⟨c, e, h⟩ := h
  cases e
  exact .inl (.inl h)
theorem trs_ext {H H' : Hp} (e : Ext H H') {fs : List V} {xss : List (List Int)} (h : TRs H fs xss) : TRs H' fs xss := Paired.mapP h fun _ _ z => TR.ext e z
theorem trs_but {H H' : Hp} {d : Addr} {ys : List V} (hd : H d = none ∨ H d = some (.lst ys)) (e : ExtBut d H H') {fs : List V} {xss : List (List Int)} (h : TRs H fs xss) : TRs H' fs xss := Paired.mapP h fun _ _ z => TR.but hd e z
theorem pair_append {α β : Type} {F : α → β → Prop} : ∀ {a c : List α} {b d : List β}, Paired F a b → Paired F c d → Paired F (a ++ c) (b ++ d)
  | _, _, _, _, .nil, h => h
  | _, _, _, _, .cons h t, h2 => .cons h (pair_append t h2)
theorem pair_at {α β : Type} {F : α → β → Prop} : ∀ {a : List α} {b : List β}, Paired F a b → ∀ (i : Nat) (x : α), a[i]? = some x → ∃ y, b[i]? = some y ∧ F x y
  | _, _, .nil, i, x, e => by simp at e
  | _, _, .cons (b := q) h t, 0, x, e => by
    have e' := Option.some.inj e
    subst e'
    exact ⟨q, rfl, h⟩
  | _, _, .cons h t, i + 1, x, e => pair_at t i x e
theorem pair_of {α β : Type} {F : α → β → Prop} : ∀ {a : List α} {b : List β}, a.length = b.length → (∀ (i : Nat) x y, a[i]? = some x → b[i]? = some y → F x y) → Paired F a b
  | [], [], _, _ => .nil
  | [], _ :: _, h, _ => by simp at h
  | _ :: _, [], h, _ => by simp at h
  | x :: a, y :: b, h, f => .cons (f 0 x y rfl rfl) (pair_of (by simpa using h) fun i x y h1 h2 => f (i + 1) x y h1 h2)
theorem pair_len {α β : Type} {F : α → β → Prop} {a : List α} {b : List β} (h : Paired F a b) : a.length = b.length := Gd.paired_len h
def elsStep (p : Int) (n : Int) (acc : List (List Int)) : List (List Int) := acc.flatMap fun r => (List.range (powI p n.toNat).toNat).map fun (e : Nat) => r ++ [(e : Int)]
def els (p : Int) (ns : List Int) : List (List Int) := ns.foldl (fun acc n => elsStep p n acc) [[]]
/-- what a loop over J asks -/
abbrev ForG (J : It) (g : TG) (tb : TS) (D : Ends) (σ : L2.St) (H : Hp) : Prop := ∃ W : Nat → Nat → L2.St → Hp → Prop, (∃ m, W 0 m σ H) ∧ ∀ i m σ H, W i m σ H →
      (J.stop i H ∧ D.nx σ H) ∨ (J.go i H ∧ ∃ N : L2.St → Hp → Prop, (∀ σ' H', N σ' H' → ∃ m', m' < m ∧ W (i + 1) m' σ' H') ∧ ∀ x H', J.yld i H x H' → g x σ H' fun σ2 H2 => tb { D with nx := N, ct := N, bk := D.nx } σ2 H2)
theorem g_forT {K : PySem.W.Frag} {te : TE} {g : TG} {tb : TS} {D : Ends} {σ : L2.St} {H : Hp} (k : te σ H fun x H1 => ∃ a, x = .ref a ∧ (∃ xs, SqT K H1 a xs) ∧ ForG (Itt K a) g tb D σ H1) : tFor (iTup K te) g tb D σ H := k
theorem g_forL {K : PySem.W.Frag} {te : TE} {g : TG} {tb : TS} {D : Ends} {σ : L2.St} {H : Hp} (k : te σ H fun x H1 => ∃ a, x = .ref a ∧ (∃ xs, SqL K H1 a xs) ∧ ForG (Itl K a) g tb D σ H1) : tFor (iList K te) g tb D σ H := k
/-- over the items of a tuple -/
theorem forT {K : PySem.W.Frag} {a : Addr} {xs : List V} {g : TG} {tb : TS} {D : Ends} {σ : L2.St} {H : Hp} (hs : SqT K H a xs) (Pv : Nat → L2.St → Hp → Prop) (h0 : Pv 0 σ H) (hG : ∀ i σ H, i ≤ xs.length → Pv i σ H → SqT K H a xs)
    (hb : ∀ i x σ H, xs[i]? = some x → Pv i σ H → g x σ H fun σ2 H2 => tb { D with nx := Pv (i + 1), ct := Pv (i + 1), bk := D.nx } σ2 H2) (hd : ∀ σ H, Pv xs.length σ H → D.nx σ H) :
    ∃ a', V.ref a = .ref a' ∧ (∃ xs, SqT K H a' xs) ∧ ForG (Itt K a') g tb D σ H :=
  ⟨a, rfl, ⟨_, hs⟩, for_it walk_tup Pv h0 hG (fun i x σ H H' _ p y => by obtain ⟨rfl, e⟩ := y; exact hb i x σ _ e p) hd⟩
/-- over the items of a list -/
theorem forL {K : PySem.W.Frag} {a : Addr} {xs : List V} {g : TG} {tb : TS} {D : Ends} {σ : L2.St} {H : Hp} (hs : SqL K H a xs) (Pv : Nat → L2.St → Hp → Prop) (h0 : Pv 0 σ H) (hG : ∀ i σ H, i ≤ xs.length → Pv i σ H → SqL K H a xs)
    (hb : ∀ i x σ H, xs[i]? = some x → Pv i σ H → g x σ H fun σ2 H2 => tb { D with nx := Pv (i + 1), ct := Pv (i + 1), bk := D.nx } σ2 H2) (hd : ∀ σ H, Pv xs.length σ H → D.nx σ H) :
    ∃ a', V.ref a = .ref a' ∧ (∃ xs, SqL K H a' xs) ∧ ForG (Itl K a') g tb D σ H :=
  ⟨a, rfl, ⟨_, hs⟩, for_it walk_list Pv h0 hG (fun i x σ H H' _ p y => by obtain ⟨rfl, e⟩ := y; exact hb i x σ _ e p) hd⟩
/-- a comprehension over a list whose results stand in a relation to the item -/
theorem lcLR {K : PySem.W.Frag} {σ : L2.St} {H1 : Hp} {vs : List Nat} {g : TG} {tt : TT} {te : TE} {Q : VK} {a : Addr} {xs : List V} (hs : SqL K H1 a xs) (sz : xs.length < sizeLine) (R : Nat → V → Hp → Prop) (mono : ∀ i y H H', Keeps H H' → R i y H → R i y H')
    (body : ∀ (i : Nat) x H', xs[i]? = some x → Ext H1 H' → ∀ (Qe : VK) (Qn : Hp → Prop), (∀ y H3, Ext H' H3 → R i y H3 → Qe y H3) →
      g x (wipe σ vs) H' fun σ2 H2 => wipe σ2 vs = wipe σ vs ∧ tt σ2 H2 fun b H3 => if b = true then te σ2 H3 Qe else Qn H3)
    (k : ∀ H' D ys, Ext H1 H' → H1 D = none → H' D = some (.lst ys) → ys.length = xs.length → (∀ i y, ys[i]? = some y → R i y H') → Q (.ref D) H') :
    ∃ a', V.ref a = .ref a' ∧ (∃ xs, SqL K H1 a' xs) ∧ LcG (Itl K a') g tt te vs σ H1 Q := by
  refine ⟨a, rfl, ⟨_, hs⟩, fun D hD => lc_rel walk_list R (fun _ => true) (fun i y D ys H H' hd e r => mono i y H H' (keeps_but hd e) r) hD (fun H' e => sqL_ext e hs) sz (fun i x H' H'' hi e hy Qe Qn he hn => ?_) (fun H' ys e hd hr => ?_)⟩
  · obtain ⟨rfl, hx⟩ := hy
    exact body i x _ hx e Qe Qn fun y H3 e3 r => he y H3 e3 r rfl
  · rw [idx_all] at hr
    have hl := hr.1
    rw [List.length_range] at hl
    refine k H' D ys e hD hd hl.symm fun i y hy => hr.2 i i y ?_ hy
    rw [List.getElem?_range (by have := (List.getElem?_eq_some_iff.mp hy).1; omega)]
theorem g_ilistC {K : PySem.W.Frag} {te : TE} {σ : L2.St} {H : Hp} {R : It → Hp → Prop} (k : te σ H fun x H1 => ∃ a, x = .ref a ∧ (∃ xs, SqL K H1 a xs) ∧ R (Itl K a) H1) : iList K te σ H R := k
theorem TR.keeps {H H' : Hp} (e : Keeps H H') {f : V} {xs : List Int} (h : TR H f xs) : TR H' f xs := by
  obtain ⟨b, rfl, h⟩ := h
  exact ⟨b, rfl, e _ _ (fun _ z => by cases z) h⟩
theorem g_catR {K : PySem.W.Frag} {H : Hp} {Q : VK} {a b : Addr} {xs : List Int} {n : Int} (ha : TR H (.ref a) xs) (hb : H b = some (.tup [.int n])) (hl : xs.length ≤ 900) (k : ∀ H' p, Ext H H' → TR H' (.ref p) (xs ++ [n]) → Q (.ref p) H') : rCatA K (.ref a) (.ref b) H Q := by
  refine ⟨a, b, _, [.int n], rfl, rfl, ha.sq, SqT.of hb, by rw [List.length_map, List.length_singleton]; exact smallH (by omega), fun e => ?_, fun _ e => (by cases e), fun _ _ p hp => ?_⟩
  · have e' : xs = [] := by simpa using e
    subst e'
    exact k H b (fun _ _ z => z) ⟨b, rfl, hb⟩
  · refine k _ p (Ext.new hp) ⟨p, rfl, ?_⟩
    rw [upd_same, List.map_append]
    rfl
theorem els_snoc (p : Int) (ns : List Int) (n : Int) : els p (ns ++ [n]) = elsStep p n (els p ns) := by
  unfold els
  rw [List.foldl_append]
  rfl
theorem powI_add (p : Int) (m : Nat) : ∀ n : Nat, powI p (m + n) = powI p m * powI p n
  | 0 => by show powI p m = powI p m * 1; rw [Int.mul_one]
  | n + 1 => by
    have ih := powI_add p m n
    show powI p (m + n) * p = powI p m * (powI p n * p)
    rw [ih, Int.mul_assoc]
theorem step_len (p n : Int) : ∀ acc : List (List Int), (elsStep p n acc).length = acc.length * (powI p n.toNat).toNat
  | [] => by simp [elsStep]
  | x :: acc => by
    have ih := step_len p n acc
    have e : elsStep p n (x :: acc) = ((List.range (powI p n.toNat).toNat).map fun (e : Nat) => x ++ [(e : Int)]) ++ elsStep p n acc := by
      unfold elsStep
      rw [List.flatMap_cons]
    rw [e, List.length_append, ih, List.length_map, List.length_range, List.length_cons, Nat.succ_mul]
    omega
theorem step_snoc (p n : Int) (acc : List (List Int)) (x : List Int) : elsStep p n (acc ++ [x]) = elsStep p n acc ++ (List.range (powI p n.toNat).toNat).map fun (e : Nat) => x ++ [(e : Int)] := by
  unfold elsStep
  rw [List.flatMap_append]
  simp
section
variable {P : Program} {w : World} {K : PySem.W.Frag} {mg : Str → Option Value} {base : Heap} {f : Addr} {fd : FuncData}
abbrev sEls : Stmt := top 48
theorem scEls : FnScope ["_law_prime", "_law_kind_here", "_law_found", "_law_number", "_law_entries", "_law_longer", "_law_row", "_law_entry"] ["_law_prime", "_law_kind_here"] (defScope sEls) := ⟨rfl, rfl, rfl, by decide +kernel, rfl, by decide +kernel, by decide +kernel⟩
def spEls (K : PySem.W.Frag) : Sp := fun vs H Q _ => ∃ (p : Int) (a : Addr) (ns : List Int), vs = [.int p, .ref a] ∧ SqT K H a (ns.map V.int) ∧ Fall ns ∧ 2 ≤ p ∧ p ≤ 7 ∧ powI p ns.sum.toNat ≤ 256 ∧
  ∀ H' F fs, Ext H H' → H F = none → H' F = some (.lst fs) → TRs H' fs (els p ns) → Q (.ref F) H'
theorem ok_els (F : Fun K "_law_elements" "_law_elements" sEls f fd) (T : Txt K mg) (Po : Def1 P w K mg base CX0 1 "_law_power" ["_law_base", "_law_many"] (spPowerOf K)) : FnOk P w K mg base CX0 2 f fd ["_law_prime", "_law_kind_here"] (spEls K) := by
  refine F.ok scEls (fun vs H Q E h => ?_) (fun cdv A outer s H vs Q E hr h => ?_)
  · obtain ⟨p, a, ns, rfl, _⟩ := h
    rfl
  · obtain ⟨p, a, ns, rfl, hs, hF, hp, hp7, hz, k⟩ := h
    refine ⟨_, pss_cons (ps_set (i := 2) scEls.nd rfl (Or.inl rfl) (pe_lst (pa_cons (pe_tup pa_nil) pa_nil)))
      (pss_cons (ps_for PassesOwn.never rfl (pi_tup (pv 1)) (pg_name (i := 3) scEls.nd rfl (Or.inl rfl)) (pss_cons (ps_set (i := 4) scEls.nd rfl (Or.inl rfl) (pe_listRg rfl (by rfl) T.list (prg_1 (by rfl) T.range (pe_def Po hr (by decide) (by rfl) (pa_cons (pv 0) (pa_cons (pv 3) pa_nil))))))
      (pss_cons (ps_set (i := 5) scEls.nd rfl (Or.inl rfl) (pe_lst pa_nil))
      (pss_cons (ps_for PassesOwn.never rfl (pi_list (pv 2)) (pg_name (i := 6) scEls.nd rfl (Or.inr rfl)) (pss_one (ps_expr (pe_bm PySem.F.plainAttrs_list PySem.F.slot_list_extend PySem.F.type_list_extend mt_extend (pv 5) (pa_cons (pe_lc (own := [("_law_entry", 7)]) (g := gName 7) (tt := tYes) rfl scEls.nd (pi_list (pv 4)) (blkOk_by (N := ["_law_prime", "_law_kind_here", "_law_found", "_law_number", "_law_entries", "_law_longer", "_law_row", "_law_entry"]) (sc := defScope sEls) (by decide +kernel)) (fun _ _ _ _ _ => pg_name (i := 7) scEls.nd rfl (Or.inl rfl)) (fun _ _ _ _ _ => pts_nil) (fun _ _ _ _ _ => by exact (pe_op (r := rCatA K) op_catA (pv 6) (pe_tup (pa_cons (pv 7) pa_nil))))) pa_nil)))))
      (pss_one (ps_set (i := 2) scEls.nd rfl (Or.inl rfl) (pe_callTy call_list_of (by rfl) T.list (by decide +kernel) (pa_cons (pv 5) pa_nil))))))))
      (pss_one (ps_ret (pv 2)))), ?_⟩
    walk_at "rd"
    refine ⟨Nat.zero_le _, fun u hu => ?_⟩
    walk_at "rd"
    have eu := Ext.new (o := HO.tup []) hu
    refine ⟨by show 1 ≤ sizeLine; decide, fun Fa hFa => ?_⟩
    have eF := Ext.new (o := HO.lst [V.ref u]) hFa
    have hu1 : TR (upd (upd H u (HO.tup [])) Fa (HO.lst [V.ref u])) (.ref u) [] := ⟨u, rfl, eF _ _ upd_same⟩
    have hF1 : upd (upd H u (HO.tup [])) Fa (HO.lst [V.ref u]) Fa = some (.lst [V.ref u]) := upd_same
    have e1 := Ext.trans eu eF
    have hFa0 : H Fa = none := new_up eu hFa
    generalize upd (upd H u (HO.tup [])) Fa (HO.lst [V.ref u]) = H1 at hu1 hF1 e1 ⊢
    walk_at "rd"
    refine g_forT ?_
    walk_at "rd"
    have hlen := hF.len
    refine forT (sqT_ext e1 hs) (fun i σ H' => ∃ (Fi : Addr) (fs : List V) (x3 x4 x5 x6 : Option V), σ = [some (.int p), some (.ref a), some (.ref Fi), x3, x4, x5, x6, none] ∧ Ext H H' ∧ H Fi = none ∧ H' Fi = some (.lst fs) ∧ TRs H' fs (els p (ns.take i)) ∧ (∀ xs ∈ els p (ns.take i), xs.length = i) ∧ ((els p (ns.take i)).length : Int) = powI p (ns.take i).sum.toNat)
      ⟨Fa, [.ref u], none, none, none, none, rfl, e1, hFa0, hF1, .cons hu1 .nil, fun xs hx => ?_, rfl⟩ (fun i σ H' _ hP => ?_) (fun i x σ H' hx hP => ?_) (fun σ H' hP => ?_)
    · have : xs = [] := List.mem_singleton.mp hx
      rw [this]
      rfl
    · obtain ⟨_, _, _, _, _, _, _, e, _⟩ := hP
      exact sqT_ext e hs
    · obtain ⟨Fi, fs, x3, x4, x5, x6, rfl, e, hFi0, hFi, hfs, hlx, hcnt⟩ := hP
      rw [mapget] at hx
      cases hn : ns[i]? with
      | none => rw [hn] at hx; cases hx
      | some n =>
      rw [hn] at hx
      cases hx
      have hi := (List.getElem?_eq_some_iff.mp hn).1
      have hnm : n ∈ ns := List.mem_of_getElem? hn
      have hn1 := hF.pos n hnm
      have hn12 := hF.le n hnm
      have etake : ns.take (i + 1) = ns.take i ++ [n] := by rw [List.take_add_one, hn]; rfl
      have hsum : (ns.take (i + 1)).sum = (ns.take i).sum + n := by
        rw [etake, List.sum_append]
        simp
      have hle : ∀ j, (ns.take j).sum ≤ ns.sum ∧ 0 ≤ (ns.take j).sum := fun j => by
        have h1 : ns.sum = (ns.take j).sum + (ns.drop j).sum := by rw [← List.sum_append, List.take_append_drop]
        have h2 := sum_len (ns := ns.drop j) fun x hx => hF.pos x (List.mem_of_mem_drop hx)
        have h3 := sum_len (ns := ns.take j) fun x hx => hF.pos x (List.mem_of_mem_take hx)
        omega
      have h1 := hle i
      have h2 := hle (i + 1)
      have hpn : powI p n.toNat ≤ 256 := Int.le_trans (powI_le (by omega) _ _ (by omega)) hz
      have hpn1 := powI_mono (p := p) (by omega) n.toNat
      have hci : powI p (ns.take i).sum.toNat ≤ 256 := Int.le_trans (powI_le (by omega) _ _ (by omega)) hz
      have hci2 : powI p (ns.take (i + 1)).sum.toNat ≤ 256 := Int.le_trans (powI_le (by omega) _ _ (by omega)) hz
      have hmul : powI p (ns.take (i + 1)).sum.toNat = powI p (ns.take i).sum.toNat * powI p n.toNat := by
        rw [← powI_add, hsum]
        congr 1
        omega
      walk_at "rd"
      unfold tLstRg tRg1
      walk_at "rd"
      refine ⟨p, n.toNat, by rw [Int.toNat_of_nonneg (by omega)]; rfl, by omega, ⟨by omega, by omega⟩, ?_⟩
      walk_at "rd"
      refine ⟨RgOk.of_le (by decide) (by omega) (by decide) (by omega), fun En hEn => ?_⟩
      have e2 := Ext.new (o := HO.lst (rgV 0 (powI p n.toNat))) hEn
      have hEn1 : upd H' En (HO.lst (rgV 0 (powI p n.toNat))) En = some (.lst (rgV 0 (powI p n.toNat))) := upd_same
      have hFi1 := e2 _ _ hFi
      have hfs1 := trs_ext e2 hfs
      have e3 := Ext.trans e e2
      generalize upd H' En (HO.lst (rgV 0 (powI p n.toNat))) = H2 at hEn1 hFi1 hfs1 e3 e2 ⊢
      walk_at "rd"
      refine ⟨Nat.zero_le _, fun La hLa => ?_⟩
      have e4 := Ext.new (o := HO.lst []) hLa
      have hLa0 : H La = none := new_up e3 hLa
      walk_at "rd"
      refine g_forL ?_
      walk_at "rd"
      have hlf := pair_len hfs1
      refine forL (SqL.of (e4 _ _ hFi1)) (fun j σ H' => ∃ (gs : List V) (x6 : Option V), σ = [some (.int p), some (.ref a), some (.ref Fi), some (.int n), some (.ref En), some (.ref La), x6, none] ∧ Ext H2 H' ∧ H' La = some (.lst gs) ∧ TRs H' gs (elsStep p n ((els p (ns.take i)).take j)))
        ⟨[], _, rfl, e4, upd_same, .nil⟩ (fun j σ H' _ hP => ?_) (fun j x σ H' hx hP => ?_) (fun σ H' hP => ?_)
      · obtain ⟨gs, x6, _, e5, _, _⟩ := hP
        exact SqL.of (e5 _ _ hFi1)
      · obtain ⟨gs, x6, rfl, e5, hgs, hts⟩ := hP
        obtain ⟨xs, hxs, hx1⟩ := pair_at hfs1 j x hx
        obtain ⟨b, rfl, hb⟩ := id hx1
        have hxm : xs ∈ els p (ns.take i) := List.mem_of_getElem? hxs
        have hxl := hlx xs hxm
        have hjl := (List.getElem?_eq_some_iff.mp hxs).1
        walk_at "rd"
        refine ⟨.inl ⟨rfl, _, SqL.of hgs⟩, ?_⟩
        walk_at "rd"
        refine g_lc (g_ilistC ?_)
        walk_at "rd"
        have hrl : (rgV 0 (powI p n.toNat)).length = (powI p n.toNat).toNat := by
          rw [rgV_length, Int.sub_zero]
        refine lcLR (SqL.of (e5 _ _ hEn1)) (small (by rw [hrl]; omega)) (fun c y H => TR H y (xs ++ [(c : Int)])) (fun c y H H' e r => r.keeps e) (fun c y H6 hy e6 Qe Qn he => ?_) (fun H6 D ys e6 hD hd hyl hyr => ?_)
        · have ey : y = .int (c : Int) := by
            unfold rgV at hy
            rw [List.getElem?_map] at hy
            have hc : c < (powI p n.toNat - 0).toNat := by
              by_cases hc : c < (powI p n.toNat - 0).toNat
              · exact hc
              · rw [List.getElem?_eq_none (by rw [List.length_range]; omega)] at hy
                cases hy
            rw [List.getElem?_range hc] at hy
            cases hy
            show V.int (0 + (c : Int)) = V.int (c : Int)
            rw [Int.zero_add]
          subst ey
          refine ⟨rfl, ?_⟩
          walk_at "rd"
          refine ⟨by show 1 ≤ sizeLine; decide, fun z hz => ?_⟩
          have ez := Ext.new (o := HO.tup [V.int (c : Int)]) hz
          have hb6 : TR H6 (.ref b) xs := ⟨b, rfl, e6 _ _ (e5 _ _ hb)⟩
          refine g_catR (hb6.ext ez) upd_same (by omega) fun H7 q e7 hq => ?_
          exact he _ H7 (Ext.trans ez e7) hq
        · walk_at "rd"
          have hgl := pair_len hts
          rw [step_len, List.length_take] at hgl
          have hbig : min j (els p (ns.take i)).length * (powI p n.toNat).toNat ≤ 256 * 256 := Nat.mul_le_mul (by omega) (by omega)
          have hsz : (70000 : Nat) < sizeLine := by decide
          refine ⟨La, D, gs, ys, rfl, rfl, e6 _ _ hgs, hd, by omega, ?_⟩
          have kX := Keeps.up (ys := gs ++ ys) (e6 _ _ hgs)
          refine ⟨gs ++ ys, _, rfl, fun q o hq => ?_, upd_same, ?_⟩
          · rw [upd_ne (ne_of_none hq hLa)]
            exact e6 _ _ (e5 _ _ hq)
          · rw [List.take_add_one, hxs]
            show TRs _ _ (elsStep p n ((els p (ns.take i)).take j ++ [xs]))
            rw [step_snoc]
            refine pair_append (Paired.mapP (trs_ext e6 hts) fun _ _ z => z.keeps kX) (pair_of ?_ fun c y zs hy hz => ?_)
            · rw [List.length_map, List.length_range, hyl, hrl]
            · have hr := (hyr c y hy).keeps kX
              rw [List.getElem?_map] at hz
              have hc := (List.getElem?_eq_some_iff.mp hy).1
              rw [List.getElem?_range (by rw [hyl, hrl] at hc; exact hc)] at hz
              cases hz
              exact hr
      · obtain ⟨gs, x6, rfl, e5, hgs, hts⟩ := hP
        rw [hlf, List.take_length] at hts
        walk_at "rd"
        refine ⟨La, gs, rfl, .inl (SqL.of hgs), fun Fn hFn => ?_⟩
        have e6 := Ext.new (o := HO.lst gs) hFn
        refine ⟨Fn, gs, _, _, _, _, rfl, Ext.trans e3 (Ext.trans e5 e6), new_up (Ext.trans e3 e5) hFn, upd_same, ?_, ?_, ?_⟩
        · rw [etake, els_snoc]
          exact trs_ext e6 hts
        · rw [etake, els_snoc]
          intro xs hxs
          obtain ⟨r, hr, hxs⟩ := List.mem_flatMap.mp hxs
          obtain ⟨c, hc, rfl⟩ := List.mem_map.mp hxs
          rw [List.length_append, hlx r hr]
          rfl
        · rw [etake, els_snoc, step_len, ← etake, hmul, ← hcnt]
          have : ((powI p n.toNat).toNat : Int) = powI p n.toNat := Int.toNat_of_nonneg (by omega)
          rw [← this]
          push_cast
          rfl
    · obtain ⟨Fi, fs, x3, x4, x5, x6, rfl, e, hFi0, hFi, hfs, hlx, hcnt⟩ := hP
      rw [List.length_map, List.take_length] at hfs
      walk_at "rd"
      exact k H' Fi fs e hFi0 hFi hfs
end
end Q0

set_option Elab.async false
set_option linter.all false
set_option maxRecDepth 100000
set_option maxHeartbeats 4000000
/-! Groups in use. -/
namespace Q0
open PySem PySem.Spec PyProof.Rows L2 Gd
local macro_rules | `(tactic| walk_at "rd1") => `(tactic| first | with_reducible refine g_ret ?_ | with_reducible refine g_retN ?_ | with_reducible refine g_seq ?_ | with_reducible refine g_next ?_ | with_reducible refine g_drop ?_ | with_reducible refine g_asg ?_ | with_reducible refine g_name ?_ | with_reducible refine g_ifs ?_ | with_reducible refine g_test ?_ | with_reducible refine g_tb ?_ | with_reducible refine g_and ?_ | with_reducible refine g_or ?_ | with_reducible refine g_not ?_ | with_reducible refine g_andV ?_ | with_reducible refine g_orV ?_ | with_reducible refine g_notV ?_ | with_reducible refine g_if ?_ | with_reducible refine g_op ?_ | with_reducible refine g_un ?_ | with_reducible refine g_cb ?_ | with_reducible refine g_nil ?_ | with_reducible refine g_cons ?_ | with_reducible refine g_call ?_ | with_reducible refine g_callS ?_ | with_reducible refine g_tup ?_ | with_reducible refine g_lst ?_ | with_reducible refine g_isN ?_ | with_reducible refine g_sl ?_ | with_reducible refine g_nopart ?_ | with_reducible refine g_part ?_ | with_reducible refine g_chain ?_ | with_reducible refine g_fld ?_ | with_reducible refine g_prop ?_ | with_reducible refine g_bm ?_ | with_reducible refine g_bm0 ?_ | with_reducible refine g_c ?_ | with_reducible refine g_sub ?_ | with_reducible refine g_int1 ?_ | with_reducible refine g_int2 ?_ | with_reducible refine g_yes ?_ | with_reducible refine g_sfld ?_ | with_reducible refine g_NT ?_ | with_reducible refine g_NF ?_ | with_reducible refine iteT ?_ | with_reducible refine iteF ?_ | ((with_reducible refine' g_aug ?hv ?_); (case hv => exact rfl)) | ((with_reducible refine' g_var ?hv ?_); (case hv => exact rfl)) | with_reducible refine g_I0 ?_ | with_reducible refine g_U ?_ | with_reducible refine g_eqI ?_ | with_reducible refine g_blV ?_ | with_reducible refine g_inV ?_)
local macro_rules | `(tactic| walk_at "rd") => `(tactic| repeat walk_at "rd1")
theorem sh_lst (ns : List Int) : SeqAt.shaped (.list (pdata ns)) = true := by
  have d : ∀ ns : List Int, PyData.depthAll (pdata ns) = 0 := fun ns => by
    induction ns with
    | nil => simp [pdata, PyData.depthAll]
    | cons n r ih =>
      unfold pdata at ih ⊢
      simp [PyData.depthAll, PyData.depth, ih]
  unfold SeqAt.shaped
  simp [PyData.canLay0, play, PyData.depth, d]
section
variable {K : PySem.W.Frag}
theorem g_neL {H : Hp} {Q : VK} {a b : Addr} {ns ms : List Int} (ha : SqL K H a (ns.map V.int)) (hb : SqL K H b (ms.map V.int)) (k : Q (.bl (!decide (ns = ms))) H) : rNeD K (.ref a) (.ref b) H Q := by
  refine ⟨_, _, .lst ha (pdp ns), .lst hb (pdp ms), sh_lst ns, sh_lst ms, ?_⟩
  have e : PyData.eqv (.list (pdata ns)) (.list (pdata ms)) = decide (ns = ms) := by
    simp only [PyData.eqv, peqv]
  rw [e]
  exact k
theorem g_eqT {H : Hp} {Q : VK} {a b : Addr} {ns ms : List Int} (ha : SqT K H a (ns.map V.int)) (hb : SqT K H b (ms.map V.int)) (k : Q (.bl (decide (ns = ms))) H) : rEqD K (.ref a) (.ref b) H Q := by
  refine ⟨_, _, .tup ha (pdp ns), .tup hb (pdp ms), sh_row ns, sh_row ms, ?_⟩
  have e : PyData.eqv (.tuple (pdata ns)) (.tuple (pdata ms)) = decide (ns = ms) := by
    simp only [PyData.eqv, peqv]
  rw [e]
  exact k
end
/-- a class without default values -/
structure Ini0 (P : Program) (w : World) (K : PySem.W.Frag) (mg : Str → Option Value) (base : Heap) (CX : CXT) (k : Nat) (C : Addr) (ps : List Str) (sp : Sp) : Prop where
  ex : ∃ (f : Addr) (fd : FuncData), Mk K C f ∧ FnOk P w K mg base CX k f fd ps sp ∧ Binds K fd ps []
theorem pe_mk4 {X : Cx} {CX : CXT} {C : Addr} {k j : Nat} {x : Str} {ps : List Str} {sp : Sp} {e : Expr} {es : List Expr} {t : TA} {p pos : Pos} {E : XK} (D : Ini0 X.prog X.w X.K X.mg X.base CX k C ps sp) (hx : Passes CX X E) (hr : Room j X.A) (hj : k + 1 ≤ j) (hgl : Gl X x) (hm : X.mg x = some (.ref C)) (ha : PA X (e :: es) t) (hdb : (x == ("__debug__" : Str)) = false := by decide)
    (he : starEach (e :: es) X.env = (false, eval e X.env) :: starEach es X.env := by rfl) (hpl : (backTo pos (starEach es X.env)).any (·.1) = false := by rfl) : PE X (.Call (.Name x p) (e :: es) [] pos) (tMake C sp [] E t) := by
  obtain ⟨f, fd, M, F, hb⟩ := D.ex
  exact pe_make M F (hr.mono hj) hgl hm hb .nil hx ha hdb he hpl
section
variable {P : Program} {w : World} {K : PySem.W.Frag} {mg : Str → Option Value} {base : Heap} {f C t0 G tP : Addr} {fd : FuncData}
theorem g_mkG {E : XK} {H1 : Hp} {R : Addr → Hp → Prop} {q n t m : Addr} {p : Int} {ns : List Int} (h : KindAt K C H1 q n t m ns) (hp : PrG p) (hz : powI p ns.sum.toNat ≤ 256) (k : ∀ H' g, Ext H1 H' → GrpAt K C G H' g p ns → R g H') :
    ∀ x dx, H1 x = none → H1 dx = none → dx ≠ x → spGInit K C G [.ref x, .int p, .ref q] (upd (upd H1 dx (.own x)) x (.ins G dx [])) (fun v H2 => v = .non ∧ R x H2) E := fun x dx hx hdx ne =>
  ⟨x, dx, q, n, t, m, p, ns, rfl, upd_same, h.ext (made_ext hx hdx), hp, hz, fun H' e hg => ⟨rfl, k H' x (fun b o u => e b o (ne_of_none u hx) (made_ext hx hdx b o u)) hg⟩⟩
theorem lookG_no {m : Str} {a b c d : V} (h1 : (m == ("_prime" : Str)) = false) (h2 : (m == ("_kind" : Str)) = false) (h3 : (m == ("_orders" : Str)) = false) (h4 : (m == ("_place" : Str)) = false) : ([(("_prime" : Str), a), (("_kind" : Str), b), (("_orders" : Str), c), (("_place" : Str), d)] : List (Str × V)).lookup m = none := by
  simp [List.lookup, h1, h2, h3, h4]
theorem g_neBl {H : Hp} {Q : VK} {a b : Bool} (e : a = b) (k : Q (.bl false) H) : rNe (.bl a) (.bl b) H Q := by
  subst e
  exact ⟨rfl, by simpa using k⟩
theorem g_neSame {H : Hp} {Q : VK} {x : V} (h : scal x x = true) (k : Q (.bl false) H) : rNe x x H Q := ⟨h, by simpa using k⟩
end
/-- a comprehension over a tuple whose results stand in a relation to the item -/
theorem lcTR {K : PySem.W.Frag} {σ : L2.St} {H1 : Hp} {vs : List Nat} {g : TG} {tt : TT} {te : TE} {Q : VK} {a : Addr} {xs : List V} (hs : SqT K H1 a xs) (sz : xs.length < sizeLine) (R : Nat → V → Hp → Prop) (mono : ∀ i y H H', Keeps H H' → R i y H → R i y H')
    (body : ∀ (i : Nat) x H', xs[i]? = some x → Ext H1 H' → ∀ (Qe : VK) (Qn : Hp → Prop), (∀ y H3, Ext H' H3 → R i y H3 → Qe y H3) →
      g x (wipe σ vs) H' fun σ2 H2 => wipe σ2 vs = wipe σ vs ∧ tt σ2 H2 fun b H3 => if b = true then te σ2 H3 Qe else Qn H3)
    (k : ∀ H' D ys, Ext H1 H' → H1 D = none → H' D = some (.lst ys) → ys.length = xs.length → (∀ i y, ys[i]? = some y → R i y H') → Q (.ref D) H') :
    ∃ a', V.ref a = .ref a' ∧ (∃ xs, SqT K H1 a' xs) ∧ LcG (Itt K a') g tt te vs σ H1 Q := by
  refine ⟨a, rfl, ⟨_, hs⟩, fun D hD => lc_rel walk_tup R (fun _ => true) (fun i y D ys H H' hd e r => mono i y H H' (keeps_but hd e) r) hD (fun H' e => sqT_ext e hs) sz (fun i x H' H'' hi e hy Qe Qn he hn => ?_) (fun H' ys e hd hr => ?_)⟩
  · obtain ⟨rfl, hx⟩ := hy
    exact body i x _ hx e Qe Qn fun y H3 e3 r => he y H3 e3 r rfl
  · rw [idx_all] at hr
    have hl := hr.1
    rw [List.length_range] at hl
    refine k H' D ys e hD hd hl.symm fun i y hy => hr.2 i i y ?_ hy
    rw [List.getElem?_range (by have := (List.getElem?_eq_some_iff.mp hy).1; omega)]
theorem sqT_keeps {K : PySem.W.Frag} {H H' : Hp} {a : Addr} {xs : List V} (e : Keeps H H') (h : SqT K H a xs) : SqT K H' a xs := by
  rcases h with (h | ⟨o, h⟩) | h
  · exact .inl (.inl (e _ _ (fun _ z => by cases z) h))
  · exact .inl (.inr ⟨o, e _ _ (fun _ z => by cases z) h⟩)
  · exact .inr h
end Q0

set_option Elab.async false
set_option linter.all false
set_option maxRecDepth 100000
set_option maxHeartbeats 4000000
/-! Lists and tuples of tuples of integers, compared. -/
namespace Q0
open PySem PySem.Spec PyProof.Rows L2 Gd
local macro_rules | `(tactic| walk_at "rd1") => `(tactic| first | with_reducible refine g_ret ?_ | with_reducible refine g_retN ?_ | with_reducible refine g_seq ?_ | with_reducible refine g_next ?_ | with_reducible refine g_drop ?_ | with_reducible refine g_asg ?_ | with_reducible refine g_name ?_ | with_reducible refine g_ifs ?_ | with_reducible refine g_test ?_ | with_reducible refine g_tb ?_ | with_reducible refine g_and ?_ | with_reducible refine g_or ?_ | with_reducible refine g_not ?_ | with_reducible refine g_andV ?_ | with_reducible refine g_orV ?_ | with_reducible refine g_notV ?_ | with_reducible refine g_if ?_ | with_reducible refine g_op ?_ | with_reducible refine g_un ?_ | with_reducible refine g_cb ?_ | with_reducible refine g_nil ?_ | with_reducible refine g_cons ?_ | with_reducible refine g_call ?_ | with_reducible refine g_callS ?_ | with_reducible refine g_tup ?_ | with_reducible refine g_lst ?_ | with_reducible refine g_isN ?_ | with_reducible refine g_sl ?_ | with_reducible refine g_nopart ?_ | with_reducible refine g_part ?_ | with_reducible refine g_chain ?_ | with_reducible refine g_fld ?_ | with_reducible refine g_prop ?_ | with_reducible refine g_bm ?_ | with_reducible refine g_bm0 ?_ | with_reducible refine g_c ?_ | with_reducible refine g_sub ?_ | with_reducible refine g_int1 ?_ | with_reducible refine g_int2 ?_ | with_reducible refine g_yes ?_ | with_reducible refine g_sfld ?_ | with_reducible refine g_NT ?_ | with_reducible refine g_NF ?_ | with_reducible refine iteT ?_ | with_reducible refine iteF ?_ | ((with_reducible refine' g_aug ?hv ?_); (case hv => exact rfl)) | ((with_reducible refine' g_var ?hv ?_); (case hv => exact rfl)) | with_reducible refine g_I0 ?_ | with_reducible refine g_U ?_ | with_reducible refine g_eqI ?_ | with_reducible refine g_blV ?_ | with_reducible refine g_inV ?_)
local macro_rules | `(tactic| walk_at "rd") => `(tactic| repeat walk_at "rd1")
def rdata (xss : List (List Int)) : List PyData := xss.map fun xs => .tuple (pdata xs)
theorem rdp {K : PySem.W.Frag} {H : Hp} : ∀ {fs : List V} {xss : List (List Int)}, TRs H fs xss → DpAll K H fs (rdata xss)
  | _, _, .nil => .nil
  | _, _, .cons h t => by
    obtain ⟨b, rfl, hb⟩ := h
    exact .cons (.tup (SqT.of hb) (pdp _)) (rdp t)
theorem reqv : ∀ xss yss : List (List Int), PyData.eqvAll (rdata xss) (rdata yss) = decide (xss = yss)
  | [], [] => rfl
  | [], y :: ys => rfl
  | x :: xs, [] => rfl
  | x :: xs, y :: ys => by
    have ih := reqv xs ys
    unfold rdata at ih ⊢
    simp only [List.map_cons, PyData.eqvAll, PyData.eqv, peqv, ih]
    by_cases h1 : x = y
    · by_cases h2 : xs = ys
      · simp [h1, h2]
      · simp [h1, h2]
    · simp [h1]
theorem pdepth : ∀ ns : List Int, PyData.depthAll (pdata ns) = 0
  | [] => rfl
  | n :: ns => by
    have ih := pdepth ns
    unfold pdata at ih ⊢
    simp [PyData.depthAll, PyData.depth, ih]
theorem rdepth : ∀ xss : List (List Int), PyData.depthAll (rdata xss) ≤ 1
  | [] => Nat.zero_le _
  | x :: xs => by
    have ih := rdepth xs
    unfold rdata at ih ⊢
    simp only [List.map_cons, PyData.depthAll, PyData.depth, pdepth]
    omega
theorem rlay : ∀ xss : List (List Int), PyData.canLayAll0 (rdata xss) = true
  | [] => rfl
  | x :: xs => by
    have ih := rlay xs
    unfold rdata at ih ⊢
    simp only [List.map_cons, PyData.canLayAll0, PyData.canLay0, play, ih]
    rfl
theorem sh_rl (xss : List (List Int)) : SeqAt.shaped (.list (rdata xss)) = true := by
  have h : PyData.depth (.list (rdata xss)) ≤ 64 := by
    have := rdepth xss
    show PyData.depthAll (rdata xss) + 1 ≤ 64
    omega
  show (PyData.canLayAll0 (rdata xss) && decide (PyData.depth (.list (rdata xss)) ≤ 64)) = true
  rw [rlay, Bool.true_and]
  exact decide_eq_true h
theorem sh_rt (xss : List (List Int)) : SeqAt.shaped (.tuple (rdata xss)) = true := by
  have h : PyData.depth (.tuple (rdata xss)) ≤ 64 := by
    have := rdepth xss
    show PyData.depthAll (rdata xss) + 1 ≤ 64
    omega
  show (PyData.canLayAll0 (rdata xss) && decide (PyData.depth (.tuple (rdata xss)) ≤ 64)) = true
  rw [rlay, Bool.true_and]
  exact decide_eq_true h
section
variable {K : PySem.W.Frag} {H : Hp} {Q : VK} {a b : Addr} {fs gs : List V} {xss yss : List (List Int)}
theorem g_neLL (ha : SqL K H a fs) (hb : SqL K H b gs) (h1 : TRs H fs xss) (h2 : TRs H gs yss) (k : Q (.bl (!decide (xss = yss))) H) : rNeD K (.ref a) (.ref b) H Q := by
  refine ⟨_, _, .lst ha (rdp h1), .lst hb (rdp h2), sh_rl _, sh_rl _, ?_⟩
  have e : PyData.eqv (.list (rdata xss)) (.list (rdata yss)) = decide (xss = yss) := by
    simp only [PyData.eqv, reqv]
  rw [e]
  exact k
theorem g_neTT (ha : SqT K H a fs) (hb : SqT K H b gs) (h1 : TRs H fs xss) (h2 : TRs H gs yss) (k : Q (.bl (!decide (xss = yss))) H) : rNeD K (.ref a) (.ref b) H Q := by
  refine ⟨_, _, .tup ha (rdp h1), .tup hb (rdp h2), sh_rt _, sh_rt _, ?_⟩
  have e : PyData.eqv (.tuple (rdata xss)) (.tuple (rdata yss)) = decide (xss = yss) := by
    simp only [PyData.eqv, reqv]
  rw [e]
  exact k
theorem g_neT {ns ms : List Int} (ha : SqT K H a (ns.map V.int)) (hb : SqT K H b (ms.map V.int)) (k : Q (.bl (!decide (ns = ms))) H) : rNeD K (.ref a) (.ref b) H Q := by
  refine ⟨_, _, .tup ha (pdp ns), .tup hb (pdp ms), sh_row ns, sh_row ms, ?_⟩
  have e : PyData.eqv (.tuple (pdata ns)) (.tuple (pdata ms)) = decide (ns = ms) := by
    simp only [PyData.eqv, peqv]
  rw [e]
  exact k
theorem pair_take {α β : Type} {F : α → β → Prop} : ∀ {a : List α} {b : List β}, Paired F a b → ∀ n : Nat, Paired F (a.take n) (b.take n)
  | _, _, .nil, n => by
    rw [List.take_nil, List.take_nil]
    exact .nil
  | _, _, .cons h t, 0 => .nil
  | _, _, .cons h t, n + 1 => .cons h (pair_take t n)
theorem cut2 (xs : List V) : cutV xs none (some 2) = xs.take 2 := by
  unfold cutV
  have e : HT.sIx xs.length xs.length (some 2) = min 2 xs.length := HT.sIx_nat _ _ 2
  rw [e, HT.sIx_none, List.drop_zero, List.take_eq_take_iff]
  omega
/-- the first two -/
theorem g_sl2 (ha : SqL K H a fs) (h1 : TRs H fs xss) (k : ∀ H' u, Ext H H' → H' u = some (.lst (fs.take 2)) → TRs H' (fs.take 2) (xss.take 2) → Q (.ref u) H') : rSlL K (.ref a) none (some 2) H Q := by
  refine ⟨a, fs, rfl, ha, fun u hu => ?_⟩
  rw [cut2]
  have e := Ext.new (o := HO.lst (fs.take 2)) hu
  exact k _ u e upd_same (trs_ext e (pair_take h1 2))
end
end Q0

set_option Elab.async false
set_option linter.all false
set_option maxRecDepth 100000
set_option maxHeartbeats 4000000
/-! Kinds: ==. -/
namespace Q0
open PySem PySem.Spec PyProof.Rows L2 Gd
local macro_rules | `(tactic| walk_at "rd1") => `(tactic| first | with_reducible refine g_ret ?_ | with_reducible refine g_retN ?_ | with_reducible refine g_seq ?_ | with_reducible refine g_next ?_ | with_reducible refine g_drop ?_ | with_reducible refine g_asg ?_ | with_reducible refine g_name ?_ | with_reducible refine g_ifs ?_ | with_reducible refine g_test ?_ | with_reducible refine g_tb ?_ | with_reducible refine g_and ?_ | with_reducible refine g_or ?_ | with_reducible refine g_not ?_ | with_reducible refine g_andV ?_ | with_reducible refine g_orV ?_ | with_reducible refine g_notV ?_ | with_reducible refine g_if ?_ | with_reducible refine g_op ?_ | with_reducible refine g_un ?_ | with_reducible refine g_cb ?_ | with_reducible refine g_nil ?_ | with_reducible refine g_cons ?_ | with_reducible refine g_call ?_ | with_reducible refine g_callS ?_ | with_reducible refine g_tup ?_ | with_reducible refine g_lst ?_ | with_reducible refine g_isN ?_ | with_reducible refine g_sl ?_ | with_reducible refine g_nopart ?_ | with_reducible refine g_part ?_ | with_reducible refine g_chain ?_ | with_reducible refine g_fld ?_ | with_reducible refine g_prop ?_ | with_reducible refine g_bm ?_ | with_reducible refine g_bm0 ?_ | with_reducible refine g_c ?_ | with_reducible refine g_sub ?_ | with_reducible refine g_int1 ?_ | with_reducible refine g_int2 ?_ | with_reducible refine g_yes ?_ | with_reducible refine g_sfld ?_ | with_reducible refine g_NT ?_ | with_reducible refine g_NF ?_ | with_reducible refine iteT ?_ | with_reducible refine iteF ?_ | ((with_reducible refine' g_aug ?hv ?_); (case hv => exact rfl)) | ((with_reducible refine' g_var ?hv ?_); (case hv => exact rfl)) | with_reducible refine g_I0 ?_ | with_reducible refine g_U ?_ | with_reducible refine g_eqI ?_ | with_reducible refine g_blV ?_ | with_reducible refine g_inV ?_)
local macro_rules | `(tactic| walk_at "rd") => `(tactic| repeat walk_at "rd1")
section
variable {P : Program} {w : World} {K : PySem.W.Frag} {mg : Str → Option Value} {base : Heap} {f C : Addr} {fd : FuncData}
theorem neg_injQ {ns ms : List Int} : (ns.map fun x => -x) = (ms.map fun x => -x) ↔ ns = ms := by
  constructor
  · intro h
    have h2 := congrArg (List.map fun x : Int => -x) h
    rw [List.map_map, List.map_map] at h2
    have e : ((fun x : Int => -x) ∘ fun x => -x) = id := by
      funext x
      exact Int.neg_neg x
    rw [e, List.map_id, List.map_id] at h2
    exact h2
  · intro h
    rw [h]
theorem dp_pairQ {H : Hp} {t m : Addr} {i : Int} {ns : List Int} (ht : SqT K H t [.int i, .ref m]) (hm : SqT K H m (ns.map V.int)) : Dp K H (.ref t) (.tuple [.int i, .tuple (pdata ns)]) :=
  .tup ht (.cons (.int i) (.cons (.tup hm (pdp ns)) .nil))
theorem sh_pairQ (i : Int) (ns : List Int) : SeqAt.shaped (.tuple [.int i, .tuple (pdata ns)]) = true := by
  have d : ∀ ns : List Int, PyData.depthAll (pdata ns) = 0 := fun ns => by
    induction ns with
    | nil => simp [pdata, PyData.depthAll]
    | cons n r ih =>
      unfold pdata at ih ⊢
      simp [PyData.depthAll, PyData.depth, ih]
  unfold SeqAt.shaped
  simp [PyData.canLay0, PyData.canLayAll0, play, PyData.depth, PyData.depthAll, d]
theorem notFirst_own {G : Addr} : PySem.W.notFirst K G (.ref G) = true := by
  unfold PySem.W.notFirst
  simp
theorem scKEq : FnScope ["self", "other"] ["self", "other"] (defScope (cls 19)) := ⟨rfl, rfl, rfl, by decide +kernel, rfl, by decide +kernel, by decide +kernel⟩
def spKEq (K : PySem.W.Frag) (C : Addr) : Sp := fun vs H Q _ => ∃ (p n t m q n2 t2 m2 : Addr) (ns ms : List Int), vs = [.ref p, .ref q] ∧ KindAt K C H p n t m ns ∧ KindAt K C H q n2 t2 m2 ms ∧ ∀ H', Ext H H' → Q (.bl (decide (ns = ms))) H'
theorem ok_keq (F : Fun K "__eq__" "Kind.__eq__" (cls 19) f fd) (T : Txt K mg) (Cl : KC K mg C) : FnOk P w K mg base CX0 1 f fd ["self", "other"] (spKEq K C) := by
  refine F.ok scKEq (fun vs H Q E h => ?_) (fun cdv A outer s H vs Q E hr h => ?_)
  · obtain ⟨p, n, t, m, q, n2, t2, m2, ns, ms, rfl, _⟩ := h
    rfl
  · obtain ⟨p, n, t, m, q, n2, t2, m2, ns, ms, rfl, ⟨⟨dx, hp⟩, hn, ht, hm, hF⟩, ⟨⟨dy, hq⟩, hn2, ht2, hm2, hF2⟩, k⟩ := h
    refine ⟨_, pss_one (ps_ret (pe_and (pe_callB call_isi (by rfl) T.isinstance (by decide +kernel) (pa_cons (pv 1) (pa_cons (pe_glob (v := .ref C) (by rfl) Cl.g rfl) pa_nil))) (pe_one (pe_cmpR (op_eqD hr.units) (pe_fld (pv 0) rfl) (pe_fld (pv 1) rfl) (nomark _))))), ?_⟩
    walk_at "rd"
    refine ⟨_, _, _, _, true, rfl, .own C, Cl.ty hq, Cl.kit, ?_⟩
    walk_at "rd"
    refine ⟨p, C, dx, _, _, rfl, hp, Cl.cl, Cl.noP, look2, ?_⟩
    walk_at "rd"
    refine ⟨q, C, dy, _, _, rfl, hq, Cl.cl, Cl.noP, look2, ?_⟩
    refine ⟨_, _, dp_pairQ ht hm, dp_pairQ ht2 hm2, sh_pairQ _ _, sh_pairQ _ _, ?_⟩
    have e1 : PyData.eqv (.tuple [.int ns.sum, .tuple (pdata (ns.map fun x => -x))]) (.tuple [.int ms.sum, .tuple (pdata (ms.map fun x => -x))]) = (decide (ns.sum = ms.sum) && (decide ((ns.map fun x => -x) = (ms.map fun x => -x)) && true)) := by
      simp only [PyData.eqv, PyData.eqvAll, peqv]
      rfl
    have e : (decide (ns.sum = ms.sum) && (decide ((ns.map fun x => -x) = (ms.map fun x => -x)) && true)) = decide (ns = ms) := by
      rw [Bool.and_true]
      by_cases h : ns = ms
      · subst h
        simp
      · rw [decide_eq_false (p := (ns.map fun x => -x) = (ms.map fun x => -x)) (fun z => h (neg_injQ.mp z)), decide_eq_false h, Bool.and_false]
    rw [e1, e]
    exact k H (fun _ _ z => z)
/-- two kinds of the same numbers -/
theorem g_neKind {H : Hp} {Q : VK} {E : XK} {p n t m q n2 t2 m2 : Addr} {ns ms : List Int} (Cl : KC K mg C) (hp : KindAt K C H p n t m ns) (hq : KindAt K C H q n2 t2 m2 ms) (k : ∀ H', Ext H H' → Q (.bl (!decide (ns = ms))) H') : rNeO K C (spKEq K C) E (.ref p) (.ref q) H Q := by
  obtain ⟨dx, hpi⟩ := id hp.ins
  obtain ⟨dy, hqi⟩ := id hq.ins
  exact ⟨p, dx, _, _, rfl, hpi, Cl.ty hqi, notFirst_own, p, n, t, m, q, n2, t2, m2, ns, ms, rfl, hp, hq, fun H' e => ⟨_, rfl, k H' e⟩⟩
end
end Q0

set_option Elab.async false
set_option linter.all false
set_option maxRecDepth 100000
set_option maxHeartbeats 4000000
/-! Sums and multiples of entries. -/
namespace Q0
open PySem PySem.Spec PyProof.Rows L2 Gd
local macro_rules | `(tactic| walk_at "rd1") => `(tactic| first | with_reducible refine g_ret ?_ | with_reducible refine g_retN ?_ | with_reducible refine g_seq ?_ | with_reducible refine g_next ?_ | with_reducible refine g_drop ?_ | with_reducible refine g_asg ?_ | with_reducible refine g_name ?_ | with_reducible refine g_ifs ?_ | with_reducible refine g_test ?_ | with_reducible refine g_tb ?_ | with_reducible refine g_and ?_ | with_reducible refine g_or ?_ | with_reducible refine g_not ?_ | with_reducible refine g_andV ?_ | with_reducible refine g_orV ?_ | with_reducible refine g_notV ?_ | with_reducible refine g_if ?_ | with_reducible refine g_op ?_ | with_reducible refine g_un ?_ | with_reducible refine g_cb ?_ | with_reducible refine g_nil ?_ | with_reducible refine g_cons ?_ | with_reducible refine g_call ?_ | with_reducible refine g_callS ?_ | with_reducible refine g_tup ?_ | with_reducible refine g_lst ?_ | with_reducible refine g_isN ?_ | with_reducible refine g_sl ?_ | with_reducible refine g_nopart ?_ | with_reducible refine g_part ?_ | with_reducible refine g_chain ?_ | with_reducible refine g_fld ?_ | with_reducible refine g_prop ?_ | with_reducible refine g_bm ?_ | with_reducible refine g_bm0 ?_ | with_reducible refine g_c ?_ | with_reducible refine g_sub ?_ | with_reducible refine g_int1 ?_ | with_reducible refine g_int2 ?_ | with_reducible refine g_yes ?_ | with_reducible refine g_sfld ?_ | with_reducible refine g_NT ?_ | with_reducible refine g_NF ?_ | with_reducible refine iteT ?_ | with_reducible refine iteF ?_ | ((with_reducible refine' g_aug ?hv ?_); (case hv => exact rfl)) | ((with_reducible refine' g_var ?hv ?_); (case hv => exact rfl)) | with_reducible refine g_I0 ?_ | with_reducible refine g_U ?_ | with_reducible refine g_eqI ?_ | with_reducible refine g_blV ?_ | with_reducible refine g_inV ?_)
local macro_rules | `(tactic| walk_at "rd") => `(tactic| repeat walk_at "rd1")
/-- over zip of three tuples of integers: all of them -/
theorem lcZ3 {K : PySem.W.Frag} {H1 : Hp} {tt : TT} {te : TE} {vs : List Nat} {σ : L2.St} {Q : VK} {a b c : Addr} {i1 i2 i3 : Nat} {ns ms ls : List Int} (ha : SqT K H1 a (ns.map V.int)) (hb : SqT K H1 b (ms.map V.int)) (hc : SqT K H1 c (ls.map V.int)) (h1 : ns.length = ls.length) (h2 : ms.length = ls.length) (hl : ls.length ≤ 900) (g : Int → Int → Int → V)
    (body : ∀ (i : Nat) (x y z : Int) H', ns[i]? = some x → ms[i]? = some y → ls[i]? = some z → Ext H1 H' → ∀ (Qe : VK) (Qn : Hp → Prop), (∀ H3, Ext H' H3 → Qe (g x y z) H3) →
      wipe ((((wipe σ vs).set i1 (some (.int x))).set i2 (some (.int y))).set i3 (some (.int z))) vs = wipe σ vs ∧ tt ((((wipe σ vs).set i1 (some (.int x))).set i2 (some (.int y))).set i3 (some (.int z))) H' fun b H3 => if b = true then te ((((wipe σ vs).set i1 (some (.int x))).set i2 (some (.int y))).set i3 (some (.int z))) H3 Qe else Qn H3)
    (k : ∀ H' D, Ext H1 H' → H1 D = none → H' D = some (.lst ((List.range ls.length).map fun i => g (ns.getD i 0) (ms.getD i 0) (ls.getD i 0))) → Q (.ref D) H') :
    ∃ k1 k2 k3 a' b' c' xs ys zs, [V.ref a, V.ref b, V.ref c] = [V.ref a', V.ref b', V.ref c'] ∧ SqE K k1 H1 a' xs ∧ SqE K k2 H1 b' ys ∧ SqE K k3 H1 c' zs ∧ LcG (ItzF K k1 k2 k3 a' b' c') (gTup K 3 (gCons (gName i1) (gCons (gName i2) (gCons (gName i3) gNil)))) tt te vs σ H1 Q := by
  refine ⟨false, false, false, a, b, c, _, _, _, rfl, ha, hb, hc, ?_⟩
  refine fun D hD => lc_rel (walk_zipF (xs := ns.map V.int) (ys := ms.map V.int) (zs := ls.map V.int) (n := ls.length) (by simp only [List.length_map]; omega)) (fun i y _ => y = g (ns.getD i 0) (ms.getD i 0) (ls.getD i 0)) (fun _ => true) (mono_fun _) hD
    (fun H' e => ⟨sqT_ext e ha, sqT_ext e hb, sqT_ext e hc⟩) (small (by omega)) (fun i x H' H'' hi e hy Qe Qn he hn => ?_) (fun H' ys e hd hr => ?_)
  · obtain ⟨T, x, y, z, rfl, hT, rfl, hx, hy, hz⟩ := hy
    have eT := Ext.new (o := HO.tup [x, y, z]) hT
    have ex : x = .int (ns.getD i 0) := by
      have hx' : (ns.map V.int)[i]? = some x := hx
      rw [getI (by omega)] at hx'
      exact (Option.some.inj hx').symm
    have ey : y = .int (ms.getD i 0) := by
      have hy' : (ms.map V.int)[i]? = some y := hy
      rw [getI (by omega)] at hy'
      exact (Option.some.inj hy').symm
    have ez : z = .int (ls.getD i 0) := by
      have hz' : (ls.map V.int)[i]? = some z := hz
      rw [getI (by omega)] at hz'
      exact (Option.some.inj hz').symm
    subst ex ey ez
    refine ⟨T, _, rfl, SqT.of upd_same, rfl, _, _, rfl, ?_⟩
    refine ⟨_, _, rfl, _, _, rfl, rfl, ?_⟩
    have g1 : ns[i]? = some (ns.getD i 0) := by rw [List.getD_eq_getElem?_getD, List.getElem?_eq_getElem (by omega)]; rfl
    have g2 : ms[i]? = some (ms.getD i 0) := by rw [List.getD_eq_getElem?_getD, List.getElem?_eq_getElem (by omega)]; rfl
    have g3 : ls[i]? = some (ls.getD i 0) := by rw [List.getD_eq_getElem?_getD, List.getElem?_eq_getElem (by omega)]; rfl
    exact body i _ _ _ _ g1 g2 g3 (Ext.trans e eT) Qe Qn (fun H3 e3 => he _ H3 (Ext.trans eT e3) rfl rfl)
  · rw [rel_fun hr, idx_all] at hd
    exact k H' D e hD hd
end Q0

set_option Elab.async false
set_option linter.all false
set_option maxRecDepth 100000
set_option maxHeartbeats 4000000
/-! Elements, listed. -/
namespace Q0
open PySem PySem.Spec PyProof.Rows L2 Gd
def oftM (p : Int) (ns xs : List Int) (m : Int) : List Int := (xs.zip ns).map fun q => q.1 * m % powI p q.2.toNat
section
variable {p : Int}
theorem powI_pos (hp : 2 ≤ p) (n : Nat) : 1 ≤ powI p n := powI_mono (by omega) n
theorem ing_nil {xs : List Int} : InG p [] xs ↔ xs = [] := ⟨fun h => List.length_eq_zero_iff.mp (by have := h.len; simpa using this), fun h => by rw [h]; exact ⟨rfl, nofun⟩⟩
theorem ing_cons {n x : Int} {ns xs : List Int} : InG p (n :: ns) (x :: xs) ↔ (0 ≤ x ∧ x < powI p n.toNat) ∧ InG p ns xs := by
  constructor
  · intro h
    refine ⟨h.bd (x, n) List.mem_cons_self, ⟨by have := h.len; simpa using this, fun q hq => h.bd q (List.mem_cons_of_mem _ hq)⟩⟩
  · rintro ⟨h1, h2⟩
    refine ⟨by rw [List.length_cons, List.length_cons, h2.len], fun q hq => ?_⟩
    rw [List.zip_cons_cons] at hq
    rcases List.mem_cons.mp hq with e | e
    · rw [e]
      exact h1
    · exact h2.bd q e
theorem els_go : ∀ (ns : List Int) (acc : List (List Int)) (xs : List Int), xs ∈ ns.foldl (fun acc n => elsStep p n acc) acc ↔ ∃ r ∈ acc, ∃ s, xs = r ++ s ∧ InG p ns s
  | [], acc, xs => by
    rw [List.foldl_nil]
    constructor
    · intro h
      exact ⟨xs, h, [], by rw [List.append_nil], ing_nil.mpr rfl⟩
    · rintro ⟨r, hr, s, rfl, hs⟩
      rw [ing_nil.mp hs, List.append_nil]
      exact hr
  | n :: ns, acc, xs => by
    rw [List.foldl_cons, els_go ns]
    constructor
    · rintro ⟨r', hr', s, rfl, hs⟩
      obtain ⟨r, hr, h⟩ := List.mem_flatMap.mp hr'
      obtain ⟨c, hc, rfl⟩ := List.mem_map.mp h
      refine ⟨r, hr, (c : Int) :: s, by simp, ing_cons.mpr ⟨⟨by omega, ?_⟩, hs⟩⟩
      have := List.mem_range.mp hc
      omega
    · rintro ⟨r, hr, s, rfl, hs⟩
      cases s with
      | nil =>
        have := hs.len
        simp at this
      | cons x s =>
        have h := ing_cons.mp hs
        refine ⟨r ++ [x], List.mem_flatMap.mpr ⟨r, hr, List.mem_map.mpr ⟨x.toNat, List.mem_range.mpr (by omega), ?_⟩⟩, s, by simp, h.2⟩
        rw [Int.toNat_of_nonneg h.1.1]
theorem els_mem {ns xs : List Int} : xs ∈ els p ns ↔ InG p ns xs := by
  unfold els
  rw [els_go]
  constructor
  · rintro ⟨r, hr, s, rfl, hs⟩
    rw [List.mem_singleton.mp hr]
    exact hs
  · intro h
    exact ⟨[], List.mem_singleton.mpr rfl, xs, rfl, h⟩
theorem ing_oft (hp : 2 ≤ p) (m : Int) : ∀ {ns xs : List Int}, InG p ns xs → InG p ns (oftM p ns xs m)
  | [], xs, h => by
    rw [ing_nil.mp h]
    exact ing_nil.mpr rfl
  | n :: ns, [], h => by have := h.len; simp at this
  | n :: ns, x :: xs, h => by
    have h' := ing_cons.mp h
    have hpos := powI_pos hp n.toNat
    show InG p (n :: ns) ((x * m % powI p n.toNat) :: oftM p ns xs m)
    exact ing_cons.mpr ⟨⟨Int.emod_nonneg _ (by omega), Int.emod_lt_of_pos _ (by omega)⟩, ing_oft hp m h'.2⟩
end
end Q0

set_option Elab.async false
set_option linter.all false
set_option maxRecDepth 100000
set_option maxHeartbeats 4000000
/-! Entries: sums, multiples, all of them. -/
namespace Q0
open PySem PySem.Spec PyProof.Rows L2 Gd
local macro_rules | `(tactic| walk_at "rd1") => `(tactic| first | with_reducible refine g_ret ?_ | with_reducible refine g_retN ?_ | with_reducible refine g_seq ?_ | with_reducible refine g_next ?_ | with_reducible refine g_drop ?_ | with_reducible refine g_asg ?_ | with_reducible refine g_name ?_ | with_reducible refine g_ifs ?_ | with_reducible refine g_test ?_ | with_reducible refine g_tb ?_ | with_reducible refine g_and ?_ | with_reducible refine g_or ?_ | with_reducible refine g_not ?_ | with_reducible refine g_andV ?_ | with_reducible refine g_orV ?_ | with_reducible refine g_notV ?_ | with_reducible refine g_if ?_ | with_reducible refine g_op ?_ | with_reducible refine g_un ?_ | with_reducible refine g_cb ?_ | with_reducible refine g_nil ?_ | with_reducible refine g_cons ?_ | with_reducible refine g_call ?_ | with_reducible refine g_callS ?_ | with_reducible refine g_tup ?_ | with_reducible refine g_lst ?_ | with_reducible refine g_isN ?_ | with_reducible refine g_sl ?_ | with_reducible refine g_nopart ?_ | with_reducible refine g_part ?_ | with_reducible refine g_chain ?_ | with_reducible refine g_fld ?_ | with_reducible refine g_prop ?_ | with_reducible refine g_bm ?_ | with_reducible refine g_bm0 ?_ | with_reducible refine g_c ?_ | with_reducible refine g_sub ?_ | with_reducible refine g_int1 ?_ | with_reducible refine g_int2 ?_ | with_reducible refine g_yes ?_ | with_reducible refine g_sfld ?_ | with_reducible refine g_NT ?_ | with_reducible refine g_NF ?_ | with_reducible refine iteT ?_ | with_reducible refine iteF ?_ | ((with_reducible refine' g_aug ?hv ?_); (case hv => exact rfl)) | ((with_reducible refine' g_var ?hv ?_); (case hv => exact rfl)) | with_reducible refine g_I0 ?_ | with_reducible refine g_U ?_ | with_reducible refine g_eqI ?_ | with_reducible refine g_blV ?_ | with_reducible refine g_inV ?_)
local macro_rules | `(tactic| walk_at "rd") => `(tactic| repeat walk_at "rd1")
def timesM (os xs : List Int) (m : Int) : List Int := (xs.zip os).map fun q => q.1 * m % q.2
def plusM (os xs ys : List Int) : List Int := (List.range os.length).map fun i => (xs.getD i 0 + ys.getD i 0) % os.getD i 0
section
variable {P : Program} {w : World} {K : PySem.W.Frag} {mg : Str → Option Value} {base : Heap} {f C G tP : Addr} {fd : FuncData}
abbrev sTimesE : Stmt := top 22
theorem scTimesE : FnScope ["orders", "entries", "number", "entry", "order"] ["orders", "entries", "number"] (defScope sTimesE) := ⟨rfl, rfl, rfl, by decide +kernel, rfl, by decide +kernel, by decide +kernel⟩
def spTimesE (K : PySem.W.Frag) : Sp := fun vs H Q _ => ∃ (a b : Addr) (os xs : List Int) (m : Int), vs = [.ref a, .ref b, .int m] ∧ SqT K H a (os.map V.int) ∧ SqT K H b (xs.map V.int) ∧ xs.length ≤ 900 ∧ (∀ x ∈ xs, -256 ≤ x ∧ x ≤ 256) ∧ (∀ o ∈ os, 0 < o) ∧
  ∀ H' u, Ext H H' → TR H' (.ref u) (timesM os xs m) → Q (.ref u) H'
theorem ok_timesE (F : Fun K "times_entries" "times_entries" sTimesE f fd) (T : Txt K mg) : FnOk P w K mg base CX0 1 f fd ["orders", "entries", "number"] (spTimesE K) := by
  refine F.ok scTimesE (fun vs H Q E h => ?_) (fun cdv A outer s H vs Q E hr h => ?_)
  · obtain ⟨a, b, os, xs, m, rfl, _⟩ := h
    rfl
  · obtain ⟨a, b, os, xs, m, rfl, hs, ht, hl, hx, ho, k⟩ := h
    refine ⟨_, pss_one (ps_ret (pe_callTy call_tuple_of (by rfl) T.tuple (by decide +kernel) (pa_cons (pe_lc (own := [("entry", 3), ("order", 4)]) (g := gTup K 2 (gCons (gName 3) (gCons (gName 4) gNil))) (tt := tYes) rfl scTimesE.nd (pi_zipE (by rfl) T.zip (pa_cons (pv 1) (pa_cons (pv 0) pa_nil))) (blkOk_by (N := ["orders", "entries", "number", "entry", "order"]) (sc := defScope sTimesE) (by decide +kernel)) (fun _ _ _ _ _ => pg_tup rfl (pgs_cons (pg_name (i := 3) scTimesE.nd rfl (Or.inl rfl)) (pgs_cons (pg_name (i := 4) scTimesE.nd rfl (Or.inl rfl)) pgs_nil))) (fun _ _ _ _ _ => pts_nil) (fun _ _ _ _ _ => by exact (pe_op op_modN (pe_op op_mul (pv 3) (pv 2)) (pv 4)))) pa_nil))), ?_⟩
    walk_at "rd"
    refine g_lc ?_
    unfold iZipE
    walk_at "rd"
    refine lcZI ht hs hl (fun _ _ => true) (fun x o => .int (x * m % o)) (fun x o H' hxo e Qe Qn he _ => ?_) (fun H' D e hD hd => ?_)
    · have h1 := hx x (List.of_mem_zip hxo).1
      have h2 := ho o (List.of_mem_zip hxo).2
      refine ⟨rfl, ?_⟩
      walk_at "rd"
      refine g_I (.inl ⟨by omega, by omega⟩) ?_
      walk_at "rd"
      refine g_I (show o ≠ 0 by omega) ?_
      rw [Int.fmod_eq_emod_of_nonneg _ (by omega)]
      exact he _ (fun _ _ z => z) rfl
    · rw [filter_yes] at hd
      walk_at "rd"
      refine ⟨D, _, rfl, .inl ⟨SqL.of hd, fun l hl => ?_⟩⟩
      refine k _ l (Ext.trans e (Ext.new hl)) ⟨l, rfl, ?_⟩
      unfold timesM
      rw [upd_same, List.map_map]
      rfl
abbrev sPlusE : Stmt := top 21
theorem scPlusE : FnScope ["orders", "one", "other", "x", "y", "order"] ["orders", "one", "other"] (defScope sPlusE) := ⟨rfl, rfl, rfl, by decide +kernel, rfl, by decide +kernel, by decide +kernel⟩
def spPlusE (K : PySem.W.Frag) : Sp := fun vs H Q _ => ∃ (a b c : Addr) (os xs ys : List Int), vs = [.ref a, .ref b, .ref c] ∧ SqT K H a (os.map V.int) ∧ SqT K H b (xs.map V.int) ∧ SqT K H c (ys.map V.int) ∧ xs.length = os.length ∧ ys.length = os.length ∧ os.length ≤ 900 ∧ (∀ o ∈ os, 0 < o) ∧
  ∀ H' u, Ext H H' → TR H' (.ref u) (plusM os xs ys) → Q (.ref u) H'
theorem ok_plusE (F : Fun K "plus_entries" "plus_entries" sPlusE f fd) (T : Txt K mg) : FnOk P w K mg base CX0 1 f fd ["orders", "one", "other"] (spPlusE K) := by
  refine F.ok scPlusE (fun vs H Q E h => ?_) (fun cdv A outer s H vs Q E hr h => ?_)
  · obtain ⟨a, b, c, os, xs, ys, rfl, _⟩ := h
    rfl
  · obtain ⟨a, b, c, os, xs, ys, rfl, hs, ht, hu, h1, h2, hl, ho, k⟩ := h
    refine ⟨_, pss_one (ps_ret (pe_callTy call_tuple_of (by rfl) T.tuple (by decide +kernel) (pa_cons (pe_lc (own := [("x", 3), ("y", 4), ("order", 5)]) (g := gTup K 3 (gCons (gName 3) (gCons (gName 4) (gCons (gName 5) gNil)))) (tt := tYes) rfl scPlusE.nd (pi_zipF (by rfl) T.zip (pa_cons (pv 1) (pa_cons (pv 2) (pa_cons (pv 0) pa_nil)))) (blkOk_by (N := ["orders", "one", "other", "x", "y", "order"]) (sc := defScope sPlusE) (by decide +kernel)) (fun _ _ _ _ _ => pg_tup rfl (pgs_cons (pg_name (i := 3) scPlusE.nd rfl (Or.inl rfl)) (pgs_cons (pg_name (i := 4) scPlusE.nd rfl (Or.inl rfl)) (pgs_cons (pg_name (i := 5) scPlusE.nd rfl (Or.inl rfl)) pgs_nil)))) (fun _ _ _ _ _ => pts_nil) (fun _ _ _ _ _ => by exact (pe_op op_modN (pe_op op_add (pv 3) (pv 4)) (pv 5)))) pa_nil))), ?_⟩
    walk_at "rd"
    refine g_lc ?_
    unfold iZipF
    walk_at "rd"
    refine lcZ3 ht hu hs h1 h2 hl (fun x y o => .int ((x + y) % o)) (fun i x y o H' hx hy hz e Qe Qn he => ?_) (fun H' D e hD hd => ?_)
    · have h2 := ho o (List.mem_of_getElem? hz)
      refine ⟨rfl, ?_⟩
      walk_at "rd"
      refine g_I (show o ≠ 0 by omega) ?_
      rw [Int.fmod_eq_emod_of_nonneg _ (by omega)]
      exact he _ (fun _ _ z => z)
    · walk_at "rd"
      refine ⟨D, _, rfl, .inl ⟨SqL.of hd, fun l hl => ?_⟩⟩
      refine k _ l (Ext.trans e (Ext.new hl)) ⟨l, rfl, ?_⟩
      unfold plusM
      rw [upd_same, List.map_map]
      rfl
/-! ### all entries -/
abbrev sAllE : Stmt := top 19
theorem scAllE : FnScope ["orders", "found", "order", "entries", "entry"] ["orders"] (defScope sAllE) := ⟨rfl, rfl, rfl, by decide +kernel, rfl, by decide +kernel, by decide +kernel⟩
def allStep (o : Int) (acc : List (List Int)) : List (List Int) := acc.flatMap fun r => (List.range o.toNat).map fun (e : Nat) => r ++ [(e : Int)]
def allM (os : List Int) : List (List Int) := os.foldl (fun acc o => allStep o acc) [[]]
theorem allM_els (p : Int) (ns : List Int) : allM (ordsM p ns) = els p ns := by
  unfold allM els ordsM
  rw [List.foldl_map]
  rfl
theorem allM_snoc (os : List Int) (o : Int) : allM (os ++ [o]) = allStep o (allM os) := by
  unfold allM
  rw [List.foldl_append]
  rfl
theorem allStep_len (o : Int) : ∀ acc : List (List Int), (allStep o acc).length = acc.length * o.toNat
  | [] => by simp [allStep]
  | x :: acc => by
    have ih := allStep_len o acc
    have e : allStep o (x :: acc) = ((List.range o.toNat).map fun (e : Nat) => x ++ [(e : Int)]) ++ allStep o acc := by
      unfold allStep
      rw [List.flatMap_cons]
    rw [e, List.length_append, ih, List.length_map, List.length_range, List.length_cons, Nat.succ_mul]
    omega
theorem allStep_at (o : Int) : ∀ (acc : List (List Int)) (i j : Nat) (xs : List Int), acc[i]? = some xs → j < o.toNat → (allStep o acc)[i * o.toNat + j]? = some (xs ++ [(j : Int)])
  | [], i, j, xs, h, _ => by simp at h
  | x :: acc, i, j, xs, h, hj => by
    have e : allStep o (x :: acc) = ((List.range o.toNat).map fun (e : Nat) => x ++ [(e : Int)]) ++ allStep o acc := by
      unfold allStep
      rw [List.flatMap_cons]
    rw [e]
    cases i with
    | zero =>
      have e' := Option.some.inj h
      subst e'
      rw [Nat.zero_mul, Nat.zero_add, List.getElem?_append_left (by rw [List.length_map, List.length_range]; exact hj), List.getElem?_map, List.getElem?_range hj]
      rfl
    | succ i =>
      rw [List.getElem?_append_right (by rw [List.length_map, List.length_range, Nat.succ_mul]; omega), List.length_map, List.length_range]
      have : (i + 1) * o.toNat + j - o.toNat = i * o.toNat + j := by rw [Nat.succ_mul]; omega
      rw [this]
      exact allStep_at o acc i j xs h hj
def spAllE (K : PySem.W.Frag) : Sp := fun vs H Q _ => ∃ (a : Addr) (os : List Int), vs = [.ref a] ∧ SqT K H a (os.map V.int) ∧ os.length ≤ 100 ∧ (∀ o ∈ os, 0 ≤ o ∧ o ≤ 1000) ∧ (∀ i, (allM (os.take i)).length ≤ 1000) ∧
  ∀ H' F fs, Ext H H' → H F = none → H' F = some (.lst fs) → TRs H' fs (allM os) → Q (.ref F) H'
theorem g_starT {te : TE} {t : TA} {σ : L2.St} {H : Hp} {QA : List V → Hp → Prop} (k : te σ H fun y H1 => ∃ a xs, y = V.ref a ∧ (SqT K H1 a xs ∨ SqL K H1 a xs) ∧ t σ H1 fun vs H2 => QA (xs ++ vs) H2) : StX.tStar K te t σ H QA := k
theorem ok_allE (F : Fun K "all_entries" "all_entries" sAllE f fd) (T : Txt K mg) : FnOk P w K mg base CX0 1 f fd ["orders"] (spAllE K) := by
  refine F.ok scAllE (fun vs H Q E h => ?_) (fun cdv A outer s H vs Q E hr h => ?_)
  · obtain ⟨a, os, rfl, _⟩ := h
    rfl
  · obtain ⟨a, os, rfl, hs, hl, ho, hn, k⟩ := h
    refine ⟨_, pss_cons (ps_set (i := 1) scAllE.nd rfl (Or.inl rfl) (pe_lst (pa_cons (pe_tup pa_nil) pa_nil)))
      (pss_cons (ps_for PassesOwn.never rfl (pi_tup (pv 0)) (pg_name (i := 2) scAllE.nd rfl (Or.inr rfl))
        (pss_one (ps_setLc2 (i := 1) (own := [("entries", 3), ("entry", 4)]) (vs1 := [4]) (g := gName 3) (tt := tYes) (g1 := gName 4) (tt1 := tYes) (wi1 := iRng1 (tCons (tVar 2) tNil)) (te := tTup (StX.tStar K (tVar 3) (tCons (tVar 4) tNil))) rfl scAllE.nd rfl rfl (sw_true rfl rfl rfl (by decide +kernel)) (pi_list (pv 1)) (blkOk_by (N := ["orders", "found", "order", "entries", "entry"]) (sc := defScope sAllE) (by decide +kernel)) (by decide)
          (fun _ _ _ _ _ => pg_name (i := 3) scAllE.nd rfl (Or.inl rfl)) (fun _ _ _ _ _ => pts_nil) (fun _ _ _ _ _ => by exact pi_range1 (by rfl) T.range (pa_cons (pv 2) pa_nil)) (fun _ _ _ _ _ => pg_name (i := 4) scAllE.nd rfl (Or.inl rfl)) (fun _ _ _ _ _ => pts_nil)
          (fun _ _ _ _ _ => by exact pe_tup (StX.pa_star (pv 3) (pa_cons (pv 4) pa_nil))))))
      (pss_one (ps_ret (pv 1)))), ?_⟩
    walk_at "rd"
    refine ⟨Nat.zero_le _, fun u hu => ?_⟩
    walk_at "rd"
    have eu := Ext.new (o := HO.tup []) hu
    refine ⟨by show 1 ≤ sizeLine; decide, fun Fa hFa => ?_⟩
    have eF := Ext.new (o := HO.lst [V.ref u]) hFa
    have hu1 : TR (upd (upd H u (HO.tup [])) Fa (HO.lst [V.ref u])) (.ref u) [] := ⟨u, rfl, eF _ _ upd_same⟩
    have hF1 : upd (upd H u (HO.tup [])) Fa (HO.lst [V.ref u]) Fa = some (.lst [V.ref u]) := upd_same
    have e1 := Ext.trans eu eF
    have hFa0 : H Fa = none := new_up eu hFa
    generalize upd (upd H u (HO.tup [])) Fa (HO.lst [V.ref u]) = H1 at hu1 hF1 e1 ⊢
    walk_at "rd"
    refine g_forT ?_
    walk_at "rd"
    refine forT (sqT_ext e1 hs) (fun i σ H' => ∃ (Fi : Addr) (fs : List V) (x2 : Option V), σ = [some (.ref a), some (.ref Fi), x2, none, none] ∧ Ext H H' ∧ H Fi = none ∧ H' Fi = some (.lst fs) ∧ TRs H' fs (allM (os.take i)) ∧ (∀ xs ∈ allM (os.take i), xs.length = i))
      ⟨Fa, [.ref u], none, rfl, e1, hFa0, hF1, .cons hu1 .nil, fun xs hx => ?_⟩ (fun i σ H' _ hP => ?_) (fun i x σ H' hx hP => ?_) (fun σ H' hP => ?_)
    · have : xs = [] := List.mem_singleton.mp hx
      rw [this]
      rfl
    · obtain ⟨_, _, _, _, e, _⟩ := hP
      exact sqT_ext e hs
    · obtain ⟨Fi, fs, x2, rfl, e, hFi0, hFi, hfs, hlx⟩ := hP
      rw [mapget] at hx
      cases hno : os[i]? with
      | none => rw [hno] at hx; cases hx
      | some o =>
      rw [hno] at hx
      cases hx
      have hi := (List.getElem?_eq_some_iff.mp hno).1
      have hom := ho o (List.mem_of_getElem? hno)
      have etake : os.take (i + 1) = os.take i ++ [o] := by rw [List.take_add_one, hno]; rfl
      have hni := hn i
      have hll := pair_len hfs
      walk_at "rd"
      refine g_lc2 ?_
      refine g_ilistC ?_
      walk_at "rd"
      have hbig : fs.length * o.toNat ≤ 1000 * 1000 := Nat.mul_le_mul (by omega) (by omega)
      have hsz : (1000001 : Nat) < sizeLine := by decide
      refine lc2LR (n := o.toNat) (SqL.of hFi) (by omega) (fun i' j y H => ∀ xs, (allM (os.take i))[i']? = some xs → TR H y (xs ++ [(j : Int)])) (fun i' j y H H' e r xs hxs => (r xs hxs).keeps e) (fun v => rfl) (fun v u => rfl) (fun i' x H6 hx e6 R q => ?_) (fun i' j x H6 hx hj e6 Qe he => ?_) (fun H6 D ys e6 hD hd hyl hyr => ?_)
      · refine g_rng1 ?_
        walk_at "rd"
        exact ⟨by omega, by omega, q⟩
      · obtain ⟨xs, hxs, b, rfl, hb⟩ := pair_at hfs i' x hx
        have hxl := hlx xs (List.mem_of_getElem? hxs)
        refine g_tup ?_
        refine g_starT ?_
        walk_at "rd"
        refine ⟨b, _, rfl, .inl (SqT.of (e6 _ _ hb)), ?_⟩
        walk_at "rd"
        refine ⟨by rw [List.length_append, List.length_map, List.length_singleton]; exact smallH (by omega), fun t ht => ?_⟩
        refine he _ _ (Ext.new ht) fun xs' hxs' => ?_
        rw [hxs] at hxs'
        cases hxs'
        refine ⟨t, rfl, ?_⟩
        rw [upd_same, List.map_append]
        rfl
      · walk_at "rd"
        refine ⟨D, ys, _, rfl, Ext.trans e e6, new_up e hD, hd, ?_, ?_⟩
        · rw [etake, allM_snoc]
          refine pair_of (by rw [hyl, allStep_len, hll]) fun c y zs hy hz => ?_
          have hc : c < ys.length := (List.getElem?_eq_some_iff.mp hy).1
          have hpos : 0 < o.toNat := by
            by_cases z : 0 < o.toNat
            · exact z
            · rw [hyl, show o.toNat = 0 by omega, Nat.mul_zero] at hc
              omega
          have hcd : c / o.toNat * o.toNat + c % o.toNat = c := by
            have := Nat.div_add_mod c o.toNat
            rw [Nat.mul_comm] at this
            exact this
          have hcm := Nat.mod_lt c hpos
          have hci : c / o.toNat < (allM (os.take i)).length := by
            rw [← hll]
            exact Nat.div_lt_of_lt_mul (by rw [Nat.mul_comm]; omega)
          have hxs : (allM (os.take i))[c / o.toNat]? = some (allM (os.take i))[c / o.toNat] := List.getElem?_eq_getElem hci
          have h1 := hyr (c / o.toNat) (c % o.toNat) y hcm (by rw [hcd]; exact hy) _ hxs
          have h2 := allStep_at o _ _ _ _ hxs hcm
          rw [hcd, hz] at h2
          rw [Option.some.inj h2]
          exact h1
        · rw [etake, allM_snoc]
          intro xs hxs
          obtain ⟨r, hr, hxs⟩ := List.mem_flatMap.mp hxs
          obtain ⟨c, hc, rfl⟩ := List.mem_map.mp hxs
          rw [List.length_append, hlx r hr]
          rfl
    · obtain ⟨Fi, fs, x2, rfl, e, hFi0, hFi, hfs, hlx⟩ := hP
      rw [List.length_map, List.take_length] at hfs
      walk_at "rd"
      exact k H' Fi fs e hFi0 hFi hfs
end
end Q0

set_option Elab.async false
set_option linter.all false
set_option maxRecDepth 100000
set_option maxHeartbeats 4000000
/-! Groups: size, base, orders, sums, multiples, ==, len, texts. -/
namespace Q0
open PySem PySem.Spec PyProof.Rows L2 Gd
local macro_rules | `(tactic| walk_at "rd1") => `(tactic| first | with_reducible refine g_ret ?_ | with_reducible refine g_retN ?_ | with_reducible refine g_seq ?_ | with_reducible refine g_next ?_ | with_reducible refine g_drop ?_ | with_reducible refine g_asg ?_ | with_reducible refine g_name ?_ | with_reducible refine g_ifs ?_ | with_reducible refine g_test ?_ | with_reducible refine g_tb ?_ | with_reducible refine g_and ?_ | with_reducible refine g_or ?_ | with_reducible refine g_not ?_ | with_reducible refine g_andV ?_ | with_reducible refine g_orV ?_ | with_reducible refine g_notV ?_ | with_reducible refine g_if ?_ | with_reducible refine g_op ?_ | with_reducible refine g_un ?_ | with_reducible refine g_cb ?_ | with_reducible refine g_nil ?_ | with_reducible refine g_cons ?_ | with_reducible refine g_call ?_ | with_reducible refine g_callS ?_ | with_reducible refine g_tup ?_ | with_reducible refine g_lst ?_ | with_reducible refine g_isN ?_ | with_reducible refine g_sl ?_ | with_reducible refine g_nopart ?_ | with_reducible refine g_part ?_ | with_reducible refine g_chain ?_ | with_reducible refine g_fld ?_ | with_reducible refine g_prop ?_ | with_reducible refine g_bm ?_ | with_reducible refine g_bm0 ?_ | with_reducible refine g_c ?_ | with_reducible refine g_sub ?_ | with_reducible refine g_int1 ?_ | with_reducible refine g_int2 ?_ | with_reducible refine g_yes ?_ | with_reducible refine g_sfld ?_ | with_reducible refine g_NT ?_ | with_reducible refine g_NF ?_ | with_reducible refine iteT ?_ | with_reducible refine iteF ?_ | ((with_reducible refine' g_aug ?hv ?_); (case hv => exact rfl)) | ((with_reducible refine' g_var ?hv ?_); (case hv => exact rfl)) | with_reducible refine g_I0 ?_ | with_reducible refine g_U ?_ | with_reducible refine g_eqI ?_ | with_reducible refine g_blV ?_ | with_reducible refine g_inV ?_)
local macro_rules | `(tactic| walk_at "rd") => `(tactic| repeat walk_at "rd1")
def rowB (n i : Nat) : List Int := (List.range n).map fun j => if j = i then 1 else 0
def baseM (n : Nat) : List (List Int) := (List.range n).map fun i => rowB n i
section
variable {P : Program} {w : World} {K : PySem.W.Frag} {mg : Str → Option Value} {base : Heap} {f C G tP : Addr} {fd : FuncData}
abbrev sBaseOf : Stmt := top 20
theorem scBaseOf : FnScope ["orders", "place", "i"] ["orders"] (defScope sBaseOf) := ⟨rfl, rfl, rfl, by decide +kernel, rfl, by decide +kernel, by decide +kernel⟩
def spBaseOf (K : PySem.W.Frag) : Sp := fun vs H Q _ => ∃ (a : Addr) (os : List Int), vs = [.ref a] ∧ SqT K H a (os.map V.int) ∧ os.length ≤ 100 ∧ ∀ H' u ys, Ext H H' → H' u = some (.tup ys) → TRs H' ys (baseM os.length) → Q (.ref u) H'
theorem ok_baseOf (F : Fun K "base_of" "base_of" sBaseOf f fd) (T : Txt K mg) : FnOk P w K mg base CX0 1 f fd ["orders"] (spBaseOf K) := by
  refine F.ok scBaseOf (fun vs H Q E h => ?_) (fun cdv A outer s H vs Q E hr h => ?_)
  · obtain ⟨a, os, rfl, _⟩ := h
    rfl
  · obtain ⟨a, os, rfl, hs, hl, k⟩ := h
    refine ⟨_, pss_one (ps_ret (pe_callTy call_tuple_of (by rfl) T.tuple (by decide +kernel) (pa_cons (pe_lc (own := [("place", 1)]) (g := gName 1) (tt := tYes) rfl scBaseOf.nd (pi_range1 (by rfl) T.range (pa_cons (pe_callB call_len_seq (by rfl) T.len PySem.boot_len (pa_cons (pv 0) pa_nil)) pa_nil)) (blkOk_by (N := ["orders", "place", "i"]) (sc := defScope sBaseOf) (by decide +kernel)) (fun _ _ _ _ _ => pg_name (i := 1) scBaseOf.nd rfl (Or.inr rfl)) (fun _ _ _ _ _ => pts_nil) (fun _ _ _ _ _ => by exact (pe_callTy (T := "tuple") (r := rTupOf K) call_tuple_of (by rfl) T.tuple (by decide +kernel) (pa_cons (pe_lc (own := [("i", 2)]) (g := gName 2) (tt := tYes) rfl scBaseOf.nd (pi_range1 (by rfl) T.range (pa_cons (pe_callB (r := rLenS K) call_len_seq (by rfl) T.len PySem.boot_len (pa_cons (pv 0) pa_nil)) pa_nil)) (blkOk_by (N := ["orders", "place", "i"]) (sc := { kind := .function, names := [((".0" : Str), .local), ("place", .cell), ("tuple", .globalImplicit), ("range", .globalImplicit), ("len", .globalImplicit), ("orders", .cell)], isGenerator := false, isCoroutine := false, more := [] }) (by decide +kernel)) (fun _ _ _ _ _ => pg_name (i := 2) scBaseOf.nd rfl (Or.inl rfl)) (fun _ _ _ _ _ => pts_nil) (fun _ _ _ _ _ => by exact (pe_ifExp (pt_cmpR op_eq (pv 2) (pv 1) (nomark _)) pe_int pe_int))) pa_nil)))) pa_nil))), ?_⟩
    walk_at "rd"
    refine g_lc (g_rng1 ?_)
    walk_at "rd"
    refine ⟨a, _, rfl, .inr hs, ?_⟩
    walk_at "rd"
    rw [List.length_map]
    refine ⟨by omega, by omega, ?_⟩
    rw [Int.toNat_natCast]
    refine lcRR (small (by omega)) (fun i y H => TR H y (rowB os.length i)) (fun i y H H' e r => r.keeps e) (fun i H1 hi e1 Qe Qn he => ?_) (fun H1 D ys e1 hD hd hyl hyr => ?_)
    · rw [Int.zero_add]
      refine ⟨rfl, ?_⟩
      walk_at "rd"
      refine g_lc (g_rng1 ?_)
      walk_at "rd"
      refine ⟨a, _, rfl, .inr (sqT_ext e1 hs), ?_⟩
      walk_at "rd"
      rw [List.length_map]
      refine ⟨by omega, by omega, ?_⟩
      rw [Int.toNat_natCast]
      refine lcR (small (by omega)) (fun _ => true) (fun j => .int (if j = i then 1 else 0)) (fun j H2 hj e2 Qe2 Qn2 he2 hn2 => ?_) (fun H2 D e2 hD hd => ?_)
      · rw [Int.zero_add]
        refine ⟨rfl, ?_⟩
        walk_at "rd"
        have h3 := he2 H2 (fun _ _ z => z) rfl
        by_cases hji : j = i
        · rw [if_pos hji] at h3
          rw [decide_eq_true (show ((j : Int)) = (i : Int) by omega)]
          walk_at "rd"
          exact h3
        · rw [if_neg hji] at h3
          rw [decide_eq_false (show ¬ ((j : Int)) = (i : Int) by omega)]
          walk_at "rd"
          exact h3
      · rw [idx_all] at hd
        walk_at "rd"
        refine ⟨D, _, rfl, .inl ⟨SqL.of hd, fun l hl0 => ?_⟩⟩
        refine he _ _ (Ext.trans e2 (Ext.new hl0)) ⟨l, rfl, ?_⟩
        unfold rowB
        rw [upd_same, List.map_map]
        rfl
    · walk_at "rd"
      refine ⟨D, ys, rfl, .inl ⟨SqL.of hd, fun l hl0 => ?_⟩⟩
      refine k _ l ys (Ext.trans e1 (Ext.new hl0)) upd_same (trs_ext (Ext.new hl0) (pair_of (by rw [hyl]; unfold baseM; rw [List.length_map, List.length_range]) fun c y xs h1 h2 => ?_))
      have hc := (List.getElem?_eq_some_iff.mp h1).1
      unfold baseM at h2
      rw [List.getElem?_map, List.getElem?_range (by omega)] at h2
      cases h2
      exact hyr c y h1
/-! ### properties -/
theorem scGSz : FnScope ["self"] ["self"] (defScope (gcl 3)) := ⟨rfl, rfl, rfl, by decide +kernel, rfl, by decide +kernel, by decide +kernel⟩
def spGSz (K : PySem.W.Frag) (C G : Addr) : Sp := fun vs H Q _ => ∃ (g : Addr) (p : Int) (ns : List Int), vs = [.ref g] ∧ GrpAt K C G H g p ns ∧ ∀ H', Ext H H' → Q (.int (powI p ns.sum.toNat)) H'
theorem ok_gsize (F : Fun K "size" "Group.size" (gcl 3) f fd) (Cl : KC K mg C) (Gl : GC K mg G tP) (Po : Def1 P w K mg base CX0 1 "power_of" ["number", "many"] (spPowerOf K)) (Ps : Pro1 P w K mg base 1 C "size" (spGet K C fun _ ns => .int ns.sum)) : FnOk P w K mg base CX0 3 f fd ["self"] (spGSz K C G) := by
  refine F.ok scGSz (fun vs H Q E h => ?_) (fun cdv A outer s H vs Q E hr h => ?_)
  · obtain ⟨g, p, ns, rfl, _⟩ := h
    rfl
  · obtain ⟨g, p, ns, rfl, hg, k⟩ := h
    obtain ⟨dx, q, o, l, n, t, m, h1, h2, h3, h4⟩ := id hg.ins
    obtain ⟨dy, hqi⟩ := id h2.ins
    refine ⟨_, pss_one (ps_ret (pe_def Po hr (by decide) (by rfl) (pa_cons (pe_fld (pv 0) rfl) (pa_cons (pe_pro1 Cl.cl Ps hr (by decide) (pe_fld (pv 0) rfl)) pa_nil)))), ?_⟩
    have h0 := hg.fall.sum0
    have h12 := hg.fall.sum
    have h7 := hg.pr.bd
    walk_at "rd"
    refine ⟨g, G, dx, _, _, rfl, h1, Gl.cl, Gl.nP, lookG1, ?_⟩
    walk_at "rd"
    refine ⟨g, G, dx, _, _, rfl, h1, Gl.cl, Gl.nK, lookG2, ?_⟩
    refine ⟨q, dy, _, rfl, hqi, q, n, t, m, ns, rfl, h2, fun H1 e1 => ?_⟩
    walk_at "rd"
    refine ⟨p, ns.sum.toNat, by rw [Int.toNat_of_nonneg h0]; rfl, by omega, ⟨by omega, by omega⟩, k H1 e1⟩
theorem scGBa : FnScope ["self"] ["self"] (defScope (gcl 5)) := ⟨rfl, rfl, rfl, by decide +kernel, rfl, by decide +kernel, by decide +kernel⟩
def spGBa (K : PySem.W.Frag) (C G : Addr) : Sp := fun vs H Q _ => ∃ (g : Addr) (p : Int) (ns : List Int), vs = [.ref g] ∧ GrpAt K C G H g p ns ∧ ∀ H' u ys, Ext H H' → H' u = some (.tup ys) → TRs H' ys (baseM ns.length) → Q (.ref u) H'
theorem ords_len (p : Int) (ns : List Int) : (ordsM p ns).length = ns.length := by
  unfold ordsM
  rw [List.length_map]
theorem ok_gbase (F : Fun K "base" "Group.base" (gcl 5) f fd) (Gl : GC K mg G tP) (Bo : Def1 P w K mg base CX0 1 "base_of" ["orders"] (spBaseOf K)) : FnOk P w K mg base CX0 2 f fd ["self"] (spGBa K C G) := by
  refine F.ok scGBa (fun vs H Q E h => ?_) (fun cdv A outer s H vs Q E hr h => ?_)
  · obtain ⟨g, p, ns, rfl, _⟩ := h
    rfl
  · obtain ⟨g, p, ns, rfl, hg, k⟩ := h
    obtain ⟨dx, q, o, l, n, t, m, h1, h2, h3, h4⟩ := id hg.ins
    have hl := hg.fall.len
    refine ⟨_, pss_one (ps_ret (pe_def Bo hr (by decide) (by rfl) (pa_cons (pe_fld (pv 0) rfl) pa_nil))), ?_⟩
    walk_at "rd"
    refine ⟨g, G, dx, _, _, rfl, h1, Gl.cl, Gl.nO, lookG3, ?_⟩
    walk_at "rd"
    refine ⟨o, _, rfl, h3, by rw [ords_len]; omega, fun H' u ys e hu hy => k H' u ys e hu ?_⟩
    rw [ords_len] at hy
    exact hy
theorem scGOr : FnScope ["self"] ["self"] (defScope (gcl 6)) := ⟨rfl, rfl, rfl, by decide +kernel, rfl, by decide +kernel, by decide +kernel⟩
def spGOr (K : PySem.W.Frag) (C G : Addr) : Sp := fun vs H Q _ => ∃ (g : Addr) (p : Int) (ns : List Int), vs = [.ref g] ∧ GrpAt K C G H g p ns ∧ ∀ o, SqT K H o ((ordsM p ns).map V.int) → Q (.ref o) H
theorem ok_gorders (F : Fun K "orders" "Group.orders" (gcl 6) f fd) (Gl : GC K mg G tP) : FnOk P w K mg base CX0 1 f fd ["self"] (spGOr K C G) := by
  refine F.ok scGOr (fun vs H Q E h => ?_) (fun cdv A outer s H vs Q E hr h => ?_)
  · obtain ⟨g, p, ns, rfl, _⟩ := h
    rfl
  · obtain ⟨g, p, ns, rfl, hg, k⟩ := h
    obtain ⟨dx, q, o, l, n, t, m, h1, h2, h3, h4⟩ := id hg.ins
    refine ⟨_, pss_one (ps_ret (pe_fld (pv 0) rfl)), ?_⟩
    walk_at "rd"
    exact ⟨g, G, dx, _, _, rfl, h1, Gl.cl, Gl.nO, lookG3, k o h3⟩
/-! ### sums and multiples -/
theorem ing_bd {p : Int} {ns xs : List Int} (hF : Fall ns) (hz : powI p ns.sum.toNat ≤ 256) (hp : 2 ≤ p) (h : InG p ns xs) : ∀ x ∈ xs, 0 ≤ x ∧ x < 256 := fun x hx => by
  obtain ⟨i, hi, rfl⟩ := List.getElem_of_mem hx
  have hin : i < ns.length := by rw [← h.len]; exact hi
  have hm : (xs[i], ns[i]) ∈ xs.zip ns := List.mem_of_getElem? (i := i) (by rw [List.getElem?_zip_eq_some]; exact ⟨List.getElem?_eq_getElem hi, List.getElem?_eq_getElem hin⟩)
  have hb := h.bd _ hm
  have h1 := mem_sum hF.pos ns[i] (List.getElem_mem hin)
  have h2 := hF.pos ns[i] (List.getElem_mem hin)
  have h3 : powI p (ns[i]).toNat ≤ powI p ns.sum.toNat := powI_le (by omega) _ _ (by omega)
  have hb' : 0 ≤ xs[i] ∧ xs[i] < powI p (ns[i]).toNat := hb
  omega
theorem ords_pos {p : Int} (hp : 2 ≤ p) (ns : List Int) : ∀ o ∈ ordsM p ns, 0 < o := fun o ho => by
  unfold ordsM at ho
  obtain ⟨n, _, rfl⟩ := List.mem_map.mp ho
  have := powI_mono (p := p) (by omega) n.toNat
  omega
theorem scGPl : FnScope ["self", "element", "other"] ["self", "element", "other"] (defScope (gcl 8)) := ⟨rfl, rfl, rfl, by decide +kernel, rfl, by decide +kernel, by decide +kernel⟩
def spGPl (K : PySem.W.Frag) (C G : Addr) : Sp := fun vs H Q _ => ∃ (g a b : Addr) (p : Int) (ns xs ys : List Int), vs = [.ref g, .ref a, .ref b] ∧ GrpAt K C G H g p ns ∧ SqT K H a (xs.map V.int) ∧ SqT K H b (ys.map V.int) ∧ InG p ns xs ∧ InG p ns ys ∧
  ∀ H' u, Ext H H' → TR H' (.ref u) (plusM (ordsM p ns) xs ys) → Q (.ref u) H'
theorem ok_gplus (F : Fun K "plus" "Group.plus" (gcl 8) f fd) (Gl : GC K mg G tP) (Re : Def1 P w K mg base CX0 5 "require_element" ["group", "value"] (spReqElem K C G)) (Pl : Def1 P w K mg base CX0 1 "plus_entries" ["orders", "one", "other"] (spPlusE K)) : FnOk P w K mg base CX0 6 f fd ["self", "element", "other"] (spGPl K C G) := by
  refine F.ok scGPl (fun vs H Q E h => ?_) (fun cdv A outer s H vs Q E hr h => ?_)
  · obtain ⟨g, a, b, p, ns, xs, ys, rfl, _⟩ := h
    rfl
  · obtain ⟨g, a, b, p, ns, xs, ys, rfl, hg, ha, hb, hx, hy, k⟩ := h
    refine ⟨_, pss_cons (ps_expr (pe_def Re hr (by decide) (by rfl) (pa_cons (pv 0) (pa_cons (pv 1) pa_nil))))
      (pss_cons (ps_expr (pe_def Re hr (by decide) (by rfl) (pa_cons (pv 0) (pa_cons (pv 2) pa_nil))))
      (pss_one (ps_ret (pe_def Pl hr (by decide) (by rfl) (pa_cons (pe_fld (pv 0) rfl) (pa_cons (pv 1) (pa_cons (pv 2) pa_nil))))))), ?_⟩
    have hl := hg.fall.len
    have h7 := hg.pr.bd
    walk_at "rd"
    refine ⟨g, a, p, ns, xs, rfl, hg, ha, hx, fun H1 e1 => ?_⟩
    walk_at "rd"
    refine ⟨g, b, p, ns, ys, rfl, hg.ext e1, sqT_ext e1 hb, hy, fun H2 e2 => ?_⟩
    have e12 := Ext.trans e1 e2
    obtain ⟨dx, q, o, l, n, t, m, h1, h2, h3, h4⟩ := id (hg.ext e12).ins
    walk_at "rd"
    refine ⟨g, G, dx, _, _, rfl, h1, Gl.cl, Gl.nO, lookG3, ?_⟩
    walk_at "rd"
    exact ⟨o, a, b, _, xs, ys, rfl, h3, sqT_ext e12 ha, sqT_ext e12 hb, by rw [ords_len, hx.len], by rw [ords_len, hy.len], by rw [ords_len]; omega, ords_pos (by omega) ns, fun H3 u e3 hu => k H3 u (Ext.trans e12 e3) hu⟩
theorem scGTi : FnScope ["self", "element", "number"] ["self", "element", "number"] (defScope (gcl 9)) := ⟨rfl, rfl, rfl, by decide +kernel, rfl, by decide +kernel, by decide +kernel⟩
def spGTi (K : PySem.W.Frag) (C G : Addr) : Sp := fun vs H Q _ => ∃ (g a : Addr) (p : Int) (ns xs : List Int) (m : Int), vs = [.ref g, .ref a, .int m] ∧ GrpAt K C G H g p ns ∧ SqT K H a (xs.map V.int) ∧ InG p ns xs ∧ -(10 ^ 60) < m ∧ m < 10 ^ 60 ∧
  ∀ H' u, Ext H H' → TR H' (.ref u) (timesM (ordsM p ns) xs m) → Q (.ref u) H'
theorem ok_gtimes (F : Fun K "times" "Group.times" (gcl 9) f fd) (Gl : GC K mg G tP) (In : Def1 P w K mg base CX0 2 "is_integer" ["value"] (spInteger K)) (Re : Def1 P w K mg base CX0 5 "require_element" ["group", "value"] (spReqElem K C G)) (Ti : Def1 P w K mg base CX0 1 "times_entries" ["orders", "entries", "number"] (spTimesE K)) : FnOk P w K mg base CX0 6 f fd ["self", "element", "number"] (spGTi K C G) := by
  refine F.ok scGTi (fun vs H Q E h => ?_) (fun cdv A outer s H vs Q E hr h => ?_)
  · obtain ⟨g, a, p, ns, xs, m, rfl, _⟩ := h
    rfl
  · obtain ⟨g, a, p, ns, xs, m, rfl, hg, ha, hx, hm0, hm1, k⟩ := h
    refine ⟨_, PSs.nox (pss_cons (ps_expr (pe_def Re hr (by decide) (by rfl) (pa_cons (pv 0) (pa_cons (pv 1) pa_nil))))
      (pss_cons (ps_if (pt_not (pt_val (pe_def In hr (by decide) (by rfl) (pa_cons (pv 2) pa_nil)))) (pss_one ps_never) pss_nil)
      (pss_one (ps_ret (pe_def Ti hr (by decide) (by rfl) (pa_cons (pe_fld (pv 0) rfl) (pa_cons (pv 1) (pa_cons (pv 2) pa_nil)))))))), ?_⟩
    have hl := hg.fall.len
    have h7 := hg.pr.bd
    have hbd := ing_bd hg.fall hg.sz (by omega) hx
    walk_at "rd"
    refine ⟨g, a, p, ns, xs, rfl, hg, ha, hx, fun H1 e1 => ?_⟩
    walk_at "rd"
    refine ⟨_, true, rfl, .inl ⟨m, rfl, (decide_eq_true ⟨hm0, hm1⟩).symm⟩, ?_⟩
    obtain ⟨dx, q, o, l, n, t, m', h1, h2, h3, h4⟩ := id (hg.ext e1).ins
    walk_at "rd"
    refine ⟨g, G, dx, _, _, rfl, h1, Gl.cl, Gl.nO, lookG3, ?_⟩
    walk_at "rd"
    exact ⟨o, a, _, xs, m, rfl, h3, sqT_ext e1 ha, by rw [hx.len]; omega, fun x hx' => by have := hbd x hx'; omega, ords_pos (by omega) ns, fun H3 u e3 hu => k H3 u (Ext.trans e1 e3) hu⟩
end
end Q0

set_option Elab.async false
set_option linter.all false
set_option maxRecDepth 100000
set_option maxHeartbeats 4000000
/-! Texts of kinds and groups. -/
namespace Q0
open PySem PySem.Spec PyProof.Rows L2 Gd
local macro_rules | `(tactic| walk_at "rd1") => `(tactic| first | with_reducible refine g_ret ?_ | with_reducible refine g_retN ?_ | with_reducible refine g_seq ?_ | with_reducible refine g_next ?_ | with_reducible refine g_drop ?_ | with_reducible refine g_asg ?_ | with_reducible refine g_name ?_ | with_reducible refine g_ifs ?_ | with_reducible refine g_test ?_ | with_reducible refine g_tb ?_ | with_reducible refine g_and ?_ | with_reducible refine g_or ?_ | with_reducible refine g_not ?_ | with_reducible refine g_andV ?_ | with_reducible refine g_orV ?_ | with_reducible refine g_notV ?_ | with_reducible refine g_if ?_ | with_reducible refine g_op ?_ | with_reducible refine g_un ?_ | with_reducible refine g_cb ?_ | with_reducible refine g_nil ?_ | with_reducible refine g_cons ?_ | with_reducible refine g_call ?_ | with_reducible refine g_callS ?_ | with_reducible refine g_tup ?_ | with_reducible refine g_lst ?_ | with_reducible refine g_isN ?_ | with_reducible refine g_sl ?_ | with_reducible refine g_nopart ?_ | with_reducible refine g_part ?_ | with_reducible refine g_chain ?_ | with_reducible refine g_fld ?_ | with_reducible refine g_prop ?_ | with_reducible refine g_bm ?_ | with_reducible refine g_bm0 ?_ | with_reducible refine g_c ?_ | with_reducible refine g_sub ?_ | with_reducible refine g_int1 ?_ | with_reducible refine g_int2 ?_ | with_reducible refine g_yes ?_ | with_reducible refine g_sfld ?_ | with_reducible refine g_NT ?_ | with_reducible refine g_NF ?_ | with_reducible refine iteT ?_ | with_reducible refine iteF ?_ | ((with_reducible refine' g_aug ?hv ?_); (case hv => exact rfl)) | ((with_reducible refine' g_var ?hv ?_); (case hv => exact rfl)) | with_reducible refine g_I0 ?_ | with_reducible refine g_U ?_ | with_reducible refine g_eqI ?_ | with_reducible refine g_blV ?_ | with_reducible refine g_inV ?_)
local macro_rules | `(tactic| walk_at "rd") => `(tactic| repeat walk_at "rd1")
theorem str_assoc (x y z : Str) : x ++ y ++ z = x ++ (y ++ z) := Str.append_assoc x y z
theorem str_len (x y : Str) : (x ++ y).length = x.length + y.length := Str.length_append x y
def numT (n : Int) : Str := Str.ofString (toString n)
/-- the text of a kind's numbers -/
def kindTx (ns : List Int) : Str := ((Str.empty ++ ("[" : Str)) ++ Txt.join (" " : Str) (ns.map numT)) ++ ("]" : Str)
theorem num_len : ∀ n : Nat, n < 300 → (numT (n : Int)).length ≤ 3 := by
  have h : ((List.range 300).all fun n => decide ((numT (n : Int)).length ≤ 3)) = true := by decide +kernel
  intro n hn
  exact of_decide_eq_true (List.all_eq_true.mp h n (List.mem_range.mpr hn))
theorem num_len' {n : Int} (h0 : 0 ≤ n) (h1 : n < 300) : (numT n).length ≤ 3 := by
  have := num_len n.toNat (by omega)
  rw [Int.toNat_of_nonneg h0] at this
  exact this
theorem nums_sum : ∀ {ns : List Int}, (∀ n ∈ ns, 0 ≤ n ∧ n < 300) → ((ns.map numT).map fun y : Str => y.length).sum ≤ ns.length * 3
  | [], _ => Nat.le_refl _
  | n :: ns, h => by
    have h1 := h n List.mem_cons_self
    have ih := nums_sum (ns := ns) fun m hm => h m (List.mem_cons_of_mem _ hm)
    have := num_len' h1.1 h1.2
    rw [List.map_cons, List.map_cons, List.sum_cons, List.length_cons]
    omega
theorem fall_num {ns : List Int} (h : Fall ns) : ∀ n ∈ ns, 0 ≤ n ∧ n < 300 := fun n hn => by
  have := h.pos n hn
  have := h.le n hn
  omega
theorem join_len {ns : List Int} (h : Fall ns) : (Txt.join (" " : Str) (ns.map numT)).length ≤ 60 := by
  have h1 := StrLaws.join_length_le (" " : Str) (ns.map numT)
  have h2 := nums_sum (fall_num h)
  have h3 := h.len
  have h4 : (" " : Str).length = 1 := by decide +kernel
  rw [h4, List.length_map] at h1
  have e : Txt.join (" " : Str) (ns.map numT) = Str.join (" " : Str) (ns.map numT) := StrLaws.glued_eq_join _ _
  rw [e]
  have : (Str.join (" " : Str) (ns.map numT)).length ≤ ((ns.map numT).map fun y : Str => y.length).sum + ns.length * 1 := h1
  omega
theorem kindTx_len {ns : List Int} (h : Fall ns) : (kindTx ns).length ≤ 62 := by
  unfold kindTx
  rw [str_len, str_len, str_len]
  have h1 := join_len h
  have h2 : ("[" : Str).length = 1 := by decide +kernel
  have h3 : ("]" : Str).length = 1 := by decide +kernel
  have h4 : Str.empty.length = 0 := by decide +kernel
  omega
section
variable {P : Program} {w : World} {K : PySem.W.Frag} {mg : Str → Option Value} {base : Heap} {f C G tP : Addr} {fd : FuncData}
abbrev sFTx : Stmt := top 27
theorem scFTx : FnScope ["row", "words", "number"] ["row"] (defScope sFTx) := ⟨rfl, rfl, rfl, by decide +kernel, rfl, by decide +kernel, by decide +kernel⟩
def spFTx (K : PySem.W.Frag) : Sp := fun vs H Q _ => ∃ (a : Addr) (ns : List Int), vs = [.ref a] ∧ SqT K H a (ns.map V.int) ∧ Fall ns ∧ ∀ H', Ext H H' → Q (.str (kindTx ns)) H'
theorem ok_fTx (F : Fun K "falling_text" "falling_text" sFTx f fd) (T : Txt K mg) : FnOk P w K mg base CX0 1 f fd ["row"] (spFTx K) := by
  refine F.ok scFTx (fun vs H Q E h => ?_) (fun cdv A outer s H vs Q E hr h => ?_)
  · obtain ⟨a, ns, rfl, _⟩ := h
    rfl
  · obtain ⟨a, ns, rfl, hs, hF, k⟩ := h
    refine ⟨_, pss_cons (ps_set (i := 1) scFTx.nd rfl (Or.inl rfl) (pe_bm PySem.F.plainAttrs_str PySem.F.slot_str_join PySem.F.type_str_join mt_join (pe_str) (pa_cons (pe_lc (own := [("number", 2)]) (g := gName 2) (tt := tYes) rfl scFTx.nd (pi_tup (pv 0)) (blkOk_by (N := ["row", "words", "number"]) (sc := defScope sFTx) (by decide +kernel)) (fun _ _ _ _ _ => pg_name (i := 2) scFTx.nd rfl (Or.inl rfl)) (fun _ _ _ _ _ => pts_nil) (fun _ _ _ _ _ => by exact (pe_callTy (T := "str") (r := fun xs H Q => ∃ i : Int, xs = [.int i] ∧ i.natAbs.log2 < 1920 ∧ Q (.str (numT i)) H) call_str_int (by rfl) T.str (by decide +kernel) (pa_cons (pv 2) pa_nil)))) pa_nil)))
      (pss_one (ps_ret (pe_joined (PJ.cons pe_str (PJ.cons (pe_fmt (pv 1)) (PJ.cons pe_str PJ.nil)))))), ?_⟩
    walk_at "rd"
    refine ⟨rfl, ?_⟩
    refine g_cons ?_
    refine g_lc (g_itup ?_)
    walk_at "rd"
    have hl := hF.len
    refine lcT hs (small (by rw [List.length_map]; omega)) (fun _ => true) (fun v => match v with | .int n => .str (numT n) | y => y) (fun x H1 hx e1 Qe Qn he hn => ?_) (fun H1 D e1 hD hd => ?_)
    · obtain ⟨n, hn0, rfl⟩ := List.mem_map.mp hx
      have h0 := fall_num hF n hn0
      refine ⟨rfl, ?_⟩
      walk_at "rd"
      refine ⟨?_, he _ (fun _ _ z => z) rfl⟩
      have : n.natAbs.log2 ≤ n.natAbs := Nat.log2_le_self _
      omega
    · rw [filter_yes, List.map_map] at hd
      walk_at "rd"
      have hd' : H1 D = some (.lst ((ns.map numT).map V.str)) := by
        rw [hd, List.map_map]
        rfl
      have h4 : (" " : Str).length = 1 := by decide +kernel
      have h2 := nums_sum (fall_num hF)
      refine ⟨_, D, ns.map numT, rfl, rfl, .inl (SqL.of hd'), by rw [List.length_map, h4]; omega, ?_⟩
      walk_at "rd"
      have hj := join_len hF
      have hk := kindTx_len hF
      have hz : (62 : Nat) ≤ sizeLine := by decide
      unfold tJs
      walk_at "rd"
      refine ⟨_, rfl, ?_, ?_⟩
      · have : (Str.empty ++ ("[" : Str)).length = 1 := by decide +kernel
        omega
      unfold tJs tFmt
      walk_at "rd"
      refine .inl ⟨_, rfl, by omega, _, rfl, ?_, ?_⟩
      · rw [str_len]
        have : (Str.empty ++ ("[" : Str)).length = 1 := by decide +kernel
        omega
      unfold tJs
      walk_at "rd"
      refine ⟨_, rfl, ?_, ?_⟩
      · show (kindTx ns).length ≤ sizeLine
        omega
      unfold tJs
      exact k _ e1
theorem scKSt : FnScope ["self"] ["self"] (defScope (cls 21)) := ⟨rfl, rfl, rfl, by decide +kernel, rfl, by decide +kernel, by decide +kernel⟩
def spKSt (K : PySem.W.Frag) (C : Addr) : Sp := fun vs H Q _ => ∃ (p n t m : Addr) (ns : List Int), vs = [.ref p] ∧ KindAt K C H p n t m ns ∧ ∀ H', Ext H H' → Q (.str (kindTx ns)) H'
theorem ok_kstr (F : Fun K "__str__" "Kind.__str__" (cls 21) f fd) (T : Txt K mg) (Cl : KC K mg C) (Ft : Def1 P w K mg base CX0 1 "falling_text" ["row"] (spFTx K)) : FnOk P w K mg base CX0 2 f fd ["self"] (spKSt K C) := by
  refine F.ok scKSt (fun vs H Q E h => ?_) (fun cdv A outer s H vs Q E hr h => ?_)
  · obtain ⟨p, n, t, m, ns, rfl, _⟩ := h
    rfl
  · obtain ⟨p, n, t, m, ns, rfl, hp, k⟩ := h
    obtain ⟨dx, hpi⟩ := id hp.ins
    refine ⟨_, pss_one (ps_ret (pe_callTy SkE.call_str_str (by rfl) T.str (by decide +kernel) (pa_cons (pe_def Ft hr (by decide) (by rfl) (pa_cons (pe_fld (pv 0) rfl) pa_nil)) pa_nil))), ?_⟩
    walk_at "rd"
    refine ⟨p, C, dx, _, _, rfl, hpi, Cl.cl, Cl.noN, look1, ?_⟩
    walk_at "rd"
    refine ⟨n, ns, rfl, hp.num.sq, hp.fall, fun H1 e1 => ?_⟩
    walk_at "rd"
    exact ⟨_, rfl, k H1 e1⟩
def grpTx (p : Int) (ns : List Int) : Str := (((Str.empty ++ ("group of " : Str)) ++ kindTx ns) ++ (" at " : Str)) ++ numT p
theorem scGSt : FnScope ["self"] ["self"] (defScope (gcl 16)) := ⟨rfl, rfl, rfl, by decide +kernel, rfl, by decide +kernel, by decide +kernel⟩
def spGSt (K : PySem.W.Frag) (C G : Addr) : Sp := fun vs H Q _ => ∃ (g : Addr) (p : Int) (ns : List Int), vs = [.ref g] ∧ GrpAt K C G H g p ns ∧ ∀ H', Ext H H' → Q (.str (grpTx p ns)) H'
theorem ok_gstr {fS : Addr} {fdS : FuncData} (F : Fun K "__str__" "Group.__str__" (gcl 16) f fd) (Gl : GC K mg G tP) (MS : Meth K C "__str__" fS) (fmK : PySem.W.findIn K (.ref C) "__format__" = some (some (.builtin "object.__format__"))) (mrK : PySem.W.mroIn K C (.type "object") = some true)
    (GS : FnOk P w K mg base CX0 2 fS fdS ["self"] (spKSt K C)) (bS : Binds K fdS ["self"] []) : FnOk P w K mg base CX0 5 f fd ["self"] (spGSt K C G) := by
  refine F.ok scGSt (fun vs H Q E h => ?_) (fun cdv A outer s H vs Q E hr h => ?_)
  · obtain ⟨g, p, ns, rfl, _⟩ := h
    rfl
  · obtain ⟨g, p, ns, rfl, hg, k⟩ := h
    obtain ⟨dx, q, o, l, n, t, m, h1, h2, h3, h4⟩ := id hg.ins
    obtain ⟨dy, hqi⟩ := id h2.ins
    refine ⟨_, pss_one (ps_ret (pe_joined (PJ.cons pe_str (PJ.cons (pe_fmtO (E := X0) MS fmK mrK GS (hr.mono (by decide)) bS (fun _ => quiet0) (pe_fld (pv 0) rfl)) (PJ.cons pe_str (PJ.cons (pe_fmt (pe_fld (pv 0) rfl)) PJ.nil)))))), ?_⟩
    have hk := kindTx_len hg.fall
    have hz : (200 : Nat) ≤ sizeLine := by decide
    have l0 : (Str.empty ++ ("group of " : Str)).length = 9 := by decide +kernel
    have l1 : (" at " : Str).length = 4 := by decide +kernel
    have h7 := hg.pr.bd
    have l2 := num_len' (n := p) (by omega) (by omega)
    walk_at "rd"
    unfold tJs
    walk_at "rd"
    refine ⟨_, rfl, by omega, ?_⟩
    unfold tJs tFmtO
    walk_at "rd"
    refine ⟨g, G, dx, _, _, rfl, h1, Gl.cl, Gl.nK, lookG2, ?_⟩
    refine ⟨q, dy, _, rfl, hqi, q, n, t, m, ns, rfl, h2, fun H1 e1 => ⟨_, rfl, ?_⟩⟩
    refine ⟨_, rfl, by rw [str_len]; omega, ?_⟩
    unfold tJs
    walk_at "rd"
    refine ⟨_, rfl, by rw [str_len, str_len]; omega, ?_⟩
    unfold tJs tFmt
    walk_at "rd"
    refine ⟨g, G, dx, _, _, rfl, e1 _ _ h1, Gl.cl, Gl.nP, lookG1, ?_⟩
    refine .inr ⟨p, rfl, ?_, ?_⟩
    · have : p.natAbs.log2 ≤ p.natAbs := Nat.log2_le_self _
      omega
    refine ⟨numT p, rfl, by rw [str_len, str_len, str_len]; omega, ?_⟩
    unfold tJs
    exact k H1 e1
/-! ### len, == -/
theorem scGLn : FnScope ["self"] ["self"] (defScope (gcl 15)) := ⟨rfl, rfl, rfl, by decide +kernel, rfl, by decide +kernel, by decide +kernel⟩
def spGLn (K : PySem.W.Frag) (C G : Addr) : Sp := fun vs H Q _ => ∃ (g : Addr) (p : Int) (ns : List Int), vs = [.ref g] ∧ GrpAt K C G H g p ns ∧ Q (.int (ns.length : Int)) H
theorem ok_glen (F : Fun K "__len__" "Group.__len__" (gcl 15) f fd) (T : Txt K mg) (Gl : GC K mg G tP) : FnOk P w K mg base CX0 1 f fd ["self"] (spGLn K C G) := by
  refine F.ok scGLn (fun vs H Q E h => ?_) (fun cdv A outer s H vs Q E hr h => ?_)
  · obtain ⟨g, p, ns, rfl, _⟩ := h
    rfl
  · obtain ⟨g, p, ns, rfl, hg, k⟩ := h
    obtain ⟨dx, q, o, l, n, t, m, h1, h2, h3, h4⟩ := id hg.ins
    refine ⟨_, pss_one (ps_ret (pe_callB call_len_seq (by rfl) T.len PySem.boot_len (pa_cons (pe_fld (pv 0) rfl) pa_nil))), ?_⟩
    walk_at "rd"
    refine ⟨g, G, dx, _, _, rfl, h1, Gl.cl, Gl.nO, lookG3, ?_⟩
    walk_at "rd"
    refine ⟨o, _, rfl, .inr h3, ?_⟩
    rw [List.length_map, ords_len]
    exact k
theorem lookG4 {a b c d : V} : ([(("_prime" : Str), a), (("_kind" : Str), b), (("_orders" : Str), c), (("_place" : Str), d)] : List (Str × V)).lookup ("_place" : Str) = some d := by
  have e1 : (("_place" : Str) == ("_prime" : Str)) = false := by decide
  have e2 : (("_place" : Str) == ("_kind" : Str)) = false := by decide
  have e3 : (("_place" : Str) == ("_orders" : Str)) = false := by decide
  simp [List.lookup, e1, e2, e3]
theorem scGEq : FnScope ["self", "other"] ["self", "other"] (defScope (gcl 14)) := ⟨rfl, rfl, rfl, by decide +kernel, rfl, by decide +kernel, by decide +kernel⟩
/-- what a value is beside a group -/
def GrpQ (K : PySem.W.Frag) (C G : Addr) (H : Hp) (x : V) (p : Int) (ns : List Int) (b : Bool) : Prop := (∃ (g : Addr) (p2 : Int) (ms : List Int), x = .ref g ∧ GrpAt K C G H g p2 ms ∧ b = (decide (p = p2) && decide (ns = ms))) ∨ ((∃ t, TyX K H x t ∧ PySem.W.kitOne K t (.ref G) = some false) ∧ b = false)
def spGEq (K : PySem.W.Frag) (C G : Addr) : Sp := fun vs H Q _ => ∃ (g : Addr) (x : V) (p : Int) (ns : List Int) (b : Bool), vs = [.ref g, x] ∧ GrpAt K C G H g p ns ∧ GrpQ K C G H x p ns b ∧ ∀ H', Ext H H' → Q (.bl b) H'
/-- what isinstance asks of the class -/
structure GCx (K : PySem.W.Frag) (G : Addr) : Prop where
  ha : PySem.W.findIn K (.ref G) "__class__" = some (some (.builtin "object.__class__"))
  hn : PySem.W.specialIn K (.builtin "object.__class__") "__get__" = some (some (.builtin "getset_descriptor.__get__"))
  htk : PySem.W.takesIn K (.builtin "object.__class__") = some true
  hm : PySem.W.mroIn K G (.type "object") = some true
  kit : PySem.W.kitOne K (.ref G) (.ref G) = some true
  ne : NeC K G
theorem GCx.ty {T : GCx K G} (c : Cls K G) {H : Hp} {p dx : Addr} {fs : List (Str × V)} (h : H p = some (.ins G dx fs)) : TyX K H (.ref p) (.ref G) := .base (.ins h c T.ha T.hn T.htk T.hm)
theorem dp_gplace {H : Hp} {t m : Addr} {i : Int} {ns : List Int} (ht : SqT K H t [.int i, .ref m]) (hm : SqT K H m (ns.map V.int)) : Dp K H (.ref t) (.tuple [.int i, .tuple (pdata ns)]) :=
  .tup ht (.cons (.int i) (.cons (.tup hm (pdp ns)) .nil))
theorem sh_gplace (i : Int) (ns : List Int) : SeqAt.shaped (.tuple [.int i, .tuple (pdata ns)]) = true := by
  have d : ∀ ns : List Int, PyData.depthAll (pdata ns) = 0 := fun ns => by
    induction ns with
    | nil => simp [pdata, PyData.depthAll]
    | cons n r ih =>
      unfold pdata at ih ⊢
      simp [PyData.depthAll, PyData.depth, ih]
  unfold SeqAt.shaped
  simp [PyData.canLay0, PyData.canLayAll0, play, PyData.depth, PyData.depthAll, d]
theorem ok_geq (F : Fun K "__eq__" "Group.__eq__" (gcl 14) f fd) (T : Txt K mg) (Gl : GC K mg G tP) (Gx : GCx K G) : FnOk P w K mg base CX0 1 f fd ["self", "other"] (spGEq K C G) := by
  refine F.ok scGEq (fun vs H Q E h => ?_) (fun cdv A outer s H vs Q E hr h => ?_)
  · obtain ⟨g, x, p, ns, b, rfl, _⟩ := h
    rfl
  · obtain ⟨g, x, p, ns, b, rfl, hg, hx, k⟩ := h
    obtain ⟨dx, q, o, l, n, t, m, h1, h2, h3, h4⟩ := id hg.ins
    refine ⟨_, pss_one (ps_ret (pe_and (pe_callB call_isi (by rfl) T.isinstance (by decide +kernel) (pa_cons (pv 1) (pa_cons (pe_glob (v := .ref G) (by rfl) Gl.g rfl) pa_nil))) (pe_one (pe_cmpR (op_eqD hr.units) (pe_fld (pv 0) rfl) (pe_fld (pv 1) rfl) (nomark _))))), ?_⟩
    walk_at "rd"
    rcases hx with ⟨g2, p2, ms, rfl, hg2, rfl⟩ | ⟨⟨ty, hty, hk⟩, rfl⟩
    · obtain ⟨dy, q', o', l', n', t', m', g1, g2', g3, g4⟩ := id hg2.ins
      refine ⟨_, _, _, _, true, rfl, .own G, GCx.ty (T := Gx) Gl.cl g1, Gx.kit, ?_⟩
      walk_at "rd"
      refine ⟨g, G, dx, _, _, rfl, h1, Gl.cl, Gl.nL, lookG4, ?_⟩
      walk_at "rd"
      refine ⟨g2, G, dy, _, _, rfl, g1, Gl.cl, Gl.nL, lookG4, ?_⟩
      refine ⟨_, _, dp_gplace h4 h2.num.sq, dp_gplace g4 g2'.num.sq, sh_gplace _ _, sh_gplace _ _, ?_⟩
      have e1 : PyData.eqv (.tuple [.int p, .tuple (pdata ns)]) (.tuple [.int p2, .tuple (pdata ms)]) = (decide (p = p2) && (decide (ns = ms) && true)) := by
        simp only [PyData.eqv, PyData.eqvAll, peqv]
        rfl
      rw [e1, Bool.and_true]
      exact k H (fun _ _ z => z)
    · refine ⟨_, _, _, _, false, rfl, .own G, hty, hk, ?_⟩
      walk_at "rd"
      exact k H (fun _ _ z => z)
end
end Q0

set_option Elab.async false
set_option linter.all false
set_option maxRecDepth 100000
set_option maxHeartbeats 4000000
/-! members(). -/
namespace Q0
open PySem PySem.Spec PyProof.Rows L2 Gd
local macro_rules | `(tactic| walk_at "rd1") => `(tactic| first | with_reducible refine g_ret ?_ | with_reducible refine g_retN ?_ | with_reducible refine g_seq ?_ | with_reducible refine g_next ?_ | with_reducible refine g_drop ?_ | with_reducible refine g_asg ?_ | with_reducible refine g_name ?_ | with_reducible refine g_ifs ?_ | with_reducible refine g_test ?_ | with_reducible refine g_tb ?_ | with_reducible refine g_and ?_ | with_reducible refine g_or ?_ | with_reducible refine g_not ?_ | with_reducible refine g_andV ?_ | with_reducible refine g_orV ?_ | with_reducible refine g_notV ?_ | with_reducible refine g_if ?_ | with_reducible refine g_op ?_ | with_reducible refine g_un ?_ | with_reducible refine g_cb ?_ | with_reducible refine g_nil ?_ | with_reducible refine g_cons ?_ | with_reducible refine g_call ?_ | with_reducible refine g_callS ?_ | with_reducible refine g_tup ?_ | with_reducible refine g_lst ?_ | with_reducible refine g_isN ?_ | with_reducible refine g_sl ?_ | with_reducible refine g_nopart ?_ | with_reducible refine g_part ?_ | with_reducible refine g_chain ?_ | with_reducible refine g_fld ?_ | with_reducible refine g_prop ?_ | with_reducible refine g_bm ?_ | with_reducible refine g_bm0 ?_ | with_reducible refine g_c ?_ | with_reducible refine g_sub ?_ | with_reducible refine g_int1 ?_ | with_reducible refine g_int2 ?_ | with_reducible refine g_yes ?_ | with_reducible refine g_sfld ?_ | with_reducible refine g_NT ?_ | with_reducible refine g_NF ?_ | with_reducible refine iteT ?_ | with_reducible refine iteF ?_ | ((with_reducible refine' g_aug ?hv ?_); (case hv => exact rfl)) | ((with_reducible refine' g_var ?hv ?_); (case hv => exact rfl)) | with_reducible refine g_I0 ?_ | with_reducible refine g_U ?_ | with_reducible refine g_eqI ?_ | with_reducible refine g_blV ?_ | with_reducible refine g_inV ?_)
local macro_rules | `(tactic| walk_at "rd") => `(tactic| repeat walk_at "rd1")
structure MetG1 (P : Program) (w : World) (K : PySem.W.Frag) (mg : Str → Option Value) (base : Heap) (k : Nat) (C : Addr) (m : Str) (sp : SpG) : Prop where
  ex : ∃ (f : Addr) (fd : FuncData), Meth K C m f ∧ GFn P w K mg base k f fd ["self"] sp ∧ Binds K fd ["self"] []
section
variable {X : Cx} {C : Addr} {k j : Nat} {m nm : Str} {sp : SpG} {o : Expr} {ta : TE} {p pos pos' : Pos} {apos : Pos}
def tListM (C : Addr) (m : Str) (sp : SpG) (ta : TE) : TE := tListG (tMethG C m sp [] X0 ta tNil)
theorem pe_listM {pl : Sem Bool} (D : MetG1 X.prog X.w X.K X.mg X.base k C m sp) (c : Cls X.K C) (hr : Room j X.A) (hj : k + 3 ≤ j) (hg : Gl X nm) (hmg : X.mg nm = none) (hv : bootBuiltins nm = some (.type "list")) (he : PE X o ta)
    (hnm : nm ≠ "__name__" := by decide) (hdb : (nm == ("__debug__" : Str)) = false := by decide)
    (ht : eval (.Call (.Attribute o m apos) [] [] pos') X.env = (do
      let ov ← eval o X.env
      standAt apos.atName
      let (f, first) ← holding [ov] (getMethod ov m pl)
      callWith pos' f first (backTo pos' (starEach [] X.env)) (backToKw pos' (keywordEach [] X.env))) := by rfl)
    (hst : starEach [.Call (.Attribute o m apos) [] [] pos'] X.env = (false, eval (.Call (.Attribute o m apos) [] [] pos') X.env) :: starEach [] X.env := by rfl) :
    PE X (.Call (.Name nm p) [.Call (.Attribute o m apos) [] [] pos'] [] pos) (tListM C m sp ta) := by
  obtain ⟨f, fd, M, F, hb⟩ := D.ex
  exact pe_listG (pgen_meth0 (E := X0) he c M F (hr.mono (by omega)) hb .nil ht) (fun _ _ _ _ _ _ _ h => by
    obtain ⟨_, _, _, _, _, _, _, _, _, _, _, _, z⟩ := h
    exact z.elim) (fun _ _ _ h => h.elim) (hr.mono hj) hg hmg hv hnm hdb hst
theorem g_listM {te : TE} {σ : L2.St} {H : Hp} {Q : VK} (k : te σ H fun x H1 => ∃ a dx fs, x = .ref a ∧ H1 a = some (.ins C dx fs) ∧ fs.lookup m = none ∧ sp [x] H1 (fun out H2 => ∀ p, H2 p = none → Q (.ref p) (upd H2 p (.lst out))) X0) : tListM C m sp te σ H Q := k
end
theorem look4m {a b c d : V} : ([(("_prime" : Str), a), (("_kind" : Str), b), (("_orders" : Str), c), (("_place" : Str), d)] : List (Str × V)).lookup ("members" : Str) = none := by
  have e1 : (("members" : Str) == ("_prime" : Str)) = false := by decide
  have e2 : (("members" : Str) == ("_kind" : Str)) = false := by decide
  have e3 : (("members" : Str) == ("_orders" : Str)) = false := by decide
  have e4 : (("members" : Str) == ("_place" : Str)) = false := by decide
  simp [List.lookup, e1, e2, e3, e4]
section
variable {P : Program} {w : World} {K : PySem.W.Frag} {mg : Str → Option Value} {base : Heap} {f C G tP : Addr} {fd : FuncData}
def spGMem (K : PySem.W.Frag) (C G : Addr) : SpG := fun vs H Q _ => ∃ (g : Addr) (p : Int) (ns : List Int), vs = [.ref g] ∧ GrpAt K C G H g p ns ∧ ∀ H' fs, Ext H H' → TRs H' fs (els p ns) → Q fs H'
theorem els_cnt {p : Int} (hp : 2 ≤ p) : ∀ {ns : List Int}, (∀ n ∈ ns, 1 ≤ n) → ∀ acc : List (List Int), (((ns.foldl (fun acc n => elsStep p n acc) acc).length : Nat) : Int) = acc.length * powI p ns.sum.toNat
  | [], _, acc => by
    show (acc.length : Int) = acc.length * 1
    rw [Int.mul_one]
  | n :: ns, h, acc => by
    rw [List.foldl_cons, els_cnt hp (fun m hm => h m (List.mem_cons_of_mem _ hm)), step_len]
    have h1 := h n List.mem_cons_self
    have h2 := sum_len (ns := ns) fun m hm => h m (List.mem_cons_of_mem _ hm)
    have e : (n :: ns).sum.toNat = n.toNat + ns.sum.toNat := by
      rw [List.sum_cons]
      omega
    have hpn := powI_mono (p := p) (by omega) n.toNat
    rw [e, powI_add]
    push_cast
    rw [Int.toNat_of_nonneg (by omega), Int.mul_assoc]
theorem els_len {p : Int} {ns : List Int} (hp : 2 ≤ p) (h : ∀ n ∈ ns, 1 ≤ n) : ((els p ns).length : Int) = powI p ns.sum.toNat := by
  have := els_cnt hp h [[]]
  rw [show (([[]] : List (List Int)).length : Int) = 1 from rfl, Int.one_mul] at this
  exact this
theorem take_sum_le {ns : List Int} (h : ∀ n ∈ ns, 1 ≤ n) (j : Nat) : (ns.take j).sum ≤ ns.sum ∧ 0 ≤ (ns.take j).sum := by
  have h1 : ns.sum = (ns.take j).sum + (ns.drop j).sum := by rw [← List.sum_append, List.take_append_drop]
  have h2 := sum_len (ns := ns.drop j) fun x hx => h x (List.mem_of_mem_drop hx)
  have h3 := sum_len (ns := ns.take j) fun x hx => h x (List.mem_of_mem_take hx)
  omega
theorem scGMem : GScope ["self"] ["self"] (defScope (gcl 7)) := ⟨rfl, rfl, rfl, by decide +kernel, rfl, by decide +kernel, by decide +kernel⟩
theorem ok_gmem (F : Fun K "members" "Group.members" (gcl 7) f fd) (Gl : GC K mg G tP) (Al : Def1 P w K mg base CX0 1 "all_entries" ["orders"] (spAllE K)) : GFn P w K mg base 2 f fd ["self"] (spGMem K C G) := by
  obtain ⟨oc, od, kV, doc, pm, an, cdv, ct, osl, rfl, lk, hcd⟩ := F.ex
  refine gfn_of lk hcd scGMem (fun vs H Q E h => ?_) fun A outer s H vs Q E pn hr h => ?_
  · obtain ⟨g, p, ns, rfl, _⟩ := h
    rfl
  · obtain ⟨g, p, ns, rfl, hg, k⟩ := h
    obtain ⟨dx, q, o, l, n, t, m, h1, h2, h3, h4⟩ := id hg.ins
    refine ⟨_, gss_cons (gs_yieldFrom (yf_lst (pe_def Al hr (by decide) (by rfl) (pa_cons (pe_fld (pv 0) rfl) pa_nil))) hr.hd) gss_nil, ?_⟩
    have h7 := hg.pr.bd
    have hlen := hg.fall.len
    unfold tGThen tGFrom tYfLst
    walk_at "rd"
    refine ⟨g, G, dx, _, _, rfl, h1, Gl.cl, Gl.nO, lookG3, ?_⟩
    walk_at "rd"
    have hcnt : ∀ i, (els p (ns.take i)).length ≤ 256 := fun i => by
      have e1 := els_len (p := p) (ns := ns.take i) (by omega) fun m hm => hg.fall.pos m (List.mem_of_mem_take hm)
      have e2 := take_sum_le hg.fall.pos i
      have e3 := Int.le_trans (powI_le (p := p) (by omega) ns.sum.toNat (ns.take i).sum.toNat (by omega)) hg.sz
      omega
    refine ⟨o, _, rfl, h3, by rw [ords_len]; omega, fun x hx => ?_, fun i => ?_, fun H' Fa fs e hF0 hF hfs => ?_⟩
    · unfold ordsM at hx
      obtain ⟨n, hn, rfl⟩ := List.mem_map.mp hx
      have e1 := mem_sum hg.fall.pos n hn
      have e2 := hg.fall.pos n hn
      have e3 := Int.le_trans (powI_le (p := p) (by omega) ns.sum.toNat n.toNat (by omega)) hg.sz
      have e4 := powI_mono (p := p) (by omega) n.toNat
      omega
    · have e1 : (ordsM p ns).take i = ordsM p (ns.take i) := by
        unfold ordsM
        rw [List.map_take]
      rw [e1, allM_els]
      have := hcnt i
      omega
    · rw [allM_els] at hfs
      have hl := pair_len hfs
      have hc := hcnt ns.length
      rw [List.take_length] at hc
      have hz : (1000 : Nat) ≤ sizeLine := by decide
      refine ⟨Fa, fs, rfl, hF, by show 0 + fs.length ≤ sizeLine; omega, ?_⟩
      exact k H' fs e hfs
end
end Q0

set_option Elab.async false
set_option linter.all false
set_option maxRecDepth 100000
set_option maxHeartbeats 4000000
/-! k12: the law's own powers. -/
namespace Q0
open PySem PySem.Spec PyProof.Rows L2 Gd
local macro_rules | `(tactic| walk_at "rd1") => `(tactic| first | with_reducible refine g_ret ?_ | with_reducible refine g_retN ?_ | with_reducible refine g_seq ?_ | with_reducible refine g_next ?_ | with_reducible refine g_drop ?_ | with_reducible refine g_asg ?_ | with_reducible refine g_name ?_ | with_reducible refine g_ifs ?_ | with_reducible refine g_test ?_ | with_reducible refine g_tb ?_ | with_reducible refine g_and ?_ | with_reducible refine g_or ?_ | with_reducible refine g_not ?_ | with_reducible refine g_andV ?_ | with_reducible refine g_orV ?_ | with_reducible refine g_notV ?_ | with_reducible refine g_if ?_ | with_reducible refine g_op ?_ | with_reducible refine g_un ?_ | with_reducible refine g_cb ?_ | with_reducible refine g_nil ?_ | with_reducible refine g_cons ?_ | with_reducible refine g_call ?_ | with_reducible refine g_callS ?_ | with_reducible refine g_tup ?_ | with_reducible refine g_lst ?_ | with_reducible refine g_isN ?_ | with_reducible refine g_sl ?_ | with_reducible refine g_nopart ?_ | with_reducible refine g_part ?_ | with_reducible refine g_chain ?_ | with_reducible refine g_fld ?_ | with_reducible refine g_prop ?_ | with_reducible refine g_bm ?_ | with_reducible refine g_bm0 ?_ | with_reducible refine g_c ?_ | with_reducible refine g_sub ?_ | with_reducible refine g_int1 ?_ | with_reducible refine g_int2 ?_ | with_reducible refine g_yes ?_ | with_reducible refine g_sfld ?_ | with_reducible refine g_NT ?_ | with_reducible refine g_NF ?_ | with_reducible refine iteT ?_ | with_reducible refine iteF ?_ | ((with_reducible refine' g_aug ?hv ?_); (case hv => exact rfl)) | ((with_reducible refine' g_var ?hv ?_); (case hv => exact rfl)) | with_reducible refine g_I0 ?_ | with_reducible refine g_U ?_ | with_reducible refine g_eqI ?_ | with_reducible refine g_blV ?_ | with_reducible refine g_inV ?_)
local macro_rules | `(tactic| walk_at "rd") => `(tactic| repeat walk_at "rd1")
section
variable {P : Program} {w : World} {K : PySem.W.Frag} {mg : Str → Option Value} {base : Heap} {f : Addr} {fd : FuncData}
abbrev sLawPower : Stmt := top 45
theorem scLawPower : FnScope ["_law_base", "_law_many", "_law_found", "_law_turn"] ["_law_base", "_law_many"] (defScope sLawPower) := ⟨rfl, rfl, rfl, by decide +kernel, rfl, by decide +kernel, by decide +kernel⟩
def PvLP (n : Int) (m : Nat) (H : Hp) (i : Nat) : L2.St → Hp → Prop := fun σ H' => ∃ (x : Option V), σ = [some (.int n), some (.int (m : Int)), some (.int (powI n i)), x] ∧ H' = H
theorem ok_lawPower (F : Fun K "_law_power" "_law_power" sLawPower f fd) (T : Txt K mg) : FnOk P w K mg base CX0 1 f fd ["_law_base", "_law_many"] (spPowerOf K) := by
  refine F.ok scLawPower (fun vs H Q E h => ?_) (fun cdv A outer s H vs Q E hr h => ?_)
  · obtain ⟨n, m, rfl, _⟩ := h
    rfl
  · obtain ⟨n, m, rfl, hm, hf, k⟩ := h
    refine ⟨_, pss_cons (ps_set (i := 2) scLawPower.nd rfl (Or.inl rfl) pe_int)
      (pss_cons (ps_for PassesOwn.never rfl (pi_range1 (by rfl) T.range (pa_cons (pv 1) pa_nil)) (pg_name (i := 3) scLawPower.nd rfl (Or.inl rfl))
          (pss_one (ps_set (i := 2) scLawPower.nd rfl (Or.inl rfl) (pe_op op_mul (pv 2) (pv 0)))))
        (pss_one (ps_ret (pv 2)))), ?_⟩
    walk_at "rd"
    refine g_forR ?_
    walk_at "rd"
    refine ⟨by omega, by omega, ?_⟩
    rw [Int.toNat_natCast]
    refine for_range (PvLP n m H) ⟨_, rfl, rfl⟩ ?_ ?_
    · rintro i σ H2 hi ⟨x, rfl, rfl⟩
      walk_at "rd"
      refine g_I (.inr hf) ?_
      walk_at "rd"
      exact ⟨_, rfl, rfl⟩
    · rintro σ H2 ⟨x, rfl, rfl⟩
      walk_at "rd"
      exact k
end
end Q0

set_option Elab.async false
set_option linter.all false
set_option maxRecDepth 100000
set_option maxHeartbeats 4000000
/-! The law: multiples. -/
namespace Q0
open PySem PySem.Spec PyProof.Rows L2 Gd
local macro_rules | `(tactic| walk_at "rd1") => `(tactic| first | with_reducible refine g_ret ?_ | with_reducible refine g_retN ?_ | with_reducible refine g_seq ?_ | with_reducible refine g_next ?_ | with_reducible refine g_drop ?_ | with_reducible refine g_asg ?_ | with_reducible refine g_name ?_ | with_reducible refine g_ifs ?_ | with_reducible refine g_test ?_ | with_reducible refine g_tb ?_ | with_reducible refine g_and ?_ | with_reducible refine g_or ?_ | with_reducible refine g_not ?_ | with_reducible refine g_andV ?_ | with_reducible refine g_orV ?_ | with_reducible refine g_notV ?_ | with_reducible refine g_if ?_ | with_reducible refine g_op ?_ | with_reducible refine g_un ?_ | with_reducible refine g_cb ?_ | with_reducible refine g_nil ?_ | with_reducible refine g_cons ?_ | with_reducible refine g_call ?_ | with_reducible refine g_callS ?_ | with_reducible refine g_tup ?_ | with_reducible refine g_lst ?_ | with_reducible refine g_isN ?_ | with_reducible refine g_sl ?_ | with_reducible refine g_nopart ?_ | with_reducible refine g_part ?_ | with_reducible refine g_chain ?_ | with_reducible refine g_fld ?_ | with_reducible refine g_prop ?_ | with_reducible refine g_bm ?_ | with_reducible refine g_bm0 ?_ | with_reducible refine g_c ?_ | with_reducible refine g_sub ?_ | with_reducible refine g_int1 ?_ | with_reducible refine g_int2 ?_ | with_reducible refine g_yes ?_ | with_reducible refine g_sfld ?_ | with_reducible refine g_NT ?_ | with_reducible refine g_NF ?_ | with_reducible refine iteT ?_ | with_reducible refine iteF ?_ | ((with_reducible refine' g_aug ?hv ?_); (case hv => exact rfl)) | ((with_reducible refine' g_var ?hv ?_); (case hv => exact rfl)) | with_reducible refine g_I0 ?_ | with_reducible refine g_U ?_ | with_reducible refine g_eqI ?_ | with_reducible refine g_blV ?_ | with_reducible refine g_inV ?_)
local macro_rules | `(tactic| walk_at "rd") => `(tactic| repeat walk_at "rd1")
section
variable {P : Program} {w : World} {K : PySem.W.Frag} {mg : Str → Option Value} {base : Heap} {f : Addr} {fd : FuncData}
abbrev sOften : Stmt := top 50
theorem scOften : FnScope ["_law_prime", "_law_kind_here", "_law_one", "_law_many", "_law_entry", "_law_number"] ["_law_prime", "_law_kind_here", "_law_one", "_law_many"] (defScope sOften) := ⟨rfl, rfl, rfl, by decide +kernel, rfl, by decide +kernel, by decide +kernel⟩
/-- a group that is not too great -/
structure GrpOk (p : Int) (ns : List Int) : Prop where
  fall : Fall ns
  lo : 2 ≤ p
  hi : p ≤ 7
  sz : powI p ns.sum.toNat ≤ 256
theorem GrpOk.pow {p : Int} {ns : List Int} (h : GrpOk p ns) {n : Int} (hn : n ∈ ns) : 1 ≤ powI p n.toNat ∧ powI p n.toNat ≤ 256 ∧ 1 ≤ n ∧ n ≤ 12 := by
  have h1 := mem_sum h.fall.pos n hn
  have h2 := h.fall.pos n hn
  have h3 := h.fall.le n hn
  have := h.lo
  exact ⟨powI_mono (by omega) _, Int.le_trans (powI_le (by omega) _ _ (by omega)) h.sz, h2, h3⟩
def spOftenZ (K : PySem.W.Frag) : Sp := fun vs H Q _ => ∃ (p : Int) (a b : Addr) (ns xs : List Int) (m : Int), vs = [.int p, .ref a, .ref b, .int m] ∧ SqT K H a (ns.map V.int) ∧ SqT K H b (xs.map V.int) ∧ GrpOk p ns ∧ InG p ns xs ∧
  ∀ H' u, Ext H H' → TR H' (.ref u) (oftM p ns xs m) → Q (.ref u) H'
theorem ok_oftenZ (F : Fun K "_law_often" "_law_often" sOften f fd) (T : Txt K mg) (Po : Def1 P w K mg base CX0 1 "_law_power" ["_law_base", "_law_many"] (spPowerOf K)) : FnOk P w K mg base CX0 2 f fd ["_law_prime", "_law_kind_here", "_law_one", "_law_many"] (spOftenZ K) := by
  refine F.ok scOften (fun vs H Q E h => ?_) (fun cdv A outer s H vs Q E hr h => ?_)
  · obtain ⟨p, a, b, ns, xs, m, rfl, _⟩ := h
    rfl
  · obtain ⟨p, a, b, ns, xs, m, rfl, hs, ht, hg, hx, k⟩ := h
    refine ⟨_, pss_one (ps_ret (pe_callTy call_tuple_of (by rfl) T.tuple (by decide +kernel) (pa_cons (pe_lc (own := [("_law_entry", 4), ("_law_number", 5)]) (g := gTup K 2 (gCons (gName 4) (gCons (gName 5) gNil))) (tt := tYes) rfl scOften.nd (pi_zipE (by rfl) T.zip (pa_cons (pv 2) (pa_cons (pv 1) pa_nil))) (blkOk_by (N := ["_law_prime", "_law_kind_here", "_law_one", "_law_many", "_law_entry", "_law_number"]) (sc := defScope sOften) (by decide +kernel)) (fun _ _ _ _ _ => pg_tup rfl (pgs_cons (pg_name (i := 4) scOften.nd rfl (Or.inl rfl)) (pgs_cons (pg_name (i := 5) scOften.nd rfl (Or.inl rfl)) pgs_nil))) (fun _ _ _ _ _ => pts_nil) (fun _ _ _ _ _ => by exact (pe_op op_modN (pe_op op_mul (pv 4) (pv 3)) (pe_def Po hr (by decide) (by rfl) (pa_cons (pv 0) (pa_cons (pv 5) pa_nil)))))) pa_nil))), ?_⟩
    have hl := hg.fall.len
    walk_at "rd"
    refine g_lc ?_
    unfold iZipE
    walk_at "rd"
    refine lcZI ht hs (by rw [hx.len]; omega) (fun _ _ => true) (fun x n => .int (x * m % powI p n.toNat)) (fun x n H' hxn e Qe Qn he _ => ?_) (fun H' D e hD hd => ?_)
    · have hp := hg.pow (List.of_mem_zip hxn).2
      have hb : 0 ≤ x ∧ x < powI p n.toNat := hx.bd _ hxn
      have hlo := hg.lo
      have hhi := hg.hi
      refine ⟨rfl, ?_⟩
      walk_at "rd"
      refine g_I (.inl ⟨by omega, by omega⟩) ?_
      walk_at "rd"
      refine ⟨p, n.toNat, by rw [Int.toNat_of_nonneg (by omega)]; rfl, by omega, ⟨by omega, by omega⟩, ?_⟩
      walk_at "rd"
      refine g_I (show powI p n.toNat ≠ 0 by omega) ?_
      rw [Int.fmod_eq_emod_of_nonneg _ (by omega)]
      exact he _ (fun _ _ z => z) rfl
    · rw [filter_yes] at hd
      walk_at "rd"
      refine ⟨D, _, rfl, .inl ⟨SqL.of hd, fun l hl => ?_⟩⟩
      refine k _ l (Ext.trans e (Ext.new hl)) ⟨l, rfl, ?_⟩
      unfold oftM
      rw [upd_same, List.map_map]
      rfl
end
end Q0

set_option Elab.async false
set_option linter.all false
set_option maxRecDepth 100000
set_option maxHeartbeats 4000000
/-! What is an element; the law's sum. -/
namespace Q0
open PySem PySem.Spec PyProof.Rows L2 Gd
local macro_rules | `(tactic| walk_at "rd1") => `(tactic| first | with_reducible refine g_ret ?_ | with_reducible refine g_retN ?_ | with_reducible refine g_seq ?_ | with_reducible refine g_next ?_ | with_reducible refine g_drop ?_ | with_reducible refine g_asg ?_ | with_reducible refine g_name ?_ | with_reducible refine g_ifs ?_ | with_reducible refine g_test ?_ | with_reducible refine g_tb ?_ | with_reducible refine g_and ?_ | with_reducible refine g_or ?_ | with_reducible refine g_not ?_ | with_reducible refine g_andV ?_ | with_reducible refine g_orV ?_ | with_reducible refine g_notV ?_ | with_reducible refine g_if ?_ | with_reducible refine g_op ?_ | with_reducible refine g_un ?_ | with_reducible refine g_cb ?_ | with_reducible refine g_nil ?_ | with_reducible refine g_cons ?_ | with_reducible refine g_call ?_ | with_reducible refine g_callS ?_ | with_reducible refine g_tup ?_ | with_reducible refine g_lst ?_ | with_reducible refine g_isN ?_ | with_reducible refine g_sl ?_ | with_reducible refine g_nopart ?_ | with_reducible refine g_part ?_ | with_reducible refine g_chain ?_ | with_reducible refine g_fld ?_ | with_reducible refine g_prop ?_ | with_reducible refine g_bm ?_ | with_reducible refine g_bm0 ?_ | with_reducible refine g_c ?_ | with_reducible refine g_sub ?_ | with_reducible refine g_int1 ?_ | with_reducible refine g_int2 ?_ | with_reducible refine g_yes ?_ | with_reducible refine g_sfld ?_ | with_reducible refine g_NT ?_ | with_reducible refine g_NF ?_ | with_reducible refine iteT ?_ | with_reducible refine iteF ?_ | ((with_reducible refine' g_aug ?hv ?_); (case hv => exact rfl)) | ((with_reducible refine' g_var ?hv ?_); (case hv => exact rfl)) | with_reducible refine g_I0 ?_ | with_reducible refine g_U ?_ | with_reducible refine g_eqI ?_ | with_reducible refine g_blV ?_ | with_reducible refine g_inV ?_)
local macro_rules | `(tactic| walk_at "rd") => `(tactic| repeat walk_at "rd1")
section
variable {P : Program} {w : World} {K : PySem.W.Frag} {mg : Str → Option Value} {base : Heap} {f C G tP : Addr} {fd : FuncData}
/-- value in group -/
def spGCoB (K : PySem.W.Frag) (C G : Addr) : Sp := fun vs H Q _ => ∃ (g : Addr) (x : V) (p : Int) (ns : List Int) (b : Bool), vs = [.ref g, x] ∧ GrpAt K C G H g p ns ∧ EntB K H x (ordsM p ns) b ∧ ∀ H', Ext H H' → Q (.bl b) H'
theorem scGCb : FnScope ["self", "value"] ["self", "value"] (defScope (gcl 13)) := ⟨rfl, rfl, rfl, by decide +kernel, rfl, by decide +kernel, by decide +kernel⟩
theorem ok_gcontB (F : Fun K "__contains__" "Group.__contains__" (gcl 13) f fd) (Gl : GC K mg G tP) (Ie : Def1 P w K mg base CX0 2 "is_entries" ["orders", "value"] (spIsEnt K)) : FnOk P w K mg base CX0 3 f fd ["self", "value"] (spGCoB K C G) := by
  refine F.ok scGCb (fun vs H Q E h => ?_) (fun cdv A outer s H vs Q E hr h => ?_)
  · obtain ⟨g, x, p, ns, b, rfl, _⟩ := h
    rfl
  · obtain ⟨g, x, p, ns, b, rfl, hg, hx, k⟩ := h
    obtain ⟨dx, q, o, l, n, t, m, h1, h2, h3, h4⟩ := id hg.ins
    refine ⟨_, pss_one (ps_ret (pe_def Ie hr (by decide) (by rfl) (pa_cons (pe_fld (pv 0) rfl) (pa_cons (pv 1) pa_nil)))), ?_⟩
    walk_at "rd"
    refine ⟨g, G, dx, _, _, rfl, h1, Gl.cl, Gl.nO, lookG3, ?_⟩
    walk_at "rd"
    exact ⟨o, x, _, b, rfl, h3, hx, k⟩
theorem ords_getD (p : Int) : ∀ (ns : List Int) (i : Nat), i < ns.length → (ordsM p ns).getD i 0 = powI p (ns.getD i 0).toNat
  | [], i, h => by simp at h
  | n :: ns, 0, h => rfl
  | n :: ns, i + 1, h => by
    have ih := ords_getD p ns i (by simpa using h)
    exact ih
theorem entB_ing {H : Hp} {c : Addr} {p : Int} {ns xs : List Int} (h : SqT K H c (xs.map V.int)) (hl : ns.length ≤ 900) (hx : InG p ns xs) : EntB K H (.ref c) (ordsM p ns) true := by
  refine entB_ints h (by rw [hx.len]; exact hl) ?_
  rw [decide_eq_true (show xs.length = (ordsM p ns).length by rw [ords_len, hx.len]), Bool.true_and]
  refine Eq.symm (List.all_eq_true.mpr fun q hm => ?_)
  unfold ordsM at hm
  rw [List.zip_map_right] at hm
  obtain ⟨⟨a, n⟩, hz, rfl⟩ := List.mem_map.mp hm
  have h2 := hx.bd _ hz
  show (decide (0 ≤ a) && decide (a < powI p n.toNat)) = true
  rw [decide_eq_true h2.1, decide_eq_true h2.2]
  rfl
theorem gco_of {vs : List V} {H : Hp} {Q : VK} {E : XK} (h : spGCo K C G vs H Q E) : spGCoB K C G vs H Q E := by
  obtain ⟨g, b, p, ns, xs, rfl, hg, hb, hx, k⟩ := h
  exact ⟨g, .ref b, p, ns, true, rfl, hg, entB_ing hb (by have := hg.fall.len; omega) hx, k⟩
theorem op_in1 {X : Cx} {C : Addr} {j k : Nat} {ps : List Str} {sp : Sp} (D : Met1 X.prog X.w X.K X.mg X.base CX0 k C "__contains__" ps sp) (hr : Room j X.A) (hj : k + 1 ≤ j) : OpR X (compareOp .In) (rContO C false sp X0) := by
  obtain ⟨f, fd, M, _, F, hb⟩ := D.ex
  exact op_inO M F (hr.mono hj) hb (fun _ => quiet0)
abbrev sSumIn : Stmt := top 49
theorem scSumIn : FnScope ["_law_prime", "_law_kind_here", "_law_one", "_law_other", "_law_left", "_law_right_here", "_law_number"] ["_law_prime", "_law_kind_here", "_law_one", "_law_other"] (defScope sSumIn) := ⟨rfl, rfl, rfl, by decide +kernel, rfl, by decide +kernel, by decide +kernel⟩
def spSumIn (K : PySem.W.Frag) : Sp := fun vs H Q _ => ∃ (p : Int) (a b c : Addr) (ns xs ys : List Int), vs = [.int p, .ref a, .ref b, .ref c] ∧ SqT K H a (ns.map V.int) ∧ SqT K H b (xs.map V.int) ∧ SqT K H c (ys.map V.int) ∧ GrpOk p ns ∧ xs.length = ns.length ∧ ys.length = ns.length ∧
  ∀ H' u, Ext H H' → TR H' (.ref u) (plusM (ordsM p ns) xs ys) → Q (.ref u) H'
theorem ok_sumIn (F : Fun K "_law_sum_in" "_law_sum_in" sSumIn f fd) (T : Txt K mg) (Po : Def1 P w K mg base CX0 1 "_law_power" ["_law_base", "_law_many"] (spPowerOf K)) : FnOk P w K mg base CX0 2 f fd ["_law_prime", "_law_kind_here", "_law_one", "_law_other"] (spSumIn K) := by
  refine F.ok scSumIn (fun vs H Q E h => ?_) (fun cdv A outer s H vs Q E hr h => ?_)
  · obtain ⟨p, a, b, c, ns, xs, ys, rfl, _⟩ := h
    rfl
  · obtain ⟨p, a, b, c, ns, xs, ys, rfl, hs, ht, hu, hg, h1, h2, k⟩ := h
    refine ⟨_, pss_one (ps_ret (pe_callTy call_tuple_of (by rfl) T.tuple (by decide +kernel) (pa_cons (pe_lc (own := [("_law_left", 4), ("_law_right_here", 5), ("_law_number", 6)]) (g := gTup K 3 (gCons (gName 4) (gCons (gName 5) (gCons (gName 6) gNil)))) (tt := tYes) rfl scSumIn.nd (pi_zipF (by rfl) T.zip (pa_cons (pv 2) (pa_cons (pv 3) (pa_cons (pv 1) pa_nil)))) (blkOk_by (N := ["_law_prime", "_law_kind_here", "_law_one", "_law_other", "_law_left", "_law_right_here", "_law_number"]) (sc := defScope sSumIn) (by decide +kernel)) (fun _ _ _ _ _ => pg_tup rfl (pgs_cons (pg_name (i := 4) scSumIn.nd rfl (Or.inl rfl)) (pgs_cons (pg_name (i := 5) scSumIn.nd rfl (Or.inl rfl)) (pgs_cons (pg_name (i := 6) scSumIn.nd rfl (Or.inl rfl)) pgs_nil)))) (fun _ _ _ _ _ => pts_nil) (fun _ _ _ _ _ => by exact (pe_op op_modN (pe_op op_add (pv 4) (pv 5)) (pe_def Po hr (by decide) (by rfl) (pa_cons (pv 0) (pa_cons (pv 6) pa_nil)))))) pa_nil))), ?_⟩
    have hl := hg.fall.len
    walk_at "rd"
    refine g_lc ?_
    unfold iZipF
    walk_at "rd"
    refine lcZ3 ht hu hs h1 h2 (by omega) (fun x y n => .int ((x + y) % powI p n.toNat)) (fun i x y n H' hx hy hz e Qe Qn he => ?_) (fun H' D e hD hd => ?_)
    · have hp := hg.pow (List.mem_of_getElem? hz)
      have hlo := hg.lo
      have hhi := hg.hi
      refine ⟨rfl, ?_⟩
      walk_at "rd"
      refine ⟨p, n.toNat, by rw [Int.toNat_of_nonneg (by omega)]; rfl, by omega, ⟨by omega, by omega⟩, ?_⟩
      walk_at "rd"
      refine g_I (show powI p n.toNat ≠ 0 by omega) ?_
      rw [Int.fmod_eq_emod_of_nonneg _ (by omega)]
      exact he _ (fun _ _ z => z)
    · walk_at "rd"
      refine ⟨D, _, rfl, .inl ⟨SqL.of hd, fun l hl => ?_⟩⟩
      refine k _ l (Ext.trans e (Ext.new hl)) ⟨l, rfl, ?_⟩
      unfold plusM
      rw [upd_same, List.map_map, ords_len]
      congr 2
      refine List.map_congr_left fun i hi => ?_
      have := List.mem_range.mp hi
      show _ = V.int ((xs.getD i 0 + ys.getD i 0) % (ordsM p ns).getD i 0)
      rw [ords_getD p ns i this]
end
end Q0

set_option Elab.async false
set_option linter.all false
set_option maxRecDepth 100000
set_option maxHeartbeats 4000000
/-! Values that are no elements. -/
namespace Q0
open PySem PySem.Spec PyProof.Rows L2 Gd
local macro_rules | `(tactic| walk_at "rd1") => `(tactic| first | with_reducible refine g_ret ?_ | with_reducible refine g_retN ?_ | with_reducible refine g_seq ?_ | with_reducible refine g_next ?_ | with_reducible refine g_drop ?_ | with_reducible refine g_asg ?_ | with_reducible refine g_name ?_ | with_reducible refine g_ifs ?_ | with_reducible refine g_test ?_ | with_reducible refine g_tb ?_ | with_reducible refine g_and ?_ | with_reducible refine g_or ?_ | with_reducible refine g_not ?_ | with_reducible refine g_andV ?_ | with_reducible refine g_orV ?_ | with_reducible refine g_notV ?_ | with_reducible refine g_if ?_ | with_reducible refine g_op ?_ | with_reducible refine g_un ?_ | with_reducible refine g_cb ?_ | with_reducible refine g_nil ?_ | with_reducible refine g_cons ?_ | with_reducible refine g_call ?_ | with_reducible refine g_callS ?_ | with_reducible refine g_tup ?_ | with_reducible refine g_lst ?_ | with_reducible refine g_isN ?_ | with_reducible refine g_sl ?_ | with_reducible refine g_nopart ?_ | with_reducible refine g_part ?_ | with_reducible refine g_chain ?_ | with_reducible refine g_fld ?_ | with_reducible refine g_prop ?_ | with_reducible refine g_bm ?_ | with_reducible refine g_bm0 ?_ | with_reducible refine g_c ?_ | with_reducible refine g_sub ?_ | with_reducible refine g_int1 ?_ | with_reducible refine g_int2 ?_ | with_reducible refine g_yes ?_ | with_reducible refine g_sfld ?_ | with_reducible refine g_NT ?_ | with_reducible refine g_NF ?_ | with_reducible refine iteT ?_ | with_reducible refine iteF ?_ | ((with_reducible refine' g_aug ?hv ?_); (case hv => exact rfl)) | ((with_reducible refine' g_var ?hv ?_); (case hv => exact rfl)) | with_reducible refine g_I0 ?_ | with_reducible refine g_U ?_ | with_reducible refine g_eqI ?_ | with_reducible refine g_blV ?_ | with_reducible refine g_inV ?_)
local macro_rules | `(tactic| walk_at "rd") => `(tactic| repeat walk_at "rd1")
theorem g_repR {K : PySem.W.Frag} {H : Hp} {Q : VK} {l : Addr} {v : V} {k : Int} (h : H l = some (.tup [v])) (k0 : 0 ≤ k) (k1 : k ≤ 1000) (c : ∀ H' p, Ext H H' → H' p = some (.tup (List.replicate k.toNat v)) → Q (.ref p) H') : rRepB K (.ref l) (.int k) H Q := by
  have e : (List.replicate k.toNat [v]).flatten = List.replicate k.toNat v := by
    generalize k.toNat = r
    induction r with
    | zero => rfl
    | succ r ih =>
      rw [List.replicate_succ, List.replicate_succ, List.flatten_cons, ih]
      rfl
  refine ⟨l, k, [v], rfl, rfl, SqT.of h, by simp, k0, by omega, by show 1 ≤ 10; decide, fun h1 => ?_, fun h1 u hu => ?_⟩
  · subst h1
    exact c H l (fun _ _ z => z) h
  · refine c _ u (Ext.new hu) ?_
    rw [upd_same, e]
theorem g_catT {K : PySem.W.Frag} {H : Hp} {Q : VK} {a b : Addr} {xs ys : List V} (ha : H a = some (.tup xs)) (hb : H b = some (.tup ys)) (hl : xs.length + ys.length ≤ 4000) (c : ∀ H' p, Ext H H' → H' p = some (.tup (xs ++ ys)) → Q (.ref p) H') : rCatA K (.ref a) (.ref b) H Q := by
  refine ⟨a, b, xs, ys, rfl, rfl, SqT.of ha, SqT.of hb, Nat.le_trans hl (by decide), fun e => ?_, fun _ e => ?_, fun _ _ p hp => ?_⟩
  · subst e
    exact c H b (fun _ _ z => z) hb
  · subst e
    exact c H a (fun _ _ z => z) (by rw [List.append_nil]; exact ha)
  · exact c _ p (Ext.new hp) upd_same
theorem ent_neg (o : Int) : entOk (.int (-1)) o = false := by
  show (decide ((0 : Int) ≤ -1) && decide ((-1 : Int) < o)) = false
  rw [decide_eq_false (show ¬ (0 : Int) ≤ -1 by decide), Bool.false_and]
theorem ent_ge {i o : Int} (h : ¬ i < o) : entOk (.int i) o = false := by
  show (decide (0 ≤ i) && decide (i < o)) = false
  rw [decide_eq_false h, Bool.and_false]
/-- known not to be a row of entries -/
def Bad (K : PySem.W.Frag) (d : Addr) (os : List Int) (H : Hp) (x : V) : Prop := ∀ H', ExtBut d H H' → EntB K H' x os false
theorem Bad.but {K : PySem.W.Frag} {d : Addr} {os : List Int} {H H' : Hp} {x : V} (e : ExtBut d H H') (h : Bad K d os H x) : Bad K d os H' x := fun H2 e2 => h H2 (ExtBut.trans e e2)
theorem Bad.ext {K : PySem.W.Frag} {d : Addr} {os : List Int} {H H' : Hp} {x : V} (e : Ext H H') (h : Bad K d os H x) : Bad K d os H' x := h.but (ExtBut.of e)
section
variable {K : PySem.W.Frag} {d : Addr} {os : List Int} {H : Hp}
theorem bad_non : Bad K d os H .non := fun H' _ => .inl ⟨⟨_, .base .non, by kernel_rfl⟩, rfl⟩
theorem bad_int (i : Int) : Bad K d os H (.int i) := fun H' _ => .inl ⟨⟨_, .base (.int i), by kernel_rfl⟩, rfl⟩
theorem bad_str (z : Str) : Bad K d os H (.str z) := fun H' _ => .inl ⟨⟨_, .base (.str z), by kernel_rfl⟩, rfl⟩
theorem bad_lst {a : Addr} {xs : List V} (h : H a = some (.lst xs)) (n : a ≠ d) : Bad K d os H (.ref a) := fun H' e => .inl ⟨⟨_, .base (.lst (e _ _ n h)), by kernel_rfl⟩, rfl⟩
theorem bad_dK {a : Addr} {kvs : List (Key × V)} (h : H a = some (.dK kvs)) (n : a ≠ d) : Bad K d os H (.ref a) := fun H' e => .inl ⟨⟨_, .base (.dK (e _ _ n h)), by kernel_rfl⟩, rfl⟩
/-- plain values -/
def Plain (H : Hp) (v : V) : Prop := (∃ i : Int, v = .int i) ∨ v = .non ∨ (∃ b, v = .bl b) ∨ (∃ z, v = .str z) ∨ ∃ c xs, v = .ref c ∧ H c = some (.tup xs)
theorem plain_rep {x v : V} {k : Nat} (h : Plain H v) (hx : x ∈ List.replicate k v) : Plain H x := by
  rw [List.eq_of_mem_replicate hx]
  exact h
theorem bad_tup {c : Addr} {vs : List V} (hd : DiceAt H d) (h : H c = some (.tup vs)) (hl : vs.length ≤ 900) (hp : ∀ v ∈ vs, Plain H v) (hf : vs.length ≠ os.length ∨ ∃ v ∈ vs, ∀ o ∈ os, entOk v o = false) : Bad K d os H (.ref c) := fun H' e => by
  obtain ⟨q1, q2, q3, hq, _⟩ := hd
  have ne : ∀ {b : Addr} {xs : List V}, H b = some (.tup xs) → b ≠ d := fun {b xs} h z => by
    rw [z, hq] at h
    cases h
  refine .inr ⟨c, vs, rfl, SqT.of (e _ _ (ne h) h), hl, fun v hv => ?_, ?_⟩
  · rcases hp v hv with ⟨i, rfl⟩ | rfl | ⟨b, rfl⟩ | ⟨z, rfl⟩ | ⟨b, xs, rfl, hb⟩
    · exact .inl ⟨i, rfl⟩
    · exact .inr fun _ _ => whole_non
    · exact .inr fun _ _ => whole_bl
    · exact .inr fun _ _ => whole_str
    · exact .inr fun H2 e2 => whole_tup (e2 _ _ (e _ _ (ne hb) hb))
  · by_cases hlen : vs.length = os.length
    · rcases hf with hf | ⟨v, hv, hf⟩
      · exact absurd hlen hf
      · obtain ⟨i, hi, rfl⟩ := List.getElem_of_mem hv
        rw [decide_eq_true hlen, Bool.true_and]
        refine Eq.symm (List.all_eq_false.mpr ⟨(vs[i], os[i]), List.mem_of_getElem? (i := i) ?_, ?_⟩)
        · rw [List.getElem?_zip_eq_some]
          exact ⟨List.getElem?_eq_getElem hi, List.getElem?_eq_getElem (by omega)⟩
        · rw [hf os[i] (List.getElem_mem _)]
          exact Bool.false_ne_true
    · rw [decide_eq_false hlen, Bool.false_and]
end
section
variable {P : Program} {w : World} {K : PySem.W.Frag} {mg : Str → Option Value} {base : Heap} {f C G tP : Addr} {fd : FuncData}
abbrev sStrange : Stmt := top 53
theorem scStrange : FnScope ["_law_dice_here", "_law_kind_here", "_law_wide", "_law_found"] ["_law_dice_here", "_law_kind_here"] (defScope sStrange) := ⟨rfl, rfl, rfl, by decide +kernel, rfl, by decide +kernel, by decide +kernel⟩
def spStrange (K : PySem.W.Frag) : Sp := fun vs H Q _ => ∃ (d a : Addr) (ns os : List Int), vs = [.ref d, .ref a] ∧ DiceAt H d ∧ SqT K H a (ns.map V.int) ∧ os.length = ns.length ∧ ns.length ≤ 100 ∧ (∀ o ∈ os, o ≤ 256) ∧
  ∀ H' x, ExtBut d H H' → DiceAt H' d → EntB K H' x os false → Q x H'
theorem ok_strange (F : Fun K "_law_strange" "_law_strange" sStrange f fd) (T : Txt K mg) (Pi : Def1 P w K mg base CX0 2 "_law_pick" ["_law_dice_here", "_law_items"] (spPickS K)) : FnOk P w K mg base CX0 3 f fd ["_law_dice_here", "_law_kind_here"] (spStrange K) := by
  refine F.ok scStrange (fun vs H Q E h => ?_) (fun cdv A outer s H vs Q E hr h => ?_)
  · obtain ⟨d, a, ns, os, rfl, _⟩ := h
    rfl
  · obtain ⟨d, a, ns, os, rfl, hd, hs, hlen, hl, ho, k⟩ := h
    refine ⟨_, pss_cons (ps_set (i := 2) scStrange.nd rfl (Or.inl rfl) (pe_callB call_len_seq (by rfl) T.len PySem.boot_len (pa_cons (pv 1) pa_nil)))
      (pss_cons (ps_set (i := 3) scStrange.nd rfl (Or.inl rfl) (pe_lst (pa_cons pe_non (pa_cons pe_int (pa_cons pe_str (pa_cons (pe_dnewK) (pa_cons (pe_op op_rep (pe_lst (pa_cons pe_int pa_nil)) (pv 2)) (pa_cons (pe_op op_repB (pe_tup (pa_cons pe_int pa_nil)) (pe_op op_add (pv 2) pe_int)) (pa_cons (pe_op op_catA (pe_op op_repB (pe_tup (pa_cons pe_int pa_nil)) (pv 2)) (pe_tup (pa_cons pe_bl pa_nil))) (pa_cons (pe_op op_repS pe_str (pv 2)) (pa_cons (pe_tup (pa_cons (pe_op op_repB (pe_tup (pa_cons pe_int pa_nil)) (pv 2)) pa_nil)) pa_nil)))))))))))
      (pss_cons (ps_if (pt_cmpR op_gt (pv 2) pe_int (nomark _)) (pss_cons (ps_set (i := 3) scStrange.nd rfl (Or.inl rfl) (pe_op op_cat (pv 3) (pe_lst (pa_cons (pe_op op_repB (pe_tup (pa_cons pe_int pa_nil)) (pe_op op_sub (pv 2) pe_int)) (pa_cons (pe_op op_catA (pe_op op_repB (pe_tup (pa_cons pe_int pa_nil)) (pe_op op_sub (pv 2) pe_int)) (pe_tup (pa_cons (pe_un un_neg pe_int) pa_nil))) (pa_cons (pe_op op_catA (pe_op op_repB (pe_tup (pa_cons pe_int pa_nil)) (pe_op op_sub (pv 2) pe_int)) (pe_tup (pa_cons pe_bl pa_nil))) (pa_cons (pe_op op_catA (pe_tup (pa_cons (pe_op op_pow pe_int pe_int) pa_nil)) (pe_op op_repB (pe_tup (pa_cons pe_int pa_nil)) (pe_op op_sub (pv 2) pe_int))) pa_nil)))))))
      (pss_one (ps_set (i := 3) scStrange.nd rfl (Or.inl rfl) (pe_op op_cat (pv 3) (pe_lst (pa_cons (pe_op op_catA (pe_tup (pa_cons pe_non pa_nil)) (pe_op op_repB (pe_tup (pa_cons pe_int pa_nil)) (pe_op op_sub (pv 2) pe_int))) (pa_cons (pe_op op_catA (pe_tup (pa_cons pe_str pa_nil)) (pe_op op_repB (pe_tup (pa_cons pe_int pa_nil)) (pe_op op_sub (pv 2) pe_int))) (pa_cons (pe_op op_catA (pe_op op_repB (pe_tup (pa_cons pe_int pa_nil)) (pe_op op_sub (pv 2) pe_int)) (pe_tup (pa_cons (pe_tup (pa_cons pe_int pa_nil)) pa_nil))) pa_nil)))))))) pss_nil)
      (pss_one (ps_ret (pe_def Pi hr (by decide) (by rfl) (pa_cons (pv 0) (pa_cons (pv 3) pa_nil))))))), ?_⟩
    walk_at "rd"
    refine ⟨a, _, rfl, .inr hs, ?_⟩
    rw [List.length_map]
    have zp : ∀ (H : Hp) (k : Nat), ∀ v ∈ List.replicate k (V.int 0), Plain H v := fun H k v hv => plain_rep (.inl ⟨0, rfl⟩) hv
    have hsz : (5000 : Nat) ≤ sizeLine := by decide
    walk_at "rd"
    unfold tDNewK
    refine fun D hD => ?_
    have e1 := Ext.new (o := HO.dK []) hD
    have b4 : Bad K d os (upd H D (.dK [])) (.ref D) := bad_dK upd_same (dice_none hd hD)
    generalize upd H D (.dK []) = H1 at e1 b4 ⊢
    walk_at "rd"
    refine ⟨by show 1 ≤ sizeLine; decide, fun L hL => ?_⟩
    have eL := Ext.new (o := HO.lst [V.int 0]) hL
    have hL1 : upd H1 L (HO.lst [V.int 0]) L = some (.lst [V.int 0]) := upd_same
    generalize upd H1 L (HO.lst [V.int 0]) = H2 at eL hL1 ⊢
    walk_at "rd"
    refine ⟨L, _, _, rfl, rfl, hL1, by omega, by omega, ?_, fun L2 hL2 => ?_⟩
    · rw [Int.toNat_natCast]
      show 1 * _ ≤ _
      omega
    have e2 := Ext.trans e1 (Ext.trans eL (Ext.new (o := HO.lst (List.replicate (ns.length : Int).toNat [V.int 0]).flatten) hL2))
    have b4 := b4.ext (Ext.trans eL (Ext.new (o := HO.lst (List.replicate (ns.length : Int).toNat [V.int 0]).flatten) hL2))
    have b5 : Bad K d os (upd H2 L2 (HO.lst (List.replicate (ns.length : Int).toNat [V.int 0]).flatten)) (.ref L2) := bad_lst upd_same (dice_none (hd.ext (Ext.trans e1 eL)) hL2)
    generalize upd H2 L2 (HO.lst (List.replicate (ns.length : Int).toNat [V.int 0]).flatten) = H3 at e2 b4 b5 ⊢
    clear hL hL1 hL2 eL
    walk_at "rd"
    refine ⟨by show 1 ≤ sizeLine; decide, fun u1 hu1 => ?_⟩
    have eu1 := Ext.new (o := HO.tup [V.int 0]) hu1
    have hu1' : upd H3 u1 (HO.tup [V.int 0]) u1 = some (.tup [V.int 0]) := upd_same
    generalize upd H3 u1 (HO.tup [V.int 0]) = H4 at eu1 hu1' ⊢
    walk_at "rd"
    refine g_repR hu1' (by omega) (by omega) fun H5 t6 e6 h6 => ?_
    have e56 := Ext.trans eu1 e6
    have b6 : Bad K d os H5 (.ref t6) := bad_tup (hd.ext (Ext.trans e2 e56)) h6 (by rw [List.length_replicate]; omega) (zp _ _) (.inl (by rw [List.length_replicate]; omega))
    walk_at "rd"
    refine ⟨by show 1 ≤ sizeLine; decide, fun u2 hu2 => ?_⟩
    have eu2 := Ext.new (o := HO.tup [V.int 0]) hu2
    have hu2' : upd H5 u2 (HO.tup [V.int 0]) u2 = some (.tup [V.int 0]) := upd_same
    generalize upd H5 u2 (HO.tup [V.int 0]) = H6 at eu2 hu2' ⊢
    walk_at "rd"
    refine g_repR hu2' (by omega) (by omega) fun H7 t7 e7 h7 => ?_
    walk_at "rd"
    refine ⟨by show 1 ≤ sizeLine; decide, fun u3 hu3 => ?_⟩
    have eu3 := Ext.new (o := HO.tup [V.bl true]) hu3
    have hu3' : upd H7 u3 (HO.tup [V.bl true]) u3 = some (.tup [V.bl true]) := upd_same
    generalize upd H7 u3 (HO.tup [V.bl true]) = H8 at eu3 hu3' ⊢
    walk_at "rd"
    refine g_catT (eu3 _ _ h7) hu3' (by rw [List.length_replicate]; show _ + 1 ≤ _; omega) fun H9 t8 e9 h9 => ?_
    have e59 := Ext.trans eu2 (Ext.trans e7 (Ext.trans eu3 e9))
    have e39 := Ext.trans e56 e59
    have e09 := Ext.trans e2 e39
    have b6 := b6.ext e59
    have b4 := b4.ext e39
    have b5 := b5.ext e39
    have b7 : Bad K d os H9 (.ref t8) := by
      refine bad_tup (hd.ext e09) h9 (by rw [List.length_append, List.length_replicate]; show _ + 1 ≤ _; omega) (fun v hv => ?_) (.inl (by rw [List.length_append, List.length_replicate]; show _ + 1 ≠ _; omega))
      rcases List.mem_append.mp hv with hv | hv
      · exact zp _ _ v hv
      · rw [List.mem_singleton.mp hv]
        exact .inr (.inr (.inl ⟨true, rfl⟩))
    clear e59 e39 eu2 e7 eu3 e9 e56 eu1 e6 h6 hu1 hu1' hu2 hu2' hu3 hu3' h7
    walk_at "rd"
    refine ⟨_, _, rfl, rfl, by decide, by omega, by omega, fun z8 => ?_⟩
    walk_at "rd"
    refine ⟨by show 1 ≤ sizeLine; decide, fun u4 hu4 => ?_⟩
    have eu4 := Ext.new (o := HO.tup [V.int 0]) hu4
    have hu4' : upd H9 u4 (HO.tup [V.int 0]) u4 = some (.tup [V.int 0]) := upd_same
    generalize upd H9 u4 (HO.tup [V.int 0]) = H10 at eu4 hu4' ⊢
    walk_at "rd"
    refine g_repR hu4' (by omega) (by omega) fun H11 t9 e11 h11 => ?_
    walk_at "rd"
    refine ⟨by show 1 ≤ sizeLine; decide, fun u5 hu5 => ?_⟩
    have eu5 := Ext.new (o := HO.tup [V.ref t9]) hu5
    have b9 : Bad K d os (upd H11 u5 (HO.tup [V.ref t9])) (.ref u5) := by
      refine bad_tup (hd.ext (Ext.trans e09 (Ext.trans eu4 (Ext.trans e11 eu5)))) upd_same (by show 1 ≤ 900; decide) (fun v hv => ?_) (.inr ⟨_, List.mem_singleton.mpr rfl, fun o _ => rfl⟩)
      rw [List.mem_singleton.mp hv]
      exact .inr (.inr (.inr (.inr ⟨t9, _, rfl, eu5 _ _ h11⟩)))
    have e9 := Ext.trans eu4 (Ext.trans e11 eu5)
    generalize upd H11 u5 (HO.tup [V.ref t9]) = H12 at eu5 b9 e9 ⊢
    walk_at "rd"
    refine ⟨by show 9 ≤ sizeLine; decide, fun F1 hF1 => ?_⟩
    have eF := Ext.new (o := HO.lst [V.non, V.int 0, V.str (Str.ofString ""), V.ref D, V.ref L2, V.ref t6, V.ref t8, V.str z8, V.ref u5]) hF1
    have e0 := Ext.trans e09 (Ext.trans e9 eF)
    have hF2 : upd H12 F1 (HO.lst [V.non, V.int 0, V.str (Str.ofString ""), V.ref D, V.ref L2, V.ref t6, V.ref t8, V.str z8, V.ref u5]) F1 = _ := upd_same
    have bs : ∀ x ∈ [V.non, V.int 0, V.str (Str.ofString ""), V.ref D, V.ref L2, V.ref t6, V.ref t8, V.str z8, V.ref u5], Bad K d os (upd H12 F1 (HO.lst [V.non, V.int 0, V.str (Str.ofString ""), V.ref D, V.ref L2, V.ref t6, V.ref t8, V.str z8, V.ref u5])) x := by
      have e9F := Ext.trans e9 eF
      simp only [List.forall_mem_cons]
      exact ⟨bad_non, bad_int 0, bad_str _, b4.ext e9F, b5.ext e9F, b6.ext e9F, b7.ext e9F, bad_str _, b9.ext eF, fun _ h => by cases h⟩
    have hn1 : ([V.non, V.int 0, V.str (Str.ofString ""), V.ref D, V.ref L2, V.ref t6, V.ref t8, V.str z8, V.ref u5] : List V).length = 9 := rfl
    have hFd : H F1 = none := new_up (Ext.trans e09 e9) hF1
    generalize [V.non, V.int 0, V.str (Str.ofString ""), V.ref D, V.ref L2, V.ref t6, V.ref t8, V.str z8, V.ref u5] = xs at bs hF2 hn1 e0 eF ⊢
    generalize upd H12 F1 (HO.lst xs) = H13 at e0 hF2 bs eF ⊢
    clear b4 b5 b6 b7 b9 eF e9 eu5 hu5 h11 e11 hu4 hu4' eu4 h9 e09
    walk_at "rd"
    have fin : ∀ (H' : Hp) (F : Addr) (xs : List V), Ext H H' → H F = none → H' F = some (.lst xs) → 0 < xs.length → xs.length ≤ 20 → (∀ x ∈ xs, Bad K d os H' x) → spPickS K [.ref d, .ref F] H' Q X0 := fun H' F xs e hF hF2 l0 l1 hb =>
      ⟨d, F, xs, rfl, hd.ext e, .inl ⟨SqL.of hF2, dice_none hd hF⟩, l0, by omega, fun H2 x e2 hd2 hx => k H2 x (ExtBut.trans (ExtBut.of e) e2) hd2 (hb x hx H2 e2)⟩
    have zl : ∀ m : Nat, (List.replicate m (V.int 0)).length = m := fun m => List.length_replicate
    refine ite2 (fun h1 => ?_) (fun h1 => ?_)
    rotate_left
    · walk_at "rd"
      exact fin _ _ _ e0 hFd hF2 (by omega) (by omega) bs
    have h1' : 0 < (ns.length : Int) := of_decide_eq_true h1
    have hdb : ∀ {H' : Hp}, Ext H13 H' → DiceAt H' d := fun e => hd.ext (Ext.trans e0 e)
    have tb : ∀ (H' : Hp) (c : Addr) (vs : List V) (v : V), Ext H13 H' → H' c = some (.tup vs) → vs.length ≤ 900 → (∀ v ∈ vs, v = V.int 0 ∨ Plain H' v) → v ∈ vs → (∀ o ∈ os, entOk v o = false) → Bad K d os H' (.ref c) := fun H' c vs v e h hl hp hv hf =>
      bad_tup (hdb e) h hl (fun v hv => (hp v hv).elim (fun z => .inl ⟨0, z⟩) id) (.inr ⟨v, hv, hf⟩)
    have ra : ∀ (m : Nat) (H' : Hp) (v : V), Plain H' v → ∀ x ∈ List.replicate m (V.int 0) ++ [v], x = V.int 0 ∨ Plain H' x := fun m H' v hv x hx => by
      rcases List.mem_append.mp hx with hx | hx
      · exact .inl (List.eq_of_mem_replicate hx)
      · rw [List.mem_singleton.mp hx]
        exact .inr hv
    have rb : ∀ (m : Nat) (H' : Hp) (v : V), Plain H' v → ∀ x ∈ [v] ++ List.replicate m (V.int 0), x = V.int 0 ∨ Plain H' x := fun m H' v hv x hx => by
      rcases List.mem_append.mp hx with hx | hx
      · rw [List.mem_singleton.mp hx]
        exact .inr hv
      · exact .inl (List.eq_of_mem_replicate hx)
    have la : ∀ (v : V), v ∈ List.replicate ((ns.length : Int) - 1).toNat (V.int 0) ++ [v] := fun v => List.mem_append_right _ (List.mem_singleton.mpr rfl)
    have lb : ∀ (v : V), v ∈ [v] ++ List.replicate ((ns.length : Int) - 1).toNat (V.int 0) := fun v => List.mem_append_left _ (List.mem_singleton.mpr rfl)
    have na : ∀ (v : V), (List.replicate ((ns.length : Int) - 1).toNat (V.int 0) ++ [v]).length ≤ 900 := fun v => by
      rw [List.length_append, zl]
      show _ + 1 ≤ _
      omega
    have nb : ∀ (v : V), ([v] ++ List.replicate ((ns.length : Int) - 1).toNat (V.int 0)).length ≤ 900 := fun v => by
      rw [List.length_append, zl]
      show 1 + _ ≤ _
      omega
    walk_at "rd"
    refine ⟨by show 1 ≤ sizeLine; decide, fun v1 hv1 => ?_⟩
    have ev1 := Ext.new (o := HO.tup [V.int 0]) hv1
    have hv1' : upd H13 v1 (HO.tup [V.int 0]) v1 = some (.tup [V.int 0]) := upd_same
    generalize upd H13 v1 (HO.tup [V.int 0]) = J1 at ev1 hv1' ⊢
    walk_at "rd"
    refine g_repR hv1' (by omega) (by omega) fun J2 w1 ew1 hw1 => ?_
    walk_at "rd"
    have c1 : Bad K d os J2 (.ref w1) := bad_tup (hdb (Ext.trans ev1 ew1)) hw1 (by rw [zl]; omega) (zp _ _) (.inl (by rw [zl]; omega))
    have f2 := Ext.trans ev1 ew1
    clear ev1 ew1 hw1 hv1 hv1'
    refine ⟨by show 1 ≤ sizeLine; decide, fun v2a hv2a => ?_⟩
    have ev2a := Ext.new (o := HO.tup [V.int 0]) hv2a
    have hv2a' : upd J2 v2a (HO.tup [V.int 0]) v2a = some (.tup [V.int 0]) := upd_same
    generalize upd J2 v2a (HO.tup [V.int 0]) = J2a at ev2a hv2a' ⊢
    walk_at "rd"
    refine g_repR hv2a' (by omega) (by omega) fun J2b w2a ew2a hw2a => ?_
    walk_at "rd"
    refine ⟨by show 1 ≤ sizeLine; decide, fun v2b hv2b => ?_⟩
    have ev2b := Ext.new (o := HO.tup [V.int (-1)]) hv2b
    have hv2b' : upd J2b v2b (HO.tup [V.int (-1)]) v2b = some (.tup [V.int (-1)]) := upd_same
    generalize upd J2b v2b (HO.tup [V.int (-1)]) = J2c at ev2b hv2b' ⊢
    walk_at "rd"
    refine g_catT (ev2b _ _ hw2a) hv2b' (by have := na (V.int (-1)); rw [List.length_append] at this; omega) fun J3 w2 ew2 hw2 => ?_
    walk_at "rd"
    have g2 := Ext.trans ev2a (Ext.trans ew2a (Ext.trans ev2b ew2))
    have f3 := Ext.trans f2 g2
    have c2 : Bad K d os J3 (.ref w2) := tb _ _ _ (V.int (-1)) f3 hw2 (na _) (ra _ _ _ (.inl ⟨-1, rfl⟩)) (la _) (fun o _ => ent_neg o)
    have c1 := c1.ext g2
    refine ⟨by show 1 ≤ sizeLine; decide, fun v3a hv3a => ?_⟩
    have ev3a := Ext.new (o := HO.tup [V.int 0]) hv3a
    have hv3a' : upd J3 v3a (HO.tup [V.int 0]) v3a = some (.tup [V.int 0]) := upd_same
    generalize upd J3 v3a (HO.tup [V.int 0]) = J3a at ev3a hv3a' ⊢
    walk_at "rd"
    refine g_repR hv3a' (by omega) (by omega) fun J3b w3a ew3a hw3a => ?_
    walk_at "rd"
    refine ⟨by show 1 ≤ sizeLine; decide, fun v3b hv3b => ?_⟩
    have ev3b := Ext.new (o := HO.tup [V.bl true]) hv3b
    have hv3b' : upd J3b v3b (HO.tup [V.bl true]) v3b = some (.tup [V.bl true]) := upd_same
    generalize upd J3b v3b (HO.tup [V.bl true]) = J3c at ev3b hv3b' ⊢
    walk_at "rd"
    refine g_catT (ev3b _ _ hw3a) hv3b' (by have := na (V.bl true); rw [List.length_append] at this; omega) fun J4 w3 ew3 hw3 => ?_
    walk_at "rd"
    have g3 := Ext.trans ev3a (Ext.trans ew3a (Ext.trans ev3b ew3))
    have f4 := Ext.trans f3 g3
    have c3 : Bad K d os J4 (.ref w3) := tb _ _ _ (V.bl true) f4 hw3 (na _) (ra _ _ _ (.inr (.inr (.inl ⟨true, rfl⟩)))) (la _) (fun o _ => rfl)
    have c1 := c1.ext g3
    have c2 := c2.ext g3
    walk_at "rd"
    clear g2 g3 ev2a ew2a ev2b ew2 hw2a hw2 hv2a hv2a' hv2b hv2b' ev3a ew3a ev3b ew3 hw3a hw3 hv3a hv3a' hv3b hv3b'
    refine g_I (show CPow 10 60 from ⟨by decide, by decide, by decide⟩) ?_
    obtain ⟨bg, hbg⟩ : ∃ b : Int, b = (10 : Int) ^ (60 : Int).toNat := ⟨_, rfl⟩
    have hbig : (256 : Int) < bg := by
      rw [hbg]
      decide +kernel
    rw [← hbg]
    clear hbg
    walk_at "rd"
    refine ⟨by show 1 ≤ sizeLine; decide, fun v4b hv4b => ?_⟩
    have ev4b := Ext.new (o := HO.tup [V.int bg]) hv4b
    have hv4b' : upd J4 v4b (HO.tup [V.int bg]) v4b = some (.tup [V.int bg]) := upd_same
    generalize upd J4 v4b (HO.tup [V.int bg]) = J4a at ev4b hv4b' ⊢
    walk_at "rd"
    refine ⟨by show 1 ≤ sizeLine; decide, fun v4a hv4a => ?_⟩
    have ev4a := Ext.new (o := HO.tup [V.int 0]) hv4a
    have hv4a' : upd J4a v4a (HO.tup [V.int 0]) v4a = some (.tup [V.int 0]) := upd_same
    generalize upd J4a v4a (HO.tup [V.int 0]) = J4b at ev4a hv4a' ⊢
    walk_at "rd"
    refine g_repR hv4a' (by omega) (by omega) fun J4c w4a ew4a hw4a => ?_
    walk_at "rd"
    refine g_catT (ew4a _ _ (ev4a _ _ hv4b')) hw4a (by have := nb (V.int bg); rw [List.length_append] at this; omega) fun J5 w4 ew4 hw4 => ?_
    walk_at "rd"
    have g4 := Ext.trans ev4b (Ext.trans ev4a (Ext.trans ew4a ew4))
    have f5 := Ext.trans f4 g4
    have c4 : Bad K d os J5 (.ref w4) := tb _ _ _ (V.int bg) f5 hw4 (nb _) (rb _ _ _ (.inl ⟨bg, rfl⟩)) (lb _) (fun o ho' => ent_ge (by have := ho o ho'; omega))
    have c1 := c1.ext g4
    have c2 := c2.ext g4
    have c3 := c3.ext g4
    refine ⟨by show 4 ≤ sizeLine; decide, fun F2 hF2n => ?_⟩
    have e5 := Ext.new (o := HO.lst [V.ref w1, V.ref w2, V.ref w3, V.ref w4]) hF2n
    have hF5 : upd J5 F2 (HO.lst [V.ref w1, V.ref w2, V.ref w3, V.ref w4]) F2 = some (.lst [V.ref w1, V.ref w2, V.ref w3, V.ref w4]) := upd_same
    have f6 := Ext.trans f5 e5
    have bs2 : ∀ x ∈ [V.ref w1, V.ref w2, V.ref w3, V.ref w4], Bad K d os (upd J5 F2 (HO.lst [V.ref w1, V.ref w2, V.ref w3, V.ref w4])) x := by
      simp only [List.forall_mem_cons]
      exact ⟨c1.ext e5, c2.ext e5, c3.ext e5, c4.ext e5, fun _ h => by cases h⟩
    have hn2 : ([V.ref w1, V.ref w2, V.ref w3, V.ref w4] : List V).length = 4 := rfl
    generalize [V.ref w1, V.ref w2, V.ref w3, V.ref w4] = ys at bs2 hF5 hn2 e5 f6 ⊢
    generalize upd J5 F2 (HO.lst ys) = J6 at e5 hF5 bs2 f6 ⊢
    walk_at "rd"
    refine ⟨F1, F2, xs, ys, rfl, rfl, f6 _ _ hF2, hF5, by omega, fun F3 hF3n => ?_⟩
    have e7 := Ext.new (o := HO.lst (xs ++ ys)) hF3n
    have hF7 : upd J6 F3 (HO.lst (xs ++ ys)) F3 = some (.lst (xs ++ ys)) := upd_same
    have f7 := Ext.trans f6 e7
    have bs3 : ∀ x ∈ xs ++ ys, Bad K d os (upd J6 F3 (HO.lst (xs ++ ys))) x := fun x hx => (List.mem_append.mp hx).elim (fun h => (bs x h).ext f7) fun h => (bs2 x h).ext e7
    have hn3 : (xs ++ ys).length = 13 := by rw [List.length_append]; omega
    generalize xs ++ ys = zs at bs3 hF7 hn3 e7 f7 ⊢
    generalize upd J6 F3 (HO.lst zs) = J7 at e7 hF7 bs3 f7 ⊢
    clear c1 c2 c3 c4 e5 e7 bs2 bs
    walk_at "rd"
    refine ⟨by show 1 ≤ sizeLine; decide, fun v5b hv5b => ?_⟩
    have ev5b := Ext.new (o := HO.tup [V.non]) hv5b
    have hv5b' : upd J7 v5b (HO.tup [V.non]) v5b = some (.tup [V.non]) := upd_same
    generalize upd J7 v5b (HO.tup [V.non]) = J7a at ev5b hv5b' ⊢
    walk_at "rd"
    refine ⟨by show 1 ≤ sizeLine; decide, fun v5a hv5a => ?_⟩
    have ev5a := Ext.new (o := HO.tup [V.int 0]) hv5a
    have hv5a' : upd J7a v5a (HO.tup [V.int 0]) v5a = some (.tup [V.int 0]) := upd_same
    generalize upd J7a v5a (HO.tup [V.int 0]) = J7b at ev5a hv5a' ⊢
    walk_at "rd"
    refine g_repR hv5a' (by omega) (by omega) fun J7c w5a ew5a hw5a => ?_
    walk_at "rd"
    refine g_catT (ew5a _ _ (ev5a _ _ hv5b')) hw5a (by have := nb (V.non); rw [List.length_append] at this; omega) fun J8 w5 ew5 hw5 => ?_
    walk_at "rd"
    have g5 := Ext.trans ev5b (Ext.trans ev5a (Ext.trans ew5a ew5))
    have f8 := Ext.trans f7 g5
    have c5 : Bad K d os J8 (.ref w5) := tb _ _ _ (V.non) f8 hw5 (nb _) (rb _ _ _ (.inr (.inl rfl))) (lb _) (fun o _ => rfl)
    refine ⟨by show 1 ≤ sizeLine; decide, fun v6b hv6b => ?_⟩
    have ev6b := Ext.new (o := HO.tup [V.str (Str.ofString "1")]) hv6b
    have hv6b' : upd J8 v6b (HO.tup [V.str (Str.ofString "1")]) v6b = some (.tup [V.str (Str.ofString "1")]) := upd_same
    generalize upd J8 v6b (HO.tup [V.str (Str.ofString "1")]) = J8a at ev6b hv6b' ⊢
    walk_at "rd"
    refine ⟨by show 1 ≤ sizeLine; decide, fun v6a hv6a => ?_⟩
    have ev6a := Ext.new (o := HO.tup [V.int 0]) hv6a
    have hv6a' : upd J8a v6a (HO.tup [V.int 0]) v6a = some (.tup [V.int 0]) := upd_same
    generalize upd J8a v6a (HO.tup [V.int 0]) = J8b at ev6a hv6a' ⊢
    walk_at "rd"
    refine g_repR hv6a' (by omega) (by omega) fun J8c w6a ew6a hw6a => ?_
    walk_at "rd"
    refine g_catT (ew6a _ _ (ev6a _ _ hv6b')) hw6a (by have := nb (V.str (Str.ofString "1")); rw [List.length_append] at this; omega) fun J9 w6 ew6 hw6 => ?_
    walk_at "rd"
    have g6 := Ext.trans ev6b (Ext.trans ev6a (Ext.trans ew6a ew6))
    have f9 := Ext.trans f8 g6
    have c6 : Bad K d os J9 (.ref w6) := tb _ _ _ (V.str (Str.ofString "1")) f9 hw6 (nb _) (rb _ _ _ (.inr (.inr (.inr (.inl ⟨_, rfl⟩))))) (lb _) (fun o _ => rfl)
    have c5 := c5.ext g6
    refine ⟨by show 1 ≤ sizeLine; decide, fun v7a hv7a => ?_⟩
    have ev7a := Ext.new (o := HO.tup [V.int 0]) hv7a
    have hv7a' : upd J9 v7a (HO.tup [V.int 0]) v7a = some (.tup [V.int 0]) := upd_same
    generalize upd J9 v7a (HO.tup [V.int 0]) = J9a at ev7a hv7a' ⊢
    walk_at "rd"
    refine g_repR hv7a' (by omega) (by omega) fun J9b w7a ew7a hw7a => ?_
    walk_at "rd"
    refine ⟨by show 1 ≤ sizeLine; decide, fun v7c hv7c => ?_⟩
    have ev7c := Ext.new (o := HO.tup [V.int 0]) hv7c
    have hv7c' : upd J9b v7c (HO.tup [V.int 0]) v7c = some (.tup [V.int 0]) := upd_same
    generalize upd J9b v7c (HO.tup [V.int 0]) = J9c at ev7c hv7c' ⊢
    walk_at "rd"
    refine ⟨by show 1 ≤ sizeLine; decide, fun v7b hv7b => ?_⟩
    have ev7b := Ext.new (o := HO.tup [V.ref v7c]) hv7b
    have hv7b' : upd J9c v7b (HO.tup [V.ref v7c]) v7b = some (.tup [V.ref v7c]) := upd_same
    generalize upd J9c v7b (HO.tup [V.ref v7c]) = J9d at ev7b hv7b' ⊢
    walk_at "rd"
    refine g_catT (ev7b _ _ (ev7c _ _ hw7a)) hv7b' (by have := na (V.int 0); rw [List.length_append] at this; show _ + 1 ≤ _; have h1 : [V.int 0].length = 1 := rfl; omega) fun J10 w7 ew7 hw7 => ?_
    walk_at "rd"
    have g7 := Ext.trans ev7a (Ext.trans ew7a (Ext.trans ev7c (Ext.trans ev7b ew7)))
    have f10 := Ext.trans f9 g7
    have c7 : Bad K d os J10 (.ref w7) := tb _ _ _ (V.ref v7c) f10 hw7 (na _) (ra _ _ _ (.inr (.inr (.inr (.inr ⟨v7c, _, rfl, ew7 _ _ (ev7b _ _ hv7c')⟩))))) (la _) (fun o _ => rfl)
    have c5 := c5.ext g7
    have c6 := c6.ext g7
    refine ⟨by show 3 ≤ sizeLine; decide, fun F4 hF4n => ?_⟩
    have e11 := Ext.new (o := HO.lst [V.ref w5, V.ref w6, V.ref w7]) hF4n
    have hF11 : upd J10 F4 (HO.lst [V.ref w5, V.ref w6, V.ref w7]) F4 = some (.lst [V.ref w5, V.ref w6, V.ref w7]) := upd_same
    have f11 := Ext.trans f10 e11
    have g811 := Ext.trans g5 (Ext.trans g6 (Ext.trans g7 e11))
    have bs4 : ∀ x ∈ [V.ref w5, V.ref w6, V.ref w7], Bad K d os (upd J10 F4 (HO.lst [V.ref w5, V.ref w6, V.ref w7])) x := by
      simp only [List.forall_mem_cons]
      exact ⟨c5.ext e11, c6.ext e11, c7.ext e11, fun _ h => by cases h⟩
    have hn4 : ([V.ref w5, V.ref w6, V.ref w7] : List V).length = 3 := rfl
    generalize [V.ref w5, V.ref w6, V.ref w7] = us at bs4 hF11 hn4 e11 f11 g811 ⊢
    generalize upd J10 F4 (HO.lst us) = J11 at e11 hF11 bs4 f11 g811 ⊢
    walk_at "rd"
    refine ⟨F3, F4, zs, us, rfl, rfl, g811 _ _ hF7, hF11, by omega, fun F5 hF5n => ?_⟩
    have e12 := Ext.new (o := HO.lst (zs ++ us)) hF5n
    walk_at "rd"
    refine fin _ _ _ (Ext.trans e0 (Ext.trans f11 e12)) (new_up (Ext.trans e0 f11) hF5n) upd_same (by rw [List.length_append]; omega) (by rw [List.length_append]; omega) fun x hx => (List.mem_append.mp hx).elim (fun h => (bs3 x h).ext (Ext.trans g811 e12)) fun h => (bs4 x h).ext e12
end
end Q0

set_option Elab.async false
set_option linter.all false
set_option maxRecDepth 100000
set_option maxHeartbeats 4000000
/-! All kinds whose group is not too great. -/
namespace Q0
open PySem PySem.Spec PyProof.Rows L2 Gd
local macro_rules | `(tactic| walk_at "rd1") => `(tactic| first | with_reducible refine g_ret ?_ | with_reducible refine g_retN ?_ | with_reducible refine g_seq ?_ | with_reducible refine g_next ?_ | with_reducible refine g_drop ?_ | with_reducible refine g_asg ?_ | with_reducible refine g_name ?_ | with_reducible refine g_ifs ?_ | with_reducible refine g_test ?_ | with_reducible refine g_tb ?_ | with_reducible refine g_and ?_ | with_reducible refine g_or ?_ | with_reducible refine g_not ?_ | with_reducible refine g_andV ?_ | with_reducible refine g_orV ?_ | with_reducible refine g_notV ?_ | with_reducible refine g_if ?_ | with_reducible refine g_op ?_ | with_reducible refine g_un ?_ | with_reducible refine g_cb ?_ | with_reducible refine g_nil ?_ | with_reducible refine g_cons ?_ | with_reducible refine g_call ?_ | with_reducible refine g_callS ?_ | with_reducible refine g_tup ?_ | with_reducible refine g_lst ?_ | with_reducible refine g_isN ?_ | with_reducible refine g_sl ?_ | with_reducible refine g_nopart ?_ | with_reducible refine g_part ?_ | with_reducible refine g_chain ?_ | with_reducible refine g_fld ?_ | with_reducible refine g_prop ?_ | with_reducible refine g_bm ?_ | with_reducible refine g_bm0 ?_ | with_reducible refine g_c ?_ | with_reducible refine g_sub ?_ | with_reducible refine g_int1 ?_ | with_reducible refine g_int2 ?_ | with_reducible refine g_yes ?_ | with_reducible refine g_sfld ?_ | with_reducible refine g_NT ?_ | with_reducible refine g_NF ?_ | with_reducible refine iteT ?_ | with_reducible refine iteF ?_ | ((with_reducible refine' g_aug ?hv ?_); (case hv => exact rfl)) | ((with_reducible refine' g_var ?hv ?_); (case hv => exact rfl)) | with_reducible refine g_I0 ?_ | with_reducible refine g_U ?_ | with_reducible refine g_eqI ?_ | with_reducible refine g_blV ?_ | with_reducible refine g_inV ?_)
local macro_rules | `(tactic| walk_at "rd") => `(tactic| repeat walk_at "rd1")
section
variable {P : Program} {w : World} {K : PySem.W.Frag} {mg : Str → Option Value} {base : Heap} {f : Addr} {fd : FuncData}
abbrev sRoom : Stmt := top 51
theorem scRoom : FnScope ["_law_prime", "_law_most", "_law_found", "_law_size", "_law_whole"] ["_law_prime", "_law_most"] (defScope sRoom) := ⟨rfl, rfl, rfl, by decide +kernel, rfl, by decide +kernel, by decide +kernel⟩
/-- a kind whose group is not too great, as a tuple -/
def KM (K : PySem.W.Frag) (p most : Int) (H : Hp) (f : V) : Prop := ∃ (a : Addr) (ns : List Int), f = .ref a ∧ TupX K H a (ns.map V.int) ∧ Fall ns ∧ powI p ns.sum.toNat ≤ most
theorem KM.keeps {H H' : Hp} {p most : Int} {f : V} (e : Keeps H H') (h : KM K p most H f) : KM K p most H' f := by
  obtain ⟨a, ns, rfl, ht, r⟩ := h
  exact ⟨a, ns, rfl, TupX.keeps e ht, r⟩
def spRoom (K : PySem.W.Frag) : Sp := fun vs H Q _ => ∃ (p most : Int), vs = [.int p, .int most] ∧ 2 ≤ p ∧ p ≤ 7 ∧ 1 ≤ most ∧ most ≤ 256 ∧
  ∀ H' F fs, Ext H H' → H F = none → H' F = some (.lst fs) → fs ≠ [] → fs.length ≤ 40000 → (∀ f ∈ fs, KM K p most H' f) → Q (.ref F) H'
def PvR (K : PySem.W.Frag) (p most : Int) (F : Addr) (H : Hp) : L2.St → Hp → Prop := fun σ H' => ∃ (t : Nat) (fs : List V), σ = [some (.int p), some (.int most), some (.ref F), some (.int (t : Int)), some (.int (powI p t))] ∧ t ≤ 9 ∧ Ext H H' ∧ H' F = some (.lst fs) ∧ (∀ f ∈ fs, KM K p most H' f) ∧ fs.length ≤ 4096 * t ∧ (fs = [] → t = 0)
def muR (most : Int) : L2.St → Hp → Nat := fun σ _ => match σ with
  | [_, _, _, _, some (.int z)] => (most + 1 - z).toNat
  | _ => 0
theorem ok_room (F : Fun K "_law_room_kinds" "_law_room_kinds" sRoom f fd) (Ks : Def1 P w K mg base CX0 1 "_law_kinds" ["_law_size"] (spKinds K)) : FnOk P w K mg base CX0 2 f fd ["_law_prime", "_law_most"] (spRoom K) := by
  refine F.ok scRoom (fun vs H Q E h => ?_) (fun cdv A outer s H vs Q E hr h => ?_)
  · obtain ⟨p, most, rfl, _⟩ := h
    rfl
  · obtain ⟨p, most, rfl, hp2, hp7, hm1, hm2, k⟩ := h
    refine ⟨_, pss_cons (ps_par3 (i := 2) (j := 3) (l := 4) (by rfl) scRoom.nd rfl rfl rfl (by decide) (by decide) (by decide) rfl rfl rfl (pa_cons (pe_lst pa_nil) (pa_cons pe_int (pa_cons pe_int pa_nil))) (by rfl))
      (pss_cons (ps_while PassesOwn.never (pt_cmpR op_le (pv 4) (pv 1) (nomark _)) (pss_cons (ps_expr (pe_bm PySem.F.plainAttrs_list PySem.F.slot_list_extend PySem.F.type_list_extend mt_extend (pv 2) (pa_cons (pe_def Ks hr (by decide) (by rfl) (pa_cons (pv 3) pa_nil)) pa_nil)))
      (pss_one (ps_par (i := 3) (j := 4) (by rfl) scRoom.nd rfl rfl (by decide) rfl rfl (pa_cons (pe_op op_add (pv 3) pe_int) (pa_cons (pe_op op_mul (pv 4) (pv 0)) pa_nil)) (by rfl)))))
      (pss_one (ps_ret (pv 2)))), ?_⟩
    walk_at "rd"
    refine g_par3 ?_
    walk_at "rd"
    refine ⟨Nat.zero_le _, fun Fa hFa => ?_⟩
    walk_at "rd"
    have eF := Ext.new (o := HO.lst []) hFa
    refine ⟨_, _, _, rfl, ?_⟩
    refine g_while (PvR K p most Fa H) (muR most) ⟨0, [], rfl, by decide, eF, upd_same, fun f hf => (by cases hf), Nat.zero_le _, fun _ => rfl⟩ ?_
    rintro σ H2 ⟨t, fs, rfl, ht9, e2, hF2, hfs, hlen, hne⟩
    have htp := powI_two (p := p) (by omega) t
    walk_at "rd"
    refine ite2 (fun h1 => ?_) (fun h1 => ?_)
    · have h1' := of_decide_eq_true h1
      have ht8 := powI_256 (p := p) (by omega) (show powI p t ≤ 256 by omega)
      refine g_turn ?_
      walk_at "rd"
      refine ⟨.inl ⟨rfl, _, SqL.of hF2⟩, ?_⟩
      walk_at "rd"
      refine ⟨t, rfl, by omega, fun H3 D ys e3 hD hD3 hy0 hyl hys => ?_⟩
      walk_at "rd"
      refine ⟨Fa, D, fs, ys, rfl, rfl, e3 _ _ hF2, hD3, ?_, ?_⟩
      · have hz : (60000 : Nat) ≤ sizeLine := by decide
        omega
      have kX := Keeps.up (ys := fs ++ ys) (e3 _ _ hF2)
      dsimp only
      refine g_par ?_
      walk_at "rd"
      refine g_I (.inr ⟨by omega, by omega⟩) ?_
      walk_at "rd"
      refine ⟨_, _, rfl, ⟨t + 1, fs ++ ys, rfl, by omega, fun q o hq => ?_, upd_same, fun f hf => ?_, ?_, fun h => ?_⟩, ?_⟩
      · rw [upd_ne (ne_of_none hq hFa)]
        exact e3 _ _ (e2 _ _ hq)
      · rcases List.mem_append.mp hf with hf | hf
        · exact ((hfs f hf).keeps (Keeps.of e3)).keeps kX
        · obtain ⟨a, ns, rfl, hx, hF, hs⟩ := (hys f hf).keeps kX
          refine ⟨a, ns, rfl, hx, hF, ?_⟩
          rw [hs, Int.toNat_natCast]
          exact h1'
      · rw [List.length_append]
        omega
      · exact absurd (List.append_eq_nil_iff.mp h).2 hy0
      · show (most + 1 - powI p t * p).toNat < (most + 1 - powI p t).toNat
        have := Int.mul_le_mul_of_nonneg_left (show 2 ≤ p by omega) (show 0 ≤ powI p t by omega)
        omega
    · walk_at "rd"
      have h1' : ¬ powI p t ≤ most := fun h => h1 (decide_eq_true h)
      refine k H2 Fa fs e2 hFa hF2 (fun h => ?_) (by omega) hfs
      have := hne h
      subst this
      exact h1' hm1
end
end Q0

set_option Elab.async false
set_option linter.all false
set_option maxRecDepth 100000
set_option maxHeartbeats 4000000
/-! What a group tells. -/
namespace Q0
open PySem PySem.Spec PyProof.Rows L2 Gd
local macro_rules | `(tactic| walk_at "rd1") => `(tactic| first | with_reducible refine g_ret ?_ | with_reducible refine g_retN ?_ | with_reducible refine g_seq ?_ | with_reducible refine g_next ?_ | with_reducible refine g_drop ?_ | with_reducible refine g_asg ?_ | with_reducible refine g_name ?_ | with_reducible refine g_ifs ?_ | with_reducible refine g_test ?_ | with_reducible refine g_tb ?_ | with_reducible refine g_and ?_ | with_reducible refine g_or ?_ | with_reducible refine g_not ?_ | with_reducible refine g_andV ?_ | with_reducible refine g_orV ?_ | with_reducible refine g_notV ?_ | with_reducible refine g_if ?_ | with_reducible refine g_op ?_ | with_reducible refine g_un ?_ | with_reducible refine g_cb ?_ | with_reducible refine g_nil ?_ | with_reducible refine g_cons ?_ | with_reducible refine g_call ?_ | with_reducible refine g_callS ?_ | with_reducible refine g_tup ?_ | with_reducible refine g_lst ?_ | with_reducible refine g_isN ?_ | with_reducible refine g_sl ?_ | with_reducible refine g_nopart ?_ | with_reducible refine g_part ?_ | with_reducible refine g_chain ?_ | with_reducible refine g_fld ?_ | with_reducible refine g_prop ?_ | with_reducible refine g_bm ?_ | with_reducible refine g_bm0 ?_ | with_reducible refine g_c ?_ | with_reducible refine g_sub ?_ | with_reducible refine g_int1 ?_ | with_reducible refine g_int2 ?_ | with_reducible refine g_yes ?_ | with_reducible refine g_sfld ?_ | with_reducible refine g_NT ?_ | with_reducible refine g_NF ?_ | with_reducible refine iteT ?_ | with_reducible refine iteF ?_ | ((with_reducible refine' g_aug ?hv ?_); (case hv => exact rfl)) | ((with_reducible refine' g_var ?hv ?_); (case hv => exact rfl)) | with_reducible refine g_I0 ?_ | with_reducible refine g_U ?_ | with_reducible refine g_eqI ?_ | with_reducible refine g_blV ?_ | with_reducible refine g_inV ?_)
local macro_rules | `(tactic| walk_at "rd") => `(tactic| repeat walk_at "rd1")
section
variable {X : Cx} {C : Addr} {k j : Nat} {sp : Sp}
theorem call_len1 (D : Met1 X.prog X.w X.K X.mg X.base CX0 k C "__len__" ["self"] sp) (hr : Room j X.A) (hj : k + 1 ≤ j) : CallR X (.builtin "len") (rLenO C sp X0) := by
  obtain ⟨f, fd, M, _, F, hb⟩ := D.ex
  exact call_lenO M F (hr.mono hj) hb (fun _ => quiet0)
theorem call_str1 (D : Met1 X.prog X.w X.K X.mg X.base CX0 k C "__str__" ["self"] sp) (hr : Room j X.A) (hj : k + 2 ≤ j) : CallR X (.type "str") (rStrO C sp X0) := by
  obtain ⟨f, fd, M, _, F, hb⟩ := D.ex
  exact call_strO M F (hr.mono hj) hb (fun _ => quiet0)
end
theorem rowB_eq {n i : Nat} (hi : i < n) : List.replicate i (V.int 0) ++ [V.int 1] ++ List.replicate (n - i - 1) (V.int 0) = (rowB n i).map V.int := by
  have e : (rowB n i).map V.int = (List.range n).map fun j => V.int (if j = i then 1 else 0) := by
    unfold rowB
    rw [List.map_map]
    rfl
  rw [e]
  refine List.ext_getElem ?_ fun j h1 h2 => ?_
  · simp only [List.length_append, List.length_replicate, List.length_map, List.length_range, List.length_singleton]
    omega
  · simp only [List.getElem_map, List.getElem_range, List.getElem_append, List.getElem_replicate, List.length_append, List.length_replicate, List.length_singleton, List.getElem_singleton]
    split
    · split
      · rw [if_neg (by omega)]
      · rw [if_pos (by omega)]
    · rw [if_neg (by omega)]
theorem grp_eq (p : Int) (ns : List Int) : ((("group of [" : Str) ++ Txt.join (" " : Str) (ns.map numT)) ++ ("] at " : Str)) ++ numT p = grpTx p ns := by
  have e1 : ("group of [" : Str) = (Str.empty ++ ("group of " : Str)) ++ (Str.empty ++ ("[" : Str)) := by decide +kernel
  have e2 : ("] at " : Str) = ("]" : Str) ++ (" at " : Str) := by decide +kernel
  unfold grpTx kindTx
  rw [e1, e2]
  simp only [str_assoc]
theorem g_eqSame {H : Hp} {Q : VK} {x y : V} (e : x = y) (h : scal x x = true) (k : Q (.bl true) H) : rEq x y H Q := by
  subst e
  exact ⟨h, by simpa using k⟩
/-- all that groups do here -/
structure ApiH (P : Program) (w : World) (K : PySem.W.Frag) (mg : Str → Option Value) (base : Heap) (C t0 G tP : Addr) : Prop where
  ini : Ini1 P w K mg base CX0 5 C t0 ["self", "numbers"] (spInit K C)
  gini : Ini0 P w K mg base CX0 4 G ["self", "prime", "kind"] (spGInit K C G)
  keq : Met1 P w K mg base CX0 1 C "__eq__" ["self", "other"] (spKEq K C)
  prime : Pro1 P w K mg base 1 G "prime" (spGPr K C G)
  kind : Pro1 P w K mg base 1 G "kind" (spGKi K C G)
  size : Pro1 P w K mg base 3 G "size" (spGSz K C G)
  zero : Pro1 P w K mg base 1 G "zero" (spGZe K C G)
  bas : Pro1 P w K mg base 2 G "base" (spGBa K C G)
  orders : Pro1 P w K mg base 1 G "orders" (spGOr K C G)
  mem : MetG1 P w K mg base 2 G "members" (spGMem K C G)
  plus : Met1 P w K mg base CX0 6 G "plus" ["self", "element", "other"] (spGPl K C G)
  times : Met1 P w K mg base CX0 6 G "times" ["self", "element", "number"] (spGTi K C G)
  cont : Met1 P w K mg base CX0 3 G "__contains__" ["self", "value"] (spGCoB K C G)
  eq : Met1 P w K mg base CX0 1 G "__eq__" ["self", "other"] (spGEq K C G)
  len : Met1 P w K mg base CX0 1 G "__len__" ["self"] (spGLn K C G)
  str : Met1 P w K mg base CX0 5 G "__str__" ["self"] (spGSt K C G)
section
variable {P : Program} {w : World} {K : PySem.W.Frag} {mg : Str → Option Value} {base : Heap} {f C t0 G tP : Addr} {fd : FuncData}
abbrev sTold : Stmt := top 54
theorem scTold : FnScope ["_law_group", "_law_prime", "_law_kind_here", "_law_every", "_law_wide", "_law_base", "_law_at", "_law_number"] ["_law_group", "_law_prime", "_law_kind_here"] (defScope sTold) := ⟨rfl, rfl, rfl, by decide +kernel, rfl, by decide +kernel, by decide +kernel⟩
def spTold (K : PySem.W.Frag) (C G : Addr) : Sp := fun vs H Q _ => ∃ (g a : Addr) (p : Int) (ns : List Int), vs = [.ref g, .int p, .ref a] ∧ GrpAt K C G H g p ns ∧ TupX K H a (ns.map V.int) ∧ ∀ H', Ext H H' → Q (.bl true) H'
theorem ok_told (F : Fun K "_law_told_right" "_law_told_right" sTold f fd) (T : Txt K mg) (Cl : KC K mg C) (Gl : GC K mg G tP) (A : ApiH P w K mg base C t0 G tP) (De : Def1 P w K mg base CX0 2 "_law_elements" ["_law_prime", "_law_kind_here"] (spEls K)) (Po : Def1 P w K mg base CX0 1 "_law_power" ["_law_base", "_law_many"] (spPowerOf K)) :
    FnOk P w K mg base CX0 8 f fd ["_law_group", "_law_prime", "_law_kind_here"] (spTold K C G) := by
  refine F.ok scTold (fun vs H Q E h => ?_) (fun cdv Ar outer s H vs Q E hr h => ?_)
  · obtain ⟨g, a, p, ns, rfl, _⟩ := h
    rfl
  · obtain ⟨g, a, p, ns, rfl, hg, ha, k⟩ := h
    refine ⟨_, pss_cons (ps_asg (pe_tup (pa_cons (pe_def De hr (by decide) (by rfl) (pa_cons (pv 1) (pa_cons (pv 2) pa_nil))) (pa_cons (pe_callB call_len_seq (by rfl) T.len PySem.boot_len (pa_cons (pv 2) pa_nil)) pa_nil))) (pg_tup rfl (pgs_cons (pg_name (i := 3) scTold.nd rfl (Or.inl rfl)) (pgs_cons (pg_name (i := 4) scTold.nd rfl (Or.inr rfl)) pgs_nil))))
      (pss_cons (ps_set (i := 5) scTold.nd rfl (Or.inl rfl) (pe_callTy call_tuple_of (by rfl) T.tuple (by decide +kernel) (pa_cons (pe_lc (own := [("_law_at", 6)]) (g := gName 6) (tt := tYes) rfl scTold.nd (pi_range1 (by rfl) T.range (pa_cons (pv 4) pa_nil)) (blkOk_by (N := ["_law_group", "_law_prime", "_law_kind_here", "_law_every", "_law_wide", "_law_base", "_law_at", "_law_number"]) (sc := defScope sTold) (by decide +kernel)) (fun _ _ _ _ _ => pg_name (i := 6) scTold.nd rfl (Or.inl rfl)) (fun _ _ _ _ _ => pts_nil) (fun _ _ _ _ _ => by exact (pe_op (r := rCatA K) op_catA (pe_op (r := rCatA K) op_catA (pe_op (r := rRepB K) op_repB (pe_tup (pa_cons pe_int pa_nil)) (pv 6)) (pe_tup (pa_cons pe_int pa_nil))) (pe_op (r := rRepB K) op_repB (pe_tup (pa_cons pe_int pa_nil)) (pe_op op_sub (pe_op op_sub (pv 4) (pv 6)) pe_int))))) pa_nil)))
      (pss_cons (ps_if (PW.pt (pw_or (pt_cmpR op_ne (pe_pro1 Gl.cl A.prime hr (by decide) (pv 0)) (pv 1) (nomark _)) (pw_or (pt_cmpR (op_ne1 Cl.ne A.keq hr (by decide)) (pe_pro1 Gl.cl A.kind hr (by decide) (pv 0)) (pe_mk1 A.ini pass0 hr (by decide) (by rfl) Cl.g (pa_cons (pv 2) pa_nil)) (nomark _)) (pw_or (pt_cmpR op_ne (pe_pro1 Gl.cl A.size hr (by decide) (pv 0)) (pe_callB call_len_seq (by rfl) T.len PySem.boot_len (pa_cons (pv 3) pa_nil)) (nomark _)) (pw_or1 (pt_cmpR (op_neD hr.units) (pe_pro1 Gl.cl A.zero hr (by decide) (pv 0)) (pe_op op_repB (pe_tup (pa_cons pe_int pa_nil)) (pv 4)) (nomark _))))))) (pss_one (ps_ret pe_bl)) pss_nil)
      (pss_cons (ps_if (PW.pt (pw_or (pt_cmpR (op_neD hr.units) (pe_pro1 Gl.cl A.bas hr (by decide) (pv 0)) (pv 5) (nomark _)) (pw_or1 (pt_cmpR (op_neD hr.units) (pe_pro1 Gl.cl A.orders hr (by decide) (pv 0)) (pe_callTy call_tuple_of (by rfl) T.tuple (by decide +kernel) (pa_cons (pe_lc (own := [("_law_number", 7)]) (g := gName 7) (tt := tYes) rfl scTold.nd (pi_tup (pv 2)) (blkOk_by (N := ["_law_group", "_law_prime", "_law_kind_here", "_law_every", "_law_wide", "_law_base", "_law_at", "_law_number"]) (sc := defScope sTold) (by decide +kernel)) (fun _ _ _ _ _ => pg_name (i := 7) scTold.nd rfl (Or.inl rfl)) (fun _ _ _ _ _ => pts_nil) (fun _ _ _ _ _ => by exact (pe_def Po hr (by decide) (by rfl) (pa_cons (pv 1) (pa_cons (pv 7) pa_nil))))) pa_nil)) (nomark _))))) (pss_one (ps_ret pe_bl)) pss_nil)
      (pss_cons (ps_if (PW.pt (pw_or (pt_cmpR (op_neD hr.units) (pe_listM A.mem Gl.cl hr (by decide) (by rfl) T.list (by decide +kernel) (pv 0)) (pv 3) (nomark _)) (pw_or (pt_cmpR (op_neD hr.units) (pe_slice sl_list (pe_listM A.mem Gl.cl hr (by decide) (by rfl) T.list (by decide +kernel) (pv 0)) po_none (po_some pe_int)) (pe_slice sl_list (pv 3) po_none (po_some pe_int)) (nomark _)) (pw_or1 (pt_cmpR op_ne (pe_callB (call_len1 A.len hr (by decide)) (by rfl) T.len PySem.boot_len (pa_cons (pv 0) pa_nil)) (pv 4) (nomark _)))))) (pss_one (ps_ret pe_bl)) pss_nil)
      (pss_one (ps_ret (pe_cmpR op_eq (pe_callTy (call_str1 A.str hr (by decide)) (by rfl) T.str (by decide +kernel) (pa_cons (pv 0) pa_nil)) (pe_op op_add_str (pe_op op_add_str (pe_op op_add_str pe_str (pe_bm PySem.F.plainAttrs_str PySem.F.slot_str_join PySem.F.type_str_join mt_join pe_str (pa_cons (pe_lc (own := [("_law_number", 7)]) (g := gName 7) (tt := tYes) rfl scTold.nd (pi_tup (pv 2)) (blkOk_by (N := ["_law_group", "_law_prime", "_law_kind_here", "_law_every", "_law_wide", "_law_base", "_law_at", "_law_number"]) (sc := defScope sTold) (by decide +kernel)) (fun _ _ _ _ _ => pg_name (i := 7) scTold.nd rfl (Or.inl rfl)) (fun _ _ _ _ _ => pts_nil) (fun _ _ _ _ _ => by exact (pe_callTy (T := "str") (r := fun xs H Q => ∃ i : Int, xs = [.int i] ∧ i.natAbs.log2 < 1920 ∧ Q (.str (numT i)) H) call_str_int (by rfl) T.str (by decide +kernel) (pa_cons (pv 7) pa_nil)))) pa_nil))) pe_str) (pe_callTy call_str_int (by rfl) T.str (by decide +kernel) (pa_cons (pv 1) pa_nil))) (nomark _)))))))), ?_⟩
    have hlen := hg.fall.len
    have h7 := hg.pr.bd
    have hG : GrpOk p ns := ⟨hg.fall, by omega, by omega, hg.sz⟩
    walk_at "rd"
    refine ⟨p, a, ns, rfl, ha.sq, hg.fall, by omega, by omega, hg.sz, fun H1 Fe fs e1 hFe0 hFe hfs => ?_⟩
    have ha1 := ha.ext e1
    have hg1 := hg.ext e1
    walk_at "rd"
    refine ⟨a, _, rfl, .inr ha1.sq, ?_⟩
    rw [List.length_map]
    walk_at "rd"
    refine ⟨by show 2 ≤ sizeLine; decide, fun U hU => ?_⟩
    have eU := Ext.new (o := HO.tup [V.ref Fe, V.int (ns.length : Int)]) hU
    refine ⟨U, _, rfl, SqT.of upd_same, rfl, _, _, rfl, ?_⟩
    refine ⟨_, _, rfl, rfl, ?_⟩
    have ha2 := ha1.ext eU
    have hg2 := hg1.ext eU
    have hFe2 := eU _ _ hFe
    have hfs2 := trs_ext eU hfs
    have e2 := Ext.trans e1 eU
    generalize upd H1 U (HO.tup [V.ref Fe, V.int (ns.length : Int)]) = H2 at ha2 hg2 hFe2 hfs2 e2 ⊢
    walk_at "rd"
    refine g_lc (g_rng1 ?_)
    walk_at "rd"
    refine ⟨by omega, by omega, ?_⟩
    rw [Int.toNat_natCast]
    refine lcRR (small (by omega)) (fun i y H => TR H y (rowB ns.length i)) (fun i y H H' e r => r.keeps e) (fun i H3 hi e3 Qe Qn he => ?_) (fun H3 D ys e3 hD hd hyl hyr => ?_)
    · rw [Int.zero_add]
      refine ⟨rfl, ?_⟩
      walk_at "rd"
      refine ⟨by show 1 ≤ sizeLine; decide, fun u1 hu1 => ?_⟩
      have x1 := Ext.new (o := HO.tup [V.int 0]) hu1
      have y1 : upd H3 u1 (HO.tup [V.int 0]) u1 = some (.tup [V.int 0]) := upd_same
      generalize upd H3 u1 (HO.tup [V.int 0]) = J1 at x1 y1 ⊢
      walk_at "rd"
      refine g_repR y1 (by omega) (by omega) fun J2 u2 x2 y2 => ?_
      walk_at "rd"
      refine ⟨by show 1 ≤ sizeLine; decide, fun u3 hu3 => ?_⟩
      have x3 := Ext.new (o := HO.tup [V.int 1]) hu3
      have y3 : upd J2 u3 (HO.tup [V.int 1]) u3 = some (.tup [V.int 1]) := upd_same
      generalize upd J2 u3 (HO.tup [V.int 1]) = J3 at x3 y3 ⊢
      walk_at "rd"
      refine g_catT (x3 _ _ y2) y3 (by rw [List.length_replicate]; show _ + 1 ≤ _; omega) fun J4 u4 x4 y4 => ?_
      walk_at "rd"
      refine ⟨by show 1 ≤ sizeLine; decide, fun u5 hu5 => ?_⟩
      have x5 := Ext.new (o := HO.tup [V.int 0]) hu5
      have y5 : upd J4 u5 (HO.tup [V.int 0]) u5 = some (.tup [V.int 0]) := upd_same
      generalize upd J4 u5 (HO.tup [V.int 0]) = J5 at x5 y5 ⊢
      walk_at "rd"
      refine g_repR y5 (by omega) (by omega) fun J6 u6 x6 y6 => ?_
      walk_at "rd"
      refine g_catT (x6 _ _ (x5 _ _ y4)) y6 (by rw [List.length_append, List.length_replicate, List.length_replicate]; show _ + 1 + _ ≤ _; omega) fun J7 u7 x7 y7 => ?_
      refine he _ J7 (Ext.trans x1 (Ext.trans x2 (Ext.trans x3 (Ext.trans x4 (Ext.trans x5 (Ext.trans x6 x7)))))) ⟨u7, rfl, ?_⟩
      rw [y7, ← rowB_eq hi, Int.toNat_natCast]
      have e : ((ns.length : Int) - (i : Int) - 1).toNat = ns.length - i - 1 := by omega
      rw [e]
    · walk_at "rd"
      refine ⟨D, ys, rfl, .inl ⟨SqL.of hd, fun B hB => ?_⟩⟩
      have eB := Ext.new (o := HO.tup ys) hB
      have hBt : upd H3 B (HO.tup ys) B = some (.tup ys) := upd_same
      have e4 := Ext.trans e3 eB
      have hys : TRs (upd H3 B (HO.tup ys)) ys (baseM ns.length) := by
        refine trs_ext eB (pair_of (by rw [hyl]; unfold baseM; rw [List.length_map, List.length_range]) fun c y xs h1 h2 => ?_)
        have hc := (List.getElem?_eq_some_iff.mp h1).1
        unfold baseM at h2
        rw [List.getElem?_map, List.getElem?_range (by omega)] at h2
        cases h2
        exact hyr c y h1
      generalize upd H3 B (HO.tup ys) = H4 at hBt e4 hys ⊢
      clear hD hd hyl hyr e3 eB
      have ha4 := ha2.ext e4
      have hg4 := hg2.ext e4
      have hFe4 := e4 _ _ hFe2
      have hfs4 := trs_ext e4 hfs2
      have e5 := Ext.trans e2 e4
      clear ha2 hg2 hFe2 hfs2 e2 e4 ha1 hg1 hFe hfs e1
      have hFs : (fs.length : Int) = powI p ns.sum.toNat := by
        rw [pair_len hfs4]
        exact els_len (by omega) hg4.fall.pos
      obtain ⟨dx, _, _, _, _, _, _, hgi, _⟩ := id hg4.ins
      walk_at "rd"
      refine ⟨g, dx, _, rfl, hgi, g, p, ns, rfl, hg4, ?_⟩
      walk_at "rd"
      refine g_neSame (by simp [scal]) ?_
      walk_at "rd"
      refine ⟨g, dx, _, rfl, hgi, g, p, ns, rfl, hg4, fun q n t m hq => ?_⟩
      refine g_make ?_
      walk_at "rd"
      refine g_mk3 ha4 hg4.fall fun H5 q2 n2 t2 m2 e6 hq2 => ?_
      walk_at "rd"
      refine g_neKind Cl (hq.ext e6) hq2 fun H6 e7 => ?_
      rw [decide_eq_true rfl]
      walk_at "rd"
      have e46 := Ext.trans e6 e7
      refine ⟨g, dx, _, rfl, e46 _ _ hgi, g, p, ns, rfl, hg4.ext e46, fun H7 e8 => ?_⟩
      walk_at "rd"
      have e47 := Ext.trans e46 e8
      refine ⟨Fe, fs, rfl, .inl (SqL.of (e47 _ _ hFe4)), ?_⟩
      rw [hFs]
      refine g_neSame (by simp [scal]) ?_
      walk_at "rd"
      refine ⟨g, dx, _, rfl, e47 _ _ hgi, g, p, ns, rfl, hg4.ext e47, fun H8 z e9 hz => ?_⟩
      walk_at "rd"
      refine ⟨by show 1 ≤ sizeLine; decide, fun u1 hu1 => ?_⟩
      have x1 := Ext.new (o := HO.tup [V.int 0]) hu1
      have y1 : upd H8 u1 (HO.tup [V.int 0]) u1 = some (.tup [V.int 0]) := upd_same
      generalize upd H8 u1 (HO.tup [V.int 0]) = J1 at x1 y1 ⊢
      walk_at "rd"
      refine g_repR y1 (by omega) (by omega) fun J2 u2 x2 y2 => ?_
      have z2 : SqT K J2 u2 ((List.replicate ns.length (0 : Int)).map V.int) := by
        rw [List.map_replicate]
        rw [Int.toNat_natCast] at y2
        exact SqT.of y2
      refine g_neT (sqT_ext (Ext.trans x1 x2) hz) z2 ?_
      rw [decide_eq_true rfl]
      have e4J := Ext.trans e47 (Ext.trans e9 (Ext.trans x1 x2))
      clear e6 e7 e8 e46 e47 e9 x1 x2 y1 y2 z2 hz hu1
      have ha5 := ha4.ext e4J
      have hg5 := hg4.ext e4J
      have hgi5 := e4J _ _ hgi
      have hFe5 := e4J _ _ hFe4
      have hfs5 := trs_ext e4J hfs4
      have hB5 := e4J _ _ hBt
      have hys5 := trs_ext e4J hys
      have e5J := Ext.trans e5 e4J
      clear ha4 hg4 hgi hFe4 hfs4 hBt hys e5 e4J
      walk_at "rd"
      refine ⟨g, dx, _, rfl, hgi5, g, p, ns, rfl, hg5, fun H9 u ys2 e9 hu hys2 => ?_⟩
      walk_at "rd"
      refine g_neTT (SqT.of hu) (SqT.of (e9 _ _ hB5)) hys2 (trs_ext e9 hys5) ?_
      rw [decide_eq_true rfl]
      walk_at "rd"
      refine ⟨g, dx, _, rfl, e9 _ _ hgi5, g, p, ns, rfl, hg5.ext e9, fun o ho => ?_⟩
      walk_at "rd"
      refine g_lc (g_itup ?_)
      walk_at "rd"
      refine lcT (ha5.ext e9).sq (small (by rw [List.length_map]; omega)) (fun _ => true) (fun v => match v with | .int x => .int (powI p x.toNat) | y => y) (fun x H10 hx e10 Qe Qn he hn => ?_) (fun H10 D2 e10 hD2 hd2 => ?_)
      · obtain ⟨x, hx', rfl⟩ := List.mem_map.mp hx
        have hp1 := hg5.fall.pos x hx'
        have hp2 := hg5.fall.le x hx'
        refine ⟨rfl, ?_⟩
        walk_at "rd"
        refine ⟨p, x.toNat, by rw [Int.toNat_of_nonneg (by omega)]; rfl, by omega, ⟨by omega, by omega⟩, ?_⟩
        exact he _ (fun _ _ z => z) rfl
      · walk_at "rd"
        rw [filter_yes, List.map_map] at hd2
        refine ⟨D2, _, rfl, .inl ⟨SqL.of hd2, fun l hl0 => ?_⟩⟩
        have el := Ext.new (o := .tup (ns.map (((fun v => match v with | .int x => .int (powI p x.toNat) | y => y) : V → V) ∘ V.int))) hl0
        have eo : SqT K (upd H10 l (.tup (ns.map (((fun v => match v with | .int x => .int (powI p x.toNat) | y => y) : V → V) ∘ V.int)))) l ((ordsM p ns).map V.int) := by
          have : (ordsM p ns).map V.int = ns.map (((fun v => match v with | .int x => .int (powI p x.toNat) | y => y) : V → V) ∘ V.int) := by
            unfold ordsM
            rw [List.map_map]
            rfl
          rw [this]
          exact SqT.of upd_same
        generalize upd H10 l (.tup (ns.map (((fun v => match v with | .int x => .int (powI p x.toNat) | y => y) : V → V) ∘ V.int))) = H11 at eo el ⊢
        have e11 := Ext.trans e10 el
        refine g_neT (sqT_ext e11 ho) eo ?_
        rw [decide_eq_true rfl]
        have e12 := Ext.trans e9 e11
        clear hu hys2 ho hD2 hd2 hl0 eo el e10 hB5 hys5
        walk_at "rd"
        refine g_listM ?_
        walk_at "rd"
        refine ⟨g, dx, _, rfl, e12 _ _ hgi5, look4m, g, p, ns, rfl, hg5.ext e12, fun H12 out e13 hout M hM => ?_⟩
        have eM := Ext.new (o := HO.lst out) hM
        have e14 := Ext.trans e12 (Ext.trans e13 eM)
        walk_at "rd"
        refine g_neLL (SqL.of upd_same) (SqL.of (e14 _ _ hFe5)) (trs_ext eM hout) (trs_ext e14 hfs5) ?_
        rw [decide_eq_true rfl]
        clear hout e13 eM e12
        generalize upd H12 M (HO.lst out) = H13 at e14 ⊢
        clear hM
        walk_at "rd"
        unfold tSl
        refine g_listM ?_
        walk_at "rd"
        refine ⟨g, dx, _, rfl, e14 _ _ hgi5, look4m, g, p, ns, rfl, hg5.ext e14, fun H14 out e15 hout M hM => ?_⟩
        have eM := Ext.new (o := HO.lst out) hM
        have e16 := Ext.trans e14 (Ext.trans e15 eM)
        have hM2 : upd H14 M (HO.lst out) M = some (.lst out) := upd_same
        have hout2 := trs_ext eM hout
        clear hout eM e15 e14
        generalize upd H14 M (HO.lst out) = H15 at e16 hM2 hout2 ⊢
        clear hM
        walk_at "rd"
        refine g_sl2 (SqL.of hM2) hout2 fun H16 N1 e17 hN1 hs1 => ?_
        unfold tNoPart tPart
        walk_at "rd"
        refine g_sl2 (SqL.of (e17 _ _ (e16 _ _ hFe5))) (trs_ext (Ext.trans e16 e17) hfs5) fun H17 N2 e18 hN2 hs2 => ?_
        refine g_neLL (SqL.of (e18 _ _ hN1)) (SqL.of hN2) (trs_ext e18 hs1) hs2 ?_
        rw [decide_eq_true rfl]
        have e19 := Ext.trans e16 (Ext.trans e17 e18)
        clear e16 e17 e18 hN1 hN2 hs1 hs2 hM2 hout2
        walk_at "rd"
        refine ⟨g, dx, _, rfl, e19 _ _ hgi5, g, p, ns, rfl, hg5.ext e19, ?_⟩
        walk_at "rd"
        refine ⟨by omega, by omega, ?_⟩
        walk_at "rd"
        refine g_neSame (by simp [scal]) ?_
        walk_at "rd"
        refine ⟨g, dx, _, rfl, e19 _ _ hgi5, g, p, ns, rfl, hg5.ext e19, fun H18 e20 => ⟨_, rfl, ?_⟩⟩
        walk_at "rd"
        refine ⟨rfl, ?_⟩
        refine g_cons ?_
        refine g_lc (g_itup ?_)
        walk_at "rd"
        have e21 := Ext.trans e19 e20
        refine lcT (ha5.ext e21).sq (small (by rw [List.length_map]; omega)) (fun _ => true) (fun v => match v with | .int n => .str (numT n) | y => y) (fun x H19 hx e22 Qe Qn he hn => ?_) (fun H19 D3 e22 hD3 hd3 => ?_)
        · obtain ⟨n, hn0, rfl⟩ := List.mem_map.mp hx
          have h0 := fall_num hg5.fall n hn0
          refine ⟨rfl, ?_⟩
          walk_at "rd"
          refine ⟨?_, he _ (fun _ _ z => z) rfl⟩
          have : n.natAbs.log2 ≤ n.natAbs := Nat.log2_le_self _
          omega
        · rw [filter_yes, List.map_map] at hd3
          walk_at "rd"
          have hd' : H19 D3 = some (.lst ((ns.map numT).map V.str)) := by
            rw [hd3, List.map_map]
            rfl
          have h4 : (" " : Str).length = 1 := by decide +kernel
          have h2 := nums_sum (fall_num hg5.fall)
          refine ⟨_, D3, ns.map numT, rfl, rfl, .inl (SqL.of hd'), by rw [List.length_map, h4]; omega, ?_⟩
          walk_at "rd"
          have hj := join_len hg5.fall
          have hz : (200 : Nat) ≤ sizeLine := by decide
          have l0 : ("group of [" : Str).length = 10 := by decide +kernel
          have l1 : ("] at " : Str).length = 5 := by decide +kernel
          have l2 := num_len' (n := p) (by omega) (by omega)
          refine ⟨_, _, rfl, rfl, by omega, ?_⟩
          walk_at "rd"
          refine ⟨_, _, rfl, rfl, by rw [str_len]; omega, ?_⟩
          walk_at "rd"
          refine ⟨?_, _, _, rfl, rfl, ?_, ?_⟩
          · have : p.natAbs.log2 ≤ p.natAbs := Nat.log2_le_self _
            omega
          · rw [str_len, str_len]
            show _ + (numT p).length ≤ _
            omega
          refine g_eqSame (congrArg V.str (grp_eq p ns).symm) rfl ?_
          exact k _ (Ext.trans e5J (Ext.trans e21 e22))
end
end Q0

set_option Elab.async false
set_option linter.all false
set_option maxRecDepth 100000
set_option maxHeartbeats 4000000
/-! Sums and multiples of drawn elements. -/
namespace Q0
open PySem PySem.Spec PyProof.Rows L2 Gd
local macro_rules | `(tactic| walk_at "rd1") => `(tactic| first | with_reducible refine g_ret ?_ | with_reducible refine g_retN ?_ | with_reducible refine g_seq ?_ | with_reducible refine g_next ?_ | with_reducible refine g_drop ?_ | with_reducible refine g_asg ?_ | with_reducible refine g_name ?_ | with_reducible refine g_ifs ?_ | with_reducible refine g_test ?_ | with_reducible refine g_tb ?_ | with_reducible refine g_and ?_ | with_reducible refine g_or ?_ | with_reducible refine g_not ?_ | with_reducible refine g_andV ?_ | with_reducible refine g_orV ?_ | with_reducible refine g_notV ?_ | with_reducible refine g_if ?_ | with_reducible refine g_op ?_ | with_reducible refine g_un ?_ | with_reducible refine g_cb ?_ | with_reducible refine g_nil ?_ | with_reducible refine g_cons ?_ | with_reducible refine g_call ?_ | with_reducible refine g_callS ?_ | with_reducible refine g_tup ?_ | with_reducible refine g_lst ?_ | with_reducible refine g_isN ?_ | with_reducible refine g_sl ?_ | with_reducible refine g_nopart ?_ | with_reducible refine g_part ?_ | with_reducible refine g_chain ?_ | with_reducible refine g_fld ?_ | with_reducible refine g_prop ?_ | with_reducible refine g_bm ?_ | with_reducible refine g_bm0 ?_ | with_reducible refine g_c ?_ | with_reducible refine g_sub ?_ | with_reducible refine g_int1 ?_ | with_reducible refine g_int2 ?_ | with_reducible refine g_yes ?_ | with_reducible refine g_sfld ?_ | with_reducible refine g_NT ?_ | with_reducible refine g_NF ?_ | with_reducible refine iteT ?_ | with_reducible refine iteF ?_ | ((with_reducible refine' g_aug ?hv ?_); (case hv => exact rfl)) | ((with_reducible refine' g_var ?hv ?_); (case hv => exact rfl)) | with_reducible refine g_I0 ?_ | with_reducible refine g_U ?_ | with_reducible refine g_eqI ?_ | with_reducible refine g_blV ?_ | with_reducible refine g_inV ?_)
local macro_rules | `(tactic| walk_at "rd") => `(tactic| repeat walk_at "rd1")
theorem times_oft (p : Int) (ns xs : List Int) (m : Int) : timesM (ordsM p ns) xs m = oftM p ns xs m := by
  unfold timesM oftM ordsM
  rw [List.zip_map_right, List.map_map]
  rfl
theorem plus_comm (os xs ys : List Int) : plusM os xs ys = plusM os ys xs := by
  unfold plusM
  refine List.map_congr_left fun i _ => ?_
  rw [Int.add_comm]
theorem plus_neg {p : Int} (hp : 2 ≤ p) {ns xs : List Int} (h : InG p ns xs) : plusM (ordsM p ns) xs (oftM p ns xs (-1)) = List.replicate ns.length 0 := by
  unfold plusM
  rw [ords_len]
  refine List.ext_getElem (by simp) fun i h1 h2 => ?_
  have hi : i < ns.length := by simpa using h2
  have hx : i < xs.length := by rw [h.len]; exact hi
  rw [List.getElem_map, List.getElem_range, List.getElem_replicate, ords_getD p ns i hi]
  have e : (oftM p ns xs (-1)).getD i 0 = xs.getD i 0 * -1 % powI p (ns.getD i 0).toNat := by
    unfold oftM
    rw [List.getD_eq_getElem?_getD, List.getElem?_map, List.getD_eq_getElem?_getD, List.getD_eq_getElem?_getD, List.getElem?_eq_getElem hx, List.getElem?_eq_getElem hi, List.getElem?_eq_getElem (by rw [List.length_zip]; omega), List.getElem_zip]
    rfl
  rw [e, Int.add_emod, Int.emod_emod_of_dvd _ (Int.dvd_refl _), ← Int.add_emod]
  have : xs.getD i 0 + xs.getD i 0 * -1 = 0 := by omega
  rw [this]
  exact Int.zero_emod _
theorem dice_keeps {H H' : Hp} {d : Addr} (hd : DiceAt H d) (e : ExtBut d H H') : Keeps H H' := by
  obtain ⟨_, _, _, q, _⟩ := hd
  exact keeps_but (.inr q) e
section
variable {K : PySem.W.Frag} {C G : Addr}
theorem KindAt.keeps {H H' : Hp} {q n t m : Addr} {ns : List Int} (e : Keeps H H') (h : KindAt K C H q n t m ns) : KindAt K C H' q n t m ns := by
  obtain ⟨⟨dy, h1⟩, h2, h3, h4, h5⟩ := h
  exact ⟨⟨dy, e _ _ (fun _ z => by cases z) h1⟩, TupX.keeps e h2, sqT_keeps e h3, sqT_keeps e h4, h5⟩
theorem GrpAt.keeps {H H' : Hp} {g : Addr} {p : Int} {ns : List Int} (e : Keeps H H') (h : GrpAt K C G H g p ns) : GrpAt K C G H' g p ns := by
  obtain ⟨dx, q, o, l, n, t, m, h1, h2, h3, h4⟩ := h.ins
  exact ⟨⟨dx, q, o, l, n, t, m, e _ _ (fun _ z => by cases z) h1, h2.keeps e, sqT_keeps e h3, sqT_keeps e h4⟩, h.pr, h.fall, h.sz⟩
end
theorem pair_mem {α β : Type} {F : α → β → Prop} {a : List α} {b : List β} (h : Paired F a b) {x : α} (hx : x ∈ a) : ∃ y ∈ b, F x y := by
  obtain ⟨i, hi, rfl⟩ := List.getElem_of_mem hx
  obtain ⟨y, hy, r⟩ := pair_at h i _ (List.getElem?_eq_getElem hi)
  exact ⟨y, List.mem_of_getElem? hy, r⟩
section
variable {P : Program} {w : World} {K : PySem.W.Frag} {mg : Str → Option Value} {base : Heap} {f C t0 G tP : Addr} {fd : FuncData}
/-- a method of a group -/
theorem g_meA {m : Str} {sp : Sp} {E : XK} {σ : L2.St} {H : Hp} {Q : VK} {i : Nat} {ta : TA} {g : Addr} {p : Int} {ns : List Int} (hg : GrpAt K C G H g p ns) (hi : σ[i]? = some (some (.ref g))) (k : ta σ H fun vs H1 => sp (.ref g :: (vs ++ [])) H1 Q E)
    (h1 : (m == ("_prime" : Str)) = false := by decide) (h2 : (m == ("_kind" : Str)) = false := by decide) (h3 : (m == ("_orders" : Str)) = false := by decide) (h4 : (m == ("_place" : Str)) = false := by decide) :
    tMeth G m sp [] E (tVar i) ta σ H Q := by
  obtain ⟨dx, _, _, _, _, _, _, hgi, _⟩ := id hg.ins
  exact ⟨_, hi, g, dx, _, rfl, hgi, lookG_no h1 h2 h3 h4, k⟩
theorem ords_le {p : Int} {ns : List Int} (h : GrpOk p ns) : ∀ o ∈ ordsM p ns, o ≤ 256 := fun o ho => by
  unfold ordsM at ho
  obtain ⟨n, hn, rfl⟩ := List.mem_map.mp ho
  exact (h.pow hn).2.1
abbrev sSums : Stmt := top 55
theorem scSums : FnScope ["_law_dice_here", "_law_group", "_law_prime", "_law_kind_here", "_law_every", "_law_turn", "_law_x", "_law_y", "_law_number"] ["_law_dice_here", "_law_group", "_law_prime", "_law_kind_here"] (defScope sSums) := ⟨rfl, rfl, rfl, by decide +kernel, rfl, by decide +kernel, by decide +kernel⟩
def spSums (K : PySem.W.Frag) (C G : Addr) : Sp := fun vs H Q _ => ∃ (d g a : Addr) (p : Int) (ns : List Int), vs = [.ref d, .ref g, .int p, .ref a] ∧ DiceAt H d ∧ GrpAt K C G H g p ns ∧ TupX K H a (ns.map V.int) ∧ ∀ H', ExtBut d H H' → DiceAt H' d → Q (.bl true) H'
theorem ok_sums (F : Fun K "_law_sums_right" "_law_sums_right" sSums f fd) (Gl : GC K mg G tP) (T : Txt K mg) (A : ApiH P w K mg base C t0 G tP) (De : Def1 P w K mg base CX0 2 "_law_elements" ["_law_prime", "_law_kind_here"] (spEls K)) (Pi : Def1 P w K mg base CX0 2 "_law_pick" ["_law_dice_here", "_law_items"] (spPickS K))
    (Ro : Def1 P w K mg base CX0 1 "_law_roll" ["_law_dice_here", "_law_total"] spRoll) (Su : Def1 P w K mg base CX0 2 "_law_sum_in" ["_law_prime", "_law_kind_here", "_law_one", "_law_other"] (spSumIn K)) (Of : Def1 P w K mg base CX0 2 "_law_often" ["_law_prime", "_law_kind_here", "_law_one", "_law_many"] (spOftenZ K))
    (Sx : Def1 P w K mg base CX0 3 "_law_strange" ["_law_dice_here", "_law_kind_here"] (spStrange K)) : FnOk P w K mg base CX0 8 f fd ["_law_dice_here", "_law_group", "_law_prime", "_law_kind_here"] (spSums K C G) := by
  refine F.ok scSums (fun vs H Q E h => ?_) (fun cdv Ar outer s H vs Q E hr h => ?_)
  · obtain ⟨d, g, a, p, ns, rfl, _⟩ := h
    rfl
  · obtain ⟨d, g, a, p, ns, rfl, hd, hg, ha, k⟩ := h
    refine ⟨_, pss_cons (ps_set (i := 4) scSums.nd rfl (Or.inl rfl) (pe_def De hr (by decide) (by rfl) (pa_cons (pv 2) (pa_cons (pv 3) pa_nil))))
      (pss_cons (ps_for PassesOwn.never rfl (pi_range1 (by rfl) T.range (pa_cons pe_int pa_nil)) (pg_name (i := 5) scSums.nd rfl (Or.inl rfl)) (pss_cons (ps_par (i := 6) (j := 7) (by rfl) scSums.nd rfl rfl (by decide) rfl rfl (pa_cons (pe_def Pi hr (by decide) (by rfl) (pa_cons (pv 0) (pa_cons (pv 4) pa_nil))) (pa_cons (pe_def Pi hr (by decide) (by rfl) (pa_cons (pv 0) (pa_cons (pv 4) pa_nil))) pa_nil)) (by rfl))
      (pss_cons (ps_set (i := 8) scSums.nd rfl (Or.inl rfl) (pe_op op_sub (pe_def Ro hr (by decide) (by rfl) (pa_cons (pv 0) (pa_cons (pe_def Pi hr (by decide) (by rfl) (pa_cons (pv 0) (pa_cons (pe_lst (pa_cons pe_int (pa_cons pe_int (pa_cons (pe_op op_pow pe_int pe_int) pa_nil)))) pa_nil))) pa_nil))) (pe_def Pi hr (by decide) (by rfl) (pa_cons (pv 0) (pa_cons (pe_lst (pa_cons pe_int (pa_cons pe_int (pa_cons (pe_op op_pow pe_int pe_int) pa_nil)))) pa_nil)))))
      (pss_cons (ps_if (PW.pt (pw_or (pt_cmpR (op_neD hr.units) (pe_me1 (E := X0) Gl.cl A.plus pass0 hr (by decide) (pv 1) (pa_cons (pv 6) (pa_cons (pv 7) pa_nil))) (pe_def Su hr (by decide) (by rfl) (pa_cons (pv 2) (pa_cons (pv 3) (pa_cons (pv 6) (pa_cons (pv 7) pa_nil))))) (nomark _)) (pw_or1 (pt_cmpR (op_neD hr.units) (pe_me1 (E := X0) Gl.cl A.plus pass0 hr (by decide) (pv 1) (pa_cons (pv 6) (pa_cons (pv 7) pa_nil))) (pe_me1 (E := X0) Gl.cl A.plus pass0 hr (by decide) (pv 1) (pa_cons (pv 7) (pa_cons (pv 6) pa_nil))) (nomark _))))) (pss_one (ps_ret pe_bl)) pss_nil)
      (pss_cons (ps_if (PW.pt (pw_or (pt_cmpR (op_neD hr.units) (pe_me1 (E := X0) Gl.cl A.times pass0 hr (by decide) (pv 1) (pa_cons (pv 6) (pa_cons (pv 8) pa_nil))) (pe_def Of hr (by decide) (by rfl) (pa_cons (pv 2) (pa_cons (pv 3) (pa_cons (pv 6) (pa_cons (pv 8) pa_nil))))) (nomark _)) (pw_or1 (pt_cmpR (op_notIn1 A.cont hr (by decide)) (pv 6) (pv 1) (by rfl))))) (pss_one (ps_ret pe_bl)) pss_nil)
      (pss_one (ps_if (PW.pt (pw_or (pt_cmpR (op_neD hr.units) (pe_me1 (E := X0) Gl.cl A.plus pass0 hr (by decide) (pv 1) (pa_cons (pv 6) (pa_cons (pe_me1 (E := X0) Gl.cl A.times pass0 hr (by decide) (pv 1) (pa_cons (pv 6) (pa_cons (pe_un un_neg pe_int) pa_nil))) pa_nil))) (pe_pro1 Gl.cl A.zero hr (by decide) (pv 1)) (nomark _)) (pw_or1 (pt_cmpR (op_in1 A.cont hr (by decide)) (pe_def Sx hr (by decide) (by rfl) (pa_cons (pv 0) (pa_cons (pv 3) pa_nil))) (pv 1) (by rfl))))) (pss_one (ps_ret pe_bl)) pss_nil)))))))
      (pss_one (ps_ret pe_bl))), ?_⟩
    have hlen := hg.fall.len
    have h7 := hg.pr.bd
    have hG : GrpOk p ns := ⟨hg.fall, by omega, by omega, hg.sz⟩
    walk_at "rd"
    refine ⟨p, a, ns, rfl, ha.sq, hg.fall, by omega, by omega, hg.sz, fun H1 Fe fs e1 hFe0 hFe hfs => ?_⟩
    have ha1 := ha.ext e1
    have hg1 := hg.ext e1
    have hd1 := hd.ext e1
    have hne : Fe ≠ d := dice_none hd hFe0
    have hfl := pair_len hfs
    have hcnt := els_len (p := p) (ns := ns) (by omega) hg.fall.pos
    have hpos := powI_pos (p := p) (by omega) ns.sum.toNat
    have hsz := hg.sz
    walk_at "rd"
    refine g_forR ?_
    walk_at "rd"
    refine ⟨by decide, by decide, ?_⟩
    refine for_range (fun i σ H' => ∃ x5 x6 x7 x8 : Option V, σ = [some (.ref d), some (.ref g), some (.int p), some (.ref a), some (.ref Fe), x5, x6, x7, x8] ∧ ExtBut d H1 H' ∧ DiceAt H' d) ⟨_, _, _, _, rfl, fun _ _ _ z => z, hd1⟩ ?_ ?_
    · rintro i σ H2 hi ⟨x5, x6, x7, x8, rfl, e2, hd2⟩
      have k2 := dice_keeps hd1 e2
      have ha2 := TupX.keeps k2 ha1
      have hg2 := hg1.keeps k2
      have hFe2 : H2 Fe = some (.lst fs) := e2 _ _ hne hFe
      have hfs2 : TRs H2 fs (els p ns) := Paired.mapP hfs fun _ _ z => TR.keeps k2 z
      walk_at "rd"
      refine g_par ?_
      walk_at "rd"
      refine ⟨d, Fe, fs, rfl, hd2, .inl ⟨SqL.of hFe2, hne⟩, by omega, by omega, fun H3 x e3 hd3 hx => ?_⟩
      walk_at "rd"
      have hFe3 : H3 Fe = some (.lst fs) := e3 _ _ hne hFe2
      refine ⟨d, Fe, fs, rfl, hd3, .inl ⟨SqL.of hFe3, hne⟩, by omega, by omega, fun H4 y e4 hd4 hy => ?_⟩
      have k4 := (dice_keeps hd2 e3).trans (dice_keeps hd3 e4)
      obtain ⟨xs, hxs, bx, rfl, hbx⟩ := pair_mem hfs2 hx
      obtain ⟨ys, hys, by', rfl, hby⟩ := pair_mem hfs2 hy
      have hix := els_mem.mp hxs
      have hiy := els_mem.mp hys
      have hbx4 := k4 _ _ (fun _ z => by cases z) hbx
      have hby4 := k4 _ _ (fun _ z => by cases z) hby
      have hg4 := hg2.keeps k4
      have ha4 := TupX.keeps k4 ha2
      have e14 := ExtBut.trans e2 (ExtBut.trans e3 e4)
      clear hbx hby hg2 ha2 hfs2 hFe2 hFe3 e2 e3 e4 k2 k4 hd2 hd3 hx hy hxs hys
      walk_at "rd"
      refine ⟨_, _, rfl, ?_⟩
      walk_at "rd"
      refine g_I (show CPow 10 50 from ⟨by decide, by decide, by decide⟩) ?_
      obtain ⟨bg, hbg⟩ : ∃ b : Int, b = (10 : Int) ^ (50 : Int).toNat := ⟨_, rfl⟩
      have hbg1 : 0 < bg ∧ bg < 2 ^ 1000 ∧ bg < 10 ^ 59 := by
        rw [hbg]
        decide +kernel
      rw [← hbg]
      clear hbg
      walk_at "rd"
      refine ⟨by show 3 ≤ sizeLine; decide, fun L1 hL1 => ?_⟩
      have x1 := Ext.new (o := HO.lst [V.int 9, V.int 300, V.int bg]) hL1
      have y1 : upd H4 L1 (HO.lst [V.int 9, V.int 300, V.int bg]) L1 = some (.lst [V.int 9, V.int 300, V.int bg]) := upd_same
      have n1 := dice_none hd4 hL1
      generalize upd H4 L1 (HO.lst [V.int 9, V.int 300, V.int bg]) = J1 at x1 y1 ⊢
      walk_at "rd"
      refine ⟨d, L1, _, rfl, hd4.ext x1, .inl ⟨SqL.of y1, n1⟩, by show 0 < 3; decide, by show 3 ≤ 40000; decide, fun J2 v x2 hdJ hv => ?_⟩
      have hv' : ∃ m : Int, v = .int m ∧ 0 < m ∧ m < 2 ^ 1000 ∧ m < 10 ^ 59 := by
        simp only [List.mem_cons, List.not_mem_nil, or_false] at hv
        rcases hv with h | h | h
        · exact ⟨9, h, by decide, by decide +kernel, by decide +kernel⟩
        · exact ⟨300, h, by decide, by decide +kernel, by decide +kernel⟩
        · exact ⟨bg, h, hbg1⟩
      obtain ⟨m, rfl, m0, m1, m2⟩ := hv'
      walk_at "rd"
      refine ⟨d, m, rfl, hdJ, m0, m1, fun J3 r x3 hdJ3 r0 r1 => ?_⟩
      walk_at "rd"
      refine g_I (show CPow 10 49 from ⟨by decide, by decide, by decide⟩) ?_
      obtain ⟨bh, hbh⟩ : ∃ b : Int, b = (10 : Int) ^ (49 : Int).toNat := ⟨_, rfl⟩
      have hbh1 : 0 ≤ bh ∧ bh < 10 ^ 59 := by
        rw [hbh]
        decide +kernel
      rw [← hbh]
      clear hbh
      walk_at "rd"
      refine ⟨by show 3 ≤ sizeLine; decide, fun L2 hL2 => ?_⟩
      have x4 := Ext.new (o := HO.lst [V.int 0, V.int 4, V.int bh]) hL2
      have y4 : upd J3 L2 (HO.lst [V.int 0, V.int 4, V.int bh]) L2 = some (.lst [V.int 0, V.int 4, V.int bh]) := upd_same
      have n4 := dice_none hdJ3 hL2
      generalize upd J3 L2 (HO.lst [V.int 0, V.int 4, V.int bh]) = J4 at x4 y4 ⊢
      walk_at "rd"
      refine ⟨d, L2, _, rfl, hdJ3.ext x4, .inl ⟨SqL.of y4, n4⟩, by show 0 < 3; decide, by show 3 ≤ 40000; decide, fun J5 v x5' hdJ5 hv => ?_⟩
      have hv' : ∃ u : Int, v = .int u ∧ 0 ≤ u ∧ u < 10 ^ 59 := by
        simp only [List.mem_cons, List.not_mem_nil, or_false] at hv
        rcases hv with h | h | h
        · exact ⟨0, h, by decide, by decide +kernel⟩
        · exact ⟨4, h, by decide, by decide +kernel⟩
        · exact ⟨bh, h, hbh1⟩
      obtain ⟨u, rfl, u0, u1⟩ := hv'
      have nlo : -(10 ^ 60) < r - u := by omega
      have nhi : r - u < 10 ^ 60 := by omega
      have kJ := ((Keeps.of x1).trans (dice_keeps (hd4.ext x1) x2)).trans ((dice_keeps hdJ x3).trans ((Keeps.of x4).trans (dice_keeps (hdJ3.ext x4) x5')))
      have e15 := ExtBut.trans e14 (ExtBut.trans (ExtBut.trans (ExtBut.of x1) x2) (ExtBut.trans x3 (ExtBut.trans (ExtBut.of x4) x5')))
      walk_at "rd"
      generalize r - u = num at nlo nhi ⊢
      have hbx5 := kJ _ _ (fun _ z => by cases z) hbx4
      have hby5 := kJ _ _ (fun _ z => by cases z) hby4
      have hg5 := hg4.keeps kJ
      have ha5 := TupX.keeps kJ ha4
      clear hbx4 hby4 hg4 ha4 kJ x1 x2 x3 x4 x5' y1 y4 hL1 hL2 n1 n4 hv hdJ hdJ3 hd4 r0 r1 m0 m1 m2 u0 u1 hbg1 hbh1 e14
      obtain ⟨dx, _, _, _, _, _, _, hgi5, _⟩ := id hg5.ins
      have hb900 : ns.length ≤ 900 := by omega
      refine g_meA hg5 rfl ?_
      walk_at "rd"
      refine ⟨g, bx, by', p, ns, xs, ys, rfl, hg5, SqT.of hbx5, SqT.of hby5, hix, hiy, fun J6 u1 x6 hu1 => ?_⟩
      walk_at "rd"
      refine ⟨p, a, bx, by', ns, xs, ys, rfl, (ha5.ext x6).sq, SqT.of (x6 _ _ hbx5), SqT.of (x6 _ _ hby5), hG, hix.len, hiy.len, fun J7 u2 x7 hu2 => ?_⟩
      refine g_neT (hu1.ext x7).sq hu2.sq ?_
      rw [decide_eq_true rfl]
      have x57 := Ext.trans x6 x7
      clear hu1 hu2 x6 x7
      walk_at "rd"
      refine g_meA (hg5.ext x57) rfl ?_
      walk_at "rd"
      refine ⟨g, bx, by', p, ns, xs, ys, rfl, hg5.ext x57, SqT.of (x57 _ _ hbx5), SqT.of (x57 _ _ hby5), hix, hiy, fun J8 u1 x8 hu1 => ?_⟩
      have x58 := Ext.trans x57 x8
      refine g_meA (hg5.ext x58) rfl ?_
      walk_at "rd"
      refine ⟨g, by', bx, p, ns, ys, xs, rfl, hg5.ext x58, SqT.of (x58 _ _ hby5), SqT.of (x58 _ _ hbx5), hiy, hix, fun J9 u2 x9 hu2 => ?_⟩
      rw [plus_comm] at hu2
      refine g_neT (hu1.ext x9).sq hu2.sq ?_
      rw [decide_eq_true rfl]
      have x59 := Ext.trans x58 x9
      clear hu1 hu2 x8 x58 x9 x57
      walk_at "rd"
      refine g_meA (hg5.ext x59) rfl ?_
      walk_at "rd"
      refine ⟨g, bx, p, ns, xs, num, rfl, hg5.ext x59, SqT.of (x59 _ _ hbx5), hix, nlo, nhi, fun J10 u1 x10 hu1 => ?_⟩
      have x510 := Ext.trans x59 x10
      walk_at "rd"
      refine ⟨p, a, bx, ns, xs, num, rfl, (ha5.ext x510).sq, SqT.of (x510 _ _ hbx5), hG, hix, fun J11 u2 x11 hu2 => ?_⟩
      rw [times_oft] at hu1
      refine g_neT (hu1.ext x11).sq hu2.sq ?_
      rw [decide_eq_true rfl]
      have x511 := Ext.trans x510 x11
      clear hu1 hu2 x10 x510 x11 x59
      walk_at "rd"
      refine ⟨g, dx, _, rfl, x511 _ _ hgi5, g, .ref bx, p, ns, true, rfl, hg5.ext x511, entB_ing (SqT.of (x511 _ _ hbx5)) hb900 hix, fun J12 x12 => ⟨true, rfl, ?_⟩⟩
      walk_at "rd"
      have x512 := Ext.trans x511 x12
      refine g_meA (hg5.ext x512) rfl ?_
      walk_at "rd"
      refine g_meA (hg5.ext x512) rfl ?_
      walk_at "rd"
      refine ⟨g, bx, p, ns, xs, -1, rfl, hg5.ext x512, SqT.of (x512 _ _ hbx5), hix, by decide +kernel, by decide +kernel, fun J13 u1 x13 hu1 => ?_⟩
      rw [times_oft] at hu1
      have x513 := Ext.trans x512 x13
      walk_at "rd"
      refine ⟨g, bx, u1, p, ns, xs, _, rfl, hg5.ext x513, SqT.of (x513 _ _ hbx5), hu1.sq, hix, ing_oft (by omega) (-1) hix, fun J14 u2 x14 hu2 => ?_⟩
      rw [plus_neg (by omega) hix] at hu2
      have x514 := Ext.trans x513 x14
      walk_at "rd"
      refine ⟨g, dx, _, rfl, x514 _ _ hgi5, g, p, ns, rfl, hg5.ext x514, fun J15 z x15 hz => ?_⟩
      refine g_neT (hu2.ext x15).sq hz ?_
      rw [decide_eq_true rfl]
      have x515 := Ext.trans x514 x15
      clear hu1 hu2 x13 x513 x14 x514 x15 x512 x12 x511 hz
      walk_at "rd"
      refine ⟨d, a, ns, ordsM p ns, rfl, hdJ5.ext x515, (ha5.ext x515).sq, ords_len p ns, by omega, ords_le hG, fun J16 v e16 hd16 hv => ?_⟩
      have k16 := dice_keeps (hdJ5.ext x515) e16
      walk_at "rd"
      refine ⟨g, dx, _, rfl, k16 _ _ (fun _ z => by cases z) (x515 _ _ hgi5), g, v, p, ns, false, rfl, (hg5.ext x515).keeps k16, hv, fun J17 x17 => ⟨false, rfl, ?_⟩⟩
      walk_at "rd"
      exact ⟨_, _, _, _, rfl, ExtBut.trans e15 (ExtBut.trans (ExtBut.of x515) (ExtBut.trans e16 (ExtBut.of x17))), hd16.ext x17⟩
    · rintro σ H2 ⟨x5, x6, x7, x8, rfl, e2, hd2⟩
      walk_at "rd"
      exact k H2 (ExtBut.trans (ExtBut.of e1) e2) hd2
end
end Q0

set_option Elab.async false
set_option linter.all false
set_option maxRecDepth 100000
set_option maxHeartbeats 4000000
/-! One group; the law. -/
namespace Q0
open PySem PySem.Spec PyProof.Rows L2 Gd
local macro_rules | `(tactic| walk_at "rd1") => `(tactic| first | with_reducible refine g_ret ?_ | with_reducible refine g_retN ?_ | with_reducible refine g_seq ?_ | with_reducible refine g_next ?_ | with_reducible refine g_drop ?_ | with_reducible refine g_asg ?_ | with_reducible refine g_name ?_ | with_reducible refine g_ifs ?_ | with_reducible refine g_test ?_ | with_reducible refine g_tb ?_ | with_reducible refine g_and ?_ | with_reducible refine g_or ?_ | with_reducible refine g_not ?_ | with_reducible refine g_andV ?_ | with_reducible refine g_orV ?_ | with_reducible refine g_notV ?_ | with_reducible refine g_if ?_ | with_reducible refine g_op ?_ | with_reducible refine g_un ?_ | with_reducible refine g_cb ?_ | with_reducible refine g_nil ?_ | with_reducible refine g_cons ?_ | with_reducible refine g_call ?_ | with_reducible refine g_callS ?_ | with_reducible refine g_tup ?_ | with_reducible refine g_lst ?_ | with_reducible refine g_isN ?_ | with_reducible refine g_sl ?_ | with_reducible refine g_nopart ?_ | with_reducible refine g_part ?_ | with_reducible refine g_chain ?_ | with_reducible refine g_fld ?_ | with_reducible refine g_prop ?_ | with_reducible refine g_bm ?_ | with_reducible refine g_bm0 ?_ | with_reducible refine g_c ?_ | with_reducible refine g_sub ?_ | with_reducible refine g_int1 ?_ | with_reducible refine g_int2 ?_ | with_reducible refine g_yes ?_ | with_reducible refine g_sfld ?_ | with_reducible refine g_NT ?_ | with_reducible refine g_NF ?_ | with_reducible refine iteT ?_ | with_reducible refine iteF ?_ | ((with_reducible refine' g_aug ?hv ?_); (case hv => exact rfl)) | ((with_reducible refine' g_var ?hv ?_); (case hv => exact rfl)) | with_reducible refine g_I0 ?_ | with_reducible refine g_U ?_ | with_reducible refine g_eqI ?_ | with_reducible refine g_blV ?_ | with_reducible refine g_inV ?_)
local macro_rules | `(tactic| walk_at "rd") => `(tactic| repeat walk_at "rd1")
/-- what is no group -/
structure GNx (K : PySem.W.Frag) (C G : Addr) : Prop where
  nK : PySem.W.notFirst K G (.ref C) = true
  nT : PySem.W.notFirst K G (.type "tuple") = true
  nS : PySem.W.notFirst K G (.type "str") = true
  kK : PySem.W.kitOne K (.ref C) (.ref G) = some false
  kT : PySem.W.kitOne K (.type "tuple") (.ref G) = some false
  kS : PySem.W.kitOne K (.type "str") (.ref G) = some false
section
variable {P : Program} {w : World} {K : PySem.W.Frag} {mg : Str → Option Value} {base : Heap} {f C t0 G tP : Addr} {fd : FuncData}
/-- two groups -/
theorem g_eqGG {H : Hp} {Q : VK} {E : XK} {g g2 : Addr} {p p2 : Int} {ns ms : List Int} (Gl : GC K mg G tP) (Gx : GCx K G) (h : GrpAt K C G H g p ns) (h2 : GrpAt K C G H g2 p2 ms) (k : ∀ H', Ext H H' → Q (.bl (decide (p = p2) && decide (ns = ms))) H') : rCmpO K G (spGEq K C G) E (.ref g) (.ref g2) H Q := by
  obtain ⟨dx, _, _, _, _, _, _, hi, _⟩ := id h.ins
  obtain ⟨dy, _, _, _, _, _, _, hj, _⟩ := id h2.ins
  exact ⟨g, dx, _, _, rfl, hi, GCx.ty (T := Gx) Gl.cl hj, notFirst_own, g, .ref g2, p, ns, _, rfl, h, .inl ⟨g2, p2, ms, rfl, h2, rfl⟩, fun H' e => ⟨⟨_, rfl⟩, k H' e⟩⟩
theorem g_neGG {H : Hp} {Q : VK} {E : XK} {g g2 : Addr} {p p2 : Int} {ns ms : List Int} (Gl : GC K mg G tP) (Gx : GCx K G) (h : GrpAt K C G H g p ns) (h2 : GrpAt K C G H g2 p2 ms) (k : ∀ H', Ext H H' → Q (.bl (!(decide (p = p2) && decide (ns = ms)))) H') : rNeO K G (spGEq K C G) E (.ref g) (.ref g2) H Q := by
  obtain ⟨dx, _, _, _, _, _, _, hi, _⟩ := id h.ins
  obtain ⟨dy, _, _, _, _, _, _, hj, _⟩ := id h2.ins
  exact ⟨g, dx, _, _, rfl, hi, GCx.ty (T := Gx) Gl.cl hj, notFirst_own, g, .ref g2, p, ns, _, rfl, h, .inl ⟨g2, p2, ms, rfl, h2, rfl⟩, fun H' e => ⟨_, rfl, k H' e⟩⟩
/-- a group and what is none -/
theorem g_eqGN {H : Hp} {Q : VK} {E : XK} {g : Addr} {p : Int} {ns : List Int} {x : V} {t : Value} (h : GrpAt K C G H g p ns) (ty : TyX K H x t) (hn : PySem.W.notFirst K G t = true) (hk : PySem.W.kitOne K t (.ref G) = some false) (k : ∀ H', Ext H H' → Q (.bl false) H') : rCmpO K G (spGEq K C G) E (.ref g) x H Q := by
  obtain ⟨dx, _, _, _, _, _, _, hi, _⟩ := id h.ins
  exact ⟨g, dx, _, t, rfl, hi, ty, hn, g, x, p, ns, _, rfl, h, .inr ⟨⟨t, ty, hk⟩, rfl⟩, fun H' e => ⟨⟨_, rfl⟩, k H' e⟩⟩
theorem g_neGN {H : Hp} {Q : VK} {E : XK} {g : Addr} {p : Int} {ns : List Int} {x : V} {t : Value} (h : GrpAt K C G H g p ns) (ty : TyX K H x t) (hn : PySem.W.notFirst K G t = true) (hk : PySem.W.kitOne K t (.ref G) = some false) (k : ∀ H', Ext H H' → Q (.bl true) H') : rNeO K G (spGEq K C G) E (.ref g) x H Q := by
  obtain ⟨dx, _, _, _, _, _, _, hi, _⟩ := id h.ins
  exact ⟨g, dx, _, t, rfl, hi, ty, hn, g, x, p, ns, _, rfl, h, .inr ⟨⟨t, ty, hk⟩, rfl⟩, fun H' e => ⟨_, rfl, k H' e⟩⟩
abbrev sRightK : Stmt := top 56
theorem scRightK : FnScope ["_law_dice_here", "_law_prime", "_law_kind_here", "_law_group", "_law_other"] ["_law_dice_here"] (defScope sRightK) := ⟨rfl, rfl, rfl, by decide +kernel, rfl, by decide +kernel, by decide +kernel⟩
def spRightK : Sp := fun vs H Q _ => ∃ d : Addr, vs = [.ref d] ∧ DiceAt H d ∧ ∀ H', ExtBut d H H' → Q (.bl true) H'
theorem ok_rightK (F : Fun K "_law_right" "_law_right" sRightK f fd) (T : Txt K mg) (Cl : KC K mg C) (Gl : GC K mg G tP) (Gx : GCx K G) (Gn : GNx K C G) (A : ApiH P w K mg base C t0 G tP) (Dt : Def1 P w K mg base CX0 4 "_law_tall_group" ["_law_dice_here", "_law_most"] (spTall K))
    (Do : Def1 P w K mg base CX0 8 "_law_told_right" ["_law_group", "_law_prime", "_law_kind_here"] (spTold K C G)) (Ds : Def1 P w K mg base CX0 8 "_law_sums_right" ["_law_dice_here", "_law_group", "_law_prime", "_law_kind_here"] (spSums K C G))
    (Dp : Def1 P w K mg base CX0 2 "_law_pick" ["_law_dice_here", "_law_items"] (spPickS K)) (Dr : Def1 P w K mg base CX0 2 "_law_room_kinds" ["_law_prime", "_law_most"] (spRoom K)) : FnOk P w K mg base CX0 9 f fd ["_law_dice_here"] spRightK := by
  refine F.ok scRightK (fun vs H Q E h => ?_) (fun cdv Ar outer s H vs Q E hr h => ?_)
  · obtain ⟨d, rfl, _⟩ := h
    rfl
  · obtain ⟨d, rfl, hd, k⟩ := h
    refine ⟨_, pss_cons (ps_asg (pe_def Dt hr (by decide) (by rfl) (pa_cons (pv 0) (pa_cons pe_int pa_nil))) (pg_tup rfl (pgs_cons (pg_name (i := 1) scRightK.nd rfl (Or.inl rfl)) (pgs_cons (pg_name (i := 2) scRightK.nd rfl (Or.inl rfl)) pgs_nil))))
      (pss_cons (ps_set (i := 3) scRightK.nd rfl (Or.inl rfl) (pe_mk4 A.gini pass0 hr (by decide) (by rfl) Gl.g (pa_cons (pv 1) (pa_cons (pe_mk1 A.ini pass0 hr (by decide) (by rfl) Cl.g (pa_cons (pv 2) pa_nil)) pa_nil))))
      (pss_cons (ps_if (PW.pt (pw_or (pt_not (pt_val (pe_def Do hr (by decide) (by rfl) (pa_cons (pv 3) (pa_cons (pv 1) (pa_cons (pv 2) pa_nil)))))) (pw_or1 (pt_not (pt_val (pe_def Ds hr (by decide) (by rfl) (pa_cons (pv 0) (pa_cons (pv 3) (pa_cons (pv 1) (pa_cons (pv 2) pa_nil)))))))))) (pss_one (ps_ret pe_bl)) pss_nil)
      (pss_cons (ps_set (i := 4) scRightK.nd rfl (Or.inl rfl) (pe_def Dp hr (by decide) (by rfl) (pa_cons (pv 0) (pa_cons (pe_def Dr hr (by decide) (by rfl) (pa_cons pe_int (pa_cons pe_int pa_nil))) pa_nil))))
      (pss_cons (ps_if (PW.pt (pw_or (pt_cmpR op_ne (pe_cmpR (op_eq1 A.eq hr (by decide)) (pv 3) (pe_mk4 A.gini pass0 hr (by decide) (by rfl) Gl.g (pa_cons pe_int (pa_cons (pe_mk1 A.ini pass0 hr (by decide) (by rfl) Cl.g (pa_cons (pv 4) pa_nil)) pa_nil))) (nomark _)) (pe_and (pe_cmpR op_eq (pv 1) pe_int (nomark _)) (pe_one (pe_cmpR (op_eqD hr.units) (pv 2) (pv 4) (nomark _)))) (nomark _)) (pw_or1 (pt_cmpR (op_ne1 Gx.ne A.eq hr (by decide)) (pv 3) (pe_mk4 A.gini pass0 hr (by decide) (by rfl) Gl.g (pa_cons (pv 1) (pa_cons (pe_mk1 A.ini pass0 hr (by decide) (by rfl) Cl.g (pa_cons (pv 2) pa_nil)) pa_nil))) (nomark _))))) (pss_one (ps_ret pe_bl)) pss_nil)
      (pss_one (ps_ret (pe_and (pe_not (pe_cmpR (op_eq1 A.eq hr (by decide)) (pv 3) (pv 2) (nomark _))) (pe_and (pe_not (pe_cmpR (op_eq1 A.eq hr (by decide)) (pv 3) (pe_mk1 A.ini pass0 hr (by decide) (by rfl) Cl.g (pa_cons (pv 2) pa_nil)) (nomark _))) (pe_one (pe_cmpR (op_ne1 Gx.ne A.eq hr (by decide)) (pv 3) (pe_callTy (call_str1 A.str hr (by decide)) (by rfl) T.str (by decide +kernel) (pa_cons (pv 3) pa_nil)) (nomark _))))))))))), ?_⟩
    walk_at "rd"
    refine ⟨d, 256, rfl, hd, by decide, by decide, fun H1 u a p ns e1 hd1 hu ha hF hp hz => ?_⟩
    have hp7 := hp.bd
    refine ⟨u, _, rfl, hu, rfl, _, _, rfl, ?_⟩
    refine ⟨_, _, rfl, rfl, ?_⟩
    walk_at "rd"
    refine g_make ?_
    walk_at "rd"
    refine g_make ?_
    walk_at "rd"
    refine g_mk3 ha hF fun H2 q n t m e2 hq => ?_
    walk_at "rd"
    refine g_mkG hq hp hz fun H3 g e3 hg => ?_
    have e13 := Ext.trans e2 e3
    have hd3 := hd1.ext e13
    have ha3 := ha.ext e13
    walk_at "rd"
    refine ⟨g, a, p, ns, rfl, hg, ha3, fun H4 e4 => ?_⟩
    walk_at "rd"
    refine ⟨d, g, a, p, ns, rfl, hd3.ext e4, hg.ext e4, ha3.ext e4, fun H5 e5 hd5 => ?_⟩
    have k5 := (Keeps.of e4).trans (dice_keeps (hd3.ext e4) e5)
    have hg5 := hg.keeps k5
    have ha5 := TupX.keeps k5 ha3
    have e15 := ExtBut.trans e1 (ExtBut.trans (ExtBut.of (Ext.trans e13 e4)) e5)
    walk_at "rd"
    refine ⟨2, 64, rfl, by decide, by decide, by decide, by decide, fun H6 Fr rs e6 hFr0 hFr hne hlr hrs => ?_⟩
    walk_at "rd"
    have hd6 := hd5.ext e6
    refine ⟨d, Fr, rs, rfl, hd6, .inl ⟨SqL.of hFr, dice_none hd5 hFr0⟩, List.length_pos_iff.mpr hne, hlr, fun H7 y e7 hd7 hy => ?_⟩
    have k7 := dice_keeps hd6 e7
    obtain ⟨b, ms, rfl, hb, hFm, hzm⟩ := (hrs y hy).keeps k7
    have hg7 := (hg5.ext e6).keeps k7
    have ha7 := TupX.keeps k7 (ha5.ext e6)
    have e17 := ExtBut.trans e15 (ExtBut.trans (ExtBut.of e6) e7)
    clear hg5 ha5 hrs hy hne hlr hFr hFr0 hd6 k7 e6 e7 e15 k5 e5 hd5 hg ha3 hq ha hd3 hd1
    walk_at "rd"
    refine g_make ?_
    walk_at "rd"
    refine g_make ?_
    walk_at "rd"
    refine g_mk3 hb hFm fun H8 q2 n2 t2 m2 e8 hq2 => ?_
    walk_at "rd"
    refine g_mkG hq2 (by unfold PrG; decide) (by omega) fun H9 g2 e9 hg2 => ?_
    have e79 := Ext.trans e8 e9
    refine g_eqGG Gl Gx (hg7.ext e79) hg2 fun H10 e10 => ?_
    have e710 := Ext.trans e79 e10
    walk_at "rd"
    refine ite2 (fun h1 => ?a) (fun h1 => ?b)
    case' a =>
      have h1' := of_decide_eq_true h1
      walk_at "rd"
      refine g_eqT (ha7.ext e710).sq (hb.ext e710).sq ?_
      refine g_neBl (by rw [h1, Bool.true_and]) ?_
    case' b =>
      refine g_neBl (by rw [Bool.eq_false_iff.mpr h1, Bool.false_and]) ?_
    all_goals
      walk_at "rd"
      refine g_make ?_
      walk_at "rd"
      refine g_make ?_
      walk_at "rd"
      refine g_mk3 (ha7.ext e710) hF fun H11 q3 n3 t3 m3 e11 hq3 => ?_
      walk_at "rd"
      refine g_mkG hq3 hp hz fun H12 g3 e12 hg3 => ?_
      have e712 := Ext.trans e710 (Ext.trans e11 e12)
      refine g_neGG Gl Gx (hg7.ext e712) hg3 fun H13 e13' => ?_
      rw [decide_eq_true rfl, decide_eq_true rfl, Bool.and_self, Bool.not_true]
      have e713 := Ext.trans e712 e13'
      walk_at "rd"
      refine g_eqGN (hg7.ext e713) (tyT (ha7.ext e713).sq) Gn.nT Gn.kT fun H14 e14 => ?_
      have e714 := Ext.trans e713 e14
      walk_at "rd"
      refine g_make ?_
      walk_at "rd"
      refine g_mk3 (ha7.ext e714) hF fun H15 q4 n4 t4 m4 e15' hq4 => ?_
      have e715 := Ext.trans e714 e15'
      obtain ⟨dq, hqi⟩ := id hq4.ins
      refine g_eqGN (hg7.ext e715) (Cl.ty hqi) Gn.nK Gn.kK fun H16 e16 => ?_
      have e716 := Ext.trans e715 e16
      obtain ⟨dx, _, _, _, _, _, _, hgi, _⟩ := id (hg7.ext e716).ins
      walk_at "rd"
      refine ⟨g, dx, _, rfl, hgi, g, p, ns, rfl, hg7.ext e716, fun H17 e17' => ⟨_, rfl, ?_⟩⟩
      have e717 := Ext.trans e716 e17'
      refine g_neGN (hg7.ext e717) (.base (.str _)) Gn.nS Gn.kS fun H18 e18 => ?_
      exact k _ (ExtBut.trans e17 (ExtBut.of (Ext.trans e717 e18)))
end
end Q0

set_option Elab.async false
set_option linter.all false
set_option maxRecDepth 100000
set_option maxHeartbeats 4000000
/-! The law. -/
namespace Q0
open PySem PySem.Spec PyProof.Rows L2 Gd
local macro_rules | `(tactic| walk_at "rd1") => `(tactic| first | with_reducible refine g_ret ?_ | with_reducible refine g_retN ?_ | with_reducible refine g_seq ?_ | with_reducible refine g_next ?_ | with_reducible refine g_drop ?_ | with_reducible refine g_asg ?_ | with_reducible refine g_name ?_ | with_reducible refine g_ifs ?_ | with_reducible refine g_test ?_ | with_reducible refine g_tb ?_ | with_reducible refine g_and ?_ | with_reducible refine g_or ?_ | with_reducible refine g_not ?_ | with_reducible refine g_andV ?_ | with_reducible refine g_orV ?_ | with_reducible refine g_notV ?_ | with_reducible refine g_if ?_ | with_reducible refine g_op ?_ | with_reducible refine g_un ?_ | with_reducible refine g_cb ?_ | with_reducible refine g_nil ?_ | with_reducible refine g_cons ?_ | with_reducible refine g_call ?_ | with_reducible refine g_callS ?_ | with_reducible refine g_tup ?_ | with_reducible refine g_lst ?_ | with_reducible refine g_isN ?_ | with_reducible refine g_sl ?_ | with_reducible refine g_nopart ?_ | with_reducible refine g_part ?_ | with_reducible refine g_chain ?_ | with_reducible refine g_fld ?_ | with_reducible refine g_prop ?_ | with_reducible refine g_bm ?_ | with_reducible refine g_bm0 ?_ | with_reducible refine g_c ?_ | with_reducible refine g_sub ?_ | with_reducible refine g_int1 ?_ | with_reducible refine g_int2 ?_ | with_reducible refine g_yes ?_ | with_reducible refine g_sfld ?_ | with_reducible refine g_NT ?_ | with_reducible refine g_NF ?_ | with_reducible refine iteT ?_ | with_reducible refine iteF ?_ | ((with_reducible refine' g_aug ?hv ?_); (case hv => exact rfl)) | ((with_reducible refine' g_var ?hv ?_); (case hv => exact rfl)) | with_reducible refine g_I0 ?_ | with_reducible refine g_U ?_ | with_reducible refine g_eqI ?_ | with_reducible refine g_blV ?_ | with_reducible refine g_inV ?_)
local macro_rules | `(tactic| walk_at "rd") => `(tactic| repeat walk_at "rd1")
section
variable {P : Program} {w : World} {K : PySem.W.Frag} {mg : Str → Option Value} {base : Heap} {f C t0 G tP : Addr} {fd : FuncData}
theorem ing_ofK {p : Int} {ns xs : List Int} (h1 : decide (xs.length = ns.length) = true) (h2 : ((xs.zip ns).all fun q => decide (0 ≤ q.1 ∧ q.1 < powI p q.2.toNat)) = true) : InG p ns xs :=
  ⟨of_decide_eq_true h1, fun q hq => of_decide_eq_true (List.all_eq_true.mp h2 q hq)⟩
def nil7 : PyData := .list [.int 1, .tuple [], .tuple [], .str ("group of [] at 7" : Str)]
abbrev sLaw : Stmt := top 57
theorem scLawK : FnScope ["_law_script", "_law_spot", "_law_none", "_law_step"] ["_law_script"] (defScope sLaw) := ⟨rfl, rfl, rfl, by decide +kernel, rfl, by decide +kernel, by decide +kernel⟩
def spLaw (K : PySem.W.Frag) : Sp := fun vs H Q _ => ∃ (a : Addr) (ns : List Int), vs = [.ref a] ∧ SqL K H a (ns.map V.int) ∧ ns.length ≤ 63 ∧ ∀ H', Q (.bl true) H'
theorem ok_law (F : Fun K "law" "law" sLaw f fd) (T : Txt K mg) (Cl : KC K mg C) (Gl : GC K mg G tP) (A : ApiH P w K mg base C t0 G tP) (h0 : ∀ H, TupX K H t0 []) (Dd : Def1 P w K mg base CX0 1 "_law_dice" ["_law_script", "_law_spot"] (spDice K)) (Dr : Def1 P w K mg base CX0 9 "_law_right" ["_law_dice_here"] spRightK) :
    FnOk P w K mg base CX0 10 f fd ["_law_script"] (spLaw K) := by
  obtain ⟨tM, gM⟩ := Gl.most
  refine F.ok scLawK (fun vs H Q E h => ?_) (fun cdv Ar outer s H vs Q E hr h => ?_)
  · obtain ⟨a, ns, rfl, _⟩ := h
    rfl
  · obtain ⟨a, ns, rfl, hs, hl, k⟩ := h
    refine ⟨_, pss_cons (ps_if (PW.pt (pw_or (pt_cmpR (op_neD hr.units) (pe_glob (v := .ref tP) (by rfl) Gl.gP rfl) (pe_tup (pa_cons pe_int (pa_cons pe_int (pa_cons pe_int (pa_cons pe_int pa_nil))))) (nomark _)) (pw_or1 (pt_cmpR op_ne (pe_glob (v := .int 256) (by rfl) gM ⟨_, rfl⟩) pe_int (nomark _))))) (pss_one (ps_ret pe_bl)) pss_nil)
      (pss_cons (ps_for PassesOwn.never rfl (pi_range1 (by rfl) T.range (pa_cons (pe_callB (call_max2 rfl) (by rfl) T.max (by decide +kernel) (pa_cons pe_int (pa_cons (pe_callB (call_min2 rfl) (by rfl) T.min (by decide +kernel) (pa_cons pe_int (pa_cons (pe_callB call_len_seq (by rfl) T.len PySem.boot_len (pa_cons (pv 0) pa_nil)) pa_nil))) pa_nil))) pa_nil)) (pg_name (i := 1) scLawK.nd rfl (Or.inl rfl)) (pss_one (ps_if (pt_not (pt_val (pe_def Dr hr (by decide) (by rfl) (pa_cons (pe_def Dd hr (by decide) (by rfl) (pa_cons (pv 0) (pa_cons (pv 1) pa_nil))) pa_nil)))) (pss_one (ps_ret pe_bl)) pss_nil)))
      (pss_cons (ps_par (i := 2) (j := 3) (by rfl) scLawK.nd rfl rfl (by decide) rfl rfl (pa_cons (pe_mk4 A.gini pass0 hr (by decide) (by rfl) Gl.g (pa_cons pe_int (pa_cons (pe_mk0 A.ini pass0 hr (by decide) (by rfl) Cl.g) pa_nil))) (pa_cons (pe_mk4 A.gini pass0 hr (by decide) (by rfl) Gl.g (pa_cons pe_int (pa_cons (pe_mk1 A.ini pass0 hr (by decide) (by rfl) Cl.g (pa_cons (pe_tupX (pa_cons pe_int (pa_cons pe_int pa_nil))) pa_nil)) pa_nil))) pa_nil)) (by rfl))
      (pss_cons (ps_if (PW.pt (pw_or (pt_cmpR (op_neD hr.units) (pe_listM A.mem Gl.cl hr (by decide) (by rfl) T.list (by decide +kernel) (pv 2)) (pe_lst (pa_cons (pe_tup pa_nil) pa_nil)) (nomark _)) (pw_or1 (pt_cmpR (op_neD hr.units) (pe_lst (pa_cons (pe_pro1 Gl.cl A.size hr (by decide) (pv 2)) (pa_cons (pe_pro1 Gl.cl A.bas hr (by decide) (pv 2)) (pa_cons (pe_pro1 Gl.cl A.orders hr (by decide) (pv 2)) (pa_cons (pe_callTy (call_str1 A.str hr (by decide)) (by rfl) T.str (by decide +kernel) (pa_cons (pv 2) pa_nil)) pa_nil))))) (pe_lst (pa_cons pe_int (pa_cons (pe_tup pa_nil) (pa_cons (pe_tup pa_nil) (pa_cons pe_str pa_nil))))) (nomark _))))) (pss_one (ps_ret pe_bl)) pss_nil)
      (pss_one (ps_ret (pe_and (pe_cmpR (op_eqD hr.units) (pe_me1 (E := X0) Gl.cl A.times pass0 hr (by decide) (pv 3) (pa_cons (pe_tup (pa_cons pe_int (pa_cons pe_int pa_nil))) (pa_cons (pe_un un_neg pe_int) pa_nil))) (pe_tup (pa_cons pe_int (pa_cons pe_int pa_nil))) (nomark _)) (pe_one (pe_cmpR (op_eqD hr.units) (pe_me1 (E := X0) Gl.cl A.plus pass0 hr (by decide) (pv 3) (pa_cons (pe_tup (pa_cons pe_int (pa_cons pe_int pa_nil))) (pa_cons (pe_tup (pa_cons pe_int (pa_cons pe_int pa_nil))) pa_nil))) (pe_tup (pa_cons pe_int (pa_cons pe_int pa_nil))) (nomark _))))))))), ?_⟩
    walk_at "rd"
    refine ⟨by show 4 ≤ sizeLine; decide, fun u hu => ?_⟩
    have eu := Ext.new (o := HO.tup [V.int 2, V.int 3, V.int 5, V.int 7]) hu
    refine g_neT (ns := [2, 3, 5, 7]) (ms := [2, 3, 5, 7]) (Gl.prs _) (SqT.of upd_same) ?_
    rw [decide_eq_true rfl]
    have hs1 := sqL_ext eu hs
    generalize upd H u (HO.tup [V.int 2, V.int 3, V.int 5, V.int 7]) = H1 at hs1 ⊢
    walk_at "rd"
    refine g_neSame (by simp [scal]) ?_
    walk_at "rd"
    refine g_forR ?_
    walk_at "rd"
    refine ⟨a, _, rfl, .inl hs1, ?_⟩
    walk_at "rd"
    rw [List.length_map]
    refine ⟨by split <;> omega, by split <;> omega, ?_⟩
    refine for_range (fun i σ H' => ∃ x1 : Option V, σ = [some (.ref a), x1, none, none] ∧ Ext H1 H') ⟨_, rfl, fun _ _ z => z⟩ ?_ ?_
    · rintro i σ H2 hi ⟨x1, rfl, e⟩
      have hi63 : i ≤ 63 := by
        revert hi
        split <;> (try split) <;> intro hi <;> omega
      walk_at "rd"
      have hi0 : (0 : Int) + (i : Int) = (i : Int) := by omega
      rw [hi0]
      refine ⟨a, ns, i, rfl, sqL_ext e hs1, hi63, fun H3 d e3 hd0 hd => ?_⟩
      walk_at "rd"
      refine ⟨d, rfl, hd, fun H4 e4 => ?_⟩
      walk_at "rd"
      refine ⟨_, rfl, fun b o q => ?_⟩
      have q2 := e b o q
      exact e4 _ _ (ne_of_none q2 hd0) (e3 b o q2)
    · rintro σ H2 ⟨x1, rfl, _⟩
      walk_at "rd"
      refine g_par ?_
      walk_at "rd"
      refine g_make ?_
      walk_at "rd"
      refine g_make ?_
      walk_at "rd"
      refine g_mk3 (ns := []) (h0 _) fall_nil fun H3 q n t m e3 hq => ?_
      walk_at "rd"
      refine g_mkG hq (by unfold PrG; decide) (by decide) fun H4 g e4 hg => ?_
      walk_at "rd"
      refine g_make ?_
      walk_at "rd"
      refine g_make ?_
      walk_at "rd"
      refine g_tupX ?_
      walk_at "rd"
      refine ⟨by show 2 ≤ sizeLine; decide, fun u o hu ho => ?_⟩
      have hF : Fall [2, 1] := ⟨by decide, by decide, fun i hi => by
        match i, hi with
        | 0, _ => decide
        | n + 1, h => exact absurd h (by simp)⟩
      have eu := Ext.new (o := HO.frz o (.tup [V.int 2, V.int 1])) hu
      refine g_mk3 (ns := [2, 1]) (TupX.new ho) hF fun H5 q2 n2 t2 m2 e5 hq2 => ?_
      walk_at "rd"
      refine g_mkG hq2 (by unfold PrG; decide) (by decide) fun H6 g2 e6 hg2 => ?_
      have hg6 := hg.ext (Ext.trans eu (Ext.trans e5 e6))
      obtain ⟨dx, _, _, _, _, _, _, hgi, _⟩ := id hg6.ins
      clear hg hq hq2 eu e5 e6 e3 e4
      walk_at "rd"
      refine ⟨_, _, rfl, ?_⟩
      walk_at "rd"
      refine g_listM ?_
      walk_at "rd"
      refine ⟨g, dx, _, rfl, hgi, look4m, g, 7, [], rfl, hg6, fun H7 out e7 hout M hM => ?_⟩
      have eM := Ext.new (o := HO.lst out) hM
      have hM2 : upd H7 M (HO.lst out) M = some (.lst out) := upd_same
      have hout2 := trs_ext eM hout
      have e67 := Ext.trans e7 eM
      clear hout eM e7
      generalize upd H7 M (HO.lst out) = H8 at e67 hM2 hout2 ⊢
      clear hM
      walk_at "rd"
      refine ⟨Nat.zero_le _, fun u1 hu1 => ?_⟩
      have x1' := Ext.new (o := HO.tup []) hu1
      have y1 : TR (upd H8 u1 (HO.tup [])) (.ref u1) [] := ⟨u1, rfl, upd_same⟩
      generalize upd H8 u1 (HO.tup []) = J1 at x1' y1 ⊢
      walk_at "rd"
      refine ⟨by show 1 ≤ sizeLine; decide, fun L1 hL1 => ?_⟩
      have x2 := Ext.new (o := HO.lst [V.ref u1]) hL1
      refine g_neLL (yss := [[]]) (SqL.of (x2 _ _ (x1' _ _ hM2))) (SqL.of upd_same) (trs_ext (Ext.trans x1' x2) hout2) (.cons (y1.ext x2) .nil) ?_
      rw [show (decide (els 7 [] = [[]])) = true from by decide]
      have e68 := Ext.trans e67 (Ext.trans x1' x2)
      clear hM2 hout2 y1 x1' hu1
      generalize upd J1 L1 (HO.lst [V.ref u1]) = H9 at e68 ⊢
      walk_at "rd"
      refine ⟨g, dx, _, rfl, e68 _ _ hgi, g, 7, [], rfl, hg6.ext e68, fun H10 e10 => ?_⟩
      have e610 := Ext.trans e68 e10
      walk_at "rd"
      refine ⟨g, dx, _, rfl, e610 _ _ hgi, g, 7, [], rfl, hg6.ext e610, fun H11 ub yb e11 hub hyb => ?_⟩
      have e611 := Ext.trans e610 e11
      walk_at "rd"
      refine ⟨g, dx, _, rfl, e611 _ _ hgi, g, 7, [], rfl, hg6.ext e611, fun ob hob => ?_⟩
      walk_at "rd"
      refine ⟨g, dx, _, rfl, e611 _ _ hgi, g, 7, [], rfl, hg6.ext e611, fun H12 e12 => ⟨_, rfl, ?_⟩⟩
      have e612 := Ext.trans e611 e12
      rw [show grpTx 7 [] = (Str.ofString "group of [] at 7") from by decide +kernel, show powI 7 ([] : List Int).sum.toNat = 1 from by decide]
      have hyb0 : yb = [] := List.length_eq_zero_iff.mp (pair_len hyb)
      subst hyb0
      refine ⟨by show 4 ≤ sizeLine; decide, fun L2 hL2 => ?_⟩
      have z1 := Ext.new (o := HO.lst [V.int 1, V.ref ub, V.ref ob, V.str (Str.ofString "group of [] at 7")]) hL2
      have hL2' : upd H12 L2 (HO.lst [V.int 1, V.ref ub, V.ref ob, V.str (Str.ofString "group of [] at 7")]) L2 = some (.lst [V.int 1, V.ref ub, V.ref ob, V.str (Str.ofString "group of [] at 7")]) := upd_same
      generalize upd H12 L2 (HO.lst [V.int 1, V.ref ub, V.ref ob, V.str (Str.ofString "group of [] at 7")]) = J3 at z1 hL2' ⊢
      walk_at "rd"
      refine ⟨Nat.zero_le _, fun v1 hv1 => ?_⟩
      have z2 := Ext.new (o := HO.tup []) hv1
      have hv1' : upd J3 v1 (HO.tup []) v1 = some (.tup []) := upd_same
      generalize upd J3 v1 (HO.tup []) = J4 at z2 hv1' ⊢
      walk_at "rd"
      refine ⟨Nat.zero_le _, fun v2 hv2 => ?_⟩
      have z3 := Ext.new (o := HO.tup []) hv2
      have hv2' : upd J4 v2 (HO.tup []) v2 = some (.tup []) := upd_same
      generalize upd J4 v2 (HO.tup []) = J5 at z3 hv2' ⊢
      walk_at "rd"
      refine ⟨by show 4 ≤ sizeLine; decide, fun L3 hL3 => ?_⟩
      have z4 := Ext.new (o := HO.lst [V.int 1, V.ref v1, V.ref v2, V.str (Str.ofString "group of [] at 7")]) hL3
      have hL3' : upd J5 L3 (HO.lst [V.int 1, V.ref v1, V.ref v2, V.str (Str.ofString "group of [] at 7")]) L3 = some (.lst [V.int 1, V.ref v1, V.ref v2, V.str (Str.ofString "group of [] at 7")]) := upd_same
      generalize upd J5 L3 (HO.lst [V.int 1, V.ref v1, V.ref v2, V.str (Str.ofString "group of [] at 7")]) = J6 at z4 hL3' ⊢
      have z24 := Ext.trans z2 (Ext.trans z3 z4)
      have zz := Ext.trans e12 (Ext.trans z1 z24)
      have hD1 : Dp K J6 (.ref L2) nil7 := .lst (SqL.of (z24 _ _ hL2')) (.cons (.int 1) (.cons (.tup (SqT.of (zz _ _ hub)) .nil) (.cons (.tup (sqT_ext zz hob) .nil) (.cons (.str _) .nil))))
      have hD2 : Dp K J6 (.ref L3) nil7 := .lst (SqL.of hL3') (.cons (.int 1) (.cons (.tup (SqT.of (z4 _ _ (z3 _ _ hv1'))) .nil) (.cons (.tup (SqT.of (z4 _ _ hv2')) .nil) (.cons (.str _) .nil))))
      refine ⟨nil7, nil7, hD1, hD2, by decide +kernel, by decide +kernel, ?_⟩
      rw [show PyData.eqv nil7 nil7 = true from by decide +kernel]
      have e6J := Ext.trans e611 zz
      clear hD1 hD2 z24 z1 z2 z3 z4 zz hL2' hL3' hv1' hv2' hub hob e611 e612 e12 e68 e67 e610 e10 e11 hyb
      have hg2' := hg2.ext e6J
      walk_at "rd"
      refine g_meA hg2' rfl ?_
      walk_at "rd"
      refine ⟨by show 2 ≤ sizeLine; decide, fun w1 hw1 => ?_⟩
      have ew1 := Ext.new (o := HO.tup [V.int 1, V.int 1]) hw1
      have hw1' : upd J6 w1 (HO.tup [V.int 1, V.int 1]) w1 = some (.tup [V.int 1, V.int 1]) := upd_same
      generalize upd J6 w1 (HO.tup [V.int 1, V.int 1]) = K7 at ew1 hw1' ⊢
      walk_at "rd"
      refine ⟨g2, w1, 2, [2, 1], [1, 1], -1, rfl, hg2'.ext ew1, SqT.of hw1', ing_ofK (by decide +kernel) (by decide +kernel), by decide +kernel, by decide +kernel, fun K8 t1 e8 ht1 => ?_⟩
      rw [show timesM (ordsM 2 [2, 1]) [1, 1] (-1) = [3, 1] from by decide +kernel] at ht1
      have ek8 := Ext.trans ew1 e8
      walk_at "rd"
      refine ⟨by show 2 ≤ sizeLine; decide, fun w2 hw2 => ?_⟩
      have ew2 := Ext.new (o := HO.tup [V.int 3, V.int 1]) hw2
      have hw2' : upd K8 w2 (HO.tup [V.int 3, V.int 1]) w2 = some (.tup [V.int 3, V.int 1]) := upd_same
      generalize upd K8 w2 (HO.tup [V.int 3, V.int 1]) = K9 at ew2 hw2' ⊢
      walk_at "rd"
      refine g_eqT (ns := [3, 1]) (ms := [3, 1]) (ht1.ext ew2).sq (SqT.of hw2') ?_
      rw [decide_eq_true rfl]
      have ek9 := Ext.trans ek8 ew2
      walk_at "rd"
      refine g_meA (hg2'.ext ek9) rfl ?_
      walk_at "rd"
      refine ⟨by show 2 ≤ sizeLine; decide, fun w3 hw3 => ?_⟩
      have ew3 := Ext.new (o := HO.tup [V.int 3, V.int 1]) hw3
      have hw3' : upd K9 w3 (HO.tup [V.int 3, V.int 1]) w3 = some (.tup [V.int 3, V.int 1]) := upd_same
      generalize upd K9 w3 (HO.tup [V.int 3, V.int 1]) = K10 at ew3 hw3' ⊢
      walk_at "rd"
      refine ⟨by show 2 ≤ sizeLine; decide, fun w4 hw4 => ?_⟩
      have ew4 := Ext.new (o := HO.tup [V.int 2, V.int 1]) hw4
      have hw4' : upd K10 w4 (HO.tup [V.int 2, V.int 1]) w4 = some (.tup [V.int 2, V.int 1]) := upd_same
      generalize upd K10 w4 (HO.tup [V.int 2, V.int 1]) = K11 at ew4 hw4' ⊢
      walk_at "rd"
      refine ⟨g2, w3, w4, 2, [2, 1], [3, 1], [2, 1], rfl, (hg2'.ext ek9).ext (Ext.trans ew3 ew4), SqT.of (ew4 _ _ hw3'), SqT.of hw4', ing_ofK (by decide +kernel) (by decide +kernel), ing_ofK (by decide +kernel) (by decide +kernel), fun K12 t2 e12 ht2 => ?_⟩
      rw [show plusM (ordsM 2 [2, 1]) [3, 1] [2, 1] = [1, 0] from by decide +kernel] at ht2
      walk_at "rd"
      refine ⟨by show 2 ≤ sizeLine; decide, fun w5 hw5 => ?_⟩
      have ew5 := Ext.new (o := HO.tup [V.int 1, V.int 0]) hw5
      have hw5' : upd K12 w5 (HO.tup [V.int 1, V.int 0]) w5 = some (.tup [V.int 1, V.int 0]) := upd_same
      generalize upd K12 w5 (HO.tup [V.int 1, V.int 0]) = K13 at ew5 hw5' ⊢
      walk_at "rd"
      refine g_eqT (ns := [1, 0]) (ms := [1, 0]) (ht2.ext ew5).sq (SqT.of hw5') ?_
      rw [decide_eq_true rfl]
      exact k _
end
end Q0

set_option Elab.async false
set_option linter.all false
set_option maxRecDepth 100000
set_option maxHeartbeats 8000000
/-! What the top has written. -/
namespace Q0
open PySem PySem.Spec PyProof.Rows L2 Gd
open LamX (Tabs TabB TabS ExtN)
/-- an error of the class at S, an except clause that names U -/
theorem exm_one {K : PySem.W.Frag} {S U : Addr} {b : Bool} (h1 : PySem.W.subIn K (.ref U) (.type "BaseException") = some true) (h2 : PySem.W.isClsIn K U = true) (h3 : PySem.W.typeIn K (.ref U) = some (.type "type")) (h4 : PySem.W.subIn K (.ref S) (.ref U) = some b) :
    PySem.W.exmOne K (.ref S) (.ref U) = some b := by
  have h2' : (PySem.W.clsIn K U).isSome = true := h2
  simp [PySem.W.exmOne, PySem.W.kitCls, h1, h2', h3, h4]
theorem kit_self {K : PySem.W.Frag} {C : Addr} : PySem.W.kitOne K (.ref C) (.ref C) = some true := by
  unfold PySem.W.kitOne
  simp
theorem kit_own {K : PySem.W.Frag} {C D : Addr} {b : Bool} (n : C ≠ D) (h : PySem.W.isClsIn K D = true) (ht : PySem.W.typeIn K (.ref D) = some (.type "type")) (hs : PySem.W.subIn K (.ref C) (.ref D) = some b) : PySem.W.kitOne K (.ref C) (.ref D) = some b := by
  have h' : (PySem.W.clsIn K D).isSome = true := h
  have e : (Value.ref C == Value.ref D) = false := by simpa using n
  simp [PySem.W.kitOne, PySem.W.kitCls, e, h', ht, hs]
theorem kit_ty {K : PySem.W.Frag} {C : Addr} {T : String} {b : Bool} (hT : PySem.W.kitMeta T = true) (hs : PySem.W.subIn K (.ref C) (.type T) = some b) : PySem.W.kitOne K (.ref C) (.type T) = some b := by
  have e : (Value.ref C == Value.type T) = false := rfl
  simp [PySem.W.kitOne, PySem.W.kitCls, e, hT, hs]
theorem kit_not {K : PySem.W.Frag} {C : Addr} {T : String} (h : PySem.W.isClsIn K C = true) (ht : PySem.W.typeIn K (.ref C) = some (.type "type")) (hs : PySem.W.subIn K (.type T) (.ref C) = some false) : PySem.W.kitOne K (.type T) (.ref C) = some false := by
  have h' : (PySem.W.clsIn K C).isSome = true := h
  have e : (Value.type T == Value.ref C) = false := rfl
  simp [PySem.W.kitOne, PySem.W.kitCls, e, h', ht, hs]
local macro_rules | `(tactic| walk_at "rd1") => `(tactic| first | with_reducible refine g_ret ?_ | with_reducible refine g_retN ?_ | with_reducible refine g_seq ?_ | with_reducible refine g_next ?_ | with_reducible refine g_drop ?_ | with_reducible refine g_asg ?_ | with_reducible refine g_name ?_ | with_reducible refine g_ifs ?_ | with_reducible refine g_test ?_ | with_reducible refine g_tb ?_ | with_reducible refine g_and ?_ | with_reducible refine g_or ?_ | with_reducible refine g_not ?_ | with_reducible refine g_andV ?_ | with_reducible refine g_orV ?_ | with_reducible refine g_notV ?_ | with_reducible refine g_if ?_ | with_reducible refine g_op ?_ | with_reducible refine g_un ?_ | with_reducible refine g_cb ?_ | with_reducible refine g_nil ?_ | with_reducible refine g_cons ?_ | with_reducible refine g_call ?_ | with_reducible refine g_callS ?_ | with_reducible refine g_tup ?_ | with_reducible refine g_lst ?_ | with_reducible refine g_isN ?_ | with_reducible refine g_sl ?_ | with_reducible refine g_nopart ?_ | with_reducible refine g_part ?_ | with_reducible refine g_chain ?_ | with_reducible refine g_fld ?_ | with_reducible refine g_prop ?_ | with_reducible refine g_bm ?_ | with_reducible refine g_bm0 ?_ | with_reducible refine g_c ?_ | with_reducible refine g_sub ?_ | with_reducible refine g_int1 ?_ | with_reducible refine g_int2 ?_ | with_reducible refine g_yes ?_ | with_reducible refine g_sfld ?_ | with_reducible refine g_NT ?_ | with_reducible refine g_NF ?_ | with_reducible refine iteT ?_ | with_reducible refine iteF ?_ | ((with_reducible refine' g_aug ?hv ?_); (case hv => exact rfl)) | ((with_reducible refine' g_var ?hv ?_); (case hv => exact rfl)) | with_reducible refine g_I0 ?_ | with_reducible refine g_U ?_ | with_reducible refine g_eqI ?_ | with_reducible refine g_blV ?_ | with_reducible refine g_inV ?_)
local macro_rules | `(tactic| walk_at "rd") => `(tactic| repeat walk_at "rd1")
theorem notFirst_sub {K : PySem.W.Frag} {G : Addr} {t : Value} (hs : PySem.W.subIn K t (.ref G) = some false) : PySem.W.notFirst K G t = true := by
  unfold PySem.W.notFirst
  rw [hs]
  simp
theorem all_mk {l : PySem.W.OpenLaw} {w : World} {K : PySem.W.Frag} {h : Heap} {mg : Str → Option Value} {fa fWh fIn fIw fPw fIe fFa fFt fAl fBo fPl fTi fRk fRp fRe fDi fRo fPi fLp fKs fKd fEl fOf fSu fRm fTa fSt fTo fSm fRg fLa C fI0 TI0 tI0 fPn pPn fPs pPs fKe fKt G fI1 fMe fGu fGt fCo fGq fGl_ fGs fGp pGp fGk pGk fGi pGi fGz pGz fGb pGb fGo pGo tP : Addr} (X : K.In h) (G0 : h.Ns mainGlobals mg) (hfa : mg "law" = some (.ref fa))
    {odWh anWh : Option Addr} {slWh : Array (Option Value)} {ocWh kVWh dcWh pmWh cdWh ctWh : Value}
    {odIn anIn : Option Addr} {slIn : Array (Option Value)} {ocIn kVIn dcIn pmIn cdIn ctIn : Value}
    {odIw anIw : Option Addr} {slIw : Array (Option Value)} {ocIw kVIw dcIw pmIw cdIw ctIw : Value}
    {odPw anPw : Option Addr} {slPw : Array (Option Value)} {ocPw kVPw dcPw pmPw cdPw ctPw : Value}
    {odIe anIe : Option Addr} {slIe : Array (Option Value)} {ocIe kVIe dcIe pmIe cdIe ctIe : Value}
    {odFa anFa : Option Addr} {slFa : Array (Option Value)} {ocFa kVFa dcFa pmFa cdFa ctFa : Value}
    {odFt anFt : Option Addr} {slFt : Array (Option Value)} {ocFt kVFt dcFt pmFt cdFt ctFt : Value}
    {odAl anAl : Option Addr} {slAl : Array (Option Value)} {ocAl kVAl dcAl pmAl cdAl ctAl : Value}
    {odBo anBo : Option Addr} {slBo : Array (Option Value)} {ocBo kVBo dcBo pmBo cdBo ctBo : Value}
    {odPl anPl : Option Addr} {slPl : Array (Option Value)} {ocPl kVPl dcPl pmPl cdPl ctPl : Value}
    {odTi anTi : Option Addr} {slTi : Array (Option Value)} {ocTi kVTi dcTi pmTi cdTi ctTi : Value}
    {odRk anRk : Option Addr} {slRk : Array (Option Value)} {ocRk kVRk dcRk pmRk cdRk ctRk : Value}
    {odRp anRp : Option Addr} {slRp : Array (Option Value)} {ocRp kVRp dcRp pmRp cdRp ctRp : Value}
    {odRe anRe : Option Addr} {slRe : Array (Option Value)} {ocRe kVRe dcRe pmRe cdRe ctRe : Value}
    {odDi anDi : Option Addr} {slDi : Array (Option Value)} {ocDi kVDi dcDi pmDi cdDi ctDi : Value}
    {odRo anRo : Option Addr} {slRo : Array (Option Value)} {ocRo kVRo dcRo pmRo cdRo ctRo : Value}
    {odPi anPi : Option Addr} {slPi : Array (Option Value)} {ocPi kVPi dcPi pmPi cdPi ctPi : Value}
    {odLp anLp : Option Addr} {slLp : Array (Option Value)} {ocLp kVLp dcLp pmLp cdLp ctLp : Value}
    {odKs anKs : Option Addr} {slKs : Array (Option Value)} {ocKs kVKs dcKs pmKs cdKs ctKs : Value}
    {odKd anKd : Option Addr} {slKd : Array (Option Value)} {ocKd kVKd dcKd pmKd cdKd ctKd : Value}
    {odEl anEl : Option Addr} {slEl : Array (Option Value)} {ocEl kVEl dcEl pmEl cdEl ctEl : Value}
    {odOf anOf : Option Addr} {slOf : Array (Option Value)} {ocOf kVOf dcOf pmOf cdOf ctOf : Value}
    {odSu anSu : Option Addr} {slSu : Array (Option Value)} {ocSu kVSu dcSu pmSu cdSu ctSu : Value}
    {odRm anRm : Option Addr} {slRm : Array (Option Value)} {ocRm kVRm dcRm pmRm cdRm ctRm : Value}
    {odTa anTa : Option Addr} {slTa : Array (Option Value)} {ocTa kVTa dcTa pmTa cdTa ctTa : Value}
    {odSt anSt : Option Addr} {slSt : Array (Option Value)} {ocSt kVSt dcSt pmSt cdSt ctSt : Value}
    {odTo anTo : Option Addr} {slTo : Array (Option Value)} {ocTo kVTo dcTo pmTo cdTo ctTo : Value}
    {odSm anSm : Option Addr} {slSm : Array (Option Value)} {ocSm kVSm dcSm pmSm cdSm ctSm : Value}
    {odRg anRg : Option Addr} {slRg : Array (Option Value)} {ocRg kVRg dcRg pmRg cdRg ctRg : Value}
    {odLa anLa : Option Addr} {slLa : Array (Option Value)} {ocLa kVLa dcLa pmLa cdLa ctLa : Value}
    {odI0 anI0 : Option Addr} {slI0 : Array (Option Value)} {ocI0 kVI0 dcI0 pmI0 cdI0 ctI0 : Value}
    {o1I0 : Value} {o2I0 : Option Addr} {o3I0 : Nat} {o4I0 : Array (Option Value)} {o6I0 : Nat} {o7I0 : Array (Option Value)}
    {restPn : List Value}
    {odPn anPn : Option Addr} {slPn : Array (Option Value)} {ocPn kVPn dcPn pmPn cdPn ctPn : Value}
    {restPs : List Value}
    {odPs anPs : Option Addr} {slPs : Array (Option Value)} {ocPs kVPs dcPs pmPs cdPs ctPs : Value}
    {odKe anKe : Option Addr} {slKe : Array (Option Value)} {ocKe kVKe dcKe pmKe cdKe ctKe : Value}
    {odKt anKt : Option Addr} {slKt : Array (Option Value)} {ocKt kVKt dcKt pmKt cdKt ctKt : Value}
    {odI1 anI1 : Option Addr} {slI1 : Array (Option Value)} {ocI1 kVI1 dcI1 pmI1 cdI1 ctI1 : Value}
    {odMe anMe : Option Addr} {slMe : Array (Option Value)} {ocMe kVMe dcMe pmMe cdMe ctMe : Value}
    {odGu anGu : Option Addr} {slGu : Array (Option Value)} {ocGu kVGu dcGu pmGu cdGu ctGu : Value}
    {odGt anGt : Option Addr} {slGt : Array (Option Value)} {ocGt kVGt dcGt pmGt cdGt ctGt : Value}
    {odCo anCo : Option Addr} {slCo : Array (Option Value)} {ocCo kVCo dcCo pmCo cdCo ctCo : Value}
    {odGq anGq : Option Addr} {slGq : Array (Option Value)} {ocGq kVGq dcGq pmGq cdGq ctGq : Value}
    {odGl_ anGl_ : Option Addr} {slGl_ : Array (Option Value)} {ocGl_ kVGl_ dcGl_ pmGl_ cdGl_ ctGl_ : Value}
    {odGs anGs : Option Addr} {slGs : Array (Option Value)} {ocGs kVGs dcGs pmGs cdGs ctGs : Value}
    {restGp : List Value}
    {odGp anGp : Option Addr} {slGp : Array (Option Value)} {ocGp kVGp dcGp pmGp cdGp ctGp : Value}
    {restGk : List Value}
    {odGk anGk : Option Addr} {slGk : Array (Option Value)} {ocGk kVGk dcGk pmGk cdGk ctGk : Value}
    {restGi : List Value}
    {odGi anGi : Option Addr} {slGi : Array (Option Value)} {ocGi kVGi dcGi pmGi cdGi ctGi : Value}
    {restGz : List Value}
    {odGz anGz : Option Addr} {slGz : Array (Option Value)} {ocGz kVGz dcGz pmGz cdGz ctGz : Value}
    {restGb : List Value}
    {odGb anGb : Option Addr} {slGb : Array (Option Value)} {ocGb kVGb dcGb pmGb cdGb ctGb : Value}
    {restGo : List Value}
    {odGo anGo : Option Addr} {slGo : Array (Option Value)} {ocGo kVGo dcGo pmGo cdGo ctGo : Value}
    {tkBOUND : Tok}
    {tkMAX_SIZE : Tok}
    {tkMAX_ELEMENTS : Tok}
    {gP1 gP2 gP3 gP4 : Tok} {nP : Nat} {slP : Array (Option Value)} 
    (aWh : PySem.W.nsIn K mainGlobals "is_whole" = some (some (.ref fWh)))
    (lWh : K.lookup fWh = some ⟨ocWh, odWh, .func (PySem.W.fnOf "is_whole" "is_whole" (defArgs (sWhole)) (defBody (sWhole)) (defScope (sWhole)) .none kVWh dcWh pmWh anWh cdWh ctWh), slWh⟩)
    (cWh_ : PySem.W.codeIn K cdWh "is_whole" = true)
    (kWh : PySem.W.keepIn K (.ref fWh) = true)
    (aIn : PySem.W.nsIn K mainGlobals "is_integer" = some (some (.ref fIn)))
    (lIn : K.lookup fIn = some ⟨ocIn, odIn, .func (PySem.W.fnOf "is_integer" "is_integer" (defArgs (sInteger)) (defBody (sInteger)) (defScope (sInteger)) .none kVIn dcIn pmIn anIn cdIn ctIn), slIn⟩)
    (cIn_ : PySem.W.codeIn K cdIn "is_integer" = true)
    (kIn : PySem.W.keepIn K (.ref fIn) = true)
    (aIw : PySem.W.nsIn K mainGlobals "is_within" = some (some (.ref fIw)))
    (lIw : K.lookup fIw = some ⟨ocIw, odIw, .func (PySem.W.fnOf "is_within" "is_within" (defArgs (sIsWithin)) (defBody (sIsWithin)) (defScope (sIsWithin)) .none kVIw dcIw pmIw anIw cdIw ctIw), slIw⟩)
    (cIw_ : PySem.W.codeIn K cdIw "is_within" = true)
    (kIw : PySem.W.keepIn K (.ref fIw) = true)
    (aPw : PySem.W.nsIn K mainGlobals "power_of" = some (some (.ref fPw)))
    (lPw : K.lookup fPw = some ⟨ocPw, odPw, .func (PySem.W.fnOf "power_of" "power_of" (defArgs (sPowerOf)) (defBody (sPowerOf)) (defScope (sPowerOf)) .none kVPw dcPw pmPw anPw cdPw ctPw), slPw⟩)
    (cPw_ : PySem.W.codeIn K cdPw "power_of" = true)
    (kPw : PySem.W.keepIn K (.ref fPw) = true)
    (aIe : PySem.W.nsIn K mainGlobals "is_entries" = some (some (.ref fIe)))
    (lIe : K.lookup fIe = some ⟨ocIe, odIe, .func (PySem.W.fnOf "is_entries" "is_entries" (defArgs (sIsEntries)) (defBody (sIsEntries)) (defScope (sIsEntries)) .none kVIe dcIe pmIe anIe cdIe ctIe), slIe⟩)
    (cIe_ : PySem.W.codeIn K cdIe "is_entries" = true)
    (kIe : PySem.W.keepIn K (.ref fIe) = true)
    (aFa : PySem.W.nsIn K mainGlobals "is_falling" = some (some (.ref fFa)))
    (lFa : K.lookup fFa = some ⟨ocFa, odFa, .func (PySem.W.fnOf "is_falling" "is_falling" (defArgs (sFalling)) (defBody (sFalling)) (defScope (sFalling)) .none kVFa dcFa pmFa anFa cdFa ctFa), slFa⟩)
    (cFa_ : PySem.W.codeIn K cdFa "is_falling" = true)
    (kFa : PySem.W.keepIn K (.ref fFa) = true)
    (aFt : PySem.W.nsIn K mainGlobals "falling_text" = some (some (.ref fFt)))
    (lFt : K.lookup fFt = some ⟨ocFt, odFt, .func (PySem.W.fnOf "falling_text" "falling_text" (defArgs (sFTx)) (defBody (sFTx)) (defScope (sFTx)) .none kVFt dcFt pmFt anFt cdFt ctFt), slFt⟩)
    (cFt_ : PySem.W.codeIn K cdFt "falling_text" = true)
    (kFt : PySem.W.keepIn K (.ref fFt) = true)
    (aAl : PySem.W.nsIn K mainGlobals "all_entries" = some (some (.ref fAl)))
    (lAl : K.lookup fAl = some ⟨ocAl, odAl, .func (PySem.W.fnOf "all_entries" "all_entries" (defArgs (sAllE)) (defBody (sAllE)) (defScope (sAllE)) .none kVAl dcAl pmAl anAl cdAl ctAl), slAl⟩)
    (cAl_ : PySem.W.codeIn K cdAl "all_entries" = true)
    (kAl : PySem.W.keepIn K (.ref fAl) = true)
    (aBo : PySem.W.nsIn K mainGlobals "base_of" = some (some (.ref fBo)))
    (lBo : K.lookup fBo = some ⟨ocBo, odBo, .func (PySem.W.fnOf "base_of" "base_of" (defArgs (sBaseOf)) (defBody (sBaseOf)) (defScope (sBaseOf)) .none kVBo dcBo pmBo anBo cdBo ctBo), slBo⟩)
    (cBo_ : PySem.W.codeIn K cdBo "base_of" = true)
    (kBo : PySem.W.keepIn K (.ref fBo) = true)
    (aPl : PySem.W.nsIn K mainGlobals "plus_entries" = some (some (.ref fPl)))
    (lPl : K.lookup fPl = some ⟨ocPl, odPl, .func (PySem.W.fnOf "plus_entries" "plus_entries" (defArgs (sPlusE)) (defBody (sPlusE)) (defScope (sPlusE)) .none kVPl dcPl pmPl anPl cdPl ctPl), slPl⟩)
    (cPl_ : PySem.W.codeIn K cdPl "plus_entries" = true)
    (kPl : PySem.W.keepIn K (.ref fPl) = true)
    (aTi : PySem.W.nsIn K mainGlobals "times_entries" = some (some (.ref fTi)))
    (lTi : K.lookup fTi = some ⟨ocTi, odTi, .func (PySem.W.fnOf "times_entries" "times_entries" (defArgs (sTimesE)) (defBody (sTimesE)) (defScope (sTimesE)) .none kVTi dcTi pmTi anTi cdTi ctTi), slTi⟩)
    (cTi_ : PySem.W.codeIn K cdTi "times_entries" = true)
    (kTi : PySem.W.keepIn K (.ref fTi) = true)
    (aRk : PySem.W.nsIn K mainGlobals "require_kind" = some (some (.ref fRk)))
    (lRk : K.lookup fRk = some ⟨ocRk, odRk, .func (PySem.W.fnOf "require_kind" "require_kind" (defArgs (sReqKind)) (defBody (sReqKind)) (defScope (sReqKind)) .none kVRk dcRk pmRk anRk cdRk ctRk), slRk⟩)
    (cRk_ : PySem.W.codeIn K cdRk "require_kind" = true)
    (kRk : PySem.W.keepIn K (.ref fRk) = true)
    (aRp : PySem.W.nsIn K mainGlobals "require_group_prime" = some (some (.ref fRp)))
    (lRp : K.lookup fRp = some ⟨ocRp, odRp, .func (PySem.W.fnOf "require_group_prime" "require_group_prime" (defArgs (sReqPrime)) (defBody (sReqPrime)) (defScope (sReqPrime)) .none kVRp dcRp pmRp anRp cdRp ctRp), slRp⟩)
    (cRp_ : PySem.W.codeIn K cdRp "require_group_prime" = true)
    (kRp : PySem.W.keepIn K (.ref fRp) = true)
    (aRe : PySem.W.nsIn K mainGlobals "require_element" = some (some (.ref fRe)))
    (lRe : K.lookup fRe = some ⟨ocRe, odRe, .func (PySem.W.fnOf "require_element" "require_element" (defArgs (sReqElem)) (defBody (sReqElem)) (defScope (sReqElem)) .none kVRe dcRe pmRe anRe cdRe ctRe), slRe⟩)
    (cRe_ : PySem.W.codeIn K cdRe "require_element" = true)
    (kRe : PySem.W.keepIn K (.ref fRe) = true)
    (aDi : PySem.W.nsIn K mainGlobals "_law_dice" = some (some (.ref fDi)))
    (lDi : K.lookup fDi = some ⟨ocDi, odDi, .func (PySem.W.fnOf "_law_dice" "_law_dice" (defArgs (sDice)) (defBody (sDice)) (defScope (sDice)) .none kVDi dcDi pmDi anDi cdDi ctDi), slDi⟩)
    (cDi_ : PySem.W.codeIn K cdDi "_law_dice" = true)
    (kDi : PySem.W.keepIn K (.ref fDi) = true)
    (aRo : PySem.W.nsIn K mainGlobals "_law_roll" = some (some (.ref fRo)))
    (lRo : K.lookup fRo = some ⟨ocRo, odRo, .func (PySem.W.fnOf "_law_roll" "_law_roll" (defArgs (sRoll)) (defBody (sRoll)) (defScope (sRoll)) .none kVRo dcRo pmRo anRo cdRo ctRo), slRo⟩)
    (cRo_ : PySem.W.codeIn K cdRo "_law_roll" = true)
    (kRo : PySem.W.keepIn K (.ref fRo) = true)
    (aPi : PySem.W.nsIn K mainGlobals "_law_pick" = some (some (.ref fPi)))
    (lPi : K.lookup fPi = some ⟨ocPi, odPi, .func (PySem.W.fnOf "_law_pick" "_law_pick" (defArgs (sPick)) (defBody (sPick)) (defScope (sPick)) .none kVPi dcPi pmPi anPi cdPi ctPi), slPi⟩)
    (cPi_ : PySem.W.codeIn K cdPi "_law_pick" = true)
    (kPi : PySem.W.keepIn K (.ref fPi) = true)
    (aLp : PySem.W.nsIn K mainGlobals "_law_power" = some (some (.ref fLp)))
    (lLp : K.lookup fLp = some ⟨ocLp, odLp, .func (PySem.W.fnOf "_law_power" "_law_power" (defArgs (sLawPower)) (defBody (sLawPower)) (defScope (sLawPower)) .none kVLp dcLp pmLp anLp cdLp ctLp), slLp⟩)
    (cLp_ : PySem.W.codeIn K cdLp "_law_power" = true)
    (kLp : PySem.W.keepIn K (.ref fLp) = true)
    (aKs : PySem.W.nsIn K mainGlobals "_law_kinds" = some (some (.ref fKs)))
    (lKs : K.lookup fKs = some ⟨ocKs, odKs, .func (PySem.W.fnOf "_law_kinds" "_law_kinds" (defArgs (sKinds)) (defBody (sKinds)) (defScope (sKinds)) .none kVKs dcKs pmKs anKs cdKs ctKs), slKs⟩)
    (cKs_ : PySem.W.codeIn K cdKs "_law_kinds" = true)
    (kKs : PySem.W.keepIn K (.ref fKs) = true)
    (aKd : PySem.W.nsIn K mainGlobals "_law_kind" = some (some (.ref fKd)))
    (lKd : K.lookup fKd = some ⟨ocKd, odKd, .func (PySem.W.fnOf "_law_kind" "_law_kind" (defArgs (sKind)) (defBody (sKind)) (defScope (sKind)) .none kVKd dcKd pmKd anKd cdKd ctKd), slKd⟩)
    (cKd_ : PySem.W.codeIn K cdKd "_law_kind" = true)
    (kKd : PySem.W.keepIn K (.ref fKd) = true)
    (aEl : PySem.W.nsIn K mainGlobals "_law_elements" = some (some (.ref fEl)))
    (lEl : K.lookup fEl = some ⟨ocEl, odEl, .func (PySem.W.fnOf "_law_elements" "_law_elements" (defArgs (sEls)) (defBody (sEls)) (defScope (sEls)) .none kVEl dcEl pmEl anEl cdEl ctEl), slEl⟩)
    (cEl_ : PySem.W.codeIn K cdEl "_law_elements" = true)
    (kEl : PySem.W.keepIn K (.ref fEl) = true)
    (aOf : PySem.W.nsIn K mainGlobals "_law_often" = some (some (.ref fOf)))
    (lOf : K.lookup fOf = some ⟨ocOf, odOf, .func (PySem.W.fnOf "_law_often" "_law_often" (defArgs (sOften)) (defBody (sOften)) (defScope (sOften)) .none kVOf dcOf pmOf anOf cdOf ctOf), slOf⟩)
    (cOf_ : PySem.W.codeIn K cdOf "_law_often" = true)
    (kOf : PySem.W.keepIn K (.ref fOf) = true)
    (aSu : PySem.W.nsIn K mainGlobals "_law_sum_in" = some (some (.ref fSu)))
    (lSu : K.lookup fSu = some ⟨ocSu, odSu, .func (PySem.W.fnOf "_law_sum_in" "_law_sum_in" (defArgs (sSumIn)) (defBody (sSumIn)) (defScope (sSumIn)) .none kVSu dcSu pmSu anSu cdSu ctSu), slSu⟩)
    (cSu_ : PySem.W.codeIn K cdSu "_law_sum_in" = true)
    (kSu : PySem.W.keepIn K (.ref fSu) = true)
    (aRm : PySem.W.nsIn K mainGlobals "_law_room_kinds" = some (some (.ref fRm)))
    (lRm : K.lookup fRm = some ⟨ocRm, odRm, .func (PySem.W.fnOf "_law_room_kinds" "_law_room_kinds" (defArgs (sRoom)) (defBody (sRoom)) (defScope (sRoom)) .none kVRm dcRm pmRm anRm cdRm ctRm), slRm⟩)
    (cRm_ : PySem.W.codeIn K cdRm "_law_room_kinds" = true)
    (kRm : PySem.W.keepIn K (.ref fRm) = true)
    (aTa : PySem.W.nsIn K mainGlobals "_law_tall_group" = some (some (.ref fTa)))
    (lTa : K.lookup fTa = some ⟨ocTa, odTa, .func (PySem.W.fnOf "_law_tall_group" "_law_tall_group" (defArgs (sTall)) (defBody (sTall)) (defScope (sTall)) .none kVTa dcTa pmTa anTa cdTa ctTa), slTa⟩)
    (cTa_ : PySem.W.codeIn K cdTa "_law_tall_group" = true)
    (kTa : PySem.W.keepIn K (.ref fTa) = true)
    (aSt : PySem.W.nsIn K mainGlobals "_law_strange" = some (some (.ref fSt)))
    (lSt : K.lookup fSt = some ⟨ocSt, odSt, .func (PySem.W.fnOf "_law_strange" "_law_strange" (defArgs (sStrange)) (defBody (sStrange)) (defScope (sStrange)) .none kVSt dcSt pmSt anSt cdSt ctSt), slSt⟩)
    (cSt_ : PySem.W.codeIn K cdSt "_law_strange" = true)
    (kSt : PySem.W.keepIn K (.ref fSt) = true)
    (aTo : PySem.W.nsIn K mainGlobals "_law_told_right" = some (some (.ref fTo)))
    (lTo : K.lookup fTo = some ⟨ocTo, odTo, .func (PySem.W.fnOf "_law_told_right" "_law_told_right" (defArgs (sTold)) (defBody (sTold)) (defScope (sTold)) .none kVTo dcTo pmTo anTo cdTo ctTo), slTo⟩)
    (cTo_ : PySem.W.codeIn K cdTo "_law_told_right" = true)
    (kTo : PySem.W.keepIn K (.ref fTo) = true)
    (aSm : PySem.W.nsIn K mainGlobals "_law_sums_right" = some (some (.ref fSm)))
    (lSm : K.lookup fSm = some ⟨ocSm, odSm, .func (PySem.W.fnOf "_law_sums_right" "_law_sums_right" (defArgs (sSums)) (defBody (sSums)) (defScope (sSums)) .none kVSm dcSm pmSm anSm cdSm ctSm), slSm⟩)
    (cSm_ : PySem.W.codeIn K cdSm "_law_sums_right" = true)
    (kSm : PySem.W.keepIn K (.ref fSm) = true)
    (aRg : PySem.W.nsIn K mainGlobals "_law_right" = some (some (.ref fRg)))
    (lRg : K.lookup fRg = some ⟨ocRg, odRg, .func (PySem.W.fnOf "_law_right" "_law_right" (defArgs (sRightK)) (defBody (sRightK)) (defScope (sRightK)) .none kVRg dcRg pmRg anRg cdRg ctRg), slRg⟩)
    (cRg_ : PySem.W.codeIn K cdRg "_law_right" = true)
    (kRg : PySem.W.keepIn K (.ref fRg) = true)
    (aLa : PySem.W.nsIn K mainGlobals "law" = some (some (.ref fLa)))
    (lLa : K.lookup fLa = some ⟨ocLa, odLa, .func (PySem.W.fnOf "law" "law" (defArgs (sLaw)) (defBody (sLaw)) (defScope (sLaw)) .none kVLa dcLa pmLa anLa cdLa ctLa), slLa⟩)
    (cLa_ : PySem.W.codeIn K cdLa "law" = true)
    (kLa : PySem.W.keepIn K (.ref fLa) = true)
    (aC : PySem.W.nsIn K mainGlobals "Kind" = some (some (.ref C)))
    (pgC : PySem.W.plainGet K C Str.empty = true)
    (hdC : PySem.W.hasDictIn K C = true)
    (poC : PySem.W.plainOver K C = true)
    (saC : PySem.W.findIn K (.ref C) "__setattr__" = some (some (.builtin "object.__setattr__")))
    (mkC : PySem.W.makesIn K C = true)
    (kcC : PySem.W.keepIn K (.ref C) = true)
    (haC : PySem.W.findIn K (.ref C) "__class__" = some (some (.builtin "object.__class__")))
    (hmC : PySem.W.mroIn K C (.type "object") = some true)
    (ciC : PySem.W.isClsIn K C = true)
    (ctC : PySem.W.typeIn K (.ref C) = some (.type "type"))
    (neC : PySem.W.findIn K (.ref C) "__ne__" = some (some (.builtin "object.__ne__")))
    (sfC : PySem.W.selfFirst K C = true)
    (no0C : PySem.W.findIn K (.ref C) "_numbers" = some none)
    (no1C : PySem.W.findIn K (.ref C) "_place" = some none)
    (hn : PySem.W.specialIn K (.builtin "object.__class__") "__get__" = some (some (.builtin "getset_descriptor.__get__")))
    (htk : PySem.W.takesIn K (.builtin "object.__class__") = some true)
    (aI0 : PySem.W.findIn K (.ref C) "__init__" = some (some (.ref fI0)))
    (lI0 : K.lookup fI0 = some ⟨ocI0, odI0, .func (PySem.W.fnOf "__init__" "Kind.__init__" (defArgs (cls 0)) (defBody (cls 0)) (defScope (cls 0)) (.ref TI0) kVI0 dcI0 pmI0 anI0 cdI0 ctI0), slI0⟩)
    (cI0_ : PySem.W.codeIn K cdI0 "Kind.__init__" = true)
    (kI0 : PySem.W.keepIn K (.ref fI0) = true)
    (iI0 : PySem.W.isFn K (.ref fI0) = true)
    (LI0 : K.lookup TI0 = some ⟨o1I0, o2I0, .seq #[.ref tI0] o3I0, o4I0⟩)
    (mI0 : K.lookup tI0 = some ⟨.type "tuple", none, .seq #[] o6I0, o7I0⟩)
    (aPn : PySem.W.findIn K (.ref C) "numbers" = some (some (.ref pPn)))
    (gPn : PySem.W.specialIn K (.ref pPn) "__get__" = some (some (.builtin "property.__get__")))
    (tPn_ : PySem.W.takesIn K (.ref pPn) = some true)
    (rPn : PySem.W.recIn K pPn "property" = some (.ref fPn :: restPn))
    (lPn : K.lookup fPn = some ⟨ocPn, odPn, .func (PySem.W.fnOf "numbers" "Kind.numbers" (defArgs (cls 2)) (defBody (cls 2)) (defScope (cls 2)) .none kVPn dcPn pmPn anPn cdPn ctPn), slPn⟩)
    (cPn_ : PySem.W.codeIn K cdPn "Kind.numbers" = true)
    (kPn : PySem.W.keepIn K (.ref fPn) = true)
    (aPs : PySem.W.findIn K (.ref C) "size" = some (some (.ref pPs)))
    (gPs : PySem.W.specialIn K (.ref pPs) "__get__" = some (some (.builtin "property.__get__")))
    (tPs_ : PySem.W.takesIn K (.ref pPs) = some true)
    (rPs : PySem.W.recIn K pPs "property" = some (.ref fPs :: restPs))
    (lPs : K.lookup fPs = some ⟨ocPs, odPs, .func (PySem.W.fnOf "size" "Kind.size" (defArgs (cls 3)) (defBody (cls 3)) (defScope (cls 3)) .none kVPs dcPs pmPs anPs cdPs ctPs), slPs⟩)
    (cPs_ : PySem.W.codeIn K cdPs "Kind.size" = true)
    (kPs : PySem.W.keepIn K (.ref fPs) = true)
    (aKe : PySem.W.findIn K (.ref C) "__eq__" = some (some (.ref fKe)))
    (lKe : K.lookup fKe = some ⟨ocKe, odKe, .func (PySem.W.fnOf "__eq__" "Kind.__eq__" (defArgs (cls 19)) (defBody (cls 19)) (defScope (cls 19)) .none kVKe dcKe pmKe anKe cdKe ctKe), slKe⟩)
    (cKe_ : PySem.W.codeIn K cdKe "Kind.__eq__" = true)
    (kKe : PySem.W.keepIn K (.ref fKe) = true)
    (iKe : PySem.W.isFn K (.ref fKe) = true)
    (jKe : PySem.W.fnIn K fKe = true)
    (aKt : PySem.W.findIn K (.ref C) "__str__" = some (some (.ref fKt)))
    (lKt : K.lookup fKt = some ⟨ocKt, odKt, .func (PySem.W.fnOf "__str__" "Kind.__str__" (defArgs (cls 21)) (defBody (cls 21)) (defScope (cls 21)) .none kVKt dcKt pmKt anKt cdKt ctKt), slKt⟩)
    (cKt_ : PySem.W.codeIn K cdKt "Kind.__str__" = true)
    (kKt : PySem.W.keepIn K (.ref fKt) = true)
    (iKt : PySem.W.isFn K (.ref fKt) = true)
    (jKt : PySem.W.fnIn K fKt = true)
    (fmC : PySem.W.findIn K (.ref C) "__format__" = some (some (.builtin "object.__format__")))
    (aG : PySem.W.nsIn K mainGlobals "Group" = some (some (.ref G)))
    (pgG : PySem.W.plainGet K G Str.empty = true)
    (hdG : PySem.W.hasDictIn K G = true)
    (poG : PySem.W.plainOver K G = true)
    (saG : PySem.W.findIn K (.ref G) "__setattr__" = some (some (.builtin "object.__setattr__")))
    (mkG : PySem.W.makesIn K G = true)
    (kcG : PySem.W.keepIn K (.ref G) = true)
    (haG : PySem.W.findIn K (.ref G) "__class__" = some (some (.builtin "object.__class__")))
    (hmG : PySem.W.mroIn K G (.type "object") = some true)
    (ciG : PySem.W.isClsIn K G = true)
    (ctG : PySem.W.typeIn K (.ref G) = some (.type "type"))
    (neG : PySem.W.findIn K (.ref G) "__ne__" = some (some (.builtin "object.__ne__")))
    (stupleG : PySem.W.subIn K (.type "tuple") (.ref G) = some false)
    (sstrG : PySem.W.subIn K (.type "str") (.ref G) = some false)
    (no0G : PySem.W.findIn K (.ref G) "_prime" = some none)
    (no1G : PySem.W.findIn K (.ref G) "_kind" = some none)
    (no2G : PySem.W.findIn K (.ref G) "_orders" = some none)
    (no3G : PySem.W.findIn K (.ref G) "_place" = some none)
    (sCG : PySem.W.subIn K (.ref C) (.ref G) = some false)
    (neqCG : C ≠ G)
    (aI1 : PySem.W.findIn K (.ref G) "__init__" = some (some (.ref fI1)))
    (lI1 : K.lookup fI1 = some ⟨ocI1, odI1, .func (PySem.W.fnOf "__init__" "Group.__init__" (defArgs (gcl 0)) (defBody (gcl 0)) (defScope (gcl 0)) .none kVI1 dcI1 pmI1 anI1 cdI1 ctI1), slI1⟩)
    (cI1_ : PySem.W.codeIn K cdI1 "Group.__init__" = true)
    (kI1 : PySem.W.keepIn K (.ref fI1) = true)
    (iI1 : PySem.W.isFn K (.ref fI1) = true)
    (jI1 : PySem.W.fnIn K fI1 = true)
    (aMe : PySem.W.findIn K (.ref G) "members" = some (some (.ref fMe)))
    (lMe : K.lookup fMe = some ⟨ocMe, odMe, .func (PySem.W.fnOf "members" "Group.members" (defArgs (gcl 7)) (defBody (gcl 7)) (defScope (gcl 7)) .none kVMe dcMe pmMe anMe cdMe ctMe), slMe⟩)
    (cMe_ : PySem.W.codeIn K cdMe "Group.members" = true)
    (kMe : PySem.W.keepIn K (.ref fMe) = true)
    (iMe : PySem.W.isFn K (.ref fMe) = true)
    (jMe : PySem.W.fnIn K fMe = true)
    (aGu : PySem.W.findIn K (.ref G) "plus" = some (some (.ref fGu)))
    (lGu : K.lookup fGu = some ⟨ocGu, odGu, .func (PySem.W.fnOf "plus" "Group.plus" (defArgs (gcl 8)) (defBody (gcl 8)) (defScope (gcl 8)) .none kVGu dcGu pmGu anGu cdGu ctGu), slGu⟩)
    (cGu_ : PySem.W.codeIn K cdGu "Group.plus" = true)
    (kGu : PySem.W.keepIn K (.ref fGu) = true)
    (iGu : PySem.W.isFn K (.ref fGu) = true)
    (jGu : PySem.W.fnIn K fGu = true)
    (aGt : PySem.W.findIn K (.ref G) "times" = some (some (.ref fGt)))
    (lGt : K.lookup fGt = some ⟨ocGt, odGt, .func (PySem.W.fnOf "times" "Group.times" (defArgs (gcl 9)) (defBody (gcl 9)) (defScope (gcl 9)) .none kVGt dcGt pmGt anGt cdGt ctGt), slGt⟩)
    (cGt_ : PySem.W.codeIn K cdGt "Group.times" = true)
    (kGt : PySem.W.keepIn K (.ref fGt) = true)
    (iGt : PySem.W.isFn K (.ref fGt) = true)
    (jGt : PySem.W.fnIn K fGt = true)
    (aCo : PySem.W.findIn K (.ref G) "__contains__" = some (some (.ref fCo)))
    (lCo : K.lookup fCo = some ⟨ocCo, odCo, .func (PySem.W.fnOf "__contains__" "Group.__contains__" (defArgs (gcl 13)) (defBody (gcl 13)) (defScope (gcl 13)) .none kVCo dcCo pmCo anCo cdCo ctCo), slCo⟩)
    (cCo_ : PySem.W.codeIn K cdCo "Group.__contains__" = true)
    (kCo : PySem.W.keepIn K (.ref fCo) = true)
    (iCo : PySem.W.isFn K (.ref fCo) = true)
    (jCo : PySem.W.fnIn K fCo = true)
    (aGq : PySem.W.findIn K (.ref G) "__eq__" = some (some (.ref fGq)))
    (lGq : K.lookup fGq = some ⟨ocGq, odGq, .func (PySem.W.fnOf "__eq__" "Group.__eq__" (defArgs (gcl 14)) (defBody (gcl 14)) (defScope (gcl 14)) .none kVGq dcGq pmGq anGq cdGq ctGq), slGq⟩)
    (cGq_ : PySem.W.codeIn K cdGq "Group.__eq__" = true)
    (kGq : PySem.W.keepIn K (.ref fGq) = true)
    (iGq : PySem.W.isFn K (.ref fGq) = true)
    (jGq : PySem.W.fnIn K fGq = true)
    (aGl_ : PySem.W.findIn K (.ref G) "__len__" = some (some (.ref fGl_)))
    (lGl_ : K.lookup fGl_ = some ⟨ocGl_, odGl_, .func (PySem.W.fnOf "__len__" "Group.__len__" (defArgs (gcl 15)) (defBody (gcl 15)) (defScope (gcl 15)) .none kVGl_ dcGl_ pmGl_ anGl_ cdGl_ ctGl_), slGl_⟩)
    (cGl__ : PySem.W.codeIn K cdGl_ "Group.__len__" = true)
    (kGl_ : PySem.W.keepIn K (.ref fGl_) = true)
    (iGl_ : PySem.W.isFn K (.ref fGl_) = true)
    (jGl_ : PySem.W.fnIn K fGl_ = true)
    (aGs : PySem.W.findIn K (.ref G) "__str__" = some (some (.ref fGs)))
    (lGs : K.lookup fGs = some ⟨ocGs, odGs, .func (PySem.W.fnOf "__str__" "Group.__str__" (defArgs (gcl 16)) (defBody (gcl 16)) (defScope (gcl 16)) .none kVGs dcGs pmGs anGs cdGs ctGs), slGs⟩)
    (cGs_ : PySem.W.codeIn K cdGs "Group.__str__" = true)
    (kGs : PySem.W.keepIn K (.ref fGs) = true)
    (iGs : PySem.W.isFn K (.ref fGs) = true)
    (jGs : PySem.W.fnIn K fGs = true)
    (aGp : PySem.W.findIn K (.ref G) "prime" = some (some (.ref pGp)))
    (gGp : PySem.W.specialIn K (.ref pGp) "__get__" = some (some (.builtin "property.__get__")))
    (tGp_ : PySem.W.takesIn K (.ref pGp) = some true)
    (rGp : PySem.W.recIn K pGp "property" = some (.ref fGp :: restGp))
    (lGp : K.lookup fGp = some ⟨ocGp, odGp, .func (PySem.W.fnOf "prime" "Group.prime" (defArgs (gcl 1)) (defBody (gcl 1)) (defScope (gcl 1)) .none kVGp dcGp pmGp anGp cdGp ctGp), slGp⟩)
    (cGp_ : PySem.W.codeIn K cdGp "Group.prime" = true)
    (kGp : PySem.W.keepIn K (.ref fGp) = true)
    (aGk : PySem.W.findIn K (.ref G) "kind" = some (some (.ref pGk)))
    (gGk : PySem.W.specialIn K (.ref pGk) "__get__" = some (some (.builtin "property.__get__")))
    (tGk_ : PySem.W.takesIn K (.ref pGk) = some true)
    (rGk : PySem.W.recIn K pGk "property" = some (.ref fGk :: restGk))
    (lGk : K.lookup fGk = some ⟨ocGk, odGk, .func (PySem.W.fnOf "kind" "Group.kind" (defArgs (gcl 2)) (defBody (gcl 2)) (defScope (gcl 2)) .none kVGk dcGk pmGk anGk cdGk ctGk), slGk⟩)
    (cGk_ : PySem.W.codeIn K cdGk "Group.kind" = true)
    (kGk : PySem.W.keepIn K (.ref fGk) = true)
    (aGi : PySem.W.findIn K (.ref G) "size" = some (some (.ref pGi)))
    (gGi : PySem.W.specialIn K (.ref pGi) "__get__" = some (some (.builtin "property.__get__")))
    (tGi_ : PySem.W.takesIn K (.ref pGi) = some true)
    (rGi : PySem.W.recIn K pGi "property" = some (.ref fGi :: restGi))
    (lGi : K.lookup fGi = some ⟨ocGi, odGi, .func (PySem.W.fnOf "size" "Group.size" (defArgs (gcl 3)) (defBody (gcl 3)) (defScope (gcl 3)) .none kVGi dcGi pmGi anGi cdGi ctGi), slGi⟩)
    (cGi_ : PySem.W.codeIn K cdGi "Group.size" = true)
    (kGi : PySem.W.keepIn K (.ref fGi) = true)
    (aGz : PySem.W.findIn K (.ref G) "zero" = some (some (.ref pGz)))
    (gGz : PySem.W.specialIn K (.ref pGz) "__get__" = some (some (.builtin "property.__get__")))
    (tGz_ : PySem.W.takesIn K (.ref pGz) = some true)
    (rGz : PySem.W.recIn K pGz "property" = some (.ref fGz :: restGz))
    (lGz : K.lookup fGz = some ⟨ocGz, odGz, .func (PySem.W.fnOf "zero" "Group.zero" (defArgs (gcl 4)) (defBody (gcl 4)) (defScope (gcl 4)) .none kVGz dcGz pmGz anGz cdGz ctGz), slGz⟩)
    (cGz_ : PySem.W.codeIn K cdGz "Group.zero" = true)
    (kGz : PySem.W.keepIn K (.ref fGz) = true)
    (aGb : PySem.W.findIn K (.ref G) "base" = some (some (.ref pGb)))
    (gGb : PySem.W.specialIn K (.ref pGb) "__get__" = some (some (.builtin "property.__get__")))
    (tGb_ : PySem.W.takesIn K (.ref pGb) = some true)
    (rGb : PySem.W.recIn K pGb "property" = some (.ref fGb :: restGb))
    (lGb : K.lookup fGb = some ⟨ocGb, odGb, .func (PySem.W.fnOf "base" "Group.base" (defArgs (gcl 5)) (defBody (gcl 5)) (defScope (gcl 5)) .none kVGb dcGb pmGb anGb cdGb ctGb), slGb⟩)
    (cGb_ : PySem.W.codeIn K cdGb "Group.base" = true)
    (kGb : PySem.W.keepIn K (.ref fGb) = true)
    (aGo : PySem.W.findIn K (.ref G) "orders" = some (some (.ref pGo)))
    (gGo : PySem.W.specialIn K (.ref pGo) "__get__" = some (some (.builtin "property.__get__")))
    (tGo_ : PySem.W.takesIn K (.ref pGo) = some true)
    (rGo : PySem.W.recIn K pGo "property" = some (.ref fGo :: restGo))
    (lGo : K.lookup fGo = some ⟨ocGo, odGo, .func (PySem.W.fnOf "orders" "Group.orders" (defArgs (gcl 6)) (defBody (gcl 6)) (defScope (gcl 6)) .none kVGo dcGo pmGo anGo cdGo ctGo), slGo⟩)
    (cGo_ : PySem.W.codeIn K cdGo "Group.orders" = true)
    (kGo : PySem.W.keepIn K (.ref fGo) = true)
    (z_isinstance : PySem.W.nsIn K mainGlobals "isinstance" = some none)
    (z_int : PySem.W.nsIn K mainGlobals "int" = some none)
    (z_bool : PySem.W.nsIn K mainGlobals "bool" = some none)
    (z_str : PySem.W.nsIn K mainGlobals "str" = some none)
    (z_tuple : PySem.W.nsIn K mainGlobals "tuple" = some none)
    (z_list : PySem.W.nsIn K mainGlobals "list" = some none)
    (z_dict : PySem.W.nsIn K mainGlobals "dict" = some none)
    (z_len : PySem.W.nsIn K mainGlobals "len" = some none)
    (z_all : PySem.W.nsIn K mainGlobals "all" = some none)
    (z_any : PySem.W.nsIn K mainGlobals "any" = some none)
    (z_sum : PySem.W.nsIn K mainGlobals "sum" = some none)
    (z_iter : PySem.W.nsIn K mainGlobals "iter" = some none)
    (z_max : PySem.W.nsIn K mainGlobals "max" = some none)
    (z_min : PySem.W.nsIn K mainGlobals "min" = some none)
    (z_abs : PySem.W.nsIn K mainGlobals "abs" = some none)
    (z_range : PySem.W.nsIn K mainGlobals "range" = some none)
    (z_repr : PySem.W.nsIn K mainGlobals "repr" = some none)
    (z_sorted : PySem.W.nsIn K mainGlobals "sorted" = some none)
    (z_enumerate : PySem.W.nsIn K mainGlobals "enumerate" = some none)
    (z_zip : PySem.W.nsIn K mainGlobals "zip" = some none)
    (v_BOUND : PySem.W.nsIn K mainGlobals "BOUND" = some (some (.int (10 ^ 60) tkBOUND)))
    (v_MAX_SIZE : PySem.W.nsIn K mainGlobals "MAX_SIZE" = some (some (.int (12) tkMAX_SIZE)))
    (v_MAX_ELEMENTS : PySem.W.nsIn K mainGlobals "MAX_ELEMENTS" = some (some (.int (256) tkMAX_ELEMENTS)))
    (aP : PySem.W.nsIn K mainGlobals "GROUP_PRIMES" = some (some (.ref tP)))
    (mP : K.lookup tP = some ⟨.type "tuple", none, .seq #[.int 2 gP1, .int 3 gP2, .int 5 gP3, .int 7 gP4] nP, slP⟩)
    : ∃ fd : FuncData, (∀ (s : Shared) (v : Value), BindsTo s fd ⟨[v], []⟩ [("_law_script", v)]) ∧ ∀ base : Heap, K.In base → base.Ns mainGlobals mg → FnG l.prog w K mg base CX0 10 fa fd ["_law_script"] (spLaw K) := by
  have e := hfa.symm.trans (PySem.W.mg_of X G0 aLa)
  cases e
  have FWh := fun_mk (st := sWhole) lWh cWh_ kWh
  have bWh := FWh.binds (ps := ["value"]) fun _ _ _ _ _ _ us hl => match us, hl with | [_], _ => rfl
  have gWh_ := PySem.W.mg_of X G0 aWh
  have FIn := fun_mk (st := sInteger) lIn cIn_ kIn
  have bIn := FIn.binds (ps := ["value"]) fun _ _ _ _ _ _ us hl => match us, hl with | [_], _ => rfl
  have gIn_ := PySem.W.mg_of X G0 aIn
  have FIw := fun_mk (st := sIsWithin) lIw cIw_ kIw
  have bIw := FIw.binds (ps := ["value", "low", "high"]) fun _ _ _ _ _ _ us hl => match us, hl with | [_, _, _], _ => rfl
  have gIw_ := PySem.W.mg_of X G0 aIw
  have FPw := fun_mk (st := sPowerOf) lPw cPw_ kPw
  have bPw := FPw.binds (ps := ["number", "many"]) fun _ _ _ _ _ _ us hl => match us, hl with | [_, _], _ => rfl
  have gPw_ := PySem.W.mg_of X G0 aPw
  have FIe := fun_mk (st := sIsEntries) lIe cIe_ kIe
  have bIe := FIe.binds (ps := ["orders", "value"]) fun _ _ _ _ _ _ us hl => match us, hl with | [_, _], _ => rfl
  have gIe_ := PySem.W.mg_of X G0 aIe
  have FFa := fun_mk (st := sFalling) lFa cFa_ kFa
  have bFa := FFa.binds (ps := ["value", "most"]) fun _ _ _ _ _ _ us hl => match us, hl with | [_, _], _ => rfl
  have gFa_ := PySem.W.mg_of X G0 aFa
  have FFt := fun_mk (st := sFTx) lFt cFt_ kFt
  have bFt := FFt.binds (ps := ["row"]) fun _ _ _ _ _ _ us hl => match us, hl with | [_], _ => rfl
  have gFt_ := PySem.W.mg_of X G0 aFt
  have FAl := fun_mk (st := sAllE) lAl cAl_ kAl
  have bAl := FAl.binds (ps := ["orders"]) fun _ _ _ _ _ _ us hl => match us, hl with | [_], _ => rfl
  have gAl_ := PySem.W.mg_of X G0 aAl
  have FBo := fun_mk (st := sBaseOf) lBo cBo_ kBo
  have bBo := FBo.binds (ps := ["orders"]) fun _ _ _ _ _ _ us hl => match us, hl with | [_], _ => rfl
  have gBo_ := PySem.W.mg_of X G0 aBo
  have FPl := fun_mk (st := sPlusE) lPl cPl_ kPl
  have bPl := FPl.binds (ps := ["orders", "one", "other"]) fun _ _ _ _ _ _ us hl => match us, hl with | [_, _, _], _ => rfl
  have gPl_ := PySem.W.mg_of X G0 aPl
  have FTi := fun_mk (st := sTimesE) lTi cTi_ kTi
  have bTi := FTi.binds (ps := ["orders", "entries", "number"]) fun _ _ _ _ _ _ us hl => match us, hl with | [_, _, _], _ => rfl
  have gTi_ := PySem.W.mg_of X G0 aTi
  have FRk := fun_mk (st := sReqKind) lRk cRk_ kRk
  have bRk := FRk.binds (ps := ["value"]) fun _ _ _ _ _ _ us hl => match us, hl with | [_], _ => rfl
  have gRk_ := PySem.W.mg_of X G0 aRk
  have FRp := fun_mk (st := sReqPrime) lRp cRp_ kRp
  have bRp := FRp.binds (ps := ["value"]) fun _ _ _ _ _ _ us hl => match us, hl with | [_], _ => rfl
  have gRp_ := PySem.W.mg_of X G0 aRp
  have FRe := fun_mk (st := sReqElem) lRe cRe_ kRe
  have bRe := FRe.binds (ps := ["group", "value"]) fun _ _ _ _ _ _ us hl => match us, hl with | [_, _], _ => rfl
  have gRe_ := PySem.W.mg_of X G0 aRe
  have FDi := fun_mk (st := sDice) lDi cDi_ kDi
  have bDi := FDi.binds (ps := ["_law_script", "_law_spot"]) fun _ _ _ _ _ _ us hl => match us, hl with | [_, _], _ => rfl
  have gDi_ := PySem.W.mg_of X G0 aDi
  have FRo := fun_mk (st := sRoll) lRo cRo_ kRo
  have bRo := FRo.binds (ps := ["_law_dice_here", "_law_total"]) fun _ _ _ _ _ _ us hl => match us, hl with | [_, _], _ => rfl
  have gRo_ := PySem.W.mg_of X G0 aRo
  have FPi := fun_mk (st := sPick) lPi cPi_ kPi
  have bPi := FPi.binds (ps := ["_law_dice_here", "_law_items"]) fun _ _ _ _ _ _ us hl => match us, hl with | [_, _], _ => rfl
  have gPi_ := PySem.W.mg_of X G0 aPi
  have FLp := fun_mk (st := sLawPower) lLp cLp_ kLp
  have bLp := FLp.binds (ps := ["_law_base", "_law_many"]) fun _ _ _ _ _ _ us hl => match us, hl with | [_, _], _ => rfl
  have gLp_ := PySem.W.mg_of X G0 aLp
  have FKs := fun_mk (st := sKinds) lKs cKs_ kKs
  have bKs := FKs.binds (ps := ["_law_size"]) fun _ _ _ _ _ _ us hl => match us, hl with | [_], _ => rfl
  have gKs_ := PySem.W.mg_of X G0 aKs
  have FKd := fun_mk (st := sKind) lKd cKd_ kKd
  have bKd := FKd.binds (ps := ["_law_dice_here", "_law_most"]) fun _ _ _ _ _ _ us hl => match us, hl with | [_, _], _ => rfl
  have gKd_ := PySem.W.mg_of X G0 aKd
  have FEl := fun_mk (st := sEls) lEl cEl_ kEl
  have bEl := FEl.binds (ps := ["_law_prime", "_law_kind_here"]) fun _ _ _ _ _ _ us hl => match us, hl with | [_, _], _ => rfl
  have gEl_ := PySem.W.mg_of X G0 aEl
  have FOf := fun_mk (st := sOften) lOf cOf_ kOf
  have bOf := FOf.binds (ps := ["_law_prime", "_law_kind_here", "_law_one", "_law_many"]) fun _ _ _ _ _ _ us hl => match us, hl with | [_, _, _, _], _ => rfl
  have gOf_ := PySem.W.mg_of X G0 aOf
  have FSu := fun_mk (st := sSumIn) lSu cSu_ kSu
  have bSu := FSu.binds (ps := ["_law_prime", "_law_kind_here", "_law_one", "_law_other"]) fun _ _ _ _ _ _ us hl => match us, hl with | [_, _, _, _], _ => rfl
  have gSu_ := PySem.W.mg_of X G0 aSu
  have FRm := fun_mk (st := sRoom) lRm cRm_ kRm
  have bRm := FRm.binds (ps := ["_law_prime", "_law_most"]) fun _ _ _ _ _ _ us hl => match us, hl with | [_, _], _ => rfl
  have gRm_ := PySem.W.mg_of X G0 aRm
  have FTa := fun_mk (st := sTall) lTa cTa_ kTa
  have bTa := FTa.binds (ps := ["_law_dice_here", "_law_most"]) fun _ _ _ _ _ _ us hl => match us, hl with | [_, _], _ => rfl
  have gTa_ := PySem.W.mg_of X G0 aTa
  have FSt := fun_mk (st := sStrange) lSt cSt_ kSt
  have bSt := FSt.binds (ps := ["_law_dice_here", "_law_kind_here"]) fun _ _ _ _ _ _ us hl => match us, hl with | [_, _], _ => rfl
  have gSt_ := PySem.W.mg_of X G0 aSt
  have FTo := fun_mk (st := sTold) lTo cTo_ kTo
  have bTo := FTo.binds (ps := ["_law_group", "_law_prime", "_law_kind_here"]) fun _ _ _ _ _ _ us hl => match us, hl with | [_, _, _], _ => rfl
  have gTo_ := PySem.W.mg_of X G0 aTo
  have FSm := fun_mk (st := sSums) lSm cSm_ kSm
  have bSm := FSm.binds (ps := ["_law_dice_here", "_law_group", "_law_prime", "_law_kind_here"]) fun _ _ _ _ _ _ us hl => match us, hl with | [_, _, _, _], _ => rfl
  have gSm_ := PySem.W.mg_of X G0 aSm
  have FRg := fun_mk (st := sRightK) lRg cRg_ kRg
  have bRg := FRg.binds (ps := ["_law_dice_here"]) fun _ _ _ _ _ _ us hl => match us, hl with | [_], _ => rfl
  have gRg_ := PySem.W.mg_of X G0 aRg
  have FLa := fun_mk (st := sLaw) lLa cLa_ kLa
  have FPn := fun_mk (st := cls 2) lPn cPn_ kPn
  have bPn := FPn.binds (ps := ["self"]) fun _ _ _ _ _ _ us hl => match us, hl with | [_], _ => rfl
  have FPs := fun_mk (st := cls 3) lPs cPs_ kPs
  have bPs := FPs.binds (ps := ["self"]) fun _ _ _ _ _ _ us hl => match us, hl with | [_], _ => rfl
  have FKe := fun_mk (st := cls 19) lKe cKe_ kKe
  have bKe := FKe.binds (ps := ["self", "other"]) fun _ _ _ _ _ _ us hl => match us, hl with | [_, _], _ => rfl
  have MKe : Meth K C "__eq__" fKe := ⟨aKe, iKe, kKe⟩
  have FKt := fun_mk (st := cls 21) lKt cKt_ kKt
  have bKt := FKt.binds (ps := ["self"]) fun _ _ _ _ _ _ us hl => match us, hl with | [_], _ => rfl
  have MKt : Meth K C "__str__" fKt := ⟨aKt, iKt, kKt⟩
  have FI1 := fun_mk (st := gcl 0) lI1 cI1_ kI1
  have bI1 := FI1.binds (ps := ["self", "prime", "kind"]) fun _ _ _ _ _ _ us hl => match us, hl with | [_, _, _], _ => rfl
  have MI1 : Meth K G "__init__" fI1 := ⟨aI1, iI1, kI1⟩
  have FMe := fun_mk (st := gcl 7) lMe cMe_ kMe
  have bMe := FMe.binds (ps := ["self"]) fun _ _ _ _ _ _ us hl => match us, hl with | [_], _ => rfl
  have MMe : Meth K G "members" fMe := ⟨aMe, iMe, kMe⟩
  have FGu := fun_mk (st := gcl 8) lGu cGu_ kGu
  have bGu := FGu.binds (ps := ["self", "element", "other"]) fun _ _ _ _ _ _ us hl => match us, hl with | [_, _, _], _ => rfl
  have MGu : Meth K G "plus" fGu := ⟨aGu, iGu, kGu⟩
  have FGt := fun_mk (st := gcl 9) lGt cGt_ kGt
  have bGt := FGt.binds (ps := ["self", "element", "number"]) fun _ _ _ _ _ _ us hl => match us, hl with | [_, _, _], _ => rfl
  have MGt : Meth K G "times" fGt := ⟨aGt, iGt, kGt⟩
  have FCo := fun_mk (st := gcl 13) lCo cCo_ kCo
  have bCo := FCo.binds (ps := ["self", "value"]) fun _ _ _ _ _ _ us hl => match us, hl with | [_, _], _ => rfl
  have MCo : Meth K G "__contains__" fCo := ⟨aCo, iCo, kCo⟩
  have FGq := fun_mk (st := gcl 14) lGq cGq_ kGq
  have bGq := FGq.binds (ps := ["self", "other"]) fun _ _ _ _ _ _ us hl => match us, hl with | [_, _], _ => rfl
  have MGq : Meth K G "__eq__" fGq := ⟨aGq, iGq, kGq⟩
  have FGl_ := fun_mk (st := gcl 15) lGl_ cGl__ kGl_
  have bGl_ := FGl_.binds (ps := ["self"]) fun _ _ _ _ _ _ us hl => match us, hl with | [_], _ => rfl
  have MGl_ : Meth K G "__len__" fGl_ := ⟨aGl_, iGl_, kGl_⟩
  have FGs := fun_mk (st := gcl 16) lGs cGs_ kGs
  have bGs := FGs.binds (ps := ["self"]) fun _ _ _ _ _ _ us hl => match us, hl with | [_], _ => rfl
  have MGs : Meth K G "__str__" fGs := ⟨aGs, iGs, kGs⟩
  have FGp := fun_mk (st := gcl 1) lGp cGp_ kGp
  have bGp := FGp.binds (ps := ["self"]) fun _ _ _ _ _ _ us hl => match us, hl with | [_], _ => rfl
  have FGk := fun_mk (st := gcl 2) lGk cGk_ kGk
  have bGk := FGk.binds (ps := ["self"]) fun _ _ _ _ _ _ us hl => match us, hl with | [_], _ => rfl
  have FGi := fun_mk (st := gcl 3) lGi cGi_ kGi
  have bGi := FGi.binds (ps := ["self"]) fun _ _ _ _ _ _ us hl => match us, hl with | [_], _ => rfl
  have FGz := fun_mk (st := gcl 4) lGz cGz_ kGz
  have bGz := FGz.binds (ps := ["self"]) fun _ _ _ _ _ _ us hl => match us, hl with | [_], _ => rfl
  have FGb := fun_mk (st := gcl 5) lGb cGb_ kGb
  have bGb := FGb.binds (ps := ["self"]) fun _ _ _ _ _ _ us hl => match us, hl with | [_], _ => rfl
  have FGo := fun_mk (st := gcl 6) lGo cGo_ kGo
  have bGo := FGo.binds (ps := ["self"]) fun _ _ _ _ _ _ us hl => match us, hl with | [_], _ => rfl
  have Zisinstance := PySem.W.mg_none_of X G0 z_isinstance
  have Zint := PySem.W.mg_none_of X G0 z_int
  have Zbool := PySem.W.mg_none_of X G0 z_bool
  have Zstr := PySem.W.mg_none_of X G0 z_str
  have Ztuple := PySem.W.mg_none_of X G0 z_tuple
  have Zlist := PySem.W.mg_none_of X G0 z_list
  have Zdict := PySem.W.mg_none_of X G0 z_dict
  have Zlen := PySem.W.mg_none_of X G0 z_len
  have Zall := PySem.W.mg_none_of X G0 z_all
  have Zany := PySem.W.mg_none_of X G0 z_any
  have Zsum := PySem.W.mg_none_of X G0 z_sum
  have Ziter := PySem.W.mg_none_of X G0 z_iter
  have Zmax := PySem.W.mg_none_of X G0 z_max
  have Zmin := PySem.W.mg_none_of X G0 z_min
  have Zabs := PySem.W.mg_none_of X G0 z_abs
  have Zrange := PySem.W.mg_none_of X G0 z_range
  have Zrepr := PySem.W.mg_none_of X G0 z_repr
  have Zsorted := PySem.W.mg_none_of X G0 z_sorted
  have Zenumerate := PySem.W.mg_none_of X G0 z_enumerate
  have Zzip := PySem.W.mg_none_of X G0 z_zip
  have VBOUND : ∃ t, mg "BOUND" = some (.int (10 ^ 60) t) := ⟨tkBOUND, PySem.W.mg_of X G0 v_BOUND⟩
  have VMAX_SIZE : ∃ t, mg "MAX_SIZE" = some (.int (12) t) := ⟨tkMAX_SIZE, PySem.W.mg_of X G0 v_MAX_SIZE⟩
  have VMAX_ELEMENTS : ∃ t, mg "MAX_ELEMENTS" = some (.int (256) t) := ⟨tkMAX_ELEMENTS, PySem.W.mg_of X G0 v_MAX_ELEMENTS⟩
  refine ⟨PySem.W.fnOf "law" "law" (defArgs sLaw) (defBody sLaw) (defScope sLaw) .none kVLa dcLa pmLa anLa cdLa ctLa, fun s v => .of_eq rfl, fun base _ _ => ?_⟩
  have T : Txt K mg := ⟨Zisinstance, Zint, Zbool, Zstr, Ztuple, Zlist, Zdict, Zlen, Zall, Zany, Zsum, Ziter, Zmax, Zmin, Zabs, Zrange, Zrepr, Zsorted, Zenumerate, Zzip, VBOUND⟩
  have Cl : KC K mg C := { cl := ⟨pgC, hdC, poC, saC⟩, noN := no0C, noP := no1C, g := PySem.W.mg_of X G0 aC, kp := kcC, ha := haC, hn := hn, htk := htk, hm := hmC, kit := kit_self, ne := ⟨neC, hmC⟩, most := VMAX_SIZE }
  have Gl : GC K mg G tP := { cl := ⟨pgG, hdG, poG, saG⟩, nP := no0G, nK := no1G, nO := no2G, nL := no3G, g := PySem.W.mg_of X G0 aG, most := VMAX_ELEMENTS, gP := PySem.W.mg_of X G0 aP, prs := fun H => .inr ⟨_, #[.int 2 gP1, .int 3 gP2, .int 5 gP3, .int 7 gP4], nP, mP, rfl, rfl, by show 4 ≤ sizeLine; decide, .cons ⟨gP1, rfl⟩ (.cons ⟨gP2, rfl⟩ (.cons ⟨gP3, rfl⟩ (.cons ⟨gP4, rfl⟩ .nil)))⟩ }
  have FI : FnI K tI0 fI0 (PySem.W.fnOf "__init__" "Kind.__init__" (defArgs (cls 0)) (defBody (cls 0)) (defScope (cls 0)) (.ref TI0) kVI0 dcI0 pmI0 anI0 cdI0 ctI0) := ⟨⟨ocI0, odI0, .ref TI0, kVI0, dcI0, pmI0, anI0, cdI0, ctI0, slI0, rfl, lI0, cI0_, .inr ⟨by simp, TI0, _, [.ref tI0], o3I0, rfl, LI0, rfl, .cons rfl .nil⟩, .inl rfl⟩, kI0⟩
  obtain ⟨ds, hds, b0⟩ : ∃ ds, Vals ([V.ref tI0].drop 0) ds ∧ Binds K (PySem.W.fnOf "__init__" "Kind.__init__" (defArgs (cls 0)) (defBody (cls 0)) (defScope (cls 0)) (.ref TI0) kVI0 dcI0 pmI0 anI0 cdI0 ctI0) ["self", "numbers"] ds := FI.binds1 1 0 (by simp) rfl fun T kV doc pm an cdv ct us its h1 h2 => match us, its, h1, h2 with | [_], [_], _, _ => ⟨_, rfl, rfl⟩
  have bI : Binds K (PySem.W.fnOf "__init__" "Kind.__init__" (defArgs (cls 0)) (defBody (cls 0)) (defScope (cls 0)) (.ref TI0) kVI0 dcI0 pmI0 anI0 cdI0 ctI0) ["self", "numbers"] [] := by
    obtain ⟨ds, h1, h2⟩ : ∃ ds, Vals ([V.ref tI0].drop 1) ds ∧ Binds K (PySem.W.fnOf "__init__" "Kind.__init__" (defArgs (cls 0)) (defBody (cls 0)) (defScope (cls 0)) (.ref TI0) kVI0 dcI0 pmI0 anI0 cdI0 ctI0) ["self", "numbers"] ds := FI.binds1 2 1 (by simp) rfl fun T kV doc pm an cdv ct us its h1 h2 => match us, its, h1, h2 with | [_, _], [_], _, _ => ⟨_, rfl, rfl⟩
    cases h1
    exact h2
  have AW : AtW K mg fWh _ := ⟨FWh, bWh, gWh_⟩
  have AI : AtI K mg fIn _ := ⟨FIn, bIn, gIn_⟩
  have AR : AtR K mg fRo _ := ⟨FRo, bRo, gRo_⟩
  have DWh : Def1 l.prog w K mg base CX0 1 "is_whole" ["value"] (spWhole K) := ⟨_, _, gWh_, kWh, ok_whole FWh T, bWh⟩
  have DIn : Def1 l.prog w K mg base CX0 2 "is_integer" ["value"] (spInteger K) := ⟨_, _, gIn_, kIn, ok_integer FIn T AW, bIn⟩
  have DIw : Def1 l.prog w K mg base CX0 3 "is_within" ["value", "low", "high"] (spIsWithin K) := ⟨_, _, gIw_, kIw, ok_isWithin FIw T AW AI, bIw⟩
  have DPw : Def1 l.prog w K mg base CX0 1 "power_of" ["number", "many"] (spPowerOf K) := ⟨_, _, gPw_, kPw, ok_powerOf FPw T, bPw⟩
  have DIe : Def1 l.prog w K mg base CX0 2 "is_entries" ["orders", "value"] (spIsEnt K) := ⟨_, _, gIe_, kIe, ok_isEnt FIe T DWh, bIe⟩
  have DFa : Def1 l.prog w K mg base CX0 4 "is_falling" ["value", "most"] (spFalling K) := ⟨_, _, gFa_, kFa, ok_falling FFa T DIw, bFa⟩
  have DFt : Def1 l.prog w K mg base CX0 1 "falling_text" ["row"] (spFTx K) := ⟨_, _, gFt_, kFt, ok_fTx FFt T, bFt⟩
  have DIs : Def1 l.prog w K mg base CX0 2 "is_entries" ["orders", "value"] (spIsEntries K) := ⟨_, _, gIe_, kIe, ok_isEntries FIe T DWh, bIe⟩
  have DAl : Def1 l.prog w K mg base CX0 1 "all_entries" ["orders"] (spAllE K) := ⟨_, _, gAl_, kAl, ok_allE FAl T, bAl⟩
  have DBo : Def1 l.prog w K mg base CX0 1 "base_of" ["orders"] (spBaseOf K) := ⟨_, _, gBo_, kBo, ok_baseOf FBo T, bBo⟩
  have DPl : Def1 l.prog w K mg base CX0 1 "plus_entries" ["orders", "one", "other"] (spPlusE K) := ⟨_, _, gPl_, kPl, ok_plusE FPl T, bPl⟩
  have DTi : Def1 l.prog w K mg base CX0 1 "times_entries" ["orders", "entries", "number"] (spTimesE K) := ⟨_, _, gTi_, kTi, ok_timesE FTi T, bTi⟩
  have DRk : Def1 l.prog w K mg base CX0 1 "require_kind" ["value"] (spReqKind K C) := ⟨_, _, gRk_, kRk, ok_reqKind FRk T Cl, bRk⟩
  have DRp : Def1 l.prog w K mg base CX0 3 "require_group_prime" ["value"] (spReqPrime) := ⟨_, _, gRp_, kRp, ok_reqPrime FRp Gl DIn, bRp⟩
  have GI := ok_init (P := l.prog) (w := w) (base := base) FI T Cl DFa
  have Ini : Ini1 l.prog w K mg base CX0 5 C tI0 ["self", "numbers"] (spInit K C) := ⟨_, _, ds, ⟨mkC, aI0, iI0, kcC⟩, GI, bI, hds, b0⟩
  have Qn : Pro1 l.prog w K mg base 1 C "numbers" (spGet K C fun n _ => .ref n) := ⟨_, _, _, ⟨aPn, gPn, tPn_, _, rPn⟩, ok_numbers FPn Cl, bPn⟩
  have Qs : Pro1 l.prog w K mg base 1 C "size" (spGet K C fun _ ns => .int ns.sum) := ⟨_, _, _, ⟨aPs, gPs, tPs_, _, rPs⟩, ok_size FPs T Cl, bPs⟩
  have Co : Met1 l.prog w K mg base CX0 3 G "__contains__" ["self", "value"] (spGCo K C G) := ⟨_, _, MCo, jCo, ok_gcont FCo Gl DIs, bCo⟩
  have DRe : Def1 l.prog w K mg base CX0 5 "require_element" ["group", "value"] (spReqElem K C G) := ⟨_, _, gRe_, kRe, ok_reqElem FRe Co, bRe⟩
  have Gx : GCx K G := { ha := haG, hn := hn, htk := htk, hm := hmG, kit := kit_self, ne := ⟨neG, hmG⟩ }
  have Gn : GNx K C G := { nK := notFirst_sub sCG, nT := notFirst_sub stupleG, nS := notFirst_sub sstrG, kK := kit_own neqCG ciG ctG sCG, kT := kit_not ciG ctG stupleG, kS := kit_not ciG ctG sstrG }
  have GKs : FnOk l.prog w K mg base CX0 2 fKt _ ["self"] (spKSt K C) := ok_kstr FKt T Cl DFt
  have A : ApiH l.prog w K mg base C tI0 G tP := {
    ini := Ini
    gini := ⟨_, _, ⟨mkG, aI1, iI1, kcG⟩, ok_ginit FI1 T Cl Gl DRp DRk DPw Qn Qs, bI1⟩
    keq := ⟨_, _, MKe, jKe, ok_keq FKe T Cl, bKe⟩
    prime := ⟨_, _, _, ⟨aGp, gGp, tGp_, _, rGp⟩, ok_gprime FGp Gl, bGp⟩
    kind := ⟨_, _, _, ⟨aGk, gGk, tGk_, _, rGk⟩, ok_gkind FGk Gl, bGk⟩
    size := ⟨_, _, _, ⟨aGi, gGi, tGi_, _, rGi⟩, ok_gsize FGi Cl Gl DPw Qs, bGi⟩
    zero := ⟨_, _, _, ⟨aGz, gGz, tGz_, _, rGz⟩, ok_gzero FGz T Gl, bGz⟩
    bas := ⟨_, _, _, ⟨aGb, gGb, tGb_, _, rGb⟩, ok_gbase FGb Gl DBo, bGb⟩
    orders := ⟨_, _, _, ⟨aGo, gGo, tGo_, _, rGo⟩, ok_gorders FGo Gl, bGo⟩
    mem := ⟨_, _, MMe, ok_gmem FMe Gl DAl, bMe⟩
    plus := ⟨_, _, MGu, jGu, ok_gplus FGu Gl DRe DPl, bGu⟩
    times := ⟨_, _, MGt, jGt, ok_gtimes FGt Gl DIn DRe DTi, bGt⟩
    cont := ⟨_, _, MCo, jCo, ok_gcontB FCo Gl DIe, bCo⟩
    eq := ⟨_, _, MGq, jGq, ok_geq FGq T Gl Gx, bGq⟩
    len := ⟨_, _, MGl_, jGl_, ok_glen FGl_ T Gl, bGl_⟩
    str := ⟨_, _, MGs, jGs, ok_gstr FGs Gl MKt fmC hmC GKs bKt, bGs⟩ }
  have h0 : ∀ H, TupX K H tI0 [] := fun H => .inr ⟨_, #[], _, mI0, rfl, rfl, rfl, Nat.zero_le _, .nil⟩
  have DRo : Def1 l.prog w K mg base CX0 1 "_law_roll" ["_law_dice_here", "_law_total"] (spRoll) := ⟨_, _, gRo_, kRo, ok_roll FRo T, bRo⟩
  have DPi : Def1 l.prog w K mg base CX0 2 "_law_pick" ["_law_dice_here", "_law_items"] (spPickS K) := ⟨_, _, gPi_, kPi, ok_pickS FPi T AR, bPi⟩
  have DPj : Def1 l.prog w K mg base CX0 2 "_law_pick" ["_law_dice_here", "_law_items"] (spPick K) := ⟨_, _, gPi_, kPi, ok_pickL FPi T AR, bPi⟩
  have DDi : Def1 l.prog w K mg base CX0 1 "_law_dice" ["_law_script", "_law_spot"] (spDice K) := ⟨_, _, gDi_, kDi, ok_dice FDi T, bDi⟩
  have DLp : Def1 l.prog w K mg base CX0 1 "_law_power" ["_law_base", "_law_many"] (spPowerOf K) := ⟨_, _, gLp_, kLp, ok_lawPower FLp T, bLp⟩
  have DKs : Def1 l.prog w K mg base CX0 1 "_law_kinds" ["_law_size"] (spKinds K) := ⟨_, _, gKs_, kKs, ok_kinds FKs T, bKs⟩
  have DKd : Def1 l.prog w K mg base CX0 3 "_law_kind" ["_law_dice_here", "_law_most"] (spKind K) := ⟨_, _, gKd_, kKd, ok_kind FKd DRo DKs DPj, bKd⟩
  have DEl : Def1 l.prog w K mg base CX0 2 "_law_elements" ["_law_prime", "_law_kind_here"] (spEls K) := ⟨_, _, gEl_, kEl, ok_els FEl T DLp, bEl⟩
  have DOf : Def1 l.prog w K mg base CX0 2 "_law_often" ["_law_prime", "_law_kind_here", "_law_one", "_law_many"] (spOftenZ K) := ⟨_, _, gOf_, kOf, ok_oftenZ FOf T DLp, bOf⟩
  have DSu : Def1 l.prog w K mg base CX0 2 "_law_sum_in" ["_law_prime", "_law_kind_here", "_law_one", "_law_other"] (spSumIn K) := ⟨_, _, gSu_, kSu, ok_sumIn FSu T DLp, bSu⟩
  have DRm : Def1 l.prog w K mg base CX0 2 "_law_room_kinds" ["_law_prime", "_law_most"] (spRoom K) := ⟨_, _, gRm_, kRm, ok_room FRm DKs, bRm⟩
  have DTa : Def1 l.prog w K mg base CX0 4 "_law_tall_group" ["_law_dice_here", "_law_most"] (spTall K) := ⟨_, _, gTa_, kTa, ok_tall FTa DPi DKd, bTa⟩
  have DSt : Def1 l.prog w K mg base CX0 3 "_law_strange" ["_law_dice_here", "_law_kind_here"] (spStrange K) := ⟨_, _, gSt_, kSt, ok_strange FSt T DPi, bSt⟩
  have DTo : Def1 l.prog w K mg base CX0 8 "_law_told_right" ["_law_group", "_law_prime", "_law_kind_here"] (spTold K C G) := ⟨_, _, gTo_, kTo, ok_told FTo T Cl Gl A DEl DLp, bTo⟩
  have DSm : Def1 l.prog w K mg base CX0 8 "_law_sums_right" ["_law_dice_here", "_law_group", "_law_prime", "_law_kind_here"] (spSums K C G) := ⟨_, _, gSm_, kSm, ok_sums FSm Gl T A DEl DPi DRo DSu DOf DSt, bSm⟩
  have DRg : Def1 l.prog w K mg base CX0 9 "_law_right" ["_law_dice_here"] (spRightK) := ⟨_, _, gRg_, kRg, ok_rightK FRg T Cl Gl Gx Gn A DTa DTo DSm DPi DRm, bRg⟩
  have L := ok_law (P := l.prog) (w := w) (base := base) FLa T Cl Gl A h0 DDi DRg
  exact ⟨L.len, fun A out s H ar us vs Q E _ hr he hb hv hs => L.run A out s H ar us vs Q E hr he hb hv hs⟩
end Q0

set_option Elab.async false
set_option maxRecDepth 100000
open PySem PySem.W PyProof.Rows in
set_option maxRecDepth 100000 in
set_option maxHeartbeats 0 in
theorem PySem.Challenge.cw_primekinds_k11_groups_and_their_members_holds : PySem.Challenge.rw_primekinds_k11_groups_and_their_members.Holds := by
  w_on; o_law; k_head; (case hw => w_witness2)
  k_fill
  refine Gd.walkG (n := 63) (k := 10) (x := "_law_script") (CX := fun _ => L2.CX0) (l := PySem.Challenge.rw_primekinds_k11_groups_and_their_members) (sp := fun w => Q0.spLaw _) rfl (by decide) rfl ⟨rfl, by decide, by decide⟩ (fun w h Y => PySem.W.kIn_of Y) ?F
    (fun _ _ a ns hl _ hS => ⟨a, ns, rfl, hS, hl, fun _ => rfl⟩) (fun _ _ _ _ _ z => z)
  case F =>
    intro w mg fa h KX G hmg
    refine' Q0.all_mk KX G hmg ?aWh ?lWh ?cWh_ ?kWh ?aIn ?lIn ?cIn_ ?kIn ?aIw ?lIw ?cIw_ ?kIw ?aPw ?lPw ?cPw_ ?kPw ?aIe ?lIe ?cIe_ ?kIe ?aFa ?lFa ?cFa_ ?kFa ?aFt ?lFt ?cFt_ ?kFt ?aAl ?lAl ?cAl_ ?kAl ?aBo ?lBo ?cBo_ ?kBo ?aPl ?lPl ?cPl_ ?kPl ?aTi ?lTi ?cTi_ ?kTi ?aRk ?lRk ?cRk_ ?kRk ?aRp ?lRp ?cRp_ ?kRp ?aRe ?lRe ?cRe_ ?kRe ?aDi ?lDi ?cDi_ ?kDi ?aRo ?lRo ?cRo_ ?kRo ?aPi ?lPi ?cPi_ ?kPi ?aLp ?lLp ?cLp_ ?kLp ?aKs ?lKs ?cKs_ ?kKs ?aKd ?lKd ?cKd_ ?kKd ?aEl ?lEl ?cEl_ ?kEl ?aOf ?lOf ?cOf_ ?kOf ?aSu ?lSu ?cSu_ ?kSu ?aRm ?lRm ?cRm_ ?kRm ?aTa ?lTa ?cTa_ ?kTa ?aSt ?lSt ?cSt_ ?kSt ?aTo ?lTo ?cTo_ ?kTo ?aSm ?lSm ?cSm_ ?kSm ?aRg ?lRg ?cRg_ ?kRg ?aLa ?lLa ?cLa_ ?kLa ?aC ?pgC ?hdC ?poC ?saC ?mkC ?kcC ?haC ?hmC ?ciC ?ctC ?neC ?sfC ?no0C ?no1C ?hn ?htk ?aI0 ?lI0 ?cI0_ ?kI0 ?iI0 ?LI0 ?mI0 ?aPn ?gPn ?tPn_ ?rPn ?lPn ?cPn_ ?kPn ?aPs ?gPs ?tPs_ ?rPs ?lPs ?cPs_ ?kPs ?aKe ?lKe ?cKe_ ?kKe ?iKe ?jKe ?aKt ?lKt ?cKt_ ?kKt ?iKt ?jKt ?fmC ?aG ?pgG ?hdG ?poG ?saG ?mkG ?kcG ?haG ?hmG ?ciG ?ctG ?neG ?stupleG ?sstrG ?no0G ?no1G ?no2G ?no3G ?sCG ?neqCG ?aI1 ?lI1 ?cI1_ ?kI1 ?iI1 ?jI1 ?aMe ?lMe ?cMe_ ?kMe ?iMe ?jMe ?aGu ?lGu ?cGu_ ?kGu ?iGu ?jGu ?aGt ?lGt ?cGt_ ?kGt ?iGt ?jGt ?aCo ?lCo ?cCo_ ?kCo ?iCo ?jCo ?aGq ?lGq ?cGq_ ?kGq ?iGq ?jGq ?aGl_ ?lGl_ ?cGl__ ?kGl_ ?iGl_ ?jGl_ ?aGs ?lGs ?cGs_ ?kGs ?iGs ?jGs ?aGp ?gGp ?tGp_ ?rGp ?lGp ?cGp_ ?kGp ?aGk ?gGk ?tGk_ ?rGk ?lGk ?cGk_ ?kGk ?aGi ?gGi ?tGi_ ?rGi ?lGi ?cGi_ ?kGi ?aGz ?gGz ?tGz_ ?rGz ?lGz ?cGz_ ?kGz ?aGb ?gGb ?tGb_ ?rGb ?lGb ?cGb_ ?kGb ?aGo ?gGo ?tGo_ ?rGo ?lGo ?cGo_ ?kGo ?z_isinstance ?z_int ?z_bool ?z_str ?z_tuple ?z_list ?z_dict ?z_len ?z_all ?z_any ?z_sum ?z_iter ?z_max ?z_min ?z_abs ?z_range ?z_repr ?z_sorted ?z_enumerate ?z_zip ?v_BOUND ?v_MAX_SIZE ?v_MAX_ELEMENTS ?aP ?mP
    (case aWh => k_is)
    (case lWh => k_is)
    (case cWh_ => k_is)
    (case kWh => k_is)
    (case aIn => k_is)
    (case lIn => k_is)
    (case cIn_ => k_is)
    (case kIn => k_is)
    (case aIw => k_is)
    (case lIw => k_is)
    (case cIw_ => k_is)
    (case kIw => k_is)
    (case aPw => k_is)
    (case lPw => k_is)
    (case cPw_ => k_is)
    (case kPw => k_is)
    (case aIe => k_is)
    (case lIe => k_is)
    (case cIe_ => k_is)
    (case kIe => k_is)
    (case aFa => k_is)
    (case lFa => k_is)
    (case cFa_ => k_is)
    (case kFa => k_is)
    (case aFt => k_is)
    (case lFt => k_is)
    (case cFt_ => k_is)
    (case kFt => k_is)
    (case aAl => k_is)
    (case lAl => k_is)
    (case cAl_ => k_is)
    (case kAl => k_is)
    (case aBo => k_is)
    (case lBo => k_is)
    (case cBo_ => k_is)
    (case kBo => k_is)
    (case aPl => k_is)
    (case lPl => k_is)
    (case cPl_ => k_is)
    (case kPl => k_is)
    (case aTi => k_is)
    (case lTi => k_is)
    (case cTi_ => k_is)
    (case kTi => k_is)
    (case aRk => k_is)
    (case lRk => k_is)
    (case cRk_ => k_is)
    (case kRk => k_is)
    (case aRp => k_is)
    (case lRp => k_is)
    (case cRp_ => k_is)
    (case kRp => k_is)
    (case aRe => k_is)
    (case lRe => k_is)
    (case cRe_ => k_is)
    (case kRe => k_is)
    (case aDi => k_is)
    (case lDi => k_is)
    (case cDi_ => k_is)
    (case kDi => k_is)
    (case aRo => k_is)
    (case lRo => k_is)
    (case cRo_ => k_is)
    (case kRo => k_is)
    (case aPi => k_is)
    (case lPi => k_is)
    (case cPi_ => k_is)
    (case kPi => k_is)
    (case aLp => k_is)
    (case lLp => k_is)
    (case cLp_ => k_is)
    (case kLp => k_is)
    (case aKs => k_is)
    (case lKs => k_is)
    (case cKs_ => k_is)
    (case kKs => k_is)
    (case aKd => k_is)
    (case lKd => k_is)
    (case cKd_ => k_is)
    (case kKd => k_is)
    (case aEl => k_is)
    (case lEl => k_is)
    (case cEl_ => k_is)
    (case kEl => k_is)
    (case aOf => k_is)
    (case lOf => k_is)
    (case cOf_ => k_is)
    (case kOf => k_is)
    (case aSu => k_is)
    (case lSu => k_is)
    (case cSu_ => k_is)
    (case kSu => k_is)
    (case aRm => k_is)
    (case lRm => k_is)
    (case cRm_ => k_is)
    (case kRm => k_is)
    (case aTa => k_is)
    (case lTa => k_is)
    (case cTa_ => k_is)
    (case kTa => k_is)
    (case aSt => k_is)
    (case lSt => k_is)
    (case cSt_ => k_is)
    (case kSt => k_is)
    (case aTo => k_is)
    (case lTo => k_is)
    (case cTo_ => k_is)
    (case kTo => k_is)
    (case aSm => k_is)
    (case lSm => k_is)
    (case cSm_ => k_is)
    (case kSm => k_is)
    (case aRg => k_is)
    (case lRg => k_is)
    (case cRg_ => k_is)
    (case kRg => k_is)
    (case aLa => k_is)
    (case lLa => k_is)
    (case cLa_ => k_is)
    (case kLa => k_is)
    (case aC => k_is)
    (case pgC => k_is)
    (case hdC => k_is)
    (case poC => k_is)
    (case saC => k_is)
    (case mkC => k_is)
    (case kcC => k_is)
    (case haC => k_is)
    (case hmC => k_is)
    (case ciC => k_is)
    (case ctC => k_is)
    (case neC => k_is)
    (case sfC => k_is)
    (case no0C => k_is)
    (case no1C => k_is)
    (case hn => k_is)
    (case htk => k_is)
    (case aI0 => k_is)
    (case lI0 => k_is)
    (case cI0_ => k_is)
    (case kI0 => k_is)
    (case iI0 => k_is)
    (case LI0 => k_is)
    (case mI0 => k_is)
    (case aPn => k_is)
    (case gPn => k_is)
    (case tPn_ => k_is)
    (case rPn => k_is)
    (case lPn => k_is)
    (case cPn_ => k_is)
    (case kPn => k_is)
    (case aPs => k_is)
    (case gPs => k_is)
    (case tPs_ => k_is)
    (case rPs => k_is)
    (case lPs => k_is)
    (case cPs_ => k_is)
    (case kPs => k_is)
    (case aKe => k_is)
    (case lKe => k_is)
    (case cKe_ => k_is)
    (case kKe => k_is)
    (case iKe => k_is)
    (case jKe => k_is)
    (case aKt => k_is)
    (case lKt => k_is)
    (case cKt_ => k_is)
    (case kKt => k_is)
    (case iKt => k_is)
    (case jKt => k_is)
    (case fmC => k_is)
    (case aG => k_is)
    (case pgG => k_is)
    (case hdG => k_is)
    (case poG => k_is)
    (case saG => k_is)
    (case mkG => k_is)
    (case kcG => k_is)
    (case haG => k_is)
    (case hmG => k_is)
    (case ciG => k_is)
    (case ctG => k_is)
    (case neG => k_is)
    (case stupleG => k_is)
    (case sstrG => k_is)
    (case no0G => k_is)
    (case no1G => k_is)
    (case no2G => k_is)
    (case no3G => k_is)
    (case sCG => k_is)
    (case neqCG => decide)
    (case aI1 => k_is)
    (case lI1 => k_is)
    (case cI1_ => k_is)
    (case kI1 => k_is)
    (case iI1 => k_is)
    (case jI1 => k_is)
    (case aMe => k_is)
    (case lMe => k_is)
    (case cMe_ => k_is)
    (case kMe => k_is)
    (case iMe => k_is)
    (case jMe => k_is)
    (case aGu => k_is)
    (case lGu => k_is)
    (case cGu_ => k_is)
    (case kGu => k_is)
    (case iGu => k_is)
    (case jGu => k_is)
    (case aGt => k_is)
    (case lGt => k_is)
    (case cGt_ => k_is)
    (case kGt => k_is)
    (case iGt => k_is)
    (case jGt => k_is)
    (case aCo => k_is)
    (case lCo => k_is)
    (case cCo_ => k_is)
    (case kCo => k_is)
    (case iCo => k_is)
    (case jCo => k_is)
    (case aGq => k_is)
    (case lGq => k_is)
    (case cGq_ => k_is)
    (case kGq => k_is)
    (case iGq => k_is)
    (case jGq => k_is)
    (case aGl_ => k_is)
    (case lGl_ => k_is)
    (case cGl__ => k_is)
    (case kGl_ => k_is)
    (case iGl_ => k_is)
    (case jGl_ => k_is)
    (case aGs => k_is)
    (case lGs => k_is)
    (case cGs_ => k_is)
    (case kGs => k_is)
    (case iGs => k_is)
    (case jGs => k_is)
    (case aGp => k_is)
    (case gGp => k_is)
    (case tGp_ => k_is)
    (case rGp => k_is)
    (case lGp => k_is)
    (case cGp_ => k_is)
    (case kGp => k_is)
    (case aGk => k_is)
    (case gGk => k_is)
    (case tGk_ => k_is)
    (case rGk => k_is)
    (case lGk => k_is)
    (case cGk_ => k_is)
    (case kGk => k_is)
    (case aGi => k_is)
    (case gGi => k_is)
    (case tGi_ => k_is)
    (case rGi => k_is)
    (case lGi => k_is)
    (case cGi_ => k_is)
    (case kGi => k_is)
    (case aGz => k_is)
    (case gGz => k_is)
    (case tGz_ => k_is)
    (case rGz => k_is)
    (case lGz => k_is)
    (case cGz_ => k_is)
    (case kGz => k_is)
    (case aGb => k_is)
    (case gGb => k_is)
    (case tGb_ => k_is)
    (case rGb => k_is)
    (case lGb => k_is)
    (case cGb_ => k_is)
    (case kGb => k_is)
    (case aGo => k_is)
    (case gGo => k_is)
    (case tGo_ => k_is)
    (case rGo => k_is)
    (case lGo => k_is)
    (case cGo_ => k_is)
    (case kGo => k_is)
    (case z_isinstance => k_is)
    (case z_int => k_is)
    (case z_bool => k_is)
    (case z_str => k_is)
    (case z_tuple => k_is)
    (case z_list => k_is)
    (case z_dict => k_is)
    (case z_len => k_is)
    (case z_all => k_is)
    (case z_any => k_is)
    (case z_sum => k_is)
    (case z_iter => k_is)
    (case z_max => k_is)
    (case z_min => k_is)
    (case z_abs => k_is)
    (case z_range => k_is)
    (case z_repr => k_is)
    (case z_sorted => k_is)
    (case z_enumerate => k_is)
    (case z_zip => k_is)
    (case v_BOUND => k_is)
    (case v_MAX_SIZE => k_is)
    (case v_MAX_ELEMENTS => k_is)
    (case aP => k_is)
    (case mP => k_is)
