import PyProof.Rows.All
import Wide.All
import OpenK.AllK
import Wide.FinOn
import HandS.ForMost
import HandS.ForExc
import HandS.IsInst
import HandS.IterNext
import HandS.OwnIter
import KE.KOwnIter
import PyProof.Rows.Range3
import PyProof.Conv_bool
import KE.GoesMore
import KE.GoesEnum
import KE.GoesZip
import HandS.Walk
import PyProof.FactsInt
import PyProof.FactsInt2
import PyProof.Rows.FactsB_mul
import HandS.OwnEq
import HandS.SetFor
import HandS.TupLe
import HandS.TupAny
import PyProof.NeKinds
import PyProof.P3Eq
import HandS.TupMul
import KE.KExcInit
import KE.KDictPairs
import HandS.FStr
import KE.KFmtOwn
import KE.KCallOwn
import KE.KRevSl
import PyProof.Rows.SortRunsSt
import HandS.Wide
import HandS.Property
import HandS.Lambda
import PySem.Challenge.RW_primekinds_k08_whole_kinds_in_order
import HandS.Defaults
import HandS.Conv
import HandS.Star
import HandS.SortInts
import HandS.Sort
import KE.KSortAsk
import HandS.RaiseMore
import HandS.Text
import HandS.SortKw
import KE.SortKeyHeap
import PyProof.Rows.SortShellAny
set_option Elab.async false
set_option linter.all false
set_option maxRecDepth 100000
set_option maxHeartbeats 4000000
/-! Promises of defs that are called where no container is being shown (the guards of the stack are known to be empty): repr of containers needs this. -/
namespace Gd
open PySem PySem.Spec PyProof.Rows L2

/-- no container is being shown -/
abbrev NoG (A : Around) : Prop := A.guards = some []

/-- the promise of a def, kept wherever no container is being shown -/
structure FnG (P : Program) (w : World) (K : PySem.W.Frag) (mg : Str → Option Value) (base : Heap) (CX : CXT) (k : Nat)
    (f : Addr) (fd : FuncData) (ps : List Str) (sp : Sp) : Prop where
  many : ∀ vs H Q E, sp vs H Q E → vs.length = ps.length
  go : ∀ (A : Around) (out : List Env) (s : Shared) (H : Hp) (ar : Args) (us : List Value) (vs : List V) (Q : VK) (E : XK),
    NoG A → Room k A → Env0 P w K mg base A out s H → BindsTo s fd ar (ps.zip us) → Vals vs us → sp vs H Q E →
      codeAny (model P w) A (.call (.ref f) ar) (CR CX out P w H s Q E) s

section
variable {P : Program} {w : World} {K : PySem.W.Frag} {mg : Str → Option Value} {base : Heap} {CX : CXT} {k : Nat}
  {f : Addr} {fd : FuncData} {ps : List Str} {sp : Sp}
theorem FnG.of (F : FnOk P w K mg base CX k f fd ps sp) : FnG P w K mg base CX k f fd ps sp :=
  ⟨F.len, fun A out s H ar us vs Q E _ => F.run A out s H ar us vs Q E⟩

/-- a def by its body, where no container is being shown -/
theorem fnG {x qual : Str} {st : Stmt} {N : List Str} (F : Fun K x qual st f fd) (S : FnScope N ps (defScope st))
    (many : ∀ vs H Q E, sp vs H Q E → vs.length = ps.length)
    (body : ∀ (cdv : Value) (A : Around) (out : List Env) (s : Shared) (H : Hp) (vs : List V) (Q : VK) (E : XK),
      NoG A → Room k (A.deeper (envOfC qual (defScope st) s.heap.objs.size f cdv)) → sp vs H Q E →
      ∃ t, PSs (cxOf CX P w K mg base N qual (defScope st) f cdv A out s H E) (defBody st) t ∧
        t { nx := fun _ H' => Q .non H', rt := Q } (start N vs) H) :
    FnG P w K mg base CX (k + 1) f fd ps sp := by
  obtain ⟨oc, od, kV, doc, pm, an, cdv, ct, osl, rfl, lk, hcd⟩ := F.ex
  refine ⟨many, ?_⟩
  intro A out s H ar us vs Q E hg hr e0 hb r hsp
  have hl := many vs H Q E hsp
  have KX : K.In s.heap := e0.mod.kin.keeps (fun b o e => (e0.bs b o e).1)
  have lim : s.heap.NoLimit := e0.mod.nolimit.keeps (fun b o e => (e0.bs b o e).1)
  have kinds : ∀ y ∈ ps.zip us, (defScope st).names.lookup y.1 = some .local ∨
      ((defScope st).names.lookup y.1 = some .cell ∧ ((cellsFrom (s.heap.objs.size + 1) (defScope st).names []).lookup y.1).isSome = true) := by
    rintro ⟨n, v⟩ hy
    rcases S.par n (List.of_mem_zip hy).1 with q | q
    · exact Or.inl q
    · exact Or.inr ⟨q, PySem.W.cellsFrom_some _ _ _ (Or.inl q)⟩
  refine codeAny_call_function hr.depth (KX _ _ lk) rfl S.co S.gen rfl
    (PySem.W.codeRec_of KX hcd) (hb _ _ _ _ ?_)
  refine wpAny_newFunctionEnv_cells S.kind kinds ?_
  intro env he s1 x
  cases he
  refine ⟨lim.keeps x.toInCall.keep, codeAny_func ?_⟩
  obtain ⟨t, ht, hq⟩ := body cdv A out s H vs Q E hg (hr.deeper _) hsp
  have I := inv_start (CX := CX) (E := E) S hr.hd e0 hl r x
  refine wpAny_mono (ht.run [] s1 (start N vs) H _ I hq) ?_ (fun e s' hs => hs)
  intro fl s' hs
  have fin : ∀ {σ' : L2.St} {H' : Hp} {v : V} {u : Value},
      Inv (cxOf CX P w K mg base N qual (defScope st) f cdv A out s H E) [] σ' H' s' →
      RelV v u → Q v H' → CE out P w H s Q u s' := by
    intro σ' H' v u J rv q
    exact ⟨v, H', J.os, J.bare, J.base, J.hok, rv, q⟩
  cases fl with
  | ret u =>
    obtain ⟨v, σ', H', J, rv, q⟩ := hs
    exact fin J rv q
  | next =>
    obtain ⟨σ', H', J, q⟩ := hs
    exact fin (v := V.non) (u := Value.none) J rfl q
  | brk =>
    obtain ⟨σ', H', J, q⟩ := hs
    exact False.elim q
  | cont =>
    obtain ⟨σ', H', J, q⟩ := hs
    exact False.elim q
end

section
variable {X : Cx} {CX : CXT} {k : Nat} {f C : Addr} {fd : FuncData} {ps : List Str} {sp : Sp} {dvs : List V} {ds : List Value} {E : XK}
  {x : Str} {p pos : Pos} {e : Expr} {es : List Expr} {t : TA}
/-- the call of such a def -/
theorem goG {pins : List (Addr × Obj)} {σ : L2.St} {H : Hp} {s : Shared} {Q : VK} {us : List Value} {vs : List V}
    (hg : NoG X.A) (F : FnG X.prog X.w X.K X.mg X.base CX k f fd ps sp) (hr : Room k X.A) (hb : Binds X.K fd ps ds)
    (hd : Vals dvs ds) (hx : Passes CX X E) (I : Inv X pins σ H s) (r : Vals vs us) (h : sp (vs ++ dvs) H Q E) :
    wpAny (model X.prog X.w) X.A (call (.ref f) us) (EP X pins σ Q) X.xe s := by
  have r2 := Vals.append r hd
  have hl : (us ++ ds).length = ps.length := by
    rw [← r2.length]
    exact F.many _ H Q E h
  have run := F.go X.A X.stack s H ⟨us, []⟩ (us ++ ds) _ Q E hg hr I.env0 (hb s us I.kIn hl) r2 h
  refine wpAny_call (codeAny_mono run ?_)
  intro r s' hq
  match r, hq with
  | .error e, hq => exact hx pins σ H s e s' I hq
  | .ok (.ret u), hq => exact I.after hq
  | .ok .next, hq => exact False.elim hq
  | .ok .brk, hq => exact False.elim hq
  | .ok .cont, hq => exact False.elim hq

theorem pe_callG (hg : NoG X.A) (F : FnG X.prog X.w X.K X.mg X.base CX k f fd ps sp) (hr : Room k X.A) (hgl : Gl X x)
    (hm : X.mg x = some (.ref f)) (hk : PySem.W.keepIn X.K (.ref f) = true) (hb : Binds X.K fd ps ds) (hd : Vals dvs ds)
    (hx : Passes CX X E) (ha : PA X (e :: es) t) (hdb : (x == ("__debug__" : Str)) = false := by decide)
    (he : starEach (e :: es) X.env = (false, eval e X.env) :: starEach es X.env := by rfl)
    (hpl : (backTo pos (starEach es X.env)).any (·.1) = false := by rfl) :
    PE X (.Call (.Name x p) (e :: es) [] pos) (tCall sp dvs E t) := by
  constructor
  intro pins s σ H Q I h
  refine wpAny_Call_Name_kw (ld_glob I hgl hm ?_ hdb)
  have go := thn (ha.run pos pins s σ H _ I h) (fun us s1 ⟨vs, H1, I1, r, q⟩ =>
    (⟨I1.kIn, goG hg F hr hb hd hx I1 r q⟩ : X.K.In s1.heap ∧ wpAny (model X.prog X.w) X.A (call (.ref f) us) (EP X pins σ Q) X.xe s1))
  exact PySem.W.callWith_K (h₀ := X.base) I.ok.mod.kin hk go he hpl
end

section
variable {P : Program} {w : World} {K : PySem.W.Frag} {mg mb : Str → Option Value} {CX : CXT} {k : Nat} {fa a : Addr}
  {fd : FuncData} {x : Str} {sp : Sp} {s₁ : Shared} {vs : List Value} {ns : List Int}
/-- the call of the law, from a heap H of which nothing but the script is tracked -/
theorem coreG (KX : K.In s₁.heap) (hns : s₁.heap.Ns mainGlobals mg) (hb : s₁.heap.Ns builtinsNs mb)
    (hbb : ∀ x : Str, x ≠ "__name__" → mb x = bootBuiltins x) (hlim : s₁.heap.NoLimit) (hg : s₁.gens = #[])
    (ha : s₁.heap.get? a = some { cls := .type "list", data := .seq vs.toArray }) (hr : Room k callerA)
    (F : ∀ base : Heap, K.In base → base.Ns mainGlobals mg → FnG P w K mg base CX k fa fd [x] sp)
    (hbind : ∀ (s : Shared) (u : Value), BindsTo s fd ⟨[u], []⟩ [(x, u)])
    (hCX : ∀ H e s', CX [] H s₁ (fun _ _ _ => False) e s' → False)
    (H : Hp) (hO : Only H) (hsp : sp [.ref a] H (fun v _ => v = .bl true) fun _ _ _ => False)
    (hok : HOk P w H s₁.heap) (hA : ∀ b, H b ≠ none → b = a) (hK : H a ≠ none → K.lookup a = none) :
    codeAny (model P w) callerA (.call (.ref fa) ⟨[.ref a], []⟩)
      (fun r s' => r = .ok (.ret (.bool true)) ∧ OldK s₁.heap s'.heap ∧ s'.os = s₁.os ∧ AllBare s'.gens) s₁ := by
  have at_a : ∀ {b : Addr}, H b ≠ none → b = a := fun {b} z => hA b z
  have keepB : ∀ {b : Addr} {o : Obj}, s₁.heap.get? b = some o → H b = none → (hidT s₁.heap H).get? b = some o := by
    intro b o e n
    exact hidT_get e n
  have noDict : ∀ {b : Addr} {o : Obj} {es : Array DictEntry} {ep : Nat},
      s₁.heap.get? b = some o → o.data = .dict es ep → H b = none := by
    intro b o es ep e d
    cases q : H b with
    | none => rfl
    | some u =>
      obtain rfl : b = a := at_a (by rw [q]; simp)
      rw [ha] at e
      cases e
      cases d
  have nsOf : ∀ {b : Addr} {m : Str → Option Value}, s₁.heap.Ns b m → (hidT s₁.heap H).Ns b m := by
    rintro b m ⟨o, es, ep, e, d, r⟩
    exact ⟨o, es, ep, keepB e (noDict e d), d, r⟩
  have inB : K.In (hidT s₁.heap H) := by
    intro b o e
    refine keepB (KX b o e) ?_
    cases q : H b with
    | none => rfl
    | some u =>
      obtain rfl : b = a := at_a (by rw [q]; simp)
      rw [hK (by rw [q]; simp)] at e
      cases e
  obtain ⟨mc, l1, l2⟩ := hlim
  have hM : Mod K mg (hidT s₁.heap H) := ⟨inB, nsOf hns, ⟨mb, nsOf hb, hbb⟩, ⟨mc, nsOf l1, l2⟩⟩
  have e0 : Env0 P w K mg (hidT s₁.heap H) callerA [] s₁ H := by
    refine ⟨rfl, hM, ?_, Nat.le_of_eq (hidT_size _ _), trivial, ?_, hok, .of_eq hg⟩
    · intro b o e
      exact of_hidT e
    · intro b z
      exact absurd (show b ∈ ([] : List Addr) from z) (by simp)
  have run := (F _ inB (nsOf hns)).go callerA [] s₁ H ⟨[.ref a], []⟩ [.ref a] [.ref a] _ _ rfl hr e0 (hbind s₁ (.ref a)) (.cons rfl .nil) hsp
  refine codeAny_mono run ?_
  intro r s' h
  match r, h with
  | .error e, h => exact (hCX H e s' h).elim
  | .ok .next, h => exact False.elim h
  | .ok .brk, h => exact False.elim h
  | .ok .cont, h => exact False.elim h
  | .ok (.ret u), h =>
    obtain ⟨v, H', os, bare, un, hok', rv, q⟩ := h
    obtain rfl : v = .bl true := q
    obtain rfl : u = Value.bool true := rv
    refine ⟨rfl, OldK.of_keep ?_, os, bare⟩
    intro b o e
    cases q : H b with
    | none => exact un.keep b o e q (fun z => absurd (show b ∈ ([] : List Addr) from z) (by simp)) (by simp)
    | some u =>
      rcases hO b with z | ⟨ob, xs, z⟩
      · rw [q] at z
        cases z
      · obtain ⟨e1, _⟩ := hok b _ z
        obtain ⟨e2, _⟩ := hok' b _ (un.frzs b ob _ z)
        rw [e] at e1
        cases e1
        exact e2

theorem law_callG (KX : K.In s₁.heap) (hns : s₁.heap.Ns mainGlobals mg) (hb : s₁.heap.Ns builtinsNs mb)
    (hbb : ∀ x : Str, x ≠ "__name__" → mb x = bootBuiltins x) (hlim : s₁.heap.NoLimit) (hg : s₁.gens = #[])
    (ha : s₁.heap.get? a = some { cls := .type "list", data := .seq vs.toArray }) (hi : IntsAre vs ns) (hl : ns.length ≤ sizeLine)
    (hr : Room k callerA) (F : ∀ base : Heap, K.In base → base.Ns mainGlobals mg → FnG P w K mg base CX k fa fd [x] sp)
    (hbind : ∀ (s : Shared) (u : Value), BindsTo s fd ⟨[u], []⟩ [(x, u)])
    (hsp : ∀ H : Hp, Only H → SqL K H a (ns.map V.int) → sp [.ref a] H (fun v _ => v = .bl true) fun _ _ _ => False)
    (hCX : ∀ H e s', CX [] H s₁ (fun _ _ _ => False) e s' → False) :
    codeAny (model P w) callerA (.call (.ref fa) ⟨[.ref a], []⟩)
      (fun r s' => r = .ok (.ret (.bool true)) ∧ OldK s₁.heap s'.heap ∧ s'.os = s₁.os ∧ AllBare s'.gens) s₁ := by
  have rv := vals_ints hi
  have lenV := hi.length
  cases hk : K.lookup a with
  | some o =>
    have e := KX a o hk
    rw [ha] at e
    cases e
    have none' : ∀ b : Addr, (fun _ : Addr => (none : Option HO)) b = none := fun _ => rfl
    refine coreG KX hns hb hbb hlim hg ha hr F hbind hCX (fun _ => none) (fun _ => .inl rfl) (hsp _ (fun _ => .inl rfl) ?_) ?_ (fun b z => absurd (none' b) z) (fun z => absurd (none' a) z)
    · exact .inr ⟨_, vs.toArray, _, hk, rfl, rfl, rfl, by rw [List.size_toArray, lenV]; exact hl, by simpa using rv⟩
    · intro b u z
      cases z
  | none =>
    have hpos : ∀ b, (fun b => if b = a then some (HO.frz { cls := .type "list", data := .seq vs.toArray } (.lst (ns.map V.int))) else none) b ≠ none → b = a := by
      intro b z
      by_cases q : b = a
      · exact q
      · exact absurd (if_neg q) z
    have hO : Only (fun b => if b = a then some (HO.frz { cls := .type "list", data := .seq vs.toArray } (.lst (ns.map V.int))) else none) := by
      intro b
      by_cases q : b = a
      · exact .inr ⟨_, _, if_pos q⟩
      · exact .inl (if_neg q)
    refine coreG KX hns hb hbb hlim hg ha hr F hbind hCX _ hO (hsp _ hO ?_) ?_ hpos (fun _ => hk)
    · exact .inl (.inr ⟨{ cls := .type "list", data := .seq vs.toArray }, if_pos rfl⟩)
    · intro b u z
      have q : b = a := hpos b (by rw [z]; simp)
      subst q
      have z' := (if_pos rfl).symm.trans z
      cases z'
      exact ⟨ha, by rw [List.length_map]; exact hl, vs, _, rv, ha⟩
end

/-- the end of a law -/
theorem walkG {l : PySem.W.OpenLaw} {n k : Nat} {q : Program} {loose : List Str} {XP : (Str → Option Value) → Heap → Prop} {YP : World → Heap → Prop} {d : DefRec} {K : Params → PySem.W.Frag} {CX : World → CXT} {sp : World → Sp} {x : Str}
    (hn : l.most = some n) (hn2 : n ≤ sizeLine) (hdf : d.params.defaults = []) (hr : Room k callerA)
    (hY : ∀ (w : World) (h : Heap), YP w h → (K w.params).In h)
    (F : ∀ (w : World) (mg : Str → Option Value) (fa : Addr) (h : Heap), (K w.params).In h → h.Ns mainGlobals mg → mg d.name = some (.ref fa) →
      ∃ fd : FuncData, (∀ (s : Shared) (u : Value), BindsTo s fd ⟨[u], []⟩ [(x, u)]) ∧
        ∀ base : Heap, (K w.params).In base → base.Ns mainGlobals mg → FnG l.prog w (K w.params) mg base (CX w) k fa fd [x] (sp w))
    (hsp : ∀ (w : World) (H : Hp) (a : Addr) (ns : List Int), ns.length ≤ n → Only H → SqL (K w.params) H a (ns.map V.int) → sp w [.ref a] H (fun v _ => v = .bl true) fun _ _ _ => False)
    (hCX : ∀ (w : World) (H : Hp) (s : Shared) (e : Value) (s' : Shared), CX w [] H s (fun _ _ _ => False) e s' → False) :
    PySem.W.WalkO q loose XP YP l.row.toRowW d [] (fun f vs => PySem.call f vs) := by
  refine Att.attach_call hn hdf ?_
  intro w s₀ s₁ mg mb fa o pm cd doc a vs ns G Y ho hd hcd hmg hobj hints hlen hg
  obtain ⟨fd, hb, hF⟩ := F w mg fa _ (hY w _ Y) G.T.g hmg
  exact law_callG (hY w _ Y) G.T.g G.T.b G.T.builtins G.T.nolimit hg hobj hints (Nat.le_trans hlen hn2) hr hF hb (fun H hO hS => hsp w H a ns hlen hO hS) fun H e s' => hCX w H s₁ e s'
end Gd

set_option Elab.async false
set_option linter.all false
set_option maxRecDepth 100000
set_option maxHeartbeats 4000000
/-! Operators of own classes, and repr of data, as rules of the hand layer. -/
namespace Gd
open PySem PySem.Spec PyProof.Rows L2

/-! ### repr of data -/
def rRepr (K : PySem.W.Frag) : List V → Hp → VK → Prop := fun xs H Q =>
  ∃ a d, xs = [.ref a] ∧ Dp K H (.ref a) d ∧ d.showable = true ∧ d.hasDict = false ∧ d.depth ≤ 60 ∧ d.shown.length ≤ sizeLine ∧ Q (.str d.shown) H
theorem call_repr {X : Cx} (hg : NoG X.A) (hu : X.A.units + 64 < cLine) : CallR X (.builtin "repr") (rRepr X.K) := by
  intro pins s σ H xs us Q I r h
  obtain ⟨a, d, rfl, hd, h1, h2, h3, h4, q⟩ := h
  obtain ⟨u, rfl, hu1⟩ := vals1 r
  cases hu1
  obtain ⟨as, rd⟩ := Dp.reads I d (.ref a) (.ref a) hd rfl
  refine repr_of_reads' rd h1 (PyData.noDict_hsm h2) hg (by omega) (fun _ _ e => e) ?_ h4
  intro h' u tk hk
  exact ⟨.str d.shown, H, I.kept hk, ⟨u, rfl⟩, q⟩

section
variable {X : Cx} {CX : CXT} {k : Nat} {f C : Addr} {fd : FuncData} {ps : List Str} {sp : Sp} {dvs : List V} {ds : List Value}
  {pos : Pos} {a b : Expr} {ta tb : TE}

/-- the callee runs, from the body or from a builtin that the body calls -/
theorem runAt {E : XK} {A : Around} (hA : A = X.A ∨ A = X.A.in1) {pins : List (Addr × Obj)} {σ : L2.St} {H : Hp} {s : Shared} {Q : VK} {us : List Value} {vs : List V}
    (F : FnOk X.prog X.w X.K X.mg X.base CX k f fd ps sp) (hr : Room (k + 1) X.A) (hb : Binds X.K fd ps ds) (hd : Vals dvs ds)
    (hx : PassesAt CX X σ E) (I : Inv X pins σ H s) (r : Vals vs us) (h : sp (vs ++ dvs) H Q E) :
    wpAny (model X.prog X.w) A (call (.ref f) us) (EP X pins σ Q) X.xe s := by
  have r2 := Vals.append r hd
  have hl : (us ++ ds).length = ps.length := by
    rw [← r2.length]
    exact F.len _ H Q E h
  have room : Room k A := by
    rcases hA with rfl | rfl
    · exact hr.mono (Nat.le_succ _)
    · exact hr.in1
  have env : Env0 X.prog X.w X.K X.mg X.base A X.stack s H := by
    rcases hA with rfl | rfl
    · exact I.env0
    · exact I.env0.in1
  refine wpAny_call (codeAny_mono (F.run A X.stack s H ⟨us, []⟩ (us ++ ds) _ Q E room env (hb s us I.kIn hl) r2 h) ?_)
  intro r s' hq
  match r, hq with
  | .error e, hq => exact hx pins H s e s' I hq
  | .ok (.ret u), hq => exact I.after hq
  | .ok .next, hq => exact False.elim hq
  | .ok .brk, hq => exact False.elim hq
  | .ok .cont, hq => exact False.elim hq
theorem quiet0 {σ : L2.St} {E : XK} : PassesAt CX0 X σ E := fun _ _ _ _ _ _ h => h.elim

/-- the instance at a, as the library sees it -/
theorem seen {pins : List (Addr × Obj)} {σ : L2.St} {H : Hp} {s : Shared} {p dx : Addr} {fs : List (Str × V)} (I : Inv X pins σ H s)
    (e : H p = some (.ins C dx fs)) : ∃ od, PySem.W.InstAt s.heap p (PySem.W.instObj C dx) C (some od) := by
  obtain ⟨mA, J, _⟩ := ins_get I.hok e
  obtain ⟨od, J, _⟩ := J.look
  exact ⟨od, J⟩

/-! ### comparisons -/
/-- x OP y by the own method of x's class, whose answer is a truth value -/
def rCmpO (K : PySem.W.Frag) (C : Addr) (sp : Sp) (E : XK) : R2 := fun x y H Q => ∃ p dx fs t, x = .ref p ∧ H p = some (.ins C dx fs) ∧
  TyX K H y t ∧ PySem.W.notFirst K C t = true ∧ sp [x, y] H (fun v H' => (∃ c, v = .bl c) ∧ Q v H') E
theorem cmpO {op : CmpOp} {E : XK} (hm : Meth X.K C (cmpInfo op).2.1 f) (F : FnOk X.prog X.w X.K X.mg X.base CX k f fd ps sp) (hr : Room (k + 1) X.A)
    (hb : Binds X.K fd ps []) (hx : ∀ σ, PassesAt CX X σ E)
    {pins : List (Addr × Obj)} {s : Shared} {σ : L2.St} {H : Hp} {x y : V} {v u : Value} {Q : VK} (I : Inv X pins σ H s) (rx : RelV x v) (ry : RelV y u)
    (h : rCmpO X.K C sp E x y H Q) : wpAny (model X.prog X.w) X.A (richCompare op v u) (EP X pins σ Q) X.xe s := by
  obtain ⟨p, dx, fs, t, rfl, ep, ty, hn, hsp⟩ := h
  cases rx
  obtain ⟨od, J⟩ := seen I ep
  obtain ⟨P, Z, hP, _⟩ := kit_of I ry ty
  obtain ⟨m, hF⟩ := I.fr
  refine PySem.W.cmp_K (op := op) (tb := t) hr.units0 hF I.ok.mod.kin J (Z.ty _ _ I.kIn hP) hn hm.at_ hm.fn ?_
  refine wpAny_mono (runAt (.inl rfl) F hr hb .nil (hx σ) I (.cons (show RelV (V.ref p) (Value.ref p) from rfl) (.cons ry .nil)) hsp) ?_ (fun _ _ z => z)
  rintro w s' ⟨z, H', I', rz, ⟨c, rfl⟩, q⟩
  cases rz
  exact ⟨.bl c, H', I', rfl, q⟩
theorem op_eqO {E : XK} (hm : Meth X.K C "__eq__" f) (F : FnOk X.prog X.w X.K X.mg X.base CX k f fd ps sp) (hr : Room (k + 1) X.A)
    (hb : Binds X.K fd ps []) (hx : ∀ σ, PassesAt CX X σ E) : OpR X (compareOp .Eq) (rCmpO X.K C sp E) := by
  intro pins s σ H x y v u Q I rx ry h
  exact cmpO (op := .Eq) hm F hr hb hx I rx ry h
theorem op_ltO {E : XK} (hm : Meth X.K C "__lt__" f) (F : FnOk X.prog X.w X.K X.mg X.base CX k f fd ps sp) (hr : Room (k + 1) X.A)
    (hb : Binds X.K fd ps []) (hx : ∀ σ, PassesAt CX X σ E) : OpR X (compareOp .Lt) (rCmpO X.K C sp E) := by
  intro pins s σ H x y v u Q I rx ry h
  exact cmpO (op := .Lt) hm F hr hb hx I rx ry h

/-! ### len, truth, items -/
def rLenO (C : Addr) (sp : Sp) (E : XK) : List V → Hp → VK → Prop := fun xs H Q => ∃ p dx fs, xs = [.ref p] ∧ H p = some (.ins C dx fs) ∧
  sp [.ref p] H (fun v H' => ∃ n : Int, v = .int n ∧ 0 ≤ n ∧ n < 2 ^ 63 ∧ Q (.int n) H') E
theorem call_lenO {E : XK} (hm : Meth X.K C "__len__" f) (F : FnOk X.prog X.w X.K X.mg X.base CX k f fd ps sp) (hr : Room (k + 1) X.A)
    (hb : Binds X.K fd ps []) (hx : ∀ σ, PassesAt CX X σ E) : CallR X (.builtin "len") (rLenO C sp E) := by
  intro pins s σ H xs us Q I r h
  obtain ⟨p, dx, fs, rfl, ep, hsp⟩ := h
  obtain ⟨u, rfl, hu1⟩ := vals1 r
  cases hu1
  obtain ⟨od, J⟩ := seen I ep
  obtain ⟨m, hF⟩ := I.fr
  refine PySem.W.len_K hF I.ok.mod.kin J hm.at_ hm.fn ?_
  refine wpAny_mono (runAt (.inr rfl) F hr hb .nil (hx σ) I (.cons (show RelV (V.ref p) (Value.ref p) from rfl) .nil) hsp) ?_ (fun _ _ z => z)
  rintro w s' ⟨z, H', I', rz, n, rfl, h0, h1, q⟩
  obtain ⟨t, rfl⟩ := rz
  exact ⟨⟨h0, h1⟩, .int n, H', I'.tok _, ⟨_, rfl⟩, q⟩
def rTruO (C : Addr) (sp : Sp) (E : XK) : V → Hp → (Bool → Hp → Prop) → Prop := fun x H Q => ∃ p dx fs, x = .ref p ∧ H p = some (.ins C dx fs) ∧
  sp [.ref p] H (fun v H' => ∃ c, v = .bl c ∧ Q c H') E
theorem tru_O {E : XK} (hm : Meth X.K C "__bool__" f) (F : FnOk X.prog X.w X.K X.mg X.base CX k f fd ps sp) (hr : Room (k + 1) X.A)
    (hb : Binds X.K fd ps []) (hx : ∀ σ, PassesAt CX X σ E) : TruR X (rTruO C sp E) := by
  intro pins s σ H x v Q I rx h
  obtain ⟨p, dx, fs, rfl, ep, hsp⟩ := h
  cases rx
  obtain ⟨od, J⟩ := seen I ep
  obtain ⟨m, hF⟩ := I.fr
  refine PySem.W.truthy_K hF I.ok.mod.kin J hm.at_ hm.fn ?_
  refine wpAny_mono (runAt (.inl rfl) F hr hb .nil (hx σ) I (.cons (show RelV (V.ref p) (Value.ref p) from rfl) .nil) hsp) ?_ (fun _ _ z => z)
  rintro w s' ⟨z, H', I', rz, c, rfl, q⟩
  cases rz
  exact ⟨H', I', q⟩
/-- o[i] by the own method, which may raise -/
def tIxO (C : Addr) (sp : Sp) (E : L2.St → XK) (ta tb : TE) : TE := fun σ H Q => ta σ H fun x H1 => tb σ H1 fun y H2 =>
  ∃ p dx fs, x = .ref p ∧ H2 p = some (.ins C dx fs) ∧ sp [x, y] H2 Q (E σ)
theorem pe_ixO {E : L2.St → XK} (hm : Meth X.K C "__getitem__" f) (hfn : PySem.W.fnIn X.K f = true) (F : FnOk X.prog X.w X.K X.mg X.base CX k f fd ps sp)
    (hr : Room (k + 1) X.A) (hb : Binds X.K fd ps []) (hx : ∀ σ, PassesAt CX X σ (E σ)) (ha : PE X a ta) (hb' : PE X b tb)
    (hs : ∀ v u : Value, subscripted b true v u = runValue (.builtin "lifetime.subscript" ⟨[v, u], []⟩) := by intro _ _; with_unfolding_all rfl) :
    PE X (.Subscript a b pos) (tIxO C sp E ta tb) := by
  refine ⟨fun pins s σ H Q I h => ?_⟩
  refine Subscript_ (binT ha hb' I h fun v u s2 x y H2 I2 rx ry q => ?_)
  obtain ⟨p, dx, fs, rfl, ep, hsp⟩ := q
  cases rx
  obtain ⟨od, J⟩ := seen I2 ep
  obtain ⟨m, hF⟩ := I2.fr
  refine PySem.W.sub_K hF I2.ok.mod.kin J hm.at_ hfn hm.fn ?_ (hs _ _)
  exact runAt (.inr rfl) F hr hb .nil (hx σ) I2 (.cons (show RelV (V.ref p) (Value.ref p) from rfl) (.cons ry .nil)) hsp
end
end Gd

set_option Elab.async false
set_option linter.all false
set_option maxRecDepth 100000
set_option maxHeartbeats 4000000
/-! iter(a tuple), and list(o) of an own class that hands on such an iterator and has a length. -/
namespace PySem
section
variable {prog : Program} {w : World} {A : Around} {E : Value → Shared → Prop} {s : Shared}
/-- the end of a tuple's iterator, which stays an object -/
theorem tuple_next_end {it t : Addr} {i : Nat} {items : Array Value} {Q : Option Value → Shared → Prop} (hh : A.handled = none)
    (hit : s.heap.IsTupleIter it t i) (ht : s.heap.IsTuple t items) (hx : items[i]? = none)
    (hQ : ∀ h', (∀ b o, b ≠ it → s.heap.get? b = some o → h'.get? b = some o) → (∃ o, h'.get? it = some o) → Q none { s with heap := h' }) :
    wpAny (model prog w) A (pyNext (.ref it)) Q E s := by
  obtain ⟨o, ho, hc, hd⟩ := id hit
  obtain ⟨ol, hol, _, nl, hdl⟩ := ht
  have self := Heap.get?_update_self (Obj.mapFields (·.setIfInBounds 0 Value.none)) ho (Obj.isFreed_of_fields (Obj.data_mapFields hd _))
  unfold pyNext
  refine wpAny_bind (wpAny_attempt (wpAny_callSpecial?_slot (name := Str.ofString "__next__") hit.typeIs F.slot_tuple_iterator_next (wpAny_call_entry
    F.slot_tuple_iterator_next hit.typeIs F.entry_tuple_iterator_next ?_ (F.args_tuple_iterator_next_1 _))))
  show wpAny _ _ (field (.ref it) 0 >>= _) _ _ s
  refine wpAny_bind (wpAny_field ho hd (x := .ref t) rfl ?_)
  have nn : ¬ ((Value.ref t == Value.none) = true) := Bool.false_ne_true
  show wpAny _ _ (if (Value.ref t == Value.none) = true then _ else _) _ _ s
  rw [if_neg nn]
  show wpAny _ _ (field (.ref it) 1 >>= _) _ _ s
  refine wpAny_bind (wpAny_field ho hd (x := .int i 0) rfl ?_)
  show wpAny _ _ (seqItems? (.ref t) >>= _) _ _ s
  refine wpAny_bind (wpAny_seqItems hol hdl ?_)
  simp only [Int.toNat_natCast, hx]
  refine wpAny_bind (wpAny_rule (wpAny_bind (wpAny_setField ho hd (by simp) ?_)))
  show wpAny _ _ (newExc (.type "StopIteration") [] >>= _) _ _ _
  refine wpAny_bind ?_
  simp only [newExc, newTuple]
  refine wpAny_bind (wpAny_newObj_type ?_ (by size_fits))
  refine wpAny_bind (m := firstArgMember _ _) (wpAny_of_eq (a := Value.none) (by first | rfl | (simp only [firstArgMember]; rfl)) ?_)
  refine wpAny_newObj_type ?_ (by size_fits)
  simp only [raiseNew]
  refine wpAny_bind (wpAny_handled ?_)
  first | rw [show A.in1.handled = none from hh] | rw [hh]
  refine wpAny_bind (wpAny_pure (wpAny_throw ?_))
  refine wpAny_bind (wpAny_isInstance (T := "StopIteration") (b := true) ⟨_, Heap.get?_push_size _ rfl, rfl⟩ isSubtype_stop ?_)
  refine wpAny_pure (hQ _ (fun b o hb e => ?_) ⟨_, Heap.get?_push_of_some _ (Heap.get?_push_of_some _ self)⟩)
  exact Heap.get?_push_of_some _ (Heap.get?_push_of_some _ ((Heap.get?_update_other _ _ (Ne.symm hb)).trans e))
end
end PySem

namespace Gd
open PySem PySem.Spec PyProof.Rows L2
/-- at it: an iterator over the tuple at t, behind i items; | whatever it is -/
def TitO (t it : Addr) (i : Nat) : HO := .ext fun h => h.IsTupleIter it t i
def OddO (it : Addr) : HO := .ext fun h => ∃ o, h.get? it = some o
section
variable {P : Program} {w : World} {H : Hp} {h : Heap} {t it : Addr} {i : Nat}
theorem tit_ok (e : h.IsTupleIter it t i) : ObjOk P w H h it (TitO t it i) := by
  obtain ⟨o, ho, r⟩ := e
  exact ⟨⟨o, ho, r⟩, ⟨o, ho⟩, fun h1 h2 ⟨o', q, r'⟩ k => ⟨o', k _ q, r'⟩⟩
theorem odd_ok (e : ∃ o, h.get? it = some o) : ObjOk P w H h it (OddO it) := ⟨e, e, fun h1 h2 ⟨o', q⟩ k => ⟨o', k _ q⟩⟩
end
section
variable {X : Cx} {pins : List (Addr × Obj)} {σ : L2.St} {H : Hp} {s : Shared} {t it q a : Addr} {i : Nat} {ys : List V}
/-- iter(t), t a tuple -/
def rIterT (K : PySem.W.Frag) : List V → Hp → VK → Prop := fun xs H Q => ∃ (t : Addr) (ys : List V), xs = [.ref t] ∧ SqT K H t ys ∧ ∀ it, H it = none → Q (.ref it) (upd H it (TitO t it 0))
theorem isTuple_of {h : Heap} {a : Addr} {items : Array Value} (x : IsTup h a items) : h.IsTuple a items := by
  obtain ⟨o, h1, h2, h3⟩ := x
  exact ⟨o, h1, h2, by first | exact h3 | exact h3.2⟩
theorem call_iterT : CallR X (.builtin "iter") (rIterT X.K) := by
  intro pins s σ H xs us Q I r h
  obtain ⟨t, ys, rfl, hq, q⟩ := h
  obtain rfl := Vals.ref1 r
  obtain ⟨its, rv, pl, hz⟩ := I.tuple hq
  refine Calls.call_function_entry (by decide +kernel) (by decide +kernel) PySem.W.kdk_entry_iter (PySem.W.kdk_args_iter _) ?_
  unfold Builtin.«iter»
  refine wpAny_bind (m := someArgs "iter" 1 2 _) (wpAny_of_eq (a := [Value.ref t]) (by first | rfl | kernel_rfl!) ?_)
  show wpAny _ _ (pyIter (.ref t) >>= _) _ _ _
  refine wpAny_bind (wpAny_pyIter_tuple (isTuple_of pl) ?_)
  refine wpAny_pure ⟨_, rfl, ?_⟩
  have nw : H s.heap.objs.size = none := I.hok.fresh (Nat.le_refl _)
  refine ⟨.ref s.heap.objs.size, _, I.laid (t' := s.toks) (fun b u e => Heap.get?_push_of_some _ e) (Nat.le_refl _) (tit_ok ⟨_, Heap.get?_push_size _ rfl, rfl, rfl⟩), rfl, q _ nw⟩

theorem take_one {α : Type} : ∀ {l : List α} {i : Nat} (h : i < l.length), l.take (i + 1) = l.take i ++ [l[i]]
  | a :: l, 0, _ => rfl
  | a :: l, i + 1, h => by
    have h' : i < l.length := Nat.lt_of_succ_lt_succ h
    have ih := take_one (l := l) (i := i) h'
    show a :: l.take (i + 1) = (a :: l.take i) ++ [l[i]'h']
    rw [ih]
    rfl
/-- what is known stays known, but for the iterator and the list -/
def But (q it : Addr) (H H' : Hp) : Prop := ∀ b o, b ≠ q → b ≠ it → H b = some o → H' b = some o
theorem drain {A1 : Around} {Rs : Result → Shared → Prop} (hh : A1.in1.handled = none) (hqi : q ≠ it) (hqt : q ≠ t) (hti : t ≠ it) (H0 : Hp)
    (hys : ys.length < sizeLine) (ht0 : SqT X.K H0 t ys)
    (hdone : ∀ H' s', Inv X pins σ H' s' → But q it H0 H' → H' q = some (.lst ys) → H' it = some (OddO it) → Rs (.ok (.ret .none)) s') :
    ∀ (m i : Nat) (H : Hp) (s : Shared), m + i = ys.length → Inv X pins σ H s → But q it H0 H → H it = some (TitO t it i) → H q = some (.lst (ys.take i)) →
      codeAny (model X.prog X.w) A1 (.builtin "list.extend.loop" ⟨[.ref q, .ref it, .none], []⟩) Rs s := by
  intro m
  induction m with
  | zero =>
    intro i H s hi I hB hit hq
    have ht : SqT X.K H t ys := by
      rcases ht0 with (z | ⟨o, z⟩) | z
      · exact .inl (.inl (hB _ _ hqt.symm hti z))
      · exact .inl (.inr ⟨o, hB _ _ hqt.symm hti z⟩)
      · exact .inr z
    obtain ⟨its, rv, pl, hz⟩ := I.tuple ht
    refine codeAny_builtin PySem.F.entry_extend_loop ?_
    rw [Around.under_plainId PySem.F.plain_extend_loop _]
    show wpAny _ A1.in1 (pyNext (.ref it) >>= _) _ _ s
    have hx : its.toArray[i]? = none := by
      have e := rv.length
      rw [List.getElem?_toArray, List.getElem?_eq_none_iff]
      omega
    have T : s.heap.IsTupleIter it t i := (I.hok it _ hit).1
    refine wpAny_bind (PySem.tuple_next_end (items := its.toArray) hh T (isTuple_of pl) hx ?_)
    intro h' keep ex
    have J : Inv X pins σ (upd H it (OddO it)) { s with heap := h' } := by
      refine I.write (t' := s.toks) (x := it) (e := it) (by rw [hit]; exact True.intro) (.inl rfl) (fun b u hb hu => keep b u hb hu) ex (odd_ok ex)
    refine wpAny_pure (hdone _ _ J ?_ ?_ upd_same)
    · intro b o h1 h2 e
      rw [upd_ne h2]
      exact hB b o h1 h2 e
    · rw [upd_ne hqi, hq, List.take_of_length_le (by omega)]
  | succ m ih =>
    intro i H s hi I hB hit hq
    have ht : SqT X.K H t ys := by
      rcases ht0 with (z | ⟨o, z⟩) | z
      · exact .inl (.inl (hB _ _ hqt.symm hti z))
      · exact .inl (.inr ⟨o, hB _ _ hqt.symm hti z⟩)
      · exact .inr z
    obtain ⟨its, rv, pl, hz⟩ := I.tuple ht
    have hlt : i < ys.length := by omega
    obtain ⟨u, hu, ru⟩ := rv.get (List.getElem?_eq_getElem hlt)
    refine codeAny_builtin PySem.F.entry_extend_loop ?_
    rw [Around.under_plainId PySem.F.plain_extend_loop _]
    show wpAny _ A1.in1 (pyNext (.ref it) >>= _) _ _ s
    have T : s.heap.IsTupleIter it t i := (I.hok it _ hit).1
    refine wpAny_bind (wpAny_pyNext_tuple_item (items := its.toArray) T (isTuple_of pl) (by rw [List.getElem?_toArray]; exact hu) ?_)
    intro h' T' same
    have ex : ∃ o, h'.get? it = some o := by
      obtain ⟨o, ho, _⟩ := T'
      exact ⟨o, ho⟩
    have J : Inv X pins σ (upd H it (TitO t it (i + 1))) { s with heap := h' } :=
      I.write (t' := s.toks) (x := it) (e := it) (by rw [hit]; exact True.intro) (.inl rfl) (fun b u hb hu => (same.2 b hb).trans hu) ex (tit_ok T')
    have hq' : upd H it (TitO t it (i + 1)) q = some (.lst (ys.take i)) := by rw [upd_ne hqi]; exact hq
    obtain ⟨z, its2, n2, r2, hl2, e2⟩ := J.lstM hq'
    have l2 : its2.length ≤ i := by rw [← hl2, List.length_take]; omega
    show wpAny _ A1.in1 (updateSeq q (·.push u) >>= _) _ _ _
    refine wpAny_bind (wpAny_updateSeq e2 rfl (wpAny_pure ⟨plainId_quiet PySem.F.plain_extend_loop _, ?_⟩) (by rw [List.size_toArray]; omega) (by show (its2.toArray.push u).size ≤ sizeLine + 1; rw [Array.size_push, List.size_toArray]; omega))
    have tk : ys.take (i + 1) = ys.take i ++ [ys[i]] := take_one hlt
    have J2 := J.lset (f := (·.push u)) (its' := its2 ++ [u]) (ys := ys.take i ++ [ys[i]]) (t' := s.toks) hq' e2 (List.push_toArray its2 u) (r2.append (.cons ru .nil)) (by rw [List.length_append, List.length_singleton, List.length_take]; omega)
    refine ih (i + 1) _ _ (by omega) J2 ?_ ?_ (by rw [tk, upd_same])
    · intro b o h1 h2 e
      rw [upd_ne h1, upd_ne h2]
      exact hB b o h1 h2 e
    · rw [upd_ne hqi.symm, upd_same]

/-- the list's room is made -/
theorem touched {q : Addr} {A : Around} {R : Unit → Shared → Prop} {E : Value → Shared → Prop} (I : Inv X pins σ H s) (hq : H q = some (.lst []))
    (h : ∀ s', Inv X pins σ H s' → R () s') : wpAny (model X.prog X.w) A (Builtin.List.listTouch (.ref q)) R E s := by
  obtain ⟨z, its, k, r3, hl3, e3⟩ := I.lstM hq
  cases r3
  show wpAny _ _ (updateSeq q (·.push .none) >>= fun _ => updateSeq q (·.pop)) _ _ _
  refine wpAny_bind (wpAny_updateSeq e3 rfl ?_)
  have I2 := I.lset (f := (·.push Value.none)) (its' := [Value.none]) (ys := [.non]) (t' := s.toks) hq e3 (by simp) (.cons rfl .nil) (by rw [List.length_singleton, sizeLine_eq]; decide)
  obtain ⟨z4, its4, k4, r4, hl4, e4⟩ := I2.lstM upd_same
  obtain ⟨u4, rfl, ru4⟩ := r4.one
  refine wpAny_updateSeq e4 rfl ?_ (by show 1 ≤ sizeLine; rw [sizeLine_eq]; decide) (by show 0 ≤ sizeLine + 1; exact Nat.zero_le _)
  have I3 := I2.lset (f := (·.pop)) (its := [u4]) (its' := []) (ys := []) (t' := s.toks) upd_same e4 (by rfl) .nil (Nat.zero_le _)
  rw [upd_upd] at I3
  have hH : upd H q (.lst []) = H := by
    funext b
    by_cases hb : b = q
    · rw [hb, upd_same, hq]
    · rw [upd_ne hb]
  rw [hH] at I3
  exact h _ I3

/-- a class whose instances hand on a tuple's iterator, and have a length -/
structure ItT (K : PySem.W.Frag) (C fi fl : Addr) : Prop where
  it : Meth K C "__iter__" fi
  ln : Meth K C "__len__" fl
/-- what its __iter__ promises: an iterator of the tuple that R tells; what its __len__ promises -/
def spIt (K : PySem.W.Frag) (R : Addr → Addr → List V → Hp → Prop) : Sp := fun vs H Q _ => ∃ a t ys, vs = [.ref a] ∧ R a t ys H ∧ SqT K H t ys ∧ ∀ it, H it = none → Q (.ref it) (upd H it (TitO t it 0))
def spLn (R : Addr → Addr → List V → Hp → Prop) : Sp := fun vs H Q _ => ∃ a t ys, vs = [.ref a] ∧ R a t ys H ∧ Q (.int (ys.length : Int)) H
/-- list(o) -/
def rListO (K : PySem.W.Frag) (C : Addr) (R : Addr → Addr → List V → Hp → Prop) : List V → Hp → VK → Prop := fun xs H Q =>
  ∃ a dx fs t ys, xs = [.ref a] ∧ H a = some (.ins C dx fs) ∧ (∀ H', (∀ b o, H b = some o → H' b = some o) → R a t ys H') ∧ SqT K H t ys ∧ ys.length < sizeLine ∧
    ∀ q H', (∀ b o, H b = some o → H' b = some o) → H q = none → H' q = some (.lst ys) → Q (.ref q) H'
theorem call_listO {C fi fl : Addr} {k : Nat} {fdI fdL : FuncData} {psI psL : List Str} {R : Addr → Addr → List V → Hp → Prop} (hc : ItT X.K C fi fl)
    (FI : FnOk X.prog X.w X.K X.mg X.base CX0 k fi fdI psI (spIt X.K R)) (bI : Binds X.K fdI psI []) (FL : FnOk X.prog X.w X.K X.mg X.base CX0 k fl fdL psL (spLn R)) (bL : Binds X.K fdL psL [])
    (hr : Room (k + 5) X.A) : CallR X (.type "list") (rListO X.K C R) := by
  intro pins s σ H xs us Q I rv h
  obtain ⟨a, dx, fs, t, ys, rfl, ha, hR, ht, hlen, hq⟩ := h
  obtain ⟨u, rfl, ru⟩ := rv.one
  cases ru
  have rm2 : Room (k + 3) X.A.in1.in1 := (hr.in1).in1
  have sb : Sub X (k + 3) X.A.in1.in1 := Sub.in1 (Sub.in1 (⟨hr, rfl⟩ : Sub X (k + 5) X.A))
  refine callType_codes (Q₁ := fun obj s₁ => obj = .ref s.heap.objs.size ∧ s₁ = { s with heap := s.heap.push { cls := .type "list", data := .seq #[] } }) PySem.F.called_list (PySem.F.typeCall_list_1 _) PySem.F.entry_list_init
    (code_list_new _ ⟨rfl, rfl⟩) ?_
  intro obj s₁ h₁
  obtain ⟨rfl, rfl⟩ := h₁
  have hS : (s.heap.push { cls := .type "list", data := .seq #[] }).get? s.heap.objs.size = some { cls := .type "list", data := .seq #[] } := Heap.get?_push_size _ rfl
  refine ⟨⟨_, hS, rfl⟩, PySem.F.args_list_init_2 _ _, ?_⟩
  have fr : H s.heap.objs.size = none := I.hok.fresh (Nat.le_refl _)
  have I1 : Inv X pins σ (upd H s.heap.objs.size (.lst [])) { s with heap := s.heap.push { cls := .type "list", data := .seq #[] } } := I.lnew (its := []) (t' := s.toks) .nil (Nat.zero_le _)
  generalize hqq : s.heap.objs.size = q at *
  show wpAny _ _ (do let old ← Builtin.List.listItems (.ref q); Builtin.List.listUpdate (.ref q) (fun _ => #[]); letGo old.toList.reverse; Builtin.List.listExtendWith (.ref q) (.ref a) .none) _ _ _
  refine wpAny_bind ?_
  unfold Builtin.List.listItems
  refine wpAny_bind (wpAny_seqItems hS rfl (wpAny_pure ?_))
  show wpAny _ _ (updateSeq q (fun _ => #[]) >>= fun _ => letGo (#[] : Array Value).toList.reverse >>= fun _ => Builtin.List.listExtendWith (.ref q) (.ref a) .none) _ _ _
  refine wpAny_bind (wpAny_updateSeq hS rfl ?_)
  have I2 := I1.lset (f := fun _ => #[]) (its := []) (its' := []) (ys := []) (t' := s.toks) upd_same hS rfl .nil (Nat.zero_le _)
  rw [upd_upd] at I2
  refine wpAny_bind (wpAny_letGo ?_)
  have H2ext : ∀ b o, H b = some o → upd H q (.lst []) b = some o := fun b o e => by
    rw [upd_ne (ne_of_none e fr)]
    exact e
  have ha2 := H2ext _ _ ha
  have hq2 : upd H q (.lst []) q = some (.lst []) := upd_same
  have ht2 : SqT X.K (upd H q (.lst [])) t ys := ht.ext H2ext
  generalize hH2 : upd H q (.lst []) = H2 at *
  have hne : q ≠ a := ne_of hq2 ha2 (fun z => nomatch z)
  obtain ⟨od, J⟩ := seen I2 ha2
  obtain ⟨m0, hF⟩ := I2.fr
  unfold Builtin.List.listExtendWith
  refine wpAny_bind (J.type.here ?_)
  have h1 : Builtin.List.listSameRef (.ref q) (.ref a) = false := by simp [Builtin.List.listSameRef, hne]
  have h2 : (Value.ref C == Value.type "list") = false := rfl
  have h3 : (Value.ref C == Value.type "tuple") = false := rfl
  simp only [h1, h2, h3, Bool.or_false, Bool.false_eq_true, if_false]
  refine wpAny_bind (PySem.W.owit_iter hF I2.ok.mod.kin J hc.it.at_ hc.it.fn ?_)
  have e0 : Env0 X.prog X.w X.K X.mg X.base X.A.in1.in1 X.stack _ H2 := I2.env0.in1.in1
  have room : Room k X.A.in1.in1 := rm2.mono (by omega)
  have hspI : spIt X.K R [.ref a] H2 (fun v H' => ∃ it, v = .ref it ∧ H2 it = none ∧ H' = upd H2 it (TitO t it 0)) E0 := ⟨a, t, ys, rfl, hR _ H2ext, ht2, fun it n => ⟨it, rfl, n, rfl⟩⟩
  have hl := FI.len _ _ _ _ hspI
  have r2 : Vals [V.ref a] [Value.ref a] := .cons rfl .nil
  refine wpAny_call (codeAny_mono (FI.run X.A.in1.in1 X.stack _ H2 ⟨[.ref a], []⟩ [.ref a] [.ref a] _ E0 room e0 (by
    have := bI _ [.ref a] I2.kIn (by simpa using hl)
    simpa using this) r2 hspI) ?_)
  intro r s' hq'
  match r, hq' with
  | .error e, hq' => exact hq'.elim
  | .ok .next, hq' => exact False.elim hq'
  | .ok .brk, hq' => exact False.elim hq'
  | .ok .cont, hq' => exact False.elim hq'
  | .ok (.ret u), hq' =>
    obtain ⟨v, H3, I3, rv3, it, rfl, itn, rfl⟩ := I2.after hq'
    cases rv3
    have hit : upd H2 it (TitO t it 0) it = some (TitO t it 0) := upd_same
    have T : s'.heap.IsTupleIter it t 0 := (I3.hok it _ hit).1
    have E3 : ∀ b o, H b = some o → upd H2 it (TitO t it 0) b = some o := fun b o e => by
      rw [upd_ne (ne_of_none (H2ext _ _ e) itn)]
      exact H2ext _ _ e
    have ha3 := E3 _ _ ha
    have hqi : q ≠ it := ne_of_none hq2 itn
    have hq3 : upd H2 it (TitO t it 0) q = some (.lst []) := by
      rw [upd_ne hqi]
      exact hq2
    have ht3 : SqT X.K (upd H2 it (TitO t it 0)) t ys := ht.ext E3
    have hqt : q ≠ t := by
      intro z
      subst z
      rcases ht with (z | ⟨o, z⟩) | ⟨o, its, n, z, hcls, _⟩
      · rw [fr] at z
        cases z
      · rw [fr] at z
        cases z
      · obtain ⟨_, its2, n2, _, _, e2⟩ := I2.lstM hq2
        have e3 := I2.kIn _ _ z
        rw [e2] at e3
        cases (Option.some.inj e3)
        exact absurd (Value.type.inj hcls) (by decide)
    have hti : t ≠ it := by
      intro z
      subst z
      rcases ht2 with (z | ⟨o, z⟩) | ⟨o, its, n, z, hcls, _⟩
      · rw [itn] at z
        cases z
      · rw [itn] at z
        cases z
      · obtain ⟨o2, e2, c2, _⟩ := T
        have e3 := I3.kIn _ _ z
        rw [e2] at e3
        cases (Option.some.inj e3)
        rw [c2] at hcls
        exact absurd (Value.type.inj hcls) (by decide)
    refine wpAny_specialOf (Heap.IsTupleIter.typeIs T) PySem.F.slot_tuple_iterator_next.lookup ?_
    have loop : ∀ s4, Inv X pins σ (upd H2 it (TitO t it 0)) s4 → codeAny (model X.prog X.w) X.A.in1 (.builtin "list.extend.loop" ⟨[.ref q, .ref it, .none], []⟩)
        (wants (fun r s₂ => r = Value.none ∧ EP X pins σ Q (Value.ref q) s₂) X.xe) s4 := by
      intro s4 I4
      refine drain (A1 := X.A.in1) rm2.hd hqi hqt hti (upd H2 it (TitO t it 0)) hlen ht3 ?_ ys.length 0 _ s4 rfl I4 (fun b o _ _ e => e) hit (by rw [List.take_zero]; exact hq3)
      intro H' s5 I5 hB5 hq5 _
      refine ⟨rfl, .ref q, H', I5, rfl, hq q H' ?_ fr hq5⟩
      intro b o e
      have nq : b ≠ q := ne_of_none e fr
      have ni : b ≠ it := ne_of_none (H2ext _ _ e) itn
      exact hB5 b o nq ni (E3 _ _ e)
    have fin : ∀ s4, Inv X pins σ (upd H2 it (TitO t it 0)) s4 → wpAny (model X.prog X.w) X.A.in1.in1 (again (.builtin "list.extend.loop" ⟨[.ref q, .ref it, .none], []⟩))
        (fun fin s' => match fin with | .done f => wants (fun r s₂ => r = Value.none ∧ EP X pins σ Q (Value.ref q) s₂) X.xe (.ok f) s' | .again c' => c'.quiet = true ∧ codeAny (model X.prog X.w) X.A.in1 c' (wants (fun r s₂ => r = Value.none ∧ EP X pins σ Q (Value.ref q) s₂) X.xe) s')
        (fun e s' => wants (fun r s₂ => r = Value.none ∧ EP X pins σ Q (Value.ref q) s₂) X.xe (.error e) s') s4 := by
      intro s4 I4
      exact wpAny_pure ⟨plainId_quiet PySem.F.plain_extend_loop _, loop s4 I4⟩
    refine wpAny_bind (wpAny_holding ?_)
    obtain ⟨od3, J3⟩ := seen I3 ha3
    obtain ⟨m3, hF3⟩ := I3.fr
    unfold Builtin.List.listLengthHint
    refine wpAny_bind (wpAny_bind (J3.type.here ((PySem.W.looks_findIn I3.kIn hc.ln.at_).here ?_)))
    refine PySem.W.KFB.if_not rfl ?_
    refine PySem.W.KFB.if_so rfl ?_
    refine wpAny_bind (wpAny_rule ?_)
    refine wpAny_bind (m := (call (.builtin "len") [Value.ref a]).attempt) (wpAny_attempt ?_)
    refine PySem.W.len_K hF3 I3.ok.mod.kin J3 hc.ln.at_ hc.ln.fn ?_
    have hspL : spLn R [.ref a] (upd H2 it (TitO t it 0)) (fun v H' => v = .int (ys.length : Int) ∧ H' = upd H2 it (TitO t it 0)) E0 := ⟨a, t, ys, rfl, hR _ E3, rfl, rfl⟩
    have hlL := FL.len _ _ _ _ hspL
    refine wpAny_call (codeAny_mono (FL.run X.A.in1.in1.in1 X.stack _ _ ⟨[.ref a], []⟩ [.ref a] [.ref a] _ E0 (rm2.in1.mono (by omega)) I3.env0.in1.in1.in1 (by
      have := bL _ [.ref a] I3.kIn (by simpa using hlL)
      simpa using this) r2 hspL) ?_)
    intro r4 s4 hq4
    match r4, hq4 with
    | .error e, hq4 => exact hq4.elim
    | .ok .next, hq4 => exact False.elim hq4
    | .ok .brk, hq4 => exact False.elim hq4
    | .ok .cont, hq4 => exact False.elim hq4
    | .ok (.ret u4), hq4 =>
      obtain ⟨v4, H4, I4, rv4, rfl, rfl⟩ := I3.after hq4
      obtain ⟨tk4, rfl⟩ := rv4
      have l63 := line63
      refine ⟨⟨Int.natCast_nonneg _, by omega⟩, ?_⟩
      show wpAny _ _ (asInt? (Value.int (ys.length : Int) s4.toks) >>= _) _ _ _
      refine wpAny_bind (wpAny_pure ?_)
      show wpAny _ _ (if Builtin.List.listTooLong (ys.length : Int).toNat = true then _ else _) _ _ _
      rw [if_neg (by rw [Int.toNat_natCast, notLongL (Nat.le_of_lt hlen)]; exact Bool.false_ne_true)]
      refine wpAny_pure ?_
      have I5 := I4.tok (s4.toks + 1)
      refine wpAny_ite_split (fun _ => ?_) (fun _ => fin _ I5)
      exact wpAny_bind (wpAny_rule (wpAny_bind (touched I5 hq3 fin)))
end
end Gd

set_option Elab.async false
set_option linter.all false
set_option maxRecDepth 100000
set_option maxHeartbeats 4000000
/-! bool(o) and != of own classes. -/
namespace PySem
section
variable {prog : Program} {w : World} {A : Around} {E : Value → Shared → Prop} {s : Shared}
theorem bool_new_any (x : Value) : MeetsIn prog w (Builtin.«bool.__new__» ⟨[.type "bool", x], []⟩) (fun A R s =>
    wpAny (model prog w) A.in1 (truthy x) (fun b s' => R (.ok (.ret (.bool b))) s') (fun e s' => R (.error e) s') s) := by
  intro A R s h
  have f1 := F.conv_sub_bool
  unfold Builtin.«bool.__new__»
  refine wpAny_bind (wpAny_of_eq (a := true) (by first | rfl | kernel_rfl) ?_)
  refine PySem.W.KFB.if_not rfl ?_
  refine wpAny_bind (wpAny_of_eq f1 ?_)
  refine PySem.W.KFB.if_not rfl ?_
  refine wpAny_bind (m := someArgs "bool" 0 1 _) (wpAny_of_eq (a := [x]) (by first | rfl | kernel_rfl!) ?_)
  refine wpAny_bind (wpAny_mono h (fun b s' q => ?_) fun _ _ z => z)
  exact wpAny_pure q
theorem call_bool_any {x : Value} {Q : Value → Shared → Prop}
    (h : wpAny (model prog w) A.in1.in1 (truthy x) (fun b s' => Q (.bool b) s') E s) : wpAny (model prog w) A (call (.type "bool") [x]) Q E s := by
  refine callType_newIn F.called_bool F.newNe_bool (F.typeCall_bool_1 x) (F.newCall_bool_1 x) (fun obj => F.args_object_init_2 obj x) F.entry_bool_new (bool_new_any x) ?_
  exact wpAny_mono h (fun b s' q => ⟨rfl, q⟩) fun _ _ z => z
end
end PySem

namespace HN2
open PySem PySem.Spec PyProof.Rows PySem.SeqAt
section
variable {prog : Program} {w : World} {A : Around} {E : Value → Shared → Prop} {s : Shared} {K : PySem.W.Frag} {x C f : Addr} {ox : Obj} {od : Option Obj} {y : Value}
theorem ne_entry (hu : A.units < cLine) (X : K.In s.heap) (I : PySem.W.InstAt s.heap x ox C od) (hs : PySem.W.findIn K (.ref C) "__eq__" = some (some (.ref f))) (hf : PySem.W.isFn K (.ref f) = true) {Q : Fin → Shared → Prop}
    (h : wpAny (model prog w) A (call (.ref f) [.ref x, y]) (fun v s' => ∃ b, v = .bool b ∧ Q (.done (.ret (.bool (!b)))) s') E s) :
    wpAny (model prog w) A (Builtin.«object.__ne__» ⟨[.ref x, y], []⟩) Q E s := by
  unfold Builtin.«object.__ne__»
  refine wpAny_bind (m := slotArgs "__ne__" 1 _) (wpAny_of_eq (a := (Value.ref x, [y])) (by first | rfl | kernel_rfl!) ?_)
  refine wpAny_bind (wpAny_cRoomFor hu ?_)
  refine wpAny_bind (m := callSpecialIfBound? (.ref x) (Str.ofString "__eq__") [y]) (PySem.W.ifBound_K X I hs hf (wpAny_mono h (fun v s' z => ?_) fun _ _ z => z))
  obtain ⟨b, rfl, q⟩ := z
  exact wpAny_bind (wpAny_truthy_bool (wpAny_pure q))
theorem ifBound_ne {M : Model} {args : List Value} {Q : Option Value → Shared → Prop} (X : K.In s.heap) (I : PySem.W.InstAt s.heap x ox C od) (hs : PySem.W.findIn K (.ref C) "__ne__" = some (some (.builtin "object.__ne__")))
    (h : wpAny M A (call (.builtin "object.__ne__") (.ref x :: args)) (fun v => Q (some v)) E s) : wpAny M A (callSpecialIfBound? (.ref x) "__ne__" args) Q E s := by
  simp only [callSpecialIfBound?, bindSpecialIfBound?]
  refine wpAny_holding (wpAny_bind (wpAny_bind (wpAny_bind (I.type.here ((PySem.W.looks_findIn X hs).here ?_)))))
  refine wpAny_bind (wpAny_askSetting (wpAny_ite ?_))
  have last : wpAny M A (call (.builtin "object.__ne__") ([.ref x] ++ args) >>= fun v => pure (some v)) Q E s :=
    wpAny_bind (wpAny_mono h (fun v s' h' => wpAny_pure h') fun _ _ h' => h')
  split
  · exact wpAny_bind (wpAny_of_eq (F.cmp_object.ne.bind _) (wpAny_pure (by exact last)))
  · exact wpAny_tryCatch (wpAny_bind (wpAny_of_eq (F.cmp_object.ne.bind _) (wpAny_pure (by exact last))))
theorem rich_ne {tb : Value} {Q : Value → Shared → Prop} (hu : A.units + 1 < cLine) (X : K.In s.heap) (I : PySem.W.InstAt s.heap x ox C od) (hb : PySem.W.Looks (model prog w) s.heap (typeOf y) tb)
    (hn : PySem.W.notFirst K C tb = true) (hne : PySem.W.findIn K (.ref C) "__ne__" = some (some (.builtin "object.__ne__"))) (ho : PySem.W.mroIn K C (.type "object") = some true)
    (hs : PySem.W.findIn K (.ref C) "__eq__" = some (some (.ref f))) (hf : PySem.W.isFn K (.ref f) = true)
    (h : wpAny (model prog w) A.in1 (call (.ref f) [.ref x, y]) (fun v s' => ∃ b, v = .bool b ∧ Q (.bool (!b)) s') E s) :
    wpAny (model prog w) A (richCompare .NotEq (.ref x) y) Q E s := by
  have one : wpAny (model prog w) A (tryCompare (.ref x) "__ne__" y) (fun r s' => ∃ v, r = some v ∧ Q v s') E s := by
    unfold tryCompare
    refine wpAny_bind (ifBound_ne X I hne (wpAny_call (codeAny_call_builtin F.cmp_object.ne.plain F.cmpEntry_ne (PySem.W.check_slot F.cmpKind_ne F.cmpSplit_ne (I.type.andThen (PySem.W.looks_mroIn X ho)) (F.cmpArgs_ne _ _)
      (ne_entry (A := A.in1) (by show A.units + 1 < cLine; exact hu) X I hs hf (wpAny_mono h (fun v s' z => ?_) fun _ _ z => z))))))
    obtain ⟨b, rfl, q⟩ := z
    exact ⟨b, rfl, wpAny_pure ⟨_, rfl, q⟩⟩
  unfold richCompare
  simp only [oneThing_ref]
  refine wpAny_holding (wpAny_bind (wpAny_cRoomFor (Nat.lt_of_succ_lt hu) ?_))
  rw [cmpInfo_NotEq]
  dsimp only
  refine wpAny_bind (I.type.here (wpAny_bind (hb.here ?_)))
  split
  · rename_i q
    have e : PySem.W.subIn K tb (.ref C) = some false := by
      rcases Bool.or_eq_true_iff.mp hn with e | e
      · rw [beq_iff_eq.mp e] at q
        simp at q
      · exact beq_iff_eq.mp e
    refine wpAny_bind ((PySem.W.looks_subIn X e).here ?_)
    simp only [Bool.false_eq_true, if_false]
    refine wpAny_bind (m := tryCompare (.ref x) _ y) (wpAny_mono one (fun r s' z => ?_) fun _ _ e => e)
    obtain ⟨v, rfl, hq⟩ := z
    exact wpAny_pure hq
  · refine wpAny_bind (wpAny_pure ?_)
    simp only [Bool.false_eq_true, if_false]
    refine wpAny_bind (m := tryCompare (.ref x) _ y) (wpAny_mono one (fun r s' z => ?_) fun _ _ e => e)
    obtain ⟨v, rfl, hq⟩ := z
    exact wpAny_pure hq
end
end HN2

namespace Gd
open PySem PySem.Spec PyProof.Rows L2
section
variable {X : Cx} {CX : CXT} {k : Nat} {f C : Addr} {fd : FuncData} {ps : List Str} {sp : Sp}
/-- what != of a class with an own == asks of the class -/
structure NeC (K : PySem.W.Frag) (C : Addr) : Prop where
  ne : PySem.W.findIn K (.ref C) "__ne__" = some (some (.builtin "object.__ne__"))
  ob : PySem.W.mroIn K C (.type "object") = some true
def rNeO (K : PySem.W.Frag) (C : Addr) (sp : Sp) (E : XK) : R2 := fun x y H Q => ∃ p dx fs t, x = .ref p ∧ H p = some (.ins C dx fs) ∧
  TyX K H y t ∧ PySem.W.notFirst K C t = true ∧ sp [x, y] H (fun v H' => ∃ c, v = .bl c ∧ Q (.bl (!c)) H') E
theorem op_neO {E : XK} (hn : NeC X.K C) (hm : Meth X.K C "__eq__" f) (F : FnOk X.prog X.w X.K X.mg X.base CX k f fd ps sp) (hr : Room (k + 1) X.A)
    (hb : Binds X.K fd ps []) (hx : ∀ σ, PassesAt CX X σ E) : OpR X (compareOp .NotEq) (rNeO X.K C sp E) := by
  intro pins s σ H x y v u Q I rx ry h
  obtain ⟨p, dx, fs, t, rfl, ep, ty, hnf, hsp⟩ := h
  cases rx
  obtain ⟨od, J⟩ := seen I ep
  obtain ⟨P, Z, hP, _⟩ := kit_of I ry ty
  show wpAny _ _ (richCompare .NotEq _ _) _ _ _
  refine HN2.rich_ne (hu_of hr) I.kIn J (Z.ty _ _ I.kIn hP) hnf hn.ne hn.ob hm.at_ hm.fn ?_
  refine wpAny_mono (runAt (.inr rfl) F hr hb .nil (hx σ) I (.cons (show RelV (V.ref p) (Value.ref p) from rfl) (.cons ry .nil)) hsp) ?_ (fun _ _ z => z)
  rintro w s' ⟨z, H', I', rz, c, rfl, q⟩
  cases rz
  exact ⟨c, rfl, .bl (!c), H', I', rfl, q⟩
/-- bool(o) -/
def rBoolO (C : Addr) (sp : Sp) (E : XK) : List V → Hp → VK → Prop := fun xs H Q => ∃ p dx fs, xs = [.ref p] ∧ H p = some (.ins C dx fs) ∧
  sp [.ref p] H (fun v H' => ∃ c, v = .bl c ∧ Q (.bl c) H') E
theorem call_boolO {E : XK} (hm : Meth X.K C "__bool__" f) (F : FnOk X.prog X.w X.K X.mg X.base CX k f fd ps sp) (hr : Room (k + 2) X.A)
    (hb : Binds X.K fd ps []) (hx : ∀ σ, PassesAt CX X σ E) : CallR X (.type "bool") (rBoolO C sp E) := by
  intro pins s σ H xs us Q I r h
  obtain ⟨p, dx, fs, rfl, ep, hsp⟩ := h
  obtain ⟨u, rfl, hu1⟩ := vals1 r
  cases hu1
  obtain ⟨od, J⟩ := seen I ep
  obtain ⟨m, hF⟩ := I.fr
  refine call_bool_any (PySem.W.truthy_K hF I.ok.mod.kin J hm.at_ hm.fn ?_)
  have hl := F.len _ _ _ _ hsp
  refine wpAny_call (codeAny_mono (F.run X.A.in1.in1 X.stack s H ⟨[.ref p], []⟩ [.ref p] [.ref p] _ E hr.in1.in1 I.env0.in1.in1 (by
    have := hb s [.ref p] I.kIn (by simpa using hl)
    simpa using this) (.cons (show RelV (V.ref p) (Value.ref p) from rfl) .nil) hsp) ?_)
  intro r s' hq
  match r, hq with
  | .error e, hq => exact hx σ pins H s e s' I hq
  | .ok .next, hq => exact False.elim hq
  | .ok .brk, hq => exact False.elim hq
  | .ok .cont, hq => exact False.elim hq
  | .ok (.ret u), hq =>
    obtain ⟨v, H', I', rv, c, rfl, q⟩ := I.after hq
    cases rv
    exact ⟨.bl c, H', I', rfl, q⟩
end
end Gd

set_option Elab.async false
set_option linter.all false
set_option maxRecDepth 100000
set_option maxHeartbeats 4000000
/-! enumerate(a tuple). -/
namespace HN4
open PySem PySem.Spec PyProof.Rows PySem.SeqAt
theorem meets_enum1 {v : Value} {o : Obj} {G : Heap → Prop} (B : Begins v o G) : Meets (Builtin.«enumerate.__new__» ⟨[.type "enumerate", v], []⟩) (fun _ R s => G s.heap ∧
    R (.ok (.ret (.ref (s.heap.push o).objs.size))) { s with heap := (s.heap.push o).push { cls := .type "enumerate", data := .fields #[.none, .bool false, .ref s.heap.objs.size, rawInt 0, .none, .none] } }) := by
  refine .of_wp fun prog w A R ⟨hp, g, d, tk, os⟩ hh => ?_
  obtain ⟨h1, h⟩ := hh
  have sb := sub_enumerate
  have it : ∀ {A' : Around} {E : Value → Shared → Prop} {Q : Value → Shared → Prop}, Q (.ref hp.objs.size) ⟨hp.push o, g, d, tk, os⟩ → wpAny (model prog w) A' (pyIter v) Q E ⟨hp, g, d, tk, os⟩ := fun q => B.iter prog w _ _ ⟨hp, g, d, tk, os⟩ _ h1 q
  wp_walk using it
  refine wpAny_stack_any fun st => wpAny_pure ?_
  split
  · rename_i c _ _ _ _ _
    cases (c == Value.type "enumerate") <;> (wp_walk using it; exact ⟨_, rfl, h⟩)
  · wp_walk using it
    exact ⟨_, rfl, h⟩
theorem begins_tup (t : Addr) (items : Array Value) : Begins (.ref t) { cls := .type "tuple_iterator", data := .fields #[.ref t, .int 0 0] } (fun h => h.IsTuple t items) where
  iter := fun prog w A E s Q ht hq => wpAny_pyIter_tuple ht hq
  keeps := fun h h' ht k => ht.at fun o e => k _ _ e
  free := rfl
section
variable {prog : Program} {w : World} {A : Around} {E : Value → Shared → Prop} {s : Shared}
theorem call_enumT {t : Addr} {items : Array Value} {Q : Value → Shared → Prop} (ht : s.heap.IsTuple t items)
    (h : ∀ h', IsEnum h' (s.heap.objs.size + 1) s.heap.objs.size 0 .none → h'.IsTupleIter s.heap.objs.size t 0 → (∀ b o, s.heap.get? b = some o → h'.get? b = some o) → Q (.ref (s.heap.objs.size + 1)) { s with heap := h' }) :
    wpAny (model prog w) A (call (.type "enumerate") [.ref t]) Q E s := by
  let o1 : Obj := { cls := .type "tuple_iterator", data := .fields #[.ref t, .int 0 0] }
  let o2 : Obj := { cls := .type "enumerate", data := .fields #[.none, .bool false, .ref s.heap.objs.size, rawInt 0, .none, .none] }
  have e1 : (s.heap.push o1).objs.size = s.heap.objs.size + 1 := Heap.size_push ..
  have e2 : ((s.heap.push o1).push o2).get? (s.heap.objs.size + 1) = some o2 := by
    have q := Heap.get?_push_size (s.heap.push o1) (o := o2) rfl
    rw [e1] at q
    exact q
  refine callType_new F.called_enumerate (by decide) (F.typeCall_enumerate_1 _) (F.newCall_enumerate_1 _) (fun obj => F.args_object_init_2 obj _) F.entry_enumerate_new (meets_enum1 (begins_tup t items)) ⟨ht, ?_⟩
  show _ ∧ _
  rw [e1]
  exact ⟨⟨_, e2, rfl⟩, h _ e2 ⟨_, Heap.get?_push_of_some _ (Heap.get?_push_size _ rfl), rfl, rfl⟩ fun b ob x => Heap.get?_push_of_some _ (Heap.get?_push_of_some _ x)⟩
end
end HN4
namespace Gd
open PySem PySem.Spec PyProof.Rows L2
/-- a tuple walked with its places: at each turn a new pair -/
def IteT (K : PySem.W.Frag) (t : Addr) : It where
  go := fun i H => ∃ (xs : List V) (x : V), SqT K H t xs ∧ xs[i]? = some x
  yld := fun i H v H' => ∃ T x, v = .ref T ∧ H T = none ∧ H' = upd H T (.tup [.int (i : Nat), x]) ∧ ∀ xs, SqT K H t xs → xs[i]? = some x
  stop := fun i H => ∃ xs : List V, SqT K H t xs ∧ xs.length = i
theorem tit_apart {h : Heap} {t it : Addr} {i : Nat} {items : Array Value} (a : h.IsTupleIter it t i) (b : h.IsTuple t items) : t ≠ it := by
  intro z
  subst z
  obtain ⟨o1, g1, c1, _⟩ := a
  obtain ⟨o2, g2, c2, _⟩ := b
  rw [g1] at g2
  cases g2
  rw [c1] at c2
  exact absurd c2 (by decide)
theorem enum_apart {h : Heap} {e it t : Addr} {k : Int} {old : Value} {items : Array Value} (a : IsEnum h e it k old) (b : h.IsTuple t items) : e ≠ t := by
  intro z
  subst z
  obtain ⟨o2, g2, c2, _⟩ := b
  have g1 : h.get? e = some _ := a
  rw [g1] at g2
  cases g2
  exact absurd c2 (by simp)
theorem turn_enumT {P : Program} {w : World} {K : PySem.W.Frag} {elts : List Expr} {kk : Nat} {tpos : Pos} (t e it : Addr) :
    Turn P w K (.Tuple elts kk tpos) (IteT K t) [e, it] e (fun i h => (∃ old, IsEnum h e it ((i : Nat) : Int) old) ∧ h.IsTupleIter it t i ∧ e ≠ it) where
  mem := List.mem_cons_self
  obj := by
    rintro i h ⟨⟨old, he⟩, ⟨o, ho, hc, hd⟩, _⟩ b hb
    rcases List.mem_cons.mp hb with rfl | hb
    · exact ⟨_, he, fun v q => nomatch q⟩
    · rw [List.mem_singleton.mp hb]
      refine ⟨o, ho, fun v q => ?_⟩
      rw [hd] at q
      cases q
  keep := by
    rintro i h h' ⟨⟨old, he⟩, hi, ne⟩ k
    exact ⟨⟨old, k e List.mem_cons_self _ he⟩, hi.at fun o q => k it (List.mem_cons_of_mem _ List.mem_cons_self) o q, ne⟩
  item := by
    intro X hP hw hK hc i pins s σ H E I hf st hg
    subst hP hw hK
    obtain ⟨⟨old, he⟩, hit, ne⟩ := st
    obtain ⟨xs, x, hq, hx⟩ := hg
    obtain ⟨its, rv, p, hz⟩ := I.tuple hq
    have pt := isTuple_of p
    obtain ⟨u, hu, ru⟩ := rv.get hx
    have a1 := tit_apart hit pt
    have a2 := enum_apart he pt
    have le : e < s.heap.objs.size := Heap.lt_size he
    have li : it < s.heap.objs.size := by
      obtain ⟨_, q, _⟩ := hit
      exact Heap.lt_size q
    have hlt : i < its.toArray.size := by
      rcases Nat.lt_or_ge i its.toArray.size with z | z
      · exact z
      · rw [List.getElem?_eq_none_iff.mpr (by simpa using z)] at hu
        cases hu
    refine wpAny_pyNext_enum_itemD (Draws.tuple (show X.A.in1.handled = none from I.ok.hd hc) it t a1 its.toArray) he ⟨hit, pt⟩ hlt ne (by simp [ne, a2]) fun y h1 tk hy ho st1 hT hsz hk => ?_
    obtain rfl : y = u := by
      rw [List.getElem?_toArray, hu] at hy
      exact (Option.some.inj hy).symm
    refine ⟨_, rfl, wpAny_letOwnedTupleGo_enum (s := { s with heap := h1, toks := tk + 1 }) ho fun h2 he2 sb => ?_⟩
    have hT2 : h2.get? s.heap.objs.size = some { cls := .type "tuple", data := .seq #[.int i tk, y] } := (sb.2 _ (Nat.ne_of_gt le)).trans hT
    have new : ObjOk X.prog X.w (upd H s.heap.objs.size (.tup [.int (i : Nat), x])) h2 s.heap.objs.size (.tup [.int (i : Nat), x]) :=
      ⟨by show 2 ≤ sizeLine; decide, [.int i tk, y], .cons ⟨_, rfl⟩ (.cons ru .nil), ⟨_, hT2, rfl, _, rfl⟩⟩
    have I1 : Inv X pins σ (upd H s.heap.objs.size (.tup [.int (i : Nat), x])) { s with heap := h2, toks := tk + 1 } :=
      I.turnedNew (ch := [e, it]) (fun b ob hb q => (sb.2 b (fun z => hb (by simp [z]))).trans (hk b ob (fun z => hb (by simp [z])) (fun z => hb (by simp [z])) q)) hf (Nat.le_refl _) new
    refine ⟨.ref s.heap.objs.size, _, I1, rfl, ⟨_, x, rfl, I.hok.fresh (Nat.le_refl _), rfl, fun ys hy => ?_⟩, ⟨⟨y, ?_⟩, st1.1.at fun o q => (sb.2 it (Ne.symm ne)).trans q, ne⟩, fun b hb => ?_⟩
    · rw [I.tuple_inj hy hq]
      exact hx
    · rw [show ((i + 1 : Nat) : Int) = (i : Int) + 1 by omega]
      exact he2
    · have lb : b < s.heap.objs.size := by
        rcases List.mem_cons.mp hb with rfl | hb
        · exact le
        · rw [List.mem_singleton.mp hb]
          exact li
      rw [upd_ne (Nat.ne_of_lt lb)]
      exact (hf b hb).1
  done := by
    intro X hP hw hK hc i pins s σ H E I hf st hg
    subst hP hw hK
    obtain ⟨⟨old, he⟩, hit, ne⟩ := st
    obtain ⟨xs, hq, hx⟩ := hg
    obtain ⟨its, rv, p, hz⟩ := I.tuple hq
    have pt := isTuple_of p
    obtain ⟨f0, f1, f2, f3, f4, f5⟩ := hf it (by simp)
    have n : i = its.toArray.size := by
      rw [List.size_toArray, ← rv.length]
      exact hx.symm
    subst n
    exact wpAny_pyNext_enum_endD (Draws.tuple (show X.A.in1.handled = none from I.ok.hd hc) it t (tit_apart hit pt) its.toArray) he ⟨hit, pt⟩ fun h1 eb => ⟨rfl, I.turned (t' := s.toks) (fun b o hb q => eb b o hb q) f0 f1 f3 f4 f5⟩
  self := fun A i s Q E st h => let ⟨⟨_, he⟩, _⟩ := st; wpAny_pyIter_enum he h
theorem call_of_enum {X : Cx} {elts : List Expr} {kk : Nat} {tpos : Pos} {pins : List (Addr × Obj)} {σ : L2.St} {H : Hp} {s : Shared} {R : It → Hp → Prop} {t : Addr} {items : Array Value} (I : Inv X pins σ H s) (pl : IsTup s.heap t items) (q : R (IteT X.K t) H) :
    wpAny (model X.prog X.w) X.A (call (.type "enumerate") [.ref t]) (fun v s2 => wpAny (model X.prog X.w) X.A (pyIter v) (PIE X pins σ (.Tuple elts kk tpos) R) X.xe s2) X.xe s := by
  refine HN4.call_enumT (isTuple_of pl) fun h1 he hit hk => wpAny_pyIter_enum he ?_
  refine ⟨s.heap.objs.size + 1, [s.heap.objs.size + 1, s.heap.objs.size], _, _, H, rfl, I.kept (t' := s.toks) hk, turn_enumT t _ _, ⟨⟨.none, he⟩, hit, Nat.succ_ne_self _⟩, fun b hb => ?_, q⟩
  have hle : s.heap.objs.size ≤ b := by
    rcases List.mem_cons.mp hb with rfl | hb
    · exact Nat.le_add_right _ _
    · rw [List.mem_singleton.mp hb]
      exact Nat.le_refl _
  exact I.fpOk hle (I.hok.fresh hle)
def iEnumT (K : PySem.W.Frag) (ta : TA) : TI := fun σ H R => ta σ H fun vs H1 => ∃ t xs, vs = [.ref t] ∧ SqT K H1 t xs ∧ R (IteT K t) H1
theorem pi_enumT {X : Cx} {e : Expr} {ta : TA} {p pos tpos : Pos} {elts : List Expr} {kk : Nat} (hg : Gl X "enumerate") (hm : X.mg "enumerate" = none) (ha : PA X [e] ta) (hs : starEach [e] X.env = [(false, eval e X.env)] := by rfl) :
    PI X (.Tuple elts kk tpos) (.Call (.Name "enumerate" p) [e] [] pos) (iEnumT X.K ta) := by
  constructor
  intro pins s σ H R I h
  refine Call_ (ld_blt I hg hm boot_enumerate (PyProof.Rows.callWith_type1 (thn (ha.run pos pins s σ H _ I h) fun us s1 q0 => ?_) hs rfl))
  obtain ⟨vs, H1, I1, r1, t, xs, ex, hq, q⟩ := q0
  subst ex
  obtain rfl := Vals.ref1 r1
  obtain ⟨its, rv, pl, hz⟩ := I1.tuple hq
  refine call_of_enum I1 pl q
/-- a loop over the pairs of a tuple -/
theorem for_enumT {K : PySem.W.Frag} {t : Addr} {xs : List V} {g : TG} {tb : TS} {D : Ends} {σ : L2.St} {H : Hp} (Pv : Nat → L2.St → Hp → Prop) (h0 : Pv 0 σ H) (hl : ∀ i σ H, i ≤ xs.length → Pv i σ H → SqT K H t xs)
    (hs : ∀ i x σ H T, xs[i]? = some x → Pv i σ H → H T = none → g (.ref T) σ (upd H T (.tup [.int (i : Nat), x])) fun σ2 H2 => tb { D with nx := Pv (i + 1), ct := Pv (i + 1), bk := D.nx } σ2 H2) (hd : ∀ σ H, Pv xs.length σ H → D.nx σ H) :
    ∃ W : Nat → Nat → L2.St → Hp → Prop, (∃ m, W 0 m σ H) ∧ ∀ i m σ H, W i m σ H →
      ((IteT K t).stop i H ∧ D.nx σ H) ∨ ((IteT K t).go i H ∧ ∃ N : L2.St → Hp → Prop, (∀ σ' H', N σ' H' → ∃ m', m' < m ∧ W (i + 1) m' σ' H') ∧ ∀ x H', (IteT K t).yld i H x H' → g x σ H' fun σ2 H2 => tb { D with nx := N, ct := N, bk := D.nx } σ2 H2) := by
  refine ⟨fun i m σ H => m = xs.length - i ∧ i ≤ xs.length ∧ Pv i σ H, ⟨xs.length, rfl, Nat.zero_le _, h0⟩, ?_⟩
  rintro i m σ H ⟨rfl, hi, p⟩
  have q := hl i σ H hi p
  rcases Nat.lt_or_ge i xs.length with hlt | hge
  · refine .inr ⟨⟨xs, xs[i], q, List.getElem?_eq_getElem hlt⟩, Pv (i + 1), fun σ' H' p' => ⟨xs.length - (i + 1), by omega, rfl, hlt, p'⟩, ?_⟩
    rintro y H' ⟨T, x, rfl, hT, rfl, hx⟩
    exact hs i x σ H T (hx xs q) p hT
  · have e : i = xs.length := Nat.le_antisymm hi hge
    subst e
    exact .inl ⟨⟨xs, q, rfl⟩, hd σ H p⟩
end Gd

set_option Elab.async false
set_option linter.all false
set_option maxRecDepth 100000
set_option maxHeartbeats 4000000
/-! zip of two sequences, each a list or a tuple. -/
namespace Gd
open PySem PySem.Spec PyProof.Rows L2
/-- a list (true) or a tuple (false) -/
def SqE (K : PySem.W.Frag) (l : Bool) (H : Hp) (a : Addr) (xs : List V) : Prop := match l with
  | true => SqL K H a xs
  | false => SqT K H a xs
def HpE (l : Bool) (h : Heap) (a : Addr) (items : Array Value) : Prop := match l with
  | true => h.IsList a items
  | false => h.IsTuple a items
def ItE (l : Bool) (h : Heap) (it a : Addr) (i : Nat) : Prop := match l with
  | true => h.IsListIter it a i
  | false => h.IsTupleIter it a i
def objE (l : Bool) (a : Addr) : Obj := match l with
  | true => { cls := .type "list_iterator", data := .fields #[.ref a, .int 0 0] }
  | false => { cls := .type "tuple_iterator", data := .fields #[.ref a, .int 0 0] }
section
variable {l : Bool} {h h' : Heap} {a it : Addr} {i : Nat} {items : Array Value}
theorem ItE.at (x : ItE l h it a i) (k : ∀ o, h.get? it = some o → h'.get? it = some o) : ItE l h' it a i := by
  cases l with
  | true => exact Heap.IsListIter.at (show h.IsListIter it a i from x) k
  | false => exact Heap.IsTupleIter.at (show h.IsTupleIter it a i from x) k
theorem ItE.there (x : ItE l h it a i) : ∃ o, h.get? it = some o ∧ ∀ v, o.data ≠ .cell v := by
  cases l with
  | true =>
    obtain ⟨o, g, _, d⟩ := (show h.IsListIter it a i from x)
    exact ⟨o, g, fun v q => by rw [d] at q; cases q⟩
  | false =>
    obtain ⟨o, g, _, d⟩ := (show h.IsTupleIter it a i from x)
    exact ⟨o, g, fun v q => by rw [d] at q; cases q⟩
theorem ItE.apart (x : ItE l h it a i) (y : HpE l h a items) : a ≠ it := by
  intro z
  subst z
  cases l with
  | true =>
    obtain ⟨o1, g1, c1, _⟩ := (show h.IsListIter a a i from x)
    obtain ⟨o2, g2, c2, _⟩ := (show h.IsList a items from y)
    rw [g1] at g2
    cases g2
    rw [c1] at c2
    exact absurd c2 (by simp)
  | false => exact tit_apart (show h.IsTupleIter a a i from x) (show h.IsTuple a items from y) rfl
theorem drawsE {prog : Program} {w : World} {A : Around} (hh : A.handled = none) (ne : a ≠ it) : Draws prog w A it [it, a] items.size (fun i v => items[i]? = some v) (fun i h => ItE l h it a i ∧ HpE l h a items) := by
  cases l with
  | true => exact Draws.list hh it a ne items
  | false => exact Draws.tuple hh it a ne items
theorem beginsE : Begins (.ref a) (objE l a) (fun h => HpE l h a items) := by
  cases l with
  | true => exact begins_list a items
  | false => exact begins_tuple a items
theorem ItE.new (g : h.get? it = some (objE l a)) : ItE l h it a 0 := by
  cases l with
  | true => exact ⟨_, g, rfl, rfl⟩
  | false => exact ⟨_, g, rfl, rfl⟩
end
section
variable {X : Cx} {pins : List (Addr × Obj)} {σ : L2.St} {H : Hp} {s : Shared} {l : Bool} {a : Addr} {xs ys : List V}
theorem seqE (I : Inv X pins σ H s) (h : SqE X.K l H a xs) : ∃ its : List Value, Vals xs its ∧ HpE l s.heap a its.toArray := by
  cases l with
  | true =>
    obtain ⟨its, rv, p, _⟩ := I.list (show SqL X.K H a xs from h)
    exact ⟨its, rv, p.isList⟩
  | false =>
    obtain ⟨its, rv, p, _⟩ := I.tuple (show SqT X.K H a xs from h)
    exact ⟨its, rv, isTuple_of p⟩
theorem injE (I : Inv X pins σ H s) (h1 : SqE X.K l H a xs) (h2 : SqE X.K l H a ys) : xs = ys := by
  cases l with
  | true => exact I.list_inj h1 h2
  | false => exact I.tuple_inj h1 h2
end
/-- both walked together: at each turn a new pair -/
def ItzE (K : PySem.W.Frag) (l1 l2 : Bool) (a b : Addr) : It where
  go := fun i H => ∃ (xs ys : List V) (x y : V), SqE K l1 H a xs ∧ SqE K l2 H b ys ∧ xs[i]? = some x ∧ ys[i]? = some y
  yld := fun i H v H' => ∃ T x y, v = .ref T ∧ H T = none ∧ H' = upd H T (.tup [x, y]) ∧ (∀ xs, SqE K l1 H a xs → xs[i]? = some x) ∧ ∀ ys, SqE K l2 H b ys → ys[i]? = some y
  stop := fun i H => ∃ xs ys : List V, SqE K l1 H a xs ∧ SqE K l2 H b ys ∧ i = min xs.length ys.length
theorem lt_of_get {its : List Value} {i : Nat} {u : Value} (h : its[i]? = some u) : i < its.toArray.size := by
  rw [List.size_toArray]
  exact (List.getElem?_eq_some_iff.mp h).1
theorem turn_zipE {P : Program} {w : World} {K : PySem.W.Frag} {elts : List Expr} {kk : Nat} {tpos : Pos} {l1 l2 : Bool} {a b z TI TO i1 i2 : Addr} (S : ZipSep2 z TI TO i1 i2 [i1, a] [i2, b]) :
    Turn P w K (.Tuple elts kk tpos) (ItzE K l1 l2 a b) [z, TI, TO, i1, i2] z (fun i h => IsZip h z TI TO .none ∧ IsTupOf2 h TI (.ref i1) (.ref i2) ∧ (∃ x y, IsTupOf2 h TO x y) ∧ ItE l1 h i1 a i ∧ ItE l2 h i2 b i) where
  mem := List.mem_cons_self
  obj := by
    rintro i h ⟨hz, hTI, ⟨x, y, hTO⟩, h1, h2⟩ c hc
    simp only [List.mem_cons, List.not_mem_nil, or_false] at hc
    rcases hc with rfl | rfl | rfl | rfl | rfl
    · exact ⟨_, hz, fun v q => nomatch q⟩
    · exact ⟨_, hTI, fun v q => nomatch q⟩
    · exact ⟨_, hTO, fun v q => nomatch q⟩
    · exact h1.there
    · exact h2.there
  keep := by
    rintro i h h' ⟨hz, hTI, ⟨x, y, hTO⟩, h1, h2⟩ k
    exact ⟨k _ (by simp) _ hz, k _ (by simp) _ hTI, ⟨x, y, k _ (by simp) _ hTO⟩, h1.at fun o q => k _ (by simp) o q, h2.at fun o q => k _ (by simp) o q⟩
  item := by
    intro X hP hw hK hc i pins s σ H E I hf st hg
    subst hP hw hK
    obtain ⟨hz, hTI, ⟨x0, y0, hTO⟩, h1, h2⟩ := st
    obtain ⟨xs, ys, x, y, hqx, hqy, hx, hy⟩ := hg
    obtain ⟨its, rv, p⟩ := seqE I hqx
    obtain ⟨its2, rv2, p2⟩ := seqE I hqy
    obtain ⟨u, hu, ru⟩ := rv.get hx
    obtain ⟨u2, hu2, ru2⟩ := rv2.get hy
    have hd : X.A.in1.handled = none := I.ok.hd hc
    have zl : z < s.heap.objs.size := Heap.lt_size hz
    refine wpAny_pyNext_zipD2_item S (drawsE hd (h1.apart p)) (drawsE hd (h2.apart p2)) hz hTI hTO ⟨h1, p⟩ ⟨h2, p2⟩ (lt_of_get hu) (lt_of_get hu2) fun v1 v2 h3 tk e1 e2 z3 TO3 s1 s2 hT hsz hk => ?_
    obtain rfl : v1 = u := by
      rw [List.getElem?_toArray, hu] at e1
      exact (Option.some.inj e1).symm
    obtain rfl : v2 = u2 := by
      rw [List.getElem?_toArray, hu2] at e2
      exact (Option.some.inj e2).symm
    refine ⟨_, rfl, wpAny_letOwnedTupleGo_zip (s := { s with heap := h3, toks := tk }) z3 fun h4 z4 sb => ?_⟩
    have hT4 : h4.get? s.heap.objs.size = some { cls := .type "tuple", data := .seq #[v1, v2] } := (sb.2 _ (Nat.ne_of_gt zl)).trans hT
    have new : ObjOk X.prog X.w (upd H s.heap.objs.size (.tup [x, y])) h4 s.heap.objs.size (.tup [x, y]) := ⟨by show 2 ≤ sizeLine; decide, [v1, v2], .cons ru (.cons ru2 .nil), ⟨_, hT4, rfl, _, rfl⟩⟩
    have kp : ∀ c o, c ∉ [z, TI, TO, i1, i2] → s.heap.get? c = some o → h4.get? c = some o := fun c o hb q => by
      simp only [List.mem_cons, List.not_mem_nil, or_false, not_or] at hb
      exact (sb.2 c hb.1).trans (hk c o hb.1 hb.2.2.1 hb.2.2.2.1 hb.2.2.2.2 q)
    have J : Inv X pins σ (upd H s.heap.objs.size (.tup [x, y])) { s with heap := h4, toks := tk } := I.turnedNew (t' := tk) kp hf (Nat.le_refl _) new
    refine ⟨.ref s.heap.objs.size, _, J, rfl, ⟨_, x, y, rfl, I.hok.fresh (Nat.le_refl _), rfl, fun m hm => ?_, fun m hm => ?_⟩, ⟨z4, ?_, ⟨v1, v2, ?_⟩, ?_, ?_⟩, fun c hcm => ?_⟩
    · rw [injE I hm hqx]
      exact hx
    · rw [injE I hm hqy]
      exact hy
    · exact (sb.2 _ S.TIz).trans (hk _ _ S.TIz S.TITO S.TIi1 S.TIi2 hTI)
    · exact (sb.2 _ S.TOz).trans TO3
    · exact s1.1.at fun o q => (sb.2 _ S.zi1.symm).trans q
    · exact s2.1.at fun o q => (sb.2 _ S.zi2.symm).trans q
    · have lt : c < s.heap.objs.size := by
        obtain ⟨_, g1, _⟩ := h1.there
        obtain ⟨_, g2, _⟩ := h2.there
        have hm := hcm
        simp only [List.mem_cons, List.not_mem_nil, or_false] at hm
        rcases hm with rfl | rfl | rfl | rfl | rfl
        · exact zl
        · exact Heap.lt_size hTI
        · exact Heap.lt_size hTO
        · exact Heap.lt_size g1
        · exact Heap.lt_size g2
      rw [upd_ne (Nat.ne_of_lt lt)]
      exact (hf c hcm).1
  done := by
    intro X hP hw hK hc i pins s σ H E I hf st hg
    subst hP hw hK
    obtain ⟨hz, hTI, ⟨x0, y0, hTO⟩, h1, h2⟩ := st
    obtain ⟨xs, ys, hqx, hqy, hend⟩ := hg
    obtain ⟨its, rv, p⟩ := seqE I hqx
    obtain ⟨its2, rv2, p2⟩ := seqE I hqy
    have n1 : its.toArray.size = xs.length := by rw [List.size_toArray, rv.length]
    have n2 : its2.toArray.size = ys.length := by rw [List.size_toArray, rv2.length]
    have hd : X.A.in1.handled = none := I.ok.hd hc
    refine wpAny_pyNext_zipD2_end S (drawsE hd (h1.apart p)) (drawsE hd (h2.apart p2)) hz hTI hTO ⟨h1, p⟩ ⟨h2, p2⟩ (by omega) (by omega) (by omega) fun h3 tk hk => ⟨rfl, I.turnedL (t' := tk) (fun c o hb q => ?_) hf⟩
    simp only [List.mem_cons, List.not_mem_nil, or_false, not_or] at hb
    exact hk c o hb.1 hb.2.2.1 hb.2.2.2.1 hb.2.2.2.2 q
  self := fun A i s Q E st h => wpAny_pyIter_zip st.1 h
def iZipE (K : PySem.W.Frag) (ta : TA) : TI := fun σ H R => ta σ H fun vs H1 => ∃ l1 l2 a b xs ys, vs = [.ref a, .ref b] ∧ SqE K l1 H1 a xs ∧ SqE K l2 H1 b ys ∧ R (ItzE K l1 l2 a b) H1
theorem HpE.lt {l : Bool} {h : Heap} {a : Addr} {items : Array Value} (x : HpE l h a items) : a < h.objs.size := by
  cases l with
  | true =>
    obtain ⟨o, g, _⟩ := (show h.IsList a items from x)
    exact Heap.lt_size g
  | false =>
    obtain ⟨o, g, _⟩ := (show h.IsTuple a items from x)
    exact Heap.lt_size g
theorem call_of_zip {X : Cx} {elts : List Expr} {kk : Nat} {tpos : Pos} {pins : List (Addr × Obj)} {σ : L2.St} {H : Hp} {s : Shared} {R : It → Hp → Prop} {l1 l2 : Bool} {a b : Addr} {i1 i2 : Array Value} (I : Inv X pins σ H s)
    (p1 : HpE l1 s.heap a i1) (p2 : HpE l2 s.heap b i2) (q : R (ItzE X.K l1 l2 a b) H) :
    wpAny (model X.prog X.w) X.A (call (.type "zip") [.ref a, .ref b]) (fun v s2 => wpAny (model X.prog X.w) X.A (pyIter v) (PIE X pins σ (.Tuple elts kk tpos) R) X.xe s2) X.xe s := by
  refine zip_begins2 beginsE beginsE p1 p2 fun h1 hz hTI hTO g1 g2 _ hk => wpAny_pyIter_zip hz ?_
  have sep : ZipSep2 (s.heap.objs.size + 4) (s.heap.objs.size + 2) (s.heap.objs.size + 3) s.heap.objs.size (s.heap.objs.size + 1) [s.heap.objs.size, a] [s.heap.objs.size + 1, b] :=
    zip_sep2 (fun c hc => by rw [List.mem_singleton.mp hc]; exact p1.lt) (fun c hc => by rw [List.mem_singleton.mp hc]; exact p2.lt)
  refine ⟨s.heap.objs.size + 4, [s.heap.objs.size + 4, s.heap.objs.size + 2, s.heap.objs.size + 3, s.heap.objs.size, s.heap.objs.size + 1], _, _, H, rfl, I.kept (t' := s.toks) hk, turn_zipE sep, ⟨hz, hTI, ⟨_, _, hTO⟩, .new g1, .new g2⟩, fun c hc => ?_, q⟩
  have le : s.heap.objs.size ≤ c := by
    simp only [List.mem_cons, List.not_mem_nil, or_false] at hc
    rcases hc with rfl | rfl | rfl | rfl | rfl
    all_goals first | exact Nat.le_refl _ | exact Nat.le_add_right _ _
  exact I.fpOk le (I.hok.fresh le)
theorem pi_zipE {X : Cx} {e e2 : Expr} {ta : TA} {p pos tpos : Pos} {elts : List Expr} {kk : Nat} (hg : Gl X "zip") (hm : X.mg "zip" = none) (ha : PA X [e, e2] ta)
    (hs : starEach [e, e2] X.env = (false, eval e X.env) :: starEach [e2] X.env := by rfl) (hpl : (backTo pos (starEach [e2] X.env)).any (·.1) = false := by rfl) :
    PI X (.Tuple elts kk tpos) (.Call (.Name "zip" p) [e, e2] [] pos) (iZipE X.K ta) := by
  constructor
  intro pins s σ H R I h
  refine Call_ (ld_blt I hg hm PyProof.Rows.boot_zip (PyProof.Rows.callWith_type1 (thn (ha.run pos pins s σ H _ I h) fun us s1 q0 => ?_) hs hpl))
  obtain ⟨vs, H1, I1, r1, l1, l2, a, b, xs, ys, ex, hx, hy, q⟩ := q0
  subst ex
  obtain ⟨u1, u2, rfl, r1, r2⟩ := vals2 r1
  cases r1
  cases r2
  obtain ⟨i1, _, p1⟩ := seqE I1 hx
  obtain ⟨i2, _, p2⟩ := seqE I1 hy
  exact call_of_zip I1 p1 p2 q
theorem walk_zipE {K : PySem.W.Frag} {l1 l2 : Bool} {a b : Addr} {xs ys : List V} {n : Nat} (hn : n = min xs.length ys.length) :
    Walk (ItzE K l1 l2 a b) n (fun H => SqE K l1 H a xs ∧ SqE K l2 H b ys) (YPair (fun i => xs[i]?) (fun i => ys[i]?)) where
  goes := fun i H hi q => by
    have h1 : i < xs.length := by omega
    have h2 : i < ys.length := by omega
    exact ⟨xs, ys, xs[i], ys[i], q.1, q.2, List.getElem?_eq_getElem h1, List.getElem?_eq_getElem h2⟩
  stops := fun H q => ⟨xs, ys, q.1, q.2, hn⟩
  yields := by
    rintro i H v H' _ q ⟨T, x, z, h1, h2, h3, h4, h5⟩
    exact ⟨T, x, z, h1, h2, h3, h4 xs q.1, h5 ys q.2⟩
theorem walk_enumT {K : PySem.W.Frag} {a : Addr} {xs : List V} : Walk (IteT K a) xs.length (fun H => SqT K H a xs) (YPair (fun i => some (.int (i : Nat))) (fun i => xs[i]?)) where
  goes := fun i H hi q => ⟨xs, xs[i], q, List.getElem?_eq_getElem hi⟩
  stops := fun H q => ⟨xs, q, rfl⟩
  yields := by
    rintro i H v H' _ q ⟨T, x, h1, h2, h3, h4⟩
    exact ⟨T, _, x, h1, h2, h3, rfl, h4 xs q⟩
end Gd

set_option Elab.async false
set_option linter.all false
set_option maxRecDepth 100000
set_option maxHeartbeats 4000000
/-! + - * of own classes, with an own object or an integer at the right; - of one. -/
namespace HN3
open PySem PySem.Spec PyProof.Rows PySem.SeqAt
section
variable {prog : Program} {w : World} {A : Around} {E : Value → Shared → Prop} {s : Shared} {K : PySem.W.Frag} {x C f : Addr} {ox : Obj} {od : Option Obj}
theorem name_there {M : Model} {h : Heap} {nm : String} (X : K.In h) (hs : PySem.W.findIn K (.ref C) (PySem.dunder nm) = some (some (.ref f))) (hr : PySem.W.findIn K (.ref C) (PySem.dunderR nm) = some none) :
    PySem.W.Looks M h (numberSlotInPython (.ref C) nm) true := by
  intro A Q E s k q
  unfold numberSlotInPython
  refine wpAny_bind (PySem.W.looks_findIn X hs A _ E s k ?_)
  refine wpAny_bind (wpAny_pure ?_)
  refine wpAny_bind (PySem.W.looks_findIn X hr A _ E s k ?_)
  refine wpAny_bind (wpAny_pure ?_)
  exact wpAny_pure q
theorem binop1_int {nm : String} {n : Int} {t : Tok} {z : Value} {Q : Value → Shared → Prop} (X : K.In s.heap) (I : PySem.W.InstAt s.heap x ox C od) (hc : PySem.W.selfFirst K C = true)
    (hs : PySem.W.findIn K (.ref C) (PySem.dunder nm) = some (some (.ref f))) (hrn : PySem.W.findIn K (.ref C) (PySem.dunderR nm) = some none) (hf : PySem.W.isFn K (.ref f) = true)
    (fi : fillsNumberSlot (.type "int") nm = pure true) (hsub : PySem.W.subIn K (.type "int") (.ref C) = some false) (hz : typeLookup (.type "int") (PySem.dunderR nm) = pure (some z))
    (h : wpAny (model prog w) A (call (.ref f) [.ref x, .int n t]) (PySem.W.CmpBack Q) E s) : wpAny (model prog w) A (binaryOp1 nm (.ref x) (.int n t)) (fun r s' => ∃ v, r = some v ∧ Q v s') E s := by
  obtain ⟨cd, hcd, hm⟩ := PySem.W.any_some hc
  obtain ⟨rest, hm⟩ : ∃ rest, cd.mro = .ref C :: rest := by
    cases q : cd.mro with
    | nil => rw [q] at hm; cases hm
    | cons a r => rw [q] at hm; exact ⟨r, by rw [List.head?_cons] at hm; cases (beq_iff_eq.mp hm); rfl⟩
  unfold binaryOp1
  refine wpAny_bind (I.type.here ?_)
  refine wpAny_bind (wpAny_of_eq (a := Value.type "int") rfl ?_)
  refine wpAny_bind ((PySem.W.fills_K X hcd hm hs).here ?_)
  have e : (Value.ref C == Value.type "int") = false := rfl
  rw [e]
  simp only [Bool.false_eq_true, if_false]
  refine wpAny_bind (wpAny_of_eq fi ?_)
  simp only [Bool.and_self, if_true]
  refine wpAny_bind ((PySem.W.looks_subIn X hsub).here ?_)
  simp only [Bool.false_eq_true, if_false]
  refine wpAny_bind ((name_there X hs hrn).here ?_)
  simp only [if_true]
  refine wpAny_bind (wpAny_of_eq (a := false) rfl ?_)
  simp only [Bool.not_false, if_true]
  refine wpAny_bind (wpAny_of_eq hz ?_)
  refine wpAny_bind (m := tryMethod (.ref x) _ (.int n t)) ?_
  unfold tryMethod
  refine wpAny_bind (PySem.W.special_fn X I hs (beq_iff_eq.mp hf) (wpAny_mono h (fun v s' hv => ?_) fun _ _ e => e))
  cases v <;> first | exact hv.elim | exact wpAny_pure (wpAny_pure ⟨_, rfl, hv⟩)
theorem binop_int {op : Operator} {n : Int} {t : Tok} {z : Value} {Q : Value → Shared → Prop} (X : K.In s.heap) (I : PySem.W.InstAt s.heap x ox C od) (hc : PySem.W.selfFirst K C = true)
    (hs : PySem.W.findIn K (.ref C) (PySem.dunder op.info.2) = some (some (.ref f))) (hrn : PySem.W.findIn K (.ref C) (PySem.dunderR op.info.2) = some none) (hf : PySem.W.isFn K (.ref f) = true)
    (fi : fillsNumberSlot (.type "int") op.info.2 = pure true) (hsub : PySem.W.subIn K (.type "int") (.ref C) = some false) (hz : typeLookup (.type "int") (PySem.dunderR op.info.2) = pure (some z))
    (h : wpAny (model prog w) A (call (.ref f) [.ref x, .int n t]) (PySem.W.CmpBack Q) E s) : wpAny (model prog w) A (binaryOp op (.ref x) (.int n t)) Q E s := by
  unfold binaryOp
  refine wpAny_holding (wpAny_bind (wpAny_mono (binop1_int X I hc hs hrn hf fi hsub hz h) (fun r s' hr => ?_) fun _ _ e => e))
  obtain ⟨v, rfl, q⟩ := hr
  exact wpAny_pure q
theorem neg_own {Q : Value → Shared → Prop} (X : K.In s.heap) (I : PySem.W.InstAt s.heap x ox C od)
    (hs : PySem.W.findIn K (.ref C) "__neg__" = some (some (.ref f))) (hf : PySem.W.isFn K (.ref f) = true)
    (h : wpAny (model prog w) A (call (.ref f) [.ref x]) Q E s) : wpAny (model prog w) A (unaryOp .USub (.ref x)) Q E s := by
  unfold unaryOp
  refine wpAny_holding ?_
  dsimp only
  rw [if_neg (by decide)]
  exact wpAny_bind (PySem.W.special_fn X I hs (beq_iff_eq.mp hf) (wpAny_mono h (fun v s' hv => wpAny_pure hv) fun _ _ e => e))
end
end HN3

namespace Gd
open PySem PySem.Spec PyProof.Rows L2
section
variable {X : Cx} {CX : CXT} {k : Nat} {f C : Addr} {fd : FuncData} {ps : List Str} {sp : Sp}
/-- what an operator of an own class asks of the class: m its method, r the name of the turned one, which nobody has -/
structure BinC (K : PySem.W.Frag) (C : Addr) (m r : Str) (f : Addr) : Prop where
  sf : PySem.W.selfFirst K C = true
  at_ : Meth K C m f
  rn : PySem.W.findIn K (.ref C) r = some none
/-- x OP y by the own method of x's class, y of that class or an integer; what it gives is an object -/
def rBinO (C : Addr) (sp : Sp) (E : XK) : R2 := fun x y H Q => ∃ p dx fs, x = .ref p ∧ H p = some (.ins C dx fs) ∧
  ((∃ q dy gs, y = .ref q ∧ H q = some (.ins C dy gs)) ∨ ∃ n, y = .int n) ∧ sp [x, y] H (fun v H' => (∃ q, v = .ref q) ∧ Q v H') E
theorem op_binO {op : Operator} {m r : Str} {z : Value} {E : XK} (e1 : PySem.dunder op.info.2 = m) (e2 : PySem.dunderR op.info.2 = r) (fi : fillsNumberSlot (.type "int") op.info.2 = pure true) (hz : typeLookup (.type "int") r = pure (some z))
    (B : BinC X.K C m r f) (F : FnOk X.prog X.w X.K X.mg X.base CX k f fd ps sp) (hr : Room (k + 1) X.A) (hb : Binds X.K fd ps []) (hx : ∀ σ, PassesAt CX X σ E) : OpR X (binaryOp op) (rBinO C sp E) := by
  subst e1 e2
  intro pins s σ H x y v u Q I rx ry h
  obtain ⟨p, dx, fs, rfl, ep, hy, hsp⟩ := h
  cases rx
  obtain ⟨od, J⟩ := seen I ep
  obtain ⟨m, hF⟩ := I.fr
  have run := wpAny_mono (runAt (.inl rfl) F hr hb .nil (hx σ) I (.cons (show RelV (V.ref p) (Value.ref p) from rfl) (.cons ry .nil)) hsp) (Q' := PySem.W.CmpBack (EP X pins σ Q)) (fun w s' hw => by
    obtain ⟨z, H', I', rz, ⟨q, rfl⟩, hq⟩ := hw
    cases rz
    exact ⟨.ref q, H', I', rfl, hq⟩) (fun _ _ z => z)
  rcases hy with ⟨q, dy, gs, rfl, eq⟩ | ⟨n, rfl⟩
  · cases ry
    obtain ⟨od2, J2⟩ := seen I eq
    exact PySem.W.binop_K hF I.ok.mod.kin J J2.type B.sf B.at_.at_ B.at_.fn run
  · obtain ⟨t, rfl⟩ := ry
    exact HN3.binop_int I.kIn J B.sf B.at_.at_ B.rn B.at_.fn fi (by kernel_rfl) hz run
theorem op_addO {E : XK} (B : BinC X.K C "__add__" "__radd__" f) (F : FnOk X.prog X.w X.K X.mg X.base CX k f fd ps sp) (hr : Room (k + 1) X.A) (hb : Binds X.K fd ps []) (hx : ∀ σ, PassesAt CX X σ E) : OpR X (binaryOp .Add) (rBinO C sp E) :=
  op_binO (op := .Add) (z := .builtin "int.__radd__") (by kernel_rfl) (by kernel_rfl) PySem.F.fills_int_add (by rw [typeLookup_type, builtinLookup_eq_fast]; kernel_rfl) B F hr hb hx
theorem op_subO {E : XK} (B : BinC X.K C "__sub__" "__rsub__" f) (F : FnOk X.prog X.w X.K X.mg X.base CX k f fd ps sp) (hr : Room (k + 1) X.A) (hb : Binds X.K fd ps []) (hx : ∀ σ, PassesAt CX X σ E) : OpR X (binaryOp .Sub) (rBinO C sp E) :=
  op_binO (op := .Sub) (z := .builtin "int.__rsub__") (by kernel_rfl) (by kernel_rfl) PySem.F.fills_int_sub (by rw [typeLookup_type, builtinLookup_eq_fast]; kernel_rfl) B F hr hb hx
theorem op_mulO {E : XK} (B : BinC X.K C "__mul__" "__rmul__" f) (F : FnOk X.prog X.w X.K X.mg X.base CX k f fd ps sp) (hr : Room (k + 1) X.A) (hb : Binds X.K fd ps []) (hx : ∀ σ, PassesAt CX X σ E) : OpR X (binaryOp .Mult) (rBinO C sp E) :=
  op_binO (op := .Mult) (z := .builtin "int.__rmul__") (by kernel_rfl) (by kernel_rfl) PySem.F.fills_int_mul (by rw [typeLookup_type, builtinLookup_eq_fast]; kernel_rfl) B F hr hb hx
/-- -x by the own method -/
def rNegO (C : Addr) (sp : Sp) (E : XK) : V → Hp → VK → Prop := fun x H Q => ∃ p dx fs, x = .ref p ∧ H p = some (.ins C dx fs) ∧ sp [x] H Q E
theorem un_negO {E : XK} (M : Meth X.K C "__neg__" f) (F : FnOk X.prog X.w X.K X.mg X.base CX k f fd ps sp) (hr : Room (k + 1) X.A) (hb : Binds X.K fd ps []) (hx : ∀ σ, PassesAt CX X σ E) : UnR X (unaryOp .USub) (rNegO C sp E) := by
  intro pins s σ H x v Q I rx h
  obtain ⟨p, dx, fs, rfl, ep, hsp⟩ := h
  cases rx
  obtain ⟨od, J⟩ := seen I ep
  exact HN3.neg_own I.kIn J M.at_ M.fn (runAt (.inl rfl) F hr hb .nil (hx σ) I (.cons (show RelV (V.ref p) (Value.ref p) from rfl) .nil) hsp)
end
end Gd

set_option Elab.async false
set_option linter.all false
set_option maxRecDepth 100000
set_option maxHeartbeats 4000000
/-! The sum and the count of a tuple; an integer and a tuple of integers, < ; != of two lists whose items are equal by an own ==. -/
namespace NeL
open PySem PySem.SeqAt
open AutoSeq1 (wpAny_loadPart')
open MeetsSeq MeetsSeq2 MeetsSeq3 SeqRoads2
section
variable {prog : Program} {w : World} {A : Around} {R : Result → Shared → Prop}
theorem ne_loopG (l b : Addr) (N : Nat) (I : Nat → Shared → Prop) (hl : GQ.ListI prog w A (fun e s' => R (.error e) s') l b N I)
    (fin : ∀ s, I N s → R (.ok (.ret (.bool false))) s) (k : Nat) :
    ∀ i : Nat, N - i = k → i ≤ N → ∀ s, I i s →
      wpAny (model prog w) A.in1 (Builtin.«list.__eq__.loop» ⟨[.ref l, .ref b, rawInt i, rawInt 3], []⟩) (GQ.FinOf prog w A R) (fun e s' => R (.error e) s') s := by
  induction k with
  | zero =>
    intro i hk hi s h
    obtain ⟨items, items2, n, n2, hl1, hb1, hs1, hs2, _⟩ := hl _ _ h
    have hi' : i = N := by omega
    have hR : R (.ok (.ret (.bool false))) s := fin s (hi' ▸ h)
    obtain ⟨hp, g, d, tk, os⟩ := s
    wp_walk using wpAny_loadPart' hl1, wpAny_loadPart' hb1
    have hi1 : items[((i : Nat) : Int).toNat]? = none := by simp; omega
    have hi2 : items2[((i : Nat) : Int).toNat]? = none := by simp; omega
    rw [hi1, hi2]
    wp_walk using wpAny_loadPart' hl1, wpAny_loadPart' hb1
    show R (.ok (.ret (.bool (items.size != items2.size)))) _
    rw [hs1, hs2]
    simpa using hR
  | succ k ih =>
    intro i hk hi s h
    obtain ⟨items, items2, n, n2, hl1, hb1, hs1, hs2, turn⟩ := hl _ _ h
    have hlt : i < items.size := by omega
    have hlt2 : i < items2.size := by omega
    have ht := turn hlt hlt2
    obtain ⟨hp, g, d, tk, os⟩ := s
    wp_walk using wpAny_loadPart' hl1, wpAny_loadPart' hb1
    have hi1 : items[((i : Nat) : Int).toNat]? = some items[i] := by simp [hlt]
    have hi2 : items2[((i : Nat) : Int).toNat]? = some items2[i] := by simp [hlt2]
    have hc : ((i : Int) + 1) = ((i + 1 : Nat) : Int) := by omega
    rw [hi1, hi2]
    refine wpAny_bind (wpAny_mono ht (fun r s2 h2 => ?_) fun _ _ x => x)
    obtain ⟨hr, h2⟩ := h2
    subst hr
    have hrec := ih (i + 1) (by omega) (by omega) s2 h2
    obtain ⟨hp2, g2, d2, tk2, os2⟩ := s2
    wp_walk
    rw [hc]
    exact ⟨plainId_quiet plain_eq_loop _, codeAny_builtin entry_eq_loop (by
      rw [Around.under_plainId plain_eq_loop _]
      exact hrec)⟩
theorem list_neG (l b : Addr) (N : Nat) (I : Nat → Shared → Prop) (hl : GQ.ListI prog w A (fun e s' => R (.error e) s') l b N I)
    (fin : ∀ s, I N s → R (.ok (.ret (.bool false))) s) {s : Shared} (h : I 0 s) :
    wpAny (model prog w) A.in1 (Builtin.«list.__ne__» ⟨[.ref l, .ref b], []⟩) (GQ.FinOf prog w A R) (fun e s' => R (.error e) s') s := by
  obtain ⟨items, items2, n, n2, hl1, hb1, hs1, hs2, _⟩ := hl _ _ h
  have hrec := ne_loopG (A := A) (R := R) l b N I hl fin _ 0 rfl (Nat.zero_le _) s h
  obtain ⟨hp, g, d, tk, os⟩ := s
  have f3 := AutoSeq1.sub_list_list
  have hne : ¬ (items.size != items2.size) = true := by simp [hs1, hs2]
  wp_walk using wpAny_loadPart' hl1, wpAny_loadPart' hb1
  exact ⟨plainId_quiet plain_eq_loop _, codeAny_builtin entry_eq_loop (by
    rw [Around.under_plainId plain_eq_loop _]
    exact hrec)⟩
end
section
variable {prog : Program} {w : World} {A : Around} {E : Value → Shared → Prop} {s : Shared}
theorem rc {l b : Addr} {N : Nat} {Q : Value → Shared → Prop} (hu : A.units < cLine) (I : Nat → Shared → Prop) (hl : GQ.ListI prog w A E l b N I)
    (fin : ∀ s, I N s → Q (.bool false) s) (h : I 0 s) : wpAny (model prog w) A (richCompare .NotEq (.ref l) (.ref b)) Q E s := by
  obtain ⟨items, items2, n, n2, hl1, hb1, _, _, _⟩ := hl _ _ h
  refine wpAny_richCompare_same_room (op := .NotEq) ⟨_, hl1, rfl⟩ ⟨_, hb1, rfl⟩ F.slot_list_ne (GQ.call_here F.slot_list_ne ⟨_, hl1, rfl⟩ F.entry_list_ne (F.args_list_ne_2 _ _) ?_) hu
  exact list_neG (R := wants (fun v s' => v ≠ .notImplemented ∧ Q v s') E) l b N I hl (fun s' q => ⟨(fun x => nomatch x), fin s' q⟩) h
end
section
variable {prog : Program} {w : World} {A : Around} {E : Value → Shared → Prop} {s : Shared} {l : Addr} {xs : Array (Int × Tok)}
theorem sum_tup {Q : Value → Shared → Prop} (hh : A.handled = none) (hl : s.heap.IsTuple l (intItems xs))
    (h : ∀ h' tk t', (∀ b o, s.heap.get? b = some o → h'.get? b = some o) → Q (.int (preSum (numAt xs) xs.size) t') { s with heap := h', toks := tk }) :
    wpAny (model prog w) A (call (.builtin "sum") [.ref l]) Q E s := by
  have hlt : l < s.heap.objs.size := by obtain ⟨_, e, _⟩ := hl; exact Heap.lt_size e
  refine call_sum_walkG (wpAny_pyIter_tuple hl ?_)
  refine ⟨_, _, _, _, _, _, numAt xs, rfl, Walks.tuple (A := A.in1) hh _ l (Nat.ne_of_lt hlt) (intItems xs), ⟨⟨_, Heap.get?_push_size _ rfl, rfl, rfl⟩, hl.push _⟩, fun b hb => ?_, (fun _ _ => intItems_at), fun h' tk t' hk => ?_⟩
  · show b < (s.heap.push _).objs.size
    rw [Heap.size_push]
    rcases List.mem_cons.mp hb with rfl | hb
    · exact Nat.lt_succ_self _
    · rcases List.mem_cons.mp hb with rfl | hb
      · exact Nat.lt_succ_of_lt hlt
      · cases hb
  · have hold : ∀ b o, s.heap.get? b = some o → h'.get? b = some o := fun b o e => by
      refine hk b o (fun hm => ?_) (Heap.get?_push_of_some _ e)
      rcases List.mem_cons.mp hm with e1 | hm
      · exact absurd (e1 ▸ Heap.lt_size e) (Nat.lt_irrefl _)
      · cases hm
    have := h h' tk t' hold
    simpa [intItems] using this
theorem sum_tup_raw {its : List Value} {ns : List Int} {Q : Value → Shared → Prop} (hh : A.handled = none) (hl : s.heap.IsTuple l its.toArray) (hi : PyProof.Rows.IntsAre its ns)
    (h : ∀ h' tk t', (∀ b o, s.heap.get? b = some o → h'.get? b = some o) → Q (.int ns.sum t') { s with heap := h', toks := tk }) : wpAny (model prog w) A (call (.builtin "sum") [.ref l]) Q E s := by
  obtain ⟨xs, e⟩ := hi.allInts.items
  have hn : numsOf (intItems xs).toList = ns := by rw [← e]; exact hi.numsOf
  rw [nums_intItems] at hn
  rw [e] at hl
  refine sum_tup hh hl fun h' tk t' hk => ?_
  have := h h' tk t' hk
  rw [preSum_eq, List.take_of_length_le (by simp), hn]; exact this
end
end NeL
namespace Gd
open PySem PySem.Spec PyProof.Rows L2
open PySem.SeqAt (EqAt)
/-- x != y of two lists, item by item equal -/
def rNeL (D : Eqv) : R2 := fun x y H Q => DList D x y H ∧ ∀ H', L2.Ext H H' → Q (.bl false) H'
theorem op_neL {X : Cx} {n : Nat} {D : Eqv} (hD : Mon D) (h : EqG X n D) (hr : Room (n + 1) X.A) : OpR X (compareOp .NotEq) (rNeL D) := by
  intro pins s σ H x y v u Q I rx ry hw
  obtain ⟨⟨a, b, xs, ys, rfl, rfl, ha, hb, p⟩, q⟩ := hw
  cases rx
  cases ry
  show wpAny (model X.prog X.w) X.A (richCompare .NotEq (.ref a) (.ref b)) (EP X pins σ Q) X.xe s
  refine NeL.rc (N := xs.length) hr.units0 (fun _ s' => LoopI X pins σ H s') (fun i s' q => ?_) (fun t z => ?_) ⟨H, I, L2.Ext.rfl'⟩
  · obtain ⟨H1, I1, e1⟩ := id q
    obtain ⟨z, its, k, r, e⟩ := I1.hok a _ (e1 _ _ ha)
    obtain ⟨z2, its2, k2, r2, e2⟩ := I1.hok b _ (e1 _ _ hb)
    refine ⟨its.toArray, its2.toArray, k, k2, e, e2, by rw [List.size_toArray, ← r.length], by rw [List.size_toArray, ← r2.length, ← p.1], fun h1 h2 => ?_⟩
    exact turnG hD h ⟨hr, rfl⟩ p r r2 i h1 h2 s' q
  · obtain ⟨H', I', e⟩ := z
    exact ⟨.bl false, H', I', rfl, q H' e⟩
section
variable {X : Cx}
/-- sum(t) of a tuple of ints -/
def rSumT (K : PySem.W.Frag) : List V → Hp → VK → Prop := fun vs H Q => ∃ (a : Addr) (ns : List Int), vs = [V.ref a] ∧ SqT K H a (ns.map V.int) ∧ Q (.int ns.sum) H
theorem cr_sumT (hc : X.calm = true) : CallR X (.builtin "sum") (rSumT X.K) := by
  intro pins s σ H vs us Q I r h
  obtain ⟨a, ns, rfl, hs, q⟩ := h
  obtain ⟨its, rv, hl, _⟩ := I.tuple hs
  rw [Vals.ref1 r]
  exact NeL.sum_tup_raw (I.ok.hd hc) hl (intsAre_of rv) fun h' tk t' hk => ⟨.int _, H, I.kept hk, ⟨_, rfl⟩, q⟩
/-- t.count(k) of a tuple of ints -/
def rCntT (K : PySem.W.Frag) : V → List V → Hp → VK → Prop := fun x xs H Q => ∃ (p : Addr) (ns : List Int) (k : Int), x = .ref p ∧ xs = [.int k] ∧ SqT K H p (ns.map V.int) ∧ Q (.int (ns.count k : Nat)) H
theorem mt_tcount : MtR X "tuple.count" (rCntT X.K) := by
  intro pins s σ H x xs v us Q I rx rxs h
  obtain ⟨p, ns, k, rfl, rfl, hs, q⟩ := h
  cases rx
  obtain ⟨u, rfl, ru⟩ := rxs.one
  obtain ⟨t, rfl⟩ := ru
  obtain ⟨its, rv, ⟨⟨cls, dd, data, sl⟩, ho, hc, n, hd⟩, hlen⟩ := I.tuple hs
  simp only at hc hd
  subst hc hd
  have hi := intsAre_of rv
  refine call_meets PySem.F.slot_tuple_count ⟨_, ho, rfl⟩ PySem.F.entry_tuple_count (PySem.F.args_tuple_count_2 _ _)
    (SeqAt.tuple_countAt p its.toArray n dd sl (.int k t) (eqk k)) ⟨ho, fun y hy => (eqk_gives hi y (by simpa using hy)).at _ _, ?_⟩
  have ec : its.toArray.toList.countP (eqk k) = ns.count k := eqk_count hi
  refine ⟨.int (ns.count k : Nat), H, I.tok _, ⟨s.toks, ?_⟩, q⟩
  show Value.int ((its.toArray.toList.countP (eqk k) : Nat) : Int) s.toks = Value.int ((ns.count k : Nat) : Int) s.toks
  rw [ec]
def pdata (ns : List Int) : List PyData := ns.map PyData.int
theorem pdp {K : PySem.W.Frag} {H : Hp} : ∀ ns : List Int, DpAll K H (ns.map V.int) (pdata ns)
  | [] => .nil
  | n :: r => .cons (.int n) (pdp r)
theorem play : ∀ ns : List Int, PyData.canLayAll0 (pdata ns) = true
  | [] => by simp [pdata, PyData.canLayAll0]
  | n :: r => by
    have := play r
    unfold pdata at this ⊢
    simp [PyData.canLayAll0, PyData.canLay0, this]
theorem peqv : ∀ ns ms : List Int, PyData.eqvAll (pdata ns) (pdata ms) = decide (ns = ms)
  | [], [] => by simp [pdata, PyData.eqvAll]
  | [], _ :: _ => by simp [pdata, PyData.eqvAll]
  | _ :: _, [] => by simp [pdata, PyData.eqvAll]
  | n :: r, m :: q => by
    have := peqv r q
    unfold pdata at this ⊢
    simp [PyData.eqvAll, PyData.eqv, this, Bool.decide_and]
    rfl
theorem lex_self : ∀ ns : List Int, HT.lexLt ns ns = false
  | [] => rfl
  | n :: r => by rw [HT.lexLt_cons, if_pos rfl]; exact lex_self r
/-- (i, t) < (j, u), ints and tuples of ints -/
def pairLt (i j : Int) (ns ms : List Int) : Bool := if i = j then HT.lexLt ns ms else decide (i < j)
def rLtP (K : PySem.W.Frag) : R2 := fun x y H Q => ∃ a b p q i j ns ms, x = .ref a ∧ y = .ref b ∧ SqT K H a [.int i, .ref p] ∧ SqT K H b [.int j, .ref q] ∧ SqT K H p (ns.map V.int) ∧ SqT K H q (ms.map V.int) ∧
  Q (.bl (pairLt i j ns ms)) H
theorem vals_ir {i : Int} {p : Addr} {us : List Value} (r : Vals [V.int i, V.ref p] us) : ∃ t, us = [Value.int i t, Value.ref p] := by
  cases r with
  | cons r t =>
    cases t with
    | cons r2 t2 =>
      cases t2
      obtain ⟨t, rfl⟩ := r
      cases r2
      exact ⟨t, rfl⟩
theorem eqAt_ints {pins : List (Addr × Obj)} {s : Shared} {σ : L2.St} {H : Hp} {A : Around} {p q : Addr} {ns ms : List Int} (I : Inv X pins σ H s) (hp : SqT X.K H p (ns.map V.int)) (hq : SqT X.K H q (ms.map V.int)) (hu : A.units + 64 < cLine) :
    EqAt A s (.ref p) (.ref q) (decide (ns = ms)) := by
  obtain ⟨as, r1⟩ := Dp.reads I (.tuple (pdata ns)) (.ref p) (.ref p) (.tup hp (pdp ns)) (show RelV (V.ref p) (Value.ref p) from rfl)
  obtain ⟨bs, r2⟩ := Dp.reads I (.tuple (pdata ms)) (.ref q) (.ref q) (.tup hq (pdp ms)) (show RelV (V.ref q) (Value.ref q) from rfl)
  have h := SeqAt.eqAt_reads _ _ A s _ _ _ _ r1 r2 (by simp [PyData.canLay0, play]) (by simp [PyData.canLay0, play]) (by
    have d : ∀ ns : List Int, PyData.depthAll (pdata ns) = 0 := fun ns => by
      induction ns with
      | nil => simp [pdata, PyData.depthAll]
      | cons n r ih =>
        unfold pdata at ih ⊢
        simp [PyData.depthAll, PyData.depth, ih]
    simp [PyData.depth, d]
    omega)
  simp only [PyData.eqv, peqv] at h
  exact h
theorem op_ltP (hu : X.A.units + 66 < cLine) : OpR X (compareOp .Lt) (rLtP X.K) := by
  intro pins s σ H x y v u Q I rx ry h
  obtain ⟨a, b, p, q, i, j, ns, ms, rfl, rfl, ha, hb, hp, hq, k⟩ := h
  cases rx
  cases ry
  obtain ⟨its, r1, p1, _⟩ := I.tuple ha
  obtain ⟨its2, r2, p2, _⟩ := I.tuple hb
  obtain ⟨t1, rfl⟩ := vals_ir r1
  obtain ⟨t2, rfl⟩ := vals_ir r2
  obtain ⟨us, v1, e1, _⟩ := I.tuple hp
  obtain ⟨vs, v2, e2, _⟩ := I.tuple hq
  have hA : X.A.in1.units + 64 < cLine := by
    show X.A.units + 1 + 64 < cLine
    omega
  have key := Ob.RcOp.tuples_lt (A := X.A) (s := s) (l := a) (b := b) (items := #[.int i t1, .ref p]) (items2 := #[.int j t2, .ref q]) (e := fun k => if k = 0 then decide (i = j) else decide (ns = ms)) (r := fun k => if k = 0 then decide (i < j) else HT.lexLt ns ms) p1 p2 (by omega)
    (fun k h1 h2 => ?_) (fun k h1 h2 hk => ?_)
  · refine key X.prog X.w X.xe _ ?_
    have e : Ob.lexAt (fun k => if k = 0 then decide (i = j) else decide (ns = ms)) (fun k => if k = 0 then decide (i < j) else HT.lexLt ns ms) (decide ((#[Value.int i t1, Value.ref p] : Array Value).size < (#[Value.int j t2, Value.ref q] : Array Value).size)) 0 (min (#[Value.int i t1, Value.ref p] : Array Value).size (#[Value.int j t2, Value.ref q] : Array Value).size) = pairLt i j ns ms := by
      show Ob.lexAt _ _ (decide (2 < 2)) 0 2 = _
      rw [Ob.lexAt_succ, Ob.lexAt_succ, Ob.lexAt_zero]
      unfold pairLt
      by_cases c1 : i = j
      · subst c1
        by_cases c2 : ns = ms
        · subst c2
          simp [lex_self]
        · simp [c2]
      · simp [c1]
    rw [e]
    exact ⟨.bl _, H, I, rfl, k⟩
  · match k, h1 with
    | 0, _ =>
      have := EqAt.int_int (A := X.A.in1) (s := s) i t1 j t2
      have e : (i == j) = decide (i = j) := rfl
      rw [e] at this
      simpa using this
    | 1, _ =>
      have := eqAt_ints I hp hq hA
      simpa using this
    | k + 2, h1 => exact absurd h1 (by simp)
  · match k, h1 with
    | 0, _ => exact Ob.RcOp.lt_int i j t1 t2
    | 1, _ =>
      intro prog w E Q' hQ
      exact HT.lt_tupInts e1 e2 (intsAre_of v1) (intsAre_of v2) (by omega) hQ
    | k + 2, h1 => exact absurd h1 (by simp)
end
end Gd
namespace Gd
open PySem PySem.Spec PyProof.Rows L2
/-- xs != [] -/
def rNeNil (K : PySem.W.Frag) : R2 := fun x y H Q => ∃ (a b : Addr) (xs : List V), x = .ref a ∧ y = .ref b ∧ SqL K H a xs ∧ SqL K H b [] ∧ Q (.bl (!xs.isEmpty)) H
theorem op_neNil {X : Cx} (hu : X.A.units < cLine) : OpR X (compareOp .NotEq) (rNeNil X.K) := by
  intro pins s σ H x y v u Q I rx ry h
  obtain ⟨a, b, xs, rfl, rfl, ha, hb, q⟩ := h
  cases rx
  cases ry
  obtain ⟨its, r1, p1, _⟩ := I.list ha
  obtain ⟨its2, r2, p2, _⟩ := I.list hb
  cases r2
  cases r1 with
  | nil => exact PySem.SeqAt.RcNeAt.lists (e := fun _ => true) p1.isList p2.isList rfl hu (fun j h1 _ => absurd h1 (Nat.not_lt_zero _)) _ _ _ _ ⟨.bl false, H, I, rfl, q⟩
  | cons r t => exact PySem.SeqAt.RcNeAt.lists_lengths p1.isList p2.isList rfl hu _ _ _ _ ⟨.bl true, H, I, rfl, q⟩
end Gd

set_option Elab.async false
set_option linter.all false
set_option maxRecDepth 100000
set_option maxHeartbeats 4000000
/-! Tuples of which it is known that they have no dict: so their methods can be called. -/
namespace Gd
open PySem PySem.Spec PyProof.Rows L2
def TupX (K : PySem.W.Frag) (H : Hp) (a : Addr) (xs : List V) : Prop := (∃ o : Obj, H a = some (.frz o (.tup xs)) ∧ o.dict = none) ∨
  ∃ (o : Obj) (its : Array Value) (n : Nat), K.lookup a = some o ∧ o.cls = .type "tuple" ∧ o.dict = none ∧ o.data = .seq its n ∧ its.size ≤ sizeLine ∧ Vals xs its.toList
theorem TupX.sq {K : PySem.W.Frag} {H : Hp} {a : Addr} {xs : List V} (h : TupX K H a xs) : SqT K H a xs := by
  rcases h with ⟨o, h, _⟩ | ⟨o, its, n, h, c, _, r⟩
  · exact .inl (.inr ⟨o, h⟩)
  · exact .inr ⟨o, its, n, h, c, r⟩
theorem TupX.ext {K : PySem.W.Frag} {H H' : Hp} {a : Addr} {xs : List V} (e : ∀ b o, H b = some o → H' b = some o) (h : TupX K H a xs) : TupX K H' a xs := by
  rcases h with ⟨o, h, d⟩ | h
  · exact .inl ⟨o, e _ _ h, d⟩
  · exact .inr h
theorem TupX.new {K : PySem.W.Frag} {H : Hp} {p : Addr} {xs : List V} {o : Obj} (d : o.dict = none) : TupX K (upd H p (.frz o (.tup xs))) p xs := .inl ⟨o, upd_same, d⟩
section
variable {X : Cx} {pins : List (Addr × Obj)} {σ : L2.St} {H : Hp} {s : Shared}
theorem TupX.is {a : Addr} {xs : List V} (I : Inv X pins σ H s) (h : TupX X.K H a xs) : s.TypeIs (.ref a) "tuple" ∧ ∀ b, Value.ref a = .ref b → ∃ ob, s.heap.get? b = some ob ∧ ob.dict = none := by
  rcases h with ⟨o, h, d⟩ | ⟨o, its, n, h, c, d, _⟩
  · obtain ⟨e, _, its, _, ob, e2, c, _⟩ := I.hok a _ h
    rw [e] at e2
    cases e2
    exact ⟨⟨o, e, c⟩, fun b z => by cases z; exact ⟨o, e, d⟩⟩
  · exact ⟨⟨o, I.kIn _ o h, c⟩, fun b z => by cases z; exact ⟨o, I.kIn _ o h, d⟩⟩
/-- t.m(..) of such a tuple -/
def tBMT (K : PySem.W.Frag) (r : V → List V → Hp → VK → Prop) (to : TE) (t : TA) : TE := fun σ H Q => to σ H fun x H1 => (∃ a xs, x = .ref a ∧ TupX K H1 a xs) ∧ t σ H1 fun xs H2 => r x xs H2 Q
theorem pe_bmT {o e : Expr} {es : List Expr} {to : TE} {t : TA} {name : Str} {apos cpos : Pos} {id : String} {r : V → List V → Hp → VK → Prop} (pa : PlainAttrs "tuple") (slot : Slot "tuple" name id) (hty : typeOf (.builtin id) = pure (.type "method_descriptor")) (hm : MtR X id r) (ho : PE X o to) (ha : PA X (e :: es) t)
    (hbase : attributeBase o name X.env (eval o X.env) = eval o X.env := by rfl)
    (hfew : ((backTo cpos (starEach (e :: es) X.env)).all (fun x => !x.1) && (backToKw cpos (keywordEach [] X.env)).all (fun x => x.1.isSome)
      && decide ((e :: es).length + ([] : List Keyword).length + (if ([] : List Keyword).isEmpty then 0 else 1) < 30)) = true := by rfl)
    (hline : (apos.endLine == cpos.line) = true := by rfl) (hs : starEach (e :: es) X.env = (false, eval e X.env) :: starEach es X.env := by rfl) (hplain : (backTo cpos (starEach es X.env)).any (·.1) = false := by rfl) :
    PE X (.Call (.Attribute o name apos) (e :: es) [] cpos) (tBMT X.K r to t) := by
  refine ⟨fun pins s σ H Q I h => ?_⟩
  refine wpAny_Call_method_late hbase hfew hline rfl (thn (ho.run pins s σ H _ I h) fun v s1 ⟨x, H1, I1, r1, ⟨a, xs, ex, hx⟩, q1⟩ => ?_)
  subst ex
  cases r1
  obtain ⟨h1, h2⟩ := TupX.is I1 hx
  refine ⟨"tuple", id, pa, slot, hty, h1, h2, ?_⟩
  have hA := ha.run cpos pins s1 σ H1 _ I1 q1
  rw [hs] at hA ⊢
  refine Calls.callWith_builtin (by show (false || (backTo cpos (starEach es X.env)).any (·.1)) = false; rw [hplain] <;> rfl) (Calls.evalArgs_plain ?_)
  exact thn hA fun us s2 ⟨vs, H2, I2, r2, q2⟩ => hm pins s2 σ H2 (.ref a) vs (.ref a) us Q I2 rfl r2 q2
/-! making them -/
def tTupX (t : TA) : TE := fun σ H Q => t σ H fun xs H1 => xs.length ≤ sizeLine ∧ ∀ p o, H1 p = none → o.dict = none → Q (.ref p) (upd H1 p (.frz o (.tup xs)))
theorem pe_tupX {es : List Expr} {t : TA} {pos : Pos} {x1} (h : PA X es t) : PE X (.Tuple es x1 pos) (tTupX t) := by
  refine ⟨fun pins s σ H Q I hq => ?_⟩
  refine wpAny_Tuple_spliced (thn (h.run pos pins s σ H _ I hq) fun us s1 ⟨xs, H1, I1, r, z, q⟩ => ⟨by rw [← r.length]; exact z, ?_⟩)
  have hf : H1 s1.heap.objs.size = none := I1.hok.fresh (Nat.le_refl _)
  refine ⟨.ref s1.heap.objs.size, upd H1 s1.heap.objs.size (.frz { cls := .type "tuple", data := .seq us.toArray } (.tup xs)), I1.laid (t' := s1.toks) (fun b u e => Heap.get?_push_of_some _ e) (Nat.le_refl _) ?_, rfl, q _ _ hf rfl⟩
  exact ⟨Heap.get?_push_size _ rfl, z, us, r, ⟨_, Heap.get?_push_size _ rfl, rfl, _, rfl⟩⟩
def rTupX (K : PySem.W.Frag) : List V → Hp → VK → Prop := fun xs H Q => ∃ p ys, xs = [.ref p] ∧ ((SqL K H p ys ∧ ∀ l o, H l = none → o.dict = none → Q (.ref l) (upd H l (.frz o (.tup ys)))) ∨ (SqT K H p ys ∧ Q (.ref p) H))
theorem call_tupX : CallR X (.type "tuple") (rTupX X.K) := by
  intro pins s σ H xs us Q I r h
  obtain ⟨p, ys, rfl, h⟩ := h
  obtain ⟨u, rfl, rx⟩ := vals1 r
  cases rx
  rcases h with ⟨hq, q⟩ | ⟨hq, q⟩
  · obtain ⟨its, r', pl, hz⟩ := I.list hq
    have hlen := r'.length
    refine call_tuple_list pl.isList (fun h' kp => ?_) (by simp only [List.size_toArray] <;> omega)
    have I1 : Inv X pins σ H { s with heap := h' } := I.kept (t' := s.toks) kp
    have I2 : Inv X pins σ (upd H h'.objs.size (.frz { cls := .type "tuple", data := .seq its.toArray } (.tup ys))) { s with heap := h'.push { cls := .type "tuple", data := .seq its.toArray } } :=
      I1.laid (t' := s.toks) (fun b o e => Heap.get?_push_of_some _ e) (Nat.le_refl _) (show ObjOk X.prog X.w _ _ _ (.frz _ (.tup ys)) from ⟨Heap.get?_push_size _ rfl, hz, its, r', IsTup.new _ _⟩)
    exact ⟨.ref h'.objs.size, _, I2, rfl, q _ _ (I1.hok.fresh (Nat.le_refl _)) rfl⟩
  · obtain ⟨its, r', pl, hz⟩ := I.tuple hq
    exact call_tuple_same pl ⟨.ref p, H, I, rfl, q⟩
def rCatX (K : PySem.W.Frag) : R2 := fun x y H Q => ∃ a b xs ys, x = .ref a ∧ y = .ref b ∧ TupX K H a xs ∧ TupX K H b ys ∧ xs.length + ys.length ≤ sizeLine ∧ ∀ H' p, L2.Ext H H' → TupX K H' p (xs ++ ys) → Q (.ref p) H'
theorem op_catX : OpR X (binaryOp .Add) (rCatX X.K) := by
  intro pins s σ H x y v u Q I rx ry h
  obtain ⟨a, b, xs, ys, rfl, rfl, ha, hb, hz, q⟩ := h
  cases rx
  cases ry
  obtain ⟨its, r1, p1, _⟩ := I.tuple ha.sq
  obtain ⟨its2, r2, p2, _⟩ := I.tuple hb.sq
  by_cases hx : xs = []
  · subst hx
    cases r1
    exact cat_tup0 p1 p2 ⟨.ref b, H, I, rfl, q H b (fun _ _ z => z) hb⟩
  · refine HT.cat_tup p1 p2 (fun z => hx (r1.nil_iff.mp z)) (fun z => ⟨.ref a, H, I, rfl, q H a (fun _ _ z => z) (by rw [r2.nil_iff.mp z, List.append_nil]; exact ha)⟩) (fun z => ?_) (by rw [← r1.length, ← r2.length]; exact hz)
    refine ⟨.ref s.heap.objs.size, _, I.laid (t' := s.toks) (o := .frz { cls := .type "tuple", data := .seq (its ++ its2).toArray } (.tup (xs ++ ys))) (fun b ob q => Heap.get?_push_of_some _ q) (Nat.le_refl _) ?_, rfl, q _ _ ?_ (TupX.new rfl)⟩
    · exact ⟨Heap.get?_push_size _ rfl, by rw [List.length_append]; exact hz, _, r1.append r2, IsTup.new _ _⟩
    · intro b o q
      rw [upd_ne (ne_of_none q (I.hok.fresh (Nat.le_refl _)))]
      exact q
end
theorem g_tupX {t : TA} {σ : L2.St} {H : Hp} {Q : VK} (k : t σ H fun xs H1 => xs.length ≤ sizeLine ∧ ∀ p o, H1 p = none → o.dict = none → Q (.ref p) (upd H1 p (.frz o (.tup xs)))) : tTupX t σ H Q := k
theorem g_bmT {K : PySem.W.Frag} {r : V → List V → Hp → VK → Prop} {to : TE} {t : TA} {σ : L2.St} {H : Hp} {Q : VK} (k : to σ H fun x H1 => (∃ a xs, x = .ref a ∧ TupX K H1 a xs) ∧ t σ H1 fun xs H2 => r x xs H2 Q) : tBMT K r to t σ H Q := k
end Gd

set_option Elab.async false
set_option linter.all false
set_option maxRecDepth 100000
set_option maxHeartbeats 4000000
/-! A tuple times 0 or 1. -/
namespace Gd
open PySem PySem.Spec PyProof.Rows L2
theorem tuple_mul1 (l : Addr) (items : Array Value) (n : Nat) (dd : Option Addr) (sl : Array (Option Value)) (u : Tok) :
    Meets (Builtin.«tuple.__mul__» ⟨[.ref l, .int 1 u], []⟩) (fun _ R s => s.heap.get? l = some { cls := .type "tuple", dict := dd, data := .seq items n, slots := sl } ∧
      R (.ok (.ret (Value.ref l))) s) :=
  .of_wp fun prog w A R s h => by
    obtain ⟨hp, g, d, tk, os⟩ := s
    obtain ⟨hl, h⟩ := h
    have f1 := AutoSeq1.idx_int
    have c1 : (items.isEmpty || (1 : Int) == 1) = true := by simp
    wp_walk using wpAny_loadPart' hl
    repeat (first
      | (refine wpAny_ite_true (decide_eq_true c1) ?_; wp_walk using wpAny_loadPart' hl))
    exact ⟨_, rfl, h⟩

theorem tuple_mul0 (l : Addr) (items : Array Value) (n : Nat) (dd : Option Addr) (sl : Array (Option Value)) (u : Tok) (ne : items.isEmpty = false) :
    Meets (Builtin.«tuple.__mul__» ⟨[.ref l, .int 0 u], []⟩) (fun _ R s => s.heap.get? l = some { cls := .type "tuple", dict := dd, data := .seq items n, slots := sl } ∧
      R (.ok (.ret (Value.ref s.heap.objs.size))) { s with heap := s.heap.push { cls := Value.type "tuple", data := Data.seq #[] }, toks := s.toks }) :=
  .of_wp fun prog w A R s h => by
    obtain ⟨hp, g, d, tk, os⟩ := s
    obtain ⟨hl, h⟩ := h
    have f1 := AutoSeq1.idx_int
    have c1 : ¬ (items.isEmpty || (0 : Int) == 1) = true := by rw [ne]; decide
    have c2 : (decide ((0 : Int) ≤ 0) || items.isEmpty) = true := by simp
    wp_walk using wpAny_loadPart' hl
    repeat (first
      | (refine wpAny_ite_false (decide_eq_false c1) ?_; wp_walk using wpAny_loadPart' hl)
      | (refine wpAny_ite_true (decide_eq_true c2) ?_; wp_walk using wpAny_loadPart' hl))
    exact ⟨_, rfl, h⟩
def rRepA (K : PySem.W.Frag) : R2 := fun x y H Q => ∃ l k xs, x = .ref l ∧ y = .int k ∧ SqT K H l xs ∧ xs ≠ [] ∧ 0 ≤ k ∧ k ≤ 1000 ∧ xs.length ≤ 1000 ∧
  (k = 1 → Q (.ref l) H) ∧ (k ≠ 1 → ∀ p, H p = none → Q (.ref p) (upd H p (.tup (List.replicate k.toNat xs).flatten)))
section
variable {X : Cx}
theorem op_repA : OpR X (binaryOp .Mult) (rRepA X.K) := by
  intro pins s σ H x y v u Q I rx ry h
  obtain ⟨l, k, xs, rfl, rfl, hT, hne, h1, h2, hz, q1, q2⟩ := h
  by_cases big : 2 ≤ k
  · exact op_repT pins s σ H _ _ v u Q I rx ry ⟨l, k, xs, rfl, rfl, hT, hne, big, h2, hz, q2 (by omega)⟩
  cases rx
  obtain ⟨t, rfl⟩ := ry
  obtain ⟨its, r, ⟨⟨cls, dd, data, sl⟩, ho, hc, n, hd⟩, hs⟩ := I.tuple hT
  simp only at hc hd
  subst hc hd
  have hle : its.length = xs.length := r.length.symm
  have hi : its.toArray.isEmpty = false := by
    cases its with
    | nil => exact absurd (List.eq_nil_of_length_eq_zero hle.symm) hne
    | cons a b => rfl
  have hk : k = 0 ∨ k = 1 := by omega
  rcases hk with rfl | rfl
  · refine wpAny_binaryOp_repeat_ref (T := "tuple") (U := "int") (by decide) ⟨_, ho, rfl⟩ (fun s' => typeIs_int s' 0 t) noFill_tuple_mul F.fills_int_mul F.slot_int_rmul repeat_tuple F.slot_int_index.lookup
      (call_meets F.slot_int_rmul (typeIs_int s 0 t) F.entry_int_rmul (F.args_int_rmul_2 _ _) (int_rmul_tuple 0 t l its.toArray n dd sl)
        ⟨ho, rfl, ⟨_, ho, rfl⟩, call_meets F.slot_tuple_mul ⟨_, ho, rfl⟩ F.entry_tuple_mul (F.args_tuple_mul_2 _ _) (tuple_mul0 l its.toArray n dd sl t hi) ⟨ho, ?_⟩⟩)
    have q := q2 (by decide) _ (I.hok.fresh (Nat.le_refl _))
    refine ⟨.ref s.heap.objs.size, _, I.laid (t' := s.toks) (o := .tup (List.replicate (0 : Int).toNat xs).flatten) (fun b ob q => Heap.get?_push_of_some _ q) (Nat.le_refl _) ?_, rfl, q⟩
    exact ⟨Nat.zero_le _, [], .nil, IsTup.new _ _⟩
  · refine wpAny_binaryOp_repeat_ref (T := "tuple") (U := "int") (by decide) ⟨_, ho, rfl⟩ (fun s' => typeIs_int s' 1 t) noFill_tuple_mul F.fills_int_mul F.slot_int_rmul repeat_tuple F.slot_int_index.lookup
      (call_meets F.slot_int_rmul (typeIs_int s 1 t) F.entry_int_rmul (F.args_int_rmul_2 _ _) (int_rmul_tuple 1 t l its.toArray n dd sl)
        ⟨ho, rfl, ⟨_, ho, rfl⟩, call_meets F.slot_tuple_mul ⟨_, ho, rfl⟩ F.entry_tuple_mul (F.args_tuple_mul_2 _ _) (tuple_mul1 l its.toArray n dd sl t) ⟨ho, ?_⟩⟩)
    exact ⟨.ref l, H, I, rfl, q1 rfl⟩
end
end Gd

set_option Elab.async false
set_option linter.all false
set_option maxRecDepth 100000
set_option maxHeartbeats 4000000
/-! A tuple many times. -/
namespace Gd
open PySem PySem.Spec PyProof.Rows L2
/-- t * k, t not empty, few values in all -/
def rRepB (K : PySem.W.Frag) : R2 := fun x y H Q => ∃ l k xs, x = .ref l ∧ y = .int k ∧ SqT K H l xs ∧ xs ≠ [] ∧ 0 ≤ k ∧ k ≤ 100000 ∧ xs.length ≤ 10 ∧
  (k = 1 → Q (.ref l) H) ∧ (k ≠ 1 → ∀ p, H p = none → Q (.ref p) (upd H p (.tup (List.replicate k.toNat xs).flatten)))
section
variable {X : Cx}
theorem op_repB : OpR X (binaryOp .Mult) (rRepB X.K) := by
  intro pins s σ H x y v u Q I rx ry h
  obtain ⟨l, k, xs, rfl, rfl, hT, hne, h1, h2, hz, q1, q2⟩ := h
  by_cases few : k ≤ 1
  · exact op_repA pins s σ H _ _ v u Q I rx ry ⟨l, k, xs, rfl, rfl, hT, hne, h1, by omega, by omega, q1, q2⟩
  have two : 2 ≤ k := by omega
  have q := q2 (by omega)
  clear q1 q2
  cases rx
  obtain ⟨t, rfl⟩ := ry
  obtain ⟨its, r, ⟨⟨cls, dd, data, sl⟩, ho, hc, n, hd⟩, hs⟩ := I.tuple hT
  simp only at hc hd
  subst hc hd
  have len : its.length = xs.length := r.length.symm
  have some_ : its.toArray.isEmpty = false := by
    cases its with
    | nil => exact absurd (List.eq_nil_of_length_eq_zero len.symm) hne
    | cons a b => rfl
  have sz : its.toArray.size = xs.length := by rw [List.size_toArray, len]
  have all_ : ((its.toArray.size : Nat) : Int) * k ≤ 1000000 := by
    rw [sz]
    have a1 : ((xs.length : Nat) : Int) * k ≤ 10 * k := Int.mul_le_mul_of_nonneg_right (by omega) (by omega)
    omega
  have many : k.toNat * xs.length ≤ 100000 * 10 := Nat.mul_le_mul (by omega) hz
  have flat_ : (List.replicate k.toNat its).flatten.length ≤ sizeLine := by
    rw [PyProof.Rows.lm_len_rep_flat, len, sizeLine_eq]
    omega
  have d0 : (decide (k < -(2 ^ 63)) || decide (k ≥ 2 ^ 63)) = false := by
    rw [decide_eq_false (by omega), decide_eq_false (by omega)]
    rfl
  have d1 : (its.toArray.isEmpty || k == 1) = false := by
    rw [some_, Bool.false_or]
    exact beq_eq_false_iff_ne.mpr (by omega)
  have d2 : (decide (k ≤ 0) || its.toArray.isEmpty) = false := by
    rw [some_, Bool.or_false]
    exact decide_eq_false (by omega)
  have d4 : Builtin.Tuple.tupleTooMany (((its.toArray.size : Nat) : Int) * k) = false := by
    unfold Builtin.Tuple.tupleTooMany
    rw [sizeLine_eq]
    exact decide_eq_false (by omega)
  have met := tuple_mulW l its.toArray n dd sl k t d0 d1 d2 (by omega) d4 (by rw [size_rep, List.size_toArray]; exact flat_)
  refine wpAny_binaryOp_repeat_ref (T := "tuple") (U := "int") (by decide) ⟨_, ho, rfl⟩ (fun s' => typeIs_int s' k t) noFill_tuple_mul F.fills_int_mul F.slot_int_rmul repeat_tuple F.slot_int_index.lookup
    (call_meets F.slot_int_rmul (typeIs_int s k t) F.entry_int_rmul (F.args_int_rmul_2 _ _) (int_rmul_tuple k t l its.toArray n dd sl)
      ⟨ho, rfl, ⟨_, ho, rfl⟩, call_meets F.slot_tuple_mul ⟨_, ho, rfl⟩ F.entry_tuple_mul (F.args_tuple_mul_2 _ _) met ⟨ho, ?_⟩⟩)
  rw [size_rep]
  refine ⟨.ref s.heap.objs.size, _, I.laid (t' := s.toks) (o := .tup (List.replicate k.toNat xs).flatten) (fun b ob q => Heap.get?_push_of_some _ q) (Nat.le_refl _) ?_, rfl, q _ (I.hok.fresh (Nat.le_refl _))⟩
  exact ⟨by rw [PyProof.Rows.lm_len_rep_flat, sizeLine_eq]; omega, _, r.rep k.toNat, IsTup.new _ _⟩
end
end Gd

set_option Elab.async false
set_option linter.all false
set_option maxRecDepth 100000
set_option maxHeartbeats 4000000
/-! The first field of an exception of an own class that stands directly below a builtin one. -/
namespace GdX
open PySem PySem.Calls PyProof.Rows PySem.HandSPX Builtin Builtin.ObjectAttr
section
variable {prog : Program} {w : World} {A : Around} {R : Result → Shared → Prop} {hp : Heap} {g : Array GenState} {d : Drawn} {t : Nat} {os : OsState}
theorem osaG {B : String} {bmB : List Value} (SF : StoreFacts B bmB "object.__setattr__" "object") {K : W.Frag} {name : Str} {tk : Tok} {v : Value} {x C : Addr} {fv : Array Value} {cd : ClassData}
    (X : K.In hp) (hx : hp.get? x = some { cls := .ref C, data := .fields fv }) (hcd : W.clsIn K C = some cd)
    (hm : cd.mro = .ref C :: bmB) (hh : cd.hasDict = true) (ha : W.findIn K (.ref C) name = some none)
    (hq : ∀ h' tk' dx, (∀ b o, b ≠ x → hp.get? b = some o → h'.get? b = some o) → hp.objs.size ≤ dx → dx ≠ x →
      h'.get? x = some { cls := .ref C, dict := some dx, data := .fields fv } →
      h'.Ns1 dx (fun y => if y = name then some v else none) → R (.ok (.ret .none)) ⟨h', g, d, tk', os⟩) :
    codeAny (model prog w) A (.call (.builtin "object.__setattr__") ⟨[.ref x, .str name tk, v], []⟩) R ⟨hp, g, d, t, os⟩ := by
  have I : W.InstAt hp x { cls := .ref C, data := .fields fv } C none := ⟨hx, rfl, rfl, trivial⟩
  have ne : cd.mro.isEmpty = false := by rw [hm]; rfl
  have hob : cd.mro.contains (.type "object") = true := by
    rw [hm, List.contains_cons, SF.hasOwner, Bool.or_true]
  have hxs : x ≠ hp.objs.size := Nat.ne_of_lt (Heap.lt_size hx)
  have sub : W.Looks (model prog w) hp (isInstance (.ref x) (.type "object")) true := by
    refine I.type.andThen (W.looks_mroIn X ?_)
    unfold W.mroIn
    rw [hcd, Option.bind_some, if_neg (by rw [ne]; decide), hob]
  refine codeAny_call_builtin SF.slot.plain SF.entry (@W.check_slot (model prog w) _ _ ⟨hp, g, d, t, os⟩ "object.__setattr__" "object" "__setattr__" (.ref x) [.str name tk, v] [] _
    SF.kind SF.split sub (SF.args (.ref x) (.str name tk) v) ?_)
  have hmr : W.Looks (model prog w) hp (mroOf (.ref C)) cd.mro := (W.looks_clsIn X hcd).andThen .now
  have L3 : W.Looks (model prog w) hp (storeTaker? none) none := .now
  have hcls : W.Looks (model prog w) hp (classData C) cd := W.looks_clsIn X hcd
  rw [W.osa_eq, refuse_eq]
  refine wpAny_bind (wpAny_bind (I.type.at (wpAny_bind (hmr.at ?_))))
  rw [hm, refuseLoop_ref, SF.passes]
  refine wpAny_pure (wpAny_bind (I.type.at (wpAny_bind ((W.looks_findIn X ha).at (wpAny_bind (L3.at ?_))))))
  show wpAny _ _ (storeInOwnDict (.ref x) (.ref C) (.str name tk) name v false) _ _ _
  clear hmr hob ne sub hm
  obtain ⟨nm, bs, mro, ns, qn, hd, sn, sb, ab, col, del⟩ := cd
  have hh' : hd = true := hh
  subst hh'
  unfold storeInOwnDict ownDictForStores
  repeat (first
    | with_reducible refine store_in_new ?_ ?_
    | with_reducible refine wpAny_loadPart_at hx ?_
    | with_reducible refine hcls.at ?_
    | wp_step)
  · exact ⟨_, #[], _, (Heap.get?_update_ne _ _ _ _ hxs.symm).trans (Heap.get?_push_at rfl rfl), rfl, fun e he => absurd he (by simp), fun _ => rfl⟩
  · intro h' tk' hn' hs
    have hx₁ : (hp.push { cls := .type "dict", data := .dict #[] }).get? x = some { cls := .ref C, data := .fields fv } := Heap.get?_push_of_some _ hx
    refine hq h' tk' hp.objs.size (fun b o hb ho => ?_) (Nat.le_refl _) hxs.symm ?_ hn'
    · have far : b ≠ hp.objs.size := Nat.ne_of_lt (Heap.lt_size ho)
      exact (hs.2 b far).trans ((Heap.get?_update_ne _ _ _ _ hb).trans (Heap.get?_push_of_some _ ho))
    · exact (hs.2 x hxs).trans (Heap.get?_update_self _ hx₁ rfl)
end
end GdX

set_option Elab.async false
set_option linter.all false
set_option maxRecDepth 100000
set_option maxHeartbeats 4000000
namespace PySem
namespace XInvalidNumber
open PySem.W PySem.Calls PyProof.Rows PySem.HandSPX
/-! ### the text of __init__ -/
def iA (p1 p2 : Pos) : Arguments := { posonlyargs := [], args := [{ arg := "self", annotation := none, pos := p1 }, { arg := "value", annotation := none, pos := p2 }], vararg := none, kwonlyargs := [], kw_defaults := [], kwarg := none, defaults := [] }
def iB (q1 q2 q3 q4 : Pos) : List Stmt := [.Assign [.Attribute (.Name "self" q1) "value" q2] (.Name "value" q3) q4]
def iS : Scope := { kind := .function, names := [(PySem.Str.ofString "self", .local), (PySem.Str.ofString "value", .local)], isGenerator := false, isCoroutine := false, more := [] }
/-- what the written part says of Low, at C, and of its __init__, at fI -/
structure InvalidNumberTxt (K : Frag) (mg : Str → Option Value) (C fI : Addr) : Prop where
  gC : mg "InvalidNumber" = some (.ref C)
  cls : ∃ nm q N bs sn sub ab col dd k0 k1 k2 k3 k5, K.lookup C = some (excClassObj nm q C N bs [.type "IndexError", .type "LookupError", .type "Exception", .type "BaseException", .type "object"] true sn sub ab col dd k0 k1 k2 k3 k5 "IndexError.__new__")
  sa : findIn K (.ref C) "__setattr__" = some (some (.builtin "object.__setattr__"))
  ga : findIn K (.ref C) "__getattribute__" = some (some (.builtin "BaseException.__getattribute__"))
  gg : findIn K (.ref C) "__getattr__" = some none
  noN : findIn K (.ref C) "value" = some none
  iC : findIn K (.ref C) "__init__" = some (some (.ref fI))
  tC : typeIn K (.ref fI) = some (.type "function")
  kC : keepIn K (.ref C) = true
  exC : subIn K (.ref C) (.type "BaseException") = some true
  tyC : typeIn K (.ref C) = some (.type "type")
  hdC : hasDictIn K C = true
  te : exmOne K (.ref C) (.ref C) = some true
  fn : ∃ (oc : Value) (od : Option Addr) (doc pm : Value) (an : Option Addr) (cdv ct : Value) (osl : Array (Option Value)) (p1 p2 q1 q2 q3 q4 : Pos),
    K.lookup fI = some ⟨oc, od, .func (fnOf "__init__" "InvalidNumber.__init__" (iA p1 p2) (iB q1 q2 q3 q4) iS .none .none doc pm an cdv ct), osl⟩ ∧ codeIn K cdv "InvalidNumber.__init__" = true
theorem one_size (v : Value) : [v].length ≤ sizeLine := by
  rw [sizeLine_eq]
  exact (by decide : 1 ≤ 16777216)
theorem kept_but {K : Frag} {h h' : Heap} {x : Addr} (X : K.In h) (hx : K.lookup x = none) (k : ∀ b o, b ≠ x → h.get? b = some o → h'.get? b = some o) : K.In h' := fun a o e =>
  k a o (fun z => by rw [z, hx] at e; cases e) (X a o e)
theorem ldC {M : Model} {s : Shared} {name : Str} {scope : Scope} {L a : Addr} {cd : Value} {m : Str → Option Value} {x : Str} {pos : Pos} {v : Value} {Q : Value → Shared → Prop} {A : Around} {E : Value → Shared → Prop} (hn : s.heap.Ns L m) (hv : m x = some v) (h : Q v s)
    (hk : scope.kind = .function := by rfl) (hl : (envOfC name scope L a cd).kindOf x = some .local := by rfl) (hd : (x == ("__debug__" : Str)) = false := by decide) :
    wpAny M A (eval (.Name x pos) (envOfC name scope L a cd)) Q E s := wpAny_Name (wpAny_loadName_local hk hl hn hv h) hd
/-- what __init__ leaves of a fresh exception at x -/
structure InitEnd (h h' : Heap) (x C dx t1 : Addr) (v : Value) : Prop where
  keep : ∀ b o, b ≠ x → h.get? b = some o → h'.get? b = some o
  obj : h'.get? x = some { cls := .ref C, dict := some dx, data := .fields #[.ref t1, .none, .none, .none, .bool false, .none] }
  dbig : h.objs.size ≤ dx
  dne : dx ≠ x
  ns : h'.Ns1 dx (fun y => if y = "value" then some v else none)
/-- a made Low -/
structure OwnMade (h h' : Heap) (e C d : Addr) (v : Value) : Prop where
  keep : ∀ b o, h.get? b = some o → h'.get? b = some o
  new : h.objs.size ≤ e
  obj : ∃ oe vs, h'.get? e = some oe ∧ oe.cls = .ref C ∧ oe.dict = some d ∧ oe.data = .fields vs ∧ vs[1]? = some .none
  dbig : h.objs.size ≤ d
  dne : d ≠ e
  ns : h'.Ns1 d (fun y => if y = "value" then some v else none)
section
variable {prog : Program} {w : World} {A : Around} {E : Value → Shared → Prop} {R : Result → Shared → Prop} {s : Shared} {K : Frag} {mg : Str → Option Value} {C fI : Addr}
theorem low_init (T : InvalidNumberTxt K mg C fI) {x t0 : Addr} {v : Value} (X : K.In s.heap) (hlim : s.heap.NoLimit) (hx : s.heap.get? x = some (excO C t0)) (hnx : K.lookup x = none) (hroom : A.depth < recursionLimit)
    (hq : ∀ h' tk dx, InitEnd s.heap h' x C dx t0 v → R (.ok (.ret .none)) { s with heap := h', toks := tk }) :
    codeAny (model prog w) A (.call (.ref fI) ⟨[.ref x, v], []⟩) R s := by
  obtain ⟨oc, od, doc, pm, an, cdv, ct, osl, p1, p2, q1, q2, q3, q4, ho, hcd⟩ := T.fn
  obtain ⟨nm, q, N, bs, sn, sub, ab, col, dd, k0, k1, k2, k3, k5, hC⟩ := T.cls
  have hcl : clsIn K C = some { name := nm, bases := bs, mro := .ref C :: [.type "IndexError", .type "LookupError", .type "Exception", .type "BaseException", .type "object"], ns := N, qualname := q, hasDict := true, slotNames := sn, subclasses := sub, abstract := ab, collection := col, hasDel := false } := by unfold clsIn; rw [hC] <;> rfl
  refine Att.call_fn (binds := [("self", .ref x), ("value", v)]) X hlim ho hcd hroom (BindsTo.of_eq (by first | rfl | with_unfolding_all rfl)) (by first | rfl | decide | with_unfolding_all rfl) (fun s₁ IC => ?_) rfl rfl rfl
  obtain ⟨h₁, tk₁, rfl⟩ := IC.toInCall.same
  have k : ∀ b o, s.heap.get? b = some o → h₁.get? b = some o := IC.toInCall.keep
  have hn := IC.toInCall.ns
  have hxL : s.heap.objs.size ≠ x := Nat.ne_of_gt (Heap.lt_size hx)
  have X₁ : K.In h₁ := X.keeps k
  have hx₁ := k _ _ hx
  -- self.by = by
  show wpAny _ _ (execs _ _) _ _ _
  refine wpAny_execs_cons (plainObj_wpAny_Assign_Attribute ?_)
  refine ldC (v := v) hn (by first | rfl | with_unfolding_all rfl | kernel_rfl) (ldC (v := .ref x) hn (by first | rfl | with_unfolding_all rfl | kernel_rfl) ?_)
  refine set_plain X₁ (ox := excO C t0) (od := none) ⟨hx₁, rfl, rfl, trivial⟩ T.sa ?_
  refine GdX.osaG F.store_IndexError X₁ hx₁ hcl rfl rfl T.noN (fun h₃ tk₃ dx k₃ dn dne hx₃ hn₃ => ?_)
  show wpAny _ _ (execs _ _) _ _ _
  have z : s.heap.objs.size < h₁.objs.size := hn.lt
  exact wpAny_execs_nil (hq h₃ tk₃ dx ⟨fun b o hb e => k₃ b o hb (k b o e), hx₃, Nat.le_of_lt (Nat.lt_of_lt_of_le z dn), dne, hn₃⟩)
theorem low_made (T : InvalidNumberTxt K mg C fI) {v : Value} (X : K.In s.heap) (hlim : s.heap.NoLimit) (hroom : A.depth + 1 < recursionLimit)
    (hq : ∀ h' tk e d, OwnMade s.heap h' e C d v → R (.ok (.ret (.ref e))) { s with heap := h', toks := tk }) :
    codeAny (model prog w) A (.call (.ref C) ⟨[v], []⟩) R s := by
  obtain ⟨nm, q, N, bs, sn, sub, ab, col, dd, k0, k1, k2, k3, k5, hC⟩ := T.cls
  obtain ⟨hp, g, dr, tk, os⟩ := s
  have k : ∀ b o, hp.get? b = some o → ((hp.push (kdv_tup [v])).push (excO C hp.objs.size)).get? b = some o := fun b o e => Heap.get?_push_of_some _ (Heap.get?_push_of_some _ e)
  have hget : ((hp.push (kdv_tup [v])).push (excO C hp.objs.size)).get? (hp.objs.size + 1) = some (excO C hp.objs.size) := by heap_get
  have hnx : K.lookup (hp.objs.size + 1) = none := by
    cases e : K.lookup (hp.objs.size + 1) with
    | none => rfl
    | some o =>
      have z : hp.get? (hp.objs.size + 1) = some o := X _ _ e
      exact absurd (Nat.lt_of_succ_lt (Heap.lt_size z)) (Nat.lt_irrefl _)
  refine call_own F.excBase_IndexError (fun _ => rfl) (X _ _ hC) (looks_findIn X T.iC) (fun self => bind_fn X self T.tC) (one_size v) ?_
  refine low_init (s := ⟨(hp.push (kdv_tup [v])).push (excO C hp.objs.size), g, dr, tk, os⟩) T (X.keeps k) (hlim.keeps k) hget hnx ?_ fun h' tk' dx ⟨k', hx, dn, dne, hns⟩ => ?_
  · show A.depth + 1 < recursionLimit
    exact hroom
  · have old : ∀ b o, hp.get? b = some o → h'.get? b = some o := fun b o e => k' b o (Nat.ne_of_lt (Nat.lt_succ_of_lt (Heap.lt_size e))) (k b o e)
    have z : hp.objs.size + 1 + 1 ≤ dx := by
      first
        | (simpa only [Heap.size_push] using dn)
        | exact dn
        | (have q := dn; rw [Heap.size_push, Heap.size_push] at q; exact q)
    exact ⟨rfl, hq h' tk' (hp.objs.size + 1) dx ⟨old, Nat.le_succ _, ⟨_, _, hx, rfl, rfl, rfl, rfl⟩, Nat.le_trans (Nat.le_trans (Nat.le_succ _) (Nat.le_succ _)) z, dne, hns⟩⟩
end
end XInvalidNumber
end PySem
namespace L2
open PySem PySem.Spec PyProof.Rows
theorem relO_InvalidNumber {v : V} {v' : Value} (r : RelV v v') (f : Str) : RelO (List.lookup f [(("value" : Str), v)]) (if f = "value" then some v' else none) := by
  by_cases hw : f = "value"
  · subst hw
    rw [if_pos rfl]
    have q : List.lookup ("value" : Str) [(("value" : Str), v)] = some v := by simp [List.lookup]
    rw [q]
    exact r
  · rw [if_neg hw]
    have qw : (f == ("value" : Str)) = false := by simpa using hw
    have q2 : List.lookup f [(("value" : Str), v)] = none := by simp [List.lookup, qw]
    rw [q2]
    trivial
section
variable {X : Cx} {C fI : Addr}
/-- Low(e) -/
def tMkInvalidNumber (C : Addr) (ta : TA) : St → Hp → XK → Prop := fun σ H Q => ta σ H fun vs H1 => ∃ v, vs = [v] ∧ ∀ d, H1 d = none → Q (.ref C) (some d) (upd H1 d (.xd [(("value" : Str), v)]))
theorem pmk_InvalidNumber {a : Expr} {ta : TA} {p pos : Pos} {k : Nat} (T : PySem.XInvalidNumber.InvalidNumberTxt X.K X.mg C fI) (hr : Room k X.A) (ha : PA X [a] ta) (hg : Gl X "InvalidNumber" := by rfl)
    (he : starEach (a :: []) X.env = (false, eval a X.env) :: starEach [] X.env := by rfl) (hpl : (backTo pos (starEach [] X.env)).any (·.1) = false := by rfl) :
    PMk X (.Call (.Name "InvalidNumber" p) [a] [] pos) (tMkInvalidNumber C ta) := by
  intro pins s σ H Q I h
  refine wpAny_Call_Name_kw (ld_glob I hg T.gC ?_)
  refine PySem.W.callWith_K (h₀ := X.base) I.ok.mod.kin T.kC (thn (ha.run pos pins s σ H _ I h) fun us s1 hh => ?_) he hpl
  obtain ⟨vs, H1, I1, r1, v, ev, q1⟩ := hh
  subst ev
  refine ⟨I1.kIn, ?_⟩
  cases r1 with
  | cons rv rn =>
    rename_i v' us'
    cases rn
    show wpAny _ _ (call (.ref C) [v']) _ _ _
    have hlim := I1.nolimit
    obtain ⟨hp, g, dr, tk, os⟩ := s1
    refine wpAny_call (PySem.XInvalidNumber.low_made T I1.kIn hlim (by have := hr.dp; omega) fun h' tk' e d M => ?_)
    show MkP X pins σ Q (.ref e) ⟨h', g, dr, tk', os⟩
    obtain ⟨oe, fv, hoe, hc, hd, hdat, h1⟩ := M.obj
    have hns := M.ns
    obtain ⟨G', g1, g2⟩ := restrict h' fun b => decide (b ≠ e)
    have gk : ∀ b, b ≠ e → G'.get? b = h'.get? b := fun b hb => g1 b (decide_eq_true hb)
    have ge : G'.get? e = none := g2 e (by simp)
    have old : ∀ b o, hp.get? b = some o → G'.get? b = some o := fun b o q => (gk b (Nat.ne_of_lt (Nat.lt_of_lt_of_le (Heap.lt_size q) M.new))).trans (M.keep b o q)
    have ob : ObjOk X.prog X.w (upd H1 d (.xd [(("value" : Str), v)])) G' d (.xd [(("value" : Str), v)]) :=
      ⟨_, hns.at (fun o q => (gk d M.dne).trans q), fun f => relO_InvalidNumber rv f⟩
    have J : Inv X pins σ (upd H1 d (.xd [(("value" : Str), v)])) ⟨G', g, dr, tk', os⟩ := I1.laid (t' := tk') old M.dbig ob
    refine ⟨e, oe, fv, ⟨G', g, dr, tk', os⟩, _, .ref C, some d, rfl, J, fun b o q => ?_, ge, hoe, ⟨hc, hd⟩, hdat, h1, ?_, rfl, I1.bare, raises_own T.exC T.tyC, q1 d (I1.hok.fresh M.dbig)⟩
    · by_cases hb : b = e
      · have q' : G'.get? b = some o := q
        rw [hb, ge] at q'; cases q'
      · exact (gk b hb).symm.trans q
    · rw [upd_ne (Ne.symm M.dne)]
      exact I1.hok.fresh M.new
/-- raise Low(e) -/
def tRaiseInvalidNumber (C : Addr) (W : WX) (ta : TA) : TS := fun _ σ H => tMkInvalidNumber C ta σ H fun cls d H' => W cls d σ H'
theorem ps_raiseInvalidNumber {a : Expr} {ta : TA} {W : WX} {p pos pos2 : Pos} {k : Nat} (hc : X.calm = true) (T : PySem.XInvalidNumber.InvalidNumberTxt X.K X.mg C fI) (hr : Room k X.A) (tk : Takes X W) (ha : PA X [a] ta) (hg : Gl X "InvalidNumber" := by rfl)
    (he : starEach (a :: []) X.env = (false, eval a X.env) :: starEach [] X.env := by rfl) (hpl : (backTo pos (starEach [] X.env)).any (·.1) = false := by rfl) :
    PS X (.Raise (some (.Call (.Name "InvalidNumber" p) [a] [] pos)) none pos2) (tRaiseInvalidNumber C W ta) := ps_raise hc tk (pmk_InvalidNumber T hr ha hg he hpl)
/-- low.by, low the exception that the suite holds (at a; its class cls, its dict d) -/
def tByInvalidNumber (C : Addr) (a : Addr) (cls : Value) (d : Option Addr) (te : TE) : TE := fun σ H Q => te σ H fun x H1 => x = .ref a ∧ cls = .ref C ∧ ∃ (dd : Addr) (v : V), d = some dd ∧ H1 dd = some (.xd [(("value" : Str), v)]) ∧ Q v H1
theorem pe_byInvalidNumber {a : Addr} {oe : Obj} {cls : Value} {d : Option Addr} {pn : List (Addr × Obj)} {e : Expr} {te : TE} {pos : Pos} (T : PySem.XInvalidNumber.InvalidNumberTxt X.K X.mg C fI) (hz : Zc cls d oe) (hf : ∃ vs, oe.data = .fields vs) (he : PE (X.suite a ((a, oe) :: pn)) e te)
    (hb : attributeBase e "value" X.env (eval e X.env) = eval e X.env := by rfl) :
    PE (X.suite a ((a, oe) :: pn)) (.Attribute e "value" pos) (tByInvalidNumber C a cls d te) := by
  refine ⟨fun pins s σ H Q I h => ?_⟩
  refine attr_of hb (thn (he.run pins s σ H _ I h) fun u s1 hh => ?_)
  obtain ⟨x, H1, I1, rx, ex, ec, dd, v, ed, ea, q⟩ := hh
  subst ex
  obtain rfl : u = Value.ref a := rx
  subst ec
  subst ed
  obtain ⟨ha, _⟩ := I1.pin (a, oe) (List.mem_append_left _ List.mem_cons_self)
  obtain ⟨vs, hd⟩ := hf
  have hx : ObjOk X.prog X.w H1 s1.heap dd (.xd [(("value" : Str), v)]) := I1.hok dd _ ea
  obtain ⟨mA, hns, hr⟩ := hx
  obtain ⟨od, ho, hl⟩ := lookIn_ns hns
  have l : List.lookup ("value" : Str) [(("value" : Str), v)] = some v := by simp [List.lookup]
  obtain ⟨u, hu, ru⟩ := RelO.some_of (v := v) (o := mA "value") (by rw [← l]; exact hr "value")
  have J : PySem.W.InstAt s1.heap a oe C (some od) := ⟨ha, hz.1, by unfold PySem.W.notCls; rw [hd] <;> rfl, by rw [hz.2]; exact ho⟩
  exact HandSPX.exc_get I1.kIn J T.ga T.gg T.exC (PySem.W.findObj_own T.hdC T.noN rfl (by rw [hl, hu])) (handed_of ru) ⟨v, H1, I1.tok _, ru, q⟩
end
end L2

set_option Elab.async false
set_option linter.all false
set_option maxRecDepth 100000
set_option maxHeartbeats 4000000
/-! zip of three sequences, each a list or a tuple. -/
namespace Gd
open PySem PySem.Spec PyProof.Rows L2
/-- all three walked together: at each turn a new triple -/
def ItzF (K : PySem.W.Frag) (l1 l2 l3 : Bool) (a b c : Addr) : It where
  go := fun i H => ∃ (xs ys zs : List V) (x y z : V), SqE K l1 H a xs ∧ SqE K l2 H b ys ∧ SqE K l3 H c zs ∧ xs[i]? = some x ∧ ys[i]? = some y ∧ zs[i]? = some z
  yld := fun i H v H' => ∃ T x y z, v = .ref T ∧ H T = none ∧ H' = upd H T (.tup [x, y, z]) ∧ (∀ xs, SqE K l1 H a xs → xs[i]? = some x) ∧ (∀ ys, SqE K l2 H b ys → ys[i]? = some y) ∧ ∀ zs, SqE K l3 H c zs → zs[i]? = some z
  stop := fun i H => ∃ xs ys zs : List V, SqE K l1 H a xs ∧ SqE K l2 H b ys ∧ SqE K l3 H c zs ∧ i = min xs.length (min ys.length zs.length)
theorem turn_zipF {P : Program} {w : World} {K : PySem.W.Frag} {elts : List Expr} {kk : Nat} {tpos : Pos} {l1 l2 l3 : Bool} {a b c z TI TO i1 i2 i3 : Addr} (S : ZipSep3 z TI TO i1 i2 i3 [i1, a] [i2, b] [i3, c]) :
    Turn P w K (.Tuple elts kk tpos) (ItzF K l1 l2 l3 a b c) [z, TI, TO, i1, i2, i3] z (fun i h => IsZip h z TI TO .none ∧ IsTupOf3 h TI (.ref i1) (.ref i2) (.ref i3) ∧ (∃ x y u, IsTupOf3 h TO x y u) ∧ ItE l1 h i1 a i ∧ ItE l2 h i2 b i ∧ ItE l3 h i3 c i) where
  mem := List.mem_cons_self
  obj := by
    rintro i h ⟨hz, hTI, ⟨x, y, u, hTO⟩, h1, h2, h3⟩ d hc
    simp only [List.mem_cons, List.not_mem_nil, or_false] at hc
    rcases hc with rfl | rfl | rfl | rfl | rfl | rfl
    · exact ⟨_, hz, fun v q => nomatch q⟩
    · exact ⟨_, hTI, fun v q => nomatch q⟩
    · exact ⟨_, hTO, fun v q => nomatch q⟩
    · exact h1.there
    · exact h2.there
    · exact h3.there
  keep := by
    rintro i h h' ⟨hz, hTI, ⟨x, y, u, hTO⟩, h1, h2, h3⟩ k
    exact ⟨k _ (by simp) _ hz, k _ (by simp) _ hTI, ⟨x, y, u, k _ (by simp) _ hTO⟩, h1.at fun o q => k _ (by simp) o q, h2.at fun o q => k _ (by simp) o q, h3.at fun o q => k _ (by simp) o q⟩
  item := by
    intro X hP hw hK hc i pins s σ H E I hf st hg
    subst hP hw hK
    obtain ⟨hz, hTI, ⟨x0, y0, u0, hTO⟩, h1, h2, h3⟩ := st
    obtain ⟨xs, ys, ws, x, y, e, hqx, hqy, hqz, hx, hy, he⟩ := hg
    obtain ⟨its, rv, p⟩ := seqE I hqx
    obtain ⟨its2, rv2, p2⟩ := seqE I hqy
    obtain ⟨its3, rv3, p3⟩ := seqE I hqz
    obtain ⟨u, hu, ru⟩ := rv.get hx
    obtain ⟨u2, hu2, ru2⟩ := rv2.get hy
    obtain ⟨u3, hu3, ru3⟩ := rv3.get he
    have hd : X.A.in1.handled = none := I.ok.hd hc
    have zl : z < s.heap.objs.size := Heap.lt_size hz
    refine wpAny_pyNext_zipD3_item S (drawsE hd (h1.apart p)) (drawsE hd (h2.apart p2)) (drawsE hd (h3.apart p3)) hz hTI hTO ⟨h1, p⟩ ⟨h2, p2⟩ ⟨h3, p3⟩ (lt_of_get hu) (lt_of_get hu2) (lt_of_get hu3) fun v1 v2 v3 g3 tk e1 e2 e3 z3 TO3 s1 s2 s3 hT hsz hk => ?_
    obtain rfl : v1 = u := by
      rw [List.getElem?_toArray, hu] at e1
      exact (Option.some.inj e1).symm
    obtain rfl : v2 = u2 := by
      rw [List.getElem?_toArray, hu2] at e2
      exact (Option.some.inj e2).symm
    obtain rfl : v3 = u3 := by
      rw [List.getElem?_toArray, hu3] at e3
      exact (Option.some.inj e3).symm
    refine ⟨_, rfl, wpAny_letOwnedTupleGo_zip (s := { s with heap := g3, toks := tk }) z3 fun h4 z4 sb => ?_⟩
    have hT4 : h4.get? s.heap.objs.size = some { cls := .type "tuple", data := .seq #[v1, v2, v3] } := (sb.2 _ (Nat.ne_of_gt zl)).trans hT
    have new : ObjOk X.prog X.w (upd H s.heap.objs.size (.tup [x, y, e])) h4 s.heap.objs.size (.tup [x, y, e]) := ⟨by show 3 ≤ sizeLine; decide, [v1, v2, v3], .cons ru (.cons ru2 (.cons ru3 .nil)), ⟨_, hT4, rfl, _, rfl⟩⟩
    have kp : ∀ c o, c ∉ [z, TI, TO, i1, i2, i3] → s.heap.get? c = some o → h4.get? c = some o := fun c o hb q => by
      simp only [List.mem_cons, List.not_mem_nil, or_false, not_or] at hb
      exact (sb.2 c hb.1).trans (hk c o hb.1 hb.2.2.1 hb.2.2.2.1 hb.2.2.2.2.1 hb.2.2.2.2.2 q)
    have J : Inv X pins σ (upd H s.heap.objs.size (.tup [x, y, e])) { s with heap := h4, toks := tk } := I.turnedNew (t' := tk) kp hf (Nat.le_refl _) new
    refine ⟨.ref s.heap.objs.size, _, J, rfl, ⟨_, x, y, e, rfl, I.hok.fresh (Nat.le_refl _), rfl, fun m hm => ?_, fun m hm => ?_, fun m hm => ?_⟩, ⟨z4, ?_, ⟨v1, v2, v3, ?_⟩, ?_, ?_, ?_⟩, fun c hcm => ?_⟩
    · rw [injE I hm hqx]
      exact hx
    · rw [injE I hm hqy]
      exact hy
    · rw [injE I hm hqz]
      exact he
    · exact (sb.2 _ S.TIz).trans (hk _ _ S.TIz S.TITO S.TIi1 S.TIi2 S.TIi3 hTI)
    · exact (sb.2 _ S.TOz).trans TO3
    · exact s1.1.at fun o q => (sb.2 _ S.zi1.symm).trans q
    · exact s2.1.at fun o q => (sb.2 _ S.zi2.symm).trans q
    · exact s3.1.at fun o q => (sb.2 _ S.zi3.symm).trans q
    · have lt : c < s.heap.objs.size := by
        obtain ⟨_, g1, _⟩ := h1.there
        obtain ⟨_, g2, _⟩ := h2.there
        obtain ⟨_, g3, _⟩ := h3.there
        have hm := hcm
        simp only [List.mem_cons, List.not_mem_nil, or_false] at hm
        rcases hm with rfl | rfl | rfl | rfl | rfl | rfl
        · exact zl
        · exact Heap.lt_size hTI
        · exact Heap.lt_size hTO
        · exact Heap.lt_size g1
        · exact Heap.lt_size g2
        · exact Heap.lt_size g3
      rw [upd_ne (Nat.ne_of_lt lt)]
      exact (hf c hcm).1
  done := by
    intro X hP hw hK hc i pins s σ H E I hf st hg
    subst hP hw hK
    obtain ⟨hz, hTI, ⟨x0, y0, u0, hTO⟩, h1, h2, h3⟩ := st
    obtain ⟨xs, ys, ws, hqx, hqy, hqz, hend⟩ := hg
    obtain ⟨its, rv, p⟩ := seqE I hqx
    obtain ⟨its2, rv2, p2⟩ := seqE I hqy
    obtain ⟨its3, rv3, p3⟩ := seqE I hqz
    have n1 : its.toArray.size = xs.length := by rw [List.size_toArray, rv.length]
    have n2 : its2.toArray.size = ys.length := by rw [List.size_toArray, rv2.length]
    have n3 : its3.toArray.size = ws.length := by rw [List.size_toArray, rv3.length]
    have hd : X.A.in1.handled = none := I.ok.hd hc
    refine wpAny_pyNext_zipD3_end S (drawsE hd (h1.apart p)) (drawsE hd (h2.apart p2)) (drawsE hd (h3.apart p3)) hz hTI hTO ⟨h1, p⟩ ⟨h2, p2⟩ ⟨h3, p3⟩ (by omega) (by omega) (by omega) (by omega) fun g3 tk hk => ⟨rfl, I.turnedL (t' := tk) (fun c o hb q => ?_) hf⟩
    simp only [List.mem_cons, List.not_mem_nil, or_false, not_or] at hb
    exact hk c o hb.1 hb.2.2.1 hb.2.2.2.1 hb.2.2.2.2.1 hb.2.2.2.2.2 q
  self := fun A i s Q E st h => wpAny_pyIter_zip st.1 h
theorem vals_three {x y z : V} {us : List Value} (h : Vals [x, y, z] us) : ∃ u v w, us = [u, v, w] ∧ RelV x u ∧ RelV y v ∧ RelV z w := by
  cases h with
  | cons h1 t =>
    cases t with
    | cons h2 t =>
      cases t with
      | cons h3 t =>
        cases t
        exact ⟨_, _, _, rfl, h1, h2, h3⟩
def iZipF (K : PySem.W.Frag) (ta : TA) : TI := fun σ H R => ta σ H fun vs H1 => ∃ l1 l2 l3 a b c xs ys zs, vs = [.ref a, .ref b, .ref c] ∧ SqE K l1 H1 a xs ∧ SqE K l2 H1 b ys ∧ SqE K l3 H1 c zs ∧ R (ItzF K l1 l2 l3 a b c) H1
theorem call_of_zipF {X : Cx} {elts : List Expr} {kk : Nat} {tpos : Pos} {pins : List (Addr × Obj)} {σ : L2.St} {H : Hp} {s : Shared} {R : It → Hp → Prop} {l1 l2 l3 : Bool} {a b c : Addr} {i1 i2 i3 : Array Value} (I : Inv X pins σ H s)
    (p1 : HpE l1 s.heap a i1) (p2 : HpE l2 s.heap b i2) (p3 : HpE l3 s.heap c i3) (q : R (ItzF X.K l1 l2 l3 a b c) H) :
    wpAny (model X.prog X.w) X.A (call (.type "zip") [.ref a, .ref b, .ref c]) (fun v s2 => wpAny (model X.prog X.w) X.A (pyIter v) (PIE X pins σ (.Tuple elts kk tpos) R) X.xe s2) X.xe s := by
  refine zip_begins3 beginsE beginsE beginsE p1 p2 p3 fun h1 hz hTI hTO g1 g2 g3 _ hk => wpAny_pyIter_zip hz ?_
  have sep : ZipSep3 (s.heap.objs.size + 5) (s.heap.objs.size + 3) (s.heap.objs.size + 4) s.heap.objs.size (s.heap.objs.size + 1) (s.heap.objs.size + 2) [s.heap.objs.size, a] [s.heap.objs.size + 1, b] [s.heap.objs.size + 2, c] :=
    zip_sep3 (fun c hc => by rw [List.mem_singleton.mp hc]; exact p1.lt) (fun c hc => by rw [List.mem_singleton.mp hc]; exact p2.lt) (fun c hc => by rw [List.mem_singleton.mp hc]; exact p3.lt)
  refine ⟨s.heap.objs.size + 5, [s.heap.objs.size + 5, s.heap.objs.size + 3, s.heap.objs.size + 4, s.heap.objs.size, s.heap.objs.size + 1, s.heap.objs.size + 2], _, _, H, rfl, I.kept (t' := s.toks) hk, turn_zipF sep, ⟨hz, hTI, ⟨_, _, _, hTO⟩, .new g1, .new g2, .new g3⟩, fun c hc => ?_, q⟩
  have le : s.heap.objs.size ≤ c := by
    simp only [List.mem_cons, List.not_mem_nil, or_false] at hc
    rcases hc with rfl | rfl | rfl | rfl | rfl | rfl
    all_goals first | exact Nat.le_refl _ | exact Nat.le_add_right _ _
  exact I.fpOk le (I.hok.fresh le)
theorem pi_zipF {X : Cx} {e e2 e3 : Expr} {ta : TA} {p pos tpos : Pos} {elts : List Expr} {kk : Nat} (hg : Gl X "zip") (hm : X.mg "zip" = none) (ha : PA X [e, e2, e3] ta)
    (hs : starEach [e, e2, e3] X.env = (false, eval e X.env) :: starEach [e2, e3] X.env := by rfl) (hpl : (backTo pos (starEach [e2, e3] X.env)).any (·.1) = false := by rfl) :
    PI X (.Tuple elts kk tpos) (.Call (.Name "zip" p) [e, e2, e3] [] pos) (iZipF X.K ta) := by
  constructor
  intro pins s σ H R I h
  refine Call_ (ld_blt I hg hm PyProof.Rows.boot_zip (PyProof.Rows.callWith_type1 (thn (ha.run pos pins s σ H _ I h) fun us s1 q0 => ?_) hs hpl))
  obtain ⟨vs, H1, I1, r1, l1, l2, l3, a, b, c, xs, ys, zs, ex, hx, hy, hz, q⟩ := q0
  subst ex
  obtain ⟨u1, u2, u3, rfl, r1, r2, r3⟩ := vals_three r1
  cases r1
  cases r2
  cases r3
  obtain ⟨i1, _, p1⟩ := seqE I1 hx
  obtain ⟨i2, _, p2⟩ := seqE I1 hy
  obtain ⟨i3, _, p3⟩ := seqE I1 hz
  exact call_of_zipF I1 p1 p2 p3 q
/-- a new triple of the i-th ones -/
def YTri (xs ys zs : Nat → Option V) : Nat → Hp → V → Hp → Prop := fun i H v H' => ∃ T x y z, v = .ref T ∧ H T = none ∧ H' = upd H T (.tup [x, y, z]) ∧ xs i = some x ∧ ys i = some y ∧ zs i = some z
theorem walk_zipF {K : PySem.W.Frag} {l1 l2 l3 : Bool} {a b c : Addr} {xs ys zs : List V} {n : Nat} (hn : n = min xs.length (min ys.length zs.length)) :
    Walk (ItzF K l1 l2 l3 a b c) n (fun H => SqE K l1 H a xs ∧ SqE K l2 H b ys ∧ SqE K l3 H c zs) (YTri (fun i => xs[i]?) (fun i => ys[i]?) (fun i => zs[i]?)) where
  goes := fun i H hi q => by
    have h1 : i < xs.length := by omega
    have h2 : i < ys.length := by omega
    have h3 : i < zs.length := by omega
    exact ⟨xs, ys, zs, xs[i], ys[i], zs[i], q.1, q.2.1, q.2.2, List.getElem?_eq_getElem h1, List.getElem?_eq_getElem h2, List.getElem?_eq_getElem h3⟩
  stops := fun H q => ⟨xs, ys, zs, q.1, q.2.1, q.2.2, hn⟩
  yields := by
    rintro i H v H' _ q ⟨T, x, y, z, h1, h2, h3, h4, h5, h6⟩
    exact ⟨T, x, y, z, h1, h2, h3, h4 xs q.1, h5 ys q.2.1, h6 zs q.2.2⟩
end Gd

set_option Elab.async false
set_option linter.all false
set_option maxRecDepth 100000
set_option maxHeartbeats 4000000
/-! dict(list of pairs) with tuples of integers and texts as keys. -/
namespace Gd
open PySem PySem.Spec PyProof.Rows L2
section
variable {X : Cx}
/-- what is stored, one behind the other -/
def stoAll (kvs : List (List Key × V)) (qs : List (List Key × Addr × V)) : List (List Key × V) := qs.foldl (fun acc q => putK acc q.1 q.2.2) kvs
theorem pairsT_of {pins : List (Addr × Obj)} {σ : L2.St} {H : Hp} {s : Shared} (I : Inv X pins σ H s) : ∀ {ps : List Addr} {qs : List (List Key × Addr × V)},
    Paired (fun p (q : List Key × Addr × V) => SqT X.K H p [.ref q.2.1, q.2.2] ∧ H q.2.1 = some (.tup (q.1.map kV))) ps qs →
    ∃ prs : List (List Key × Addr × Value), prs.length = ps.length ∧ (∀ (j : Nat) (q : List Key × Addr × Value), prs[j]? = some q → ∃ b : Addr, ps[j]? = some b ∧ IsTup s.heap b #[.ref q.2.1, q.2.2] ∧ H q.2.1 = some (.tup (q.1.map kV))) ∧
      ∀ acc xs, KT H acc xs → KT H (stoAll acc qs) (storedAllH xs prs)
  | _, _, .nil => ⟨[], rfl, fun j q e => by simp at e, fun _ _ h => h⟩
  | _, _, .cons (a := p) (b := q) h t => by
    obtain ⟨prs, hl, hp, hf⟩ := pairsT_of I t
    obtain ⟨its, rv, ht, _⟩ := I.tuple h.1
    obtain ⟨u, y, ei, ru, ry⟩ := vals2 rv
    subst ei
    cases ru
    refine ⟨(q.1, q.2.1, y) :: prs, by rw [List.length_cons, List.length_cons, hl], fun j r e => ?_, fun acc xs r => hf _ _ (KT.put r q.1 h.2 ry)⟩
    cases j with
    | zero =>
      have e' : (q.1, q.2.1, y) = r := Option.some.inj e
      subst e'
      exact ⟨p, rfl, ht, h.2⟩
    | succ j =>
      obtain ⟨b, e1, e2, e3⟩ := hp j r (by simpa using e)
      exact ⟨b, by simpa using e1, e2, e3⟩
theorem length_stoAll : ∀ (qs : List (List Key × Addr × V)) (kvs : List (List Key × V)), (stoAll kvs qs).length ≤ kvs.length + qs.length
  | [], kvs => Nat.le_refl _
  | q :: qs, kvs => by
    have h1 := length_stoAll qs (putK kvs q.1 q.2.2)
    have h2 := length_putK kvs q.1 q.2.2
    rw [List.length_cons]
    show (stoAll (putK kvs q.1 q.2.2) qs).length ≤ _
    omega
def rDictPT (K : PySem.W.Frag) : List V → Hp → VK → Prop := fun xs H Q => ∃ (a : Addr) (ps : List Addr) (qs : List (List Key × Addr × V)), xs = [.ref a] ∧ SqL K H a (ps.map V.ref) ∧
  Paired (fun p (q : List Key × Addr × V) => SqT K H p [.ref q.2.1, q.2.2] ∧ H q.2.1 = some (.tup (q.1.map kV))) ps qs ∧ ∀ p, H p = none → Q (.ref p) (upd H p (.dT (stoAll [] qs)))
theorem paired_len {α β : Type} {F : α → β → Prop} : ∀ {a : List α} {b : List β}, Paired F a b → a.length = b.length
  | _, _, .nil => rfl
  | _, _, .cons _ t => by rw [List.length_cons, List.length_cons, paired_len t]
theorem call_dictPT (hcalm : X.calm = true) (hu : X.A.units + 66 < cLine) : CallR X (.type "dict") (rDictPT X.K) := by
  intro pins s σ H xs us Q I r q
  obtain ⟨a, ps, qs, ex, hq, hp, q⟩ := q
  subst ex
  obtain ⟨u, eu, rx⟩ := vals1 r
  subst eu
  cases rx
  obtain ⟨its, rv, pl, hz⟩ := I.list hq
  have ei := refs_at rv
  subst ei
  rw [List.length_map] at hz
  obtain ⟨prs, hl, hpr, hf⟩ := pairsT_of I hp
  have hlq := paired_len hp
  refine call_dict_pairsH (knd := tupleKind (mixKind X.prog X.w)) (ps := prs) (n := prs.length) (PairArg.list a ((ps.map Value.ref).toArray) (fun j => (ps.getD j 0)) (prs.map fun q => (Value.ref q.2.1, q.2.2)) |> fun P => by rw [List.length_map] at P; exact P) (I.ok.hd hcalm) ?_ ?_ ?_ ?_ ?_ ?_
  · show X.A.units + 2 < cLine
    omega
  · refine ⟨pl, by simp [hl], fun j k v hj => ?_⟩
    rw [List.getElem?_map] at hj
    cases e : prs[j]? with
    | none => rw [e] at hj; cases hj
    | some q' =>
      rw [e] at hj
      obtain ⟨b, e1, e2, e3⟩ := hpr j q' e
      cases hj
      refine ⟨?_, ?_⟩
      · simp [e1]
      · have eb : ps.getD j 0 = b := by rw [List.getD_eq_getElem?_getD, e1]; rfl
        show PairAt s.heap (ps.getD j 0) _ _
        rw [eb]
        exact .inl e2
  · refine ⟨rfl, fun i key v hr => ?_⟩
    have hr' : (prs.map fun q => (Value.ref q.2.1, q.2.2))[i]? = some (key, v) := hr
    rw [List.getElem?_map] at hr'
    cases e : prs[i]? with
    | none => rw [e] at hr'; cases hr'
    | some q' =>
      rw [e] at hr'
      cases hr'
      exact ⟨q'.1, q'.2.1, rfl, rfl⟩
  · intro h' hk x hx
    obtain ⟨j, hj, e⟩ := List.getElem_of_mem hx
    obtain ⟨b, e1, e2, e3⟩ := hpr j x (by rw [List.getElem?_eq_getElem hj, e])
    obtain ⟨o, items, n, h1, h2, h3, h4⟩ := key_of I.hok e3
    exact ⟨o, items, n, hk _ _ (Nat.ne_of_lt (Heap.lt_size h1)) (fun z => by cases z) h1, h2, h3, h4⟩
  · rw [hl]
    exact hz
  · intro h' tk hd' hk
    have hm : (s.heap.objs.size == sysModules) = false := beq_eq_false_iff_ne.mpr (Nat.ne_of_gt I.big)
    have hlen : (stoAll [] qs).length ≤ sizeLine := by
      refine Nat.le_trans (length_stoAll qs []) ?_
      rw [List.length_nil, Nat.zero_add, ← hlq]
      exact hz
    obtain ⟨o, es, ep, h1, h2, h3, h4, _, h5⟩ := hd'
    have fresh : H s.heap.objs.size = none := I.hok.fresh (Nat.le_refl _)
    have kt : KT H (stoAll [] qs) (storedAllH [] prs) := hf [] [] .nil
    exact ⟨.ref s.heap.objs.size, upd H s.heap.objs.size (.dT (stoAll [] qs)), I.laid (t' := tk) (fun b o e => hk b o (fun z => by cases z) e) (Nat.le_refl _)
      (show ObjOk X.prog X.w _ _ _ (.dT (stoAll [] qs)) from ⟨hlen, hm, _, kt.keeps (fun b ys e => by rw [upd_ne (ne_of_none e fresh)]; exact e), o, es, ep, h1, h2, h3, h4, h5⟩), rfl, q _ fresh⟩
end
end Gd

set_option Elab.async false
set_option linter.all false
set_option maxRecDepth 100000
set_option maxHeartbeats 4000000
namespace PySem
namespace XTooMany
open PySem.W PySem.Calls PyProof.Rows PySem.HandSPX
/-! ### the text of __init__ -/
def iA (p1 p2 : Pos) : Arguments := { posonlyargs := [], args := [{ arg := "self", annotation := none, pos := p1 }, { arg := "limit", annotation := none, pos := p2 }], vararg := none, kwonlyargs := [], kw_defaults := [], kwarg := none, defaults := [] }
def iB (q1 q2 q3 q4 : Pos) : List Stmt := [.Assign [.Attribute (.Name "self" q1) "limit" q2] (.Name "limit" q3) q4]
def iS : Scope := { kind := .function, names := [(PySem.Str.ofString "self", .local), (PySem.Str.ofString "limit", .local)], isGenerator := false, isCoroutine := false, more := [] }
/-- what the written part says of Low, at C, and of its __init__, at fI -/
structure TooManyTxt (K : Frag) (mg : Str → Option Value) (C fI : Addr) : Prop where
  gC : mg "TooMany" = some (.ref C)
  cls : ∃ nm q N bs sn sub ab col dd k0 k1 k2 k3 k5, K.lookup C = some (excClassObj nm q C N bs [.type "OverflowError", .type "ArithmeticError", .type "Exception", .type "BaseException", .type "object"] true sn sub ab col dd k0 k1 k2 k3 k5 "OverflowError.__new__")
  sa : findIn K (.ref C) "__setattr__" = some (some (.builtin "object.__setattr__"))
  ga : findIn K (.ref C) "__getattribute__" = some (some (.builtin "BaseException.__getattribute__"))
  gg : findIn K (.ref C) "__getattr__" = some none
  noN : findIn K (.ref C) "limit" = some none
  iC : findIn K (.ref C) "__init__" = some (some (.ref fI))
  tC : typeIn K (.ref fI) = some (.type "function")
  kC : keepIn K (.ref C) = true
  exC : subIn K (.ref C) (.type "BaseException") = some true
  tyC : typeIn K (.ref C) = some (.type "type")
  hdC : hasDictIn K C = true
  te : exmOne K (.ref C) (.ref C) = some true
  fn : ∃ (oc : Value) (od : Option Addr) (doc pm : Value) (an : Option Addr) (cdv ct : Value) (osl : Array (Option Value)) (p1 p2 q1 q2 q3 q4 : Pos),
    K.lookup fI = some ⟨oc, od, .func (fnOf "__init__" "TooMany.__init__" (iA p1 p2) (iB q1 q2 q3 q4) iS .none .none doc pm an cdv ct), osl⟩ ∧ codeIn K cdv "TooMany.__init__" = true
theorem one_size (v : Value) : [v].length ≤ sizeLine := by
  rw [sizeLine_eq]
  exact (by decide : 1 ≤ 16777216)
theorem kept_but {K : Frag} {h h' : Heap} {x : Addr} (X : K.In h) (hx : K.lookup x = none) (k : ∀ b o, b ≠ x → h.get? b = some o → h'.get? b = some o) : K.In h' := fun a o e =>
  k a o (fun z => by rw [z, hx] at e; cases e) (X a o e)
theorem ldC {M : Model} {s : Shared} {name : Str} {scope : Scope} {L a : Addr} {cd : Value} {m : Str → Option Value} {x : Str} {pos : Pos} {v : Value} {Q : Value → Shared → Prop} {A : Around} {E : Value → Shared → Prop} (hn : s.heap.Ns L m) (hv : m x = some v) (h : Q v s)
    (hk : scope.kind = .function := by rfl) (hl : (envOfC name scope L a cd).kindOf x = some .local := by rfl) (hd : (x == ("__debug__" : Str)) = false := by decide) :
    wpAny M A (eval (.Name x pos) (envOfC name scope L a cd)) Q E s := wpAny_Name (wpAny_loadName_local hk hl hn hv h) hd
/-- what __init__ leaves of a fresh exception at x -/
structure InitEnd (h h' : Heap) (x C dx t1 : Addr) (v : Value) : Prop where
  keep : ∀ b o, b ≠ x → h.get? b = some o → h'.get? b = some o
  obj : h'.get? x = some { cls := .ref C, dict := some dx, data := .fields #[.ref t1, .none, .none, .none, .bool false, .none] }
  dbig : h.objs.size ≤ dx
  dne : dx ≠ x
  ns : h'.Ns1 dx (fun y => if y = "limit" then some v else none)
/-- a made Low -/
structure OwnMade (h h' : Heap) (e C d : Addr) (v : Value) : Prop where
  keep : ∀ b o, h.get? b = some o → h'.get? b = some o
  new : h.objs.size ≤ e
  obj : ∃ oe vs, h'.get? e = some oe ∧ oe.cls = .ref C ∧ oe.dict = some d ∧ oe.data = .fields vs ∧ vs[1]? = some .none
  dbig : h.objs.size ≤ d
  dne : d ≠ e
  ns : h'.Ns1 d (fun y => if y = "limit" then some v else none)
section
variable {prog : Program} {w : World} {A : Around} {E : Value → Shared → Prop} {R : Result → Shared → Prop} {s : Shared} {K : Frag} {mg : Str → Option Value} {C fI : Addr}
theorem low_init (T : TooManyTxt K mg C fI) {x t0 : Addr} {v : Value} (X : K.In s.heap) (hlim : s.heap.NoLimit) (hx : s.heap.get? x = some (excO C t0)) (hnx : K.lookup x = none) (hroom : A.depth < recursionLimit)
    (hq : ∀ h' tk dx, InitEnd s.heap h' x C dx t0 v → R (.ok (.ret .none)) { s with heap := h', toks := tk }) :
    codeAny (model prog w) A (.call (.ref fI) ⟨[.ref x, v], []⟩) R s := by
  obtain ⟨oc, od, doc, pm, an, cdv, ct, osl, p1, p2, q1, q2, q3, q4, ho, hcd⟩ := T.fn
  obtain ⟨nm, q, N, bs, sn, sub, ab, col, dd, k0, k1, k2, k3, k5, hC⟩ := T.cls
  have hcl : clsIn K C = some { name := nm, bases := bs, mro := .ref C :: [.type "OverflowError", .type "ArithmeticError", .type "Exception", .type "BaseException", .type "object"], ns := N, qualname := q, hasDict := true, slotNames := sn, subclasses := sub, abstract := ab, collection := col, hasDel := false } := by unfold clsIn; rw [hC] <;> rfl
  refine Att.call_fn (binds := [("self", .ref x), ("limit", v)]) X hlim ho hcd hroom (BindsTo.of_eq (by first | rfl | with_unfolding_all rfl)) (by first | rfl | decide | with_unfolding_all rfl) (fun s₁ IC => ?_) rfl rfl rfl
  obtain ⟨h₁, tk₁, rfl⟩ := IC.toInCall.same
  have k : ∀ b o, s.heap.get? b = some o → h₁.get? b = some o := IC.toInCall.keep
  have hn := IC.toInCall.ns
  have hxL : s.heap.objs.size ≠ x := Nat.ne_of_gt (Heap.lt_size hx)
  have X₁ : K.In h₁ := X.keeps k
  have hx₁ := k _ _ hx
  -- self.by = by
  show wpAny _ _ (execs _ _) _ _ _
  refine wpAny_execs_cons (plainObj_wpAny_Assign_Attribute ?_)
  refine ldC (v := v) hn (by first | rfl | with_unfolding_all rfl | kernel_rfl) (ldC (v := .ref x) hn (by first | rfl | with_unfolding_all rfl | kernel_rfl) ?_)
  refine set_plain X₁ (ox := excO C t0) (od := none) ⟨hx₁, rfl, rfl, trivial⟩ T.sa ?_
  refine GdX.osaG F.store_OverflowError X₁ hx₁ hcl rfl rfl T.noN (fun h₃ tk₃ dx k₃ dn dne hx₃ hn₃ => ?_)
  show wpAny _ _ (execs _ _) _ _ _
  have z : s.heap.objs.size < h₁.objs.size := hn.lt
  exact wpAny_execs_nil (hq h₃ tk₃ dx ⟨fun b o hb e => k₃ b o hb (k b o e), hx₃, Nat.le_of_lt (Nat.lt_of_lt_of_le z dn), dne, hn₃⟩)
theorem low_made (T : TooManyTxt K mg C fI) {v : Value} (X : K.In s.heap) (hlim : s.heap.NoLimit) (hroom : A.depth + 1 < recursionLimit)
    (hq : ∀ h' tk e d, OwnMade s.heap h' e C d v → R (.ok (.ret (.ref e))) { s with heap := h', toks := tk }) :
    codeAny (model prog w) A (.call (.ref C) ⟨[v], []⟩) R s := by
  obtain ⟨nm, q, N, bs, sn, sub, ab, col, dd, k0, k1, k2, k3, k5, hC⟩ := T.cls
  obtain ⟨hp, g, dr, tk, os⟩ := s
  have k : ∀ b o, hp.get? b = some o → ((hp.push (kdv_tup [v])).push (excO C hp.objs.size)).get? b = some o := fun b o e => Heap.get?_push_of_some _ (Heap.get?_push_of_some _ e)
  have hget : ((hp.push (kdv_tup [v])).push (excO C hp.objs.size)).get? (hp.objs.size + 1) = some (excO C hp.objs.size) := by heap_get
  have hnx : K.lookup (hp.objs.size + 1) = none := by
    cases e : K.lookup (hp.objs.size + 1) with
    | none => rfl
    | some o =>
      have z : hp.get? (hp.objs.size + 1) = some o := X _ _ e
      exact absurd (Nat.lt_of_succ_lt (Heap.lt_size z)) (Nat.lt_irrefl _)
  refine call_own F.excBase_OverflowError (fun _ => rfl) (X _ _ hC) (looks_findIn X T.iC) (fun self => bind_fn X self T.tC) (one_size v) ?_
  refine low_init (s := ⟨(hp.push (kdv_tup [v])).push (excO C hp.objs.size), g, dr, tk, os⟩) T (X.keeps k) (hlim.keeps k) hget hnx ?_ fun h' tk' dx ⟨k', hx, dn, dne, hns⟩ => ?_
  · show A.depth + 1 < recursionLimit
    exact hroom
  · have old : ∀ b o, hp.get? b = some o → h'.get? b = some o := fun b o e => k' b o (Nat.ne_of_lt (Nat.lt_succ_of_lt (Heap.lt_size e))) (k b o e)
    have z : hp.objs.size + 1 + 1 ≤ dx := by
      first
        | (simpa only [Heap.size_push] using dn)
        | exact dn
        | (have q := dn; rw [Heap.size_push, Heap.size_push] at q; exact q)
    exact ⟨rfl, hq h' tk' (hp.objs.size + 1) dx ⟨old, Nat.le_succ _, ⟨_, _, hx, rfl, rfl, rfl, rfl⟩, Nat.le_trans (Nat.le_trans (Nat.le_succ _) (Nat.le_succ _)) z, dne, hns⟩⟩
end
end XTooMany
end PySem
namespace L2
open PySem PySem.Spec PyProof.Rows
theorem relO_TooMany {v : V} {v' : Value} (r : RelV v v') (f : Str) : RelO (List.lookup f [(("limit" : Str), v)]) (if f = "limit" then some v' else none) := by
  by_cases hw : f = "limit"
  · subst hw
    rw [if_pos rfl]
    have q : List.lookup ("limit" : Str) [(("limit" : Str), v)] = some v := by simp [List.lookup]
    rw [q]
    exact r
  · rw [if_neg hw]
    have qw : (f == ("limit" : Str)) = false := by simpa using hw
    have q2 : List.lookup f [(("limit" : Str), v)] = none := by simp [List.lookup, qw]
    rw [q2]
    trivial
section
variable {X : Cx} {C fI : Addr}
/-- Low(e) -/
def tMkTooMany (C : Addr) (ta : TA) : St → Hp → XK → Prop := fun σ H Q => ta σ H fun vs H1 => ∃ v, vs = [v] ∧ ∀ d, H1 d = none → Q (.ref C) (some d) (upd H1 d (.xd [(("limit" : Str), v)]))
theorem pmk_TooMany {a : Expr} {ta : TA} {p pos : Pos} {k : Nat} (T : PySem.XTooMany.TooManyTxt X.K X.mg C fI) (hr : Room k X.A) (ha : PA X [a] ta) (hg : Gl X "TooMany" := by rfl)
    (he : starEach (a :: []) X.env = (false, eval a X.env) :: starEach [] X.env := by rfl) (hpl : (backTo pos (starEach [] X.env)).any (·.1) = false := by rfl) :
    PMk X (.Call (.Name "TooMany" p) [a] [] pos) (tMkTooMany C ta) := by
  intro pins s σ H Q I h
  refine wpAny_Call_Name_kw (ld_glob I hg T.gC ?_)
  refine PySem.W.callWith_K (h₀ := X.base) I.ok.mod.kin T.kC (thn (ha.run pos pins s σ H _ I h) fun us s1 hh => ?_) he hpl
  obtain ⟨vs, H1, I1, r1, v, ev, q1⟩ := hh
  subst ev
  refine ⟨I1.kIn, ?_⟩
  cases r1 with
  | cons rv rn =>
    rename_i v' us'
    cases rn
    show wpAny _ _ (call (.ref C) [v']) _ _ _
    have hlim := I1.nolimit
    obtain ⟨hp, g, dr, tk, os⟩ := s1
    refine wpAny_call (PySem.XTooMany.low_made T I1.kIn hlim (by have := hr.dp; omega) fun h' tk' e d M => ?_)
    show MkP X pins σ Q (.ref e) ⟨h', g, dr, tk', os⟩
    obtain ⟨oe, fv, hoe, hc, hd, hdat, h1⟩ := M.obj
    have hns := M.ns
    obtain ⟨G', g1, g2⟩ := restrict h' fun b => decide (b ≠ e)
    have gk : ∀ b, b ≠ e → G'.get? b = h'.get? b := fun b hb => g1 b (decide_eq_true hb)
    have ge : G'.get? e = none := g2 e (by simp)
    have old : ∀ b o, hp.get? b = some o → G'.get? b = some o := fun b o q => (gk b (Nat.ne_of_lt (Nat.lt_of_lt_of_le (Heap.lt_size q) M.new))).trans (M.keep b o q)
    have ob : ObjOk X.prog X.w (upd H1 d (.xd [(("limit" : Str), v)])) G' d (.xd [(("limit" : Str), v)]) :=
      ⟨_, hns.at (fun o q => (gk d M.dne).trans q), fun f => relO_TooMany rv f⟩
    have J : Inv X pins σ (upd H1 d (.xd [(("limit" : Str), v)])) ⟨G', g, dr, tk', os⟩ := I1.laid (t' := tk') old M.dbig ob
    refine ⟨e, oe, fv, ⟨G', g, dr, tk', os⟩, _, .ref C, some d, rfl, J, fun b o q => ?_, ge, hoe, ⟨hc, hd⟩, hdat, h1, ?_, rfl, I1.bare, raises_own T.exC T.tyC, q1 d (I1.hok.fresh M.dbig)⟩
    · by_cases hb : b = e
      · have q' : G'.get? b = some o := q
        rw [hb, ge] at q'; cases q'
      · exact (gk b hb).symm.trans q
    · rw [upd_ne (Ne.symm M.dne)]
      exact I1.hok.fresh M.new
/-- raise Low(e) -/
def tRaiseTooMany (C : Addr) (W : WX) (ta : TA) : TS := fun _ σ H => tMkTooMany C ta σ H fun cls d H' => W cls d σ H'
theorem ps_raiseTooMany {a : Expr} {ta : TA} {W : WX} {p pos pos2 : Pos} {k : Nat} (hc : X.calm = true) (T : PySem.XTooMany.TooManyTxt X.K X.mg C fI) (hr : Room k X.A) (tk : Takes X W) (ha : PA X [a] ta) (hg : Gl X "TooMany" := by rfl)
    (he : starEach (a :: []) X.env = (false, eval a X.env) :: starEach [] X.env := by rfl) (hpl : (backTo pos (starEach [] X.env)).any (·.1) = false := by rfl) :
    PS X (.Raise (some (.Call (.Name "TooMany" p) [a] [] pos)) none pos2) (tRaiseTooMany C W ta) := ps_raise hc tk (pmk_TooMany T hr ha hg he hpl)
/-- low.by, low the exception that the suite holds (at a; its class cls, its dict d) -/
def tByTooMany (C : Addr) (a : Addr) (cls : Value) (d : Option Addr) (te : TE) : TE := fun σ H Q => te σ H fun x H1 => x = .ref a ∧ cls = .ref C ∧ ∃ (dd : Addr) (v : V), d = some dd ∧ H1 dd = some (.xd [(("limit" : Str), v)]) ∧ Q v H1
theorem pe_byTooMany {a : Addr} {oe : Obj} {cls : Value} {d : Option Addr} {pn : List (Addr × Obj)} {e : Expr} {te : TE} {pos : Pos} (T : PySem.XTooMany.TooManyTxt X.K X.mg C fI) (hz : Zc cls d oe) (hf : ∃ vs, oe.data = .fields vs) (he : PE (X.suite a ((a, oe) :: pn)) e te)
    (hb : attributeBase e "limit" X.env (eval e X.env) = eval e X.env := by rfl) :
    PE (X.suite a ((a, oe) :: pn)) (.Attribute e "limit" pos) (tByTooMany C a cls d te) := by
  refine ⟨fun pins s σ H Q I h => ?_⟩
  refine attr_of hb (thn (he.run pins s σ H _ I h) fun u s1 hh => ?_)
  obtain ⟨x, H1, I1, rx, ex, ec, dd, v, ed, ea, q⟩ := hh
  subst ex
  obtain rfl : u = Value.ref a := rx
  subst ec
  subst ed
  obtain ⟨ha, _⟩ := I1.pin (a, oe) (List.mem_append_left _ List.mem_cons_self)
  obtain ⟨vs, hd⟩ := hf
  have hx : ObjOk X.prog X.w H1 s1.heap dd (.xd [(("limit" : Str), v)]) := I1.hok dd _ ea
  obtain ⟨mA, hns, hr⟩ := hx
  obtain ⟨od, ho, hl⟩ := lookIn_ns hns
  have l : List.lookup ("limit" : Str) [(("limit" : Str), v)] = some v := by simp [List.lookup]
  obtain ⟨u, hu, ru⟩ := RelO.some_of (v := v) (o := mA "limit") (by rw [← l]; exact hr "limit")
  have J : PySem.W.InstAt s1.heap a oe C (some od) := ⟨ha, hz.1, by unfold PySem.W.notCls; rw [hd] <;> rfl, by rw [hz.2]; exact ho⟩
  exact HandSPX.exc_get I1.kIn J T.ga T.gg T.exC (PySem.W.findObj_own T.hdC T.noN rfl (by rw [hl, hu])) (handed_of ru) ⟨v, H1, I1.tok _, ru, q⟩
end
end L2

set_option Elab.async false
set_option linter.all false
set_option maxRecDepth 100000
set_option maxHeartbeats 4000000
namespace PySem
namespace XRefused
open PySem.W PySem.Calls PyProof.Rows PySem.HandSPX
/-! ### the text of __init__ -/
def iA (p1 p2 : Pos) : Arguments := { posonlyargs := [], args := [{ arg := "self", annotation := none, pos := p1 }, { arg := "reason", annotation := none, pos := p2 }], vararg := none, kwonlyargs := [], kw_defaults := [], kwarg := none, defaults := [] }
def iB (q1 q2 q3 q4 : Pos) : List Stmt := [.Assign [.Attribute (.Name "self" q1) "reason" q2] (.Name "reason" q3) q4]
def iS : Scope := { kind := .function, names := [(PySem.Str.ofString "self", .local), (PySem.Str.ofString "reason", .local)], isGenerator := false, isCoroutine := false, more := [] }
/-- what the written part says of Low, at C, and of its __init__, at fI -/
structure RefusedTxt (K : Frag) (mg : Str → Option Value) (C fI : Addr) : Prop where
  gC : mg "Refused" = some (.ref C)
  cls : ∃ nm q N bs sn sub ab col dd k0 k1 k2 k3 k5, K.lookup C = some (excClassObj nm q C N bs [.type "ArithmeticError", .type "Exception", .type "BaseException", .type "object"] true sn sub ab col dd k0 k1 k2 k3 k5 "ArithmeticError.__new__")
  sa : findIn K (.ref C) "__setattr__" = some (some (.builtin "object.__setattr__"))
  ga : findIn K (.ref C) "__getattribute__" = some (some (.builtin "BaseException.__getattribute__"))
  gg : findIn K (.ref C) "__getattr__" = some none
  noN : findIn K (.ref C) "reason" = some none
  iC : findIn K (.ref C) "__init__" = some (some (.ref fI))
  tC : typeIn K (.ref fI) = some (.type "function")
  kC : keepIn K (.ref C) = true
  exC : subIn K (.ref C) (.type "BaseException") = some true
  tyC : typeIn K (.ref C) = some (.type "type")
  hdC : hasDictIn K C = true
  te : exmOne K (.ref C) (.ref C) = some true
  fn : ∃ (oc : Value) (od : Option Addr) (doc pm : Value) (an : Option Addr) (cdv ct : Value) (osl : Array (Option Value)) (p1 p2 q1 q2 q3 q4 : Pos),
    K.lookup fI = some ⟨oc, od, .func (fnOf "__init__" "Refused.__init__" (iA p1 p2) (iB q1 q2 q3 q4) iS .none .none doc pm an cdv ct), osl⟩ ∧ codeIn K cdv "Refused.__init__" = true
theorem one_size (v : Value) : [v].length ≤ sizeLine := by
  rw [sizeLine_eq]
  exact (by decide : 1 ≤ 16777216)
theorem kept_but {K : Frag} {h h' : Heap} {x : Addr} (X : K.In h) (hx : K.lookup x = none) (k : ∀ b o, b ≠ x → h.get? b = some o → h'.get? b = some o) : K.In h' := fun a o e =>
  k a o (fun z => by rw [z, hx] at e; cases e) (X a o e)
theorem ldC {M : Model} {s : Shared} {name : Str} {scope : Scope} {L a : Addr} {cd : Value} {m : Str → Option Value} {x : Str} {pos : Pos} {v : Value} {Q : Value → Shared → Prop} {A : Around} {E : Value → Shared → Prop} (hn : s.heap.Ns L m) (hv : m x = some v) (h : Q v s)
    (hk : scope.kind = .function := by rfl) (hl : (envOfC name scope L a cd).kindOf x = some .local := by rfl) (hd : (x == ("__debug__" : Str)) = false := by decide) :
    wpAny M A (eval (.Name x pos) (envOfC name scope L a cd)) Q E s := wpAny_Name (wpAny_loadName_local hk hl hn hv h) hd
/-- what __init__ leaves of a fresh exception at x -/
structure InitEnd (h h' : Heap) (x C dx t1 : Addr) (v : Value) : Prop where
  keep : ∀ b o, b ≠ x → h.get? b = some o → h'.get? b = some o
  obj : h'.get? x = some { cls := .ref C, dict := some dx, data := .fields #[.ref t1, .none, .none, .none, .bool false, .none] }
  dbig : h.objs.size ≤ dx
  dne : dx ≠ x
  ns : h'.Ns1 dx (fun y => if y = "reason" then some v else none)
/-- a made Low -/
structure OwnMade (h h' : Heap) (e C d : Addr) (v : Value) : Prop where
  keep : ∀ b o, h.get? b = some o → h'.get? b = some o
  new : h.objs.size ≤ e
  obj : ∃ oe vs, h'.get? e = some oe ∧ oe.cls = .ref C ∧ oe.dict = some d ∧ oe.data = .fields vs ∧ vs[1]? = some .none
  dbig : h.objs.size ≤ d
  dne : d ≠ e
  ns : h'.Ns1 d (fun y => if y = "reason" then some v else none)
section
variable {prog : Program} {w : World} {A : Around} {E : Value → Shared → Prop} {R : Result → Shared → Prop} {s : Shared} {K : Frag} {mg : Str → Option Value} {C fI : Addr}
theorem low_init (T : RefusedTxt K mg C fI) {x t0 : Addr} {v : Value} (X : K.In s.heap) (hlim : s.heap.NoLimit) (hx : s.heap.get? x = some (excO C t0)) (hnx : K.lookup x = none) (hroom : A.depth < recursionLimit)
    (hq : ∀ h' tk dx, InitEnd s.heap h' x C dx t0 v → R (.ok (.ret .none)) { s with heap := h', toks := tk }) :
    codeAny (model prog w) A (.call (.ref fI) ⟨[.ref x, v], []⟩) R s := by
  obtain ⟨oc, od, doc, pm, an, cdv, ct, osl, p1, p2, q1, q2, q3, q4, ho, hcd⟩ := T.fn
  obtain ⟨nm, q, N, bs, sn, sub, ab, col, dd, k0, k1, k2, k3, k5, hC⟩ := T.cls
  have hcl : clsIn K C = some { name := nm, bases := bs, mro := .ref C :: [.type "ArithmeticError", .type "Exception", .type "BaseException", .type "object"], ns := N, qualname := q, hasDict := true, slotNames := sn, subclasses := sub, abstract := ab, collection := col, hasDel := false } := by unfold clsIn; rw [hC] <;> rfl
  refine Att.call_fn (binds := [("self", .ref x), ("reason", v)]) X hlim ho hcd hroom (BindsTo.of_eq (by first | rfl | with_unfolding_all rfl)) (by first | rfl | decide | with_unfolding_all rfl) (fun s₁ IC => ?_) rfl rfl rfl
  obtain ⟨h₁, tk₁, rfl⟩ := IC.toInCall.same
  have k : ∀ b o, s.heap.get? b = some o → h₁.get? b = some o := IC.toInCall.keep
  have hn := IC.toInCall.ns
  have hxL : s.heap.objs.size ≠ x := Nat.ne_of_gt (Heap.lt_size hx)
  have X₁ : K.In h₁ := X.keeps k
  have hx₁ := k _ _ hx
  -- self.by = by
  show wpAny _ _ (execs _ _) _ _ _
  refine wpAny_execs_cons (plainObj_wpAny_Assign_Attribute ?_)
  refine ldC (v := v) hn (by first | rfl | with_unfolding_all rfl | kernel_rfl) (ldC (v := .ref x) hn (by first | rfl | with_unfolding_all rfl | kernel_rfl) ?_)
  refine set_plain X₁ (ox := excO C t0) (od := none) ⟨hx₁, rfl, rfl, trivial⟩ T.sa ?_
  refine GdX.osaG F.store_ArithmeticError X₁ hx₁ hcl rfl rfl T.noN (fun h₃ tk₃ dx k₃ dn dne hx₃ hn₃ => ?_)
  show wpAny _ _ (execs _ _) _ _ _
  have z : s.heap.objs.size < h₁.objs.size := hn.lt
  exact wpAny_execs_nil (hq h₃ tk₃ dx ⟨fun b o hb e => k₃ b o hb (k b o e), hx₃, Nat.le_of_lt (Nat.lt_of_lt_of_le z dn), dne, hn₃⟩)
theorem low_made (T : RefusedTxt K mg C fI) {v : Value} (X : K.In s.heap) (hlim : s.heap.NoLimit) (hroom : A.depth + 1 < recursionLimit)
    (hq : ∀ h' tk e d, OwnMade s.heap h' e C d v → R (.ok (.ret (.ref e))) { s with heap := h', toks := tk }) :
    codeAny (model prog w) A (.call (.ref C) ⟨[v], []⟩) R s := by
  obtain ⟨nm, q, N, bs, sn, sub, ab, col, dd, k0, k1, k2, k3, k5, hC⟩ := T.cls
  obtain ⟨hp, g, dr, tk, os⟩ := s
  have k : ∀ b o, hp.get? b = some o → ((hp.push (kdv_tup [v])).push (excO C hp.objs.size)).get? b = some o := fun b o e => Heap.get?_push_of_some _ (Heap.get?_push_of_some _ e)
  have hget : ((hp.push (kdv_tup [v])).push (excO C hp.objs.size)).get? (hp.objs.size + 1) = some (excO C hp.objs.size) := by heap_get
  have hnx : K.lookup (hp.objs.size + 1) = none := by
    cases e : K.lookup (hp.objs.size + 1) with
    | none => rfl
    | some o =>
      have z : hp.get? (hp.objs.size + 1) = some o := X _ _ e
      exact absurd (Nat.lt_of_succ_lt (Heap.lt_size z)) (Nat.lt_irrefl _)
  refine call_own F.excBase_ArithmeticError (fun _ => rfl) (X _ _ hC) (looks_findIn X T.iC) (fun self => bind_fn X self T.tC) (one_size v) ?_
  refine low_init (s := ⟨(hp.push (kdv_tup [v])).push (excO C hp.objs.size), g, dr, tk, os⟩) T (X.keeps k) (hlim.keeps k) hget hnx ?_ fun h' tk' dx ⟨k', hx, dn, dne, hns⟩ => ?_
  · show A.depth + 1 < recursionLimit
    exact hroom
  · have old : ∀ b o, hp.get? b = some o → h'.get? b = some o := fun b o e => k' b o (Nat.ne_of_lt (Nat.lt_succ_of_lt (Heap.lt_size e))) (k b o e)
    have z : hp.objs.size + 1 + 1 ≤ dx := by
      first
        | (simpa only [Heap.size_push] using dn)
        | exact dn
        | (have q := dn; rw [Heap.size_push, Heap.size_push] at q; exact q)
    exact ⟨rfl, hq h' tk' (hp.objs.size + 1) dx ⟨old, Nat.le_succ _, ⟨_, _, hx, rfl, rfl, rfl, rfl⟩, Nat.le_trans (Nat.le_trans (Nat.le_succ _) (Nat.le_succ _)) z, dne, hns⟩⟩
end
end XRefused
end PySem
namespace L2
open PySem PySem.Spec PyProof.Rows
theorem relO_Refused {v : V} {v' : Value} (r : RelV v v') (f : Str) : RelO (List.lookup f [(("reason" : Str), v)]) (if f = "reason" then some v' else none) := by
  by_cases hw : f = "reason"
  · subst hw
    rw [if_pos rfl]
    have q : List.lookup ("reason" : Str) [(("reason" : Str), v)] = some v := by simp [List.lookup]
    rw [q]
    exact r
  · rw [if_neg hw]
    have qw : (f == ("reason" : Str)) = false := by simpa using hw
    have q2 : List.lookup f [(("reason" : Str), v)] = none := by simp [List.lookup, qw]
    rw [q2]
    trivial
section
variable {X : Cx} {C fI : Addr}
/-- Low(e) -/
def tMkRefused (C : Addr) (ta : TA) : St → Hp → XK → Prop := fun σ H Q => ta σ H fun vs H1 => ∃ v, vs = [v] ∧ ∀ d, H1 d = none → Q (.ref C) (some d) (upd H1 d (.xd [(("reason" : Str), v)]))
theorem pmk_Refused {a : Expr} {ta : TA} {p pos : Pos} {k : Nat} (T : PySem.XRefused.RefusedTxt X.K X.mg C fI) (hr : Room k X.A) (ha : PA X [a] ta) (hg : Gl X "Refused" := by rfl)
    (he : starEach (a :: []) X.env = (false, eval a X.env) :: starEach [] X.env := by rfl) (hpl : (backTo pos (starEach [] X.env)).any (·.1) = false := by rfl) :
    PMk X (.Call (.Name "Refused" p) [a] [] pos) (tMkRefused C ta) := by
  intro pins s σ H Q I h
  refine wpAny_Call_Name_kw (ld_glob I hg T.gC ?_)
  refine PySem.W.callWith_K (h₀ := X.base) I.ok.mod.kin T.kC (thn (ha.run pos pins s σ H _ I h) fun us s1 hh => ?_) he hpl
  obtain ⟨vs, H1, I1, r1, v, ev, q1⟩ := hh
  subst ev
  refine ⟨I1.kIn, ?_⟩
  cases r1 with
  | cons rv rn =>
    rename_i v' us'
    cases rn
    show wpAny _ _ (call (.ref C) [v']) _ _ _
    have hlim := I1.nolimit
    obtain ⟨hp, g, dr, tk, os⟩ := s1
    refine wpAny_call (PySem.XRefused.low_made T I1.kIn hlim (by have := hr.dp; omega) fun h' tk' e d M => ?_)
    show MkP X pins σ Q (.ref e) ⟨h', g, dr, tk', os⟩
    obtain ⟨oe, fv, hoe, hc, hd, hdat, h1⟩ := M.obj
    have hns := M.ns
    obtain ⟨G', g1, g2⟩ := restrict h' fun b => decide (b ≠ e)
    have gk : ∀ b, b ≠ e → G'.get? b = h'.get? b := fun b hb => g1 b (decide_eq_true hb)
    have ge : G'.get? e = none := g2 e (by simp)
    have old : ∀ b o, hp.get? b = some o → G'.get? b = some o := fun b o q => (gk b (Nat.ne_of_lt (Nat.lt_of_lt_of_le (Heap.lt_size q) M.new))).trans (M.keep b o q)
    have ob : ObjOk X.prog X.w (upd H1 d (.xd [(("reason" : Str), v)])) G' d (.xd [(("reason" : Str), v)]) :=
      ⟨_, hns.at (fun o q => (gk d M.dne).trans q), fun f => relO_Refused rv f⟩
    have J : Inv X pins σ (upd H1 d (.xd [(("reason" : Str), v)])) ⟨G', g, dr, tk', os⟩ := I1.laid (t' := tk') old M.dbig ob
    refine ⟨e, oe, fv, ⟨G', g, dr, tk', os⟩, _, .ref C, some d, rfl, J, fun b o q => ?_, ge, hoe, ⟨hc, hd⟩, hdat, h1, ?_, rfl, I1.bare, raises_own T.exC T.tyC, q1 d (I1.hok.fresh M.dbig)⟩
    · by_cases hb : b = e
      · have q' : G'.get? b = some o := q
        rw [hb, ge] at q'; cases q'
      · exact (gk b hb).symm.trans q
    · rw [upd_ne (Ne.symm M.dne)]
      exact I1.hok.fresh M.new
/-- raise Low(e) -/
def tRaiseRefused (C : Addr) (W : WX) (ta : TA) : TS := fun _ σ H => tMkRefused C ta σ H fun cls d H' => W cls d σ H'
theorem ps_raiseRefused {a : Expr} {ta : TA} {W : WX} {p pos pos2 : Pos} {k : Nat} (hc : X.calm = true) (T : PySem.XRefused.RefusedTxt X.K X.mg C fI) (hr : Room k X.A) (tk : Takes X W) (ha : PA X [a] ta) (hg : Gl X "Refused" := by rfl)
    (he : starEach (a :: []) X.env = (false, eval a X.env) :: starEach [] X.env := by rfl) (hpl : (backTo pos (starEach [] X.env)).any (·.1) = false := by rfl) :
    PS X (.Raise (some (.Call (.Name "Refused" p) [a] [] pos)) none pos2) (tRaiseRefused C W ta) := ps_raise hc tk (pmk_Refused T hr ha hg he hpl)
/-- low.by, low the exception that the suite holds (at a; its class cls, its dict d) -/
def tByRefused (C : Addr) (a : Addr) (cls : Value) (d : Option Addr) (te : TE) : TE := fun σ H Q => te σ H fun x H1 => x = .ref a ∧ cls = .ref C ∧ ∃ (dd : Addr) (v : V), d = some dd ∧ H1 dd = some (.xd [(("reason" : Str), v)]) ∧ Q v H1
theorem pe_byRefused {a : Addr} {oe : Obj} {cls : Value} {d : Option Addr} {pn : List (Addr × Obj)} {e : Expr} {te : TE} {pos : Pos} (T : PySem.XRefused.RefusedTxt X.K X.mg C fI) (hz : Zc cls d oe) (hf : ∃ vs, oe.data = .fields vs) (he : PE (X.suite a ((a, oe) :: pn)) e te)
    (hb : attributeBase e "reason" X.env (eval e X.env) = eval e X.env := by rfl) :
    PE (X.suite a ((a, oe) :: pn)) (.Attribute e "reason" pos) (tByRefused C a cls d te) := by
  refine ⟨fun pins s σ H Q I h => ?_⟩
  refine attr_of hb (thn (he.run pins s σ H _ I h) fun u s1 hh => ?_)
  obtain ⟨x, H1, I1, rx, ex, ec, dd, v, ed, ea, q⟩ := hh
  subst ex
  obtain rfl : u = Value.ref a := rx
  subst ec
  subst ed
  obtain ⟨ha, _⟩ := I1.pin (a, oe) (List.mem_append_left _ List.mem_cons_self)
  obtain ⟨vs, hd⟩ := hf
  have hx : ObjOk X.prog X.w H1 s1.heap dd (.xd [(("reason" : Str), v)]) := I1.hok dd _ ea
  obtain ⟨mA, hns, hr⟩ := hx
  obtain ⟨od, ho, hl⟩ := lookIn_ns hns
  have l : List.lookup ("reason" : Str) [(("reason" : Str), v)] = some v := by simp [List.lookup]
  obtain ⟨u, hu, ru⟩ := RelO.some_of (v := v) (o := mA "reason") (by rw [← l]; exact hr "reason")
  have J : PySem.W.InstAt s1.heap a oe C (some od) := ⟨ha, hz.1, by unfold PySem.W.notCls; rw [hd] <;> rfl, by rw [hz.2]; exact ho⟩
  exact HandSPX.exc_get I1.kIn J T.ga T.gg T.exC (PySem.W.findObj_own T.hdC T.noN rfl (by rw [hl, hu])) (handed_of ru) ⟨v, H1, I1.tok _, ru, q⟩
end
end L2

set_option Elab.async false
set_option linter.all false
set_option maxRecDepth 100000
set_option maxHeartbeats 4000000
/-! str(o) and {o} in an f-string by an own __str__. -/
namespace Gd
open PySem PySem.Spec PyProof.Rows L2
section
variable {X : Cx} {CX : CXT} {C f : Addr} {fd : FuncData} {k : Nat} {ps : List Str} {sp : Sp}
theorem strBack_of {pins : List (Addr × Obj)} {σ : L2.St} {Q : VK} {w : Value} {s' : Shared} (h : EP X pins σ (fun v H' => ∃ y : Str, v = .str y ∧ Q (.str y) H') w s') : PySem.W.StrBack (EP X pins σ Q) w s' := by
  obtain ⟨z, H', I', rz, y, rfl, q⟩ := h
  obtain ⟨t, rfl⟩ := rz
  exact ⟨.str y, H', I', ⟨t, rfl⟩, q⟩
/-- the callee runs, from two builtins that the body calls -/
theorem runAt2 {E : XK} {A : Around} (hA : A = X.A.in1 ∨ A = X.A.in1.in1) {pins : List (Addr × Obj)} {σ : L2.St} {H : Hp} {s : Shared} {Q : VK} {us : List Value} {vs : List V}
    (F : FnOk X.prog X.w X.K X.mg X.base CX k f fd ps sp) (hr : Room (k + 2) X.A) (hb : Binds X.K fd ps [])
    (hx : PassesAt CX X σ E) (I : Inv X pins σ H s) (r : Vals vs us) (h : sp vs H Q E) :
    wpAny (model X.prog X.w) A (call (.ref f) us) (EP X pins σ Q) X.xe s := by
  have hl : us.length = ps.length := by
    rw [← r.length]
    exact F.len _ H Q E h
  have room : Room k A := by
    rcases hA with rfl | rfl
    · exact (hr.mono (Nat.le_succ _)).in1
    · exact hr.in1.in1
  have env : Env0 X.prog X.w X.K X.mg X.base A X.stack s H := by
    rcases hA with rfl | rfl
    · exact I.env0.in1
    · exact I.env0.in1.in1
  have hbs := hb s us I.kIn (by rw [List.append_nil]; exact hl)
  rw [List.append_nil] at hbs
  refine wpAny_call (codeAny_mono (F.run A X.stack s H ⟨us, []⟩ us _ Q E room env hbs r h) ?_)
  intro r s' hq
  match r, hq with
  | .error e, hq => exact hx pins H s e s' I hq
  | .ok (.ret u), hq => exact I.after hq
  | .ok .next, hq => exact False.elim hq
  | .ok .brk, hq => exact False.elim hq
  | .ok .cont, hq => exact False.elim hq
def rStrO (C : Addr) (sp : Sp) (E : XK) : List V → Hp → VK → Prop := fun xs H Q => ∃ p dx fs, xs = [.ref p] ∧ H p = some (.ins C dx fs) ∧ sp [.ref p] H (fun v H' => ∃ y : Str, v = .str y ∧ Q (.str y) H') E
theorem call_strO {E : XK} (hm : Meth X.K C "__str__" f) (F : FnOk X.prog X.w X.K X.mg X.base CX k f fd ps sp) (hr : Room (k + 2) X.A) (hb : Binds X.K fd ps []) (hx : ∀ σ, PassesAt CX X σ E) : CallR X (.type "str") (rStrO C sp E) := by
  intro pins s σ H xs us Q I r h
  obtain ⟨p, dx, fs, rfl, ep, hsp⟩ := h
  obtain ⟨u, rfl, hu1⟩ := vals1 r
  cases hu1
  obtain ⟨od, J⟩ := seen I ep
  refine PySem.W.kso_call (by have := hr.un; show X.A.units + 2 < cLine; omega) I.kIn J hm.at_ hm.fn ?_
  exact wpAny_mono (runAt2 (.inr rfl) F hr hb (hx σ) I (.cons (show RelV (V.ref p) (Value.ref p) from rfl) .nil) hsp) (fun _ _ z => strBack_of z) (fun _ _ z => z)
/-- {o} -/
def tFmtO (C : Addr) (sp : Sp) (E : XK) (te : TE) : TE := fun σ H Q => te σ H fun x H1 => ∃ p dx fs, x = .ref p ∧ H1 p = some (.ins C dx fs) ∧ sp [.ref p] H1 (fun v H' => ∃ y : Str, v = .str y ∧ Q (.str y) H') E
theorem pe_fmtO {E : XK} {e : Expr} {te : TE} {pos : Pos} (hm : Meth X.K C "__str__" f) (hfm : PySem.W.findIn X.K (.ref C) "__format__" = some (some (.builtin "object.__format__"))) (hmr : PySem.W.mroIn X.K C (.type "object") = some true)
    (F : FnOk X.prog X.w X.K X.mg X.base CX k f fd ps sp) (hr : Room (k + 2) X.A) (hb : Binds X.K fd ps []) (hx : ∀ σ, PassesAt CX X σ E) (he : PE X e te) : PE X (.FormattedValue e (-1) none pos) (tFmtO C sp E te) := by
  refine ⟨fun pins s σ H Q I h => ?_⟩
  refine wpAny_FormattedValue_plain (thn (he.run pins s σ H _ I h) fun v s1 hv => ?_)
  obtain ⟨x, H1, I1, r1, p, dx, fs, rfl, ep, hsp⟩ := hv
  cases r1
  obtain ⟨od, J⟩ := seen I1 ep
  have I2 : Inv X pins σ H1 { s1 with toks := s1.toks + 1 } := I1.tok _
  refine PySem.W.kfo_fieldS (by have := hr.un; show X.A.units + 1 < cLine; omega) I1.kIn J hfm hmr hm.at_ hm.fn ?_
  exact wpAny_mono (runAt2 (.inl rfl) F hr hb (hx σ) I2 (.cons (show RelV (V.ref p) (Value.ref p) from rfl) .nil) hsp) (fun _ _ z => strBack_of z) (fun _ _ z => z)
end
end Gd

set_option Elab.async false
set_option linter.all false
set_option maxRecDepth 100000
set_option maxHeartbeats 4000000
/-! xs[::-1] of a list; xs == [] ; the greatest of a tuple. -/
namespace Gd
open PySem PySem.Spec PyProof.Rows L2
section
variable {X : Cx}
def tRevL (K : PySem.W.Frag) (te : TE) : TE := fun σ H Q => te σ H fun x H1 => ∃ a xs, x = .ref a ∧ SqL K H1 a xs ∧ ∀ p, H1 p = none → Q (.ref p) (upd H1 p (.lst xs.reverse))
theorem pe_revL {e : Expr} {te : TE} {k : Nat} {p1 p2 p3 pos : Pos} (he : PE X e te) : PE X (.Subscript e (.Slice none none (some (.UnaryOp .USub (.Constant (.int 1) k p1) p2)) p3) pos) (tRevL X.K te) := by
  constructor
  intro pins s σ H Q I h
  refine Subscript_ (thn (he.run pins s σ H _ I h) fun v s1 ⟨x, H1, I1, r1, a, xs, ex, hx, q⟩ => ?_)
  subst ex
  cases r1
  have step : PO X (some (.UnaryOp .USub (.Constant (.int 1) k p1) p2)) (tPart (tUn (rU fun i => .int (-i)) (tC (.int 1)))) := po_some (pe_un un_neg pe_int)
  refine wpAny_Slice (thn (po_none.run pins s1 σ H1 (fun o G => o = none ∧ G = H1) I1 ⟨rfl, rfl⟩) fun vl s2 ⟨l, G, I2, pl, el, eG⟩ => ?_)
  subst el eG
  refine thn (po_none.run pins s2 σ G (fun o G2 => o = none ∧ G2 = G) I2 ⟨rfl, rfl⟩) fun vu s3 ⟨u, G2, I3, pu, eu, eG2⟩ => ?_
  subst eu eG2
  refine thn (step.run pins s3 σ G2 (fun o G3 => o = some (-1) ∧ G3 = G2) I3 ⟨1, rfl, -1, rfl, rfl, rfl⟩) fun vs s4 ⟨o, G3, I4, ps, eo, eG3⟩ => ?_
  subst eo eG3
  let sh : Shared := { s4 with heap := s4.heap.push { cls := .type "slice", data := .fields #[vl, vu, vs] } }
  have J : Inv X pins σ G3 sh := I4.kept (t' := s4.toks) fun b ob z => Heap.get?_push_of_some _ z
  obtain ⟨its, r, ht, hz⟩ := J.list hx
  have hlen := r.length
  show wpAny (model X.prog X.w) X.A (subscriptTail e (.Slice none none (some (.UnaryOp .USub (.Constant (.int 1) k p1) p2)) p3) (.ref a) (.ref s4.heap.objs.size)) (EP X pins σ Q) X.xe sh
  refine tail_any (ops := [.ref a, .ref s4.heap.objs.size]) ht.isList.typeIs (PySem.F.slot_list_getitem.lookup) ?_ (by with_unfolding_all rfl)
  refine wpAny_getItem_list_slice ht.isList (Heap.IsSliceOf.new _ vl vu vs) pl pu ps (by decide) ?_ (by rw [List.size_toArray]; omega)
  rw [PySem.W.krv_pick]
  refine ⟨.ref _, _, J.laid (t' := s4.toks) (o := .lst xs.reverse) (fun b ob z => Heap.get?_push_of_some _ z) (Nat.le_refl _) ?_, rfl, q _ (J.hok.fresh (Nat.le_refl _))⟩
  exact ⟨by rw [List.length_reverse]; exact hz, _, 0, r.reverse, Heap.get?_push_size _ rfl⟩
/-- xs == [] -/
def rEqNil (K : PySem.W.Frag) : R2 := fun x y H Q => ∃ (a b : Addr) (xs : List V), x = .ref a ∧ y = .ref b ∧ SqL K H a xs ∧ SqL K H b [] ∧ Q (.bl xs.isEmpty) H
theorem op_eqNil (hu : X.A.units < cLine) : OpR X (compareOp .Eq) (rEqNil X.K) := by
  intro pins s σ H x y v u Q I rx ry h
  obtain ⟨a, b, xs, rfl, rfl, ha, hb, q⟩ := h
  cases rx
  cases ry
  obtain ⟨its, r1, p1, _⟩ := I.list ha
  obtain ⟨its2, r2, p2, _⟩ := I.list hb
  cases r2
  cases r1 with
  | nil => exact PySem.SeqAt.RcAt.lists (e := fun _ => true) p1.isList p2.isList rfl hu (fun j h1 _ => absurd h1 (Nat.not_lt_zero _)) _ _ _ _ ⟨.bl true, H, I, rfl, q⟩
  | cons r t => exact PySem.SeqAt.RcAt.lists_lengths p1.isList p2.isList rfl hu _ _ _ _ ⟨.bl false, H, I, rfl, q⟩
end
section
variable {prog : Program} {w : World} {A : Around} {E : Value → Shared → Prop} {s : Shared} {l : Addr} {xs : Array (Int × Tok)}
theorem max_tup {Q : Value → Shared → Prop} (hh : A.handled = none) (hl : s.heap.IsTuple l (intItems xs)) (hne : 0 < xs.size)
    (h : ∀ v h' tk, (intItems xs)[argBest (fun i j => decide (numAt xs i > numAt xs j)) (xs.size - 1)]? = some v → (∀ b o, s.heap.get? b = some o → h'.get? b = some o) → Q v { s with heap := h', toks := tk }) :
    wpAny (model prog w) A (call (.builtin "max") [.ref l]) Q E s := by
  have hlt : l < s.heap.objs.size := by obtain ⟨_, e, _⟩ := hl; exact Heap.lt_size e
  refine call_max_walk (wpAny_pyIter_tuple hl ?_)
  refine ⟨_, _, _, _, _, _, _, rfl, Walks.tuple (A := A.in1) hh _ l (Nat.ne_of_lt hlt) (intItems xs), ⟨⟨_, Heap.get?_push_size _ rfl, rfl, rfl⟩, hl.push _⟩, fun b hb => ?_, by simpa [intItems] using hne, CmpOf.ints_gt (numAt xs) (fun _ _ => intItems_at), fun v h' tk hP hk => ?_⟩
  · show b < (s.heap.push _).objs.size
    rw [Heap.size_push]
    rcases List.mem_cons.mp hb with rfl | hb
    · exact Nat.lt_succ_self _
    · rcases List.mem_cons.mp hb with rfl | hb
      · exact Nat.lt_succ_of_lt hlt
      · cases hb
  · refine h v h' tk (by simpa [intItems] using hP) fun b o e => hk b o (fun hm => ?_) (Heap.get?_push_of_some _ e)
    rcases List.mem_cons.mp hm with e1 | hm
    · exact absurd (e1 ▸ Heap.lt_size e) (Nat.lt_irrefl _)
    · cases hm
theorem max_tup_raw {its : List Value} {ns : List Int} {Q : Value → Shared → Prop} (hh : A.handled = none) (hl : s.heap.IsTuple l its.toArray) (hi : IntsAre its ns) (hne : 0 < ns.length)
    (h : ∀ h' tk M t', (∀ b o, s.heap.get? b = some o → h'.get? b = some o) → M ∈ ns → (∀ a, a ∈ ns → a ≤ M) → Q (.int M t') { s with heap := h', toks := tk }) : wpAny (model prog w) A (call (.builtin "max") [.ref l]) Q E s := by
  obtain ⟨xs, e⟩ := hi.allInts.items
  have hn : numsOf (intItems xs).toList = ns := by rw [← e]; exact hi.numsOf
  rw [nums_intItems] at hn
  subst hn
  rw [e] at hl
  have hsz : 0 < xs.size := by simpa using hne
  refine max_tup hh hl hsz fun v h' tk hv hk => ?_
  obtain ⟨t, rfl⟩ := intItems_at hv
  obtain ⟨h1, h2⟩ := argBest_gt (numAt xs) (xs.size - 1)
  refine h h' tk _ t hk ?_ fun a ha => ?_
  · rw [numAt_eq]; exact PySem.getD_mem (by rw [List.length_map, Array.length_toList]; omega)
  · obtain ⟨j, hj, rfl⟩ := mem_getD ha
    rw [List.length_map, Array.length_toList] at hj
    rw [← numAt_eq]; exact h2 j (by omega)
end
section
variable {X : Cx}
/-- max(t) of a tuple of ints -/
def rMaxT (K : PySem.W.Frag) : List V → Hp → VK → Prop := fun vs H Q => ∃ (a : Addr) (ns : List Int), vs = [V.ref a] ∧ SqT K H a (ns.map V.int) ∧ 0 < ns.length ∧ ∀ m, m ∈ ns → (∀ y, y ∈ ns → y ≤ m) → Q (.int m) H
theorem cr_maxT (hc : X.calm = true) : CallR X (.builtin "max") (rMaxT X.K) := by
  intro pins s σ H vs us Q I r h
  obtain ⟨a, ns, rfl, hs, hne, q⟩ := h
  obtain ⟨its, rv, hl, _⟩ := I.tuple hs
  rw [Vals.ref1 r]
  exact max_tup_raw (I.ok.hd hc) hl (intsAre_of rv) hne fun h' tk m t' hk h1 h2 => ⟨.int _, H, I.kept hk, ⟨_, rfl⟩, q m h1 h2⟩
end
end Gd

set_option Elab.async false
set_option linter.all false
set_option maxRecDepth 100000
set_option maxHeartbeats 4000000
/-! A run has one end. -/
namespace Gd
open PySem
theorem runs_det {M : Model} {Γ : Ctx} {p : Pos} {t : Sem Fin} {fs : List Frame} {s s' : Shared} {e : End} (h : Runs M Γ p t fs s e s') : ∀ {e2 : End} {s2 : Shared}, Runs M Γ p t fs s e2 s2 → e = e2 ∧ s' = s2 := by
  induction h with
  | done => intro e2 s2 h2; cases h2; exact ⟨rfl, rfl⟩
  | raise => intro e2 s2 h2; cases h2; exact ⟨rfl, rfl⟩
  | again _ _ ih => intro e2 s2 h2; cases h2 with | again _ h => exact ih h
  | rule _ ih => intro e2 s2 h2; cases h2 with | rule h => exact ih h
  | «at» _ ih => intro e2 s2 h2; cases h2 with | «at» h => exact ih h
  | load ho _ ih => intro e2 s2 h2; cases h2 with | load ho2 h => rw [ho] at ho2; cases ho2; exact ih h
  | update _ _ ih => intro e2 s2 h2; cases h2 with | update _ h => exact ih h
  | loadIfAlive _ ih => intro e2 s2 h2; cases h2 with | loadIfAlive h => exact ih h
  | point _ ih => intro e2 s2 h2; cases h2 with | point h => exact ih h
  | alloc _ ih => intro e2 s2 h2; cases h2 with | alloc h => exact ih h
  | fresh _ ih => intro e2 s2 h2; cases h2 with | fresh h => exact ih h
  | ask _ ih => intro e2 s2 h2; cases h2 with | ask h => exact ih h
  | choose _ _ ih => intro e2 s2 h2; cases h2 with | choose _ h => exact ih h
  | os _ ih => intro e2 s2 h2; cases h2 with | os h => exact ih h
  | handled _ ih => intro e2 s2 h2; cases h2 with | handled h => exact ih h
  | genState hg _ ih => intro e2 s2 h2; cases h2 with | genState hg2 h => rw [hg] at hg2; cases hg2; exact ih h
  | stack _ ih => intro e2 s2 h2; cases h2 with | stack h => exact ih h
  | thread _ ih => intro e2 s2 h2; cases h2 with | thread h => exact ih h
  | newGen _ ih => intro e2 s2 h2; cases h2 with | newGen h => exact ih h
  | call _ _ ih1 ih2 =>
    intro e2 s2 h2
    cases h2 with
    | call h3 h4 =>
      obtain ⟨a, b⟩ := ih1 h3
      cases a
      cases b
      exact ih2 h4
    | callSusp h3 =>
      obtain ⟨a, b⟩ := ih1 h3
      cases a
  | callSusp _ ih =>
    intro e2 s2 h2
    cases h2 with
    | call h3 h4 =>
      obtain ⟨a, b⟩ := ih h3
      cases a
    | callSusp h3 =>
      obtain ⟨a, b⟩ := ih h3
      cases a
      cases b
      exact ⟨rfl, rfl⟩
  | yield => intro e2 s2 h2; cases h2; exact ⟨rfl, rfl⟩
  | resumeFresh hg _ hq _ ih1 ih2 =>
    intro e2 s2 h2
    cases h2 with
    | resumeFresh hg2 h3 _ h4 =>
      rw [hg] at hg2
      cases hg2
      obtain ⟨a, b⟩ := ih1 h3
      subst a b
      exact ih2 h4
    | resumeSuspended hg2 => rw [hg] at hg2; cases hg2
    | resumeJustStarted hg2 hv => exact absurd rfl hv
    | resumeRunning hg2 => rw [hg] at hg2; cases hg2
    | resumeFinished hg2 => rw [hg] at hg2; cases hg2
  | resumeSuspended hg _ hq _ ih1 ih2 =>
    intro e2 s2 h2
    cases h2 with
    | resumeFresh hg2 => rw [hg] at hg2; cases hg2
    | resumeSuspended hg2 h3 _ h4 =>
      rw [hg] at hg2
      cases hg2
      obtain ⟨a, b⟩ := ih1 h3
      subst a b
      exact ih2 h4
    | resumeJustStarted hg2 => rw [hg] at hg2; cases hg2
    | resumeThrowFresh hg2 => rw [hg] at hg2; cases hg2
    | resumeRunning hg2 => rw [hg] at hg2; cases hg2
    | resumeFinished hg2 => rw [hg] at hg2; cases hg2
  | resumeJustStarted hg hv _ ih =>
    intro e2 s2 h2
    cases h2 with
    | resumeFresh hg2 => exact absurd rfl hv
    | resumeSuspended hg2 => rw [hg] at hg2; cases hg2
    | resumeJustStarted hg2 _ h3 => exact ih h3
    | resumeRunning hg2 => rw [hg] at hg2; cases hg2
    | resumeFinished hg2 => rw [hg] at hg2; cases hg2
  | resumeThrowFresh hg _ ih =>
    intro e2 s2 h2
    cases h2 with
    | resumeSuspended hg2 => rw [hg] at hg2; cases hg2
    | resumeThrowFresh hg2 h3 => exact ih h3
    | resumeRunning hg2 => rw [hg] at hg2; cases hg2
    | resumeFinished hg2 => rw [hg] at hg2; cases hg2
  | resumeRunning hg _ ih =>
    intro e2 s2 h2
    cases h2 with
    | resumeRunning _ h3 => exact ih h3
    | resumeFresh hg2 => rw [hg] at hg2; cases hg2
    | resumeSuspended hg2 => rw [hg] at hg2; cases hg2
    | resumeJustStarted hg2 => rw [hg] at hg2; cases hg2
    | resumeThrowFresh hg2 => rw [hg] at hg2; cases hg2
    | resumeFinished hg2 => rw [hg] at hg2; cases hg2
  | resumeFinished hg _ ih =>
    intro e2 s2 h2
    cases h2 with
    | resumeFinished _ h3 => exact ih h3
    | resumeFresh hg2 => rw [hg] at hg2; cases hg2
    | resumeSuspended hg2 => rw [hg] at hg2; cases hg2
    | resumeJustStarted hg2 => rw [hg] at hg2; cases hg2
    | resumeThrowFresh hg2 => rw [hg] at hg2; cases hg2
    | resumeRunning hg2 => rw [hg] at hg2; cases hg2
  | segRet _ _ ih1 ih2 =>
    intro e2 s2 h2
    cases h2 with
    | segRet h3 h4 =>
      obtain ⟨a, b⟩ := ih1 h3
      cases a
      cases b
      exact ih2 h4
    | segSuspOut _ h3 =>
      obtain ⟨a, b⟩ := ih1 h3
      cases a
    | segSuspGen _ h3 =>
      obtain ⟨a, b⟩ := ih1 h3
      cases a
  | segGen _ _ ih1 ih2 =>
    intro e2 s2 h2
    cases h2 with
    | segGen h3 h4 =>
      obtain ⟨a, b⟩ := ih1 h3
      cases a
      cases b
      exact ih2 h4
    | segSuspOut _ h3 =>
      obtain ⟨a, b⟩ := ih1 h3
      cases a
    | segSuspGen _ h3 =>
      obtain ⟨a, b⟩ := ih1 h3
      cases a
  | segSuspOut hs _ ih =>
    intro e2 s2 h2
    cases h2 with
    | segRet h3 _ =>
      obtain ⟨a, b⟩ := ih h3
      cases a
    | segGen h3 _ =>
      obtain ⟨a, b⟩ := ih h3
      cases a
    | segSuspOut _ h3 =>
      obtain ⟨a, b⟩ := ih h3
      cases a
      cases b
      exact ⟨rfl, rfl⟩
    | segSuspGen hs2 h3 =>
      rw [hs] at hs2
      cases hs2
  | segSuspGen hs _ _ _ ih1 ih2 =>
    intro e2 s2 h2
    cases h2 with
    | segRet h3 _ =>
      obtain ⟨a, b⟩ := ih1 h3
      cases a
    | segGen h3 _ =>
      obtain ⟨a, b⟩ := ih1 h3
      cases a
    | segSuspOut hs2 h3 =>
      rw [hs] at hs2
      cases hs2
    | segSuspGen hs2 h3 _ h4 =>
      rw [hs] at hs2
      cases hs2
      obtain ⟨a, b⟩ := ih1 h3
      cases a
      cases b
      exact ih2 h4
end Gd

set_option Elab.async false
set_option linter.all false
set_option maxRecDepth 100000
set_option maxHeartbeats 4000000
/-! Two promises of one run are one promise; what is promised comes to something. -/
namespace Gd
open PySem
open PySem.Sem (wp)
theorem wakes_det {M : Model} {Γ : Ctx} {p : Pos} {g : Nat} {r : Resume} {s s1 s2 : Shared} {a b : GenResult} (h1 : Wakes M Γ p g r s a s1) (h2 : Wakes M Γ p g r s b s2) : a = b ∧ s1 = s2 := by
  unfold Wakes at h1 h2
  split at h1
  · exact h1.elim
  · rename_i c hg
    rw [hg] at h2
    dsimp only at h2
    split at h1
    · obtain ⟨e1, t1, r1, _, rfl, rfl⟩ := h1
      obtain ⟨e2, t2, r2, _, rfl, rfl⟩ := h2
      obtain ⟨x, y⟩ := runs_det r1 r2
      subst x y
      exact ⟨rfl, rfl⟩
    · rename_i hne
      obtain ⟨rfl, rfl⟩ := h1
      split at h2
      · rename_i heq
        exact (hne (Resume.send.inj heq)).elim
      · obtain ⟨rfl, rfl⟩ := h2
        exact ⟨rfl, rfl⟩
      · contradiction
    · obtain ⟨rfl, rfl⟩ := h1
      obtain ⟨rfl, rfl⟩ := h2
      exact ⟨rfl, rfl⟩
  · rename_i hg
    rw [hg] at h2
    dsimp only at h2
    obtain ⟨e1, t1, r1, _, rfl, rfl⟩ := h1
    obtain ⟨e2, t2, r2, _, rfl, rfl⟩ := h2
    obtain ⟨x, y⟩ := runs_det r1 r2
    subst x y
    exact ⟨rfl, rfl⟩
  · rename_i hg
    rw [hg] at h2
    dsimp only at h2
    obtain ⟨rfl, rfl⟩ := h1
    obtain ⟨rfl, rfl⟩ := h2
    exact ⟨rfl, rfl⟩
  · rename_i hg
    rw [hg] at h2
    dsimp only at h2
    obtain ⟨rfl, rfl⟩ := h1
    obtain ⟨rfl, rfl⟩ := h2
    exact ⟨rfl, rfl⟩
theorem wp_two {α : Type} (M : Model) (Γ : Ctx) (t : Sem α) : ∀ (Q Q' : α → Pos → Shared → Prop) (E E' : Value → Pos → Shared → Prop) (p : Pos) (s : Shared), wp M Γ t Q E p s → wp M Γ t Q' E' p s →
    wp M Γ t (fun a p s => Q a p s ∧ Q' a p s) (fun e p s => E e p s ∧ E' e p s) p s := by
  induction t with
  | pure a => intro Q Q' E E' p s h h'; exact ⟨h, h'⟩
  | raise e => intro Q Q' E E' p s h h'; exact ⟨h, h'⟩
  | unsupported _ => intro Q Q' E E' p s h h'; exact h
  | finish _ => intro Q Q' E E' p s h h'; exact h
  | rule _ k ih => intro Q Q' E E' p s h h'; exact ih () _ _ _ _ p s h h'
  | «at» p' k ih => intro Q Q' E E' p s h h'; exact ih () _ _ _ _ p' s h h'
  | load a _ k ih =>
    intro Q Q' E E' p s h h'
    obtain ⟨o, ho, h⟩ := h
    obtain ⟨o', ho', h'⟩ := h'
    rw [ho] at ho'
    cases ho'
    exact ⟨o, ho, ih o _ _ _ _ p s h h'⟩
  | update a _ f k ih => intro Q Q' E E' p s h h'; exact ⟨h.1, ih () _ _ _ _ p _ h.2 h'.2⟩
  | loadIfAlive a k ih => intro Q Q' E E' p s h h'; exact ih _ _ _ _ _ p s h h'
  | point _ k ih => intro Q Q' E E' p s h h'; exact ih () _ _ _ _ p s h h'
  | register _ _ => intro Q Q' E E' p s h h'; exact h
  | alloc o k ih => intro Q Q' E E' p s h h'; exact ih _ _ _ _ _ p _ h h'
  | fresh k ih => intro Q Q' E E' p s h h'; exact ih _ _ _ _ _ p _ h h'
  | ask k ih => intro Q Q' E E' p s h h'; exact ih _ _ _ _ _ p s h h'
  | choose src m k ih => intro Q Q' E E' p s h h'; exact ⟨h.1, ih _ _ _ _ _ p _ h.2 h'.2⟩
  | os q l k ih => intro Q Q' E E' p s h h'; exact ih _ _ _ _ _ p _ h h'
  | call c hh g l k ih =>
    intro Q Q' E E' p s h h'
    obtain ⟨r, s1, hr, h⟩ := h
    obtain ⟨r', s1', hr', h'⟩ := h'
    obtain ⟨x, y⟩ := runs_det hr hr'
    cases x
    cases y
    exact ⟨r, s1, hr, ih r _ _ _ _ p s1 h h'⟩
  | handled own k ih => intro Q Q' E E' p s h h'; exact ih _ _ _ _ _ p s h h'
  | genState g k ih =>
    intro Q Q' E E' p s h h'
    obtain ⟨o, ho, h⟩ := h
    obtain ⟨o', ho', h'⟩ := h'
    rw [ho] at ho'
    cases ho'
    exact ⟨o, ho, ih _ _ _ _ _ p s h h'⟩
  | newGen c k ih => intro Q Q' E E' p s h h'; exact ih _ _ _ _ _ p _ h h'
  | resume g r l k ih =>
    intro Q Q' E E' p s h h'
    obtain ⟨a, s1, hw, h⟩ := h
    obtain ⟨a', s1', hw', h'⟩ := h'
    obtain ⟨x, y⟩ := wakes_det hw hw'
    subst x y
    exact ⟨a, s1, hw, ih a _ _ _ _ p s1 h h'⟩
  | yield _ _ _ _ => intro Q Q' E E' p s h h'; exact h
  | stack k ih => intro Q Q' E E' p s h h'; exact ih _ _ _ _ _ p s h h'
  | fork => intro Q Q' E E' p s h h'; exact h
  | thread k ih => intro Q Q' E E' p s h h'; exact ih _ _ _ _ _ p s h h'
  | await => intro Q Q' E E' p s h h'; exact h
theorem wp_end {α : Type} (M : Model) (Γ : Ctx) (t : Sem α) : ∀ (p : Pos) (s : Shared), wp M Γ t (fun _ _ _ => False) (fun _ _ _ => False) p s → False := by
  induction t with
  | pure a => intro p s h; exact h
  | raise e => intro p s h; exact h
  | unsupported _ => intro p s h; exact h
  | finish _ => intro p s h; exact h
  | rule _ k ih => intro p s h; exact ih () p s h
  | «at» p' k ih => intro p s h; exact ih () p' s h
  | load a _ k ih =>
    intro p s h
    obtain ⟨o, ho, h⟩ := h
    exact ih o p s h
  | update a _ f k ih => intro p s h; exact ih () p _ h.2
  | loadIfAlive a k ih => intro p s h; exact ih _ p s h
  | point _ k ih => intro p s h; exact ih () p s h
  | register _ _ => intro p s h; exact h
  | alloc o k ih => intro p s h; exact ih _ p _ h
  | fresh k ih => intro p s h; exact ih _ p _ h
  | ask k ih => intro p s h; exact ih _ p s h
  | choose src m k ih => intro p s h; exact ih _ p _ h.2
  | os q l k ih => intro p s h; exact ih _ p _ h
  | call c hh g l k ih =>
    intro p s h
    obtain ⟨r, s1, hr, h⟩ := h
    exact ih r p s1 h
  | handled own k ih => intro p s h; exact ih _ p s h
  | genState g k ih =>
    intro p s h
    obtain ⟨o, ho, h⟩ := h
    exact ih _ p s h
  | newGen c k ih => intro p s h; exact ih _ p _ h
  | resume g r l k ih =>
    intro p s h
    obtain ⟨a, s1, hw, h⟩ := h
    exact ih a p s1 h
  | yield _ _ _ _ => intro p s h; exact h
  | stack k ih => intro p s h; exact ih _ p s h
  | fork => intro p s h; exact h
  | thread k ih => intro p s h; exact ih _ p s h
  | await => intro p s h; exact h
end Gd

set_option Elab.async false
set_option linter.all false
set_option maxRecDepth 100000
set_option maxHeartbeats 4000000
/-! list.sort run twice: over numbers, and over own objects whose < goes by those numbers. -/
namespace Gd
open PySem PySem.Spec PyProof.Rows
open PySem.Sem (wp)
class Rl (α : Type) where
  r : (Keyed → Keyed → Prop) → α → α → Prop
instance : Rl Nat := ⟨fun _ a b => a = b⟩
instance : Rl Bool := ⟨fun _ a b => a = b⟩
instance : Rl PUnit := ⟨fun _ _ _ => True⟩
instance (priority := high) : Rl Keyed := ⟨fun ρ a b => ρ a b⟩
instance (priority := high) : Rl (Array Keyed) := ⟨fun ρ a b => a.size = b.size ∧ ∀ (i : Nat) x y, a[i]? = some x → b[i]? = some y → ρ x y⟩
instance {α : Type} [Rl α] : Rl (Option α) := ⟨fun ρ a b => match a, b with | none, none => True | some x, some y => Rl.r ρ x y | _, _ => False⟩
instance {α β : Type} [Rl α] [Rl β] : Rl (α × β) := ⟨fun ρ a b => Rl.r ρ a.1 b.1 ∧ Rl.r ρ a.2 b.2⟩
instance {α β : Type} [Rl α] [Rl β] : Rl (MProd α β) := ⟨fun ρ a b => Rl.r ρ a.1 b.1 ∧ Rl.r ρ a.2 b.2⟩
instance {α : Type} [Rl α] : Rl (ForInStep α) := ⟨fun ρ a b => match a, b with | .done x, .done y => Rl.r ρ x y | .yield x, .yield y => Rl.r ρ x y | _, _ => False⟩
structure RS (ρ : Keyed → Keyed → Prop) (st1 st2 : SortSt) : Prop where
  k1 : kindOf st1 = oneType'
  k2 : kindOf st2 = oneType'
  arr : Rl.r ρ (arrOf st1) (arrOf st2)
  pend : pendingOf st1 = pendingOf st2
  gal : gallopOf st1 = gallopOf st2
  f1 : failedOf st1 = none
  f2 : failedOf st2 = none
section
variable {prog : Program} {w : World} {A : Around} {E : Value → Shared → Prop} {Γ : PySem.Ctx} {ρ : Keyed → Keyed → Prop} {J : Shared → Prop} {α β : Type}
def WX (prog : Program) (w : World) (Γ : PySem.Ctx) (m : StateT SortSt Sem α) (Q : α → SortSt → Prop) (st : SortSt) : Prop :=
  ∃ p s, wp (model prog w) Γ (m.run st) (fun r _ _ => Q r.1 r.2) (fun _ _ _ => False) p s
def WJ (prog : Program) (w : World) (A : Around) (E : Value → Shared → Prop) (m : StateT SortSt Sem α) (Q : α → SortSt → Shared → Prop) (st : SortSt) (s : Shared) : Prop :=
  wpAny (model prog w) A (m.run st) (fun r s' => Q r.1 r.2 s') E s
theorem WX.bind {m : StateT SortSt Sem α} {f : α → StateT SortSt Sem β} {Q : β → SortSt → Prop} {st : SortSt} (h : WX prog w Γ (m >>= f) Q st) : WX prog w Γ m (fun a st' => WX prog w Γ (f a) Q st') st := by
  obtain ⟨p, s, h⟩ := h
  rw [StateT.run_bind, Sem.wp_bind'] at h
  exact ⟨p, s, Sem.wp_mono _ _ _ (fun a p' s' h' => ⟨p', s', h'⟩) (fun _ _ _ z => z) p s h⟩
theorem WX.pure {a : α} {Q : α → SortSt → Prop} {st : SortSt} (h : WX prog w Γ (pure a) Q st) : Q a st := by
  obtain ⟨p, s, h⟩ := h
  rw [StateT.run_pure] at h
  exact h
theorem WX.mono {m : StateT SortSt Sem α} {Q Q' : α → SortSt → Prop} {st : SortSt} (h : WX prog w Γ m Q st) (k : ∀ a st, Q a st → Q' a st) : WX prog w Γ m Q' st := by
  obtain ⟨p, s, h⟩ := h
  exact ⟨p, s, Sem.wp_mono _ _ _ (fun a p' s' h' => k _ _ h') (fun _ _ _ z => z) p s h⟩
theorem WJ.bind {m : StateT SortSt Sem α} {f : α → StateT SortSt Sem β} {Q : β → SortSt → Shared → Prop} {st : SortSt} {s : Shared} (h : WJ prog w A E m (fun a st' s' => WJ prog w A E (f a) Q st' s') st s) : WJ prog w A E (m >>= f) Q st s := by
  unfold WJ at h ⊢
  rw [StateT.run_bind]
  exact wpAny_bind h
theorem WJ.pure {a : α} {Q : α → SortSt → Shared → Prop} {st : SortSt} {s : Shared} (h : Q a st s) : WJ prog w A E (pure a) Q st s := by
  unfold WJ
  rw [StateT.run_pure]
  exact wpAny_pure h
theorem WJ.mono {m : StateT SortSt Sem α} {Q Q' : α → SortSt → Shared → Prop} {st : SortSt} {s : Shared} (h : WJ prog w A E m Q st s) (k : ∀ a st s, Q a st s → Q' a st s) : WJ prog w A E m Q' st s :=
  wpAny_mono h (fun r s' q => k _ _ _ q) fun _ _ z => z
/-- what the run over numbers keeps, the run over objects keeps -/
def Sim (prog : Program) (w : World) (A : Around) (E : Value → Shared → Prop) (Γ : PySem.Ctx) (ρ : Keyed → Keyed → Prop) (J : Shared → Prop) [Rl α] (m1 m2 : StateT SortSt Sem α) : Prop :=
  ∀ st1 st2 s, RS ρ st1 st2 → J s → ∀ Q : α → SortSt → Prop, WX prog w Γ m1 Q st1 → WJ prog w A E m2 (fun b st2' s' => J s' ∧ ∃ a st1', Rl.r ρ a b ∧ RS ρ st1' st2' ∧ Q a st1') st2 s
theorem Sim.bind [Rl α] [Rl β] {m1 m2 : StateT SortSt Sem α} {f1 f2 : α → StateT SortSt Sem β} (h : Sim prog w A E Γ ρ J m1 m2) (k : ∀ a b, Rl.r ρ a b → Sim prog w A E Γ ρ J (f1 a) (f2 b)) : Sim prog w A E Γ ρ J (m1 >>= f1) (m2 >>= f2) := by
  intro st1 st2 s hR hJ Q hx
  refine WJ.bind (WJ.mono (h st1 st2 s hR hJ _ hx.bind) fun b st2' s' q => ?_)
  obtain ⟨hJ', a, st1', hab, hR', hq⟩ := q
  exact k a b hab st1' st2' s' hR' hJ' Q hq
theorem Sim.pure [Rl α] {a b : α} (h : Rl.r ρ a b) : Sim prog w A E Γ ρ J (Pure.pure a : StateT SortSt Sem α) (Pure.pure b) := by
  intro st1 st2 s hR hJ Q hx
  exact WJ.pure ⟨hJ, a, st1, h, hR, hx.pure⟩
theorem Sim.get [Rl β] {f1 f2 : SortSt → StateT SortSt Sem β} (k : ∀ s1 s2, RS ρ s1 s2 → Sim prog w A E Γ ρ J (f1 s1) (f2 s2)) : Sim prog w A E Γ ρ J (get >>= f1) (get >>= f2) := by
  intro st1 st2 s hR hJ Q hx
  have hx := hx.bind
  obtain ⟨p, t, hx⟩ := hx
  rw [StateT.run_get] at hx
  refine WJ.bind ?_
  unfold WJ
  rw [StateT.run_get]
  exact wpAny_pure (k st1 st2 hR st1 st2 s hR hJ Q hx)
theorem Sim.modify {f1 f2 : SortSt → SortSt} (k : ∀ s1 s2, RS ρ s1 s2 → RS ρ (f1 s1) (f2 s2)) : Sim prog w A E Γ ρ J (modify f1 : StateT SortSt Sem PUnit) (modify f2) := by
  intro st1 st2 s hR hJ Q hx
  obtain ⟨p, t, hx⟩ := hx
  rw [StateT.run_modify] at hx
  unfold WJ
  rw [StateT.run_modify]
  exact wpAny_pure ⟨hJ, ⟨⟩, f1 st1, True.intro, k st1 st2 hR, hx⟩
theorem Sim.set {t1 t2 : SortSt} (k : RS ρ t1 t2) : Sim prog w A E Γ ρ J (set t1 : StateT SortSt Sem PUnit) (set t2) := by
  intro st1 st2 s hR hJ Q hx
  obtain ⟨p, t, hx⟩ := hx
  rw [StateT.run_set] at hx
  unfold WJ
  rw [StateT.run_set]
  exact wpAny_pure ⟨hJ, ⟨⟩, t1, True.intro, k, hx⟩
theorem Sim.rule {tag : String} : Sim prog w A E Γ ρ J (liftM (rule tag : Sem Unit) : StateT SortSt Sem Unit) (liftM (rule tag : Sem Unit)) := by
  intro st1 st2 s hR hJ Q hx
  obtain ⟨p, t, hx⟩ := hx
  exact fun _ _ _ => ⟨hJ, ⟨⟩, st1, True.intro, hR, hx⟩
theorem Sim.unsup [Rl α] {what : String} {m : StateT SortSt Sem α} : Sim prog w A E Γ ρ J (liftM (unsupported what : Sem α) : StateT SortSt Sem α) m := by
  intro st1 st2 s hR hJ Q hx
  obtain ⟨p, t, hx⟩ := hx
  exact False.elim hx
theorem Sim.forList [Rl β] {f1 f2 : Nat → β → StateT SortSt Sem (ForInStep β)} (k : ∀ i x y, Rl.r ρ x y → Sim prog w A E Γ ρ J (f1 i x) (f2 i y)) : ∀ (l : List Nat) (x y : β), Rl.r ρ x y → Sim prog w A E Γ ρ J (forIn l x f1) (forIn l y f2)
  | [], x, y, h => by
    rw [List.forIn_nil, List.forIn_nil]
    exact Sim.pure h
  | i :: l, x, y, h => by
    rw [List.forIn_cons, List.forIn_cons]
    refine Sim.bind (k i x y h) fun a b hab => ?_
    cases a with
    | done a =>
      cases b with
      | done b => exact Sim.pure hab
      | yield b => exact hab.elim
    | yield a =>
      cases b with
      | done b => exact hab.elim
      | yield b => exact Sim.forList k l a b hab
theorem Sim.forRange [Rl β] {a b a' b' : Nat} {x y : β} {f1 f2 : Nat → β → StateT SortSt Sem (ForInStep β)} (ha : a = a') (hb : b = b') (h : Rl.r ρ x y) (k : ∀ i x y, Rl.r ρ x y → Sim prog w A E Γ ρ J (f1 i x) (f2 i y)) :
    Sim prog w A E Γ ρ J (forIn [a:b] x f1) (forIn [a':b'] y f2) := by
  subst ha hb
  rw [Std.Legacy.Range.forIn_eq_forIn_range', Std.Legacy.Range.forIn_eq_forIn_range']
  exact Sim.forList k _ x y h
theorem Sim.elem {a b : Array Keyed} {i j : Nat} (h : Rl.r ρ a b) (e : i = j) : Sim prog w A E Γ ρ J (elem' a i) (elem' b j) := by
  subst e
  intro st1 st2 s hR hJ Q hx
  rw [elem'_eq] at hx ⊢
  cases ha : a[i]? with
  | none =>
    rw [ha] at hx
    obtain ⟨p, t, hx⟩ := hx
    exact False.elim hx
  | some x =>
    rw [ha] at hx
    have hlt : i < b.size := by
      have := (Array.getElem?_eq_some_iff.mp ha).1
      rw [← h.1]
      exact this
    rw [Array.getElem?_eq_getElem hlt]
    exact WJ.pure ⟨hJ, x, st1, h.2 i x _ ha (Array.getElem?_eq_getElem hlt), hR, hx.pure⟩
/-- one question -/
theorem Sim.lt {x x' y y' : Keyed} {a b : Int} {t u : Tok} (hΓ : Γ.In A) (hx : x.1 = .int a t) (hy : y.1 = .int b u)
    (ask : ∀ s, J s → wpAny (model prog w) A (keyLt' oneType' x'.1 y'.1) (fun c s' => c = decide (a < b) ∧ J s') E s) (hE : ∀ e s, E e s → False) : Sim prog w A E Γ ρ J (lt' x y) (lt' x' y') := by
  intro st1 st2 s hR hJ Q hq
  have fw : ∀ s, wpS (model prog w) A (fun _ _ => False) s (lt' x y) (fun r st => r = some (decide (a < b)) ∧ st = st1) st1 := fun s => by
    rw [lt'_eq]
    refine wpS_bind (wpS_get ?_)
    rw [hR.k1, keyLt'_oneType, hx, hy]
    refine wpS_bind (wpS_lift (wpAny_attempt (oneLt_int ⟨rfl, ?_⟩)))
    exact wpS_pure ⟨rfl, rfl⟩
  have key : Q (some (decide (a < b))) st1 := by
    obtain ⟨p, t, hq⟩ := hq
    have two := wp_two _ _ _ _ _ _ _ p t hq (fw t Γ p hΓ)
    refine Classical.byContradiction fun hn => wp_end (model prog w) Γ ((lt' x y).run st1) p t (Sem.wp_mono _ _ _ (fun r p' s' h => ?_) (fun _ _ _ h => h.1) p t two)
    obtain ⟨h1, _, h2, h3⟩ := h
    rw [h2, h3] at h1
    exact hn h1
  rw [lt'_eq]
  refine WJ.bind ?_
  unfold WJ
  rw [StateT.run_get]
  refine wpAny_pure ?_
  dsimp only
  rw [hR.k2]
  refine WJ.bind (Q := fun b st2' s' => J s' ∧ ∃ a st1', Rl.r ρ a b ∧ RS ρ st1' st2' ∧ Q a st1') ?_
  unfold WJ
  show wpAny _ _ ((StateT.lift _ : StateT SortSt Sem _).run st2) _ E s
  rw [StateT.run_lift]
  refine wpAny_bind (wpAny_attempt (wpAny_mono (ask s hJ) (fun c s' hc => ?_) fun e s' he => (hE e s' he).elim))
  obtain ⟨rfl, hJ'⟩ := hc
  refine wpAny_pure ?_
  exact wpAny_pure ⟨hJ', some (decide (a < b)), st1, rfl, hR, key⟩
end
end Gd

set_option Elab.async false
set_option linter.all false
set_option maxRecDepth 100000
set_option maxHeartbeats 4000000
/-! The pieces of list.sort. -/
namespace Gd
open PySem PySem.Spec PyProof.Rows
open PySem.Sem (wp)
section
variable {prog : Program} {w : World} {A : Around} {E : Value → Shared → Prop} {Γ : PySem.Ctx} {ρ : Keyed → Keyed → Prop} {J : Shared → Prop} {α β : Type}
theorem Sim.bindO [Rl α] [Rl β] {m1 m2 : StateT SortSt Sem (Option α)} {f1 f2 : Option α → StateT SortSt Sem β} (h : Sim prog w A E Γ ρ J m1 m2) (k0 : Sim prog w A E Γ ρ J (f1 none) (f2 none)) (k : ∀ a b, Rl.r ρ a b → Sim prog w A E Γ ρ J (f1 (some a)) (f2 (some b))) : Sim prog w A E Γ ρ J (m1 >>= f1) (m2 >>= f2) := by
  refine Sim.bind h fun a b hab => ?_
  cases a with
  | none =>
    cases b with
    | none => exact k0
    | some b => exact hab.elim
  | some a =>
    cases b with
    | none => exact hab.elim
    | some b => exact k a b hab
theorem Sim.bindN [Rl β] {m1 m2 : StateT SortSt Sem Nat} {f1 f2 : Nat → StateT SortSt Sem β} (h : Sim prog w A E Γ ρ J m1 m2) (k : ∀ a, Sim prog w A E Γ ρ J (f1 a) (f2 a)) : Sim prog w A E Γ ρ J (m1 >>= f1) (m2 >>= f2) := Sim.bind h fun a b hab => by
  cases (show a = b from hab)
  exact k a
theorem Sim.bindB [Rl β] {m1 m2 : StateT SortSt Sem Bool} {f1 f2 : Bool → StateT SortSt Sem β} (h : Sim prog w A E Γ ρ J m1 m2) (k : ∀ a, Sim prog w A E Γ ρ J (f1 a) (f2 a)) : Sim prog w A E Γ ρ J (m1 >>= f1) (m2 >>= f2) := Sim.bind h fun a b hab => by
  cases (show a = b from hab)
  exact k a
theorem Sim.bindU [Rl β] {m1 m2 : StateT SortSt Sem PUnit} {f1 f2 : PUnit → StateT SortSt Sem β} (h : Sim prog w A E Γ ρ J m1 m2) (k : Sim prog w A E Γ ρ J (f1 ⟨⟩) (f2 ⟨⟩)) : Sim prog w A E Γ ρ J (m1 >>= f1) (m2 >>= f2) := Sim.bind h fun _ _ _ => k
theorem Sim.ite [Rl β] {c : Prop} [Decidable c] {a1 a2 b1 b2 : StateT SortSt Sem β} (h1 : c → Sim prog w A E Γ ρ J a1 a2) (h2 : ¬ c → Sim prog w A E Γ ρ J b1 b2) : Sim prog w A E Γ ρ J (if c then a1 else b1) (if c then a2 else b2) := by
  by_cases h : c
  · rw [if_pos h, if_pos h]
    exact h1 h
  · rw [if_neg h, if_neg h]
    exact h2 h
class REq (α : Type) [Rl α] : Prop where
  eq : ∀ (ρ : Keyed → Keyed → Prop) (a b : α), Rl.r ρ a b → a = b
  refl : ∀ (ρ : Keyed → Keyed → Prop) (a : α), Rl.r ρ a a
instance : REq Nat := ⟨fun _ _ _ h => h, fun _ _ => rfl⟩
instance : REq Bool := ⟨fun _ _ _ h => h, fun _ _ => rfl⟩
instance : REq PUnit := ⟨fun _ _ _ _ => rfl, fun _ _ => True.intro⟩
instance {α : Type} [Rl α] [REq α] : REq (Option α) := ⟨fun ρ a b h => by
  match a, b, h with
  | none, none, _ => rfl
  | some x, some y, h => exact congrArg some (REq.eq (α := α) ρ x y h), fun ρ a => by
  match a with
  | none => exact True.intro
  | some x => exact REq.refl (α := α) ρ x⟩
instance {α β : Type} [Rl α] [Rl β] [REq α] [REq β] : REq (α × β) := ⟨fun ρ a b h => Prod.ext (REq.eq ρ _ _ h.1) (REq.eq ρ _ _ h.2), fun ρ a => ⟨REq.refl ρ _, REq.refl ρ _⟩⟩
instance {α β : Type} [Rl α] [Rl β] [REq α] [REq β] : REq (MProd α β) := ⟨fun ρ a b h => by
  obtain ⟨a1, a2⟩ := a
  obtain ⟨b1, b2⟩ := b
  rw [show a1 = b1 from REq.eq ρ _ _ h.1, show a2 = b2 from REq.eq ρ _ _ h.2], fun ρ a => ⟨REq.refl ρ _, REq.refl ρ _⟩⟩
instance {α : Type} [Rl α] [REq α] : REq (ForInStep α) := ⟨fun ρ a b h => by
  match a, b, h with
  | .done x, .done y, h => exact congrArg ForInStep.done (REq.eq (α := α) ρ x y h)
  | .yield x, .yield y, h => exact congrArg ForInStep.yield (REq.eq (α := α) ρ x y h), fun ρ a => by
  match a with
  | .done x => exact REq.refl (α := α) ρ x
  | .yield x => exact REq.refl (α := α) ρ x⟩
theorem Sim.pureE [Rl α] [REq α] {a : α} : Sim prog w A E Γ ρ J (Pure.pure a : StateT SortSt Sem α) (Pure.pure a) := Sim.pure (REq.refl ρ a)
theorem Sim.bindE [Rl α] [REq α] [Rl β] {m1 m2 : StateT SortSt Sem α} {f1 f2 : α → StateT SortSt Sem β} (h : Sim prog w A E Γ ρ J m1 m2) (k : ∀ a, Sim prog w A E Γ ρ J (f1 a) (f2 a)) : Sim prog w A E Γ ρ J (m1 >>= f1) (m2 >>= f2) := Sim.bind h fun a b hab => by
  cases REq.eq ρ a b hab
  exact k a
theorem Sim.forE [Rl β] [REq β] {a b : Nat} {x : β} {f1 f2 : Nat → β → StateT SortSt Sem (ForInStep β)} (k : ∀ i x, Sim prog w A E Γ ρ J (f1 i x) (f2 i x)) : Sim prog w A E Γ ρ J (forIn [a:b] x f1) (forIn [a:b] x f2) :=
  Sim.forRange rfl rfl (REq.refl ρ x) fun i x y h => by
    cases REq.eq ρ x y h
    exact k i x
def LtS (prog : Program) (w : World) (A : Around) (E : Value → Shared → Prop) (Γ : PySem.Ctx) (ρ : Keyed → Keyed → Prop) (J : Shared → Prop) : Prop := ∀ x x' y y', ρ x x' → ρ y y' → Sim prog w A E Γ ρ J (lt' x y) (lt' x' y')
variable (hL : LtS prog w A E Γ ρ J)
include hL
theorem sim_beyond {left : Bool} {k1 k2 : Keyed} {a1 a2 : Array Keyed} {base i : Nat} (hk : ρ k1 k2) (ha : Rl.r ρ a1 a2) : Sim prog w A E Γ ρ J (beyond' left k1 a1 base i) (beyond' left k2 a2 base i) := by
  unfold beyond'
  refine Sim.bind (Sim.elem ha rfl) fun x y hxy => ?_
  cases left with
  | true => exact hL _ _ _ _ hxy hk
  | false =>
    refine Sim.bindO (hL _ _ _ _ hk hxy) (Sim.pure True.intro) fun a b hab => ?_
    cases (show a = b from hab)
    exact Sim.pure rfl
theorem sim_gallop {left : Bool} {k1 k2 : Keyed} {a1 a2 : Array Keyed} {base n hint : Nat} (hk : ρ k1 k2) (ha : Rl.r ρ a1 a2) : Sim prog w A E Γ ρ J (gallop' left k1 a1 base n hint) (gallop' left k2 a2 base n hint) := by
  have hb : ∀ i, Sim prog w A E Γ ρ J (beyond' left k1 a1 base i) (beyond' left k2 a2 base i) := fun i => sim_beyond hL hk ha
  rw [gallop'_eq, gallop'_eq]
  refine Sim.bindE (hb _) fun a => ?_
  cases a with
  | none => exact Sim.pureE
  | some a =>
    dsimp only
    refine Sim.ite (fun _ => ?_) (fun _ => ?_)
    · refine Sim.bindE (Sim.forE fun i x => ?_) fun s => ?_
      · refine Sim.ite (fun _ => Sim.pureE) (fun _ => Sim.bindE (hb _) fun c => ?_)
        cases c with
        | none => exact Sim.pureE
        | some c => exact Sim.ite (fun _ => Sim.pureE) (fun _ => Sim.pureE)
      obtain ⟨r, l, o⟩ := s
      cases r with
      | some r => exact Sim.pureE
      | none =>
        refine Sim.bindE (Sim.forE fun i x => ?_) fun s => ?_
        · refine Sim.ite (fun _ => Sim.pureE) (fun _ => Sim.bindE (hb _) fun c => ?_)
          cases c with
          | none => exact Sim.pureE
          | some c => exact Sim.ite (fun _ => Sim.pureE) (fun _ => Sim.pureE)
        obtain ⟨r, l, o⟩ := s
        cases r <;> exact Sim.pureE
    · refine Sim.bindE (Sim.forE fun i x => ?_) fun s => ?_
      · refine Sim.ite (fun _ => Sim.pureE) (fun _ => Sim.bindE (hb _) fun c => ?_)
        cases c with
        | none => exact Sim.pureE
        | some c => exact Sim.ite (fun _ => Sim.pureE) (fun _ => Sim.pureE)
      obtain ⟨r, l, o⟩ := s
      cases r with
      | some r => exact Sim.pureE
      | none =>
        refine Sim.bindE (Sim.forE fun i x => ?_) fun s => ?_
        · refine Sim.ite (fun _ => Sim.pureE) (fun _ => Sim.bindE (hb _) fun c => ?_)
          cases c with
          | none => exact Sim.pureE
          | some c => exact Sim.ite (fun _ => Sim.pureE) (fun _ => Sim.pureE)
        obtain ⟨r, l, o⟩ := s
        cases r <;> exact Sim.pureE
theorem sim_ltAt {i j : Nat} : Sim prog w A E Γ ρ J (ltAt' i j) (ltAt' i j) := by
  rw [ltAt'_eq]
  refine Sim.get fun s1 s2 hs => ?_
  refine Sim.bind (Sim.elem hs.arr rfl) fun x y hxy => ?_
  exact Sim.bind (Sim.elem hs.arr rfl) fun x' y' hxy' => hL _ _ _ _ hxy hxy'
omit hL in
theorem RS.setArr {s1 s2 : SortSt} (h : RS ρ s1 s2) {x y : Array Keyed} (hx : Rl.r ρ x y) : RS ρ (setArr s1 x) (setArr s2 y) := ⟨h.k1, h.k2, hx, h.pend, h.gal, h.f1, h.f2⟩
omit hL in
theorem rl_swap {a b : Array Keyed} (h : Rl.r ρ a b) (i j : Nat) : Rl.r ρ (a.swapIfInBounds i j) (b.swapIfInBounds i j) := by
  have hs := h.1
  refine ⟨by rw [Array.size_swapIfInBounds, Array.size_swapIfInBounds]; exact h.1, fun k x y hx hy => ?_⟩
  by_cases hi : i < a.size
  · by_cases hj : j < a.size
    · rw [getElem?_swapIB hi hj] at hx
      rw [getElem?_swapIB (by omega) (by omega)] at hy
      split at hx
      · rw [if_pos ‹_›] at hy
        exact h.2 _ _ _ hx hy
      · rw [if_neg ‹_›] at hy
        split at hx
        · rw [if_pos ‹_›] at hy
          exact h.2 _ _ _ hx hy
        · rw [if_neg ‹_›] at hy
          exact h.2 _ _ _ hx hy
    · rw [Array.swapIfInBounds_def, dif_pos hi, dif_neg hj] at hx
      rw [Array.swapIfInBounds_def, dif_pos (by omega), dif_neg (by omega)] at hy
      exact h.2 _ _ _ hx hy
  · rw [Array.swapIfInBounds_def, dif_neg hi] at hx
    rw [Array.swapIfInBounds_def, dif_neg (by omega)] at hy
    exact h.2 _ _ _ hx hy
omit hL in
theorem rl_mirror {a b : Array Keyed} (h : Rl.r ρ a b) (i j : Nat) : ∀ d, Rl.r ρ (mirror a i j d) (mirror b i j d)
  | 0 => h
  | d + 1 => by
    rw [mirror_succ, mirror_succ]
    exact rl_swap (rl_mirror h i j d) _ _
omit hL in
theorem rl_bubble {a b : Array Keyed} (h : Rl.r ρ a b) (i : Nat) : ∀ d, Rl.r ρ (bubble a i d) (bubble b i d)
  | 0 => h
  | d + 1 => by
    rw [bubble_succ, bubble_succ]
    exact rl_swap (rl_bubble h i d) _ _
omit hL in
theorem rl_push {a b : Array Keyed} (h : Rl.r ρ a b) {x y : Keyed} (hxy : ρ x y) : Rl.r ρ (a.push x) (b.push y) := by
  have hs := h.1
  refine ⟨by rw [Array.size_push, Array.size_push, hs], fun k u v hu hv => ?_⟩
  rw [Array.getElem?_push] at hu hv
  rw [← hs] at hv
  split at hu
  · rw [if_pos ‹_›] at hv
    cases hu
    cases hv
    exact hxy
  · rw [if_neg ‹_›] at hv
    exact h.2 _ _ _ hu hv
omit hL in
theorem rl_append {a b c d : Array Keyed} (h : Rl.r ρ a b) (h' : Rl.r ρ c d) : Rl.r ρ (a ++ c) (b ++ d) := by
  have hs := h.1
  refine ⟨by rw [Array.size_append, Array.size_append, hs, h'.1], fun k u v hu hv => ?_⟩
  rw [Array.getElem?_append] at hu hv
  rw [← hs] at hv
  split at hu
  · rw [if_pos ‹_›] at hv
    exact h.2 _ _ _ hu hv
  · rw [if_neg ‹_›] at hv
    exact h'.2 _ _ _ hu hv
omit hL in
theorem rl_extract {a b : Array Keyed} (h : Rl.r ρ a b) (i j : Nat) : Rl.r ρ (a.extract i j) (b.extract i j) := by
  have hs := h.1
  refine ⟨by rw [Array.size_extract, Array.size_extract, hs], fun k u v hu hv => ?_⟩
  rw [Array.getElem?_extract] at hu hv
  rw [← hs] at hv
  split at hu
  · rw [if_pos ‹_›] at hv
    exact h.2 _ _ _ hu hv
  · cases hu
omit hL in
theorem rl_reverse {a b : Array Keyed} (h : Rl.r ρ a b) : Rl.r ρ a.reverse b.reverse := by
  have hs := h.1
  refine ⟨by rw [Array.size_reverse, Array.size_reverse, hs], fun k u v hu hv => ?_⟩
  have hk : k < a.size := by
    have := (Array.getElem?_eq_some_iff.mp hu).1
    rwa [Array.size_reverse] at this
  rw [Array.getElem?_reverse hk] at hu
  rw [Array.getElem?_reverse (by omega), ← hs] at hv
  exact h.2 _ _ _ hu hv
omit hL in
theorem rl_one {x y : Keyed} (h : ρ x y) : Rl.r ρ #[x] #[y] := by
  refine ⟨rfl, fun k u v hu hv => ?_⟩
  cases k with
  | zero =>
    cases hu
    cases hv
    exact h
  | succ k => simp at hu
omit hL in
theorem rl_set {a b : Array Keyed} (h : Rl.r ρ a b) {x y : Keyed} (hxy : ρ x y) (i : Nat) : Rl.r ρ (a.setIfInBounds i x) (b.setIfInBounds i y) := by
  have hs := h.1
  refine ⟨by rw [Array.size_setIfInBounds, Array.size_setIfInBounds, hs], fun k u v hu hv => ?_⟩
  rw [Array.getElem?_setIfInBounds] at hu hv
  rw [← hs] at hv
  split at hu
  · rw [if_pos ‹_›] at hv
    split at hu
    · rw [if_pos ‹_›] at hv
      cases hu
      cases hv
      exact hxy
    · cases hu
  · rw [if_neg ‹_›] at hv
    exact h.2 _ _ _ hu hv
end
end Gd

set_option Elab.async false
set_option linter.all false
set_option maxRecDepth 100000
set_option maxHeartbeats 8000000
/-! Runs and merges of list.sort. -/
namespace Gd
open PySem PySem.Spec PyProof.Rows
open PySem.Sem (wp)
section
variable {prog : Program} {w : World} {A : Around} {E : Value → Shared → Prop} {Γ : PySem.Ctx} {ρ : Keyed → Keyed → Prop} {J : Shared → Prop} {α β : Type}
theorem sim_rev {i j : Nat} : Sim prog w A E Γ ρ J (reverseSlice' i j) (reverseSlice' i j) := by
  rw [reverseSlice'_eq]
  exact Sim.modify fun s1 s2 h => h.setArr (rl_mirror h.arr _ _ _)
theorem sim_down {i j : Nat} : Sim prog w A E Γ ρ J (moveDown' i j) (moveDown' i j) := by
  rw [moveDown'_eq]
  exact Sim.modify fun s1 s2 h => h.setArr (rl_bubble h.arr _ _)
variable (hL : LtS prog w A E Γ ρ J)
set_option hygiene false in
local macro_rules | `(tactic| walk_at "simE") => `(tactic| ((try dsimp only); first
  | exact Sim.pureE
  | exact sim_ltAt hL
  | exact sim_rev
  | exact sim_down
  | exact Sim.rule
  | (apply Sim.ite <;> intro _ <;> walk_at "simE")
  | (apply Sim.forE; intro _ _; walk_at "simE")
  | (apply Sim.bindE; (focus (walk_at "simE")); first | (rintro ⟨(_ | _), _⟩ <;> walk_at "simE") | (rintro ⟨⟩ <;> walk_at "simE"))))
include hL
theorem sim_binary {lo n ok : Nat} : Sim prog w A E Γ ρ J (binarySort' lo n ok) (binarySort' lo n ok) := by
  rw [binarySort'_eq]
  refine Sim.bindE (Sim.forE fun k x => ?_) fun s => ?_
  · refine Sim.bindE (Sim.forE fun i x => ?_) fun s => ?_
    · refine Sim.ite (fun _ => Sim.pureE) (fun _ => Sim.bindE (sim_ltAt hL) fun c => ?_)
      cases c with
      | none => exact Sim.pureE
      | some c => exact Sim.ite (fun _ => Sim.pureE) (fun _ => Sim.pureE)
    · obtain ⟨r, l, o⟩ := s
      cases r with
      | some r => exact Sim.pureE
      | none => exact Sim.bindE sim_down fun _ => Sim.pureE
  · obtain ⟨r, _⟩ := s
    cases r <;> exact Sim.pureE
theorem sim_count {lo n : Nat} : Sim prog w A E Γ ρ J (countRun' lo n) (countRun' lo n) := by
  rw [countRun'_eq]
  walk_at "simE"
end
end Gd

set_option Elab.async false
set_option linter.all false
set_option maxRecDepth 100000
set_option maxHeartbeats 16000000
/-! Merges of list.sort. -/
namespace Gd
open PySem PySem.Spec PyProof.Rows
open PySem.Sem (wp)
section
variable {prog : Program} {w : World} {A : Around} {E : Value → Shared → Prop} {Γ : PySem.Ctx} {ρ : Keyed → Keyed → Prop} {J : Shared → Prop} {α β : Type}
theorem RS.setG {s1 s2 : SortSt} (h : RS ρ s1 s2) (g : Nat) : RS ρ (setGallop s1 g) (setGallop s2 g) := ⟨h.k1, h.k2, h.arr, h.pend, rfl, h.f1, h.f2⟩
theorem sim_setG {g : Nat} : Sim prog w A E Γ ρ J (setMinGallop' g) (setMinGallop' g) := by
  rw [setMinGallop'_eq]
  exact Sim.modify fun s1 s2 h => h.setG _
theorem rl_done [Rl α] {x y : α} (h : Rl.r ρ x y) : Rl.r ρ (ForInStep.done x) (ForInStep.done y) := h
theorem rl_yield [Rl α] {x y : α} (h : Rl.r ρ x y) : Rl.r ρ (ForInStep.yield x) (ForInStep.yield y) := h
theorem rl_some [Rl α] {x y : α} (h : Rl.r ρ x y) : Rl.r ρ (some x) (some y) := h
theorem rl_none [Rl α] : Rl.r ρ (none : Option α) none := True.intro
theorem rl_nat {n : Nat} : Rl.r ρ n n := rfl
theorem rl_pair [Rl α] [Rl β] {a b : α} {c d : β} (h : Rl.r ρ a b) (k : Rl.r ρ c d) : Rl.r ρ (a, c) (b, d) := ⟨h, k⟩
set_option hygiene false in
local macro_rules | `(tactic| walk_at "rlT") => `(tactic| first
  | (with_reducible assumption)
  | exact rl_none
  | exact rl_nat
  | ((with_reducible apply rl_done); walk_at "rlT")
  | ((with_reducible apply rl_yield); walk_at "rlT")
  | ((with_reducible apply rl_some); walk_at "rlT")
  | ((with_reducible apply rl_pair) <;> walk_at "rlT")
  | ((with_reducible apply rl_reverse); walk_at "rlT")
  | ((with_reducible apply rl_append) <;> walk_at "rlT")
  | ((with_reducible apply rl_extract); walk_at "rlT")
  | ((with_reducible apply rl_push) <;> walk_at "rlT")
  | ((with_reducible apply rl_one); walk_at "rlT")
  | (show ρ _ _; assumption)
  | assumption)
set_option hygiene false in
local macro_rules | `(tactic| walk_at "simM") => `(tactic| ((try dsimp only); first
  | ((with_reducible apply Sim.pure); walk_at "rlT")
  | ((with_reducible apply Sim.ite) <;> intro _ <;> walk_at "simM")
  | ((with_reducible refine Sim.bind (Sim.elem (by assumption) rfl) ?_); intro xk yk hk; (have hk : ρ xk yk := hk); walk_at "simM")
  | (refine Sim.bindE (hL _ _ _ _ (by assumption) (by assumption)) ?_; (rintro (_ | _) <;> walk_at "simM"))
  | ((with_reducible refine Sim.bindE (sim_gallop hL (by assumption) (by assumption)) ?_); (rintro (_ | _) <;> walk_at "simM"))
  | ((with_reducible refine Sim.bindE sim_setG ?_); intro _; walk_at "simM")
  | ((with_reducible refine Sim.bindE Sim.rule ?_); intro _; walk_at "simM")))
variable (hL : LtS prog w A E Γ ρ J)
include hL
theorem sim_mergeLo {a1 b1 a2 b2 : Array Keyed} (ha : Rl.r ρ a1 a2) (hb : Rl.r ρ b1 b2) : Sim prog w A E Γ ρ J (mergeLo' a1 b1) (mergeLo' a2 b2) := by
  rw [mergeLo'_eq, mergeLo'_eq]
  dsimp only
  rw [ha.1, hb.1]
  refine Sim.bindE Sim.rule fun _ => ?_
  refine Sim.bind (Sim.elem hb rfl) fun x y hxy => ?_
  apply Sim.ite
  · intro _
    walk_at "simM"
  intro _
  apply Sim.ite
  · intro _
    walk_at "simM"
  intro _
  refine Sim.get fun s1 s2 hs => ?_
  rw [hs.gal]
  refine Sim.bind (Sim.forRange rfl rfl (by walk_at "rlT") ?_) ?_
  · rintro _ ⟨r, o, ia, ib, mg⟩ ⟨r', o', ia', ib', mg'⟩ ⟨hr, ho, h1, h2, h3⟩
    obtain rfl : ia = ia' := h1
    obtain rfl : ib = ib' := h2
    obtain rfl : mg = mg' := h3
    dsimp only
    refine Sim.bind (Sim.forRange rfl rfl (by walk_at "rlT") ?_) ?_
    · rintro _ ⟨r, o, ia, ib, ac, bc⟩ ⟨r', o', ia', ib', ac', bc'⟩ ⟨hr, ho, h1, h2, h3, h4⟩
      obtain rfl : ia = ia' := h1
      obtain rfl : ib = ib' := h2
      obtain rfl : ac = ac' := h3
      obtain rfl : bc = bc' := h4
      walk_at "simM"
    rintro ⟨r, o, ia, ib, ac, bc⟩ ⟨r', o', ia', ib', ac', bc'⟩ ⟨hr, ho, h1, h2, h3, h4⟩
    obtain rfl : ia = ia' := h1
    obtain rfl : ib = ib' := h2
    obtain rfl : ac = ac' := h3
    obtain rfl : bc = bc' := h4
    cases r with
    | some r =>
      cases r' with
      | none => exact hr.elim
      | some r' =>
        have hr : Rl.r ρ r r' := hr
        walk_at "simM"
    | none =>
      cases r' with
      | some r' => exact hr.elim
      | none =>
        dsimp only
        refine Sim.bindE Sim.rule fun _ => ?_
        refine Sim.bind (Sim.forRange rfl rfl (by walk_at "rlT") ?_) ?_
        · rintro _ ⟨r, o, ia, ib, mg, ac, bc⟩ ⟨r', o', ia', ib', mg', ac', bc'⟩ ⟨hr, ho, h1, h2, h3, h4, h5⟩
          obtain rfl : ia = ia' := h1
          obtain rfl : ib = ib' := h2
          obtain rfl : mg = mg' := h3
          obtain rfl : ac = ac' := h4
          obtain rfl : bc = bc' := h5
          walk_at "simM"
        rintro ⟨r, o, ia, ib, mg, ac, bc⟩ ⟨r', o', ia', ib', mg', ac', bc'⟩ ⟨hr, ho, h1, h2, h3, h4, h5⟩
        obtain rfl : ia = ia' := h1
        obtain rfl : ib = ib' := h2
        obtain rfl : mg = mg' := h3
        obtain rfl : ac = ac' := h4
        obtain rfl : bc = bc' := h5
        cases r with
        | some r =>
          cases r' with
          | none => exact hr.elim
          | some r' =>
            have hr : Rl.r ρ r r' := hr
            walk_at "simM"
        | none =>
          cases r' with
          | some r' => exact hr.elim
          | none => walk_at "simM"
  rintro ⟨r, o, ia, ib, mg⟩ ⟨r', o', ia', ib', mg'⟩ ⟨hr, ho, h1, h2, h3⟩
  cases r with
  | some r =>
    cases r' with
    | none => exact hr.elim
    | some r' =>
      have hr : Rl.r ρ r r' := hr
      walk_at "simM"
  | none =>
    cases r' with
    | some r' => exact hr.elim
    | none => exact Sim.unsup
theorem sim_mergeHi {a1 b1 a2 b2 : Array Keyed} (ha : Rl.r ρ a1 a2) (hb : Rl.r ρ b1 b2) : Sim prog w A E Γ ρ J (mergeHi' a1 b1) (mergeHi' a2 b2) := by
  rw [mergeHi'_eq, mergeHi'_eq]
  dsimp only
  rw [ha.1, hb.1]
  refine Sim.bindE Sim.rule fun _ => ?_
  refine Sim.bind (Sim.elem ha rfl) fun x y hxy => ?_
  apply Sim.ite
  · intro _
    walk_at "simM"
  intro _
  apply Sim.ite
  · intro _
    walk_at "simM"
  intro _
  refine Sim.get fun s1 s2 hs => ?_
  rw [hs.gal]
  refine Sim.bind (Sim.forRange rfl rfl (by walk_at "rlT") ?_) ?_
  · rintro _ ⟨r, ia, ib, o, mg⟩ ⟨r', ia', ib', o', mg'⟩ ⟨hr, h1, h2, ho, h3⟩
    obtain rfl : ia = ia' := h1
    obtain rfl : ib = ib' := h2
    obtain rfl : mg = mg' := h3
    dsimp only
    refine Sim.bind (Sim.forRange rfl rfl (by walk_at "rlT") ?_) ?_
    · rintro _ ⟨r, ia, ib, o, ac, bc⟩ ⟨r', ia', ib', o', ac', bc'⟩ ⟨hr, h1, h2, ho, h3, h4⟩
      obtain rfl : ia = ia' := h1
      obtain rfl : ib = ib' := h2
      obtain rfl : ac = ac' := h3
      obtain rfl : bc = bc' := h4
      walk_at "simM"
    rintro ⟨r, ia, ib, o, ac, bc⟩ ⟨r', ia', ib', o', ac', bc'⟩ ⟨hr, h1, h2, ho, h3, h4⟩
    obtain rfl : ia = ia' := h1
    obtain rfl : ib = ib' := h2
    obtain rfl : ac = ac' := h3
    obtain rfl : bc = bc' := h4
    cases r with
    | some r =>
      cases r' with
      | none => exact hr.elim
      | some r' =>
        have hr : Rl.r ρ r r' := hr
        walk_at "simM"
    | none =>
      cases r' with
      | some r' => exact hr.elim
      | none =>
        dsimp only
        refine Sim.bindE Sim.rule fun _ => ?_
        refine Sim.bind (Sim.forRange rfl rfl (by walk_at "rlT") ?_) ?_
        · rintro _ ⟨r, ia, ib, o, mg, ac, bc⟩ ⟨r', ia', ib', o', mg', ac', bc'⟩ ⟨hr, h1, h2, ho, h3, h4, h5⟩
          obtain rfl : ia = ia' := h1
          obtain rfl : ib = ib' := h2
          obtain rfl : mg = mg' := h3
          obtain rfl : ac = ac' := h4
          obtain rfl : bc = bc' := h5
          walk_at "simM"
        rintro ⟨r, ia, ib, o, mg, ac, bc⟩ ⟨r', ia', ib', o', mg', ac', bc'⟩ ⟨hr, h1, h2, ho, h3, h4, h5⟩
        obtain rfl : ia = ia' := h1
        obtain rfl : ib = ib' := h2
        obtain rfl : mg = mg' := h3
        obtain rfl : ac = ac' := h4
        obtain rfl : bc = bc' := h5
        cases r with
        | some r =>
          cases r' with
          | none => exact hr.elim
          | some r' =>
            have hr : Rl.r ρ r r' := hr
            walk_at "simM"
        | none =>
          cases r' with
          | some r' => exact hr.elim
          | none => walk_at "simM"
  rintro ⟨r, ia, ib, o, mg⟩ ⟨r', ia', ib', o', mg'⟩ ⟨hr, h1, h2, ho, h3⟩
  cases r with
  | some r =>
    cases r' with
    | none => exact hr.elim
    | some r' =>
      have hr : Rl.r ρ r r' := hr
      walk_at "simM"
  | none =>
    cases r' with
    | some r' => exact hr.elim
    | none => exact Sim.unsup
end
end Gd

set_option Elab.async false
set_option linter.all false
set_option maxRecDepth 100000
set_option maxHeartbeats 16000000
/-! The whole of list.sort's runs. -/
namespace Gd
open PySem PySem.Spec PyProof.Rows
open PySem.Sem (wp)
section
variable {prog : Program} {w : World} {A : Around} {E : Value → Shared → Prop} {Γ : PySem.Ctx} {ρ : Keyed → Keyed → Prop} {J : Shared → Prop} {α β : Type}
theorem RS.setP {s1 s2 : SortSt} (h : RS ρ s1 s2) (p : Array (Nat × Nat × Nat)) : RS ρ (setPending s1 p) (setPending s2 p) := ⟨h.k1, h.k2, h.arr, rfl, h.gal, h.f1, h.f2⟩
theorem rl_write (sa : Nat) : ∀ (l m : List Keyed) (j : Nat) (a b : Array Keyed), l.length = m.length → (∀ (i : Nat) x y, l[i]? = some x → m[i]? = some y → ρ x y) → Rl.r ρ a b →
    Rl.r ρ ((l.zipIdx j).foldl (fun a (p : Keyed × Nat) => a.setIfInBounds (sa + p.2) p.1) a) ((m.zipIdx j).foldl (fun a (p : Keyed × Nat) => a.setIfInBounds (sa + p.2) p.1) b)
  | [], [], j, a, b, _, _, h => h
  | [], _ :: _, j, a, b, hl, _, h => by simp at hl
  | _ :: _, [], j, a, b, hl, _, h => by simp at hl
  | x :: l, y :: m, j, a, b, hl, hr, h => by
    rw [List.zipIdx_cons, List.zipIdx_cons, List.foldl_cons, List.foldl_cons]
    exact rl_write sa l m (j + 1) _ _ (by simpa using hl) (fun i u v hu hv => hr (i + 1) u v (by simpa using hu) (by simpa using hv)) (rl_set h (hr 0 x y rfl rfl) _)
theorem rl_list {a b : Array Keyed} (h : Rl.r ρ a b) : ∀ (i : Nat) x y, a.toList[i]? = some x → b.toList[i]? = some y → ρ x y := fun i x y hx hy => h.2 i x y (by rwa [Array.getElem?_toList] at hx) (by rwa [Array.getElem?_toList] at hy)
variable (hL : LtS prog w A E Γ ρ J)
include hL
theorem sim_mergeAt {i : Nat} : Sim prog w A E Γ ρ J (mergeAt' i) (mergeAt' i) := by
  rw [mergeAt'_eq]
  refine Sim.get fun s1 s2 hs => ?_
  rw [hs.pend]
  rcases (pendingOf s2)[i]? with _ | ⟨sa, na, power⟩
  · exact Sim.unsup
  rcases (pendingOf s2)[i + 1]? with _ | ⟨sb, nb, pw⟩
  · exact Sim.unsup
  try dsimp only
  refine Sim.bindE (Sim.set (hs.setP _)) fun _ => ?_
  refine Sim.bind (Sim.elem hs.arr rfl) fun x y hxy => ?_
  refine Sim.bindE (sim_gallop hL hxy hs.arr) fun r => ?_
  cases r with
  | none => exact Sim.pureE
  | some k =>
    try dsimp only
    refine Sim.ite (fun _ => Sim.pureE) fun _ => ?_
    refine Sim.bind (Sim.elem hs.arr rfl) fun x y hxy => ?_
    refine Sim.bindE (sim_gallop hL hxy hs.arr) fun r => ?_
    cases r with
    | none => exact Sim.pureE
    | some nb =>
      try dsimp only
      refine Sim.ite (fun _ => Sim.pureE) fun _ => ?_
      apply Sim.ite
      · intro _
        refine Sim.bind (sim_mergeLo hL (rl_extract hs.arr _ _) (rl_extract hs.arr _ _)) fun m1 m2 hm => ?_
        refine Sim.bindE (Sim.modify fun t1 t2 ht => ht.setArr (rl_write _ _ _ 0 _ _ (by rw [Array.length_toList, Array.length_toList]; exact hm.1) (rl_list hm) ht.arr)) fun _ => ?_
        refine Sim.get fun t1 t2 ht => ?_
        rw [ht.f1, ht.f2]
        exact Sim.pureE
      · intro _
        refine Sim.bind (sim_mergeHi hL (rl_extract hs.arr _ _) (rl_extract hs.arr _ _)) fun m1 m2 hm => ?_
        refine Sim.bindE (Sim.modify fun t1 t2 ht => ht.setArr (rl_write _ _ _ 0 _ _ (by rw [Array.length_toList, Array.length_toList]; exact hm.1) (rl_list hm) ht.arr)) fun _ => ?_
        refine Sim.get fun t1 t2 ht => ?_
        rw [ht.f1, ht.f2]
        exact Sim.pureE
set_option hygiene false in
local macro_rules | `(tactic| walk_at "restS") => `(tactic| (
  refine Sim.get fun s1 s2 hs => ?_
  rw [hs.pend]
  rcases (pendingOf s2).back? with _ | ⟨sx, nx, px⟩
  · try dsimp only
    refine Sim.bindE (Sim.modify fun t1 t2 ht => by rw [ht.pend]; exact ht.setP _) fun _ => ?_
    exact Sim.pureE
  · try dsimp only
    refine Sim.bindE (Sim.forE fun i x => ?_) fun r => ?_
    · refine Sim.get fun s1 s2 hs => ?_
      rw [hs.pend]
      try dsimp only
      generalize (if (pendingOf s2).size > 1 then (pendingOf s2)[(pendingOf s2).size - 2]? else none) = z
      rcases z with _ | ⟨_, _, older⟩
      · exact Sim.pureE
      · try dsimp only
        refine Sim.ite (fun _ => Sim.pureE) fun _ => ?_
        refine Sim.bindE (sim_mergeAt hL) fun b => ?_
        exact Sim.ite (fun _ => Sim.pureE) fun _ => Sim.pureE
    · obtain ⟨r, _⟩ := r
      cases r with
      | some r => exact Sim.pureE
      | none =>
        try dsimp only
        refine Sim.bindE (Sim.modify fun t1 t2 ht => by rw [ht.pend]; exact ht.setP _) fun _ => ?_
        refine Sim.bindE (Sim.modify fun t1 t2 ht => by rw [ht.pend]; exact ht.setP _) fun _ => ?_
        exact Sim.pureE))
theorem sim_sortRuns : Sim prog w A E Γ ρ J sortRuns' sortRuns' := by
  rw [sortRuns'_eq]
  refine Sim.get fun s1 s2 hs => ?_
  try dsimp only
  rw [hs.arr.1]
  generalize (arrOf s2).size = size
  generalize minRun' size size 0 = mr
  refine Sim.bindE (Sim.forE fun i x => ?_) fun r => ?_
  · obtain ⟨x1, lo⟩ := x
    try dsimp only
    refine Sim.ite (fun _ => Sim.pureE) fun _ => ?_
    refine Sim.bindE (sim_count hL) fun r => ?_
    cases r with
    | none => exact Sim.pureE
    | some found =>
      try dsimp only
      refine Sim.ite (fun _ => ?_) (fun _ => ?_)
      · refine Sim.bindE Sim.rule fun _ => ?_
        refine Sim.bindE (sim_binary hL) fun b => ?_
        refine Sim.ite (fun _ => Sim.pureE) fun _ => ?_
        walk_at "restS"
      · walk_at "restS"
  · obtain ⟨r, lo⟩ := r
    cases r with
    | some r => exact Sim.pureE
    | none =>
      try dsimp only
      refine Sim.bindE (Sim.forE fun i x => ?_) fun r => ?_
      · refine Sim.get fun s1 s2 hs => ?_
        rw [hs.pend]
        try dsimp only
        refine Sim.ite (fun _ => Sim.pureE) fun _ => ?_
        refine Sim.bindE (sim_mergeAt hL) fun b => ?_
        exact Sim.ite (fun _ => Sim.pureE) fun _ => Sim.pureE
      · obtain ⟨r, _⟩ := r
        cases r <;> exact Sim.pureE
end
end Gd

set_option Elab.async false
set_option linter.all false
set_option maxRecDepth 100000
set_option maxHeartbeats 4000000
/-! Readings, step by step: one lemma a word of the readings, and a tactic that goes as far as nothing is asked. -/
namespace Gd
open PySem PySem.Spec PyProof.Rows L2
section
variable {σ : L2.St} {H : Hp} {Q : VK} {QA : List V → Hp → Prop} {QT : Bool → Hp → Prop} {D : Ends} {te ta tb tc to : TE} {t u : TT} {tr : TA} {s1 s2 : TS} {v : V} {i : Nat} {K : PySem.W.Frag}
theorem g_var (h : σ[i]? = some (some v)) (k : Q v H) : tVar i σ H Q := ⟨v, h, k⟩
theorem g_c (k : Q v H) : tC v σ H Q := k
theorem g_ret (k : te σ H D.rt) : tRet te D σ H := k
theorem g_retN (k : D.rt .non H) : tRetN D σ H := k
theorem g_seq (k : s1 { D with nx := s2 D } σ H) : tSeq s1 s2 D σ H := k
theorem g_next (k : D.nx σ H) : tNext D σ H := k
theorem g_drop (k : te σ H fun _ H1 => D.nx σ H1) : tDrop te D σ H := k
theorem g_asg {g : TG} (k : te σ H fun x H1 => g x σ H1 D.nx) : tAsg te g D σ H := k
theorem g_name {Qs : L2.St → Hp → Prop} (k : Qs (σ.set i (some v)) H) : gName i v σ H Qs := k
theorem g_ifs (k : t σ H fun b H1 => if b = true then s1 D σ H1 else s2 D σ H1) : tIfS t s1 s2 D σ H := k
theorem g_test (k : te σ H fun x H' => ∃ c, x = .bl c ∧ QT c H') : tTest te σ H QT := k
theorem g_tb (k : te σ H fun x H' => ∃ c, x = .bl c ∧ QT c H') : tB te σ H QT := k
theorem g_and (k : t σ H fun c H1 => if c = true then u σ H1 QT else QT false H1) : tAnd t u σ H QT := k
theorem g_or (k : t σ H fun c H1 => if c = true then QT true H1 else u σ H1 QT) : tOr t u σ H QT := k
theorem g_not (k : t σ H fun c H1 => QT (!c) H1) : tNot t σ H QT := k
theorem g_andV (k : ta σ H fun x H1 => ∃ c, x = .bl c ∧ if c = true then tb σ H1 Q else Q (.bl false) H1) : tAndV ta tb σ H Q := k
theorem g_orV (k : ta σ H fun x H1 => ∃ c, x = .bl c ∧ if c = true then Q (.bl true) H1 else tb σ H1 Q) : tOrV ta tb σ H Q := k
theorem g_notV (k : ta σ H fun x H1 => ∃ c, x = .bl c ∧ Q (.bl (!c)) H1) : tNotV ta σ H Q := k
theorem g_if (k : t σ H fun c H1 => if c = true then ta σ H1 Q else tb σ H1 Q) : tIf t ta tb σ H Q := k
theorem g_op {r : R2} (k : ta σ H fun x H1 => tb σ H1 fun y H2 => r x y H2 Q) : tOp r ta tb σ H Q := k
theorem g_un {r : V → Hp → VK → Prop} (k : ta σ H fun x H1 => r x H1 Q) : tUn r ta σ H Q := k
theorem g_cb {r : List V → Hp → VK → Prop} (k : tr σ H fun vs H1 => r vs H1 Q) : tCB r tr σ H Q := k
theorem g_nil (k : QA [] H) : tNil σ H QA := k
theorem g_cons (k : ta σ H fun x H1 => tr σ H1 fun xs H2 => QA (x :: xs) H2) : tCons ta tr σ H QA := k
theorem g_call {sp : Sp} {dvs : List V} {E : XK} (k : tr σ H fun vs H1 => sp (vs ++ dvs) H1 Q E) : tCall sp dvs E tr σ H Q := k
theorem g_callS {sp : Sp} {E : L2.St → XK} (k : tr σ H fun vs H1 => sp vs H1 Q (E σ)) : tCallS sp E tr σ H Q := k
theorem g_tup (k : tr σ H fun xs H1 => xs.length ≤ sizeLine ∧ ∀ p, H1 p = none → Q (.ref p) (upd H1 p (.tup xs))) : tTup tr σ H Q := k
theorem g_lst (k : tr σ H fun xs H1 => xs.length ≤ sizeLine ∧ ∀ p, H1 p = none → Q (.ref p) (upd H1 p (.lst xs))) : tLst tr σ H Q := k
theorem g_isN (k : ta σ H fun x H1 => Q (.bl (decide (x = .non))) H1) : tIsN ta σ H Q := k
theorem g_sl {r : V → Option Int → Option Int → Hp → VK → Prop} {tl th : TO} (k : te σ H fun x H1 => tl σ H1 fun l H2 => th σ H2 fun u H3 => r x l u H3 Q) : tSl r te tl th σ H Q := k
theorem g_nopart {Qo : Option Int → Hp → Prop} (k : Qo none H) : tNoPart σ H Qo := k
theorem g_part {Qo : Option Int → Hp → Prop} (k : te σ H fun x H1 => ∃ i, x = .int i ∧ Qo (some i) H1) : tPart te σ H Qo := k
theorem g_chain {r r' : R2} (k : ta σ H fun x H1 => tb σ H1 fun y H2 => r x y H2 fun z H3 => ∃ c, z = .bl c ∧
    if c = true then tc σ H3 fun w H4 => r' y w H4 Q else Q (.bl false) H3) : tChain r r' ta tb tc σ H Q := by
  exact k
theorem g_fld {f : Str} (k : ta σ H fun x H1 => ∃ a C dx fs v, x = .ref a ∧ H1 a = some (.ins C dx fs) ∧ Cls K C ∧ NoAttr K C f ∧ fs.lookup f = some v ∧ Q v H1) : tFld K ta f σ H Q := k
theorem g_prop {C : Addr} {sp : Sp} {dvs : List V} {E : XK} (k : ta σ H fun x H1 => ∃ a dx fs, x = .ref a ∧ H1 a = some (.ins C dx fs) ∧ sp (.ref a :: dvs) H1 Q E) : tProp C sp dvs E ta σ H Q := k
theorem g_bm {T : String} {r : V → List V → Hp → VK → Prop} (k : to σ H fun x H1 => tyV K T x H1 ∧ tr σ H1 fun xs H2 => r x xs H2 Q) : tBM K T r to tr σ H Q := k
theorem g_bm0 {T : String} {r : V → List V → Hp → VK → Prop} (k : to σ H fun x H1 => tyV K T x H1 ∧ r x [] H1 Q) : tBM0 K T r to σ H Q := k
theorem g_tru {r : V → Hp → (Bool → Hp → Prop) → Prop} (k : te σ H fun x H' => r x H' QT) : (fun (σ : L2.St) (H : Hp) (Q : Bool → Hp → Prop) => te σ H fun x H' => r x H' Q) σ H QT := k
-- values
theorem g_I0 {g : Int → Int → V} {a b : Int} (k : Q (g a b) H) : rI0 g (.int a) (.int b) H Q := ⟨a, b, rfl, rfl, k⟩
theorem g_I {C : Int → Int → Prop} {g : Int → Int → V} {a b : Int} (c : C a b) (k : Q (g a b) H) : rI C g (.int a) (.int b) H Q := ⟨a, b, rfl, rfl, c, k⟩
theorem g_U {g : Int → V} {a : Int} (k : Q (g a) H) : rU g (.int a) H Q := ⟨a, rfl, k⟩
theorem g_eqI {a b : Int} (k : Q (.bl (decide (a = b))) H) : rEq (.int a) (.int b) H Q := by
  refine ⟨rfl, ?_⟩
  have e : (V.int a = V.int b) = (a = b) := by simp
  simpa [e] using k
theorem g_eq {x y : V} (s : scal x y = true) (k : Q (.bl (decide (x = y))) H) : rEq x y H Q := ⟨s, k⟩
theorem g_ne {x y : V} (s : scal x y = true) (k : Q (.bl (!decide (x = y))) H) : rNe x y H Q := ⟨s, k⟩
theorem g_bl {b : Bool} (k : QT b H) : ∃ c, (V.bl b) = .bl c ∧ QT c H := ⟨b, rfl, k⟩
theorem g_blV {b : Bool} {A : Bool → Prop} (k : A b) : ∃ c, (V.bl b) = .bl c ∧ A c := ⟨b, rfl, k⟩
theorem g_inV {a : Int} {A : Int → Prop} (k : A a) : ∃ c, (V.int a) = .int c ∧ A c := ⟨a, rfl, k⟩
theorem g_ixT {p : Addr} {xs : List V} {a : Int} (h : SqT K H p xs) (e : atI xs a = some v) (k : Q v H) : rIxT K (.ref p) (.int a) H Q := ⟨p, xs, a, v, rfl, rfl, h, e, k⟩
theorem g_ixL {p : Addr} {xs : List V} {a : Int} (h : SqL K H p xs) (e : atI xs a = some v) (k : Q v H) : rIxL K (.ref p) (.int a) H Q := ⟨p, xs, a, v, rfl, rfl, h, e, k⟩
end

/-- the turn's end: the invariant again, the measure less -/
abbrev Turn (Pv : L2.St → Hp → Prop) (μ : L2.St → Hp → Nat) (m : Nat) : L2.St → Hp → Prop := fun σ' H' => Pv σ' H' ∧ μ σ' H' < m
theorem g_while {c : TT} {tb : TS} {D : Ends} {σ : L2.St} {H : Hp} (Pv : L2.St → Hp → Prop) (μ : L2.St → Hp → Nat) (h0 : Pv σ H)
    (hs : ∀ σ H, Pv σ H → c σ H fun b H1 => if b = true then ∃ N : L2.St → Hp → Prop, (∀ σ' H', N σ' H' → ∃ m', m' < μ σ H ∧ m' = μ σ' H' ∧ Pv σ' H') ∧
      tb { D with nx := N, ct := N, bk := D.nx } σ H1 else D.nx σ H1) : tWhile c tb D σ H := by
  refine ⟨fun m σ H => m = μ σ H ∧ Pv σ H, ⟨_, rfl, h0⟩, ?_⟩
  rintro m σ H ⟨rfl, p⟩
  exact hs σ H p
theorem g_turn {tb : TS} {D : Ends} {σ : L2.St} {H H1 : Hp} {Pv : L2.St → Hp → Prop} {μ : L2.St → Hp → Nat}
    (h : tb { D with nx := Turn Pv μ (μ σ H), ct := Turn Pv μ (μ σ H), bk := D.nx } σ H1) :
    ∃ N : L2.St → Hp → Prop, (∀ σ' H', N σ' H' → ∃ m', m' < μ σ H ∧ m' = μ σ' H' ∧ Pv σ' H') ∧ tb { D with nx := N, ct := N, bk := D.nx } σ H1 :=
  ⟨Turn Pv μ (μ σ H), fun σ' H' n => ⟨_, n.2, rfl, n.1⟩, h⟩
theorem g_aug {σ : L2.St} {H : Hp} {D : Ends} {i : Nat} {te : TE} {ti : TIp} {x : V} (h : σ[i]? = some (some x)) (k : te σ H fun y H1 => ti x y H1 fun z H2 => D.nx (σ.set i (some z)) H2) : tAug i te ti D σ H := ⟨x, h, k⟩
theorem tyT {K : PySem.W.Frag} {H : Hp} {a : Addr} {xs : List V} (h : SqT K H a xs) : TyX K H (.ref a) (.type "tuple") := by
  rcases h with (h | ⟨o, h⟩) | ⟨o, its, n, h, c, _⟩
  · exact .base (.tup h)
  · exact .fTuple h
  · exact .kTuple h c
theorem tyL {K : PySem.W.Frag} {H : Hp} {a : Addr} {xs : List V} (h : SqL K H a xs) : TyX K H (.ref a) (.type "list") ∨ ∃ o, K.lookup a = some o := by
  rcases h with (h | ⟨o, h⟩) | ⟨o, its, n, h, c, _⟩
  · exact .inl (.base (.lst h))
  · exact .inl (.base (.frz h))
  · exact .inr ⟨o, h⟩

theorem g_yes {σ : L2.St} {H : Hp} {Q : Bool → Hp → Prop} (k : Q true H) : tYes σ H Q := k
theorem g_sfld {σ : L2.St} {H : Hp} {D : Ends} {K : PySem.W.Frag} {ta te : TE} {f : Str} (k : te σ H fun y H1 => ta σ H1 fun x H2 => ∃ a C dx fs, x = .ref a ∧ H2 a = some (.ins C dx fs) ∧ Cls K C ∧ NoAttr K C f ∧
    fs.length < 1000 ∧ D.nx σ (upd H2 a (.ins C dx (putF f y fs)))) : sFld K ta te f D σ H := k
theorem g_int1 {a : Int} {A : Int → Prop} (k : A a) : ∃ i, [V.int a] = [V.int i] ∧ A i := ⟨a, rfl, k⟩
theorem g_int2 {a b : Int} {A : Int → Int → Prop} (k : A a b) : ∃ i j, [V.int a, V.int b] = [V.int i, V.int j] ∧ A i j := ⟨a, b, rfl, k⟩
theorem g_sub {σ : L2.St} {H : Hp} {Qs : L2.St → Hp → Prop} {to ti : TE} {t : TSet} {v : V} (k : to σ H fun o H1 => ti σ H1 fun i H2 => t o i v H2 fun H3 => Qs σ H3) : gSub to ti t v σ H Qs := k
theorem g_NT {A B : Prop} (h : B) : if (!true) = true then A else B := h
theorem g_NF {A B : Prop} (h : A) : if (!false) = true then A else B := h
end Gd

set_option Elab.async false
set_option linter.all false
set_option maxRecDepth 100000
set_option maxHeartbeats 4000000
/-! More readings. -/
namespace Gd
open PySem PySem.Spec PyProof.Rows L2
theorem g_forR {ta : TA} {g : TG} {tb : TS} {D : Ends} {σ : L2.St} {H : Hp} (k : ta σ H fun vs H1 => ∃ j : Int, vs = [.int j] ∧ -(2 ^ 62) ≤ j ∧ j < 2 ^ 62 ∧ ∃ W : Nat → Nat → L2.St → Hp → Prop, (∃ m, W 0 m σ H1) ∧ ∀ i m σ H, W i m σ H →
  ((Itr 0 j.toNat).stop i H ∧ D.nx σ H) ∨ ((Itr 0 j.toNat).go i H ∧ ∃ N : L2.St → Hp → Prop, (∀ σ' H', N σ' H' → ∃ m', m' < m ∧ W (i + 1) m' σ' H') ∧ ∀ x H', (Itr 0 j.toNat).yld i H x H' → g x σ H' fun σ2 H2 => tb { D with nx := N, ct := N, bk := D.nx } σ2 H2)) :
    tFor (iRng1 ta) g tb D σ H := k
theorem g_ifV {c : Bool} {ta tb : TE} {σ : L2.St} {H : Hp} {Q : VK} (v : V) (ha : c = true → ∀ Q' : VK, Q' v H → ta σ H Q') (hb : c = false → ∀ Q' : VK, Q' v H → tb σ H Q') (k : Q v H) : if c = true then ta σ H Q else tb σ H Q := by
  cases c with
  | true => exact ha rfl Q k
  | false => exact hb rfl Q k
theorem g_neS {x : Str} {H : Hp} {Q : VK} (k : Q (.bl false) H) : rNe (.str x) (.str x) H Q := ⟨rfl, by simpa using k⟩
theorem g_ixO {C : Addr} {sp : Sp} {E : L2.St → XK} {ta tb : TE} {σ : L2.St} {H : Hp} {Q : VK} (k : ta σ H fun x H1 => tb σ H1 fun y H2 => ∃ p dx fs, x = .ref p ∧ H2 p = some (.ins C dx fs) ∧ sp [x, y] H2 Q (E σ)) : tIxO C sp E ta tb σ H Q := k
/-- a place that is reached from more than one side -/
theorem g_cut {s1 s2 : TS} {D : Ends} {σ : L2.St} {H : Hp} (N : L2.St → Hp → Prop) (hN : ∀ σ' H', N σ' H' → s2 D σ' H') (k : (∀ σ' H', N σ' H' → s2 D σ' H') → s1 { D with nx := s2 D } σ H) : tSeq s1 s2 D σ H := k hN
theorem g_eqS {x : Str} {H : Hp} {Q : VK} (k : Q (.bl true) H) : rEq (.str x) (.str x) H Q := ⟨rfl, by simpa using k⟩
theorem g_par {i j : Nat} {ta : TA} {D : Ends} {σ : L2.St} {H : Hp} (k : ta σ H fun vs H1 => ∃ v w, vs = [v, w] ∧ D.nx ((σ.set i (some v)).set j (some w)) H1) : tPar i j ta D σ H := k
theorem g_make {C : Addr} {sp : Sp} {dvs : List V} {E : XK} {t : TA} {σ : L2.St} {H : Hp} {Q : VK} (k : t σ H fun vs H1 => ∀ x dx, H1 x = none → H1 dx = none → dx ≠ x →
  sp (.ref x :: (vs ++ dvs)) (upd (upd H1 dx (.own x)) x (.ins C dx [])) (fun v H2 => v = .non ∧ Q (.ref x) H2) E) : tMake C sp dvs E t σ H Q := k
end Gd

set_option Elab.async false
set_option linter.all false
set_option maxRecDepth 100000
set_option maxHeartbeats 4000000
/-! Readings by name, for the bodies of comprehensions. -/
namespace Gd
open PySem PySem.Spec PyProof.Rows L2
def rLenS (K : PySem.W.Frag) : List V → Hp → VK → Prop := fun xs H Q => ∃ p ys, xs = [.ref p] ∧ (SqL K H p ys ∨ SqT K H p ys) ∧ Q (.int (ys.length : Int)) H
def rListOf (K : PySem.W.Frag) : List V → Hp → VK → Prop := fun xs H Q => ∃ p ys, xs = [.ref p] ∧ (SqL K H p ys ∨ SqT K H p ys) ∧ ∀ l, H l = none → Q (.ref l) (upd H l (.lst ys))
def rTupOf (K : PySem.W.Frag) : List V → Hp → VK → Prop := fun xs H Q => ∃ p ys, xs = [.ref p] ∧ ((SqL K H p ys ∧ ∀ l, H l = none → Q (.ref l) (upd H l (.tup ys))) ∨ (SqT K H p ys ∧ Q (.ref p) H))
theorem call_lenS {X : Cx} : CallR X (.builtin "len") (rLenS X.K) := call_len_seq
theorem call_listS {X : Cx} : CallR X (.type "list") (rListOf X.K) := call_list_of
theorem call_tupS {X : Cx} : CallR X (.type "tuple") (rTupOf X.K) := call_tuple_of
end Gd

set_option Elab.async false
set_option linter.all false
set_option maxRecDepth 100000
set_option maxHeartbeats 4000000
/-! Heaps that grow; comprehensions told as maps. -/
namespace Q0

open PySem PySem.Spec PyProof.Rows L2 Gd
open LamX (ExtN)

local macro_rules | `(tactic| walk_at "rd1") => `(tactic| first | with_reducible refine g_ret ?_ | with_reducible refine g_retN ?_ | with_reducible refine g_seq ?_ | with_reducible refine g_next ?_ | with_reducible refine g_drop ?_ | with_reducible refine g_asg ?_ | with_reducible refine g_name ?_ | with_reducible refine g_ifs ?_ | with_reducible refine g_test ?_ | with_reducible refine g_tb ?_ | with_reducible refine g_and ?_ | with_reducible refine g_or ?_ | with_reducible refine g_not ?_ | with_reducible refine g_andV ?_ | with_reducible refine g_orV ?_ | with_reducible refine g_notV ?_ | with_reducible refine g_if ?_ | with_reducible refine g_op ?_ | with_reducible refine g_un ?_ | with_reducible refine g_cb ?_ | with_reducible refine g_nil ?_ | with_reducible refine g_cons ?_ | with_reducible refine g_call ?_ | with_reducible refine g_callS ?_ | with_reducible refine g_tup ?_ | with_reducible refine g_lst ?_ | with_reducible refine g_isN ?_ | with_reducible refine g_sl ?_ | with_reducible refine g_nopart ?_ | with_reducible refine g_part ?_ | with_reducible refine g_chain ?_ | with_reducible refine g_fld ?_ | with_reducible refine g_prop ?_ | with_reducible refine g_bm ?_ | with_reducible refine g_bm0 ?_ | with_reducible refine g_c ?_ | with_reducible refine g_sub ?_ | with_reducible refine g_int1 ?_ | with_reducible refine g_int2 ?_ | with_reducible refine g_yes ?_ | with_reducible refine g_sfld ?_ | with_reducible refine g_NT ?_ | with_reducible refine g_NF ?_ | with_reducible refine iteT ?_ | with_reducible refine iteF ?_ | ((with_reducible refine' g_aug ?hv ?_); (case hv => exact rfl)) | ((with_reducible refine' g_var ?hv ?_); (case hv => exact rfl)) | with_reducible refine g_I0 ?_ | with_reducible refine g_U ?_ | with_reducible refine g_eqI ?_ | with_reducible refine g_blV ?_ | with_reducible refine g_inV ?_)
local macro_rules | `(tactic| walk_at "rd") => `(tactic| repeat walk_at "rd1")

section
open PySem PySem.Spec PyProof.Rows L2 Gd
open LamX (ExtN)
def Ext (H H' : Hp) : Prop := ∀ b o, H b = some o → H' b = some o
theorem Ext.rfl' {H : Hp} : Ext H H := fun _ _ h => h
theorem Ext.new {H : Hp} {p : Addr} {o : HO} (h : H p = none) : Ext H (upd H p o) := fun b u e => by
  rw [upd_ne (ne_of_none e h)]
  exact e
theorem Ext.trans {H H1 H2 : Hp} (a : Ext H H1) (b : Ext H1 H2) : Ext H H2 := fun c o h => b c o (a c o h)
def ExtBut (p : Addr) (H H' : Hp) : Prop := ∀ b o, b ≠ p → H b = some o → H' b = some o
theorem ExtBut.trans {d : Addr} {H H1 H2 : Hp} (a : ExtBut d H H1) (b : ExtBut d H1 H2) : ExtBut d H H2 := fun x o n h => b x o n (a x o n h)
theorem ExtBut.of {d : Addr} {H H1 : Hp} (a : Ext H H1) : ExtBut d H H1 := fun x o _ h => a x o h
section
variable {K : PySem.W.Frag} {H H' : Hp} {a d : Addr} {xs ys : List V}
theorem sqT_ext (e : Ext H H') (h : SqT K H a xs) : SqT K H' a xs := by
  rcases h with (h | ⟨o, h⟩) | h
  · exact .inl (.inl (e _ _ h))
  · exact .inl (.inr ⟨o, e _ _ h⟩)
  · exact .inr h
theorem sqL_ext (e : Ext H H') (h : SqL K H a xs) : SqL K H' a xs := by
  rcases h with (h | ⟨o, h⟩) | h
  · exact .inl (.inl (e _ _ h))
  · exact .inl (.inr ⟨o, e _ _ h⟩)
  · exact .inr h
theorem sqT_but (e : ExtBut d H H') (n : a ≠ d) (h : SqT K H a xs) : SqT K H' a xs := by
  rcases h with (h | ⟨o, h⟩) | h
  · exact .inl (.inl (e _ _ n h))
  · exact .inl (.inr ⟨o, e _ _ n h⟩)
  · exact .inr h
theorem sqL_but (e : ExtBut d H H') (n : a ≠ d) (h : SqL K H a xs) : SqL K H' a xs := by
  rcases h with (h | ⟨o, h⟩) | h
  · exact .inl (.inl (e _ _ n h))
  · exact .inl (.inr ⟨o, e _ _ n h⟩)
  · exact .inr h
/-- a tuple beside a list that changes -/
theorem sqT_butL (hd : H d = some (.lst ys)) (e : ExtBut d H H') (h : SqT K H a xs) : SqT K H' a xs := by
  rcases h with (h | ⟨o, h⟩) | h
  · exact .inl (.inl (e _ _ (fun z => by rw [z, hd] at h; cases h) h))
  · exact .inl (.inr ⟨o, e _ _ (fun z => by rw [z, hd] at h; cases h) h⟩)
  · exact .inr h
theorem new_ne {o : HO} (h : H a = some o) (n : H d = none) : d ≠ a := fun z => by
  rw [z, h] at n
  cases n
theorem new_up (e : Ext H H') (h : H' d = none) : H d = none := by
  cases q : H d with
  | none => rfl
  | some o =>
    have := e _ _ q
    rw [h] at this
    cases this
theorem mapget {α : Type} {ns : List α} {f : α → V} {i : Nat} : (ns.map f)[i]? = (ns[i]?).map f := List.getElem?_map
end
/-! ### texts kept small: the frame's own K, and what comes behind a turn as a letter -/
theorem cx_nox (X : Cx) : X.nox.K = X.K := rfl
theorem cx_K {CX : CXT} {P : Program} {w : World} {K : PySem.W.Frag} {mg : Str → Option Value} {base : Heap} {N : List Str} {q : Str} {sc : Scope} {f : Addr} {cd : Value} {A : Around} {o : List Env} {s : Shared} {H : Hp} {E : XK} : (cxOf CX P w K mg base N q sc f cd A o s H E).K = K := rfl
theorem g_gen {tb : TS} {D : Ends} {σ : L2.St} {H : Hp} (h : ∀ D' : Ends, (∀ σ H, D.nx σ H → D'.nx σ H) → (∀ v H, D.rt v H → D'.rt v H) → tb D' σ H) : tb D σ H := h D (fun _ _ z => z) fun _ _ z => z
/-! ### comprehensions -/
section
variable {J : It} {n : Nat} {G : Hp → Prop} {Y : Nat → Hp → V → Hp → Prop} {g : TG} {tt : TT} {te : TE} {vs : List Nat} {σ : L2.St} {H1 : Hp} {D : Addr} {Qd : Hp → Prop}
/-- the indices that are taken -/
def idx (c : Nat → Bool) (n : Nat) : List Nat := (List.range n).filter c
theorem idx_succ (c : Nat → Bool) (n : Nat) : idx c (n + 1) = if c n then idx c n ++ [n] else idx c n := by
  unfold idx
  rw [List.range_succ, List.filter_append]
  cases h : c n <;> simp [h]
theorem idx_len (c : Nat → Bool) (n : Nat) : (idx c n).length ≤ n := by
  have := List.length_filter_le c (List.range n)
  rw [List.length_range] at this
  exact this
/-- results that stand in a relation to the turn -/
def Rel (R : Nat → V → Hp → Prop) (is : List Nat) (ys : List V) (H : Hp) : Prop := is.length = ys.length ∧ ∀ (j i : Nat) (y : V), is[j]? = some i → ys[j]? = some y → R i y H
/-- what a relation says stays where nothing but lists at one place change -/
def Mono (R : Nat → V → Hp → Prop) : Prop := ∀ i y D ys H H', (H D = none ∨ H D = some (.lst ys)) → ExtBut D H H' → R i y H → R i y H'
theorem Mono.ext {R : Nat → V → Hp → Prop} (mono : Mono R) {i : Nat} {y : V} {H H' : Hp} (e : Ext H H') (h : R i y H) (D : Addr) (ys : List V) (hd : H D = none ∨ H D = some (.lst ys)) : R i y H' := mono i y D ys H H' hd (ExtBut.of e) h
theorem Rel.ext {R : Nat → V → Hp → Prop} (mono : ∀ i y H H', Ext H H' → R i y H → R i y H') {is : List Nat} {ys : List V} {H H' : Hp} (e : Ext H H') (h : Rel R is ys H) : Rel R is ys H' := ⟨h.1, fun j i y a b => mono i y H H' e (h.2 j i y a b)⟩
theorem Rel.snoc {R : Nat → V → Hp → Prop} {is : List Nat} {ys : List V} {H : Hp} {i : Nat} {y : V} (h : Rel R is ys H) (hy : R i y H) : Rel R (is ++ [i]) (ys ++ [y]) H := by
  refine ⟨by rw [List.length_append, List.length_append, h.1]; rfl, fun j i' y' a b => ?_⟩
  by_cases hj : j < is.length
  · rw [List.getElem?_append_left hj] at a
    rw [List.getElem?_append_left (by rw [← h.1]; exact hj)] at b
    exact h.2 j i' y' a b
  · rw [List.getElem?_append_right (by omega)] at a
    rw [List.getElem?_append_right (by rw [← h.1]; omega), ← h.1] at b
    cases q : j - is.length with
    | zero =>
      rw [q] at a b
      cases a
      cases b
      exact hy
    | succ m =>
      rw [q] at a
      cases a
theorem lc_rel (w : Walk J n G Y) (R : Nat → V → Hp → Prop) (c : Nat → Bool) (mono : Mono R) (hD : H1 D = none) (hG : ∀ H', Ext H1 H' → G H') (sz : n < sizeLine)
    (body : ∀ i x H' H'', i < n → Ext H1 H' → Y i H' x H'' → ∀ (Qe : VK) (Qn : Hp → Prop), (∀ y H3, Ext H' H3 → R i y H3 → c i = true → Qe y H3) → (∀ H3, Ext H' H3 → c i = false → Qn H3) →
      g x (wipe σ vs) H'' fun σ2 H2 => wipe σ2 vs = wipe σ vs ∧ tt σ2 H2 fun b H3 => if b = true then te σ2 H3 Qe else Qn H3)
    (k : ∀ H' ys, Ext H1 H' → H' D = some (.lst ys) → Rel R (idx c n) ys H' → Qd H') :
    ∃ W : Nat → Nat → Hp → Prop, (∃ m, W 0 m (upd H1 D (.lst []))) ∧ ∀ i m H, W i m H →
      (J.stop i H ∧ Qd H) ∨ (J.go i H ∧ ∃ Nx : Hp → Prop, (∀ H', Nx H' → ∃ m', m' < m ∧ W (i + 1) m' H') ∧ ∀ x H', J.yld i H x H' → g x (wipe σ vs) H' fun σ2 H2 => wipe σ2 vs = wipe σ vs ∧ tt σ2 H2 fun b H3 =>
        if b = true then te σ2 H3 fun y H4 => ∃ acc, H4 D = some (.lst acc) ∧ acc.length < sizeLine ∧ Nx (upd H4 D (.lst (acc ++ [y]))) else Nx H3) := by
  refine lc_it w (fun i H' => ∃ ys, Ext H1 H' ∧ H' D = some (.lst ys) ∧ Rel R (idx c i) ys H') ⟨[], Ext.new hD, upd_same, rfl, fun j i y h => by cases h⟩ (fun i H' _ ⟨ys, e, _⟩ => hG H' e) ?_ ?_
  · rintro i x H' H'' hi ⟨ys, e, hd, hr⟩ hy
    have hys : ys.length < sizeLine := by
      have := idx_len c i
      have := hr.1
      omega
    refine body i x H' H'' hi e hy _ _ (fun y H3 e3 hR hc => ⟨ys, e3 _ _ hd, hys, ys ++ [y], ?_, upd_same, ?_⟩) (fun H3 e3 hc => ⟨ys, Ext.trans e e3, e3 _ _ hd, ?_⟩)
    · intro b o q
      rw [upd_ne (ne_of_none q hD)]
      exact e3 _ _ (e b o q)
    · rw [idx_succ, hc, if_pos rfl]
      have h3 : H3 D = some (.lst ys) := e3 _ _ hd
      have eB : ExtBut D H3 (upd H3 D (.lst (ys ++ [y]))) := fun b o n q => by
        rw [upd_ne n]
        exact q
      refine Rel.snoc ⟨hr.1, fun j i' y' a b => ?_⟩ (mono _ _ D ys _ _ (.inr h3) eB hR)
      exact mono _ _ D ys _ _ (.inr h3) eB (mono _ _ D ys _ _ (.inr hd) (ExtBut.of e3) (hr.2 j i' y' a b))
    · rw [idx_succ, hc, if_neg (by decide)]
      exact ⟨hr.1, fun j i' y' a b => mono _ _ D ys _ _ (.inr hd) (ExtBut.of e3) (hr.2 j i' y' a b)⟩
  · rintro H' ⟨ys, e, hd, hr⟩
    exact k H' ys e hd hr
theorem mono_fun (f : Nat → V) : Mono (fun i y _ => y = f i) := fun _ _ _ _ _ _ _ _ h => h
theorem rel_fun {f : Nat → V} {is : List Nat} {ys : List V} {H : Hp} (h : Rel (fun i y _ => y = f i) is ys H) : ys = is.map f := by
  refine List.ext_getElem? fun j => ?_
  rw [List.getElem?_map]
  cases a : is[j]? with
  | none =>
    have := List.getElem?_eq_none_iff.mp a
    rw [h.1] at this
    rw [List.getElem?_eq_none_iff.mpr this]
    rfl
  | some i =>
    have hj := (List.getElem?_eq_some_iff.mp a).1
    rw [h.1] at hj
    rw [List.getElem?_eq_getElem hj]
    exact congrArg some (h.2 j i _ a (List.getElem?_eq_getElem hj))
theorem idx_all (n : Nat) : idx (fun _ => true) n = List.range n := by
  unfold idx
  simp
/-- over the items of a list: taken ones, changed -/
theorem idx_items' {α β : Type} (xs : List α) (z : α) (c : α → Bool) (f : α → β) : (idx (fun i => c (xs.getD i z)) xs.length).map (fun i => f (xs.getD i z)) = (xs.filter c).map f := by
  unfold idx
  induction xs with
  | nil => rfl
  | cons x r ih =>
    rw [List.length_cons, List.range_succ_eq_map, List.filter_cons, List.filter_cons]
    have e1 : ((x :: r).getD 0 z) = x := rfl
    rw [e1]
    have e2 : (List.filter (fun i => c ((x :: r).getD i z)) (List.map Nat.succ (List.range r.length))) = (List.filter (fun i => c (r.getD i z)) (List.range r.length)).map Nat.succ := by
      rw [List.filter_map]
      rfl
    rw [e2]
    have e3 : List.map (fun i => f ((x :: r).getD i z)) (List.map Nat.succ (List.filter (fun i => c (r.getD i z)) (List.range r.length))) = (r.filter c).map f := by
      rw [List.map_map, ← ih]
      rfl
    split
    · rw [List.map_cons, List.map_cons, e3]
      rfl
    · exact e3
theorem idx_items (xs : List V) (c : V → Bool) (f : V → V) : (idx (fun i => c (xs.getD i .non)) xs.length).map (fun i => f (xs.getD i .non)) = (xs.filter c).map f := idx_items' xs .non c f
section
variable {K : PySem.W.Frag} {Q : VK}
/-- what a comprehension over J asks, told of its turns -/
def LcG (J : It) (g : TG) (tt : TT) (te : TE) (vs : List Nat) (σ : L2.St) (H1 : Hp) (Q : VK) : Prop := ∀ D, H1 D = none → ∃ W : Nat → Nat → Hp → Prop, (∃ m, W 0 m (upd H1 D (.lst []))) ∧ ∀ i m H, W i m H →
      (J.stop i H ∧ Q (.ref D) H) ∨ (J.go i H ∧ ∃ Nx : Hp → Prop, (∀ H', Nx H' → ∃ m', m' < m ∧ W (i + 1) m' H') ∧ ∀ x H', J.yld i H x H' → g x (wipe σ vs) H' fun σ2 H2 => wipe σ2 vs = wipe σ vs ∧ tt σ2 H2 fun b H3 =>
        if b = true then te σ2 H3 fun y H4 => ∃ acc, H4 D = some (.lst acc) ∧ acc.length < sizeLine ∧ Nx (upd H4 D (.lst (acc ++ [y]))) else Nx H3)
theorem lcT {a : Addr} {xs : List V} (hs : SqT K H1 a xs) (sz : xs.length < sizeLine) (c : V → Bool) (f : V → V)
    (body : ∀ x H', x ∈ xs → Ext H1 H' → ∀ (Qe : VK) (Qn : Hp → Prop), (∀ H3, Ext H' H3 → c x = true → Qe (f x) H3) → (∀ H3, Ext H' H3 → c x = false → Qn H3) →
      g x (wipe σ vs) H' fun σ2 H2 => wipe σ2 vs = wipe σ vs ∧ tt σ2 H2 fun b H3 => if b = true then te σ2 H3 Qe else Qn H3)
    (k : ∀ H' D, Ext H1 H' → H1 D = none → H' D = some (.lst ((xs.filter c).map f)) → Q (.ref D) H') :
    ∃ a', V.ref a = .ref a' ∧ (∃ xs, SqT K H1 a' xs) ∧ LcG (Itt K a') g tt te vs σ H1 Q := by
  refine ⟨a, rfl, ⟨_, hs⟩, fun D hD => lc_rel walk_tup (fun i y _ => y = f (xs.getD i .non)) (fun i => c (xs.getD i .non)) (mono_fun fun i => f (xs.getD i .non)) hD (fun H' e => sqT_ext e hs) sz (fun i x H' H'' hi e hy Qe Qn he hn => ?_) (fun H' ys e hd hr => ?_)⟩
  · obtain ⟨rfl, hx⟩ := hy
    have ex : xs.getD i .non = x := by rw [List.getD_eq_getElem?_getD, hx]; rfl
    refine body x _ (List.mem_of_getElem? hx) e Qe Qn (fun H3 e3 hc => he _ H3 e3 (by rw [ex]) (by rw [ex]; exact hc)) (fun H3 e3 hc => hn H3 e3 (by rw [ex]; exact hc))
  · have := rel_fun hr
    rw [idx_items] at this
    rw [this] at hd
    exact k H' D e hD hd
theorem lcL {a : Addr} {xs : List V} (hs : SqL K H1 a xs) (sz : xs.length < sizeLine) (c : V → Bool) (f : V → V)
    (body : ∀ x H', x ∈ xs → Ext H1 H' → ∀ (Qe : VK) (Qn : Hp → Prop), (∀ H3, Ext H' H3 → c x = true → Qe (f x) H3) → (∀ H3, Ext H' H3 → c x = false → Qn H3) →
      g x (wipe σ vs) H' fun σ2 H2 => wipe σ2 vs = wipe σ vs ∧ tt σ2 H2 fun b H3 => if b = true then te σ2 H3 Qe else Qn H3)
    (k : ∀ H' D, Ext H1 H' → H1 D = none → H' D = some (.lst ((xs.filter c).map f)) → Q (.ref D) H') :
    ∃ a', V.ref a = .ref a' ∧ (∃ xs, SqL K H1 a' xs) ∧ LcG (Itl K a') g tt te vs σ H1 Q := by
  refine ⟨a, rfl, ⟨_, hs⟩, fun D hD => lc_rel walk_list (fun i y _ => y = f (xs.getD i .non)) (fun i => c (xs.getD i .non)) (mono_fun fun i => f (xs.getD i .non)) hD (fun H' e => sqL_ext e hs) sz (fun i x H' H'' hi e hy Qe Qn he hn => ?_) (fun H' ys e hd hr => ?_)⟩
  · obtain ⟨rfl, hx⟩ := hy
    have ex : xs.getD i .non = x := by rw [List.getD_eq_getElem?_getD, hx]; rfl
    refine body x _ (List.mem_of_getElem? hx) e Qe Qn (fun H3 e3 hc => he _ H3 e3 (by rw [ex]) (by rw [ex]; exact hc)) (fun H3 e3 hc => hn H3 e3 (by rw [ex]; exact hc))
  · have := rel_fun hr
    rw [idx_items] at this
    rw [this] at hd
    exact k H' D e hD hd
/-- over a range: the turn's number is lo + i -/
theorem lcR {lo : Int} {n : Nat} (sz : n < sizeLine) (c : Nat → Bool) (f : Nat → V)
    (body : ∀ (i : Nat) H', i < n → Ext H1 H' → ∀ (Qe : VK) (Qn : Hp → Prop), (∀ H3, Ext H' H3 → c i = true → Qe (f i) H3) → (∀ H3, Ext H' H3 → c i = false → Qn H3) →
      g (.int (lo + i)) (wipe σ vs) H' fun σ2 H2 => wipe σ2 vs = wipe σ vs ∧ tt σ2 H2 fun b H3 => if b = true then te σ2 H3 Qe else Qn H3)
    (k : ∀ H' D, Ext H1 H' → H1 D = none → H' D = some (.lst ((idx c n).map f)) → Q (.ref D) H') : LcG (Itr lo n) g tt te vs σ H1 Q := by
  refine fun D hD => lc_rel walk_range (fun i y _ => y = f i) c (mono_fun f) hD (fun H' e => True.intro) sz (fun i x H' H'' hi e hy Qe Qn he hn => ?_) (fun H' ys e hd hr => ?_)
  · obtain ⟨rfl, rfl⟩ := hy
    exact body i _ hi e Qe Qn (fun H3 e3 hc => he _ H3 e3 rfl hc) hn
  · rw [rel_fun hr] at hd
    exact k H' D e hD hd
theorem lcRC {lo st : Int} {n : Nat} (sz : n < sizeLine) (c : Nat → Bool) (f : Nat → V)
    (body : ∀ (i : Nat) H', i < n → Ext H1 H' → ∀ (Qe : VK) (Qn : Hp → Prop), (∀ H3, Ext H' H3 → c i = true → Qe (f i) H3) → (∀ H3, Ext H' H3 → c i = false → Qn H3) →
      g (.int (lo + (i : Nat) * st)) (wipe σ vs) H' fun σ2 H2 => wipe σ2 vs = wipe σ vs ∧ tt σ2 H2 fun b H3 => if b = true then te σ2 H3 Qe else Qn H3)
    (k : ∀ H' D, Ext H1 H' → H1 D = none → H' D = some (.lst ((idx c n).map f)) → Q (.ref D) H') : LcG (Itc lo st n) g tt te vs σ H1 Q := by
  refine fun D hD => lc_rel walk_rangeC (fun i y _ => y = f i) c (mono_fun f) hD (fun H' e => True.intro) sz (fun i x H' H'' hi e hy Qe Qn he hn => ?_) (fun H' ys e hd hr => ?_)
  · obtain ⟨rfl, rfl⟩ := hy
    exact body i _ hi e Qe Qn (fun H3 e3 hc => he _ H3 e3 rfl hc) hn
  · rw [rel_fun hr] at hd
    exact k H' D e hD hd
/-! pairs -/
theorem walk_enumT {a : Addr} {xs : List V} : Walk (IteT K a) xs.length (fun H => SqT K H a xs) (YPair (fun i => some (.int (i : Nat))) (fun i => xs[i]?)) := by
  refine ⟨fun i _ hi q => ⟨xs, xs[i], q, by simp [hi]⟩, fun _ q => ⟨xs, q, rfl⟩, fun i H v H' _ q y => ?_⟩
  obtain ⟨T, x, h1, h2, h3, h4⟩ := y
  exact ⟨T, .int (i : Nat), x, h1, h2, h3, rfl, h4 xs q⟩
theorem sqE_ext {l : Bool} {H H' : Hp} {a : Addr} {xs : List V} (e : Ext H H') (h : SqE K l H a xs) : SqE K l H' a xs := by
  cases l with
  | true => exact sqL_ext e h
  | false => exact sqT_ext e h
theorem walk_zipE {l1 l2 : Bool} {a b : Addr} {xs ys : List V} : Walk (ItzE K l1 l2 a b) (min xs.length ys.length) (fun H => SqE K l1 H a xs ∧ SqE K l2 H b ys) (YPair (fun i => xs[i]?) (fun i => ys[i]?)) := by
  refine ⟨fun i _ hi q => ?_, fun _ q => ⟨xs, ys, q.1, q.2, rfl⟩, fun i H v H' _ q y => ?_⟩
  · have h1 : i < xs.length := by omega
    have h2 : i < ys.length := by omega
    exact ⟨xs, ys, xs[i], ys[i], q.1, q.2, by simp [h1], by simp [h2]⟩
  · obtain ⟨T, x, z, h1, h2, h3, h4, h5⟩ := y
    exact ⟨T, x, z, h1, h2, h3, h4 xs q.1, h5 ys q.2⟩
/-- a walk that gives pairs, into two names -/
theorem lcP {J : It} {n : Nat} {G : Hp → Prop} {px py : Nat → Option V} {i1 i2 : Nat} (w : Walk J n G (YPair px py)) (hG : ∀ H', Ext H1 H' → G H') (sz : n < sizeLine) (c : Nat → Bool) (f : Nat → V)
    (body : ∀ (i : Nat) x y H', i < n → px i = some x → py i = some y → Ext H1 H' → ∀ (Qe : VK) (Qn : Hp → Prop), (∀ H3, Ext H' H3 → c i = true → Qe (f i) H3) → (∀ H3, Ext H' H3 → c i = false → Qn H3) →
      wipe (((wipe σ vs).set i1 (some x)).set i2 (some y)) vs = wipe σ vs ∧ tt (((wipe σ vs).set i1 (some x)).set i2 (some y)) H' fun b H3 => if b = true then te (((wipe σ vs).set i1 (some x)).set i2 (some y)) H3 Qe else Qn H3)
    (k : ∀ H' D, Ext H1 H' → H1 D = none → H' D = some (.lst ((idx c n).map f)) → Q (.ref D) H') : LcG J (gTup K 2 (gCons (gName i1) (gCons (gName i2) gNil))) tt te vs σ H1 Q := by
  refine fun D hD => lc_rel w (fun i y _ => y = f i) c (mono_fun f) hD hG sz (fun i x H' H'' hi e hy Qe Qn he hn => ?_) (fun H' ys e hd hr => ?_)
  · obtain ⟨T, x, y, rfl, hT, rfl, hx, hy⟩ := hy
    have eT := Ext.new (o := HO.tup [x, y]) hT
    refine ⟨T, _, rfl, SqT.of upd_same, rfl, _, _, rfl, ?_⟩
    refine ⟨_, _, rfl, rfl, ?_⟩
    exact body i x y _ hi hx hy (Ext.trans e eT) Qe Qn (fun H3 e3 hc => he _ H3 (Ext.trans eT e3) rfl hc) (fun H3 e3 hc => hn H3 (Ext.trans eT e3) hc)
  · rw [rel_fun hr] at hd
    exact k H' D e hD hd
theorem zip_items (xs ys : List V) (c : V → V → Bool) (f : V → V → V) : (idx (fun i => c (xs.getD i .non) (ys.getD i .non)) (min xs.length ys.length)).map (fun i => f (xs.getD i .non) (ys.getD i .non)) = ((xs.zip ys).filter fun p => c p.1 p.2).map fun p => f p.1 p.2 := by
  have e := idx_items' (xs.zip ys) (V.non, V.non) (fun p => c p.1 p.2) (fun p => f p.1 p.2)
  rw [List.length_zip] at e
  rw [← e]
  unfold idx
  have hz : ∀ i, i < min xs.length ys.length → (xs.zip ys).getD i (V.non, V.non) = (xs.getD i .non, ys.getD i .non) := fun i hi => by
    have h1 : i < xs.length := by omega
    have h2 : i < ys.length := by omega
    have hl : i < (xs.zip ys).length := by rw [List.length_zip]; exact hi
    rw [List.getD_eq_getElem?_getD, List.getElem?_eq_getElem hl, List.getElem_zip, List.getD_eq_getElem?_getD, List.getElem?_eq_getElem h1, List.getD_eq_getElem?_getD, List.getElem?_eq_getElem h2]
    rfl
  have hf : (List.range (min xs.length ys.length)).filter (fun i => c (xs.getD i .non) (ys.getD i .non)) = (List.range (min xs.length ys.length)).filter (fun i => c ((xs.zip ys).getD i (V.non, V.non)).1 ((xs.zip ys).getD i (V.non, V.non)).2) := by
    refine List.filter_congr fun i hi => ?_
    rw [hz i (List.mem_range.mp hi)]
  rw [hf]
  refine List.map_congr_left fun i hi => ?_
  rw [hz i (List.mem_range.mp (List.mem_filter.mp hi).1)]
/-- over zip(a, b) -/
theorem lcZ {l1 l2 : Bool} {a b : Addr} {xs ys : List V} {i1 i2 : Nat} (ha : SqE K l1 H1 a xs) (hb : SqE K l2 H1 b ys) (sz : min xs.length ys.length < sizeLine) (c : V → V → Bool) (f : V → V → V)
    (body : ∀ x y H', (x, y) ∈ xs.zip ys → Ext H1 H' → ∀ (Qe : VK) (Qn : Hp → Prop), (∀ H3, Ext H' H3 → c x y = true → Qe (f x y) H3) → (∀ H3, Ext H' H3 → c x y = false → Qn H3) →
      wipe (((wipe σ vs).set i1 (some x)).set i2 (some y)) vs = wipe σ vs ∧ tt (((wipe σ vs).set i1 (some x)).set i2 (some y)) H' fun b H3 => if b = true then te (((wipe σ vs).set i1 (some x)).set i2 (some y)) H3 Qe else Qn H3)
    (k : ∀ H' D, Ext H1 H' → H1 D = none → H' D = some (.lst (((xs.zip ys).filter fun p => c p.1 p.2).map fun p => f p.1 p.2)) → Q (.ref D) H') :
    ∃ k1 k2 a' b' xs ys, [V.ref a, V.ref b] = [V.ref a', V.ref b'] ∧ SqE K k1 H1 a' xs ∧ SqE K k2 H1 b' ys ∧ LcG (ItzE K k1 k2 a' b') (gTup K 2 (gCons (gName i1) (gCons (gName i2) gNil))) tt te vs σ H1 Q := by
  refine ⟨l1, l2, a, b, xs, ys, rfl, ha, hb, lcP walk_zipE (fun H' e => ⟨sqE_ext e ha, sqE_ext e hb⟩) sz (fun i => c (xs.getD i .non) (ys.getD i .non)) (fun i => f (xs.getD i .non) (ys.getD i .non)) (fun i x y H' hi hx hy e Qe Qn he hn => ?_) (fun H' D e hD hd => ?_)⟩
  · have ex : xs.getD i .non = x := by rw [List.getD_eq_getElem?_getD, hx]; rfl
    have ey : ys.getD i .non = y := by rw [List.getD_eq_getElem?_getD, hy]; rfl
    have mem : (x, y) ∈ xs.zip ys := List.mem_of_getElem? (i := i) (by rw [List.getElem?_zip_eq_some]; exact ⟨hx, hy⟩)
    refine body x y _ mem e Qe Qn (fun H3 e3 hc => ?_) (fun H3 e3 hc => hn H3 e3 (by rw [ex, ey]; exact hc))
    have := he H3 e3 (by rw [ex, ey]; exact hc)
    rw [ex, ey] at this
    exact this
  · rw [zip_items] at hd
    exact k H' D e hD hd
/-- over enumerate(a) -/
theorem lcE {a : Addr} {xs : List V} {i1 i2 : Nat} (ha : SqT K H1 a xs) (sz : xs.length < sizeLine) (c : Nat → V → Bool) (f : Nat → V → V)
    (body : ∀ (i : Nat) x H', xs[i]? = some x → Ext H1 H' → ∀ (Qe : VK) (Qn : Hp → Prop), (∀ H3, Ext H' H3 → c i x = true → Qe (f i x) H3) → (∀ H3, Ext H' H3 → c i x = false → Qn H3) →
      wipe (((wipe σ vs).set i1 (some (.int (i : Nat)))).set i2 (some x)) vs = wipe σ vs ∧ tt (((wipe σ vs).set i1 (some (.int (i : Nat)))).set i2 (some x)) H' fun b H3 => if b = true then te (((wipe σ vs).set i1 (some (.int (i : Nat)))).set i2 (some x)) H3 Qe else Qn H3)
    (k : ∀ H' D, Ext H1 H' → H1 D = none → H' D = some (.lst ((idx (fun i => c i (xs.getD i .non)) xs.length).map fun i => f i (xs.getD i .non))) → Q (.ref D) H') :
    ∃ t xs, [V.ref a] = [V.ref t] ∧ SqT K H1 t xs ∧ LcG (IteT K t) (gTup K 2 (gCons (gName i1) (gCons (gName i2) gNil))) tt te vs σ H1 Q := by
  refine ⟨a, xs, rfl, ha, lcP walk_enumT (fun H' e => sqT_ext e ha) sz (fun i => c i (xs.getD i .non)) (fun i => f i (xs.getD i .non)) (fun i x y H' hi hx hy e Qe Qn he hn => ?_) k⟩
  cases hx
  have ey : xs.getD i .non = y := by rw [List.getD_eq_getElem?_getD, hy]; rfl
  refine body i y _ hy e Qe Qn (fun H3 e3 hc => ?_) (fun H3 e3 hc => hn H3 e3 (by rw [ey]; exact hc))
  have := he H3 e3 (by rw [ey]; exact hc)
  rw [ey] at this
  exact this
end
end
end

/-! Defs and methods, their places hidden. -/

section
open PySem PySem.Spec PyProof.Rows L2 Gd
structure Def1 (P : Program) (w : World) (K : PySem.W.Frag) (mg : Str → Option Value) (base : Heap) (CX : CXT) (k : Nat) (name : Str) (ps : List Str) (sp : Sp) : Prop where
  ex : ∃ (f : Addr) (fd : FuncData), mg name = some (.ref f) ∧ PySem.W.keepIn K (.ref f) = true ∧ FnOk P w K mg base CX k f fd ps sp ∧ Binds K fd ps []
structure Bin1 (P : Program) (w : World) (K : PySem.W.Frag) (mg : Str → Option Value) (base : Heap) (CX : CXT) (k : Nat) (C : Addr) (m r : Str) (sp : Sp) : Prop where
  ex : ∃ (f : Addr) (fd : FuncData), BinC K C m r f ∧ FnOk P w K mg base CX k f fd ["self", "other"] sp ∧ Binds K fd ["self", "other"] []
structure Met1 (P : Program) (w : World) (K : PySem.W.Frag) (mg : Str → Option Value) (base : Heap) (CX : CXT) (k : Nat) (C : Addr) (m : Str) (ps : List Str) (sp : Sp) : Prop where
  ex : ∃ (f : Addr) (fd : FuncData), Meth K C m f ∧ PySem.W.fnIn K f = true ∧ FnOk P w K mg base CX k f fd ps sp ∧ Binds K fd ps []
structure Pro1 (P : Program) (w : World) (K : PySem.W.Frag) (mg : Str → Option Value) (base : Heap) (k : Nat) (C : Addr) (x : Str) (sp : Sp) : Prop where
  ex : ∃ (p f : Addr) (fd : FuncData), PropOf K C x p f ∧ FnOk P w K mg base CX0 k f fd ["self"] sp ∧ Binds K fd ["self"] []
structure Ini1 (P : Program) (w : World) (K : PySem.W.Frag) (mg : Str → Option Value) (base : Heap) (CX : CXT) (k : Nat) (C t0 : Addr) (ps : List Str) (sp : Sp) : Prop where
  ex : ∃ (f : Addr) (fd : FuncData) (ds : List Value), Mk K C f ∧ FnOk P w K mg base CX k f fd ps sp ∧ Binds K fd ps [] ∧ Vals [V.ref t0] ds ∧ Binds K fd ps ds
abbrev X0 : XK := fun _ _ _ => False
section
variable {X : Cx} {CX : CXT} {C t0 : Addr} {k j : Nat} {x m r : Str} {ps : List Str} {sp : Sp} {e a : Expr} {es : List Expr} {t : TA} {ta tb : TE} {p pos apos : Pos}
theorem pe_def (D : Def1 X.prog X.w X.K X.mg X.base CX0 k x ps sp) (hr : Room j X.A) (hj : k ≤ j) (hgl : Gl X x) (ha : PA X (e :: es) t) (hdb : (x == ("__debug__" : Str)) = false := by decide)
    (he : starEach (e :: es) X.env = (false, eval e X.env) :: starEach es X.env := by rfl) (hpl : (backTo pos (starEach es X.env)).any (·.1) = false := by rfl) : PE X (.Call (.Name x p) (e :: es) [] pos) (tCall sp [] X0 t) := by
  obtain ⟨f, fd, hm, hk, F, hb⟩ := D.ex
  exact pe_call F (hr.mono hj) hgl hm hk hb .nil pass0 ha hdb he hpl
theorem pe_defX {E : XK} (D : Def1 X.prog X.w X.K X.mg X.base CX k x ps sp) (hx : Passes CX X E) (hr : Room j X.A) (hj : k ≤ j) (hgl : Gl X x) (ha : PA X (e :: es) t) (hdb : (x == ("__debug__" : Str)) = false := by decide)
    (he : starEach (e :: es) X.env = (false, eval e X.env) :: starEach es X.env := by rfl) (hpl : (backTo pos (starEach es X.env)).any (·.1) = false := by rfl) : PE X (.Call (.Name x p) (e :: es) [] pos) (tCall sp [] E t) := by
  obtain ⟨f, fd, hm, hk, F, hb⟩ := D.ex
  exact pe_call F (hr.mono hj) hgl hm hk hb .nil hx ha hdb he hpl
theorem op_add1 {E : XK} (D : Bin1 X.prog X.w X.K X.mg X.base CX k C "__add__" "__radd__" sp) (hx : ∀ σ, PassesAt CX X σ E) (hr : Room j X.A) (hj : k + 1 ≤ j) : OpR X (binaryOp .Add) (rBinO C sp E) := by
  obtain ⟨f, fd, B, F, hb⟩ := D.ex
  exact op_addO B F (hr.mono hj) hb hx
theorem op_eq1 (D : Met1 X.prog X.w X.K X.mg X.base CX0 k C "__eq__" ["self", "other"] sp) (hr : Room j X.A) (hj : k + 1 ≤ j) : OpR X (compareOp .Eq) (rCmpO X.K C sp X0) := by
  obtain ⟨f, fd, M, _, F, hb⟩ := D.ex
  exact op_eqO M F (hr.mono hj) hb (fun _ => quiet0)
theorem op_lt1 (D : Met1 X.prog X.w X.K X.mg X.base CX0 k C "__lt__" ["self", "other"] sp) (hr : Room j X.A) (hj : k + 1 ≤ j) : OpR X (compareOp .Lt) (rCmpO X.K C sp X0) := by
  obtain ⟨f, fd, M, _, F, hb⟩ := D.ex
  exact op_ltO M F (hr.mono hj) hb (fun _ => quiet0)
theorem op_ne1 (hn : NeC X.K C) (D : Met1 X.prog X.w X.K X.mg X.base CX0 k C "__eq__" ["self", "other"] sp) (hr : Room j X.A) (hj : k + 1 ≤ j) : OpR X (compareOp .NotEq) (rNeO X.K C sp X0) := by
  obtain ⟨f, fd, M, _, F, hb⟩ := D.ex
  exact op_neO hn M F (hr.mono hj) hb (fun _ => quiet0)
theorem pe_pro1 (c : Cls X.K C) (D : Pro1 X.prog X.w X.K X.mg X.base k C x sp) (hr : Room j X.A) (hj : k + 1 ≤ j) (ha : PE X e ta) (hab : attributeBase e x X.env (eval e X.env) = eval e X.env := by rfl) : PE X (.Attribute e x pos) (tProp C sp [] X0 ta) := by
  obtain ⟨p, f, fd, hp, F, hb⟩ := D.ex
  exact pe_prop ha c hp F (hr.mono hj) hb .nil pass0 hab
theorem pe_mk1 {E : XK} (D : Ini1 X.prog X.w X.K X.mg X.base CX k C t0 ps sp) (hx : Passes CX X E) (hr : Room j X.A) (hj : k + 1 ≤ j) (hgl : Gl X x) (hm : X.mg x = some (.ref C)) (ha : PA X (e :: es) t) (hdb : (x == ("__debug__" : Str)) = false := by decide)
    (he : starEach (e :: es) X.env = (false, eval e X.env) :: starEach es X.env := by rfl) (hpl : (backTo pos (starEach es X.env)).any (·.1) = false := by rfl) : PE X (.Call (.Name x p) (e :: es) [] pos) (tMake C sp [] E t) := by
  obtain ⟨f, fd, ds, M, F, hb, _, _⟩ := D.ex
  exact pe_make M F (hr.mono hj) hgl hm hb .nil hx ha hdb he hpl
theorem pe_mk0 {E : XK} (D : Ini1 X.prog X.w X.K X.mg X.base CX k C t0 ps sp) (hx : Passes CX X E) (hr : Room j X.A) (hj : k + 1 ≤ j) (hgl : Gl X x) (hm : X.mg x = some (.ref C)) (hdb : (x == ("__debug__" : Str)) = false := by decide) : PE X (.Call (.Name x p) [] [] pos) (tMake C sp [.ref t0] E tNil) := by
  obtain ⟨f, fd, ds, M, F, _, hv, hb⟩ := D.ex
  exact pe_make0 M F (hr.mono hj) hgl hm hb hv hx hdb
theorem pe_it1 (D : Met1 X.prog X.w X.K X.mg X.base CX k C "__getitem__" ["self", "index"] sp) {E : L2.St → XK} (hx : ∀ σ, PassesAt CX X σ (E σ)) (hr : Room j X.A) (hj : k + 1 ≤ j) (ha : PE X e ta) (hb : PE X a tb)
    (hs : ∀ v u : Value, subscripted a true v u = runValue (.builtin "lifetime.subscript" ⟨[v, u], []⟩) := by intro _ _; with_unfolding_all rfl) : PE X (.Subscript e a pos) (tIxO C sp E ta tb) := by
  obtain ⟨f, fd, M, hfn, F, hB⟩ := D.ex
  exact pe_ixO M hfn F (hr.mono hj) hB hx ha hb hs
theorem pe_me1 {o : Expr} {pl : Sem Bool} {E : XK} (c : Cls X.K C) (D : Met1 X.prog X.w X.K X.mg X.base CX k C m ps sp) (hx : Passes CX X E) (hr : Room j X.A) (hj : k ≤ j) (ho : PE X o ta) (ha : PA X (e :: es) t)
    (ht : eval (.Call (.Attribute o m apos) (e :: es) [] pos) X.env = (do
      let ov ← eval o X.env
      standAt apos.atName
      let (f, first) ← holding [ov] (getMethod ov m pl)
      callWith pos f first (backTo pos (starEach (e :: es) X.env)) (backToKw pos (keywordEach [] X.env))) := by rfl)
    (hst : starEach (e :: es) X.env = (false, eval e X.env) :: starEach es X.env := by rfl) (hpl : (backTo pos (starEach es X.env)).any (·.1) = false := by rfl) :
    PE X (.Call (.Attribute o m apos) (e :: es) [] pos) (tMeth C m sp [] E ta t) := by
  obtain ⟨f, fd, M, _, F, hb⟩ := D.ex
  exact pe_meth ho c M F (hr.mono hj) hb .nil hx ha hst hpl ht
theorem g_lc {wi : TI} {g : TG} {tt : TT} {te : TE} {vs : List Nat} {σ : L2.St} {H : Hp} {Q : VK} (k : wi σ H fun J H1 => LcG J g tt te vs σ H1 Q) : tLc wi g tt te vs σ H Q := k
theorem g_rng1 {ta : TA} {σ : L2.St} {H : Hp} {R : It → Hp → Prop} (k : ta σ H fun vs H1 => ∃ j : Int, vs = [.int j] ∧ -(2 ^ 62) ≤ j ∧ j < 2 ^ 62 ∧ R (Itr 0 j.toNat) H1) : iRng1 ta σ H R := k
theorem g_rng2 {ta : TA} {σ : L2.St} {H : Hp} {R : It → Hp → Prop} (k : ta σ H fun vs H1 => ∃ i j : Int, vs = [.int i, .int j] ∧ (-(2 ^ 62) ≤ i ∧ i < 2 ^ 62 ∧ -(2 ^ 62) ≤ j ∧ j < 2 ^ 62) ∧ R (Itr i (j - i).toNat) H1) : iRng2 ta σ H R := k
theorem g_itup {K : PySem.W.Frag} {te : TE} {σ : L2.St} {H : Hp} {R : It → Hp → Prop} (k : te σ H fun x H1 => ∃ a, x = .ref a ∧ (∃ xs, SqT K H1 a xs) ∧ R (Itt K a) H1) : iTup K te σ H R := k
theorem g_ilist {K : PySem.W.Frag} {te : TE} {σ : L2.St} {H : Hp} {R : It → Hp → Prop} (k : te σ H fun x H1 => ∃ a, x = .ref a ∧ (∃ xs, SqL K H1 a xs) ∧ R (Itl K a) H1) : iList K te σ H R := k
/-- a reading given two ways -/
theorem CallR.or {f : Value} {r1 r2 : List V → Hp → VK → Prop} (h1 : CallR X f r1) (h2 : CallR X f r2) : CallR X f (fun vs H Q => r1 vs H Q ∨ r2 vs H Q) := by
  intro pins s σ H vs us Q I r h
  rcases h with h | h
  · exact h1 pins s σ H vs us Q I r h
  · exact h2 pins s σ H vs us Q I r h
def rSumS (K : PySem.W.Frag) : List V → Hp → VK → Prop := fun vs H Q => ∃ (a : Addr) (ns : List Int), vs = [V.ref a] ∧ (SqL K H a (ns.map V.int) ∨ SqT K H a (ns.map V.int)) ∧ Q (.int ns.sum) H
theorem call_sumS (hc : X.calm = true) : CallR X (.builtin "sum") (rSumS X.K) := by
  intro pins s σ H vs us Q I r h
  obtain ⟨a, ns, e, h | h, k⟩ := h
  · exact cr_sum hc pins s σ H vs us Q I r ⟨a, ns, e, h, k⟩
  · exact cr_sumT hc pins s σ H vs us Q I r ⟨a, ns, e, h, k⟩
end
end

/-! The text by places; integers; dice. -/

section
open PySem PySem.Spec PyProof.Rows L2 Gd
open LamX (ExtN)
def top (i : Nat) : Stmt := PySem.Challenge.pw_primekinds_k08_whole_kinds_in_order.main.body.getD i (.Pass ⟨0, 0, 0, 0⟩)
abbrev sWhole : Stmt := top 11
abbrev sInteger : Stmt := top 12
abbrev sIndex : Stmt := top 15
def cls (j : Nat) : Stmt := inClass (top 29) j
abbrev sDice : Stmt := top 35
abbrev sRoll : Stmt := top 36
abbrev sPick : Stmt := top 37
/-- what is known of the module's names -/
structure Txt (K : PySem.W.Frag) (mg : Str → Option Value) : Prop where
  isinstance : mg "isinstance" = none
  int : mg "int" = none
  bool : mg "bool" = none
  str : mg "str" = none
  tuple : mg "tuple" = none
  list : mg "list" = none
  dict : mg "dict" = none
  len : mg "len" = none
  all : mg "all" = none
  any : mg "any" = none
  sum : mg "sum" = none
  iter : mg "iter" = none
  max : mg "max" = none
  min : mg "min" = none
  abs : mg "abs" = none
  range : mg "range" = none
  repr : mg "repr" = none
  sorted : mg "sorted" = none
  enumerate : mg "enumerate" = none
  zip : mg "zip" = none
  bound : ∃ t, mg "BOUND" = some (.int (10 ^ 60) t)
section
variable {P : Program} {w : World} {K : PySem.W.Frag} {mg : Str → Option Value} {base : Heap} {f : Addr} {fd : FuncData}
theorem dec_l {p q : Prop} [Decidable p] [Decidable q] (h : p) : decide (p ∧ q) = decide q := by simp [h]
theorem dec_n {p q : Prop} [Decidable p] [Decidable q] (h : ¬ p) : decide (p ∧ q) = false := by simp [h]
/-! ### is_whole -/
/-- whether a value is an integer other than True and False -/
def WholeB (K : PySem.W.Frag) (H : Hp) (x : V) (b : Bool) : Prop := ∃ t b1 b2, TyX K H x t ∧ PySem.W.kitOne K t (.type "int") = some b1 ∧
  PySem.W.kitOne K t (.type "bool") = some b2 ∧ b = (b1 && !b2)
theorem whole_int {H : Hp} {i : Int} : WholeB K H (.int i) true := ⟨_, true, false, .base (.int i), by kernel_rfl, by kernel_rfl, rfl⟩
theorem whole_bl {H : Hp} {b : Bool} : WholeB K H (.bl b) false := ⟨_, true, true, .base (.bl b), by kernel_rfl, by kernel_rfl, rfl⟩
theorem whole_non {H : Hp} : WholeB K H .non false := ⟨_, false, false, .base .non, by kernel_rfl, by kernel_rfl, rfl⟩
theorem whole_str {H : Hp} {x : Str} : WholeB K H (.str x) false := ⟨_, false, false, .base (.str x), by kernel_rfl, by kernel_rfl, rfl⟩
theorem whole_tup {H : Hp} {a : Addr} {xs : List V} (h : H a = some (.tup xs)) : WholeB K H (.ref a) false := ⟨_, false, false, .base (.tup h), by kernel_rfl, by kernel_rfl, rfl⟩
def spWhole (K : PySem.W.Frag) : Sp := fun vs H Q _ => ∃ x b, vs = [x] ∧ WholeB K H x b ∧ Q (.bl b) H
theorem scWhole : FnScope ["value"] ["value"] (defScope sWhole) := ⟨rfl, rfl, rfl, by decide +kernel, rfl, by decide +kernel, by decide +kernel⟩
theorem ok_whole {f : Addr} {fd : FuncData} (F : Fun K "is_whole" "is_whole" sWhole f fd) (T : Txt K mg) : FnOk P w K mg base CX0 1 f fd ["value"] (spWhole K) := by
  refine F.ok scWhole (fun vs H Q E h => ?_) (fun cdv A outer s H vs Q E hr h => ?_)
  · obtain ⟨x, b, rfl, _⟩ := h
    rfl
  · obtain ⟨x, b, rfl, ⟨t, b1, b2, ty, k1, k2, rfl⟩, k⟩ := h
    refine ⟨_, pss_one (ps_ret (pe_and (pe_callB call_isi (by rfl) T.isinstance (by decide +kernel) (pa_cons (pv 0) (pa_cons (pe_bltn (v := .ty "int") (by rfl) T.int (by decide +kernel) rfl) pa_nil)))
      (pe_one (pe_not (pe_callB call_isi (by rfl) T.isinstance (by decide +kernel) (pa_cons (pv 0) (pa_cons (pe_bltn (v := .ty "bool") (by rfl) T.bool (by decide +kernel) rfl) pa_nil))))))), ?_⟩
    walk_at "rd"
    refine ⟨_, _, _, _, _, rfl, .ty _, ty, k1, ?_⟩
    walk_at "rd"
    refine ite2 (fun h1 => ?_) (fun h1 => ?_)
    · walk_at "rd"
      refine ⟨_, _, _, _, _, rfl, .ty _, ty, k2, ?_⟩
      walk_at "rd"
      rw [h1] at k
      exact k
    · rw [Bool.not_eq_true] at h1
      rw [h1] at k
      exact k

/-! ### is_integer -/
def IntB (K : PySem.W.Frag) (H : Hp) (x : V) (b : Bool) : Prop := (∃ i : Int, x = .int i ∧ b = decide (-(10 ^ 60) < i ∧ i < 10 ^ 60)) ∨ (WholeB K H x false ∧ b = false)
def spInteger (K : PySem.W.Frag) : Sp := fun vs H Q _ => ∃ x b, vs = [x] ∧ IntB K H x b ∧ Q (.bl b) H
theorem scInteger : FnScope ["value"] ["value"] (defScope sInteger) := ⟨rfl, rfl, rfl, by decide +kernel, rfl, by decide +kernel, by decide +kernel⟩
/-- where is_whole stands -/
structure AtW (K : PySem.W.Frag) (mg : Str → Option Value) (f : Addr) (fd : FuncData) : Prop where
  F : Fun K "is_whole" "is_whole" sWhole f fd
  b : Binds K fd ["value"] []
  g : mg "is_whole" = some (.ref f)
theorem ok_integer {f fW : Addr} {fd fdW : FuncData} (F : Fun K "is_integer" "is_integer" sInteger f fd) (T : Txt K mg) (W : AtW K mg fW fdW) : FnOk P w K mg base CX0 2 f fd ["value"] (spInteger K) := by
  have GW : FnOk P w K mg base CX0 1 fW fdW ["value"] (spWhole K) := ok_whole W.F T
  obtain ⟨tB, gB⟩ := T.bound
  refine F.ok scInteger (fun vs H Q E h => ?_) (fun cdv A outer s H vs Q E hr h => ?_)
  · obtain ⟨x, b, rfl, _⟩ := h
    rfl
  · obtain ⟨x, b, rfl, hx, k⟩ := h
    refine ⟨_, pss_one (ps_ret (pe_and (pe_call GW hr (by rfl) W.g W.F.kp W.b .nil pass0 (pa_cons (pv 0) pa_nil))
      (pe_one (pe_chain op_lt op_lt (pe_un un_neg (pe_glob (v := .int (10 ^ 60)) (by rfl) gB ⟨_, rfl⟩)) (pv 0) (pe_glob (v := .int (10 ^ 60)) (by rfl) gB ⟨_, rfl⟩))))), ?_⟩
    walk_at "rd"
    rcases hx with ⟨i, rfl, rfl⟩ | ⟨hx, rfl⟩
    · refine ⟨_, true, rfl, whole_int, ?_⟩
      walk_at "rd"
      try refine iteT ?_
      walk_at "rd"
      refine ite2 (fun h1 => ?_) (fun h1 => ?_)
      · walk_at "rd"
        have e : decide (-(10 ^ 60) < i ∧ i < 10 ^ 60) = decide (i < 10 ^ 60) := dec_l (of_decide_eq_true h1)
        rw [e] at k
        exact k
      · have h2 : ¬ (-(10 ^ 60) : Int) < i := fun z => h1 (decide_eq_true z)
        have e : decide (-(10 ^ 60) < i ∧ i < 10 ^ 60) = false := dec_n h2
        rw [e] at k
        exact k
    · refine ⟨_, false, rfl, hx, ?_⟩
      walk_at "rd"
      first | exact k | exact iteF k

/-! ### require_index -/
def IndexOk (K : PySem.W.Frag) (H : Hp) (x : V) (b : Bool) : Prop := (∃ i : Int, x = .int i ∧ b = decide (0 ≤ i ∧ i < 10 ^ 60)) ∨ (WholeB K H x false ∧ b = false)
def spIndex (K : PySem.W.Frag) (C : Addr) : Sp := fun vs H Q E => ∃ x b, vs = [x] ∧ IndexOk K H x b ∧ (b = true → Q .non H) ∧
  (b = false → ∀ d, H d = none → E (.ref C) (some d) (upd H d (.xd [(("value" : Str), x)])))
structure AtI (K : PySem.W.Frag) (mg : Str → Option Value) (f : Addr) (fd : FuncData) : Prop where
  F : Fun K "is_integer" "is_integer" sInteger f fd
  b : Binds K fd ["value"] []
  g : mg "is_integer" = some (.ref f)
theorem scIndex : FnScope ["value"] ["value"] (defScope sIndex) := ⟨rfl, rfl, rfl, by decide +kernel, rfl, by decide +kernel, by decide +kernel⟩
theorem ok_index {f fW fI C fC : Addr} {fd fdW fdI : FuncData} (F : Fun K "require_index" "require_index" sIndex f fd) (T : Txt K mg) (W : AtW K mg fW fdW) (I : AtI K mg fI fdI) (N : PySem.XInvalidNumber.InvalidNumberTxt K mg C fC) :
    FnOk P w K mg base (L2.CX P w) 4 f fd ["value"] (spIndex K C) := by
  have GI : FnOk P w K mg base CX0 2 fI fdI ["value"] (spInteger K) := ok_integer I.F T W
  refine F.okX scIndex (fun vs H Q E h => ?_) (fun cdv A outer s H vs Q E hr h => ?_)
  · obtain ⟨x, b, rfl, _⟩ := h
    rfl
  · obtain ⟨x, b, rfl, hx, k1, k2⟩ := h
    refine ⟨_, pss_one (ps_if (PW.pt (pw_or (pt_not (pt_val (pe_call GI (hr.mono (by decide)) (by rfl) I.g I.F.kp I.b .nil pass0 (pa_cons (pv 0) pa_nil)))) (pw_or1 (pt_cmpR op_lt (pv 0) pe_int (nomark _)))))
      (pss_one (ps_raiseInvalidNumber rfl N hr (takes_of rfl rfl rfl rfl) (by exact (pa_cons (pv 0) pa_nil)))) pss_nil), ?_⟩
    walk_at "rd"
    rcases hx with ⟨i, rfl, rfl⟩ | ⟨hx, rfl⟩
    · refine ⟨_, _, rfl, .inl ⟨i, rfl, rfl⟩, ?_⟩
      walk_at "rd"
      by_cases h1 : -(10 ^ 60) < i ∧ i < 10 ^ 60
      · rw [decide_eq_true h1]
        try refine iteF ?_
        walk_at "rd"
        by_cases h2 : i < 0
        · rw [decide_eq_true h2]
          try refine iteT ?_
          refine ⟨_, rfl, _, rfl, ?_⟩
          exact k2 (decide_eq_false (by omega))
        · rw [decide_eq_false h2]
          try refine iteF ?_
          exact k1 (decide_eq_true (by omega))
      · rw [decide_eq_false h1]
        iterate 2 (try refine iteT ?_)
        refine ⟨_, rfl, _, rfl, ?_⟩
        exact k2 (decide_eq_false (by omega))
    · refine ⟨_, _, rfl, .inr ⟨hx, rfl⟩, ?_⟩
      walk_at "rd"
      iterate 2 (try refine iteT ?_)
      refine ⟨_, rfl, _, rfl, ?_⟩
      exact k2 rfl
abbrev sIsWithin : Stmt := top 13
/-- whether a value is an integer from lo to hi (the bounds have at most sixty digits) -/
def WithB (K : PySem.W.Frag) (H : Hp) (x : V) (lo hi : Int) (b : Bool) : Prop := (∃ i : Int, x = .int i ∧ b = decide (lo ≤ i ∧ i ≤ hi)) ∨ (WholeB K H x false ∧ b = false)
def spIsWithin (K : PySem.W.Frag) : Sp := fun vs H Q _ => ∃ (x : V) (lo hi : Int) (b : Bool), vs = [x, .int lo, .int hi] ∧ -(10 ^ 60) < lo ∧ hi < 10 ^ 60 ∧ WithB K H x lo hi b ∧ Q (.bl b) H
theorem scIsWithin : FnScope ["value", "low", "high"] ["value", "low", "high"] (defScope sIsWithin) := ⟨rfl, rfl, rfl, by decide +kernel, rfl, by decide +kernel, by decide +kernel⟩
theorem ok_isWithin {fW fI : Addr} {fdW fdI : FuncData} (F : Fun K "is_within" "is_within" sIsWithin f fd) (T : Txt K mg) (W : AtW K mg fW fdW) (I : AtI K mg fI fdI) : FnOk P w K mg base CX0 3 f fd ["value", "low", "high"] (spIsWithin K) := by
  have GI : FnOk P w K mg base CX0 2 fI fdI ["value"] (spInteger K) := ok_integer I.F T W
  refine F.ok scIsWithin (fun vs H Q E h => ?_) (fun cdv A outer s H vs Q E hr h => ?_)
  · obtain ⟨x, lo, hi, b, rfl, _⟩ := h
    rfl
  · obtain ⟨x, lo, hi, b, rfl, hlo, hhi, hx, k⟩ := h
    refine ⟨_, pss_one (ps_ret (pe_and (pe_call GI hr (by rfl) I.g I.F.kp I.b .nil pass0 (pa_cons (pv 0) pa_nil))
      (pe_one (pe_chain op_le op_le (pv 1) (pv 0) (pv 2))))), ?_⟩
    walk_at "rd"
    rcases hx with ⟨i, rfl, rfl⟩ | ⟨hx, rfl⟩
    · refine ⟨_, _, rfl, .inl ⟨i, rfl, rfl⟩, ?_⟩
      walk_at "rd"
      refine ite2 (fun h0 => ?_) (fun h0 => ?_)
      · walk_at "rd"
        refine ite2 (fun h1 => ?_) (fun h1 => ?_)
        · walk_at "rd"
          have e : decide (lo ≤ i ∧ i ≤ hi) = decide (i ≤ hi) := dec_l (of_decide_eq_true h1)
          rw [e] at k
          exact k
        · have h2 : ¬ lo ≤ i := fun z => h1 (decide_eq_true z)
          have e : decide (lo ≤ i ∧ i ≤ hi) = false := dec_n h2
          rw [e] at k
          exact k
      · have h2 : ¬ (-(10 ^ 60) < i ∧ i < 10 ^ 60) := fun z => h0 (decide_eq_true z)
        have e : decide (lo ≤ i ∧ i ≤ hi) = false := decide_eq_false (by omega)
        rw [e] at k
        exact k
    · refine ⟨_, _, rfl, .inr ⟨hx, rfl⟩, ?_⟩
      walk_at "rd"
      first | exact k | exact iteF k
/-- the dice at d -/
def DiceAt (H : Hp) (d : Addr) : Prop := ∃ a b c : Int, H d = some (.lst [.int a, .int b, .int c]) ∧ 0 ≤ a ∧ a < 10 ^ 120 ∧ 0 ≤ b ∧ b < 2 ^ 80 ∧ 0 ≤ c
theorem fmod_lo {a n : Int} (h : 0 < n) : 0 ≤ a.fmod n := by
  rw [Int.fmod_eq_emod_of_nonneg _ (Int.le_of_lt h)]
  exact Int.emod_nonneg _ (Int.ne_of_gt h)
theorem fmod_hi {a n : Int} (h : 0 < n) : a.fmod n < n := by
  rw [Int.fmod_eq_emod_of_nonneg _ (Int.le_of_lt h)]
  exact Int.emod_lt_of_pos _ h
theorem g_fmod {H : Hp} {Q : VK} {a n : Int} (hn : 0 < n) (k : ∀ r, 0 ≤ r → r < n → Q (.int r) H) : rI (fun _ j => j ≠ 0) (fun i j => .int (i.fmod j)) (.int a) (.int n) H Q :=
  ⟨a, n, rfl, rfl, Int.ne_of_gt hn, k _ (fmod_lo hn) (fmod_hi hn)⟩
def spDice (K : PySem.W.Frag) : Sp := fun vs H Q _ => ∃ (a : Addr) (ns : List Int) (i : Nat), vs = [.ref a, .int (i : Int)] ∧ SqL K H a (ns.map V.int) ∧ i ≤ 63 ∧
  ∀ H' d, Ext H H' → H d = none → DiceAt H' d → Q (.ref d) H'
theorem scDice : FnScope ["_law_script", "_law_spot", "_law_cell", "_law_left"] ["_law_script", "_law_spot"] (defScope sDice) := ⟨rfl, rfl, rfl, by decide +kernel, rfl, by decide +kernel, by decide +kernel⟩
theorem ok_dice (F : Fun K "_law_dice" "_law_dice" sDice f fd) (T : Txt K mg) : FnOk P w K mg base CX0 1 f fd ["_law_script", "_law_spot"] (spDice K) := by
  refine F.ok scDice (fun vs H Q E h => ?_) (fun cdv A outer s H vs Q E hr h => ?_)
  · obtain ⟨a, ns, i, rfl, _⟩ := h
    rfl
  · obtain ⟨a, ns, i, rfl, hs, hi, k⟩ := h
    refine ⟨_, pss_cons (ps_set (i := 2) scDice.nd rfl (Or.inl rfl) (pe_ifExp (pt_cmpR op_lt (pv 1) (pe_callB call_len_seq (by rfl) T.len PySem.boot_len (pa_cons (pv 0) pa_nil)) (nomark _))
          (pe_callTy call_int1 (by rfl) T.int (by decide +kernel) (pa_cons (pe_ix ix_list (pv 0) (pv 1) (fun _ _ => rfl)) pa_nil)) (pe_op op_add (pe_op op_mul pe_int (pv 1)) pe_int)))
      (pss_cons (ps_set (i := 3) scDice.nd rfl (Or.inl rfl) (pe_op op_modN (pe_callB (call_max2 rfl) (by rfl) T.max (by decide +kernel) (pa_cons pe_int (pa_cons (pe_op op_sub (pe_callB call_abs (by rfl) T.abs (by decide +kernel) (pa_cons (pv 2) pa_nil)) (pe_op op_pow pe_int pe_int)) pa_nil)))
          (pe_op op_mulW (pe_op op_pow pe_int pe_int) (pe_op op_pow pe_int pe_int))))
        (pss_one (ps_ret (pe_lst (pa_cons (pv 3) (pa_cons (pe_op op_add (pe_op op_add (pe_op op_add (pe_op op_mul (pe_op op_modN (pe_callB call_abs (by rfl) T.abs (by decide +kernel) (pa_cons (pv 2) pa_nil)) pe_int) pe_int) (pe_op op_mul pe_int (pv 1)))
          (pe_op op_mul pe_int (pe_callTy call_int1 (by rfl) T.int (by decide +kernel) (pa_cons (pe_cmpR op_lt (pv 2) pe_int (nomark _)) pa_nil)))) pe_int) (pa_cons pe_int pa_nil))))))), ?_⟩
    walk_at "rd"
    refine ⟨a, _, rfl, .inl hs, ?_⟩
    walk_at "rd"
    refine ite2 (fun h1 => ?_) (fun h1 => ?_)
    have h2 := of_decide_eq_true h1
    rw [List.length_map] at h2
    have hlt : i < ns.length := by omega
    walk_at "rd"
    refine g_ixL hs (v := .int ns[i]) (atI_nat (by rw [mapget, List.getElem?_eq_getElem hlt]; rfl)) ?_
    walk_at "rd"
    refine .inl ⟨_, rfl, ?_⟩
    generalize ns[i] = c
    walk_at "rd"
    rotate_left
    walk_at "rd"
    refine g_I (.inr ⟨by omega, by omega⟩) ?_
    walk_at "rd"
    generalize (83 * (i : Int) + 61) = c
    walk_at "rd"
    all_goals
      refine g_I ⟨by decide, by decide, by decide⟩ ?_
      walk_at "rd"
      refine g_I ⟨by decide, by decide, by decide⟩ ?_
      walk_at "rd"
      refine g_I ⟨by decide, by decide, by decide⟩ ?_
      walk_at "rd"
      refine g_I (wide_mul (a := 200) (b := 200) (by decide +kernel) (by decide +kernel) (by decide) (by decide) (by decide)) ?_
      walk_at "rd"
      refine g_fmod (by decide +kernel) (fun l l0 l1 => ?_)
      walk_at "rd"
      refine g_fmod (by decide +kernel) (fun r r0 r1 => ?_)
      walk_at "rd"
      refine g_I (.inr ⟨by decide, by decide⟩) ?_
      walk_at "rd"
      refine g_I (.inl ⟨by decide, by decide⟩) ?_
      walk_at "rd"
      refine .inr ⟨_, rfl, ?_⟩
      refine g_I (.inl ⟨by decide, by decide⟩) ?_
      walk_at "rd"
      refine ⟨by show 3 ≤ sizeLine; decide, fun d hd => ?_⟩
      have l1' : l < 10 ^ 120 := Int.lt_of_lt_of_le l1 (by decide +kernel)
      refine k _ d (Ext.new hd) hd ⟨l, _, 0, upd_same, l0, l1', ?_, ?_, Int.le_refl _⟩
      · split <;> omega
      · split <;> omega

/-! ### a roll -/
def spRoll : Sp := fun vs H Q _ => ∃ (d : Addr) (n : Int), vs = [.ref d, .int n] ∧ DiceAt H d ∧ 0 < n ∧ n < 2 ^ 1000 ∧
  ∀ H' r, ExtBut d H H' → DiceAt H' d → 0 ≤ r → r < n → Q (.int r) H'
theorem scRoll : FnScope ["_law_dice_here", "_law_total", "_law_found", "_law_one", "_law_two"] ["_law_dice_here", "_law_total"] (defScope sRoll) := ⟨rfl, rfl, rfl, by decide +kernel, rfl, by decide +kernel, by decide +kernel⟩
theorem ok_roll (F : Fun K "_law_roll" "_law_roll" sRoll f fd) (T : Txt K mg) : FnOk P w K mg base CX0 1 f fd ["_law_dice_here", "_law_total"] spRoll := by
  refine F.ok scRoll (fun vs H Q E h => ?_) (fun cdv A outer s H vs Q E hr h => ?_)
  · obtain ⟨d, n, rfl, _⟩ := h
    rfl
  · obtain ⟨d, n, rfl, ⟨a, b, c, hd, a0, a1, b0, b1, c0⟩, n0, n1, k⟩ := h
    refine ⟨_, pss_cons (ps_if (pt_cmpR op_gt (pe_ix ix_list (pv 0) pe_int (fun _ _ => rfl)) pe_int (nomark _))
        (pss_cons (ps_set (i := 2) scRoll.nd rfl (Or.inl rfl) (pe_op op_modN (pe_callTy call_int1 (by rfl) T.int (by decide +kernel) (pa_cons (pe_ix ix_list (pv 0) pe_int (fun _ _ => rfl)) pa_nil)) (pv 1)))
          (pss_cons (ps_asg (pe_op op_fdivW (pe_ix ix_list (pv 0) pe_int (fun _ _ => rfl)) (pv 1)) (pg_sub (pv 0) pe_int set_list)) (pss_one (ps_ret (pv 2))))) pss_nil)
      (pss_cons (ps_asg (pe_op op_add (pe_ix ix_list (pv 0) pe_int (fun _ _ => rfl)) pe_int) (pg_sub (pv 0) pe_int set_list))
        (pss_cons (ps_set (i := 3) scRoll.nd rfl (Or.inl rfl) (pe_op op_modN (pe_callTy call_int1 (by rfl) T.int (by decide +kernel) (pa_cons (pe_op op_add (pe_ix ix_list (pv 0) pe_int (fun _ _ => rfl)) (pe_op op_mul pe_int (pe_ix ix_list (pv 0) pe_int (fun _ _ => rfl)))) pa_nil)) pe_int))
          (pss_cons (ps_set (i := 4) scRoll.nd rfl (Or.inl rfl) (pe_op op_add (pe_op op_mul (pe_op op_modN (pe_callTy call_int1 (by rfl) T.int (by decide +kernel)
              (pa_cons (pe_op op_add (pe_op op_mul (pv 3) (pv 3)) (pe_op op_mul pe_int (pe_ix ix_list (pv 0) pe_int (fun _ _ => rfl)))) pa_nil)) pe_int) pe_int) (pv 3)))
            (pss_one (ps_ret (pe_op op_modN (pe_callTy call_int1 (by rfl) T.int (by decide +kernel) (pa_cons (pe_op op_fdiv (pv 4) pe_int) pa_nil)) (pv 1))))))), ?_⟩
    walk_at "rd"
    refine g_ixL (SqL.of hd) (v := .int a) rfl ?_
    walk_at "rd"
    refine ite2 (fun h1 => ?_) (fun h1 => ?_)
    · walk_at "rd"
      refine g_ixL (SqL.of hd) (v := .int a) rfl ?_
      walk_at "rd"
      refine .inl ⟨_, rfl, ?_⟩
      walk_at "rd"
      refine g_fmod n0 (fun r r0 r1 => ?_)
      walk_at "rd"
      refine g_ixL (SqL.of hd) (v := .int a) rfl ?_
      walk_at "rd"
      refine g_I (wide_div (b := 1000) n0 (by omega) (by decide) (by decide)) ?_
      walk_at "rd"
      refine ⟨d, _, _, 0, rfl, rfl, hd, rfl, ?_⟩
      walk_at "rd"
      refine k _ r (fun x o hx q => by rw [upd_ne hx]; exact q) ⟨a / n, b, c, upd_same, Int.ediv_nonneg a0 (Int.le_of_lt n0), Int.lt_of_le_of_lt (Int.ediv_le_self _ a0) a1, b0, b1, c0⟩ r0 r1
    · walk_at "rd"
      refine g_ixL (SqL.of hd) (v := .int c) rfl ?_
      walk_at "rd"
      refine ⟨d, _, _, 2, rfl, rfl, hd, rfl, ?_⟩
      walk_at "rd"
      have hd2 : upd H d (.lst (List.set [V.int a, V.int b, V.int c] 2 (V.int (c + 1)))) d = some (.lst [.int a, .int b, .int (c + 1)]) := upd_same
      generalize hH2 : upd H d (.lst (List.set [V.int a, V.int b, V.int c] 2 (V.int (c + 1)))) = H2 at hd2 ⊢
      have e2 : ExtBut d H H2 := fun x o hx q => by rw [← hH2, upd_ne hx]; exact q
      refine g_ixL (SqL.of hd2) (v := .int b) rfl ?_
      walk_at "rd"
      refine g_ixL (SqL.of hd2) (v := .int (c + 1)) rfl ?_
      refine g_I (.inl ⟨by decide, by decide⟩) ?_
      walk_at "rd"
      refine .inl ⟨_, rfl, ?_⟩
      walk_at "rd"
      refine g_fmod (by decide) (fun r r0 r1 => ?_)
      walk_at "rd"
      refine g_I (.inl ⟨by omega, by omega⟩) ?_
      walk_at "rd"
      refine g_ixL (SqL.of hd2) (v := .int (c + 1)) rfl ?_
      refine g_I (.inl ⟨by decide, by decide⟩) ?_
      walk_at "rd"
      refine .inl ⟨_, rfl, ?_⟩
      walk_at "rd"
      refine g_fmod (by decide) (fun t t0 t1 => ?_)
      walk_at "rd"
      refine g_I (.inr ⟨by decide, by decide⟩) ?_
      walk_at "rd"
      refine g_I ⟨by decide, by decide⟩ ?_
      walk_at "rd"
      refine .inl ⟨_, rfl, ?_⟩
      walk_at "rd"
      refine g_fmod n0 (fun z z0 z1 => ?_)
      exact k _ z e2 ⟨a, b, c + 1, hd2, a0, a1, b0, b1, by omega⟩ z0 z1
theorem dice_none {H : Hp} {d l : Addr} (h : DiceAt H d) (e : H l = none) : l ≠ d := by
  obtain ⟨a, b, c, h, _⟩ := h
  intro z
  subst z
  rw [e] at h
  cases h
theorem dice_ne {H : Hp} {d l : Addr} {o : HO} (h : DiceAt H d) (e : H l = some o) (n : ∀ xs, o ≠ .lst xs) : l ≠ d := by
  obtain ⟨a, b, c, h, _⟩ := h
  intro z
  subst z
  rw [e] at h
  cases h
  exact n _ rfl
structure AtR (K : PySem.W.Frag) (mg : Str → Option Value) (f : Addr) (fd : FuncData) : Prop where
  F : Fun K "_law_roll" "_law_roll" sRoll f fd
  b : Binds K fd ["_law_dice_here", "_law_total"] []
  g : mg "_law_roll" = some (.ref f)
theorem DiceAt.ext {d : Addr} {H H1 : Hp} (e : Ext H H1) (h : DiceAt H d) : DiceAt H1 d := by
  obtain ⟨a, b, c, h, r⟩ := h
  exact ⟨a, b, c, e _ _ h, r⟩
/-! ### pick -/
def spPick (K : PySem.W.Frag) : Sp := fun vs H Q _ => ∃ (d l : Addr) (xs : List V), vs = [.ref d, .ref l] ∧ DiceAt H d ∧ SqL K H l xs ∧ l ≠ d ∧ 0 < xs.length ∧ xs.length ≤ 5000 ∧
  ∀ H' x, ExtBut d H H' → DiceAt H' d → x ∈ xs → Q x H'
theorem scPick : FnScope ["_law_dice_here", "_law_items"] ["_law_dice_here", "_law_items"] (defScope sPick) := ⟨rfl, rfl, rfl, by decide +kernel, rfl, by decide +kernel, by decide +kernel⟩
theorem ok_pick {fR : Addr} {fdR : FuncData} (F : Fun K "_law_pick" "_law_pick" sPick f fd) (T : Txt K mg) (R : AtR K mg fR fdR) : FnOk P w K mg base CX0 2 f fd ["_law_dice_here", "_law_items"] (spPick K) := by
  have GR : FnOk P w K mg base CX0 1 fR fdR ["_law_dice_here", "_law_total"] spRoll := ok_roll R.F T
  refine F.ok scPick (fun vs H Q E h => ?_) (fun cdv A outer s H vs Q E hr h => ?_)
  · obtain ⟨d, l, xs, rfl, _⟩ := h
    rfl
  · obtain ⟨d, l, xs, rfl, hd, hl, ne, l0, l1, k⟩ := h
    refine ⟨_, pss_one (ps_ret (pe_ix ix_list (pv 1) (pe_call GR hr (by rfl) R.g R.F.kp R.b .nil pass0 (pa_cons (pv 0) (pa_cons (pe_callB call_len_seq (by rfl) T.len PySem.boot_len (pa_cons (pv 1) pa_nil)) pa_nil))) (fun _ _ => rfl))), ?_⟩
    walk_at "rd"
    refine ⟨l, xs, rfl, .inl hl, ?_⟩
    walk_at "rd"
    refine ⟨d, _, rfl, hd, by omega, by omega, ?_⟩
    intro H' r e hd' r0 r1
    have hlt : r.toNat < xs.length := by omega
    have er : r = (r.toNat : Int) := by omega
    rw [er]
    exact g_ixL (sqL_but e ne hl) (atI_nat (List.getElem?_eq_getElem hlt)) (k _ _ e hd' (List.getElem_mem hlt))
end
end

/-! Falling rows: what they are; is_falling. -/

section
open PySem PySem.Spec PyProof.Rows L2 Gd
theorem getI {ns : List Int} {i : Nat} (h : i < ns.length) : (ns.map V.int)[i]? = some (.int (ns.getD i 0)) := by
  rw [mapget, List.getElem?_eq_getElem h, List.getD_eq_getElem?_getD, List.getElem?_eq_getElem h]
  rfl
theorem getDI {ns : List Int} {i : Nat} (h : i < ns.length) : (ns.map V.int).getD i .non = .int (ns.getD i 0) := by
  rw [List.getD_eq_getElem?_getD, getI h]
  rfl
theorem getD_big {ns : List Int} {i : Nat} (h : ¬ i < ns.length) : ns.getD i 0 = 0 := by
  rw [List.getD_eq_getElem?_getD, List.getElem?_eq_none (by omega)]
  rfl
structure Fall (ns : List Int) : Prop where
  pos : ∀ x ∈ ns, 1 ≤ x
  sum : ns.sum ≤ 12
  desc : ∀ i : Nat, i + 1 < ns.length → ns.getD (i + 1) 0 ≤ ns.getD i 0
theorem sum_len : ∀ {ns : List Int}, (∀ x ∈ ns, 1 ≤ x) → (ns.length : Int) ≤ ns.sum
  | [], _ => by simp
  | x :: r, h => by
    have h1 := h x List.mem_cons_self
    have h2 := sum_len (ns := r) fun y hy => h y (List.mem_cons_of_mem _ hy)
    rw [List.sum_cons, List.length_cons]
    omega
theorem mem_sum : ∀ {ns : List Int}, (∀ x ∈ ns, 1 ≤ x) → ∀ x ∈ ns, x ≤ ns.sum
  | [], _, x, hx => by cases hx
  | y :: r, h, x, hx => by
    have h1 := h y List.mem_cons_self
    have hr : ∀ z ∈ r, 1 ≤ z := fun z hz => h z (List.mem_cons_of_mem _ hz)
    have h2 := sum_len hr
    rw [List.sum_cons]
    rcases List.mem_cons.mp hx with e | e
    · subst e
      omega
    · have := mem_sum hr x e
      omega
theorem Fall.len {ns : List Int} (h : Fall ns) : ns.length ≤ 12 := by
  have := sum_len h.pos
  have := h.sum
  omega
theorem Fall.le {ns : List Int} (h : Fall ns) : ∀ x ∈ ns, x ≤ 12 := fun x hx => by
  have := mem_sum h.pos x hx
  have := h.sum
  omega
theorem Fall.sum0 {ns : List Int} (h : Fall ns) : 0 ≤ ns.sum := by
  have := sum_len h.pos
  omega
theorem Fall.at {ns : List Int} (h : Fall ns) (i : Nat) : 0 ≤ ns.getD i 0 ∧ ns.getD i 0 ≤ 12 := by
  by_cases hi : i < ns.length
  · rw [List.getD_eq_getElem?_getD, List.getElem?_eq_getElem hi]
    have := h.pos _ (List.getElem_mem hi)
    have := h.le _ (List.getElem_mem hi)
    show 0 ≤ ns[i] ∧ ns[i] ≤ 12
    omega
  · rw [getD_big hi]
    omega
theorem Fall.size {ns : List Int} (h : Fall ns) {n : Nat} (hn : n ≤ 1000) : n < sizeLine := by
  have : (1000 : Nat) < sizeLine := by decide
  omega
theorem small {n : Nat} (hn : n ≤ 1000) : n < sizeLine := by
  have : (1000 : Nat) < sizeLine := by decide
  omega
theorem getD_mem {ns : List Int} {i : Nat} (h : i < ns.length) : ns.getD i 0 ∈ ns := by
  rw [List.getD_eq_getElem?_getD, List.getElem?_eq_getElem h]
  exact List.getElem_mem h
theorem Fall.down {ns : List Int} (h : Fall ns) (i : Nat) : ns.getD (i + 1) 0 ≤ ns.getD i 0 := by
  by_cases hi : i + 1 < ns.length
  · exact h.desc i hi
  · rw [getD_big hi]
    exact (h.at i).1
theorem Fall.headI {ns : List Int} (h : Fall ns) : ∀ i : Nat, ns.getD i 0 ≤ ns.getD 0 0
  | 0 => Int.le_refl _
  | i + 1 => Int.le_trans (h.down i) (h.headI i)
theorem Fall.head {ns : List Int} (h : Fall ns) : ∀ x ∈ ns, x ≤ ns.getD 0 0 := fun x hx => by
  obtain ⟨i, hi, rfl⟩ := List.getElem_of_mem hx
  have := h.headI i
  rw [List.getD_eq_getElem?_getD, List.getElem?_eq_getElem hi] at this
  exact this
theorem fall_nil : Fall [] := ⟨(nofun), (by decide), fun i hi => absurd hi (by simp)⟩
theorem head_mem {ns : List Int} (h : Fall ns) (hne : ns ≠ []) : ns.getD 0 0 ∈ ns := getD_mem (List.length_pos_iff.mpr hne)
theorem lt66 {A : Around} {k : Nat} (hr : Room k A) : A.units + 66 < cLine := by
  have := hr.un
  omega
section
variable {P : Program} {w : World} {K : PySem.W.Frag} {mg : Str → Option Value} {base : Heap} {f : Addr} {fd : FuncData}
/-! ### falling -/
abbrev sFalling : Stmt := top 17
theorem scFalling : FnScope ["value", "most", "number", "i"] ["value", "most"] (defScope sFalling) := ⟨rfl, rfl, rfl, by decide +kernel, rfl, by decide +kernel, by decide +kernel⟩
def spFalling (K : PySem.W.Frag) : Sp := fun vs H Q _ => ∃ (a : Addr) (ns : List Int), vs = [.ref a, .int 12] ∧ SqT K H a (ns.map V.int) ∧ Fall ns ∧ ∀ H', Ext H H' → Q (.bl true) H'
theorem ok_falling (F : Fun K "is_falling" "is_falling" sFalling f fd) (T : Txt K mg) (Wi : Def1 P w K mg base CX0 3 "is_within" ["value", "low", "high"] (spIsWithin K)) : FnOk P w K mg base CX0 4 f fd ["value", "most"] (spFalling K) := by
  refine F.ok scFalling (fun vs H Q E h => ?_) (fun cdv A outer s H vs Q E hr h => ?_)
  · obtain ⟨a, ns, rfl, _⟩ := h
    rfl
  · obtain ⟨a, ns, rfl, hs, hF, k⟩ := h
    refine ⟨_, pss_cons (ps_if (PW.pt (pw_or (pt_not (pt_val (pe_callB call_isi (by rfl) T.isinstance (by decide +kernel) (pa_cons (pv 0) (pa_cons (pe_bltn (v := .ty "tuple") (by rfl) T.tuple (by decide +kernel) rfl) pa_nil))))) (pw_or1 (pt_not (pt_val (pe_callB (cr_all rfl) (by rfl) T.all (by decide +kernel) (pa_cons (pe_lc (own := [("number", 2)]) (g := gName 2) (tt := tYes) rfl scFalling.nd (pi_tup (pv 0)) (blkOk_by (N := ["value", "most", "number", "i"]) (sc := defScope sFalling) (by decide +kernel)) (fun _ _ _ _ _ => pg_name (i := 2) scFalling.nd rfl (Or.inl rfl)) (fun _ _ _ _ _ => pts_nil) (fun _ _ _ _ _ => (pe_def Wi hr (by decide) (by rfl) (pa_cons (pv 2) (pa_cons pe_int (pa_cons (pv 1) pa_nil)))))) pa_nil))))))) (pss_one (ps_ret pe_bl)) pss_nil)
      (pss_one (ps_ret (pe_and (pe_cmpR op_le (pe_callB (call_sumS rfl) (by rfl) T.sum (by decide +kernel) (pa_cons (pv 0) pa_nil)) (pv 1) (nomark _)) (pe_one (pe_callB (cr_all rfl) (by rfl) T.all (by decide +kernel) (pa_cons (pe_lc (own := [("i", 3)]) (g := gName 3) (tt := tYes) rfl scFalling.nd (pi_range2 (by rfl) T.range (pa_cons pe_int (pa_cons (pe_callB call_len_seq (by rfl) T.len PySem.boot_len (pa_cons (pv 0) pa_nil)) pa_nil))) (blkOk_by (N := ["value", "most", "number", "i"]) (sc := defScope sFalling) (by decide +kernel)) (fun _ _ _ _ _ => pg_name (i := 3) scFalling.nd rfl (Or.inl rfl)) (fun _ _ _ _ _ => pts_nil) (fun _ _ _ _ _ => (pe_cmpR op_le (pe_ix (r := rIxT K) ix_tup (pv 0) (pv 3) (fun _ _ => rfl)) (pe_ix (r := rIxT K) ix_tup (pv 0) (pe_op op_sub (pv 3) pe_int) (fun _ _ => rfl)) (nomark _)))) pa_nil)))))), ?_⟩
    try dsimp only [cx_nox, cx_K]
    have hl1 := hF.len
    have hs1 := hF.sum
    walk_at "rd"
    refine ⟨_, _, _, _, true, rfl, .ty _, tyT hs, by kernel_rfl, ?_⟩
    walk_at "rd"
    refine g_lc (g_itup ?_)
    walk_at "rd"
    refine lcT hs (small (by rw [List.length_map]; omega)) (fun _ => true) (fun _ => .bl true) (fun x H' hx e Qe Qn he hn => ?_) (fun H1 D e1 hD hd => ?_)
    · obtain ⟨n, hn', rfl⟩ := List.mem_map.mp hx
      refine ⟨rfl, ?_⟩
      walk_at "rd"
      refine ⟨_, 1, 12, true, rfl, by decide, by decide, .inl ⟨n, rfl, (decide_eq_true ⟨hF.pos n hn', hF.le n hn'⟩).symm⟩, ?_⟩
      exact he _ (fun _ _ z => z) rfl
    · walk_at "rd"
      refine ⟨D, ns.map fun _ => true, rfl, SqL.of ?_, ?_⟩
      · rw [hd, List.filter_eq_self.mpr (fun _ _ => rfl), List.map_map, List.map_map]
        rfl
      have all : (ns.map fun _ => true).all id = true := by simp
      rw [all]
      walk_at "rd"
      refine ⟨a, ns, rfl, .inr (sqT_ext e1 hs), ?_⟩
      walk_at "rd"
      rw [decide_eq_true hs1]
      walk_at "rd"
      refine g_lc (g_rng2 ?_)
      walk_at "rd"
      refine ⟨a, _, rfl, .inr (sqT_ext e1 hs), ?_⟩
      walk_at "rd"
      rw [List.length_map]
      refine ⟨⟨by decide, by decide, by omega, by omega⟩, ?_⟩
      have en : ((ns.length : Int) - 1).toNat = ns.length - 1 := by omega
      rw [en]
      refine lcR (small (by omega)) (fun _ => true) (fun _ => .bl true) (fun i H' hi e Qe Qn he hn => ?_) (fun H' D2 e hD2 hd2 => ?_)
      · have ei : (1 + (i : Int)) = ((i + 1 : Nat) : Int) := by omega
        rw [ei]
        refine ⟨rfl, ?_⟩
        walk_at "rd"
        refine g_ixT (sqT_ext e (sqT_ext e1 hs)) (atI_nat (getI (i := i + 1) (by omega))) ?_
        walk_at "rd"
        have ej : (((i + 1 : Nat) : Int) - 1) = (i : Int) := by omega
        rw [ej]
        refine g_ixT (sqT_ext e (sqT_ext e1 hs)) (atI_nat (getI (i := i) (by omega))) ?_
        walk_at "rd"
        rw [decide_eq_true (hF.desc i (by omega))]
        exact he _ (fun _ _ z => z) rfl
      · rw [idx_all] at hd2
        walk_at "rd"
        refine ⟨D2, (List.range (ns.length - 1)).map fun _ => true, rfl, SqL.of ?_, ?_⟩
        · rw [hd2, List.map_map]
          rfl
        have all2 : ((List.range (ns.length - 1)).map fun _ => true).all id = true := by simp
        rw [all2]
        exact k _ (Ext.trans e1 e)
end
end

/-! Kinds: made, told. -/

section
open PySem PySem.Spec PyProof.Rows L2 Gd
section
variable {P : Program} {w : World} {K : PySem.W.Frag} {mg : Str → Option Value} {base : Heap} {f C : Addr} {fd : FuncData}
/-- the class at C -/
structure KC (K : PySem.W.Frag) (mg : Str → Option Value) (C : Addr) : Prop where
  cl : Cls K C
  noN : NoAttr K C "_numbers"
  noP : NoAttr K C "_place"
  g : mg "Kind" = some (.ref C)
  kp : PySem.W.keepIn K (.ref C) = true
  ha : PySem.W.findIn K (.ref C) "__class__" = some (some (.builtin "object.__class__"))
  hn : PySem.W.specialIn K (.builtin "object.__class__") "__get__" = some (some (.builtin "getset_descriptor.__get__"))
  htk : PySem.W.takesIn K (.builtin "object.__class__") = some true
  hm : PySem.W.mroIn K C (.type "object") = some true
  kit : PySem.W.kitOne K (.ref C) (.ref C) = some true
  ne : NeC K C
  most : ∃ t, mg "MAX_SIZE" = some (.int 12 t)
theorem KC.ty {C : Addr} (T : KC K mg C) {H : Hp} {p dx : Addr} {fs : List (Str × V)} (h : H p = some (.ins C dx fs)) : TyX K H (.ref p) (.ref C) := .base (.ins h T.cl T.ha T.hn T.htk T.hm)
/-- a kind at p, with the numbers ns -/
structure KindAt (K : PySem.W.Frag) (C : Addr) (H : Hp) (p n t m : Addr) (ns : List Int) : Prop where
  ins : ∃ dx, H p = some (.ins C dx [(("_numbers" : Str), .ref n), (("_place" : Str), .ref t)])
  num : TupX K H n (ns.map V.int)
  pl : SqT K H t [.int ns.sum, .ref m]
  neg : SqT K H m ((ns.map fun x => -x).map V.int)
  fall : Fall ns
theorem KindAt.ext {H H' : Hp} {p n t m : Addr} {ns : List Int} (e : Ext H H') (h : KindAt K C H p n t m ns) : KindAt K C H' p n t m ns := by
  obtain ⟨⟨dx, h1⟩, h2, h3, h4, h5⟩ := h
  exact ⟨⟨dx, e _ _ h1⟩, h2.ext e, sqT_ext e h3, sqT_ext e h4, h5⟩
theorem look1 {u t : V} : ([(("_numbers" : Str), u), (("_place" : Str), t)] : List (Str × V)).lookup ("_numbers" : Str) = some u := by simp [List.lookup]
theorem look2 {u t : V} : ([(("_numbers" : Str), u), (("_place" : Str), t)] : List (Str × V)).lookup ("_place" : Str) = some t := by
  have : (("_place" : Str) == ("_numbers" : Str)) = false := by decide
  simp [List.lookup, this]
/-! ### __init__ -/
abbrev sInit : Stmt := cls 0
theorem scInit : FnScope ["self", "numbers", "number"] ["self", "numbers"] (defScope sInit) := ⟨rfl, rfl, rfl, by decide +kernel, rfl, by decide +kernel, by decide +kernel⟩
def spInit (K : PySem.W.Frag) (C : Addr) : Sp := fun vs H Q _ => ∃ (p dx a : Addr) (ns : List Int), vs = [.ref p, .ref a] ∧ H p = some (.ins C dx []) ∧ TupX K H a (ns.map V.int) ∧ Fall ns ∧
  ∀ H' n t m, ExtBut p H H' → KindAt K C H' p n t m ns → Q .non H'
abbrev FnI (K : PySem.W.Frag) (t0 f : Addr) (fd : FuncData) : Prop := FunD K "__init__" "Kind.__init__" (defArgs sInit) (defBody sInit) (defScope sInit) [.ref t0] [] f fd
def negV : V → V := fun v => match v with
  | .int n => .int (-n)
  | y => y
theorem sqT_up {H : Hp} {p a C dx : Addr} {fs gs : List (Str × V)} {xs : List V} (hp : H p = some (.ins C dx fs)) (h : SqT K H a xs) : SqT K (upd H p (.ins C dx gs)) a xs := by
  rcases h with (h | ⟨o, h⟩) | h
  · refine .inl (.inl ?_)
    rw [upd_ne (ne_of h hp (by intro z; cases z))]
    exact h
  · refine .inl (.inr ⟨o, ?_⟩)
    rw [upd_ne (ne_of h hp (by intro z; cases z))]
    exact h
  · exact .inr h
theorem tupX_up {H : Hp} {p a C dx : Addr} {fs gs : List (Str × V)} {xs : List V} (hp : H p = some (.ins C dx fs)) (h : TupX K H a xs) : TupX K (upd H p (.ins C dx gs)) a xs := by
  rcases h with ⟨o, h, d⟩ | h
  · refine .inl ⟨o, ?_, d⟩
    rw [upd_ne (ne_of h hp (by intro z; cases z))]
    exact h
  · exact .inr h
theorem ok_init {t0 : Addr} (F : FnI K t0 f fd) (T : Txt K mg) (Cl : KC K mg C) (Fa : Def1 P w K mg base CX0 4 "is_falling" ["value", "most"] (spFalling K)) :
    FnOk P w K mg base CX0 5 f fd ["self", "numbers"] (spInit K C) := by
  obtain ⟨tM, gM⟩ := Cl.most
  refine F.ok scInit (fun vs H Q E h => ?_) (fun cdv A outer s H vs Q E hr h => ?_)
  · obtain ⟨p, dx, a, ns, rfl, _⟩ := h
    rfl
  · obtain ⟨p, dx, a, ns, rfl, hp, ha, hF, k⟩ := h
    refine ⟨_, PSs.nox (pss_cons (ps_if (pt_not (pt_val (pe_def Fa hr (by decide) (by rfl) (pa_cons (pv 1) (pa_cons (pe_glob (v := .int 12) (by rfl) gM ⟨_, rfl⟩) pa_nil))))) (pss_one ps_never) pss_nil)
      (pss_cons (ps_fld (pv 0) (pe_callTy call_tupX (by rfl) T.tuple (by decide +kernel) (pa_cons (pv 1) pa_nil)) rfl)
      (pss_one (ps_fld (pv 0) (pe_tup (pa_cons (pe_callB (call_sumS rfl) (by rfl) T.sum (by decide +kernel) (pa_cons (pv 1) pa_nil)) (pa_cons (pe_callTy call_tupX (by rfl) T.tuple (by decide +kernel) (pa_cons (pe_lc (own := [("number", 2)]) (g := gName 2) (tt := tYes) rfl scInit.nd (pi_tup (pv 1)) (blkOk_by (N := ["self", "numbers", "number"]) (sc := defScope sInit) (by decide +kernel)) (fun _ _ _ _ _ => pg_name (i := 2) scInit.nd rfl (Or.inl rfl)) (fun _ _ _ _ _ => pts_nil) (fun _ _ _ _ _ => (pe_un un_neg (pv 2)))) pa_nil)) pa_nil))) rfl)))), ?_⟩
    try dsimp only [cx_nox, cx_K]
    have hl1 := hF.len
    walk_at "rd"
    refine ⟨a, ns, rfl, ha.sq, hF, fun H1 e1 => ?_⟩
    have hp1 : H1 p = some (.ins C dx []) := e1 _ _ hp
    have ha1 := ha.ext e1
    walk_at "rd"
    refine ⟨a, _, rfl, .inr ⟨ha1.sq, ?_⟩⟩
    walk_at "rd"
    refine ⟨p, C, dx, [], rfl, hp1, Cl.cl, Cl.noN, by decide, ?_⟩
    have hp2 : upd H1 p (.ins C dx (putF "_numbers" (.ref a) [])) p = some (.ins C dx [(("_numbers" : Str), .ref a)]) := upd_same
    have ha2 := tupX_up (gs := putF "_numbers" (.ref a) []) hp1 ha1
    have e2 : ExtBut p H (upd H1 p (.ins C dx (putF "_numbers" (.ref a) []))) := fun b o hb q => by
      rw [upd_ne hb]
      exact e1 _ _ q
    generalize upd H1 p (.ins C dx (putF "_numbers" (.ref a) [])) = H2 at hp2 ha2 e2 ⊢
    walk_at "rd"
    refine ⟨a, ns, rfl, .inr ha2.sq, ?_⟩
    walk_at "rd"
    refine g_lc (g_itup ?_)
    walk_at "rd"
    refine lcT ha2.sq (small (by rw [List.length_map]; omega)) (fun _ => true) negV (fun x H' hx e Qe Qn he hn => ?_) (fun H3 D e3 hD hd => ?_)
    · obtain ⟨n, hn', rfl⟩ := List.mem_map.mp hx
      refine ⟨rfl, ?_⟩
      walk_at "rd"
      exact he _ (fun _ _ z => z) rfl
    · walk_at "rd"
      rw [List.filter_eq_self.mpr (fun _ _ => rfl), List.map_map] at hd
      refine ⟨D, _, rfl, .inl ⟨SqL.of hd, fun l o hl ho => ?_⟩⟩
      walk_at "rd"
      refine ⟨by show 2 ≤ sizeLine; decide, fun t ht => ?_⟩
      have el := Ext.new (o := HO.frz o (.tup (ns.map (negV ∘ V.int)))) hl
      have et := Ext.new (o := HO.tup [V.int ns.sum, V.ref l]) ht
      have e4 := Ext.trans e3 (Ext.trans el et)
      have hl4 : SqT K _ l ((ns.map fun x => -x).map V.int) := sqT_ext et (xs := (ns.map fun x => -x).map V.int) (by
        rw [List.map_map]
        exact .inl (.inr ⟨o, upd_same⟩))
      have ht4 : SqT K (upd (upd H3 l (HO.frz o (.tup (ns.map (negV ∘ V.int))))) t (HO.tup [V.int ns.sum, V.ref l])) t [V.int ns.sum, V.ref l] := SqT.of upd_same
      generalize upd (upd H3 l (HO.frz o (.tup (ns.map (negV ∘ V.int))))) t (HO.tup [V.int ns.sum, V.ref l]) = H4 at e4 hl4 ht4 ⊢
      have hp4 := e4 _ _ hp2
      walk_at "rd"
      refine ⟨p, C, dx, _, rfl, hp4, Cl.cl, Cl.noP, (by show 1 < 1000; omega), ?_⟩
      refine k _ a t l ?_ ⟨⟨dx, upd_same⟩, tupX_up hp4 (ha2.ext e4), sqT_up hp4 ht4, sqT_up hp4 hl4, hF⟩
      intro b o hb q
      rw [upd_ne hb]
      exact e4 _ _ (e2 b o hb q)
end
end

/-! Kinds: numbers, size, kinds that are asked. -/

section
open PySem PySem.Spec PyProof.Rows L2 Gd
section
variable {P : Program} {w : World} {K : PySem.W.Frag} {mg : Str → Option Value} {base : Heap} {f C t0 : Addr} {fd : FuncData}
/-- a promise of a property: the answer v and nothing changed -/
def spGet (K : PySem.W.Frag) (C : Addr) (v : Addr → List Int → V) : Sp := fun vs H Q _ => ∃ (p n t m : Addr) (ns : List Int), vs = [.ref p] ∧ KindAt K C H p n t m ns ∧ ∀ H', Ext H H' → Q (v n ns) H'
theorem scNum : FnScope ["self"] ["self"] (defScope (cls 2)) := ⟨rfl, rfl, rfl, by decide +kernel, rfl, by decide +kernel, by decide +kernel⟩
theorem ok_numbers (F : Fun K "numbers" "Kind.numbers" (cls 2) f fd) (Cl : KC K mg C) : FnOk P w K mg base CX0 1 f fd ["self"] (spGet K C fun n _ => .ref n) := by
  refine F.ok scNum (fun vs H Q E h => ?_) (fun cdv A outer s H vs Q E hr h => ?_)
  · obtain ⟨p, n, t, m, ns, rfl, _⟩ := h
    rfl
  · obtain ⟨p, n, t, m, ns, rfl, ⟨⟨dx, hp⟩, hn, ht, hm, hF⟩, k⟩ := h
    refine ⟨_, pss_one (ps_ret (pe_fld (pv 0) rfl)), ?_⟩
    try dsimp only [cx_nox, cx_K]
    walk_at "rd"
    exact ⟨p, C, dx, _, _, rfl, hp, Cl.cl, Cl.noN, look1, k H (fun _ _ z => z)⟩
theorem scSiz : FnScope ["self"] ["self"] (defScope (cls 3)) := ⟨rfl, rfl, rfl, by decide +kernel, rfl, by decide +kernel, by decide +kernel⟩
theorem ok_size (F : Fun K "size" "Kind.size" (cls 3) f fd) (T : Txt K mg) (Cl : KC K mg C) : FnOk P w K mg base CX0 1 f fd ["self"] (spGet K C fun _ ns => .int ns.sum) := by
  refine F.ok scSiz (fun vs H Q E h => ?_) (fun cdv A outer s H vs Q E hr h => ?_)
  · obtain ⟨p, n, t, m, ns, rfl, _⟩ := h
    rfl
  · obtain ⟨p, n, t, m, ns, rfl, ⟨⟨dx, hp⟩, hn, ht, hm, hF⟩, k⟩ := h
    refine ⟨_, pss_one (ps_ret (pe_callB (call_sumS rfl) (by rfl) T.sum (by decide +kernel) (pa_cons (pe_fld (pv 0) rfl) pa_nil))), ?_⟩
    try dsimp only [cx_nox, cx_K]
    walk_at "rd"
    refine ⟨p, C, dx, _, _, rfl, hp, Cl.cl, Cl.noN, look1, ?_⟩
    walk_at "rd"
    exact ⟨n, ns, rfl, .inr hn.sq, k H (fun _ _ z => z)⟩
theorem made_ext {H : Hp} {x dx : Addr} {o u : HO} (hx : H x = none) (hdx : H dx = none) : Ext H (upd (upd H dx o) x u) := fun b ob q => by
  rw [upd_ne (ne_of_none q hx), upd_ne (ne_of_none q hdx)]
  exact q
theorem g_mk2 {E : XK} {H1 : Hp} {Q : VK} {a : Addr} {ns : List Int} (h : TupX K H1 a (ns.map V.int)) (hF : Fall ns) (k : ∀ H' p n t m, Ext H1 H' → KindAt K C H' p n t m ns → Q (.ref p) H') :
    ∀ x dx, H1 x = none → H1 dx = none → dx ≠ x → spInit K C [.ref x, .ref a] (upd (upd H1 dx (.own x)) x (.ins C dx [])) (fun v H2 => v = .non ∧ Q (.ref x) H2) E := fun x dx hx hdx ne =>
  ⟨x, dx, a, ns, rfl, upd_same, h.ext (made_ext hx hdx), hF, fun H' n t m e hk => ⟨rfl, k H' x n t m (fun b o q => e b o (ne_of_none q hx) (made_ext hx hdx b o q)) hk⟩⟩
abbrev sReqKind : Stmt := top 30
theorem scReqKind : FnScope ["value"] ["value"] (defScope sReqKind) := ⟨rfl, rfl, rfl, by decide +kernel, rfl, by decide +kernel, by decide +kernel⟩
def spReqKind (K : PySem.W.Frag) (C : Addr) : Sp := fun vs H Q _ => ∃ (p n t m : Addr) (ns : List Int), vs = [.ref p] ∧ KindAt K C H p n t m ns ∧ Q .non H
theorem ok_reqKind (F : Fun K "require_kind" "require_kind" sReqKind f fd) (T : Txt K mg) (Cl : KC K mg C) : FnOk P w K mg base CX0 1 f fd ["value"] (spReqKind K C) := by
  refine F.ok scReqKind (fun vs H Q E h => ?_) (fun cdv A outer s H vs Q E hr h => ?_)
  · obtain ⟨p, n, t, m, ns, rfl, _⟩ := h
    rfl
  · obtain ⟨p, n, t, m, ns, rfl, ⟨⟨dx, hp⟩, hn, ht, hm, hF⟩, k⟩ := h
    refine ⟨_, PSs.nox (pss_one (ps_if (pt_not (pt_val (pe_callB call_isi (by rfl) T.isinstance (by decide +kernel) (pa_cons (pv 0) (pa_cons (pe_glob (v := .ref C) (by rfl) Cl.g rfl) pa_nil))))) (pss_one ps_never) pss_nil)), ?_⟩
    try dsimp only [cx_nox, cx_K]
    walk_at "rd"
    refine ⟨_, _, _, _, true, rfl, .own C, Cl.ty hp, Cl.kit, ?_⟩
    walk_at "rd"
    exact k
theorem g_mk3 {E : XK} {H1 : Hp} {R : Addr → Hp → Prop} {a : Addr} {ns : List Int} (h : TupX K H1 a (ns.map V.int)) (hF : Fall ns) (k : ∀ H' p n t m, Ext H1 H' → KindAt K C H' p n t m ns → R p H') :
    ∀ x dx, H1 x = none → H1 dx = none → dx ≠ x → spInit K C [.ref x, .ref a] (upd (upd H1 dx (.own x)) x (.ins C dx [])) (fun v H2 => v = .non ∧ R x H2) E := fun x dx hx hdx ne =>
  ⟨x, dx, a, ns, rfl, upd_same, h.ext (made_ext hx hdx), hF, fun H' n t m e hk => ⟨rfl, k H' x n t m (fun b o q => e b o (ne_of_none q hx) (made_ext hx hdx b o q)) hk⟩⟩
end
end

/-! All kinds of a size, as the law lists them. -/

section
open PySem PySem.Spec PyProof.Rows L2 Gd
theorem geo2 (l : Nat) : ∀ n : Nat, n ≤ l → ((List.range n).map fun i => 2 ^ (l - (i + 1))).sum + 2 ^ (l - n) ≤ 2 ^ l
  | 0, _ => by simp
  | n + 1, h => by
    have ih := geo2 l n (by omega)
    rw [List.range_succ, List.map_append, List.sum_append]
    have e : 2 ^ (l - n) = 2 ^ (l - (n + 1)) + 2 ^ (l - (n + 1)) := by
      rw [show l - n = (l - (n + 1)) + 1 by omega, Nat.pow_succ]
      omega
    have e2 : ([n].map fun i => 2 ^ (l - (i + 1))).sum = 2 ^ (l - (n + 1)) := by simp
    rw [e2]
    omega
theorem len_pow : ∀ ls : List Nat, ls.length ≤ (ls.map fun l => 2 ^ l).sum
  | [] => Nat.le_refl _
  | l :: r => by
    have := len_pow r
    have := Nat.one_le_two_pow (n := l)
    rw [List.length_cons, List.map_cons, List.sum_cons]
    omega
section
variable {K : PySem.W.Frag} {H H' : Hp} {size : Nat}
/-- a kind of that size, as a tuple -/
def KT (K : PySem.W.Frag) (size : Nat) (H : Hp) (f : V) : Prop := ∃ (a : Addr) (ns : List Int), f = .ref a ∧ TupX K H a (ns.map V.int) ∧ Fall ns ∧ ns.sum = (size : Int)
/-- the beginning of one, with what is left -/
def WT (K : PySem.W.Frag) (size : Nat) (H : Hp) (l : Nat) (v : V) : Prop := ∃ (b a : Addr) (ns : List Int), v = .ref b ∧ H b = some (.tup [.ref a, .int (l : Int)]) ∧ TupX K H a (ns.map V.int) ∧ Fall ns ∧ ns.sum + (l : Int) = (size : Int)
/-- what is no list stays -/
def Keeps (H H' : Hp) : Prop := ∀ b o, (∀ xs, o ≠ .lst xs) → H b = some o → H' b = some o
theorem Keeps.of (e : Ext H H') : Keeps H H' := fun b o _ q => e b o q
theorem Keeps.trans {H2 : Hp} (a : Keeps H H') (b : Keeps H' H2) : Keeps H H2 := fun x o n q => b x o n (a x o n q)
theorem Keeps.up {D : Addr} {xs ys : List V} (h : H D = some (.lst xs)) : Keeps H (upd H D (.lst ys)) := fun b o n q => by
  rw [upd_ne (fun z => by rw [z, h] at q; cases q; exact n _ rfl)]
  exact q
theorem TupX.keeps {a : Addr} {xs : List V} (e : Keeps H H') (h : TupX K H a xs) : TupX K H' a xs := by
  rcases h with ⟨o, h, d⟩ | h
  · exact .inl ⟨o, e _ _ (fun _ z => by cases z) h, d⟩
  · exact .inr h
theorem KT.keeps {f : V} (e : Keeps H H') (h : KT K size H f) : KT K size H' f := by
  obtain ⟨a, ns, rfl, ht, r⟩ := h
  exact ⟨a, ns, rfl, TupX.keeps e ht, r⟩
theorem WT.keeps {l : Nat} {v : V} (e : Keeps H H') (h : WT K size H l v) : WT K size H' l v := by
  obtain ⟨b, a, ns, rfl, hb, ht, r⟩ := h
  exact ⟨b, a, ns, rfl, e _ _ (fun _ z => by cases z) hb, TupX.keeps e ht, r⟩
theorem keeps_but {D : Addr} {ys : List V} (hd : H D = none ∨ H D = some (.lst ys)) (e : ExtBut D H H') : Keeps H H' := fun b o n q => e b o (fun z => by
  rw [z] at q
  rcases hd with hd | hd
  · rw [hd] at q
    cases q
  · rw [hd] at q
    cases q
    exact n _ rfl) q
theorem fall_snoc {ns : List Int} {k : Int} (h : Fall ns) (k1 : 1 ≤ k) (hs : ns.sum + k ≤ 12) (hl : ns ≠ [] → k ≤ ns.getD (ns.length - 1) 0) : Fall (ns ++ [k]) := by
  have e : [k].sum = k := by simp
  refine ⟨fun x hx => (List.mem_append.mp hx).elim (h.pos x) fun q => by rw [List.mem_singleton.mp q]; exact k1, by rw [List.sum_append, e]; exact hs, fun i hi => ?_⟩
  rw [List.length_append, List.length_singleton] at hi
  by_cases hin : i + 1 < ns.length
  · have := h.desc i hin
    rw [List.getD_eq_getElem?_getD, List.getD_eq_getElem?_getD, List.getElem?_append_left hin, List.getElem?_append_left (by omega), ← List.getD_eq_getElem?_getD, ← List.getD_eq_getElem?_getD]
    exact this
  · have en : i + 1 = ns.length := by omega
    have hne : ns ≠ [] := fun z => by rw [z] at en; simp at en
    have := hl hne
    rw [List.getD_eq_getElem?_getD, List.getD_eq_getElem?_getD, List.getElem?_append_right (by omega), List.getElem?_append_left (by omega), ← List.getD_eq_getElem?_getD (l := ns), en, Nat.sub_self]
    rw [show ns.length - 1 = i by omega] at this
    exact this
/-- a comprehension over numbers whose results stand in a relation to the turn -/
theorem lcRR {σ : L2.St} {H1 : Hp} {vs : List Nat} {g : TG} {tt : TT} {te : TE} {Q : VK} {lo : Int} {n : Nat} (sz : n < sizeLine) (R : Nat → V → Hp → Prop) (mono : ∀ i y H H', Keeps H H' → R i y H → R i y H')
    (body : ∀ (i : Nat) H', i < n → Ext H1 H' → ∀ (Qe : VK) (Qn : Hp → Prop), (∀ y H3, Ext H' H3 → R i y H3 → Qe y H3) →
      g (.int (lo + i)) (wipe σ vs) H' fun σ2 H2 => wipe σ2 vs = wipe σ vs ∧ tt σ2 H2 fun b H3 => if b = true then te σ2 H3 Qe else Qn H3)
    (k : ∀ H' D ys, Ext H1 H' → H1 D = none → H' D = some (.lst ys) → ys.length = n → (∀ i y, ys[i]? = some y → R i y H') → Q (.ref D) H') : LcG (Itr lo n) g tt te vs σ H1 Q := by
  refine fun D hD => lc_rel walk_range R (fun _ => true) (fun i y D ys H H' hd e r => mono i y H H' (keeps_but hd e) r) hD (fun H' e => True.intro) sz (fun i x H' H'' hi e hy Qe Qn he hn => ?_) (fun H' ys e hd hr => ?_)
  · obtain ⟨rfl, rfl⟩ := hy
    exact body i _ hi e Qe Qn fun y H3 e3 r => he y H3 e3 r rfl
  · rw [idx_all] at hr
    have hl := hr.1
    rw [List.length_range] at hl
    refine k H' D ys e hD hd hl.symm fun i y hy => hr.2 i i y ?_ hy
    rw [List.getElem?_range (by have := (List.getElem?_eq_some_iff.mp hy).1; omega)]
end
section
variable {P : Program} {w : World} {K : PySem.W.Frag} {mg : Str → Option Value} {base : Heap} {f : Addr} {fd : FuncData}
abbrev sKinds : Stmt := top 39
theorem scKinds : FnScope ["_law_size", "_law_found", "_law_waits", "_law_kind", "_law_left", "_law_most", "_law_number"] ["_law_size"] (defScope sKinds) := ⟨rfl, rfl, rfl, by decide +kernel, rfl, by decide +kernel, by decide +kernel⟩
def spKinds (K : PySem.W.Frag) : Sp := fun vs H Q _ => ∃ size : Nat, vs = [.int (size : Int)] ∧ size ≤ 12 ∧
  ∀ H' F fs, Ext H H' → H F = none → H' F = some (.lst fs) → fs ≠ [] → fs.length ≤ 4096 → (∀ f ∈ fs, KT K size H' f) → Q (.ref F) H'
def PvK (K : PySem.W.Frag) (size : Nat) (F W : Addr) (H0 : Hp) (m : Nat) : L2.St → Hp → Prop := fun σ H => ∃ (fs : List V) (ps : List (V × Nat)) (x y z : Option V),
  σ = [some (.int (size : Int)), some (.ref F), some (.ref W), x, y, z, none] ∧ m = (ps.map fun p => 2 ^ p.2).sum ∧ H F = some (.lst fs) ∧ H W = some (.lst (ps.map (·.1))) ∧ (∀ f ∈ fs, KT K size H f) ∧ (∀ p ∈ ps, WT K size H p.2 p.1) ∧
  fs.length + (ps.map fun p => 2 ^ p.2).sum ≤ 2 ^ size ∧ (fs ≠ [] ∨ ps ≠ []) ∧ (∀ b o, b ≠ F → b ≠ W → H0 b = some o → H b = some o)
theorem sh_row (ns : List Int) : SeqAt.shaped (.tuple (pdata ns)) = true := by
  have d : ∀ ns : List Int, PyData.depthAll (pdata ns) = 0 := fun ns => by
    induction ns with
    | nil => simp [pdata, PyData.depthAll]
    | cons n r ih =>
      unfold pdata at ih ⊢
      simp [PyData.depthAll, PyData.depth, ih]
  unfold SeqAt.shaped
  simp [PyData.canLay0, play, PyData.depth, d]
theorem g_seqP {i j : Nat} {ta : TA} {D : Ends} {σ : L2.St} {H : Hp} (k : ta σ H fun vs H1 => ∃ v w, vs = [v, w] ∧ D.nx ((σ.set i (some v)).set j (some w)) H1) : tPar i j ta D σ H := k
theorem ok_kinds (F : Fun K "_law_kinds" "_law_kinds" sKinds f fd) (T : Txt K mg) : FnOk P w K mg base CX0 1 f fd ["_law_size"] (spKinds K) := by
  refine F.ok scKinds (fun vs H Q E h => ?_) (fun cdv A outer s H vs Q E hr h => ?_)
  · obtain ⟨size, rfl, _⟩ := h
    rfl
  · obtain ⟨size, rfl, hsz, k⟩ := h
    refine ⟨_, pss_cons (ps_par (i := 1) (j := 2) (by rfl) scKinds.nd rfl rfl (by decide) rfl rfl (pa_cons (pe_lst pa_nil) (pa_cons (pe_lst (pa_cons (pe_tup (pa_cons (pe_tupX pa_nil) (pa_cons (pv 0) pa_nil))) pa_nil)) pa_nil)) (by rfl))
      (pss_cons (ps_while PassesOwn.never (pt_cmpR (op_neNil (Nat.lt_of_le_of_lt (Nat.le_add_right _ _) (lt66 hr))) (pv 2) (pe_lst pa_nil) (nomark _)) (pss_cons (ps_asg (pe_bm0 PySem.F.plainAttrs_list PySem.F.slot_list_pop PySem.F.type_list_pop mt_pop (pv 2)) (pg_tup rfl (pgs_cons (pg_name (i := 3) scKinds.nd rfl (Or.inr rfl)) (pgs_cons (pg_name (i := 4) scKinds.nd rfl (Or.inr rfl)) pgs_nil))))
      (pss_one (ps_if (pt_cmpR op_eq (pv 4) pe_int (nomark _)) (pss_one (ps_expr (pe_bm PySem.F.plainAttrs_list PySem.F.slot_list_append PySem.F.type_list_append mt_append (pv 1) (pa_cons (pv 3) pa_nil)))) (pss_cons (ps_set (i := 5) scKinds.nd rfl (Or.inl rfl) (pe_ifExp (pt_cmpR (op_neD hr.units) (pv 3) (pe_tupX pa_nil) (nomark _)) (pe_callB (call_min2 rfl) (by rfl) T.min (by decide +kernel) (pa_cons (pv 4) (pa_cons (pe_ix ix_tup (pv 3) (pe_un un_neg pe_int) (fun _ _ => rfl)) pa_nil))) (pv 4)))
      (pss_one (ps_expr (pe_bm PySem.F.plainAttrs_list PySem.F.slot_list_extend PySem.F.type_list_extend mt_extend (pv 2) (pa_cons (pe_lc (own := [("_law_number", 6)]) (g := gName 6) (tt := tYes) rfl scKinds.nd (pi_range2 (by rfl) T.range (pa_cons pe_int (pa_cons (pe_op op_add (pv 5) pe_int) pa_nil))) (blkOk_by (N := ["_law_size", "_law_found", "_law_waits", "_law_kind", "_law_left", "_law_most", "_law_number"]) (sc := defScope sKinds) (by decide +kernel)) (fun _ _ _ _ _ => pg_name (i := 6) scKinds.nd rfl (Or.inl rfl)) (fun _ _ _ _ _ => pts_nil) (fun _ _ _ _ _ => by exact (pe_tup (pa_cons (pe_op (r := rCatX K) op_catX (pv 3) (pe_tupX (pa_cons (pv 6) pa_nil))) (pa_cons (pe_op op_sub (pv 4) (pv 6)) pa_nil))))) pa_nil)))))))))
      (pss_one (ps_ret (pv 1)))), ?_⟩
    try dsimp only [cx_nox, cx_K]
    refine g_seqP ?_
    walk_at "rd"
    refine ⟨Nat.zero_le _, fun Fa hFa => ?_⟩
    walk_at "rd"
    refine g_tupX ?_
    walk_at "rd"
    refine ⟨Nat.zero_le _, fun a o ha ho => ?_⟩
    walk_at "rd"
    refine ⟨by show 2 ≤ sizeLine; decide, fun b hb => ?_⟩
    walk_at "rd"
    refine ⟨by show 1 ≤ sizeLine; decide, fun Wa hWa => ?_⟩
    walk_at "rd"
    refine ⟨_, _, rfl, ?_⟩
    have e1 : Ext H (upd H Fa (.lst [])) := Ext.new hFa
    have e2 := Ext.new (o := HO.frz o (.tup [])) ha
    have e3 := Ext.new (o := HO.tup [V.ref a, V.int (size : Int)]) hb
    have e4 := Ext.new (o := HO.lst [V.ref b]) hWa
    have t1 : TupX K (upd (upd H Fa (.lst [])) a (.frz o (.tup []))) a (([] : List Int).map V.int) := TupX.new ho
    have t2 := (t1.ext e3).ext e4
    have b2 := e4 _ _ (upd_same : upd (upd (upd H Fa (.lst [])) a (.frz o (.tup []))) b (HO.tup [V.ref a, V.int (size : Int)]) b = _)
    have f2 := e4 _ _ (e3 _ _ (e2 _ _ (upd_same : upd H Fa (.lst []) Fa = _)))
    have w2 : upd (upd (upd (upd H Fa (.lst [])) a (.frz o (.tup []))) b (HO.tup [V.ref a, V.int (size : Int)])) Wa (HO.lst [V.ref b]) Wa = some (.lst [V.ref b]) := upd_same
    have eall := Ext.trans e1 (Ext.trans e2 (Ext.trans e3 e4))
    have nFW : Fa ≠ Wa := ne_of_none (e3 _ _ (e2 _ _ (upd_same : upd H Fa (.lst []) Fa = _))) hWa
    have hW0 : H Wa = none := new_up (Ext.trans e1 (Ext.trans e2 e3)) hWa
    generalize upd (upd (upd (upd H Fa (.lst [])) a (.frz o (.tup []))) b (HO.tup [V.ref a, V.int (size : Int)])) Wa (HO.lst [V.ref b]) = H1 at t2 b2 f2 w2 eall ⊢
    walk_at "rd"
    refine ⟨PvK K size Fa Wa H, ⟨_, [], [(.ref b, size)], none, none, none, rfl, rfl, f2, w2, nofun, fun p hp => ?_, ?_, .inr (by simp), fun c u _ _ q => eall c u q⟩, ?_⟩
    · rw [List.mem_singleton.mp hp]
      exact ⟨b, a, [], rfl, b2, t2, fall_nil, by simp⟩
    · simp
    rintro m σ1 H2 ⟨fs, ps, x, y, z, rfl, rfl, hF, hW, hf, hw, hs, hne, hk⟩
    walk_at "rd"
    refine ⟨Nat.zero_le _, fun e he => ?_⟩
    walk_at "rd"
    have ee := Ext.new (o := HO.lst []) he
    refine ⟨Wa, e, _, rfl, rfl, SqL.of (ee _ _ hW), SqL.of upd_same, ?_⟩
    have hF3 := ee _ _ hF
    have hW3 := ee _ _ hW
    have hk3 : ∀ c u, c ≠ Fa → c ≠ Wa → H c = some u → upd H2 e (.lst []) c = some u := fun c u n1 n2 q => ee _ _ (hk c u n1 n2 q)
    have hf3 := fun f hf0 => (hf f hf0).keeps (Keeps.of ee)
    have hw3 := fun p hp => (hw p hp).keeps (Keeps.of ee)
    generalize upd H2 e (.lst []) = H3 at hF3 hW3 hk3 hf3 hw3 ⊢
    have hs12 : 2 ^ size ≤ 2 ^ 12 := Nat.pow_le_pow_right (by omega) hsz
    walk_at "rd"
    rcases List.eq_nil_or_concat ps with rfl | ⟨qs, ⟨v, l⟩, rfl⟩
    · refine iteF ?_
      walk_at "rd"
      refine k H3 Fa fs (fun c u q => hk3 c u (ne_of_none q hFa) (ne_of_none q hW0) q) hFa hF3 (hne.resolve_right (fun h => h rfl)) ?_ hf3
      have : (([] : List (V × Nat)).map fun p => 2 ^ p.2).sum = 0 := rfl
      rw [this] at hs
      have : (2 : Nat) ^ 12 = 4096 := by decide
      omega
    have hw0 := hw3 (v, l) (by simp)
    obtain ⟨b, a, ns, hv, hb, ht, hfl, hsum⟩ := hw0
    have hv : v = .ref b := hv
    subst hv
    have hb : H3 b = some (.tup [.ref a, .int (l : Int)]) := hb
    have hsum : ns.sum + (l : Int) = (size : Int) := hsum
    have nem : (!(((qs.concat (V.ref b, l)).map fun x => x.1).isEmpty)) = true := by
      rw [List.concat_eq_append, List.map_append]
      cases qs <;> rfl
    rw [nem]
    refine iteT ?_
    have esum : ((qs.concat (V.ref b, l)).map fun p => 2 ^ p.2).sum = (qs.map fun p => 2 ^ p.2).sum + 2 ^ l := by
      rw [List.concat_eq_append, List.map_append, List.sum_append]
      simp
    rw [esum] at hs ⊢
    have emap : (qs.concat (V.ref b, l)).map (fun x => x.1) = qs.map (fun x => x.1) ++ [.ref b] := by
      rw [List.concat_eq_append, List.map_append]
      rfl
    rw [emap] at hW3
    refine ⟨fun σ' H' => ∃ m', m' < (qs.map fun p => 2 ^ p.2).sum + 2 ^ l ∧ PvK K size Fa Wa H m' σ' H', fun _ _ q => q, ?_⟩
    walk_at "rd"
    refine ⟨.inl ⟨rfl, _, SqL.of hW3⟩, Wa, _, .ref b, rfl, rfl, hW3, by simp, ?_⟩
    rw [List.dropLast_concat]
    have kW := Keeps.up (ys := qs.map (fun x => x.1)) hW3
    have hF4 : upd H3 Wa (.lst (qs.map fun x => x.1)) Fa = some (.lst fs) := by
      rw [upd_ne nFW]
      exact hF3
    have hW4 : upd H3 Wa (.lst (qs.map fun x => x.1)) Wa = some (.lst (qs.map fun x => x.1)) := upd_same
    have hk4 : ∀ c u, c ≠ Fa → c ≠ Wa → H c = some u → upd H3 Wa (.lst (qs.map fun x => x.1)) c = some u := fun c u n1 n2 q => by
      rw [upd_ne n2]
      exact hk3 c u n1 n2 q
    have hf4 := fun f hf0 => (hf3 f hf0).keeps kW
    have hw4 : ∀ p ∈ qs, WT K size (upd H3 Wa (.lst (qs.map fun x => x.1))) p.2 p.1 := fun p hp => (hw3 p (by simp [hp])).keeps kW
    have hb4 := kW _ _ (fun _ z => by cases z) hb
    have ht4 := TupX.keeps kW ht
    generalize upd H3 Wa (.lst (qs.map fun x => x.1)) = H4 at hF4 hW4 hk4 hf4 hw4 hb4 ht4 ⊢
    refine ⟨b, _, rfl, SqT.of hb4, rfl, _, _, rfl, ?_⟩
    refine ⟨_, _, rfl, rfl, ?_⟩
    walk_at "rd"
    refine ite2 (fun hl => ?_) (fun hl => ?_)
    · have hl0 : l = 0 := by
        have := of_decide_eq_true hl
        omega
      subst hl0
      walk_at "rd"
      refine ⟨.inl ⟨rfl, _, SqL.of hF4⟩, ?_⟩
      walk_at "rd"
      have hlen := len_pow (qs.map fun p => p.2)
      rw [List.map_map, List.length_map] at hlen
      have h1 : (2 : Nat) ^ 0 = 1 := rfl
      refine ⟨Fa, fs, .ref a, rfl, rfl, hF4, by have : (4096 : Nat) < sizeLine := by decide
                                                have : (2 : Nat) ^ 12 = 4096 := by decide
                                                omega, ?_⟩
      have kF := Keeps.up (ys := fs ++ [.ref a]) hF4
      refine ⟨(qs.map fun p => 2 ^ p.2).sum, by omega, fs ++ [.ref a], qs, _, _, _, rfl, rfl, upd_same, ?_, fun f0 hf0 => ?_, fun p hp => (hw4 p hp).keeps kF, ?_, .inl (by simp), fun c u n1 n2 q => ?_⟩
      · rw [upd_ne (Ne.symm nFW)]
        exact hW4
      · rcases List.mem_append.mp hf0 with q | q
        · exact (hf4 f0 q).keeps kF
        · rw [List.mem_singleton.mp q]
          exact ⟨a, ns, rfl, TupX.keeps kF ht4, hfl, by omega⟩
      · rw [List.length_append, List.length_singleton]
        omega
      · rw [upd_ne n1]
        exact hk4 c u n1 n2 q
    · have hl0 : l ≠ 0 := fun z => hl (decide_eq_true (by rw [z]; rfl))
      walk_at "rd"
      refine g_tupX ?_
      walk_at "rd"
      refine ⟨Nat.zero_le _, fun u o2 hu ho2 => ?_⟩
      have e5 := Ext.new (o := HO.frz o2 (.tup [])) hu
      refine ⟨_, _, .tup (ht4.ext e5).sq (pdp ns), .tup (xs := ([] : List Int).map V.int) (TupX.new ho2).sq (pdp []), sh_row ns, sh_row [], ?_⟩
      have ene : PyData.eqv (.tuple (pdata ns)) (.tuple (pdata [])) = decide (ns = []) := by
        simp only [PyData.eqv, peqv]
      rw [ene]
      have hF5 := e5 _ _ hF4
      have hW5 := e5 _ _ hW4
      have hk5 : ∀ c v, c ≠ Fa → c ≠ Wa → H c = some v → upd H4 u (HO.frz o2 (.tup [])) c = some v := fun c v n1 n2 q => e5 _ _ (hk4 c v n1 n2 q)
      have hf5 := fun f0 hf0 => (hf4 f0 hf0).keeps (Keeps.of e5)
      have hw5 := fun p hp => (hw4 p hp).keeps (Keeps.of e5)
      have ht5 := ht4.ext e5
      generalize upd H4 u (HO.frz o2 (.tup [])) = H5 at hF5 hW5 hk5 hf5 hw5 ht5 ⊢
      obtain ⟨mo, m1, m2, m3, m4⟩ : ∃ mo : Nat, 1 ≤ mo ∧ mo ≤ l ∧ (ns ≠ [] → (mo : Int) ≤ ns.getD (ns.length - 1) 0) ∧ (mo : Int) = if ns = [] then (l : Int) else if ns.getD (ns.length - 1) 0 < (l : Int) then ns.getD (ns.length - 1) 0 else (l : Int) := by
        by_cases hn : ns = []
        · exact ⟨l, by omega, Nat.le_refl _, fun h => absurd hn h, by rw [if_pos hn]⟩
        · have hp := hfl.pos _ (getD_mem (i := ns.length - 1) (by have := List.length_pos_iff.mpr hn; omega))
          by_cases hc : ns.getD (ns.length - 1) 0 < (l : Int)
          · exact ⟨(ns.getD (ns.length - 1) 0).toNat, by omega, by omega, fun _ => by omega, by rw [if_neg hn, if_pos hc]; omega⟩
          · exact ⟨l, by omega, Nat.le_refl _, fun _ => by omega, by rw [if_neg hn, if_neg hc]⟩
      walk_at "rd"
      refine g_ifV (.int (mo : Int)) (fun h1 Q' q => ?_) (fun h1 Q' q => ?_) ?_
      · have hn : ns ≠ [] := fun z => by simp [z] at h1
        rw [if_neg hn] at m4
        walk_at "rd"
        refine g_ixT (v := .int (ns.getD (ns.length - 1) 0)) ht5.sq ?_ ?_
        · have hlen := List.length_pos_iff.mpr hn
          unfold atI ixN
          rw [List.length_map, if_neg (by decide), if_pos (by omega)]
          have : ((-1 : Int) + (ns.length : Int)).toNat = ns.length - 1 := by omega
          show (ns.map V.int)[((-1 : Int) + (ns.length : Int)).toNat]? = _
          rw [this]
          exact getI (by omega)
        · refine ⟨_, _, rfl, ?_⟩
          rw [← m4]
          exact q
      · have hn : ns = [] := by simpa using h1
        rw [if_pos hn] at m4
        walk_at "rd"
        rw [← m4]
        exact q
      walk_at "rd"
      refine ⟨.inl ⟨rfl, _, SqL.of hW5⟩, ?_⟩
      walk_at "rd"
      refine g_lc (g_rng2 ?_)
      walk_at "rd"
      have hl13 : (l : Int) ≤ 12 := by
        have := hfl.sum0
        omega
      refine ⟨⟨by decide, by decide, by omega, by omega⟩, ?_⟩
      have en : ((mo : Int) + 1 - 1).toNat = mo := by omega
      rw [en]
      refine lcRR (small (by omega)) (fun i y H => WT K size H (l - (i + 1)) y) (fun i y H H' e r => r.keeps e) (fun i H6 hi e6 Qe Qn he => ?_) (fun H6 D ys e6 hD hd hyl hyr => ?_)
      · refine ⟨rfl, ?_⟩
        walk_at "rd"
        refine g_tupX ?_
        walk_at "rd"
        refine ⟨by show 1 ≤ sizeLine; decide, fun c o3 hc ho3 => ?_⟩
        have e7 := Ext.new (o := HO.frz o3 (.tup [V.int (1 + (i : Int))])) hc
        have hfl' : Fall (ns ++ [1 + (i : Int)]) := fall_snoc hfl (by omega) (by omega) (fun hn => by have := m3 hn; omega)
        refine ⟨a, c, ns.map V.int, [V.int (1 + (i : Int))], rfl, rfl, (ht5.ext e6).ext e7, TupX.new ho3, ?_, fun H8 p e8 hp => ?_⟩
        · have := hfl'.len
          rw [List.length_append, List.length_singleton] at this
          rw [List.length_map, List.length_singleton]
          exact Nat.le_of_lt (small (by omega))
        walk_at "rd"
        refine ⟨by show 2 ≤ sizeLine; decide, fun q hq => ?_⟩
        have e9 := Ext.new (o := HO.tup [V.ref p, V.int ((l : Int) - (1 + (i : Int)))]) hq
        refine he _ _ (Ext.trans e7 (Ext.trans e8 e9)) ⟨q, p, ns ++ [1 + (i : Int)], rfl, ?_, ?_, hfl', ?_⟩
        · rw [upd_same]
          have : (l : Int) - (1 + (i : Int)) = ((l - (i + 1) : Nat) : Int) := by omega
          rw [this]
        · rw [List.map_append]
          exact hp.ext e9
        · rw [List.sum_append]
          have : [1 + (i : Int)].sum = 1 + (i : Int) := by simp
          rw [this]
          omega
      · walk_at "rd"
        have hlen := len_pow (qs.map fun p => p.2)
        rw [List.map_map, List.length_map] at hlen
        have hlen' : qs.length ≤ (qs.map fun p => 2 ^ p.2).sum := hlen
        have h12 : (2 : Nat) ^ 12 = 4096 := by decide
        refine ⟨Wa, D, _, ys, rfl, rfl, e6 _ _ hW5, hd, ?_, ?_⟩
        · rw [List.length_map, hyl]
          have : (5000 : Nat) < sizeLine := by decide
          have := Nat.one_le_two_pow (n := l)
          omega
        have kX := Keeps.up (ys := qs.map (fun x => x.1) ++ ys) (e6 _ _ hW5)
        have ksum := geo2 l mo m2
        have kpos := Nat.one_le_two_pow (n := l - mo)
        have ecs : (((List.range mo).map fun i => (ys.getD i V.non, l - (i + 1))).map fun p => 2 ^ p.2).sum = ((List.range mo).map fun i => 2 ^ (l - (i + 1))).sum := by
          rw [List.map_map]
          rfl
        have efs : ((List.range mo).map fun i => (ys.getD i V.non, l - (i + 1))).map (fun p => p.1) = ys := by
          rw [List.map_map]
          refine List.ext_getElem? fun j => ?_
          rw [List.getElem?_map]
          by_cases hj : j < mo
          · rw [List.getElem?_range hj]
            show some (ys.getD j V.non) = _
            rw [List.getD_eq_getElem?_getD, List.getElem?_eq_getElem (by omega)]
            rfl
          · rw [List.getElem?_eq_none (by rw [List.length_range]; omega), List.getElem?_eq_none (by omega)]
            rfl
        refine ⟨((qs ++ (List.range mo).map fun i => (ys.getD i V.non, l - (i + 1))).map fun p => 2 ^ p.2).sum, ?_, fs, qs ++ (List.range mo).map fun i => (ys.getD i V.non, l - (i + 1)), _, _, _, rfl, rfl, ?_, ?_, fun f0 hf0 => ((hf5 f0 hf0).keeps (Keeps.of e6)).keeps kX, fun p hp => ?_, ?_, .inr ?_, fun c v n1 n2 q => ?_⟩
        · rw [List.map_append, List.sum_append, ecs]
          omega
        · rw [upd_ne nFW]
          exact e6 _ _ hF5
        · rw [upd_same, List.map_append, efs]
        · rcases List.mem_append.mp hp with q | q
          · exact ((hw5 p q).keeps (Keeps.of e6)).keeps kX
          · obtain ⟨i, hi, rfl⟩ := List.mem_map.mp q
            have hi' : i < ys.length := by rw [hyl]; exact List.mem_range.mp hi
            have := hyr i ys[i] (List.getElem?_eq_getElem hi')
            have eg : ys.getD i V.non = ys[i] := by
              rw [List.getD_eq_getElem?_getD, List.getElem?_eq_getElem hi']
              rfl
            show WT K size _ (l - (i + 1)) (ys.getD i V.non)
            rw [eg]
            exact this.keeps kX
        · rw [List.map_append, List.sum_append, ecs]
          omega
        · intro hnil
          have := congrArg List.length hnil
          rw [List.length_append, List.length_map, List.length_range] at this
          simp at this
          omega
        · rw [upd_ne n2]
          exact e6 _ _ (hk5 c v n1 n2 q)
end
end

/-! Zips of tuples of integers. -/

section
open PySem PySem.Spec PyProof.Rows L2 Gd
theorem smallH {n : Nat} (h : n ≤ 1000) : n ≤ sizeLine := Nat.le_trans h (by show 1000 ≤ sizeLine; decide)
def lift2 (g : Int → Int → V) : V → V → V := fun x y => match x, y with
  | .int a, .int b => g a b
  | _, _ => .non
def lift2b (c : Int → Int → Bool) : V → V → Bool := fun x y => match x, y with
  | .int a, .int b => c a b
  | _, _ => false
theorem zip_lift (c : Int → Int → Bool) (g : Int → Int → V) : ∀ xs ys : List Int, (((xs.map V.int).zip (ys.map V.int)).filter fun p => lift2b c p.1 p.2).map (fun p => lift2 g p.1 p.2) = ((xs.zip ys).filter fun q => c q.1 q.2).map fun q => g q.1 q.2
  | [], _ => by simp
  | _ :: _, [] => by simp
  | x :: xs, y :: ys => by
    have ih := zip_lift c g xs ys
    simp only [List.map_cons, List.zip_cons_cons, List.filter_cons]
    have e : lift2b c (V.int x) (V.int y) = c x y := rfl
    rw [e]
    split
    · rw [List.map_cons, List.map_cons, ih]
      rfl
    · exact ih
section
variable {K : PySem.W.Frag} {H1 : Hp} {tt : TT} {te : TE} {vs : List Nat} {σ : L2.St} {Q : VK} {a b : Addr} {i1 i2 : Nat}
/-- over zip of two tuples of integers -/
theorem lcZI {ns ms : List Int} (ha : SqT K H1 a (ns.map V.int)) (hb : SqT K H1 b (ms.map V.int)) (hl : ns.length ≤ 900) (c : Int → Int → Bool) (g : Int → Int → V)
    (body : ∀ (x y : Int) H', (x, y) ∈ ns.zip ms → Ext H1 H' → ∀ (Qe : VK) (Qn : Hp → Prop), (∀ H3, Ext H' H3 → c x y = true → Qe (g x y) H3) → (∀ H3, Ext H' H3 → c x y = false → Qn H3) →
      wipe (((wipe σ vs).set i1 (some (.int x))).set i2 (some (.int y))) vs = wipe σ vs ∧ tt (((wipe σ vs).set i1 (some (.int x))).set i2 (some (.int y))) H' fun b H3 => if b = true then te (((wipe σ vs).set i1 (some (.int x))).set i2 (some (.int y))) H3 Qe else Qn H3)
    (k : ∀ H' D, Ext H1 H' → H1 D = none → H' D = some (.lst (((ns.zip ms).filter fun q => c q.1 q.2).map fun q => g q.1 q.2)) → Q (.ref D) H') :
    ∃ k1 k2 a' b' xs ys, [V.ref a, V.ref b] = [V.ref a', V.ref b'] ∧ SqE K k1 H1 a' xs ∧ SqE K k2 H1 b' ys ∧ LcG (ItzE K k1 k2 a' b') (gTup K 2 (gCons (gName i1) (gCons (gName i2) gNil))) tt te vs σ H1 Q := by
  refine lcZ (l1 := false) (l2 := false) ha hb (small (by simp only [List.length_map]; omega)) (lift2b c) (lift2 g) (fun x y H' hxy e Qe Qn he hn => ?_) (fun H' D e hD hd => ?_)
  · rw [List.zip_map] at hxy
    obtain ⟨⟨n, m⟩, hnm, e1⟩ := List.mem_map.mp hxy
    cases e1
    exact body n m H' hnm e Qe Qn he hn
  · rw [zip_lift] at hd
    exact k H' D e hD hd
end
theorem filter_yes {α : Type} (xs : List α) : (xs.filter fun _ => true) = xs := List.filter_eq_self.mpr fun _ _ => rfl
theorem g_neS1 {H : Hp} {Q : VK} {i j : Int} (e : i = j) (k : Q (.bl false) H) : rNe (.int i) (.int j) H Q := by
  subst e
  exact ⟨rfl, by simpa using k⟩
end

/-! Tuples of integers in the heap; loops and comprehensions over lists and tuples. -/

section
open PySem PySem.Spec PyProof.Rows L2 Gd
/-- a tuple of integers -/
def TR (H : Hp) (f : V) (xs : List Int) : Prop := ∃ b, f = .ref b ∧ H b = some (.tup (xs.map V.int))
abbrev TRs (H : Hp) (fs : List V) (xss : List (List Int)) : Prop := Paired (TR H) fs xss
theorem TR.ext {H H' : Hp} (e : Ext H H') {f : V} {xs : List Int} (h : TR H f xs) : TR H' f xs := by
  obtain ⟨b, rfl, h⟩ := h
  exact ⟨b, rfl, e _ _ h⟩
theorem TR.but {H H' : Hp} {d : Addr} {ys : List V} (hd : H d = none ∨ H d = some (.lst ys)) (e : ExtBut d H H') {f : V} {xs : List Int} (h : TR H f xs) : TR H' f xs := by
  obtain ⟨b, rfl, h⟩ := h
  refine ⟨b, rfl, e _ _ (fun z => ?_) h⟩
  subst z
  rcases hd with hd | hd <;> rw [h] at hd <;> cases hd
theorem TR.sq {K : PySem.W.Frag} {H : Hp} {b : Addr} {xs : List Int} (h : TR H (.ref b) xs) : SqT K H b (xs.map V.int) := by
  obtain ⟨c, e, h⟩ := h
  cases e
  exact .inl (.inl h)
theorem trs_ext {H H' : Hp} (e : Ext H H') {fs : List V} {xss : List (List Int)} (h : TRs H fs xss) : TRs H' fs xss := Paired.mapP h fun _ _ z => TR.ext e z
theorem trs_but {H H' : Hp} {d : Addr} {ys : List V} (hd : H d = none ∨ H d = some (.lst ys)) (e : ExtBut d H H') {fs : List V} {xss : List (List Int)} (h : TRs H fs xss) : TRs H' fs xss := Paired.mapP h fun _ _ z => TR.but hd e z
theorem pair_append {α β : Type} {F : α → β → Prop} : ∀ {a c : List α} {b d : List β}, Paired F a b → Paired F c d → Paired F (a ++ c) (b ++ d)
  | _, _, _, _, .nil, h => h
  | _, _, _, _, .cons h t, h2 => .cons h (pair_append t h2)
theorem pair_at {α β : Type} {F : α → β → Prop} : ∀ {a : List α} {b : List β}, Paired F a b → ∀ (i : Nat) (x : α), a[i]? = some x → ∃ y, b[i]? = some y ∧ F x y
  | _, _, .nil, i, x, e => by simp at e
  | _, _, .cons (b := q) h t, 0, x, e => by
    have e' := Option.some.inj e
    subst e'
    exact ⟨q, rfl, h⟩
  | _, _, .cons h t, i + 1, x, e => pair_at t i x e
theorem pair_of {α β : Type} {F : α → β → Prop} : ∀ {a : List α} {b : List β}, a.length = b.length → (∀ (i : Nat) x y, a[i]? = some x → b[i]? = some y → F x y) → Paired F a b
  | [], [], _, _ => .nil
  | [], _ :: _, h, _ => by simp at h
  | _ :: _, [], h, _ => by simp at h
  | x :: a, y :: b, h, f => .cons (f 0 x y rfl rfl) (pair_of (by simpa using h) fun i x y h1 h2 => f (i + 1) x y h1 h2)
theorem pair_len {α β : Type} {F : α → β → Prop} {a : List α} {b : List β} (h : Paired F a b) : a.length = b.length := Gd.paired_len h
/-- what a loop over J asks -/
abbrev ForG (J : It) (g : TG) (tb : TS) (D : Ends) (σ : L2.St) (H : Hp) : Prop := ∃ W : Nat → Nat → L2.St → Hp → Prop, (∃ m, W 0 m σ H) ∧ ∀ i m σ H, W i m σ H →
      (J.stop i H ∧ D.nx σ H) ∨ (J.go i H ∧ ∃ N : L2.St → Hp → Prop, (∀ σ' H', N σ' H' → ∃ m', m' < m ∧ W (i + 1) m' σ' H') ∧ ∀ x H', J.yld i H x H' → g x σ H' fun σ2 H2 => tb { D with nx := N, ct := N, bk := D.nx } σ2 H2)
theorem g_forT {K : PySem.W.Frag} {te : TE} {g : TG} {tb : TS} {D : Ends} {σ : L2.St} {H : Hp} (k : te σ H fun x H1 => ∃ a, x = .ref a ∧ (∃ xs, SqT K H1 a xs) ∧ ForG (Itt K a) g tb D σ H1) : tFor (iTup K te) g tb D σ H := k
theorem g_forL {K : PySem.W.Frag} {te : TE} {g : TG} {tb : TS} {D : Ends} {σ : L2.St} {H : Hp} (k : te σ H fun x H1 => ∃ a, x = .ref a ∧ (∃ xs, SqL K H1 a xs) ∧ ForG (Itl K a) g tb D σ H1) : tFor (iList K te) g tb D σ H := k
/-- over the items of a tuple -/
theorem forT {K : PySem.W.Frag} {a : Addr} {xs : List V} {g : TG} {tb : TS} {D : Ends} {σ : L2.St} {H : Hp} (hs : SqT K H a xs) (Pv : Nat → L2.St → Hp → Prop) (h0 : Pv 0 σ H) (hG : ∀ i σ H, i ≤ xs.length → Pv i σ H → SqT K H a xs)
    (hb : ∀ i x σ H, xs[i]? = some x → Pv i σ H → g x σ H fun σ2 H2 => tb { D with nx := Pv (i + 1), ct := Pv (i + 1), bk := D.nx } σ2 H2) (hd : ∀ σ H, Pv xs.length σ H → D.nx σ H) :
    ∃ a', V.ref a = .ref a' ∧ (∃ xs, SqT K H a' xs) ∧ ForG (Itt K a') g tb D σ H :=
  ⟨a, rfl, ⟨_, hs⟩, for_it walk_tup Pv h0 hG (fun i x σ H H' _ p y => by obtain ⟨rfl, e⟩ := y; exact hb i x σ _ e p) hd⟩
/-- over the items of a list -/
theorem forL {K : PySem.W.Frag} {a : Addr} {xs : List V} {g : TG} {tb : TS} {D : Ends} {σ : L2.St} {H : Hp} (hs : SqL K H a xs) (Pv : Nat → L2.St → Hp → Prop) (h0 : Pv 0 σ H) (hG : ∀ i σ H, i ≤ xs.length → Pv i σ H → SqL K H a xs)
    (hb : ∀ i x σ H, xs[i]? = some x → Pv i σ H → g x σ H fun σ2 H2 => tb { D with nx := Pv (i + 1), ct := Pv (i + 1), bk := D.nx } σ2 H2) (hd : ∀ σ H, Pv xs.length σ H → D.nx σ H) :
    ∃ a', V.ref a = .ref a' ∧ (∃ xs, SqL K H a' xs) ∧ ForG (Itl K a') g tb D σ H :=
  ⟨a, rfl, ⟨_, hs⟩, for_it walk_list Pv h0 hG (fun i x σ H H' _ p y => by obtain ⟨rfl, e⟩ := y; exact hb i x σ _ e p) hd⟩
/-- a comprehension over a list whose results stand in a relation to the item -/
theorem lcLR {K : PySem.W.Frag} {σ : L2.St} {H1 : Hp} {vs : List Nat} {g : TG} {tt : TT} {te : TE} {Q : VK} {a : Addr} {xs : List V} (hs : SqL K H1 a xs) (sz : xs.length < sizeLine) (R : Nat → V → Hp → Prop) (mono : ∀ i y H H', Keeps H H' → R i y H → R i y H')
    (body : ∀ (i : Nat) x H', xs[i]? = some x → Ext H1 H' → ∀ (Qe : VK) (Qn : Hp → Prop), (∀ y H3, Ext H' H3 → R i y H3 → Qe y H3) →
      g x (wipe σ vs) H' fun σ2 H2 => wipe σ2 vs = wipe σ vs ∧ tt σ2 H2 fun b H3 => if b = true then te σ2 H3 Qe else Qn H3)
    (k : ∀ H' D ys, Ext H1 H' → H1 D = none → H' D = some (.lst ys) → ys.length = xs.length → (∀ i y, ys[i]? = some y → R i y H') → Q (.ref D) H') :
    ∃ a', V.ref a = .ref a' ∧ (∃ xs, SqL K H1 a' xs) ∧ LcG (Itl K a') g tt te vs σ H1 Q := by
  refine ⟨a, rfl, ⟨_, hs⟩, fun D hD => lc_rel walk_list R (fun _ => true) (fun i y D ys H H' hd e r => mono i y H H' (keeps_but hd e) r) hD (fun H' e => sqL_ext e hs) sz (fun i x H' H'' hi e hy Qe Qn he hn => ?_) (fun H' ys e hd hr => ?_)⟩
  · obtain ⟨rfl, hx⟩ := hy
    exact body i x _ hx e Qe Qn fun y H3 e3 r => he y H3 e3 r rfl
  · rw [idx_all] at hr
    have hl := hr.1
    rw [List.length_range] at hl
    refine k H' D ys e hD hd hl.symm fun i y hy => hr.2 i i y ?_ hy
    rw [List.getElem?_range (by have := (List.getElem?_eq_some_iff.mp hy).1; omega)]
theorem g_ilistC {K : PySem.W.Frag} {te : TE} {σ : L2.St} {H : Hp} {R : It → Hp → Prop} (k : te σ H fun x H1 => ∃ a, x = .ref a ∧ (∃ xs, SqL K H1 a xs) ∧ R (Itl K a) H1) : iList K te σ H R := k
theorem TR.keeps {H H' : Hp} (e : Keeps H H') {f : V} {xs : List Int} (h : TR H f xs) : TR H' f xs := by
  obtain ⟨b, rfl, h⟩ := h
  exact ⟨b, rfl, e _ _ (fun _ z => by cases z) h⟩
theorem g_catR {K : PySem.W.Frag} {H : Hp} {Q : VK} {a b : Addr} {xs : List Int} {n : Int} (ha : TR H (.ref a) xs) (hb : H b = some (.tup [.int n])) (hl : xs.length ≤ 900) (k : ∀ H' p, Ext H H' → TR H' (.ref p) (xs ++ [n]) → Q (.ref p) H') : rCatA K (.ref a) (.ref b) H Q := by
  refine ⟨a, b, _, [.int n], rfl, rfl, ha.sq, SqT.of hb, by rw [List.length_map, List.length_singleton]; exact smallH (by omega), fun e => ?_, fun _ e => (by cases e), fun _ _ p hp => ?_⟩
  · have e' : xs = [] := by simpa using e
    subst e'
    exact k H b (fun _ _ z => z) ⟨b, rfl, hb⟩
  · refine k _ p (Ext.new hp) ⟨p, rfl, ?_⟩
    rw [upd_same, List.map_append]
    rfl
end

/-! All falling rows of a sum, in their order. -/

section
open PySem PySem.Spec PyProof.Rows L2 Gd
/-- all falling rows of the sum t whose first number is at most g, the greatest first -/
def rowsN : Nat → Nat → Nat → List (List Int)
  | 0, _, _ => [[]]
  | f + 1, t, g => if t = 0 then [[]] else (List.range g).flatMap fun i => if g - i ≤ t then (rowsN f (t - (g - i)) (g - i)).map (fun r => ((g - i : Nat) : Int) :: r) else []
def rows (t g : Nat) : List (List Int) := rowsN t t g
theorem flat_cong {α β : Type} {f g : α → List β} : ∀ {l : List α}, (∀ a ∈ l, f a = g a) → l.flatMap f = l.flatMap g
  | [], _ => rfl
  | a :: l, h => by
    rw [List.flatMap_cons, List.flatMap_cons, h a List.mem_cons_self, flat_cong fun b hb => h b (List.mem_cons_of_mem _ hb)]
theorem rowsN_fuel : ∀ (f f' t g : Nat), t ≤ f → t ≤ f' → rowsN f t g = rowsN f' t g
  | 0, 0, _, _, _, _ => rfl
  | 0, f' + 1, t, g, h, _ => by
    have h0 : t = 0 := by omega
    subst h0
    rfl
  | f + 1, 0, t, g, _, h => by
    have h0 : t = 0 := by omega
    subst h0
    rfl
  | f + 1, f' + 1, t, g, h1, h2 => by
    by_cases h0 : t = 0
    · subst h0
      rfl
    · unfold rowsN
      rw [if_neg h0, if_neg h0]
      refine flat_cong fun i hi => ?_
      have hig := List.mem_range.mp hi
      by_cases hi : g - i ≤ t
      · rw [if_pos hi, if_pos hi, rowsN_fuel f f' (t - (g - i)) (g - i) (by omega) (by omega)]
      · rw [if_neg hi, if_neg hi]
/-- the rows that begin with the i-th one from the greatest number on -/
def rowsAt (t g i : Nat) : List (List Int) := if g - i ≤ t then (rows (t - (g - i)) (g - i)).map (fun r => ((g - i : Nat) : Int) :: r) else []
theorem rows_zero (g : Nat) : rows 0 g = [[]] := rfl
theorem rows_pos {t : Nat} (h : t ≠ 0) (g : Nat) : rows t g = (List.range g).flatMap (rowsAt t g) := by
  obtain ⟨f, rfl⟩ : ∃ f, t = f + 1 := ⟨t - 1, by omega⟩
  unfold rows rowsN
  rw [if_neg h]
  refine flat_cong fun i hi => ?_
  have hig := List.mem_range.mp hi
  unfold rowsAt rows
  by_cases hi : g - i ≤ f + 1
  · rw [if_pos hi, if_pos hi, rowsN_fuel f (f + 1 - (g - i)) _ _ (by omega) (by omega)]
  · rw [if_neg hi, if_neg hi]
/-- tuples of integers of which it is known that they have no dict -/
def RX (K : PySem.W.Frag) (H : Hp) (f : V) (xs : List Int) : Prop := ∃ a, f = .ref a ∧ TupX K H a (xs.map V.int)
abbrev RXs (K : PySem.W.Frag) (H : Hp) (fs : List V) (xss : List (List Int)) : Prop := Paired (RX K H) fs xss
theorem RX.keeps {K : PySem.W.Frag} {H H' : Hp} (e : Keeps H H') {f : V} {xs : List Int} (h : RX K H f xs) : RX K H' f xs := by
  obtain ⟨a, rfl, h⟩ := h
  exact ⟨a, rfl, TupX.keeps e h⟩
theorem RX.ext {K : PySem.W.Frag} {H H' : Hp} (e : Ext H H') {f : V} {xs : List Int} (h : RX K H f xs) : RX K H' f xs := h.keeps (Keeps.of e)
theorem rxs_keeps {K : PySem.W.Frag} {H H' : Hp} (e : Keeps H H') {fs : List V} {xss : List (List Int)} (h : RXs K H fs xss) : RXs K H' fs xss := Paired.mapP h fun _ _ z => z.keeps e
theorem rxs_ext {K : PySem.W.Frag} {H H' : Hp} (e : Ext H H') {fs : List V} {xss : List (List Int)} (h : RXs K H fs xss) : RXs K H' fs xss := rxs_keeps (Keeps.of e) h
theorem rows_len : ∀ t, t ≤ 12 → ∀ g, g ≤ 12 → (rows t g).length ≤ 77 := by decide +kernel
theorem rows_short : ∀ t, t ≤ 12 → ∀ g, g ≤ 12 → ∀ r ∈ rows t g, r.length ≤ 12 := by decide +kernel
theorem rows_part {t g : Nat} (h : t ≠ 0) (ht : t ≤ 12) (hg : g ≤ 12) {i : Nat} (hi : i ≤ g) : ((List.range i).flatMap (rowsAt t g)).length ≤ 77 := by
  have h1 := rows_len t ht g hg
  rw [rows_pos h] at h1
  have e : List.range g = List.range i ++ (List.range (g - i)).map (i + ·) := by
    rw [← List.range_add]
    congr 1
    omega
  rw [e, List.flatMap_append, List.length_append] at h1
  omega
section
variable {P : Program} {w : World} {K : PySem.W.Frag} {mg : Str → Option Value} {base : Heap} {f : Addr} {fd : FuncData}
abbrev sFR : Stmt := top 18
theorem scFR : FnScope ["total", "greatest", "rows", "first", "row"] ["total", "greatest"] (defScope sFR) := ⟨rfl, rfl, rfl, by decide +kernel, rfl, by decide +kernel, by decide +kernel⟩
def spFR (K : PySem.W.Frag) (n : Nat) : Sp := fun vs H Q _ => ∃ (t g : Nat), vs = [.int (t : Int), .int (g : Int)] ∧ t < n ∧ t ≤ 12 ∧ g ≤ 12 ∧ ∀ H' F fs, Ext H H' → H F = none → H' F = some (.lst fs) → RXs K H' fs (rows t g) → Q (.ref F) H'
theorem g_forC {K : PySem.W.Frag} {ta : TA} {g : TG} {tb : TS} {D : Ends} {σ : L2.St} {H : Hp} (k : ta σ H fun vs H1 => ∃ (i j c : Int) (n : Nat), vs = [.int i, .int j, .int c] ∧ RgC i j c n ∧ ∃ W : Nat → Nat → L2.St → Hp → Prop, (∃ m, W 0 m σ H1) ∧ ∀ i' m σ H, W i' m σ H →
  ((Itc i c n).stop i' H ∧ D.nx σ H) ∨ ((Itc i c n).go i' H ∧ ∃ N : L2.St → Hp → Prop, (∀ σ' H', N σ' H' → ∃ m', m' < m ∧ W (i' + 1) m' σ' H') ∧ ∀ x H', (Itc i c n).yld i' H x H' → g x σ H' fun σ2 H2 => tb { D with nx := N, ct := N, bk := D.nx } σ2 H2)) :
    tFor (iRng3 ta) g tb D σ H := k
theorem g_star {K : PySem.W.Frag} {te : TE} {t : TA} {σ : L2.St} {H : Hp} {Q : List V → Hp → Prop} (k : te σ H fun x H1 => ∃ p xs, x = V.ref p ∧ (SqT K H1 p xs ∨ SqL K H1 p xs) ∧ t σ H1 fun ys H2 => Q (xs ++ ys) H2) : StX.tStar K te t σ H Q := k
theorem ok_fr {n : Nat} (F : Fun K "falling_rows" "falling_rows" sFR f fd) (T : Txt K mg) (Fr : Def1 P w K mg base CX0 (n + 1) "falling_rows" ["total", "greatest"] (spFR K n)) : FnOk P w K mg base CX0 (n + 1 + 1) f fd ["total", "greatest"] (spFR K (n + 1)) := by
  refine F.ok scFR (fun vs H Q E h => ?_) (fun cdv A outer s H vs Q E hr h => ?_)
  · obtain ⟨t, g, rfl, _⟩ := h
    rfl
  · obtain ⟨t, g, rfl, htn, ht, hg, k⟩ := h
    refine ⟨_, pss_cons (ps_if (pt_cmpR op_eq (pv 0) pe_int (nomark _)) (pss_one (ps_ret (pe_lst (pa_cons (pe_tupX pa_nil) pa_nil)))) pss_nil)
      (pss_cons (ps_set (i := 2) scFR.nd rfl (Or.inl rfl) (pe_lst pa_nil))
      (pss_cons (ps_for PassesOwn.never rfl (pi_range3 (by rfl) T.range (pa_cons (pv 1) (pa_cons pe_int (pa_cons (pe_un un_neg pe_int) pa_nil)))) (pg_name (i := 3) scFR.nd rfl (Or.inr rfl)) (pss_one (ps_if (pt_cmpR op_le (pv 3) (pv 0) (nomark _)) (pss_one (ps_expr (pe_bm PySem.F.plainAttrs_list PySem.F.slot_list_extend PySem.F.type_list_extend mt_extend (pv 2) (pa_cons (pe_lc (own := [("row", 4)]) (g := gName 4) (tt := tYes) rfl scFR.nd (pi_list (pe_def Fr hr (Nat.le_refl _) (by rfl) (pa_cons (pe_op op_sub (pv 0) (pv 3)) (pa_cons (pv 3) pa_nil)))) (blkOk_by (N := ["total", "greatest", "rows", "first", "row"]) (sc := defScope sFR) (by decide +kernel)) (fun _ _ _ _ _ => pg_name (i := 4) scFR.nd rfl (Or.inl rfl)) (fun _ _ _ _ _ => pts_nil) (fun _ _ _ _ _ => by exact (pe_tupX (pa_cons (pv 3) (by refine (show PA _ _ (StX.tStar K (tVar 4) tNil) from ?_); exact StX.pa_star (pv 4) pa_nil))))) pa_nil)))) pss_nil)))
      (pss_one (ps_ret (pv 2))))), ?_⟩
    try dsimp only [cx_nox, cx_K]
    walk_at "rd"
    refine ite2 (fun h1 => ?_) (fun h1 => ?_)
    · have h0 : t = 0 := by
        have := of_decide_eq_true h1
        omega
      subst h0
      walk_at "rd"
      refine g_tupX ?_
      walk_at "rd"
      refine ⟨Nat.zero_le _, fun a o ha ho => ?_⟩
      walk_at "rd"
      refine ⟨by show 1 ≤ sizeLine; decide, fun Fa hFa => ?_⟩
      have e1 := Ext.new (o := HO.frz o (.tup [])) ha
      have e2 := Ext.new (o := HO.lst [V.ref a]) hFa
      exact k _ Fa [.ref a] (Ext.trans e1 e2) (new_up e1 hFa) upd_same (.cons ⟨a, rfl, (TupX.new ho).ext e2⟩ .nil)
    · have h0 : t ≠ 0 := fun z => h1 (by rw [z]; rfl)
      walk_at "rd"
      refine ⟨Nat.zero_le _, fun Fa hFa => ?_⟩
      walk_at "rd"
      have eF := Ext.new (o := HO.lst []) hFa
      refine g_forC (K := K) ?_
      walk_at "rd"
      refine ⟨_, _, _, _, rfl, RgC.neg (by omega) (by omega) (by decide) (by decide), ?_⟩
      rw [Int.sub_zero, Int.toNat_natCast]
      refine for_rangeC (fun i σ H' => ∃ (fs : List V) (x3 : Option V), σ = [some (.int (t : Int)), some (.int (g : Int)), some (.ref Fa), x3, none] ∧ Ext H H' ∧ H' Fa = some (.lst fs) ∧ RXs K H' fs ((List.range i).flatMap (rowsAt t g)))
        ⟨[], none, rfl, eF, upd_same, .nil⟩ ?_ ?_
      · rintro i σ H2 hi ⟨fs, x3, rfl, e2, hF2, hfs⟩
        have ea : (g : Int) + (i : Nat) * (-1) = ((g - i : Nat) : Int) := by omega
        rw [ea]
        have eS : (List.range (i + 1)).flatMap (rowsAt t g) = (List.range i).flatMap (rowsAt t g) ++ rowsAt t g i := by
          rw [List.range_succ, List.flatMap_append, List.flatMap_cons, List.flatMap_nil, List.append_nil]
        refine g_name (g_gen fun D1 hn1 _ => ?_)
        walk_at "rd"
        refine ite2 (fun h2 => ?_) (fun h2 => ?_)
        · have hat : g - i ≤ t := by
            have := of_decide_eq_true h2
            omega
          have hlen := pair_len hfs
          have hpl := rows_part h0 ht hg (Nat.le_of_lt hi)
          walk_at "rd"
          refine ⟨.inl ⟨rfl, _, SqL.of hF2⟩, ?_⟩
          walk_at "rd"
          refine g_lc (g_ilistC ?_)
          walk_at "rd"
          refine ⟨t - (g - i), g - i, by rw [show (((t - (g - i) : Nat)) : Int) = (t : Int) - ((g - i : Nat) : Int) by omega]; rfl, by omega, by omega, by omega, fun H3 Fb gs e3 hFb0 hFb hgs => ?_⟩
          walk_at "rd"
          have hgl := pair_len hgs
          have hrl := rows_len (t - (g - i)) (by omega) (g - i) (by omega)
          refine lcLR (SqL.of hFb) (small (by omega)) (fun c y H => RX K H y (((g - i : Nat) : Int) :: (rows (t - (g - i)) (g - i)).getD c [])) (fun c y H H' e r => r.keeps e) (fun c y H4 hy e4 Qe Qn he => ?_) (fun H4 D ys e4 hD hd hyl hyr => ?_)
          · obtain ⟨xs, hxs, b, rfl, hb⟩ := pair_at hgs c y hy
            have ex : (rows (t - (g - i)) (g - i)).getD c [] = xs := by rw [List.getD_eq_getElem?_getD, hxs]; rfl
            rw [ex] at he
            have hxl := rows_short (t - (g - i)) (by omega) (g - i) (by omega) xs (List.mem_of_getElem? hxs)
            refine ⟨rfl, ?_⟩
            walk_at "rd"
            refine g_tupX ?_
            walk_at "rd"
            refine g_star ?_
            walk_at "rd"
            refine ⟨b, _, rfl, .inl (hb.ext e4).sq, ?_⟩
            walk_at "rd"
            refine ⟨by rw [List.length_cons, List.append_nil, List.length_map]; exact small (by omega), fun p o hp ho => ?_⟩
            rw [List.append_nil]
            exact he _ _ (Ext.new hp) ⟨p, rfl, TupX.new (xs := (((g - i : Nat) : Int) :: xs).map V.int) ho⟩
          · walk_at "rd"
            refine ⟨Fa, D, fs, ys, rfl, rfl, e4 _ _ (e3 _ _ hF2), hd, Nat.le_of_lt (small (by omega)), ?_⟩
            have kX := Keeps.up (ys := fs ++ ys) (e4 _ _ (e3 _ _ hF2))
            have e5 : Ext H (upd H4 Fa (.lst (fs ++ ys))) := fun q o hq => by
              rw [upd_ne (ne_of_none hq hFa)]
              exact e4 _ _ (e3 _ _ (e2 _ _ hq))
            refine hn1 _ _ ⟨fs ++ ys, _, rfl, e5, upd_same, ?_⟩
            rw [eS]
            refine pair_append (rxs_keeps kX (rxs_ext (Ext.trans e3 e4) hfs)) ?_
            unfold rowsAt
            rw [if_pos hat]
            refine pair_of (by rw [List.length_map, hyl, hgl]) fun c y zs h3 h4 => ?_
            rw [List.getElem?_map] at h4
            obtain ⟨xs, hxs, rfl⟩ := Option.map_eq_some_iff.mp h4
            have ex : (rows (t - (g - i)) (g - i)).getD c [] = xs := by rw [List.getD_eq_getElem?_getD, hxs]; rfl
            have h5 := (hyr c y h3).keeps kX
            rw [ex] at h5
            exact h5
        · have hat : ¬ g - i ≤ t := fun z => h2 (decide_eq_true (by omega))
          walk_at "rd"
          refine hn1 _ _ ⟨fs, _, rfl, e2, hF2, ?_⟩
          rw [eS]
          unfold rowsAt
          rw [if_neg hat, List.append_nil]
          exact hfs
      · rintro σ H2 ⟨fs, x3, rfl, e2, hF2, hfs⟩
        walk_at "rd"
        refine k H2 Fa fs e2 hFa hF2 ?_
        rw [rows_pos h0]
        exact hfs
theorem fr_all (F : Fun K "falling_rows" "falling_rows" sFR f fd) (T : Txt K mg) (hm : mg "falling_rows" = some (.ref f)) (hk : PySem.W.keepIn K (.ref f) = true) (hb : Binds K fd ["total", "greatest"] []) : ∀ n, Def1 P w K mg base CX0 (n + 1) "falling_rows" ["total", "greatest"] (spFR K n)
  | 0 => ⟨f, fd, hm, hk, F.ok scFR (fun vs H Q E h => by obtain ⟨t, g, _, h, _⟩ := h; omega) (fun cdv A outer s H vs Q E hr h => by obtain ⟨t, g, _, h, _⟩ := h; omega), hb⟩
  | n + 1 => ⟨f, fd, hm, hk, ok_fr F T (fr_all F T hm hk hb n), hb⟩
end
end

/-! Rows: numbers, the turned one, held, steps, the opposite. -/

section
open PySem PySem.Spec PyProof.Rows L2 Gd
section
variable {P : Program} {w : World} {K : PySem.W.Frag} {mg : Str → Option Value} {base : Heap} {f : Addr} {fd : FuncData}
/-! ### number_at -/
abbrev sNumAt : Stmt := top 19
theorem scNumAt : FnScope ["row", "index"] ["row", "index"] (defScope sNumAt) := ⟨rfl, rfl, rfl, by decide +kernel, rfl, by decide +kernel, by decide +kernel⟩
def spNumAt (K : PySem.W.Frag) : Sp := fun vs H Q _ => ∃ (a : Addr) (ns : List Int) (i : Nat), vs = [.ref a, .int (i : Int)] ∧ SqT K H a (ns.map V.int) ∧ Q (.int (ns.getD i 0)) H
theorem ok_numAt (F : Fun K "number_at" "number_at" sNumAt f fd) (T : Txt K mg) : FnOk P w K mg base CX0 1 f fd ["row", "index"] (spNumAt K) := by
  refine F.ok scNumAt (fun vs H Q E h => ?_) (fun cdv A outer s H vs Q E hr h => ?_)
  · obtain ⟨a, ns, i, rfl, _⟩ := h
    rfl
  · obtain ⟨a, ns, i, rfl, hs, k⟩ := h
    refine ⟨_, pss_one (ps_ret (pe_ifExp (pt_cmpR op_lt (pv 1) (pe_callB call_len_seq (by rfl) T.len PySem.boot_len (pa_cons (pv 0) pa_nil)) (nomark _)) (pe_ix ix_tup (pv 0) (pv 1) (fun _ _ => rfl)) pe_int)), ?_⟩
    try dsimp only [cx_nox, cx_K]
    walk_at "rd"
    refine ⟨a, _, rfl, .inr hs, ?_⟩
    walk_at "rd"
    rw [List.length_map]
    refine ite2 (fun h1 => ?_) (fun h1 => ?_)
    · have h2 := of_decide_eq_true h1
      have hlt : i < ns.length := by omega
      walk_at "rd"
      exact g_ixT hs (atI_nat (getI hlt)) k
    · have hlt : ¬ i < ns.length := fun z => h1 (decide_eq_true (by omega))
      rw [getD_big hlt] at k
      walk_at "rd"
      exact k
/-! ### the turned row -/
def gtI (i : Nat) : V → Bool := fun v => match v with
  | .int n => decide ((i : Int) < n)
  | _ => false
theorem filter_gtI {ns : List Int} {i : Nat} : ((ns.map V.int).filter (gtI i)).length = (ns.filter fun x => decide ((i : Int) < x)).length := by
  rw [List.filter_map, List.length_map]
  rfl
theorem numZ {ns : List Int} : (0 + ns.getD 0 0 : Int).toNat = (ns.getD 0 0).toNat := by rw [Int.zero_add]
def turnM (ns : List Int) : List Int := (List.range (ns.getD 0 0).toNat).map fun (i : Nat) => ((ns.filter fun x => decide ((i : Int) < x)).length : Int)
/-! ### held -/
abbrev sHeld : Stmt := top 21
def heldM (ns ms : List Int) : Bool := decide (ns.length ≤ ms.length) && ((ns.zip ms).all fun p => decide (p.1 ≤ p.2))
def leV : V → V → V := fun x y => match x, y with
  | .int n, .int m => .bl (decide (n ≤ m))
  | _, _ => .non
theorem held_map {ns ms : List Int} : (((ns.map V.int).zip (ms.map V.int)).filter fun _ => true).map (fun p => leV p.1 p.2) = ((ns.zip ms).map fun p => decide (p.1 ≤ p.2)).map V.bl := by
  rw [List.filter_eq_self.mpr (fun _ _ => rfl), List.zip_map, List.map_map, List.map_map]
  rfl
theorem scHeld : FnScope ["row", "other", "x", "y"] ["row", "other"] (defScope sHeld) := ⟨rfl, rfl, rfl, by decide +kernel, rfl, by decide +kernel, by decide +kernel⟩
def spHeld (K : PySem.W.Frag) : Sp := fun vs H Q _ => ∃ (a b : Addr) (ns ms : List Int), vs = [.ref a, .ref b] ∧ SqT K H a (ns.map V.int) ∧ SqT K H b (ms.map V.int) ∧ Fall ns ∧ Fall ms ∧ ∀ H', Ext H H' → Q (.bl (heldM ns ms)) H'
theorem ok_held (F : Fun K "is_held" "is_held" sHeld f fd) (T : Txt K mg) : FnOk P w K mg base CX0 1 f fd ["row", "other"] (spHeld K) := by
  refine F.ok scHeld (fun vs H Q E h => ?_) (fun cdv A outer s H vs Q E hr h => ?_)
  · obtain ⟨a, b, ns, ms, rfl, _⟩ := h
    rfl
  · obtain ⟨a, b, ns, ms, rfl, hs, ht, hF, hG, k⟩ := h
    refine ⟨_, pss_one (ps_ret (pe_and (pe_cmpR op_le (pe_callB call_len_seq (by rfl) T.len PySem.boot_len (pa_cons (pv 0) pa_nil)) (pe_callB call_len_seq (by rfl) T.len PySem.boot_len (pa_cons (pv 1) pa_nil)) (nomark _)) (pe_one (pe_callB (cr_all rfl) (by rfl) T.all (by decide +kernel) (pa_cons (pe_lc (own := [("x", 2), ("y", 3)]) (g := gTup K 2 (gCons (gName 2) (gCons (gName 3) gNil))) (tt := tYes) rfl scHeld.nd (pi_zipE (by rfl) T.zip (pa_cons (pv 0) (pa_cons (pv 1) pa_nil))) (blkOk_by (N := ["row", "other", "x", "y"]) (sc := defScope sHeld) (by decide +kernel)) (fun _ _ _ _ _ => pg_tup rfl (pgs_cons (pg_name (i := 2) scHeld.nd rfl (Or.inl rfl)) (pgs_cons (pg_name (i := 3) scHeld.nd rfl (Or.inl rfl)) pgs_nil))) (fun _ _ _ _ _ => pts_nil) (fun _ _ _ _ _ => (pe_cmpR op_le (pv 2) (pv 3) (nomark _)))) pa_nil))))), ?_⟩
    try dsimp only [cx_nox, cx_K]
    have hlen := hF.len
    walk_at "rd"
    refine ⟨a, _, rfl, .inr hs, ?_⟩
    walk_at "rd"
    refine ⟨b, _, rfl, .inr ht, ?_⟩
    walk_at "rd"
    rw [List.length_map, List.length_map]
    refine ite2 (fun h1 => ?_) (fun h1 => ?_)
    · have h2 := of_decide_eq_true h1
      walk_at "rd"
      refine g_lc ?_
      unfold iZipE
      walk_at "rd"
      refine lcZ (l1 := false) (l2 := false) hs ht (small (by rw [List.length_map]; omega)) (fun _ _ => true) leV (fun x y H' hxy e Qe Qn he hn => ?_) (fun H' D e hD hd => ?_)
      · rw [List.zip_map] at hxy
        obtain ⟨⟨n, m⟩, hnm, e1⟩ := List.mem_map.mp hxy
        cases e1
        refine ⟨rfl, ?_⟩
        walk_at "rd"
        exact he _ (fun _ _ z => z) rfl
      · rw [held_map] at hd
        walk_at "rd"
        refine ⟨D, _, rfl, SqL.of hd, ?_⟩
        have e1 : heldM ns ms = ((ns.zip ms).map fun p => decide (p.1 ≤ p.2)).all id := by
          unfold heldM
          rw [decide_eq_true (show ns.length ≤ ms.length by omega), Bool.true_and, List.all_map]
          rfl
        rw [← e1]
        exact k H' e
    · have h2 : ¬ ns.length ≤ ms.length := fun z => h1 (decide_eq_true (by omega))
      have e1 : heldM ns ms = false := by
        unfold heldM
        rw [decide_eq_false h2]
        rfl
      walk_at "rd"
      rw [← e1]
      exact k H (fun _ _ z => z)
/-! ### flat steps -/
def flatB (row other : List Int) : Bool := heldM other row && (List.range row.length).all fun i => decide (row.getD i 0 - other.getD i 0 ≤ 1)
def spFlat (K : PySem.W.Frag) : Sp := fun vs H Q _ => ∃ (a b : Addr) (ns ms : List Int), vs = [.ref a, .ref b] ∧ SqT K H a (ns.map V.int) ∧ SqT K H b (ms.map V.int) ∧ Fall ns ∧ Fall ms ∧ ∀ H', Ext H H' → Q (.bl (flatB ns ms)) H'
/-! ### line steps -/
def lineB (row other : List Int) : Bool := heldM other row && (List.range (row.length - 1)).all fun i => decide (row.getD (i + 1) 0 ≤ other.getD i 0)
def spLine (K : PySem.W.Frag) : Sp := fun vs H Q _ => ∃ (a b : Addr) (ns ms : List Int), vs = [.ref a, .ref b] ∧ SqT K H a (ns.map V.int) ∧ SqT K H b (ms.map V.int) ∧ Fall ns ∧ Fall ms ∧ ∀ H', Ext H H' → Q (.bl (lineB ns ms)) H'
/-! ### the opposite in a block -/
def oppM (row : List Int) (wide : Nat) (high : Int) : List Int := ((List.range wide).map fun i => high - row.getD (wide - 1 - i) 0).filter fun x => decide (0 < x)
def posI : V → Bool := fun v => match v with
  | .int n => decide (0 < n)
  | _ => false
theorem posI_filter (l : List Int) : (l.map V.int).filter posI = (l.filter fun x => decide (0 < x)).map V.int := by
  rw [List.filter_map]
  rfl
def spOpp (K : PySem.W.Frag) : Sp := fun vs H Q _ => ∃ (a : Addr) (ns : List Int) (wide : Nat) (high : Int), vs = [.ref a, .int (wide : Int), .int high] ∧ SqT K H a (ns.map V.int) ∧ Fall ns ∧ wide ≤ 12 ∧ 0 ≤ high ∧ high ≤ 12 ∧ ∀ H' u, Ext H H' → TupX K H' u ((oppM ns wide high).map V.int) → Q (.ref u) H'
end
end

/-! Kinds: ==. -/

section
open PySem PySem.Spec PyProof.Rows L2 Gd
section
variable {P : Program} {w : World} {K : PySem.W.Frag} {mg : Str → Option Value} {base : Heap} {f C : Addr} {fd : FuncData}
theorem neg_injQ {ns ms : List Int} : (ns.map fun x => -x) = (ms.map fun x => -x) ↔ ns = ms := by
  constructor
  · intro h
    have h2 := congrArg (List.map fun x : Int => -x) h
    rw [List.map_map, List.map_map] at h2
    have e : ((fun x : Int => -x) ∘ fun x => -x) = id := by
      funext x
      exact Int.neg_neg x
    rw [e, List.map_id, List.map_id] at h2
    exact h2
  · intro h
    rw [h]
theorem dp_pairQ {H : Hp} {t m : Addr} {i : Int} {ns : List Int} (ht : SqT K H t [.int i, .ref m]) (hm : SqT K H m (ns.map V.int)) : Dp K H (.ref t) (.tuple [.int i, .tuple (pdata ns)]) :=
  .tup ht (.cons (.int i) (.cons (.tup hm (pdp ns)) .nil))
theorem sh_pairQ (i : Int) (ns : List Int) : SeqAt.shaped (.tuple [.int i, .tuple (pdata ns)]) = true := by
  have d : ∀ ns : List Int, PyData.depthAll (pdata ns) = 0 := fun ns => by
    induction ns with
    | nil => simp [pdata, PyData.depthAll]
    | cons n r ih =>
      unfold pdata at ih ⊢
      simp [PyData.depthAll, PyData.depth, ih]
  unfold SeqAt.shaped
  simp [PyData.canLay0, PyData.canLayAll0, play, PyData.depth, PyData.depthAll, d]
theorem notFirst_own {G : Addr} : PySem.W.notFirst K G (.ref G) = true := by
  unfold PySem.W.notFirst
  simp
theorem scKEq : FnScope ["self", "other"] ["self", "other"] (defScope (cls 19)) := ⟨rfl, rfl, rfl, by decide +kernel, rfl, by decide +kernel, by decide +kernel⟩
def spKEq (K : PySem.W.Frag) (C : Addr) : Sp := fun vs H Q _ => ∃ (p n t m q n2 t2 m2 : Addr) (ns ms : List Int), vs = [.ref p, .ref q] ∧ KindAt K C H p n t m ns ∧ KindAt K C H q n2 t2 m2 ms ∧ ∀ H', Ext H H' → Q (.bl (decide (ns = ms))) H'
theorem ok_keq (F : Fun K "__eq__" "Kind.__eq__" (cls 19) f fd) (T : Txt K mg) (Cl : KC K mg C) : FnOk P w K mg base CX0 1 f fd ["self", "other"] (spKEq K C) := by
  refine F.ok scKEq (fun vs H Q E h => ?_) (fun cdv A outer s H vs Q E hr h => ?_)
  · obtain ⟨p, n, t, m, q, n2, t2, m2, ns, ms, rfl, _⟩ := h
    rfl
  · obtain ⟨p, n, t, m, q, n2, t2, m2, ns, ms, rfl, ⟨⟨dx, hp⟩, hn, ht, hm, hF⟩, ⟨⟨dy, hq⟩, hn2, ht2, hm2, hF2⟩, k⟩ := h
    refine ⟨_, pss_one (ps_ret (pe_and (pe_callB call_isi (by rfl) T.isinstance (by decide +kernel) (pa_cons (pv 1) (pa_cons (pe_glob (v := .ref C) (by rfl) Cl.g rfl) pa_nil))) (pe_one (pe_cmpR (op_eqD hr.units) (pe_fld (pv 0) rfl) (pe_fld (pv 1) rfl) (nomark _))))), ?_⟩
    try dsimp only [cx_nox, cx_K]
    walk_at "rd"
    refine ⟨_, _, _, _, true, rfl, .own C, Cl.ty hq, Cl.kit, ?_⟩
    walk_at "rd"
    refine ⟨p, C, dx, _, _, rfl, hp, Cl.cl, Cl.noP, look2, ?_⟩
    walk_at "rd"
    refine ⟨q, C, dy, _, _, rfl, hq, Cl.cl, Cl.noP, look2, ?_⟩
    refine ⟨_, _, dp_pairQ ht hm, dp_pairQ ht2 hm2, sh_pairQ _ _, sh_pairQ _ _, ?_⟩
    have e1 : PyData.eqv (.tuple [.int ns.sum, .tuple (pdata (ns.map fun x => -x))]) (.tuple [.int ms.sum, .tuple (pdata (ms.map fun x => -x))]) = (decide (ns.sum = ms.sum) && (decide ((ns.map fun x => -x) = (ms.map fun x => -x)) && true)) := by
      simp only [PyData.eqv, PyData.eqvAll, peqv]
      rfl
    have e : (decide (ns.sum = ms.sum) && (decide ((ns.map fun x => -x) = (ms.map fun x => -x)) && true)) = decide (ns = ms) := by
      rw [Bool.and_true]
      by_cases h : ns = ms
      · subst h
        simp
      · rw [decide_eq_false (p := (ns.map fun x => -x) = (ms.map fun x => -x)) (fun z => h (neg_injQ.mp z)), decide_eq_false h, Bool.and_false]
    rw [e1, e]
    exact k H (fun _ _ z => z)
/-- two kinds of the same numbers -/
theorem g_neKind {H : Hp} {Q : VK} {E : XK} {p n t m q n2 t2 m2 : Addr} {ns ms : List Int} (Cl : KC K mg C) (hp : KindAt K C H p n t m ns) (hq : KindAt K C H q n2 t2 m2 ms) (k : ∀ H', Ext H H' → Q (.bl (!decide (ns = ms))) H') : rNeO K C (spKEq K C) E (.ref p) (.ref q) H Q := by
  obtain ⟨dx, hpi⟩ := id hp.ins
  obtain ⟨dy, hqi⟩ := id hq.ins
  exact ⟨p, dx, _, _, rfl, hpi, Cl.ty hqi, notFirst_own, p, n, t, m, q, n2, t2, m2, ns, ms, rfl, hp, hq, fun H' e => ⟨_, rfl, k H' e⟩⟩
end
end

/-! The law's kinds of a size, in their order. -/

section
open PySem PySem.Spec PyProof.Rows L2 Gd
theorem range_rev : ∀ n : Nat, (List.range n).reverse = (List.range n).map fun j => n - 1 - j
  | 0 => rfl
  | n + 1 => by
    have ih := range_rev n
    rw [List.range_succ, List.reverse_append, ih, ← List.range_succ, List.range_succ_eq_map, List.map_cons, List.map_map]
    show n :: _ = (n + 1 - 1 - 0) :: _
    rw [show n + 1 - 1 - 0 = n by omega]
    congr 1
    refine List.map_congr_left fun j hj => ?_
    have := List.mem_range.mp hj
    show n - 1 - j = n + 1 - 1 - (j + 1)
    omega
theorem rows_min {t g : Nat} (ht : t ≠ 0) (h : t ≤ g) : rows t g = rows t t := by
  rw [rows_pos ht, rows_pos ht]
  have e : List.range g = List.range (g - t) ++ (List.range t).map (g - t + ·) := by
    rw [← List.range_add]
    congr 1
    omega
  rw [e, List.flatMap_append]
  have e1 : (List.range (g - t)).flatMap (rowsAt t g) = [] := by
    refine List.flatMap_eq_nil_iff.mpr fun i hi => ?_
    have := List.mem_range.mp hi
    unfold rowsAt
    rw [if_neg (by omega)]
  rw [e1, List.nil_append, List.flatMap_map]
  refine flat_cong fun i hi => ?_
  have := List.mem_range.mp hi
  show rowsAt t g (g - t + i) = rowsAt t t i
  unfold rowsAt
  rw [show g - (g - t + i) = t - i by omega]
/-- how great the next number may be -/
def bnd (r : List Int) (l : Nat) : Nat := if r = [] then l else min l (r.getD (r.length - 1) 0).toNat
/-- what comes of what waits -/
def todo (qs : List (List Int × Nat)) : List (List Int) := qs.reverse.flatMap fun q => (rows q.2 (bnd q.1 q.2)).map (q.1 ++ ·)
theorem todo_snoc (qs : List (List Int × Nat)) (r : List Int) (l : Nat) : todo (qs ++ [(r, l)]) = (rows l (bnd r l)).map (r ++ ·) ++ todo qs := by
  unfold todo
  rw [List.reverse_append]
  rfl
theorem bnd_snoc (r : List Int) (a l : Nat) : bnd (r ++ [(a : Int)]) l = min l a := by
  unfold bnd
  rw [if_neg (by simp), List.length_append, List.length_singleton, Nat.add_sub_cancel, List.getD_eq_getElem?_getD, List.getElem?_append_right (Nat.le_refl _), Nat.sub_self]
  rfl
theorem todo_more (qs : List (List Int × Nat)) (r : List Int) {l mo : Nat} (hl : l ≠ 0) (hm : mo ≤ l) (hb : bnd r l = mo) : todo (qs ++ (List.range mo).map fun i => (r ++ [((i + 1 : Nat) : Int)], l - (i + 1))) = (rows l (bnd r l)).map (r ++ ·) ++ todo qs := by
  unfold todo
  rw [List.reverse_append, List.flatMap_append, ← List.map_reverse, List.flatMap_map, range_rev, List.flatMap_map, hb, rows_pos hl, List.map_flatMap]
  congr 1
  refine flat_cong fun j hj => ?_
  have hjm := List.mem_range.mp hj
  show (rows (l - (mo - 1 - j + 1)) (bnd (r ++ [((mo - 1 - j + 1 : Nat) : Int)]) (l - (mo - 1 - j + 1)))).map ((r ++ [((mo - 1 - j + 1 : Nat) : Int)]) ++ ·) = (rowsAt l mo j).map (r ++ ·)
  unfold rowsAt
  rw [show mo - 1 - j + 1 = mo - j by omega, if_pos (show mo - j ≤ l by omega), bnd_snoc, List.map_map]
  have e : rows (l - (mo - j)) (min (l - (mo - j)) (mo - j)) = rows (l - (mo - j)) (mo - j) := by
    by_cases h0 : l - (mo - j) = 0
    · rw [h0]
      rfl
    · by_cases h1 : l - (mo - j) ≤ mo - j
      · rw [Nat.min_eq_left h1, rows_min h0 h1]
      · rw [Nat.min_eq_right (by omega)]
  rw [e]
  refine List.map_congr_left fun x _ => ?_
  show (r ++ [((mo - j : Nat) : Int)]) ++ x = r ++ (((mo - j : Nat) : Int) :: x)
  rw [List.append_assoc]
  rfl
theorem todo_start (size : Nat) : todo [([], size)] = rows size size := by
  have h := todo_snoc [] [] size
  have e : todo [] = [] := rfl
  rw [List.nil_append, e, List.append_nil] at h
  rw [h]
  unfold bnd
  rw [if_pos rfl]
  exact List.map_id'' (fun _ => rfl) _
end

/-! The mathematics of steps and of opposites. -/
section
open PySem Gd
theorem ext_getD {a b : List Int} (hl : a.length = b.length) (h : ∀ i : Nat, a.getD i 0 = b.getD i 0) : a = b := by
  refine List.ext_getElem hl fun i h1 h2 => ?_
  have := h i
  rw [List.getD_eq_getElem?_getD, List.getD_eq_getElem?_getD, List.getElem?_eq_getElem h1, List.getElem?_eq_getElem h2] at this
  exact this
theorem fall_ext {a b : List Int} (ha : Fall a) (hb : Fall b) (h : ∀ i : Nat, a.getD i 0 = b.getD i 0) : a = b := by
  refine ext_getD ?_ h
  rcases Nat.lt_trichotomy a.length b.length with q | q | q
  · have h1 := hb.pos _ (getD_mem q)
    have h2 := h a.length
    rw [getD_big (ns := a) (Nat.lt_irrefl _)] at h2
    omega
  · exact q
  · have h1 := ha.pos _ (getD_mem q)
    have h2 := h b.length
    rw [getD_big (ns := b) (Nat.lt_irrefl _)] at h2
    omega
theorem sum_le {α : Type} {f g : α → Int} : ∀ k : List α, (∀ x ∈ k, f x ≤ g x) → (k.map f).sum ≤ (k.map g).sum
  | [], _ => Int.le_refl _
  | x :: r, h => by
    have h1 := h x List.mem_cons_self
    have h2 := sum_le r fun y hy => h y (List.mem_cons_of_mem _ hy)
    simp only [List.map_cons, List.sum_cons]
    omega
theorem sum_map_get (f : Int → Int) (f0 : f 0 = 0) : ∀ (n : Nat) (ns : List Int), ns.length ≤ n → (ns.map f).sum = ((List.range n).map fun i => f (ns.getD i 0)).sum
  | 0, ns, h => by
    have : ns = [] := List.length_eq_zero_iff.mp (by omega)
    subst this
    rfl
  | n + 1, [], h => by
    have z : ∀ k : List Nat, (k.map fun _ => f 0).sum = 0 := fun k => by
      induction k with
      | nil => rfl
      | cons _ _ ih =>
        rw [List.map_cons, List.sum_cons, ih, f0]
        rfl
    exact (z _).symm
  | n + 1, x :: r, h => by
    rw [List.range_succ_eq_map, List.map_cons, List.map_cons, List.sum_cons, List.sum_cons, List.map_map, sum_map_get f f0 n r (by simpa using h)]
    rfl
/-- how many numbers are greater than i -/
def over (i : Nat) (ns : List Int) : Int := ((ns.filter fun x => decide ((i : Int) < x)).length : Int)
theorem getD_turn {ns : List Int} (h : Fall ns) (i : Nat) : (turnM ns).getD i 0 = over i ns := by
  unfold turnM
  by_cases hi : i < (ns.getD 0 0).toNat
  · rw [List.getD_eq_getElem?_getD, List.getElem?_map, List.getElem?_range hi]
    rfl
  · rw [getD_big (by rw [List.length_map, List.length_range]; exact hi)]
    unfold over
    have : ns.filter (fun x => decide ((i : Int) < x)) = [] := by
      refine List.filter_eq_nil_iff.mpr fun x hx => ?_
      have := h.head x hx
      have := (h.at 0).1
      simp only [decide_eq_true_eq]
      omega
    rw [this]
    rfl
def gt1 (i : Nat) (x : Int) : Int := if (i : Int) < x then 1 else 0
theorem gt1_0 (i : Nat) : gt1 i 0 = 0 := if_neg (by omega)
theorem gt1_01 (i : Nat) (x : Int) : 0 ≤ gt1 i x ∧ gt1 i x ≤ 1 := by
  unfold gt1
  split <;> omega
theorem over_sum (i : Nat) : ∀ ns : List Int, over i ns = (ns.map (gt1 i)).sum
  | [] => rfl
  | x :: r => by
    have ih := over_sum i r
    unfold over at ih ⊢
    rw [List.filter_cons, List.map_cons, List.sum_cons, ← ih]
    unfold gt1
    by_cases hx : (i : Int) < x
    · rw [if_pos (by simpa using hx), if_pos hx, List.length_cons]
      omega
    · rw [if_neg (by simpa using hx), if_neg hx]
      omega
theorem turn_sum {ns : List Int} (h : Fall ns) (i : Nat) {n : Nat} (hn : 12 ≤ n) : (turnM ns).getD i 0 = ((List.range n).map fun k => gt1 i (ns.getD k 0)).sum := by
  have := h.len
  rw [getD_turn h, over_sum, sum_map_get _ (gt1_0 i) n ns (by omega)]
/-! ### all rows -/
def fallB (ns : List Int) : Bool := ns.all (fun x => decide (1 ≤ x)) && decide (ns.sum ≤ 12) && (List.range (ns.length - 1)).all fun i => decide (ns.getD (i + 1) 0 ≤ ns.getD i 0)
theorem fall_of {ns : List Int} (h : fallB ns = true) : Fall ns := by
  unfold fallB at h
  simp only [Bool.and_eq_true, List.all_eq_true, decide_eq_true_eq, List.mem_range] at h
  exact ⟨h.1.1, h.1.2, fun i hi => h.2 i (by omega)⟩
def chkR (n : Nat) (ns : List Int) : Bool := fallB ns && decide (ns.sum = (n : Int)) && (fallB (turnM ns) && decide (turnM (turnM ns) = ns) && decide ((turnM ns).sum = ns.sum))
theorem rows_chk : ((List.range 13).all fun n => (rows n n).all (chkR n)) = true := by decide +kernel
theorem rows_of {n : Nat} (hn : n ≤ 12) {ns : List Int} (h : ns ∈ rows n n) : chkR n ns = true := by
  have := rows_chk
  simp only [List.all_eq_true, List.mem_range] at this
  exact this n (by omega) ns h
theorem rows_fall {n : Nat} (hn : n ≤ 12) {ns : List Int} (h : ns ∈ rows n n) : Fall ns ∧ ns.sum = (n : Int) := by
  have := rows_of hn h
  unfold chkR at this
  simp only [Bool.and_eq_true, decide_eq_true_eq] at this
  exact ⟨fall_of this.1.1, this.1.2⟩
theorem mem_rows : ∀ (ns : List Int) (t g : Nat), (∀ x ∈ ns, 1 ≤ x) → (∀ i : Nat, i + 1 < ns.length → ns.getD (i + 1) 0 ≤ ns.getD i 0) → ns.getD 0 0 ≤ (g : Int) → ns.sum = (t : Int) → ns ∈ rows t g
  | [], t, g, hp, hd, hg, hs => by
    have : t = 0 := by simpa using hs.symm
    subst this
    exact List.mem_singleton.mpr rfl
  | x :: r, t, g, hp, hd, hg, hs => by
    have hx := hp x List.mem_cons_self
    have hr : ∀ y ∈ r, 1 ≤ y := fun y hy => hp y (List.mem_cons_of_mem _ hy)
    have h0 := sum_len hr
    rw [List.sum_cons] at hs
    have hgx : x ≤ (g : Int) := hg
    have ht : t ≠ 0 := by omega
    rw [rows_pos ht]
    refine List.mem_flatMap.mpr ⟨g - x.toNat, List.mem_range.mpr (by omega), ?_⟩
    unfold rowsAt
    rw [show g - (g - x.toNat) = x.toNat by omega, if_pos (by omega)]
    refine List.mem_map.mpr ⟨r, ?_, by rw [Int.toNat_of_nonneg (by omega)]⟩
    refine mem_rows r _ _ hr (fun i hi => hd (i + 1) (by rw [List.length_cons]; omega)) ?_ (by omega)
    cases r with
    | nil =>
      show (0 : Int) ≤ _
      omega
    | cons y q =>
      have := hd 0 (by simp)
      have e1 : (x :: y :: q).getD (0 + 1) 0 = y := rfl
      have e2 : (x :: y :: q).getD 0 0 = x := rfl
      have e3 : (y :: q).getD 0 0 = y := rfl
      rw [e1, e2] at this
      rw [e3]
      omega
theorem fall_in {ns : List Int} (h : Fall ns) {n : Nat} (hn : ns.sum = (n : Int)) : ns ∈ rows n n := by
  have := sum_len h.pos
  have h2 : ns.getD 0 0 ≤ (n : Int) := by
    cases ns with
    | nil =>
      show (0 : Int) ≤ _
      omega
    | cons x r =>
      rw [← hn]
      exact mem_sum h.pos x List.mem_cons_self
  exact mem_rows ns n n h.pos h.desc h2 hn
theorem turn_all {ns : List Int} (h : Fall ns) : Fall (turnM ns) ∧ turnM (turnM ns) = ns ∧ (turnM ns).sum = ns.sum := by
  have h0 := h.sum0
  have hs := h.sum
  have := rows_of (n := ns.sum.toNat) (by omega) (fall_in h (by omega))
  unfold chkR at this
  simp only [Bool.and_eq_true, decide_eq_true_eq] at this
  exact ⟨fall_of this.2.1.1, this.2.1.2, this.2.2⟩
theorem turn_fall {ns : List Int} (h : Fall ns) : Fall (turnM ns) := (turn_all h).1
theorem turn_back {ns : List Int} (h : Fall ns) : turnM (turnM ns) = ns := (turn_all h).2.1
def pairLtM (ns ms : List Int) : Bool := pairLt ns.sum ms.sum (ns.map fun x => -x) (ms.map fun x => -x)
theorem rows_desc : ∀ n, n < 13 → (rows n n).Pairwise (fun a b => pairLtM a b = true ∧ pairLtM b a = false) := by decide +kernel
section
variable {ns ms : List Int}
theorem held_iff (h : Fall ns) (g : Fall ms) : heldM ns ms = true ↔ ∀ i : Nat, ns.getD i 0 ≤ ms.getD i 0 := by
  unfold heldM
  rw [Bool.and_eq_true, decide_eq_true_eq, List.all_eq_true]
  constructor
  · rintro ⟨hl, hz⟩ i
    by_cases hi : i < ns.length
    · have hm : i < ms.length := by omega
      have hlen : i < (ns.zip ms).length := by rw [List.length_zip]; omega
      have := hz _ (List.getElem_mem hlen)
      rw [List.getElem_zip, decide_eq_true_eq] at this
      rw [List.getD_eq_getElem?_getD, List.getD_eq_getElem?_getD, List.getElem?_eq_getElem hi, List.getElem?_eq_getElem hm]
      exact this
    · rw [getD_big hi]
      exact (g.at i).1
  · intro q
    refine ⟨?_, fun p hp => ?_⟩
    · by_cases hl : ns.length ≤ ms.length
      · exact hl
      · have h1 := q ms.length
        have h2 := h.pos _ (getD_mem (i := ms.length) (by omega))
        rw [getD_big (ns := ms) (i := ms.length) (by omega)] at h1
        omega
    · obtain ⟨i, hi, rfl⟩ := List.getElem_of_mem hp
      have hi' := hi
      rw [List.length_zip] at hi'
      have := q i
      rw [List.getD_eq_getElem?_getD, List.getD_eq_getElem?_getD, List.getElem?_eq_getElem (show i < ns.length by omega), List.getElem?_eq_getElem (show i < ms.length by omega)] at this
      rw [List.getElem_zip, decide_eq_true_eq]
      exact this
theorem held_go (h : Fall ns) (g : Fall ms) (e : heldM ns ms = true) : heldM (turnM ns) (turnM ms) = true := by
  have q := (held_iff h g).mp e
  refine (held_iff (turn_fall h) (turn_fall g)).mpr fun i => ?_
  rw [turn_sum h i (Nat.le_refl _), turn_sum g i (Nat.le_refl _)]
  refine sum_le _ fun k _ => ?_
  have := q k
  unfold gt1
  split <;> split <;> omega
theorem bool_iff {a b : Bool} (h : a = true ↔ b = true) : a = b := by
  cases a <;> cases b <;> simp_all
theorem held_turn (h : Fall ns) (g : Fall ms) : heldM (turnM ns) (turnM ms) = heldM ns ms := bool_iff ⟨fun e => by
  have := held_go (turn_fall h) (turn_fall g) e
  rw [turn_back h, turn_back g] at this
  exact this, held_go h g⟩
theorem flat_iff (h : Fall ns) (g : Fall ms) : ((List.range ns.length).all fun i => decide (ns.getD i 0 - ms.getD i 0 ≤ 1)) = true ↔ ∀ i : Nat, ns.getD i 0 ≤ ms.getD i 0 + 1 := by
  rw [List.all_eq_true]
  constructor
  · intro q i
    by_cases hi : i < ns.length
    · have := of_decide_eq_true (q i (List.mem_range.mpr hi))
      omega
    · rw [getD_big hi]
      have := (g.at i).1
      omega
  · intro q i _
    have := q i
    exact decide_eq_true (by omega)
theorem line_iff (h : Fall ns) (g : Fall ms) : ((List.range (ns.length - 1)).all fun i => decide (ns.getD (i + 1) 0 ≤ ms.getD i 0)) = true ↔ ∀ i : Nat, ns.getD (i + 1) 0 ≤ ms.getD i 0 := by
  rw [List.all_eq_true]
  constructor
  · intro q i
    by_cases hi : i + 1 < ns.length
    · exact of_decide_eq_true (q i (List.mem_range.mpr (by omega)))
    · rw [getD_big hi]
      exact (g.at i).1
  · intro q i _
    exact decide_eq_true (q i)
theorem flat_turn (h : Fall ns) (g : Fall ms) : lineB (turnM ns) (turnM ms) = flatB ns ms := by
  unfold lineB flatB
  rw [held_turn g h]
  congr 1
  refine bool_iff ⟨fun e => (flat_iff h g).mpr fun i => ?_, fun e => (line_iff (turn_fall h) (turn_fall g)).mpr fun i => ?_⟩
  · have q := (line_iff (turn_fall h) (turn_fall g)).mp e
    have h1 := turn_sum (turn_fall h) i (n := 13) (by omega)
    have h2 := turn_sum (turn_fall g) i (n := 12) (by omega)
    rw [turn_back h, List.range_succ_eq_map, List.map_cons, List.sum_cons, List.map_map] at h1
    rw [turn_back g] at h2
    rw [h1, h2]
    have h3 := (gt1_01 i ((turnM ns).getD 0 0)).2
    have h4 : ((List.range 12).map ((fun k => gt1 i ((turnM ns).getD k 0)) ∘ Nat.succ)).sum ≤ ((List.range 12).map fun k => gt1 i ((turnM ms).getD k 0)).sum := by
      refine sum_le _ fun k _ => ?_
      have := q k
      show gt1 i ((turnM ns).getD (k + 1) 0) ≤ _
      unfold gt1
      split <;> split <;> omega
    omega
  · have q := (flat_iff h g).mp e
    rw [turn_sum h (i + 1) (Nat.le_refl _), turn_sum g i (Nat.le_refl _)]
    refine sum_le _ fun k _ => ?_
    have := q k
    unfold gt1
    split <;> split <;> omega
end
/-! ### the turned flat steps, sorted, are the line steps over the turned kind -/
theorem rows_nodup {n : Nat} (hn : n ≤ 12) : (rows n n).Nodup := (rows_desc n (by omega)).imp fun h z => by
  rw [z] at h
  rw [h.1] at h
  cases h.2
theorem rows_tri {n : Nat} (hn : n ≤ 12) {a b : List Int} (ha : a ∈ rows n n) (hb : b ∈ rows n n) (h1 : pairLtM a b = false) (h2 : pairLtM b a = false) : a = b := by
  obtain ⟨i, hi, rfl⟩ := List.getElem_of_mem ha
  obtain ⟨j, hj, rfl⟩ := List.getElem_of_mem hb
  have q := List.pairwise_iff_getElem.mp (rows_desc n (by omega))
  rcases Nat.lt_trichotomy i j with c | c | c
  · rw [(q i j hi hj c).1] at h1
    cases h1
  · subst c
    rfl
  · rw [(q j i hj hi c).1] at h2
    cases h2
theorem sorted_lines {n : Nat} (hn : n ≤ 12) {ns : List Int} (h : Fall ns) {zs : List (List Int)} (hp : zs.Perm (((rows n n).filter fun r => flatB r ns).map turnM)) (hs : zs.Pairwise fun a b => pairLtM b a = false) : zs = (rows n n).filter fun r => lineB r (turnM ns) := by
  have mem : ∀ r, r ∈ ((rows n n).filter fun r => flatB r ns).map turnM ↔ r ∈ (rows n n).filter fun r => lineB r (turnM ns) := fun r => by
    rw [List.mem_map, List.mem_filter]
    constructor
    · rintro ⟨x, hx, rfl⟩
      obtain ⟨x1, x2⟩ := List.mem_filter.mp hx
      obtain ⟨f1, f2⟩ := rows_fall hn x1
      exact ⟨fall_in (turn_fall f1) (by rw [(turn_all f1).2.2, f2]), by rw [flat_turn f1 h]; exact x2⟩
    · rintro ⟨x1, x2⟩
      obtain ⟨f1, f2⟩ := rows_fall hn x1
      refine ⟨turnM r, List.mem_filter.mpr ⟨fall_in (turn_fall f1) (by rw [(turn_all f1).2.2, f2]), ?_⟩, turn_back f1⟩
      rw [← flat_turn (turn_fall f1) h, turn_back f1]
      exact x2
  have nd1 : (((rows n n).filter fun r => flatB r ns).map turnM).Nodup := by
    refine List.pairwise_map.mpr (((rows_nodup hn).filter _).imp_of_mem fun {a b} ha hb ne e => ne ?_)
    have fa := (rows_fall hn (List.mem_filter.mp ha).1).1
    have fb := (rows_fall hn (List.mem_filter.mp hb).1).1
    rw [← turn_back fa, ← turn_back fb, e]
  have p : (((rows n n).filter fun r => flatB r ns).map turnM).Perm ((rows n n).filter fun r => lineB r (turnM ns)) := (List.perm_ext_iff_of_nodup nd1 ((rows_nodup hn).filter _)).mpr mem
  have pz := hp.trans p
  refine List.Perm.eq_of_pairwise (le := fun a b => pairLtM b a = false) (fun a b ha hb h1 h2 => rows_tri hn (List.mem_filter.mp (pz.mem_iff.mp ha)).1 (List.mem_filter.mp hb).1 h2 h1) hs (((rows_desc n (by omega)).filter _).imp fun q => q.2) pz
/-- a flat step has fewer companions than sixty-four -/
theorem flats_few : ∀ n, n < 13 → ∀ s, s < 13 → ((5 ≤ s ∨ n < 12) → ∀ ns ∈ rows s s, ((rows n n).filter fun r => flatB r ns).length < 64) := by
  have h1 : ∀ n, n < 12 → (rows n n).length < 64 := by decide +kernel
  have h2 : ∀ s, s < 13 → 5 ≤ s → ∀ ns ∈ rows s s, ((rows 12 12).filter fun r => flatB r ns).length < 64 := by decide +kernel
  intro n hn s hs h ns hm
  rcases Nat.lt_or_ge n 12 with q | q
  · exact Nat.lt_of_le_of_lt (List.length_filter_le _ _) (h1 n q)
  · obtain rfl : n = 12 := by omega
    exact h2 s hs (h.resolve_right (by omega)) ns hm
/-! ### opposites -/
theorem filt_get : ∀ (l : List Int), (∀ x ∈ l, 0 ≤ x) → (∀ i : Nat, l.getD (i + 1) 0 ≤ l.getD i 0) → ∀ i : Nat, (l.filter fun x => decide (0 < x)).getD i 0 = l.getD i 0
  | [], _, _, _ => rfl
  | x :: r, h0, hd, i => by
    have hx := h0 x List.mem_cons_self
    have hr : ∀ y ∈ r, 0 ≤ y := fun y hy => h0 y (List.mem_cons_of_mem _ hy)
    have hdr : ∀ i : Nat, r.getD (i + 1) 0 ≤ r.getD i 0 := fun i => hd (i + 1)
    rw [List.filter_cons]
    by_cases hp : 0 < x
    · rw [if_pos (decide_eq_true hp)]
      cases i with
      | zero => rfl
      | succ i => exact filt_get r hr hdr i
    · have x0 : x = 0 := by omega
      subst x0
      rw [if_neg (by simp)]
      have z : ∀ k : Nat, r.getD k 0 = 0 := fun k => by
        have le : ∀ k : Nat, r.getD k 0 ≤ 0 := fun k => by
          induction k with
          | zero => exact hd 0
          | succ k ih => exact Int.le_trans (hdr k) ih
        have ge : 0 ≤ r.getD k 0 := by
          by_cases hk : k < r.length
          · exact hr _ (getD_mem hk)
          · rw [getD_big hk]
            omega
        have := le k
        omega
      rw [filt_get r hr hdr i, z i]
      cases i with
      | zero => rfl
      | succ i => exact (z i).symm
theorem filt_sum : ∀ (l : List Int), (∀ x ∈ l, 0 ≤ x) → (l.filter fun x => decide (0 < x)).sum = l.sum
  | [], _ => rfl
  | x :: r, h0 => by
    have hx := h0 x List.mem_cons_self
    have ih := filt_sum r fun y hy => h0 y (List.mem_cons_of_mem _ hy)
    rw [List.filter_cons]
    by_cases hp : 0 < x
    · rw [if_pos (decide_eq_true hp), List.sum_cons, List.sum_cons, ih]
    · rw [if_neg (by simpa using hp), List.sum_cons, ih]
      omega
def isOut (ns : List Int) (wide : Nat) (high : Int) : Bool := decide ((wide : Int) < ns.length) || decide (high < ns.getD 0 0)
theorem not_out {ns : List Int} {w : Nat} {h : Int} (e : isOut ns w h = false) : ns.length ≤ w ∧ ns.getD 0 0 ≤ h := by
  unfold isOut at e
  rw [Bool.or_eq_false_iff, decide_eq_false_iff_not, decide_eq_false_iff_not] at e
  omega
theorem out_not {ns : List Int} {w : Nat} {h : Int} (h1 : ns.length ≤ w) (h2 : ns.getD 0 0 ≤ h) : isOut ns w h = false := by
  unfold isOut
  rw [Bool.or_eq_false_iff, decide_eq_false_iff_not, decide_eq_false_iff_not]
  omega
abbrev oppL (ns : List Int) (w : Nat) (h : Int) : List Int := (List.range w).map fun i => h - ns.getD (w - 1 - i) 0
theorem oppL_get (ns : List Int) (w : Nat) (h : Int) (i : Nat) : (oppL ns w h).getD i 0 = if i < w then h - ns.getD (w - 1 - i) 0 else 0 := by
  by_cases hi : i < w
  · rw [if_pos hi, List.getD_eq_getElem?_getD, List.getElem?_map, List.getElem?_range hi]
    rfl
  · rw [if_neg hi, getD_big (by rw [List.length_map, List.length_range]; exact hi)]
theorem fall_anti {ns : List Int} (h : Fall ns) {i j : Nat} (hij : i ≤ j) : ns.getD j 0 ≤ ns.getD i 0 := by
  obtain ⟨k, rfl⟩ : ∃ k, j = i + k := ⟨j - i, by omega⟩
  clear hij
  induction k with
  | zero => exact Int.le_refl _
  | succ k ih => exact Int.le_trans (h.down _) ih
section
variable {ns ms : List Int} {w : Nat} {h : Int}
theorem oppL_pos (F : Fall ns) (e : isOut ns w h = false) : ∀ x ∈ oppL ns w h, 0 ≤ x := fun x hx => by
  obtain ⟨i, _, rfl⟩ := List.mem_map.mp hx
  have := F.headI (w - 1 - i)
  have := (not_out e).2
  omega
theorem oppL_desc (F : Fall ns) (e : isOut ns w h = false) (i : Nat) : (oppL ns w h).getD (i + 1) 0 ≤ (oppL ns w h).getD i 0 := by
  rw [oppL_get, oppL_get]
  have q := (not_out e).2
  by_cases h1 : i + 1 < w
  · rw [if_pos h1, if_pos (by omega)]
    have := fall_anti F (show w - 1 - (i + 1) ≤ w - 1 - i by omega)
    omega
  · rw [if_neg h1]
    by_cases h2 : i < w
    · rw [if_pos h2]
      have := F.headI (w - 1 - i)
      omega
    · rw [if_neg h2]
      exact Int.le_refl _
theorem opp_get (F : Fall ns) (e : isOut ns w h = false) (i : Nat) : (oppM ns w h).getD i 0 = if i < w then h - ns.getD (w - 1 - i) 0 else 0 := by
  rw [← oppL_get]
  exact filt_get _ (oppL_pos F e) (oppL_desc F e) i
theorem perm_sum {a b : List Int} (h : a.Perm b) : a.sum = b.sum := by
  induction h with
  | nil => rfl
  | cons x _ ih => rw [List.sum_cons, List.sum_cons, ih]
  | swap x y l =>
    simp only [List.sum_cons]
    omega
  | trans _ _ h1 h2 => rw [h1, h2]
theorem sum_sub (f : Nat → Int) (c : Int) : ∀ k : List Nat, (k.map fun i => c - f i).sum = (k.length : Int) * c - (k.map f).sum
  | [] => by simp
  | x :: r => by
    rw [List.map_cons, List.map_cons, List.sum_cons, List.sum_cons, sum_sub f c r, List.length_cons, Int.natCast_add, Int.add_mul]
    omega
theorem opp_sum (F : Fall ns) (e : isOut ns w h = false) : (oppM ns w h).sum = (w : Int) * h - ns.sum := by
  have h1 : (oppM ns w h).sum = (oppL ns w h).sum := filt_sum _ (oppL_pos F e)
  rw [h1]
  unfold oppL
  rw [sum_sub (fun i => ns.getD (w - 1 - i) 0) h, List.length_range]
  congr 1
  have h2 : ((List.range w).map fun i => ns.getD (w - 1 - i) 0) = ((List.range w).reverse).map fun i => ns.getD i 0 := by
    rw [range_rev, List.map_map]
    rfl
  rw [h2, perm_sum ((List.reverse_perm _).map _)]
  have h3 := sum_map_get (fun x => x) rfl w ns (not_out e).1
  rw [List.map_id'] at h3
  exact h3.symm
theorem opp_fall (F : Fall ns) (e : isOut ns w h = false) (hs : (w : Int) * h - ns.sum ≤ 12) : Fall (oppM ns w h) := by
  refine ⟨fun x hx => ?_, by rw [opp_sum F e]; exact hs, fun i _ => ?_⟩
  · have := of_decide_eq_true (List.mem_filter.mp hx).2
    omega
  · have := oppL_desc F e i
    rw [oppL_get, oppL_get] at this
    rw [opp_get F e, opp_get F e]
    exact this
theorem opp_in (F : Fall ns) (e : isOut ns w h = false) (h0 : 0 ≤ h) : isOut (oppM ns w h) w h = false := by
  refine out_not ?_ ?_
  · refine Nat.le_trans (List.length_filter_le _ _) ?_
    rw [List.length_map, List.length_range]
    exact Nat.le_refl _
  · rw [opp_get F e]
    split
    · have := (F.at (w - 1 - 0)).1
      omega
    · exact h0
theorem opp_back (F : Fall ns) (e : isOut ns w h = false) (h0 : 0 ≤ h) (hs : (w : Int) * h - ns.sum ≤ 12) : oppM (oppM ns w h) w h = ns := by
  have F1 := opp_fall F e hs
  have e1 := opp_in F e h0
  have s1 := opp_sum F e
  have := F.sum
  refine fall_ext (opp_fall F1 e1 (by omega)) F fun i => ?_
  rw [opp_get F1 e1]
  by_cases hi : i < w
  · rw [if_pos hi, opp_get F e, if_pos (by omega), show w - 1 - (w - 1 - i) = i by omega]
    omega
  · rw [if_neg hi, getD_big (by have := (not_out e).1; omega)]
theorem opp_held (F : Fall ns) (G : Fall ms) (e : isOut ns w h = false) (e2 : isOut ms w h = false) (hs : (w : Int) * h - ns.sum ≤ 12) (hs2 : (w : Int) * h - ms.sum ≤ 12) (hh : heldM ms ns = true) : heldM (oppM ns w h) (oppM ms w h) = true := by
  have q := (held_iff G F).mp hh
  refine (held_iff (opp_fall F e hs) (opp_fall G e2 hs2)).mpr fun i => ?_
  rw [opp_get F e, opp_get G e2]
  have := q (w - 1 - i)
  split <;> omega
theorem held_in (F : Fall ns) (G : Fall ms) (e : isOut ns w h = false) (hh : heldM ms ns = true) : isOut ms w h = false := by
  have q := (held_iff G F).mp hh
  obtain ⟨h1, h2⟩ := not_out e
  refine out_not ?_ (Int.le_trans (q 0) h2)
  unfold heldM at hh
  rw [Bool.and_eq_true, decide_eq_true_eq] at hh
  omega
theorem held_sum (F : Fall ns) (G : Fall ms) (hh : heldM ms ns = true) : ms.sum ≤ ns.sum := by
  have q := (held_iff G F).mp hh
  have h1 := F.len
  have h2 := G.len
  have a := sum_map_get (fun x => x) rfl 12 ns (by omega)
  have b := sum_map_get (fun x => x) rfl 12 ms (by omega)
  rw [List.map_id'] at a b
  rw [a, b]
  exact sum_le _ fun k _ => q k
theorem held_self (F : Fall ns) : heldM ns ns = true := (held_iff F F).mpr fun _ => Int.le_refl _
/-- the law's own -/
theorem opp_law (e : ns.length ≤ w) : ((ns ++ List.replicate (w - ns.length) 0).map fun x => h - x).reverse = oppL ns w h := by
  have e1 : ns ++ List.replicate (w - ns.length) 0 = (List.range w).map fun i => ns.getD i 0 := by
    refine ext_getD (by rw [List.length_append, List.length_replicate, List.length_map, List.length_range]; omega) fun i => ?_
    by_cases hi : i < ns.length
    · have e2 : ((List.range w).map fun i => ns.getD i 0).getD i 0 = ns.getD i 0 := by
        rw [List.getD_eq_getElem?_getD, List.getElem?_map, List.getElem?_range (by omega)]
        rfl
      rw [e2, List.getD_eq_getElem?_getD, List.getElem?_append_left hi, ← List.getD_eq_getElem?_getD]
    · rw [List.getD_eq_getElem?_getD, List.getElem?_append_right (by omega), List.getElem?_replicate]
      by_cases hw : i < w
      · rw [if_pos (by omega), List.getD_eq_getElem?_getD, List.getElem?_map, List.getElem?_range hw]
        show (0 : Int) = ns.getD i 0
        rw [getD_big hi]
      · rw [if_neg (by omega), getD_big (by rw [List.length_map, List.length_range]; exact hw)]
        rfl
  rw [e1, List.map_map, ← List.map_reverse, range_rev, List.map_map]
  rfl
end
end

/-! Kinds: what this law asks of the class. -/

section
open PySem PySem.Spec PyProof.Rows L2 Gd
section
variable {P : Program} {w : World} {K : PySem.W.Frag} {mg : Str → Option Value} {base : Heap} {f C t0 CT fT CR fR : Addr} {fd : FuncData}
theorem scRan : FnScope ["self"] ["self"] (defScope (cls 4)) := ⟨rfl, rfl, rfl, by decide +kernel, rfl, by decide +kernel, by decide +kernel⟩
theorem ok_rank (F : Fun K "rank" "Kind.rank" (cls 4) f fd) (T : Txt K mg) (Cl : KC K mg C) : FnOk P w K mg base CX0 1 f fd ["self"] (spGet K C fun _ ns => .int (ns.length : Int)) := by
  refine F.ok scRan (fun vs H Q E h => ?_) (fun cdv A outer s H vs Q E hr h => ?_)
  · obtain ⟨p, n, t, m, ns, rfl, _⟩ := h
    rfl
  · obtain ⟨p, n, t, m, ns, rfl, ⟨⟨dx, hp⟩, hn, ht, hm, hF⟩, k⟩ := h
    refine ⟨_, pss_one (ps_ret (pe_callB call_len_seq (by rfl) T.len PySem.boot_len (pa_cons (pe_fld (pv 0) rfl) pa_nil))), ?_⟩
    try dsimp only [cx_nox, cx_K]
    walk_at "rd"
    refine ⟨p, C, dx, _, _, rfl, hp, Cl.cl, Cl.noN, look1, ?_⟩
    walk_at "rd"
    refine ⟨n, _, rfl, .inr hn.sq, ?_⟩
    rw [List.length_map]
    exact k H (fun _ _ z => z)
theorem scHei : FnScope ["self"] ["self"] (defScope (cls 5)) := ⟨rfl, rfl, rfl, by decide +kernel, rfl, by decide +kernel, by decide +kernel⟩
theorem ok_height (F : Fun K "height" "Kind.height" (cls 5) f fd) (Cl : KC K mg C) (N : Def1 P w K mg base CX0 1 "number_at" ["row", "index"] (spNumAt K)) : FnOk P w K mg base CX0 2 f fd ["self"] (spGet K C fun _ ns => .int (ns.getD 0 0)) := by
  refine F.ok scHei (fun vs H Q E h => ?_) (fun cdv A outer s H vs Q E hr h => ?_)
  · obtain ⟨p, n, t, m, ns, rfl, _⟩ := h
    rfl
  · obtain ⟨p, n, t, m, ns, rfl, ⟨⟨dx, hp⟩, hn, ht, hm, hF⟩, k⟩ := h
    refine ⟨_, pss_one (ps_ret (pe_def N hr (by decide) (by rfl) (pa_cons (pe_fld (pv 0) rfl) (pa_cons pe_int pa_nil)))), ?_⟩
    try dsimp only [cx_nox, cx_K]
    walk_at "rd"
    refine ⟨p, C, dx, _, _, rfl, hp, Cl.cl, Cl.noN, look1, ?_⟩
    walk_at "rd"
    exact ⟨n, ns, 0, rfl, hn.sq, k H (fun _ _ z => z)⟩
theorem scHol : FnScope ["self", "other"] ["self", "other"] (defScope (cls 11)) := ⟨rfl, rfl, rfl, by decide +kernel, rfl, by decide +kernel, by decide +kernel⟩
/-- a promise of a method with another kind -/
def spTwo (K : PySem.W.Frag) (C : Addr) (B : List Int → List Int → Prop) (v : List Int → List Int → V) : Sp := fun vs H Q _ => ∃ (p n t m q n2 t2 m2 : Addr) (ns ms : List Int), vs = [.ref p, .ref q] ∧ KindAt K C H p n t m ns ∧ KindAt K C H q n2 t2 m2 ms ∧ B ns ms ∧ ∀ H', Ext H H' → Q (v ns ms) H'
theorem ok_holds (F : Fun K "holds" "Kind.holds" (cls 11) f fd) (Cl : KC K mg C) (Rk : Def1 P w K mg base CX0 1 "require_kind" ["value"] (spReqKind K C)) (N : Def1 P w K mg base CX0 1 "is_held" ["row", "other"] (spHeld K))
    (Pn : Pro1 P w K mg base 1 C "numbers" (spGet K C fun n _ => .ref n)) : FnOk P w K mg base CX0 3 f fd ["self", "other"] (spTwo K C (fun _ _ => True) fun ns ms => .bl (heldM ms ns)) := by
  refine F.ok scHol (fun vs H Q E h => ?_) (fun cdv A outer s H vs Q E hr h => ?_)
  · obtain ⟨p, n, t, m, q, n2, t2, m2, ns, ms, rfl, _⟩ := h
    rfl
  · obtain ⟨p, n, t, m, q, n2, t2, m2, ns, ms, rfl, hp, hq, _, k⟩ := h
    refine ⟨_, pss_cons (ps_expr (pe_def Rk hr (by decide) (by rfl) (pa_cons (pv 1) pa_nil)))
      (pss_one (ps_ret (pe_def N hr (by decide) (by rfl) (pa_cons (pe_pro1 Cl.cl Pn hr (by decide) (pv 1)) (pa_cons (pe_fld (pv 0) rfl) pa_nil))))), ?_⟩
    try dsimp only [cx_nox, cx_K]
    walk_at "rd"
    refine ⟨q, n2, t2, m2, ms, rfl, hq, ?_⟩
    walk_at "rd"
    obtain ⟨dy, hqi⟩ := hq.ins
    refine ⟨q, dy, _, rfl, hqi, q, n2, t2, m2, ms, rfl, hq, fun H1 e1 => ?_⟩
    walk_at "rd"
    obtain ⟨dx, hpi⟩ := (hp.ext e1).ins
    refine ⟨p, C, dx, _, _, rfl, hpi, Cl.cl, Cl.noN, look1, ?_⟩
    walk_at "rd"
    exact ⟨n2, n, ms, ns, rfl, (hq.ext e1).num.sq, (hp.ext e1).num.sq, hq.fall, hp.fall, fun H2 e2 => k H2 (Ext.trans e1 e2)⟩
/-! ### within -/
abbrev sReqWi : Stmt := top 14
theorem scReqWi : FnScope ["value", "low", "high"] ["value", "low", "high"] (defScope sReqWi) := ⟨rfl, rfl, rfl, by decide +kernel, rfl, by decide +kernel, by decide +kernel⟩
def spReqWi (K : PySem.W.Frag) : Sp := fun vs H Q _ => ∃ (i lo hi : Int), vs = [.int i, .int lo, .int hi] ∧ 0 ≤ lo ∧ hi ≤ 1000 ∧ lo ≤ i ∧ i ≤ hi ∧ Q .non H
theorem ok_reqWi (F : Fun K "require_within" "require_within" sReqWi f fd) (T : Txt K mg) (Wi : Def1 P w K mg base CX0 3 "is_within" ["value", "low", "high"] (spIsWithin K)) : FnOk P w K mg base CX0 4 f fd ["value", "low", "high"] (spReqWi K) := by
  refine F.ok scReqWi (fun vs H Q E h => ?_) (fun cdv A outer s H vs Q E hr h => ?_)
  · obtain ⟨i, lo, hi, rfl, _⟩ := h
    rfl
  · obtain ⟨i, lo, hi, rfl, h0, h1, h2, h3, k⟩ := h
    refine ⟨_, PSs.nox (pss_one (ps_if (pt_not (pt_val (pe_def Wi hr (by decide) (by rfl) (pa_cons (pv 0) (pa_cons (pv 1) (pa_cons (pv 2) pa_nil)))))) (pss_one ps_never) pss_nil)), ?_⟩
    try dsimp only [cx_nox, cx_K]
    have big : (1000 : Int) < 10 ^ 60 := by decide +kernel
    walk_at "rd"
    refine ⟨_, lo, hi, true, rfl, by omega, by omega, .inl ⟨i, rfl, (decide_eq_true ⟨h2, h3⟩).symm⟩, ?_⟩
    walk_at "rd"
    exact k
abbrev sReqSize : Stmt := top 31
theorem scReqSize : FnScope ["size"] ["size"] (defScope sReqSize) := ⟨rfl, rfl, rfl, by decide +kernel, rfl, by decide +kernel, by decide +kernel⟩
/-- how a size that is too great is refused -/
def TooBig (CT : Addr) (H : Hp) (E : XK) : Prop := ∀ H' d, Ext H H' → H' d = none → E (.ref CT) (some d) (upd H' d (.xd [(("limit" : Str), .int 12)]))
def spReqSize (CT : Addr) : Sp := fun vs H Q E => ∃ i : Int, vs = [.int i] ∧ (i ≤ 12 → Q .non H) ∧ (12 < i → TooBig CT H E)
theorem ok_reqSize (F : Fun K "require_size" "require_size" sReqSize f fd) (Cl : KC K mg C) (N : PySem.XTooMany.TooManyTxt K mg CT fT) : FnOk P w K mg base (L2.CX P w) 3 f fd ["size"] (spReqSize CT) := by
  obtain ⟨tM, gM⟩ := Cl.most
  refine F.okX scReqSize (fun vs H Q E h => ?_) (fun cdv A outer s H vs Q E hr h => ?_)
  · obtain ⟨i, rfl, _⟩ := h
    rfl
  · obtain ⟨i, rfl, k1, k2⟩ := h
    refine ⟨_, pss_one (ps_if (pt_cmpR op_gt (pv 0) (pe_glob (v := .int 12) (by rfl) gM ⟨_, rfl⟩) (nomark _)) (pss_one (ps_raiseTooMany rfl N hr (takes_of rfl rfl rfl rfl) (by exact (pa_cons (pe_glob (v := .int 12) (by rfl) gM ⟨_, rfl⟩) pa_nil)))) pss_nil), ?_⟩
    try dsimp only [cx_nox, cx_K]
    walk_at "rd"
    refine ite2 (fun h1 => ?_) (fun h1 => ?_)
    · have h2 := of_decide_eq_true h1
      walk_at "rd"
      refine ⟨_, rfl, fun d hd => ?_⟩
      exact k2 h2 H d (fun _ _ z => z) hd
    · walk_at "rd"
      exact k1 (by
        have : ¬ 12 < i := fun z => h1 (decide_eq_true z)
        omega)
theorem TooBig.ext {H H' : Hp} {E : XK} (e : Ext H H') (h : TooBig CT H E) : TooBig CT H' E := fun H2 d e2 hd => h H2 d (Ext.trans e e2) hd
/-! ### < -/
theorem scLtk : FnScope ["self", "other"] ["self", "other"] (defScope (cls 20)) := ⟨rfl, rfl, rfl, by decide +kernel, rfl, by decide +kernel, by decide +kernel⟩
theorem ok_lt (F : Fun K "__lt__" "Kind.__lt__" (cls 20) f fd) (T : Txt K mg) (Cl : KC K mg C) : FnOk P w K mg base CX0 4 f fd ["self", "other"] (spTwo K C (fun _ _ => True) fun ns ms => .bl (pairLtM ns ms)) := by
  refine F.ok scLtk (fun vs H Q E h => ?_) (fun cdv A outer s H vs Q E hr h => ?_)
  · obtain ⟨p, n, t, m, q, n2, t2, m2, ns, ms, rfl, _⟩ := h
    rfl
  · obtain ⟨p, n, t, m, q, n2, t2, m2, ns, ms, rfl, ⟨⟨dx, hp⟩, hn, ht, hm, hF⟩, ⟨⟨dy, hq⟩, hn2, ht2, hm2, hF2⟩, _, k⟩ := h
    refine ⟨_, PSs.nox (pss_cons (ps_if (pt_not (pt_val (pe_callB call_isi (by rfl) T.isinstance (by decide +kernel) (pa_cons (pv 1) (pa_cons (pe_glob (v := .ref C) (by rfl) Cl.g rfl) pa_nil))))) (pss_one ps_never) pss_nil)
      (pss_one (ps_ret (pe_cmpR (op_ltP (lt66 hr)) (pe_fld (pv 0) rfl) (pe_fld (pv 1) rfl) (nomark _))))), ?_⟩
    try dsimp only [cx_nox, cx_K]
    walk_at "rd"
    refine ⟨_, _, _, _, true, rfl, .own C, Cl.ty hq, Cl.kit, ?_⟩
    walk_at "rd"
    refine ⟨p, C, dx, _, _, rfl, hp, Cl.cl, Cl.noP, look2, ?_⟩
    walk_at "rd"
    refine ⟨q, C, dy, _, _, rfl, hq, Cl.cl, Cl.noP, look2, ?_⟩
    exact ⟨t, t2, m, m2, _, _, _, _, rfl, rfl, ht, ht2, hm, hm2, k H (fun _ _ z => z)⟩
/-! ### the opposite -/
theorem mulS {a b : Int} (h0 : 0 ≤ a) (h1 : a ≤ 1000) (h2 : 0 ≤ b) (h3 : b ≤ 1000) : CMul a b := by
  first
    | exact .inr ⟨by omega, by omega⟩
    | exact .inl ⟨by omega, by omega⟩
    | exact ⟨by omega, by omega⟩
/-- how a block that is too small is refused -/
def Outside (K : PySem.W.Frag) (CR : Addr) (H : Hp) (E : XK) : Prop := ∀ H' d a, Ext H H' → H' d = none → SqT K H' a [.str "outside"] → E (.ref CR) (some d) (upd H' d (.xd [(("reason" : Str), .ref a)]))
theorem Outside.ext {H H' : Hp} {E : XK} (e : Ext H H') (h : Outside K CR H E) : Outside K CR H' E := fun H2 d a e2 hd => h H2 d a (Ext.trans e e2) hd
def spOppK (K : PySem.W.Frag) (C CT CR : Addr) : Sp := fun vs H Q E => ∃ (p n t m : Addr) (ns : List Int) (wide : Nat) (high : Int), vs = [.ref p, .int (wide : Int), .int high] ∧ KindAt K C H p n t m ns ∧ wide ≤ 12 ∧ 0 ≤ high ∧ high ≤ 12 ∧
  (isOut ns wide high = true → Outside K CR H E) ∧ (isOut ns wide high = false → (12 < (wide : Int) * high - ns.sum → TooBig CT H E) ∧ ((wide : Int) * high - ns.sum ≤ 12 → ∀ H' p' n' t' m', Ext H H' → KindAt K C H' p' n' t' m' (oppM ns wide high) → Q (.ref p') H'))
end
end

/-! Lists of rows and of kinds. -/

section
open PySem PySem.Spec PyProof.Rows L2 Gd
theorem dice_keepsX {H H' : Hp} {d : Addr} (hd : DiceAt H d) (e : ExtBut d H H') : Keeps H H' := by
  obtain ⟨_, _, _, q, _⟩ := hd
  exact keeps_but (.inr q) e
theorem sqT_keepsX {K : PySem.W.Frag} {H H' : Hp} {a : Addr} {xs : List V} (e : Keeps H H') (h : SqT K H a xs) : SqT K H' a xs := by
  rcases h with (h | ⟨o, h⟩) | h
  · exact .inl (.inl (e _ _ (fun _ z => by cases z) h))
  · exact .inl (.inr ⟨o, e _ _ (fun _ z => by cases z) h⟩)
  · exact .inr h
theorem kindAt_keeps {K : PySem.W.Frag} {C : Addr} {H H' : Hp} {q n t m : Addr} {ns : List Int} (e : Keeps H H') (h : KindAt K C H q n t m ns) : KindAt K C H' q n t m ns := by
  obtain ⟨⟨dy, h1⟩, h2, h3, h4, h5⟩ := h
  exact ⟨⟨dy, e _ _ (fun _ z => by cases z) h1⟩, TupX.keeps e h2, sqT_keepsX e h3, sqT_keepsX e h4, h5⟩
/-- a kind with the numbers ns -/
def KO (K : PySem.W.Frag) (C : Addr) (H : Hp) (v : V) (ns : List Int) : Prop := ∃ p n t m, v = .ref p ∧ KindAt K C H p n t m ns
theorem KO.keeps {K : PySem.W.Frag} {C : Addr} {H H' : Hp} (e : Keeps H H') {v : V} {ns : List Int} (h : KO K C H v ns) : KO K C H' v ns := by
  obtain ⟨p, n, t, m, rfl, h⟩ := h
  exact ⟨p, n, t, m, rfl, kindAt_keeps e h⟩
theorem KO.ext {K : PySem.W.Frag} {C : Addr} {H H' : Hp} (e : Ext H H') {v : V} {ns : List Int} (h : KO K C H v ns) : KO K C H' v ns := h.keeps (Keeps.of e)
abbrev KOs (K : PySem.W.Frag) (C : Addr) (H : Hp) (vs : List V) (xss : List (List Int)) : Prop := Paired (KO K C H) vs xss
theorem kos_ext {K : PySem.W.Frag} {C : Addr} {H H' : Hp} (e : Ext H H') {vs : List V} {xss : List (List Int)} (h : KOs K C H vs xss) : KOs K C H' vs xss := Paired.mapP h fun _ _ z => z.ext e
section
variable {K : PySem.W.Frag} {σ : L2.St} {H1 : Hp} {vs : List Nat} {g : TG} {tt : TT} {te : TE} {Q : VK} {α β : Type} {xs : List V} {as : List α} {a : Addr}
theorem rel_pair {R : Hp → V → β → Prop} {z : α} {c : α → Bool} {f : α → β} {ys : List V} {H' : Hp} {n : Nat} (hn : n = as.length) (hr : Rel (fun i y H => R H y (f (as.getD i z))) (idx (fun i => c (as.getD i z)) n) ys H') : Paired (R H') ys ((as.filter c).map f) := by
  rw [hn] at hr
  rw [← idx_items' as z c f]
  refine pair_of (by rw [List.length_map]; exact hr.1.symm) fun j y b hy hb => ?_
  rw [List.getElem?_map] at hb
  obtain ⟨i, hi, rfl⟩ := Option.map_eq_some_iff.mp hb
  exact hr.2 j i y hi hy
/-- a comprehension over a list that is told item by item, whose results are told too -/
theorem lcPL (hs : SqL K H1 a xs) (hn : xs.length = as.length) (sz : xs.length < sizeLine) (z : α) (c : α → Bool) (f : α → β) (R : Hp → V → β → Prop) (mono : ∀ H H' y b, Keeps H H' → R H y b → R H' y b)
    (body : ∀ (i : Nat) x y H', xs[i]? = some x → as[i]? = some y → Ext H1 H' → ∀ (Qe : VK) (Qn : Hp → Prop), (∀ v H3, Ext H' H3 → c y = true → R H3 v (f y) → Qe v H3) → (∀ H3, Ext H' H3 → c y = false → Qn H3) →
      g x (wipe σ vs) H' fun σ2 H2 => wipe σ2 vs = wipe σ vs ∧ tt σ2 H2 fun b H3 => if b = true then te σ2 H3 Qe else Qn H3)
    (k : ∀ H' D ys, Ext H1 H' → H1 D = none → H' D = some (.lst ys) → Paired (R H') ys ((as.filter c).map f) → Q (.ref D) H') :
    ∃ a', V.ref a = .ref a' ∧ (∃ xs, SqL K H1 a' xs) ∧ LcG (Itl K a') g tt te vs σ H1 Q := by
  refine ⟨a, rfl, ⟨_, hs⟩, fun D hD => lc_rel walk_list (fun i y H => R H y (f (as.getD i z))) (fun i => c (as.getD i z)) (fun i y D ys H H' hd e r => mono H H' y _ (keeps_but hd e) r) hD (fun H' e => sqL_ext e hs) sz (fun i x H' H'' hi e hy Qe Qn he hn2 => ?_) (fun H' ys e hd hr => ?_)⟩
  · obtain ⟨rfl, hx⟩ := hy
    have hi' : i < as.length := by omega
    have ex : as.getD i z = as[i] := by rw [List.getD_eq_getElem?_getD, List.getElem?_eq_getElem hi']; rfl
    exact body i x as[i] _ hx (List.getElem?_eq_getElem hi') e Qe Qn (fun v H3 e3 hc r => he v H3 e3 (by rw [ex]; exact r) (by rw [ex]; exact hc)) (fun H3 e3 hc => hn2 H3 e3 (by rw [ex]; exact hc))
  · exact k H' D ys e hD hd (rel_pair hn hr)
theorem lcPT (hs : SqT K H1 a xs) (hn : xs.length = as.length) (sz : xs.length < sizeLine) (z : α) (c : α → Bool) (f : α → β) (R : Hp → V → β → Prop) (mono : ∀ H H' y b, Keeps H H' → R H y b → R H' y b)
    (body : ∀ (i : Nat) x y H', xs[i]? = some x → as[i]? = some y → Ext H1 H' → ∀ (Qe : VK) (Qn : Hp → Prop), (∀ v H3, Ext H' H3 → c y = true → R H3 v (f y) → Qe v H3) → (∀ H3, Ext H' H3 → c y = false → Qn H3) →
      g x (wipe σ vs) H' fun σ2 H2 => wipe σ2 vs = wipe σ vs ∧ tt σ2 H2 fun b H3 => if b = true then te σ2 H3 Qe else Qn H3)
    (k : ∀ H' D ys, Ext H1 H' → H1 D = none → H' D = some (.lst ys) → Paired (R H') ys ((as.filter c).map f) → Q (.ref D) H') :
    ∃ a', V.ref a = .ref a' ∧ (∃ xs, SqT K H1 a' xs) ∧ LcG (Itt K a') g tt te vs σ H1 Q := by
  refine ⟨a, rfl, ⟨_, hs⟩, fun D hD => lc_rel walk_tup (fun i y H => R H y (f (as.getD i z))) (fun i => c (as.getD i z)) (fun i y D ys H H' hd e r => mono H H' y _ (keeps_but hd e) r) hD (fun H' e => sqT_ext e hs) sz (fun i x H' H'' hi e hy Qe Qn he hn2 => ?_) (fun H' ys e hd hr => ?_)⟩
  · obtain ⟨rfl, hx⟩ := hy
    have hi' : i < as.length := by omega
    have ex : as.getD i z = as[i] := by rw [List.getD_eq_getElem?_getD, List.getElem?_eq_getElem hi']; rfl
    exact body i x as[i] _ hx (List.getElem?_eq_getElem hi') e Qe Qn (fun v H3 e3 hc r => he v H3 e3 (by rw [ex]; exact r) (by rw [ex]; exact hc)) (fun H3 e3 hc => hn2 H3 e3 (by rw [ex]; exact hc))
  · exact k H' D ys e hD hd (rel_pair hn hr)
end
/-! ### rows compared -/
def rdata (xss : List (List Int)) : List PyData := xss.map fun xs => .tuple (pdata xs)
theorem rdpX {K : PySem.W.Frag} {H : Hp} : ∀ {fs : List V} {xss : List (List Int)}, RXs K H fs xss → DpAll K H fs (rdata xss)
  | _, _, .nil => .nil
  | _, _, .cons h t => by
    obtain ⟨b, rfl, hb⟩ := h
    exact .cons (.tup hb.sq (pdp _)) (rdpX t)
theorem reqv : ∀ xss yss : List (List Int), PyData.eqvAll (rdata xss) (rdata yss) = decide (xss = yss)
  | [], [] => rfl
  | [], y :: ys => rfl
  | x :: xs, [] => rfl
  | x :: xs, y :: ys => by
    have ih := reqv xs ys
    unfold rdata at ih ⊢
    simp only [List.map_cons, PyData.eqvAll, PyData.eqv, peqv, ih]
    by_cases h1 : x = y
    · by_cases h2 : xs = ys
      · simp [h1, h2]
      · simp [h1, h2]
    · simp [h1]
theorem pdepth : ∀ ns : List Int, PyData.depthAll (pdata ns) = 0
  | [] => rfl
  | n :: ns => by
    have ih := pdepth ns
    unfold pdata at ih ⊢
    simp [PyData.depthAll, PyData.depth, ih]
theorem rdepth : ∀ xss : List (List Int), PyData.depthAll (rdata xss) ≤ 1
  | [] => Nat.zero_le _
  | x :: xs => by
    have ih := rdepth xs
    unfold rdata at ih ⊢
    simp only [List.map_cons, PyData.depthAll, PyData.depth, pdepth]
    omega
theorem rlay : ∀ xss : List (List Int), PyData.canLayAll0 (rdata xss) = true
  | [] => rfl
  | x :: xs => by
    have ih := rlay xs
    unfold rdata at ih ⊢
    simp only [List.map_cons, PyData.canLayAll0, PyData.canLay0, play, ih]
    rfl
theorem sh_rl (xss : List (List Int)) : SeqAt.shaped (.list (rdata xss)) = true := by
  have h : PyData.depth (.list (rdata xss)) ≤ 64 := by
    have := rdepth xss
    show PyData.depthAll (rdata xss) + 1 ≤ 64
    omega
  show (PyData.canLayAll0 (rdata xss) && decide (PyData.depth (.list (rdata xss)) ≤ 64)) = true
  rw [rlay, Bool.true_and]
  exact decide_eq_true h
section
variable {K : PySem.W.Frag} {H : Hp} {Q : VK} {a b : Addr} {fs gs : List V} {xss yss : List (List Int)}
theorem g_neRX (ha : SqL K H a fs) (hb : SqL K H b gs) (h1 : RXs K H fs xss) (h2 : RXs K H gs yss) (k : Q (.bl (!decide (xss = yss))) H) : rNeD K (.ref a) (.ref b) H Q := by
  refine ⟨_, _, .lst ha (rdpX h1), .lst hb (rdpX h2), sh_rl _, sh_rl _, ?_⟩
  have e : PyData.eqv (.list (rdata xss)) (.list (rdata yss)) = decide (xss = yss) := by
    simp only [PyData.eqv, reqv]
  rw [e]
  exact k
end
section
variable {K : PySem.W.Frag} {C : Addr}
theorem look_no {x : Str} {u t : V} (h1 : (x == ("_numbers" : Str)) = false) (h2 : (x == ("_place" : Str)) = false) : ([(("_numbers" : Str), u), (("_place" : Str), t)] : List (Str × V)).lookup x = none := by
  simp [List.lookup, h1, h2]
theorem g_me {m : Str} {sp : Sp} {dvs : List V} {E : XK} {ta : TE} {t : TA} {σ : L2.St} {H : Hp} {Q : VK} (k : ta σ H fun x H1 => ∃ a dx fs, x = .ref a ∧ H1 a = some (.ins C dx fs) ∧ fs.lookup m = none ∧ t σ H1 fun vs H2 => sp (x :: (vs ++ dvs)) H2 Q E) : tMeth C m sp dvs E ta t σ H Q := k
theorem g_gets {v : Addr → List Int → V} {E : XK} {H : Hp} {Q : VK} {p n t m : Addr} {ns : List Int} (hP : KindAt K C H p n t m ns) (k : ∀ H', Ext H H' → Q (v n ns) H') :
    ∃ a dx fs, V.ref p = .ref a ∧ H a = some (.ins C dx fs) ∧ spGet K C v (.ref a :: []) H Q E := by
  obtain ⟨dx, hp⟩ := id hP.ins
  exact ⟨p, dx, _, rfl, hp, p, n, t, m, ns, rfl, hP, k⟩
theorem g_obj {m : Str} {A : V → Prop} {H : Hp} {p n t m' : Addr} {ns : List Int} (hP : KindAt K C H p n t m' ns) (h1 : (m == ("_numbers" : Str)) = false) (h2 : (m == ("_place" : Str)) = false) (k : A (.ref p)) :
    ∃ a dx fs, V.ref p = .ref a ∧ H a = some (.ins C dx fs) ∧ fs.lookup m = none ∧ A (.ref p) := by
  obtain ⟨dx, hp⟩ := id hP.ins
  exact ⟨p, dx, _, rfl, hp, look_no h1 h2, k⟩
theorem of_len4V {us : List (Option V)} (hl : us.length = 4) : ∃ a b c d, us = [a, b, c, d] := by
  cases us with
  | nil => simp at hl
  | cons a r =>
    cases r with
    | nil => simp at hl
    | cons b r =>
      cases r with
      | nil => simp at hl
      | cons c r =>
        cases r with
        | nil => simp at hl
        | cons d r =>
          cases r with
          | nil => exact ⟨a, b, c, d, rfl⟩
          | cons _ _ => simp at hl
end
end

/-! The rows over a kind; its steps. -/

section
open PySem PySem.Spec PyProof.Rows L2 Gd
section
variable {P : Program} {w : World} {K : PySem.W.Frag} {mg : Str → Option Value} {base : Heap} {f C t0 CT : Addr} {fd : FuncData}
def spRowsOver (K : PySem.W.Frag) (C : Addr) : Sp := fun vs H Q _ => ∃ (p n t m : Addr) (ns : List Int) (many N : Nat), vs = [.ref p, .int (many : Int)] ∧ KindAt K C H p n t m ns ∧ ns.sum + (many : Int) = (N : Int) ∧ N ≤ 12 ∧
  ∀ H' F fs, Ext H H' → H' F = some (.lst fs) → RXs K H' fs (rows N N) → Q (.ref F) H'
/-- the kinds over one that a test lets through, in their order -/
def spSteps (K : PySem.W.Frag) (C : Addr) (b : List Int → List Int → Bool) : Sp := fun vs H Q _ => ∃ (p n t m : Addr) (ns : List Int) (many N : Nat), vs = [.ref p, .int (many : Int)] ∧ KindAt K C H p n t m ns ∧ ns.sum + (many : Int) = (N : Int) ∧ N ≤ 12 ∧
  ∀ H' u ys, Ext H H' → TupX K H' u ys → KOs K C H' ys ((rows N N).filter fun r => b r ns) → Q (.ref u) H'
theorem rows_few {N : Nat} (h : N ≤ 12) : (rows N N).length < sizeLine := by
  have := rows_len N h N h
  exact small (by omega)
end
end

/-! The turned row. -/

section
open PySem PySem.Spec PyProof.Rows L2 Gd
section
variable {P : Program} {w : World} {K : PySem.W.Frag} {mg : Str → Option Value} {base : Heap} {f : Addr} {fd : FuncData}
abbrev sTurned : Stmt := top 20
theorem scTurned : FnScope ["row", "i", "number"] ["row"] (defScope sTurned) := ⟨rfl, rfl, rfl, by decide +kernel, rfl, by decide +kernel, by decide +kernel⟩
def spTurned (K : PySem.W.Frag) : Sp := fun vs H Q _ => ∃ (a : Addr) (ns : List Int), vs = [.ref a] ∧ SqT K H a (ns.map V.int) ∧ ns.length ≤ 100 ∧ 0 ≤ ns.getD 0 0 ∧ ns.getD 0 0 ≤ 100 ∧
  ∀ H' u, Ext H H' → TupX K H' u ((turnM ns).map V.int) → Q (.ref u) H'
theorem ok_turnedR (F : Fun K "turned_row" "turned_row" sTurned f fd) (T : Txt K mg) (N : Def1 P w K mg base CX0 1 "number_at" ["row", "index"] (spNumAt K)) : FnOk P w K mg base CX0 2 f fd ["row"] (spTurned K) := by
  refine F.ok scTurned (fun vs H Q E h => ?_) (fun cdv A outer s H vs Q E hr h => ?_)
  · obtain ⟨a, ns, rfl, _⟩ := h
    rfl
  · obtain ⟨a, ns, rfl, hs, hl, hm0, hm, k⟩ := h
    refine ⟨_, pss_one (ps_ret (pe_callTy call_tupX (by rfl) T.tuple (by decide +kernel) (pa_cons (pe_lc (own := [("i", 1)]) (g := gName 1) (tt := tYes) rfl scTurned.nd (pi_range1 (by rfl) T.range (pa_cons (pe_def N hr (by decide) (by rfl) (pa_cons (pv 0) (pa_cons pe_int pa_nil))) pa_nil)) (blkOk_by (N := ["row", "i", "number"]) (sc := defScope sTurned) (by decide +kernel)) (fun _ _ _ _ _ => pg_name (i := 1) scTurned.nd rfl (Or.inr rfl)) (fun _ _ _ _ _ => pts_nil) (fun _ _ _ _ _ => by exact (pe_callB (r := rLenS K) call_len_seq (by rfl) T.len PySem.boot_len (pa_cons (pe_lc (own := [("number", 2)]) (wi := iTup K (tVar 0)) (g := gName 2) rfl scTurned.nd (by exact (pi_tup (pv 0))) (blkOk_by (N := ["row", "i", "number"]) (sc := { kind := .function, names := [((".0" : Str), .local), ("i", .cell), ("len", .globalImplicit), ("row", .cell)], isGenerator := false, isCoroutine := false, more := [] }) (by decide +kernel)) (fun _ _ _ _ _ => pg_name (i := 2) scTurned.nd rfl (Or.inl rfl)) (fun _ _ _ _ _ => pts_one (pt_cmpR op_gt (pv 2) (pv 1) (nomark _))) (fun _ _ _ _ _ => by exact (pv 2))) pa_nil)))) pa_nil))), ?_⟩
    try dsimp only [cx_nox, cx_K]
    walk_at "rd"
    refine g_lc (g_rng1 ?_)
    walk_at "rd"
    refine ⟨a, ns, 0, rfl, hs, ?_⟩
    walk_at "rd"
    refine ⟨by omega, by omega, lcR (by show _ < sizeLine; have : (1000 : Nat) < sizeLine := by decide
                                        omega) (fun _ => true) (fun i => .int ((ns.filter fun x => decide ((i : Int) < x)).length : Int)) (fun i H' hi e Qe Qn he hn => ?_) (fun H' D e hD hd => ?_)⟩
    · walk_at "rd"
      refine ⟨rfl, ?_⟩
      walk_at "rd"
      refine g_lc (g_itup ?_)
      walk_at "rd"
      refine lcT (sqT_ext e hs) (by rw [List.length_map]; show _ < sizeLine; have : (1000 : Nat) < sizeLine := by decide
                                    omega) (gtI i) id (fun x H2 hx e2 Qe2 Qn2 he2 hn2 => ?_) (fun H2 D2 e2 hD2 hd2 => ?_)
      · obtain ⟨n, hn, rfl⟩ := List.mem_map.mp hx
        walk_at "rd"
        refine ⟨rfl, ?_⟩
        walk_at "rd"
        refine ite2 (fun h1 => ?_) (fun h1 => ?_)
        · walk_at "rd"
          exact he2 _ (fun _ _ z => z) (by show decide _ = true; simpa using h1)
        · refine hn2 _ (fun _ _ z => z) (by show decide _ = false; simpa using h1)
      · walk_at "rd"
        refine ⟨D2, _, rfl, .inl (SqL.of hd2), ?_⟩
        walk_at "rd"
        rw [List.length_map, filter_gtI]
        exact he _ e2 rfl
    · walk_at "rd"
      rw [idx_all] at hd
      refine ⟨D, _, rfl, .inl ⟨SqL.of hd, fun l o hl ho => ?_⟩⟩
      refine k _ l (Ext.trans e (Ext.new hl)) ?_
      unfold turnM
      rw [List.map_map]
      exact TupX.new ho
end
end

/-! The turned kind. -/

section
open PySem PySem.Spec PyProof.Rows L2 Gd
section
variable {P : Program} {w : World} {K : PySem.W.Frag} {mg : Str → Option Value} {base : Heap} {f C t0 CT fT CR fR : Addr} {fd : FuncData}
/-- a promise that makes a kind -/
def spMakes (K : PySem.W.Frag) (C : Addr) (v : List Int → List Int) : Sp := fun vs H Q _ => ∃ (p n t m : Addr) (ns : List Int), vs = [.ref p] ∧ KindAt K C H p n t m ns ∧ ∀ H' p' n' t' m', Ext H H' → KindAt K C H' p' n' t' m' (v ns) → Q (.ref p') H'
theorem scTur : FnScope ["self"] ["self"] (defScope (cls 7)) := ⟨rfl, rfl, rfl, by decide +kernel, rfl, by decide +kernel, by decide +kernel⟩
theorem ok_turned (F : Fun K "turned" "Kind.turned" (cls 7) f fd) (Cl : KC K mg C) (N : Def1 P w K mg base CX0 2 "turned_row" ["row"] (spTurned K)) (I : Ini1 P w K mg base CX0 5 C t0 ["self", "numbers"] (spInit K C)) :
    FnOk P w K mg base CX0 7 f fd ["self"] (spMakes K C turnM) := by
  refine F.ok scTur (fun vs H Q E h => ?_) (fun cdv A outer s H vs Q E hr h => ?_)
  · obtain ⟨p, n, t, m, ns, rfl, _⟩ := h
    rfl
  · obtain ⟨p, n, t, m, ns, rfl, ⟨⟨dx, hp⟩, hn, ht, hm, hF⟩, k⟩ := h
    refine ⟨_, pss_one (ps_ret (pe_mk1 I pass0 hr (by decide) (by rfl) Cl.g (pa_cons (pe_def N hr (by decide) (by rfl) (pa_cons (pe_fld (pv 0) rfl) pa_nil)) pa_nil))), ?_⟩
    try dsimp only [cx_nox, cx_K]
    walk_at "rd"
    refine g_make ?_
    walk_at "rd"
    refine ⟨p, C, dx, _, _, rfl, hp, Cl.cl, Cl.noN, look1, ?_⟩
    walk_at "rd"
    have hl1 := hF.len
    have h0 := hF.at 0
    refine ⟨n, ns, rfl, hn.sq, by omega, h0.1, by omega, fun H1 u e1 hu => ?_⟩
    walk_at "rd"
    exact g_mk2 hu (turn_fall hF) fun H' p' n' t' m' e hk => k H' p' n' t' m' (Ext.trans e1 e) hk
end
end

end Q0

set_option Elab.async false
set_option linter.all false
set_option maxRecDepth 100000
set_option maxHeartbeats 4000000
/-! sorted(a list of own objects), by their own <, fewer than sixty-four of them. -/
namespace Gd
open PySem PySem.Spec PySem.W PySem.Calls PyProof.Rows L2 KSR
section
variable {r : Nat → Int} {n : Nat}
/-- the questions are answered by the rank, and the state stays as J says -/
theorem go_keeps {J : Shared → Prop} {cmp : Nat → Nat → (Bool → Shared → Prop) → Shared → Prop} (hc : ∀ i j s (C : Bool → Shared → Prop), J s → i < n → j < n → (∀ s', J s' → C (decide (r i < r j)) s') → cmp i j C s) {α : Type} {Q : α → Prop} :
    ∀ (t : KasT α) (s : Shared), J s → Go r n Q t → t.kasWp cmp (fun a s' => Q a ∧ J s') s
  | .ret a, s, hj, q => ⟨q, hj⟩
  | .ask i j k, s, hj, q => by
    obtain ⟨a, b, c⟩ := q
    show cmp i j (fun b s' => (k b).kasWp cmp _ s') s
    exact hc i j s _ hj a b fun s' hj' => go_keeps hc (k (decide (r i < r j))) s' hj' c
end
section
variable {prog : Program} {w : World} {A : Around} {E : Value → Shared → Prop} {s : Shared} {vs : List Value} {T : Value} {r : Nat → Int}
/-- list.sort of a list that J lets alone -/
theorem sort_own {a : Addr} {n : Nat} {P : PySem.Fin → Shared → Prop} {J : Nat → Shared → Prop} (ho : s.heap.get? a = some (seqObj "list" vs.toArray n)) (h2 : 2 ≤ vs.length) (h64 : vs.length < 64) (hT1 : (T != Value.type "tuple") = true) (hT2 : (T == T) = true)
    (start : ∀ e1 h', (∀ b o, b ≠ a → s.heap.get? b = some o → h'.get? b = some o) → h'.get? a = some (seqObj "list" #[] e1) → J e1 { s with heap := h' })
    (hat : ∀ e1 s', J e1 s' → s'.heap.get? a = some (seqObj "list" #[] e1)) (hT : ∀ e1 s', J e1 s' → ∀ v ∈ vs, Looks (model prog w) s'.heap (typeOf v) T)
    (ask : ∀ e1 i j s' (C : Bool → Shared → Prop), J e1 s' → i < vs.length → j < vs.length → (∀ s'', J e1 s'' → C (decide (r i < r j)) s'') → kas_ask prog w A oneType' vs i j C s')
    (fin : ∀ e1 p s', J e1 s' → Ok vs.length p → Up r p vs.length → ∀ h' c, (∀ b o, b ≠ a → s'.heap.get? b = some o → h'.get? b = some o) → h'.get? a = some (seqObj "list" (List.toArray (p.toList.map fun i => vs.getD i Value.none)) c) → P (.done (.ret .none)) { s' with heap := h' }) :
    wpAny (model prog w) A (Builtin.«list.sort» ⟨[.ref a], []⟩) P E s := by
  obtain ⟨e1, ho1⟩ : ∃ e1, (s.heap.update a (Obj.mapSeq fun _ => (#[] : Array Value))).get? a = some (seqObj "list" #[] e1) := ⟨_, get?_update_seq ho fun _ => #[]⟩
  have k1 : ∀ b o, b ≠ a → s.heap.get? b = some o → (((s.heap.update a (Obj.mapSeq fun _ => (#[] : Array Value))).push (seqObj "tuple" vs.toArray 0)).push (seqObj "list" #[] 0)).get? b = some o := fun b o hb e =>
    Heap.get?_push_of_some _ (Heap.get?_push_of_some _ ((Heap.get?_update_ne _ _ _ _ hb).trans e))
  have J0 := start e1 _ k1 (Heap.get?_push_of_some _ (Heap.get?_push_of_some _ ho1))
  rw [list_sort_plain]
  refine wpAny_bind (listItems_at ho rfl ?_)
  refine wpAny_bind (listUpdate_at ho rfl ?_ (by rw [List.size_toArray, sizeLine_eq]; omega) (Nat.zero_le _))
  refine wpAny_bind (seqEpoch_at ho1 rfl ?_)
  refine wpAny_bind (wpAny_newTuple ?_ (by show vs.length ≤ _; rw [sizeLine_eq]; omega))
  refine wpAny_bind (wpAny_newList ?_ (Nat.zero_le _))
  refine wpAny_holding ?_
  show wpAny (model prog w) A _ P E { s with heap := ((s.heap.update a (Obj.mapSeq fun _ => (#[] : Array Value))).push (seqObj "tuple" vs.toArray 0)).push (seqObj "list" #[] 0) }
  generalize ((s.heap.update a (Obj.mapSeq fun _ => (#[] : Array Value))).push (seqObj "tuple" vs.toArray 0)).push (seqObj "list" #[] 0) = h3 at J0 k1 ⊢
  dsimp only
  have hn2 : ¬ vs.toArray.size < 2 := by rw [List.size_toArray]; omega
  rw [if_neg hn2, if_neg hn2]
  refine wpAny_bind (kas_kind h2 (hT e1 _ J0) hT1 hT2 ?_)
  have est : SortSt.mk' oneType' (vs.toArray.zip vs.toArray) #[] 7 none = kas_st oneType' (pairsOf vs) (List.toArray (List.range vs.length)) := by
    have e := kas_range (pairsOf vs)
    rw [pairsOf_size] at e
    show SortSt.mk' oneType' (pairsOf vs) #[] 7 none = SortSt.mk' oneType' ((List.toArray (List.range vs.length)).map (kas_item (pairsOf vs))) #[] 7 none
    rw [e]
  have tree := go_keeps (r := r) (n := vs.length) (J := J e1) (cmp := kas_ask prog w A oneType' vs) (fun i j s' C hj hi hj' hC => ask e1 i j s' C hj hi hj' hC) (kas_sort vs.length) { s with heap := h3 } J0 (sort_go (by omega))
  rw [kas_ask_eq] at tree
  have run := kas_runs (E := E) (Q := fun _ st' s' => ∃ p : Array Nat, p.size = vs.length ∧ arrOf st' = p.map (kas_item (pairsOf vs)) ∧ failedOf st' = none ∧ (Ok vs.length p ∧ Up r p vs.length) ∧ J e1 s')
    h2 h64 (fun p' st' s' a1 a2 a3 a4 => ⟨p', a1, a2, a3, a4⟩) tree
  rw [← est] at run
  refine wpAny_bind (wpAny_mono run ?_ fun _ _ e => e)
  rintro ⟨⟨⟩, st'⟩ s' ⟨p, hp, har, hf, ⟨hO, hU⟩, hJ⟩
  dsimp only
  have na := hat e1 s' hJ
  have hout : (arrOf st').map (·.2) = List.toArray (p.toList.map fun i => vs.getD i Value.none) := by
    apply Array.toList_inj.mp
    rw [har, Array.map_map, Array.toList_map]
    exact List.map_congr_left fun i _ => by show (kas_item (pairsOf vs) i).2 = _; rw [kas_item_eq]
  have hsz : (List.toArray (p.toList.map fun i => vs.getD i Value.none)).size = vs.length := by rw [List.size_toArray, List.length_map, Array.length_toList, hp]
  rw [hout]
  obtain ⟨c2, hc2⟩ : ∃ c2, (s'.heap.update a (Obj.mapSeq fun _ => List.toArray (p.toList.map fun i => vs.getD i Value.none))).get? a = some (seqObj "list" (List.toArray (p.toList.map fun i => vs.getD i Value.none)) c2) := ⟨_, get?_update_seq na fun _ => List.toArray (p.toList.map fun i => vs.getD i Value.none)⟩
  refine wpAny_bind (seqEpoch_at na rfl ?_)
  refine wpAny_bind (listUpdate_at na rfl ?_ (Nat.zero_le _) (Nat.le_trans (Nat.le_of_eq hsz) (by rw [sizeLine_eq]; omega)))
  rw [hf]
  simp only [bne_self_eq_false, Bool.false_eq_true, if_false]
  exact wpAny_pure (fin e1 p s' hJ hO hU _ c2 (fun b o hb e => (Heap.get?_update_ne _ _ _ _ hb).trans e) hc2)
/-- sorted of a list of own objects -/
theorem sorted_own {l : Addr} {Q : Value → Shared → Prop} {J : Addr → Nat → Shared → Prop} (hl : s.heap.IsList l vs.toArray) (h2 : 2 ≤ vs.length) (h64 : vs.length < 64) (hT1 : (T != Value.type "tuple" && (T != Value.type "int" && T == T)) = true)
    (start : ∀ D e1 h', s.heap.objs.size ≤ D → (∀ b o, s.heap.get? b = some o → h'.get? b = some o) → h'.get? D = some (seqObj "list" #[] e1) → J D e1 { s with heap := h' })
    (hat : ∀ D e1 s', J D e1 s' → s'.heap.get? D = some (seqObj "list" #[] e1)) (hT : ∀ D e1 s', J D e1 s' → ∀ v ∈ vs, Looks (model prog w) s'.heap (typeOf v) T)
    (ask : ∀ D e1 i j s' (C : Bool → Shared → Prop), J D e1 s' → i < vs.length → j < vs.length → (∀ s'', J D e1 s'' → C (decide (r i < r j)) s'') → kas_ask prog w A.in1.in1 oneType' vs i j C s')
    (fin : ∀ D e1 p s', J D e1 s' → Ok vs.length p → Up r p vs.length → ∀ h' c, (∀ b o, b ≠ D → s'.heap.get? b = some o → h'.get? b = some o) → h'.get? D = some (seqObj "list" (List.toArray (p.toList.map fun i => vs.getD i Value.none)) c) → Q (.ref D) { s' with heap := h' }) :
    wpAny (model prog w) A (call (.builtin "sorted") [.ref l]) Q E s := by
  simp only [Bool.and_eq_true] at hT1
  refine Calls.call_function_entry kind_sorted plain_sorted entry_sorted (args_sorted1 _) ?_
  unfold Builtin.«sorted»
  refine wpAny_bind (m := checkCount "sorted" 1 1 _) (wpAny_pure ?_)
  refine wpAny_bind (collect_list hl ?_ (by rw [sizeLine_eq]; omega))
  refine wpAny_bind (wpAny_newList ?_ (by rw [sizeLine_eq]; omega))
  have hsz : ((s.heap.push (seqObj "list" #[] 0)).update s.heap.objs.size (Obj.mapSeq (· ++ vs.toArray))).objs.size = s.heap.objs.size + 1 := by
    rw [Heap.size_update, size_push']
  have hoL : (((s.heap.push (seqObj "list" #[] 0)).update s.heap.objs.size (Obj.mapSeq (· ++ vs.toArray))).push (seqObj "list" vs.toArray 0)).get? (s.heap.objs.size + 1) = some (seqObj "list" vs.toArray 0) := by
    rw [← hsz]
    exact Heap.get?_push_size _ rfl
  have keep : ∀ b o, s.heap.get? b = some o → (((s.heap.push (seqObj "list" #[] 0)).update s.heap.objs.size (Obj.mapSeq (· ++ vs.toArray))).push (seqObj "list" vs.toArray 0)).get? b = some o := fun b o q => by
    have hlt : b < s.heap.objs.size := Heap.lt_size q
    rw [Heap.get?_push_ne _ _ _ (by rw [hsz]; exact Nat.ne_of_lt (Nat.lt_succ_of_lt hlt)), Heap.get?_update_ne _ _ _ _ (Nat.ne_of_lt hlt), Heap.get?_push_ne _ _ _ (Nat.ne_of_lt hlt)]
    exact q
  show wpAny _ _ _ _ _ { s with heap := ((s.heap.push (seqObj "list" #[] 0)).update s.heap.objs.size (Obj.mapSeq (· ++ vs.toArray))).push (seqObj "list" vs.toArray 0) }
  rw [hsz]
  refine wpAny_bind (wpAny_holding (wpAny_call_entry slot_list_sort ⟨_, hoL, rfl⟩ entry_list_sort ?body (args_list_sort _)))
  case body =>
    refine sort_own (J := J (s.heap.objs.size + 1)) (r := r) hoL h2 h64 hT1.1 hT1.2.2 (fun e1 h' k1 k2 => start _ e1 h' (Nat.le_succ _) (fun b o q => k1 b o (Nat.ne_of_lt (Nat.lt_succ_of_lt (Heap.lt_size q))) (keep b o q)) k2)
      (fun e1 s' hj => hat _ e1 s' hj) (fun e1 s' hj => hT _ e1 s' hj) (fun e1 i j s' C hj hi hj' hC => ask _ e1 i j s' C hj hi hj' hC) (fun e1 p s' hj hO hU h' c k1 k2 => ⟨_, rfl, wpAny_pure ⟨_, rfl, fin _ e1 p s' hj hO hU h' c k1 k2⟩⟩)
end
section
variable {X : Cx} {k : Nat} {f C : Addr} {fd : FuncData} {sp : Sp}
/-- the own < of two, asked by the sort -/
theorem ask_own (hm : Meth X.K C "__lt__" f) (F : FnOk X.prog X.w X.K X.mg X.base CX0 k f fd ["self", "other"] sp) (hr : Room (k + 2) X.A) (hb : Binds X.K fd ["self", "other"] [])
    {pins : List (Addr × Obj)} {σ : L2.St} {H : Hp} {s : Shared} {p dx : Addr} {fs : List (Str × V)} {y : V} {u : Value} {Q : Bool → Hp → Prop} {G : Bool → Shared → Prop} (I : Inv X pins σ H s) (e : H p = some (.ins C dx fs)) (ry : RelV y u)
    (h : sp [.ref p, y] H (fun v H' => ∃ c, v = .bl c ∧ Q c H') fun _ _ _ => False) (hG : ∀ c s' H', Inv X pins σ H' s' → Q c H' → G c s') : wpAny (model X.prog X.w) X.A.in1.in1 (keyLt' oneType' (.ref p) u) G (fun _ _ => False) s := by
  obtain ⟨od, J⟩ := seen I e
  obtain ⟨m, hF⟩ := I.fr
  have hu : X.A.in1.in1.units < cLine := (hr.in1.in1).units0
  refine kas_lt_inst hu hF I.ok.mod.kin J hm.at_ hm.fn ?_
  have r2 : Vals ([.ref p, y] : List V) [.ref p, u] := .cons (show RelV (V.ref p) (Value.ref p) from rfl) (.cons ry .nil)
  have bt := hb s [.ref p, u] I.kIn rfl
  refine wpAny_call (codeAny_mono (F.run X.A.in1.in1 X.stack s H ⟨[.ref p, u], []⟩ [.ref p, u] _ _ (fun _ _ _ => False) hr.in1.in1 I.env0.in1.in1 (by simpa using bt) r2 h) ?_)
  intro r s' hq
  match r, hq with
  | .error e, hq => exact False.elim hq
  | .ok (.ret u), hq =>
    obtain ⟨z, H', I', rz, c, rfl, q⟩ := I.after hq
    cases rz
    exact hG c s' H' I' q
  | .ok .next, hq => exact False.elim hq
  | .ok .brk, hq => exact False.elim hq
  | .ok .cont, hq => exact False.elim hq
/-- sorted(xs), own objects whose own < follows a rank, fewer than sixty-four -/
def rSortedO (K : PySem.W.Frag) (C : Addr) (sp : Sp) : List V → Hp → VK → Prop := fun vs H Q => ∃ (a : Addr) (xs : List V) (rk : Nat → Int), vs = [V.ref a] ∧ SqL K H a xs ∧ xs.length < 64 ∧ (∀ x ∈ xs, ∃ p dx fs, x = V.ref p ∧ H p = some (.ins C dx fs)) ∧
  (∀ i j x y H', Ext H H' → xs[i]? = some x → xs[j]? = some y → ∀ Q' : VK, (∀ H'', Ext H' H'' → Q' (.bl (decide (rk i < rk j))) H'') → sp [x, y] H' Q' fun _ _ _ => False) ∧
  ∀ H' D (ps : List Nat), Ext H H' → H D = none → ps.Perm (List.range xs.length) → ps.Pairwise (fun i j => rk i ≤ rk j) → H' D = some (.lst (ps.map fun i => xs.getD i .non)) → Q (.ref D) H'
theorem cr_sortedO (hm : Meth X.K C "__lt__" f) (F : FnOk X.prog X.w X.K X.mg X.base CX0 k f fd ["self", "other"] sp) (hr : Room (k + 2) X.A) (hb : Binds X.K fd ["self", "other"] []) : CallR X (.builtin "sorted") (rSortedO X.K C sp) := by
  intro pins s σ H vs us Q I r h
  obtain ⟨a, xs, rk, rfl, hs, h64, hx, hlt, q⟩ := h
  obtain ⟨its, rv, hl, hz⟩ := I.list hs
  rw [Vals.ref1 r]
  have hlen : xs.length = its.length := rv.length
  obtain ⟨hb1, hb2⟩ := refs_back rv fun x m => by
    obtain ⟨t, _, _, e, _⟩ := hx x m
    exact ⟨t, e⟩
  have at_ : ∀ i, i < its.length → ∃ p dx fs, its.getD i Value.none = .ref p ∧ xs[i]? = some (V.ref p) ∧ H p = some (.ins C dx fs) := fun i hi => by
    obtain ⟨p, ep⟩ := hb2 _ (List.getElem_mem hi)
    have e1 : xs[i]? = some (V.ref p) := by
      rw [hb1, List.getElem?_map, List.getElem?_eq_getElem hi, ep]
      rfl
    obtain ⟨p', dx, fs, e2, e3⟩ := hx _ (List.mem_of_getElem? e1)
    cases e2
    exact ⟨p, dx, fs, by rw [List.getD_eq_getElem?_getD, List.getElem?_eq_getElem hi]; exact ep, e1, e3⟩
  by_cases h2 : 2 ≤ its.length
  · refine sorted_own (T := .ref C) (r := rk) (J := fun D e1 s' => ∃ H', Ext H H' ∧ H D = none ∧ H' D = some (.ext fun h => h.get? D = some (seqObj "list" #[] e1)) ∧ Inv X pins σ H' s') hl.isList h2 (by omega) (by simp)
      (fun D e1 h' hD k1 k2 => ⟨_, Q0.Ext.new (I.hok.fresh hD), I.hok.fresh hD, upd_same, I.laid (t' := s.toks) k1 hD ⟨k2, ⟨_, k2⟩, fun _ _ e k => k _ e⟩⟩)
      (fun D e1 s' ⟨H', e, hn, hD, I'⟩ => (I'.hok D _ hD).1)
      (fun D e1 s' ⟨H', e, hn, hD, I'⟩ v hv => ?_)
      (fun D e1 i j s' C' ⟨H', e, hn, hD, I'⟩ hi hj hC => ?_)
      (fun D e1 p s' ⟨H', e, hn, hD, I'⟩ hO hU h' c k1 k2 => ?_)
    · obtain ⟨i, hi, rfl⟩ := List.getElem_of_mem hv
      obtain ⟨p, dx, fs, e1, _, e3⟩ := at_ i hi
      rw [List.getD_eq_getElem?_getD, List.getElem?_eq_getElem hi] at e1
      have e1' : its[i] = Value.ref p := e1
      rw [e1']
      obtain ⟨od, J⟩ := seen I' (e _ _ e3)
      exact J.type
    · obtain ⟨p, dx, fs, e1, e2, e3⟩ := at_ i hi
      obtain ⟨p', dx', fs', f1, f2, f3⟩ := at_ j hj
      show wpAny _ _ (keyLt' oneType' (its.getD i Value.none) (its.getD j Value.none)) _ _ _
      rw [e1, f1]
      refine ask_own hm F hr hb (Q := fun c H'' => c = decide (rk i < rk j) ∧ Ext H' H'') I' (e _ _ e3) (show RelV (V.ref p') (Value.ref p') from rfl) (hlt i j _ _ H' e e2 f2 _ fun H'' e' => ⟨_, rfl, rfl, e'⟩) ?_
      rintro c s'' H'' I'' ⟨rfl, e'⟩
      exact hC s'' ⟨H'', Q0.Ext.trans e e', hn, e' _ _ hD, I''⟩
    · have hps : ∀ i ∈ p.toList, i < its.length := fun i hi => List.mem_range.mp ((List.Perm.mem_iff hO).mp hi)
      have eV : (p.toList.map fun i => its.getD i Value.none).map backV = p.toList.map fun i => xs.getD i .non := by
        rw [List.map_map]
        refine List.map_congr_left fun i hi => ?_
        obtain ⟨t, dx, fs, e1, e2, _⟩ := at_ i (hps i hi)
        show backV (its.getD i Value.none) = xs.getD i .non
        rw [e1, List.getD_eq_getElem?_getD, e2]
        rfl
      have hv : Vals (p.toList.map fun i => xs.getD i .non) (p.toList.map fun i => its.getD i Value.none) := by
        rw [← eV]
        refine vals_back fun u hu => ?_
        obtain ⟨i, hi, rfl⟩ := List.mem_map.mp hu
        obtain ⟨t, dx, fs, e1, _, _⟩ := at_ i (hps i hi)
        exact ⟨t, e1⟩
      have hpl : p.toList.length = its.length := by rw [List.Perm.length_eq hO, List.length_range]
      refine ⟨.ref D, upd H' D (.lst (p.toList.map fun i => xs.getD i .non)), I'.write (e := D) (t' := s'.toks) (by rw [hD]; trivial) (.inl rfl) (fun b u hb hu => k1 b u hb hu) ⟨_, k2⟩ ⟨by rw [List.length_map, hpl, sizeLine_eq]; omega, _, c, hv, k2⟩, rfl, q _ D p.toList (fun b o z => ?_) hn (by rw [hlen]; exact hO) ?_ upd_same⟩
      · rw [upd_ne (ne_of_none z hn)]
        exact e b o z
      · refine List.pairwise_iff_getElem.mpr fun i j hi hj hij => ?_
        have u := hU i j (Nat.le_of_lt hij) (by omega)
        have g : ∀ t (ht : t < p.toList.length), R rk p t = rk p.toList[t] := fun t ht => by
          have ht' : t < p.size := by rw [Array.length_toList] at ht; exact ht
          unfold R
          rw [Array.getD_eq_getD_getElem?, Array.getElem?_eq_getElem ht']
          simp
        rw [g i hi, g j hj] at u
        exact u
  · refine SrtO.sorted_ord SrtO.swo_int hl.isList (by rw [← rv.length]; exact hz) (fun h2' => absurd h2' h2) fun out h1 h3 => ?_
    have eo : out = its := by
      match its, h2, h3.perm with
      | [], _, pm => exact List.perm_nil.mp pm
      | [x], _, pm => exact List.perm_singleton.mp pm
      | _ :: _ :: _, h2, _ => exact absurd (by simp) h2
    subst eo
    obtain ⟨ep, he'⟩ := PyProof.Rows.sortedAll_at s.heap out out.toArray
    have hn := I.hok.fresh (a := s.heap.objs.size + 1) (Nat.le_succ _)
    refine ⟨.ref _, upd H (s.heap.objs.size + 1) (.lst xs), I.laid (t' := s.toks) (fun _ _ => PyProof.Rows.sortedAll_old) (Nat.le_succ _) ⟨hz, out, ep, rv, he'⟩, rfl, q _ _ (List.range xs.length) (Q0.Ext.new hn) hn (List.Perm.refl _) ?_ ?_⟩
    · refine List.pairwise_iff_getElem.mpr fun i j hi hj hij => ?_
      rw [List.length_range] at hi hj
      omega
    · rw [upd_same]
      congr 2
      refine List.ext_getElem (by rw [List.length_map, List.length_range]) fun i h4 h5 => ?_
      rw [List.getElem_map, List.getElem_range, List.getD_eq_getElem?_getD, List.getElem?_eq_getElem h4]
      rfl
end
end Gd

set_option Elab.async false
set_option linter.all false
set_option maxRecDepth 100000
set_option maxHeartbeats 4000000
/-! Kinds sorted; lists of kinds compared. -/
namespace Q0

open PySem PySem.Spec PyProof.Rows L2 Gd

local macro_rules | `(tactic| walk_at "rd1") => `(tactic| first | with_reducible refine g_ret ?_ | with_reducible refine g_retN ?_ | with_reducible refine g_seq ?_ | with_reducible refine g_next ?_ | with_reducible refine g_drop ?_ | with_reducible refine g_asg ?_ | with_reducible refine g_name ?_ | with_reducible refine g_ifs ?_ | with_reducible refine g_test ?_ | with_reducible refine g_tb ?_ | with_reducible refine g_and ?_ | with_reducible refine g_or ?_ | with_reducible refine g_not ?_ | with_reducible refine g_andV ?_ | with_reducible refine g_orV ?_ | with_reducible refine g_notV ?_ | with_reducible refine g_if ?_ | with_reducible refine g_op ?_ | with_reducible refine g_un ?_ | with_reducible refine g_cb ?_ | with_reducible refine g_nil ?_ | with_reducible refine g_cons ?_ | with_reducible refine g_call ?_ | with_reducible refine g_callS ?_ | with_reducible refine g_tup ?_ | with_reducible refine g_lst ?_ | with_reducible refine g_isN ?_ | with_reducible refine g_sl ?_ | with_reducible refine g_nopart ?_ | with_reducible refine g_part ?_ | with_reducible refine g_chain ?_ | with_reducible refine g_fld ?_ | with_reducible refine g_prop ?_ | with_reducible refine g_bm ?_ | with_reducible refine g_bm0 ?_ | with_reducible refine g_c ?_ | with_reducible refine g_sub ?_ | with_reducible refine g_int1 ?_ | with_reducible refine g_int2 ?_ | with_reducible refine g_yes ?_ | with_reducible refine g_sfld ?_ | with_reducible refine g_NT ?_ | with_reducible refine g_NF ?_ | with_reducible refine iteT ?_ | with_reducible refine iteF ?_ | ((with_reducible refine' g_aug ?hv ?_); (case hv => exact rfl)) | ((with_reducible refine' g_var ?hv ?_); (case hv => exact rfl)) | with_reducible refine g_I0 ?_ | with_reducible refine g_U ?_ | with_reducible refine g_eqI ?_ | with_reducible refine g_blV ?_ | with_reducible refine g_inV ?_)
local macro_rules | `(tactic| walk_at "rd") => `(tactic| repeat walk_at "rd1")

section
open PySem PySem.Spec PyProof.Rows L2 Gd
theorem rows_irr : ∀ n, n < 13 → ∀ a ∈ rows n n, pairLtM a a = false := by decide +kernel
theorem rows_lt {n : Nat} (hn : n ≤ 12) {u v : Nat} (hu : u < (rows n n).length) (hv : v < (rows n n).length) : pairLtM (rows n n)[u] (rows n n)[v] = decide (u < v) := by
  have q := List.pairwise_iff_getElem.mp (rows_desc n (by omega))
  rcases Nat.lt_trichotomy u v with c | c | c
  · rw [(q u v hu hv c).1, decide_eq_true c]
  · subst c
    rw [rows_irr n (by omega) _ (List.getElem_mem hu), decide_eq_false (Nat.lt_irrefl _)]
  · rw [(q v u hv hu c).2, decide_eq_false (by omega)]
theorem rows_rank {n : Nat} (hn : n ≤ 12) {a b : List Int} (ha : a ∈ rows n n) (hb : b ∈ rows n n) : pairLtM a b = decide (((rows n n).idxOf a : Int) < ((rows n n).idxOf b : Int)) := by
  have h := rows_lt hn (List.idxOf_lt_length_of_mem ha) (List.idxOf_lt_length_of_mem hb)
  rw [List.getElem_idxOf, List.getElem_idxOf] at h
  rw [h]
  exact decide_eq_decide.mpr ⟨fun z => by omega, fun z => by omega⟩
section
variable {P : Program} {w : World} {K : PySem.W.Frag} {mg : Str → Option Value} {base : Heap} {C : Addr}
/-- the promise of < -/
abbrev spLtK (K : PySem.W.Frag) (C : Addr) : Sp := spTwo K C (fun _ _ => True) fun ns ms => .bl (pairLtM ns ms)
theorem turned_in {n : Nat} (hn : n ≤ 12) {ns r : List Int} (hr : r ∈ ((rows n n).filter fun r => flatB r ns).map turnM) : r ∈ rows n n := by
  obtain ⟨x, hx, rfl⟩ := List.mem_map.mp hr
  obtain ⟨f1, f2⟩ := rows_fall hn (List.mem_filter.mp hx).1
  exact fall_in (turn_fall f1) (by rw [(turn_all f1).2.2, f2])
theorem getD_at {l : List (List Int)} {i : Nat} {x : List Int} (h : l[i]? = some x) : l.getD i [] = x := by
  rw [List.getD_eq_getElem?_getD, h]
  rfl
theorem range_getD (l : List (List Int)) : (List.range l.length).map (fun i => l.getD i []) = l := by
  refine List.ext_getElem (by rw [List.length_map, List.length_range]) fun i h1 h2 => ?_
  rw [List.getElem_map, List.getElem_range, getD_at (List.getElem?_eq_getElem h2)]
theorem sort_kinds {N : Nat} {ns : List Int} (hN : N ≤ 12) (hF : Fall ns) {H : Hp} {a : Addr} {ys : List V} (hl : SqL K H a ys) (hk : KOs K C H ys (((rows N N).filter fun r => flatB r ns).map turnM)) (h64 : ((rows N N).filter fun r => flatB r ns).length < 64) {Q : VK}
    (k : ∀ H' D zs, Ext H H' → H D = none → H' D = some (.lst zs) → KOs K C H' zs ((rows N N).filter fun r => lineB r (turnM ns)) → Q (.ref D) H') : rSortedO K C (spLtK K C) [.ref a] H Q := by
  have hlen := pair_len hk
  generalize hL : ((rows N N).filter fun r => flatB r ns).map turnM = L at hk hlen
  have hin : ∀ i r, L[i]? = some r → r ∈ rows N N := fun i r hr => by
    have := List.mem_of_getElem? hr
    rw [← hL] at this
    exact turned_in hN this
  refine ⟨a, ys, fun i => ((rows N N).idxOf (L.getD i []) : Int), rfl, hl, ?_, fun x hx => ?_, fun i j x y H' e hi hj Q' hq => ?_, fun H' D ps e hD hp hs hd => ?_⟩
  · rw [hlen, ← hL, List.length_map]
    exact h64
  · obtain ⟨i, hi, rfl⟩ := List.getElem_of_mem hx
    obtain ⟨r, _, p, n, t, m, ep, hp⟩ := pair_at hk i _ (List.getElem?_eq_getElem hi)
    obtain ⟨dx, hpi⟩ := hp.ins
    exact ⟨p, dx, _, ep, hpi⟩
  · obtain ⟨r, hr, p, n, t, m, rfl, hp⟩ := pair_at hk i x hi
    obtain ⟨r2, hr2, p2, n2, t2, m2, rfl, hp2⟩ := pair_at hk j y hj
    refine ⟨p, n, t, m, p2, n2, t2, m2, r, r2, rfl, hp.ext e, hp2.ext e, trivial, fun H'' e' => ?_⟩
    show Q' (.bl (pairLtM r r2)) H''
    have e1 : decide (((rows N N).idxOf (L.getD i []) : Int) < ((rows N N).idxOf (L.getD j []) : Int)) = pairLtM r r2 := by
      rw [rows_rank hN (hin i r hr) (hin j r2 hr2)]
      exact decide_eq_decide.mpr (by rw [getD_at hr, getD_at hr2])
    rw [← e1]
    exact hq H'' e'
  · have hpl : ∀ i ∈ ps, i < L.length := fun i hi => by
      have := List.mem_range.mp (hp.mem_iff.mp hi)
      omega
    have eZ : (ps.map fun i => L.getD i []) = (rows N N).filter fun r => lineB r (turnM ns) := by
      refine sorted_lines hN hF ?_ ?_
      · rw [hL]
        have q := hp.map fun i => L.getD i []
        rw [hlen, range_getD] at q
        exact q
      · refine List.pairwise_map.mpr (hs.imp_of_mem fun {i j} hi hj hij => ?_)
        have e1 := List.getElem?_eq_getElem (hpl i hi)
        have e2 := List.getElem?_eq_getElem (hpl j hj)
        have h1 := getD_at e1
        have h2 := getD_at e2
        dsimp only at hij ⊢
        rw [h1, h2] at hij
        rw [h1, h2, rows_rank hN (hin _ _ e2) (hin _ _ e1)]
        exact decide_eq_false (by omega)
    refine k H' D _ e hD hd ?_
    rw [← eZ]
    refine pair_of (by rw [List.length_map, List.length_map]) fun c y b h1 h2 => ?_
    rw [List.getElem?_map] at h1 h2
    obtain ⟨i, hi, rfl⟩ := Option.map_eq_some_iff.mp h1
    rw [hi] at h2
    cases h2
    have hil := hpl i (List.mem_of_getElem? hi)
    have e1 : ys[i]? = some (ys[i]'(by omega)) := List.getElem?_eq_getElem _
    obtain ⟨r, hr, ho⟩ := pair_at hk i _ e1
    show KO K C H' (ys.getD i .non) (L.getD i [])
    rw [getD_at hr, List.getD_eq_getElem?_getD, e1]
    exact ho.ext e
theorem cr_sorted1 {X : Cx} {k : Nat} {sp : Sp} (D : Met1 X.prog X.w X.K X.mg X.base CX0 k C "__lt__" ["self", "other"] sp) (hr : Room (k + 2) X.A) : CallR X (.builtin "sorted") (rSortedO X.K C sp) := by
  obtain ⟨f, fd, M, _, F, hb⟩ := D.ex
  exact cr_sortedO M F hr hb
/-! ### compared -/
def SameKX (K : PySem.W.Frag) (C : Addr) (a b : Addr) (H : Hp) : Prop := ∃ n t m n2 t2 m2 ns, KindAt K C H a n t m ns ∧ KindAt K C H b n2 t2 m2 ns
theorem sameX_mon : Mon (DIns C (SameKX K C)) := mon_ins fun a b H H' e ⟨n, t, m, n2, t2, m2, ns, h1, h2⟩ => ⟨n, t, m, n2, t2, m2, ns, h1.ext e, h2.ext e⟩
theorem sameX_eq {X : Cx} (D : Met1 X.prog X.w X.K X.mg X.base CX0 1 C "__eq__" ["self", "other"] (spKEq X.K C)) : EqG X 1 (DIns C (SameKX X.K C)) := by
  obtain ⟨g, gd, M, _, F, hb⟩ := D.ex
  refine eqG_ins (E := X0) (F.imp fun vs H Q E h => ?_) M.at_ M.fn hb pass0
  obtain ⟨a, b, rfl, ⟨n, t, m, n2, t2, m2, ns, h1, h2⟩, k⟩ := h
  exact ⟨a, n, t, m, b, n2, t2, m2, ns, ns, rfl, h1, h2, fun H' e => by
    have q := k H' e
    simpa using q⟩
theorem kos_same {H : Hp} : ∀ {xs ys : List V} {L : List (List Int)}, KOs K C H xs L → KOs K C H ys L → Prs (DIns C (SameKX K C)) xs ys H
  | _, _, _, .nil, .nil => .nil
  | _, _, _, .cons h1 t1, .cons h2 t2 => by
    obtain ⟨p, n, t, m, rfl, hp⟩ := h1
    obtain ⟨q, n2, u, m2, rfl, hq⟩ := h2
    obtain ⟨dx, hpi⟩ := id hp.ins
    obtain ⟨dy, hqi⟩ := id hq.ins
    exact .cons ⟨p, q, dx, dy, _, _, rfl, rfl, hpi, hqi, n, t, m, n2, u, m2, _, hp, hq⟩ (kos_same t1 t2)
end
end

/-! Texts of kinds. -/

section
open PySem PySem.Spec PyProof.Rows L2 Gd
theorem str_assoc (x y z : Str) : x ++ y ++ z = x ++ (y ++ z) := Str.append_assoc x y z
theorem str_len (x y : Str) : (x ++ y).length = x.length + y.length := Str.length_append x y
def numT (n : Int) : Str := Str.ofString (toString n)
/-- the text of a kind's numbers -/
def kindTx (ns : List Int) : Str := ((Str.empty ++ ("[" : Str)) ++ Txt.join (" " : Str) (ns.map numT)) ++ ("]" : Str)
theorem num_len : ∀ n : Nat, n < 300 → (numT (n : Int)).length ≤ 3 := by
  have h : ((List.range 300).all fun n => decide ((numT (n : Int)).length ≤ 3)) = true := by decide +kernel
  intro n hn
  exact of_decide_eq_true (List.all_eq_true.mp h n (List.mem_range.mpr hn))
theorem num_len' {n : Int} (h0 : 0 ≤ n) (h1 : n < 300) : (numT n).length ≤ 3 := by
  have := num_len n.toNat (by omega)
  rw [Int.toNat_of_nonneg h0] at this
  exact this
theorem nums_sum : ∀ {ns : List Int}, (∀ n ∈ ns, 0 ≤ n ∧ n < 300) → ((ns.map numT).map fun y : Str => y.length).sum ≤ ns.length * 3
  | [], _ => Nat.le_refl _
  | n :: ns, h => by
    have h1 := h n List.mem_cons_self
    have ih := nums_sum (ns := ns) fun m hm => h m (List.mem_cons_of_mem _ hm)
    have := num_len' h1.1 h1.2
    rw [List.map_cons, List.map_cons, List.sum_cons, List.length_cons]
    omega
theorem fall_num {ns : List Int} (h : Fall ns) : ∀ n ∈ ns, 0 ≤ n ∧ n < 300 := fun n hn => by
  have := h.pos n hn
  have := h.le n hn
  omega
theorem join_len {ns : List Int} (h : Fall ns) : (Txt.join (" " : Str) (ns.map numT)).length ≤ 60 := by
  have h1 := StrLaws.join_length_le (" " : Str) (ns.map numT)
  have h2 := nums_sum (fall_num h)
  have h3 := h.len
  have h4 : (" " : Str).length = 1 := by decide +kernel
  rw [h4, List.length_map] at h1
  have e : Txt.join (" " : Str) (ns.map numT) = Str.join (" " : Str) (ns.map numT) := StrLaws.glued_eq_join _ _
  rw [e]
  have : (Str.join (" " : Str) (ns.map numT)).length ≤ ((ns.map numT).map fun y : Str => y.length).sum + ns.length * 1 := h1
  omega
theorem kindTx_len {ns : List Int} (h : Fall ns) : (kindTx ns).length ≤ 62 := by
  unfold kindTx
  rw [str_len, str_len, str_len]
  have h1 := join_len h
  have h2 : ("[" : Str).length = 1 := by decide +kernel
  have h3 : ("]" : Str).length = 1 := by decide +kernel
  have h4 : Str.empty.length = 0 := by decide +kernel
  omega
section
variable {P : Program} {w : World} {K : PySem.W.Frag} {mg : Str → Option Value} {base : Heap} {f C : Addr} {fd : FuncData}
abbrev sFTx : Stmt := top 24
theorem scFTx : FnScope ["row", "words", "number"] ["row"] (defScope sFTx) := ⟨rfl, rfl, rfl, by decide +kernel, rfl, by decide +kernel, by decide +kernel⟩
def spFTx (K : PySem.W.Frag) : Sp := fun vs H Q _ => ∃ (a : Addr) (ns : List Int), vs = [.ref a] ∧ SqT K H a (ns.map V.int) ∧ Fall ns ∧ ∀ H', Ext H H' → Q (.str (kindTx ns)) H'
theorem ok_fTx (F : Fun K "falling_text" "falling_text" sFTx f fd) (T : Txt K mg) : FnOk P w K mg base CX0 1 f fd ["row"] (spFTx K) := by
  refine F.ok scFTx (fun vs H Q E h => ?_) (fun cdv A outer s H vs Q E hr h => ?_)
  · obtain ⟨a, ns, rfl, _⟩ := h
    rfl
  · obtain ⟨a, ns, rfl, hs, hF, k⟩ := h
    refine ⟨_, pss_cons (ps_set (i := 1) scFTx.nd rfl (Or.inl rfl) (pe_bm PySem.F.plainAttrs_str PySem.F.slot_str_join PySem.F.type_str_join mt_join (pe_str) (pa_cons (pe_lc (own := [("number", 2)]) (g := gName 2) (tt := tYes) rfl scFTx.nd (pi_tup (pv 0)) (blkOk_by (N := ["row", "words", "number"]) (sc := defScope sFTx) (by decide +kernel)) (fun _ _ _ _ _ => pg_name (i := 2) scFTx.nd rfl (Or.inl rfl)) (fun _ _ _ _ _ => pts_nil) (fun _ _ _ _ _ => by exact (pe_callTy (T := "str") (r := fun xs H Q => ∃ i : Int, xs = [.int i] ∧ i.natAbs.log2 < 1920 ∧ Q (.str (numT i)) H) call_str_int (by rfl) T.str (by decide +kernel) (pa_cons (pv 2) pa_nil)))) pa_nil)))
      (pss_one (ps_ret (pe_joined (PJ.cons pe_str (PJ.cons (pe_fmt (pv 1)) (PJ.cons pe_str PJ.nil)))))), ?_⟩
    try dsimp only [cx_nox, cx_K]
    walk_at "rd"
    refine ⟨rfl, ?_⟩
    refine g_cons ?_
    refine g_lc (g_itup ?_)
    walk_at "rd"
    have hl := hF.len
    refine lcT hs (small (by rw [List.length_map]; omega)) (fun _ => true) (fun v => match v with | .int n => .str (numT n) | y => y) (fun x H1 hx e1 Qe Qn he hn => ?_) (fun H1 D e1 hD hd => ?_)
    · obtain ⟨n, hn0, rfl⟩ := List.mem_map.mp hx
      have h0 := fall_num hF n hn0
      refine ⟨rfl, ?_⟩
      walk_at "rd"
      refine ⟨?_, he _ (fun _ _ z => z) rfl⟩
      have : n.natAbs.log2 ≤ n.natAbs := Nat.log2_le_self _
      omega
    · rw [List.filter_eq_self.mpr (fun _ _ => rfl), List.map_map] at hd
      walk_at "rd"
      have hd' : H1 D = some (.lst ((ns.map numT).map V.str)) := by
        rw [hd, List.map_map]
        rfl
      have h4 : (" " : Str).length = 1 := by decide +kernel
      have h2 := nums_sum (fall_num hF)
      refine ⟨_, D, ns.map numT, rfl, rfl, .inl (SqL.of hd'), by rw [List.length_map, h4]; omega, ?_⟩
      walk_at "rd"
      have hj := join_len hF
      have hk := kindTx_len hF
      have hz : (62 : Nat) ≤ sizeLine := by decide
      unfold tJs
      walk_at "rd"
      refine ⟨_, rfl, ?_, ?_⟩
      · have : (Str.empty ++ ("[" : Str)).length = 1 := by decide +kernel
        omega
      unfold tJs tFmt
      walk_at "rd"
      refine .inl ⟨_, rfl, by omega, _, rfl, ?_, ?_⟩
      · rw [str_len]
        have : (Str.empty ++ ("[" : Str)).length = 1 := by decide +kernel
        omega
      unfold tJs
      walk_at "rd"
      refine ⟨_, rfl, ?_, ?_⟩
      · show (kindTx ns).length ≤ sizeLine
        omega
      unfold tJs
      exact k _ e1
theorem scKSt : FnScope ["self"] ["self"] (defScope (cls 21)) := ⟨rfl, rfl, rfl, by decide +kernel, rfl, by decide +kernel, by decide +kernel⟩
def spKSt (K : PySem.W.Frag) (C : Addr) : Sp := fun vs H Q _ => ∃ (p n t m : Addr) (ns : List Int), vs = [.ref p] ∧ KindAt K C H p n t m ns ∧ ∀ H', Ext H H' → Q (.str (kindTx ns)) H'
theorem ok_kstr (F : Fun K "__str__" "Kind.__str__" (cls 21) f fd) (T : Txt K mg) (Cl : KC K mg C) (Ft : Def1 P w K mg base CX0 1 "falling_text" ["row"] (spFTx K)) : FnOk P w K mg base CX0 2 f fd ["self"] (spKSt K C) := by
  refine F.ok scKSt (fun vs H Q E h => ?_) (fun cdv A outer s H vs Q E hr h => ?_)
  · obtain ⟨p, n, t, m, ns, rfl, _⟩ := h
    rfl
  · obtain ⟨p, n, t, m, ns, rfl, hp, k⟩ := h
    obtain ⟨dx, hpi⟩ := id hp.ins
    refine ⟨_, pss_one (ps_ret (pe_callTy SkE.call_str_str (by rfl) T.str (by decide +kernel) (pa_cons (pe_def Ft hr (by decide) (by rfl) (pa_cons (pe_fld (pv 0) rfl) pa_nil)) pa_nil))), ?_⟩
    try dsimp only [cx_nox, cx_K]
    walk_at "rd"
    refine ⟨p, C, dx, _, _, rfl, hpi, Cl.cl, Cl.noN, look1, ?_⟩
    walk_at "rd"
    refine ⟨n, ns, rfl, hp.num.sq, hp.fall, fun H1 e1 => ?_⟩
    walk_at "rd"
    exact ⟨_, rfl, k H1 e1⟩
end
end

/-! The law's kinds of a size, in their order: the def. -/

section
open PySem PySem.Spec PyProof.Rows L2 Gd
/-- what waits: a begun row and what is left -/
def WTO (K : PySem.W.Frag) (H : Hp) (v : V) (q : List Int × Nat) : Prop := ∃ (b a : Addr), v = .ref b ∧ H b = some (.tup [.ref a, .int (q.2 : Int)]) ∧ TupX K H a (q.1.map V.int)
theorem WTO.keeps {K : PySem.W.Frag} {H H' : Hp} (e : Keeps H H') {v : V} {q : List Int × Nat} (h : WTO K H v q) : WTO K H' v q := by
  obtain ⟨b, a, rfl, h1, h2⟩ := h
  exact ⟨b, a, rfl, e _ _ (fun _ z => by cases z) h1, TupX.keeps e h2⟩
theorem wtos_keeps {K : PySem.W.Frag} {H H' : Hp} (e : Keeps H H') {ps : List V} {qs : List (List Int × Nat)} (h : Paired (WTO K H) ps qs) : Paired (WTO K H') ps qs := Paired.mapP h fun _ _ z => WTO.keeps e z
theorem pair_last {α β : Type} {F : α → β → Prop} : ∀ {a : List α} {b : List β} {y : β}, Paired F a (b ++ [y]) → ∃ c x, a = c ++ [x] ∧ Paired F c b ∧ F x y
  | _, [], _, h => by
    cases h with
    | cons h t =>
      cases t
      exact ⟨[], _, rfl, .nil, h⟩
  | _, q :: b, y, h => by
    cases h with
    | cons h t =>
      obtain ⟨c, x, e, h1, h2⟩ := pair_last t
      subst e
      exact ⟨_ :: c, x, rfl, .cons h h1, h2⟩
section
variable {P : Program} {w : World} {K : PySem.W.Frag} {mg : Str → Option Value} {base : Heap} {f : Addr} {fd : FuncData}
abbrev sKindsO : Stmt := top 39
theorem scKindsO : FnScope ["_law_size", "_law_found", "_law_waits", "_law_kind", "_law_left", "_law_most", "_law_number"] ["_law_size"] (defScope sKindsO) := ⟨rfl, rfl, rfl, by decide +kernel, rfl, by decide +kernel, by decide +kernel⟩
def spKindsO (K : PySem.W.Frag) : Sp := fun vs H Q _ => ∃ size : Nat, vs = [.int (size : Int)] ∧ size ≤ 12 ∧
  ∀ H' F fs, Ext H H' → H F = none → H' F = some (.lst fs) → RXs K H' fs (rows size size) → Q (.ref F) H'
def PvKO (K : PySem.W.Frag) (size : Nat) (F W : Addr) (H0 : Hp) (m : Nat) : L2.St → Hp → Prop := fun σ H => ∃ (fs : List V) (xs : List (List Int)) (ps : List V) (qs : List (List Int × Nat)) (x y z : Option V),
  σ = [some (.int (size : Int)), some (.ref F), some (.ref W), x, y, z, none] ∧ m = (qs.map fun p => 2 ^ p.2).sum ∧ H F = some (.lst fs) ∧ H W = some (.lst ps) ∧ RXs K H fs xs ∧ Paired (WTO K H) ps qs ∧ (∀ q ∈ qs, Fall q.1 ∧ q.1.sum + (q.2 : Int) = (size : Int)) ∧
  fs.length + (qs.map fun p => 2 ^ p.2).sum ≤ 2 ^ size ∧ xs ++ todo qs = rows size size ∧ (∀ b o, b ≠ F → b ≠ W → H0 b = some o → H b = some o)
theorem ok_kindsO (F : Fun K "_law_kinds" "_law_kinds" sKindsO f fd) (T : Txt K mg) : FnOk P w K mg base CX0 1 f fd ["_law_size"] (spKindsO K) := by
  refine F.ok scKindsO (fun vs H Q E h => ?_) (fun cdv A outer s H vs Q E hr h => ?_)
  · obtain ⟨size, rfl, _⟩ := h
    rfl
  · obtain ⟨size, rfl, hsz, k⟩ := h
    refine ⟨_, pss_cons (ps_par (i := 1) (j := 2) (by rfl) scKindsO.nd rfl rfl (by decide) rfl rfl (pa_cons (pe_lst pa_nil) (pa_cons (pe_lst (pa_cons (pe_tup (pa_cons (pe_tupX pa_nil) (pa_cons (pv 0) pa_nil))) pa_nil)) pa_nil)) (by rfl))
      (pss_cons (ps_while PassesOwn.never (pt_cmpR (op_neNil (Nat.lt_of_le_of_lt (Nat.le_add_right _ _) (lt66 hr))) (pv 2) (pe_lst pa_nil) (nomark _)) (pss_cons (ps_asg (pe_bm0 PySem.F.plainAttrs_list PySem.F.slot_list_pop PySem.F.type_list_pop mt_pop (pv 2)) (pg_tup rfl (pgs_cons (pg_name (i := 3) scKindsO.nd rfl (Or.inr rfl)) (pgs_cons (pg_name (i := 4) scKindsO.nd rfl (Or.inr rfl)) pgs_nil))))
      (pss_one (ps_if (pt_cmpR op_eq (pv 4) pe_int (nomark _)) (pss_one (ps_expr (pe_bm PySem.F.plainAttrs_list PySem.F.slot_list_append PySem.F.type_list_append mt_append (pv 1) (pa_cons (pv 3) pa_nil)))) (pss_cons (ps_set (i := 5) scKindsO.nd rfl (Or.inl rfl) (pe_ifExp (pt_cmpR (op_neD hr.units) (pv 3) (pe_tupX pa_nil) (nomark _)) (pe_callB (call_min2 rfl) (by rfl) T.min (by decide +kernel) (pa_cons (pv 4) (pa_cons (pe_ix ix_tup (pv 3) (pe_un un_neg pe_int) (fun _ _ => rfl)) pa_nil))) (pv 4)))
      (pss_one (ps_expr (pe_bm PySem.F.plainAttrs_list PySem.F.slot_list_extend PySem.F.type_list_extend mt_extend (pv 2) (pa_cons (pe_lc (own := [("_law_number", 6)]) (g := gName 6) (tt := tYes) rfl scKindsO.nd (pi_range2 (by rfl) T.range (pa_cons pe_int (pa_cons (pe_op op_add (pv 5) pe_int) pa_nil))) (blkOk_by (N := ["_law_size", "_law_found", "_law_waits", "_law_kind", "_law_left", "_law_most", "_law_number"]) (sc := defScope sKindsO) (by decide +kernel)) (fun _ _ _ _ _ => pg_name (i := 6) scKindsO.nd rfl (Or.inl rfl)) (fun _ _ _ _ _ => pts_nil) (fun _ _ _ _ _ => by exact (pe_tup (pa_cons (pe_op (r := rCatX K) op_catX (pv 3) (pe_tupX (pa_cons (pv 6) pa_nil))) (pa_cons (pe_op op_sub (pv 4) (pv 6)) pa_nil))))) pa_nil)))))))))
      (pss_one (ps_ret (pv 1)))), ?_⟩
    try dsimp only [cx_nox, cx_K]
    refine g_seqP ?_
    walk_at "rd"
    refine ⟨Nat.zero_le _, fun Fa hFa => ?_⟩
    walk_at "rd"
    refine g_tupX ?_
    walk_at "rd"
    refine ⟨Nat.zero_le _, fun a o ha ho => ?_⟩
    walk_at "rd"
    refine ⟨by show 2 ≤ sizeLine; decide, fun b hb => ?_⟩
    walk_at "rd"
    refine ⟨by show 1 ≤ sizeLine; decide, fun Wa hWa => ?_⟩
    walk_at "rd"
    refine ⟨_, _, rfl, ?_⟩
    have e1 : Ext H (upd H Fa (.lst [])) := Ext.new hFa
    have e2 := Ext.new (o := HO.frz o (.tup [])) ha
    have e3 := Ext.new (o := HO.tup [V.ref a, V.int (size : Int)]) hb
    have e4 := Ext.new (o := HO.lst [V.ref b]) hWa
    have t1 : TupX K (upd (upd H Fa (.lst [])) a (.frz o (.tup []))) a (([] : List Int).map V.int) := TupX.new ho
    have t2 := (t1.ext e3).ext e4
    have b2 := e4 _ _ (upd_same : upd (upd (upd H Fa (.lst [])) a (.frz o (.tup []))) b (HO.tup [V.ref a, V.int (size : Int)]) b = _)
    have f2 := e4 _ _ (e3 _ _ (e2 _ _ (upd_same : upd H Fa (.lst []) Fa = _)))
    have w2 : upd (upd (upd (upd H Fa (.lst [])) a (.frz o (.tup []))) b (HO.tup [V.ref a, V.int (size : Int)])) Wa (HO.lst [V.ref b]) Wa = some (.lst [V.ref b]) := upd_same
    have eall := Ext.trans e1 (Ext.trans e2 (Ext.trans e3 e4))
    have nFW : Fa ≠ Wa := ne_of_none (e3 _ _ (e2 _ _ (upd_same : upd H Fa (.lst []) Fa = _))) hWa
    have hW0 : H Wa = none := new_up (Ext.trans e1 (Ext.trans e2 e3)) hWa
    generalize upd (upd (upd (upd H Fa (.lst [])) a (.frz o (.tup []))) b (HO.tup [V.ref a, V.int (size : Int)])) Wa (HO.lst [V.ref b]) = H1 at t2 b2 f2 w2 eall ⊢
    walk_at "rd"
    refine ⟨PvKO K size Fa Wa H, ⟨_, [], [], [.ref b], [([], size)], none, none, none, rfl, rfl, f2, w2, .nil, .cons ⟨b, a, rfl, b2, t2⟩ .nil, fun q hq => ?_, ?_, todo_start size, fun c u _ _ q => eall c u q⟩, ?_⟩
    · rw [List.mem_singleton.mp hq]
      exact ⟨fall_nil, by simp⟩
    · simp
    rintro m σ1 H2 ⟨fs, xs, ps, qs, x, y, z, rfl, rfl, hF, hW, hf, hw, hfl0, hs, hto, hk⟩
    walk_at "rd"
    refine ⟨Nat.zero_le _, fun e he => ?_⟩
    walk_at "rd"
    have ee := Ext.new (o := HO.lst []) he
    refine ⟨Wa, e, _, rfl, rfl, SqL.of (ee _ _ hW), SqL.of upd_same, ?_⟩
    have hF3 := ee _ _ hF
    have hW3 := ee _ _ hW
    have hk3 : ∀ c u, c ≠ Fa → c ≠ Wa → H c = some u → upd H2 e (.lst []) c = some u := fun c u n1 n2 q => ee _ _ (hk c u n1 n2 q)
    have hf3 := rxs_ext ee hf
    have hw3 := wtos_keeps (Keeps.of ee) hw
    generalize upd H2 e (.lst []) = H3 at hF3 hW3 hk3 hf3 hw3 ⊢
    have hs12 : 2 ^ size ≤ 2 ^ 12 := Nat.pow_le_pow_right (by omega) hsz
    walk_at "rd"
    rcases List.eq_nil_or_concat qs with rfl | ⟨qs, ⟨ns, l⟩, rfl⟩
    · cases hw3
      refine iteF ?_
      walk_at "rd"
      have e0 : todo [] = [] := rfl
      rw [e0, List.append_nil] at hto
      rw [hto] at hf3
      exact k H3 Fa fs (fun c u q => hk3 c u (ne_of_none q hFa) (ne_of_none q hW0) q) hFa hF3 hf3
    rw [List.concat_eq_append] at hw3 hfl0 hs hto ⊢
    obtain ⟨ps, v, rfl, hwp, hwv⟩ := pair_last hw3
    clear hw3
    obtain ⟨b, a, rfl, hb, ht⟩ := hwv
    have hb : H3 b = some (.tup [.ref a, .int (l : Int)]) := hb
    have ht : TupX K H3 a (ns.map V.int) := ht
    obtain ⟨hfl, hsum⟩ := hfl0 (ns, l) (by simp)
    have hfl : Fall ns := hfl
    have hsum : ns.sum + (l : Int) = (size : Int) := hsum
    have hfl1 : ∀ q ∈ qs, Fall q.1 ∧ q.1.sum + (q.2 : Int) = (size : Int) := fun q hq => hfl0 q (by simp [hq])
    clear hfl0
    rw [todo_snoc] at hto
    have nem : (!((ps ++ [V.ref b]).isEmpty)) = true := by cases ps <;> rfl
    rw [nem]
    refine iteT ?_
    have esum : ((qs ++ [(ns, l)]).map fun p => 2 ^ p.2).sum = (qs.map fun p => 2 ^ p.2).sum + 2 ^ l := by
      rw [List.map_append, List.sum_append]
      simp
    rw [esum] at hs ⊢
    refine ⟨fun σ' H' => ∃ m', m' < (qs.map fun p => 2 ^ p.2).sum + 2 ^ l ∧ PvKO K size Fa Wa H m' σ' H', fun _ _ q => q, ?_⟩
    walk_at "rd"
    refine ⟨.inl ⟨rfl, _, SqL.of hW3⟩, Wa, _, .ref b, rfl, rfl, hW3, by simp, ?_⟩
    rw [List.dropLast_concat]
    have kW := Keeps.up (ys := ps) hW3
    have hF4 : upd H3 Wa (.lst ps) Fa = some (.lst fs) := by
      rw [upd_ne nFW]
      exact hF3
    have hW4 : upd H3 Wa (.lst ps) Wa = some (.lst ps) := upd_same
    have hk4 : ∀ c u, c ≠ Fa → c ≠ Wa → H c = some u → upd H3 Wa (.lst ps) c = some u := fun c u n1 n2 q => by
      rw [upd_ne n2]
      exact hk3 c u n1 n2 q
    have hf4 := rxs_keeps kW hf3
    have hw4 := wtos_keeps kW hwp
    have hb4 := kW _ _ (fun _ z => by cases z) hb
    have ht4 := TupX.keeps kW ht
    generalize upd H3 Wa (.lst ps) = H4 at hF4 hW4 hk4 hf4 hw4 hb4 ht4 ⊢
    refine ⟨b, _, rfl, SqT.of hb4, rfl, _, _, rfl, ?_⟩
    refine ⟨_, _, rfl, rfl, ?_⟩
    walk_at "rd"
    refine ite2 (fun hl => ?_) (fun hl => ?_)
    · have hl0 : l = 0 := by
        have := of_decide_eq_true hl
        omega
      subst hl0
      walk_at "rd"
      refine ⟨.inl ⟨rfl, _, SqL.of hF4⟩, ?_⟩
      walk_at "rd"
      have h1 : (2 : Nat) ^ 0 = 1 := rfl
      refine ⟨Fa, fs, .ref a, rfl, rfl, hF4, by have : (4096 : Nat) < sizeLine := by decide
                                                have : (2 : Nat) ^ 12 = 4096 := by decide
                                                omega, ?_⟩
      have kF := Keeps.up (ys := fs ++ [.ref a]) hF4
      have e0 : (rows 0 (bnd ns 0)).map (ns ++ ·) = [ns] := by
        rw [rows_zero]
        show [ns ++ []] = [ns]
        rw [List.append_nil]
      rw [e0, ← List.append_assoc] at hto
      refine ⟨(qs.map fun p => 2 ^ p.2).sum, by omega, fs ++ [.ref a], xs ++ [ns], ps, qs, _, _, _, rfl, rfl, upd_same, ?_, pair_append (rxs_keeps kF hf4) (.cons ⟨a, rfl, TupX.keeps kF ht4⟩ .nil), wtos_keeps kF hw4, hfl1, ?_, hto, fun c u n1 n2 q => ?_⟩
      · rw [upd_ne (Ne.symm nFW)]
        exact hW4
      · rw [List.length_append, List.length_singleton]
        omega
      · rw [upd_ne n1]
        exact hk4 c u n1 n2 q
    · have hl0 : l ≠ 0 := fun z => hl (decide_eq_true (by rw [z]; rfl))
      walk_at "rd"
      refine g_tupX ?_
      walk_at "rd"
      refine ⟨Nat.zero_le _, fun u o2 hu ho2 => ?_⟩
      have e5 := Ext.new (o := HO.frz o2 (.tup [])) hu
      refine ⟨_, _, .tup (ht4.ext e5).sq (pdp ns), .tup (xs := ([] : List Int).map V.int) (TupX.new ho2).sq (pdp []), sh_row ns, sh_row [], ?_⟩
      have ene : PyData.eqv (.tuple (pdata ns)) (.tuple (pdata [])) = decide (ns = []) := by
        simp only [PyData.eqv, peqv]
      rw [ene]
      have hF5 := e5 _ _ hF4
      have hW5 := e5 _ _ hW4
      have hk5 : ∀ c v, c ≠ Fa → c ≠ Wa → H c = some v → upd H4 u (HO.frz o2 (.tup [])) c = some v := fun c v n1 n2 q => e5 _ _ (hk4 c v n1 n2 q)
      have hf5 := rxs_ext e5 hf4
      have hw5 := wtos_keeps (Keeps.of e5) hw4
      have ht5 := ht4.ext e5
      generalize upd H4 u (HO.frz o2 (.tup [])) = H5 at hF5 hW5 hk5 hf5 hw5 ht5 ⊢
      obtain ⟨mo, m1, m2, m3, m4⟩ : ∃ mo : Nat, 1 ≤ mo ∧ mo ≤ l ∧ (ns ≠ [] → (mo : Int) ≤ ns.getD (ns.length - 1) 0) ∧ (mo : Int) = if ns = [] then (l : Int) else if ns.getD (ns.length - 1) 0 < (l : Int) then ns.getD (ns.length - 1) 0 else (l : Int) := by
        by_cases hn : ns = []
        · exact ⟨l, by omega, Nat.le_refl _, fun h => absurd hn h, by rw [if_pos hn]⟩
        · have hp := hfl.pos _ (getD_mem (i := ns.length - 1) (by have := List.length_pos_iff.mpr hn; omega))
          by_cases hc : ns.getD (ns.length - 1) 0 < (l : Int)
          · exact ⟨(ns.getD (ns.length - 1) 0).toNat, by omega, by omega, fun _ => by omega, by rw [if_neg hn, if_pos hc]; omega⟩
          · exact ⟨l, by omega, Nat.le_refl _, fun _ => by omega, by rw [if_neg hn, if_neg hc]⟩
      walk_at "rd"
      refine g_ifV (.int (mo : Int)) (fun h1 Q' q => ?_) (fun h1 Q' q => ?_) ?_
      · have hn : ns ≠ [] := fun z => by simp [z] at h1
        rw [if_neg hn] at m4
        walk_at "rd"
        refine g_ixT (v := .int (ns.getD (ns.length - 1) 0)) ht5.sq ?_ ?_
        · have hlen := List.length_pos_iff.mpr hn
          unfold atI ixN
          rw [List.length_map, if_neg (by decide), if_pos (by omega)]
          have : ((-1 : Int) + (ns.length : Int)).toNat = ns.length - 1 := by omega
          show (ns.map V.int)[((-1 : Int) + (ns.length : Int)).toNat]? = _
          rw [this]
          exact getI (by omega)
        · refine ⟨_, _, rfl, ?_⟩
          rw [← m4]
          exact q
      · have hn : ns = [] := by simpa using h1
        rw [if_pos hn] at m4
        walk_at "rd"
        rw [← m4]
        exact q
      walk_at "rd"
      refine ⟨.inl ⟨rfl, _, SqL.of hW5⟩, ?_⟩
      walk_at "rd"
      refine g_lc (g_rng2 ?_)
      walk_at "rd"
      have hl13 : (l : Int) ≤ 12 := by
        have := hfl.sum0
        omega
      refine ⟨⟨by decide, by decide, by omega, by omega⟩, ?_⟩
      have en : ((mo : Int) + 1 - 1).toNat = mo := by omega
      rw [en]
      refine lcRR (small (by omega)) (fun i y H => WTO K H y (ns ++ [((i + 1 : Nat) : Int)], l - (i + 1))) (fun i y H H' e r => WTO.keeps e r) (fun i H6 hi e6 Qe Qn he => ?_) (fun H6 D ys e6 hD hd hyl hyr => ?_)
      · refine ⟨rfl, ?_⟩
        walk_at "rd"
        refine g_tupX ?_
        walk_at "rd"
        refine ⟨by show 1 ≤ sizeLine; decide, fun c o3 hc ho3 => ?_⟩
        have e7 := Ext.new (o := HO.frz o3 (.tup [V.int (1 + (i : Int))])) hc
        have hfl' : Fall (ns ++ [1 + (i : Int)]) := fall_snoc hfl (by omega) (by omega) (fun hn => by have := m3 hn; omega)
        refine ⟨a, c, ns.map V.int, [V.int (1 + (i : Int))], rfl, rfl, (ht5.ext e6).ext e7, TupX.new ho3, ?_, fun H8 p e8 hp => ?_⟩
        · have := hfl'.len
          rw [List.length_append, List.length_singleton] at this
          rw [List.length_map, List.length_singleton]
          exact Nat.le_of_lt (small (by omega))
        walk_at "rd"
        refine ⟨by show 2 ≤ sizeLine; decide, fun q hq => ?_⟩
        have e9 := Ext.new (o := HO.tup [V.ref p, V.int ((l : Int) - (1 + (i : Int)))]) hq
        refine he _ _ (Ext.trans e7 (Ext.trans e8 e9)) ⟨q, p, rfl, ?_, ?_⟩
        · rw [upd_same]
          have : (l : Int) - (1 + (i : Int)) = ((l - (i + 1) : Nat) : Int) := by omega
          rw [this]
        · show TupX K _ p ((ns ++ [((i + 1 : Nat) : Int)]).map V.int)
          rw [show ((i + 1 : Nat) : Int) = 1 + (i : Int) by omega, List.map_append]
          exact hp.ext e9
      · have hlen := len_pow (qs.map fun p => p.2)
        rw [List.map_map, List.length_map] at hlen
        have hlen' : qs.length ≤ (qs.map fun p => 2 ^ p.2).sum := hlen
        have hpl := pair_len hw5
        have h12 : (2 : Nat) ^ 12 = 4096 := by decide
        have hbn : bnd ns l = mo := by
          unfold bnd
          by_cases hn : ns = []
          · rw [if_pos hn] at m4 ⊢
            omega
          · rw [if_neg hn] at m4 ⊢
            split at m4 <;> omega
        rw [← todo_more qs ns hl0 m2 hbn] at hto
        walk_at "rd"
        refine ⟨Wa, D, _, ys, rfl, rfl, e6 _ _ hW5, hd, ?_, ?_⟩
        · rw [hyl]
          have : (5000 : Nat) < sizeLine := by decide
          have := Nat.one_le_two_pow (n := l)
          omega
        have kX := Keeps.up (ys := ps ++ ys) (e6 _ _ hW5)
        have ksum := geo2 l mo m2
        have kpos := Nat.one_le_two_pow (n := l - mo)
        have ecs : (((List.range mo).map fun i => (ns ++ [((i + 1 : Nat) : Int)], l - (i + 1))).map fun p => 2 ^ p.2).sum = ((List.range mo).map fun i => 2 ^ (l - (i + 1))).sum := by
          rw [List.map_map]
          rfl
        refine ⟨((qs ++ (List.range mo).map fun i => (ns ++ [((i + 1 : Nat) : Int)], l - (i + 1))).map fun p => 2 ^ p.2).sum, ?_, fs, xs, ps ++ ys, qs ++ (List.range mo).map fun i => (ns ++ [((i + 1 : Nat) : Int)], l - (i + 1)), _, _, _, rfl, rfl, ?_, upd_same, rxs_keeps kX (rxs_ext e6 hf5), pair_append (wtos_keeps kX (wtos_keeps (Keeps.of e6) hw5)) (pair_of (by rw [List.length_map, List.length_range, hyl]) fun c y q h1 h2 => ?_), fun q hq => ?_, ?_, hto, fun c v n1 n2 q => ?_⟩
        · rw [List.map_append, List.sum_append, ecs]
          omega
        · rw [upd_ne nFW]
          exact e6 _ _ hF5
        · have hc := (List.getElem?_eq_some_iff.mp h1).1
          rw [List.getElem?_map, List.getElem?_range (by omega)] at h2
          cases h2
          exact WTO.keeps kX (hyr c y h1)
        · rcases List.mem_append.mp hq with q1 | q1
          · exact hfl1 q q1
          · obtain ⟨i, hi, rfl⟩ := List.mem_map.mp q1
            have him := List.mem_range.mp hi
            refine ⟨?_, ?_⟩
            · show Fall (ns ++ [((i + 1 : Nat) : Int)])
              exact fall_snoc hfl (by omega) (by omega) (fun hn => by have := m3 hn; omega)
            · show (ns ++ [((i + 1 : Nat) : Int)]).sum + ((l - (i + 1) : Nat) : Int) = (size : Int)
              rw [List.sum_append]
              have : [((i + 1 : Nat) : Int)].sum = 1 + (i : Int) := by simp; omega
              rw [this]
              omega
        · rw [List.map_append, List.sum_append, ecs]
          omega
        · rw [upd_ne n2]
          exact e6 _ _ (hk5 c v n1 n2 q)
end
end

/-! The law's own defs. -/

section
open PySem PySem.Spec PyProof.Rows L2 Gd
section
variable {P : Program} {w : World} {K : PySem.W.Frag} {mg : Str → Option Value} {base : Heap} {f C t0 CT : Addr} {fd : FuncData}
theorem g_revL {te : TE} {σ : L2.St} {H : Hp} {Q : VK} (k : te σ H fun x H1 => ∃ a xs, x = .ref a ∧ SqL K H1 a xs ∧ ∀ p, H1 p = none → Q (.ref p) (upd H1 p (.lst xs.reverse))) : Gd.tRevL K te σ H Q := k
/-! ### held -/
abbrev sDoesHold : Stmt := top 42
theorem scDoesHold : FnScope ["_law_kind", "_law_other", "_law_one", "_law_two"] ["_law_kind", "_law_other"] (defScope sDoesHold) := ⟨rfl, rfl, rfl, by decide +kernel, rfl, by decide +kernel, by decide +kernel⟩
def gtW : V → V → Bool := fun x y => match x, y with
  | .int n, .int m => decide (m < n)
  | _, _ => false
def spDoesHold (K : PySem.W.Frag) : Sp := fun vs H Q _ => ∃ (a b : Addr) (ns ms : List Int), vs = [.ref a, .ref b] ∧ SqT K H a (ns.map V.int) ∧ SqT K H b (ms.map V.int) ∧ Fall ns ∧ Fall ms ∧ ∀ H', Ext H H' → Q (.bl (heldM ms ns)) H'
theorem held_empty (ns ms : List Int) : ((((ms.map V.int).zip (ns.map V.int)).filter fun p => gtW p.1 p.2).map fun _ => V.int 1).isEmpty = (ms.zip ns).all fun p => decide (p.1 ≤ p.2) := by
  rw [List.isEmpty_map, List.zip_map, List.filter_map, List.isEmpty_map]
  induction ms.zip ns with
  | nil => rfl
  | cons p r ih =>
    rw [List.filter_cons, List.all_cons]
    show List.isEmpty (if (gtW (.int p.1) (.int p.2)) = true then _ else _) = _
    by_cases h : p.2 < p.1
    · rw [if_pos (show gtW (.int p.1) (.int p.2) = true from decide_eq_true h), decide_eq_false (by omega)]
      rfl
    · rw [if_neg (show ¬ gtW (.int p.1) (.int p.2) = true from fun z => h (of_decide_eq_true z)), decide_eq_true (show p.1 ≤ p.2 by omega), Bool.true_and]
      exact ih
theorem ok_doesHold (F : Fun K "_law_does_hold" "_law_does_hold" sDoesHold f fd) (T : Txt K mg) : FnOk P w K mg base CX0 1 f fd ["_law_kind", "_law_other"] (spDoesHold K) := by
  refine F.ok scDoesHold (fun vs H Q E h => ?_) (fun cdv A outer s H vs Q E hr h => ?_)
  · obtain ⟨a, b, ns, ms, rfl, _⟩ := h
    rfl
  · obtain ⟨a, b, ns, ms, rfl, hs, ht, hF, hG, k⟩ := h
    refine ⟨_, pss_one (ps_ret (pe_and (pe_cmpR op_le (pe_callB call_len_seq (by rfl) T.len PySem.boot_len (pa_cons (pv 1) pa_nil)) (pe_callB call_len_seq (by rfl) T.len PySem.boot_len (pa_cons (pv 0) pa_nil)) (nomark _)) (pe_one (pe_cmpR (op_eqNil (Nat.lt_of_le_of_lt (Nat.le_add_right _ _) (lt66 hr))) (pe_lc (own := [("_law_one", 2), ("_law_two", 3)]) (g := gTup K 2 (gCons (gName 2) (gCons (gName 3) gNil))) rfl scDoesHold.nd (pi_zipE (by rfl) T.zip (pa_cons (pv 1) (pa_cons (pv 0) pa_nil))) (blkOk_by (N := ["_law_kind", "_law_other", "_law_one", "_law_two"]) (sc := defScope sDoesHold) (by decide +kernel)) (fun _ _ _ _ _ => pg_tup rfl (pgs_cons (pg_name (i := 2) scDoesHold.nd rfl (Or.inl rfl)) (pgs_cons (pg_name (i := 3) scDoesHold.nd rfl (Or.inl rfl)) pgs_nil))) (fun _ _ _ _ _ => pts_one (pt_cmpR op_gt (pv 2) (pv 3) (nomark _))) (fun _ _ _ _ _ => pe_int)) (pe_lst pa_nil) (nomark _))))), ?_⟩
    try dsimp only [cx_nox, cx_K]
    have hlen := hF.len
    walk_at "rd"
    refine ⟨b, _, rfl, .inr ht, ?_⟩
    walk_at "rd"
    refine ⟨a, _, rfl, .inr hs, ?_⟩
    walk_at "rd"
    rw [List.length_map, List.length_map]
    refine ite2 (fun h1 => ?_) (fun h1 => ?_)
    · have h2 := of_decide_eq_true h1
      walk_at "rd"
      refine g_lc ?_
      unfold iZipE
      walk_at "rd"
      refine lcZ (l1 := false) (l2 := false) ht hs (small (by rw [List.length_map, List.length_map]; omega)) gtW (fun _ _ => .int 1) (fun x y H' hxy e Qe Qn he hn => ?_) (fun H' D e hD hd => ?_)
      · rw [List.zip_map] at hxy
        obtain ⟨⟨n, m⟩, hnm, e1⟩ := List.mem_map.mp hxy
        cases e1
        refine ⟨rfl, ?_⟩
        walk_at "rd"
        refine ite2 (fun h3 => ?_) (fun h3 => ?_)
        · walk_at "rd"
          exact he _ (fun _ _ z => z) h3
        · exact hn _ (fun _ _ z => z) (by show decide _ = false; simpa using h3)
      · walk_at "rd"
        refine ⟨Nat.zero_le _, fun z hz => ?_⟩
        have ez := Ext.new (o := HO.lst []) hz
        refine ⟨D, z, _, rfl, rfl, SqL.of (ez _ _ hd), SqL.of upd_same, ?_⟩
        rw [held_empty]
        have e1 : heldM ms ns = (ms.zip ns).all fun p => decide (p.1 ≤ p.2) := by
          unfold heldM
          rw [decide_eq_true (show ms.length ≤ ns.length by omega), Bool.true_and]
        rw [← e1]
        exact k _ (Ext.trans e ez)
    · have h2 : ¬ ms.length ≤ ns.length := fun z => h1 (decide_eq_true (by omega))
      have e1 : heldM ms ns = false := by
        unfold heldM
        rw [decide_eq_false h2]
        rfl
      walk_at "rd"
      rw [← e1]
      exact k H (fun _ _ z => z)
/-! ### steps -/
end
end

/-! The law's own defs: the opposite, all kinds, a drawn kind. -/

section
open PySem PySem.Spec PyProof.Rows L2 Gd
section
variable {P : Program} {w : World} {K : PySem.W.Frag} {mg : Str → Option Value} {base : Heap} {f C t0 CT : Addr} {fd : FuncData}
def subV (h : Int) : V → V := fun v => match v with
  | .int n => .int (h - n)
  | y => y
def spLOpp (K : PySem.W.Frag) : Sp := fun vs H Q _ => ∃ (a : Addr) (ns : List Int) (wide : Nat) (high : Int), vs = [.ref a, .int (wide : Int), .int high] ∧ SqT K H a (ns.map V.int) ∧ Fall ns ∧ ns.length ≤ wide ∧ wide ≤ 12 ∧ 0 ≤ high ∧ high ≤ 12 ∧ ∀ H' u, Ext H H' → TupX K H' u ((oppM ns wide high).map V.int) → Q (.ref u) H'
abbrev sEvery : Stmt := top 41
theorem scEvery : FnScope ["_law_most", "_law_found", "_law_size"] ["_law_most"] (defScope sEvery) := ⟨rfl, rfl, rfl, by decide +kernel, rfl, by decide +kernel, by decide +kernel⟩
def everyM (n : Nat) : List (List Int) := (List.range n).flatMap fun s => rows s s
theorem every_succ (i : Nat) : everyM (i + 1) = everyM i ++ rows i i := by
  unfold everyM
  rw [List.range_succ, List.flatMap_append, List.flatMap_cons, List.flatMap_nil, List.append_nil]
theorem every_len : ∀ i, i < 14 → (everyM i).length ≤ 300 := by decide +kernel
def spEvery (K : PySem.W.Frag) : Sp := fun vs H Q _ => ∃ most : Nat, vs = [.int (most : Int)] ∧ most ≤ 12 ∧ ∀ H' F fs, Ext H H' → H F = none → H' F = some (.lst fs) → RXs K H' fs (everyM (most + 1)) → Q (.ref F) H'
theorem ok_every (F : Fun K "_law_every_kind" "_law_every_kind" sEvery f fd) (T : Txt K mg) (Ks : Def1 P w K mg base CX0 1 "_law_kinds" ["_law_size"] (spKindsO K)) : FnOk P w K mg base CX0 2 f fd ["_law_most"] (spEvery K) := by
  refine F.ok scEvery (fun vs H Q E h => ?_) (fun cdv A outer s H vs Q E hr h => ?_)
  · obtain ⟨most, rfl, _⟩ := h
    rfl
  · obtain ⟨most, rfl, hm, k⟩ := h
    refine ⟨_, pss_cons (ps_set (i := 1) scEvery.nd rfl (Or.inl rfl) (pe_lst pa_nil))
      (pss_cons (ps_for PassesOwn.never rfl (pi_range1 (by rfl) T.range (pa_cons (pe_op op_add (pv 0) pe_int) pa_nil)) (pg_name (i := 2) scEvery.nd rfl (Or.inl rfl)) (pss_one (ps_set (i := 1) scEvery.nd rfl (Or.inl rfl) (pe_op op_cat (pv 1) (pe_def Ks hr (by decide) (by rfl) (pa_cons (pv 2) pa_nil))))))
      (pss_one (ps_ret (pv 1)))), ?_⟩
    try dsimp only [cx_nox, cx_K]
    walk_at "rd"
    refine ⟨Nat.zero_le _, fun F0 hF0 => ?_⟩
    walk_at "rd"
    have e0 := Ext.new (o := HO.lst []) hF0
    refine g_forR ?_
    walk_at "rd"
    refine ⟨by omega, by omega, ?_⟩
    refine for_range (fun i σ H' => ∃ (Fa : Addr) (fs : List V) (x2 : Option V), σ = [some (.int (most : Int)), some (.ref Fa), x2] ∧ Ext H H' ∧ H Fa = none ∧ H' Fa = some (.lst fs) ∧ RXs K H' fs (everyM i)) ⟨F0, [], none, rfl, e0, hF0, upd_same, .nil⟩ ?_ ?_
    · rintro i σ H2 hi ⟨Fa, fs, x2, rfl, e2, hFa, hF, hfs⟩
      refine g_name (g_gen fun D1 hn1 _ => ?_)
      walk_at "rd"
      have hlen := pair_len hfs
      refine ⟨i, by rw [Int.zero_add]; rfl, by omega, fun H3 Ka gs e3 hKa hK hgs => ?_⟩
      have hgl := pair_len hgs
      have hb := every_len (i + 1) (by omega)
      rw [every_succ, List.length_append] at hb
      refine ⟨Fa, Ka, _, _, rfl, rfl, e3 _ _ hF, hK, by have := small (n := fs.length + gs.length) (by omega); omega, fun N hN => ?_⟩
      have eN := Ext.new (o := HO.lst (fs ++ gs)) hN
      have e23 := Ext.trans e2 e3
      refine hn1 _ _ ⟨N, fs ++ gs, _, rfl, Ext.trans e23 eN, new_up e23 hN, upd_same, ?_⟩
      rw [every_succ]
      exact pair_append (rxs_ext (Ext.trans e3 eN) hfs) (rxs_ext eN hgs)
    · rintro σ H2 ⟨Fa, fs, x2, rfl, e2, hFa, hF, hfs⟩
      walk_at "rd"
      exact k H2 Fa fs e2 hFa hF hfs
def spKindO (K : PySem.W.Frag) : Sp := fun vs H Q _ => ∃ (d : Addr) (most : Int), vs = [.ref d, .int most] ∧ DiceAt H d ∧ 0 ≤ most ∧ most ≤ 12 ∧
  ∀ H' a ns, ExtBut d H H' → DiceAt H' d → TupX K H' a (ns.map V.int) → Fall ns → ns.sum ≤ most → Q (.ref a) H'
theorem rows_ne {n : Nat} (hn : n ≤ 12) : 0 < (rows n n).length := (by decide +kernel : ∀ n, n < 13 → 0 < (rows n n).length) n (by omega)
end
end

/-! Topped rows and kinds, flat ones, the law's key of a kind. -/

section
open PySem PySem.Spec PyProof.Rows L2 Gd
section
variable {P : Program} {w : World} {K : PySem.W.Frag} {mg : Str → Option Value} {base : Heap} {f C t0 CT fT : Addr} {fd : FuncData}
theorem g_takeT {H : Hp} {Q : VK} {a : Addr} {ns : List Int} {i : Nat} (hs : SqT K H a (ns.map V.int)) (k : ∀ H' p, Ext H H' → SqT K H' p ((ns.take i).map V.int) → Q (.ref p) H') : rSlA K (.ref a) none (some (i : Int)) H Q := by
  refine ⟨a, _, rfl, hs, fun hw => ?_, fun hw p hp => ?_⟩
  · have h2 := hw.2
    rw [HT.sIx_nat, List.length_map] at h2
    refine k H a (fun _ _ z => z) ?_
    rw [List.take_of_length_le (by omega)]
    exact hs
  · refine k _ p (Ext.new hp) (SqT.of ?_)
    rw [upd_same]
    unfold cutV
    rw [HT.sIx_none, HT.sIx_nat, List.length_map, List.drop_zero, Nat.sub_zero, ← List.map_take]
    congr 3
    by_cases h : i ≤ ns.length
    · rw [Nat.min_eq_left h]
    · rw [Nat.min_eq_right (by omega), List.take_of_length_le (by omega), List.take_of_length_le (by omega)]
/-! ### topped -/
abbrev sTopped : Stmt := top 22
def topM (ns ms : List Int) : Bool := (List.range (ms.length - 1)).all fun i => decide ((ns.take (i + 1)).sum ≤ (ms.take (i + 1)).sum)
theorem scTopped : FnScope ["row", "other", "i"] ["row", "other"] (defScope sTopped) := ⟨rfl, rfl, rfl, by decide +kernel, rfl, by decide +kernel, by decide +kernel⟩
def spTopped (K : PySem.W.Frag) : Sp := fun vs H Q _ => ∃ (a b : Addr) (ns ms : List Int), vs = [.ref a, .ref b] ∧ SqT K H a (ns.map V.int) ∧ SqT K H b (ms.map V.int) ∧ Fall ns ∧ Fall ms ∧ ∀ H', Ext H H' → Q (.bl (topM ns ms)) H'
theorem ok_topped (F : Fun K "is_topped" "is_topped" sTopped f fd) (T : Txt K mg) : FnOk P w K mg base CX0 1 f fd ["row", "other"] (spTopped K) := by
  refine F.ok scTopped (fun vs H Q E h => ?_) (fun cdv A outer s H vs Q E hr h => ?_)
  · obtain ⟨a, b, ns, ms, rfl, _⟩ := h
    rfl
  · obtain ⟨a, b, ns, ms, rfl, hs, ht, hF, hG, k⟩ := h
    refine ⟨_, pss_one (ps_ret (pe_callB (cr_all rfl) (by rfl) T.all (by decide +kernel) (pa_cons (pe_lc (own := [("i", 2)]) (g := gName 2) (tt := tYes) rfl scTopped.nd (pi_range2 (by rfl) T.range (pa_cons pe_int (pa_cons (pe_callB call_len_seq (by rfl) T.len PySem.boot_len (pa_cons (pv 1) pa_nil)) pa_nil))) (blkOk_by (N := ["row", "other", "i"]) (sc := defScope sTopped) (by decide +kernel)) (fun _ _ _ _ _ => pg_name (i := 2) scTopped.nd rfl (Or.inl rfl)) (fun _ _ _ _ _ => pts_nil) (fun _ _ _ _ _ => (pe_cmpR op_le (pe_callB (r := rSumS K) (call_sumS rfl) (by rfl) T.sum (by decide +kernel) (pa_cons (pe_slice (r := rSlA K) sl_tupA (pv 0) po_none (po_some (pv 2))) pa_nil)) (pe_callB (r := rSumS K) (call_sumS rfl) (by rfl) T.sum (by decide +kernel) (pa_cons (pe_slice (r := rSlA K) sl_tupA (pv 1) po_none (po_some (pv 2))) pa_nil)) (nomark _)))) pa_nil))), ?_⟩
    try dsimp only [cx_nox, cx_K]
    have hlen := hG.len
    walk_at "rd"
    refine g_lc (g_rng2 ?_)
    walk_at "rd"
    refine ⟨b, _, rfl, .inr ht, ?_⟩
    walk_at "rd"
    rw [List.length_map]
    refine ⟨⟨by decide, by decide, by omega, by omega⟩, ?_⟩
    have en : ((ms.length : Int) - 1).toNat = ms.length - 1 := by omega
    rw [en]
    refine lcR (small (by omega)) (fun _ => true) (fun i => .bl (decide ((ns.take (i + 1)).sum ≤ (ms.take (i + 1)).sum))) (fun i H' hi e Qe Qn he hn => ?_) (fun H' D e hD hd => ?_)
    · have ei : (1 + (i : Int)) = ((i + 1 : Nat) : Int) := by omega
      rw [ei]
      walk_at "rd"
      refine ⟨rfl, ?_⟩
      walk_at "rd"
      refine g_takeT (sqT_ext e hs) fun H2 p e2 hp => ?_
      walk_at "rd"
      refine ⟨p, _, rfl, .inr hp, ?_⟩
      walk_at "rd"
      refine g_takeT (sqT_ext e2 (sqT_ext e ht)) fun H3 q e3 hq => ?_
      walk_at "rd"
      refine ⟨q, _, rfl, .inr hq, ?_⟩
      walk_at "rd"
      exact he _ (Ext.trans e2 e3) rfl
    · rw [idx_all] at hd
      walk_at "rd"
      refine ⟨D, (List.range (ms.length - 1)).map fun i => decide ((ns.take (i + 1)).sum ≤ (ms.take (i + 1)).sum), rfl, SqL.of ?_, ?_⟩
      · rw [hd, List.map_map]
        rfl
      · rw [List.all_map]
        exact k H' e
theorem scTops : FnScope ["self", "other"] ["self", "other"] (defScope (cls 12)) := ⟨rfl, rfl, rfl, by decide +kernel, rfl, by decide +kernel, by decide +kernel⟩
theorem ok_tops (F : Fun K "tops" "Kind.tops" (cls 12) f fd) (Cl : KC K mg C) (Rk : Def1 P w K mg base CX0 1 "require_kind" ["value"] (spReqKind K C)) (N : Def1 P w K mg base CX0 1 "is_topped" ["row", "other"] (spTopped K))
    (Pn : Pro1 P w K mg base 1 C "numbers" (spGet K C fun n _ => .ref n)) (Ps : Pro1 P w K mg base 1 C "size" (spGet K C fun _ ns => .int ns.sum)) : FnOk P w K mg base CX0 3 f fd ["self", "other"] (spTwo K C (fun ns ms => ns.sum = ms.sum) fun ns ms => .bl (topM ms ns)) := by
  refine F.ok scTops (fun vs H Q E h => ?_) (fun cdv A outer s H vs Q E hr h => ?_)
  · obtain ⟨p, n, t, m, q, n2, t2, m2, ns, ms, rfl, _⟩ := h
    rfl
  · obtain ⟨p, n, t, m, q, n2, t2, m2, ns, ms, rfl, hp, hq, hB, k⟩ := h
    refine ⟨_, PSs.nox (pss_cons (ps_expr (pe_def Rk hr (by decide) (by rfl) (pa_cons (pv 1) pa_nil)))
      (pss_cons (ps_if (pt_cmpR op_ne (pe_pro1 Cl.cl Ps hr (by decide) (pv 0)) (pe_pro1 Cl.cl Ps hr (by decide) (pv 1)) (nomark _)) (pss_one ps_never) pss_nil)
      (pss_one (ps_ret (pe_def N hr (by decide) (by rfl) (pa_cons (pe_pro1 Cl.cl Pn hr (by decide) (pv 1)) (pa_cons (pe_fld (pv 0) rfl) pa_nil))))))), ?_⟩
    try dsimp only [cx_nox, cx_K]
    walk_at "rd"
    refine ⟨q, n2, t2, m2, ms, rfl, hq, ?_⟩
    walk_at "rd"
    obtain ⟨dx, hpi⟩ := hp.ins
    refine ⟨p, dx, _, rfl, hpi, p, n, t, m, ns, rfl, hp, fun H1 e1 => ?_⟩
    walk_at "rd"
    have hq1 := hq.ext e1
    obtain ⟨dy, hqi⟩ := hq1.ins
    refine ⟨q, dy, _, rfl, hqi, q, n2, t2, m2, ms, rfl, hq1, fun H2 e2 => ?_⟩
    walk_at "rd"
    refine g_neS1 hB ?_
    walk_at "rd"
    have hq2 := hq1.ext e2
    have hp2 := (hp.ext e1).ext e2
    obtain ⟨dy2, hqi2⟩ := hq2.ins
    refine ⟨q, dy2, _, rfl, hqi2, q, n2, t2, m2, ms, rfl, hq2, fun H3 e3 => ?_⟩
    walk_at "rd"
    obtain ⟨dx3, hpi3⟩ := (hp2.ext e3).ins
    refine ⟨p, C, dx3, _, _, rfl, hpi3, Cl.cl, Cl.noN, look1, ?_⟩
    walk_at "rd"
    exact ⟨n2, n, ms, ns, rfl, (hq2.ext e3).num.sq, (hp2.ext e3).num.sq, hq.fall, hp.fall, fun H4 e4 => k H4 (Ext.trans e1 (Ext.trans e2 (Ext.trans e3 e4)))⟩
theorem scIsF : FnScope ["self"] ["self"] (defScope (cls 9)) := ⟨rfl, rfl, rfl, by decide +kernel, rfl, by decide +kernel, by decide +kernel⟩
theorem ok_isFlat (F : Fun K "is_flat" "Kind.is_flat" (cls 9) f fd) (Cl : KC K mg C) (Ph : Pro1 P w K mg base 2 C "height" (spGet K C fun _ ns => .int (ns.getD 0 0))) : FnOk P w K mg base CX0 4 f fd ["self"] (spGet K C fun _ ns => .bl (decide (ns.getD 0 0 ≤ 1))) := by
  refine F.ok scIsF (fun vs H Q E h => ?_) (fun cdv A outer s H vs Q E hr h => ?_)
  · obtain ⟨p, n, t, m, ns, rfl, _⟩ := h
    rfl
  · obtain ⟨p, n, t, m, ns, rfl, hp, k⟩ := h
    refine ⟨_, pss_one (ps_ret (pe_cmpR op_le (pe_pro1 Cl.cl Ph hr (by decide) (pv 0)) pe_int (nomark _))), ?_⟩
    try dsimp only [cx_nox, cx_K]
    obtain ⟨dx, hpi⟩ := id hp.ins
    walk_at "rd"
    refine ⟨p, dx, _, rfl, hpi, p, n, t, m, ns, rfl, hp, fun H1 e1 => ?_⟩
    walk_at "rd"
    exact k _ e1
abbrev sKey : Stmt := top 40
theorem scKey : FnScope ["_law_kind", "_law_number"] ["_law_kind"] (defScope sKey) := ⟨rfl, rfl, rfl, by decide +kernel, rfl, by decide +kernel, by decide +kernel⟩
def spKey (K : PySem.W.Frag) : Sp := fun vs H Q _ => ∃ (a : Addr) (ns : List Int), vs = [.ref a] ∧ SqT K H a (ns.map V.int) ∧ Fall ns ∧ ∀ H' b q, Ext H H' → SqT K H' b [.int ns.sum, .ref q] → SqT K H' q ((ns.map fun x => -x).map V.int) → Q (.ref b) H'
theorem ok_key (F : Fun K "_law_kind_key" "_law_kind_key" sKey f fd) (T : Txt K mg) : FnOk P w K mg base CX0 1 f fd ["_law_kind"] (spKey K) := by
  refine F.ok scKey (fun vs H Q E h => ?_) (fun cdv A outer s H vs Q E hr h => ?_)
  · obtain ⟨a, ns, rfl, _⟩ := h
    rfl
  · obtain ⟨a, ns, rfl, hs, hF, k⟩ := h
    refine ⟨_, pss_one (ps_ret (pe_tup (pa_cons (pe_callB (call_sumS rfl) (by rfl) T.sum (by decide +kernel) (pa_cons (pv 0) pa_nil)) (pa_cons (pe_callTy call_tuple_of (by rfl) T.tuple (by decide +kernel) (pa_cons (pe_lc (own := [("_law_number", 1)]) (g := gName 1) (tt := tYes) rfl scKey.nd (pi_tup (pv 0)) (blkOk_by (N := ["_law_kind", "_law_number"]) (sc := defScope sKey) (by decide +kernel)) (fun _ _ _ _ _ => pg_name (i := 1) scKey.nd rfl (Or.inl rfl)) (fun _ _ _ _ _ => pts_nil) (fun _ _ _ _ _ => by exact (pe_op op_sub pe_int (pv 1)))) pa_nil)) pa_nil)))), ?_⟩
    try dsimp only [cx_nox, cx_K]
    have hlen := hF.len
    walk_at "rd"
    refine ⟨a, ns, rfl, .inr hs, ?_⟩
    walk_at "rd"
    refine g_lc (g_itup ?_)
    walk_at "rd"
    refine lcT hs (small (by rw [List.length_map]; omega)) (fun _ => true) negV (fun x H' hx e Qe Qn he hn => ?_) (fun H3 D e3 hD hd => ?_)
    · obtain ⟨n, hn', rfl⟩ := List.mem_map.mp hx
      refine ⟨rfl, ?_⟩
      walk_at "rd"
      have := he _ (fun _ _ z => z) rfl
      rw [show (0 : Int) - n = -n by omega]
      exact this
    · walk_at "rd"
      rw [List.filter_eq_self.mpr (fun _ _ => rfl), List.map_map] at hd
      refine ⟨D, _, rfl, .inl ⟨SqL.of hd, fun l hl => ?_⟩⟩
      walk_at "rd"
      refine ⟨by show 2 ≤ sizeLine; decide, fun t ht => ?_⟩
      have el := Ext.new (o := HO.tup (ns.map (negV ∘ V.int))) hl
      have et := Ext.new (o := HO.tup [V.int ns.sum, V.ref l]) ht
      refine k _ t l (Ext.trans e3 (Ext.trans el et)) (SqT.of upd_same) (sqT_ext et ?_)
      rw [List.map_map]
      exact SqT.of upd_same
theorem none_ofX {H H' : Hp} {r : Addr} (e : Ext H H') (h : H' r = none) : H r = none := by
  cases q : H r with
  | none => rfl
  | some o =>
    have := e _ _ q
    rw [h] at this
    cases this
theorem erase_map {α β : Type} (f : α → β) : ∀ (l : List α) (j : Nat), (l.map f).eraseIdx j = (l.eraseIdx j).map f
  | [], _ => rfl
  | _ :: _, 0 => rfl
  | x :: r, j + 1 => by
    show f x :: (r.map f).eraseIdx j = f x :: (r.eraseIdx j).map f
    rw [erase_map f r j]
theorem erase_perm {α : Type} : ∀ (l : List α) (j : Nat) (h : j < l.length), (l[j] :: l.eraseIdx j).Perm l
  | [], _, h => absurd h (Nat.not_lt_zero _)
  | _ :: _, 0, _ => .refl _
  | x :: r, j + 1, h => by
    have ih := erase_perm r j (Nat.lt_of_succ_lt_succ h)
    show (r[j]'(Nat.lt_of_succ_lt_succ h) :: x :: r.eraseIdx j).Perm (x :: r)
    exact (List.Perm.swap _ _ _).trans (ih.cons x)
theorem seqIndex_nat {j n : Nat} (h : j < n) : seqIndex? (j : Int) n = some j := by
  unfold seqIndex?
  have h0 : ¬ ((j : Int) < 0) := by omega
  simp [h0, h]
end
end

/-! Items mixed, whatever they are. -/

section
open PySem PySem.Spec PyProof.Rows L2 Gd
section
variable {P : Program} {w : World} {K : PySem.W.Frag} {mg : Str → Option Value} {base : Heap} {f : Addr} {fd : FuncData}
abbrev sMixed : Stmt := top 38
theorem scMixed : FnScope ["_law_dice_here", "_law_items", "_law_left", "_law_found", "_law_turn"] ["_law_dice_here", "_law_items"] (defScope sMixed) := ⟨rfl, rfl, rfl, by decide +kernel, rfl, by decide +kernel, by decide +kernel⟩
def spMixed (K : PySem.W.Frag) : Sp := fun vs H Q _ => ∃ (d l : Addr) (xs : List V), vs = [.ref d, .ref l] ∧ DiceAt H d ∧ SqL K H l xs ∧ l ≠ d ∧ xs.length ≤ 1000 ∧
  ∀ H' r ms, ExtBut d H H' → DiceAt H' d → H r = none → H' r = some (.lst ms) → ms.Perm xs → Q (.ref r) H'
theorem ok_mixed (F : Fun K "_law_mixed" "_law_mixed" sMixed f fd) (T : Txt K mg) (Ro : Def1 P w K mg base CX0 1 "_law_roll" ["_law_dice_here", "_law_total"] spRoll) : FnOk P w K mg base CX0 2 f fd ["_law_dice_here", "_law_items"] (spMixed K) := by
  refine F.ok scMixed (fun vs H Q E h => ?_) (fun cdv A outer s H vs Q E hr h => ?_)
  · obtain ⟨d, l, xs, rfl, _⟩ := h
    rfl
  · obtain ⟨d, l, xs, rfl, hd, hs, hld, hl, k⟩ := h
    refine ⟨_, pss_cons (ps_par (i := 2) (j := 3) (by rfl) scMixed.nd rfl rfl (by decide) rfl rfl (pa_cons (pe_callTy call_list_of (by rfl) T.list (by decide +kernel) (pa_cons (pv 1) pa_nil)) (pa_cons (pe_lst pa_nil) pa_nil)) (by rfl))
      (pss_cons (ps_for PassesOwn.never rfl (pi_range1 (by rfl) T.range (pa_cons (pe_callB call_len_seq (by rfl) T.len PySem.boot_len (pa_cons (pv 1) pa_nil)) pa_nil)) (pg_name (i := 4) scMixed.nd rfl (Or.inl rfl)) (pss_one (ps_expr (pe_bm PySem.F.plainAttrs_list PySem.F.slot_list_append PySem.F.type_list_append mt_append (pv 3) (pa_cons (pe_bm PySem.F.plainAttrs_list PySem.F.slot_list_pop PySem.F.type_list_pop mt_popAt (pv 2) (pa_cons (pe_def Ro hr (by decide) (by rfl) (pa_cons (pv 0) (pa_cons (pe_callB call_len_seq (by rfl) T.len PySem.boot_len (pa_cons (pv 2) pa_nil)) pa_nil))) pa_nil)) pa_nil)))))
      (pss_one (ps_ret (pv 3)))), ?_⟩
    try dsimp only [cx_nox, cx_K]
    have sz : (100000 : Nat) < sizeLine := by decide
    walk_at "rd"
    refine g_par ?_
    walk_at "rd"
    refine ⟨l, _, rfl, .inl hs, fun a na => ?_⟩
    walk_at "rd"
    refine ⟨Nat.zero_le _, fun b nb => ?_⟩
    walk_at "rd"
    refine ⟨_, _, rfl, ?_⟩
    dsimp only
    have ea := Ext.new (o := HO.lst xs) na
    have eb := Ext.new (o := HO.lst []) nb
    have nab : a ≠ b := fun z => by
      rw [← z, upd_same] at nb
      cases nb
    have nad := dice_none hd na
    have nbd := dice_none (hd.ext ea) nb
    have hs2 := sqL_ext eb (sqL_ext ea hs)
    have hd2 := (hd.ext ea).ext eb
    have ha2 : upd (upd H a (.lst xs)) b (.lst []) a = some (.lst xs) := eb _ _ upd_same
    have hb2 : upd (upd H a (.lst xs)) b (.lst []) b = some (.lst []) := upd_same
    have e2 := Ext.trans ea eb
    have hbn : H b = none := none_ofX ea nb
    generalize upd (upd H a (.lst xs)) b (.lst []) = G at hs2 hd2 ha2 hb2 e2
    refine g_seq (g_forR ?_)
    walk_at "rd"
    refine ⟨l, _, rfl, .inl hs2, ?_⟩
    walk_at "rd"
    refine ⟨by omega, by omega, ?_⟩
    refine for_range (fun i σ H' => ∃ (x : Option V) (ls ms : List V), σ = [some (.ref d), some (.ref l), some (.ref a), some (.ref b), x] ∧ H' a = some (.lst ls) ∧ H' b = some (.lst ms) ∧ ls.length + i = xs.length ∧ (ms ++ ls).Perm xs ∧ DiceAt H' d ∧ ∀ c o, c ≠ d → H c = some o → H' c = some o) ⟨_, xs, [], rfl, ha2, hb2, rfl, .refl _, hd2, fun c o _ h => e2 c o h⟩ ?_ ?_
    · rintro i σ H2 hi ⟨x, ls, ms, rfl, ha, hb, hlen, hp, hd3, ke⟩
      have hi2 : i < xs.length := by
        revert hi
        rw [Int.toNat_natCast]
        exact id
      walk_at "rd"
      refine ⟨.inl ⟨rfl, _, SqL.of hb⟩, ?_⟩
      walk_at "rd"
      refine ⟨.inl ⟨rfl, _, SqL.of ha⟩, ?_⟩
      walk_at "rd"
      refine ⟨a, _, rfl, .inl (SqL.of ha), ?_⟩
      walk_at "rd"
      refine ⟨d, (ls.length : Int), rfl, hd3, by omega, by omega, fun H3 z b3 hd4 z0 z1 => ?_⟩
      walk_at "rd"
      obtain ⟨j, rfl⟩ : ∃ j : Nat, z = (j : Int) := ⟨z.toNat, by omega⟩
      have hj : j < ls.length := by omega
      have ha3 := b3 _ _ nad ha
      have hb3 := b3 _ _ nbd hb
      refine ⟨a, _, (j : Int), j, ls[j], rfl, rfl, ha3, by omega, by omega, seqIndex_nat hj, List.getElem?_eq_getElem hj, ?_⟩
      walk_at "rd"
      have hb4 : upd H3 a (.lst (ls.eraseIdx j)) b = some (.lst ms) := by rw [upd_ne (fun z => nab z.symm)]; exact hb3
      refine ⟨b, _, _, rfl, rfl, hb4, by have := hp.length_eq; rw [List.length_append] at this; omega, ?_⟩
      refine ⟨_, ls.eraseIdx j, ms ++ [ls[j]], rfl, ?_, upd_same, ?_, ?_, ?_, fun c o hc q => ?_⟩
      · rw [upd_ne nab, upd_same]
      · rw [List.length_eraseIdx, if_pos hj]
        omega
      · refine List.Perm.trans ?_ hp
        rw [List.append_assoc]
        refine List.Perm.append_left ms ?_
        exact erase_perm ls j hj
      · obtain ⟨x1, x2, x3, g, r⟩ := hd4
        exact ⟨x1, x2, x3, by rw [upd_ne (fun z => nbd z.symm), upd_ne (fun z => nad z.symm)]; exact g, r⟩
      · rw [upd_ne (fun z => by rw [z, hbn] at q; cases q), upd_ne (fun z => by rw [z, na] at q; cases q)]
        exact b3 _ _ hc (ke c o hc q)
    · rintro σ H2 ⟨x, ls, ms, rfl, ha, hb, hlen, hp, hd3, ke⟩
      walk_at "rd"
      have h0 : ls = [] := List.length_eq_zero_iff.mp (by
        rw [Int.toNat_natCast] at hlen
        omega)
      subst h0
      rw [List.append_nil] at hp
      exact k H2 b ms (fun c o hc q => ke c o hc q) hd3 hbn hb hp
end
end

end Q0

set_option Elab.async false
set_option linter.all false
set_option maxRecDepth 100000
set_option maxHeartbeats 4000000
/-! sorted(xs, key=f), f a def of the program that makes keys. -/
namespace Gd
open PySem PySem.Spec PySem.W PySem.Calls PyProof.Rows L2
section
variable {X : Cx} {k : Nat} {f : Addr} {fd : FuncData} {sp : Sp} {pn : Str}
/-- a def asked for a key -/
theorem ask_key (F : FnOk X.prog X.w X.K X.mg X.base CX0 k f fd [pn] sp) (hr : Room (k + 2) X.A) (hb : Binds X.K fd [pn] [])
    {pins : List (Addr × Obj)} {σ : L2.St} {H : Hp} {s : Shared} {y : V} {u : Value} {Q : V → Hp → Prop} {G : Value → Shared → Prop} (I : Inv X pins σ H s) (ry : RelV y u)
    (h : sp [y] H Q fun _ _ _ => False) (hG : ∀ v z s' H', Inv X pins σ H' s' → RelV v z → Q v H' → G z s') : wpAny (model X.prog X.w) X.A.in1.in1 (call (.ref f) [u]) G (fun _ _ => False) s := by
  have bt := hb s [u] I.kIn rfl
  refine wpAny_call (codeAny_mono (F.run X.A.in1.in1 X.stack s H ⟨[u], []⟩ [u] _ _ (fun _ _ _ => False) hr.in1.in1 I.env0.in1.in1 (by simpa using bt) (.cons ry .nil) h) ?_)
  intro r s' hq
  match r, hq with
  | .error e, hq => exact False.elim hq
  | .ok (.ret u), hq =>
    obtain ⟨z, H', I', rz, q⟩ := I.after hq
    exact hG z u s' H' I' rz q
  | .ok .next, hq => exact False.elim hq
  | .ok .brk, hq => exact False.elim hq
  | .ok .cont, hq => exact False.elim hq
/-- what is no list stays -/
def Stays (H H' : Hp) : Prop := ∀ b o, (∀ xs, o ≠ HO.lst xs) → H b = some o → H' b = some o
def rSortedKey (K : PySem.W.Frag) (f : Addr) (sp : Sp) : List V → List V → Hp → VK → Prop := fun vs zs H Q => ∃ (a : Addr) (xs : List V) (kz : List PyData) (R : Hp → V → PyData → Prop),
  vs = [V.ref a] ∧ zs = [V.ref f] ∧ SqL K H a xs ∧ kz.length = xs.length ∧ AllAlike kz ∧ PySem.W.Sortable kz ∧ (∀ d ∈ kz, d.depth ≤ 16) ∧ (∀ H1 H2 v d, Ext H1 H2 → R H1 v d → R H2 v d) ∧ (∀ H1 v d, R H1 v d → Dp K H1 v d) ∧
  (∀ (i : Nat) x d H', Ext H H' → xs[i]? = some x → kz[i]? = some d → ∀ Q' : VK, (∀ v H'', Ext H' H'' → R H'' v d → Q' v H'') → sp [x] H' Q' fun _ _ _ => False) ∧
  ∀ H' D ys, Ext H H' → H D = none → H' D = some (.lst ys) → EachIs (fun (v : V) (p : V × PyData) => v = p.1) ys ((xs.zip kz).mergeSort (dataLe false fun p => p.2)) → Q (.ref D) H'
theorem each_vals : ∀ {xs : List V} {its : List Value} {kz : List PyData}, Vals xs its → kz.length = xs.length → EachIs (fun (u : Value) (p : V × PyData) => RelV p.1 u) its (xs.zip kz)
  | _, _, [], .nil, _ => .nil
  | _, _, _ :: _, .nil, h => by simp at h
  | _, _, [], .cons _ _, h => by simp at h
  | _, _, d :: kz, .cons r t, h => .cons r (each_vals t (by simpa using h))
theorem vals_each : ∀ {us : List Value} {ps : List (V × PyData)}, EachIs (fun (u : Value) (p : V × PyData) => RelV p.1 u) us ps → Vals (ps.map (·.1)) us
  | _, _, .nil => .nil
  | _, _, .cons r t => .cons r (vals_each t)
theorem each_self : ∀ ps : List (V × PyData), EachIs (fun (v : V) (p : V × PyData) => v = p.1) (ps.map (·.1)) ps
  | [] => .nil
  | _ :: ps => .cons rfl (each_self ps)
theorem each_at {α β : Type} {R : α → β → Prop} : ∀ {as : List α} {bs : List β}, as.length = bs.length → (∀ (i : Nat) a b, as[i]? = some a → bs[i]? = some b → R a b) → EachIs R as bs
  | [], [], _, _ => .nil
  | [], _ :: _, h, _ => by simp at h
  | _ :: _, [], h, _ => by simp at h
  | a :: as, b :: bs, h, k => .cons (k 0 a b rfl rfl) (each_at (by simpa using h) fun i x y hx hy => k (i + 1) x y (by simpa using hx) (by simpa using hy))
theorem cr_sortedKey (F : FnOk X.prog X.w X.K X.mg X.base CX0 k f fd [pn] sp) (hr : Room (k + 2) X.A) (hb : Binds X.K fd [pn] []) (hu : X.A.units + 66 < cLine) : CallRK X (.builtin "sorted") [Str.ofString "key"] (rSortedKey X.K f sp) := by
  intro pins s σ H vs zs us ws Q I r rz h
  obtain ⟨a, xs, kz, R, rfl, rfl, hs, hlen, hal, hsk, hdp, mono, toDp, ask, q⟩ := h
  obtain ⟨its, rv, hl, hz⟩ := I.list hs
  rw [Vals.ref1 r]
  obtain ⟨w1, rfl, ew⟩ := vals1 rz
  obtain rfl : w1 = Value.ref f := ew
  have hil : its.length = xs.length := rv.length.symm
  have hzl : its.length ≤ sizeLine := by rw [hil]; exact hz
  show wpAny _ _ (call (.builtin "sorted") [.ref a] [(Str.ofString "key", .ref f)]) _ _ _
  refine PySem.W.sorted_of_sort hl.isList hzl (ksk_s1 _ _) (fun x => ksk_l1 _ _) fun E' => ?_
  rw [ksk_t1]
  have hDs : s.heap.objs.size ≤ s.heap.objs.size + 1 := Nat.le_succ _
  have old := fun (b : Addr) (o : Obj) (e : s.heap.get? b = some o) => copyHeap_old (vs := its) e
  have hoD := copyHeap_at s.heap its
  generalize copyHeap s.heap its = h0 at old hoD ⊢
  generalize hDe : s.heap.objs.size + 1 = D at hDs hoD ⊢
  have hD0 : H D = none := I.hok.fresh hDs
  have neD : ∀ b o, s.heap.get? b = some o → b ≠ D := fun b o e z => absurd (Nat.lt_of_lt_of_le (Heap.lt_size e) hDs) (by rw [z]; exact Nat.lt_irrefl _)
  obtain ⟨e1, ho1⟩ : ∃ e1, (h0.update D (Obj.mapSeq fun _ => (#[] : Array Value))).get? D = some (seqObj "list" #[] e1) := ⟨_, get?_update_seq hoD fun _ => #[]⟩
  unfold ksk_tree
  refine wpAny_bind (listItems_at hoD rfl ?_)
  refine wpAny_bind (listUpdate_at hoD rfl ?_ (by rw [List.size_toArray]; exact hzl) (Nat.zero_le _))
  refine wpAny_bind (seqEpoch_at ho1 rfl ?_)
  refine wpAny_bind (wpAny_newTuple ?_ (by show its.length ≤ _; exact hzl))
  refine wpAny_bind (wpAny_newList ?_ (Nat.zero_le _))
  refine wpAny_holding ?_
  have oldA : ∀ b o, s.heap.get? b = some o → ((h0.update D (Obj.mapSeq fun _ => (#[] : Array Value))).push (seqObj "tuple" its.toArray 0)).get? b = some o := fun b o e =>
    Heap.get?_push_of_some _ ((Heap.get?_update_ne _ _ _ _ (neD b o e)).trans (old b o e))
  have hDA := Heap.get?_push_of_some (seqObj "tuple" its.toArray 0) ho1
  show wpAny _ _ (ksk_rest D (.ref f) false its.toArray e1 (.ref ((h0.update D (Obj.mapSeq fun _ => (#[] : Array Value))).push (seqObj "tuple" its.toArray 0)).objs.size)) _ _ { s with heap := ((h0.update D (Obj.mapSeq fun _ => (#[] : Array Value))).push (seqObj "tuple" its.toArray 0)).push (seqObj "list" #[] 0) }
  generalize (h0.update D (Obj.mapSeq fun _ => (#[] : Array Value))).push (seqObj "tuple" its.toArray 0) = hA at oldA hDA ⊢
  have hDlt : D < hA.objs.size := Heap.lt_size hDA
  have hSs : s.heap.objs.size ≤ hA.objs.size := Nat.le_trans hDs (Nat.le_of_lt hDlt)
  have hS0 : H hA.objs.size = none := I.hok.fresh hSs
  have nDS : hA.objs.size ≠ D := Nat.ne_of_gt hDlt
  have fD : ∀ H', H' D = none → FpOk X pins H' D := fun H' hn => I.fpOk hDs hn
  have fS : ∀ H', H' hA.objs.size = none → FpOk X pins H' hA.objs.size := fun H' hn => I.fpOk hSs hn
  have IA : Inv X pins σ H { s with heap := hA.push (seqObj "list" #[] 0) } := I.kept (t' := s.toks) fun b o e => Heap.get?_push_of_some _ (oldA b o e)
  have kSA : (hA.push (seqObj "list" #[] 0)).get? hA.objs.size = some (seqObj "list" #[] 0) := Heap.get?_push_size _ rfl
  have kDA : (hA.push (seqObj "list" #[] 0)).get? D = some (seqObj "list" #[] e1) := Heap.get?_push_of_some _ hDA
  generalize hA.push (seqObj "list" #[] 0) = hB at IA kSA kDA ⊢
  generalize hA.objs.size = S at *
  -- what holds behind the first i keys
  let J : Nat → Shared → Prop := fun i s' => ∃ (H' : Hp) (ks : List V) (kA : Array Value) (e : Nat), Ext H H' ∧ H' D = none ∧ H' S = none ∧ Inv X pins σ H' s' ∧ s'.heap.get? D = some (seqObj "list" #[] e1) ∧ s'.heap.get? S = some (seqObj "list" kA e) ∧ Vals ks kA.toList ∧ ks.length = i ∧ ∀ (j : Nat) v d, ks[j]? = some v → kz[j]? = some d → R H' v d
  unfold ksk_rest
  refine wpAny_bind (wpAny_rule ?_)
  first
    | rw [List.forIn_toArray]
    | (rw [← Array.forIn_toList]; simp only [List.toList_toArray])
    | rw [← Array.forIn_toList]
  refine wpAny_bind (ksk_fold J its 0 _ ⟨H, [], #[], 0, fun _ _ z => z, hD0, hS0, IA, kDA, kSA, .nil, rfl, fun j v d hv => by simp at hv⟩ ?step ?done)
  case step =>
    rintro j u s' hx ⟨H', ks, kA, e, eH, nD, nS, I', gD, gS, vk, hkl, hR⟩
    rw [Nat.zero_add] at hkl ⊢
    have hj : j < its.length := (List.getElem?_eq_some_iff.mp hx).1
    obtain ⟨x, hxx⟩ : ∃ x, xs[j]? = some x := ⟨_, List.getElem?_eq_getElem (by omega)⟩
    obtain ⟨d, hd⟩ : ∃ d, kz[j]? = some d := ⟨_, List.getElem?_eq_getElem (by omega)⟩
    have ru : RelV x u := by
      have z := each_vals (kz := kz) rv hlen
      have hm : (u, (x, d)) ∈ its.zip (xs.zip kz) := List.mem_of_getElem? (i := j) (by rw [List.getElem?_zip_eq_some]; exact ⟨hx, by rw [List.getElem?_zip_eq_some]; exact ⟨hxx, hd⟩⟩)
      exact z.zip _ hm
    have Ip : Inv X ((D, seqObj "list" #[] e1) :: (S, seqObj "list" kA e) :: pins) σ H' s' := I'.pins_of fun p hp => by
      rcases List.mem_cons.mp hp with rfl | hp
      · obtain ⟨_, n1, n2, _⟩ := fD H' nD
        exact ⟨gD, nD, n1, n2, fun v z => by cases z⟩
      rcases List.mem_cons.mp hp with rfl | hp
      · obtain ⟨_, n1, n2, _⟩ := fS H' nS
        exact ⟨gS, nS, n1, n2, fun v z => by cases z⟩
      exact I'.pin p (List.mem_append_right _ hp)
    refine wpAny_bind (wpAny_attempt (wpAny_mono (ask_key F hr hb (Q := fun v H'' => Ext H' H'' ∧ R H'' v d) (G := fun z s'' => ∃ v H'', Inv X ((D, seqObj "list" #[] e1) :: (S, seqObj "list" kA e) :: pins) σ H'' s'' ∧ RelV v z ∧ Ext H' H'' ∧ R H'' v d) Ip ru (ask j x d H' eH hxx hd _ fun v H'' e2 r2 => ⟨e2, r2⟩) fun v z s'' H'' I2 rz2 ⟨e2, r2⟩ => ⟨v, H'', I2, rz2, e2, r2⟩) (fun z s'' he => ?_) fun _ _ hF => hF.elim))
    obtain ⟨v, H'', I2, rv2, e2, r2⟩ := he
    obtain ⟨gD2, nD2, _⟩ := I2.pin (D, seqObj "list" #[] e1) (by simp)
    obtain ⟨gS2, nS2, _⟩ := I2.pin (S, seqObj "list" kA e) (by simp)
    dsimp only at gD2 gS2 nD2 nS2 ⊢
    have hksz : kA.size ≤ sizeLine := by
      have hv : ks.length = kA.toList.length := Vals.length vk
      have hv2 : kA.toList.length = kA.size := Array.length_toList
      omega
    have sb := Heap.SameBut.update s''.heap S (Obj.mapSeq (·.push z))
    obtain ⟨c2, hc2⟩ : ∃ c2, (s''.heap.update S (Obj.mapSeq (·.push z))).get? S = some (seqObj "list" (kA.push z) c2) := ⟨_, get?_update_seq gS2 (·.push z)⟩
    refine wpAny_bind (listUpdate_at gS2 rfl ?_ hksz (by rw [Array.size_push]; exact Nat.succ_le_succ hksz))
    have I3 : Inv X pins σ H'' s'' := I2.pins_of fun p hp => I2.pin p (List.mem_append_right _ (List.mem_cons_of_mem _ (List.mem_cons_of_mem _ hp)))
    obtain ⟨_, f1, _, f3, f4, f5⟩ := fS H'' nS2
    have I4 := I3.turned (t' := s''.toks) (h' := s''.heap.update S (Obj.mapSeq (·.push z))) (fun b o hb e => (sb.2 b hb).trans e) nS2 f1 f3 f4 f5
    refine wpAny_pure ⟨rfl, H'', ks ++ [v], kA.push z, c2, fun b o e => e2 b o (eH b o e), nD2, nS2, I4, (sb.2 D (fun z => nDS z.symm)).trans gD2, hc2, ?_, by rw [List.length_append, hkl]; rfl, fun i y d' hy hd' => ?_⟩
    · rw [Array.toList_push]
      exact Vals.append vk (.cons rv2 .nil)
    · by_cases hi : i < ks.length
      · rw [List.getElem?_append_left hi] at hy
        exact mono _ _ _ _ e2 (hR i y d' hy hd')
      · rw [List.getElem?_append_right (by omega)] at hy
        have hi2 : i = j := by
          have := (List.getElem?_eq_some_iff.mp hy).1
          rw [List.length_singleton] at this
          omega
        subst hi2
        rw [show i - ks.length = 0 by omega] at hy
        cases hy
        rw [hd] at hd'
        cases hd'
        exact r2
  case done =>
    rintro s' ⟨H', ks, kA, e, eH, nD, nS, I', gD, gS, vk, hkl, hR⟩
    rw [Nat.zero_add] at hkl
    have hsz : kA.size = its.length := by
      have hv : ks.length = kA.toList.length := Vals.length vk
      have hv2 : kA.toList.length = kA.size := Array.length_toList
      omega
    refine wpAny_bind (listItems_at gS rfl ?_)
    obtain ⟨G, g1, g2⟩ := restrict s'.heap fun b => decide (b ≠ S)
    have kp : KeepsBut D G s'.heap := fun b o hb e => by
      by_cases hbS : b = S
      · rw [hbS, g2 S (decide_eq_false fun z => z rfl)] at e
        cases e
      · rw [← g1 b (decide_eq_true hbS)]
        exact e
    have ek : EachIs (fun v d => ∃ as, Reads s'.heap v d as) kA.toList kz := each_at (by rw [Array.length_toList]; omega) fun i u d hu hd => by
      obtain ⟨v, hv⟩ : ∃ v, ks[i]? = some v := ⟨_, List.getElem?_eq_getElem (by have := (List.getElem?_eq_some_iff.mp hd).1; omega)⟩
      exact Dp.reads I' d v u (toDp _ _ _ (hR i v d hv hd)) (by obtain ⟨u2, hu2, r2⟩ := Vals.get vk hv; rw [hu] at hu2; cases hu2; exact r2)
    refine keyH_end (κ := dataKind s'.heap kz) (h₁ := G) kp (g2 S (decide_eq_false fun z => z rfl)) gS gD nDS (SortsAt.data (s := s') ek hal hsk fun d hd => ?_) hsz hzl fun h' tk c k3 n3 => ⟨rfl, ?_⟩
    · have := hdp d hd
      have u1 : X.A.in1.in1.units ≤ X.A.units + 2 := by
        show X.A.units + 1 + 1 ≤ _
        omega
      omega
    · have ez := sortVals_each (κ := dataKind s'.heap kz) (rev := false) (ks := kA.toList) (fun p : V × PyData => keyToks p.2) (each_vals rv hlen) (by
        refine each_at (by rw [Array.length_toList, List.length_zip]; omega) fun i u p hu hp => ?_
        have hp2 : kz[i]? = some p.2 := (List.getElem?_zip_eq_some.mp hp).2
        have hm : (u, p.2) ∈ kA.toList.zip kz := List.mem_of_getElem? (i := i) (by rw [List.getElem?_zip_eq_some]; exact ⟨hu, hp2⟩)
        obtain ⟨as, rr⟩ := ek.zip _ hm
        exact dataKind_some hal (List.mem_of_getElem? hp2) rr)
      have rV := vals_each ez
      have hol : (((xs.zip kz).mergeSort (dataLe false fun p => p.2)).map (·.1)).length ≤ sizeLine := by
        rw [List.length_map, List.length_mergeSort, List.length_zip]
        omega
      refine ⟨.ref D, upd H' D (.lst (((xs.zip kz).mergeSort (dataLe false fun p => p.2)).map (·.1))), ?_, rfl, q _ D _ (fun b o e => ?_) hD0 upd_same (each_self _)⟩
      · have nDb : ∀ b u, H' b = some u → b ≠ D := fun b u e z => by rw [z, nD] at e; cases e
        have nSb : ∀ b u, H' b = some u → b ≠ S := fun b u e z => by rw [z, nS] at e; cases e
        have up : ∀ b u, H' b = some u → upd H' D (HO.lst (((xs.zip kz).mergeSort (dataLe false fun p => p.2)).map (·.1))) b = some u := fun b u e => by rw [upd_ne (nDb b u e)]; exact e
        have kk : ∀ b o, b ≠ D → b ≠ S → s'.heap.get? b = some o → h'.get? b = some o := fun b o hb hS e => k3 b o hb (by rw [g1 b (decide_eq_true hS)]; exact e)
        refine I'.step (g' := s'.gens) (d' := s'.drawn) (ch := [D, S]) (fun b hb => ?_) (fun b o _ _ hc e _ => kk b o (fun z => hc (by simp [z])) (fun z => hc (by simp [z])) e) (fun b o _ _ hc e _ => ⟨o.slots, kk b o (fun z => hc (by simp [z])) (fun z => hc (by simp [z])) e⟩)
          (fun b o hc _ n => by rw [upd_ne (fun z => hc (by simp [z]))]; exact n) (fun b o hc e => ⟨o, kk b o (fun z => hc (by simp [z])) (fun z => hc (by simp [z])) e⟩) (fun b _ e => up b _ e) (fun b _ _ e => up b _ e) (fun b ps e => ⟨#[], by rw [up b _ e]; simp⟩) (fun m hm => ?_) (fun b u e => ?_) I'.bare
        · simp only [List.mem_cons, List.not_mem_nil, or_false] at hb
          rcases hb with rfl | rfl
          · obtain ⟨_, n1, _, n3, n4, n5⟩ := fD H' nD
            exact ⟨n3, n1, n4, n5⟩
          · obtain ⟨_, n1, _, n3, n4, n5⟩ := fS H' nS
            exact ⟨n3, n1, n4, n5⟩
        · obtain ⟨_, n1, _⟩ := fD H' nD
          obtain ⟨_, n2, _⟩ := fS H' nS
          obtain ⟨o, es, ep, ho, r⟩ := hm
          exact ⟨o, es, ep, kk _ o n1.symm n2.symm ho, r⟩
        · by_cases hb : b = D
          · rw [hb, upd_same] at e
            cases e
            rw [hb]
            exact ⟨hol, _, c, rV, n3⟩
          · rw [upd_ne hb] at e
            refine (I'.hok b u e).stay (fun b2 v hc q2 => kk b2 v ?_ ?_ q2) (fun b2 q2 => up b2 _ q2) fun b2 _ q2 => up b2 _ q2
            · rcases hc with z | z
              · rw [z]; exact nDb b u e
              · exact nDb b2 _ z
            · rcases hc with z | z
              · rw [z]; exact nSb b u e
              · exact nSb b2 _ z
      · rw [upd_ne (ne_of_none e hD0)]
        exact eH b o e
end
end Gd

set_option Elab.async false
set_option linter.all false
set_option maxRecDepth 100000
set_option maxHeartbeats 8000000
/-! sorted(a list of own objects), by their own <, of any number. -/
namespace Gd
open PySem PySem.Spec PySem.W PySem.Calls PyProof.Rows L2
open PySem.Sem (wp)
/-- the numbers that stand in for the objects -/
def numsA (r : Nat → Int) (n : Nat) : Array Keyed := ((List.range n).map fun i => ((Value.int (r i) 0, Value.int (i : Int) 0) : Keyed)).toArray
theorem numsA_size (r : Nat → Int) (n : Nat) : (numsA r n).size = n := by simp [numsA]
theorem numsA_at {r : Nat → Int} {n i : Nat} {x : Keyed} (h : (numsA r n)[i]? = some x) : i < n ∧ x = (Value.int (r i) 0, Value.int (i : Int) 0) := by
  unfold numsA at h
  rw [List.getElem?_toArray, List.getElem?_map] at h
  obtain ⟨j, hj, rfl⟩ := Option.map_eq_some_iff.mp h
  have h1 := (List.getElem?_eq_some_iff.mp hj).1
  rw [List.length_range] at h1
  rw [List.getElem?_range h1] at hj
  cases hj
  exact ⟨h1, rfl⟩
/-- which object a pair stands for -/
def whichP (x : Keyed) : Nat := match x.2 with
  | .int i _ => i.toNat
  | _ => 0
section
variable {prog : Program} {w : World} {A : Around} {s : Shared} {vs : List Value} {r : Nat → Int}
/-- list.sort's runs over objects whose questions are answered by a rank -/
theorem runs_own {J : Shared → Prop} (h2 : 2 ≤ vs.length) (hj : J s)
    (ask : ∀ i j s', J s' → i < vs.length → j < vs.length → wpAny (model prog w) A (keyLt' oneType' (vs.getD i Value.none) (vs.getD j Value.none)) (fun c s'' => c = decide (r i < r j) ∧ J s'') (fun _ _ => False) s') :
    wpAny (model prog w) A (sortRuns'.run (SortSt.mk' oneType' (pairsOf vs) #[] 7 none)) (fun z s' => J s' ∧ failedOf z.2 = none ∧ ∃ ps : List Nat, ps.Perm (List.range vs.length) ∧ ps.Pairwise (fun i j => r i ≤ r j) ∧ (arrOf z.2).map (·.2) = (ps.map fun i => vs.getD i Value.none).toArray) (fun _ _ => False) s := by
  intro Γ p hΓ
  have hK : KeysOf intKind (numsA r vs.length) := by
    intro q hq
    obtain ⟨i, hi, rfl⟩ := List.getElem_of_mem hq
    obtain ⟨_, e⟩ := numsA_at (r := r) (n := vs.length) (i := i) (x := (numsA r vs.length).toList[i]) (by rw [← Array.getElem?_toList]; exact List.getElem?_eq_getElem hi)
    rw [e]
    exact ⟨r i, rfl⟩
  have fw := wpS_sortRunsSt (prog := prog) (w := w) (A := A) (E := fun _ _ => False) (s := s) (κ := intKind) (a₀ := numsA r vs.length) (st := SortSt.mk' oneType' (numsA r vs.length) #[] 7 none)
    (Q := fun _ st' => (arrOf st').Perm (numsA r vs.length) ∧ SortedToK intKind (arrOf st') (numsA r vs.length).size) intKind_oneLt hK ⟨Array.Perm.refl _, rfl, rfl⟩ rfl (Stable.refl _) (by rw [numsA_size]; exact h2) fun st' a1 _ a3 _ => ⟨a1, a3⟩
  have hx : WX prog w Γ sortRuns' (fun _ st' => (arrOf st').Perm (numsA r vs.length) ∧ SortedToK intKind (arrOf st') (numsA r vs.length).size) (SortSt.mk' oneType' (numsA r vs.length) #[] 7 none) :=
    ⟨p, s, Sem.wp_mono _ _ _ (fun a p' s' h => h.2) (fun _ _ _ z => z) p s (fw Γ p hΓ)⟩
  let ρ : Keyed → Keyed → Prop := fun x y => ∃ i, i < vs.length ∧ x = (Value.int (r i) 0, Value.int (i : Int) 0) ∧ y = (vs.getD i Value.none, vs.getD i Value.none)
  have hL : LtS prog w A (fun _ _ => False) Γ ρ J := by
    rintro x x' y y' ⟨i, hi, rfl, rfl⟩ ⟨j, hjl, rfl, rfl⟩
    exact Sim.lt hΓ rfl rfl (fun s' hs' => ask i j s' hs' hi hjl) fun _ _ z => z
  have hR : RS ρ (SortSt.mk' oneType' (numsA r vs.length) #[] 7 none) (SortSt.mk' oneType' (pairsOf vs) #[] 7 none) := by
    refine ⟨rfl, rfl, ?_, rfl, rfl, rfl, rfl⟩
    refine ⟨by show (numsA r vs.length).size = (pairsOf vs).size; rw [numsA_size, pairsOf_size], fun i x y hx hy => ?_⟩
    have hx : (numsA r vs.length)[i]? = some x := hx
    have hy : (pairsOf vs)[i]? = some y := hy
    obtain ⟨hi, rfl⟩ := numsA_at hx
    refine ⟨i, hi, rfl, ?_⟩
    rw [← Array.getElem?_toList, pairsOf_toList, List.getElem?_zip_eq_some] at hy
    obtain ⟨y1, y2⟩ := y
    have e1 : vs.getD i Value.none = y1 := by rw [List.getD_eq_getElem?_getD, hy.1]; rfl
    have e2 : vs.getD i Value.none = y2 := by rw [List.getD_eq_getElem?_getD, hy.2]; rfl
    exact Prod.ext e1.symm e2.symm
  have run := sim_sortRuns hL _ _ s hR hj _ hx
  refine wpAny_mono run (fun z s' q => ?_) (fun _ _ z => z) Γ p hΓ
  obtain ⟨hJ, _, st1, _, hRS, hp, hs⟩ := q
  refine ⟨hJ, hRS.f2, (arrOf st1).toList.map whichP, ?_, ?_, ?_⟩
  · have h1 := (Array.perm_iff_toList_perm.mp hp).map whichP
    have e : (numsA r vs.length).toList.map whichP = List.range vs.length := by
      unfold numsA
      rw [List.toList_toArray, List.map_map]
      refine (List.map_congr_left fun i _ => ?_).trans (List.map_id _)
      show Int.toNat (i : Int) = i
      exact Int.toNat_natCast i
    rwa [e] at h1
  · have hsz : (arrOf st1).size = (numsA r vs.length).size := hp.size_eq
    refine List.pairwise_iff_getElem.mpr fun i j hi hj hij => ?_
    rw [List.length_map, Array.length_toList] at hi hj
    rw [List.getElem_map, List.getElem_map, Array.getElem_toList, Array.getElem_toList]
    have hk : ∀ t (ht : t < (arrOf st1).size), KK intKind (arrOf st1) t = r (whichP (arrOf st1)[t]) := fun t ht => by
      have hm : (arrOf st1)[t] ∈ (numsA r vs.length).toList := (Array.perm_iff_toList_perm.mp hp).mem_iff.mp (by rw [Array.mem_toList_iff]; exact Array.getElem_mem ht)
      obtain ⟨u, hu, e⟩ := List.getElem_of_mem hm
      obtain ⟨_, e2⟩ := numsA_at (r := r) (n := vs.length) (i := u) (x := (numsA r vs.length).toList[u]) (by rw [← Array.getElem?_toList]; exact List.getElem?_eq_getElem hu)
      unfold KK
      rw [Array.getElem?_eq_getElem ht]
      dsimp only
      rw [← e, e2]
      show r u = r (Int.toNat (u : Int))
      rw [Int.toNat_natCast]
    have q := hs i j (Nat.le_of_lt hij) (by omega)
    rw [hk i hi, hk j hj] at q
    have q2 : decide (r (whichP (arrOf st1)[j]) < r (whichP (arrOf st1)[i])) = false := q
    have := of_decide_eq_false q2
    omega
  · apply Array.toList_inj.mp
    rw [Array.toList_map, List.toList_toArray]
    refine List.ext_getElem (by rw [List.length_map, List.length_map, List.length_map, Array.length_toList, Array.length_toList]; exact hRS.arr.1.symm) fun i h3 h4 => ?_
    rw [List.length_map, Array.length_toList] at h3
    have h5 : i < (arrOf st1).size := by rw [hRS.arr.1]; exact h3
    rw [List.getElem_map, List.getElem_map, List.getElem_map, Array.getElem_toList, Array.getElem_toList]
    obtain ⟨k, _, e1, e2⟩ := hRS.arr.2 i _ _ (Array.getElem?_eq_getElem h5) (Array.getElem?_eq_getElem h3)
    rw [e1, e2]
    show vs.getD k Value.none = vs.getD (Int.toNat (k : Int)) Value.none
    rw [Int.toNat_natCast]
theorem sort_own' {a : Addr} {n : Nat} {T : Value} {E : Value → Shared → Prop} {P : PySem.Fin → Shared → Prop} {J : Nat → Shared → Prop} (ho : s.heap.get? a = some (seqObj "list" vs.toArray n)) (h2 : 2 ≤ vs.length) (hz : vs.length ≤ sizeLine) (hT1 : (T != Value.type "tuple") = true) (hT2 : (T == T) = true)
    (start : ∀ e1 h', (∀ b o, b ≠ a → s.heap.get? b = some o → h'.get? b = some o) → h'.get? a = some (seqObj "list" #[] e1) → J e1 { s with heap := h' })
    (hat : ∀ e1 s', J e1 s' → s'.heap.get? a = some (seqObj "list" #[] e1)) (hT : ∀ e1 s', J e1 s' → ∀ v ∈ vs, Looks (model prog w) s'.heap (typeOf v) T)
    (ask : ∀ e1 i j s', J e1 s' → i < vs.length → j < vs.length → wpAny (model prog w) A (keyLt' oneType' (vs.getD i Value.none) (vs.getD j Value.none)) (fun c s'' => c = decide (r i < r j) ∧ J e1 s'') (fun _ _ => False) s')
    (fin : ∀ e1 (ps : List Nat) s', J e1 s' → ps.Perm (List.range vs.length) → ps.Pairwise (fun i j => r i ≤ r j) → ∀ h' c, (∀ b o, b ≠ a → s'.heap.get? b = some o → h'.get? b = some o) → h'.get? a = some (seqObj "list" (List.toArray (ps.map fun i => vs.getD i Value.none)) c) → P (.done (.ret .none)) { s' with heap := h' }) :
    wpAny (model prog w) A (Builtin.«list.sort» ⟨[.ref a], []⟩) P E s := by
  obtain ⟨e1, ho1⟩ : ∃ e1, (s.heap.update a (Obj.mapSeq fun _ => (#[] : Array Value))).get? a = some (seqObj "list" #[] e1) := ⟨_, get?_update_seq ho fun _ => #[]⟩
  have k1 : ∀ b o, b ≠ a → s.heap.get? b = some o → (((s.heap.update a (Obj.mapSeq fun _ => (#[] : Array Value))).push (seqObj "tuple" vs.toArray 0)).push (seqObj "list" #[] 0)).get? b = some o := fun b o hb e =>
    Heap.get?_push_of_some _ (Heap.get?_push_of_some _ ((Heap.get?_update_ne _ _ _ _ hb).trans e))
  have J0 := start e1 _ k1 (Heap.get?_push_of_some _ (Heap.get?_push_of_some _ ho1))
  rw [list_sort_plain]
  refine wpAny_bind (listItems_at ho rfl ?_)
  refine wpAny_bind (listUpdate_at ho rfl ?_ (by rw [List.size_toArray]; exact hz) (Nat.zero_le _))
  refine wpAny_bind (seqEpoch_at ho1 rfl ?_)
  refine wpAny_bind (wpAny_newTuple ?_ (by show vs.length ≤ _; exact hz))
  refine wpAny_bind (wpAny_newList ?_ (Nat.zero_le _))
  refine wpAny_holding ?_
  show wpAny (model prog w) A _ P E { s with heap := ((s.heap.update a (Obj.mapSeq fun _ => (#[] : Array Value))).push (seqObj "tuple" vs.toArray 0)).push (seqObj "list" #[] 0) }
  generalize ((s.heap.update a (Obj.mapSeq fun _ => (#[] : Array Value))).push (seqObj "tuple" vs.toArray 0)).push (seqObj "list" #[] 0) = h3 at J0 k1 ⊢
  dsimp only
  have hn2 : ¬ vs.toArray.size < 2 := by rw [List.size_toArray]; omega
  rw [if_neg hn2, if_neg hn2]
  refine wpAny_bind (kas_kind h2 (hT e1 _ J0) hT1 hT2 ?_)
  have run := runs_own (r := r) (J := J e1) (s := { s with heap := h3 }) h2 J0 (fun i j s' hj hi hj' => ask e1 i j s' hj hi hj')
  refine wpAny_bind (wpAny_mono run ?_ fun _ _ e => e.elim)
  rintro ⟨⟨⟩, st'⟩ s' ⟨hJ, hf, ps, hp, hs, hout⟩
  dsimp only at hf hout ⊢
  have na := hat e1 s' hJ
  have hsz : (List.toArray (ps.map fun i => vs.getD i Value.none)).size = vs.length := by rw [List.size_toArray, List.length_map, hp.length_eq, List.length_range]
  rw [hout]
  obtain ⟨c2, hc2⟩ : ∃ c2, (s'.heap.update a (Obj.mapSeq fun _ => List.toArray (ps.map fun i => vs.getD i Value.none))).get? a = some (seqObj "list" (List.toArray (ps.map fun i => vs.getD i Value.none)) c2) := ⟨_, get?_update_seq na fun _ => List.toArray (ps.map fun i => vs.getD i Value.none)⟩
  refine wpAny_bind (seqEpoch_at na rfl ?_)
  refine wpAny_bind (listUpdate_at na rfl ?_ (Nat.zero_le _) (Nat.le_trans (Nat.le_of_eq hsz) (Nat.le_succ_of_le hz)))
  rw [hf]
  simp only [bne_self_eq_false, Bool.false_eq_true, if_false]
  exact wpAny_pure (fin e1 ps s' hJ hp hs _ c2 (fun b o hb e => (Heap.get?_update_ne _ _ _ _ hb).trans e) hc2)
/-- sorted of a list of own objects -/
theorem sorted_own' {l : Addr} {T : Value} {E : Value → Shared → Prop} {Q : Value → Shared → Prop} {J : Addr → Nat → Shared → Prop} (hl : s.heap.IsList l vs.toArray) (h2 : 2 ≤ vs.length) (hz : vs.length ≤ sizeLine) (hT1 : (T != Value.type "tuple" && (T != Value.type "int" && T == T)) = true)
    (start : ∀ D e1 h', s.heap.objs.size ≤ D → (∀ b o, s.heap.get? b = some o → h'.get? b = some o) → h'.get? D = some (seqObj "list" #[] e1) → J D e1 { s with heap := h' })
    (hat : ∀ D e1 s', J D e1 s' → s'.heap.get? D = some (seqObj "list" #[] e1)) (hT : ∀ D e1 s', J D e1 s' → ∀ v ∈ vs, Looks (model prog w) s'.heap (typeOf v) T)
    (ask : ∀ D e1 i j s', J D e1 s' → i < vs.length → j < vs.length → wpAny (model prog w) A.in1.in1 (keyLt' oneType' (vs.getD i Value.none) (vs.getD j Value.none)) (fun c s'' => c = decide (r i < r j) ∧ J D e1 s'') (fun _ _ => False) s')
    (fin : ∀ D e1 (ps : List Nat) s', J D e1 s' → ps.Perm (List.range vs.length) → ps.Pairwise (fun i j => r i ≤ r j) → ∀ h' c, (∀ b o, b ≠ D → s'.heap.get? b = some o → h'.get? b = some o) → h'.get? D = some (seqObj "list" (List.toArray (ps.map fun i => vs.getD i Value.none)) c) → Q (.ref D) { s' with heap := h' }) :
    wpAny (model prog w) A (call (.builtin "sorted") [.ref l]) Q E s := by
  simp only [Bool.and_eq_true] at hT1
  refine Calls.call_function_entry kind_sorted plain_sorted entry_sorted (args_sorted1 _) ?_
  unfold Builtin.«sorted»
  refine wpAny_bind (m := checkCount "sorted" 1 1 _) (wpAny_pure ?_)
  refine wpAny_bind (collect_list hl ?_ hz)
  refine wpAny_bind (wpAny_newList ?_ hz)
  have hsz : ((s.heap.push (seqObj "list" #[] 0)).update s.heap.objs.size (Obj.mapSeq (· ++ vs.toArray))).objs.size = s.heap.objs.size + 1 := by
    rw [Heap.size_update, size_push']
  have hoL : (((s.heap.push (seqObj "list" #[] 0)).update s.heap.objs.size (Obj.mapSeq (· ++ vs.toArray))).push (seqObj "list" vs.toArray 0)).get? (s.heap.objs.size + 1) = some (seqObj "list" vs.toArray 0) := by
    rw [← hsz]
    exact Heap.get?_push_size _ rfl
  have keep : ∀ b o, s.heap.get? b = some o → (((s.heap.push (seqObj "list" #[] 0)).update s.heap.objs.size (Obj.mapSeq (· ++ vs.toArray))).push (seqObj "list" vs.toArray 0)).get? b = some o := fun b o q => by
    have hlt : b < s.heap.objs.size := Heap.lt_size q
    rw [Heap.get?_push_ne _ _ _ (by rw [hsz]; exact Nat.ne_of_lt (Nat.lt_succ_of_lt hlt)), Heap.get?_update_ne _ _ _ _ (Nat.ne_of_lt hlt), Heap.get?_push_ne _ _ _ (Nat.ne_of_lt hlt)]
    exact q
  show wpAny _ _ _ _ _ { s with heap := ((s.heap.push (seqObj "list" #[] 0)).update s.heap.objs.size (Obj.mapSeq (· ++ vs.toArray))).push (seqObj "list" vs.toArray 0) }
  rw [hsz]
  refine wpAny_bind (wpAny_holding (wpAny_call_entry slot_list_sort ⟨_, hoL, rfl⟩ entry_list_sort ?body (args_list_sort _)))
  case body =>
    refine sort_own' (J := J (s.heap.objs.size + 1)) (r := r) hoL h2 hz hT1.1 hT1.2.2 (fun e1 h' k1 k2 => start _ e1 h' (Nat.le_succ _) (fun b o q => k1 b o (Nat.ne_of_lt (Nat.lt_succ_of_lt (Heap.lt_size q))) (keep b o q)) k2)
      (fun e1 s' hj => hat _ e1 s' hj) (fun e1 s' hj => hT _ e1 s' hj) (fun e1 i j s' hj hi hj' => ask _ e1 i j s' hj hi hj') (fun e1 p s' hj hO hU h' c k1 k2 => ⟨_, rfl, wpAny_pure ⟨_, rfl, fin _ e1 p s' hj hO hU h' c k1 k2⟩⟩)
end
section
variable {X : Cx} {k : Nat} {f C : Addr} {fd : FuncData} {sp : Sp}
/-- sorted(xs), own objects whose own < follows a rank -/
def rSortedA (K : PySem.W.Frag) (C : Addr) (sp : Sp) : List V → Hp → VK → Prop := fun vs H Q => ∃ (a : Addr) (xs : List V) (rk : Nat → Int), vs = [V.ref a] ∧ SqL K H a xs ∧ (∀ x ∈ xs, ∃ p dx fs, x = V.ref p ∧ H p = some (.ins C dx fs)) ∧
  (∀ i j x y H', Ext H H' → xs[i]? = some x → xs[j]? = some y → ∀ Q' : VK, (∀ H'', Ext H' H'' → Q' (.bl (decide (rk i < rk j))) H'') → sp [x, y] H' Q' fun _ _ _ => False) ∧
  ∀ H' D (ps : List Nat), Ext H H' → H D = none → ps.Perm (List.range xs.length) → ps.Pairwise (fun i j => rk i ≤ rk j) → H' D = some (.lst (ps.map fun i => xs.getD i .non)) → Q (.ref D) H'
theorem cr_sortedA (hm : Meth X.K C "__lt__" f) (F : FnOk X.prog X.w X.K X.mg X.base CX0 k f fd ["self", "other"] sp) (hr : Room (k + 2) X.A) (hb : Binds X.K fd ["self", "other"] []) : CallR X (.builtin "sorted") (rSortedA X.K C sp) := by
  intro pins s σ H vs us Q I r h
  obtain ⟨a, xs, rk, rfl, hs, hx, hlt, q⟩ := h
  obtain ⟨its, rv, hl, hz⟩ := I.list hs
  rw [Vals.ref1 r]
  have hlen : xs.length = its.length := rv.length
  obtain ⟨hb1, hb2⟩ := refs_back rv fun x m => by
    obtain ⟨t, _, _, e, _⟩ := hx x m
    exact ⟨t, e⟩
  have at_ : ∀ i, i < its.length → ∃ p dx fs, its.getD i Value.none = .ref p ∧ xs[i]? = some (V.ref p) ∧ H p = some (.ins C dx fs) := fun i hi => by
    obtain ⟨p, ep⟩ := hb2 _ (List.getElem_mem hi)
    have e1 : xs[i]? = some (V.ref p) := by
      rw [hb1, List.getElem?_map, List.getElem?_eq_getElem hi, ep]
      rfl
    obtain ⟨p', dx, fs, e2, e3⟩ := hx _ (List.mem_of_getElem? e1)
    cases e2
    exact ⟨p, dx, fs, by rw [List.getD_eq_getElem?_getD, List.getElem?_eq_getElem hi]; exact ep, e1, e3⟩
  by_cases h2 : 2 ≤ its.length
  · refine sorted_own' (T := .ref C) (r := rk) (J := fun D e1 s' => ∃ H', Ext H H' ∧ H D = none ∧ H' D = some (.ext fun h => h.get? D = some (seqObj "list" #[] e1)) ∧ Inv X pins σ H' s') hl.isList h2 (by rw [← hlen]; exact hz) (by simp)
      (fun D e1 h' hD k1 k2 => ⟨_, Q0.Ext.new (I.hok.fresh hD), I.hok.fresh hD, upd_same, I.laid (t' := s.toks) k1 hD ⟨k2, ⟨_, k2⟩, fun _ _ e k => k _ e⟩⟩)
      (fun D e1 s' ⟨H', e, hn, hD, I'⟩ => (I'.hok D _ hD).1)
      (fun D e1 s' ⟨H', e, hn, hD, I'⟩ v hv => ?_)
      (fun D e1 i j s' ⟨H', e, hn, hD, I'⟩ hi hj => ?_)
      (fun D e1 ps s' ⟨H', e, hn, hD, I'⟩ hO hU h' c k1 k2 => ?_)
    · obtain ⟨i, hi, rfl⟩ := List.getElem_of_mem hv
      obtain ⟨p, dx, fs, e1, _, e3⟩ := at_ i hi
      rw [List.getD_eq_getElem?_getD, List.getElem?_eq_getElem hi] at e1
      have e1' : its[i] = Value.ref p := e1
      rw [e1']
      obtain ⟨od, J⟩ := seen I' (e _ _ e3)
      exact J.type
    · obtain ⟨p, dx, fs, e1, e2, e3⟩ := at_ i hi
      obtain ⟨p', dx', fs', f1, f2, f3⟩ := at_ j hj
      rw [e1, f1]
      refine ask_own hm F hr hb (Q := fun c H'' => c = decide (rk i < rk j) ∧ Ext H' H'') I' (e _ _ e3) (show RelV (V.ref p') (Value.ref p') from rfl) (hlt i j _ _ H' e e2 f2 _ fun H'' e' => ⟨_, rfl, rfl, e'⟩) ?_
      rintro c s'' H'' I'' ⟨rfl, e'⟩
      exact ⟨rfl, H'', Q0.Ext.trans e e', hn, e' _ _ hD, I''⟩
    · have hps : ∀ i ∈ ps, i < its.length := fun i hi => List.mem_range.mp ((List.Perm.mem_iff hO).mp hi)
      have eV : (ps.map fun i => its.getD i Value.none).map backV = ps.map fun i => xs.getD i .non := by
        rw [List.map_map]
        refine List.map_congr_left fun i hi => ?_
        obtain ⟨t, dx, fs, e1, e2, _⟩ := at_ i (hps i hi)
        show backV (its.getD i Value.none) = xs.getD i .non
        rw [e1, List.getD_eq_getElem?_getD, e2]
        rfl
      have hv : Vals (ps.map fun i => xs.getD i .non) (ps.map fun i => its.getD i Value.none) := by
        rw [← eV]
        refine vals_back fun u hu => ?_
        obtain ⟨i, hi, rfl⟩ := List.mem_map.mp hu
        obtain ⟨t, dx, fs, e1, _, _⟩ := at_ i (hps i hi)
        exact ⟨t, e1⟩
      have hpl : ps.length = its.length := by rw [List.Perm.length_eq hO, List.length_range]
      exact ⟨.ref D, upd H' D (.lst (ps.map fun i => xs.getD i .non)), I'.write (e := D) (t' := s'.toks) (by rw [hD]; trivial) (.inl rfl) (fun b u hb hu => k1 b u hb hu) ⟨_, k2⟩ ⟨by rw [List.length_map, hpl, ← hlen]; exact hz, _, c, hv, k2⟩, rfl, q _ D ps (fun b o z => by
        rw [upd_ne (ne_of_none z hn)]
        exact e b o z) hn (by rw [hlen]; exact hO) hU upd_same⟩
  · refine SrtO.sorted_ord SrtO.swo_int hl.isList (by rw [← rv.length]; exact hz) (fun h2' => absurd h2' h2) fun out h1 h3 => ?_
    have eo : out = its := by
      match its, h2, h3.perm with
      | [], _, pm => exact List.perm_nil.mp pm
      | [x], _, pm => exact List.perm_singleton.mp pm
      | _ :: _ :: _, h2, _ => exact absurd (by simp) h2
    subst eo
    obtain ⟨ep, he'⟩ := PyProof.Rows.sortedAll_at s.heap out out.toArray
    have hn := I.hok.fresh (a := s.heap.objs.size + 1) (Nat.le_succ _)
    refine ⟨.ref _, upd H (s.heap.objs.size + 1) (.lst xs), I.laid (t' := s.toks) (fun _ _ => PyProof.Rows.sortedAll_old) (Nat.le_succ _) ⟨hz, out, ep, rv, he'⟩, rfl, q _ _ (List.range xs.length) (Q0.Ext.new hn) hn (List.Perm.refl _) ?_ ?_⟩
    · refine List.pairwise_iff_getElem.mpr fun i j hi hj hij => ?_
      rw [List.length_range] at hi hj
      omega
    · rw [upd_same]
      congr 2
      refine List.ext_getElem (by rw [List.length_map, List.length_range]) fun i h4 h5 => ?_
      rw [List.getElem_map, List.getElem_range, List.getD_eq_getElem?_getD, List.getElem?_eq_getElem h4]
      rfl
end
end Gd

set_option Elab.async false
set_option linter.all false
set_option maxRecDepth 100000
set_option maxHeartbeats 4000000
/-! Kinds in their order: mathematics. -/
namespace Q0

open PySem PySem.Spec PyProof.Rows L2 Gd
open PySem.W (alike alikeAll)

local macro_rules | `(tactic| walk_at "rd1") => `(tactic| first | with_reducible refine g_ret ?_ | with_reducible refine g_retN ?_ | with_reducible refine g_seq ?_ | with_reducible refine g_next ?_ | with_reducible refine g_drop ?_ | with_reducible refine g_asg ?_ | with_reducible refine g_name ?_ | with_reducible refine g_ifs ?_ | with_reducible refine g_test ?_ | with_reducible refine g_tb ?_ | with_reducible refine g_and ?_ | with_reducible refine g_or ?_ | with_reducible refine g_not ?_ | with_reducible refine g_andV ?_ | with_reducible refine g_orV ?_ | with_reducible refine g_notV ?_ | with_reducible refine g_if ?_ | with_reducible refine g_op ?_ | with_reducible refine g_un ?_ | with_reducible refine g_cb ?_ | with_reducible refine g_nil ?_ | with_reducible refine g_cons ?_ | with_reducible refine g_call ?_ | with_reducible refine g_callS ?_ | with_reducible refine g_tup ?_ | with_reducible refine g_lst ?_ | with_reducible refine g_isN ?_ | with_reducible refine g_sl ?_ | with_reducible refine g_nopart ?_ | with_reducible refine g_part ?_ | with_reducible refine g_chain ?_ | with_reducible refine g_fld ?_ | with_reducible refine g_prop ?_ | with_reducible refine g_bm ?_ | with_reducible refine g_bm0 ?_ | with_reducible refine g_c ?_ | with_reducible refine g_sub ?_ | with_reducible refine g_int1 ?_ | with_reducible refine g_int2 ?_ | with_reducible refine g_yes ?_ | with_reducible refine g_sfld ?_ | with_reducible refine g_NT ?_ | with_reducible refine g_NF ?_ | with_reducible refine iteT ?_ | with_reducible refine iteF ?_ | ((with_reducible refine' g_aug ?hv ?_); (case hv => exact rfl)) | ((with_reducible refine' g_var ?hv ?_); (case hv => exact rfl)) | with_reducible refine g_I0 ?_ | with_reducible refine g_U ?_ | with_reducible refine g_eqI ?_ | with_reducible refine g_blV ?_ | with_reducible refine g_inV ?_)
local macro_rules | `(tactic| walk_at "rd") => `(tactic| repeat walk_at "rd1")

section
open PySem PySem.Spec PyProof.Rows L2 Gd
open PySem.W (alike alikeAll)
/-! ### what is topped does not come first -/
theorem pos_sum : ∀ {l : List Int}, (∀ x ∈ l, 1 ≤ x) → 0 ≤ l.sum
  | [], _ => by simp
  | x :: r, h => by
    have := pos_sum (l := r) fun y hy => h y (List.mem_cons_of_mem _ hy)
    have := h x List.mem_cons_self
    rw [List.sum_cons]
    omega
theorem top_lex : ∀ (a b : List Int), (∀ x ∈ b, 1 ≤ x) → (∀ x ∈ a, 1 ≤ x) → b.sum = a.sum → (∀ i : Nat, i + 1 < a.length → (b.take (i + 1)).sum ≤ (a.take (i + 1)).sum) → HT.lexLt (b.map fun x => -x) (a.map fun x => -x) = false
  | [], [], _, _, _, _ => rfl
  | [], y :: s, hb, _, hs, _ => by
    have := pos_sum (l := s) fun z hz => hb z (List.mem_cons_of_mem _ hz)
    have := hb y List.mem_cons_self
    rw [List.sum_cons, List.sum_nil] at hs
    omega
  | x :: r, [], _, ha, hs, _ => by
    have := pos_sum (l := r) fun z hz => ha z (List.mem_cons_of_mem _ hz)
    have := ha x List.mem_cons_self
    rw [List.sum_cons, List.sum_nil] at hs
    omega
  | x :: r, y :: s, hb, ha, hs, ht => by
    have hs' : ∀ z ∈ s, 1 ≤ z := fun z hz => hb z (List.mem_cons_of_mem _ hz)
    have hr' : ∀ z ∈ r, 1 ≤ z := fun z hz => ha z (List.mem_cons_of_mem _ hz)
    have s0 := pos_sum hs'
    have r0 := pos_sum hr'
    rw [List.sum_cons, List.sum_cons] at hs
    have hyx : y ≤ x := by
      cases r with
      | nil =>
        rw [List.sum_nil] at hs
        omega
      | cons z q =>
        have := ht 0 (by simp)
        simpa using this
    rw [List.map_cons, List.map_cons]
    by_cases e : y = x
    · subst e
      have ih := top_lex r s hs' hr' (by omega) fun i hi => by
        have := ht (i + 1) (by rw [List.length_cons]; omega)
        rw [List.take_succ_cons, List.take_succ_cons, List.sum_cons, List.sum_cons] at this
        omega
      unfold HT.lexLt
      simp [ih]
    · unfold HT.lexLt
      have h1 : ¬ (-y < -x) := by omega
      have h2 : ¬ (-y = -x) := by omega
      simp [h1, h2]
      try omega
theorem tops_first {a b : List Int} (ha : Fall a) (hb : Fall b) (hs : b.sum = a.sum) (ht : topM b a = true) : pairLtM b a = false := by
  unfold pairLtM pairLt
  rw [if_pos hs]
  refine top_lex a b hb.pos ha.pos hs fun i hi => ?_
  have := List.all_eq_true.mp ht i (List.mem_range.mpr (by omega))
  exact of_decide_eq_true this
/-! ### the order of all kinds -/
/-- strictly in order -/
def Strict (L : List (List Int)) : Prop := L.Pairwise fun a b => pairLtM a b = true ∧ pairLtM b a = false
theorem strict_rows {n : Nat} (hn : n ≤ 12) : Strict (rows n n) := rows_desc n (by omega)
theorem less_sum {a b : List Int} (h : a.sum < b.sum) : pairLtM a b = true ∧ pairLtM b a = false := by
  unfold pairLtM pairLt
  rw [if_neg (by omega), if_neg (by omega)]
  exact ⟨decide_eq_true h, decide_eq_false (by omega)⟩
theorem every_in : ∀ {n : Nat} {a : List Int}, n ≤ 13 → a ∈ everyM n → Fall a ∧ a.sum < (n : Int)
  | 0, _, _, h => by cases h
  | n + 1, a, hn, h => by
    rw [every_succ, List.mem_append] at h
    rcases h with h | h
    · obtain ⟨f, s⟩ := every_in (by omega) h
      exact ⟨f, by omega⟩
    · obtain ⟨f, s⟩ := rows_fall (by omega) h
      exact ⟨f, by omega⟩
theorem strict_every : ∀ {n : Nat}, n ≤ 13 → Strict (everyM n)
  | 0, _ => .nil
  | n + 1, hn => by
    unfold Strict
    rw [every_succ]
    refine List.pairwise_append.mpr ⟨strict_every (by omega), strict_rows (by omega), fun a ha b hb => ?_⟩
    obtain ⟨_, s1⟩ := every_in (by omega) ha
    obtain ⟨_, s2⟩ := rows_fall (by omega) hb
    exact less_sum (by omega)
theorem irr {a : List Int} (h : Fall a) : pairLtM a a = false := by
  have h0 := h.sum0
  have hs := h.sum
  exact rows_irr a.sum.toNat (by omega) a (fall_in h (by omega))
theorem strict_nodup {L : List (List Int)} (h : Strict L) : L.Nodup := h.imp fun {a b} q z => by
  rw [z] at q
  rw [q.1] at q
  cases q.2
theorem strict_lt {L : List (List Int)} (h : Strict L) (hf : ∀ a ∈ L, Fall a) {a b : List Int} (ha : a ∈ L) (hb : b ∈ L) : pairLtM a b = decide ((L.idxOf a : Int) < (L.idxOf b : Int)) := by
  have hu := List.idxOf_lt_length_of_mem ha
  have hv := List.idxOf_lt_length_of_mem hb
  have ea := List.getElem_idxOf hu
  have eb := List.getElem_idxOf hv
  have q := List.pairwise_iff_getElem.mp h
  rcases Nat.lt_trichotomy (L.idxOf a) (L.idxOf b) with c | c | c
  · have := (q _ _ hu hv c).1
    rw [ea, eb] at this
    rw [this, decide_eq_true (by omega)]
  · have e : a = b := by
      have := congrArg (fun i => L[i]?) c
      try dsimp only at this
      rw [List.getElem?_eq_getElem hu, List.getElem?_eq_getElem hv, ea, eb] at this
      exact Option.some.inj this
    subst e
    rw [irr (hf a ha), decide_eq_false (by omega)]
  · have := (q _ _ hv hu c).2
    rw [ea, eb] at this
    rw [this, decide_eq_false (by omega)]
/-- what is sorted by its place is the list -/
theorem sorted_is {L Z : List (List Int)} (hn : L.Nodup) (hp : Z.Perm L) (hs : Z.Pairwise fun a b => L.idxOf a ≤ L.idxOf b) : Z = L := by
  refine List.Perm.eq_of_pairwise (le := fun a b => L.idxOf a ≤ L.idxOf b) (fun a b ha hb h1 h2 => ?_) hs ?_ hp
  · have e : L.idxOf a = L.idxOf b := by omega
    have ea := List.getElem_idxOf (List.idxOf_lt_length_of_mem (hp.mem_iff.mp ha))
    have eb := List.getElem_idxOf (List.idxOf_lt_length_of_mem hb)
    have := congrArg (fun i => L[i]?) e
    try dsimp only at this
    rw [List.getElem?_eq_getElem (List.idxOf_lt_length_of_mem (hp.mem_iff.mp ha)), List.getElem?_eq_getElem (List.idxOf_lt_length_of_mem hb), ea, eb] at this
    exact Option.some.inj this
  · refine List.pairwise_iff_getElem.mpr fun i j hi hj hij => ?_
    rw [hn.idxOf_getElem i hi, hn.idxOf_getElem j hj]
    omega
theorem turned_perm {n : Nat} (hn : n ≤ 12) : ((rows n n).map turnM).Perm (rows n n) := by
  refine (List.perm_ext_iff_of_nodup ?_ (rows_nodup hn)).mpr fun r => ?_
  · refine List.pairwise_map.mpr ((rows_nodup hn).imp_of_mem fun {a b} ha hb ne e => ne ?_)
    rw [← turn_back (rows_fall hn ha).1, ← turn_back (rows_fall hn hb).1, e]
  · rw [List.mem_map]
    constructor
    · rintro ⟨x, hx, rfl⟩
      obtain ⟨f1, f2⟩ := rows_fall hn hx
      exact fall_in (turn_fall f1) (by rw [(turn_all f1).2.2, f2])
    · intro hr
      obtain ⟨f1, f2⟩ := rows_fall hn hr
      exact ⟨turnM r, fall_in (turn_fall f1) (by rw [(turn_all f1).2.2, f2]), turn_back f1⟩
theorem rows_ends : ∀ n, n < 13 → 0 < (rows n n).length ∧ ((rows n n).getD 0 []).length ≤ 1 ∧ ((rows n n).getD ((rows n n).length - 1) []).getD 0 0 ≤ 1 := by decide +kernel
theorem rows_head {n : Nat} (hn : n ≤ 12) : 0 < (rows n n).length ∧ ((rows n n).getD 0 []).length ≤ 1 ∧ ((rows n n).getD ((rows n n).length - 1) []).getD 0 0 ≤ 1 := rows_ends n (by omega)
/-! ### keys -/
def keyD (ns : List Int) : PyData := .tuple [.int ns.sum, .tuple (pdata (ns.map fun x => -x))]
theorem keyD_alike (a b : List Int) : alike (keyD a) (keyD b) = true := by
  have h : alikeAll (pdata (a.map fun x => -x)) (pdata (b.map fun x => -x)) = true := PySem.W.alike_ints _ _
  simp [keyD, alike, alikeAll, h]
theorem neg_desc : ∀ n, n < 13 → (rows n n).Pairwise (fun a b => ¬ ((b.map fun x => -x) < (a.map fun x => -x))) := by decide +kernel
theorem keyD_le {n : Nat} (hn : n ≤ 12) : (rows n n).Pairwise fun a b => PySem.W.dataLe false keyD a b = true := by
  refine (neg_desc n (by omega)).imp_of_mem fun {a b} ha hb h => ?_
  obtain ⟨_, sa⟩ := rows_fall hn ha
  obtain ⟨_, sb⟩ := rows_fall hn hb
  have h1 : alike (.tuple (pdata (b.map fun x => -x))) (.tuple (pdata (a.map fun x => -x))) = true := by
    have h : alikeAll (pdata (b.map fun x => -x)) (pdata (a.map fun x => -x)) = true := PySem.W.alike_ints _ _
    simpa [alike] using h
  have e : PySem.W.dataLt (keyD b) (keyD a) = false := by
    unfold keyD
    rw [PySem.W.dataLt_pair (by simp [alike]) h1]
    rw [if_pos (by simp [PyData.eqv, sa, sb])]
    have e2 : PySem.W.dataLt (.tuple (pdata (b.map fun x => -x))) (.tuple (pdata (a.map fun x => -x))) = false := by
      rw [PySem.W.dataLt_tuple]
      exact (PySem.W.dataLt_ints _ _).trans (decide_eq_false h)
    rw [e2]
    split <;> rfl
  rw [PySem.W.dataLe_eq]
  show (!PySem.W.dataLt (keyD b) (keyD a)) = true
  rw [e]
  rfl
/-! ### kinds within -/
theorem rowsAt_first {t g i : Nat} {r : List Int} (h : r ∈ rowsAt t g i) : r.getD 0 0 = ((g - i : Nat) : Int) := by
  unfold rowsAt at h
  split at h
  · obtain ⟨q, _, rfl⟩ := List.mem_map.mp h
    rfl
  · cases h
theorem within_one {ms : List Int} (hf : Fall ms) (i : Nat) (hi : i ≤ 12) : (rows i (ms.getD 0 0).toNat).filter (fun r => heldM r ms) = (rows i i).filter fun r => heldM r ms := by
  by_cases h0 : i = 0
  · subst h0
    rfl
  by_cases h1 : i ≤ (ms.getD 0 0).toNat
  · rw [rows_min h0 h1]
  have hlt : (ms.getD 0 0).toNat < i := by omega
  generalize hg : (ms.getD 0 0).toNat = g at *
  rw [rows_pos h0, rows_pos h0]
  have e : List.range i = List.range (i - g) ++ (List.range g).map (i - g + ·) := by
    rw [← List.range_add]
    congr 1
    omega
  rw [e, List.flatMap_append, List.filter_append]
  have e1 : ((List.range (i - g)).flatMap (rowsAt i i)).filter (fun r => heldM r ms) = [] := by
    refine List.filter_eq_nil_iff.mpr fun r hr hh => ?_
    obtain ⟨j, hj, hr⟩ := List.mem_flatMap.mp hr
    have hj := List.mem_range.mp hj
    have hF : Fall r := (rows_fall hi (by rw [rows_pos h0]; exact List.mem_flatMap.mpr ⟨j, List.mem_range.mpr (by omega), hr⟩)).1
    have := (held_iff hF hf).mp hh 0
    rw [rowsAt_first hr] at this
    omega
  rw [e1, List.nil_append, List.flatMap_map]
  congr 1
  refine flat_cong fun j hj => ?_
  have := List.mem_range.mp hj
  show rowsAt i g j = rowsAt i i (i - g + j)
  unfold rowsAt
  rw [show i - (i - g + j) = g - j by omega]
theorem within_all {ms : List Int} (hf : Fall ms) : ∀ n, n ≤ 13 → ((List.range n).flatMap fun i => rows i (ms.getD 0 0).toNat).filter (fun r => heldM r ms) = (everyM n).filter fun r => heldM r ms
  | 0, _ => rfl
  | n + 1, hn => by
    rw [every_succ, List.range_succ, List.flatMap_append, List.filter_append, List.filter_append, within_all hf n (by omega)]
    congr 1
    simp only [List.flatMap_cons, List.flatMap_nil, List.append_nil]
    exact within_one hf n (by omega)
end

/-! Comprehensions of two clauses. -/

section
open PySem PySem.Spec PyProof.Rows L2 Gd
/-- what two clauses ask, told of their turns -/
def Lc2G (J : It) (g : TG) (tt : TT) (wi1 : TI) (g1 : TG) (tt1 : TT) (te : TE) (vs vs1 : List Nat) (σ : L2.St) (H1 : Hp) (Q : VK) : Prop := ∀ D, H1 D = none → ∃ W : Nat → Nat → Hp → Prop, (∃ m, W 0 m (upd H1 D (.lst []))) ∧ ∀ i m H, W i m H →
  (J.stop i H ∧ Q (.ref D) H) ∨ (J.go i H ∧ ∃ Nx : Hp → Prop, (∀ H', Nx H' → ∃ m', m' < m ∧ W (i + 1) m' H') ∧ ∀ x H', J.yld i H x H' → g x (wipe σ vs) H' fun σ2 H2 => wipe σ2 vs = wipe σ vs ∧ tt σ2 H2 fun b H3 =>
    if b = true then wi1 σ2 H3 fun J1 H4 => ∃ W1 : Nat → Nat → Hp → Prop, (∃ m, W1 0 m H4) ∧ ∀ j k H, W1 j k H →
      (J1.stop j H ∧ Nx H) ∨ (J1.go j H ∧ ∃ Nx1 : Hp → Prop, (∀ H', Nx1 H' → ∃ k', k' < k ∧ W1 (j + 1) k' H') ∧ ∀ x H', J1.yld j H x H' → g1 x (wipe σ2 vs1) H' fun σ3 H5 => wipe σ3 vs1 = wipe σ2 vs1 ∧ tt1 σ3 H5 fun b H6 =>
        if b = true then te σ3 H6 fun y H7 => ∃ acc, H7 D = some (.lst acc) ∧ acc.length < sizeLine ∧ Nx1 (upd H7 D (.lst (acc ++ [y]))) else Nx1 H6)
    else Nx H3)
theorem g_lc2 {wi wi1 : TI} {g g1 : TG} {tt tt1 : TT} {te : TE} {vs vs1 : List Nat} {σ : L2.St} {H : Hp} {Q : VK} (k : wi σ H fun J H1 => Lc2G J g tt wi1 g1 tt1 te vs vs1 σ H1 Q) : tLc2 wi g tt wi1 g1 tt1 te vs vs1 σ H Q := k

/-- what is no list stays -/
def KeepsN (H H' : Hp) : Prop := ∀ b o, (∀ xs, o ≠ .lst xs) → H b = some o → H' b = some o
/-- a list walked, in each turn a range of one length: results that stand in a relation to both turns -/
theorem lc2LR {K : PySem.W.Frag} {σ : L2.St} {H1 : Hp} {Q : VK} {vs vs1 : List Nat} {i1 i2 : Nat} {a : Addr} {xs : List V} {n : Nat} {wi1 : TI} {te : TE} (hs : SqL K H1 a xs) (sz : xs.length * n < sizeLine) (R : Nat → Nat → V → Hp → Prop) (mono : ∀ i j y H H', KeepsN H H' → R i j y H → R i j y H')
    (h1 : ∀ v, wipe ((wipe σ vs).set i1 (some v)) vs = wipe σ vs)
    (h2 : ∀ v u, wipe ((wipe ((wipe σ vs).set i1 (some v)) vs1).set i2 (some u)) vs1 = wipe ((wipe σ vs).set i1 (some v)) vs1)
    (hw : ∀ (i : Nat) x H', xs[i]? = some x → Ext H1 H' → ∀ R : It → Hp → Prop, R (Itr 0 n) H' → wi1 ((wipe σ vs).set i1 (some x)) H' R)
    (body : ∀ (i j : Nat) x H', xs[i]? = some x → j < n → Ext H1 H' → ∀ Qe : VK, (∀ y H3, Ext H' H3 → R i j y H3 → Qe y H3) → te ((wipe ((wipe σ vs).set i1 (some x)) vs1).set i2 (some (.int (j : Int)))) H' Qe)
    (k : ∀ H' D ys, Ext H1 H' → H1 D = none → H' D = some (.lst ys) → ys.length = xs.length * n → (∀ i j y, j < n → ys[i * n + j]? = some y → R i j y H') → Q (.ref D) H') :
    ∃ a', V.ref a = .ref a' ∧ (∃ xs, SqL K H1 a' xs) ∧ Lc2G (Itl K a') (gName i1) tYes wi1 (gName i2) tYes te vs vs1 σ H1 Q := by
  refine ⟨a, rfl, ⟨_, hs⟩, ?_⟩
  unfold Lc2G
  intro D hD
  have put : ∀ {H : Hp} {zs : List V}, Ext H1 H → Ext H1 (upd H D (.lst zs)) := fun {H zs} e b o q => by
    rw [upd_ne (ne_of_none q hD)]
    exact e b o q
  have kup : ∀ {H : Hp} {ys zs : List V}, H D = some (.lst ys) → KeepsN H (upd H D (.lst zs)) := fun {H ys zs} h b o no q => by
    rw [upd_ne (fun z => by rw [z, h] at q; cases q; exact no _ rfl)]
    exact q
  have kE : ∀ {H H' : Hp}, Ext H H' → KeepsN H H' := fun e b o _ q => e b o q
  refine ⟨fun i m H => m = xs.length - i ∧ i ≤ xs.length ∧ Ext H1 H ∧ ∃ ys, H D = some (.lst ys) ∧ ys.length = i * n ∧ ∀ i' j y, j < n → ys[i' * n + j]? = some y → R i' j y H, ⟨xs.length, rfl, Nat.zero_le _, put fun _ _ z => z, [], upd_same, by simp, fun i' j y hj q => by cases q⟩, fun i m H hW => ?_⟩
  obtain ⟨rfl, hi, e, ys, hd, hl, hR⟩ := hW
  by_cases hin : i < xs.length
  · have hx : xs[i]? = some xs[i] := List.getElem?_eq_getElem hin
    refine .inr ⟨⟨xs, xs[i], sqL_ext e hs, hx⟩, fun H' => Ext H1 H' ∧ ∃ ys, H' D = some (.lst ys) ∧ ys.length = (i + 1) * n ∧ ∀ i' j y, j < n → ys[i' * n + j]? = some y → R i' j y H', fun H' q => ⟨xs.length - (i + 1), by omega, rfl, by omega, q.1, q.2⟩, fun x H' hy => ?_⟩
    obtain ⟨eH, hy⟩ := hy
    subst eH
    have ex : x = xs[i] := by
      have := hy xs (sqL_ext e hs)
      rw [hx] at this
      exact (Option.some.inj this).symm
    subst ex
    refine ⟨h1 _, g_yes (iteT ?_)⟩
    refine hw i _ _ hx e _ ?_
    refine ⟨fun j k' H' => k' = n - j ∧ j ≤ n ∧ Ext H1 H' ∧ ∃ zs, H' D = some (.lst zs) ∧ zs.length = i * n + j ∧ ∀ i' j' y, j' < n → zs[i' * n + j']? = some y → R i' j' y H', ⟨n, rfl, Nat.zero_le _, e, ys, hd, by omega, hR⟩, fun j k' H2 hW1 => ?_⟩
    obtain ⟨rfl, hj, e2, zs, hd2, hl2, hR2⟩ := hW1
    by_cases hjn : j < n
    · refine .inr ⟨hjn, fun H' => Ext H1 H' ∧ ∃ zs, H' D = some (.lst zs) ∧ zs.length = i * n + (j + 1) ∧ ∀ i' j' y, j' < n → zs[i' * n + j']? = some y → R i' j' y H', fun H' q => ⟨n - (j + 1), by omega, rfl, by omega, q.1, q.2⟩, fun x H' hy => ?_⟩
      obtain ⟨rfl, rfl⟩ := hy
      refine ⟨h2 _ _, g_yes (iteT ?_)⟩
      rw [Int.zero_add]
      refine body i j _ _ hx hjn e2 _ fun y H3 e3 hr => ?_
      have hsz : i * n + (j + 1) ≤ xs.length * n := by
        have : i * n + n ≤ xs.length * n := by
          rw [← Nat.succ_mul]
          exact Nat.mul_le_mul_right n hin
        omega
      refine ⟨zs, e3 _ _ hd2, by omega, put (Ext.trans e2 e3), zs ++ [y], upd_same, by rw [List.length_append, List.length_singleton]; omega, fun i' j' y' hj' q => ?_⟩
      have k3 := kup (zs := zs ++ [y]) (e3 _ _ hd2)
      by_cases hlt : i' * n + j' < zs.length
      · rw [List.getElem?_append_left hlt] at q
        exact mono _ _ _ _ _ k3 (mono _ _ _ _ _ (kE e3) (hR2 i' j' y' hj' q))
      · rw [List.getElem?_append_right (by omega)] at q
        have h0 : i' * n + j' - zs.length = 0 := by
          by_cases z : i' * n + j' - zs.length = 0
          · exact z
          · rw [List.getElem?_eq_none (by rw [List.length_singleton]; omega)] at q
            cases q
        rw [h0] at q
        cases q
        have hij : i' * n + j' = i * n + j := by omega
        have ei : i' = i := by
          have a1 : (i' * n + j') / n = i' := by rw [Nat.mul_comm, Nat.mul_add_div (by omega), Nat.div_eq_of_lt hj']; omega
          have a2 : (i * n + j) / n = i := by rw [Nat.mul_comm, Nat.mul_add_div (by omega), Nat.div_eq_of_lt hjn]; omega
          rw [← a1, hij, a2]
        subst ei
        have ej : j' = j := by omega
        subst ej
        exact mono _ _ _ _ _ k3 hr
    · refine .inl ⟨Nat.le_of_not_lt hjn, e2, zs, hd2, ?_, hR2⟩
      rw [hl2, Nat.succ_mul]
      omega
  · have ei : i = xs.length := by omega
    subst ei
    exact .inl ⟨⟨xs, sqL_ext e hs, Nat.le_refl _⟩, k H D ys e hD hd hl hR⟩
end

/-! Two clauses: numbers, and for each a list that is made and told item by item. -/

section
open PySem PySem.Spec PyProof.Rows L2 Gd
theorem fmap_succ {β : Type} (L : Nat → List β) (n : Nat) : (List.range (n + 1)).flatMap L = (List.range n).flatMap L ++ L n := by
  rw [List.range_succ, List.flatMap_append]
  simp
/-- [te for i in range(n) for y in (a list made in the turn)]: all results, told by what they stand for -/
theorem lc2RL {K : PySem.W.Frag} {β : Type} {σ : L2.St} {H1 : Hp} {Q : VK} {vs vs1 : List Nat} {i1 i2 : Nat} {n : Nat} {wi1 : TI} {te : TE} (L : Nat → List β) (sz : ((List.range n).flatMap L).length < sizeLine) (R : Hp → V → β → Prop) (mono : ∀ H H' y b, KeepsN H H' → R H y b → R H' y b)
    (h1 : ∀ v, wipe ((wipe σ vs).set i1 (some v)) vs = wipe σ vs)
    (h2 : ∀ v u, wipe ((wipe ((wipe σ vs).set i1 (some v)) vs1).set i2 (some u)) vs1 = wipe ((wipe σ vs).set i1 (some v)) vs1)
    (hw : ∀ (i : Nat) H', i < n → Ext H1 H' → ∀ G : It → Hp → Prop, (∀ a ys H2, Ext H' H2 → H' a = none → H2 a = some (.lst ys) → Paired (R H2) ys (L i) → G (Itl K a) H2) → wi1 ((wipe σ vs).set i1 (some (.int (i : Int)))) H' G)
    (body : ∀ (i : Nat) x y H', i < n → y ∈ L i → R H' x y → Ext H1 H' → ∀ Qe : VK, (∀ v H3, Ext H' H3 → R H3 v y → Qe v H3) → te ((wipe ((wipe σ vs).set i1 (some (.int (i : Int)))) vs1).set i2 (some x)) H' Qe)
    (k : ∀ H' D ys, Ext H1 H' → H1 D = none → H' D = some (.lst ys) → Paired (R H') ys ((List.range n).flatMap L) → Q (.ref D) H') :
    Lc2G (Itr 0 n) (gName i1) tYes wi1 (gName i2) tYes te vs vs1 σ H1 Q := by
  unfold Lc2G
  intro D hD
  have put : ∀ {H : Hp} {zs : List V}, Ext H1 H → Ext H1 (upd H D (.lst zs)) := fun {H zs} e b o q => by
    rw [upd_ne (ne_of_none q hD)]
    exact e b o q
  have kup : ∀ {H : Hp} {ys zs : List V}, H D = some (.lst ys) → KeepsN H (upd H D (.lst zs)) := fun {H ys zs} h b o no q => by
    rw [upd_ne (fun z => by rw [z, h] at q; cases q; exact no _ rfl)]
    exact q
  have kE : ∀ {H H' : Hp}, Ext H H' → KeepsN H H' := fun e b o _ q => e b o q
  have mE : ∀ {H H' : Hp} {ys : List V} {bs : List β}, KeepsN H H' → Paired (R H) ys bs → Paired (R H') ys bs := fun e h => Paired.mapP h fun _ _ z => mono _ _ _ _ e z
  have pre : ∀ i, i ≤ n → ((List.range i).flatMap L).length ≤ ((List.range n).flatMap L).length := fun i hi => by
    have e : List.range n = List.range i ++ (List.range (n - i)).map (i + ·) := by
      rw [← List.range_add]
      congr 1
      omega
    rw [e, List.flatMap_append, List.length_append]
    omega
  refine ⟨fun i m H => m = n - i ∧ i ≤ n ∧ Ext H1 H ∧ ∃ ys, H D = some (.lst ys) ∧ Paired (R H) ys ((List.range i).flatMap L), ⟨n, rfl, Nat.zero_le _, put fun _ _ z => z, [], upd_same, .nil⟩, fun i m H hW => ?_⟩
  obtain ⟨rfl, hi, e, ys, hd, hR⟩ := hW
  by_cases hin : i < n
  · refine .inr ⟨hin, fun H' => Ext H1 H' ∧ ∃ ys, H' D = some (.lst ys) ∧ Paired (R H') ys ((List.range (i + 1)).flatMap L), fun H' q => ⟨n - (i + 1), by omega, rfl, by omega, q.1, q.2⟩, fun x H' hy => ?_⟩
    obtain ⟨rfl, rfl⟩ := hy
    refine ⟨h1 _, g_yes (iteT ?_)⟩
    rw [Int.zero_add]
    refine hw i _ hin e _ fun a zs H2 e2 na hs hp => ?_
    have e12 : Ext H1 H2 := fun b o q => e2 b o (e b o q)
    have hzl := pair_len hp
    have hal := pre (i + 1) (by omega)
    rw [fmap_succ, List.length_append] at hal
    have naD : a ≠ D := fun z => by rw [z, hd] at na; cases na
    refine ⟨fun j k' H' => k' = zs.length - j ∧ j ≤ zs.length ∧ Ext H1 H' ∧ KeepsN H2 H' ∧ H' a = some (.lst zs) ∧ ∃ ws, H' D = some (.lst ws) ∧ Paired (R H') ws ((List.range i).flatMap L ++ (L i).take j), ⟨zs.length, rfl, Nat.zero_le _, e12, fun _ _ _ z => z, hs, ys, e2 _ _ hd, ?_⟩, fun j k' H3 hW1 => ?_⟩
    · rw [List.take_zero, List.append_nil]
      exact mE (kE e2) hR
    obtain ⟨rfl, hj, e3, k3, hs3, ws, hd3, hR3⟩ := hW1
    by_cases hjn : j < zs.length
    · have hx : zs[j]? = some zs[j] := List.getElem?_eq_getElem hjn
      obtain ⟨y, hy, hRy⟩ := pair_at hp j _ hx
      have hwl := pair_len hR3
      have htk : ((L i).take j).length = j := by rw [List.length_take]; omega
      rw [List.length_append, htk] at hwl
      refine .inr ⟨⟨zs, zs[j], SqL.of hs3, hx⟩, fun H' => Ext H1 H' ∧ KeepsN H2 H' ∧ H' a = some (.lst zs) ∧ ∃ ws, H' D = some (.lst ws) ∧ Paired (R H') ws ((List.range i).flatMap L ++ (L i).take (j + 1)), fun H' q => ⟨zs.length - (j + 1), by omega, rfl, by omega, q.1, q.2⟩, fun x H' hyl => ?_⟩
      obtain ⟨eH, hyl⟩ := hyl
      subst eH
      have ex : x = zs[j] := by
        have := hyl zs (SqL.of hs3)
        rw [hx] at this
        exact (Option.some.inj this).symm
      subst ex
      refine ⟨h2 _ _, g_yes (iteT ?_)⟩
      refine body i _ y _ hin (List.mem_of_getElem? hy) (mono _ _ _ _ k3 hRy) e3 _ fun v H4 e4 hv => ?_
      have k4 := kup (zs := ws ++ [v]) (e4 _ _ hd3)
      refine ⟨ws, e4 _ _ hd3, by omega, put (Ext.trans e3 e4), fun b o no q => k4 b o no (e4 b o (k3 b o no q)), ?_, ws ++ [v], upd_same, ?_⟩
      · rw [upd_ne naD]
        exact e4 _ _ hs3
      · rw [List.take_add_one, hy, ← List.append_assoc]
        exact pair_append (mE k4 (mE (kE e4) hR3)) (.cons (mono _ _ _ _ k4 hv) .nil)
    · refine .inl ⟨⟨zs, SqL.of hs3, by omega⟩, e3, ws, hd3, ?_⟩
      rw [fmap_succ]
      rw [List.take_of_length_le (by omega)] at hR3
      exact hR3
  · have ei : i = n := by omega
    subst ei
    exact .inl ⟨Nat.le_refl _, k H D ys e hD hd hR⟩
end

/-! All kinds of a size, all kinds within one. -/

section
open PySem PySem.Spec PyProof.Rows L2 Gd
section
variable {P : Program} {w : World} {K : PySem.W.Frag} {mg : Str → Option Value} {base : Heap} {f C t0 : Addr} {fd : FuncData}
abbrev sKindsOf : Stmt := top 32
theorem scKindsOf : FnScope ["size", "row"] ["size"] (defScope sKindsOf) := ⟨rfl, rfl, rfl, by decide +kernel, rfl, by decide +kernel, by decide +kernel⟩
def spKindsOf (K : PySem.W.Frag) (C : Addr) : Sp := fun vs H Q _ => ∃ n : Nat, vs = [.int (n : Int)] ∧ n ≤ 12 ∧ ∀ H' a ys, Ext H H' → TupX K H' a ys → KOs K C H' ys (rows n n) → Q (.ref a) H'
theorem ok_kindsOf (F : Fun K "kinds_of" "kinds_of" sKindsOf f fd) (T : Txt K mg) (Cl : KC K mg C) (Rw : Def1 P w K mg base CX0 4 "require_within" ["value", "low", "high"] (spReqWi K)) (Fr : Def1 P w K mg base CX0 14 "falling_rows" ["total", "greatest"] (spFR K 13))
    (I : Ini1 P w K mg base CX0 5 C t0 ["self", "numbers"] (spInit K C)) : FnOk P w K mg base CX0 15 f fd ["size"] (spKindsOf K C) := by
  obtain ⟨tM, gM⟩ := Cl.most
  refine F.ok scKindsOf (fun vs H Q E h => ?_) (fun cdv A outer s H vs Q E hr h => ?_)
  · obtain ⟨n, rfl, _⟩ := h
    rfl
  · obtain ⟨n, rfl, hn, k⟩ := h
    refine ⟨_, pss_cons (ps_expr (pe_def Rw hr (by decide) (by rfl) (pa_cons (pv 0) (pa_cons pe_int (pa_cons (pe_glob (v := .int 12) (by rfl) gM ⟨_, rfl⟩) pa_nil)))))
      (pss_one (ps_ret (pe_callTy call_tupX (by rfl) T.tuple (by decide +kernel) (pa_cons (pe_lc (own := [("row", 1)]) (g := gName 1) (tt := tYes) rfl scKindsOf.nd (pi_list (pe_def Fr hr (by decide) (by rfl) (pa_cons (pv 0) (pa_cons (pv 0) pa_nil)))) (blkOk_by (N := ["size", "row"]) (sc := defScope sKindsOf) (by decide +kernel)) (fun _ _ _ _ _ => pg_name (i := 1) scKindsOf.nd rfl (Or.inl rfl)) (fun _ _ _ _ _ => pts_nil) (fun _ _ _ _ _ => by exact (pe_mk1 I pass0 hr (by decide) (by rfl) Cl.g (pa_cons (pv 1) pa_nil)))) pa_nil)))), ?_⟩
    try dsimp only [cx_nox, cx_K]
    walk_at "rd"
    refine ⟨n, 0, 12, rfl, by decide, by decide, by omega, by omega, ?_⟩
    walk_at "rd"
    refine g_lc (g_ilist ?_)
    walk_at "rd"
    refine ⟨n, n, rfl, by omega, hn, hn, fun H1 Fa fs e1 _ hF hfs => ?_⟩
    walk_at "rd"
    have hl := pair_len hfs
    refine lcPL (SqL.of hF) hl (by rw [hl]; exact rows_few hn) [] (fun _ => true) (fun r => r) (KO K C) (fun _ _ _ _ e r => r.keeps e) (fun i x r H2 hx hr2 e2 Qe Qn he hn2 => ?_) (fun H2 D ys e2 hD hd hys => ?_)
    · obtain ⟨r', hr', b, rfl, hb⟩ := pair_at hfs i x hx
      obtain rfl : r' = r := Option.some.inj (hr'.symm.trans hr2)
      have hFr := (rows_fall hn (List.mem_of_getElem? hr')).1
      refine ⟨rfl, ?_⟩
      walk_at "rd"
      refine g_make ?_
      walk_at "rd"
      exact g_mk2 (hb.ext e2) hFr fun H5 q n2 t2 m2 e5 hq => he _ H5 e5 rfl ⟨q, n2, t2, m2, rfl, hq⟩
    · rw [List.filter_eq_self.mpr (fun _ _ => rfl), List.map_id'] at hys
      walk_at "rd"
      refine ⟨D, _, rfl, .inl ⟨SqL.of hd, fun l o hl ho => ?_⟩⟩
      have el := Ext.new (o := HO.frz o (.tup ys)) hl
      exact k _ _ ys (Ext.trans e1 (Ext.trans e2 el)) (TupX.new ho) (kos_ext el hys)
theorem rows_allG : ((List.range 13).all fun t => (List.range 13).all fun g => (rows t g).all fallB) = true := by decide +kernel
theorem rows_fallG {t g : Nat} (ht : t ≤ 12) (hg : g ≤ 12) {r : List Int} (h : r ∈ rows t g) : Fall r := by
  have := rows_allG
  simp only [List.all_eq_true, List.mem_range] at this
  exact fall_of (this t (by omega) g (by omega) r h)
theorem rows_flat_len {g : Nat} (hg : g ≤ 12) : ∀ {n : Nat}, n ≤ 13 → ((List.range n).flatMap fun i => rows i g).length ≤ 77 * 13
  := fun {n} hn => by
    have h : ∀ n, n ≤ 13 → ((List.range n).flatMap fun i => rows i g).length ≤ 77 * n := fun n => by
      induction n with
      | zero => intro _; exact Nat.zero_le _
      | succ n ih =>
        intro h
        rw [fmap_succ, List.length_append]
        have := rows_len n (by omega) g hg
        have := ih (by omega)
        omega
    have := h n hn
    omega
abbrev sKindsWi : Stmt := top 33
theorem scKindsWi : FnScope ["kind", "rows", "size", "row"] ["kind"] (defScope sKindsWi) := ⟨rfl, rfl, rfl, by decide +kernel, rfl, by decide +kernel, by decide +kernel⟩
/-- the kinds that one holds, in their order -/
def withinM (ns : List Int) : List (List Int) := (everyM (ns.sum.toNat + 1)).filter fun r => heldM r ns
def spKindsWi (K : PySem.W.Frag) (C : Addr) : Sp := fun vs H Q _ => ∃ (p n t m : Addr) (ns : List Int), vs = [.ref p] ∧ KindAt K C H p n t m ns ∧ ∀ H' a ys, Ext H H' → TupX K H' a ys → KOs K C H' ys (withinM ns) → Q (.ref a) H'
theorem ok_kindsWi (F : Fun K "kinds_within" "kinds_within" sKindsWi f fd) (T : Txt K mg) (Cl : KC K mg C) (Rk : Def1 P w K mg base CX0 1 "require_kind" ["value"] (spReqKind K C)) (Fr : Def1 P w K mg base CX0 14 "falling_rows" ["total", "greatest"] (spFR K 13)) (Hd : Def1 P w K mg base CX0 1 "is_held" ["row", "other"] (spHeld K))
    (Pn : Pro1 P w K mg base 1 C "numbers" (spGet K C fun n _ => .ref n)) (Ps : Pro1 P w K mg base 1 C "size" (spGet K C fun _ ns => .int ns.sum)) (Ph : Pro1 P w K mg base 2 C "height" (spGet K C fun _ ns => .int (ns.getD 0 0)))
    (I : Ini1 P w K mg base CX0 5 C t0 ["self", "numbers"] (spInit K C)) : FnOk P w K mg base CX0 15 f fd ["kind"] (spKindsWi K C) := by
  refine F.ok scKindsWi (fun vs H Q E h => ?_) (fun cdv A outer s H vs Q E hr h => ?_)
  · obtain ⟨p, n, t, m, ns, rfl, _⟩ := h
    rfl
  · obtain ⟨p, n, t, m, ns, rfl, hp, k⟩ := h
    refine ⟨_, pss_cons (ps_expr (pe_def Rk hr (by decide) (by rfl) (pa_cons (pv 0) pa_nil)))
      (pss_cons (ps_setLc2 (i := 1) (own := [("size", 2), ("row", 3)]) (vs1 := [3]) (g := gName 2) (tt := tYes) (g1 := gName 3) (tt1 := tYes) (wi1 := iList K (tCall (spFR K 13) [] X0 (tCons (tVar 2) (tCons (tProp C (spGet K C fun _ ns => .int (ns.getD 0 0)) [] X0 (tVar 0)) tNil)))) (te := tVar 3) rfl scKindsWi.nd rfl rfl (sw_true rfl rfl rfl (by decide +kernel)) (pi_range1 (by rfl) T.range (pa_cons (pe_op op_add (pe_pro1 Cl.cl Ps hr (by decide) (pv 0)) pe_int) pa_nil)) (blkOk_by (N := ["kind", "rows", "size", "row"]) (sc := defScope sKindsWi) (by decide +kernel)) (by decide) (fun _ _ _ _ _ => pg_name (i := 2) scKindsWi.nd rfl (Or.inl rfl)) (fun _ _ _ _ _ => pts_nil) (fun _ _ _ _ _ => by exact (pi_list (pe_def Fr hr (by decide) (by rfl) (pa_cons (pv 2) (pa_cons (pe_pro1 Cl.cl Ph hr (by decide) (pv 0)) pa_nil))))) (fun _ _ _ _ _ => pg_name (i := 3) scKindsWi.nd rfl (Or.inl rfl)) (fun _ _ _ _ _ => pts_nil) (fun _ _ _ _ _ => by exact (pv 3)))
      (pss_one (ps_ret (pe_callTy call_tupX (by rfl) T.tuple (by decide +kernel) (pa_cons (pe_lc (own := [("row", 3)]) (g := gName 3) rfl scKindsWi.nd (pi_list (pv 1)) (blkOk_by (N := ["kind", "rows", "size", "row"]) (sc := defScope sKindsWi) (by decide +kernel)) (fun _ _ _ _ _ => pg_name (i := 3) scKindsWi.nd rfl (Or.inl rfl)) (fun _ _ _ _ _ => pts_one (pt_val (pe_def Hd hr (by decide) (by rfl) (pa_cons (pv 3) (pa_cons (pe_pro1 Cl.cl Pn hr (by decide) (pv 0)) pa_nil))))) (fun _ _ _ _ _ => by exact (pe_mk1 I pass0 hr (by decide) (by rfl) Cl.g (pa_cons (pv 3) pa_nil)))) pa_nil))))), ?_⟩
    try dsimp only [cx_nox, cx_K]
    walk_at "rd"
    refine ⟨p, n, t, m, ns, rfl, hp, ?_⟩
    walk_at "rd"
    refine g_lc2 ?_
    refine g_rng1 ?_
    walk_at "rd"
    obtain ⟨dx, hpi⟩ := id hp.ins
    have hs0 := hp.fall.sum0
    have hs12 := hp.fall.sum
    have h00 : 0 ≤ ns.getD 0 0 := (hp.fall.at 0).1
    have h012 : ns.getD 0 0 ≤ 12 := (hp.fall.at 0).2
    refine ⟨p, dx, _, rfl, hpi, p, n, t, m, ns, rfl, hp, fun H1 e1 => ?_⟩
    walk_at "rd"
    refine ⟨by omega, by omega, ?_⟩
    rw [show (ns.sum + 1).toNat = ns.sum.toNat + 1 by omega]
    have hp1 := hp.ext e1
    have hfl := rows_flat_len (g := (ns.getD 0 0).toNat) (n := ns.sum.toNat + 1) (by omega) (by omega)
    have hbig : (100000 : Nat) < sizeLine := by decide
    refine lc2RL (K := K) (fun i => rows i (ns.getD 0 0).toNat) (by omega) (RX K) (fun _ _ _ _ e r => r.keeps e) (fun v => rfl) (fun v u => rfl) (fun i H2 hi e2 G hG => ?_) (fun i x r H2 hi hr hx e2 Qe he => ?_) (fun H2 D ys e2 hD0 hD hys => ?_)
    · refine g_ilist ?_
      walk_at "rd"
      have hp2 := hp1.ext e2
      obtain ⟨dx2, hpi2⟩ := id hp2.ins
      refine ⟨p, dx2, _, rfl, hpi2, p, n, t, m, ns, rfl, hp2, fun H3 e3 => ?_⟩
      walk_at "rd"
      refine ⟨i, (ns.getD 0 0).toNat, by rw [Int.toNat_of_nonneg h00]; rfl, by omega, by omega, by omega, fun H4 Fa fs e4 na hF hfs => ?_⟩
      exact ⟨Fa, rfl, ⟨_, SqL.of hF⟩, hG Fa fs H4 (Ext.trans e3 e4) (new_up e3 na) hF hfs⟩
    · walk_at "rd"
      exact he x _ (fun _ _ z => z) hx
    walk_at "rd"
    refine g_lc (g_ilist ?_)
    walk_at "rd"
    have hyl := pair_len hys
    have e12 := Ext.trans e1 e2
    refine lcPL (SqL.of hD) hyl (by omega) [] (fun r => heldM r ns) (fun r => r) (KO K C) (fun _ _ _ _ e r => r.keeps e) (fun i x r H3 hx hr2 e3 Qe Qn he hn2 => ?_) (fun H3 D2 zs e3 hD2 hd2 hzs => ?_)
    · obtain ⟨r', hr', b, rfl, hb⟩ := pair_at hys i x hx
      obtain rfl : r' = r := Option.some.inj (hr'.symm.trans hr2)
      have hFr : Fall r' := by
        obtain ⟨j, hj, hm⟩ := List.mem_flatMap.mp (List.mem_of_getElem? hr')
        have := List.mem_range.mp hj
        exact rows_fallG (by omega) (by omega) hm
      have e13 := Ext.trans e12 e3
      obtain ⟨dx3, hpi3⟩ := id (hp.ext e13).ins
      refine ⟨rfl, ?_⟩
      walk_at "rd"
      refine ⟨p, dx3, _, rfl, hpi3, p, n, t, m, ns, rfl, hp.ext e13, fun H4 e4 => ?_⟩
      walk_at "rd"
      have hb4 := (hb.ext e3).ext e4
      refine ⟨b, n, r', ns, rfl, hb4.sq, ((hp.ext e13).ext e4).num.sq, hFr, hp.fall, fun H5 e5 => ?_⟩
      cases hh : heldM r' ns with
      | false => exact ⟨false, rfl, hn2 H5 (Ext.trans e4 e5) hh⟩
      | true =>
        refine ⟨true, rfl, ?_⟩
        rw [if_pos rfl]
        walk_at "rd"
        refine g_make ?_
        walk_at "rd"
        exact g_mk2 (hb4.ext e5) hFr fun H6 q n2 t2 m2 e6 hq => he _ H6 (Ext.trans (Ext.trans e4 e5) e6) hh ⟨q, n2, t2, m2, rfl, hq⟩
    · rw [List.map_id', within_all hp.fall _ (by omega)] at hzs
      walk_at "rd"
      refine ⟨D2, _, rfl, .inl ⟨SqL.of hd2, fun l o hl ho => ?_⟩⟩
      have el := Ext.new (o := HO.frz o (.tup zs)) hl
      exact k _ _ zs (Ext.trans e12 (Ext.trans e3 el)) (TupX.new ho) (kos_ext el hzs)
end
end

/-! Kinds sorted by their <, rows sorted by their keys. -/

section
open PySem PySem.Spec PyProof.Rows L2 Gd
open PySem.W (alike alikeAll)
section
variable {P : Program} {w : World} {K : PySem.W.Frag} {mg : Str → Option Value} {base : Heap} {C fK : Addr}
theorem sort_kindsA {L M : List (List Int)} (hS : Strict L) (hf : ∀ a ∈ L, Fall a) (hp : M.Perm L) {H : Hp} {a : Addr} {ys : List V} (hl : SqL K H a ys) (hk : KOs K C H ys M) {Q : VK}
    (k : ∀ H' D zs, Ext H H' → H D = none → H' D = some (.lst zs) → KOs K C H' zs L → Q (.ref D) H') : rSortedA K C (spLtK K C) [.ref a] H Q := by
  have hlen := pair_len hk
  have hin : ∀ (i : Nat) r, M[i]? = some r → r ∈ L := fun i r hr => hp.mem_iff.mp (List.mem_of_getElem? hr)
  refine ⟨a, ys, fun i => (L.idxOf (M.getD i []) : Int), rfl, hl, fun x hx => ?_, fun i j x y H' e hi hj Q' hq => ?_, fun H' D ps e hD hpp hs hd => ?_⟩
  · obtain ⟨i, hi, rfl⟩ := List.getElem_of_mem hx
    obtain ⟨r, _, p, n, t, m, ep, hp⟩ := pair_at hk i _ (List.getElem?_eq_getElem hi)
    obtain ⟨dx, hpi⟩ := hp.ins
    exact ⟨p, dx, _, ep, hpi⟩
  · obtain ⟨r, hr, p, n, t, m, rfl, hp⟩ := pair_at hk i x hi
    obtain ⟨r2, hr2, p2, n2, t2, m2, rfl, hp2⟩ := pair_at hk j y hj
    refine ⟨p, n, t, m, p2, n2, t2, m2, r, r2, rfl, hp.ext e, hp2.ext e, trivial, fun H'' e' => ?_⟩
    show Q' (.bl (pairLtM r r2)) H''
    have e1 : decide ((L.idxOf (M.getD i []) : Int) < (L.idxOf (M.getD j []) : Int)) = pairLtM r r2 := by
      rw [strict_lt hS hf (hin i r hr) (hin j r2 hr2), getD_at hr, getD_at hr2]
    rw [← e1]
    exact hq H'' e'
  · have hpl : ∀ i ∈ ps, i < M.length := fun i hi => by
      have := List.mem_range.mp (hpp.mem_iff.mp hi)
      omega
    have eZ : (ps.map fun i => M.getD i []) = L := by
      refine sorted_is (strict_nodup hS) ?_ ?_
      · have q := hpp.map fun i => M.getD i []
        rw [hlen, range_getD] at q
        exact q.trans hp
      · refine List.pairwise_map.mpr (hs.imp fun {i j} hij => ?_)
        have hij : (L.idxOf (M.getD i []) : Int) ≤ (L.idxOf (M.getD j []) : Int) := hij
        omega
    refine k H' D _ e hD hd ?_
    rw [← eZ]
    refine pair_of (by rw [List.length_map, List.length_map]) fun c y b h1 h2 => ?_
    rw [List.getElem?_map] at h1 h2
    obtain ⟨i, hi, rfl⟩ := Option.map_eq_some_iff.mp h1
    rw [hi] at h2
    cases h2
    have hil := hpl i (List.mem_of_getElem? hi)
    have e1 : ys[i]? = some (ys[i]'(by omega)) := List.getElem?_eq_getElem _
    obtain ⟨r, hr, ho⟩ := pair_at hk i _ e1
    show KO K C H' (ys.getD i .non) (M.getD i [])
    rw [getD_at hr, List.getD_eq_getElem?_getD, e1]
    exact ho.ext e
theorem cr_sortedM {X : Cx} {k : Nat} {sp : Sp} (D : Met1 X.prog X.w X.K X.mg X.base CX0 k C "__lt__" ["self", "other"] sp) (hr : Room (k + 2) X.A) : CallR X (.builtin "sorted") (rSortedA X.K C sp) := by
  obtain ⟨f, fd, M, _, F, hb⟩ := D.ex
  exact cr_sortedA M F hr hb
theorem depth_pd : ∀ ns : List Int, PyData.depthAll (pdata ns) = 0 := pdepth
theorem keyD_depth (ns : List Int) : (keyD ns).depth ≤ 16 := by
  have h := pdepth (ns.map fun x => -x)
  simp [keyD, PyData.depth, PyData.depthAll, h]
theorem sort_keys {n : Nat} (hn : n ≤ 12) {H : Hp} {a : Addr} {fs : List V} (hl : SqL K H a fs) (hfs : RXs K H fs (rows n n)) {Q : VK} (k : ∀ H' D, Ext H H' → H D = none → H' D = some (.lst fs) → Q (.ref D) H') : rSortedKey K fK (spKey K) [.ref a] [.ref fK] H Q := by
  have hlen := pair_len hfs
  refine ⟨a, fs, (rows n n).map keyD, fun H v d => ∃ b q ns, v = .ref b ∧ d = keyD ns ∧ SqT K H b [.int ns.sum, .ref q] ∧ SqT K H q ((ns.map fun x => -x).map V.int), rfl, rfl, hl, by rw [List.length_map, hlen], ?_, ?_, ?_, ?_, ?_, ?_, fun H' D ys e hD hd hy => ?_⟩
  · intro d hd d' hd'
    obtain ⟨x, _, rfl⟩ := List.mem_map.mp hd
    obtain ⟨y, _, rfl⟩ := List.mem_map.mp hd'
    exact keyD_alike x y
  · exact .inl fun d hd => by
      obtain ⟨x, _, rfl⟩ := List.mem_map.mp hd
      exact ⟨_, _, rfl⟩
  · intro d hd
    obtain ⟨x, _, rfl⟩ := List.mem_map.mp hd
    exact keyD_depth x
  · rintro H1 H2 v d e ⟨b, q, ns, rfl, rfl, h1, h2⟩
    exact ⟨b, q, ns, rfl, rfl, sqT_ext e h1, sqT_ext e h2⟩
  · rintro H1 v d ⟨b, q, ns, rfl, rfl, h1, h2⟩
    exact .tup h1 (.cons (.int _) (.cons (.tup h2 (pdp _)) .nil))
  · intro i x d H' e hx hd Q' hq
    rw [List.getElem?_map] at hd
    obtain ⟨r, hr, rfl⟩ := Option.map_eq_some_iff.mp hd
    obtain ⟨r', hr', b, rfl, hb⟩ := pair_at hfs i x hx
    rw [hr] at hr'
    cases hr'
    exact ⟨b, r, rfl, (hb.ext e).sq, (rows_fall hn (List.mem_of_getElem? hr)).1, fun H2 c q e2 h1 h2 => hq _ H2 e2 ⟨c, q, r, rfl, rfl, h1, h2⟩⟩
  · have hs : ((fs.zip ((rows n n).map keyD)).Pairwise fun p q => PySem.W.dataLe false (fun p : V × PyData => p.2) p q = true) := by
      refine List.pairwise_iff_getElem.mpr fun i j hi hj hij => ?_
      rw [List.length_zip, List.length_map] at hi hj
      rw [List.getElem_zip, List.getElem_zip, List.getElem_map, List.getElem_map]
      exact List.pairwise_iff_getElem.mp (keyD_le hn) i j (by omega) (by omega) hij
    rw [List.mergeSort_of_pairwise hs] at hy
    have ey : ys = fs := by
      have h1 := hy.length
      rw [List.length_zip, List.length_map] at h1
      refine List.ext_getElem (by omega) fun i h2 h3 => ?_
      have hm : (ys[i], (fs.zip ((rows n n).map keyD))[i]'(by rw [List.length_zip, List.length_map]; omega)) ∈ ys.zip (fs.zip ((rows n n).map keyD)) := List.mem_of_getElem? (i := i) (by rw [List.getElem?_zip_eq_some]; exact ⟨List.getElem?_eq_getElem _, List.getElem?_eq_getElem _⟩)
      have := hy.zip _ hm
      dsimp only at this
      rw [this, List.getElem_zip]
    rw [ey] at hd
    exact k H' D e hD hd
theorem g_eqKB {H : Hp} {Q : VK} {E : XK} {p n t m q n2 t2 m2 : Addr} {ns ms : List Int} {mg : Str → Option Value} (Cl : KC K mg C) (hp : KindAt K C H p n t m ns) (hq : KindAt K C H q n2 t2 m2 ms) (k : ∀ H', Ext H H' → Q (.bl (decide (ns = ms))) H') : rCmpO K C (spKEq K C) E (.ref p) (.ref q) H Q := by
  obtain ⟨dx, hpi⟩ := id hp.ins
  obtain ⟨dy, hqi⟩ := id hq.ins
  exact ⟨p, dx, _, _, rfl, hpi, Cl.ty hqi, notFirst_own, p, n, t, m, q, n2, t2, m2, ns, ms, rfl, hp, hq, fun H' e => ⟨⟨_, rfl⟩, k H' e⟩⟩
theorem g_ltKB {H : Hp} {Q : VK} {E : XK} {p n t m q n2 t2 m2 : Addr} {ns ms : List Int} {mg : Str → Option Value} (Cl : KC K mg C) (hp : KindAt K C H p n t m ns) (hq : KindAt K C H q n2 t2 m2 ms) (k : ∀ H', Ext H H' → Q (.bl (pairLtM ns ms)) H') : rCmpO K C (spLtK K C) E (.ref p) (.ref q) H Q := by
  obtain ⟨dx, hpi⟩ := id hp.ins
  obtain ⟨dy, hqi⟩ := id hq.ins
  exact ⟨p, dx, _, _, rfl, hpi, Cl.ty hqi, notFirst_own, p, n, t, m, q, n2, t2, m2, ns, ms, rfl, hp, hq, trivial, fun H' e => ⟨⟨_, rfl⟩, k H' e⟩⟩
end
end

/-! One draw. -/

section
open PySem PySem.Spec PyProof.Rows L2 Gd
section
variable {P : Program} {w : World} {K : PySem.W.Frag} {mg : Str → Option Value} {base : Heap} {f C t0 CT fT CR fR : Addr} {fd : FuncData}
theorem g_drop1 {H : Hp} {Q : VK} {a : Addr} {ys : List V} (hs : SqT K H a ys) (k : ∀ H' p, Ext H H' → SqT K H' p (ys.drop 1) → Q (.ref p) H') : rSlA K (.ref a) (some 1) none H Q := by
  have h1 : HT.sIx ys.length 0 (some (1 : Int)) = min 1 ys.length := HT.sIx_nat ys.length 0 1
  refine ⟨a, ys, rfl, hs, fun hw => ?_, fun hw p hp => ?_⟩
  · have h2 := hw.1
    rw [h1] at h2
    have h0 : ys = [] := List.length_eq_zero_iff.mp (by omega)
    subst h0
    exact k H a (fun _ _ z => z) hs
  · refine k _ p (Ext.new hp) (SqT.of ?_)
    rw [upd_same]
    unfold cutV
    rw [h1, HT.sIx_none]
    congr 3
    by_cases h : 1 ≤ ys.length
    · rw [Nat.min_eq_left h, List.take_of_length_le (by rw [List.length_drop]; omega)]
    · have h0 : ys = [] := List.length_eq_zero_iff.mp (by omega)
      subst h0
      rfl
theorem atI_last {xs : List V} {v : V} (h : 0 < xs.length) (hv : xs[xs.length - 1]? = some v) : atI xs (-1) = some v := by
  have e : ixN xs.length (-1) = some (xs.length - 1) := by
    unfold ixN
    rw [if_neg (by omega), if_pos (by omega)]
    congr 1
    omega
  unfold atI
  rw [e]
  exact hv
/-- two that stand side by side -/
theorem side {H : Hp} {ys : List V} {n : Nat} (hn : n ≤ 12) (hk : KOs K C H ys (rows n n)) {x y : V} (hm : (x, y) ∈ ys.zip (ys.drop 1)) :
    ∃ p n1 t m q n2 t2 m2 ns ms, x = .ref p ∧ y = .ref q ∧ KindAt K C H p n1 t m ns ∧ KindAt K C H q n2 t2 m2 ms ∧ pairLtM ns ms = true ∧ pairLtM ms ns = false ∧ ns ≠ ms := by
  obtain ⟨i, hi, e⟩ := List.getElem_of_mem hm
  have hq : (ys.zip (ys.drop 1))[i]? = some (x, y) := by rw [← e]; exact List.getElem?_eq_getElem hi
  rw [List.getElem?_zip_eq_some, List.getElem?_drop] at hq
  obtain ⟨r, hr, p, n1, t, m, rfl, hp⟩ := pair_at hk i x hq.1
  obtain ⟨r2, hr2, q, n2, t2, m2, rfl, hq2⟩ := pair_at hk (1 + i) y hq.2
  have q := List.pairwise_iff_getElem.mp (strict_rows hn) i (1 + i) (List.getElem?_eq_some_iff.mp hr).1 (List.getElem?_eq_some_iff.mp hr2).1 (by omega)
  rw [(List.getElem?_eq_some_iff.mp hr).2, (List.getElem?_eq_some_iff.mp hr2).2] at q
  exact ⟨p, n1, t, m, _, n2, t2, m2, r, r2, rfl, rfl, hp, hq2, q.1, q.2, fun z => by rw [z] at q; rw [q.1] at q; cases q.2⟩
theorem g_eqRX {H : Hp} {Q : VK} {a b : Addr} {fs gs : List V} {xss yss : List (List Int)} (ha : SqL K H a fs) (hb : SqL K H b gs) (h1 : RXs K H fs xss) (h2 : RXs K H gs yss) (k : Q (.bl (decide (xss = yss))) H) : rEqD K (.ref a) (.ref b) H Q := by
  refine ⟨_, _, .lst ha (rdpX h1), .lst hb (rdpX h2), sh_rl _, sh_rl _, ?_⟩
  have e : PyData.eqv (.list (rdata xss)) (.list (rdata yss)) = decide (xss = yss) := by
    simp only [PyData.eqv, reqv]
  rw [e]
  exact k
/-- what is told of items goes with them when they are mixed -/
theorem perm_kos {α β : Type} {F : α → β → Prop} {as bs : List α} (h : as.Perm bs) : ∀ {L : List β}, Paired F bs L → ∃ M : List β, M.Perm L ∧ Paired F as M := by
  induction h with
  | nil => intro L hL; exact ⟨L, .refl _, hL⟩
  | cons x _ ih =>
    intro L hL
    cases hL with
    | cons h1 t =>
      obtain ⟨M, hM, hp⟩ := ih t
      exact ⟨_ :: M, hM.cons _, .cons h1 hp⟩
  | swap x y l =>
    intro L hL
    cases hL with
    | cons h1 t =>
      cases t with
      | cons h2 t2 => exact ⟨_ :: _ :: _, List.Perm.swap _ _ _, .cons h2 (.cons h1 t2)⟩
  | trans _ _ ih1 ih2 =>
    intro L hL
    obtain ⟨M, hM, hp⟩ := ih2 hL
    obtain ⟨M2, hM2, hp2⟩ := ih1 hp
    exact ⟨M2, hM2.trans hM, hp2⟩
abbrev sRight : Stmt := top 43
theorem scRight : FnScope ["_law_dice_here", "_law_size", "_law_found", "_law_due", "_law_kind", "_law_one", "_law_other", "_law_within", "_law_numbers", "_law_mixed_here"] ["_law_dice_here"] (defScope sRight) := ⟨rfl, rfl, rfl, by decide +kernel, rfl, by decide +kernel, by decide +kernel⟩
def spRight : Sp := fun vs H Q _ => ∃ d : Addr, vs = [.ref d] ∧ DiceAt H d ∧ ∀ H', ExtBut d H H' → DiceAt H' d → Q (.bl true) H'
theorem ok_right (F : Fun K "_law_right" "_law_right" sRight f fd) (T : Txt K mg) (Cl : KC K mg C) (Ro : Def1 P w K mg base CX0 1 "_law_roll" ["_law_dice_here", "_law_total"] spRoll) (Pi : Def1 P w K mg base CX0 2 "_law_pick" ["_law_dice_here", "_law_items"] (spPick K))
    (Ko : Def1 P w K mg base CX0 15 "kinds_of" ["size"] (spKindsOf K C)) (Ks : Def1 P w K mg base CX0 1 "_law_kinds" ["_law_size"] (spKindsO K)) (Dk : Def1 P w K mg base CX0 1 "_law_kind_key" ["_law_kind"] (spKey K)) (Ev : Def1 P w K mg base CX0 2 "_law_every_kind" ["_law_most"] (spEvery K)) (Dh : Def1 P w K mg base CX0 1 "_law_does_hold" ["_law_kind", "_law_other"] (spDoesHold K))
    (Kw : Def1 P w K mg base CX0 15 "kinds_within" ["kind"] (spKindsWi K C)) (Mx : Def1 P w K mg base CX0 2 "_law_mixed" ["_law_dice_here", "_law_items"] (spMixed K))
    (Pn : Pro1 P w K mg base 1 C "numbers" (spGet K C fun n _ => .ref n)) (Pr : Pro1 P w K mg base 1 C "rank" (spGet K C fun _ ns => .int (ns.length : Int))) (Pf : Pro1 P w K mg base 4 C "is_flat" (spGet K C fun _ ns => .bl (decide (ns.getD 0 0 ≤ 1)))) (Pt : Pro1 P w K mg base 7 C "turned" (spMakes K C turnM))
    (Ml : Met1 P w K mg base CX0 4 C "__lt__" ["self", "other"] (spLtK K C)) (Me : Met1 P w K mg base CX0 1 C "__eq__" ["self", "other"] (spKEq K C)) (Mt : Met1 P w K mg base CX0 3 C "tops" ["self", "other"] (spTwo K C (fun ns ms => ns.sum = ms.sum) fun ns ms => .bl (topM ms ns)))
    (I : Ini1 P w K mg base CX0 5 C t0 ["self", "numbers"] (spInit K C)) : FnOk P w K mg base CX0 16 f fd ["_law_dice_here"] spRight := by
  obtain ⟨fK, fdK, gK, kK, FK, bK⟩ := Dk.ex
  refine F.ok scRight (fun vs H Q E h => ?_) (fun cdv A outer s H vs Q E hr h => ?_)
  · obtain ⟨d, rfl, _⟩ := h
    rfl
  · obtain ⟨d, rfl, hd, k⟩ := h
    refine ⟨_, pss_cons (ps_set (i := 1) scRight.nd rfl (Or.inl rfl) (pe_def Ro hr (by decide) (by rfl) (pa_cons (pv 0) (pa_cons pe_int pa_nil))))
      (pss_cons (ps_par (i := 2) (j := 3) (by rfl) scRight.nd rfl rfl (by decide) rfl rfl (pa_cons (pe_def Ko hr (by decide) (by rfl) (pa_cons (pv 1) pa_nil)) (pa_cons (pe_def Ks hr (by decide) (by rfl) (pa_cons (pv 1) pa_nil)) pa_nil)) (by rfl))
      (pss_cons (ps_if (PW.pt (pw_or (pt_cmpR (op_neD hr.units) (pe_lc (own := [("_law_kind", 4)]) (g := gName 4) (tt := tYes) rfl scRight.nd (pi_tup (pv 2)) (blkOk_by (N := ["_law_dice_here", "_law_size", "_law_found", "_law_due", "_law_kind", "_law_one", "_law_other", "_law_within", "_law_numbers", "_law_mixed_here"]) (sc := defScope sRight) (by decide +kernel)) (fun _ _ _ _ _ => pg_name (i := 4) scRight.nd rfl (Or.inl rfl)) (fun _ _ _ _ _ => pts_nil) (fun _ _ _ _ _ => by exact (pe_pro1 Cl.cl Pn hr (by decide) (pv 4)))) (pv 3) (nomark _)) (pw_or (pt_cmpR (op_neD hr.units) (pv 3) (pe_callBK (cr_sortedKey FK (hr.mono (by decide)) bK (lt66 hr)) (by rfl) T.sorted (by decide +kernel) (pa_cons (pv 3) pa_nil) (pk_cons (pe_glob (v := .ref fK) (by rfl) gK rfl) pk_nil)) (nomark _)) (pw_or1 (pt_cmpR op_ne (pe_callB call_len_seq (by rfl) T.len PySem.boot_len (pa_cons (pv 2) pa_nil)) (pe_callB call_len_seq (by rfl) T.len PySem.boot_len (pa_cons (pv 3) pa_nil)) (nomark _)))))) (pss_one (ps_ret pe_bl)) pss_nil)
      (pss_cons (ps_if (pt_cmpR (op_neNil (Nat.lt_of_le_of_lt (Nat.le_add_right _ _) (lt66 hr))) (pe_lc (own := [("_law_one", 5), ("_law_other", 6)]) (g := gTup K 2 (gCons (gName 5) (gCons (gName 6) gNil))) rfl scRight.nd (pi_zipE (by rfl) T.zip (pa_cons (pv 2) (pa_cons (pe_slice sl_tupA (pv 2) (po_some pe_int) po_none) pa_nil))) (blkOk_by (N := ["_law_dice_here", "_law_size", "_law_found", "_law_due", "_law_kind", "_law_one", "_law_other", "_law_within", "_law_numbers", "_law_mixed_here"]) (sc := defScope sRight) (by decide +kernel)) (fun _ _ _ _ _ => pg_tup rfl (pgs_cons (pg_name (i := 5) scRight.nd rfl (Or.inl rfl)) (pgs_cons (pg_name (i := 6) scRight.nd rfl (Or.inl rfl)) pgs_nil))) (fun _ _ _ _ _ => pts_one (PW.pt (pw_or (pt_not (pt_cmpR (r := rCmpO K C (spLtK K C) X0) (op_lt1 Ml hr (by decide)) (pv 5) (pv 6) (nomark _))) (pw_or (pt_cmpR (r := rCmpO K C (spLtK K C) X0) (op_lt1 Ml hr (by decide)) (pv 6) (pv 5) (nomark _)) (pw_or1 (pt_cmpR (r := rCmpO K C (spKEq K C) X0) (op_eq1 Me hr (by decide)) (pv 5) (pv 6) (nomark _))))))) (fun _ _ _ _ _ => by exact pe_int)) (pe_lst pa_nil) (nomark _)) (pss_one (ps_ret pe_bl)) pss_nil)
      (pss_cons (ps_if (PW.pt (pw_or (pt_cmpR (op_neL sameX_mon (sameX_eq Me) (hr.mono (by decide))) (pe_callB (cr_sortedM Ml (hr.mono (by decide))) (by rfl) T.sorted (by decide +kernel) (pa_cons (pe_lc (own := [("_law_kind", 4)]) (g := gName 4) (tt := tYes) rfl scRight.nd (pi_tup (pv 2)) (blkOk_by (N := ["_law_dice_here", "_law_size", "_law_found", "_law_due", "_law_kind", "_law_one", "_law_other", "_law_within", "_law_numbers", "_law_mixed_here"]) (sc := defScope sRight) (by decide +kernel)) (fun _ _ _ _ _ => pg_name (i := 4) scRight.nd rfl (Or.inl rfl)) (fun _ _ _ _ _ => pts_nil) (fun _ _ _ _ _ => by exact (pe_pro1 Cl.cl Pt hr (by decide) (pv 4)))) pa_nil)) (pe_callTy call_list_of (by rfl) T.list (by decide +kernel) (pa_cons (pv 2) pa_nil)) (nomark _)) (pw_or (pt_cmpR op_gt (pe_pro1 Cl.cl Pr hr (by decide) (pe_ix ix_tup (pv 2) pe_int (fun _ _ => rfl))) pe_int (nomark _)) (pw_or1 (pt_not (pt_val (pe_pro1 Cl.cl Pf hr (by decide) (pe_ix ix_tup (pv 2) (pe_un un_neg pe_int) (fun _ _ => rfl))))))))) (pss_one (ps_ret pe_bl)) pss_nil)
      (pss_cons (ps_asg (pe_tup (pa_cons (pe_def Pi hr (by decide) (by rfl) (pa_cons (pv 0) (pa_cons (pv 3) pa_nil))) (pa_cons (pe_def Pi hr (by decide) (by rfl) (pa_cons (pv 0) (pa_cons (pv 3) pa_nil))) pa_nil))) (pg_tup rfl (pgs_cons (pg_name (i := 5) scRight.nd rfl (Or.inr rfl)) (pgs_cons (pg_name (i := 6) scRight.nd rfl (Or.inl rfl)) pgs_nil))))
      (pss_cons (ps_if (PW.pt (pw_and (pt_val (pe_me1 (E := X0) Cl.cl Mt pass0 hr (by decide) (pe_mk1 I pass0 hr (by decide) (by rfl) Cl.g (pa_cons (pv 5) pa_nil)) (pa_cons (pe_mk1 I pass0 hr (by decide) (by rfl) Cl.g (pa_cons (pv 6) pa_nil)) pa_nil))) (pw_and1 (pt_cmpR (op_lt1 Ml hr (by decide)) (pe_mk1 I pass0 hr (by decide) (by rfl) Cl.g (pa_cons (pv 6) pa_nil)) (pe_mk1 I pass0 hr (by decide) (by rfl) Cl.g (pa_cons (pv 5) pa_nil)) (nomark _))))) (pss_one (ps_ret pe_bl)) pss_nil)
      (pss_cons (ps_setLc (i := 7) (own := [("_law_numbers", 8)]) (g := gName 8) rfl scRight.nd rfl rfl (sw_true rfl rfl rfl (by decide +kernel)) (pi_list (pe_def Ev hr (by decide) (by rfl) (pa_cons (pv 1) pa_nil))) (blkOk_by (N := ["_law_dice_here", "_law_size", "_law_found", "_law_due", "_law_kind", "_law_one", "_law_other", "_law_within", "_law_numbers", "_law_mixed_here"]) (sc := defScope sRight) (by decide +kernel)) (fun _ _ _ _ _ => pg_name (i := 8) scRight.nd rfl (Or.inl rfl)) (fun _ _ _ _ _ => pts_one (pt_val (pe_def Dh hr (by decide) (by rfl) (pa_cons (pv 5) (pa_cons (pv 8) pa_nil))))) (fun _ _ _ _ _ => by exact (pv 8)))
      (pss_cons (ps_if (pt_cmpR (op_neD hr.units) (pe_lc (own := [("_law_kind", 4)]) (g := gName 4) (tt := tYes) rfl scRight.nd (pi_tup (pe_def Kw hr (by decide) (by rfl) (pa_cons (pe_mk1 I pass0 hr (by decide) (by rfl) Cl.g (pa_cons (pv 5) pa_nil)) pa_nil))) (blkOk_by (N := ["_law_dice_here", "_law_size", "_law_found", "_law_due", "_law_kind", "_law_one", "_law_other", "_law_within", "_law_numbers", "_law_mixed_here"]) (sc := defScope sRight) (by decide +kernel)) (fun _ _ _ _ _ => pg_name (i := 4) scRight.nd rfl (Or.inl rfl)) (fun _ _ _ _ _ => pts_nil) (fun _ _ _ _ _ => by exact (pe_pro1 Cl.cl Pn hr (by decide) (pv 4)))) (pv 7) (nomark _)) (pss_one (ps_ret pe_bl)) pss_nil)
      (pss_cons (ps_set (i := 9) scRight.nd rfl (Or.inl rfl) (pe_def Mx hr (by decide) (by rfl) (pa_cons (pv 0) (pa_cons (pe_lc (own := [("_law_numbers", 8)]) (g := gName 8) (tt := tYes) rfl scRight.nd (pi_list (pv 7)) (blkOk_by (N := ["_law_dice_here", "_law_size", "_law_found", "_law_due", "_law_kind", "_law_one", "_law_other", "_law_within", "_law_numbers", "_law_mixed_here"]) (sc := defScope sRight) (by decide +kernel)) (fun _ _ _ _ _ => pg_name (i := 8) scRight.nd rfl (Or.inl rfl)) (fun _ _ _ _ _ => pts_nil) (fun _ _ _ _ _ => by exact (pe_mk1 I pass0 hr (by decide) (by rfl) Cl.g (pa_cons (pv 8) pa_nil)))) pa_nil))))
      (pss_one (ps_ret (pe_cmpR (op_eqD hr.units) (pe_lc (own := [("_law_kind", 4)]) (g := gName 4) (tt := tYes) rfl scRight.nd (pi_list (pe_callB (cr_sortedM Ml (hr.mono (by decide))) (by rfl) T.sorted (by decide +kernel) (pa_cons (pv 9) pa_nil))) (blkOk_by (N := ["_law_dice_here", "_law_size", "_law_found", "_law_due", "_law_kind", "_law_one", "_law_other", "_law_within", "_law_numbers", "_law_mixed_here"]) (sc := defScope sRight) (by decide +kernel)) (fun _ _ _ _ _ => pg_name (i := 4) scRight.nd rfl (Or.inl rfl)) (fun _ _ _ _ _ => pts_nil) (fun _ _ _ _ _ => by exact (pe_pro1 Cl.cl Pn hr (by decide) (pv 4)))) (pv 7) (nomark _))))))))))))), ?_⟩
    try dsimp only [cx_nox, cx_K]
    have big : (13 : Int) < 2 ^ 1000 := by decide +kernel
    walk_at "rd"
    refine ⟨d, 13, rfl, hd, by decide, big, fun H1 z e1 hd1 z0 z1 => ?_⟩
    obtain ⟨n, rfl⟩ : ∃ n : Nat, z = (n : Int) := ⟨z.toNat, by omega⟩
    have hn : n ≤ 12 := by omega
    walk_at "rd"
    refine g_seqP ?_
    walk_at "rd"
    refine ⟨n, rfl, hn, fun H2 a ys e2 ha hys => ?_⟩
    walk_at "rd"
    refine ⟨n, rfl, hn, fun H3 Fa fs e3 nF hF hfs => ?_⟩
    refine ⟨_, _, rfl, ?_⟩
    have hnF : Fa ≠ d := dice_none (hd1.ext e2) nF
    have hd3 := (hd1.ext e2).ext e3
    have ha3 := ha.ext e3
    have hys3 := kos_ext e3 hys
    have k3 : ∀ H', ExtBut d H3 H' → DiceAt H' d → Q (.bl true) H' := fun H' e q => k H' (ExtBut.trans e1 (ExtBut.trans (ExtBut.of (Ext.trans e2 e3)) e)) q
    clear k hd hd1 ha hys e1 e2 e3
    have hrl := rows_len n hn n hn
    have hlY := pair_len hys3
    have hlF := pair_len hfs
    walk_at "rd"
    -- the kinds are the rows
    refine g_lc (g_itup ?_)
    walk_at "rd"
    refine lcPT ha3.sq hlY (small (by omega)) [] (fun _ => true) (fun r => r) (RX K) (fun _ _ _ _ e r => r.keeps e) (fun i x r H8 hx hr2 e8 Qe Qn he hn => ?_) (fun H8 D ws e8 _ hD hws => ?_)
    · obtain ⟨r', hr', q, n2, t2, m2, rfl, hq⟩ := pair_at hys3 i x hx
      obtain rfl : r' = r := Option.some.inj (hr'.symm.trans hr2)
      have hq8 := hq.ext e8
      obtain ⟨dy, hqi⟩ := id hq8.ins
      refine ⟨rfl, ?_⟩
      walk_at "rd"
      exact ⟨q, dy, _, rfl, hqi, q, n2, t2, m2, r', rfl, hq8, fun H9 e9 => he _ H9 e9 rfl ⟨n2, rfl, hq8.num.ext e9⟩⟩
    rw [List.filter_eq_self.mpr (fun _ _ => rfl), List.map_id'] at hws
    walk_at "rd"
    have hF8 := e8 _ _ hF
    have hfs8 := rxs_ext e8 hfs
    refine g_neRX (SqL.of hD) (SqL.of hF8) hws hfs8 ?_
    rw [decide_eq_true rfl]
    walk_at "rd"
    unfold tCKw
    walk_at "rd"
    refine sort_keys hn (SqL.of hF8) hfs8 fun H9 D2 e9 _ hD2 => ?_
    have hF9 := e9 _ _ hF8
    have hfs9 := rxs_ext e9 hfs8
    refine g_neRX (SqL.of hF9) (SqL.of hD2) hfs9 hfs9 ?_
    rw [decide_eq_true rfl]
    have e39 := Ext.trans e8 e9
    have ha9 := ha3.ext e39
    have hys9 := kos_ext e39 hys3
    have hd9 := hd3.ext e39
    walk_at "rd"
    refine ⟨a, _, rfl, .inr ha9.sq, ?_⟩
    walk_at "rd"
    refine ⟨Fa, _, rfl, .inl (SqL.of hF9), ?_⟩
    walk_at "rd"
    rw [hlY, hlF]
    refine g_neS1 rfl ?_
    walk_at "rd"
    -- side by side
    refine g_lc ?_
    unfold iZipE
    walk_at "rd"
    refine g_drop1 ha9.sq fun H10 b e10 hb => ?_
    walk_at "rd"
    refine lcZ (l1 := false) (l2 := false) (sqT_ext e10 ha9.sq) hb (small (by rw [hlY]; omega)) (fun _ _ => false) (fun _ _ => .int 1) (fun x y H11 hxy e11 Qe Qn he hn2 => ?_) (fun H11 D e11 hD hd => ?_)
    · obtain ⟨p, n1, t, m, q, n2, t2, m2, ns, ms, rfl, rfl, hp, hq, l1, l2, l3⟩ := side hn hys9 hxy
      have eo := Ext.trans e10 e11
      refine ⟨rfl, ?_⟩
      walk_at "rd"
      refine g_ltKB Cl (hp.ext eo) (hq.ext eo) fun H12 e12 => ?_
      rw [l1]
      walk_at "rd"
      refine g_ltKB Cl ((hq.ext eo).ext e12) ((hp.ext eo).ext e12) fun H13 e13 => ?_
      rw [l2]
      walk_at "rd"
      refine g_eqKB Cl (((hp.ext eo).ext e12).ext e13) (((hq.ext eo).ext e12).ext e13) fun H14 e14 => ?_
      rw [decide_eq_false l3]
      exact ⟨false, rfl, hn2 H14 (Ext.trans e12 (Ext.trans e13 e14)) rfl⟩
    rw [List.filter_eq_nil_iff.mpr (fun _ _ z => by cases z)] at hd
    walk_at "rd"
    refine ⟨Nat.zero_le _, fun z hz => ?_⟩
    have ez := Ext.new (o := HO.lst []) hz
    refine ⟨D, z, [], rfl, rfl, SqL.of (ez _ _ hd), SqL.of upd_same, ?_⟩
    have e9z := Ext.trans e10 (Ext.trans e11 ez)
    have ha11 := ha9.ext e9z
    have hys11 := kos_ext e9z hys9
    have hF11 := e9z _ _ hF9
    have hfs11 := rxs_ext e9z hfs9
    have e311 := Ext.trans e39 e9z
    have hd11 := hd3.ext e311
    clear hd hb hF8 hfs8 hF9 hfs9 ha9 hys9 hd9 hws hD hD2 e8 e9 e39 e10 e11 hz hfs hys3 ha3 hF
    generalize upd H11 z (HO.lst []) = G at *
    walk_at "rd"
    refine iteF ?_
    walk_at "rd"
    -- turned, sorted
    refine g_lc (g_itup ?_)
    walk_at "rd"
    refine lcPT ha11.sq hlY (small (by omega)) [] (fun _ => true) turnM (KO K C) (fun _ _ _ _ e r => r.keeps e) (fun i x r H8 hx hr2 e8 Qe Qn he hn => ?_) (fun H8 D ws e8 _ hD hws => ?_)
    · obtain ⟨r', hr', q, n2, t2, m2, rfl, hq⟩ := pair_at hys11 i x hx
      obtain rfl : r' = r := Option.some.inj (hr'.symm.trans hr2)
      have hq8 := hq.ext e8
      obtain ⟨dy, hqi⟩ := id hq8.ins
      refine ⟨rfl, ?_⟩
      walk_at "rd"
      exact ⟨q, dy, _, rfl, hqi, q, n2, t2, m2, r', rfl, hq8, fun H9 p' n' t' m' e9 hk => he _ H9 e9 rfl ⟨p', n', t', m', rfl, hk⟩⟩
    rw [List.filter_eq_self.mpr (fun _ _ => rfl)] at hws
    walk_at "rd"
    refine sort_kindsA (strict_rows hn) (fun a h => (rows_fall hn h).1) (turned_perm hn) (SqL.of hD) hws fun H9 D2 zs2 e9 _ hD2 hz2 => ?_
    walk_at "rd"
    have e89 := Ext.trans e8 e9
    refine ⟨a, _, rfl, .inr (ha11.ext e89).sq, fun L2 hL2 => ?_⟩
    have e12 := Ext.new (o := HO.lst ys) hL2
    refine ⟨⟨D2, L2, zs2, ys, rfl, rfl, e12 _ _ hD2, upd_same, kos_same (kos_ext e12 hz2) (kos_ext (Ext.trans e89 e12) hys11)⟩, fun H13 e13 => ?_⟩
    have eA := Ext.trans e89 (Ext.trans e12 e13)
    have ha13 := ha11.ext eA
    have hys13 := kos_ext eA hys11
    have hF13 := eA _ _ hF11
    have hfs13 := rxs_ext eA hfs11
    have hd13 := hd11.ext eA
    have e313 := Ext.trans e311 eA
    clear ha11 hys11 hF11 hfs11 hd11 hws hD hD2 hz2 hL2 e8 e9 e12 e89 eA e13 e311
    obtain ⟨hpos, hhead, hlast⟩ := rows_head hn
    walk_at "rd"
    obtain ⟨y0, hy0⟩ : ∃ y, ys[0]? = some y := ⟨_, List.getElem?_eq_getElem (by omega)⟩
    obtain ⟨r0, hr0, p0, n0, t0', m0, rfl, hp0⟩ := pair_at hys13 0 y0 hy0
    refine g_ixT (v := V.ref p0) ha13.sq (by exact atI_nat (j := 0) hy0) ?_
    obtain ⟨dx0, hpi0⟩ := id hp0.ins
    refine ⟨p0, dx0, _, rfl, hpi0, p0, n0, t0', m0, r0, rfl, hp0, fun H14 e14 => ?_⟩
    walk_at "rd"
    rw [getD_at hr0] at hhead
    rw [decide_eq_false (by omega)]
    walk_at "rd"
    have ha14 := ha13.ext e14
    have hys14 := kos_ext e14 hys13
    obtain ⟨y1, hy1⟩ : ∃ y, ys[ys.length - 1]? = some y := ⟨_, List.getElem?_eq_getElem (by omega)⟩
    obtain ⟨r1, hr1, p1, n1, t1, m1, rfl, hp1⟩ := pair_at hys14 (ys.length - 1) y1 hy1
    refine g_ixT (v := V.ref p1) ha14.sq (atI_last (by omega) hy1) ?_
    obtain ⟨dx1, hpi1⟩ := id hp1.ins
    refine ⟨p1, dx1, _, rfl, hpi1, p1, n1, t1, m1, r1, rfl, hp1, fun H15 e15 => ?_⟩
    rw [← hlY, getD_at hr1] at hlast
    refine ⟨true, by show V.bl (decide _) = _; rw [decide_eq_true hlast], iteF ?_⟩
    walk_at "rd"
    have e1315 := Ext.trans e14 e15
    have hF15 := e1315 _ _ hF13
    have hfs15 := rxs_ext e1315 hfs13
    have hd15 := hd13.ext e1315
    have e315 := Ext.trans e313 e1315
    have k15 : ∀ H', ExtBut d H15 H' → DiceAt H' d → Q (.bl true) H' := fun H' e q => k3 H' (ExtBut.trans (ExtBut.of e315) e) q
    clear ha13 hys13 ha14 hys14 hF13 hfs13 hd13 hp0 hp1 hd3 k3 e313 e14 e15 e1315 e315
    refine ⟨d, Fa, fs, rfl, hd15, SqL.of hF15, hnF, by omega, by omega, fun H16 x1 e16 hd16 hx1 => ?_⟩
    have hF16 := e16 _ _ hnF hF15
    walk_at "rd"
    refine ⟨d, Fa, fs, rfl, hd16, SqL.of hF16, hnF, by omega, by omega, fun H17 x2 e17 hd17 hx2 => ?_⟩
    obtain ⟨i1, hi1, rfl⟩ := List.getElem_of_mem hx1
    obtain ⟨i2, hi2, rfl⟩ := List.getElem_of_mem hx2
    obtain ⟨rA, hrA, bA, eA, hbA⟩ := pair_at hfs15 i1 _ (List.getElem?_eq_getElem hi1)
    obtain ⟨rB, hrB, bB, eB, hbB⟩ := pair_at hfs15 i2 _ (List.getElem?_eq_getElem hi2)
    rw [eA, eB]
    have hmA := List.mem_of_getElem? hrA
    have hmB := List.mem_of_getElem? hrB
    have kk := Keeps.trans (dice_keepsX hd15 e16) (dice_keepsX hd16 e17)
    have hA17 := TupX.keeps kk hbA
    have hB17 := TupX.keeps kk hbB
    have k17 : ∀ H', ExtBut d H17 H' → DiceAt H' d → Q (.bl true) H' := fun H' e q => k15 H' (ExtBut.trans e16 (ExtBut.trans e17 e)) q
    clear hF15 hfs15 hd15 hd16 hF16 hbA hbB kk k15 e16 e17 hx1 hx2 eA eB
    walk_at "rd"
    refine ⟨by show 2 ≤ sizeLine; decide, fun u hu => ?_⟩
    have eu := Ext.new (o := HO.tup [V.ref bA, V.ref bB]) hu
    refine ⟨u, [V.ref bA, V.ref bB], rfl, SqT.of upd_same, rfl, V.ref bA, [V.ref bB], rfl, V.ref bB, [], rfl, rfl, ?_⟩
    obtain ⟨FA, sA⟩ := rows_fall hn hmA
    obtain ⟨FB, sB⟩ := rows_fall hn hmB
    dsimp only
    have hA18 := hA17.ext eu
    have hB18 := hB17.ext eu
    have hd18 := hd17.ext eu
    have k18 : ∀ H', ExtBut d (upd H17 u (HO.tup [V.ref bA, V.ref bB])) H' → DiceAt H' d → Q (.bl true) H' := fun H' e q => k17 H' (ExtBut.trans (ExtBut.of eu) e) q
    clear hA17 hB17 hd17 k17 eu
    generalize upd H17 u (HO.tup [V.ref bA, V.ref bB]) = G2 at *
    refine g_cut (fun σ' H' => σ' = [some (.ref d), some (.int (n : Int)), some (.ref a), some (.ref Fa), none, some (.ref bA), some (.ref bB), none, none, none] ∧ Ext G2 H') (fun σ' H' hN => ?_) (fun go => ?_)
    rotate_left
    · walk_at "rd"
      refine g_me ?_
      refine g_make ?_
      walk_at "rd"
      refine g_mk3 hA18 FA fun H19 p n1 t m e19 hp => ?_
      refine g_obj (A := fun x => _) hp (by decide) (by decide) ?_
      refine g_cons ?_
      refine g_make ?_
      walk_at "rd"
      refine g_mk3 (hB18.ext e19) FB fun H20 q n2 t2 m2 e20 hq => ?_
      walk_at "rd"
      refine ⟨p, n1, t, m, q, n2, t2, m2, rA, rB, rfl, hp.ext e20, hq, by show rA.sum = rB.sum; rw [sA, sB], fun H21 e21 => ?_⟩
      have e1921 := Ext.trans e19 (Ext.trans e20 e21)
      refine ⟨topM rB rA, rfl, ?_⟩
      cases ht : topM rB rA with
      | false => exact iteF (go _ _ ⟨rfl, e1921⟩)
      | true =>
        refine iteT ?_
        walk_at "rd"
        refine g_make ?_
        walk_at "rd"
        refine g_mk3 (hB18.ext e1921) FB fun H22 q3 n3 t3 m3 e22 hq3 => ?_
        walk_at "rd"
        refine g_make ?_
        walk_at "rd"
        refine g_mk3 ((hA18.ext e1921).ext e22) FA fun H23 p4 n4 t4 m4 e23 hp4 => ?_
        refine g_ltKB Cl (hq3.ext e23) hp4 fun H24 e24 => ?_
        rw [tops_first FA FB (by rw [sA, sB]) ht]
        walk_at "rd"
        exact go _ _ ⟨rfl, Ext.trans e1921 (Ext.trans e22 (Ext.trans e23 e24))⟩
    obtain ⟨rfl, eN⟩ := hN
    have hA := hA18.ext eN
    have hdN := hd18.ext eN
    have kN : ∀ H2, ExtBut d H' H2 → DiceAt H2 d → Q (.bl true) H2 := fun H2 e q => k18 H2 (ExtBut.trans (ExtBut.of eN) e) q
    clear hA18 hB18 hd18 k18 eN
    walk_at "rd"
    refine g_lc (g_ilist ?_)
    walk_at "rd"
    refine ⟨n, rfl, hn, fun H3 Ea fs3 e3 _ hE hfs3 => ?_⟩
    walk_at "rd"
    have hel := every_len (n + 1) (by omega)
    have hfl3 := pair_len hfs3
    have hA3 := hA.ext e3
    refine lcPL (SqL.of hE) hfl3 (small (by omega)) [] (fun r => heldM r rA) (fun r => r) (RX K) (fun _ _ _ _ e r => r.keeps e) (fun i x r H9 hx hr2 e9 Qe Qn he hn2 => ?_) (fun H9 Wa ws e9 nW hW hws => ?_)
    · obtain ⟨r', hr', b, rfl, hb⟩ := pair_at hfs3 i x hx
      obtain rfl : r' = r := Option.some.inj (hr'.symm.trans hr2)
      have hR := (every_in (by omega) (List.mem_of_getElem? hr')).1
      refine ⟨rfl, ?_⟩
      walk_at "rd"
      refine ⟨bA, b, rA, r', rfl, (hA3.ext e9).sq, (hb.ext e9).sq, FA, hR, fun H10 e10 => ?_⟩
      cases hh : heldM r' rA with
      | false => exact ⟨false, rfl, hn2 H10 e10 hh⟩
      | true =>
        refine ⟨true, rfl, ?_⟩
        rw [if_pos rfl]
        walk_at "rd"
        exact he _ H10 e10 hh ⟨b, rfl, hb.ext (Ext.trans e9 e10)⟩
    rw [List.map_id'] at hws
    have hA9 := hA3.ext e9
    have e39 := Ext.trans e3 e9
    have hd9 := hdN.ext e39
    have hnW : Wa ≠ d := dice_none (hdN.ext e3) nW
    have hwM : withinM rA = (everyM (n + 1)).filter fun r => heldM r rA := by
      unfold withinM
      rw [sA, Int.toNat_natCast]
    have k9 : ∀ H2, ExtBut d H9 H2 → DiceAt H2 d → Q (.bl true) H2 := fun H2 e q => kN H2 (ExtBut.trans (ExtBut.of e39) e) q
    clear hdN hA hA3 e3 e9 e39 hE hfs3 kN nW
    rw [← hwM] at hws
    walk_at "rd"
    -- the kinds within
    refine g_lc (g_itup ?_)
    walk_at "rd"
    refine g_make ?_
    walk_at "rd"
    refine g_mk3 hA9 FA fun H10 p n1 t m e10 hp => ?_
    walk_at "rd"
    refine ⟨p, n1, t, m, rA, rfl, hp, fun H11 v ys2 e11 hv hys2 => ?_⟩
    walk_at "rd"
    have hlW : (withinM rA).length ≤ 300 := by
      rw [hwM]
      exact Nat.le_trans (List.length_filter_le _ _) hel
    have hl2 := pair_len hys2
    refine lcPT hv.sq hl2 (small (by omega)) [] (fun _ => true) (fun r => r) (RX K) (fun _ _ _ _ e r => r.keeps e) (fun i x r H12 hx hr2 e12 Qe Qn he hn2 => ?_) (fun H12 D us e12 _ hD hus => ?_)
    · obtain ⟨r', hr', q, n2, t2, m2, rfl, hq⟩ := pair_at hys2 i x hx
      obtain rfl : r' = r := Option.some.inj (hr'.symm.trans hr2)
      have hq8 := hq.ext e12
      obtain ⟨dy, hqi⟩ := id hq8.ins
      refine ⟨rfl, ?_⟩
      walk_at "rd"
      exact ⟨q, dy, _, rfl, hqi, q, n2, t2, m2, r', rfl, hq8, fun H13 e13 => he _ H13 e13 rfl ⟨n2, rfl, hq8.num.ext e13⟩⟩
    rw [List.filter_eq_self.mpr (fun _ _ => rfl), List.map_id'] at hus
    have e912 := Ext.trans e10 (Ext.trans e11 e12)
    have hW12 := e912 _ _ hW
    have hws12 := rxs_ext e912 hws
    walk_at "rd"
    refine g_neRX (SqL.of hD) (SqL.of hW12) hus hws12 ?_
    rw [decide_eq_true rfl]
    have hd12 := hd9.ext e912
    have k12 : ∀ H2, ExtBut d H12 H2 → DiceAt H2 d → Q (.bl true) H2 := fun H2 e q => k9 H2 (ExtBut.trans (ExtBut.of e912) e) q
    clear hD hus hW hws hd9 hA9 hp hv hys2 e10 e11 e12 e912 k9
    walk_at "rd"
    -- mixed, and sorted again
    refine g_lc (g_ilist ?_)
    walk_at "rd"
    have hlw := pair_len hws12
    refine lcPL (SqL.of hW12) hlw (small (by omega)) [] (fun _ => true) (fun r => r) (KO K C) (fun _ _ _ _ e r => r.keeps e) (fun i x r H13 hx hr2 e13 Qe Qn he hn2 => ?_) (fun H13 Ma ms e13 nM hM hms => ?_)
    · obtain ⟨r', hr', b, rfl, hb⟩ := pair_at hws12 i x hx
      obtain rfl : r' = r := Option.some.inj (hr'.symm.trans hr2)
      have hR : Fall r' := by
        have hm := List.mem_of_getElem? hr'
        rw [hwM] at hm
        exact (every_in (by omega) (List.mem_filter.mp hm).1).1
      refine ⟨rfl, ?_⟩
      walk_at "rd"
      refine g_make ?_
      walk_at "rd"
      exact g_mk2 (hb.ext e13) hR fun H14 q n2 t2 m2 e14 hq => he _ H14 e14 rfl ⟨q, n2, t2, m2, rfl, hq⟩
    rw [List.filter_eq_self.mpr (fun _ _ => rfl), List.map_id'] at hms
    have hlm := pair_len hms
    have hd13 := hd12.ext e13
    walk_at "rd"
    refine ⟨d, Ma, ms, rfl, hd13, SqL.of hM, dice_none hd12 nM, by omega, fun H14 Ra os e14 hd14 nR hRa hpo => ?_⟩
    have kk := dice_keepsX hd13 e14
    have hms14 : KOs K C H14 ms (withinM rA) := Paired.mapP hms fun _ _ z => z.keeps kk
    have hW14 : H14 Wa = some (.lst ws) := e14 _ _ hnW (e13 _ _ hW12)
    have hws14 := rxs_keeps kk (rxs_ext e13 hws12)
    obtain ⟨L2, hL2, hos⟩ := perm_kos hpo hms14
    walk_at "rd"
    refine g_lc (g_ilist ?_)
    walk_at "rd"
    refine sort_kindsA (L := withinM rA) (M := L2) (by rw [hwM]; exact List.Pairwise.filter _ (strict_every (by omega))) (fun a h => by rw [hwM] at h; exact (every_in (by omega) (List.mem_filter.mp h).1).1) hL2 (SqL.of hRa) hos fun H15 D zs e15 _ hD hzs => ?_
    walk_at "rd"
    have hlz := pair_len hzs
    refine lcPL (SqL.of hD) hlz (small (by omega)) [] (fun _ => true) (fun r => r) (RX K) (fun _ _ _ _ e r => r.keeps e) (fun i x r H16 hx hr2 e16 Qe Qn he hn2 => ?_) (fun H16 D3 us e16 _ hD3 hus => ?_)
    · obtain ⟨r', hr', q, n2, t2, m2, rfl, hq⟩ := pair_at hzs i x hx
      obtain rfl : r' = r := Option.some.inj (hr'.symm.trans hr2)
      have hq8 := hq.ext e16
      obtain ⟨dy, hqi⟩ := id hq8.ins
      refine ⟨rfl, ?_⟩
      walk_at "rd"
      exact ⟨q, dy, _, rfl, hqi, q, n2, t2, m2, r', rfl, hq8, fun H17 e17 => he _ H17 e17 rfl ⟨n2, rfl, hq8.num.ext e17⟩⟩
    rw [List.filter_eq_self.mpr (fun _ _ => rfl), List.map_id'] at hus
    have e1416 := Ext.trans e15 e16
    walk_at "rd"
    refine g_eqRX (SqL.of hD3) (SqL.of (e1416 _ _ hW14)) hus (rxs_ext e1416 hws14) ?_
    rw [decide_eq_true rfl]
    exact k12 _ (ExtBut.trans (ExtBut.of e13) (ExtBut.trans e14 (ExtBut.of e1416))) (hd14.ext e1416)
end
end

/-! The law. -/

section
open PySem PySem.Spec PyProof.Rows L2 Gd
section
variable {P : Program} {w : World} {K : PySem.W.Frag} {mg : Str → Option Value} {base : Heap} {f C t0 CT fT CR fR : Addr} {fd : FuncData}
theorem call_str1 {X : Cx} {k j : Nat} {sp : Sp} (D : Met1 X.prog X.w X.K X.mg X.base CX0 k C "__str__" ["self"] sp) (hr : Room j X.A) (hj : k + 2 ≤ j) : CallR X (.type "str") (rStrO C sp X0) := by
  obtain ⟨f, fd, M, _, F, hb⟩ := D.ex
  exact call_strO M F (hr.mono hj) hb (fun _ => quiet0)
theorem pair_eq {β : Type} {g : β → V} : ∀ {ys : List V} {L : List β}, Paired (fun v b => v = g b) ys L → ys = L.map g
  | _, _, .nil => rfl
  | _, _, .cons h t => by rw [List.map_cons, ← h, ← pair_eq t]
abbrev cnts : List Int := [1, 1, 2, 3, 5, 7, 11, 15, 22, 30, 42, 56, 77]
theorem cnts_are : ((idx (fun _ => true) 13).map fun i => V.int ((rows i i).length : Int)) = cnts.map V.int := by
  have h : ((idx (fun _ => true) 13).map fun i => ((rows i i).length : Int)) = cnts := by decide +kernel
  have e := congrArg (List.map V.int) h
  rw [List.map_map] at e
  exact e
abbrev dCnt : PyData := .list (pdata cnts)
theorem sh_cnt : SeqAt.shaped dCnt = true := by decide +kernel
theorem eq_cnt : PyData.eqv dCnt dCnt = true := by decide +kernel
abbrev txs : List Str := [("[]" : Str), "[1]", "[2]", "[1 1]", "[2 1]"]
theorem txs_are : ((withinM [2, 1]).map fun r => V.str (kindTx r)) = txs.map V.str := by
  have h : ((withinM [2, 1]).map kindTx) = txs := by decide +kernel
  have e := congrArg (List.map V.str) h
  rw [List.map_map] at e
  exact e
abbrev dTxs : PyData := .list (txs.map PyData.str)
theorem sh_txs : SeqAt.shaped dTxs = true := by decide +kernel
theorem eq_txs : PyData.eqv dTxs dTxs = true := by decide +kernel
theorem dp_strs {H : Hp} : ∀ xs : List Str, DpAll K H (xs.map V.str) (xs.map PyData.str)
  | [] => .nil
  | x :: xs => .cons (.str x) (dp_strs xs)
theorem g_neDq {b : Bool} {H : Hp} {Q : VK} {x y : V} {d e : PyData} (hx : Dp K H x d) (hy : Dp K H y e) (h1 : SeqAt.shaped d = true) (h2 : SeqAt.shaped e = true) (hb : PyData.eqv d e = b) (k : Q (.bl (!b)) H) : rNeD K x y H Q := ⟨d, e, hx, hy, h1, h2, by rw [hb]; exact k⟩
theorem g_eqDq {b : Bool} {H : Hp} {Q : VK} {x y : V} {d e : PyData} (hx : Dp K H x d) (hy : Dp K H y e) (h1 : SeqAt.shaped d = true) (h2 : SeqAt.shaped e = true) (hb : PyData.eqv d e = b) (k : Q (.bl b) H) : rEqD K x y H Q := ⟨d, e, hx, hy, h1, h2, by rw [hb]; exact k⟩
abbrev sLaw : Stmt := top 44
theorem scLaw8 : FnScope ["_law_script", "_law_spot", "_law_dice_here", "_law_turn", "_law_size", "_law_kind"] ["_law_script"] (defScope sLaw) := ⟨rfl, rfl, rfl, by decide +kernel, rfl, by decide +kernel, by decide +kernel⟩
def spLaw (K : PySem.W.Frag) : Sp := fun vs H Q _ => ∃ (a : Addr) (ns : List Int), vs = [.ref a] ∧ SqL K H a (ns.map V.int) ∧ ns.length ≤ 63 ∧ ∀ H', Q (.bl true) H'
theorem ok_law (F : Fun K "law" "law" sLaw f fd) (T : Txt K mg) (Cl : KC K mg C) (I : Ini1 P w K mg base CX0 5 C t0 ["self", "numbers"] (spInit K C)) (Dd : Def1 P w K mg base CX0 1 "_law_dice" ["_law_script", "_law_spot"] (spDice K)) (Dr : Def1 P w K mg base CX0 16 "_law_right" ["_law_dice_here"] spRight)
    (Ko : Def1 P w K mg base CX0 15 "kinds_of" ["size"] (spKindsOf K C)) (Kw : Def1 P w K mg base CX0 15 "kinds_within" ["kind"] (spKindsWi K C)) (As : Met1 P w K mg base CX0 2 C "__str__" ["self"] (spKSt K C)) :
    FnOk P w K mg base CX0 17 f fd ["_law_script"] (spLaw K) := by
  refine F.ok scLaw8 (fun vs H Q E h => ?_) (fun cdv Ar outer s H vs Q E hr h => ?_)
  · obtain ⟨a, ns, rfl, _⟩ := h
    rfl
  · obtain ⟨a, ns, rfl, hs, hl, k⟩ := h
    refine ⟨_, pss_cons (ps_for PassesOwn.never rfl (pi_range1 (by rfl) T.range (pa_cons (pe_callB (call_max2 rfl) (by rfl) T.max (by decide +kernel) (pa_cons pe_int (pa_cons (pe_callB (call_min2 rfl) (by rfl) T.min (by decide +kernel) (pa_cons pe_int (pa_cons (pe_callB call_len_seq (by rfl) T.len PySem.boot_len (pa_cons (pv 0) pa_nil)) pa_nil))) pa_nil))) pa_nil)) (pg_name (i := 1) scLaw8.nd rfl (Or.inl rfl)) (pss_cons (ps_set (i := 2) scLaw8.nd rfl (Or.inl rfl) (pe_def Dd hr (by decide) (by rfl) (pa_cons (pv 0) (pa_cons (pv 1) pa_nil))))
      (pss_one (ps_for PassesOwn.never rfl (pi_range1 (by rfl) T.range (pa_cons pe_int pa_nil)) (pg_name (i := 3) scLaw8.nd rfl (Or.inl rfl)) (pss_one (ps_if (pt_not (pt_val (pe_def Dr hr (by decide) (by rfl) (pa_cons (pv 2) pa_nil)))) (pss_one (ps_ret pe_bl)) pss_nil))))))
      (pss_cons (ps_if (pt_cmpR (op_neD hr.units) (pe_lc (own := [("_law_size", 4)]) (g := gName 4) (tt := tYes) rfl scLaw8.nd (pi_range1 (by rfl) T.range (pa_cons pe_int pa_nil)) (blkOk_by (N := ["_law_script", "_law_spot", "_law_dice_here", "_law_turn", "_law_size", "_law_kind"]) (sc := defScope sLaw) (by decide +kernel)) (fun _ _ _ _ _ => pg_name (i := 4) scLaw8.nd rfl (Or.inl rfl)) (fun _ _ _ _ _ => pts_nil) (fun _ _ _ _ _ => by exact (pe_callB (r := rLenS K) call_len_seq (by rfl) T.len PySem.boot_len (pa_cons (pe_def Ko hr (by decide) (by rfl) (pa_cons (pv 4) pa_nil)) pa_nil)))) (pe_lst (pa_cons pe_int (pa_cons pe_int (pa_cons pe_int (pa_cons pe_int (pa_cons pe_int (pa_cons pe_int (pa_cons pe_int (pa_cons pe_int (pa_cons pe_int (pa_cons pe_int (pa_cons pe_int (pa_cons pe_int (pa_cons pe_int pa_nil)))))))))))))) (nomark _)) (pss_one (ps_ret pe_bl)) pss_nil)
      (pss_one (ps_ret (pe_cmpR (op_eqD hr.units) (pe_lc (own := [("_law_kind", 5)]) (g := gName 5) (tt := tYes) rfl scLaw8.nd (pi_tup (pe_def Kw hr (by decide) (by rfl) (pa_cons (pe_mk1 I pass0 hr (by decide) (by rfl) Cl.g (pa_cons (pe_tupX (pa_cons pe_int (pa_cons pe_int pa_nil))) pa_nil)) pa_nil))) (blkOk_by (N := ["_law_script", "_law_spot", "_law_dice_here", "_law_turn", "_law_size", "_law_kind"]) (sc := defScope sLaw) (by decide +kernel)) (fun _ _ _ _ _ => pg_name (i := 5) scLaw8.nd rfl (Or.inl rfl)) (fun _ _ _ _ _ => pts_nil) (fun _ _ _ _ _ => by exact (pe_callTy (call_str1 As hr (by decide)) (by rfl) T.str (by decide +kernel) (pa_cons (pv 5) pa_nil)))) (pe_lst (pa_cons pe_str (pa_cons pe_str (pa_cons pe_str (pa_cons pe_str (pa_cons pe_str pa_nil)))))) (nomark _))))), ?_⟩
    try dsimp only [cx_nox, cx_K]
    refine g_cut (fun σ H' => ∃ x1 x2 x3 : Option V, σ = [some (.ref a), x1, x2, x3, none, none]) (fun σ' H' hN => ?_) (fun go => ?_)
    rotate_left
    · refine g_forR ?_
      walk_at "rd"
      refine ⟨a, _, rfl, .inl hs, ?_⟩
      walk_at "rd"
      rw [List.length_map]
      refine ⟨by split <;> (try split) <;> omega, by split <;> (try split) <;> omega, ?_⟩
      refine for_range (fun i σ H' => ∃ x1 x2 x3 : Option V, σ = [some (.ref a), x1, x2, x3, none, none] ∧ Ext H H') ⟨_, _, _, rfl, fun _ _ z => z⟩ ?_ ?_
      · rintro i σ H2 hi ⟨x1, x2, x3, rfl, e⟩
        have hi63 : i ≤ 63 := by
          revert hi
          split <;> (try split) <;> intro hi <;> omega
        refine g_name (g_gen fun D1 hn1 _ => ?_)
        walk_at "rd"
        have hi0 : (0 : Int) + (i : Int) = (i : Int) := by omega
        rw [hi0]
        refine ⟨a, ns, i, rfl, sqL_ext e hs, hi63, fun H3 d e3 hd0 hd => ?_⟩
        walk_at "rd"
        dsimp only
        refine g_forR ?_
        walk_at "rd"
        refine ⟨by decide, by decide, ?_⟩
        refine for_range (fun j σ H' => ∃ x3 : Option V, σ = [some (.ref a), some (.int (i : Int)), some (.ref d), x3, none, none] ∧ DiceAt H' d ∧ ExtBut d H3 H') ⟨_, rfl, hd, fun _ _ _ z => z⟩ ?_ ?_
        · rintro j σ H4 hj ⟨x3, rfl, hd4, e4⟩
          walk_at "rd"
          refine ⟨d, rfl, hd4, fun H5 e5 hd5 => ?_⟩
          walk_at "rd"
          exact ⟨_, rfl, hd5, ExtBut.trans e4 e5⟩
        · rintro σ H4 ⟨x3, rfl, hd4, e4⟩
          refine hn1 _ _ ⟨_, _, _, rfl, fun b o q => ?_⟩
          have q2 := e b o q
          exact e4 b o (ne_of_none q2 hd0) (e3 b o q2)
      · rintro σ H2 ⟨x1, x2, x3, rfl, _⟩
        exact go _ _ ⟨_, _, _, rfl⟩
    obtain ⟨x1, x2, x3, rfl⟩ := hN
    have F21 : Fall [2, 1] := fall_of (by decide +kernel)
    walk_at "rd"
    refine g_lc (g_rng1 ?_)
    walk_at "rd"
    refine ⟨by decide, by decide, ?_⟩
    refine lcR (small (by decide)) (fun _ => true) (fun i => .int ((rows i i).length : Int)) (fun i H2 hi e2 Qe Qn he hn => ?_) (fun H2 D e2 hD0 hD => ?_)
    · have hi13 : i < 13 := hi
      refine ⟨rfl, ?_⟩
      walk_at "rd"
      rw [Int.zero_add]
      refine ⟨i, rfl, by omega, fun H3 b ys e3 hb hys => ?_⟩
      walk_at "rd"
      refine ⟨b, ys, rfl, .inr hb.sq, ?_⟩
      rw [pair_len hys]
      exact he H3 e3 rfl
    have hD' : H2 D = some (.lst (cnts.map V.int)) := by
      rw [← cnts_are]
      exact hD
    walk_at "rd"
    refine ⟨by show 13 ≤ sizeLine; decide, fun z hz => ?_⟩
    have ez := Ext.new (o := HO.lst (cnts.map V.int)) hz
    refine g_neDq (.lst (SqL.of (ez _ _ hD')) (pdp _)) (.lst (SqL.of (show upd H2 z (HO.lst (cnts.map V.int)) z = some (.lst (cnts.map V.int)) from upd_same)) (pdp cnts)) sh_cnt sh_cnt eq_cnt ?_
    walk_at "rd"
    refine g_lc (g_itup ?_)
    walk_at "rd"
    refine g_make ?_
    walk_at "rd"
    refine g_tupX ?_
    walk_at "rd"
    refine ⟨by show 2 ≤ sizeLine; decide, fun u3 o3 hu3 ho3 => ?_⟩
    walk_at "rd"
    refine g_mk3 (ns := [2, 1]) (TupX.new ho3) F21 fun G1 p n t m _ hp => ?_
    walk_at "rd"
    refine ⟨p, n, t, m, [2, 1], rfl, hp, fun G2 v ys e2' hv hys => ?_⟩
    walk_at "rd"
    have hl1 := pair_len hys
    have hl5 : (withinM [2, 1]).length = 5 := by decide +kernel
    refine lcPT hv.sq hl1 (small (by rw [hl1, hl5]; decide)) [] (fun _ => true) (fun r => r) (fun _ y b => y = V.str (kindTx b)) (fun _ _ _ _ _ h => h) (fun i x r G3 hx hr2 e3 Qe Qn he hn => ?_) (fun G3 D3 ws e3 _ hD3 hws => ?_)
    · obtain ⟨r', hr', q, n2, t2, m2, rfl, hq⟩ := pair_at hys i x hx
      obtain rfl : r' = r := Option.some.inj (hr'.symm.trans hr2)
      have hq8 := hq.ext e3
      obtain ⟨dy, hqi⟩ := id hq8.ins
      refine ⟨rfl, ?_⟩
      walk_at "rd"
      exact ⟨q, dy, _, rfl, hqi, q, n2, t2, m2, r', rfl, hq8, fun G4 e4 => ⟨_, rfl, he _ G4 e4 rfl rfl⟩⟩
    rw [List.filter_eq_self.mpr (fun _ _ => rfl), List.map_id'] at hws
    rw [pair_eq hws, txs_are] at hD3
    walk_at "rd"
    refine ⟨by show 5 ≤ sizeLine; decide, fun z2 hz2 => ?_⟩
    have ez2 := Ext.new (o := HO.lst (txs.map V.str)) hz2
    refine g_eqDq (.lst (SqL.of (ez2 _ _ hD3)) (dp_strs _)) (.lst (SqL.of (show upd G3 z2 (HO.lst (txs.map V.str)) z2 = some (.lst (txs.map V.str)) from upd_same)) (dp_strs txs)) sh_txs sh_txs eq_txs ?_
    exact k _
end
end

/-! What the top has written. -/

section
open PySem PySem.Spec PyProof.Rows L2 Gd
open LamX (Tabs TabB TabS ExtN)
/-- an error of the class at S, an except clause that names U -/
theorem exm_one {K : PySem.W.Frag} {S U : Addr} {b : Bool} (h1 : PySem.W.subIn K (.ref U) (.type "BaseException") = some true) (h2 : PySem.W.isClsIn K U = true) (h3 : PySem.W.typeIn K (.ref U) = some (.type "type")) (h4 : PySem.W.subIn K (.ref S) (.ref U) = some b) :
    PySem.W.exmOne K (.ref S) (.ref U) = some b := by
  have h2' : (PySem.W.clsIn K U).isSome = true := h2
  simp [PySem.W.exmOne, PySem.W.kitCls, h1, h2', h3, h4]
theorem kit_self {K : PySem.W.Frag} {C : Addr} : PySem.W.kitOne K (.ref C) (.ref C) = some true := by
  unfold PySem.W.kitOne
  simp
theorem kit_own {K : PySem.W.Frag} {C D : Addr} {b : Bool} (n : C ≠ D) (h : PySem.W.isClsIn K D = true) (ht : PySem.W.typeIn K (.ref D) = some (.type "type")) (hs : PySem.W.subIn K (.ref C) (.ref D) = some b) : PySem.W.kitOne K (.ref C) (.ref D) = some b := by
  have h' : (PySem.W.clsIn K D).isSome = true := h
  have e : (Value.ref C == Value.ref D) = false := by simpa using n
  simp [PySem.W.kitOne, PySem.W.kitCls, e, h', ht, hs]
theorem kit_ty {K : PySem.W.Frag} {C : Addr} {T : String} {b : Bool} (hT : PySem.W.kitMeta T = true) (hs : PySem.W.subIn K (.ref C) (.type T) = some b) : PySem.W.kitOne K (.ref C) (.type T) = some b := by
  have e : (Value.ref C == Value.type T) = false := rfl
  simp [PySem.W.kitOne, PySem.W.kitCls, e, hT, hs]
theorem kit_not {K : PySem.W.Frag} {C : Addr} {T : String} (h : PySem.W.isClsIn K C = true) (ht : PySem.W.typeIn K (.ref C) = some (.type "type")) (hs : PySem.W.subIn K (.type T) (.ref C) = some false) : PySem.W.kitOne K (.type T) (.ref C) = some false := by
  have h' : (PySem.W.clsIn K C).isSome = true := h
  have e : (Value.type T == Value.ref C) = false := rfl
  simp [PySem.W.kitOne, PySem.W.kitCls, e, h', ht, hs]
theorem of_len1 {us : List Value} (hl : us.length = 1) : ∃ a, us = [a] := List.length_eq_one_iff.mp hl
theorem of_lenS {us : List Value} {n : Nat} (hl : us.length = n + 1) : ∃ a t, us = a :: t ∧ t.length = n := by
  cases us with
  | nil => exact absurd hl (Nat.succ_ne_zero n).symm
  | cons a us => exact ⟨a, us, rfl, Nat.succ.inj hl⟩
theorem of_len2 {us : List Value} (hl : us.length = 2) : ∃ a b, us = [a, b] := by
  obtain ⟨a, t, rfl, h⟩ := of_lenS hl
  obtain ⟨b, rfl⟩ := of_len1 h
  exact ⟨a, b, rfl⟩
theorem of_len3 {us : List Value} (hl : us.length = 3) : ∃ a b c, us = [a, b, c] := by
  obtain ⟨a, t, rfl, h⟩ := of_lenS hl
  obtain ⟨b, c, rfl⟩ := of_len2 h
  exact ⟨a, b, c, rfl⟩
theorem of_len4 {us : List Value} (hl : us.length = 4) : ∃ a b c d, us = [a, b, c, d] := by
  obtain ⟨a, t, rfl, h⟩ := of_lenS hl
  obtain ⟨b, c, d, rfl⟩ := of_len3 h
  exact ⟨a, b, c, d, rfl⟩
theorem of_len5 {us : List Value} (hl : us.length = 5) : ∃ a b c d e, us = [a, b, c, d, e] := by
  obtain ⟨a, t, rfl, h⟩ := of_lenS hl
  obtain ⟨b, c, d, e, rfl⟩ := of_len4 h
  exact ⟨a, b, c, d, e, rfl⟩
theorem all_mk {l : PySem.W.OpenLaw} {w : World} {K : PySem.W.Frag} {h : Heap} {mg : Str → Option Value} {fa fWh fIn fIw fRw fFa fFr fNa fTr fHd fTp fTx fRk fKo fKw fDi fRo fPi fMx fKs fKk fEv fDh fRg fLa C fI0 TI0 tI0 fTq fEq fLs fSt fPn pPn fPs pPs fPr pPr fPh pPh fPt pPt fPf pPf : Addr} (X : K.In h) (G : h.Ns mainGlobals mg) (hfa : mg "law" = some (.ref fa))
    {odWh anWh : Option Addr} {slWh : Array (Option Value)} {ocWh kVWh dcWh pmWh cdWh ctWh : Value}
    {odIn anIn : Option Addr} {slIn : Array (Option Value)} {ocIn kVIn dcIn pmIn cdIn ctIn : Value}
    {odIw anIw : Option Addr} {slIw : Array (Option Value)} {ocIw kVIw dcIw pmIw cdIw ctIw : Value}
    {odRw anRw : Option Addr} {slRw : Array (Option Value)} {ocRw kVRw dcRw pmRw cdRw ctRw : Value}
    {odFa anFa : Option Addr} {slFa : Array (Option Value)} {ocFa kVFa dcFa pmFa cdFa ctFa : Value}
    {odFr anFr : Option Addr} {slFr : Array (Option Value)} {ocFr kVFr dcFr pmFr cdFr ctFr : Value}
    {odNa anNa : Option Addr} {slNa : Array (Option Value)} {ocNa kVNa dcNa pmNa cdNa ctNa : Value}
    {odTr anTr : Option Addr} {slTr : Array (Option Value)} {ocTr kVTr dcTr pmTr cdTr ctTr : Value}
    {odHd anHd : Option Addr} {slHd : Array (Option Value)} {ocHd kVHd dcHd pmHd cdHd ctHd : Value}
    {odTp anTp : Option Addr} {slTp : Array (Option Value)} {ocTp kVTp dcTp pmTp cdTp ctTp : Value}
    {odTx anTx : Option Addr} {slTx : Array (Option Value)} {ocTx kVTx dcTx pmTx cdTx ctTx : Value}
    {odRk anRk : Option Addr} {slRk : Array (Option Value)} {ocRk kVRk dcRk pmRk cdRk ctRk : Value}
    {odKo anKo : Option Addr} {slKo : Array (Option Value)} {ocKo kVKo dcKo pmKo cdKo ctKo : Value}
    {odKw anKw : Option Addr} {slKw : Array (Option Value)} {ocKw kVKw dcKw pmKw cdKw ctKw : Value}
    {odDi anDi : Option Addr} {slDi : Array (Option Value)} {ocDi kVDi dcDi pmDi cdDi ctDi : Value}
    {odRo anRo : Option Addr} {slRo : Array (Option Value)} {ocRo kVRo dcRo pmRo cdRo ctRo : Value}
    {odPi anPi : Option Addr} {slPi : Array (Option Value)} {ocPi kVPi dcPi pmPi cdPi ctPi : Value}
    {odMx anMx : Option Addr} {slMx : Array (Option Value)} {ocMx kVMx dcMx pmMx cdMx ctMx : Value}
    {odKs anKs : Option Addr} {slKs : Array (Option Value)} {ocKs kVKs dcKs pmKs cdKs ctKs : Value}
    {odKk anKk : Option Addr} {slKk : Array (Option Value)} {ocKk kVKk dcKk pmKk cdKk ctKk : Value}
    {odEv anEv : Option Addr} {slEv : Array (Option Value)} {ocEv kVEv dcEv pmEv cdEv ctEv : Value}
    {odDh anDh : Option Addr} {slDh : Array (Option Value)} {ocDh kVDh dcDh pmDh cdDh ctDh : Value}
    {odRg anRg : Option Addr} {slRg : Array (Option Value)} {ocRg kVRg dcRg pmRg cdRg ctRg : Value}
    {odLa anLa : Option Addr} {slLa : Array (Option Value)} {ocLa kVLa dcLa pmLa cdLa ctLa : Value}
    {odI0 anI0 : Option Addr} {slI0 : Array (Option Value)} {ocI0 kVI0 dcI0 pmI0 cdI0 ctI0 : Value}
    {o1I0 : Value} {o2I0 : Option Addr} {o3I0 : Nat} {o4I0 : Array (Option Value)} {o6I0 : Nat} {o7I0 : Array (Option Value)}
    {odTq anTq : Option Addr} {slTq : Array (Option Value)} {ocTq kVTq dcTq pmTq cdTq ctTq : Value}
    {odEq anEq : Option Addr} {slEq : Array (Option Value)} {ocEq kVEq dcEq pmEq cdEq ctEq : Value}
    {odLs anLs : Option Addr} {slLs : Array (Option Value)} {ocLs kVLs dcLs pmLs cdLs ctLs : Value}
    {odSt anSt : Option Addr} {slSt : Array (Option Value)} {ocSt kVSt dcSt pmSt cdSt ctSt : Value}
    {restPn : List Value}
    {odPn anPn : Option Addr} {slPn : Array (Option Value)} {ocPn kVPn dcPn pmPn cdPn ctPn : Value}
    {restPs : List Value}
    {odPs anPs : Option Addr} {slPs : Array (Option Value)} {ocPs kVPs dcPs pmPs cdPs ctPs : Value}
    {restPr : List Value}
    {odPr anPr : Option Addr} {slPr : Array (Option Value)} {ocPr kVPr dcPr pmPr cdPr ctPr : Value}
    {restPh : List Value}
    {odPh anPh : Option Addr} {slPh : Array (Option Value)} {ocPh kVPh dcPh pmPh cdPh ctPh : Value}
    {restPt : List Value}
    {odPt anPt : Option Addr} {slPt : Array (Option Value)} {ocPt kVPt dcPt pmPt cdPt ctPt : Value}
    {restPf : List Value}
    {odPf anPf : Option Addr} {slPf : Array (Option Value)} {ocPf kVPf dcPf pmPf cdPf ctPf : Value}
    {tkBOUND : Tok}
    {tkMAX_SIZE : Tok}
    (aWh : PySem.W.nsIn K mainGlobals "is_whole" = some (some (.ref fWh)))
    (lWh : K.lookup fWh = some ⟨ocWh, odWh, .func (PySem.W.fnOf "is_whole" "is_whole" (defArgs (sWhole)) (defBody (sWhole)) (defScope (sWhole)) .none kVWh dcWh pmWh anWh cdWh ctWh), slWh⟩)
    (cWh_ : PySem.W.codeIn K cdWh "is_whole" = true)
    (kWh : PySem.W.keepIn K (.ref fWh) = true)
    (aIn : PySem.W.nsIn K mainGlobals "is_integer" = some (some (.ref fIn)))
    (lIn : K.lookup fIn = some ⟨ocIn, odIn, .func (PySem.W.fnOf "is_integer" "is_integer" (defArgs (sInteger)) (defBody (sInteger)) (defScope (sInteger)) .none kVIn dcIn pmIn anIn cdIn ctIn), slIn⟩)
    (cIn_ : PySem.W.codeIn K cdIn "is_integer" = true)
    (kIn : PySem.W.keepIn K (.ref fIn) = true)
    (aIw : PySem.W.nsIn K mainGlobals "is_within" = some (some (.ref fIw)))
    (lIw : K.lookup fIw = some ⟨ocIw, odIw, .func (PySem.W.fnOf "is_within" "is_within" (defArgs (sIsWithin)) (defBody (sIsWithin)) (defScope (sIsWithin)) .none kVIw dcIw pmIw anIw cdIw ctIw), slIw⟩)
    (cIw_ : PySem.W.codeIn K cdIw "is_within" = true)
    (kIw : PySem.W.keepIn K (.ref fIw) = true)
    (aRw : PySem.W.nsIn K mainGlobals "require_within" = some (some (.ref fRw)))
    (lRw : K.lookup fRw = some ⟨ocRw, odRw, .func (PySem.W.fnOf "require_within" "require_within" (defArgs (sReqWi)) (defBody (sReqWi)) (defScope (sReqWi)) .none kVRw dcRw pmRw anRw cdRw ctRw), slRw⟩)
    (cRw_ : PySem.W.codeIn K cdRw "require_within" = true)
    (kRw : PySem.W.keepIn K (.ref fRw) = true)
    (aFa : PySem.W.nsIn K mainGlobals "is_falling" = some (some (.ref fFa)))
    (lFa : K.lookup fFa = some ⟨ocFa, odFa, .func (PySem.W.fnOf "is_falling" "is_falling" (defArgs (sFalling)) (defBody (sFalling)) (defScope (sFalling)) .none kVFa dcFa pmFa anFa cdFa ctFa), slFa⟩)
    (cFa_ : PySem.W.codeIn K cdFa "is_falling" = true)
    (kFa : PySem.W.keepIn K (.ref fFa) = true)
    (aFr : PySem.W.nsIn K mainGlobals "falling_rows" = some (some (.ref fFr)))
    (lFr : K.lookup fFr = some ⟨ocFr, odFr, .func (PySem.W.fnOf "falling_rows" "falling_rows" (defArgs (sFR)) (defBody (sFR)) (defScope (sFR)) .none kVFr dcFr pmFr anFr cdFr ctFr), slFr⟩)
    (cFr_ : PySem.W.codeIn K cdFr "falling_rows" = true)
    (kFr : PySem.W.keepIn K (.ref fFr) = true)
    (aNa : PySem.W.nsIn K mainGlobals "number_at" = some (some (.ref fNa)))
    (lNa : K.lookup fNa = some ⟨ocNa, odNa, .func (PySem.W.fnOf "number_at" "number_at" (defArgs (sNumAt)) (defBody (sNumAt)) (defScope (sNumAt)) .none kVNa dcNa pmNa anNa cdNa ctNa), slNa⟩)
    (cNa_ : PySem.W.codeIn K cdNa "number_at" = true)
    (kNa : PySem.W.keepIn K (.ref fNa) = true)
    (aTr : PySem.W.nsIn K mainGlobals "turned_row" = some (some (.ref fTr)))
    (lTr : K.lookup fTr = some ⟨ocTr, odTr, .func (PySem.W.fnOf "turned_row" "turned_row" (defArgs (sTurned)) (defBody (sTurned)) (defScope (sTurned)) .none kVTr dcTr pmTr anTr cdTr ctTr), slTr⟩)
    (cTr_ : PySem.W.codeIn K cdTr "turned_row" = true)
    (kTr : PySem.W.keepIn K (.ref fTr) = true)
    (aHd : PySem.W.nsIn K mainGlobals "is_held" = some (some (.ref fHd)))
    (lHd : K.lookup fHd = some ⟨ocHd, odHd, .func (PySem.W.fnOf "is_held" "is_held" (defArgs (sHeld)) (defBody (sHeld)) (defScope (sHeld)) .none kVHd dcHd pmHd anHd cdHd ctHd), slHd⟩)
    (cHd_ : PySem.W.codeIn K cdHd "is_held" = true)
    (kHd : PySem.W.keepIn K (.ref fHd) = true)
    (aTp : PySem.W.nsIn K mainGlobals "is_topped" = some (some (.ref fTp)))
    (lTp : K.lookup fTp = some ⟨ocTp, odTp, .func (PySem.W.fnOf "is_topped" "is_topped" (defArgs (sTopped)) (defBody (sTopped)) (defScope (sTopped)) .none kVTp dcTp pmTp anTp cdTp ctTp), slTp⟩)
    (cTp_ : PySem.W.codeIn K cdTp "is_topped" = true)
    (kTp : PySem.W.keepIn K (.ref fTp) = true)
    (aTx : PySem.W.nsIn K mainGlobals "falling_text" = some (some (.ref fTx)))
    (lTx : K.lookup fTx = some ⟨ocTx, odTx, .func (PySem.W.fnOf "falling_text" "falling_text" (defArgs (sFTx)) (defBody (sFTx)) (defScope (sFTx)) .none kVTx dcTx pmTx anTx cdTx ctTx), slTx⟩)
    (cTx_ : PySem.W.codeIn K cdTx "falling_text" = true)
    (kTx : PySem.W.keepIn K (.ref fTx) = true)
    (aRk : PySem.W.nsIn K mainGlobals "require_kind" = some (some (.ref fRk)))
    (lRk : K.lookup fRk = some ⟨ocRk, odRk, .func (PySem.W.fnOf "require_kind" "require_kind" (defArgs (sReqKind)) (defBody (sReqKind)) (defScope (sReqKind)) .none kVRk dcRk pmRk anRk cdRk ctRk), slRk⟩)
    (cRk_ : PySem.W.codeIn K cdRk "require_kind" = true)
    (kRk : PySem.W.keepIn K (.ref fRk) = true)
    (aKo : PySem.W.nsIn K mainGlobals "kinds_of" = some (some (.ref fKo)))
    (lKo : K.lookup fKo = some ⟨ocKo, odKo, .func (PySem.W.fnOf "kinds_of" "kinds_of" (defArgs (sKindsOf)) (defBody (sKindsOf)) (defScope (sKindsOf)) .none kVKo dcKo pmKo anKo cdKo ctKo), slKo⟩)
    (cKo_ : PySem.W.codeIn K cdKo "kinds_of" = true)
    (kKo : PySem.W.keepIn K (.ref fKo) = true)
    (aKw : PySem.W.nsIn K mainGlobals "kinds_within" = some (some (.ref fKw)))
    (lKw : K.lookup fKw = some ⟨ocKw, odKw, .func (PySem.W.fnOf "kinds_within" "kinds_within" (defArgs (sKindsWi)) (defBody (sKindsWi)) (defScope (sKindsWi)) .none kVKw dcKw pmKw anKw cdKw ctKw), slKw⟩)
    (cKw_ : PySem.W.codeIn K cdKw "kinds_within" = true)
    (kKw : PySem.W.keepIn K (.ref fKw) = true)
    (aDi : PySem.W.nsIn K mainGlobals "_law_dice" = some (some (.ref fDi)))
    (lDi : K.lookup fDi = some ⟨ocDi, odDi, .func (PySem.W.fnOf "_law_dice" "_law_dice" (defArgs (sDice)) (defBody (sDice)) (defScope (sDice)) .none kVDi dcDi pmDi anDi cdDi ctDi), slDi⟩)
    (cDi_ : PySem.W.codeIn K cdDi "_law_dice" = true)
    (kDi : PySem.W.keepIn K (.ref fDi) = true)
    (aRo : PySem.W.nsIn K mainGlobals "_law_roll" = some (some (.ref fRo)))
    (lRo : K.lookup fRo = some ⟨ocRo, odRo, .func (PySem.W.fnOf "_law_roll" "_law_roll" (defArgs (sRoll)) (defBody (sRoll)) (defScope (sRoll)) .none kVRo dcRo pmRo anRo cdRo ctRo), slRo⟩)
    (cRo_ : PySem.W.codeIn K cdRo "_law_roll" = true)
    (kRo : PySem.W.keepIn K (.ref fRo) = true)
    (aPi : PySem.W.nsIn K mainGlobals "_law_pick" = some (some (.ref fPi)))
    (lPi : K.lookup fPi = some ⟨ocPi, odPi, .func (PySem.W.fnOf "_law_pick" "_law_pick" (defArgs (sPick)) (defBody (sPick)) (defScope (sPick)) .none kVPi dcPi pmPi anPi cdPi ctPi), slPi⟩)
    (cPi_ : PySem.W.codeIn K cdPi "_law_pick" = true)
    (kPi : PySem.W.keepIn K (.ref fPi) = true)
    (aMx : PySem.W.nsIn K mainGlobals "_law_mixed" = some (some (.ref fMx)))
    (lMx : K.lookup fMx = some ⟨ocMx, odMx, .func (PySem.W.fnOf "_law_mixed" "_law_mixed" (defArgs (sMixed)) (defBody (sMixed)) (defScope (sMixed)) .none kVMx dcMx pmMx anMx cdMx ctMx), slMx⟩)
    (cMx_ : PySem.W.codeIn K cdMx "_law_mixed" = true)
    (kMx : PySem.W.keepIn K (.ref fMx) = true)
    (aKs : PySem.W.nsIn K mainGlobals "_law_kinds" = some (some (.ref fKs)))
    (lKs : K.lookup fKs = some ⟨ocKs, odKs, .func (PySem.W.fnOf "_law_kinds" "_law_kinds" (defArgs (sKindsO)) (defBody (sKindsO)) (defScope (sKindsO)) .none kVKs dcKs pmKs anKs cdKs ctKs), slKs⟩)
    (cKs_ : PySem.W.codeIn K cdKs "_law_kinds" = true)
    (kKs : PySem.W.keepIn K (.ref fKs) = true)
    (aKk : PySem.W.nsIn K mainGlobals "_law_kind_key" = some (some (.ref fKk)))
    (lKk : K.lookup fKk = some ⟨ocKk, odKk, .func (PySem.W.fnOf "_law_kind_key" "_law_kind_key" (defArgs (sKey)) (defBody (sKey)) (defScope (sKey)) .none kVKk dcKk pmKk anKk cdKk ctKk), slKk⟩)
    (cKk_ : PySem.W.codeIn K cdKk "_law_kind_key" = true)
    (kKk : PySem.W.keepIn K (.ref fKk) = true)
    (aEv : PySem.W.nsIn K mainGlobals "_law_every_kind" = some (some (.ref fEv)))
    (lEv : K.lookup fEv = some ⟨ocEv, odEv, .func (PySem.W.fnOf "_law_every_kind" "_law_every_kind" (defArgs (sEvery)) (defBody (sEvery)) (defScope (sEvery)) .none kVEv dcEv pmEv anEv cdEv ctEv), slEv⟩)
    (cEv_ : PySem.W.codeIn K cdEv "_law_every_kind" = true)
    (kEv : PySem.W.keepIn K (.ref fEv) = true)
    (aDh : PySem.W.nsIn K mainGlobals "_law_does_hold" = some (some (.ref fDh)))
    (lDh : K.lookup fDh = some ⟨ocDh, odDh, .func (PySem.W.fnOf "_law_does_hold" "_law_does_hold" (defArgs (sDoesHold)) (defBody (sDoesHold)) (defScope (sDoesHold)) .none kVDh dcDh pmDh anDh cdDh ctDh), slDh⟩)
    (cDh_ : PySem.W.codeIn K cdDh "_law_does_hold" = true)
    (kDh : PySem.W.keepIn K (.ref fDh) = true)
    (aRg : PySem.W.nsIn K mainGlobals "_law_right" = some (some (.ref fRg)))
    (lRg : K.lookup fRg = some ⟨ocRg, odRg, .func (PySem.W.fnOf "_law_right" "_law_right" (defArgs (sRight)) (defBody (sRight)) (defScope (sRight)) .none kVRg dcRg pmRg anRg cdRg ctRg), slRg⟩)
    (cRg_ : PySem.W.codeIn K cdRg "_law_right" = true)
    (kRg : PySem.W.keepIn K (.ref fRg) = true)
    (aLa : PySem.W.nsIn K mainGlobals "law" = some (some (.ref fLa)))
    (lLa : K.lookup fLa = some ⟨ocLa, odLa, .func (PySem.W.fnOf "law" "law" (defArgs (sLaw)) (defBody (sLaw)) (defScope (sLaw)) .none kVLa dcLa pmLa anLa cdLa ctLa), slLa⟩)
    (cLa_ : PySem.W.codeIn K cdLa "law" = true)
    (kLa : PySem.W.keepIn K (.ref fLa) = true)
    (aC : PySem.W.nsIn K mainGlobals "Kind" = some (some (.ref C)))
    (pgC : PySem.W.plainGet K C Str.empty = true)
    (hdC : PySem.W.hasDictIn K C = true)
    (poC : PySem.W.plainOver K C = true)
    (saC : PySem.W.findIn K (.ref C) "__setattr__" = some (some (.builtin "object.__setattr__")))
    (mkC : PySem.W.makesIn K C = true)
    (kcC : PySem.W.keepIn K (.ref C) = true)
    (haC : PySem.W.findIn K (.ref C) "__class__" = some (some (.builtin "object.__class__")))
    (hmC : PySem.W.mroIn K C (.type "object") = some true)
    (ciC : PySem.W.isClsIn K C = true)
    (ctC : PySem.W.typeIn K (.ref C) = some (.type "type"))
    (neC : PySem.W.findIn K (.ref C) "__ne__" = some (some (.builtin "object.__ne__")))
    (sfC : PySem.W.selfFirst K C = true)
    (no0C : PySem.W.findIn K (.ref C) "_numbers" = some none)
    (no1C : PySem.W.findIn K (.ref C) "_place" = some none)
    (hn : PySem.W.specialIn K (.builtin "object.__class__") "__get__" = some (some (.builtin "getset_descriptor.__get__")))
    (htk : PySem.W.takesIn K (.builtin "object.__class__") = some true)
    (aI0 : PySem.W.findIn K (.ref C) "__init__" = some (some (.ref fI0)))
    (lI0 : K.lookup fI0 = some ⟨ocI0, odI0, .func (PySem.W.fnOf "__init__" "Kind.__init__" (defArgs (cls 0)) (defBody (cls 0)) (defScope (cls 0)) (.ref TI0) kVI0 dcI0 pmI0 anI0 cdI0 ctI0), slI0⟩)
    (cI0_ : PySem.W.codeIn K cdI0 "Kind.__init__" = true)
    (kI0 : PySem.W.keepIn K (.ref fI0) = true)
    (iI0 : PySem.W.isFn K (.ref fI0) = true)
    (LI0 : K.lookup TI0 = some ⟨o1I0, o2I0, .seq #[.ref tI0] o3I0, o4I0⟩)
    (mI0 : K.lookup tI0 = some ⟨.type "tuple", none, .seq #[] o6I0, o7I0⟩)
    (aTq : PySem.W.findIn K (.ref C) "tops" = some (some (.ref fTq)))
    (lTq : K.lookup fTq = some ⟨ocTq, odTq, .func (PySem.W.fnOf "tops" "Kind.tops" (defArgs (cls 12)) (defBody (cls 12)) (defScope (cls 12)) .none kVTq dcTq pmTq anTq cdTq ctTq), slTq⟩)
    (cTq_ : PySem.W.codeIn K cdTq "Kind.tops" = true)
    (kTq : PySem.W.keepIn K (.ref fTq) = true)
    (iTq : PySem.W.isFn K (.ref fTq) = true)
    (jTq : PySem.W.fnIn K fTq = true)
    (aEq : PySem.W.findIn K (.ref C) "__eq__" = some (some (.ref fEq)))
    (lEq : K.lookup fEq = some ⟨ocEq, odEq, .func (PySem.W.fnOf "__eq__" "Kind.__eq__" (defArgs (cls 19)) (defBody (cls 19)) (defScope (cls 19)) .none kVEq dcEq pmEq anEq cdEq ctEq), slEq⟩)
    (cEq_ : PySem.W.codeIn K cdEq "Kind.__eq__" = true)
    (kEq : PySem.W.keepIn K (.ref fEq) = true)
    (iEq : PySem.W.isFn K (.ref fEq) = true)
    (jEq : PySem.W.fnIn K fEq = true)
    (aLs : PySem.W.findIn K (.ref C) "__lt__" = some (some (.ref fLs)))
    (lLs : K.lookup fLs = some ⟨ocLs, odLs, .func (PySem.W.fnOf "__lt__" "Kind.__lt__" (defArgs (cls 20)) (defBody (cls 20)) (defScope (cls 20)) .none kVLs dcLs pmLs anLs cdLs ctLs), slLs⟩)
    (cLs_ : PySem.W.codeIn K cdLs "Kind.__lt__" = true)
    (kLs : PySem.W.keepIn K (.ref fLs) = true)
    (iLs : PySem.W.isFn K (.ref fLs) = true)
    (jLs : PySem.W.fnIn K fLs = true)
    (aSt : PySem.W.findIn K (.ref C) "__str__" = some (some (.ref fSt)))
    (lSt : K.lookup fSt = some ⟨ocSt, odSt, .func (PySem.W.fnOf "__str__" "Kind.__str__" (defArgs (cls 21)) (defBody (cls 21)) (defScope (cls 21)) .none kVSt dcSt pmSt anSt cdSt ctSt), slSt⟩)
    (cSt_ : PySem.W.codeIn K cdSt "Kind.__str__" = true)
    (kSt : PySem.W.keepIn K (.ref fSt) = true)
    (iSt : PySem.W.isFn K (.ref fSt) = true)
    (jSt : PySem.W.fnIn K fSt = true)
    (aPn : PySem.W.findIn K (.ref C) "numbers" = some (some (.ref pPn)))
    (gPn : PySem.W.specialIn K (.ref pPn) "__get__" = some (some (.builtin "property.__get__")))
    (tPn_ : PySem.W.takesIn K (.ref pPn) = some true)
    (rPn : PySem.W.recIn K pPn "property" = some (.ref fPn :: restPn))
    (lPn : K.lookup fPn = some ⟨ocPn, odPn, .func (PySem.W.fnOf "numbers" "Kind.numbers" (defArgs (cls 2)) (defBody (cls 2)) (defScope (cls 2)) .none kVPn dcPn pmPn anPn cdPn ctPn), slPn⟩)
    (cPn_ : PySem.W.codeIn K cdPn "Kind.numbers" = true)
    (kPn : PySem.W.keepIn K (.ref fPn) = true)
    (aPs : PySem.W.findIn K (.ref C) "size" = some (some (.ref pPs)))
    (gPs : PySem.W.specialIn K (.ref pPs) "__get__" = some (some (.builtin "property.__get__")))
    (tPs_ : PySem.W.takesIn K (.ref pPs) = some true)
    (rPs : PySem.W.recIn K pPs "property" = some (.ref fPs :: restPs))
    (lPs : K.lookup fPs = some ⟨ocPs, odPs, .func (PySem.W.fnOf "size" "Kind.size" (defArgs (cls 3)) (defBody (cls 3)) (defScope (cls 3)) .none kVPs dcPs pmPs anPs cdPs ctPs), slPs⟩)
    (cPs_ : PySem.W.codeIn K cdPs "Kind.size" = true)
    (kPs : PySem.W.keepIn K (.ref fPs) = true)
    (aPr : PySem.W.findIn K (.ref C) "rank" = some (some (.ref pPr)))
    (gPr : PySem.W.specialIn K (.ref pPr) "__get__" = some (some (.builtin "property.__get__")))
    (tPr_ : PySem.W.takesIn K (.ref pPr) = some true)
    (rPr : PySem.W.recIn K pPr "property" = some (.ref fPr :: restPr))
    (lPr : K.lookup fPr = some ⟨ocPr, odPr, .func (PySem.W.fnOf "rank" "Kind.rank" (defArgs (cls 4)) (defBody (cls 4)) (defScope (cls 4)) .none kVPr dcPr pmPr anPr cdPr ctPr), slPr⟩)
    (cPr_ : PySem.W.codeIn K cdPr "Kind.rank" = true)
    (kPr : PySem.W.keepIn K (.ref fPr) = true)
    (aPh : PySem.W.findIn K (.ref C) "height" = some (some (.ref pPh)))
    (gPh : PySem.W.specialIn K (.ref pPh) "__get__" = some (some (.builtin "property.__get__")))
    (tPh_ : PySem.W.takesIn K (.ref pPh) = some true)
    (rPh : PySem.W.recIn K pPh "property" = some (.ref fPh :: restPh))
    (lPh : K.lookup fPh = some ⟨ocPh, odPh, .func (PySem.W.fnOf "height" "Kind.height" (defArgs (cls 5)) (defBody (cls 5)) (defScope (cls 5)) .none kVPh dcPh pmPh anPh cdPh ctPh), slPh⟩)
    (cPh_ : PySem.W.codeIn K cdPh "Kind.height" = true)
    (kPh : PySem.W.keepIn K (.ref fPh) = true)
    (aPt : PySem.W.findIn K (.ref C) "turned" = some (some (.ref pPt)))
    (gPt : PySem.W.specialIn K (.ref pPt) "__get__" = some (some (.builtin "property.__get__")))
    (tPt_ : PySem.W.takesIn K (.ref pPt) = some true)
    (rPt : PySem.W.recIn K pPt "property" = some (.ref fPt :: restPt))
    (lPt : K.lookup fPt = some ⟨ocPt, odPt, .func (PySem.W.fnOf "turned" "Kind.turned" (defArgs (cls 7)) (defBody (cls 7)) (defScope (cls 7)) .none kVPt dcPt pmPt anPt cdPt ctPt), slPt⟩)
    (cPt_ : PySem.W.codeIn K cdPt "Kind.turned" = true)
    (kPt : PySem.W.keepIn K (.ref fPt) = true)
    (aPf : PySem.W.findIn K (.ref C) "is_flat" = some (some (.ref pPf)))
    (gPf : PySem.W.specialIn K (.ref pPf) "__get__" = some (some (.builtin "property.__get__")))
    (tPf_ : PySem.W.takesIn K (.ref pPf) = some true)
    (rPf : PySem.W.recIn K pPf "property" = some (.ref fPf :: restPf))
    (lPf : K.lookup fPf = some ⟨ocPf, odPf, .func (PySem.W.fnOf "is_flat" "Kind.is_flat" (defArgs (cls 9)) (defBody (cls 9)) (defScope (cls 9)) .none kVPf dcPf pmPf anPf cdPf ctPf), slPf⟩)
    (cPf_ : PySem.W.codeIn K cdPf "Kind.is_flat" = true)
    (kPf : PySem.W.keepIn K (.ref fPf) = true)
    (z_isinstance : PySem.W.nsIn K mainGlobals "isinstance" = some none)
    (z_int : PySem.W.nsIn K mainGlobals "int" = some none)
    (z_bool : PySem.W.nsIn K mainGlobals "bool" = some none)
    (z_str : PySem.W.nsIn K mainGlobals "str" = some none)
    (z_tuple : PySem.W.nsIn K mainGlobals "tuple" = some none)
    (z_list : PySem.W.nsIn K mainGlobals "list" = some none)
    (z_dict : PySem.W.nsIn K mainGlobals "dict" = some none)
    (z_len : PySem.W.nsIn K mainGlobals "len" = some none)
    (z_all : PySem.W.nsIn K mainGlobals "all" = some none)
    (z_any : PySem.W.nsIn K mainGlobals "any" = some none)
    (z_sum : PySem.W.nsIn K mainGlobals "sum" = some none)
    (z_iter : PySem.W.nsIn K mainGlobals "iter" = some none)
    (z_max : PySem.W.nsIn K mainGlobals "max" = some none)
    (z_min : PySem.W.nsIn K mainGlobals "min" = some none)
    (z_abs : PySem.W.nsIn K mainGlobals "abs" = some none)
    (z_range : PySem.W.nsIn K mainGlobals "range" = some none)
    (z_repr : PySem.W.nsIn K mainGlobals "repr" = some none)
    (z_sorted : PySem.W.nsIn K mainGlobals "sorted" = some none)
    (z_enumerate : PySem.W.nsIn K mainGlobals "enumerate" = some none)
    (z_zip : PySem.W.nsIn K mainGlobals "zip" = some none)
    (v_BOUND : PySem.W.nsIn K mainGlobals "BOUND" = some (some (.int (10 ^ 60) tkBOUND)))
    (v_MAX_SIZE : PySem.W.nsIn K mainGlobals "MAX_SIZE" = some (some (.int (12) tkMAX_SIZE)))
    : ∃ fd : FuncData, (∀ (s : Shared) (v : Value), BindsTo s fd ⟨[v], []⟩ [("_law_script", v)]) ∧ ∀ base : Heap, K.In base → base.Ns mainGlobals mg → FnG l.prog w K mg base CX0 17 fa fd ["_law_script"] (spLaw K) := by
  have e := hfa.symm.trans (PySem.W.mg_of X G aLa)
  cases e
  have FWh := fun_mk (st := sWhole) lWh cWh_ kWh
  have bWh := FWh.binds (ps := ["value"]) fun _ _ _ _ _ _ us hl => by obtain ⟨_, rfl⟩ := of_len1 hl; rfl
  have gWh_ := PySem.W.mg_of X G aWh
  have FIn := fun_mk (st := sInteger) lIn cIn_ kIn
  have bIn := FIn.binds (ps := ["value"]) fun _ _ _ _ _ _ us hl => by obtain ⟨_, rfl⟩ := of_len1 hl; rfl
  have gIn_ := PySem.W.mg_of X G aIn
  have FIw := fun_mk (st := sIsWithin) lIw cIw_ kIw
  have bIw := FIw.binds (ps := ["value", "low", "high"]) fun _ _ _ _ _ _ us hl => by obtain ⟨_, _, _, rfl⟩ := of_len3 hl; rfl
  have gIw_ := PySem.W.mg_of X G aIw
  have FRw := fun_mk (st := sReqWi) lRw cRw_ kRw
  have bRw := FRw.binds (ps := ["value", "low", "high"]) fun _ _ _ _ _ _ us hl => by obtain ⟨_, _, _, rfl⟩ := of_len3 hl; rfl
  have gRw_ := PySem.W.mg_of X G aRw
  have FFa := fun_mk (st := sFalling) lFa cFa_ kFa
  have bFa := FFa.binds (ps := ["value", "most"]) fun _ _ _ _ _ _ us hl => by obtain ⟨_, _, rfl⟩ := of_len2 hl; rfl
  have gFa_ := PySem.W.mg_of X G aFa
  have FFr := fun_mk (st := sFR) lFr cFr_ kFr
  have bFr := FFr.binds (ps := ["total", "greatest"]) fun _ _ _ _ _ _ us hl => by obtain ⟨_, _, rfl⟩ := of_len2 hl; rfl
  have gFr_ := PySem.W.mg_of X G aFr
  have FNa := fun_mk (st := sNumAt) lNa cNa_ kNa
  have bNa := FNa.binds (ps := ["row", "index"]) fun _ _ _ _ _ _ us hl => by obtain ⟨_, _, rfl⟩ := of_len2 hl; rfl
  have gNa_ := PySem.W.mg_of X G aNa
  have FTr := fun_mk (st := sTurned) lTr cTr_ kTr
  have bTr := FTr.binds (ps := ["row"]) fun _ _ _ _ _ _ us hl => by obtain ⟨_, rfl⟩ := of_len1 hl; rfl
  have gTr_ := PySem.W.mg_of X G aTr
  have FHd := fun_mk (st := sHeld) lHd cHd_ kHd
  have bHd := FHd.binds (ps := ["row", "other"]) fun _ _ _ _ _ _ us hl => by obtain ⟨_, _, rfl⟩ := of_len2 hl; rfl
  have gHd_ := PySem.W.mg_of X G aHd
  have FTp := fun_mk (st := sTopped) lTp cTp_ kTp
  have bTp := FTp.binds (ps := ["row", "other"]) fun _ _ _ _ _ _ us hl => by obtain ⟨_, _, rfl⟩ := of_len2 hl; rfl
  have gTp_ := PySem.W.mg_of X G aTp
  have FTx := fun_mk (st := sFTx) lTx cTx_ kTx
  have bTx := FTx.binds (ps := ["row"]) fun _ _ _ _ _ _ us hl => by obtain ⟨_, rfl⟩ := of_len1 hl; rfl
  have gTx_ := PySem.W.mg_of X G aTx
  have FRk := fun_mk (st := sReqKind) lRk cRk_ kRk
  have bRk := FRk.binds (ps := ["value"]) fun _ _ _ _ _ _ us hl => by obtain ⟨_, rfl⟩ := of_len1 hl; rfl
  have gRk_ := PySem.W.mg_of X G aRk
  have FKo := fun_mk (st := sKindsOf) lKo cKo_ kKo
  have bKo := FKo.binds (ps := ["size"]) fun _ _ _ _ _ _ us hl => by obtain ⟨_, rfl⟩ := of_len1 hl; rfl
  have gKo_ := PySem.W.mg_of X G aKo
  have FKw := fun_mk (st := sKindsWi) lKw cKw_ kKw
  have bKw := FKw.binds (ps := ["kind"]) fun _ _ _ _ _ _ us hl => by obtain ⟨_, rfl⟩ := of_len1 hl; rfl
  have gKw_ := PySem.W.mg_of X G aKw
  have FDi := fun_mk (st := sDice) lDi cDi_ kDi
  have bDi := FDi.binds (ps := ["_law_script", "_law_spot"]) fun _ _ _ _ _ _ us hl => by obtain ⟨_, _, rfl⟩ := of_len2 hl; rfl
  have gDi_ := PySem.W.mg_of X G aDi
  have FRo := fun_mk (st := sRoll) lRo cRo_ kRo
  have bRo := FRo.binds (ps := ["_law_dice_here", "_law_total"]) fun _ _ _ _ _ _ us hl => by obtain ⟨_, _, rfl⟩ := of_len2 hl; rfl
  have gRo_ := PySem.W.mg_of X G aRo
  have FPi := fun_mk (st := sPick) lPi cPi_ kPi
  have bPi := FPi.binds (ps := ["_law_dice_here", "_law_items"]) fun _ _ _ _ _ _ us hl => by obtain ⟨_, _, rfl⟩ := of_len2 hl; rfl
  have gPi_ := PySem.W.mg_of X G aPi
  have FMx := fun_mk (st := sMixed) lMx cMx_ kMx
  have bMx := FMx.binds (ps := ["_law_dice_here", "_law_items"]) fun _ _ _ _ _ _ us hl => by obtain ⟨_, _, rfl⟩ := of_len2 hl; rfl
  have gMx_ := PySem.W.mg_of X G aMx
  have FKs := fun_mk (st := sKindsO) lKs cKs_ kKs
  have bKs := FKs.binds (ps := ["_law_size"]) fun _ _ _ _ _ _ us hl => by obtain ⟨_, rfl⟩ := of_len1 hl; rfl
  have gKs_ := PySem.W.mg_of X G aKs
  have FKk := fun_mk (st := sKey) lKk cKk_ kKk
  have bKk := FKk.binds (ps := ["_law_kind"]) fun _ _ _ _ _ _ us hl => by obtain ⟨_, rfl⟩ := of_len1 hl; rfl
  have gKk_ := PySem.W.mg_of X G aKk
  have FEv := fun_mk (st := sEvery) lEv cEv_ kEv
  have bEv := FEv.binds (ps := ["_law_most"]) fun _ _ _ _ _ _ us hl => by obtain ⟨_, rfl⟩ := of_len1 hl; rfl
  have gEv_ := PySem.W.mg_of X G aEv
  have FDh := fun_mk (st := sDoesHold) lDh cDh_ kDh
  have bDh := FDh.binds (ps := ["_law_kind", "_law_other"]) fun _ _ _ _ _ _ us hl => by obtain ⟨_, _, rfl⟩ := of_len2 hl; rfl
  have gDh_ := PySem.W.mg_of X G aDh
  have FRg := fun_mk (st := sRight) lRg cRg_ kRg
  have bRg := FRg.binds (ps := ["_law_dice_here"]) fun _ _ _ _ _ _ us hl => by obtain ⟨_, rfl⟩ := of_len1 hl; rfl
  have gRg_ := PySem.W.mg_of X G aRg
  have FLa := fun_mk (st := sLaw) lLa cLa_ kLa
  have FTq := fun_mk (st := cls 12) lTq cTq_ kTq
  have bTq := FTq.binds (ps := ["self", "other"]) fun _ _ _ _ _ _ us hl => by obtain ⟨_, _, rfl⟩ := of_len2 hl; rfl
  have MTq : Meth K C "tops" fTq := ⟨aTq, iTq, kTq⟩
  have FEq := fun_mk (st := cls 19) lEq cEq_ kEq
  have bEq := FEq.binds (ps := ["self", "other"]) fun _ _ _ _ _ _ us hl => by obtain ⟨_, _, rfl⟩ := of_len2 hl; rfl
  have MEq : Meth K C "__eq__" fEq := ⟨aEq, iEq, kEq⟩
  have FLs := fun_mk (st := cls 20) lLs cLs_ kLs
  have bLs := FLs.binds (ps := ["self", "other"]) fun _ _ _ _ _ _ us hl => by obtain ⟨_, _, rfl⟩ := of_len2 hl; rfl
  have MLs : Meth K C "__lt__" fLs := ⟨aLs, iLs, kLs⟩
  have FSt := fun_mk (st := cls 21) lSt cSt_ kSt
  have bSt := FSt.binds (ps := ["self"]) fun _ _ _ _ _ _ us hl => by obtain ⟨_, rfl⟩ := of_len1 hl; rfl
  have MSt : Meth K C "__str__" fSt := ⟨aSt, iSt, kSt⟩
  have FPn := fun_mk (st := cls 2) lPn cPn_ kPn
  have bPn := FPn.binds (ps := ["self"]) fun _ _ _ _ _ _ us hl => by obtain ⟨_, rfl⟩ := of_len1 hl; rfl
  have FPs := fun_mk (st := cls 3) lPs cPs_ kPs
  have bPs := FPs.binds (ps := ["self"]) fun _ _ _ _ _ _ us hl => by obtain ⟨_, rfl⟩ := of_len1 hl; rfl
  have FPr := fun_mk (st := cls 4) lPr cPr_ kPr
  have bPr := FPr.binds (ps := ["self"]) fun _ _ _ _ _ _ us hl => by obtain ⟨_, rfl⟩ := of_len1 hl; rfl
  have FPh := fun_mk (st := cls 5) lPh cPh_ kPh
  have bPh := FPh.binds (ps := ["self"]) fun _ _ _ _ _ _ us hl => by obtain ⟨_, rfl⟩ := of_len1 hl; rfl
  have FPt := fun_mk (st := cls 7) lPt cPt_ kPt
  have bPt := FPt.binds (ps := ["self"]) fun _ _ _ _ _ _ us hl => by obtain ⟨_, rfl⟩ := of_len1 hl; rfl
  have FPf := fun_mk (st := cls 9) lPf cPf_ kPf
  have bPf := FPf.binds (ps := ["self"]) fun _ _ _ _ _ _ us hl => by obtain ⟨_, rfl⟩ := of_len1 hl; rfl
  have Zisinstance := PySem.W.mg_none_of X G z_isinstance
  have Zint := PySem.W.mg_none_of X G z_int
  have Zbool := PySem.W.mg_none_of X G z_bool
  have Zstr := PySem.W.mg_none_of X G z_str
  have Ztuple := PySem.W.mg_none_of X G z_tuple
  have Zlist := PySem.W.mg_none_of X G z_list
  have Zdict := PySem.W.mg_none_of X G z_dict
  have Zlen := PySem.W.mg_none_of X G z_len
  have Zall := PySem.W.mg_none_of X G z_all
  have Zany := PySem.W.mg_none_of X G z_any
  have Zsum := PySem.W.mg_none_of X G z_sum
  have Ziter := PySem.W.mg_none_of X G z_iter
  have Zmax := PySem.W.mg_none_of X G z_max
  have Zmin := PySem.W.mg_none_of X G z_min
  have Zabs := PySem.W.mg_none_of X G z_abs
  have Zrange := PySem.W.mg_none_of X G z_range
  have Zrepr := PySem.W.mg_none_of X G z_repr
  have Zsorted := PySem.W.mg_none_of X G z_sorted
  have Zenumerate := PySem.W.mg_none_of X G z_enumerate
  have Zzip := PySem.W.mg_none_of X G z_zip
  have VBOUND : ∃ t, mg "BOUND" = some (.int (10 ^ 60) t) := ⟨tkBOUND, PySem.W.mg_of X G v_BOUND⟩
  have VMAX_SIZE : ∃ t, mg "MAX_SIZE" = some (.int (12) t) := ⟨tkMAX_SIZE, PySem.W.mg_of X G v_MAX_SIZE⟩
  refine ⟨PySem.W.fnOf "law" "law" (defArgs sLaw) (defBody sLaw) (defScope sLaw) .none kVLa dcLa pmLa anLa cdLa ctLa, fun s v => .of_eq rfl, fun base _ _ => ?_⟩
  have T : Txt K mg := ⟨Zisinstance, Zint, Zbool, Zstr, Ztuple, Zlist, Zdict, Zlen, Zall, Zany, Zsum, Ziter, Zmax, Zmin, Zabs, Zrange, Zrepr, Zsorted, Zenumerate, Zzip, VBOUND⟩
  have Cl : KC K mg C := { cl := ⟨pgC, hdC, poC, saC⟩, noN := no0C, noP := no1C, g := PySem.W.mg_of X G aC, kp := kcC, ha := haC, hn := hn, htk := htk, hm := hmC, kit := kit_self, ne := ⟨neC, hmC⟩, most := VMAX_SIZE }
  have FI : FnI K tI0 fI0 (PySem.W.fnOf "__init__" "Kind.__init__" (defArgs (cls 0)) (defBody (cls 0)) (defScope (cls 0)) (.ref TI0) kVI0 dcI0 pmI0 anI0 cdI0 ctI0) := ⟨⟨ocI0, odI0, .ref TI0, kVI0, dcI0, pmI0, anI0, cdI0, ctI0, slI0, rfl, lI0, cI0_, .inr ⟨by simp, TI0, _, [.ref tI0], o3I0, rfl, LI0, rfl, .cons rfl .nil⟩, .inl rfl⟩, kI0⟩
  obtain ⟨ds, hds, b0⟩ : ∃ ds, Vals ([V.ref tI0].drop 0) ds ∧ Binds K (PySem.W.fnOf "__init__" "Kind.__init__" (defArgs (cls 0)) (defBody (cls 0)) (defScope (cls 0)) (.ref TI0) kVI0 dcI0 pmI0 anI0 cdI0 ctI0) ["self", "numbers"] ds := FI.binds1 1 0 (by simp) rfl fun T kV doc pm an cdv ct us its h1 h2 => by obtain ⟨_, rfl⟩ := of_len1 h1; obtain ⟨_, rfl⟩ := of_len1 h2; exact ⟨_, rfl, rfl⟩
  have bI : Binds K (PySem.W.fnOf "__init__" "Kind.__init__" (defArgs (cls 0)) (defBody (cls 0)) (defScope (cls 0)) (.ref TI0) kVI0 dcI0 pmI0 anI0 cdI0 ctI0) ["self", "numbers"] [] := by
    obtain ⟨ds, h1, h2⟩ : ∃ ds, Vals ([V.ref tI0].drop 1) ds ∧ Binds K (PySem.W.fnOf "__init__" "Kind.__init__" (defArgs (cls 0)) (defBody (cls 0)) (defScope (cls 0)) (.ref TI0) kVI0 dcI0 pmI0 anI0 cdI0 ctI0) ["self", "numbers"] ds := FI.binds1 2 1 (by simp) rfl fun T kV doc pm an cdv ct us its h1 h2 => by obtain ⟨_, _, rfl⟩ := of_len2 h1; obtain ⟨_, rfl⟩ := of_len1 h2; exact ⟨_, rfl, rfl⟩
    cases h1
    exact h2
  have AW : AtW K mg fWh _ := ⟨FWh, bWh, gWh_⟩
  have AI : AtI K mg fIn _ := ⟨FIn, bIn, gIn_⟩
  have AR : AtR K mg fRo _ := ⟨FRo, bRo, gRo_⟩
  have DIw : Def1 l.prog w K mg base CX0 3 "is_within" ["value", "low", "high"] (spIsWithin K) := ⟨_, _, gIw_, kIw, ok_isWithin FIw T AW AI, bIw⟩
  have DRw : Def1 l.prog w K mg base CX0 4 "require_within" ["value", "low", "high"] (spReqWi K) := ⟨_, _, gRw_, kRw, ok_reqWi FRw T DIw, bRw⟩
  have DFa : Def1 l.prog w K mg base CX0 4 "is_falling" ["value", "most"] (spFalling K) := ⟨_, _, gFa_, kFa, ok_falling FFa T DIw, bFa⟩
  have DFr := fr_all (P := l.prog) (w := w) (base := base) FFr T gFr_ kFr bFr 13
  have DNa : Def1 l.prog w K mg base CX0 1 "number_at" ["row", "index"] (spNumAt K) := ⟨_, _, gNa_, kNa, ok_numAt FNa T, bNa⟩
  have DTr : Def1 l.prog w K mg base CX0 2 "turned_row" ["row"] (spTurned K) := ⟨_, _, gTr_, kTr, ok_turnedR FTr T DNa, bTr⟩
  have DHd : Def1 l.prog w K mg base CX0 1 "is_held" ["row", "other"] (spHeld K) := ⟨_, _, gHd_, kHd, ok_held FHd T, bHd⟩
  have DTp : Def1 l.prog w K mg base CX0 1 "is_topped" ["row", "other"] (spTopped K) := ⟨_, _, gTp_, kTp, ok_topped FTp T, bTp⟩
  have DTx : Def1 l.prog w K mg base CX0 1 "falling_text" ["row"] (spFTx K) := ⟨_, _, gTx_, kTx, ok_fTx FTx T, bTx⟩
  have DRk : Def1 l.prog w K mg base CX0 1 "require_kind" ["value"] (spReqKind K C) := ⟨_, _, gRk_, kRk, ok_reqKind FRk T Cl, bRk⟩
  have GI := ok_init (P := l.prog) (w := w) (base := base) FI T Cl DFa
  have Ini : Ini1 l.prog w K mg base CX0 5 C tI0 ["self", "numbers"] (spInit K C) := ⟨_, _, ds, ⟨mkC, aI0, iI0, kcC⟩, GI, bI, hds, b0⟩
  have Qn : Pro1 l.prog w K mg base 1 C "numbers" (spGet K C fun n _ => .ref n) := ⟨_, _, _, ⟨aPn, gPn, tPn_, _, rPn⟩, ok_numbers FPn Cl, bPn⟩
  have Qs : Pro1 l.prog w K mg base 1 C "size" (spGet K C fun _ ns => .int ns.sum) := ⟨_, _, _, ⟨aPs, gPs, tPs_, _, rPs⟩, ok_size FPs T Cl, bPs⟩
  have Qr : Pro1 l.prog w K mg base 1 C "rank" (spGet K C fun _ ns => .int (ns.length : Int)) := ⟨_, _, _, ⟨aPr, gPr, tPr_, _, rPr⟩, ok_rank FPr T Cl, bPr⟩
  have Qh : Pro1 l.prog w K mg base 2 C "height" (spGet K C fun _ ns => .int (ns.getD 0 0)) := ⟨_, _, _, ⟨aPh, gPh, tPh_, _, rPh⟩, ok_height FPh Cl DNa, bPh⟩
  have Qf : Pro1 l.prog w K mg base 4 C "is_flat" (spGet K C fun _ ns => .bl (decide (ns.getD 0 0 ≤ 1))) := ⟨_, _, _, ⟨aPf, gPf, tPf_, _, rPf⟩, ok_isFlat FPf Cl Qh, bPf⟩
  have Qt : Pro1 l.prog w K mg base 7 C "turned" (spMakes K C turnM) := ⟨_, _, _, ⟨aPt, gPt, tPt_, _, rPt⟩, ok_turned FPt Cl DTr Ini, bPt⟩
  have Mt : Met1 l.prog w K mg base CX0 3 C "tops" ["self", "other"] (spTwo K C (fun ns ms => ns.sum = ms.sum) fun ns ms => .bl (topM ms ns)) := ⟨_, _, MTq, jTq, ok_tops FTq Cl DRk DTp Qn Qs, bTq⟩
  have Eq : Met1 l.prog w K mg base CX0 1 C "__eq__" ["self", "other"] (spKEq K C) := ⟨_, _, MEq, jEq, ok_keq FEq T Cl, bEq⟩
  have Ls : Met1 l.prog w K mg base CX0 4 C "__lt__" ["self", "other"] (spLtK K C) := ⟨_, _, MLs, jLs, ok_lt FLs T Cl, bLs⟩
  have St : Met1 l.prog w K mg base CX0 2 C "__str__" ["self"] (spKSt K C) := ⟨_, _, MSt, jSt, ok_kstr FSt T Cl DTx, bSt⟩
  have DKo : Def1 l.prog w K mg base CX0 15 "kinds_of" ["size"] (spKindsOf K C) := ⟨_, _, gKo_, kKo, ok_kindsOf FKo T Cl DRw DFr Ini, bKo⟩
  have DKw : Def1 l.prog w K mg base CX0 15 "kinds_within" ["kind"] (spKindsWi K C) := ⟨_, _, gKw_, kKw, ok_kindsWi FKw T Cl DRk DFr DHd Qn Qs Qh Ini, bKw⟩
  have DRo : Def1 l.prog w K mg base CX0 1 "_law_roll" ["_law_dice_here", "_law_total"] (spRoll) := ⟨_, _, gRo_, kRo, ok_roll FRo T, bRo⟩
  have DPi : Def1 l.prog w K mg base CX0 2 "_law_pick" ["_law_dice_here", "_law_items"] (spPick K) := ⟨_, _, gPi_, kPi, ok_pick FPi T AR, bPi⟩
  have DDi : Def1 l.prog w K mg base CX0 1 "_law_dice" ["_law_script", "_law_spot"] (spDice K) := ⟨_, _, gDi_, kDi, ok_dice FDi T, bDi⟩
  have DMx : Def1 l.prog w K mg base CX0 2 "_law_mixed" ["_law_dice_here", "_law_items"] (spMixed K) := ⟨_, _, gMx_, kMx, ok_mixed FMx T DRo, bMx⟩
  have DKs : Def1 l.prog w K mg base CX0 1 "_law_kinds" ["_law_size"] (spKindsO K) := ⟨_, _, gKs_, kKs, ok_kindsO FKs T, bKs⟩
  have DKk : Def1 l.prog w K mg base CX0 1 "_law_kind_key" ["_law_kind"] (spKey K) := ⟨_, _, gKk_, kKk, ok_key FKk T, bKk⟩
  have DEv : Def1 l.prog w K mg base CX0 2 "_law_every_kind" ["_law_most"] (spEvery K) := ⟨_, _, gEv_, kEv, ok_every FEv T DKs, bEv⟩
  have DDh : Def1 l.prog w K mg base CX0 1 "_law_does_hold" ["_law_kind", "_law_other"] (spDoesHold K) := ⟨_, _, gDh_, kDh, ok_doesHold FDh T, bDh⟩
  have DRg : Def1 l.prog w K mg base CX0 16 "_law_right" ["_law_dice_here"] (spRight) := ⟨_, _, gRg_, kRg, ok_right FRg T Cl DRo DPi DKo DKs DKk DEv DDh DKw DMx Qn Qr Qf Qt Ls Eq Mt Ini, bRg⟩
  have L := ok_law (P := l.prog) (w := w) (base := base) FLa T Cl Ini DDi DRg DKo DKw St
  exact ⟨L.len, fun A out s H ar us vs Q E _ hr he hb hv hs => L.run A out s H ar us vs Q E hr he hb hv hs⟩
end

end Q0

set_option Elab.async false
set_option maxRecDepth 100000
open PySem PySem.W PyProof.Rows in
set_option maxRecDepth 100000 in
set_option maxHeartbeats 0 in
theorem PySem.Challenge.cw_primekinds_k08_whole_kinds_in_order_holds : PySem.Challenge.rw_primekinds_k08_whole_kinds_in_order.Holds := by
  w_on; o_law; k_head; (case hw => w_witness2)
  k_fill
  refine Gd.walkG (n := 63) (k := 17) (x := "_law_script") (CX := fun _ => L2.CX0) (l := PySem.Challenge.rw_primekinds_k08_whole_kinds_in_order) (sp := fun w => Q0.spLaw _) rfl (by decide) rfl ⟨rfl, by decide, by decide⟩ (fun w h Y => PySem.W.kIn_of Y) ?F
    (fun _ _ a ns hl _ hS => ⟨a, ns, rfl, hS, hl, fun _ => rfl⟩) (fun _ _ _ _ _ z => z)
  case F =>
    intro w mg fa h KX G hmg
    refine' Q0.all_mk KX G hmg ?aWh ?lWh ?cWh_ ?kWh ?aIn ?lIn ?cIn_ ?kIn ?aIw ?lIw ?cIw_ ?kIw ?aRw ?lRw ?cRw_ ?kRw ?aFa ?lFa ?cFa_ ?kFa ?aFr ?lFr ?cFr_ ?kFr ?aNa ?lNa ?cNa_ ?kNa ?aTr ?lTr ?cTr_ ?kTr ?aHd ?lHd ?cHd_ ?kHd ?aTp ?lTp ?cTp_ ?kTp ?aTx ?lTx ?cTx_ ?kTx ?aRk ?lRk ?cRk_ ?kRk ?aKo ?lKo ?cKo_ ?kKo ?aKw ?lKw ?cKw_ ?kKw ?aDi ?lDi ?cDi_ ?kDi ?aRo ?lRo ?cRo_ ?kRo ?aPi ?lPi ?cPi_ ?kPi ?aMx ?lMx ?cMx_ ?kMx ?aKs ?lKs ?cKs_ ?kKs ?aKk ?lKk ?cKk_ ?kKk ?aEv ?lEv ?cEv_ ?kEv ?aDh ?lDh ?cDh_ ?kDh ?aRg ?lRg ?cRg_ ?kRg ?aLa ?lLa ?cLa_ ?kLa ?aC ?pgC ?hdC ?poC ?saC ?mkC ?kcC ?haC ?hmC ?ciC ?ctC ?neC ?sfC ?no0C ?no1C ?hn ?htk ?aI0 ?lI0 ?cI0_ ?kI0 ?iI0 ?LI0 ?mI0 ?aTq ?lTq ?cTq_ ?kTq ?iTq ?jTq ?aEq ?lEq ?cEq_ ?kEq ?iEq ?jEq ?aLs ?lLs ?cLs_ ?kLs ?iLs ?jLs ?aSt ?lSt ?cSt_ ?kSt ?iSt ?jSt ?aPn ?gPn ?tPn_ ?rPn ?lPn ?cPn_ ?kPn ?aPs ?gPs ?tPs_ ?rPs ?lPs ?cPs_ ?kPs ?aPr ?gPr ?tPr_ ?rPr ?lPr ?cPr_ ?kPr ?aPh ?gPh ?tPh_ ?rPh ?lPh ?cPh_ ?kPh ?aPt ?gPt ?tPt_ ?rPt ?lPt ?cPt_ ?kPt ?aPf ?gPf ?tPf_ ?rPf ?lPf ?cPf_ ?kPf ?z_isinstance ?z_int ?z_bool ?z_str ?z_tuple ?z_list ?z_dict ?z_len ?z_all ?z_any ?z_sum ?z_iter ?z_max ?z_min ?z_abs ?z_range ?z_repr ?z_sorted ?z_enumerate ?z_zip ?v_BOUND ?v_MAX_SIZE
    (case aWh => k_is)
    (case lWh => k_is)
    (case cWh_ => k_is)
    (case kWh => k_is)
    (case aIn => k_is)
    (case lIn => k_is)
    (case cIn_ => k_is)
    (case kIn => k_is)
    (case aIw => k_is)
    (case lIw => k_is)
    (case cIw_ => k_is)
    (case kIw => k_is)
    (case aRw => k_is)
    (case lRw => k_is)
    (case cRw_ => k_is)
    (case kRw => k_is)
    (case aFa => k_is)
    (case lFa => k_is)
    (case cFa_ => k_is)
    (case kFa => k_is)
    (case aFr => k_is)
    (case lFr => k_is)
    (case cFr_ => k_is)
    (case kFr => k_is)
    (case aNa => k_is)
    (case lNa => k_is)
    (case cNa_ => k_is)
    (case kNa => k_is)
    (case aTr => k_is)
    (case lTr => k_is)
    (case cTr_ => k_is)
    (case kTr => k_is)
    (case aHd => k_is)
    (case lHd => k_is)
    (case cHd_ => k_is)
    (case kHd => k_is)
    (case aTp => k_is)
    (case lTp => k_is)
    (case cTp_ => k_is)
    (case kTp => k_is)
    (case aTx => k_is)
    (case lTx => k_is)
    (case cTx_ => k_is)
    (case kTx => k_is)
    (case aRk => k_is)
    (case lRk => k_is)
    (case cRk_ => k_is)
    (case kRk => k_is)
    (case aKo => k_is)
    (case lKo => k_is)
    (case cKo_ => k_is)
    (case kKo => k_is)
    (case aKw => k_is)
    (case lKw => k_is)
    (case cKw_ => k_is)
    (case kKw => k_is)
    (case aDi => k_is)
    (case lDi => k_is)
    (case cDi_ => k_is)
    (case kDi => k_is)
    (case aRo => k_is)
    (case lRo => k_is)
    (case cRo_ => k_is)
    (case kRo => k_is)
    (case aPi => k_is)
    (case lPi => k_is)
    (case cPi_ => k_is)
    (case kPi => k_is)
    (case aMx => k_is)
    (case lMx => k_is)
    (case cMx_ => k_is)
    (case kMx => k_is)
    (case aKs => k_is)
    (case lKs => k_is)
    (case cKs_ => k_is)
    (case kKs => k_is)
    (case aKk => k_is)
    (case lKk => k_is)
    (case cKk_ => k_is)
    (case kKk => k_is)
    (case aEv => k_is)
    (case lEv => k_is)
    (case cEv_ => k_is)
    (case kEv => k_is)
    (case aDh => k_is)
    (case lDh => k_is)
    (case cDh_ => k_is)
    (case kDh => k_is)
    (case aRg => k_is)
    (case lRg => k_is)
    (case cRg_ => k_is)
    (case kRg => k_is)
    (case aLa => k_is)
    (case lLa => k_is)
    (case cLa_ => k_is)
    (case kLa => k_is)
    (case aC => k_is)
    (case pgC => k_is)
    (case hdC => k_is)
    (case poC => k_is)
    (case saC => k_is)
    (case mkC => k_is)
    (case kcC => k_is)
    (case haC => k_is)
    (case hmC => k_is)
    (case ciC => k_is)
    (case ctC => k_is)
    (case neC => k_is)
    (case sfC => k_is)
    (case no0C => k_is)
    (case no1C => k_is)
    (case hn => k_is)
    (case htk => k_is)
    (case aI0 => k_is)
    (case lI0 => k_is)
    (case cI0_ => k_is)
    (case kI0 => k_is)
    (case iI0 => k_is)
    (case LI0 => k_is)
    (case mI0 => k_is)
    (case aTq => k_is)
    (case lTq => k_is)
    (case cTq_ => k_is)
    (case kTq => k_is)
    (case iTq => k_is)
    (case jTq => k_is)
    (case aEq => k_is)
    (case lEq => k_is)
    (case cEq_ => k_is)
    (case kEq => k_is)
    (case iEq => k_is)
    (case jEq => k_is)
    (case aLs => k_is)
    (case lLs => k_is)
    (case cLs_ => k_is)
    (case kLs => k_is)
    (case iLs => k_is)
    (case jLs => k_is)
    (case aSt => k_is)
    (case lSt => k_is)
    (case cSt_ => k_is)
    (case kSt => k_is)
    (case iSt => k_is)
    (case jSt => k_is)
    (case aPn => k_is)
    (case gPn => k_is)
    (case tPn_ => k_is)
    (case rPn => k_is)
    (case lPn => k_is)
    (case cPn_ => k_is)
    (case kPn => k_is)
    (case aPs => k_is)
    (case gPs => k_is)
    (case tPs_ => k_is)
    (case rPs => k_is)
    (case lPs => k_is)
    (case cPs_ => k_is)
    (case kPs => k_is)
    (case aPr => k_is)
    (case gPr => k_is)
    (case tPr_ => k_is)
    (case rPr => k_is)
    (case lPr => k_is)
    (case cPr_ => k_is)
    (case kPr => k_is)
    (case aPh => k_is)
    (case gPh => k_is)
    (case tPh_ => k_is)
    (case rPh => k_is)
    (case lPh => k_is)
    (case cPh_ => k_is)
    (case kPh => k_is)
    (case aPt => k_is)
    (case gPt => k_is)
    (case tPt_ => k_is)
    (case rPt => k_is)
    (case lPt => k_is)
    (case cPt_ => k_is)
    (case kPt => k_is)
    (case aPf => k_is)
    (case gPf => k_is)
    (case tPf_ => k_is)
    (case rPf => k_is)
    (case lPf => k_is)
    (case cPf_ => k_is)
    (case kPf => k_is)
    (case z_isinstance => k_is)
    (case z_int => k_is)
    (case z_bool => k_is)
    (case z_str => k_is)
    (case z_tuple => k_is)
    (case z_list => k_is)
    (case z_dict => k_is)
    (case z_len => k_is)
    (case z_all => k_is)
    (case z_any => k_is)
    (case z_sum => k_is)
    (case z_iter => k_is)
    (case z_max => k_is)
    (case z_min => k_is)
    (case z_abs => k_is)
    (case z_range => k_is)
    (case z_repr => k_is)
    (case z_sorted => k_is)
    (case z_enumerate => k_is)
    (case z_zip => k_is)
    (case v_BOUND => k_is)
    (case v_MAX_SIZE => k_is)
