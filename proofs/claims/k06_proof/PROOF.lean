import PyProof.Rows.All
import Wide.All
import OpenK.AllK
import Wide.FinOn
import HandS.ForMost
import HandS.ForExc
import HandS.IsInst
import HandS.IterNext
import HandS.OwnIter
import KE.KOwnIter
import PyProof.Rows.Range3
import PyProof.Conv_bool
import KE.GoesMore
import KE.GoesEnum
import KE.GoesZip
import HandS.Walk
import PyProof.FactsInt
import PyProof.FactsInt2
import PyProof.Rows.FactsB_mul
import HandS.OwnEq
import HandS.SetFor
import HandS.TupLe
import HandS.TupAny
import PyProof.NeKinds
import PyProof.P3Eq
import HandS.TupMul
import KE.KExcInit
import KE.KDictPairs
import HandS.Style
import HandS.FStr
import KE.KFmtOwn
import KE.KCallOwn
import KE.KRevSl
import HandS.Strs
import HandS.SortKw
import HandS.TryMany
import PyProof.CallFns
import HandS.Wide
import HandS.Property
import HandS.Lambda
import PySem.Challenge.RW_primekinds_k06_kinds_number_by_number
import HandS.Defaults
import HandS.Conv
import HandS.DictComp
import HandS.RaiseMore
import HandS.Text
import PyProof.Rows.StrPins2
import HandS.ListItems
import HandS.TupSets
import HandS.ClsMeth
set_option Elab.async false
set_option linter.all false
set_option maxRecDepth 100000
set_option maxHeartbeats 4000000
/-! Promises of defs that are called where no container is being shown (the guards of the stack are known to be empty): repr of containers needs this. -/
namespace Gd
open PySem PySem.Spec PyProof.Rows L2

/-- no container is being shown -/
abbrev NoG (A : Around) : Prop := A.guards = some []

/-- the promise of a def, kept wherever no container is being shown -/
structure FnG (P : Program) (w : World) (K : PySem.W.Frag) (mg : Str → Option Value) (base : Heap) (CX : CXT) (k : Nat)
    (f : Addr) (fd : FuncData) (ps : List Str) (sp : Sp) : Prop where
  many : ∀ vs H Q E, sp vs H Q E → vs.length = ps.length
  go : ∀ (A : Around) (out : List Env) (s : Shared) (H : Hp) (ar : Args) (us : List Value) (vs : List V) (Q : VK) (E : XK),
    NoG A → Room k A → Env0 P w K mg base A out s H → BindsTo s fd ar (ps.zip us) → Vals vs us → sp vs H Q E →
      codeAny (model P w) A (.call (.ref f) ar) (CR CX out P w H s Q E) s

section
variable {P : Program} {w : World} {K : PySem.W.Frag} {mg : Str → Option Value} {base : Heap} {CX : CXT} {k : Nat}
  {f : Addr} {fd : FuncData} {ps : List Str} {sp : Sp}
theorem FnG.of (F : FnOk P w K mg base CX k f fd ps sp) : FnG P w K mg base CX k f fd ps sp :=
  ⟨F.len, fun A out s H ar us vs Q E _ => F.run A out s H ar us vs Q E⟩

/-- a def by its body, where no container is being shown -/
theorem fnG {x qual : Str} {st : Stmt} {N : List Str} (F : Fun K x qual st f fd) (S : FnScope N ps (defScope st))
    (many : ∀ vs H Q E, sp vs H Q E → vs.length = ps.length)
    (body : ∀ (cdv : Value) (A : Around) (out : List Env) (s : Shared) (H : Hp) (vs : List V) (Q : VK) (E : XK),
      NoG A → Room k (A.deeper (envOfC qual (defScope st) s.heap.objs.size f cdv)) → sp vs H Q E →
      ∃ t, PSs (cxOf CX P w K mg base N qual (defScope st) f cdv A out s H E) (defBody st) t ∧
        t { nx := fun _ H' => Q .non H', rt := Q } (start N vs) H) :
    FnG P w K mg base CX (k + 1) f fd ps sp := by
  obtain ⟨oc, od, kV, doc, pm, an, cdv, ct, osl, rfl, lk, hcd⟩ := F.ex
  refine ⟨many, ?_⟩
  intro A out s H ar us vs Q E hg hr e0 hb r hsp
  have hl := many vs H Q E hsp
  have KX : K.In s.heap := e0.mod.kin.keeps (fun b o e => (e0.bs b o e).1)
  have lim : s.heap.NoLimit := e0.mod.nolimit.keeps (fun b o e => (e0.bs b o e).1)
  have kinds : ∀ y ∈ ps.zip us, (defScope st).names.lookup y.1 = some .local ∨
      ((defScope st).names.lookup y.1 = some .cell ∧ ((cellsFrom (s.heap.objs.size + 1) (defScope st).names []).lookup y.1).isSome = true) := by
    rintro ⟨n, v⟩ hy
    rcases S.par n (List.of_mem_zip hy).1 with q | q
    · exact Or.inl q
    · exact Or.inr ⟨q, PySem.W.cellsFrom_some _ _ _ (Or.inl q)⟩
  refine codeAny_call_function hr.depth (KX _ _ lk) rfl S.co S.gen rfl
    (PySem.W.codeRec_of KX hcd) (hb _ _ _ _ ?_)
  refine wpAny_newFunctionEnv_cells S.kind kinds ?_
  intro env he s1 x
  cases he
  refine ⟨lim.keeps x.toInCall.keep, codeAny_func ?_⟩
  obtain ⟨t, ht, hq⟩ := body cdv A out s H vs Q E hg (hr.deeper _) hsp
  have I := inv_start (CX := CX) (E := E) S hr.hd e0 hl r x
  refine wpAny_mono (ht.run [] s1 (start N vs) H _ I hq) ?_ (fun e s' hs => hs)
  intro fl s' hs
  have fin : ∀ {σ' : L2.St} {H' : Hp} {v : V} {u : Value},
      Inv (cxOf CX P w K mg base N qual (defScope st) f cdv A out s H E) [] σ' H' s' →
      RelV v u → Q v H' → CE out P w H s Q u s' := by
    intro σ' H' v u J rv q
    exact ⟨v, H', J.os, J.bare, J.base, J.hok, rv, q⟩
  cases fl with
  | ret u =>
    obtain ⟨v, σ', H', J, rv, q⟩ := hs
    exact fin J rv q
  | next =>
    obtain ⟨σ', H', J, q⟩ := hs
    exact fin (v := V.non) (u := Value.none) J rfl q
  | brk =>
    obtain ⟨σ', H', J, q⟩ := hs
    exact False.elim q
  | cont =>
    obtain ⟨σ', H', J, q⟩ := hs
    exact False.elim q
end

section
variable {X : Cx} {CX : CXT} {k : Nat} {f C : Addr} {fd : FuncData} {ps : List Str} {sp : Sp} {dvs : List V} {ds : List Value} {E : XK}
  {x : Str} {p pos : Pos} {e : Expr} {es : List Expr} {t : TA}
/-- the call of such a def -/
theorem goG {pins : List (Addr × Obj)} {σ : L2.St} {H : Hp} {s : Shared} {Q : VK} {us : List Value} {vs : List V}
    (hg : NoG X.A) (F : FnG X.prog X.w X.K X.mg X.base CX k f fd ps sp) (hr : Room k X.A) (hb : Binds X.K fd ps ds)
    (hd : Vals dvs ds) (hx : Passes CX X E) (I : Inv X pins σ H s) (r : Vals vs us) (h : sp (vs ++ dvs) H Q E) :
    wpAny (model X.prog X.w) X.A (call (.ref f) us) (EP X pins σ Q) X.xe s := by
  have r2 := Vals.append r hd
  have hl : (us ++ ds).length = ps.length := by
    rw [← r2.length]
    exact F.many _ H Q E h
  have run := F.go X.A X.stack s H ⟨us, []⟩ (us ++ ds) _ Q E hg hr I.env0 (hb s us I.kIn hl) r2 h
  refine wpAny_call (codeAny_mono run ?_)
  intro r s' hq
  match r, hq with
  | .error e, hq => exact hx pins σ H s e s' I hq
  | .ok (.ret u), hq => exact I.after hq
  | .ok .next, hq => exact False.elim hq
  | .ok .brk, hq => exact False.elim hq
  | .ok .cont, hq => exact False.elim hq

theorem pe_callG (hg : NoG X.A) (F : FnG X.prog X.w X.K X.mg X.base CX k f fd ps sp) (hr : Room k X.A) (hgl : Gl X x)
    (hm : X.mg x = some (.ref f)) (hk : PySem.W.keepIn X.K (.ref f) = true) (hb : Binds X.K fd ps ds) (hd : Vals dvs ds)
    (hx : Passes CX X E) (ha : PA X (e :: es) t) (hdb : (x == ("__debug__" : Str)) = false := by decide)
    (he : starEach (e :: es) X.env = (false, eval e X.env) :: starEach es X.env := by rfl)
    (hpl : (backTo pos (starEach es X.env)).any (·.1) = false := by rfl) :
    PE X (.Call (.Name x p) (e :: es) [] pos) (tCall sp dvs E t) := by
  constructor
  intro pins s σ H Q I h
  refine wpAny_Call_Name_kw (ld_glob I hgl hm ?_ hdb)
  have go := thn (ha.run pos pins s σ H _ I h) (fun us s1 ⟨vs, H1, I1, r, q⟩ =>
    (⟨I1.kIn, goG hg F hr hb hd hx I1 r q⟩ : X.K.In s1.heap ∧ wpAny (model X.prog X.w) X.A (call (.ref f) us) (EP X pins σ Q) X.xe s1))
  exact PySem.W.callWith_K (h₀ := X.base) I.ok.mod.kin hk go he hpl
end

section
variable {P : Program} {w : World} {K : PySem.W.Frag} {mg mb : Str → Option Value} {CX : CXT} {k : Nat} {fa a : Addr}
  {fd : FuncData} {x : Str} {sp : Sp} {s₁ : Shared} {vs : List Value} {ns : List Int}
/-- the call of the law, from a heap H of which nothing but the script is tracked -/
theorem coreG (KX : K.In s₁.heap) (hns : s₁.heap.Ns mainGlobals mg) (hb : s₁.heap.Ns builtinsNs mb)
    (hbb : ∀ x : Str, x ≠ "__name__" → mb x = bootBuiltins x) (hlim : s₁.heap.NoLimit) (hg : s₁.gens = #[])
    (ha : s₁.heap.get? a = some { cls := .type "list", data := .seq vs.toArray }) (hr : Room k callerA)
    (F : ∀ base : Heap, K.In base → base.Ns mainGlobals mg → FnG P w K mg base CX k fa fd [x] sp)
    (hbind : ∀ (s : Shared) (u : Value), BindsTo s fd ⟨[u], []⟩ [(x, u)])
    (hCX : ∀ H e s', CX [] H s₁ (fun _ _ _ => False) e s' → False)
    (H : Hp) (hO : Only H) (hsp : sp [.ref a] H (fun v _ => v = .bl true) fun _ _ _ => False)
    (hok : HOk P w H s₁.heap) (hA : ∀ b, H b ≠ none → b = a) (hK : H a ≠ none → K.lookup a = none) :
    codeAny (model P w) callerA (.call (.ref fa) ⟨[.ref a], []⟩)
      (fun r s' => r = .ok (.ret (.bool true)) ∧ OldK s₁.heap s'.heap ∧ s'.os = s₁.os ∧ AllBare s'.gens) s₁ := by
  have at_a : ∀ {b : Addr}, H b ≠ none → b = a := fun {b} z => hA b z
  have keepB : ∀ {b : Addr} {o : Obj}, s₁.heap.get? b = some o → H b = none → (hidT s₁.heap H).get? b = some o := by
    intro b o e n
    exact hidT_get e n
  have noDict : ∀ {b : Addr} {o : Obj} {es : Array DictEntry} {ep : Nat},
      s₁.heap.get? b = some o → o.data = .dict es ep → H b = none := by
    intro b o es ep e d
    cases q : H b with
    | none => rfl
    | some u =>
      obtain rfl : b = a := at_a (by rw [q]; simp)
      rw [ha] at e
      cases e
      cases d
  have nsOf : ∀ {b : Addr} {m : Str → Option Value}, s₁.heap.Ns b m → (hidT s₁.heap H).Ns b m := by
    rintro b m ⟨o, es, ep, e, d, r⟩
    exact ⟨o, es, ep, keepB e (noDict e d), d, r⟩
  have inB : K.In (hidT s₁.heap H) := by
    intro b o e
    refine keepB (KX b o e) ?_
    cases q : H b with
    | none => rfl
    | some u =>
      obtain rfl : b = a := at_a (by rw [q]; simp)
      rw [hK (by rw [q]; simp)] at e
      cases e
  obtain ⟨mc, l1, l2⟩ := hlim
  have hM : Mod K mg (hidT s₁.heap H) := ⟨inB, nsOf hns, ⟨mb, nsOf hb, hbb⟩, ⟨mc, nsOf l1, l2⟩⟩
  have e0 : Env0 P w K mg (hidT s₁.heap H) callerA [] s₁ H := by
    refine ⟨rfl, hM, ?_, Nat.le_of_eq (hidT_size _ _), trivial, ?_, hok, .of_eq hg⟩
    · intro b o e
      exact of_hidT e
    · intro b z
      exact absurd (show b ∈ ([] : List Addr) from z) (by simp)
  have run := (F _ inB (nsOf hns)).go callerA [] s₁ H ⟨[.ref a], []⟩ [.ref a] [.ref a] _ _ rfl hr e0 (hbind s₁ (.ref a)) (.cons rfl .nil) hsp
  refine codeAny_mono run ?_
  intro r s' h
  match r, h with
  | .error e, h => exact (hCX H e s' h).elim
  | .ok .next, h => exact False.elim h
  | .ok .brk, h => exact False.elim h
  | .ok .cont, h => exact False.elim h
  | .ok (.ret u), h =>
    obtain ⟨v, H', os, bare, un, hok', rv, q⟩ := h
    obtain rfl : v = .bl true := q
    obtain rfl : u = Value.bool true := rv
    refine ⟨rfl, OldK.of_keep ?_, os, bare⟩
    intro b o e
    cases q : H b with
    | none => exact un.keep b o e q (fun z => absurd (show b ∈ ([] : List Addr) from z) (by simp)) (by simp)
    | some u =>
      rcases hO b with z | ⟨ob, xs, z⟩
      · rw [q] at z
        cases z
      · obtain ⟨e1, _⟩ := hok b _ z
        obtain ⟨e2, _⟩ := hok' b _ (un.frzs b ob _ z)
        rw [e] at e1
        cases e1
        exact e2

theorem law_callG (KX : K.In s₁.heap) (hns : s₁.heap.Ns mainGlobals mg) (hb : s₁.heap.Ns builtinsNs mb)
    (hbb : ∀ x : Str, x ≠ "__name__" → mb x = bootBuiltins x) (hlim : s₁.heap.NoLimit) (hg : s₁.gens = #[])
    (ha : s₁.heap.get? a = some { cls := .type "list", data := .seq vs.toArray }) (hi : IntsAre vs ns) (hl : ns.length ≤ sizeLine)
    (hr : Room k callerA) (F : ∀ base : Heap, K.In base → base.Ns mainGlobals mg → FnG P w K mg base CX k fa fd [x] sp)
    (hbind : ∀ (s : Shared) (u : Value), BindsTo s fd ⟨[u], []⟩ [(x, u)])
    (hsp : ∀ H : Hp, Only H → SqL K H a (ns.map V.int) → sp [.ref a] H (fun v _ => v = .bl true) fun _ _ _ => False)
    (hCX : ∀ H e s', CX [] H s₁ (fun _ _ _ => False) e s' → False) :
    codeAny (model P w) callerA (.call (.ref fa) ⟨[.ref a], []⟩)
      (fun r s' => r = .ok (.ret (.bool true)) ∧ OldK s₁.heap s'.heap ∧ s'.os = s₁.os ∧ AllBare s'.gens) s₁ := by
  have rv := vals_ints hi
  have lenV := hi.length
  cases hk : K.lookup a with
  | some o =>
    have e := KX a o hk
    rw [ha] at e
    cases e
    have none' : ∀ b : Addr, (fun _ : Addr => (none : Option HO)) b = none := fun _ => rfl
    refine coreG KX hns hb hbb hlim hg ha hr F hbind hCX (fun _ => none) (fun _ => .inl rfl) (hsp _ (fun _ => .inl rfl) ?_) ?_ (fun b z => absurd (none' b) z) (fun z => absurd (none' a) z)
    · exact .inr ⟨_, vs.toArray, _, hk, rfl, rfl, rfl, by rw [List.size_toArray, lenV]; exact hl, by simpa using rv⟩
    · intro b u z
      cases z
  | none =>
    have hpos : ∀ b, (fun b => if b = a then some (HO.frz { cls := .type "list", data := .seq vs.toArray } (.lst (ns.map V.int))) else none) b ≠ none → b = a := by
      intro b z
      by_cases q : b = a
      · exact q
      · exact absurd (if_neg q) z
    have hO : Only (fun b => if b = a then some (HO.frz { cls := .type "list", data := .seq vs.toArray } (.lst (ns.map V.int))) else none) := by
      intro b
      by_cases q : b = a
      · exact .inr ⟨_, _, if_pos q⟩
      · exact .inl (if_neg q)
    refine coreG KX hns hb hbb hlim hg ha hr F hbind hCX _ hO (hsp _ hO ?_) ?_ hpos (fun _ => hk)
    · exact .inl (.inr ⟨{ cls := .type "list", data := .seq vs.toArray }, if_pos rfl⟩)
    · intro b u z
      have q : b = a := hpos b (by rw [z]; simp)
      subst q
      have z' := (if_pos rfl).symm.trans z
      cases z'
      exact ⟨ha, by rw [List.length_map]; exact hl, vs, _, rv, ha⟩
end

/-- the end of a law -/
theorem walkG {l : PySem.W.OpenLaw} {n k : Nat} {q : Program} {loose : List Str} {XP : (Str → Option Value) → Heap → Prop} {YP : World → Heap → Prop} {d : DefRec} {K : Params → PySem.W.Frag} {CX : World → CXT} {sp : World → Sp} {x : Str}
    (hn : l.most = some n) (hn2 : n ≤ sizeLine) (hdf : d.params.defaults = []) (hr : Room k callerA)
    (hY : ∀ (w : World) (h : Heap), YP w h → (K w.params).In h)
    (F : ∀ (w : World) (mg : Str → Option Value) (fa : Addr) (h : Heap), (K w.params).In h → h.Ns mainGlobals mg → mg d.name = some (.ref fa) →
      ∃ fd : FuncData, (∀ (s : Shared) (u : Value), BindsTo s fd ⟨[u], []⟩ [(x, u)]) ∧
        ∀ base : Heap, (K w.params).In base → base.Ns mainGlobals mg → FnG l.prog w (K w.params) mg base (CX w) k fa fd [x] (sp w))
    (hsp : ∀ (w : World) (H : Hp) (a : Addr) (ns : List Int), ns.length ≤ n → Only H → SqL (K w.params) H a (ns.map V.int) → sp w [.ref a] H (fun v _ => v = .bl true) fun _ _ _ => False)
    (hCX : ∀ (w : World) (H : Hp) (s : Shared) (e : Value) (s' : Shared), CX w [] H s (fun _ _ _ => False) e s' → False) :
    PySem.W.WalkO q loose XP YP l.row.toRowW d [] (fun f vs => PySem.call f vs) := by
  refine Att.attach_call hn hdf ?_
  intro w s₀ s₁ mg mb fa o pm cd doc a vs ns G Y ho hd hcd hmg hobj hints hlen hg
  obtain ⟨fd, hb, hF⟩ := F w mg fa _ (hY w _ Y) G.T.g hmg
  exact law_callG (hY w _ Y) G.T.g G.T.b G.T.builtins G.T.nolimit hg hobj hints (Nat.le_trans hlen hn2) hr hF hb (fun H hO hS => hsp w H a ns hlen hO hS) fun H e s' => hCX w H s₁ e s'
end Gd

set_option Elab.async false
set_option linter.all false
set_option maxRecDepth 100000
set_option maxHeartbeats 4000000
/-! Operators of own classes, and repr of data, as rules of the hand layer. -/
namespace Gd
open PySem PySem.Spec PyProof.Rows L2

/-! ### repr of data -/
def rRepr (K : PySem.W.Frag) : List V → Hp → VK → Prop := fun xs H Q =>
  ∃ a d, xs = [.ref a] ∧ Dp K H (.ref a) d ∧ d.showable = true ∧ d.hasDict = false ∧ d.depth ≤ 60 ∧ d.shown.length ≤ sizeLine ∧ Q (.str d.shown) H
theorem call_repr {X : Cx} (hg : NoG X.A) (hu : X.A.units + 64 < cLine) : CallR X (.builtin "repr") (rRepr X.K) := by
  intro pins s σ H xs us Q I r h
  obtain ⟨a, d, rfl, hd, h1, h2, h3, h4, q⟩ := h
  obtain ⟨u, rfl, hu1⟩ := vals1 r
  cases hu1
  obtain ⟨as, rd⟩ := Dp.reads I d (.ref a) (.ref a) hd rfl
  refine repr_of_reads' rd h1 (PyData.noDict_hsm h2) hg (by omega) (fun _ _ e => e) ?_ h4
  intro h' u tk hk
  exact ⟨.str d.shown, H, I.kept hk, ⟨u, rfl⟩, q⟩

section
variable {X : Cx} {CX : CXT} {k : Nat} {f C : Addr} {fd : FuncData} {ps : List Str} {sp : Sp} {dvs : List V} {ds : List Value}
  {pos : Pos} {a b : Expr} {ta tb : TE}

/-- the callee runs, from the body or from a builtin that the body calls -/
theorem runAt {E : XK} {A : Around} (hA : A = X.A ∨ A = X.A.in1) {pins : List (Addr × Obj)} {σ : L2.St} {H : Hp} {s : Shared} {Q : VK} {us : List Value} {vs : List V}
    (F : FnOk X.prog X.w X.K X.mg X.base CX k f fd ps sp) (hr : Room (k + 1) X.A) (hb : Binds X.K fd ps ds) (hd : Vals dvs ds)
    (hx : PassesAt CX X σ E) (I : Inv X pins σ H s) (r : Vals vs us) (h : sp (vs ++ dvs) H Q E) :
    wpAny (model X.prog X.w) A (call (.ref f) us) (EP X pins σ Q) X.xe s := by
  have r2 := Vals.append r hd
  have hl : (us ++ ds).length = ps.length := by
    rw [← r2.length]
    exact F.len _ H Q E h
  have room : Room k A := by
    rcases hA with rfl | rfl
    · exact hr.mono (Nat.le_succ _)
    · exact hr.in1
  have env : Env0 X.prog X.w X.K X.mg X.base A X.stack s H := by
    rcases hA with rfl | rfl
    · exact I.env0
    · exact I.env0.in1
  refine wpAny_call (codeAny_mono (F.run A X.stack s H ⟨us, []⟩ (us ++ ds) _ Q E room env (hb s us I.kIn hl) r2 h) ?_)
  intro r s' hq
  match r, hq with
  | .error e, hq => exact hx pins H s e s' I hq
  | .ok (.ret u), hq => exact I.after hq
  | .ok .next, hq => exact False.elim hq
  | .ok .brk, hq => exact False.elim hq
  | .ok .cont, hq => exact False.elim hq
theorem quiet0 {σ : L2.St} {E : XK} : PassesAt CX0 X σ E := fun _ _ _ _ _ _ h => h.elim

/-- the instance at a, as the library sees it -/
theorem seen {pins : List (Addr × Obj)} {σ : L2.St} {H : Hp} {s : Shared} {p dx : Addr} {fs : List (Str × V)} (I : Inv X pins σ H s)
    (e : H p = some (.ins C dx fs)) : ∃ od, PySem.W.InstAt s.heap p (PySem.W.instObj C dx) C (some od) := by
  obtain ⟨mA, J, _⟩ := ins_get I.hok e
  obtain ⟨od, J, _⟩ := J.look
  exact ⟨od, J⟩

/-! ### comparisons -/
/-- x OP y by the own method of x's class, whose answer is a truth value -/
def rCmpO (K : PySem.W.Frag) (C : Addr) (sp : Sp) (E : XK) : R2 := fun x y H Q => ∃ p dx fs t, x = .ref p ∧ H p = some (.ins C dx fs) ∧
  TyX K H y t ∧ PySem.W.notFirst K C t = true ∧ sp [x, y] H (fun v H' => (∃ c, v = .bl c) ∧ Q v H') E
theorem cmpO {op : CmpOp} {E : XK} (hm : Meth X.K C (cmpInfo op).2.1 f) (F : FnOk X.prog X.w X.K X.mg X.base CX k f fd ps sp) (hr : Room (k + 1) X.A)
    (hb : Binds X.K fd ps []) (hx : ∀ σ, PassesAt CX X σ E)
    {pins : List (Addr × Obj)} {s : Shared} {σ : L2.St} {H : Hp} {x y : V} {v u : Value} {Q : VK} (I : Inv X pins σ H s) (rx : RelV x v) (ry : RelV y u)
    (h : rCmpO X.K C sp E x y H Q) : wpAny (model X.prog X.w) X.A (richCompare op v u) (EP X pins σ Q) X.xe s := by
  obtain ⟨p, dx, fs, t, rfl, ep, ty, hn, hsp⟩ := h
  cases rx
  obtain ⟨od, J⟩ := seen I ep
  obtain ⟨P, Z, hP, _⟩ := kit_of I ry ty
  obtain ⟨m, hF⟩ := I.fr
  refine PySem.W.cmp_K (op := op) (tb := t) hr.units0 hF I.ok.mod.kin J (Z.ty _ _ I.kIn hP) hn hm.at_ hm.fn ?_
  refine wpAny_mono (runAt (.inl rfl) F hr hb .nil (hx σ) I (.cons (show RelV (V.ref p) (Value.ref p) from rfl) (.cons ry .nil)) hsp) ?_ (fun _ _ z => z)
  rintro w s' ⟨z, H', I', rz, ⟨c, rfl⟩, q⟩
  cases rz
  exact ⟨.bl c, H', I', rfl, q⟩
theorem op_eqO {E : XK} (hm : Meth X.K C "__eq__" f) (F : FnOk X.prog X.w X.K X.mg X.base CX k f fd ps sp) (hr : Room (k + 1) X.A)
    (hb : Binds X.K fd ps []) (hx : ∀ σ, PassesAt CX X σ E) : OpR X (compareOp .Eq) (rCmpO X.K C sp E) := by
  intro pins s σ H x y v u Q I rx ry h
  exact cmpO (op := .Eq) hm F hr hb hx I rx ry h
theorem op_ltO {E : XK} (hm : Meth X.K C "__lt__" f) (F : FnOk X.prog X.w X.K X.mg X.base CX k f fd ps sp) (hr : Room (k + 1) X.A)
    (hb : Binds X.K fd ps []) (hx : ∀ σ, PassesAt CX X σ E) : OpR X (compareOp .Lt) (rCmpO X.K C sp E) := by
  intro pins s σ H x y v u Q I rx ry h
  exact cmpO (op := .Lt) hm F hr hb hx I rx ry h

/-! ### len, truth, items -/
def rLenO (C : Addr) (sp : Sp) (E : XK) : List V → Hp → VK → Prop := fun xs H Q => ∃ p dx fs, xs = [.ref p] ∧ H p = some (.ins C dx fs) ∧
  sp [.ref p] H (fun v H' => ∃ n : Int, v = .int n ∧ 0 ≤ n ∧ n < 2 ^ 63 ∧ Q (.int n) H') E
theorem call_lenO {E : XK} (hm : Meth X.K C "__len__" f) (F : FnOk X.prog X.w X.K X.mg X.base CX k f fd ps sp) (hr : Room (k + 1) X.A)
    (hb : Binds X.K fd ps []) (hx : ∀ σ, PassesAt CX X σ E) : CallR X (.builtin "len") (rLenO C sp E) := by
  intro pins s σ H xs us Q I r h
  obtain ⟨p, dx, fs, rfl, ep, hsp⟩ := h
  obtain ⟨u, rfl, hu1⟩ := vals1 r
  cases hu1
  obtain ⟨od, J⟩ := seen I ep
  obtain ⟨m, hF⟩ := I.fr
  refine PySem.W.len_K hF I.ok.mod.kin J hm.at_ hm.fn ?_
  refine wpAny_mono (runAt (.inr rfl) F hr hb .nil (hx σ) I (.cons (show RelV (V.ref p) (Value.ref p) from rfl) .nil) hsp) ?_ (fun _ _ z => z)
  rintro w s' ⟨z, H', I', rz, n, rfl, h0, h1, q⟩
  obtain ⟨t, rfl⟩ := rz
  exact ⟨⟨h0, h1⟩, .int n, H', I'.tok _, ⟨_, rfl⟩, q⟩
def rTruO (C : Addr) (sp : Sp) (E : XK) : V → Hp → (Bool → Hp → Prop) → Prop := fun x H Q => ∃ p dx fs, x = .ref p ∧ H p = some (.ins C dx fs) ∧
  sp [.ref p] H (fun v H' => ∃ c, v = .bl c ∧ Q c H') E
theorem tru_O {E : XK} (hm : Meth X.K C "__bool__" f) (F : FnOk X.prog X.w X.K X.mg X.base CX k f fd ps sp) (hr : Room (k + 1) X.A)
    (hb : Binds X.K fd ps []) (hx : ∀ σ, PassesAt CX X σ E) : TruR X (rTruO C sp E) := by
  intro pins s σ H x v Q I rx h
  obtain ⟨p, dx, fs, rfl, ep, hsp⟩ := h
  cases rx
  obtain ⟨od, J⟩ := seen I ep
  obtain ⟨m, hF⟩ := I.fr
  refine PySem.W.truthy_K hF I.ok.mod.kin J hm.at_ hm.fn ?_
  refine wpAny_mono (runAt (.inl rfl) F hr hb .nil (hx σ) I (.cons (show RelV (V.ref p) (Value.ref p) from rfl) .nil) hsp) ?_ (fun _ _ z => z)
  rintro w s' ⟨z, H', I', rz, c, rfl, q⟩
  cases rz
  exact ⟨H', I', q⟩
/-- o[i] by the own method, which may raise -/
def tIxO (C : Addr) (sp : Sp) (E : L2.St → XK) (ta tb : TE) : TE := fun σ H Q => ta σ H fun x H1 => tb σ H1 fun y H2 =>
  ∃ p dx fs, x = .ref p ∧ H2 p = some (.ins C dx fs) ∧ sp [x, y] H2 Q (E σ)
theorem pe_ixO {E : L2.St → XK} (hm : Meth X.K C "__getitem__" f) (hfn : PySem.W.fnIn X.K f = true) (F : FnOk X.prog X.w X.K X.mg X.base CX k f fd ps sp)
    (hr : Room (k + 1) X.A) (hb : Binds X.K fd ps []) (hx : ∀ σ, PassesAt CX X σ (E σ)) (ha : PE X a ta) (hb' : PE X b tb)
    (hs : ∀ v u : Value, subscripted b true v u = runValue (.builtin "lifetime.subscript" ⟨[v, u], []⟩) := by intro _ _; with_unfolding_all rfl) :
    PE X (.Subscript a b pos) (tIxO C sp E ta tb) := by
  refine ⟨fun pins s σ H Q I h => ?_⟩
  refine Subscript_ (binT ha hb' I h fun v u s2 x y H2 I2 rx ry q => ?_)
  obtain ⟨p, dx, fs, rfl, ep, hsp⟩ := q
  cases rx
  obtain ⟨od, J⟩ := seen I2 ep
  obtain ⟨m, hF⟩ := I2.fr
  refine PySem.W.sub_K hF I2.ok.mod.kin J hm.at_ hfn hm.fn ?_ (hs _ _)
  exact runAt (.inr rfl) F hr hb .nil (hx σ) I2 (.cons (show RelV (V.ref p) (Value.ref p) from rfl) (.cons ry .nil)) hsp
end
end Gd

set_option Elab.async false
set_option linter.all false
set_option maxRecDepth 100000
set_option maxHeartbeats 4000000
/-! iter(a tuple), and list(o) of an own class that hands on such an iterator and has a length. -/
namespace PySem
section
variable {prog : Program} {w : World} {A : Around} {E : Value → Shared → Prop} {s : Shared}
/-- the end of a tuple's iterator, which stays an object -/
theorem tuple_next_end {it t : Addr} {i : Nat} {items : Array Value} {Q : Option Value → Shared → Prop} (hh : A.handled = none)
    (hit : s.heap.IsTupleIter it t i) (ht : s.heap.IsTuple t items) (hx : items[i]? = none)
    (hQ : ∀ h', (∀ b o, b ≠ it → s.heap.get? b = some o → h'.get? b = some o) → (∃ o, h'.get? it = some o) → Q none { s with heap := h' }) :
    wpAny (model prog w) A (pyNext (.ref it)) Q E s := by
  obtain ⟨o, ho, hc, hd⟩ := id hit
  obtain ⟨ol, hol, _, nl, hdl⟩ := ht
  have self := Heap.get?_update_self (Obj.mapFields (·.setIfInBounds 0 Value.none)) ho (Obj.isFreed_of_fields (Obj.data_mapFields hd _))
  unfold pyNext
  refine wpAny_bind (wpAny_attempt (wpAny_callSpecial?_slot (name := Str.ofString "__next__") hit.typeIs F.slot_tuple_iterator_next (wpAny_call_entry
    F.slot_tuple_iterator_next hit.typeIs F.entry_tuple_iterator_next ?_ (F.args_tuple_iterator_next_1 _))))
  show wpAny _ _ (field (.ref it) 0 >>= _) _ _ s
  refine wpAny_bind (wpAny_field ho hd (x := .ref t) rfl ?_)
  have nn : ¬ ((Value.ref t == Value.none) = true) := Bool.false_ne_true
  show wpAny _ _ (if (Value.ref t == Value.none) = true then _ else _) _ _ s
  rw [if_neg nn]
  show wpAny _ _ (field (.ref it) 1 >>= _) _ _ s
  refine wpAny_bind (wpAny_field ho hd (x := .int i 0) rfl ?_)
  show wpAny _ _ (seqItems? (.ref t) >>= _) _ _ s
  refine wpAny_bind (wpAny_seqItems hol hdl ?_)
  simp only [Int.toNat_natCast, hx]
  refine wpAny_bind (wpAny_rule (wpAny_bind (wpAny_setField ho hd (by simp) ?_)))
  show wpAny _ _ (newExc (.type "StopIteration") [] >>= _) _ _ _
  refine wpAny_bind ?_
  simp only [newExc, newTuple]
  refine wpAny_bind (wpAny_newObj_type ?_ (by size_fits))
  refine wpAny_bind (m := firstArgMember _ _) (wpAny_of_eq (a := Value.none) (by first | rfl | (simp only [firstArgMember]; rfl)) ?_)
  refine wpAny_newObj_type ?_ (by size_fits)
  simp only [raiseNew]
  refine wpAny_bind (wpAny_handled ?_)
  first | rw [show A.in1.handled = none from hh] | rw [hh]
  refine wpAny_bind (wpAny_pure (wpAny_throw ?_))
  refine wpAny_bind (wpAny_isInstance (T := "StopIteration") (b := true) ⟨_, Heap.get?_push_size _ rfl, rfl⟩ isSubtype_stop ?_)
  refine wpAny_pure (hQ _ (fun b o hb e => ?_) ⟨_, Heap.get?_push_of_some _ (Heap.get?_push_of_some _ self)⟩)
  exact Heap.get?_push_of_some _ (Heap.get?_push_of_some _ ((Heap.get?_update_other _ _ (Ne.symm hb)).trans e))
end
end PySem

namespace Gd
open PySem PySem.Spec PyProof.Rows L2
/-- at it: an iterator over the tuple at t, behind i items; | whatever it is -/
def TitO (t it : Addr) (i : Nat) : HO := .ext fun h => h.IsTupleIter it t i
def OddO (it : Addr) : HO := .ext fun h => ∃ o, h.get? it = some o
section
variable {P : Program} {w : World} {H : Hp} {h : Heap} {t it : Addr} {i : Nat}
theorem tit_ok (e : h.IsTupleIter it t i) : ObjOk P w H h it (TitO t it i) := by
  obtain ⟨o, ho, r⟩ := e
  exact ⟨⟨o, ho, r⟩, ⟨o, ho⟩, fun h1 h2 ⟨o', q, r'⟩ k => ⟨o', k _ q, r'⟩⟩
theorem odd_ok (e : ∃ o, h.get? it = some o) : ObjOk P w H h it (OddO it) := ⟨e, e, fun h1 h2 ⟨o', q⟩ k => ⟨o', k _ q⟩⟩
end
section
variable {X : Cx} {pins : List (Addr × Obj)} {σ : L2.St} {H : Hp} {s : Shared} {t it q a : Addr} {i : Nat} {ys : List V}
/-- iter(t), t a tuple -/
def rIterT (K : PySem.W.Frag) : List V → Hp → VK → Prop := fun xs H Q => ∃ (t : Addr) (ys : List V), xs = [.ref t] ∧ SqT K H t ys ∧ ∀ it, H it = none → Q (.ref it) (upd H it (TitO t it 0))
theorem isTuple_of {h : Heap} {a : Addr} {items : Array Value} (x : IsTup h a items) : h.IsTuple a items := by
  obtain ⟨o, h1, h2, h3⟩ := x
  exact ⟨o, h1, h2, by first | exact h3 | exact h3.2⟩
theorem call_iterT : CallR X (.builtin "iter") (rIterT X.K) := by
  intro pins s σ H xs us Q I r h
  obtain ⟨t, ys, rfl, hq, q⟩ := h
  obtain rfl := Vals.ref1 r
  obtain ⟨its, rv, pl, hz⟩ := I.tuple hq
  refine Calls.call_function_entry (by decide +kernel) (by decide +kernel) PySem.W.kdk_entry_iter (PySem.W.kdk_args_iter _) ?_
  unfold Builtin.«iter»
  refine wpAny_bind (m := someArgs "iter" 1 2 _) (wpAny_of_eq (a := [Value.ref t]) (by first | rfl | kernel_rfl!) ?_)
  show wpAny _ _ (pyIter (.ref t) >>= _) _ _ _
  refine wpAny_bind (wpAny_pyIter_tuple (isTuple_of pl) ?_)
  refine wpAny_pure ⟨_, rfl, ?_⟩
  have nw : H s.heap.objs.size = none := I.hok.fresh (Nat.le_refl _)
  refine ⟨.ref s.heap.objs.size, _, I.laid (t' := s.toks) (fun b u e => Heap.get?_push_of_some _ e) (Nat.le_refl _) (tit_ok ⟨_, Heap.get?_push_size _ rfl, rfl, rfl⟩), rfl, q _ nw⟩

theorem take_one {α : Type} : ∀ {l : List α} {i : Nat} (h : i < l.length), l.take (i + 1) = l.take i ++ [l[i]]
  | a :: l, 0, _ => rfl
  | a :: l, i + 1, h => by
    have h' : i < l.length := Nat.lt_of_succ_lt_succ h
    have ih := take_one (l := l) (i := i) h'
    show a :: l.take (i + 1) = (a :: l.take i) ++ [l[i]'h']
    rw [ih]
    rfl
/-- what is known stays known, but for the iterator and the list -/
def But (q it : Addr) (H H' : Hp) : Prop := ∀ b o, b ≠ q → b ≠ it → H b = some o → H' b = some o
theorem drain {A1 : Around} {Rs : Result → Shared → Prop} (hh : A1.in1.handled = none) (hqi : q ≠ it) (hqt : q ≠ t) (hti : t ≠ it) (H0 : Hp)
    (hys : ys.length < sizeLine) (ht0 : SqT X.K H0 t ys)
    (hdone : ∀ H' s', Inv X pins σ H' s' → But q it H0 H' → H' q = some (.lst ys) → H' it = some (OddO it) → Rs (.ok (.ret .none)) s') :
    ∀ (m i : Nat) (H : Hp) (s : Shared), m + i = ys.length → Inv X pins σ H s → But q it H0 H → H it = some (TitO t it i) → H q = some (.lst (ys.take i)) →
      codeAny (model X.prog X.w) A1 (.builtin "list.extend.loop" ⟨[.ref q, .ref it, .none], []⟩) Rs s := by
  intro m
  induction m with
  | zero =>
    intro i H s hi I hB hit hq
    have ht : SqT X.K H t ys := by
      rcases ht0 with (z | ⟨o, z⟩) | z
      · exact .inl (.inl (hB _ _ hqt.symm hti z))
      · exact .inl (.inr ⟨o, hB _ _ hqt.symm hti z⟩)
      · exact .inr z
    obtain ⟨its, rv, pl, hz⟩ := I.tuple ht
    refine codeAny_builtin PySem.F.entry_extend_loop ?_
    rw [Around.under_plainId PySem.F.plain_extend_loop _]
    show wpAny _ A1.in1 (pyNext (.ref it) >>= _) _ _ s
    have hx : its.toArray[i]? = none := by
      have e := rv.length
      rw [List.getElem?_toArray, List.getElem?_eq_none_iff]
      omega
    have T : s.heap.IsTupleIter it t i := (I.hok it _ hit).1
    refine wpAny_bind (PySem.tuple_next_end (items := its.toArray) hh T (isTuple_of pl) hx ?_)
    intro h' keep ex
    have J : Inv X pins σ (upd H it (OddO it)) { s with heap := h' } := by
      refine I.write (t' := s.toks) (x := it) (e := it) (by rw [hit]; exact True.intro) (.inl rfl) (fun b u hb hu => keep b u hb hu) ex (odd_ok ex)
    refine wpAny_pure (hdone _ _ J ?_ ?_ upd_same)
    · intro b o h1 h2 e
      rw [upd_ne h2]
      exact hB b o h1 h2 e
    · rw [upd_ne hqi, hq, List.take_of_length_le (by omega)]
  | succ m ih =>
    intro i H s hi I hB hit hq
    have ht : SqT X.K H t ys := by
      rcases ht0 with (z | ⟨o, z⟩) | z
      · exact .inl (.inl (hB _ _ hqt.symm hti z))
      · exact .inl (.inr ⟨o, hB _ _ hqt.symm hti z⟩)
      · exact .inr z
    obtain ⟨its, rv, pl, hz⟩ := I.tuple ht
    have hlt : i < ys.length := by omega
    obtain ⟨u, hu, ru⟩ := rv.get (List.getElem?_eq_getElem hlt)
    refine codeAny_builtin PySem.F.entry_extend_loop ?_
    rw [Around.under_plainId PySem.F.plain_extend_loop _]
    show wpAny _ A1.in1 (pyNext (.ref it) >>= _) _ _ s
    have T : s.heap.IsTupleIter it t i := (I.hok it _ hit).1
    refine wpAny_bind (wpAny_pyNext_tuple_item (items := its.toArray) T (isTuple_of pl) (by rw [List.getElem?_toArray]; exact hu) ?_)
    intro h' T' same
    have ex : ∃ o, h'.get? it = some o := by
      obtain ⟨o, ho, _⟩ := T'
      exact ⟨o, ho⟩
    have J : Inv X pins σ (upd H it (TitO t it (i + 1))) { s with heap := h' } :=
      I.write (t' := s.toks) (x := it) (e := it) (by rw [hit]; exact True.intro) (.inl rfl) (fun b u hb hu => (same.2 b hb).trans hu) ex (tit_ok T')
    have hq' : upd H it (TitO t it (i + 1)) q = some (.lst (ys.take i)) := by rw [upd_ne hqi]; exact hq
    obtain ⟨z, its2, n2, r2, hl2, e2⟩ := J.lstM hq'
    have l2 : its2.length ≤ i := by rw [← hl2, List.length_take]; omega
    show wpAny _ A1.in1 (updateSeq q (·.push u) >>= _) _ _ _
    refine wpAny_bind (wpAny_updateSeq e2 rfl (wpAny_pure ⟨plainId_quiet PySem.F.plain_extend_loop _, ?_⟩) (by rw [List.size_toArray]; omega) (by show (its2.toArray.push u).size ≤ sizeLine + 1; rw [Array.size_push, List.size_toArray]; omega))
    have tk : ys.take (i + 1) = ys.take i ++ [ys[i]] := take_one hlt
    have J2 := J.lset (f := (·.push u)) (its' := its2 ++ [u]) (ys := ys.take i ++ [ys[i]]) (t' := s.toks) hq' e2 (List.push_toArray its2 u) (r2.append (.cons ru .nil)) (by rw [List.length_append, List.length_singleton, List.length_take]; omega)
    refine ih (i + 1) _ _ (by omega) J2 ?_ ?_ (by rw [tk, upd_same])
    · intro b o h1 h2 e
      rw [upd_ne h1, upd_ne h2]
      exact hB b o h1 h2 e
    · rw [upd_ne hqi.symm, upd_same]

/-- the list's room is made -/
theorem touched {q : Addr} {A : Around} {R : Unit → Shared → Prop} {E : Value → Shared → Prop} (I : Inv X pins σ H s) (hq : H q = some (.lst []))
    (h : ∀ s', Inv X pins σ H s' → R () s') : wpAny (model X.prog X.w) A (Builtin.List.listTouch (.ref q)) R E s := by
  obtain ⟨z, its, k, r3, hl3, e3⟩ := I.lstM hq
  cases r3
  show wpAny _ _ (updateSeq q (·.push .none) >>= fun _ => updateSeq q (·.pop)) _ _ _
  refine wpAny_bind (wpAny_updateSeq e3 rfl ?_)
  have I2 := I.lset (f := (·.push Value.none)) (its' := [Value.none]) (ys := [.non]) (t' := s.toks) hq e3 (by simp) (.cons rfl .nil) (by rw [List.length_singleton, sizeLine_eq]; decide)
  obtain ⟨z4, its4, k4, r4, hl4, e4⟩ := I2.lstM upd_same
  obtain ⟨u4, rfl, ru4⟩ := r4.one
  refine wpAny_updateSeq e4 rfl ?_ (by show 1 ≤ sizeLine; rw [sizeLine_eq]; decide) (by show 0 ≤ sizeLine + 1; exact Nat.zero_le _)
  have I3 := I2.lset (f := (·.pop)) (its := [u4]) (its' := []) (ys := []) (t' := s.toks) upd_same e4 (by rfl) .nil (Nat.zero_le _)
  rw [upd_upd] at I3
  have hH : upd H q (.lst []) = H := by
    funext b
    by_cases hb : b = q
    · rw [hb, upd_same, hq]
    · rw [upd_ne hb]
  rw [hH] at I3
  exact h _ I3

/-- a class whose instances hand on a tuple's iterator, and have a length -/
structure ItT (K : PySem.W.Frag) (C fi fl : Addr) : Prop where
  it : Meth K C "__iter__" fi
  ln : Meth K C "__len__" fl
/-- what its __iter__ promises: an iterator of the tuple that R tells; what its __len__ promises -/
def spIt (K : PySem.W.Frag) (R : Addr → Addr → List V → Hp → Prop) : Sp := fun vs H Q _ => ∃ a t ys, vs = [.ref a] ∧ R a t ys H ∧ SqT K H t ys ∧ ∀ it, H it = none → Q (.ref it) (upd H it (TitO t it 0))
def spLn (R : Addr → Addr → List V → Hp → Prop) : Sp := fun vs H Q _ => ∃ a t ys, vs = [.ref a] ∧ R a t ys H ∧ Q (.int (ys.length : Int)) H
/-- list(o) -/
def rListO (K : PySem.W.Frag) (C : Addr) (R : Addr → Addr → List V → Hp → Prop) : List V → Hp → VK → Prop := fun xs H Q =>
  ∃ a dx fs t ys, xs = [.ref a] ∧ H a = some (.ins C dx fs) ∧ (∀ H', (∀ b o, H b = some o → H' b = some o) → R a t ys H') ∧ SqT K H t ys ∧ ys.length < sizeLine ∧
    ∀ q H', (∀ b o, H b = some o → H' b = some o) → H q = none → H' q = some (.lst ys) → Q (.ref q) H'
theorem call_listO {C fi fl : Addr} {k : Nat} {fdI fdL : FuncData} {psI psL : List Str} {R : Addr → Addr → List V → Hp → Prop} (hc : ItT X.K C fi fl)
    (FI : FnOk X.prog X.w X.K X.mg X.base CX0 k fi fdI psI (spIt X.K R)) (bI : Binds X.K fdI psI []) (FL : FnOk X.prog X.w X.K X.mg X.base CX0 k fl fdL psL (spLn R)) (bL : Binds X.K fdL psL [])
    (hr : Room (k + 5) X.A) : CallR X (.type "list") (rListO X.K C R) := by
  intro pins s σ H xs us Q I rv h
  obtain ⟨a, dx, fs, t, ys, rfl, ha, hR, ht, hlen, hq⟩ := h
  obtain ⟨u, rfl, ru⟩ := rv.one
  cases ru
  have rm2 : Room (k + 3) X.A.in1.in1 := (hr.in1).in1
  have sb : Sub X (k + 3) X.A.in1.in1 := Sub.in1 (Sub.in1 (⟨hr, rfl⟩ : Sub X (k + 5) X.A))
  refine callType_codes (Q₁ := fun obj s₁ => obj = .ref s.heap.objs.size ∧ s₁ = { s with heap := s.heap.push { cls := .type "list", data := .seq #[] } }) PySem.F.called_list (PySem.F.typeCall_list_1 _) PySem.F.entry_list_init
    (code_list_new _ ⟨rfl, rfl⟩) ?_
  intro obj s₁ h₁
  obtain ⟨rfl, rfl⟩ := h₁
  have hS : (s.heap.push { cls := .type "list", data := .seq #[] }).get? s.heap.objs.size = some { cls := .type "list", data := .seq #[] } := Heap.get?_push_size _ rfl
  refine ⟨⟨_, hS, rfl⟩, PySem.F.args_list_init_2 _ _, ?_⟩
  have fr : H s.heap.objs.size = none := I.hok.fresh (Nat.le_refl _)
  have I1 : Inv X pins σ (upd H s.heap.objs.size (.lst [])) { s with heap := s.heap.push { cls := .type "list", data := .seq #[] } } := I.lnew (its := []) (t' := s.toks) .nil (Nat.zero_le _)
  generalize hqq : s.heap.objs.size = q at *
  show wpAny _ _ (do let old ← Builtin.List.listItems (.ref q); Builtin.List.listUpdate (.ref q) (fun _ => #[]); letGo old.toList.reverse; Builtin.List.listExtendWith (.ref q) (.ref a) .none) _ _ _
  refine wpAny_bind ?_
  unfold Builtin.List.listItems
  refine wpAny_bind (wpAny_seqItems hS rfl (wpAny_pure ?_))
  show wpAny _ _ (updateSeq q (fun _ => #[]) >>= fun _ => letGo (#[] : Array Value).toList.reverse >>= fun _ => Builtin.List.listExtendWith (.ref q) (.ref a) .none) _ _ _
  refine wpAny_bind (wpAny_updateSeq hS rfl ?_)
  have I2 := I1.lset (f := fun _ => #[]) (its := []) (its' := []) (ys := []) (t' := s.toks) upd_same hS rfl .nil (Nat.zero_le _)
  rw [upd_upd] at I2
  refine wpAny_bind (wpAny_letGo ?_)
  have H2ext : ∀ b o, H b = some o → upd H q (.lst []) b = some o := fun b o e => by
    rw [upd_ne (ne_of_none e fr)]
    exact e
  have ha2 := H2ext _ _ ha
  have hq2 : upd H q (.lst []) q = some (.lst []) := upd_same
  have ht2 : SqT X.K (upd H q (.lst [])) t ys := ht.ext H2ext
  generalize hH2 : upd H q (.lst []) = H2 at *
  have hne : q ≠ a := ne_of hq2 ha2 (fun z => nomatch z)
  obtain ⟨od, J⟩ := seen I2 ha2
  obtain ⟨m0, hF⟩ := I2.fr
  unfold Builtin.List.listExtendWith
  refine wpAny_bind (J.type.here ?_)
  have h1 : Builtin.List.listSameRef (.ref q) (.ref a) = false := by simp [Builtin.List.listSameRef, hne]
  have h2 : (Value.ref C == Value.type "list") = false := rfl
  have h3 : (Value.ref C == Value.type "tuple") = false := rfl
  simp only [h1, h2, h3, Bool.or_false, Bool.false_eq_true, if_false]
  refine wpAny_bind (PySem.W.owit_iter hF I2.ok.mod.kin J hc.it.at_ hc.it.fn ?_)
  have e0 : Env0 X.prog X.w X.K X.mg X.base X.A.in1.in1 X.stack _ H2 := I2.env0.in1.in1
  have room : Room k X.A.in1.in1 := rm2.mono (by omega)
  have hspI : spIt X.K R [.ref a] H2 (fun v H' => ∃ it, v = .ref it ∧ H2 it = none ∧ H' = upd H2 it (TitO t it 0)) E0 := ⟨a, t, ys, rfl, hR _ H2ext, ht2, fun it n => ⟨it, rfl, n, rfl⟩⟩
  have hl := FI.len _ _ _ _ hspI
  have r2 : Vals [V.ref a] [Value.ref a] := .cons rfl .nil
  refine wpAny_call (codeAny_mono (FI.run X.A.in1.in1 X.stack _ H2 ⟨[.ref a], []⟩ [.ref a] [.ref a] _ E0 room e0 (by
    have := bI _ [.ref a] I2.kIn (by simpa using hl)
    simpa using this) r2 hspI) ?_)
  intro r s' hq'
  match r, hq' with
  | .error e, hq' => exact hq'.elim
  | .ok .next, hq' => exact False.elim hq'
  | .ok .brk, hq' => exact False.elim hq'
  | .ok .cont, hq' => exact False.elim hq'
  | .ok (.ret u), hq' =>
    obtain ⟨v, H3, I3, rv3, it, rfl, itn, rfl⟩ := I2.after hq'
    cases rv3
    have hit : upd H2 it (TitO t it 0) it = some (TitO t it 0) := upd_same
    have T : s'.heap.IsTupleIter it t 0 := (I3.hok it _ hit).1
    have E3 : ∀ b o, H b = some o → upd H2 it (TitO t it 0) b = some o := fun b o e => by
      rw [upd_ne (ne_of_none (H2ext _ _ e) itn)]
      exact H2ext _ _ e
    have ha3 := E3 _ _ ha
    have hqi : q ≠ it := ne_of_none hq2 itn
    have hq3 : upd H2 it (TitO t it 0) q = some (.lst []) := by
      rw [upd_ne hqi]
      exact hq2
    have ht3 : SqT X.K (upd H2 it (TitO t it 0)) t ys := ht.ext E3
    have hqt : q ≠ t := by
      intro z
      subst z
      rcases ht with (z | ⟨o, z⟩) | ⟨o, its, n, z, hcls, _⟩
      · rw [fr] at z
        cases z
      · rw [fr] at z
        cases z
      · obtain ⟨_, its2, n2, _, _, e2⟩ := I2.lstM hq2
        have e3 := I2.kIn _ _ z
        rw [e2] at e3
        cases (Option.some.inj e3)
        exact absurd (Value.type.inj hcls) (by decide)
    have hti : t ≠ it := by
      intro z
      subst z
      rcases ht2 with (z | ⟨o, z⟩) | ⟨o, its, n, z, hcls, _⟩
      · rw [itn] at z
        cases z
      · rw [itn] at z
        cases z
      · obtain ⟨o2, e2, c2, _⟩ := T
        have e3 := I3.kIn _ _ z
        rw [e2] at e3
        cases (Option.some.inj e3)
        rw [c2] at hcls
        exact absurd (Value.type.inj hcls) (by decide)
    refine wpAny_specialOf (Heap.IsTupleIter.typeIs T) PySem.F.slot_tuple_iterator_next.lookup ?_
    have loop : ∀ s4, Inv X pins σ (upd H2 it (TitO t it 0)) s4 → codeAny (model X.prog X.w) X.A.in1 (.builtin "list.extend.loop" ⟨[.ref q, .ref it, .none], []⟩)
        (wants (fun r s₂ => r = Value.none ∧ EP X pins σ Q (Value.ref q) s₂) X.xe) s4 := by
      intro s4 I4
      refine drain (A1 := X.A.in1) rm2.hd hqi hqt hti (upd H2 it (TitO t it 0)) hlen ht3 ?_ ys.length 0 _ s4 rfl I4 (fun b o _ _ e => e) hit (by rw [List.take_zero]; exact hq3)
      intro H' s5 I5 hB5 hq5 _
      refine ⟨rfl, .ref q, H', I5, rfl, hq q H' ?_ fr hq5⟩
      intro b o e
      have nq : b ≠ q := ne_of_none e fr
      have ni : b ≠ it := ne_of_none (H2ext _ _ e) itn
      exact hB5 b o nq ni (E3 _ _ e)
    have fin : ∀ s4, Inv X pins σ (upd H2 it (TitO t it 0)) s4 → wpAny (model X.prog X.w) X.A.in1.in1 (again (.builtin "list.extend.loop" ⟨[.ref q, .ref it, .none], []⟩))
        (fun fin s' => match fin with | .done f => wants (fun r s₂ => r = Value.none ∧ EP X pins σ Q (Value.ref q) s₂) X.xe (.ok f) s' | .again c' => c'.quiet = true ∧ codeAny (model X.prog X.w) X.A.in1 c' (wants (fun r s₂ => r = Value.none ∧ EP X pins σ Q (Value.ref q) s₂) X.xe) s')
        (fun e s' => wants (fun r s₂ => r = Value.none ∧ EP X pins σ Q (Value.ref q) s₂) X.xe (.error e) s') s4 := by
      intro s4 I4
      exact wpAny_pure ⟨plainId_quiet PySem.F.plain_extend_loop _, loop s4 I4⟩
    refine wpAny_bind (wpAny_holding ?_)
    obtain ⟨od3, J3⟩ := seen I3 ha3
    obtain ⟨m3, hF3⟩ := I3.fr
    unfold Builtin.List.listLengthHint
    refine wpAny_bind (wpAny_bind (J3.type.here ((PySem.W.looks_findIn I3.kIn hc.ln.at_).here ?_)))
    refine PySem.W.KFB.if_not rfl ?_
    refine PySem.W.KFB.if_so rfl ?_
    refine wpAny_bind (wpAny_rule ?_)
    refine wpAny_bind (m := (call (.builtin "len") [Value.ref a]).attempt) (wpAny_attempt ?_)
    refine PySem.W.len_K hF3 I3.ok.mod.kin J3 hc.ln.at_ hc.ln.fn ?_
    have hspL : spLn R [.ref a] (upd H2 it (TitO t it 0)) (fun v H' => v = .int (ys.length : Int) ∧ H' = upd H2 it (TitO t it 0)) E0 := ⟨a, t, ys, rfl, hR _ E3, rfl, rfl⟩
    have hlL := FL.len _ _ _ _ hspL
    refine wpAny_call (codeAny_mono (FL.run X.A.in1.in1.in1 X.stack _ _ ⟨[.ref a], []⟩ [.ref a] [.ref a] _ E0 (rm2.in1.mono (by omega)) I3.env0.in1.in1.in1 (by
      have := bL _ [.ref a] I3.kIn (by simpa using hlL)
      simpa using this) r2 hspL) ?_)
    intro r4 s4 hq4
    match r4, hq4 with
    | .error e, hq4 => exact hq4.elim
    | .ok .next, hq4 => exact False.elim hq4
    | .ok .brk, hq4 => exact False.elim hq4
    | .ok .cont, hq4 => exact False.elim hq4
    | .ok (.ret u4), hq4 =>
      obtain ⟨v4, H4, I4, rv4, rfl, rfl⟩ := I3.after hq4
      obtain ⟨tk4, rfl⟩ := rv4
      have l63 := line63
      refine ⟨⟨Int.natCast_nonneg _, by omega⟩, ?_⟩
      show wpAny _ _ (asInt? (Value.int (ys.length : Int) s4.toks) >>= _) _ _ _
      refine wpAny_bind (wpAny_pure ?_)
      show wpAny _ _ (if Builtin.List.listTooLong (ys.length : Int).toNat = true then _ else _) _ _ _
      rw [if_neg (by rw [Int.toNat_natCast, notLongL (Nat.le_of_lt hlen)]; exact Bool.false_ne_true)]
      refine wpAny_pure ?_
      have I5 := I4.tok (s4.toks + 1)
      refine wpAny_ite_split (fun _ => ?_) (fun _ => fin _ I5)
      exact wpAny_bind (wpAny_rule (wpAny_bind (touched I5 hq3 fin)))
end
end Gd

set_option Elab.async false
set_option linter.all false
set_option maxRecDepth 100000
set_option maxHeartbeats 4000000
/-! bool(o) and != of own classes. -/
namespace PySem
section
variable {prog : Program} {w : World} {A : Around} {E : Value → Shared → Prop} {s : Shared}
theorem bool_new_any (x : Value) : MeetsIn prog w (Builtin.«bool.__new__» ⟨[.type "bool", x], []⟩) (fun A R s =>
    wpAny (model prog w) A.in1 (truthy x) (fun b s' => R (.ok (.ret (.bool b))) s') (fun e s' => R (.error e) s') s) := by
  intro A R s h
  have f1 := F.conv_sub_bool
  unfold Builtin.«bool.__new__»
  refine wpAny_bind (wpAny_of_eq (a := true) (by first | rfl | kernel_rfl) ?_)
  refine PySem.W.KFB.if_not rfl ?_
  refine wpAny_bind (wpAny_of_eq f1 ?_)
  refine PySem.W.KFB.if_not rfl ?_
  refine wpAny_bind (m := someArgs "bool" 0 1 _) (wpAny_of_eq (a := [x]) (by first | rfl | kernel_rfl!) ?_)
  refine wpAny_bind (wpAny_mono h (fun b s' q => ?_) fun _ _ z => z)
  exact wpAny_pure q
theorem call_bool_any {x : Value} {Q : Value → Shared → Prop}
    (h : wpAny (model prog w) A.in1.in1 (truthy x) (fun b s' => Q (.bool b) s') E s) : wpAny (model prog w) A (call (.type "bool") [x]) Q E s := by
  refine callType_newIn F.called_bool F.newNe_bool (F.typeCall_bool_1 x) (F.newCall_bool_1 x) (fun obj => F.args_object_init_2 obj x) F.entry_bool_new (bool_new_any x) ?_
  exact wpAny_mono h (fun b s' q => ⟨rfl, q⟩) fun _ _ z => z
end
end PySem

namespace HN2
open PySem PySem.Spec PyProof.Rows PySem.SeqAt
section
variable {prog : Program} {w : World} {A : Around} {E : Value → Shared → Prop} {s : Shared} {K : PySem.W.Frag} {x C f : Addr} {ox : Obj} {od : Option Obj} {y : Value}
theorem ne_entry (hu : A.units < cLine) (X : K.In s.heap) (I : PySem.W.InstAt s.heap x ox C od) (hs : PySem.W.findIn K (.ref C) "__eq__" = some (some (.ref f))) (hf : PySem.W.isFn K (.ref f) = true) {Q : Fin → Shared → Prop}
    (h : wpAny (model prog w) A (call (.ref f) [.ref x, y]) (fun v s' => ∃ b, v = .bool b ∧ Q (.done (.ret (.bool (!b)))) s') E s) :
    wpAny (model prog w) A (Builtin.«object.__ne__» ⟨[.ref x, y], []⟩) Q E s := by
  unfold Builtin.«object.__ne__»
  refine wpAny_bind (m := slotArgs "__ne__" 1 _) (wpAny_of_eq (a := (Value.ref x, [y])) (by first | rfl | kernel_rfl!) ?_)
  refine wpAny_bind (wpAny_cRoomFor hu ?_)
  refine wpAny_bind (m := callSpecialIfBound? (.ref x) (Str.ofString "__eq__") [y]) (PySem.W.ifBound_K X I hs hf (wpAny_mono h (fun v s' z => ?_) fun _ _ z => z))
  obtain ⟨b, rfl, q⟩ := z
  exact wpAny_bind (wpAny_truthy_bool (wpAny_pure q))
theorem ifBound_ne {M : Model} {args : List Value} {Q : Option Value → Shared → Prop} (X : K.In s.heap) (I : PySem.W.InstAt s.heap x ox C od) (hs : PySem.W.findIn K (.ref C) "__ne__" = some (some (.builtin "object.__ne__")))
    (h : wpAny M A (call (.builtin "object.__ne__") (.ref x :: args)) (fun v => Q (some v)) E s) : wpAny M A (callSpecialIfBound? (.ref x) "__ne__" args) Q E s := by
  simp only [callSpecialIfBound?, bindSpecialIfBound?]
  refine wpAny_holding (wpAny_bind (wpAny_bind (wpAny_bind (I.type.here ((PySem.W.looks_findIn X hs).here ?_)))))
  refine wpAny_bind (wpAny_askSetting (wpAny_ite ?_))
  have last : wpAny M A (call (.builtin "object.__ne__") ([.ref x] ++ args) >>= fun v => pure (some v)) Q E s :=
    wpAny_bind (wpAny_mono h (fun v s' h' => wpAny_pure h') fun _ _ h' => h')
  split
  · exact wpAny_bind (wpAny_of_eq (F.cmp_object.ne.bind _) (wpAny_pure (by exact last)))
  · exact wpAny_tryCatch (wpAny_bind (wpAny_of_eq (F.cmp_object.ne.bind _) (wpAny_pure (by exact last))))
theorem rich_ne {tb : Value} {Q : Value → Shared → Prop} (hu : A.units + 1 < cLine) (X : K.In s.heap) (I : PySem.W.InstAt s.heap x ox C od) (hb : PySem.W.Looks (model prog w) s.heap (typeOf y) tb)
    (hn : PySem.W.notFirst K C tb = true) (hne : PySem.W.findIn K (.ref C) "__ne__" = some (some (.builtin "object.__ne__"))) (ho : PySem.W.mroIn K C (.type "object") = some true)
    (hs : PySem.W.findIn K (.ref C) "__eq__" = some (some (.ref f))) (hf : PySem.W.isFn K (.ref f) = true)
    (h : wpAny (model prog w) A.in1 (call (.ref f) [.ref x, y]) (fun v s' => ∃ b, v = .bool b ∧ Q (.bool (!b)) s') E s) :
    wpAny (model prog w) A (richCompare .NotEq (.ref x) y) Q E s := by
  have one : wpAny (model prog w) A (tryCompare (.ref x) "__ne__" y) (fun r s' => ∃ v, r = some v ∧ Q v s') E s := by
    unfold tryCompare
    refine wpAny_bind (ifBound_ne X I hne (wpAny_call (codeAny_call_builtin F.cmp_object.ne.plain F.cmpEntry_ne (PySem.W.check_slot F.cmpKind_ne F.cmpSplit_ne (I.type.andThen (PySem.W.looks_mroIn X ho)) (F.cmpArgs_ne _ _)
      (ne_entry (A := A.in1) (by show A.units + 1 < cLine; exact hu) X I hs hf (wpAny_mono h (fun v s' z => ?_) fun _ _ z => z))))))
    obtain ⟨b, rfl, q⟩ := z
    exact ⟨b, rfl, wpAny_pure ⟨_, rfl, q⟩⟩
  unfold richCompare
  simp only [oneThing_ref]
  refine wpAny_holding (wpAny_bind (wpAny_cRoomFor (Nat.lt_of_succ_lt hu) ?_))
  rw [cmpInfo_NotEq]
  dsimp only
  refine wpAny_bind (I.type.here (wpAny_bind (hb.here ?_)))
  split
  · rename_i q
    have e : PySem.W.subIn K tb (.ref C) = some false := by
      rcases Bool.or_eq_true_iff.mp hn with e | e
      · rw [beq_iff_eq.mp e] at q
        simp at q
      · exact beq_iff_eq.mp e
    refine wpAny_bind ((PySem.W.looks_subIn X e).here ?_)
    simp only [Bool.false_eq_true, if_false]
    refine wpAny_bind (m := tryCompare (.ref x) _ y) (wpAny_mono one (fun r s' z => ?_) fun _ _ e => e)
    obtain ⟨v, rfl, hq⟩ := z
    exact wpAny_pure hq
  · refine wpAny_bind (wpAny_pure ?_)
    simp only [Bool.false_eq_true, if_false]
    refine wpAny_bind (m := tryCompare (.ref x) _ y) (wpAny_mono one (fun r s' z => ?_) fun _ _ e => e)
    obtain ⟨v, rfl, hq⟩ := z
    exact wpAny_pure hq
end
end HN2

namespace Gd
open PySem PySem.Spec PyProof.Rows L2
section
variable {X : Cx} {CX : CXT} {k : Nat} {f C : Addr} {fd : FuncData} {ps : List Str} {sp : Sp}
/-- what != of a class with an own == asks of the class -/
structure NeC (K : PySem.W.Frag) (C : Addr) : Prop where
  ne : PySem.W.findIn K (.ref C) "__ne__" = some (some (.builtin "object.__ne__"))
  ob : PySem.W.mroIn K C (.type "object") = some true
def rNeO (K : PySem.W.Frag) (C : Addr) (sp : Sp) (E : XK) : R2 := fun x y H Q => ∃ p dx fs t, x = .ref p ∧ H p = some (.ins C dx fs) ∧
  TyX K H y t ∧ PySem.W.notFirst K C t = true ∧ sp [x, y] H (fun v H' => ∃ c, v = .bl c ∧ Q (.bl (!c)) H') E
theorem op_neO {E : XK} (hn : NeC X.K C) (hm : Meth X.K C "__eq__" f) (F : FnOk X.prog X.w X.K X.mg X.base CX k f fd ps sp) (hr : Room (k + 1) X.A)
    (hb : Binds X.K fd ps []) (hx : ∀ σ, PassesAt CX X σ E) : OpR X (compareOp .NotEq) (rNeO X.K C sp E) := by
  intro pins s σ H x y v u Q I rx ry h
  obtain ⟨p, dx, fs, t, rfl, ep, ty, hnf, hsp⟩ := h
  cases rx
  obtain ⟨od, J⟩ := seen I ep
  obtain ⟨P, Z, hP, _⟩ := kit_of I ry ty
  show wpAny _ _ (richCompare .NotEq _ _) _ _ _
  refine HN2.rich_ne (hu_of hr) I.kIn J (Z.ty _ _ I.kIn hP) hnf hn.ne hn.ob hm.at_ hm.fn ?_
  refine wpAny_mono (runAt (.inr rfl) F hr hb .nil (hx σ) I (.cons (show RelV (V.ref p) (Value.ref p) from rfl) (.cons ry .nil)) hsp) ?_ (fun _ _ z => z)
  rintro w s' ⟨z, H', I', rz, c, rfl, q⟩
  cases rz
  exact ⟨c, rfl, .bl (!c), H', I', rfl, q⟩
/-- bool(o) -/
def rBoolO (C : Addr) (sp : Sp) (E : XK) : List V → Hp → VK → Prop := fun xs H Q => ∃ p dx fs, xs = [.ref p] ∧ H p = some (.ins C dx fs) ∧
  sp [.ref p] H (fun v H' => ∃ c, v = .bl c ∧ Q (.bl c) H') E
theorem call_boolO {E : XK} (hm : Meth X.K C "__bool__" f) (F : FnOk X.prog X.w X.K X.mg X.base CX k f fd ps sp) (hr : Room (k + 2) X.A)
    (hb : Binds X.K fd ps []) (hx : ∀ σ, PassesAt CX X σ E) : CallR X (.type "bool") (rBoolO C sp E) := by
  intro pins s σ H xs us Q I r h
  obtain ⟨p, dx, fs, rfl, ep, hsp⟩ := h
  obtain ⟨u, rfl, hu1⟩ := vals1 r
  cases hu1
  obtain ⟨od, J⟩ := seen I ep
  obtain ⟨m, hF⟩ := I.fr
  refine call_bool_any (PySem.W.truthy_K hF I.ok.mod.kin J hm.at_ hm.fn ?_)
  have hl := F.len _ _ _ _ hsp
  refine wpAny_call (codeAny_mono (F.run X.A.in1.in1 X.stack s H ⟨[.ref p], []⟩ [.ref p] [.ref p] _ E hr.in1.in1 I.env0.in1.in1 (by
    have := hb s [.ref p] I.kIn (by simpa using hl)
    simpa using this) (.cons (show RelV (V.ref p) (Value.ref p) from rfl) .nil) hsp) ?_)
  intro r s' hq
  match r, hq with
  | .error e, hq => exact hx σ pins H s e s' I hq
  | .ok .next, hq => exact False.elim hq
  | .ok .brk, hq => exact False.elim hq
  | .ok .cont, hq => exact False.elim hq
  | .ok (.ret u), hq =>
    obtain ⟨v, H', I', rv, c, rfl, q⟩ := I.after hq
    cases rv
    exact ⟨.bl c, H', I', rfl, q⟩
end
end Gd

set_option Elab.async false
set_option linter.all false
set_option maxRecDepth 100000
set_option maxHeartbeats 4000000
/-! enumerate(a tuple). -/
namespace HN4
open PySem PySem.Spec PyProof.Rows PySem.SeqAt
theorem meets_enum1 {v : Value} {o : Obj} {G : Heap → Prop} (B : Begins v o G) : Meets (Builtin.«enumerate.__new__» ⟨[.type "enumerate", v], []⟩) (fun _ R s => G s.heap ∧
    R (.ok (.ret (.ref (s.heap.push o).objs.size))) { s with heap := (s.heap.push o).push { cls := .type "enumerate", data := .fields #[.none, .bool false, .ref s.heap.objs.size, rawInt 0, .none, .none] } }) := by
  refine .of_wp fun prog w A R ⟨hp, g, d, tk, os⟩ hh => ?_
  obtain ⟨h1, h⟩ := hh
  have sb := sub_enumerate
  have it : ∀ {A' : Around} {E : Value → Shared → Prop} {Q : Value → Shared → Prop}, Q (.ref hp.objs.size) ⟨hp.push o, g, d, tk, os⟩ → wpAny (model prog w) A' (pyIter v) Q E ⟨hp, g, d, tk, os⟩ := fun q => B.iter prog w _ _ ⟨hp, g, d, tk, os⟩ _ h1 q
  wp_walk using it
  refine wpAny_stack_any fun st => wpAny_pure ?_
  split
  · rename_i c _ _ _ _ _
    cases (c == Value.type "enumerate") <;> (wp_walk using it; exact ⟨_, rfl, h⟩)
  · wp_walk using it
    exact ⟨_, rfl, h⟩
theorem begins_tup (t : Addr) (items : Array Value) : Begins (.ref t) { cls := .type "tuple_iterator", data := .fields #[.ref t, .int 0 0] } (fun h => h.IsTuple t items) where
  iter := fun prog w A E s Q ht hq => wpAny_pyIter_tuple ht hq
  keeps := fun h h' ht k => ht.at fun o e => k _ _ e
  free := rfl
section
variable {prog : Program} {w : World} {A : Around} {E : Value → Shared → Prop} {s : Shared}
theorem call_enumT {t : Addr} {items : Array Value} {Q : Value → Shared → Prop} (ht : s.heap.IsTuple t items)
    (h : ∀ h', IsEnum h' (s.heap.objs.size + 1) s.heap.objs.size 0 .none → h'.IsTupleIter s.heap.objs.size t 0 → (∀ b o, s.heap.get? b = some o → h'.get? b = some o) → Q (.ref (s.heap.objs.size + 1)) { s with heap := h' }) :
    wpAny (model prog w) A (call (.type "enumerate") [.ref t]) Q E s := by
  let o1 : Obj := { cls := .type "tuple_iterator", data := .fields #[.ref t, .int 0 0] }
  let o2 : Obj := { cls := .type "enumerate", data := .fields #[.none, .bool false, .ref s.heap.objs.size, rawInt 0, .none, .none] }
  have e1 : (s.heap.push o1).objs.size = s.heap.objs.size + 1 := Heap.size_push ..
  have e2 : ((s.heap.push o1).push o2).get? (s.heap.objs.size + 1) = some o2 := by
    have q := Heap.get?_push_size (s.heap.push o1) (o := o2) rfl
    rw [e1] at q
    exact q
  refine callType_new F.called_enumerate (by decide) (F.typeCall_enumerate_1 _) (F.newCall_enumerate_1 _) (fun obj => F.args_object_init_2 obj _) F.entry_enumerate_new (meets_enum1 (begins_tup t items)) ⟨ht, ?_⟩
  show _ ∧ _
  rw [e1]
  exact ⟨⟨_, e2, rfl⟩, h _ e2 ⟨_, Heap.get?_push_of_some _ (Heap.get?_push_size _ rfl), rfl, rfl⟩ fun b ob x => Heap.get?_push_of_some _ (Heap.get?_push_of_some _ x)⟩
end
end HN4
namespace Gd
open PySem PySem.Spec PyProof.Rows L2
/-- a tuple walked with its places: at each turn a new pair -/
def IteT (K : PySem.W.Frag) (t : Addr) : It where
  go := fun i H => ∃ (xs : List V) (x : V), SqT K H t xs ∧ xs[i]? = some x
  yld := fun i H v H' => ∃ T x, v = .ref T ∧ H T = none ∧ H' = upd H T (.tup [.int (i : Nat), x]) ∧ ∀ xs, SqT K H t xs → xs[i]? = some x
  stop := fun i H => ∃ xs : List V, SqT K H t xs ∧ xs.length = i
theorem tit_apart {h : Heap} {t it : Addr} {i : Nat} {items : Array Value} (a : h.IsTupleIter it t i) (b : h.IsTuple t items) : t ≠ it := by
  intro z
  subst z
  obtain ⟨o1, g1, c1, _⟩ := a
  obtain ⟨o2, g2, c2, _⟩ := b
  rw [g1] at g2
  cases g2
  rw [c1] at c2
  exact absurd c2 (by decide)
theorem enum_apart {h : Heap} {e it t : Addr} {k : Int} {old : Value} {items : Array Value} (a : IsEnum h e it k old) (b : h.IsTuple t items) : e ≠ t := by
  intro z
  subst z
  obtain ⟨o2, g2, c2, _⟩ := b
  have g1 : h.get? e = some _ := a
  rw [g1] at g2
  cases g2
  exact absurd c2 (by simp)
theorem turn_enumT {P : Program} {w : World} {K : PySem.W.Frag} {elts : List Expr} {kk : Nat} {tpos : Pos} (t e it : Addr) :
    Turn P w K (.Tuple elts kk tpos) (IteT K t) [e, it] e (fun i h => (∃ old, IsEnum h e it ((i : Nat) : Int) old) ∧ h.IsTupleIter it t i ∧ e ≠ it) where
  mem := List.mem_cons_self
  obj := by
    rintro i h ⟨⟨old, he⟩, ⟨o, ho, hc, hd⟩, _⟩ b hb
    rcases List.mem_cons.mp hb with rfl | hb
    · exact ⟨_, he, fun v q => nomatch q⟩
    · rw [List.mem_singleton.mp hb]
      refine ⟨o, ho, fun v q => ?_⟩
      rw [hd] at q
      cases q
  keep := by
    rintro i h h' ⟨⟨old, he⟩, hi, ne⟩ k
    exact ⟨⟨old, k e List.mem_cons_self _ he⟩, hi.at fun o q => k it (List.mem_cons_of_mem _ List.mem_cons_self) o q, ne⟩
  item := by
    intro X hP hw hK hc i pins s σ H E I hf st hg
    subst hP hw hK
    obtain ⟨⟨old, he⟩, hit, ne⟩ := st
    obtain ⟨xs, x, hq, hx⟩ := hg
    obtain ⟨its, rv, p, hz⟩ := I.tuple hq
    have pt := isTuple_of p
    obtain ⟨u, hu, ru⟩ := rv.get hx
    have a1 := tit_apart hit pt
    have a2 := enum_apart he pt
    have le : e < s.heap.objs.size := Heap.lt_size he
    have li : it < s.heap.objs.size := by
      obtain ⟨_, q, _⟩ := hit
      exact Heap.lt_size q
    have hlt : i < its.toArray.size := by
      rcases Nat.lt_or_ge i its.toArray.size with z | z
      · exact z
      · rw [List.getElem?_eq_none_iff.mpr (by simpa using z)] at hu
        cases hu
    refine wpAny_pyNext_enum_itemD (Draws.tuple (show X.A.in1.handled = none from I.ok.hd hc) it t a1 its.toArray) he ⟨hit, pt⟩ hlt ne (by simp [ne, a2]) fun y h1 tk hy ho st1 hT hsz hk => ?_
    obtain rfl : y = u := by
      rw [List.getElem?_toArray, hu] at hy
      exact (Option.some.inj hy).symm
    refine ⟨_, rfl, wpAny_letOwnedTupleGo_enum (s := { s with heap := h1, toks := tk + 1 }) ho fun h2 he2 sb => ?_⟩
    have hT2 : h2.get? s.heap.objs.size = some { cls := .type "tuple", data := .seq #[.int i tk, y] } := (sb.2 _ (Nat.ne_of_gt le)).trans hT
    have new : ObjOk X.prog X.w (upd H s.heap.objs.size (.tup [.int (i : Nat), x])) h2 s.heap.objs.size (.tup [.int (i : Nat), x]) :=
      ⟨by show 2 ≤ sizeLine; decide, [.int i tk, y], .cons ⟨_, rfl⟩ (.cons ru .nil), ⟨_, hT2, rfl, _, rfl⟩⟩
    have I1 : Inv X pins σ (upd H s.heap.objs.size (.tup [.int (i : Nat), x])) { s with heap := h2, toks := tk + 1 } :=
      I.turnedNew (ch := [e, it]) (fun b ob hb q => (sb.2 b (fun z => hb (by simp [z]))).trans (hk b ob (fun z => hb (by simp [z])) (fun z => hb (by simp [z])) q)) hf (Nat.le_refl _) new
    refine ⟨.ref s.heap.objs.size, _, I1, rfl, ⟨_, x, rfl, I.hok.fresh (Nat.le_refl _), rfl, fun ys hy => ?_⟩, ⟨⟨y, ?_⟩, st1.1.at fun o q => (sb.2 it (Ne.symm ne)).trans q, ne⟩, fun b hb => ?_⟩
    · rw [I.tuple_inj hy hq]
      exact hx
    · rw [show ((i + 1 : Nat) : Int) = (i : Int) + 1 by omega]
      exact he2
    · have lb : b < s.heap.objs.size := by
        rcases List.mem_cons.mp hb with rfl | hb
        · exact le
        · rw [List.mem_singleton.mp hb]
          exact li
      rw [upd_ne (Nat.ne_of_lt lb)]
      exact (hf b hb).1
  done := by
    intro X hP hw hK hc i pins s σ H E I hf st hg
    subst hP hw hK
    obtain ⟨⟨old, he⟩, hit, ne⟩ := st
    obtain ⟨xs, hq, hx⟩ := hg
    obtain ⟨its, rv, p, hz⟩ := I.tuple hq
    have pt := isTuple_of p
    obtain ⟨f0, f1, f2, f3, f4, f5⟩ := hf it (by simp)
    have n : i = its.toArray.size := by
      rw [List.size_toArray, ← rv.length]
      exact hx.symm
    subst n
    exact wpAny_pyNext_enum_endD (Draws.tuple (show X.A.in1.handled = none from I.ok.hd hc) it t (tit_apart hit pt) its.toArray) he ⟨hit, pt⟩ fun h1 eb => ⟨rfl, I.turned (t' := s.toks) (fun b o hb q => eb b o hb q) f0 f1 f3 f4 f5⟩
  self := fun A i s Q E st h => let ⟨⟨_, he⟩, _⟩ := st; wpAny_pyIter_enum he h
theorem call_of_enum {X : Cx} {elts : List Expr} {kk : Nat} {tpos : Pos} {pins : List (Addr × Obj)} {σ : L2.St} {H : Hp} {s : Shared} {R : It → Hp → Prop} {t : Addr} {items : Array Value} (I : Inv X pins σ H s) (pl : IsTup s.heap t items) (q : R (IteT X.K t) H) :
    wpAny (model X.prog X.w) X.A (call (.type "enumerate") [.ref t]) (fun v s2 => wpAny (model X.prog X.w) X.A (pyIter v) (PIE X pins σ (.Tuple elts kk tpos) R) X.xe s2) X.xe s := by
  refine HN4.call_enumT (isTuple_of pl) fun h1 he hit hk => wpAny_pyIter_enum he ?_
  refine ⟨s.heap.objs.size + 1, [s.heap.objs.size + 1, s.heap.objs.size], _, _, H, rfl, I.kept (t' := s.toks) hk, turn_enumT t _ _, ⟨⟨.none, he⟩, hit, Nat.succ_ne_self _⟩, fun b hb => ?_, q⟩
  have hle : s.heap.objs.size ≤ b := by
    rcases List.mem_cons.mp hb with rfl | hb
    · exact Nat.le_add_right _ _
    · rw [List.mem_singleton.mp hb]
      exact Nat.le_refl _
  exact I.fpOk hle (I.hok.fresh hle)
def iEnumT (K : PySem.W.Frag) (ta : TA) : TI := fun σ H R => ta σ H fun vs H1 => ∃ t xs, vs = [.ref t] ∧ SqT K H1 t xs ∧ R (IteT K t) H1
theorem pi_enumT {X : Cx} {e : Expr} {ta : TA} {p pos tpos : Pos} {elts : List Expr} {kk : Nat} (hg : Gl X "enumerate") (hm : X.mg "enumerate" = none) (ha : PA X [e] ta) (hs : starEach [e] X.env = [(false, eval e X.env)] := by rfl) :
    PI X (.Tuple elts kk tpos) (.Call (.Name "enumerate" p) [e] [] pos) (iEnumT X.K ta) := by
  constructor
  intro pins s σ H R I h
  refine Call_ (ld_blt I hg hm boot_enumerate (PyProof.Rows.callWith_type1 (thn (ha.run pos pins s σ H _ I h) fun us s1 q0 => ?_) hs rfl))
  obtain ⟨vs, H1, I1, r1, t, xs, ex, hq, q⟩ := q0
  subst ex
  obtain rfl := Vals.ref1 r1
  obtain ⟨its, rv, pl, hz⟩ := I1.tuple hq
  refine call_of_enum I1 pl q
/-- a loop over the pairs of a tuple -/
theorem for_enumT {K : PySem.W.Frag} {t : Addr} {xs : List V} {g : TG} {tb : TS} {D : Ends} {σ : L2.St} {H : Hp} (Pv : Nat → L2.St → Hp → Prop) (h0 : Pv 0 σ H) (hl : ∀ i σ H, i ≤ xs.length → Pv i σ H → SqT K H t xs)
    (hs : ∀ i x σ H T, xs[i]? = some x → Pv i σ H → H T = none → g (.ref T) σ (upd H T (.tup [.int (i : Nat), x])) fun σ2 H2 => tb { D with nx := Pv (i + 1), ct := Pv (i + 1), bk := D.nx } σ2 H2) (hd : ∀ σ H, Pv xs.length σ H → D.nx σ H) :
    ∃ W : Nat → Nat → L2.St → Hp → Prop, (∃ m, W 0 m σ H) ∧ ∀ i m σ H, W i m σ H →
      ((IteT K t).stop i H ∧ D.nx σ H) ∨ ((IteT K t).go i H ∧ ∃ N : L2.St → Hp → Prop, (∀ σ' H', N σ' H' → ∃ m', m' < m ∧ W (i + 1) m' σ' H') ∧ ∀ x H', (IteT K t).yld i H x H' → g x σ H' fun σ2 H2 => tb { D with nx := N, ct := N, bk := D.nx } σ2 H2) := by
  refine ⟨fun i m σ H => m = xs.length - i ∧ i ≤ xs.length ∧ Pv i σ H, ⟨xs.length, rfl, Nat.zero_le _, h0⟩, ?_⟩
  rintro i m σ H ⟨rfl, hi, p⟩
  have q := hl i σ H hi p
  rcases Nat.lt_or_ge i xs.length with hlt | hge
  · refine .inr ⟨⟨xs, xs[i], q, List.getElem?_eq_getElem hlt⟩, Pv (i + 1), fun σ' H' p' => ⟨xs.length - (i + 1), by omega, rfl, hlt, p'⟩, ?_⟩
    rintro y H' ⟨T, x, rfl, hT, rfl, hx⟩
    exact hs i x σ H T (hx xs q) p hT
  · have e : i = xs.length := Nat.le_antisymm hi hge
    subst e
    exact .inl ⟨⟨xs, q, rfl⟩, hd σ H p⟩
end Gd

set_option Elab.async false
set_option linter.all false
set_option maxRecDepth 100000
set_option maxHeartbeats 4000000
/-! zip of two sequences, each a list or a tuple. -/
namespace Gd
open PySem PySem.Spec PyProof.Rows L2
/-- a list (true) or a tuple (false) -/
def SqE (K : PySem.W.Frag) (l : Bool) (H : Hp) (a : Addr) (xs : List V) : Prop := match l with
  | true => SqL K H a xs
  | false => SqT K H a xs
def HpE (l : Bool) (h : Heap) (a : Addr) (items : Array Value) : Prop := match l with
  | true => h.IsList a items
  | false => h.IsTuple a items
def ItE (l : Bool) (h : Heap) (it a : Addr) (i : Nat) : Prop := match l with
  | true => h.IsListIter it a i
  | false => h.IsTupleIter it a i
def objE (l : Bool) (a : Addr) : Obj := match l with
  | true => { cls := .type "list_iterator", data := .fields #[.ref a, .int 0 0] }
  | false => { cls := .type "tuple_iterator", data := .fields #[.ref a, .int 0 0] }
section
variable {l : Bool} {h h' : Heap} {a it : Addr} {i : Nat} {items : Array Value}
theorem ItE.at (x : ItE l h it a i) (k : ∀ o, h.get? it = some o → h'.get? it = some o) : ItE l h' it a i := by
  cases l with
  | true => exact Heap.IsListIter.at (show h.IsListIter it a i from x) k
  | false => exact Heap.IsTupleIter.at (show h.IsTupleIter it a i from x) k
theorem ItE.there (x : ItE l h it a i) : ∃ o, h.get? it = some o ∧ ∀ v, o.data ≠ .cell v := by
  cases l with
  | true =>
    obtain ⟨o, g, _, d⟩ := (show h.IsListIter it a i from x)
    exact ⟨o, g, fun v q => by rw [d] at q; cases q⟩
  | false =>
    obtain ⟨o, g, _, d⟩ := (show h.IsTupleIter it a i from x)
    exact ⟨o, g, fun v q => by rw [d] at q; cases q⟩
theorem ItE.apart (x : ItE l h it a i) (y : HpE l h a items) : a ≠ it := by
  intro z
  subst z
  cases l with
  | true =>
    obtain ⟨o1, g1, c1, _⟩ := (show h.IsListIter a a i from x)
    obtain ⟨o2, g2, c2, _⟩ := (show h.IsList a items from y)
    rw [g1] at g2
    cases g2
    rw [c1] at c2
    exact absurd c2 (by simp)
  | false => exact tit_apart (show h.IsTupleIter a a i from x) (show h.IsTuple a items from y) rfl
theorem drawsE {prog : Program} {w : World} {A : Around} (hh : A.handled = none) (ne : a ≠ it) : Draws prog w A it [it, a] items.size (fun i v => items[i]? = some v) (fun i h => ItE l h it a i ∧ HpE l h a items) := by
  cases l with
  | true => exact Draws.list hh it a ne items
  | false => exact Draws.tuple hh it a ne items
theorem beginsE : Begins (.ref a) (objE l a) (fun h => HpE l h a items) := by
  cases l with
  | true => exact begins_list a items
  | false => exact begins_tuple a items
theorem ItE.new (g : h.get? it = some (objE l a)) : ItE l h it a 0 := by
  cases l with
  | true => exact ⟨_, g, rfl, rfl⟩
  | false => exact ⟨_, g, rfl, rfl⟩
end
section
variable {X : Cx} {pins : List (Addr × Obj)} {σ : L2.St} {H : Hp} {s : Shared} {l : Bool} {a : Addr} {xs ys : List V}
theorem seqE (I : Inv X pins σ H s) (h : SqE X.K l H a xs) : ∃ its : List Value, Vals xs its ∧ HpE l s.heap a its.toArray := by
  cases l with
  | true =>
    obtain ⟨its, rv, p, _⟩ := I.list (show SqL X.K H a xs from h)
    exact ⟨its, rv, p.isList⟩
  | false =>
    obtain ⟨its, rv, p, _⟩ := I.tuple (show SqT X.K H a xs from h)
    exact ⟨its, rv, isTuple_of p⟩
theorem injE (I : Inv X pins σ H s) (h1 : SqE X.K l H a xs) (h2 : SqE X.K l H a ys) : xs = ys := by
  cases l with
  | true => exact I.list_inj h1 h2
  | false => exact I.tuple_inj h1 h2
end
/-- both walked together: at each turn a new pair -/
def ItzE (K : PySem.W.Frag) (l1 l2 : Bool) (a b : Addr) : It where
  go := fun i H => ∃ (xs ys : List V) (x y : V), SqE K l1 H a xs ∧ SqE K l2 H b ys ∧ xs[i]? = some x ∧ ys[i]? = some y
  yld := fun i H v H' => ∃ T x y, v = .ref T ∧ H T = none ∧ H' = upd H T (.tup [x, y]) ∧ (∀ xs, SqE K l1 H a xs → xs[i]? = some x) ∧ ∀ ys, SqE K l2 H b ys → ys[i]? = some y
  stop := fun i H => ∃ xs ys : List V, SqE K l1 H a xs ∧ SqE K l2 H b ys ∧ i = min xs.length ys.length
theorem lt_of_get {its : List Value} {i : Nat} {u : Value} (h : its[i]? = some u) : i < its.toArray.size := by
  rw [List.size_toArray]
  exact (List.getElem?_eq_some_iff.mp h).1
theorem turn_zipE {P : Program} {w : World} {K : PySem.W.Frag} {elts : List Expr} {kk : Nat} {tpos : Pos} {l1 l2 : Bool} {a b z TI TO i1 i2 : Addr} (S : ZipSep2 z TI TO i1 i2 [i1, a] [i2, b]) :
    Turn P w K (.Tuple elts kk tpos) (ItzE K l1 l2 a b) [z, TI, TO, i1, i2] z (fun i h => IsZip h z TI TO .none ∧ IsTupOf2 h TI (.ref i1) (.ref i2) ∧ (∃ x y, IsTupOf2 h TO x y) ∧ ItE l1 h i1 a i ∧ ItE l2 h i2 b i) where
  mem := List.mem_cons_self
  obj := by
    rintro i h ⟨hz, hTI, ⟨x, y, hTO⟩, h1, h2⟩ c hc
    simp only [List.mem_cons, List.not_mem_nil, or_false] at hc
    rcases hc with rfl | rfl | rfl | rfl | rfl
    · exact ⟨_, hz, fun v q => nomatch q⟩
    · exact ⟨_, hTI, fun v q => nomatch q⟩
    · exact ⟨_, hTO, fun v q => nomatch q⟩
    · exact h1.there
    · exact h2.there
  keep := by
    rintro i h h' ⟨hz, hTI, ⟨x, y, hTO⟩, h1, h2⟩ k
    exact ⟨k _ (by simp) _ hz, k _ (by simp) _ hTI, ⟨x, y, k _ (by simp) _ hTO⟩, h1.at fun o q => k _ (by simp) o q, h2.at fun o q => k _ (by simp) o q⟩
  item := by
    intro X hP hw hK hc i pins s σ H E I hf st hg
    subst hP hw hK
    obtain ⟨hz, hTI, ⟨x0, y0, hTO⟩, h1, h2⟩ := st
    obtain ⟨xs, ys, x, y, hqx, hqy, hx, hy⟩ := hg
    obtain ⟨its, rv, p⟩ := seqE I hqx
    obtain ⟨its2, rv2, p2⟩ := seqE I hqy
    obtain ⟨u, hu, ru⟩ := rv.get hx
    obtain ⟨u2, hu2, ru2⟩ := rv2.get hy
    have hd : X.A.in1.handled = none := I.ok.hd hc
    have zl : z < s.heap.objs.size := Heap.lt_size hz
    refine wpAny_pyNext_zipD2_item S (drawsE hd (h1.apart p)) (drawsE hd (h2.apart p2)) hz hTI hTO ⟨h1, p⟩ ⟨h2, p2⟩ (lt_of_get hu) (lt_of_get hu2) fun v1 v2 h3 tk e1 e2 z3 TO3 s1 s2 hT hsz hk => ?_
    obtain rfl : v1 = u := by
      rw [List.getElem?_toArray, hu] at e1
      exact (Option.some.inj e1).symm
    obtain rfl : v2 = u2 := by
      rw [List.getElem?_toArray, hu2] at e2
      exact (Option.some.inj e2).symm
    refine ⟨_, rfl, wpAny_letOwnedTupleGo_zip (s := { s with heap := h3, toks := tk }) z3 fun h4 z4 sb => ?_⟩
    have hT4 : h4.get? s.heap.objs.size = some { cls := .type "tuple", data := .seq #[v1, v2] } := (sb.2 _ (Nat.ne_of_gt zl)).trans hT
    have new : ObjOk X.prog X.w (upd H s.heap.objs.size (.tup [x, y])) h4 s.heap.objs.size (.tup [x, y]) := ⟨by show 2 ≤ sizeLine; decide, [v1, v2], .cons ru (.cons ru2 .nil), ⟨_, hT4, rfl, _, rfl⟩⟩
    have kp : ∀ c o, c ∉ [z, TI, TO, i1, i2] → s.heap.get? c = some o → h4.get? c = some o := fun c o hb q => by
      simp only [List.mem_cons, List.not_mem_nil, or_false, not_or] at hb
      exact (sb.2 c hb.1).trans (hk c o hb.1 hb.2.2.1 hb.2.2.2.1 hb.2.2.2.2 q)
    have J : Inv X pins σ (upd H s.heap.objs.size (.tup [x, y])) { s with heap := h4, toks := tk } := I.turnedNew (t' := tk) kp hf (Nat.le_refl _) new
    refine ⟨.ref s.heap.objs.size, _, J, rfl, ⟨_, x, y, rfl, I.hok.fresh (Nat.le_refl _), rfl, fun m hm => ?_, fun m hm => ?_⟩, ⟨z4, ?_, ⟨v1, v2, ?_⟩, ?_, ?_⟩, fun c hcm => ?_⟩
    · rw [injE I hm hqx]
      exact hx
    · rw [injE I hm hqy]
      exact hy
    · exact (sb.2 _ S.TIz).trans (hk _ _ S.TIz S.TITO S.TIi1 S.TIi2 hTI)
    · exact (sb.2 _ S.TOz).trans TO3
    · exact s1.1.at fun o q => (sb.2 _ S.zi1.symm).trans q
    · exact s2.1.at fun o q => (sb.2 _ S.zi2.symm).trans q
    · have lt : c < s.heap.objs.size := by
        obtain ⟨_, g1, _⟩ := h1.there
        obtain ⟨_, g2, _⟩ := h2.there
        have hm := hcm
        simp only [List.mem_cons, List.not_mem_nil, or_false] at hm
        rcases hm with rfl | rfl | rfl | rfl | rfl
        · exact zl
        · exact Heap.lt_size hTI
        · exact Heap.lt_size hTO
        · exact Heap.lt_size g1
        · exact Heap.lt_size g2
      rw [upd_ne (Nat.ne_of_lt lt)]
      exact (hf c hcm).1
  done := by
    intro X hP hw hK hc i pins s σ H E I hf st hg
    subst hP hw hK
    obtain ⟨hz, hTI, ⟨x0, y0, hTO⟩, h1, h2⟩ := st
    obtain ⟨xs, ys, hqx, hqy, hend⟩ := hg
    obtain ⟨its, rv, p⟩ := seqE I hqx
    obtain ⟨its2, rv2, p2⟩ := seqE I hqy
    have n1 : its.toArray.size = xs.length := by rw [List.size_toArray, rv.length]
    have n2 : its2.toArray.size = ys.length := by rw [List.size_toArray, rv2.length]
    have hd : X.A.in1.handled = none := I.ok.hd hc
    refine wpAny_pyNext_zipD2_end S (drawsE hd (h1.apart p)) (drawsE hd (h2.apart p2)) hz hTI hTO ⟨h1, p⟩ ⟨h2, p2⟩ (by omega) (by omega) (by omega) fun h3 tk hk => ⟨rfl, I.turnedL (t' := tk) (fun c o hb q => ?_) hf⟩
    simp only [List.mem_cons, List.not_mem_nil, or_false, not_or] at hb
    exact hk c o hb.1 hb.2.2.1 hb.2.2.2.1 hb.2.2.2.2 q
  self := fun A i s Q E st h => wpAny_pyIter_zip st.1 h
def iZipE (K : PySem.W.Frag) (ta : TA) : TI := fun σ H R => ta σ H fun vs H1 => ∃ l1 l2 a b xs ys, vs = [.ref a, .ref b] ∧ SqE K l1 H1 a xs ∧ SqE K l2 H1 b ys ∧ R (ItzE K l1 l2 a b) H1
theorem HpE.lt {l : Bool} {h : Heap} {a : Addr} {items : Array Value} (x : HpE l h a items) : a < h.objs.size := by
  cases l with
  | true =>
    obtain ⟨o, g, _⟩ := (show h.IsList a items from x)
    exact Heap.lt_size g
  | false =>
    obtain ⟨o, g, _⟩ := (show h.IsTuple a items from x)
    exact Heap.lt_size g
theorem call_of_zip {X : Cx} {elts : List Expr} {kk : Nat} {tpos : Pos} {pins : List (Addr × Obj)} {σ : L2.St} {H : Hp} {s : Shared} {R : It → Hp → Prop} {l1 l2 : Bool} {a b : Addr} {i1 i2 : Array Value} (I : Inv X pins σ H s)
    (p1 : HpE l1 s.heap a i1) (p2 : HpE l2 s.heap b i2) (q : R (ItzE X.K l1 l2 a b) H) :
    wpAny (model X.prog X.w) X.A (call (.type "zip") [.ref a, .ref b]) (fun v s2 => wpAny (model X.prog X.w) X.A (pyIter v) (PIE X pins σ (.Tuple elts kk tpos) R) X.xe s2) X.xe s := by
  refine zip_begins2 beginsE beginsE p1 p2 fun h1 hz hTI hTO g1 g2 _ hk => wpAny_pyIter_zip hz ?_
  have sep : ZipSep2 (s.heap.objs.size + 4) (s.heap.objs.size + 2) (s.heap.objs.size + 3) s.heap.objs.size (s.heap.objs.size + 1) [s.heap.objs.size, a] [s.heap.objs.size + 1, b] :=
    zip_sep2 (fun c hc => by rw [List.mem_singleton.mp hc]; exact p1.lt) (fun c hc => by rw [List.mem_singleton.mp hc]; exact p2.lt)
  refine ⟨s.heap.objs.size + 4, [s.heap.objs.size + 4, s.heap.objs.size + 2, s.heap.objs.size + 3, s.heap.objs.size, s.heap.objs.size + 1], _, _, H, rfl, I.kept (t' := s.toks) hk, turn_zipE sep, ⟨hz, hTI, ⟨_, _, hTO⟩, .new g1, .new g2⟩, fun c hc => ?_, q⟩
  have le : s.heap.objs.size ≤ c := by
    simp only [List.mem_cons, List.not_mem_nil, or_false] at hc
    rcases hc with rfl | rfl | rfl | rfl | rfl
    all_goals first | exact Nat.le_refl _ | exact Nat.le_add_right _ _
  exact I.fpOk le (I.hok.fresh le)
theorem pi_zipE {X : Cx} {e e2 : Expr} {ta : TA} {p pos tpos : Pos} {elts : List Expr} {kk : Nat} (hg : Gl X "zip") (hm : X.mg "zip" = none) (ha : PA X [e, e2] ta)
    (hs : starEach [e, e2] X.env = (false, eval e X.env) :: starEach [e2] X.env := by rfl) (hpl : (backTo pos (starEach [e2] X.env)).any (·.1) = false := by rfl) :
    PI X (.Tuple elts kk tpos) (.Call (.Name "zip" p) [e, e2] [] pos) (iZipE X.K ta) := by
  constructor
  intro pins s σ H R I h
  refine Call_ (ld_blt I hg hm PyProof.Rows.boot_zip (PyProof.Rows.callWith_type1 (thn (ha.run pos pins s σ H _ I h) fun us s1 q0 => ?_) hs hpl))
  obtain ⟨vs, H1, I1, r1, l1, l2, a, b, xs, ys, ex, hx, hy, q⟩ := q0
  subst ex
  obtain ⟨u1, u2, rfl, r1, r2⟩ := vals2 r1
  cases r1
  cases r2
  obtain ⟨i1, _, p1⟩ := seqE I1 hx
  obtain ⟨i2, _, p2⟩ := seqE I1 hy
  exact call_of_zip I1 p1 p2 q
theorem walk_zipE {K : PySem.W.Frag} {l1 l2 : Bool} {a b : Addr} {xs ys : List V} {n : Nat} (hn : n = min xs.length ys.length) :
    Walk (ItzE K l1 l2 a b) n (fun H => SqE K l1 H a xs ∧ SqE K l2 H b ys) (YPair (fun i => xs[i]?) (fun i => ys[i]?)) where
  goes := fun i H hi q => by
    have h1 : i < xs.length := by omega
    have h2 : i < ys.length := by omega
    exact ⟨xs, ys, xs[i], ys[i], q.1, q.2, List.getElem?_eq_getElem h1, List.getElem?_eq_getElem h2⟩
  stops := fun H q => ⟨xs, ys, q.1, q.2, hn⟩
  yields := by
    rintro i H v H' _ q ⟨T, x, z, h1, h2, h3, h4, h5⟩
    exact ⟨T, x, z, h1, h2, h3, h4 xs q.1, h5 ys q.2⟩
theorem walk_enumT {K : PySem.W.Frag} {a : Addr} {xs : List V} : Walk (IteT K a) xs.length (fun H => SqT K H a xs) (YPair (fun i => some (.int (i : Nat))) (fun i => xs[i]?)) where
  goes := fun i H hi q => ⟨xs, xs[i], q, List.getElem?_eq_getElem hi⟩
  stops := fun H q => ⟨xs, q, rfl⟩
  yields := by
    rintro i H v H' _ q ⟨T, x, h1, h2, h3, h4⟩
    exact ⟨T, _, x, h1, h2, h3, rfl, h4 xs q⟩
end Gd

set_option Elab.async false
set_option linter.all false
set_option maxRecDepth 100000
set_option maxHeartbeats 4000000
/-! + - * of own classes, with an own object or an integer at the right; - of one. -/
namespace HN3
open PySem PySem.Spec PyProof.Rows PySem.SeqAt
section
variable {prog : Program} {w : World} {A : Around} {E : Value → Shared → Prop} {s : Shared} {K : PySem.W.Frag} {x C f : Addr} {ox : Obj} {od : Option Obj}
theorem name_there {M : Model} {h : Heap} {nm : String} (X : K.In h) (hs : PySem.W.findIn K (.ref C) (PySem.dunder nm) = some (some (.ref f))) (hr : PySem.W.findIn K (.ref C) (PySem.dunderR nm) = some none) :
    PySem.W.Looks M h (numberSlotInPython (.ref C) nm) true := by
  intro A Q E s k q
  unfold numberSlotInPython
  refine wpAny_bind (PySem.W.looks_findIn X hs A _ E s k ?_)
  refine wpAny_bind (wpAny_pure ?_)
  refine wpAny_bind (PySem.W.looks_findIn X hr A _ E s k ?_)
  refine wpAny_bind (wpAny_pure ?_)
  exact wpAny_pure q
theorem binop1_int {nm : String} {n : Int} {t : Tok} {z : Value} {Q : Value → Shared → Prop} (X : K.In s.heap) (I : PySem.W.InstAt s.heap x ox C od) (hc : PySem.W.selfFirst K C = true)
    (hs : PySem.W.findIn K (.ref C) (PySem.dunder nm) = some (some (.ref f))) (hrn : PySem.W.findIn K (.ref C) (PySem.dunderR nm) = some none) (hf : PySem.W.isFn K (.ref f) = true)
    (fi : fillsNumberSlot (.type "int") nm = pure true) (hsub : PySem.W.subIn K (.type "int") (.ref C) = some false) (hz : typeLookup (.type "int") (PySem.dunderR nm) = pure (some z))
    (h : wpAny (model prog w) A (call (.ref f) [.ref x, .int n t]) (PySem.W.CmpBack Q) E s) : wpAny (model prog w) A (binaryOp1 nm (.ref x) (.int n t)) (fun r s' => ∃ v, r = some v ∧ Q v s') E s := by
  obtain ⟨cd, hcd, hm⟩ := PySem.W.any_some hc
  obtain ⟨rest, hm⟩ : ∃ rest, cd.mro = .ref C :: rest := by
    cases q : cd.mro with
    | nil => rw [q] at hm; cases hm
    | cons a r => rw [q] at hm; exact ⟨r, by rw [List.head?_cons] at hm; cases (beq_iff_eq.mp hm); rfl⟩
  unfold binaryOp1
  refine wpAny_bind (I.type.here ?_)
  refine wpAny_bind (wpAny_of_eq (a := Value.type "int") rfl ?_)
  refine wpAny_bind ((PySem.W.fills_K X hcd hm hs).here ?_)
  have e : (Value.ref C == Value.type "int") = false := rfl
  rw [e]
  simp only [Bool.false_eq_true, if_false]
  refine wpAny_bind (wpAny_of_eq fi ?_)
  simp only [Bool.and_self, if_true]
  refine wpAny_bind ((PySem.W.looks_subIn X hsub).here ?_)
  simp only [Bool.false_eq_true, if_false]
  refine wpAny_bind ((name_there X hs hrn).here ?_)
  simp only [if_true]
  refine wpAny_bind (wpAny_of_eq (a := false) rfl ?_)
  simp only [Bool.not_false, if_true]
  refine wpAny_bind (wpAny_of_eq hz ?_)
  refine wpAny_bind (m := tryMethod (.ref x) _ (.int n t)) ?_
  unfold tryMethod
  refine wpAny_bind (PySem.W.special_fn X I hs (beq_iff_eq.mp hf) (wpAny_mono h (fun v s' hv => ?_) fun _ _ e => e))
  cases v <;> first | exact hv.elim | exact wpAny_pure (wpAny_pure ⟨_, rfl, hv⟩)
theorem binop_int {op : Operator} {n : Int} {t : Tok} {z : Value} {Q : Value → Shared → Prop} (X : K.In s.heap) (I : PySem.W.InstAt s.heap x ox C od) (hc : PySem.W.selfFirst K C = true)
    (hs : PySem.W.findIn K (.ref C) (PySem.dunder op.info.2) = some (some (.ref f))) (hrn : PySem.W.findIn K (.ref C) (PySem.dunderR op.info.2) = some none) (hf : PySem.W.isFn K (.ref f) = true)
    (fi : fillsNumberSlot (.type "int") op.info.2 = pure true) (hsub : PySem.W.subIn K (.type "int") (.ref C) = some false) (hz : typeLookup (.type "int") (PySem.dunderR op.info.2) = pure (some z))
    (h : wpAny (model prog w) A (call (.ref f) [.ref x, .int n t]) (PySem.W.CmpBack Q) E s) : wpAny (model prog w) A (binaryOp op (.ref x) (.int n t)) Q E s := by
  unfold binaryOp
  refine wpAny_holding (wpAny_bind (wpAny_mono (binop1_int X I hc hs hrn hf fi hsub hz h) (fun r s' hr => ?_) fun _ _ e => e))
  obtain ⟨v, rfl, q⟩ := hr
  exact wpAny_pure q
theorem neg_own {Q : Value → Shared → Prop} (X : K.In s.heap) (I : PySem.W.InstAt s.heap x ox C od)
    (hs : PySem.W.findIn K (.ref C) "__neg__" = some (some (.ref f))) (hf : PySem.W.isFn K (.ref f) = true)
    (h : wpAny (model prog w) A (call (.ref f) [.ref x]) Q E s) : wpAny (model prog w) A (unaryOp .USub (.ref x)) Q E s := by
  unfold unaryOp
  refine wpAny_holding ?_
  dsimp only
  rw [if_neg (by decide)]
  exact wpAny_bind (PySem.W.special_fn X I hs (beq_iff_eq.mp hf) (wpAny_mono h (fun v s' hv => wpAny_pure hv) fun _ _ e => e))
end
end HN3

namespace Gd
open PySem PySem.Spec PyProof.Rows L2
section
variable {X : Cx} {CX : CXT} {k : Nat} {f C : Addr} {fd : FuncData} {ps : List Str} {sp : Sp}
/-- what an operator of an own class asks of the class: m its method, r the name of the turned one, which nobody has -/
structure BinC (K : PySem.W.Frag) (C : Addr) (m r : Str) (f : Addr) : Prop where
  sf : PySem.W.selfFirst K C = true
  at_ : Meth K C m f
  rn : PySem.W.findIn K (.ref C) r = some none
/-- x OP y by the own method of x's class, y of that class or an integer; what it gives is an object -/
def rBinO (C : Addr) (sp : Sp) (E : XK) : R2 := fun x y H Q => ∃ p dx fs, x = .ref p ∧ H p = some (.ins C dx fs) ∧
  ((∃ q dy gs, y = .ref q ∧ H q = some (.ins C dy gs)) ∨ ∃ n, y = .int n) ∧ sp [x, y] H (fun v H' => (∃ q, v = .ref q) ∧ Q v H') E
theorem op_binO {op : Operator} {m r : Str} {z : Value} {E : XK} (e1 : PySem.dunder op.info.2 = m) (e2 : PySem.dunderR op.info.2 = r) (fi : fillsNumberSlot (.type "int") op.info.2 = pure true) (hz : typeLookup (.type "int") r = pure (some z))
    (B : BinC X.K C m r f) (F : FnOk X.prog X.w X.K X.mg X.base CX k f fd ps sp) (hr : Room (k + 1) X.A) (hb : Binds X.K fd ps []) (hx : ∀ σ, PassesAt CX X σ E) : OpR X (binaryOp op) (rBinO C sp E) := by
  subst e1 e2
  intro pins s σ H x y v u Q I rx ry h
  obtain ⟨p, dx, fs, rfl, ep, hy, hsp⟩ := h
  cases rx
  obtain ⟨od, J⟩ := seen I ep
  obtain ⟨m, hF⟩ := I.fr
  have run := wpAny_mono (runAt (.inl rfl) F hr hb .nil (hx σ) I (.cons (show RelV (V.ref p) (Value.ref p) from rfl) (.cons ry .nil)) hsp) (Q' := PySem.W.CmpBack (EP X pins σ Q)) (fun w s' hw => by
    obtain ⟨z, H', I', rz, ⟨q, rfl⟩, hq⟩ := hw
    cases rz
    exact ⟨.ref q, H', I', rfl, hq⟩) (fun _ _ z => z)
  rcases hy with ⟨q, dy, gs, rfl, eq⟩ | ⟨n, rfl⟩
  · cases ry
    obtain ⟨od2, J2⟩ := seen I eq
    exact PySem.W.binop_K hF I.ok.mod.kin J J2.type B.sf B.at_.at_ B.at_.fn run
  · obtain ⟨t, rfl⟩ := ry
    exact HN3.binop_int I.kIn J B.sf B.at_.at_ B.rn B.at_.fn fi (by kernel_rfl) hz run
theorem op_addO {E : XK} (B : BinC X.K C "__add__" "__radd__" f) (F : FnOk X.prog X.w X.K X.mg X.base CX k f fd ps sp) (hr : Room (k + 1) X.A) (hb : Binds X.K fd ps []) (hx : ∀ σ, PassesAt CX X σ E) : OpR X (binaryOp .Add) (rBinO C sp E) :=
  op_binO (op := .Add) (z := .builtin "int.__radd__") (by kernel_rfl) (by kernel_rfl) PySem.F.fills_int_add (by rw [typeLookup_type, builtinLookup_eq_fast]; kernel_rfl) B F hr hb hx
theorem op_subO {E : XK} (B : BinC X.K C "__sub__" "__rsub__" f) (F : FnOk X.prog X.w X.K X.mg X.base CX k f fd ps sp) (hr : Room (k + 1) X.A) (hb : Binds X.K fd ps []) (hx : ∀ σ, PassesAt CX X σ E) : OpR X (binaryOp .Sub) (rBinO C sp E) :=
  op_binO (op := .Sub) (z := .builtin "int.__rsub__") (by kernel_rfl) (by kernel_rfl) PySem.F.fills_int_sub (by rw [typeLookup_type, builtinLookup_eq_fast]; kernel_rfl) B F hr hb hx
theorem op_mulO {E : XK} (B : BinC X.K C "__mul__" "__rmul__" f) (F : FnOk X.prog X.w X.K X.mg X.base CX k f fd ps sp) (hr : Room (k + 1) X.A) (hb : Binds X.K fd ps []) (hx : ∀ σ, PassesAt CX X σ E) : OpR X (binaryOp .Mult) (rBinO C sp E) :=
  op_binO (op := .Mult) (z := .builtin "int.__rmul__") (by kernel_rfl) (by kernel_rfl) PySem.F.fills_int_mul (by rw [typeLookup_type, builtinLookup_eq_fast]; kernel_rfl) B F hr hb hx
/-- -x by the own method -/
def rNegO (C : Addr) (sp : Sp) (E : XK) : V → Hp → VK → Prop := fun x H Q => ∃ p dx fs, x = .ref p ∧ H p = some (.ins C dx fs) ∧ sp [x] H Q E
theorem un_negO {E : XK} (M : Meth X.K C "__neg__" f) (F : FnOk X.prog X.w X.K X.mg X.base CX k f fd ps sp) (hr : Room (k + 1) X.A) (hb : Binds X.K fd ps []) (hx : ∀ σ, PassesAt CX X σ E) : UnR X (unaryOp .USub) (rNegO C sp E) := by
  intro pins s σ H x v Q I rx h
  obtain ⟨p, dx, fs, rfl, ep, hsp⟩ := h
  cases rx
  obtain ⟨od, J⟩ := seen I ep
  exact HN3.neg_own I.kIn J M.at_ M.fn (runAt (.inl rfl) F hr hb .nil (hx σ) I (.cons (show RelV (V.ref p) (Value.ref p) from rfl) .nil) hsp)
end
end Gd

set_option Elab.async false
set_option linter.all false
set_option maxRecDepth 100000
set_option maxHeartbeats 4000000
/-! The sum and the count of a tuple; an integer and a tuple of integers, < ; != of two lists whose items are equal by an own ==. -/
namespace NeL
open PySem PySem.SeqAt
open AutoSeq1 (wpAny_loadPart')
open MeetsSeq MeetsSeq2 MeetsSeq3 SeqRoads2
section
variable {prog : Program} {w : World} {A : Around} {R : Result → Shared → Prop}
theorem ne_loopG (l b : Addr) (N : Nat) (I : Nat → Shared → Prop) (hl : GQ.ListI prog w A (fun e s' => R (.error e) s') l b N I)
    (fin : ∀ s, I N s → R (.ok (.ret (.bool false))) s) (k : Nat) :
    ∀ i : Nat, N - i = k → i ≤ N → ∀ s, I i s →
      wpAny (model prog w) A.in1 (Builtin.«list.__eq__.loop» ⟨[.ref l, .ref b, rawInt i, rawInt 3], []⟩) (GQ.FinOf prog w A R) (fun e s' => R (.error e) s') s := by
  induction k with
  | zero =>
    intro i hk hi s h
    obtain ⟨items, items2, n, n2, hl1, hb1, hs1, hs2, _⟩ := hl _ _ h
    have hi' : i = N := by omega
    have hR : R (.ok (.ret (.bool false))) s := fin s (hi' ▸ h)
    obtain ⟨hp, g, d, tk, os⟩ := s
    wp_walk using wpAny_loadPart' hl1, wpAny_loadPart' hb1
    have hi1 : items[((i : Nat) : Int).toNat]? = none := by simp; omega
    have hi2 : items2[((i : Nat) : Int).toNat]? = none := by simp; omega
    rw [hi1, hi2]
    wp_walk using wpAny_loadPart' hl1, wpAny_loadPart' hb1
    show R (.ok (.ret (.bool (items.size != items2.size)))) _
    rw [hs1, hs2]
    simpa using hR
  | succ k ih =>
    intro i hk hi s h
    obtain ⟨items, items2, n, n2, hl1, hb1, hs1, hs2, turn⟩ := hl _ _ h
    have hlt : i < items.size := by omega
    have hlt2 : i < items2.size := by omega
    have ht := turn hlt hlt2
    obtain ⟨hp, g, d, tk, os⟩ := s
    wp_walk using wpAny_loadPart' hl1, wpAny_loadPart' hb1
    have hi1 : items[((i : Nat) : Int).toNat]? = some items[i] := by simp [hlt]
    have hi2 : items2[((i : Nat) : Int).toNat]? = some items2[i] := by simp [hlt2]
    have hc : ((i : Int) + 1) = ((i + 1 : Nat) : Int) := by omega
    rw [hi1, hi2]
    refine wpAny_bind (wpAny_mono ht (fun r s2 h2 => ?_) fun _ _ x => x)
    obtain ⟨hr, h2⟩ := h2
    subst hr
    have hrec := ih (i + 1) (by omega) (by omega) s2 h2
    obtain ⟨hp2, g2, d2, tk2, os2⟩ := s2
    wp_walk
    rw [hc]
    exact ⟨plainId_quiet plain_eq_loop _, codeAny_builtin entry_eq_loop (by
      rw [Around.under_plainId plain_eq_loop _]
      exact hrec)⟩
theorem list_neG (l b : Addr) (N : Nat) (I : Nat → Shared → Prop) (hl : GQ.ListI prog w A (fun e s' => R (.error e) s') l b N I)
    (fin : ∀ s, I N s → R (.ok (.ret (.bool false))) s) {s : Shared} (h : I 0 s) :
    wpAny (model prog w) A.in1 (Builtin.«list.__ne__» ⟨[.ref l, .ref b], []⟩) (GQ.FinOf prog w A R) (fun e s' => R (.error e) s') s := by
  obtain ⟨items, items2, n, n2, hl1, hb1, hs1, hs2, _⟩ := hl _ _ h
  have hrec := ne_loopG (A := A) (R := R) l b N I hl fin _ 0 rfl (Nat.zero_le _) s h
  obtain ⟨hp, g, d, tk, os⟩ := s
  have f3 := AutoSeq1.sub_list_list
  have hne : ¬ (items.size != items2.size) = true := by simp [hs1, hs2]
  wp_walk using wpAny_loadPart' hl1, wpAny_loadPart' hb1
  exact ⟨plainId_quiet plain_eq_loop _, codeAny_builtin entry_eq_loop (by
    rw [Around.under_plainId plain_eq_loop _]
    exact hrec)⟩
end
section
variable {prog : Program} {w : World} {A : Around} {E : Value → Shared → Prop} {s : Shared}
theorem rc {l b : Addr} {N : Nat} {Q : Value → Shared → Prop} (hu : A.units < cLine) (I : Nat → Shared → Prop) (hl : GQ.ListI prog w A E l b N I)
    (fin : ∀ s, I N s → Q (.bool false) s) (h : I 0 s) : wpAny (model prog w) A (richCompare .NotEq (.ref l) (.ref b)) Q E s := by
  obtain ⟨items, items2, n, n2, hl1, hb1, _, _, _⟩ := hl _ _ h
  refine wpAny_richCompare_same_room (op := .NotEq) ⟨_, hl1, rfl⟩ ⟨_, hb1, rfl⟩ F.slot_list_ne (GQ.call_here F.slot_list_ne ⟨_, hl1, rfl⟩ F.entry_list_ne (F.args_list_ne_2 _ _) ?_) hu
  exact list_neG (R := wants (fun v s' => v ≠ .notImplemented ∧ Q v s') E) l b N I hl (fun s' q => ⟨(fun x => nomatch x), fin s' q⟩) h
end
section
variable {prog : Program} {w : World} {A : Around} {E : Value → Shared → Prop} {s : Shared} {l : Addr} {xs : Array (Int × Tok)}
theorem sum_tup {Q : Value → Shared → Prop} (hh : A.handled = none) (hl : s.heap.IsTuple l (intItems xs))
    (h : ∀ h' tk t', (∀ b o, s.heap.get? b = some o → h'.get? b = some o) → Q (.int (preSum (numAt xs) xs.size) t') { s with heap := h', toks := tk }) :
    wpAny (model prog w) A (call (.builtin "sum") [.ref l]) Q E s := by
  have hlt : l < s.heap.objs.size := by obtain ⟨_, e, _⟩ := hl; exact Heap.lt_size e
  refine call_sum_walkG (wpAny_pyIter_tuple hl ?_)
  refine ⟨_, _, _, _, _, _, numAt xs, rfl, Walks.tuple (A := A.in1) hh _ l (Nat.ne_of_lt hlt) (intItems xs), ⟨⟨_, Heap.get?_push_size _ rfl, rfl, rfl⟩, hl.push _⟩, fun b hb => ?_, (fun _ _ => intItems_at), fun h' tk t' hk => ?_⟩
  · show b < (s.heap.push _).objs.size
    rw [Heap.size_push]
    rcases List.mem_cons.mp hb with rfl | hb
    · exact Nat.lt_succ_self _
    · rcases List.mem_cons.mp hb with rfl | hb
      · exact Nat.lt_succ_of_lt hlt
      · cases hb
  · have hold : ∀ b o, s.heap.get? b = some o → h'.get? b = some o := fun b o e => by
      refine hk b o (fun hm => ?_) (Heap.get?_push_of_some _ e)
      rcases List.mem_cons.mp hm with e1 | hm
      · exact absurd (e1 ▸ Heap.lt_size e) (Nat.lt_irrefl _)
      · cases hm
    have := h h' tk t' hold
    simpa [intItems] using this
theorem sum_tup_raw {its : List Value} {ns : List Int} {Q : Value → Shared → Prop} (hh : A.handled = none) (hl : s.heap.IsTuple l its.toArray) (hi : PyProof.Rows.IntsAre its ns)
    (h : ∀ h' tk t', (∀ b o, s.heap.get? b = some o → h'.get? b = some o) → Q (.int ns.sum t') { s with heap := h', toks := tk }) : wpAny (model prog w) A (call (.builtin "sum") [.ref l]) Q E s := by
  obtain ⟨xs, e⟩ := hi.allInts.items
  have hn : numsOf (intItems xs).toList = ns := by rw [← e]; exact hi.numsOf
  rw [nums_intItems] at hn
  rw [e] at hl
  refine sum_tup hh hl fun h' tk t' hk => ?_
  have := h h' tk t' hk
  rw [preSum_eq, List.take_of_length_le (by simp), hn]; exact this
end
end NeL
namespace Gd
open PySem PySem.Spec PyProof.Rows L2
open PySem.SeqAt (EqAt)
/-- x != y of two lists, item by item equal -/
def rNeL (D : Eqv) : R2 := fun x y H Q => DList D x y H ∧ ∀ H', L2.Ext H H' → Q (.bl false) H'
theorem op_neL {X : Cx} {n : Nat} {D : Eqv} (hD : Mon D) (h : EqG X n D) (hr : Room (n + 1) X.A) : OpR X (compareOp .NotEq) (rNeL D) := by
  intro pins s σ H x y v u Q I rx ry hw
  obtain ⟨⟨a, b, xs, ys, rfl, rfl, ha, hb, p⟩, q⟩ := hw
  cases rx
  cases ry
  show wpAny (model X.prog X.w) X.A (richCompare .NotEq (.ref a) (.ref b)) (EP X pins σ Q) X.xe s
  refine NeL.rc (N := xs.length) hr.units0 (fun _ s' => LoopI X pins σ H s') (fun i s' q => ?_) (fun t z => ?_) ⟨H, I, L2.Ext.rfl'⟩
  · obtain ⟨H1, I1, e1⟩ := id q
    obtain ⟨z, its, k, r, e⟩ := I1.hok a _ (e1 _ _ ha)
    obtain ⟨z2, its2, k2, r2, e2⟩ := I1.hok b _ (e1 _ _ hb)
    refine ⟨its.toArray, its2.toArray, k, k2, e, e2, by rw [List.size_toArray, ← r.length], by rw [List.size_toArray, ← r2.length, ← p.1], fun h1 h2 => ?_⟩
    exact turnG hD h ⟨hr, rfl⟩ p r r2 i h1 h2 s' q
  · obtain ⟨H', I', e⟩ := z
    exact ⟨.bl false, H', I', rfl, q H' e⟩
section
variable {X : Cx}
/-- sum(t) of a tuple of ints -/
def rSumT (K : PySem.W.Frag) : List V → Hp → VK → Prop := fun vs H Q => ∃ (a : Addr) (ns : List Int), vs = [V.ref a] ∧ SqT K H a (ns.map V.int) ∧ Q (.int ns.sum) H
theorem cr_sumT (hc : X.calm = true) : CallR X (.builtin "sum") (rSumT X.K) := by
  intro pins s σ H vs us Q I r h
  obtain ⟨a, ns, rfl, hs, q⟩ := h
  obtain ⟨its, rv, hl, _⟩ := I.tuple hs
  rw [Vals.ref1 r]
  exact NeL.sum_tup_raw (I.ok.hd hc) hl (intsAre_of rv) fun h' tk t' hk => ⟨.int _, H, I.kept hk, ⟨_, rfl⟩, q⟩
/-- t.count(k) of a tuple of ints -/
def rCntT (K : PySem.W.Frag) : V → List V → Hp → VK → Prop := fun x xs H Q => ∃ (p : Addr) (ns : List Int) (k : Int), x = .ref p ∧ xs = [.int k] ∧ SqT K H p (ns.map V.int) ∧ Q (.int (ns.count k : Nat)) H
theorem mt_tcount : MtR X "tuple.count" (rCntT X.K) := by
  intro pins s σ H x xs v us Q I rx rxs h
  obtain ⟨p, ns, k, rfl, rfl, hs, q⟩ := h
  cases rx
  obtain ⟨u, rfl, ru⟩ := rxs.one
  obtain ⟨t, rfl⟩ := ru
  obtain ⟨its, rv, ⟨⟨cls, dd, data, sl⟩, ho, hc, n, hd⟩, hlen⟩ := I.tuple hs
  simp only at hc hd
  subst hc hd
  have hi := intsAre_of rv
  refine call_meets PySem.F.slot_tuple_count ⟨_, ho, rfl⟩ PySem.F.entry_tuple_count (PySem.F.args_tuple_count_2 _ _)
    (SeqAt.tuple_countAt p its.toArray n dd sl (.int k t) (eqk k)) ⟨ho, fun y hy => (eqk_gives hi y (by simpa using hy)).at _ _, ?_⟩
  have ec : its.toArray.toList.countP (eqk k) = ns.count k := eqk_count hi
  refine ⟨.int (ns.count k : Nat), H, I.tok _, ⟨s.toks, ?_⟩, q⟩
  show Value.int ((its.toArray.toList.countP (eqk k) : Nat) : Int) s.toks = Value.int ((ns.count k : Nat) : Int) s.toks
  rw [ec]
def pdata (ns : List Int) : List PyData := ns.map PyData.int
theorem pdp {K : PySem.W.Frag} {H : Hp} : ∀ ns : List Int, DpAll K H (ns.map V.int) (pdata ns)
  | [] => .nil
  | n :: r => .cons (.int n) (pdp r)
theorem play : ∀ ns : List Int, PyData.canLayAll0 (pdata ns) = true
  | [] => by simp [pdata, PyData.canLayAll0]
  | n :: r => by
    have := play r
    unfold pdata at this ⊢
    simp [PyData.canLayAll0, PyData.canLay0, this]
theorem peqv : ∀ ns ms : List Int, PyData.eqvAll (pdata ns) (pdata ms) = decide (ns = ms)
  | [], [] => by simp [pdata, PyData.eqvAll]
  | [], _ :: _ => by simp [pdata, PyData.eqvAll]
  | _ :: _, [] => by simp [pdata, PyData.eqvAll]
  | n :: r, m :: q => by
    have := peqv r q
    unfold pdata at this ⊢
    simp [PyData.eqvAll, PyData.eqv, this, Bool.decide_and]
    rfl
theorem lex_self : ∀ ns : List Int, HT.lexLt ns ns = false
  | [] => rfl
  | n :: r => by rw [HT.lexLt_cons, if_pos rfl]; exact lex_self r
/-- (i, t) < (j, u), ints and tuples of ints -/
def pairLt (i j : Int) (ns ms : List Int) : Bool := if i = j then HT.lexLt ns ms else decide (i < j)
def rLtP (K : PySem.W.Frag) : R2 := fun x y H Q => ∃ a b p q i j ns ms, x = .ref a ∧ y = .ref b ∧ SqT K H a [.int i, .ref p] ∧ SqT K H b [.int j, .ref q] ∧ SqT K H p (ns.map V.int) ∧ SqT K H q (ms.map V.int) ∧
  Q (.bl (pairLt i j ns ms)) H
theorem vals_ir {i : Int} {p : Addr} {us : List Value} (r : Vals [V.int i, V.ref p] us) : ∃ t, us = [Value.int i t, Value.ref p] := by
  cases r with
  | cons r t =>
    cases t with
    | cons r2 t2 =>
      cases t2
      obtain ⟨t, rfl⟩ := r
      cases r2
      exact ⟨t, rfl⟩
theorem eqAt_ints {pins : List (Addr × Obj)} {s : Shared} {σ : L2.St} {H : Hp} {A : Around} {p q : Addr} {ns ms : List Int} (I : Inv X pins σ H s) (hp : SqT X.K H p (ns.map V.int)) (hq : SqT X.K H q (ms.map V.int)) (hu : A.units + 64 < cLine) :
    EqAt A s (.ref p) (.ref q) (decide (ns = ms)) := by
  obtain ⟨as, r1⟩ := Dp.reads I (.tuple (pdata ns)) (.ref p) (.ref p) (.tup hp (pdp ns)) (show RelV (V.ref p) (Value.ref p) from rfl)
  obtain ⟨bs, r2⟩ := Dp.reads I (.tuple (pdata ms)) (.ref q) (.ref q) (.tup hq (pdp ms)) (show RelV (V.ref q) (Value.ref q) from rfl)
  have h := SeqAt.eqAt_reads _ _ A s _ _ _ _ r1 r2 (by simp [PyData.canLay0, play]) (by simp [PyData.canLay0, play]) (by
    have d : ∀ ns : List Int, PyData.depthAll (pdata ns) = 0 := fun ns => by
      induction ns with
      | nil => simp [pdata, PyData.depthAll]
      | cons n r ih =>
        unfold pdata at ih ⊢
        simp [PyData.depthAll, PyData.depth, ih]
    simp [PyData.depth, d]
    omega)
  simp only [PyData.eqv, peqv] at h
  exact h
theorem op_ltP (hu : X.A.units + 66 < cLine) : OpR X (compareOp .Lt) (rLtP X.K) := by
  intro pins s σ H x y v u Q I rx ry h
  obtain ⟨a, b, p, q, i, j, ns, ms, rfl, rfl, ha, hb, hp, hq, k⟩ := h
  cases rx
  cases ry
  obtain ⟨its, r1, p1, _⟩ := I.tuple ha
  obtain ⟨its2, r2, p2, _⟩ := I.tuple hb
  obtain ⟨t1, rfl⟩ := vals_ir r1
  obtain ⟨t2, rfl⟩ := vals_ir r2
  obtain ⟨us, v1, e1, _⟩ := I.tuple hp
  obtain ⟨vs, v2, e2, _⟩ := I.tuple hq
  have hA : X.A.in1.units + 64 < cLine := by
    show X.A.units + 1 + 64 < cLine
    omega
  have key := Ob.RcOp.tuples_lt (A := X.A) (s := s) (l := a) (b := b) (items := #[.int i t1, .ref p]) (items2 := #[.int j t2, .ref q]) (e := fun k => if k = 0 then decide (i = j) else decide (ns = ms)) (r := fun k => if k = 0 then decide (i < j) else HT.lexLt ns ms) p1 p2 (by omega)
    (fun k h1 h2 => ?_) (fun k h1 h2 hk => ?_)
  · refine key X.prog X.w X.xe _ ?_
    have e : Ob.lexAt (fun k => if k = 0 then decide (i = j) else decide (ns = ms)) (fun k => if k = 0 then decide (i < j) else HT.lexLt ns ms) (decide ((#[Value.int i t1, Value.ref p] : Array Value).size < (#[Value.int j t2, Value.ref q] : Array Value).size)) 0 (min (#[Value.int i t1, Value.ref p] : Array Value).size (#[Value.int j t2, Value.ref q] : Array Value).size) = pairLt i j ns ms := by
      show Ob.lexAt _ _ (decide (2 < 2)) 0 2 = _
      rw [Ob.lexAt_succ, Ob.lexAt_succ, Ob.lexAt_zero]
      unfold pairLt
      by_cases c1 : i = j
      · subst c1
        by_cases c2 : ns = ms
        · subst c2
          simp [lex_self]
        · simp [c2]
      · simp [c1]
    rw [e]
    exact ⟨.bl _, H, I, rfl, k⟩
  · match k, h1 with
    | 0, _ =>
      have := EqAt.int_int (A := X.A.in1) (s := s) i t1 j t2
      have e : (i == j) = decide (i = j) := rfl
      rw [e] at this
      simpa using this
    | 1, _ =>
      have := eqAt_ints I hp hq hA
      simpa using this
    | k + 2, h1 => exact absurd h1 (by simp)
  · match k, h1 with
    | 0, _ => exact Ob.RcOp.lt_int i j t1 t2
    | 1, _ =>
      intro prog w E Q' hQ
      exact HT.lt_tupInts e1 e2 (intsAre_of v1) (intsAre_of v2) (by omega) hQ
    | k + 2, h1 => exact absurd h1 (by simp)
end
end Gd
namespace Gd
open PySem PySem.Spec PyProof.Rows L2
/-- xs != [] -/
def rNeNil (K : PySem.W.Frag) : R2 := fun x y H Q => ∃ (a b : Addr) (xs : List V), x = .ref a ∧ y = .ref b ∧ SqL K H a xs ∧ SqL K H b [] ∧ Q (.bl (!xs.isEmpty)) H
theorem op_neNil {X : Cx} (hu : X.A.units < cLine) : OpR X (compareOp .NotEq) (rNeNil X.K) := by
  intro pins s σ H x y v u Q I rx ry h
  obtain ⟨a, b, xs, rfl, rfl, ha, hb, q⟩ := h
  cases rx
  cases ry
  obtain ⟨its, r1, p1, _⟩ := I.list ha
  obtain ⟨its2, r2, p2, _⟩ := I.list hb
  cases r2
  cases r1 with
  | nil => exact PySem.SeqAt.RcNeAt.lists (e := fun _ => true) p1.isList p2.isList rfl hu (fun j h1 _ => absurd h1 (Nat.not_lt_zero _)) _ _ _ _ ⟨.bl false, H, I, rfl, q⟩
  | cons r t => exact PySem.SeqAt.RcNeAt.lists_lengths p1.isList p2.isList rfl hu _ _ _ _ ⟨.bl true, H, I, rfl, q⟩
end Gd

set_option Elab.async false
set_option linter.all false
set_option maxRecDepth 100000
set_option maxHeartbeats 4000000
/-! Tuples of which it is known that they have no dict: so their methods can be called. -/
namespace Gd
open PySem PySem.Spec PyProof.Rows L2
def TupX (K : PySem.W.Frag) (H : Hp) (a : Addr) (xs : List V) : Prop := (∃ o : Obj, H a = some (.frz o (.tup xs)) ∧ o.dict = none) ∨
  ∃ (o : Obj) (its : Array Value) (n : Nat), K.lookup a = some o ∧ o.cls = .type "tuple" ∧ o.dict = none ∧ o.data = .seq its n ∧ its.size ≤ sizeLine ∧ Vals xs its.toList
theorem TupX.sq {K : PySem.W.Frag} {H : Hp} {a : Addr} {xs : List V} (h : TupX K H a xs) : SqT K H a xs := by
  rcases h with ⟨o, h, _⟩ | ⟨o, its, n, h, c, _, r⟩
  · exact .inl (.inr ⟨o, h⟩)
  · exact .inr ⟨o, its, n, h, c, r⟩
theorem TupX.ext {K : PySem.W.Frag} {H H' : Hp} {a : Addr} {xs : List V} (e : ∀ b o, H b = some o → H' b = some o) (h : TupX K H a xs) : TupX K H' a xs := by
  rcases h with ⟨o, h, d⟩ | h
  · exact .inl ⟨o, e _ _ h, d⟩
  · exact .inr h
theorem TupX.new {K : PySem.W.Frag} {H : Hp} {p : Addr} {xs : List V} {o : Obj} (d : o.dict = none) : TupX K (upd H p (.frz o (.tup xs))) p xs := .inl ⟨o, upd_same, d⟩
section
variable {X : Cx} {pins : List (Addr × Obj)} {σ : L2.St} {H : Hp} {s : Shared}
theorem TupX.is {a : Addr} {xs : List V} (I : Inv X pins σ H s) (h : TupX X.K H a xs) : s.TypeIs (.ref a) "tuple" ∧ ∀ b, Value.ref a = .ref b → ∃ ob, s.heap.get? b = some ob ∧ ob.dict = none := by
  rcases h with ⟨o, h, d⟩ | ⟨o, its, n, h, c, d, _⟩
  · obtain ⟨e, _, its, _, ob, e2, c, _⟩ := I.hok a _ h
    rw [e] at e2
    cases e2
    exact ⟨⟨o, e, c⟩, fun b z => by cases z; exact ⟨o, e, d⟩⟩
  · exact ⟨⟨o, I.kIn _ o h, c⟩, fun b z => by cases z; exact ⟨o, I.kIn _ o h, d⟩⟩
/-- t.m(..) of such a tuple -/
def tBMT (K : PySem.W.Frag) (r : V → List V → Hp → VK → Prop) (to : TE) (t : TA) : TE := fun σ H Q => to σ H fun x H1 => (∃ a xs, x = .ref a ∧ TupX K H1 a xs) ∧ t σ H1 fun xs H2 => r x xs H2 Q
theorem pe_bmT {o e : Expr} {es : List Expr} {to : TE} {t : TA} {name : Str} {apos cpos : Pos} {id : String} {r : V → List V → Hp → VK → Prop} (pa : PlainAttrs "tuple") (slot : Slot "tuple" name id) (hty : typeOf (.builtin id) = pure (.type "method_descriptor")) (hm : MtR X id r) (ho : PE X o to) (ha : PA X (e :: es) t)
    (hbase : attributeBase o name X.env (eval o X.env) = eval o X.env := by rfl)
    (hfew : ((backTo cpos (starEach (e :: es) X.env)).all (fun x => !x.1) && (backToKw cpos (keywordEach [] X.env)).all (fun x => x.1.isSome)
      && decide ((e :: es).length + ([] : List Keyword).length + (if ([] : List Keyword).isEmpty then 0 else 1) < 30)) = true := by rfl)
    (hline : (apos.endLine == cpos.line) = true := by rfl) (hs : starEach (e :: es) X.env = (false, eval e X.env) :: starEach es X.env := by rfl) (hplain : (backTo cpos (starEach es X.env)).any (·.1) = false := by rfl) :
    PE X (.Call (.Attribute o name apos) (e :: es) [] cpos) (tBMT X.K r to t) := by
  refine ⟨fun pins s σ H Q I h => ?_⟩
  refine wpAny_Call_method_late hbase hfew hline rfl (thn (ho.run pins s σ H _ I h) fun v s1 ⟨x, H1, I1, r1, ⟨a, xs, ex, hx⟩, q1⟩ => ?_)
  subst ex
  cases r1
  obtain ⟨h1, h2⟩ := TupX.is I1 hx
  refine ⟨"tuple", id, pa, slot, hty, h1, h2, ?_⟩
  have hA := ha.run cpos pins s1 σ H1 _ I1 q1
  rw [hs] at hA ⊢
  refine Calls.callWith_builtin (by show (false || (backTo cpos (starEach es X.env)).any (·.1)) = false; rw [hplain] <;> rfl) (Calls.evalArgs_plain ?_)
  exact thn hA fun us s2 ⟨vs, H2, I2, r2, q2⟩ => hm pins s2 σ H2 (.ref a) vs (.ref a) us Q I2 rfl r2 q2
/-! making them -/
def tTupX (t : TA) : TE := fun σ H Q => t σ H fun xs H1 => xs.length ≤ sizeLine ∧ ∀ p o, H1 p = none → o.dict = none → Q (.ref p) (upd H1 p (.frz o (.tup xs)))
theorem pe_tupX {es : List Expr} {t : TA} {pos : Pos} {x1} (h : PA X es t) : PE X (.Tuple es x1 pos) (tTupX t) := by
  refine ⟨fun pins s σ H Q I hq => ?_⟩
  refine wpAny_Tuple_spliced (thn (h.run pos pins s σ H _ I hq) fun us s1 ⟨xs, H1, I1, r, z, q⟩ => ⟨by rw [← r.length]; exact z, ?_⟩)
  have hf : H1 s1.heap.objs.size = none := I1.hok.fresh (Nat.le_refl _)
  refine ⟨.ref s1.heap.objs.size, upd H1 s1.heap.objs.size (.frz { cls := .type "tuple", data := .seq us.toArray } (.tup xs)), I1.laid (t' := s1.toks) (fun b u e => Heap.get?_push_of_some _ e) (Nat.le_refl _) ?_, rfl, q _ _ hf rfl⟩
  exact ⟨Heap.get?_push_size _ rfl, z, us, r, ⟨_, Heap.get?_push_size _ rfl, rfl, _, rfl⟩⟩
def rTupX (K : PySem.W.Frag) : List V → Hp → VK → Prop := fun xs H Q => ∃ p ys, xs = [.ref p] ∧ ((SqL K H p ys ∧ ∀ l o, H l = none → o.dict = none → Q (.ref l) (upd H l (.frz o (.tup ys)))) ∨ (SqT K H p ys ∧ Q (.ref p) H))
theorem call_tupX : CallR X (.type "tuple") (rTupX X.K) := by
  intro pins s σ H xs us Q I r h
  obtain ⟨p, ys, rfl, h⟩ := h
  obtain ⟨u, rfl, rx⟩ := vals1 r
  cases rx
  rcases h with ⟨hq, q⟩ | ⟨hq, q⟩
  · obtain ⟨its, r', pl, hz⟩ := I.list hq
    have hlen := r'.length
    refine call_tuple_list pl.isList (fun h' kp => ?_) (by simp only [List.size_toArray] <;> omega)
    have I1 : Inv X pins σ H { s with heap := h' } := I.kept (t' := s.toks) kp
    have I2 : Inv X pins σ (upd H h'.objs.size (.frz { cls := .type "tuple", data := .seq its.toArray } (.tup ys))) { s with heap := h'.push { cls := .type "tuple", data := .seq its.toArray } } :=
      I1.laid (t' := s.toks) (fun b o e => Heap.get?_push_of_some _ e) (Nat.le_refl _) (show ObjOk X.prog X.w _ _ _ (.frz _ (.tup ys)) from ⟨Heap.get?_push_size _ rfl, hz, its, r', IsTup.new _ _⟩)
    exact ⟨.ref h'.objs.size, _, I2, rfl, q _ _ (I1.hok.fresh (Nat.le_refl _)) rfl⟩
  · obtain ⟨its, r', pl, hz⟩ := I.tuple hq
    exact call_tuple_same pl ⟨.ref p, H, I, rfl, q⟩
def rCatX (K : PySem.W.Frag) : R2 := fun x y H Q => ∃ a b xs ys, x = .ref a ∧ y = .ref b ∧ TupX K H a xs ∧ TupX K H b ys ∧ xs.length + ys.length ≤ sizeLine ∧ ∀ H' p, L2.Ext H H' → TupX K H' p (xs ++ ys) → Q (.ref p) H'
theorem op_catX : OpR X (binaryOp .Add) (rCatX X.K) := by
  intro pins s σ H x y v u Q I rx ry h
  obtain ⟨a, b, xs, ys, rfl, rfl, ha, hb, hz, q⟩ := h
  cases rx
  cases ry
  obtain ⟨its, r1, p1, _⟩ := I.tuple ha.sq
  obtain ⟨its2, r2, p2, _⟩ := I.tuple hb.sq
  by_cases hx : xs = []
  · subst hx
    cases r1
    exact cat_tup0 p1 p2 ⟨.ref b, H, I, rfl, q H b (fun _ _ z => z) hb⟩
  · refine HT.cat_tup p1 p2 (fun z => hx (r1.nil_iff.mp z)) (fun z => ⟨.ref a, H, I, rfl, q H a (fun _ _ z => z) (by rw [r2.nil_iff.mp z, List.append_nil]; exact ha)⟩) (fun z => ?_) (by rw [← r1.length, ← r2.length]; exact hz)
    refine ⟨.ref s.heap.objs.size, _, I.laid (t' := s.toks) (o := .frz { cls := .type "tuple", data := .seq (its ++ its2).toArray } (.tup (xs ++ ys))) (fun b ob q => Heap.get?_push_of_some _ q) (Nat.le_refl _) ?_, rfl, q _ _ ?_ (TupX.new rfl)⟩
    · exact ⟨Heap.get?_push_size _ rfl, by rw [List.length_append]; exact hz, _, r1.append r2, IsTup.new _ _⟩
    · intro b o q
      rw [upd_ne (ne_of_none q (I.hok.fresh (Nat.le_refl _)))]
      exact q
end
theorem g_tupX {t : TA} {σ : L2.St} {H : Hp} {Q : VK} (k : t σ H fun xs H1 => xs.length ≤ sizeLine ∧ ∀ p o, H1 p = none → o.dict = none → Q (.ref p) (upd H1 p (.frz o (.tup xs)))) : tTupX t σ H Q := k
theorem g_bmT {K : PySem.W.Frag} {r : V → List V → Hp → VK → Prop} {to : TE} {t : TA} {σ : L2.St} {H : Hp} {Q : VK} (k : to σ H fun x H1 => (∃ a xs, x = .ref a ∧ TupX K H1 a xs) ∧ t σ H1 fun xs H2 => r x xs H2 Q) : tBMT K r to t σ H Q := k
end Gd

set_option Elab.async false
set_option linter.all false
set_option maxRecDepth 100000
set_option maxHeartbeats 4000000
/-! A tuple times 0 or 1. -/
namespace Gd
open PySem PySem.Spec PyProof.Rows L2
theorem tuple_mul1 (l : Addr) (items : Array Value) (n : Nat) (dd : Option Addr) (sl : Array (Option Value)) (u : Tok) :
    Meets (Builtin.«tuple.__mul__» ⟨[.ref l, .int 1 u], []⟩) (fun _ R s => s.heap.get? l = some { cls := .type "tuple", dict := dd, data := .seq items n, slots := sl } ∧
      R (.ok (.ret (Value.ref l))) s) :=
  .of_wp fun prog w A R s h => by
    obtain ⟨hp, g, d, tk, os⟩ := s
    obtain ⟨hl, h⟩ := h
    have f1 := AutoSeq1.idx_int
    have c1 : (items.isEmpty || (1 : Int) == 1) = true := by simp
    wp_walk using wpAny_loadPart' hl
    repeat (first
      | (refine wpAny_ite_true (decide_eq_true c1) ?_; wp_walk using wpAny_loadPart' hl))
    exact ⟨_, rfl, h⟩

theorem tuple_mul0 (l : Addr) (items : Array Value) (n : Nat) (dd : Option Addr) (sl : Array (Option Value)) (u : Tok) (ne : items.isEmpty = false) :
    Meets (Builtin.«tuple.__mul__» ⟨[.ref l, .int 0 u], []⟩) (fun _ R s => s.heap.get? l = some { cls := .type "tuple", dict := dd, data := .seq items n, slots := sl } ∧
      R (.ok (.ret (Value.ref s.heap.objs.size))) { s with heap := s.heap.push { cls := Value.type "tuple", data := Data.seq #[] }, toks := s.toks }) :=
  .of_wp fun prog w A R s h => by
    obtain ⟨hp, g, d, tk, os⟩ := s
    obtain ⟨hl, h⟩ := h
    have f1 := AutoSeq1.idx_int
    have c1 : ¬ (items.isEmpty || (0 : Int) == 1) = true := by rw [ne]; decide
    have c2 : (decide ((0 : Int) ≤ 0) || items.isEmpty) = true := by simp
    wp_walk using wpAny_loadPart' hl
    repeat (first
      | (refine wpAny_ite_false (decide_eq_false c1) ?_; wp_walk using wpAny_loadPart' hl)
      | (refine wpAny_ite_true (decide_eq_true c2) ?_; wp_walk using wpAny_loadPart' hl))
    exact ⟨_, rfl, h⟩
def rRepA (K : PySem.W.Frag) : R2 := fun x y H Q => ∃ l k xs, x = .ref l ∧ y = .int k ∧ SqT K H l xs ∧ xs ≠ [] ∧ 0 ≤ k ∧ k ≤ 1000 ∧ xs.length ≤ 1000 ∧
  (k = 1 → Q (.ref l) H) ∧ (k ≠ 1 → ∀ p, H p = none → Q (.ref p) (upd H p (.tup (List.replicate k.toNat xs).flatten)))
section
variable {X : Cx}
theorem op_repA : OpR X (binaryOp .Mult) (rRepA X.K) := by
  intro pins s σ H x y v u Q I rx ry h
  obtain ⟨l, k, xs, rfl, rfl, hT, hne, h1, h2, hz, q1, q2⟩ := h
  by_cases big : 2 ≤ k
  · exact op_repT pins s σ H _ _ v u Q I rx ry ⟨l, k, xs, rfl, rfl, hT, hne, big, h2, hz, q2 (by omega)⟩
  cases rx
  obtain ⟨t, rfl⟩ := ry
  obtain ⟨its, r, ⟨⟨cls, dd, data, sl⟩, ho, hc, n, hd⟩, hs⟩ := I.tuple hT
  simp only at hc hd
  subst hc hd
  have hle : its.length = xs.length := r.length.symm
  have hi : its.toArray.isEmpty = false := by
    cases its with
    | nil => exact absurd (List.eq_nil_of_length_eq_zero hle.symm) hne
    | cons a b => rfl
  have hk : k = 0 ∨ k = 1 := by omega
  rcases hk with rfl | rfl
  · refine wpAny_binaryOp_repeat_ref (T := "tuple") (U := "int") (by decide) ⟨_, ho, rfl⟩ (fun s' => typeIs_int s' 0 t) noFill_tuple_mul F.fills_int_mul F.slot_int_rmul repeat_tuple F.slot_int_index.lookup
      (call_meets F.slot_int_rmul (typeIs_int s 0 t) F.entry_int_rmul (F.args_int_rmul_2 _ _) (int_rmul_tuple 0 t l its.toArray n dd sl)
        ⟨ho, rfl, ⟨_, ho, rfl⟩, call_meets F.slot_tuple_mul ⟨_, ho, rfl⟩ F.entry_tuple_mul (F.args_tuple_mul_2 _ _) (tuple_mul0 l its.toArray n dd sl t hi) ⟨ho, ?_⟩⟩)
    have q := q2 (by decide) _ (I.hok.fresh (Nat.le_refl _))
    refine ⟨.ref s.heap.objs.size, _, I.laid (t' := s.toks) (o := .tup (List.replicate (0 : Int).toNat xs).flatten) (fun b ob q => Heap.get?_push_of_some _ q) (Nat.le_refl _) ?_, rfl, q⟩
    exact ⟨Nat.zero_le _, [], .nil, IsTup.new _ _⟩
  · refine wpAny_binaryOp_repeat_ref (T := "tuple") (U := "int") (by decide) ⟨_, ho, rfl⟩ (fun s' => typeIs_int s' 1 t) noFill_tuple_mul F.fills_int_mul F.slot_int_rmul repeat_tuple F.slot_int_index.lookup
      (call_meets F.slot_int_rmul (typeIs_int s 1 t) F.entry_int_rmul (F.args_int_rmul_2 _ _) (int_rmul_tuple 1 t l its.toArray n dd sl)
        ⟨ho, rfl, ⟨_, ho, rfl⟩, call_meets F.slot_tuple_mul ⟨_, ho, rfl⟩ F.entry_tuple_mul (F.args_tuple_mul_2 _ _) (tuple_mul1 l its.toArray n dd sl t) ⟨ho, ?_⟩⟩)
    exact ⟨.ref l, H, I, rfl, q1 rfl⟩
end
end Gd

set_option Elab.async false
set_option linter.all false
set_option maxRecDepth 100000
set_option maxHeartbeats 4000000
/-! A tuple many times. -/
namespace Gd
open PySem PySem.Spec PyProof.Rows L2
/-- t * k, t not empty, few values in all -/
def rRepB (K : PySem.W.Frag) : R2 := fun x y H Q => ∃ l k xs, x = .ref l ∧ y = .int k ∧ SqT K H l xs ∧ xs ≠ [] ∧ 0 ≤ k ∧ k ≤ 100000 ∧ xs.length ≤ 10 ∧
  (k = 1 → Q (.ref l) H) ∧ (k ≠ 1 → ∀ p, H p = none → Q (.ref p) (upd H p (.tup (List.replicate k.toNat xs).flatten)))
section
variable {X : Cx}
theorem op_repB : OpR X (binaryOp .Mult) (rRepB X.K) := by
  intro pins s σ H x y v u Q I rx ry h
  obtain ⟨l, k, xs, rfl, rfl, hT, hne, h1, h2, hz, q1, q2⟩ := h
  by_cases few : k ≤ 1
  · exact op_repA pins s σ H _ _ v u Q I rx ry ⟨l, k, xs, rfl, rfl, hT, hne, h1, by omega, by omega, q1, q2⟩
  have two : 2 ≤ k := by omega
  have q := q2 (by omega)
  clear q1 q2
  cases rx
  obtain ⟨t, rfl⟩ := ry
  obtain ⟨its, r, ⟨⟨cls, dd, data, sl⟩, ho, hc, n, hd⟩, hs⟩ := I.tuple hT
  simp only at hc hd
  subst hc hd
  have len : its.length = xs.length := r.length.symm
  have some_ : its.toArray.isEmpty = false := by
    cases its with
    | nil => exact absurd (List.eq_nil_of_length_eq_zero len.symm) hne
    | cons a b => rfl
  have sz : its.toArray.size = xs.length := by rw [List.size_toArray, len]
  have all_ : ((its.toArray.size : Nat) : Int) * k ≤ 1000000 := by
    rw [sz]
    have a1 : ((xs.length : Nat) : Int) * k ≤ 10 * k := Int.mul_le_mul_of_nonneg_right (by omega) (by omega)
    omega
  have many : k.toNat * xs.length ≤ 100000 * 10 := Nat.mul_le_mul (by omega) hz
  have flat_ : (List.replicate k.toNat its).flatten.length ≤ sizeLine := by
    rw [PyProof.Rows.lm_len_rep_flat, len, sizeLine_eq]
    omega
  have d0 : (decide (k < -(2 ^ 63)) || decide (k ≥ 2 ^ 63)) = false := by
    rw [decide_eq_false (by omega), decide_eq_false (by omega)]
    rfl
  have d1 : (its.toArray.isEmpty || k == 1) = false := by
    rw [some_, Bool.false_or]
    exact beq_eq_false_iff_ne.mpr (by omega)
  have d2 : (decide (k ≤ 0) || its.toArray.isEmpty) = false := by
    rw [some_, Bool.or_false]
    exact decide_eq_false (by omega)
  have d4 : Builtin.Tuple.tupleTooMany (((its.toArray.size : Nat) : Int) * k) = false := by
    unfold Builtin.Tuple.tupleTooMany
    rw [sizeLine_eq]
    exact decide_eq_false (by omega)
  have met := tuple_mulW l its.toArray n dd sl k t d0 d1 d2 (by omega) d4 (by rw [size_rep, List.size_toArray]; exact flat_)
  refine wpAny_binaryOp_repeat_ref (T := "tuple") (U := "int") (by decide) ⟨_, ho, rfl⟩ (fun s' => typeIs_int s' k t) noFill_tuple_mul F.fills_int_mul F.slot_int_rmul repeat_tuple F.slot_int_index.lookup
    (call_meets F.slot_int_rmul (typeIs_int s k t) F.entry_int_rmul (F.args_int_rmul_2 _ _) (int_rmul_tuple k t l its.toArray n dd sl)
      ⟨ho, rfl, ⟨_, ho, rfl⟩, call_meets F.slot_tuple_mul ⟨_, ho, rfl⟩ F.entry_tuple_mul (F.args_tuple_mul_2 _ _) met ⟨ho, ?_⟩⟩)
  rw [size_rep]
  refine ⟨.ref s.heap.objs.size, _, I.laid (t' := s.toks) (o := .tup (List.replicate k.toNat xs).flatten) (fun b ob q => Heap.get?_push_of_some _ q) (Nat.le_refl _) ?_, rfl, q _ (I.hok.fresh (Nat.le_refl _))⟩
  exact ⟨by rw [PyProof.Rows.lm_len_rep_flat, sizeLine_eq]; omega, _, r.rep k.toNat, IsTup.new _ _⟩
end
end Gd

set_option Elab.async false
set_option linter.all false
set_option maxRecDepth 100000
set_option maxHeartbeats 4000000
/-! The first field of an exception of an own class that stands directly below a builtin one. -/
namespace GdX
open PySem PySem.Calls PyProof.Rows PySem.HandSPX Builtin Builtin.ObjectAttr
section
variable {prog : Program} {w : World} {A : Around} {R : Result → Shared → Prop} {hp : Heap} {g : Array GenState} {d : Drawn} {t : Nat} {os : OsState}
theorem osaG {B : String} {bmB : List Value} (SF : StoreFacts B bmB "object.__setattr__" "object") {K : W.Frag} {name : Str} {tk : Tok} {v : Value} {x C : Addr} {fv : Array Value} {cd : ClassData}
    (X : K.In hp) (hx : hp.get? x = some { cls := .ref C, data := .fields fv }) (hcd : W.clsIn K C = some cd)
    (hm : cd.mro = .ref C :: bmB) (hh : cd.hasDict = true) (ha : W.findIn K (.ref C) name = some none)
    (hq : ∀ h' tk' dx, (∀ b o, b ≠ x → hp.get? b = some o → h'.get? b = some o) → hp.objs.size ≤ dx → dx ≠ x →
      h'.get? x = some { cls := .ref C, dict := some dx, data := .fields fv } →
      h'.Ns1 dx (fun y => if y = name then some v else none) → R (.ok (.ret .none)) ⟨h', g, d, tk', os⟩) :
    codeAny (model prog w) A (.call (.builtin "object.__setattr__") ⟨[.ref x, .str name tk, v], []⟩) R ⟨hp, g, d, t, os⟩ := by
  have I : W.InstAt hp x { cls := .ref C, data := .fields fv } C none := ⟨hx, rfl, rfl, trivial⟩
  have ne : cd.mro.isEmpty = false := by rw [hm]; rfl
  have hob : cd.mro.contains (.type "object") = true := by
    rw [hm, List.contains_cons, SF.hasOwner, Bool.or_true]
  have hxs : x ≠ hp.objs.size := Nat.ne_of_lt (Heap.lt_size hx)
  have sub : W.Looks (model prog w) hp (isInstance (.ref x) (.type "object")) true := by
    refine I.type.andThen (W.looks_mroIn X ?_)
    unfold W.mroIn
    rw [hcd, Option.bind_some, if_neg (by rw [ne]; decide), hob]
  refine codeAny_call_builtin SF.slot.plain SF.entry (@W.check_slot (model prog w) _ _ ⟨hp, g, d, t, os⟩ "object.__setattr__" "object" "__setattr__" (.ref x) [.str name tk, v] [] _
    SF.kind SF.split sub (SF.args (.ref x) (.str name tk) v) ?_)
  have hmr : W.Looks (model prog w) hp (mroOf (.ref C)) cd.mro := (W.looks_clsIn X hcd).andThen .now
  have L3 : W.Looks (model prog w) hp (storeTaker? none) none := .now
  have hcls : W.Looks (model prog w) hp (classData C) cd := W.looks_clsIn X hcd
  rw [W.osa_eq, refuse_eq]
  refine wpAny_bind (wpAny_bind (I.type.at (wpAny_bind (hmr.at ?_))))
  rw [hm, refuseLoop_ref, SF.passes]
  refine wpAny_pure (wpAny_bind (I.type.at (wpAny_bind ((W.looks_findIn X ha).at (wpAny_bind (L3.at ?_))))))
  show wpAny _ _ (storeInOwnDict (.ref x) (.ref C) (.str name tk) name v false) _ _ _
  clear hmr hob ne sub hm
  obtain ⟨nm, bs, mro, ns, qn, hd, sn, sb, ab, col, del⟩ := cd
  have hh' : hd = true := hh
  subst hh'
  unfold storeInOwnDict ownDictForStores
  repeat (first
    | with_reducible refine store_in_new ?_ ?_
    | with_reducible refine wpAny_loadPart_at hx ?_
    | with_reducible refine hcls.at ?_
    | wp_step)
  · exact ⟨_, #[], _, (Heap.get?_update_ne _ _ _ _ hxs.symm).trans (Heap.get?_push_at rfl rfl), rfl, fun e he => absurd he (by simp), fun _ => rfl⟩
  · intro h' tk' hn' hs
    have hx₁ : (hp.push { cls := .type "dict", data := .dict #[] }).get? x = some { cls := .ref C, data := .fields fv } := Heap.get?_push_of_some _ hx
    refine hq h' tk' hp.objs.size (fun b o hb ho => ?_) (Nat.le_refl _) hxs.symm ?_ hn'
    · have far : b ≠ hp.objs.size := Nat.ne_of_lt (Heap.lt_size ho)
      exact (hs.2 b far).trans ((Heap.get?_update_ne _ _ _ _ hb).trans (Heap.get?_push_of_some _ ho))
    · exact (hs.2 x hxs).trans (Heap.get?_update_self _ hx₁ rfl)
end
end GdX

set_option Elab.async false
set_option linter.all false
set_option maxRecDepth 100000
set_option maxHeartbeats 4000000
namespace PySem
namespace XInvalidNumber
open PySem.W PySem.Calls PyProof.Rows PySem.HandSPX
/-! ### the text of __init__ -/
def iA (p1 p2 : Pos) : Arguments := { posonlyargs := [], args := [{ arg := "self", annotation := none, pos := p1 }, { arg := "value", annotation := none, pos := p2 }], vararg := none, kwonlyargs := [], kw_defaults := [], kwarg := none, defaults := [] }
def iB (q1 q2 q3 q4 : Pos) : List Stmt := [.Assign [.Attribute (.Name "self" q1) "value" q2] (.Name "value" q3) q4]
def iS : Scope := { kind := .function, names := [(PySem.Str.ofString "self", .local), (PySem.Str.ofString "value", .local)], isGenerator := false, isCoroutine := false, more := [] }
/-- what the written part says of Low, at C, and of its __init__, at fI -/
structure InvalidNumberTxt (K : Frag) (mg : Str → Option Value) (C fI : Addr) : Prop where
  gC : mg "InvalidNumber" = some (.ref C)
  cls : ∃ nm q N bs sn sub ab col dd k0 k1 k2 k3 k5, K.lookup C = some (excClassObj nm q C N bs [.type "IndexError", .type "LookupError", .type "Exception", .type "BaseException", .type "object"] true sn sub ab col dd k0 k1 k2 k3 k5 "IndexError.__new__")
  sa : findIn K (.ref C) "__setattr__" = some (some (.builtin "object.__setattr__"))
  ga : findIn K (.ref C) "__getattribute__" = some (some (.builtin "BaseException.__getattribute__"))
  gg : findIn K (.ref C) "__getattr__" = some none
  noN : findIn K (.ref C) "value" = some none
  iC : findIn K (.ref C) "__init__" = some (some (.ref fI))
  tC : typeIn K (.ref fI) = some (.type "function")
  kC : keepIn K (.ref C) = true
  exC : subIn K (.ref C) (.type "BaseException") = some true
  tyC : typeIn K (.ref C) = some (.type "type")
  hdC : hasDictIn K C = true
  te : exmOne K (.ref C) (.ref C) = some true
  fn : ∃ (oc : Value) (od : Option Addr) (doc pm : Value) (an : Option Addr) (cdv ct : Value) (osl : Array (Option Value)) (p1 p2 q1 q2 q3 q4 : Pos),
    K.lookup fI = some ⟨oc, od, .func (fnOf "__init__" "InvalidNumber.__init__" (iA p1 p2) (iB q1 q2 q3 q4) iS .none .none doc pm an cdv ct), osl⟩ ∧ codeIn K cdv "InvalidNumber.__init__" = true
theorem one_size (v : Value) : [v].length ≤ sizeLine := by
  rw [sizeLine_eq]
  exact (by decide : 1 ≤ 16777216)
theorem kept_but {K : Frag} {h h' : Heap} {x : Addr} (X : K.In h) (hx : K.lookup x = none) (k : ∀ b o, b ≠ x → h.get? b = some o → h'.get? b = some o) : K.In h' := fun a o e =>
  k a o (fun z => by rw [z, hx] at e; cases e) (X a o e)
theorem ldC {M : Model} {s : Shared} {name : Str} {scope : Scope} {L a : Addr} {cd : Value} {m : Str → Option Value} {x : Str} {pos : Pos} {v : Value} {Q : Value → Shared → Prop} {A : Around} {E : Value → Shared → Prop} (hn : s.heap.Ns L m) (hv : m x = some v) (h : Q v s)
    (hk : scope.kind = .function := by rfl) (hl : (envOfC name scope L a cd).kindOf x = some .local := by rfl) (hd : (x == ("__debug__" : Str)) = false := by decide) :
    wpAny M A (eval (.Name x pos) (envOfC name scope L a cd)) Q E s := wpAny_Name (wpAny_loadName_local hk hl hn hv h) hd
/-- what __init__ leaves of a fresh exception at x -/
structure InitEnd (h h' : Heap) (x C dx t1 : Addr) (v : Value) : Prop where
  keep : ∀ b o, b ≠ x → h.get? b = some o → h'.get? b = some o
  obj : h'.get? x = some { cls := .ref C, dict := some dx, data := .fields #[.ref t1, .none, .none, .none, .bool false, .none] }
  dbig : h.objs.size ≤ dx
  dne : dx ≠ x
  ns : h'.Ns1 dx (fun y => if y = "value" then some v else none)
/-- a made Low -/
structure OwnMade (h h' : Heap) (e C d : Addr) (v : Value) : Prop where
  keep : ∀ b o, h.get? b = some o → h'.get? b = some o
  new : h.objs.size ≤ e
  obj : ∃ oe vs, h'.get? e = some oe ∧ oe.cls = .ref C ∧ oe.dict = some d ∧ oe.data = .fields vs ∧ vs[1]? = some .none
  dbig : h.objs.size ≤ d
  dne : d ≠ e
  ns : h'.Ns1 d (fun y => if y = "value" then some v else none)
section
variable {prog : Program} {w : World} {A : Around} {E : Value → Shared → Prop} {R : Result → Shared → Prop} {s : Shared} {K : Frag} {mg : Str → Option Value} {C fI : Addr}
theorem low_init (T : InvalidNumberTxt K mg C fI) {x t0 : Addr} {v : Value} (X : K.In s.heap) (hlim : s.heap.NoLimit) (hx : s.heap.get? x = some (excO C t0)) (hnx : K.lookup x = none) (hroom : A.depth < recursionLimit)
    (hq : ∀ h' tk dx, InitEnd s.heap h' x C dx t0 v → R (.ok (.ret .none)) { s with heap := h', toks := tk }) :
    codeAny (model prog w) A (.call (.ref fI) ⟨[.ref x, v], []⟩) R s := by
  obtain ⟨oc, od, doc, pm, an, cdv, ct, osl, p1, p2, q1, q2, q3, q4, ho, hcd⟩ := T.fn
  obtain ⟨nm, q, N, bs, sn, sub, ab, col, dd, k0, k1, k2, k3, k5, hC⟩ := T.cls
  have hcl : clsIn K C = some { name := nm, bases := bs, mro := .ref C :: [.type "IndexError", .type "LookupError", .type "Exception", .type "BaseException", .type "object"], ns := N, qualname := q, hasDict := true, slotNames := sn, subclasses := sub, abstract := ab, collection := col, hasDel := false } := by unfold clsIn; rw [hC] <;> rfl
  refine Att.call_fn (binds := [("self", .ref x), ("value", v)]) X hlim ho hcd hroom (BindsTo.of_eq (by first | rfl | with_unfolding_all rfl)) (by first | rfl | decide | with_unfolding_all rfl) (fun s₁ IC => ?_) rfl rfl rfl
  obtain ⟨h₁, tk₁, rfl⟩ := IC.toInCall.same
  have k : ∀ b o, s.heap.get? b = some o → h₁.get? b = some o := IC.toInCall.keep
  have hn := IC.toInCall.ns
  have hxL : s.heap.objs.size ≠ x := Nat.ne_of_gt (Heap.lt_size hx)
  have X₁ : K.In h₁ := X.keeps k
  have hx₁ := k _ _ hx
  -- self.by = by
  show wpAny _ _ (execs _ _) _ _ _
  refine wpAny_execs_cons (plainObj_wpAny_Assign_Attribute ?_)
  refine ldC (v := v) hn (by first | rfl | with_unfolding_all rfl | kernel_rfl) (ldC (v := .ref x) hn (by first | rfl | with_unfolding_all rfl | kernel_rfl) ?_)
  refine set_plain X₁ (ox := excO C t0) (od := none) ⟨hx₁, rfl, rfl, trivial⟩ T.sa ?_
  refine GdX.osaG F.store_IndexError X₁ hx₁ hcl rfl rfl T.noN (fun h₃ tk₃ dx k₃ dn dne hx₃ hn₃ => ?_)
  show wpAny _ _ (execs _ _) _ _ _
  have z : s.heap.objs.size < h₁.objs.size := hn.lt
  exact wpAny_execs_nil (hq h₃ tk₃ dx ⟨fun b o hb e => k₃ b o hb (k b o e), hx₃, Nat.le_of_lt (Nat.lt_of_lt_of_le z dn), dne, hn₃⟩)
theorem low_made (T : InvalidNumberTxt K mg C fI) {v : Value} (X : K.In s.heap) (hlim : s.heap.NoLimit) (hroom : A.depth + 1 < recursionLimit)
    (hq : ∀ h' tk e d, OwnMade s.heap h' e C d v → R (.ok (.ret (.ref e))) { s with heap := h', toks := tk }) :
    codeAny (model prog w) A (.call (.ref C) ⟨[v], []⟩) R s := by
  obtain ⟨nm, q, N, bs, sn, sub, ab, col, dd, k0, k1, k2, k3, k5, hC⟩ := T.cls
  obtain ⟨hp, g, dr, tk, os⟩ := s
  have k : ∀ b o, hp.get? b = some o → ((hp.push (kdv_tup [v])).push (excO C hp.objs.size)).get? b = some o := fun b o e => Heap.get?_push_of_some _ (Heap.get?_push_of_some _ e)
  have hget : ((hp.push (kdv_tup [v])).push (excO C hp.objs.size)).get? (hp.objs.size + 1) = some (excO C hp.objs.size) := by heap_get
  have hnx : K.lookup (hp.objs.size + 1) = none := by
    cases e : K.lookup (hp.objs.size + 1) with
    | none => rfl
    | some o =>
      have z : hp.get? (hp.objs.size + 1) = some o := X _ _ e
      exact absurd (Nat.lt_of_succ_lt (Heap.lt_size z)) (Nat.lt_irrefl _)
  refine call_own F.excBase_IndexError (fun _ => rfl) (X _ _ hC) (looks_findIn X T.iC) (fun self => bind_fn X self T.tC) (one_size v) ?_
  refine low_init (s := ⟨(hp.push (kdv_tup [v])).push (excO C hp.objs.size), g, dr, tk, os⟩) T (X.keeps k) (hlim.keeps k) hget hnx ?_ fun h' tk' dx ⟨k', hx, dn, dne, hns⟩ => ?_
  · show A.depth + 1 < recursionLimit
    exact hroom
  · have old : ∀ b o, hp.get? b = some o → h'.get? b = some o := fun b o e => k' b o (Nat.ne_of_lt (Nat.lt_succ_of_lt (Heap.lt_size e))) (k b o e)
    have z : hp.objs.size + 1 + 1 ≤ dx := by
      first
        | (simpa only [Heap.size_push] using dn)
        | exact dn
        | (have q := dn; rw [Heap.size_push, Heap.size_push] at q; exact q)
    exact ⟨rfl, hq h' tk' (hp.objs.size + 1) dx ⟨old, Nat.le_succ _, ⟨_, _, hx, rfl, rfl, rfl, rfl⟩, Nat.le_trans (Nat.le_trans (Nat.le_succ _) (Nat.le_succ _)) z, dne, hns⟩⟩
end
end XInvalidNumber
end PySem
namespace L2
open PySem PySem.Spec PyProof.Rows
theorem relO_InvalidNumber {v : V} {v' : Value} (r : RelV v v') (f : Str) : RelO (List.lookup f [(("value" : Str), v)]) (if f = "value" then some v' else none) := by
  by_cases hw : f = "value"
  · subst hw
    rw [if_pos rfl]
    have q : List.lookup ("value" : Str) [(("value" : Str), v)] = some v := by simp [List.lookup]
    rw [q]
    exact r
  · rw [if_neg hw]
    have qw : (f == ("value" : Str)) = false := by simpa using hw
    have q2 : List.lookup f [(("value" : Str), v)] = none := by simp [List.lookup, qw]
    rw [q2]
    trivial
section
variable {X : Cx} {C fI : Addr}
/-- Low(e) -/
def tMkInvalidNumber (C : Addr) (ta : TA) : St → Hp → XK → Prop := fun σ H Q => ta σ H fun vs H1 => ∃ v, vs = [v] ∧ ∀ d, H1 d = none → Q (.ref C) (some d) (upd H1 d (.xd [(("value" : Str), v)]))
theorem pmk_InvalidNumber {a : Expr} {ta : TA} {p pos : Pos} {k : Nat} (T : PySem.XInvalidNumber.InvalidNumberTxt X.K X.mg C fI) (hr : Room k X.A) (ha : PA X [a] ta) (hg : Gl X "InvalidNumber" := by rfl)
    (he : starEach (a :: []) X.env = (false, eval a X.env) :: starEach [] X.env := by rfl) (hpl : (backTo pos (starEach [] X.env)).any (·.1) = false := by rfl) :
    PMk X (.Call (.Name "InvalidNumber" p) [a] [] pos) (tMkInvalidNumber C ta) := by
  intro pins s σ H Q I h
  refine wpAny_Call_Name_kw (ld_glob I hg T.gC ?_)
  refine PySem.W.callWith_K (h₀ := X.base) I.ok.mod.kin T.kC (thn (ha.run pos pins s σ H _ I h) fun us s1 hh => ?_) he hpl
  obtain ⟨vs, H1, I1, r1, v, ev, q1⟩ := hh
  subst ev
  refine ⟨I1.kIn, ?_⟩
  cases r1 with
  | cons rv rn =>
    rename_i v' us'
    cases rn
    show wpAny _ _ (call (.ref C) [v']) _ _ _
    have hlim := I1.nolimit
    obtain ⟨hp, g, dr, tk, os⟩ := s1
    refine wpAny_call (PySem.XInvalidNumber.low_made T I1.kIn hlim (by have := hr.dp; omega) fun h' tk' e d M => ?_)
    show MkP X pins σ Q (.ref e) ⟨h', g, dr, tk', os⟩
    obtain ⟨oe, fv, hoe, hc, hd, hdat, h1⟩ := M.obj
    have hns := M.ns
    obtain ⟨G', g1, g2⟩ := restrict h' fun b => decide (b ≠ e)
    have gk : ∀ b, b ≠ e → G'.get? b = h'.get? b := fun b hb => g1 b (decide_eq_true hb)
    have ge : G'.get? e = none := g2 e (by simp)
    have old : ∀ b o, hp.get? b = some o → G'.get? b = some o := fun b o q => (gk b (Nat.ne_of_lt (Nat.lt_of_lt_of_le (Heap.lt_size q) M.new))).trans (M.keep b o q)
    have ob : ObjOk X.prog X.w (upd H1 d (.xd [(("value" : Str), v)])) G' d (.xd [(("value" : Str), v)]) :=
      ⟨_, hns.at (fun o q => (gk d M.dne).trans q), fun f => relO_InvalidNumber rv f⟩
    have J : Inv X pins σ (upd H1 d (.xd [(("value" : Str), v)])) ⟨G', g, dr, tk', os⟩ := I1.laid (t' := tk') old M.dbig ob
    refine ⟨e, oe, fv, ⟨G', g, dr, tk', os⟩, _, .ref C, some d, rfl, J, fun b o q => ?_, ge, hoe, ⟨hc, hd⟩, hdat, h1, ?_, rfl, I1.bare, raises_own T.exC T.tyC, q1 d (I1.hok.fresh M.dbig)⟩
    · by_cases hb : b = e
      · have q' : G'.get? b = some o := q
        rw [hb, ge] at q'; cases q'
      · exact (gk b hb).symm.trans q
    · rw [upd_ne (Ne.symm M.dne)]
      exact I1.hok.fresh M.new
/-- raise Low(e) -/
def tRaiseInvalidNumber (C : Addr) (W : WX) (ta : TA) : TS := fun _ σ H => tMkInvalidNumber C ta σ H fun cls d H' => W cls d σ H'
theorem ps_raiseInvalidNumber {a : Expr} {ta : TA} {W : WX} {p pos pos2 : Pos} {k : Nat} (hc : X.calm = true) (T : PySem.XInvalidNumber.InvalidNumberTxt X.K X.mg C fI) (hr : Room k X.A) (tk : Takes X W) (ha : PA X [a] ta) (hg : Gl X "InvalidNumber" := by rfl)
    (he : starEach (a :: []) X.env = (false, eval a X.env) :: starEach [] X.env := by rfl) (hpl : (backTo pos (starEach [] X.env)).any (·.1) = false := by rfl) :
    PS X (.Raise (some (.Call (.Name "InvalidNumber" p) [a] [] pos)) none pos2) (tRaiseInvalidNumber C W ta) := ps_raise hc tk (pmk_InvalidNumber T hr ha hg he hpl)
/-- low.by, low the exception that the suite holds (at a; its class cls, its dict d) -/
def tByInvalidNumber (C : Addr) (a : Addr) (cls : Value) (d : Option Addr) (te : TE) : TE := fun σ H Q => te σ H fun x H1 => x = .ref a ∧ cls = .ref C ∧ ∃ (dd : Addr) (v : V), d = some dd ∧ H1 dd = some (.xd [(("value" : Str), v)]) ∧ Q v H1
theorem pe_byInvalidNumber {a : Addr} {oe : Obj} {cls : Value} {d : Option Addr} {pn : List (Addr × Obj)} {e : Expr} {te : TE} {pos : Pos} (T : PySem.XInvalidNumber.InvalidNumberTxt X.K X.mg C fI) (hz : Zc cls d oe) (hf : ∃ vs, oe.data = .fields vs) (he : PE (X.suite a ((a, oe) :: pn)) e te)
    (hb : attributeBase e "value" X.env (eval e X.env) = eval e X.env := by rfl) :
    PE (X.suite a ((a, oe) :: pn)) (.Attribute e "value" pos) (tByInvalidNumber C a cls d te) := by
  refine ⟨fun pins s σ H Q I h => ?_⟩
  refine attr_of hb (thn (he.run pins s σ H _ I h) fun u s1 hh => ?_)
  obtain ⟨x, H1, I1, rx, ex, ec, dd, v, ed, ea, q⟩ := hh
  subst ex
  obtain rfl : u = Value.ref a := rx
  subst ec
  subst ed
  obtain ⟨ha, _⟩ := I1.pin (a, oe) (List.mem_append_left _ List.mem_cons_self)
  obtain ⟨vs, hd⟩ := hf
  have hx : ObjOk X.prog X.w H1 s1.heap dd (.xd [(("value" : Str), v)]) := I1.hok dd _ ea
  obtain ⟨mA, hns, hr⟩ := hx
  obtain ⟨od, ho, hl⟩ := lookIn_ns hns
  have l : List.lookup ("value" : Str) [(("value" : Str), v)] = some v := by simp [List.lookup]
  obtain ⟨u, hu, ru⟩ := RelO.some_of (v := v) (o := mA "value") (by rw [← l]; exact hr "value")
  have J : PySem.W.InstAt s1.heap a oe C (some od) := ⟨ha, hz.1, by unfold PySem.W.notCls; rw [hd] <;> rfl, by rw [hz.2]; exact ho⟩
  exact HandSPX.exc_get I1.kIn J T.ga T.gg T.exC (PySem.W.findObj_own T.hdC T.noN rfl (by rw [hl, hu])) (handed_of ru) ⟨v, H1, I1.tok _, ru, q⟩
end
end L2

set_option Elab.async false
set_option linter.all false
set_option maxRecDepth 100000
set_option maxHeartbeats 4000000
/-! zip of three sequences, each a list or a tuple. -/
namespace Gd
open PySem PySem.Spec PyProof.Rows L2
/-- all three walked together: at each turn a new triple -/
def ItzF (K : PySem.W.Frag) (l1 l2 l3 : Bool) (a b c : Addr) : It where
  go := fun i H => ∃ (xs ys zs : List V) (x y z : V), SqE K l1 H a xs ∧ SqE K l2 H b ys ∧ SqE K l3 H c zs ∧ xs[i]? = some x ∧ ys[i]? = some y ∧ zs[i]? = some z
  yld := fun i H v H' => ∃ T x y z, v = .ref T ∧ H T = none ∧ H' = upd H T (.tup [x, y, z]) ∧ (∀ xs, SqE K l1 H a xs → xs[i]? = some x) ∧ (∀ ys, SqE K l2 H b ys → ys[i]? = some y) ∧ ∀ zs, SqE K l3 H c zs → zs[i]? = some z
  stop := fun i H => ∃ xs ys zs : List V, SqE K l1 H a xs ∧ SqE K l2 H b ys ∧ SqE K l3 H c zs ∧ i = min xs.length (min ys.length zs.length)
theorem turn_zipF {P : Program} {w : World} {K : PySem.W.Frag} {elts : List Expr} {kk : Nat} {tpos : Pos} {l1 l2 l3 : Bool} {a b c z TI TO i1 i2 i3 : Addr} (S : ZipSep3 z TI TO i1 i2 i3 [i1, a] [i2, b] [i3, c]) :
    Turn P w K (.Tuple elts kk tpos) (ItzF K l1 l2 l3 a b c) [z, TI, TO, i1, i2, i3] z (fun i h => IsZip h z TI TO .none ∧ IsTupOf3 h TI (.ref i1) (.ref i2) (.ref i3) ∧ (∃ x y u, IsTupOf3 h TO x y u) ∧ ItE l1 h i1 a i ∧ ItE l2 h i2 b i ∧ ItE l3 h i3 c i) where
  mem := List.mem_cons_self
  obj := by
    rintro i h ⟨hz, hTI, ⟨x, y, u, hTO⟩, h1, h2, h3⟩ d hc
    simp only [List.mem_cons, List.not_mem_nil, or_false] at hc
    rcases hc with rfl | rfl | rfl | rfl | rfl | rfl
    · exact ⟨_, hz, fun v q => nomatch q⟩
    · exact ⟨_, hTI, fun v q => nomatch q⟩
    · exact ⟨_, hTO, fun v q => nomatch q⟩
    · exact h1.there
    · exact h2.there
    · exact h3.there
  keep := by
    rintro i h h' ⟨hz, hTI, ⟨x, y, u, hTO⟩, h1, h2, h3⟩ k
    exact ⟨k _ (by simp) _ hz, k _ (by simp) _ hTI, ⟨x, y, u, k _ (by simp) _ hTO⟩, h1.at fun o q => k _ (by simp) o q, h2.at fun o q => k _ (by simp) o q, h3.at fun o q => k _ (by simp) o q⟩
  item := by
    intro X hP hw hK hc i pins s σ H E I hf st hg
    subst hP hw hK
    obtain ⟨hz, hTI, ⟨x0, y0, u0, hTO⟩, h1, h2, h3⟩ := st
    obtain ⟨xs, ys, ws, x, y, e, hqx, hqy, hqz, hx, hy, he⟩ := hg
    obtain ⟨its, rv, p⟩ := seqE I hqx
    obtain ⟨its2, rv2, p2⟩ := seqE I hqy
    obtain ⟨its3, rv3, p3⟩ := seqE I hqz
    obtain ⟨u, hu, ru⟩ := rv.get hx
    obtain ⟨u2, hu2, ru2⟩ := rv2.get hy
    obtain ⟨u3, hu3, ru3⟩ := rv3.get he
    have hd : X.A.in1.handled = none := I.ok.hd hc
    have zl : z < s.heap.objs.size := Heap.lt_size hz
    refine wpAny_pyNext_zipD3_item S (drawsE hd (h1.apart p)) (drawsE hd (h2.apart p2)) (drawsE hd (h3.apart p3)) hz hTI hTO ⟨h1, p⟩ ⟨h2, p2⟩ ⟨h3, p3⟩ (lt_of_get hu) (lt_of_get hu2) (lt_of_get hu3) fun v1 v2 v3 g3 tk e1 e2 e3 z3 TO3 s1 s2 s3 hT hsz hk => ?_
    obtain rfl : v1 = u := by
      rw [List.getElem?_toArray, hu] at e1
      exact (Option.some.inj e1).symm
    obtain rfl : v2 = u2 := by
      rw [List.getElem?_toArray, hu2] at e2
      exact (Option.some.inj e2).symm
    obtain rfl : v3 = u3 := by
      rw [List.getElem?_toArray, hu3] at e3
      exact (Option.some.inj e3).symm
    refine ⟨_, rfl, wpAny_letOwnedTupleGo_zip (s := { s with heap := g3, toks := tk }) z3 fun h4 z4 sb => ?_⟩
    have hT4 : h4.get? s.heap.objs.size = some { cls := .type "tuple", data := .seq #[v1, v2, v3] } := (sb.2 _ (Nat.ne_of_gt zl)).trans hT
    have new : ObjOk X.prog X.w (upd H s.heap.objs.size (.tup [x, y, e])) h4 s.heap.objs.size (.tup [x, y, e]) := ⟨by show 3 ≤ sizeLine; decide, [v1, v2, v3], .cons ru (.cons ru2 (.cons ru3 .nil)), ⟨_, hT4, rfl, _, rfl⟩⟩
    have kp : ∀ c o, c ∉ [z, TI, TO, i1, i2, i3] → s.heap.get? c = some o → h4.get? c = some o := fun c o hb q => by
      simp only [List.mem_cons, List.not_mem_nil, or_false, not_or] at hb
      exact (sb.2 c hb.1).trans (hk c o hb.1 hb.2.2.1 hb.2.2.2.1 hb.2.2.2.2.1 hb.2.2.2.2.2 q)
    have J : Inv X pins σ (upd H s.heap.objs.size (.tup [x, y, e])) { s with heap := h4, toks := tk } := I.turnedNew (t' := tk) kp hf (Nat.le_refl _) new
    refine ⟨.ref s.heap.objs.size, _, J, rfl, ⟨_, x, y, e, rfl, I.hok.fresh (Nat.le_refl _), rfl, fun m hm => ?_, fun m hm => ?_, fun m hm => ?_⟩, ⟨z4, ?_, ⟨v1, v2, v3, ?_⟩, ?_, ?_, ?_⟩, fun c hcm => ?_⟩
    · rw [injE I hm hqx]
      exact hx
    · rw [injE I hm hqy]
      exact hy
    · rw [injE I hm hqz]
      exact he
    · exact (sb.2 _ S.TIz).trans (hk _ _ S.TIz S.TITO S.TIi1 S.TIi2 S.TIi3 hTI)
    · exact (sb.2 _ S.TOz).trans TO3
    · exact s1.1.at fun o q => (sb.2 _ S.zi1.symm).trans q
    · exact s2.1.at fun o q => (sb.2 _ S.zi2.symm).trans q
    · exact s3.1.at fun o q => (sb.2 _ S.zi3.symm).trans q
    · have lt : c < s.heap.objs.size := by
        obtain ⟨_, g1, _⟩ := h1.there
        obtain ⟨_, g2, _⟩ := h2.there
        obtain ⟨_, g3, _⟩ := h3.there
        have hm := hcm
        simp only [List.mem_cons, List.not_mem_nil, or_false] at hm
        rcases hm with rfl | rfl | rfl | rfl | rfl | rfl
        · exact zl
        · exact Heap.lt_size hTI
        · exact Heap.lt_size hTO
        · exact Heap.lt_size g1
        · exact Heap.lt_size g2
        · exact Heap.lt_size g3
      rw [upd_ne (Nat.ne_of_lt lt)]
      exact (hf c hcm).1
  done := by
    intro X hP hw hK hc i pins s σ H E I hf st hg
    subst hP hw hK
    obtain ⟨hz, hTI, ⟨x0, y0, u0, hTO⟩, h1, h2, h3⟩ := st
    obtain ⟨xs, ys, ws, hqx, hqy, hqz, hend⟩ := hg
    obtain ⟨its, rv, p⟩ := seqE I hqx
    obtain ⟨its2, rv2, p2⟩ := seqE I hqy
    obtain ⟨its3, rv3, p3⟩ := seqE I hqz
    have n1 : its.toArray.size = xs.length := by rw [List.size_toArray, rv.length]
    have n2 : its2.toArray.size = ys.length := by rw [List.size_toArray, rv2.length]
    have n3 : its3.toArray.size = ws.length := by rw [List.size_toArray, rv3.length]
    have hd : X.A.in1.handled = none := I.ok.hd hc
    refine wpAny_pyNext_zipD3_end S (drawsE hd (h1.apart p)) (drawsE hd (h2.apart p2)) (drawsE hd (h3.apart p3)) hz hTI hTO ⟨h1, p⟩ ⟨h2, p2⟩ ⟨h3, p3⟩ (by omega) (by omega) (by omega) (by omega) fun g3 tk hk => ⟨rfl, I.turnedL (t' := tk) (fun c o hb q => ?_) hf⟩
    simp only [List.mem_cons, List.not_mem_nil, or_false, not_or] at hb
    exact hk c o hb.1 hb.2.2.1 hb.2.2.2.1 hb.2.2.2.2.1 hb.2.2.2.2.2 q
  self := fun A i s Q E st h => wpAny_pyIter_zip st.1 h
theorem vals_three {x y z : V} {us : List Value} (h : Vals [x, y, z] us) : ∃ u v w, us = [u, v, w] ∧ RelV x u ∧ RelV y v ∧ RelV z w := by
  cases h with
  | cons h1 t =>
    cases t with
    | cons h2 t =>
      cases t with
      | cons h3 t =>
        cases t
        exact ⟨_, _, _, rfl, h1, h2, h3⟩
def iZipF (K : PySem.W.Frag) (ta : TA) : TI := fun σ H R => ta σ H fun vs H1 => ∃ l1 l2 l3 a b c xs ys zs, vs = [.ref a, .ref b, .ref c] ∧ SqE K l1 H1 a xs ∧ SqE K l2 H1 b ys ∧ SqE K l3 H1 c zs ∧ R (ItzF K l1 l2 l3 a b c) H1
theorem call_of_zipF {X : Cx} {elts : List Expr} {kk : Nat} {tpos : Pos} {pins : List (Addr × Obj)} {σ : L2.St} {H : Hp} {s : Shared} {R : It → Hp → Prop} {l1 l2 l3 : Bool} {a b c : Addr} {i1 i2 i3 : Array Value} (I : Inv X pins σ H s)
    (p1 : HpE l1 s.heap a i1) (p2 : HpE l2 s.heap b i2) (p3 : HpE l3 s.heap c i3) (q : R (ItzF X.K l1 l2 l3 a b c) H) :
    wpAny (model X.prog X.w) X.A (call (.type "zip") [.ref a, .ref b, .ref c]) (fun v s2 => wpAny (model X.prog X.w) X.A (pyIter v) (PIE X pins σ (.Tuple elts kk tpos) R) X.xe s2) X.xe s := by
  refine zip_begins3 beginsE beginsE beginsE p1 p2 p3 fun h1 hz hTI hTO g1 g2 g3 _ hk => wpAny_pyIter_zip hz ?_
  have sep : ZipSep3 (s.heap.objs.size + 5) (s.heap.objs.size + 3) (s.heap.objs.size + 4) s.heap.objs.size (s.heap.objs.size + 1) (s.heap.objs.size + 2) [s.heap.objs.size, a] [s.heap.objs.size + 1, b] [s.heap.objs.size + 2, c] :=
    zip_sep3 (fun c hc => by rw [List.mem_singleton.mp hc]; exact p1.lt) (fun c hc => by rw [List.mem_singleton.mp hc]; exact p2.lt) (fun c hc => by rw [List.mem_singleton.mp hc]; exact p3.lt)
  refine ⟨s.heap.objs.size + 5, [s.heap.objs.size + 5, s.heap.objs.size + 3, s.heap.objs.size + 4, s.heap.objs.size, s.heap.objs.size + 1, s.heap.objs.size + 2], _, _, H, rfl, I.kept (t' := s.toks) hk, turn_zipF sep, ⟨hz, hTI, ⟨_, _, _, hTO⟩, .new g1, .new g2, .new g3⟩, fun c hc => ?_, q⟩
  have le : s.heap.objs.size ≤ c := by
    simp only [List.mem_cons, List.not_mem_nil, or_false] at hc
    rcases hc with rfl | rfl | rfl | rfl | rfl | rfl
    all_goals first | exact Nat.le_refl _ | exact Nat.le_add_right _ _
  exact I.fpOk le (I.hok.fresh le)
theorem pi_zipF {X : Cx} {e e2 e3 : Expr} {ta : TA} {p pos tpos : Pos} {elts : List Expr} {kk : Nat} (hg : Gl X "zip") (hm : X.mg "zip" = none) (ha : PA X [e, e2, e3] ta)
    (hs : starEach [e, e2, e3] X.env = (false, eval e X.env) :: starEach [e2, e3] X.env := by rfl) (hpl : (backTo pos (starEach [e2, e3] X.env)).any (·.1) = false := by rfl) :
    PI X (.Tuple elts kk tpos) (.Call (.Name "zip" p) [e, e2, e3] [] pos) (iZipF X.K ta) := by
  constructor
  intro pins s σ H R I h
  refine Call_ (ld_blt I hg hm PyProof.Rows.boot_zip (PyProof.Rows.callWith_type1 (thn (ha.run pos pins s σ H _ I h) fun us s1 q0 => ?_) hs hpl))
  obtain ⟨vs, H1, I1, r1, l1, l2, l3, a, b, c, xs, ys, zs, ex, hx, hy, hz, q⟩ := q0
  subst ex
  obtain ⟨u1, u2, u3, rfl, r1, r2, r3⟩ := vals_three r1
  cases r1
  cases r2
  cases r3
  obtain ⟨i1, _, p1⟩ := seqE I1 hx
  obtain ⟨i2, _, p2⟩ := seqE I1 hy
  obtain ⟨i3, _, p3⟩ := seqE I1 hz
  exact call_of_zipF I1 p1 p2 p3 q
/-- a new triple of the i-th ones -/
def YTri (xs ys zs : Nat → Option V) : Nat → Hp → V → Hp → Prop := fun i H v H' => ∃ T x y z, v = .ref T ∧ H T = none ∧ H' = upd H T (.tup [x, y, z]) ∧ xs i = some x ∧ ys i = some y ∧ zs i = some z
theorem walk_zipF {K : PySem.W.Frag} {l1 l2 l3 : Bool} {a b c : Addr} {xs ys zs : List V} {n : Nat} (hn : n = min xs.length (min ys.length zs.length)) :
    Walk (ItzF K l1 l2 l3 a b c) n (fun H => SqE K l1 H a xs ∧ SqE K l2 H b ys ∧ SqE K l3 H c zs) (YTri (fun i => xs[i]?) (fun i => ys[i]?) (fun i => zs[i]?)) where
  goes := fun i H hi q => by
    have h1 : i < xs.length := by omega
    have h2 : i < ys.length := by omega
    have h3 : i < zs.length := by omega
    exact ⟨xs, ys, zs, xs[i], ys[i], zs[i], q.1, q.2.1, q.2.2, List.getElem?_eq_getElem h1, List.getElem?_eq_getElem h2, List.getElem?_eq_getElem h3⟩
  stops := fun H q => ⟨xs, ys, zs, q.1, q.2.1, q.2.2, hn⟩
  yields := by
    rintro i H v H' _ q ⟨T, x, y, z, h1, h2, h3, h4, h5, h6⟩
    exact ⟨T, x, y, z, h1, h2, h3, h4 xs q.1, h5 ys q.2.1, h6 zs q.2.2⟩
end Gd

set_option Elab.async false
set_option linter.all false
set_option maxRecDepth 100000
set_option maxHeartbeats 4000000
/-! dict(list of pairs) with tuples of integers and texts as keys. -/
namespace Gd
open PySem PySem.Spec PyProof.Rows L2
section
variable {X : Cx}
/-- what is stored, one behind the other -/
def stoAll (kvs : List (List Key × V)) (qs : List (List Key × Addr × V)) : List (List Key × V) := qs.foldl (fun acc q => putK acc q.1 q.2.2) kvs
theorem pairsT_of {pins : List (Addr × Obj)} {σ : L2.St} {H : Hp} {s : Shared} (I : Inv X pins σ H s) : ∀ {ps : List Addr} {qs : List (List Key × Addr × V)},
    Paired (fun p (q : List Key × Addr × V) => SqT X.K H p [.ref q.2.1, q.2.2] ∧ H q.2.1 = some (.tup (q.1.map kV))) ps qs →
    ∃ prs : List (List Key × Addr × Value), prs.length = ps.length ∧ (∀ (j : Nat) (q : List Key × Addr × Value), prs[j]? = some q → ∃ b : Addr, ps[j]? = some b ∧ IsTup s.heap b #[.ref q.2.1, q.2.2] ∧ H q.2.1 = some (.tup (q.1.map kV))) ∧
      ∀ acc xs, KT H acc xs → KT H (stoAll acc qs) (storedAllH xs prs)
  | _, _, .nil => ⟨[], rfl, fun j q e => by simp at e, fun _ _ h => h⟩
  | _, _, .cons (a := p) (b := q) h t => by
    obtain ⟨prs, hl, hp, hf⟩ := pairsT_of I t
    obtain ⟨its, rv, ht, _⟩ := I.tuple h.1
    obtain ⟨u, y, ei, ru, ry⟩ := vals2 rv
    subst ei
    cases ru
    refine ⟨(q.1, q.2.1, y) :: prs, by rw [List.length_cons, List.length_cons, hl], fun j r e => ?_, fun acc xs r => hf _ _ (KT.put r q.1 h.2 ry)⟩
    cases j with
    | zero =>
      have e' : (q.1, q.2.1, y) = r := Option.some.inj e
      subst e'
      exact ⟨p, rfl, ht, h.2⟩
    | succ j =>
      obtain ⟨b, e1, e2, e3⟩ := hp j r (by simpa using e)
      exact ⟨b, by simpa using e1, e2, e3⟩
theorem length_stoAll : ∀ (qs : List (List Key × Addr × V)) (kvs : List (List Key × V)), (stoAll kvs qs).length ≤ kvs.length + qs.length
  | [], kvs => Nat.le_refl _
  | q :: qs, kvs => by
    have h1 := length_stoAll qs (putK kvs q.1 q.2.2)
    have h2 := length_putK kvs q.1 q.2.2
    rw [List.length_cons]
    show (stoAll (putK kvs q.1 q.2.2) qs).length ≤ _
    omega
def rDictPT (K : PySem.W.Frag) : List V → Hp → VK → Prop := fun xs H Q => ∃ (a : Addr) (ps : List Addr) (qs : List (List Key × Addr × V)), xs = [.ref a] ∧ SqL K H a (ps.map V.ref) ∧
  Paired (fun p (q : List Key × Addr × V) => SqT K H p [.ref q.2.1, q.2.2] ∧ H q.2.1 = some (.tup (q.1.map kV))) ps qs ∧ ∀ p, H p = none → Q (.ref p) (upd H p (.dT (stoAll [] qs)))
theorem paired_len {α β : Type} {F : α → β → Prop} : ∀ {a : List α} {b : List β}, Paired F a b → a.length = b.length
  | _, _, .nil => rfl
  | _, _, .cons _ t => by rw [List.length_cons, List.length_cons, paired_len t]
theorem call_dictPT (hcalm : X.calm = true) (hu : X.A.units + 66 < cLine) : CallR X (.type "dict") (rDictPT X.K) := by
  intro pins s σ H xs us Q I r q
  obtain ⟨a, ps, qs, ex, hq, hp, q⟩ := q
  subst ex
  obtain ⟨u, eu, rx⟩ := vals1 r
  subst eu
  cases rx
  obtain ⟨its, rv, pl, hz⟩ := I.list hq
  have ei := refs_at rv
  subst ei
  rw [List.length_map] at hz
  obtain ⟨prs, hl, hpr, hf⟩ := pairsT_of I hp
  have hlq := paired_len hp
  refine call_dict_pairsH (knd := tupleKind (mixKind X.prog X.w)) (ps := prs) (n := prs.length) (PairArg.list a ((ps.map Value.ref).toArray) (fun j => (ps.getD j 0)) (prs.map fun q => (Value.ref q.2.1, q.2.2)) |> fun P => by rw [List.length_map] at P; exact P) (I.ok.hd hcalm) ?_ ?_ ?_ ?_ ?_ ?_
  · show X.A.units + 2 < cLine
    omega
  · refine ⟨pl, by simp [hl], fun j k v hj => ?_⟩
    rw [List.getElem?_map] at hj
    cases e : prs[j]? with
    | none => rw [e] at hj; cases hj
    | some q' =>
      rw [e] at hj
      obtain ⟨b, e1, e2, e3⟩ := hpr j q' e
      cases hj
      refine ⟨?_, ?_⟩
      · simp [e1]
      · have eb : ps.getD j 0 = b := by rw [List.getD_eq_getElem?_getD, e1]; rfl
        show PairAt s.heap (ps.getD j 0) _ _
        rw [eb]
        exact .inl e2
  · refine ⟨rfl, fun i key v hr => ?_⟩
    have hr' : (prs.map fun q => (Value.ref q.2.1, q.2.2))[i]? = some (key, v) := hr
    rw [List.getElem?_map] at hr'
    cases e : prs[i]? with
    | none => rw [e] at hr'; cases hr'
    | some q' =>
      rw [e] at hr'
      cases hr'
      exact ⟨q'.1, q'.2.1, rfl, rfl⟩
  · intro h' hk x hx
    obtain ⟨j, hj, e⟩ := List.getElem_of_mem hx
    obtain ⟨b, e1, e2, e3⟩ := hpr j x (by rw [List.getElem?_eq_getElem hj, e])
    obtain ⟨o, items, n, h1, h2, h3, h4⟩ := key_of I.hok e3
    exact ⟨o, items, n, hk _ _ (Nat.ne_of_lt (Heap.lt_size h1)) (fun z => by cases z) h1, h2, h3, h4⟩
  · rw [hl]
    exact hz
  · intro h' tk hd' hk
    have hm : (s.heap.objs.size == sysModules) = false := beq_eq_false_iff_ne.mpr (Nat.ne_of_gt I.big)
    have hlen : (stoAll [] qs).length ≤ sizeLine := by
      refine Nat.le_trans (length_stoAll qs []) ?_
      rw [List.length_nil, Nat.zero_add, ← hlq]
      exact hz
    obtain ⟨o, es, ep, h1, h2, h3, h4, _, h5⟩ := hd'
    have fresh : H s.heap.objs.size = none := I.hok.fresh (Nat.le_refl _)
    have kt : KT H (stoAll [] qs) (storedAllH [] prs) := hf [] [] .nil
    exact ⟨.ref s.heap.objs.size, upd H s.heap.objs.size (.dT (stoAll [] qs)), I.laid (t' := tk) (fun b o e => hk b o (fun z => by cases z) e) (Nat.le_refl _)
      (show ObjOk X.prog X.w _ _ _ (.dT (stoAll [] qs)) from ⟨hlen, hm, _, kt.keeps (fun b ys e => by rw [upd_ne (ne_of_none e fresh)]; exact e), o, es, ep, h1, h2, h3, h4, h5⟩), rfl, q _ fresh⟩
end
end Gd

set_option Elab.async false
set_option linter.all false
set_option maxRecDepth 100000
set_option maxHeartbeats 4000000
/-! An object of an own class walked, whose __iter__ hands on a tuple's iterator. -/
namespace Gd
open PySem PySem.Spec PyProof.Rows L2
section
variable {P : Program} {w : World} {H : Hp} {h : Heap} {it t : Addr} {n : Nat}
theorem forget_ok (hn : H it = none) : ∀ (o : HO) (a : Addr), ObjOk P w (upd H it (TitO t it n)) h a o → ObjOk P w H h a o
  | .lst _, _, x => x
  | .tup _, _, x => x
  | .dK _, _, x => x
  | .dT kvs, a, x => by
    obtain ⟨h1, h2, xs, p, r⟩ := x
    refine ⟨h1, h2, xs, L2.Paired.mapP p (fun a b q => ⟨q.1, ?_, q.2.2⟩), r⟩
    by_cases e : b.2.1 = it
    · have := q.2.1
      rw [e, upd_same] at this
      cases this
    · have := q.2.1
      rw [upd_ne e] at this
      exact this
  | .set _ _, _, x => x
  | .ins C dx fs, a, x => by
    obtain ⟨h1, r⟩ := x
    refine ⟨?_, r⟩
    by_cases e : dx = it
    · rw [e, upd_same] at h1
      cases h1
    · rw [upd_ne e] at h1
      exact h1
  | .own _, _, x => x
  | .xd _, _, x => x
  | .rng _ _, _, x => x
  | .frz o u, a, x => ⟨x.1, forget_ok hn u a x.2⟩
  | .tbl _, _, x => x
  | .met _ _, _, x => x
  | .ext _, _, x => x
end
section
variable {X : Cx} {pins : List (Addr × Obj)} {σ : L2.St} {H : Hp} {s : Shared} {it t : Addr} {n : Nat}
theorem forget (hn : H it = none) (I : Inv X pins σ (upd H it (TitO t it n)) s) : Inv X pins σ H s := by
  have ne : ∀ {b : Addr} {o : HO}, H b = some o → b ≠ it := fun q => ne_of_none q hn
  have no : ∀ {b : Addr}, upd H it (TitO t it n) b = none → H b = none := fun {b} q => by
    by_cases e : b = it
    · rw [e]
      exact hn
    · rw [upd_ne e] at q
      exact q
  refine ⟨I.ok, I.os, I.bare, ?_, I.loc, I.cell, no I.free, fun x c e => no (I.freeC x c e), fun p hp => ?_, fun a o e => ?_, I.len⟩
  · refine ⟨I.base.keep, I.base.slot, fun b o q1 q2 q3 => no (I.base.free b o q1 q2 q3), I.base.there, fun b xs q => ?_, fun b o u q => ?_, fun b ps q => ?_⟩
    · have := I.base.tups b xs q
      by_cases e : b = it
      · rw [e, upd_same] at this
        cases this
      · rw [upd_ne e] at this
        exact this
    · have := I.base.frzs b o u q
      by_cases e : b = it
      · rw [e, upd_same] at this
        cases this
      · rw [upd_ne e] at this
        exact this
    · obtain ⟨more, this⟩ := I.base.tbls b ps q
      refine ⟨more, ?_⟩
      by_cases e : b = it
      · rw [e, upd_same] at this
        cases this
      · rw [upd_ne e] at this
        exact this
  · obtain ⟨h1, h2, r⟩ := I.pin p hp
    exact ⟨h1, no h2, r⟩
  · refine forget_ok hn o a (I.hok a o ?_)
    rw [upd_ne (ne e)]
    exact e
/-- iter(t), t a tuple: the iterator is younger than all that is known -/
def rIterN (K : PySem.W.Frag) : List V → Hp → VK → Prop := fun xs H Q => ∃ (t : Addr) (ys : List V), xs = [.ref t] ∧ SqT K H t ys ∧ ∀ it, H it = none → (∀ a o, H a = some o → a < it) → Q (.ref it) (upd H it (TitO t it 0))
theorem call_iterN : CallR X (.builtin "iter") (rIterN X.K) := by
  intro pins s σ H xs us Q I r h
  obtain ⟨t, ys, rfl, hq, q⟩ := h
  obtain rfl := Vals.ref1 r
  obtain ⟨its, rv, pl, hz⟩ := I.tuple hq
  refine Calls.call_function_entry (by decide +kernel) (by decide +kernel) PySem.W.kdk_entry_iter (PySem.W.kdk_args_iter _) ?_
  unfold Builtin.«iter»
  refine wpAny_bind (m := someArgs "iter" 1 2 _) (wpAny_of_eq (a := [Value.ref t]) (by first | rfl | kernel_rfl!) ?_)
  show wpAny _ _ (pyIter (.ref t) >>= _) _ _ _
  refine wpAny_bind (wpAny_pyIter_tuple (isTuple_of pl) ?_)
  refine wpAny_pure ⟨_, rfl, ?_⟩
  have nw : H s.heap.objs.size = none := I.hok.fresh (Nat.le_refl _)
  refine ⟨.ref s.heap.objs.size, _, I.laid (t' := s.toks) (fun b u e => Heap.get?_push_of_some _ e) (Nat.le_refl _) (tit_ok ⟨_, Heap.get?_push_size _ rfl, rfl, rfl⟩), rfl, q _ nw fun a o e => (I.hok a o e).lt⟩
/-- a list that is younger than the def's entry -/
def tLstN (N : Nat) (t : TA) : TE := fun σ H Q => t σ H fun xs H1 => xs.length ≤ sizeLine ∧ ∀ p, H1 p = none → N ≤ p → Q (.ref p) (upd H1 p (.lst xs))
theorem pe_lstN {es : List Expr} {t : TA} {pos : Pos} (h : PA X es t) : PE X (.List es pos) (tLstN X.s_0.heap.objs.size t) := by
  refine ⟨fun pins s σ H Q I hq => ?_⟩
  refine wpAny_List_spliced (thn (h.run pos pins s σ H _ I hq) fun us s1 ⟨xs, H1, I1, r, z, q⟩ => ⟨by rw [← r.length]; exact z, ?_⟩)
  have hf : H1 s1.heap.objs.size = none := I1.hok.fresh (Nat.le_refl _)
  refine ⟨.ref s1.heap.objs.size, upd H1 s1.heap.objs.size (.lst xs), I1.laid (t' := s1.toks) (fun b u e => Heap.get?_push_of_some _ e) (Nat.le_refl _) ?_, rfl, q _ hf I1.sz⟩
  exact ⟨z, us, 0, r, Heap.get?_push_size _ rfl⟩
/-- what __iter__ promises -/
def spItN (K : PySem.W.Frag) (R : Addr → Addr → List V → Hp → Prop) : Sp := fun vs H Q _ => ∃ a t ys, vs = [.ref a] ∧ R a t ys H ∧ SqT K H t ys ∧ ∀ it, H it = none → (∀ a o, H a = some o → a < it) → Q (.ref it) (upd H it (TitO t it 0))
/-- an object walked, while something younger than the def's entry is known -/
def iOwn (K : PySem.W.Frag) (C : Addr) (N : Nat) (R : Addr → Addr → List V → Hp → Prop) (te : TE) : TI := fun σ H R' => te σ H fun x H1 => ∃ a dx fs t ys z oz, x = .ref a ∧ H1 a = some (.ins C dx fs) ∧ R a t ys H1 ∧ SqT K H1 t ys ∧ H1 z = some oz ∧ N ≤ z ∧ R' (Itt K t) H1
theorem pi_own {C fi : Addr} {k : Nat} {fdI : FuncData} {psI : List Str} {R : Addr → Addr → List V → Hp → Prop} {tg e : Expr} {te : TE} (M : Meth X.K C "__iter__" fi)
    (FI : FnOk X.prog X.w X.K X.mg X.base CX0 k fi fdI psI (spItN X.K R)) (bI : Binds X.K fdI psI []) (hr : Room k X.A) (he : PE X e te) : PI X tg e (iOwn X.K C X.s_0.heap.objs.size R te) := by
  refine ⟨fun pins s σ H R' I h => ?_⟩
  refine thn (he.run pins s σ H _ I h) fun v s1 ⟨x, H1, I1, r1, a, dx, fs, t, ys, z, oz, ex, ha, hR, ht, hz, hN, q⟩ => ?_
  subst ex
  cases r1
  obtain ⟨od, J⟩ := seen I1 ha
  obtain ⟨m0, hF⟩ := I1.fr
  refine PySem.W.owit_iter hF I1.ok.mod.kin J M.at_ M.fn ?_
  have hsp : spItN X.K R [.ref a] H1 (fun v H' => ∃ it, v = .ref it ∧ H1 it = none ∧ (∀ b o, H1 b = some o → b < it) ∧ H' = upd H1 it (TitO t it 0)) (fun _ _ _ => False) := ⟨a, t, ys, rfl, hR, ht, fun it n l => ⟨it, rfl, n, l, rfl⟩⟩
  have hl := FI.len _ _ _ _ hsp
  have r2 : Vals [V.ref a] [Value.ref a] := .cons rfl .nil
  refine wpAny_call (codeAny_mono (FI.run X.A X.stack _ H1 ⟨[.ref a], []⟩ [.ref a] [.ref a] _ (fun _ _ _ => False) hr I1.env0 (by
    have := bI _ [.ref a] I1.kIn (by simpa using hl)
    simpa using this) r2 hsp) ?_)
  intro r s' hq'
  match r, hq' with
  | .error e, hq' => exact hq'.elim
  | .ok .next, hq' => exact False.elim hq'
  | .ok .brk, hq' => exact False.elim hq'
  | .ok .cont, hq' => exact False.elim hq'
  | .ok (.ret u), hq' =>
    obtain ⟨v, H3, I3, rv3, it, rfl, itn, low, rfl⟩ := I1.after hq'
    cases rv3
    have hit : upd H1 it (TitO t it 0) it = some (TitO t it 0) := upd_same
    have T : s'.heap.IsTupleIter it t 0 := (I3.hok it _ hit).1
    show PySem.W.OwitIt _ _ _ _ _ _
    unfold PySem.W.OwitIt
    refine wpAny_specialOf (Heap.IsTupleIter.typeIs T) PySem.F.slot_tuple_iterator_next.lookup ?_
    show PIE X pins σ tg R' (.ref it) s'
    have Hz := low z oz hz
    refine ⟨it, [it], _, _, H1, rfl, forget itn I3, turn_tuple t it, T, fun b hb => ?_, q⟩
    have e : b = it := by simpa using hb
    subst e
    refine ⟨itn, fun e2 => ?_, fun hb2 => ?_, .inr (Nat.le_of_lt (Nat.lt_of_le_of_lt hN Hz)), fun x c e2 e3 => ?_, fun p hp e2 => ?_⟩
    · have := I3.free
      rw [← e2, hit] at this
      cases this
    · obtain ⟨_, o, ho, _⟩ := I1.ok.funs.mem hb2
      exact absurd (Nat.lt_of_lt_of_le (Heap.lt_size ho) (Nat.le_trans hN (Nat.le_of_lt Hz))) (Nat.lt_irrefl _)
    · have := I3.freeC x c e2
      rw [e3, hit] at this
      cases this
    · have := (I3.pin p hp).2.1
      rw [e2, hit] at this
      cases this
end
end Gd

set_option Elab.async false
set_option linter.all false
set_option maxRecDepth 100000
set_option maxHeartbeats 4000000
/-! t[::-1], t a tuple. -/
namespace HN5
open PySem PySem.Spec PyProof.Rows PySem.SeqAt
section
variable {prog : Program} {w : World} {A : Around} {E : Value → Shared → Prop} {s : Shared}
theorem slice_rev {sl : Addr} {vl vu vs : Value} {n : Nat} {Q : Int × Int × Nat → Shared → Prop} (hs : s.heap.IsSliceOf sl vl vu vs) (pl : IsPart vl none) (pu : IsPart vu none) (ps : IsPart vs (some (-1)))
    (h : Q ((n : Int) - 1, -1, n) s) : wpAny (model prog w) A (Builtin.Slice.sliceApplied (.ref sl) (pure (n : Int))) Q E s := by
  obtain ⟨os, hos, hcs, hds⟩ := id hs
  cases pl
  cases pu
  cases ps with
  | int i t =>
  unfold Builtin.Slice.sliceApplied Builtin.Slice.sliceFields
  refine wpAny_bind (wpAny_bind (wpAny_field hos hds (x := .none) rfl (wpAny_bind (wpAny_field hos hds (x := .none) rfl (wpAny_bind (wpAny_field hos hds (x := .int (-1) t) rfl (wpAny_pure ?_)))))))
  refine wpAny_bind (HT.slicePart_ (.int (-1) t) ?_)
  show wpAny _ _ (if (((-1) : Int) == 0) = true then _ else _) _ _ s
  rw [if_neg (by decide)]
  refine wpAny_bind (HT.slicePart_ .none (wpAny_bind (HT.slicePart_ .none (wpAny_bind (wpAny_pure ?_)))))
  show wpAny _ _ (pure ((n : Int) - 1, (-1 : Int), Builtin.Slice.slicePlaces ((n : Int) - 1) (-1) (-1))) _ _ s
  have e : Builtin.Slice.slicePlaces ((n : Int) - 1) (-1) (-1) = n := by
    unfold Builtin.Slice.slicePlaces
    rw [if_neg (by decide)]
    by_cases z : n = 0
    · subst z
      rfl
    · rw [if_pos (by omega)]
      simp
  rw [e]
  exact wpAny_pure h
theorem pick_rev (items : Array Value) : ((List.range items.size).filterMap fun (m : Nat) => items[((items.size : Int) - 1 + (m : Int) * (-1)).toNat]?).toArray = items.toList.reverse.toArray := by
  congr 1
  have e : ∀ m, m < items.size → items[((items.size : Int) - 1 + (m : Int) * (-1)).toNat]? = items.toList.reverse[m]? := fun m hm => by
    rw [List.getElem?_reverse (by rw [Array.length_toList]; exact hm), Array.length_toList, Array.getElem?_toList]
    congr 1
    omega
  have f : ∀ l : List Nat, (∀ m ∈ l, m < items.size) → l.filterMap (fun (m : Nat) => items[((items.size : Int) - 1 + (m : Int) * (-1)).toNat]?) = l.filterMap (fun m => items.toList.reverse[m]?) := by
    intro l hl
    induction l with
    | nil => rfl
    | cons a r ih => rw [List.filterMap_cons, List.filterMap_cons, e a (hl a List.mem_cons_self), ih fun m hm => hl m (List.mem_cons_of_mem _ hm)]
  rw [f _ fun m hm => List.mem_range.mp hm]
  have g : ∀ (xs : List Value), (List.range xs.length).filterMap (fun m => xs[m]?) = xs := by
    intro xs
    induction xs with
    | nil => rfl
    | cons a r ih =>
      rw [List.length_cons, List.range_succ_eq_map, List.filterMap_cons, List.filterMap_map]
      show a :: List.filterMap (fun m => r[m]?) (List.range r.length) = a :: r
      rw [ih]
  have := g items.toList.reverse
  rw [List.length_reverse, Array.length_toList] at this
  exact this
theorem rev_tup {t sl : Addr} {items : Array Value} {vl vu vs : Value} {Q : Value → Shared → Prop} (ht : IsTup s.heap t items) (hs : s.heap.IsSliceOf sl vl vu vs) (pl : IsPart vl none) (pu : IsPart vu none) (ps : IsPart vs (some (-1)))
    (h : Q (.ref s.heap.objs.size) { s with heap := s.heap.push { cls := .type "tuple", data := .seq items.toList.reverse.toArray } }) (hsz : items.size ≤ sizeLine) : wpAny (model prog w) A (getItem (.ref t) (.ref sl)) Q E s := by
  have small : sizeOk (.seq items.toList.reverse.toArray) := by
    show items.toList.reverse.toArray.size ≤ sizeLine
    rw [List.size_toArray, List.length_reverse, Array.length_toList]
    exact hsz
  obtain ⟨os, hos, hcs, hds⟩ := id hs
  have isl : s.TypeIs (.ref sl) "slice" := ⟨os, hos, hcs⟩
  unfold getItem
  try with_reducible refine wpAny_holding ?_
  first | refine wpAny_bind (wpAny_pure ?_) | skip
  refine wpAny_bind (wpAny_sequenceKey ht.typeIs (by decide) (wpAny_bind (wpAny_callSpecial?_slot (name := Str.ofString "__getitem__") ht.typeIs PyProof.Rows.slot_tuple_getitem (wpAny_call_entry PyProof.Rows.slot_tuple_getitem ht.typeIs entry_tuple_getitem ?_ (args_tuple_getitem _ _)))))
  show wpAny _ _ (Builtin.Tuple.tupleItemsOf (.ref t) >>= _) _ _ s
  refine wpAny_bind (PyProof.Rows.tupleItemsOf_ ht (wpAny_bind (wpAny_typeOf isl ?_)))
  rw [if_pos (by decide)]
  refine wpAny_bind (slice_rev hs pl pu ps ?_)
  show wpAny _ _ (if ((((items.size : Int) - 1) == 0 && (-1 : Int) == 1 && items.size == items.size)) = true then _ else _) _ _ s
  rw [if_neg (by simp), pick_rev]
  first
    | exact wpAny_bind (m := Builtin.Tuple.tupleExact _) (wpAny_newObj_type (wpAny_pure ⟨_, rfl, wpAny_pure h⟩) small)
    | exact wpAny_bind (wpAny_bind (m := Builtin.Tuple.tupleExact _) (wpAny_newObj_type (wpAny_pure (wpAny_pure ⟨_, rfl, wpAny_pure h⟩)) small))
    | exact wpAny_bind (m := Builtin.Tuple.tupleExact _) (wpAny_newObj_type (wpAny_bind (wpAny_pure (wpAny_pure ⟨_, rfl, wpAny_pure h⟩))) small)
    | exact wpAny_bind (wpAny_bind (m := Builtin.Tuple.tupleExact _) (wpAny_newObj_type (wpAny_pure ⟨_, rfl, wpAny_pure h⟩) small))
end
end HN5
namespace Gd
open PySem PySem.Spec PyProof.Rows L2
section
variable {X : Cx}
def tRevT (K : PySem.W.Frag) (te : TE) : TE := fun σ H Q => te σ H fun x H1 => ∃ a xs, x = .ref a ∧ SqT K H1 a xs ∧ ∀ p, H1 p = none → Q (.ref p) (upd H1 p (.tup xs.reverse))
theorem pe_revT {e : Expr} {te : TE} {k : Nat} {p1 p2 p3 pos : Pos} (he : PE X e te) : PE X (.Subscript e (.Slice none none (some (.UnaryOp .USub (.Constant (.int 1) k p1) p2)) p3) pos) (tRevT X.K te) := by
  constructor
  intro pins s σ H Q I h
  refine Subscript_ (thn (he.run pins s σ H _ I h) fun v s1 ⟨x, H1, I1, r1, a, xs, ex, hx, q⟩ => ?_)
  subst ex
  cases r1
  have step : PO X (some (.UnaryOp .USub (.Constant (.int 1) k p1) p2)) (tPart (tUn (rU fun i => .int (-i)) (tC (.int 1)))) := po_some (pe_un un_neg pe_int)
  refine wpAny_Slice (thn (po_none.run pins s1 σ H1 (fun o G => o = none ∧ G = H1) I1 ⟨rfl, rfl⟩) fun vl s2 ⟨l, G, I2, pl, el, eG⟩ => ?_)
  subst el eG
  refine thn (po_none.run pins s2 σ G (fun o G2 => o = none ∧ G2 = G) I2 ⟨rfl, rfl⟩) fun vu s3 ⟨u, G2, I3, pu, eu, eG2⟩ => ?_
  subst eu eG2
  refine thn (step.run pins s3 σ G2 (fun o G3 => o = some (-1) ∧ G3 = G2) I3 ⟨1, rfl, -1, rfl, rfl, rfl⟩) fun vs s4 ⟨o, G3, I4, ps, eo, eG3⟩ => ?_
  subst eo eG3
  let sh : Shared := { s4 with heap := s4.heap.push { cls := .type "slice", data := .fields #[vl, vu, vs] } }
  have J : Inv X pins σ G3 sh := I4.kept (t' := s4.toks) fun b ob z => Heap.get?_push_of_some _ z
  obtain ⟨its, r, ht, hz⟩ := J.tuple hx
  have hlen := r.length
  show wpAny (model X.prog X.w) X.A (subscriptTail e (.Slice none none (some (.UnaryOp .USub (.Constant (.int 1) k p1) p2)) p3) (.ref a) (.ref s4.heap.objs.size)) (EP X pins σ Q) X.xe sh
  refine tail_any (ops := [.ref a, .ref s4.heap.objs.size]) ht.typeIs (PyProof.Rows.slot_tuple_getitem.lookup) ?_ (by with_unfolding_all rfl)
  refine HN5.rev_tup ht (Heap.IsSliceOf.new _ vl vu vs) pl pu ps ?_ (by rw [List.size_toArray]; omega)
  refine ⟨.ref _, _, J.laid (t' := s4.toks) (o := .tup xs.reverse) (fun b ob z => Heap.get?_push_of_some _ z) (Nat.le_refl _) ?_, rfl, q _ (J.hok.fresh (Nat.le_refl _))⟩
  exact ⟨by rw [List.length_reverse]; exact hz, _, r.reverse, ⟨_, Heap.get?_push_size _ rfl, rfl, _, rfl⟩⟩
end
end Gd

set_option Elab.async false
set_option linter.all false
set_option maxRecDepth 100000
set_option maxHeartbeats 4000000
/-! str(o) and {o} in an f-string by an own __str__. -/
namespace Gd
open PySem PySem.Spec PyProof.Rows L2
section
variable {X : Cx} {CX : CXT} {C f : Addr} {fd : FuncData} {k : Nat} {ps : List Str} {sp : Sp}
theorem strBack_of {pins : List (Addr × Obj)} {σ : L2.St} {Q : VK} {w : Value} {s' : Shared} (h : EP X pins σ (fun v H' => ∃ y : Str, v = .str y ∧ Q (.str y) H') w s') : PySem.W.StrBack (EP X pins σ Q) w s' := by
  obtain ⟨z, H', I', rz, y, rfl, q⟩ := h
  obtain ⟨t, rfl⟩ := rz
  exact ⟨.str y, H', I', ⟨t, rfl⟩, q⟩
/-- the callee runs, from two builtins that the body calls -/
theorem runAt2 {E : XK} {A : Around} (hA : A = X.A.in1 ∨ A = X.A.in1.in1) {pins : List (Addr × Obj)} {σ : L2.St} {H : Hp} {s : Shared} {Q : VK} {us : List Value} {vs : List V}
    (F : FnOk X.prog X.w X.K X.mg X.base CX k f fd ps sp) (hr : Room (k + 2) X.A) (hb : Binds X.K fd ps [])
    (hx : PassesAt CX X σ E) (I : Inv X pins σ H s) (r : Vals vs us) (h : sp vs H Q E) :
    wpAny (model X.prog X.w) A (call (.ref f) us) (EP X pins σ Q) X.xe s := by
  have hl : us.length = ps.length := by
    rw [← r.length]
    exact F.len _ H Q E h
  have room : Room k A := by
    rcases hA with rfl | rfl
    · exact (hr.mono (Nat.le_succ _)).in1
    · exact hr.in1.in1
  have env : Env0 X.prog X.w X.K X.mg X.base A X.stack s H := by
    rcases hA with rfl | rfl
    · exact I.env0.in1
    · exact I.env0.in1.in1
  have hbs := hb s us I.kIn (by rw [List.append_nil]; exact hl)
  rw [List.append_nil] at hbs
  refine wpAny_call (codeAny_mono (F.run A X.stack s H ⟨us, []⟩ us _ Q E room env hbs r h) ?_)
  intro r s' hq
  match r, hq with
  | .error e, hq => exact hx pins H s e s' I hq
  | .ok (.ret u), hq => exact I.after hq
  | .ok .next, hq => exact False.elim hq
  | .ok .brk, hq => exact False.elim hq
  | .ok .cont, hq => exact False.elim hq
def rStrO (C : Addr) (sp : Sp) (E : XK) : List V → Hp → VK → Prop := fun xs H Q => ∃ p dx fs, xs = [.ref p] ∧ H p = some (.ins C dx fs) ∧ sp [.ref p] H (fun v H' => ∃ y : Str, v = .str y ∧ Q (.str y) H') E
theorem call_strO {E : XK} (hm : Meth X.K C "__str__" f) (F : FnOk X.prog X.w X.K X.mg X.base CX k f fd ps sp) (hr : Room (k + 2) X.A) (hb : Binds X.K fd ps []) (hx : ∀ σ, PassesAt CX X σ E) : CallR X (.type "str") (rStrO C sp E) := by
  intro pins s σ H xs us Q I r h
  obtain ⟨p, dx, fs, rfl, ep, hsp⟩ := h
  obtain ⟨u, rfl, hu1⟩ := vals1 r
  cases hu1
  obtain ⟨od, J⟩ := seen I ep
  refine PySem.W.kso_call (by have := hr.un; show X.A.units + 2 < cLine; omega) I.kIn J hm.at_ hm.fn ?_
  exact wpAny_mono (runAt2 (.inr rfl) F hr hb (hx σ) I (.cons (show RelV (V.ref p) (Value.ref p) from rfl) .nil) hsp) (fun _ _ z => strBack_of z) (fun _ _ z => z)
/-- {o} -/
def tFmtO (C : Addr) (sp : Sp) (E : XK) (te : TE) : TE := fun σ H Q => te σ H fun x H1 => ∃ p dx fs, x = .ref p ∧ H1 p = some (.ins C dx fs) ∧ sp [.ref p] H1 (fun v H' => ∃ y : Str, v = .str y ∧ Q (.str y) H') E
theorem pe_fmtO {E : XK} {e : Expr} {te : TE} {pos : Pos} (hm : Meth X.K C "__str__" f) (hfm : PySem.W.findIn X.K (.ref C) "__format__" = some (some (.builtin "object.__format__"))) (hmr : PySem.W.mroIn X.K C (.type "object") = some true)
    (F : FnOk X.prog X.w X.K X.mg X.base CX k f fd ps sp) (hr : Room (k + 2) X.A) (hb : Binds X.K fd ps []) (hx : ∀ σ, PassesAt CX X σ E) (he : PE X e te) : PE X (.FormattedValue e (-1) none pos) (tFmtO C sp E te) := by
  refine ⟨fun pins s σ H Q I h => ?_⟩
  refine wpAny_FormattedValue_plain (thn (he.run pins s σ H _ I h) fun v s1 hv => ?_)
  obtain ⟨x, H1, I1, r1, p, dx, fs, rfl, ep, hsp⟩ := hv
  cases r1
  obtain ⟨od, J⟩ := seen I1 ep
  have I2 : Inv X pins σ H1 { s1 with toks := s1.toks + 1 } := I1.tok _
  refine PySem.W.kfo_fieldS (by have := hr.un; show X.A.units + 1 < cLine; omega) I1.kIn J hfm hmr hm.at_ hm.fn ?_
  exact wpAny_mono (runAt2 (.inl rfl) F hr hb (hx σ) I2 (.cons (show RelV (V.ref p) (Value.ref p) from rfl) .nil) hsp) (fun _ _ z => strBack_of z) (fun _ _ z => z)
end
end Gd

set_option Elab.async false
set_option linter.all false
set_option maxRecDepth 100000
set_option maxHeartbeats 4000000
/-! xs[::-1] of a list; xs == [] ; the greatest of a tuple. -/
namespace Gd
open PySem PySem.Spec PyProof.Rows L2
section
variable {X : Cx}
def tRevL (K : PySem.W.Frag) (te : TE) : TE := fun σ H Q => te σ H fun x H1 => ∃ a xs, x = .ref a ∧ SqL K H1 a xs ∧ ∀ p, H1 p = none → Q (.ref p) (upd H1 p (.lst xs.reverse))
theorem pe_revL {e : Expr} {te : TE} {k : Nat} {p1 p2 p3 pos : Pos} (he : PE X e te) : PE X (.Subscript e (.Slice none none (some (.UnaryOp .USub (.Constant (.int 1) k p1) p2)) p3) pos) (tRevL X.K te) := by
  constructor
  intro pins s σ H Q I h
  refine Subscript_ (thn (he.run pins s σ H _ I h) fun v s1 ⟨x, H1, I1, r1, a, xs, ex, hx, q⟩ => ?_)
  subst ex
  cases r1
  have step : PO X (some (.UnaryOp .USub (.Constant (.int 1) k p1) p2)) (tPart (tUn (rU fun i => .int (-i)) (tC (.int 1)))) := po_some (pe_un un_neg pe_int)
  refine wpAny_Slice (thn (po_none.run pins s1 σ H1 (fun o G => o = none ∧ G = H1) I1 ⟨rfl, rfl⟩) fun vl s2 ⟨l, G, I2, pl, el, eG⟩ => ?_)
  subst el eG
  refine thn (po_none.run pins s2 σ G (fun o G2 => o = none ∧ G2 = G) I2 ⟨rfl, rfl⟩) fun vu s3 ⟨u, G2, I3, pu, eu, eG2⟩ => ?_
  subst eu eG2
  refine thn (step.run pins s3 σ G2 (fun o G3 => o = some (-1) ∧ G3 = G2) I3 ⟨1, rfl, -1, rfl, rfl, rfl⟩) fun vs s4 ⟨o, G3, I4, ps, eo, eG3⟩ => ?_
  subst eo eG3
  let sh : Shared := { s4 with heap := s4.heap.push { cls := .type "slice", data := .fields #[vl, vu, vs] } }
  have J : Inv X pins σ G3 sh := I4.kept (t' := s4.toks) fun b ob z => Heap.get?_push_of_some _ z
  obtain ⟨its, r, ht, hz⟩ := J.list hx
  have hlen := r.length
  show wpAny (model X.prog X.w) X.A (subscriptTail e (.Slice none none (some (.UnaryOp .USub (.Constant (.int 1) k p1) p2)) p3) (.ref a) (.ref s4.heap.objs.size)) (EP X pins σ Q) X.xe sh
  refine tail_any (ops := [.ref a, .ref s4.heap.objs.size]) ht.isList.typeIs (PySem.F.slot_list_getitem.lookup) ?_ (by with_unfolding_all rfl)
  refine wpAny_getItem_list_slice ht.isList (Heap.IsSliceOf.new _ vl vu vs) pl pu ps (by decide) ?_ (by rw [List.size_toArray]; omega)
  rw [PySem.W.krv_pick]
  refine ⟨.ref _, _, J.laid (t' := s4.toks) (o := .lst xs.reverse) (fun b ob z => Heap.get?_push_of_some _ z) (Nat.le_refl _) ?_, rfl, q _ (J.hok.fresh (Nat.le_refl _))⟩
  exact ⟨by rw [List.length_reverse]; exact hz, _, 0, r.reverse, Heap.get?_push_size _ rfl⟩
/-- xs == [] -/
def rEqNil (K : PySem.W.Frag) : R2 := fun x y H Q => ∃ (a b : Addr) (xs : List V), x = .ref a ∧ y = .ref b ∧ SqL K H a xs ∧ SqL K H b [] ∧ Q (.bl xs.isEmpty) H
theorem op_eqNil (hu : X.A.units < cLine) : OpR X (compareOp .Eq) (rEqNil X.K) := by
  intro pins s σ H x y v u Q I rx ry h
  obtain ⟨a, b, xs, rfl, rfl, ha, hb, q⟩ := h
  cases rx
  cases ry
  obtain ⟨its, r1, p1, _⟩ := I.list ha
  obtain ⟨its2, r2, p2, _⟩ := I.list hb
  cases r2
  cases r1 with
  | nil => exact PySem.SeqAt.RcAt.lists (e := fun _ => true) p1.isList p2.isList rfl hu (fun j h1 _ => absurd h1 (Nat.not_lt_zero _)) _ _ _ _ ⟨.bl true, H, I, rfl, q⟩
  | cons r t => exact PySem.SeqAt.RcAt.lists_lengths p1.isList p2.isList rfl hu _ _ _ _ ⟨.bl false, H, I, rfl, q⟩
end
section
variable {prog : Program} {w : World} {A : Around} {E : Value → Shared → Prop} {s : Shared} {l : Addr} {xs : Array (Int × Tok)}
theorem max_tup {Q : Value → Shared → Prop} (hh : A.handled = none) (hl : s.heap.IsTuple l (intItems xs)) (hne : 0 < xs.size)
    (h : ∀ v h' tk, (intItems xs)[argBest (fun i j => decide (numAt xs i > numAt xs j)) (xs.size - 1)]? = some v → (∀ b o, s.heap.get? b = some o → h'.get? b = some o) → Q v { s with heap := h', toks := tk }) :
    wpAny (model prog w) A (call (.builtin "max") [.ref l]) Q E s := by
  have hlt : l < s.heap.objs.size := by obtain ⟨_, e, _⟩ := hl; exact Heap.lt_size e
  refine call_max_walk (wpAny_pyIter_tuple hl ?_)
  refine ⟨_, _, _, _, _, _, _, rfl, Walks.tuple (A := A.in1) hh _ l (Nat.ne_of_lt hlt) (intItems xs), ⟨⟨_, Heap.get?_push_size _ rfl, rfl, rfl⟩, hl.push _⟩, fun b hb => ?_, by simpa [intItems] using hne, CmpOf.ints_gt (numAt xs) (fun _ _ => intItems_at), fun v h' tk hP hk => ?_⟩
  · show b < (s.heap.push _).objs.size
    rw [Heap.size_push]
    rcases List.mem_cons.mp hb with rfl | hb
    · exact Nat.lt_succ_self _
    · rcases List.mem_cons.mp hb with rfl | hb
      · exact Nat.lt_succ_of_lt hlt
      · cases hb
  · refine h v h' tk (by simpa [intItems] using hP) fun b o e => hk b o (fun hm => ?_) (Heap.get?_push_of_some _ e)
    rcases List.mem_cons.mp hm with e1 | hm
    · exact absurd (e1 ▸ Heap.lt_size e) (Nat.lt_irrefl _)
    · cases hm
theorem max_tup_raw {its : List Value} {ns : List Int} {Q : Value → Shared → Prop} (hh : A.handled = none) (hl : s.heap.IsTuple l its.toArray) (hi : IntsAre its ns) (hne : 0 < ns.length)
    (h : ∀ h' tk M t', (∀ b o, s.heap.get? b = some o → h'.get? b = some o) → M ∈ ns → (∀ a, a ∈ ns → a ≤ M) → Q (.int M t') { s with heap := h', toks := tk }) : wpAny (model prog w) A (call (.builtin "max") [.ref l]) Q E s := by
  obtain ⟨xs, e⟩ := hi.allInts.items
  have hn : numsOf (intItems xs).toList = ns := by rw [← e]; exact hi.numsOf
  rw [nums_intItems] at hn
  subst hn
  rw [e] at hl
  have hsz : 0 < xs.size := by simpa using hne
  refine max_tup hh hl hsz fun v h' tk hv hk => ?_
  obtain ⟨t, rfl⟩ := intItems_at hv
  obtain ⟨h1, h2⟩ := argBest_gt (numAt xs) (xs.size - 1)
  refine h h' tk _ t hk ?_ fun a ha => ?_
  · rw [numAt_eq]; exact PySem.getD_mem (by rw [List.length_map, Array.length_toList]; omega)
  · obtain ⟨j, hj, rfl⟩ := mem_getD ha
    rw [List.length_map, Array.length_toList] at hj
    rw [← numAt_eq]; exact h2 j (by omega)
end
section
variable {X : Cx}
/-- max(t) of a tuple of ints -/
def rMaxT (K : PySem.W.Frag) : List V → Hp → VK → Prop := fun vs H Q => ∃ (a : Addr) (ns : List Int), vs = [V.ref a] ∧ SqT K H a (ns.map V.int) ∧ 0 < ns.length ∧ ∀ m, m ∈ ns → (∀ y, y ∈ ns → y ≤ m) → Q (.int m) H
theorem cr_maxT (hc : X.calm = true) : CallR X (.builtin "max") (rMaxT X.K) := by
  intro pins s σ H vs us Q I r h
  obtain ⟨a, ns, rfl, hs, hne, q⟩ := h
  obtain ⟨its, rv, hl, _⟩ := I.tuple hs
  rw [Vals.ref1 r]
  exact max_tup_raw (I.ok.hd hc) hl (intsAre_of rv) hne fun h' tk m t' hk h1 h2 => ⟨.int _, H, I.kept hk, ⟨_, rfl⟩, q m h1 h2⟩
end
end Gd

set_option Elab.async false
set_option linter.all false
set_option maxRecDepth 100000
set_option maxHeartbeats 4000000
/-! A def whose code object is known. -/
namespace Gd
open PySem PySem.Spec PyProof.Rows L2
section
variable {P : Program} {w : World} {K : PySem.W.Frag} {mg : Str → Option Value} {base : Heap} {CX : CXT} {k : Nat}
  {f c : Addr} {fd : FuncData} {ps : List Str} {sp : Sp}
theorem fnGc {x qual : Str} {st : Stmt} {N : List Str} (F : Fun K x qual st f fd) (hc : fd.code = .ref c) (S : FnScope N ps (defScope st))
    (many : ∀ vs H Q E, sp vs H Q E → vs.length = ps.length)
    (body : ∀ (A : Around) (out : List Env) (s : Shared) (H : Hp) (vs : List V) (Q : VK) (E : XK),
      NoG A → Room k (A.deeper (envOfC qual (defScope st) s.heap.objs.size f (.ref c))) → sp vs H Q E →
      ∃ t, PSs (cxOf CX P w K mg base N qual (defScope st) f (.ref c) A out s H E) (defBody st) t ∧
        t { nx := fun _ H' => Q .non H', rt := Q } (start N vs) H) :
    FnG P w K mg base CX (k + 1) f fd ps sp := by
  obtain ⟨oc, od, kV, doc, pm, an, cdv, ct, osl, rfl, lk, hcd⟩ := F.ex
  obtain rfl : cdv = .ref c := hc
  refine ⟨many, ?_⟩
  intro A out s H ar us vs Q E hg hr e0 hb r hsp
  have hl := many vs H Q E hsp
  have KX : K.In s.heap := e0.mod.kin.keeps (fun b o e => (e0.bs b o e).1)
  have lim : s.heap.NoLimit := e0.mod.nolimit.keeps (fun b o e => (e0.bs b o e).1)
  have kinds : ∀ y ∈ ps.zip us, (defScope st).names.lookup y.1 = some .local ∨
      ((defScope st).names.lookup y.1 = some .cell ∧ ((cellsFrom (s.heap.objs.size + 1) (defScope st).names []).lookup y.1).isSome = true) := by
    rintro ⟨n, v⟩ hy
    rcases S.par n (List.of_mem_zip hy).1 with q | q
    · exact Or.inl q
    · exact Or.inr ⟨q, PySem.W.cellsFrom_some _ _ _ (Or.inl q)⟩
  refine codeAny_call_function hr.depth (KX _ _ lk) rfl S.co S.gen rfl
    (PySem.W.codeRec_of KX hcd) (hb _ _ _ _ ?_)
  refine wpAny_newFunctionEnv_cells S.kind kinds ?_
  intro env he s1 x
  cases he
  refine ⟨lim.keeps x.toInCall.keep, codeAny_func ?_⟩
  obtain ⟨t, ht, hq⟩ := body A out s H vs Q E hg (hr.deeper _) hsp
  have I := inv_start (CX := CX) (E := E) S hr.hd e0 hl r x
  refine wpAny_mono (ht.run [] s1 (start N vs) H _ I hq) ?_ (fun e s' hs => hs)
  intro fl s' hs
  have fin : ∀ {σ' : L2.St} {H' : Hp} {v : V} {u : Value},
      Inv (cxOf CX P w K mg base N qual (defScope st) f (.ref c) A out s H E) [] σ' H' s' →
      RelV v u → Q v H' → CE out P w H s Q u s' := by
    intro σ' H' v u J rv q
    exact ⟨v, H', J.os, J.bare, J.base, J.hok, rv, q⟩
  cases fl with
  | ret u =>
    obtain ⟨v, σ', H', J, rv, q⟩ := hs
    exact fin J rv q
  | next =>
    obtain ⟨σ', H', J, q⟩ := hs
    exact fin (v := V.non) (u := Value.none) J rfl q
  | brk =>
    obtain ⟨σ', H', J, q⟩ := hs
    exact False.elim q
  | cont =>
    obtain ⟨σ', H', J, q⟩ := hs
    exact False.elim q
end
end Gd

set_option Elab.async false
set_option linter.all false
set_option maxRecDepth 100000
set_option maxHeartbeats 4000000
/-! set(a tuple of integers), kept as an object. -/
namespace Gd
open PySem PySem.Spec PyProof.Rows L2
/-- set(t) -/
def rSetT (K : PySem.W.Frag) (w : World) : List V → Hp → VK → Prop := fun xs H Q => ∃ (p : Addr) (ns : List Int), xs = [.ref p] ∧ SqT K H p (ns.map V.int) ∧ ns.length ≤ 1000 ∧
  ∀ a c, H a = none → c ≤ ns.length → Q (.ref a) (upd H a (SetO w a (fun j => decide (j ∈ ns)) c))
theorem cr_setT {X : Cx} (hc : X.calm = true) : CallR X (.type "set") (rSetT X.K X.w) := by
  intro pins s σ H xs us Q I r h
  obtain ⟨p, ns, rfl, hq, hl, q⟩ := h
  obtain rfl := Vals.ref1 r
  obtain ⟨its, rv, pl, hz⟩ := I.tuple hq
  have hi := ints_of_vals rv
  refine call_set_tupI ns (I.ok.hd hc) (isTuple_of pl) (by simpa using hi) (by have : (2000 : Nat) < scanBound := by decide
                                                                               omega) fun h' tk c hS hc' hk => ?_
  exact ⟨.ref _, _, I.laid (t' := tk) hk (Nat.le_refl _) (setO_new hS), rfl, q _ _ (I.hok.fresh (Nat.le_refl _)) hc'⟩
end Gd

set_option Elab.async false
set_option linter.all false
set_option maxRecDepth 100000
set_option maxHeartbeats 4000000
/-! max and min of a list of integers, with a default. -/
namespace MD
open PySem PyProof.Rows

section
variable {pg : Program} {wd : World} {B : Around} {Z : Result → Shared → Prop} {it : Addr} {fp wr : List Addr} {n : Nat} {U : Nat → Value → Prop} {St : Nat → Heap → Prop} {d : Value}
/-- the walk's further turns, the best so far in the list at S -/
theorem max_more (W : Walks pg wd B.in1 it fp wr n U St) (bt : Nat → Nat → Bool) (hc : CmpOf pg wd B.in1 .Gt U bt) (S : Addr) (nf : S ∉ fp) :
    ∀ (k j : Nat) (t : Shared) (v0 : Value) (c : Nat), n = j + 1 + k → St (j + 1) t.heap → U (argBest bt j) v0 →
    t.heap.get? S = some { cls := .type "list", dict := none, data := .seq #[v0, v0] c, slots := #[] } →
    (∀ v h' tk, U (argBest bt (n - 1)) v → (∀ b o, b ∉ wr → b ≠ S → t.heap.get? b = some o → h'.get? b = some o) → Z (.ok (.ret v)) { t with heap := h', toks := tk }) →
    codeAny (model pg wd) B (.builtin "max.loop" ⟨[.ref it, .none, .ref S], [("default", d)]⟩) Z t := by
  have nw : S ∉ wr := fun h => nf (W.sub _ h)
  have nm : (toString "max" ++ toString ".loop" : String) = "max.loop" := by decide
  intro k
  induction k with
  | zero =>
    intro j t v0 c hn st u0 hS fin
    refine codeAny_builtin PySem.F.entry_max_loop ?_
    rw [Around.under_plainId PySem.F.plain_max_loop _]
    show wpAny _ B.in1 (seqItems? (.ref S) >>= _) _ _ t
    refine wpAny_bind (wpAny_seqItems hS rfl ?_)
    show wpAny _ B.in1 (tryCatch (pyNext (.ref it)) _ >>= _) _ _ t
    refine wpAny_bind (wpAny_tryCatch (W.done t _ _ (hn ▸ st) fun h' tk hk' => ?_))
    have hS' := hk' S _ nw hS
    show wpAny _ B.in1 (updateSeq S (fun _ => #[]) >>= _) _ _ _
    refine wpAny_bind ?_
    refine wpAny_updateSeq hS' rfl (wpAny_bind (wpAny_letGo (wpAny_pure ?_)))
    have hj : n - 1 = j := by omega
    exact fin v0 _ tk (by rw [hj]; exact u0) fun b o hbw hbS e => (Heap.get?_update_other _ _ (Ne.symm hbS)).trans (hk' b o hbw e)
  | succ k ih =>
    intro j t v0 c hn st u0 hS fin
    have lt : j + 1 < n := by omega
    refine codeAny_builtin PySem.F.entry_max_loop ?_
    rw [Around.under_plainId PySem.F.plain_max_loop _]
    show wpAny _ B.in1 (seqItems? (.ref S) >>= _) _ _ t
    refine wpAny_bind (wpAny_seqItems hS rfl ?_)
    show wpAny _ B.in1 (tryCatch (pyNext (.ref it)) _ >>= _) _ _ t
    refine wpAny_bind (wpAny_tryCatch (W.item (j + 1) t _ _ lt st fun v h' tk uv st' hk' => ?_))
    have hS' := hk' S _ nw hS
    show wpAny _ B.in1 (tryCatch (holding [v, v] (richCompare .Gt v v0 >>= _)) _ >>= _) _ _ _
    refine wpAny_bind (wpAny_tryCatch (wpAny_holding (wpAny_bind (hc (j + 1) (argBest bt j) v v0 _ _ _ uv u0 ?_))))
    refine wpAny_bind (wpAny_holding (wpAny_truthy_bool ?_))
    refine wpAny_bind (wpAny_letGo (wpAny_pure ?_))
    cases hb : bt (j + 1) (argBest bt j) with
    | true =>
      simp only [if_true]
      refine wpAny_bind ?_
      refine wpAny_updateSeq hS' rfl (wpAny_bind (wpAny_letGo ?_))
      rw [nm]
      refine wpAny_pure ⟨plainId_quiet PySem.F.plain_max_loop _, ih (j + 1) _ v _ (by omega) (W.frame _ _ _ st' fun b hbf o e => ?_) (by simp only [argBest, hb, if_true]; exact uv) (Heap.get?_update_self _ hS' rfl) fun v' h'' tk'' u' k'' => ?_⟩
      · exact (Heap.get?_update_other _ _ (fun h : S = b => nf (by rw [h]; exact hbf))).trans e
      · exact fin v' h'' tk'' u' fun b o hbw hbS e => k'' b o hbw hbS ((Heap.get?_update_other _ _ (Ne.symm hbS)).trans (hk' b o hbw e))
    | false =>
      simp only [Bool.false_eq_true, if_false]
      refine wpAny_bind (wpAny_letGo ?_)
      rw [nm]
      refine wpAny_pure ⟨plainId_quiet PySem.F.plain_max_loop _, ih (j + 1) _ v0 c (by omega) st' (by simp only [argBest, hb, Bool.false_eq_true, if_false]; exact u0) hS' fun v' h'' tk'' u' k'' => ?_⟩
      exact fin v' h'' tk'' u' fun b o hbw hbS e => k'' b o hbw hbS (hk' b o hbw e)
theorem max_go (W : Walks pg wd B.in1 it fp wr n U St) (bt : Nat → Nat → Bool) (hc : CmpOf pg wd B.in1 .Gt U bt) (S : Addr) (nf : S ∉ fp) {t : Shared} {c : Nat} (st : St 0 t.heap)
    (hS : t.heap.get? S = some { cls := .type "list", dict := none, data := .seq #[] c, slots := #[] })
    (none_ : n = 0 → ∀ h' tk, (∀ b o, b ∉ wr → b ≠ S → t.heap.get? b = some o → h'.get? b = some o) → Z (.ok (.ret d)) { t with heap := h', toks := tk })
    (fin : 0 < n → ∀ v h' tk, U (argBest bt (n - 1)) v → (∀ b o, b ∉ wr → b ≠ S → t.heap.get? b = some o → h'.get? b = some o) → Z (.ok (.ret v)) { t with heap := h', toks := tk }) :
    codeAny (model pg wd) B (.builtin "max.loop" ⟨[.ref it, .none, .ref S], [("default", d)]⟩) Z t := by
  have nw : S ∉ wr := fun h => nf (W.sub _ h)
  have nm : (toString "max" ++ toString ".loop" : String) = "max.loop" := by decide
  refine codeAny_builtin PySem.F.entry_max_loop ?_
  rw [Around.under_plainId PySem.F.plain_max_loop _]
  show wpAny _ B.in1 (seqItems? (.ref S) >>= _) _ _ t
  refine wpAny_bind (wpAny_seqItems hS rfl ?_)
  show wpAny _ B.in1 (tryCatch (pyNext (.ref it)) _ >>= _) _ _ t
  by_cases hn : n = 0
  · refine wpAny_bind (wpAny_tryCatch (W.done t _ _ (hn ▸ st) fun h' tk hk' => ?_))
    refine wpAny_bind (wpAny_rule ?_)
    exact wpAny_pure (none_ hn h' tk fun b o hbw _ e => hk' b o hbw e)
  · have hp : 0 < n := by omega
    refine wpAny_bind (wpAny_tryCatch (W.item 0 t _ _ hp st fun v h' tk uv st' hk' => ?_))
    have hS' := hk' S _ nw hS
    show wpAny _ B.in1 (updateSeq S (fun _ => #[v, v]) >>= _) _ _ _
    refine wpAny_bind ?_
    refine wpAny_updateSeq hS' rfl ?_
    rw [nm]
    refine wpAny_pure ⟨plainId_quiet PySem.F.plain_max_loop _, max_more W bt hc S nf (n - 1) 0 _ v _ (by omega) (W.frame _ _ _ st' fun b hbf o e => ?_) uv (Heap.get?_update_self _ hS' rfl) fun v' h'' tk'' u' k'' => ?_⟩
    · exact (Heap.get?_update_other _ _ (fun h : S = b => nf (by rw [h]; exact hbf))).trans e
    · exact fin hp v' h'' tk'' u' fun b o hbw hbS e => k'' b o hbw hbS ((Heap.get?_update_other _ _ (Ne.symm hbS)).trans (hk' b o hbw e))
end

section
variable {pg : Program} {wd : World} {B : Around} {Z : Result → Shared → Prop} {it : Addr} {fp wr : List Addr} {n : Nat} {U : Nat → Value → Prop} {St : Nat → Heap → Prop} {d : Value}
/-- the walk's further turns, the best so far in the list at S -/
theorem min_more (W : Walks pg wd B.in1 it fp wr n U St) (bt : Nat → Nat → Bool) (hc : CmpOf pg wd B.in1 .Lt U bt) (S : Addr) (nf : S ∉ fp) :
    ∀ (k j : Nat) (t : Shared) (v0 : Value) (c : Nat), n = j + 1 + k → St (j + 1) t.heap → U (argBest bt j) v0 →
    t.heap.get? S = some { cls := .type "list", dict := none, data := .seq #[v0, v0] c, slots := #[] } →
    (∀ v h' tk, U (argBest bt (n - 1)) v → (∀ b o, b ∉ wr → b ≠ S → t.heap.get? b = some o → h'.get? b = some o) → Z (.ok (.ret v)) { t with heap := h', toks := tk }) →
    codeAny (model pg wd) B (.builtin "min.loop" ⟨[.ref it, .none, .ref S], [("default", d)]⟩) Z t := by
  have nw : S ∉ wr := fun h => nf (W.sub _ h)
  have nm : (toString "min" ++ toString ".loop" : String) = "min.loop" := by decide
  intro k
  induction k with
  | zero =>
    intro j t v0 c hn st u0 hS fin
    refine codeAny_builtin PySem.F.entry_min_loop ?_
    rw [Around.under_plainId PySem.F.plain_min_loop _]
    show wpAny _ B.in1 (seqItems? (.ref S) >>= _) _ _ t
    refine wpAny_bind (wpAny_seqItems hS rfl ?_)
    show wpAny _ B.in1 (tryCatch (pyNext (.ref it)) _ >>= _) _ _ t
    refine wpAny_bind (wpAny_tryCatch (W.done t _ _ (hn ▸ st) fun h' tk hk' => ?_))
    have hS' := hk' S _ nw hS
    show wpAny _ B.in1 (updateSeq S (fun _ => #[]) >>= _) _ _ _
    refine wpAny_bind ?_
    refine wpAny_updateSeq hS' rfl (wpAny_bind (wpAny_letGo (wpAny_pure ?_)))
    have hj : n - 1 = j := by omega
    exact fin v0 _ tk (by rw [hj]; exact u0) fun b o hbw hbS e => (Heap.get?_update_other _ _ (Ne.symm hbS)).trans (hk' b o hbw e)
  | succ k ih =>
    intro j t v0 c hn st u0 hS fin
    have lt : j + 1 < n := by omega
    refine codeAny_builtin PySem.F.entry_min_loop ?_
    rw [Around.under_plainId PySem.F.plain_min_loop _]
    show wpAny _ B.in1 (seqItems? (.ref S) >>= _) _ _ t
    refine wpAny_bind (wpAny_seqItems hS rfl ?_)
    show wpAny _ B.in1 (tryCatch (pyNext (.ref it)) _ >>= _) _ _ t
    refine wpAny_bind (wpAny_tryCatch (W.item (j + 1) t _ _ lt st fun v h' tk uv st' hk' => ?_))
    have hS' := hk' S _ nw hS
    show wpAny _ B.in1 (tryCatch (holding [v, v] (richCompare .Lt v v0 >>= _)) _ >>= _) _ _ _
    refine wpAny_bind (wpAny_tryCatch (wpAny_holding (wpAny_bind (hc (j + 1) (argBest bt j) v v0 _ _ _ uv u0 ?_))))
    refine wpAny_bind (wpAny_holding (wpAny_truthy_bool ?_))
    refine wpAny_bind (wpAny_letGo (wpAny_pure ?_))
    cases hb : bt (j + 1) (argBest bt j) with
    | true =>
      simp only [if_true]
      refine wpAny_bind ?_
      refine wpAny_updateSeq hS' rfl (wpAny_bind (wpAny_letGo ?_))
      rw [nm]
      refine wpAny_pure ⟨plainId_quiet PySem.F.plain_min_loop _, ih (j + 1) _ v _ (by omega) (W.frame _ _ _ st' fun b hbf o e => ?_) (by simp only [argBest, hb, if_true]; exact uv) (Heap.get?_update_self _ hS' rfl) fun v' h'' tk'' u' k'' => ?_⟩
      · exact (Heap.get?_update_other _ _ (fun h : S = b => nf (by rw [h]; exact hbf))).trans e
      · exact fin v' h'' tk'' u' fun b o hbw hbS e => k'' b o hbw hbS ((Heap.get?_update_other _ _ (Ne.symm hbS)).trans (hk' b o hbw e))
    | false =>
      simp only [Bool.false_eq_true, if_false]
      refine wpAny_bind (wpAny_letGo ?_)
      rw [nm]
      refine wpAny_pure ⟨plainId_quiet PySem.F.plain_min_loop _, ih (j + 1) _ v0 c (by omega) st' (by simp only [argBest, hb, Bool.false_eq_true, if_false]; exact u0) hS' fun v' h'' tk'' u' k'' => ?_⟩
      exact fin v' h'' tk'' u' fun b o hbw hbS e => k'' b o hbw hbS (hk' b o hbw e)
theorem min_go (W : Walks pg wd B.in1 it fp wr n U St) (bt : Nat → Nat → Bool) (hc : CmpOf pg wd B.in1 .Lt U bt) (S : Addr) (nf : S ∉ fp) {t : Shared} {c : Nat} (st : St 0 t.heap)
    (hS : t.heap.get? S = some { cls := .type "list", dict := none, data := .seq #[] c, slots := #[] })
    (none_ : n = 0 → ∀ h' tk, (∀ b o, b ∉ wr → b ≠ S → t.heap.get? b = some o → h'.get? b = some o) → Z (.ok (.ret d)) { t with heap := h', toks := tk })
    (fin : 0 < n → ∀ v h' tk, U (argBest bt (n - 1)) v → (∀ b o, b ∉ wr → b ≠ S → t.heap.get? b = some o → h'.get? b = some o) → Z (.ok (.ret v)) { t with heap := h', toks := tk }) :
    codeAny (model pg wd) B (.builtin "min.loop" ⟨[.ref it, .none, .ref S], [("default", d)]⟩) Z t := by
  have nw : S ∉ wr := fun h => nf (W.sub _ h)
  have nm : (toString "min" ++ toString ".loop" : String) = "min.loop" := by decide
  refine codeAny_builtin PySem.F.entry_min_loop ?_
  rw [Around.under_plainId PySem.F.plain_min_loop _]
  show wpAny _ B.in1 (seqItems? (.ref S) >>= _) _ _ t
  refine wpAny_bind (wpAny_seqItems hS rfl ?_)
  show wpAny _ B.in1 (tryCatch (pyNext (.ref it)) _ >>= _) _ _ t
  by_cases hn : n = 0
  · refine wpAny_bind (wpAny_tryCatch (W.done t _ _ (hn ▸ st) fun h' tk hk' => ?_))
    refine wpAny_bind (wpAny_rule ?_)
    exact wpAny_pure (none_ hn h' tk fun b o hbw _ e => hk' b o hbw e)
  · have hp : 0 < n := by omega
    refine wpAny_bind (wpAny_tryCatch (W.item 0 t _ _ hp st fun v h' tk uv st' hk' => ?_))
    have hS' := hk' S _ nw hS
    show wpAny _ B.in1 (updateSeq S (fun _ => #[v, v]) >>= _) _ _ _
    refine wpAny_bind ?_
    refine wpAny_updateSeq hS' rfl ?_
    rw [nm]
    refine wpAny_pure ⟨plainId_quiet PySem.F.plain_min_loop _, min_more W bt hc S nf (n - 1) 0 _ v _ (by omega) (W.frame _ _ _ st' fun b hbf o e => ?_) uv (Heap.get?_update_self _ hS' rfl) fun v' h'' tk'' u' k'' => ?_⟩
    · exact (Heap.get?_update_other _ _ (fun h : S = b => nf (by rw [h]; exact hbf))).trans e
    · exact fin hp v' h'' tk'' u' fun b o hbw hbS e => k'' b o hbw hbS ((Heap.get?_update_other _ _ (Ne.symm hbS)).trans (hk' b o hbw e))
end

section
variable {pg : Program} {wd : World} {B : Around} {E : Value → Shared → Prop} {t : Shared}
/-- how a result ends a call -/
abbrev Ends1 (Q : Value → Shared → Prop) (E : Value → Shared → Prop) : Result → Shared → Prop := fun r s' => match r with
  | .ok (.ret v) => Q v s'
  | .ok _ => False
  | .error e => E e s'
theorem call_kw {id : String} {b : Builtin} {args : List Value} {kw : List (Str × Value)} {Q : Value → Shared → Prop} (hk : builtinKind id = none) (hp : plainId id = true) (hb : entryFor table id = some b) (ha : argsOk id ⟨args, kw⟩)
    (hc : wpAny (model pg wd) B.in1 (b ⟨args, kw⟩) (fun fin s' => match fin with
      | .done f => Ends1 Q E (.ok f) s'
      | .again c' => c'.quiet = true ∧ codeAny (model pg wd) B c' (Ends1 Q E) s') E t) : wpAny (model pg wd) B (call (.builtin id) args kw) Q E t := by
  refine wpAny_call (codeAny_call_builtin hp hb ?_)
  simp only [checkBuiltinCall, hk]
  cases hsig : Manifest.signature? id with
  | none => exact wpAny_pure hc
  | some sig =>
    have ha' : Bind.checkArgs id sig ⟨args, kw⟩ = pure () := by simpa only [argsOk, hsig] using ha
    simp only [ha']
    exact wpAny_pure hc

theorem args_max_d (a d : Value) : argsOk "max" ⟨[a], [("default", d)]⟩ := by unfold argsOk; kernel_rfl
theorem call_max_d {Q : Value → Shared → Prop} {l : Addr} {xs : Array (Int × Tok)} {d : Value} (hh : B.handled = none) (hl : t.heap.IsList l (intItems xs))
    (h0 : xs.size = 0 → ∀ h' tk, (∀ b o, t.heap.get? b = some o → h'.get? b = some o) → Q d { t with heap := h', toks := tk })
    (h1 : 0 < xs.size → ∀ v h' tk, (intItems xs)[argBest (fun i j => decide (numAt xs i > numAt xs j)) (xs.size - 1)]? = some v → (∀ b o, t.heap.get? b = some o → h'.get? b = some o) → Q v { t with heap := h', toks := tk }) :
    wpAny (model pg wd) B (call (.builtin "max") [.ref l] [("default", d)]) Q E t := by
  have nm : (toString "max" ++ toString ".loop" : String) = "max.loop" := by decide
  refine call_kw PySem.F.kind_max PySem.F.plain_max PySem.F.entry_max (args_max_d _ _) ?_
  show wpAny _ B.in1 (Builtin.Builtins.bindParams "max" ["key", "default"] 0 ⟨[], [("default", d)]⟩ >>= _) _ _ t
  refine wpAny_bind (wpAny_of_eq (show Builtin.Builtins.bindParams "max" ["key", "default"] 0 ⟨[], [("default", d)]⟩ = pure [none, some d] from rfl) ?_)
  refine wpAny_bind (wpAny_pure ?_)
  refine wpAny_bind (iter_intList hl fun s₂ e st hfp hlI => ?_)
  refine wpAny_bind (wpAny_newObj_type ?_)
  subst e
  rw [nm]
  have nS : (t.heap.push { cls := .type "list_iterator", data := .fields #[.ref l, .int 0 0] }).objs.size ∉ [t.heap.objs.size, l] := fun hm => Nat.lt_irrefl _ (hfp _ hm)
  have W := Walks.list (prog := pg) (w := wd) (A := B.in1) hh _ l hlI (intItems xs)
  refine wpAny_pure ⟨plainId_quiet PySem.F.plain_max_loop _, max_go W (fun i j => decide (numAt xs i > numAt xs j)) (CmpOf.ints_gt (numAt xs) (fun _ _ => intItems_at)) _ nS (W.frame _ _ _ st fun b _ o e => Heap.get?_push_of_some _ e) (Heap.get?_push_size _ rfl) (fun hn h' tk hk => ?_) (fun hn v h' tk hP hk => ?_)⟩
  · exact h0 (by simpa [intItems] using hn) h' tk (old_kept fun b o hw e => hk b o hw (Nat.ne_of_lt (Heap.lt_size e)) (Heap.get?_push_of_some _ e))
  · exact h1 (by simpa [intItems] using hn) v h' tk (by simpa [intItems] using hP) (old_kept fun b o hw e => hk b o hw (Nat.ne_of_lt (Heap.lt_size e)) (Heap.get?_push_of_some _ e))

theorem args_min_d (a d : Value) : argsOk "min" ⟨[a], [("default", d)]⟩ := by unfold argsOk; kernel_rfl
theorem call_min_d {Q : Value → Shared → Prop} {l : Addr} {xs : Array (Int × Tok)} {d : Value} (hh : B.handled = none) (hl : t.heap.IsList l (intItems xs))
    (h0 : xs.size = 0 → ∀ h' tk, (∀ b o, t.heap.get? b = some o → h'.get? b = some o) → Q d { t with heap := h', toks := tk })
    (h1 : 0 < xs.size → ∀ v h' tk, (intItems xs)[argBest (fun i j => decide (numAt xs i < numAt xs j)) (xs.size - 1)]? = some v → (∀ b o, t.heap.get? b = some o → h'.get? b = some o) → Q v { t with heap := h', toks := tk }) :
    wpAny (model pg wd) B (call (.builtin "min") [.ref l] [("default", d)]) Q E t := by
  have nm : (toString "min" ++ toString ".loop" : String) = "min.loop" := by decide
  refine call_kw PySem.F.kind_min PySem.F.plain_min PySem.F.entry_min (args_min_d _ _) ?_
  show wpAny _ B.in1 (Builtin.Builtins.bindParams "min" ["key", "default"] 0 ⟨[], [("default", d)]⟩ >>= _) _ _ t
  refine wpAny_bind (wpAny_of_eq (show Builtin.Builtins.bindParams "min" ["key", "default"] 0 ⟨[], [("default", d)]⟩ = pure [none, some d] from rfl) ?_)
  refine wpAny_bind (wpAny_pure ?_)
  refine wpAny_bind (iter_intList hl fun s₂ e st hfp hlI => ?_)
  refine wpAny_bind (wpAny_newObj_type ?_)
  subst e
  rw [nm]
  have nS : (t.heap.push { cls := .type "list_iterator", data := .fields #[.ref l, .int 0 0] }).objs.size ∉ [t.heap.objs.size, l] := fun hm => Nat.lt_irrefl _ (hfp _ hm)
  have W := Walks.list (prog := pg) (w := wd) (A := B.in1) hh _ l hlI (intItems xs)
  refine wpAny_pure ⟨plainId_quiet PySem.F.plain_min_loop _, min_go W (fun i j => decide (numAt xs i < numAt xs j)) (CmpOf.ints_lt (numAt xs) (fun _ _ => intItems_at)) _ nS (W.frame _ _ _ st fun b _ o e => Heap.get?_push_of_some _ e) (Heap.get?_push_size _ rfl) (fun hn h' tk hk => ?_) (fun hn v h' tk hP hk => ?_)⟩
  · exact h0 (by simpa [intItems] using hn) h' tk (old_kept fun b o hw e => hk b o hw (Nat.ne_of_lt (Heap.lt_size e)) (Heap.get?_push_of_some _ e))
  · exact h1 (by simpa [intItems] using hn) v h' tk (by simpa [intItems] using hP) (old_kept fun b o hw e => hk b o hw (Nat.ne_of_lt (Heap.lt_size e)) (Heap.get?_push_of_some _ e))
end
end MD

set_option Elab.async false
set_option linter.all false
set_option maxRecDepth 100000
set_option maxHeartbeats 4000000
namespace GdX
open PySem PySem.Calls PyProof.Rows PySem.HandSPX Builtin Builtin.ObjectAttr
section
variable {prog : Program} {w : World} {A : Around} {R : Result → Shared → Prop} {hp : Heap} {g : Array GenState} {d : Drawn} {t : Nat} {os : OsState}
theorem osaG2 {B : String} {bmB : List Value} (SF : StoreFacts B bmB "object.__setattr__" "object") {K : W.Frag} {name : Str} {tk : Tok} {v : Value} {x C D : Addr} {fv : Array Value} {cd : ClassData}
    (X : K.In hp) (hx : hp.get? x = some { cls := .ref C, data := .fields fv }) (hcd : W.clsIn K C = some cd)
    (hm : cd.mro = .ref C :: .ref D :: bmB) (hh : cd.hasDict = true) (ha : W.findIn K (.ref C) name = some none)
    (hq : ∀ h' tk' dx, (∀ b o, b ≠ x → hp.get? b = some o → h'.get? b = some o) → hp.objs.size ≤ dx → dx ≠ x →
      h'.get? x = some { cls := .ref C, dict := some dx, data := .fields fv } →
      h'.Ns1 dx (fun y => if y = name then some v else none) → R (.ok (.ret .none)) ⟨h', g, d, tk', os⟩) :
    codeAny (model prog w) A (.call (.builtin "object.__setattr__") ⟨[.ref x, .str name tk, v], []⟩) R ⟨hp, g, d, t, os⟩ := by
  have I : W.InstAt hp x { cls := .ref C, data := .fields fv } C none := ⟨hx, rfl, rfl, trivial⟩
  have ne : cd.mro.isEmpty = false := by rw [hm]; rfl
  have hob : cd.mro.contains (.type "object") = true := by
    rw [hm, List.contains_cons, List.contains_cons, SF.hasOwner, Bool.or_true, Bool.or_true]
  have hxs : x ≠ hp.objs.size := Nat.ne_of_lt (Heap.lt_size hx)
  have sub : W.Looks (model prog w) hp (isInstance (.ref x) (.type "object")) true := by
    refine I.type.andThen (W.looks_mroIn X ?_)
    unfold W.mroIn
    rw [hcd, Option.bind_some, if_neg (by rw [ne]; decide), hob]
  refine codeAny_call_builtin SF.slot.plain SF.entry (@W.check_slot (model prog w) _ _ ⟨hp, g, d, t, os⟩ "object.__setattr__" "object" "__setattr__" (.ref x) [.str name tk, v] [] _
    SF.kind SF.split sub (SF.args (.ref x) (.str name tk) v) ?_)
  have hmr : W.Looks (model prog w) hp (mroOf (.ref C)) cd.mro := (W.looks_clsIn X hcd).andThen .now
  have L3 : W.Looks (model prog w) hp (storeTaker? none) none := .now
  have hcls : W.Looks (model prog w) hp (classData C) cd := W.looks_clsIn X hcd
  rw [W.osa_eq, refuse_eq]
  refine wpAny_bind (wpAny_bind (I.type.at (wpAny_bind (hmr.at ?_))))
  rw [hm, refuseLoop_ref, refuseLoop_ref, SF.passes]
  refine wpAny_pure (wpAny_bind (I.type.at (wpAny_bind ((W.looks_findIn X ha).at (wpAny_bind (L3.at ?_))))))
  show wpAny _ _ (storeInOwnDict (.ref x) (.ref C) (.str name tk) name v false) _ _ _
  clear hmr hob ne sub hm
  obtain ⟨nm, bs, mro, ns, qn, hd, sn, sb, ab, col, del⟩ := cd
  have hh' : hd = true := hh
  subst hh'
  unfold storeInOwnDict ownDictForStores
  repeat (first
    | with_reducible refine store_in_new ?_ ?_
    | with_reducible refine wpAny_loadPart_at hx ?_
    | with_reducible refine hcls.at ?_
    | wp_step)
  · exact ⟨_, #[], _, (Heap.get?_update_ne _ _ _ _ hxs.symm).trans (Heap.get?_push_at rfl rfl), rfl, fun e he => absurd he (by simp), fun _ => rfl⟩
  · intro h' tk' hn' hs
    have hx₁ : (hp.push { cls := .type "dict", data := .dict #[] }).get? x = some { cls := .ref C, data := .fields fv } := Heap.get?_push_of_some _ hx
    refine hq h' tk' hp.objs.size (fun b o hb ho => ?_) (Nat.le_refl _) hxs.symm ?_ hn'
    · have far : b ≠ hp.objs.size := Nat.ne_of_lt (Heap.lt_size ho)
      exact (hs.2 b far).trans ((Heap.get?_update_ne _ _ _ _ hb).trans (Heap.get?_push_of_some _ ho))
    · exact (hs.2 x hxs).trans (Heap.get?_update_self _ hx₁ rfl)
end
end GdX
namespace PySem
namespace XParseError
open PySem.W PySem.Calls PyProof.Rows PySem.HandSPX
/-! ### the text of __init__ -/
def iA (p1 p2 : Pos) : Arguments := { posonlyargs := [], args := [{ arg := "self", annotation := none, pos := p1 }, { arg := "index", annotation := none, pos := p2 }], vararg := none, kwonlyargs := [], kw_defaults := [], kwarg := none, defaults := [] }
def iB (q1 q2 q3 q4 : Pos) : List Stmt := [.Assign [.Attribute (.Name "self" q1) "index" q2] (.Name "index" q3) q4]
def iS : Scope := { kind := .function, names := [(PySem.Str.ofString "self", .local), (PySem.Str.ofString "index", .local)], isGenerator := false, isCoroutine := false, more := [] }
/-- what the written part says of Low, at C, and of its __init__, at fI -/
structure ParseErrorTxt (K : Frag) (mg : Str → Option Value) (C fI : Addr) : Prop where
  gC : mg "ParseError" = some (.ref C)
  cls : ∃ CK nm q N bs sn sub ab col dd k0 k1 k2 k3 k5, K.lookup C = some (excClassObj nm q C N bs [.ref CK, .type "ValueError", .type "Exception", .type "BaseException", .type "object"] true sn sub ab col dd k0 k1 k2 k3 k5 "ValueError.__new__")
  sa : findIn K (.ref C) "__setattr__" = some (some (.builtin "object.__setattr__"))
  ga : findIn K (.ref C) "__getattribute__" = some (some (.builtin "BaseException.__getattribute__"))
  gg : findIn K (.ref C) "__getattr__" = some none
  noN : findIn K (.ref C) "index" = some none
  iC : findIn K (.ref C) "__init__" = some (some (.ref fI))
  tC : typeIn K (.ref fI) = some (.type "function")
  kC : keepIn K (.ref C) = true
  exC : subIn K (.ref C) (.type "BaseException") = some true
  tyC : typeIn K (.ref C) = some (.type "type")
  hdC : hasDictIn K C = true
  te : exmOne K (.ref C) (.ref C) = some true
  fn : ∃ (oc : Value) (od : Option Addr) (doc pm : Value) (an : Option Addr) (cdv ct : Value) (osl : Array (Option Value)) (p1 p2 q1 q2 q3 q4 : Pos),
    K.lookup fI = some ⟨oc, od, .func (fnOf "__init__" "ParseError.__init__" (iA p1 p2) (iB q1 q2 q3 q4) iS .none .none doc pm an cdv ct), osl⟩ ∧ codeIn K cdv "ParseError.__init__" = true
theorem one_size (v : Value) : [v].length ≤ sizeLine := by
  rw [sizeLine_eq]
  exact (by decide : 1 ≤ 16777216)
theorem kept_but {K : Frag} {h h' : Heap} {x : Addr} (X : K.In h) (hx : K.lookup x = none) (k : ∀ b o, b ≠ x → h.get? b = some o → h'.get? b = some o) : K.In h' := fun a o e =>
  k a o (fun z => by rw [z, hx] at e; cases e) (X a o e)
theorem ldC {M : Model} {s : Shared} {name : Str} {scope : Scope} {L a : Addr} {cd : Value} {m : Str → Option Value} {x : Str} {pos : Pos} {v : Value} {Q : Value → Shared → Prop} {A : Around} {E : Value → Shared → Prop} (hn : s.heap.Ns L m) (hv : m x = some v) (h : Q v s)
    (hk : scope.kind = .function := by rfl) (hl : (envOfC name scope L a cd).kindOf x = some .local := by rfl) (hd : (x == ("__debug__" : Str)) = false := by decide) :
    wpAny M A (eval (.Name x pos) (envOfC name scope L a cd)) Q E s := wpAny_Name (wpAny_loadName_local hk hl hn hv h) hd
/-- what __init__ leaves of a fresh exception at x -/
structure InitEnd (h h' : Heap) (x C dx t1 : Addr) (v : Value) : Prop where
  keep : ∀ b o, b ≠ x → h.get? b = some o → h'.get? b = some o
  obj : h'.get? x = some { cls := .ref C, dict := some dx, data := .fields #[.ref t1, .none, .none, .none, .bool false, .none] }
  dbig : h.objs.size ≤ dx
  dne : dx ≠ x
  ns : h'.Ns1 dx (fun y => if y = "index" then some v else none)
/-- a made Low -/
structure OwnMade (h h' : Heap) (e C d : Addr) (v : Value) : Prop where
  keep : ∀ b o, h.get? b = some o → h'.get? b = some o
  new : h.objs.size ≤ e
  obj : ∃ oe vs, h'.get? e = some oe ∧ oe.cls = .ref C ∧ oe.dict = some d ∧ oe.data = .fields vs ∧ vs[1]? = some .none
  dbig : h.objs.size ≤ d
  dne : d ≠ e
  ns : h'.Ns1 d (fun y => if y = "index" then some v else none)
section
variable {prog : Program} {w : World} {A : Around} {E : Value → Shared → Prop} {R : Result → Shared → Prop} {s : Shared} {K : Frag} {mg : Str → Option Value} {C fI : Addr}
theorem low_init (T : ParseErrorTxt K mg C fI) {x t0 : Addr} {v : Value} (X : K.In s.heap) (hlim : s.heap.NoLimit) (hx : s.heap.get? x = some (excO C t0)) (hnx : K.lookup x = none) (hroom : A.depth < recursionLimit)
    (hq : ∀ h' tk dx, InitEnd s.heap h' x C dx t0 v → R (.ok (.ret .none)) { s with heap := h', toks := tk }) :
    codeAny (model prog w) A (.call (.ref fI) ⟨[.ref x, v], []⟩) R s := by
  obtain ⟨oc, od, doc, pm, an, cdv, ct, osl, p1, p2, q1, q2, q3, q4, ho, hcd⟩ := T.fn
  obtain ⟨CK, nm, q, N, bs, sn, sub, ab, col, dd, k0, k1, k2, k3, k5, hC⟩ := T.cls
  have hcl : clsIn K C = some { name := nm, bases := bs, mro := .ref C :: [.ref CK, .type "ValueError", .type "Exception", .type "BaseException", .type "object"], ns := N, qualname := q, hasDict := true, slotNames := sn, subclasses := sub, abstract := ab, collection := col, hasDel := false } := by unfold clsIn; rw [hC] <;> rfl
  refine Att.call_fn (binds := [("self", .ref x), ("index", v)]) X hlim ho hcd hroom (BindsTo.of_eq (by first | rfl | with_unfolding_all rfl)) (by first | rfl | decide | with_unfolding_all rfl) (fun s₁ IC => ?_) rfl rfl rfl
  obtain ⟨h₁, tk₁, rfl⟩ := IC.toInCall.same
  have k : ∀ b o, s.heap.get? b = some o → h₁.get? b = some o := IC.toInCall.keep
  have hn := IC.toInCall.ns
  have hxL : s.heap.objs.size ≠ x := Nat.ne_of_gt (Heap.lt_size hx)
  have X₁ : K.In h₁ := X.keeps k
  have hx₁ := k _ _ hx
  -- self.by = by
  show wpAny _ _ (execs _ _) _ _ _
  refine wpAny_execs_cons (plainObj_wpAny_Assign_Attribute ?_)
  refine ldC (v := v) hn (by first | rfl | with_unfolding_all rfl | kernel_rfl) (ldC (v := .ref x) hn (by first | rfl | with_unfolding_all rfl | kernel_rfl) ?_)
  refine set_plain X₁ (ox := excO C t0) (od := none) ⟨hx₁, rfl, rfl, trivial⟩ T.sa ?_
  refine GdX.osaG2 F.store_ValueError X₁ hx₁ hcl rfl rfl T.noN (fun h₃ tk₃ dx k₃ dn dne hx₃ hn₃ => ?_)
  show wpAny _ _ (execs _ _) _ _ _
  have z : s.heap.objs.size < h₁.objs.size := hn.lt
  exact wpAny_execs_nil (hq h₃ tk₃ dx ⟨fun b o hb e => k₃ b o hb (k b o e), hx₃, Nat.le_of_lt (Nat.lt_of_lt_of_le z dn), dne, hn₃⟩)
theorem low_made (T : ParseErrorTxt K mg C fI) {v : Value} (X : K.In s.heap) (hlim : s.heap.NoLimit) (hroom : A.depth + 1 < recursionLimit)
    (hq : ∀ h' tk e d, OwnMade s.heap h' e C d v → R (.ok (.ret (.ref e))) { s with heap := h', toks := tk }) :
    codeAny (model prog w) A (.call (.ref C) ⟨[v], []⟩) R s := by
  obtain ⟨CK, nm, q, N, bs, sn, sub, ab, col, dd, k0, k1, k2, k3, k5, hC⟩ := T.cls
  obtain ⟨hp, g, dr, tk, os⟩ := s
  have k : ∀ b o, hp.get? b = some o → ((hp.push (kdv_tup [v])).push (excO C hp.objs.size)).get? b = some o := fun b o e => Heap.get?_push_of_some _ (Heap.get?_push_of_some _ e)
  have hget : ((hp.push (kdv_tup [v])).push (excO C hp.objs.size)).get? (hp.objs.size + 1) = some (excO C hp.objs.size) := by heap_get
  have hnx : K.lookup (hp.objs.size + 1) = none := by
    cases e : K.lookup (hp.objs.size + 1) with
    | none => rfl
    | some o =>
      have z : hp.get? (hp.objs.size + 1) = some o := X _ _ e
      exact absurd (Nat.lt_of_succ_lt (Heap.lt_size z)) (Nat.lt_irrefl _)
  refine call_own (bm := [.ref CK, .type "ValueError", .type "Exception", .type "BaseException", .type "object"]) F.excBase_ValueError (fun _ => rfl) (X _ _ hC) (looks_findIn X T.iC) (fun self => bind_fn X self T.tC) (one_size v) ?_
  refine low_init (s := ⟨(hp.push (kdv_tup [v])).push (excO C hp.objs.size), g, dr, tk, os⟩) T (X.keeps k) (hlim.keeps k) hget hnx ?_ fun h' tk' dx ⟨k', hx, dn, dne, hns⟩ => ?_
  · show A.depth + 1 < recursionLimit
    exact hroom
  · have old : ∀ b o, hp.get? b = some o → h'.get? b = some o := fun b o e => k' b o (Nat.ne_of_lt (Nat.lt_succ_of_lt (Heap.lt_size e))) (k b o e)
    have z : hp.objs.size + 1 + 1 ≤ dx := by
      first
        | (simpa only [Heap.size_push] using dn)
        | exact dn
        | (have q := dn; rw [Heap.size_push, Heap.size_push] at q; exact q)
    exact ⟨rfl, hq h' tk' (hp.objs.size + 1) dx ⟨old, Nat.le_succ _, ⟨_, _, hx, rfl, rfl, rfl, rfl⟩, Nat.le_trans (Nat.le_trans (Nat.le_succ _) (Nat.le_succ _)) z, dne, hns⟩⟩
end
end XParseError
end PySem
namespace L2
open PySem PySem.Spec PyProof.Rows
theorem relO_ParseError {v : V} {v' : Value} (r : RelV v v') (f : Str) : RelO (List.lookup f [(("index" : Str), v)]) (if f = "index" then some v' else none) := by
  by_cases hw : f = "index"
  · subst hw
    rw [if_pos rfl]
    have q : List.lookup ("index" : Str) [(("index" : Str), v)] = some v := by simp [List.lookup]
    rw [q]
    exact r
  · rw [if_neg hw]
    have qw : (f == ("index" : Str)) = false := by simpa using hw
    have q2 : List.lookup f [(("index" : Str), v)] = none := by simp [List.lookup, qw]
    rw [q2]
    trivial
section
variable {X : Cx} {C fI : Addr}
/-- Low(e) -/
def tMkParseError (C : Addr) (ta : TA) : St → Hp → XK → Prop := fun σ H Q => ta σ H fun vs H1 => ∃ v, vs = [v] ∧ ∀ d, H1 d = none → Q (.ref C) (some d) (upd H1 d (.xd [(("index" : Str), v)]))
theorem pmk_ParseError {a : Expr} {ta : TA} {p pos : Pos} {k : Nat} (T : PySem.XParseError.ParseErrorTxt X.K X.mg C fI) (hr : Room k X.A) (ha : PA X [a] ta) (hg : Gl X "ParseError" := by rfl)
    (he : starEach (a :: []) X.env = (false, eval a X.env) :: starEach [] X.env := by rfl) (hpl : (backTo pos (starEach [] X.env)).any (·.1) = false := by rfl) :
    PMk X (.Call (.Name "ParseError" p) [a] [] pos) (tMkParseError C ta) := by
  intro pins s σ H Q I h
  refine wpAny_Call_Name_kw (ld_glob I hg T.gC ?_)
  refine PySem.W.callWith_K (h₀ := X.base) I.ok.mod.kin T.kC (thn (ha.run pos pins s σ H _ I h) fun us s1 hh => ?_) he hpl
  obtain ⟨vs, H1, I1, r1, v, ev, q1⟩ := hh
  subst ev
  refine ⟨I1.kIn, ?_⟩
  cases r1 with
  | cons rv rn =>
    rename_i v' us'
    cases rn
    show wpAny _ _ (call (.ref C) [v']) _ _ _
    have hlim := I1.nolimit
    obtain ⟨hp, g, dr, tk, os⟩ := s1
    refine wpAny_call (PySem.XParseError.low_made T I1.kIn hlim (by have := hr.dp; omega) fun h' tk' e d M => ?_)
    show MkP X pins σ Q (.ref e) ⟨h', g, dr, tk', os⟩
    obtain ⟨oe, fv, hoe, hc, hd, hdat, h1⟩ := M.obj
    have hns := M.ns
    obtain ⟨G', g1, g2⟩ := restrict h' fun b => decide (b ≠ e)
    have gk : ∀ b, b ≠ e → G'.get? b = h'.get? b := fun b hb => g1 b (decide_eq_true hb)
    have ge : G'.get? e = none := g2 e (by simp)
    have old : ∀ b o, hp.get? b = some o → G'.get? b = some o := fun b o q => (gk b (Nat.ne_of_lt (Nat.lt_of_lt_of_le (Heap.lt_size q) M.new))).trans (M.keep b o q)
    have ob : ObjOk X.prog X.w (upd H1 d (.xd [(("index" : Str), v)])) G' d (.xd [(("index" : Str), v)]) :=
      ⟨_, hns.at (fun o q => (gk d M.dne).trans q), fun f => relO_ParseError rv f⟩
    have J : Inv X pins σ (upd H1 d (.xd [(("index" : Str), v)])) ⟨G', g, dr, tk', os⟩ := I1.laid (t' := tk') old M.dbig ob
    refine ⟨e, oe, fv, ⟨G', g, dr, tk', os⟩, _, .ref C, some d, rfl, J, fun b o q => ?_, ge, hoe, ⟨hc, hd⟩, hdat, h1, ?_, rfl, I1.bare, raises_own T.exC T.tyC, q1 d (I1.hok.fresh M.dbig)⟩
    · by_cases hb : b = e
      · have q' : G'.get? b = some o := q
        rw [hb, ge] at q'; cases q'
      · exact (gk b hb).symm.trans q
    · rw [upd_ne (Ne.symm M.dne)]
      exact I1.hok.fresh M.new
/-- raise Low(e) -/
def tRaiseParseError (C : Addr) (W : WX) (ta : TA) : TS := fun _ σ H => tMkParseError C ta σ H fun cls d H' => W cls d σ H'
theorem ps_raiseParseError {a : Expr} {ta : TA} {W : WX} {p pos pos2 : Pos} {k : Nat} (hc : X.calm = true) (T : PySem.XParseError.ParseErrorTxt X.K X.mg C fI) (hr : Room k X.A) (tk : Takes X W) (ha : PA X [a] ta) (hg : Gl X "ParseError" := by rfl)
    (he : starEach (a :: []) X.env = (false, eval a X.env) :: starEach [] X.env := by rfl) (hpl : (backTo pos (starEach [] X.env)).any (·.1) = false := by rfl) :
    PS X (.Raise (some (.Call (.Name "ParseError" p) [a] [] pos)) none pos2) (tRaiseParseError C W ta) := ps_raise hc tk (pmk_ParseError T hr ha hg he hpl)
/-- low.by, low the exception that the suite holds (at a; its class cls, its dict d) -/
def tByParseError (C : Addr) (a : Addr) (cls : Value) (d : Option Addr) (te : TE) : TE := fun σ H Q => te σ H fun x H1 => x = .ref a ∧ cls = .ref C ∧ ∃ (dd : Addr) (v : V), d = some dd ∧ H1 dd = some (.xd [(("index" : Str), v)]) ∧ Q v H1
theorem pe_byParseError {a : Addr} {oe : Obj} {cls : Value} {d : Option Addr} {pn : List (Addr × Obj)} {e : Expr} {te : TE} {pos : Pos} (T : PySem.XParseError.ParseErrorTxt X.K X.mg C fI) (hz : Zc cls d oe) (hf : ∃ vs, oe.data = .fields vs) (he : PE (X.suite a ((a, oe) :: pn)) e te)
    (hb : attributeBase e "index" X.env (eval e X.env) = eval e X.env := by rfl) :
    PE (X.suite a ((a, oe) :: pn)) (.Attribute e "index" pos) (tByParseError C a cls d te) := by
  refine ⟨fun pins s σ H Q I h => ?_⟩
  refine attr_of hb (thn (he.run pins s σ H _ I h) fun u s1 hh => ?_)
  obtain ⟨x, H1, I1, rx, ex, ec, dd, v, ed, ea, q⟩ := hh
  subst ex
  obtain rfl : u = Value.ref a := rx
  subst ec
  subst ed
  obtain ⟨ha, _⟩ := I1.pin (a, oe) (List.mem_append_left _ List.mem_cons_self)
  obtain ⟨vs, hd⟩ := hf
  have hx : ObjOk X.prog X.w H1 s1.heap dd (.xd [(("index" : Str), v)]) := I1.hok dd _ ea
  obtain ⟨mA, hns, hr⟩ := hx
  obtain ⟨od, ho, hl⟩ := lookIn_ns hns
  have l : List.lookup ("index" : Str) [(("index" : Str), v)] = some v := by simp [List.lookup]
  obtain ⟨u, hu, ru⟩ := RelO.some_of (v := v) (o := mA "index") (by rw [← l]; exact hr "index")
  have J : PySem.W.InstAt s1.heap a oe C (some od) := ⟨ha, hz.1, by unfold PySem.W.notCls; rw [hd] <;> rfl, by rw [hz.2]; exact ho⟩
  exact HandSPX.exc_get I1.kIn J T.ga T.gg T.exC (PySem.W.findObj_own T.hdC T.noN rfl (by rw [hl, hu])) (handed_of ru) ⟨v, H1, I1.tok _, ru, q⟩
end
end L2

set_option Elab.async false
set_option linter.all false
set_option maxRecDepth 100000
set_option maxHeartbeats 4000000
/-! try with several clauses «except x as n» of one name n. -/
namespace Gd
open PySem PySem.Spec PyProof.Rows L2
abbrev Clause := Value × (Addr → Value → Option Addr → TS)
/-- what the clauses wish, one after the other; slot i is the name's -/
def wAsAll (K : PySem.W.Frag) (i : Nat) (Wo : WX) (D : Ends) : List Clause → WX
  | [] => Wo
  | (c, ts) :: r => wAs K c i ts (wAsAll K i Wo D r) D
inductive AsOk (X : Cx) (n : Str) : List ExceptHandler → List Clause → Prop
  | nil : AsOk X n [] []
  | cons {x : Str} {c : Value} {ts : Addr → Value → Option Addr → TS} {b₀ : Stmt} {rows : List Stmt} {np po : Pos} {hds : List ExceptHandler} {l : List Clause} (hc : Names X x c)
      (hsu : ∀ (a : Addr) (oe : Obj) (k : Value) (d : Option Addr) (pn : List (Addr × Obj)), Zc k d oe → (∃ us, oe.data = .fields us) → PSs (X.suite a ((a, oe) :: pn)) (b₀ :: rows) (ts a k d)) (more : AsOk X n hds l) :
      AsOk X n (.ExceptHandler (some (.Name x np)) (some n) (b₀ :: rows) po :: hds) ((c, ts) :: l)
section
variable {X : Cx} {n : Str} {i : Nat} {body : List Stmt} {h₀ : ExceptHandler} {hds : List ExceptHandler} {l : List Clause} {pos : Pos} {tb : WX → TS} {Wo : WX}
theorem ps_try_asAll (hst : X.stack = X.env :: X.outer) (hfr0 : X.env.frame = some X.env.locals) (hN : X.N.Nodup) (hi : X.N[i]? = some n) (hl : X.env.kindOf n = some .local) (tk : Takes X Wo)
    (hb : ∀ (W : WX) (pn : List (Addr × Obj)) (xe : Value → Shared → Prop), Takes (X.tr pn xe) W → PassesOwn (model X.prog X.w) X.A X.env xe → PSs (X.tr pn xe) body (tb W))
    (hh : AsOk X n (h₀ :: hds) l) : PS X (.Try body (h₀ :: hds) [] [] pos) (fun D σ H => tb (wAsAll X.K i Wo D l) D σ H) := by
  constructor
  intro pins s0 σ0 H0 D I h
  have okX := I.ok
  have hfr : X.A.frames = some (X.env :: X.outer) := by rw [okX.frames, hst]
  have hloc : Loc X.env.scope n := .inl hl
  refine wpAny_Try_except ?_
  have go := hb (wAsAll X.K i Wo D l) (X.pn ++ pins) (fun e t₁ => wpAny (model X.prog X.w) X.A (noteFrame e X.env) (fun _ t₂ => wpAny (model X.prog X.w) X.A (setFlight e none) (fun _ t₃ =>
    wpAny (model X.prog X.w) X.A (handleBy e X.env (h₀ :: hds)) (SP X pins D) X.xe t₃) X.xe t₂) X.xe t₁) (fun u t' caught => ?_) PassesOwn.looking
  · refine wpAny_mono (go.run [] s0 σ0 H0 D (I.toTry _) h) (fun f t1 done => ?_) (fun e t1 z => z)
    match f, done with
    | .next, ⟨σ1, H1, J, q⟩ => exact wpAny_execs_nil ⟨σ1, H1, J.ofTry okX, q⟩
    | .brk, ⟨σ1, H1, J, q⟩ => exact ⟨σ1, H1, J.ofTry okX, q⟩
    | .cont, ⟨σ1, H1, J, q⟩ => exact ⟨σ1, H1, J.ofTry okX, q⟩
    | .ret u, ⟨v, σ1, H1, J, r, q⟩ => exact ⟨v, σ1, H1, J.ofTry okX, r, q⟩
  obtain ⟨a, B, sI, pins2, σ2, H2, cls, d, rfl, J0, nb, up, sky, na, os, ag, wish⟩ := caught
  have J : Inv X pins σ2 H2 sI := J0.ofTry okX
  have sky2 : Sky B (X.env :: X.outer) a (Zc cls d) X.env.locals t'.heap := by rw [← hst]; exact sky
  show wpAny (model X.prog X.w) X.A (noteFrame (.ref a) X.env) _ _ _
  refine Sky.land Zc.steady hfr hfr0 sky2 ?_
  intro h3 fl3 up3
  have J3 : Inv X pins σ2 H2 { t' with heap := h3 } := J.landed nb fl3.1 (up.trans up3) os ag
  obtain ⟨o3, vs3, at3, z3, d3⟩ := fl3.there
  have off : a ∉ frs (X.env :: X.outer) := by
    intro hm
    obtain ⟨_, o', e', hnf⟩ := fl3.2.2.1.mem hm
    rw [at3] at e'
    cases e'
    exact hnf _ d3
  have nL : a ≠ X.env.locals := by
    intro z
    exact off (List.mem_filterMap.mpr ⟨X.env, List.mem_cons_self, by rw [hfr0, z]⟩)
  have nF : a ∉ X.fs := by
    intro hm
    obtain ⟨e, he, q⟩ := List.mem_filterMap.mp hm
    exact off (List.mem_filterMap.mpr ⟨e, List.mem_cons_of_mem _ he, q⟩)
  have S3 := J3.suite at3 d3 na nL nF
  have clauses : ∀ (hs2 : List ExceptHandler) (l2 : List Clause), AsOk X n hs2 l2 → wAsAll X.K i Wo D l2 cls d σ2 H2 →
      wpAny (model X.prog X.w) X.A (handleBy (.ref a) X.env hs2) (SP X pins D) X.xe { t' with heap := h3 } := by
    intro hs2 l2 ok2
    induction ok2 with
    | nil =>
      intro wo
      refine wpAny_handleBy_nil ?_
      obtain ⟨_, _, _, oe, us, T, oT, ts2, at_, hz, hd, hT, hr⟩ := id fl3
      unfold PySem.passOn
      refine wpAny_bind (wpAny_field at_ hd hT ?_)
      rw [if_neg (show ¬ ((Value.ref T == Value.none) = true) by simp)]
      have out : wpAny (model X.prog X.w) X.A (setFlight (.ref a) X.env.frame) (fun _ t4 => wpAny (model X.prog X.w) X.A (throw (.ref a) : Sem Flow) (SP X pins D) X.xe t4) X.xe { t' with heap := h3 } := by
        rw [hfr0]
        refine HandSPX.setFlight_upZ fl3 ?_
        intro h4 hh4 up4
        refine wpAny_throw (tk _ _ ⟨a, B, sI, pins, σ2, H2, cls, d, rfl, J, nb, (up.trans up3).trans up4, .inr (.inr ?_), na, os, ag, wo⟩)
        rw [hst]
        exact hh4
      first
        | exact wpAny_bind (wpAny_pure (wpAny_bind out))
        | exact wpAny_bind out
    | @cons x c ts b₀ rows np po hds2 l3 hc hsu more ih =>
      rintro ⟨b, hb1, yes, no⟩
      refine wpAny_handleBy_cons (codeAny_handlers_test ?_) (by intro q; cases q)
      have LT : PySem.W.Looks (model X.prog X.w) h3 (typeOf (.ref a)) cls := by
        intro A Q E s k q
        exact wpAny_typeOf_ref (k _ _ at3) (by rw [z3.1]; exact q)
      have LM := PySem.W.exm_one (M := model X.prog X.w) J3.kIn LT hb1
      have named : ∀ {Q : Value → Shared → Prop} {E : Value → Shared → Prop}, Q c { t' with heap := h3 } → wpAny (model X.prog X.w) (X.A.mark (some (.ref a))) (eval (.Name x np) X.env) Q E { t' with heap := h3 } := by
        intro Q E q
        obtain ⟨hg, hdb, hm | ⟨hm, hv, hnn⟩⟩ := hc
        · exact ld_glob (X := X.suite a ((a, o3) :: (X.pn ++ pins))) S3 hg hm q hdb
        · exact ld_blt (X := X.suite a ((a, o3) :: (X.pn ++ pins))) S3 hg hm hv q hnn hdb
      refine named (LM.here ?_)
      cases b with
      | false =>
        show wpAny _ X.A (handleBy (.ref a) X.env hds2) _ _ _
        exact ih (no rfl)
      | true =>
        refine codeAny_handlers_suite_as ?_
        refine HandSPX.lands_againZ fl3 ?_
        intro h4 fl4 up4
        have J4 : Inv X pins σ2 H2 { t' with heap := h4 } := J.landed nb fl4.1 ((up.trans up3).trans up4) os ag
        obtain ⟨o4, vs4, at4, z4, d4⟩ := fl4.there
        refine store_ok (X := X.suite a ((a, o4) :: (X.pn ++ pins))) (v := .ref a) (J4.suite at4 d4 na nL nF) hN hi hloc rfl (fun t5 S5 => ?_) (.inr hl)
        refine wpAny_mono ((hsu a o4 cls d (X.pn ++ pins) z4 ⟨_, d4⟩).run [] t5 _ H2 _ S5 (yes rfl a na)) (fun f t6 done => ?_) (fun _ _ z => z.elim)
        have gone : ∀ {σ6 : L2.St} {H6 : Hp} {Q : Shared → Prop}, Inv (X.suite a ((a, o4) :: (X.pn ++ pins))) [] σ6 H6 t6 → (∀ t7, Inv X pins (σ6.set i none) H6 t7 → Q t7) →
            wpAny (model X.prog X.w) X.A (do bindName X.env n .none; unbindBehindTheSuite X.env n po) (fun _ t7 => Q t7) X.xe t6 := by
          intro σ6 H6 Q S6 hq
          exact gone_ok (S6.unsuite okX) hN hi hl hq
        match f, done with
        | .next, ⟨σ6, H6, S6, q6⟩ => exact gone S6 fun t7 J7 => ⟨_, _, J7, q6⟩
        | .brk, ⟨σ6, H6, S6, q6⟩ => exact gone S6 fun t7 J7 => ⟨_, _, J7, q6⟩
        | .cont, ⟨σ6, H6, S6, q6⟩ => exact gone S6 fun t7 J7 => ⟨_, _, J7, q6⟩
        | .ret u, ⟨v6, σ6, H6, S6, r6, q6⟩ => exact gone S6 fun t7 J7 => ⟨_, _, _, J7, r6, q6⟩
  exact clauses _ _ hh wish
end
end Gd

set_option Elab.async false
set_option linter.all false
set_option maxRecDepth 100000
set_option maxHeartbeats 4000000
/-! repr of any datum, its kind known only when it runs. -/
namespace Gd
open PySem PySem.Spec PyProof.Rows L2
/-- what repr gives of x -/
def ShowV (K : PySem.W.Frag) (H : Hp) (x : V) (t : Str) : Prop := (x = .non ∧ t = "None") ∨ (∃ b, x = .bl b ∧ t = if b = true then ("True" : Str) else ("False" : Str)) ∨ (∃ i : Int, x = .int i ∧ i.natAbs.log2 < 1920 ∧ t = toString i) ∨
  (∃ y : Str, x = .str y ∧ (reprText y).length ≤ sizeLine ∧ t = reprText y) ∨ ∃ a d, x = .ref a ∧ Dp K H (.ref a) d ∧ d.showable = true ∧ d.hasDict = false ∧ d.depth ≤ 60 ∧ d.shown.length ≤ sizeLine ∧ t = d.shown
def rReprV (K : PySem.W.Frag) : List V → Hp → VK → Prop := fun xs H Q => ∃ x t, xs = [x] ∧ ShowV K H x t ∧ Q (.str t) H
theorem call_reprV {X : Cx} (hg : NoG X.A) (hu : X.A.units + 64 < cLine) : CallR X (.builtin "repr") (rReprV X.K) := by
  intro pins s σ H xs us Q I r h
  obtain ⟨x, t, rfl, h, q⟩ := h
  obtain ⟨u, rfl, hu1⟩ := vals1 r
  rcases h with ⟨rfl, rfl⟩ | ⟨b, rfl, rfl⟩ | ⟨i, rfl, hi, rfl⟩ | ⟨y, rfl, hl, rfl⟩ | ⟨a, d, rfl, hd, h1, h2, h3, h4, rfl⟩
  · cases hu1
    exact PySem.P.repr_of_none ⟨.str _, H, I.tok _, ⟨_, rfl⟩, q⟩
  · cases hu1
    exact PySem.P.repr_of_bool ⟨.str _, H, I.tok _, ⟨_, rfl⟩, q⟩
  · obtain ⟨t, rfl⟩ := hu1
    exact PySem.P.repr_of_int hi ⟨.str _, H, I.tok _, ⟨_, rfl⟩, q⟩
  · obtain ⟨t, rfl⟩ := hu1
    exact PySem.P.repr_of_str ⟨.str _, H, I.tok _, ⟨_, rfl⟩, q⟩ hl
  · exact call_repr hg hu pins s σ H _ _ Q I (.cons hu1 .nil) ⟨a, d, rfl, hd, h1, h2, h3, h4, q⟩
end Gd

set_option Elab.async false
set_option linter.all false
set_option maxRecDepth 100000
set_option maxHeartbeats 4000000
/-! Readings, step by step: one lemma a word of the readings, and a tactic that goes as far as nothing is asked. -/
namespace Gd
open PySem PySem.Spec PyProof.Rows L2
section
variable {σ : L2.St} {H : Hp} {Q : VK} {QA : List V → Hp → Prop} {QT : Bool → Hp → Prop} {D : Ends} {te ta tb tc to : TE} {t u : TT} {tr : TA} {s1 s2 : TS} {v : V} {i : Nat} {K : PySem.W.Frag}
theorem g_var (h : σ[i]? = some (some v)) (k : Q v H) : tVar i σ H Q := ⟨v, h, k⟩
theorem g_c (k : Q v H) : tC v σ H Q := k
theorem g_ret (k : te σ H D.rt) : tRet te D σ H := k
theorem g_retN (k : D.rt .non H) : tRetN D σ H := k
theorem g_seq (k : s1 { D with nx := s2 D } σ H) : tSeq s1 s2 D σ H := k
theorem g_next (k : D.nx σ H) : tNext D σ H := k
theorem g_drop (k : te σ H fun _ H1 => D.nx σ H1) : tDrop te D σ H := k
theorem g_asg {g : TG} (k : te σ H fun x H1 => g x σ H1 D.nx) : tAsg te g D σ H := k
theorem g_name {Qs : L2.St → Hp → Prop} (k : Qs (σ.set i (some v)) H) : gName i v σ H Qs := k
theorem g_ifs (k : t σ H fun b H1 => if b = true then s1 D σ H1 else s2 D σ H1) : tIfS t s1 s2 D σ H := k
theorem g_test (k : te σ H fun x H' => ∃ c, x = .bl c ∧ QT c H') : tTest te σ H QT := k
theorem g_tb (k : te σ H fun x H' => ∃ c, x = .bl c ∧ QT c H') : tB te σ H QT := k
theorem g_and (k : t σ H fun c H1 => if c = true then u σ H1 QT else QT false H1) : tAnd t u σ H QT := k
theorem g_or (k : t σ H fun c H1 => if c = true then QT true H1 else u σ H1 QT) : tOr t u σ H QT := k
theorem g_not (k : t σ H fun c H1 => QT (!c) H1) : tNot t σ H QT := k
theorem g_andV (k : ta σ H fun x H1 => ∃ c, x = .bl c ∧ if c = true then tb σ H1 Q else Q (.bl false) H1) : tAndV ta tb σ H Q := k
theorem g_orV (k : ta σ H fun x H1 => ∃ c, x = .bl c ∧ if c = true then Q (.bl true) H1 else tb σ H1 Q) : tOrV ta tb σ H Q := k
theorem g_notV (k : ta σ H fun x H1 => ∃ c, x = .bl c ∧ Q (.bl (!c)) H1) : tNotV ta σ H Q := k
theorem g_if (k : t σ H fun c H1 => if c = true then ta σ H1 Q else tb σ H1 Q) : tIf t ta tb σ H Q := k
theorem g_op {r : R2} (k : ta σ H fun x H1 => tb σ H1 fun y H2 => r x y H2 Q) : tOp r ta tb σ H Q := k
theorem g_un {r : V → Hp → VK → Prop} (k : ta σ H fun x H1 => r x H1 Q) : tUn r ta σ H Q := k
theorem g_cb {r : List V → Hp → VK → Prop} (k : tr σ H fun vs H1 => r vs H1 Q) : tCB r tr σ H Q := k
theorem g_nil (k : QA [] H) : tNil σ H QA := k
theorem g_cons (k : ta σ H fun x H1 => tr σ H1 fun xs H2 => QA (x :: xs) H2) : tCons ta tr σ H QA := k
theorem g_call {sp : Sp} {dvs : List V} {E : XK} (k : tr σ H fun vs H1 => sp (vs ++ dvs) H1 Q E) : tCall sp dvs E tr σ H Q := k
theorem g_callS {sp : Sp} {E : L2.St → XK} (k : tr σ H fun vs H1 => sp vs H1 Q (E σ)) : tCallS sp E tr σ H Q := k
theorem g_tup (k : tr σ H fun xs H1 => xs.length ≤ sizeLine ∧ ∀ p, H1 p = none → Q (.ref p) (upd H1 p (.tup xs))) : tTup tr σ H Q := k
theorem g_lst (k : tr σ H fun xs H1 => xs.length ≤ sizeLine ∧ ∀ p, H1 p = none → Q (.ref p) (upd H1 p (.lst xs))) : tLst tr σ H Q := k
theorem g_isN (k : ta σ H fun x H1 => Q (.bl (decide (x = .non))) H1) : tIsN ta σ H Q := k
theorem g_sl {r : V → Option Int → Option Int → Hp → VK → Prop} {tl th : TO} (k : te σ H fun x H1 => tl σ H1 fun l H2 => th σ H2 fun u H3 => r x l u H3 Q) : tSl r te tl th σ H Q := k
theorem g_nopart {Qo : Option Int → Hp → Prop} (k : Qo none H) : tNoPart σ H Qo := k
theorem g_part {Qo : Option Int → Hp → Prop} (k : te σ H fun x H1 => ∃ i, x = .int i ∧ Qo (some i) H1) : tPart te σ H Qo := k
theorem g_chain {r r' : R2} (k : ta σ H fun x H1 => tb σ H1 fun y H2 => r x y H2 fun z H3 => ∃ c, z = .bl c ∧
    if c = true then tc σ H3 fun w H4 => r' y w H4 Q else Q (.bl false) H3) : tChain r r' ta tb tc σ H Q := by
  exact k
theorem g_fld {f : Str} (k : ta σ H fun x H1 => ∃ a C dx fs v, x = .ref a ∧ H1 a = some (.ins C dx fs) ∧ Cls K C ∧ NoAttr K C f ∧ fs.lookup f = some v ∧ Q v H1) : tFld K ta f σ H Q := k
theorem g_prop {C : Addr} {sp : Sp} {dvs : List V} {E : XK} (k : ta σ H fun x H1 => ∃ a dx fs, x = .ref a ∧ H1 a = some (.ins C dx fs) ∧ sp (.ref a :: dvs) H1 Q E) : tProp C sp dvs E ta σ H Q := k
theorem g_bm {T : String} {r : V → List V → Hp → VK → Prop} (k : to σ H fun x H1 => tyV K T x H1 ∧ tr σ H1 fun xs H2 => r x xs H2 Q) : tBM K T r to tr σ H Q := k
theorem g_bm0 {T : String} {r : V → List V → Hp → VK → Prop} (k : to σ H fun x H1 => tyV K T x H1 ∧ r x [] H1 Q) : tBM0 K T r to σ H Q := k
theorem g_tru {r : V → Hp → (Bool → Hp → Prop) → Prop} (k : te σ H fun x H' => r x H' QT) : (fun (σ : L2.St) (H : Hp) (Q : Bool → Hp → Prop) => te σ H fun x H' => r x H' Q) σ H QT := k
-- values
theorem g_I0 {g : Int → Int → V} {a b : Int} (k : Q (g a b) H) : rI0 g (.int a) (.int b) H Q := ⟨a, b, rfl, rfl, k⟩
theorem g_I {C : Int → Int → Prop} {g : Int → Int → V} {a b : Int} (c : C a b) (k : Q (g a b) H) : rI C g (.int a) (.int b) H Q := ⟨a, b, rfl, rfl, c, k⟩
theorem g_U {g : Int → V} {a : Int} (k : Q (g a) H) : rU g (.int a) H Q := ⟨a, rfl, k⟩
theorem g_eqI {a b : Int} (k : Q (.bl (decide (a = b))) H) : rEq (.int a) (.int b) H Q := by
  refine ⟨rfl, ?_⟩
  have e : (V.int a = V.int b) = (a = b) := by simp
  simpa [e] using k
theorem g_eq {x y : V} (s : scal x y = true) (k : Q (.bl (decide (x = y))) H) : rEq x y H Q := ⟨s, k⟩
theorem g_ne {x y : V} (s : scal x y = true) (k : Q (.bl (!decide (x = y))) H) : rNe x y H Q := ⟨s, k⟩
theorem g_bl {b : Bool} (k : QT b H) : ∃ c, (V.bl b) = .bl c ∧ QT c H := ⟨b, rfl, k⟩
theorem g_blV {b : Bool} {A : Bool → Prop} (k : A b) : ∃ c, (V.bl b) = .bl c ∧ A c := ⟨b, rfl, k⟩
theorem g_inV {a : Int} {A : Int → Prop} (k : A a) : ∃ c, (V.int a) = .int c ∧ A c := ⟨a, rfl, k⟩
theorem g_ixT {p : Addr} {xs : List V} {a : Int} (h : SqT K H p xs) (e : atI xs a = some v) (k : Q v H) : rIxT K (.ref p) (.int a) H Q := ⟨p, xs, a, v, rfl, rfl, h, e, k⟩
theorem g_ixL {p : Addr} {xs : List V} {a : Int} (h : SqL K H p xs) (e : atI xs a = some v) (k : Q v H) : rIxL K (.ref p) (.int a) H Q := ⟨p, xs, a, v, rfl, rfl, h, e, k⟩
end

/-- the turn's end: the invariant again, the measure less -/
abbrev Turn (Pv : L2.St → Hp → Prop) (μ : L2.St → Hp → Nat) (m : Nat) : L2.St → Hp → Prop := fun σ' H' => Pv σ' H' ∧ μ σ' H' < m
theorem g_while {c : TT} {tb : TS} {D : Ends} {σ : L2.St} {H : Hp} (Pv : L2.St → Hp → Prop) (μ : L2.St → Hp → Nat) (h0 : Pv σ H)
    (hs : ∀ σ H, Pv σ H → c σ H fun b H1 => if b = true then ∃ N : L2.St → Hp → Prop, (∀ σ' H', N σ' H' → ∃ m', m' < μ σ H ∧ m' = μ σ' H' ∧ Pv σ' H') ∧
      tb { D with nx := N, ct := N, bk := D.nx } σ H1 else D.nx σ H1) : tWhile c tb D σ H := by
  refine ⟨fun m σ H => m = μ σ H ∧ Pv σ H, ⟨_, rfl, h0⟩, ?_⟩
  rintro m σ H ⟨rfl, p⟩
  exact hs σ H p
theorem g_turn {tb : TS} {D : Ends} {σ : L2.St} {H H1 : Hp} {Pv : L2.St → Hp → Prop} {μ : L2.St → Hp → Nat}
    (h : tb { D with nx := Turn Pv μ (μ σ H), ct := Turn Pv μ (μ σ H), bk := D.nx } σ H1) :
    ∃ N : L2.St → Hp → Prop, (∀ σ' H', N σ' H' → ∃ m', m' < μ σ H ∧ m' = μ σ' H' ∧ Pv σ' H') ∧ tb { D with nx := N, ct := N, bk := D.nx } σ H1 :=
  ⟨Turn Pv μ (μ σ H), fun σ' H' n => ⟨_, n.2, rfl, n.1⟩, h⟩
theorem g_aug {σ : L2.St} {H : Hp} {D : Ends} {i : Nat} {te : TE} {ti : TIp} {x : V} (h : σ[i]? = some (some x)) (k : te σ H fun y H1 => ti x y H1 fun z H2 => D.nx (σ.set i (some z)) H2) : tAug i te ti D σ H := ⟨x, h, k⟩
theorem tyT {K : PySem.W.Frag} {H : Hp} {a : Addr} {xs : List V} (h : SqT K H a xs) : TyX K H (.ref a) (.type "tuple") := by
  rcases h with (h | ⟨o, h⟩) | ⟨o, its, n, h, c, _⟩
  · exact .base (.tup h)
  · exact .fTuple h
  · exact .kTuple h c
theorem tyL {K : PySem.W.Frag} {H : Hp} {a : Addr} {xs : List V} (h : SqL K H a xs) : TyX K H (.ref a) (.type "list") ∨ ∃ o, K.lookup a = some o := by
  rcases h with (h | ⟨o, h⟩) | ⟨o, its, n, h, c, _⟩
  · exact .inl (.base (.lst h))
  · exact .inl (.base (.frz h))
  · exact .inr ⟨o, h⟩

theorem g_yes {σ : L2.St} {H : Hp} {Q : Bool → Hp → Prop} (k : Q true H) : tYes σ H Q := k
theorem g_sfld {σ : L2.St} {H : Hp} {D : Ends} {K : PySem.W.Frag} {ta te : TE} {f : Str} (k : te σ H fun y H1 => ta σ H1 fun x H2 => ∃ a C dx fs, x = .ref a ∧ H2 a = some (.ins C dx fs) ∧ Cls K C ∧ NoAttr K C f ∧
    fs.length < 1000 ∧ D.nx σ (upd H2 a (.ins C dx (putF f y fs)))) : sFld K ta te f D σ H := k
theorem g_int1 {a : Int} {A : Int → Prop} (k : A a) : ∃ i, [V.int a] = [V.int i] ∧ A i := ⟨a, rfl, k⟩
theorem g_int2 {a b : Int} {A : Int → Int → Prop} (k : A a b) : ∃ i j, [V.int a, V.int b] = [V.int i, V.int j] ∧ A i j := ⟨a, b, rfl, k⟩
theorem g_sub {σ : L2.St} {H : Hp} {Qs : L2.St → Hp → Prop} {to ti : TE} {t : TSet} {v : V} (k : to σ H fun o H1 => ti σ H1 fun i H2 => t o i v H2 fun H3 => Qs σ H3) : gSub to ti t v σ H Qs := k
theorem g_NT {A B : Prop} (h : B) : if (!true) = true then A else B := h
theorem g_NF {A B : Prop} (h : A) : if (!false) = true then A else B := h
end Gd

set_option Elab.async false
set_option linter.all false
set_option maxRecDepth 100000
set_option maxHeartbeats 4000000
/-! More readings. -/
namespace Gd
open PySem PySem.Spec PyProof.Rows L2
theorem g_forR {ta : TA} {g : TG} {tb : TS} {D : Ends} {σ : L2.St} {H : Hp} (k : ta σ H fun vs H1 => ∃ j : Int, vs = [.int j] ∧ -(2 ^ 62) ≤ j ∧ j < 2 ^ 62 ∧ ∃ W : Nat → Nat → L2.St → Hp → Prop, (∃ m, W 0 m σ H1) ∧ ∀ i m σ H, W i m σ H →
  ((Itr 0 j.toNat).stop i H ∧ D.nx σ H) ∨ ((Itr 0 j.toNat).go i H ∧ ∃ N : L2.St → Hp → Prop, (∀ σ' H', N σ' H' → ∃ m', m' < m ∧ W (i + 1) m' σ' H') ∧ ∀ x H', (Itr 0 j.toNat).yld i H x H' → g x σ H' fun σ2 H2 => tb { D with nx := N, ct := N, bk := D.nx } σ2 H2)) :
    tFor (iRng1 ta) g tb D σ H := k
theorem g_ifV {c : Bool} {ta tb : TE} {σ : L2.St} {H : Hp} {Q : VK} (v : V) (ha : c = true → ∀ Q' : VK, Q' v H → ta σ H Q') (hb : c = false → ∀ Q' : VK, Q' v H → tb σ H Q') (k : Q v H) : if c = true then ta σ H Q else tb σ H Q := by
  cases c with
  | true => exact ha rfl Q k
  | false => exact hb rfl Q k
theorem g_neS {x : Str} {H : Hp} {Q : VK} (k : Q (.bl false) H) : rNe (.str x) (.str x) H Q := ⟨rfl, by simpa using k⟩
theorem g_ixO {C : Addr} {sp : Sp} {E : L2.St → XK} {ta tb : TE} {σ : L2.St} {H : Hp} {Q : VK} (k : ta σ H fun x H1 => tb σ H1 fun y H2 => ∃ p dx fs, x = .ref p ∧ H2 p = some (.ins C dx fs) ∧ sp [x, y] H2 Q (E σ)) : tIxO C sp E ta tb σ H Q := k
/-- a place that is reached from more than one side -/
theorem g_cut {s1 s2 : TS} {D : Ends} {σ : L2.St} {H : Hp} (N : L2.St → Hp → Prop) (hN : ∀ σ' H', N σ' H' → s2 D σ' H') (k : (∀ σ' H', N σ' H' → s2 D σ' H') → s1 { D with nx := s2 D } σ H) : tSeq s1 s2 D σ H := k hN
theorem g_eqS {x : Str} {H : Hp} {Q : VK} (k : Q (.bl true) H) : rEq (.str x) (.str x) H Q := ⟨rfl, by simpa using k⟩
theorem g_par {i j : Nat} {ta : TA} {D : Ends} {σ : L2.St} {H : Hp} (k : ta σ H fun vs H1 => ∃ v w, vs = [v, w] ∧ D.nx ((σ.set i (some v)).set j (some w)) H1) : tPar i j ta D σ H := k
theorem g_make {C : Addr} {sp : Sp} {dvs : List V} {E : XK} {t : TA} {σ : L2.St} {H : Hp} {Q : VK} (k : t σ H fun vs H1 => ∀ x dx, H1 x = none → H1 dx = none → dx ≠ x →
  sp (.ref x :: (vs ++ dvs)) (upd (upd H1 dx (.own x)) x (.ins C dx [])) (fun v H2 => v = .non ∧ Q (.ref x) H2) E) : tMake C sp dvs E t σ H Q := k
end Gd

set_option Elab.async false
set_option linter.all false
set_option maxRecDepth 100000
set_option maxHeartbeats 4000000
/-! Readings by name, for the bodies of comprehensions. -/
namespace Gd
open PySem PySem.Spec PyProof.Rows L2
def rLenS (K : PySem.W.Frag) : List V → Hp → VK → Prop := fun xs H Q => ∃ p ys, xs = [.ref p] ∧ (SqL K H p ys ∨ SqT K H p ys) ∧ Q (.int (ys.length : Int)) H
def rListOf (K : PySem.W.Frag) : List V → Hp → VK → Prop := fun xs H Q => ∃ p ys, xs = [.ref p] ∧ (SqL K H p ys ∨ SqT K H p ys) ∧ ∀ l, H l = none → Q (.ref l) (upd H l (.lst ys))
def rTupOf (K : PySem.W.Frag) : List V → Hp → VK → Prop := fun xs H Q => ∃ p ys, xs = [.ref p] ∧ ((SqL K H p ys ∧ ∀ l, H l = none → Q (.ref l) (upd H l (.tup ys))) ∨ (SqT K H p ys ∧ Q (.ref p) H))
theorem call_lenS {X : Cx} : CallR X (.builtin "len") (rLenS X.K) := call_len_seq
theorem call_listS {X : Cx} : CallR X (.type "list") (rListOf X.K) := call_list_of
theorem call_tupS {X : Cx} : CallR X (.type "tuple") (rTupOf X.K) := call_tuple_of
end Gd

set_option Elab.async false
set_option linter.all false
set_option maxRecDepth 100000
set_option maxHeartbeats 4000000
/-! Heaps that grow; comprehensions told as maps. -/
namespace Q0

open PySem PySem.Spec PyProof.Rows L2 Gd
open LamX (ExtN)

local macro_rules | `(tactic| walk_at "rd1") => `(tactic| first | with_reducible refine g_ret ?_ | with_reducible refine g_retN ?_ | with_reducible refine g_seq ?_ | with_reducible refine g_next ?_ | with_reducible refine g_drop ?_ | with_reducible refine g_asg ?_ | with_reducible refine g_name ?_ | with_reducible refine g_ifs ?_ | with_reducible refine g_test ?_ | with_reducible refine g_tb ?_ | with_reducible refine g_and ?_ | with_reducible refine g_or ?_ | with_reducible refine g_not ?_ | with_reducible refine g_andV ?_ | with_reducible refine g_orV ?_ | with_reducible refine g_notV ?_ | with_reducible refine g_if ?_ | with_reducible refine g_op ?_ | with_reducible refine g_un ?_ | with_reducible refine g_cb ?_ | with_reducible refine g_nil ?_ | with_reducible refine g_cons ?_ | with_reducible refine g_call ?_ | with_reducible refine g_callS ?_ | with_reducible refine g_tup ?_ | with_reducible refine g_lst ?_ | with_reducible refine g_isN ?_ | with_reducible refine g_sl ?_ | with_reducible refine g_nopart ?_ | with_reducible refine g_part ?_ | with_reducible refine g_chain ?_ | with_reducible refine g_fld ?_ | with_reducible refine g_prop ?_ | with_reducible refine g_bm ?_ | with_reducible refine g_bm0 ?_ | with_reducible refine g_c ?_ | with_reducible refine g_sub ?_ | with_reducible refine g_int1 ?_ | with_reducible refine g_int2 ?_ | with_reducible refine g_yes ?_ | with_reducible refine g_sfld ?_ | with_reducible refine g_NT ?_ | with_reducible refine g_NF ?_ | with_reducible refine iteT ?_ | with_reducible refine iteF ?_ | ((with_reducible refine' g_aug ?hv ?_); (case hv => exact rfl)) | ((with_reducible refine' g_var ?hv ?_); (case hv => exact rfl)) | with_reducible refine g_I0 ?_ | with_reducible refine g_U ?_ | with_reducible refine g_eqI ?_ | with_reducible refine g_blV ?_ | with_reducible refine g_inV ?_)
local macro_rules | `(tactic| walk_at "rd") => `(tactic| repeat walk_at "rd1")

section
open PySem PySem.Spec PyProof.Rows L2 Gd
open LamX (ExtN)
def Ext (H H' : Hp) : Prop := ∀ b o, H b = some o → H' b = some o
theorem Ext.rfl' {H : Hp} : Ext H H := fun _ _ h => h
theorem Ext.new {H : Hp} {p : Addr} {o : HO} (h : H p = none) : Ext H (upd H p o) := fun b u e => by
  rw [upd_ne (ne_of_none e h)]
  exact e
theorem Ext.trans {H H1 H2 : Hp} (a : Ext H H1) (b : Ext H1 H2) : Ext H H2 := fun c o h => b c o (a c o h)
def ExtBut (p : Addr) (H H' : Hp) : Prop := ∀ b o, b ≠ p → H b = some o → H' b = some o
theorem ExtBut.trans {d : Addr} {H H1 H2 : Hp} (a : ExtBut d H H1) (b : ExtBut d H1 H2) : ExtBut d H H2 := fun x o n h => b x o n (a x o n h)
theorem ExtBut.of {d : Addr} {H H1 : Hp} (a : Ext H H1) : ExtBut d H H1 := fun x o _ h => a x o h
section
variable {K : PySem.W.Frag} {H H' : Hp} {a d : Addr} {xs ys : List V}
theorem sqT_ext (e : Ext H H') (h : SqT K H a xs) : SqT K H' a xs := by
  rcases h with (h | ⟨o, h⟩) | h
  · exact .inl (.inl (e _ _ h))
  · exact .inl (.inr ⟨o, e _ _ h⟩)
  · exact .inr h
theorem sqL_ext (e : Ext H H') (h : SqL K H a xs) : SqL K H' a xs := by
  rcases h with (h | ⟨o, h⟩) | h
  · exact .inl (.inl (e _ _ h))
  · exact .inl (.inr ⟨o, e _ _ h⟩)
  · exact .inr h
theorem sqT_but (e : ExtBut d H H') (n : a ≠ d) (h : SqT K H a xs) : SqT K H' a xs := by
  rcases h with (h | ⟨o, h⟩) | h
  · exact .inl (.inl (e _ _ n h))
  · exact .inl (.inr ⟨o, e _ _ n h⟩)
  · exact .inr h
theorem sqL_but (e : ExtBut d H H') (n : a ≠ d) (h : SqL K H a xs) : SqL K H' a xs := by
  rcases h with (h | ⟨o, h⟩) | h
  · exact .inl (.inl (e _ _ n h))
  · exact .inl (.inr ⟨o, e _ _ n h⟩)
  · exact .inr h
/-- a tuple beside a list that changes -/
theorem sqT_butL (hd : H d = some (.lst ys)) (e : ExtBut d H H') (h : SqT K H a xs) : SqT K H' a xs := by
  rcases h with (h | ⟨o, h⟩) | h
  · exact .inl (.inl (e _ _ (fun z => by rw [z, hd] at h; cases h) h))
  · exact .inl (.inr ⟨o, e _ _ (fun z => by rw [z, hd] at h; cases h) h⟩)
  · exact .inr h
theorem new_ne {o : HO} (h : H a = some o) (n : H d = none) : d ≠ a := fun z => by
  rw [z, h] at n
  cases n
theorem new_up (e : Ext H H') (h : H' d = none) : H d = none := by
  cases q : H d with
  | none => rfl
  | some o =>
    have := e _ _ q
    rw [h] at this
    cases this
theorem mapget {α : Type} {ns : List α} {f : α → V} {i : Nat} : (ns.map f)[i]? = (ns[i]?).map f := List.getElem?_map
end
/-! ### texts kept small: the frame's own K, and what comes behind a turn as a letter -/
theorem cx_nox (X : Cx) : X.nox.K = X.K := rfl
theorem cx_K {CX : CXT} {P : Program} {w : World} {K : PySem.W.Frag} {mg : Str → Option Value} {base : Heap} {N : List Str} {q : Str} {sc : Scope} {f : Addr} {cd : Value} {A : Around} {o : List Env} {s : Shared} {H : Hp} {E : XK} : (cxOf CX P w K mg base N q sc f cd A o s H E).K = K := rfl
theorem g_gen {tb : TS} {D : Ends} {σ : L2.St} {H : Hp} (h : ∀ D' : Ends, (∀ σ H, D.nx σ H → D'.nx σ H) → (∀ v H, D.rt v H → D'.rt v H) → tb D' σ H) : tb D σ H := h D (fun _ _ z => z) fun _ _ z => z
/-! ### comprehensions -/
section
variable {J : It} {n : Nat} {G : Hp → Prop} {Y : Nat → Hp → V → Hp → Prop} {g : TG} {tt : TT} {te : TE} {vs : List Nat} {σ : L2.St} {H1 : Hp} {D : Addr} {Qd : Hp → Prop}
/-- the indices that are taken -/
def idx (c : Nat → Bool) (n : Nat) : List Nat := (List.range n).filter c
theorem idx_succ (c : Nat → Bool) (n : Nat) : idx c (n + 1) = if c n then idx c n ++ [n] else idx c n := by
  unfold idx
  rw [List.range_succ, List.filter_append]
  cases h : c n <;> simp [h]
theorem idx_len (c : Nat → Bool) (n : Nat) : (idx c n).length ≤ n := by
  have := List.length_filter_le c (List.range n)
  rw [List.length_range] at this
  exact this
/-- results that stand in a relation to the turn -/
def Rel (R : Nat → V → Hp → Prop) (is : List Nat) (ys : List V) (H : Hp) : Prop := is.length = ys.length ∧ ∀ (j i : Nat) (y : V), is[j]? = some i → ys[j]? = some y → R i y H
/-- what a relation says stays where nothing but lists at one place change -/
def Mono (R : Nat → V → Hp → Prop) : Prop := ∀ i y D ys H H', (H D = none ∨ H D = some (.lst ys)) → ExtBut D H H' → R i y H → R i y H'
theorem Mono.ext {R : Nat → V → Hp → Prop} (mono : Mono R) {i : Nat} {y : V} {H H' : Hp} (e : Ext H H') (h : R i y H) (D : Addr) (ys : List V) (hd : H D = none ∨ H D = some (.lst ys)) : R i y H' := mono i y D ys H H' hd (ExtBut.of e) h
theorem Rel.ext {R : Nat → V → Hp → Prop} (mono : ∀ i y H H', Ext H H' → R i y H → R i y H') {is : List Nat} {ys : List V} {H H' : Hp} (e : Ext H H') (h : Rel R is ys H) : Rel R is ys H' := ⟨h.1, fun j i y a b => mono i y H H' e (h.2 j i y a b)⟩
theorem Rel.snoc {R : Nat → V → Hp → Prop} {is : List Nat} {ys : List V} {H : Hp} {i : Nat} {y : V} (h : Rel R is ys H) (hy : R i y H) : Rel R (is ++ [i]) (ys ++ [y]) H := by
  refine ⟨by rw [List.length_append, List.length_append, h.1]; rfl, fun j i' y' a b => ?_⟩
  by_cases hj : j < is.length
  · rw [List.getElem?_append_left hj] at a
    rw [List.getElem?_append_left (by rw [← h.1]; exact hj)] at b
    exact h.2 j i' y' a b
  · rw [List.getElem?_append_right (by omega)] at a
    rw [List.getElem?_append_right (by rw [← h.1]; omega), ← h.1] at b
    cases q : j - is.length with
    | zero =>
      rw [q] at a b
      cases a
      cases b
      exact hy
    | succ m =>
      rw [q] at a
      cases a
theorem lc_rel (w : Walk J n G Y) (R : Nat → V → Hp → Prop) (c : Nat → Bool) (mono : Mono R) (hD : H1 D = none) (hG : ∀ H', Ext H1 H' → G H') (sz : n < sizeLine)
    (body : ∀ i x H' H'', i < n → Ext H1 H' → Y i H' x H'' → ∀ (Qe : VK) (Qn : Hp → Prop), (∀ y H3, Ext H' H3 → R i y H3 → c i = true → Qe y H3) → (∀ H3, Ext H' H3 → c i = false → Qn H3) →
      g x (wipe σ vs) H'' fun σ2 H2 => wipe σ2 vs = wipe σ vs ∧ tt σ2 H2 fun b H3 => if b = true then te σ2 H3 Qe else Qn H3)
    (k : ∀ H' ys, Ext H1 H' → H' D = some (.lst ys) → Rel R (idx c n) ys H' → Qd H') :
    ∃ W : Nat → Nat → Hp → Prop, (∃ m, W 0 m (upd H1 D (.lst []))) ∧ ∀ i m H, W i m H →
      (J.stop i H ∧ Qd H) ∨ (J.go i H ∧ ∃ Nx : Hp → Prop, (∀ H', Nx H' → ∃ m', m' < m ∧ W (i + 1) m' H') ∧ ∀ x H', J.yld i H x H' → g x (wipe σ vs) H' fun σ2 H2 => wipe σ2 vs = wipe σ vs ∧ tt σ2 H2 fun b H3 =>
        if b = true then te σ2 H3 fun y H4 => ∃ acc, H4 D = some (.lst acc) ∧ acc.length < sizeLine ∧ Nx (upd H4 D (.lst (acc ++ [y]))) else Nx H3) := by
  refine lc_it w (fun i H' => ∃ ys, Ext H1 H' ∧ H' D = some (.lst ys) ∧ Rel R (idx c i) ys H') ⟨[], Ext.new hD, upd_same, rfl, fun j i y h => by cases h⟩ (fun i H' _ ⟨ys, e, _⟩ => hG H' e) ?_ ?_
  · rintro i x H' H'' hi ⟨ys, e, hd, hr⟩ hy
    have hys : ys.length < sizeLine := by
      have := idx_len c i
      have := hr.1
      omega
    refine body i x H' H'' hi e hy _ _ (fun y H3 e3 hR hc => ⟨ys, e3 _ _ hd, hys, ys ++ [y], ?_, upd_same, ?_⟩) (fun H3 e3 hc => ⟨ys, Ext.trans e e3, e3 _ _ hd, ?_⟩)
    · intro b o q
      rw [upd_ne (ne_of_none q hD)]
      exact e3 _ _ (e b o q)
    · rw [idx_succ, hc, if_pos rfl]
      have h3 : H3 D = some (.lst ys) := e3 _ _ hd
      have eB : ExtBut D H3 (upd H3 D (.lst (ys ++ [y]))) := fun b o n q => by
        rw [upd_ne n]
        exact q
      refine Rel.snoc ⟨hr.1, fun j i' y' a b => ?_⟩ (mono _ _ D ys _ _ (.inr h3) eB hR)
      exact mono _ _ D ys _ _ (.inr h3) eB (mono _ _ D ys _ _ (.inr hd) (ExtBut.of e3) (hr.2 j i' y' a b))
    · rw [idx_succ, hc, if_neg (by decide)]
      exact ⟨hr.1, fun j i' y' a b => mono _ _ D ys _ _ (.inr hd) (ExtBut.of e3) (hr.2 j i' y' a b)⟩
  · rintro H' ⟨ys, e, hd, hr⟩
    exact k H' ys e hd hr
theorem mono_fun (f : Nat → V) : Mono (fun i y _ => y = f i) := fun _ _ _ _ _ _ _ _ h => h
theorem rel_fun {f : Nat → V} {is : List Nat} {ys : List V} {H : Hp} (h : Rel (fun i y _ => y = f i) is ys H) : ys = is.map f := by
  refine List.ext_getElem? fun j => ?_
  rw [List.getElem?_map]
  cases a : is[j]? with
  | none =>
    have := List.getElem?_eq_none_iff.mp a
    rw [h.1] at this
    rw [List.getElem?_eq_none_iff.mpr this]
    rfl
  | some i =>
    have hj := (List.getElem?_eq_some_iff.mp a).1
    rw [h.1] at hj
    rw [List.getElem?_eq_getElem hj]
    exact congrArg some (h.2 j i _ a (List.getElem?_eq_getElem hj))
theorem idx_all (n : Nat) : idx (fun _ => true) n = List.range n := by
  unfold idx
  simp
/-- over the items of a list: taken ones, changed -/
theorem idx_items' {α β : Type} (xs : List α) (z : α) (c : α → Bool) (f : α → β) : (idx (fun i => c (xs.getD i z)) xs.length).map (fun i => f (xs.getD i z)) = (xs.filter c).map f := by
  unfold idx
  induction xs with
  | nil => rfl
  | cons x r ih =>
    rw [List.length_cons, List.range_succ_eq_map, List.filter_cons, List.filter_cons]
    have e1 : ((x :: r).getD 0 z) = x := rfl
    rw [e1]
    have e2 : (List.filter (fun i => c ((x :: r).getD i z)) (List.map Nat.succ (List.range r.length))) = (List.filter (fun i => c (r.getD i z)) (List.range r.length)).map Nat.succ := by
      rw [List.filter_map]
      rfl
    rw [e2]
    have e3 : List.map (fun i => f ((x :: r).getD i z)) (List.map Nat.succ (List.filter (fun i => c (r.getD i z)) (List.range r.length))) = (r.filter c).map f := by
      rw [List.map_map, ← ih]
      rfl
    split
    · rw [List.map_cons, List.map_cons, e3]
      rfl
    · exact e3
theorem idx_items (xs : List V) (c : V → Bool) (f : V → V) : (idx (fun i => c (xs.getD i .non)) xs.length).map (fun i => f (xs.getD i .non)) = (xs.filter c).map f := idx_items' xs .non c f
section
variable {K : PySem.W.Frag} {Q : VK}
/-- what a comprehension over J asks, told of its turns -/
def LcG (J : It) (g : TG) (tt : TT) (te : TE) (vs : List Nat) (σ : L2.St) (H1 : Hp) (Q : VK) : Prop := ∀ D, H1 D = none → ∃ W : Nat → Nat → Hp → Prop, (∃ m, W 0 m (upd H1 D (.lst []))) ∧ ∀ i m H, W i m H →
      (J.stop i H ∧ Q (.ref D) H) ∨ (J.go i H ∧ ∃ Nx : Hp → Prop, (∀ H', Nx H' → ∃ m', m' < m ∧ W (i + 1) m' H') ∧ ∀ x H', J.yld i H x H' → g x (wipe σ vs) H' fun σ2 H2 => wipe σ2 vs = wipe σ vs ∧ tt σ2 H2 fun b H3 =>
        if b = true then te σ2 H3 fun y H4 => ∃ acc, H4 D = some (.lst acc) ∧ acc.length < sizeLine ∧ Nx (upd H4 D (.lst (acc ++ [y]))) else Nx H3)
theorem lcT {a : Addr} {xs : List V} (hs : SqT K H1 a xs) (sz : xs.length < sizeLine) (c : V → Bool) (f : V → V)
    (body : ∀ x H', x ∈ xs → Ext H1 H' → ∀ (Qe : VK) (Qn : Hp → Prop), (∀ H3, Ext H' H3 → c x = true → Qe (f x) H3) → (∀ H3, Ext H' H3 → c x = false → Qn H3) →
      g x (wipe σ vs) H' fun σ2 H2 => wipe σ2 vs = wipe σ vs ∧ tt σ2 H2 fun b H3 => if b = true then te σ2 H3 Qe else Qn H3)
    (k : ∀ H' D, Ext H1 H' → H1 D = none → H' D = some (.lst ((xs.filter c).map f)) → Q (.ref D) H') :
    ∃ a', V.ref a = .ref a' ∧ (∃ xs, SqT K H1 a' xs) ∧ LcG (Itt K a') g tt te vs σ H1 Q := by
  refine ⟨a, rfl, ⟨_, hs⟩, fun D hD => lc_rel walk_tup (fun i y _ => y = f (xs.getD i .non)) (fun i => c (xs.getD i .non)) (mono_fun fun i => f (xs.getD i .non)) hD (fun H' e => sqT_ext e hs) sz (fun i x H' H'' hi e hy Qe Qn he hn => ?_) (fun H' ys e hd hr => ?_)⟩
  · obtain ⟨rfl, hx⟩ := hy
    have ex : xs.getD i .non = x := by rw [List.getD_eq_getElem?_getD, hx]; rfl
    refine body x _ (List.mem_of_getElem? hx) e Qe Qn (fun H3 e3 hc => he _ H3 e3 (by rw [ex]) (by rw [ex]; exact hc)) (fun H3 e3 hc => hn H3 e3 (by rw [ex]; exact hc))
  · have := rel_fun hr
    rw [idx_items] at this
    rw [this] at hd
    exact k H' D e hD hd
theorem lcL {a : Addr} {xs : List V} (hs : SqL K H1 a xs) (sz : xs.length < sizeLine) (c : V → Bool) (f : V → V)
    (body : ∀ x H', x ∈ xs → Ext H1 H' → ∀ (Qe : VK) (Qn : Hp → Prop), (∀ H3, Ext H' H3 → c x = true → Qe (f x) H3) → (∀ H3, Ext H' H3 → c x = false → Qn H3) →
      g x (wipe σ vs) H' fun σ2 H2 => wipe σ2 vs = wipe σ vs ∧ tt σ2 H2 fun b H3 => if b = true then te σ2 H3 Qe else Qn H3)
    (k : ∀ H' D, Ext H1 H' → H1 D = none → H' D = some (.lst ((xs.filter c).map f)) → Q (.ref D) H') :
    ∃ a', V.ref a = .ref a' ∧ (∃ xs, SqL K H1 a' xs) ∧ LcG (Itl K a') g tt te vs σ H1 Q := by
  refine ⟨a, rfl, ⟨_, hs⟩, fun D hD => lc_rel walk_list (fun i y _ => y = f (xs.getD i .non)) (fun i => c (xs.getD i .non)) (mono_fun fun i => f (xs.getD i .non)) hD (fun H' e => sqL_ext e hs) sz (fun i x H' H'' hi e hy Qe Qn he hn => ?_) (fun H' ys e hd hr => ?_)⟩
  · obtain ⟨rfl, hx⟩ := hy
    have ex : xs.getD i .non = x := by rw [List.getD_eq_getElem?_getD, hx]; rfl
    refine body x _ (List.mem_of_getElem? hx) e Qe Qn (fun H3 e3 hc => he _ H3 e3 (by rw [ex]) (by rw [ex]; exact hc)) (fun H3 e3 hc => hn H3 e3 (by rw [ex]; exact hc))
  · have := rel_fun hr
    rw [idx_items] at this
    rw [this] at hd
    exact k H' D e hD hd
/-- over a range: the turn's number is lo + i -/
theorem lcR {lo : Int} {n : Nat} (sz : n < sizeLine) (c : Nat → Bool) (f : Nat → V)
    (body : ∀ (i : Nat) H', i < n → Ext H1 H' → ∀ (Qe : VK) (Qn : Hp → Prop), (∀ H3, Ext H' H3 → c i = true → Qe (f i) H3) → (∀ H3, Ext H' H3 → c i = false → Qn H3) →
      g (.int (lo + i)) (wipe σ vs) H' fun σ2 H2 => wipe σ2 vs = wipe σ vs ∧ tt σ2 H2 fun b H3 => if b = true then te σ2 H3 Qe else Qn H3)
    (k : ∀ H' D, Ext H1 H' → H1 D = none → H' D = some (.lst ((idx c n).map f)) → Q (.ref D) H') : LcG (Itr lo n) g tt te vs σ H1 Q := by
  refine fun D hD => lc_rel walk_range (fun i y _ => y = f i) c (mono_fun f) hD (fun H' e => True.intro) sz (fun i x H' H'' hi e hy Qe Qn he hn => ?_) (fun H' ys e hd hr => ?_)
  · obtain ⟨rfl, rfl⟩ := hy
    exact body i _ hi e Qe Qn (fun H3 e3 hc => he _ H3 e3 rfl hc) hn
  · rw [rel_fun hr] at hd
    exact k H' D e hD hd
theorem lcRC {lo st : Int} {n : Nat} (sz : n < sizeLine) (c : Nat → Bool) (f : Nat → V)
    (body : ∀ (i : Nat) H', i < n → Ext H1 H' → ∀ (Qe : VK) (Qn : Hp → Prop), (∀ H3, Ext H' H3 → c i = true → Qe (f i) H3) → (∀ H3, Ext H' H3 → c i = false → Qn H3) →
      g (.int (lo + (i : Nat) * st)) (wipe σ vs) H' fun σ2 H2 => wipe σ2 vs = wipe σ vs ∧ tt σ2 H2 fun b H3 => if b = true then te σ2 H3 Qe else Qn H3)
    (k : ∀ H' D, Ext H1 H' → H1 D = none → H' D = some (.lst ((idx c n).map f)) → Q (.ref D) H') : LcG (Itc lo st n) g tt te vs σ H1 Q := by
  refine fun D hD => lc_rel walk_rangeC (fun i y _ => y = f i) c (mono_fun f) hD (fun H' e => True.intro) sz (fun i x H' H'' hi e hy Qe Qn he hn => ?_) (fun H' ys e hd hr => ?_)
  · obtain ⟨rfl, rfl⟩ := hy
    exact body i _ hi e Qe Qn (fun H3 e3 hc => he _ H3 e3 rfl hc) hn
  · rw [rel_fun hr] at hd
    exact k H' D e hD hd
/-! pairs -/
theorem walk_enumT {a : Addr} {xs : List V} : Walk (IteT K a) xs.length (fun H => SqT K H a xs) (YPair (fun i => some (.int (i : Nat))) (fun i => xs[i]?)) := by
  refine ⟨fun i _ hi q => ⟨xs, xs[i], q, by simp [hi]⟩, fun _ q => ⟨xs, q, rfl⟩, fun i H v H' _ q y => ?_⟩
  obtain ⟨T, x, h1, h2, h3, h4⟩ := y
  exact ⟨T, .int (i : Nat), x, h1, h2, h3, rfl, h4 xs q⟩
theorem sqE_ext {l : Bool} {H H' : Hp} {a : Addr} {xs : List V} (e : Ext H H') (h : SqE K l H a xs) : SqE K l H' a xs := by
  cases l with
  | true => exact sqL_ext e h
  | false => exact sqT_ext e h
theorem walk_zipE {l1 l2 : Bool} {a b : Addr} {xs ys : List V} : Walk (ItzE K l1 l2 a b) (min xs.length ys.length) (fun H => SqE K l1 H a xs ∧ SqE K l2 H b ys) (YPair (fun i => xs[i]?) (fun i => ys[i]?)) := by
  refine ⟨fun i _ hi q => ?_, fun _ q => ⟨xs, ys, q.1, q.2, rfl⟩, fun i H v H' _ q y => ?_⟩
  · have h1 : i < xs.length := by omega
    have h2 : i < ys.length := by omega
    exact ⟨xs, ys, xs[i], ys[i], q.1, q.2, by simp [h1], by simp [h2]⟩
  · obtain ⟨T, x, z, h1, h2, h3, h4, h5⟩ := y
    exact ⟨T, x, z, h1, h2, h3, h4 xs q.1, h5 ys q.2⟩
/-- a walk that gives pairs, into two names -/
theorem lcP {J : It} {n : Nat} {G : Hp → Prop} {px py : Nat → Option V} {i1 i2 : Nat} (w : Walk J n G (YPair px py)) (hG : ∀ H', Ext H1 H' → G H') (sz : n < sizeLine) (c : Nat → Bool) (f : Nat → V)
    (body : ∀ (i : Nat) x y H', i < n → px i = some x → py i = some y → Ext H1 H' → ∀ (Qe : VK) (Qn : Hp → Prop), (∀ H3, Ext H' H3 → c i = true → Qe (f i) H3) → (∀ H3, Ext H' H3 → c i = false → Qn H3) →
      wipe (((wipe σ vs).set i1 (some x)).set i2 (some y)) vs = wipe σ vs ∧ tt (((wipe σ vs).set i1 (some x)).set i2 (some y)) H' fun b H3 => if b = true then te (((wipe σ vs).set i1 (some x)).set i2 (some y)) H3 Qe else Qn H3)
    (k : ∀ H' D, Ext H1 H' → H1 D = none → H' D = some (.lst ((idx c n).map f)) → Q (.ref D) H') : LcG J (gTup K 2 (gCons (gName i1) (gCons (gName i2) gNil))) tt te vs σ H1 Q := by
  refine fun D hD => lc_rel w (fun i y _ => y = f i) c (mono_fun f) hD hG sz (fun i x H' H'' hi e hy Qe Qn he hn => ?_) (fun H' ys e hd hr => ?_)
  · obtain ⟨T, x, y, rfl, hT, rfl, hx, hy⟩ := hy
    have eT := Ext.new (o := HO.tup [x, y]) hT
    refine ⟨T, _, rfl, SqT.of upd_same, rfl, _, _, rfl, ?_⟩
    refine ⟨_, _, rfl, rfl, ?_⟩
    exact body i x y _ hi hx hy (Ext.trans e eT) Qe Qn (fun H3 e3 hc => he _ H3 (Ext.trans eT e3) rfl hc) (fun H3 e3 hc => hn H3 (Ext.trans eT e3) hc)
  · rw [rel_fun hr] at hd
    exact k H' D e hD hd
theorem zip_items (xs ys : List V) (c : V → V → Bool) (f : V → V → V) : (idx (fun i => c (xs.getD i .non) (ys.getD i .non)) (min xs.length ys.length)).map (fun i => f (xs.getD i .non) (ys.getD i .non)) = ((xs.zip ys).filter fun p => c p.1 p.2).map fun p => f p.1 p.2 := by
  have e := idx_items' (xs.zip ys) (V.non, V.non) (fun p => c p.1 p.2) (fun p => f p.1 p.2)
  rw [List.length_zip] at e
  rw [← e]
  unfold idx
  have hz : ∀ i, i < min xs.length ys.length → (xs.zip ys).getD i (V.non, V.non) = (xs.getD i .non, ys.getD i .non) := fun i hi => by
    have h1 : i < xs.length := by omega
    have h2 : i < ys.length := by omega
    have hl : i < (xs.zip ys).length := by rw [List.length_zip]; exact hi
    rw [List.getD_eq_getElem?_getD, List.getElem?_eq_getElem hl, List.getElem_zip, List.getD_eq_getElem?_getD, List.getElem?_eq_getElem h1, List.getD_eq_getElem?_getD, List.getElem?_eq_getElem h2]
    rfl
  have hf : (List.range (min xs.length ys.length)).filter (fun i => c (xs.getD i .non) (ys.getD i .non)) = (List.range (min xs.length ys.length)).filter (fun i => c ((xs.zip ys).getD i (V.non, V.non)).1 ((xs.zip ys).getD i (V.non, V.non)).2) := by
    refine List.filter_congr fun i hi => ?_
    rw [hz i (List.mem_range.mp hi)]
  rw [hf]
  refine List.map_congr_left fun i hi => ?_
  rw [hz i (List.mem_range.mp (List.mem_filter.mp hi).1)]
/-- over zip(a, b) -/
theorem lcZ {l1 l2 : Bool} {a b : Addr} {xs ys : List V} {i1 i2 : Nat} (ha : SqE K l1 H1 a xs) (hb : SqE K l2 H1 b ys) (sz : min xs.length ys.length < sizeLine) (c : V → V → Bool) (f : V → V → V)
    (body : ∀ x y H', (x, y) ∈ xs.zip ys → Ext H1 H' → ∀ (Qe : VK) (Qn : Hp → Prop), (∀ H3, Ext H' H3 → c x y = true → Qe (f x y) H3) → (∀ H3, Ext H' H3 → c x y = false → Qn H3) →
      wipe (((wipe σ vs).set i1 (some x)).set i2 (some y)) vs = wipe σ vs ∧ tt (((wipe σ vs).set i1 (some x)).set i2 (some y)) H' fun b H3 => if b = true then te (((wipe σ vs).set i1 (some x)).set i2 (some y)) H3 Qe else Qn H3)
    (k : ∀ H' D, Ext H1 H' → H1 D = none → H' D = some (.lst (((xs.zip ys).filter fun p => c p.1 p.2).map fun p => f p.1 p.2)) → Q (.ref D) H') :
    ∃ k1 k2 a' b' xs ys, [V.ref a, V.ref b] = [V.ref a', V.ref b'] ∧ SqE K k1 H1 a' xs ∧ SqE K k2 H1 b' ys ∧ LcG (ItzE K k1 k2 a' b') (gTup K 2 (gCons (gName i1) (gCons (gName i2) gNil))) tt te vs σ H1 Q := by
  refine ⟨l1, l2, a, b, xs, ys, rfl, ha, hb, lcP walk_zipE (fun H' e => ⟨sqE_ext e ha, sqE_ext e hb⟩) sz (fun i => c (xs.getD i .non) (ys.getD i .non)) (fun i => f (xs.getD i .non) (ys.getD i .non)) (fun i x y H' hi hx hy e Qe Qn he hn => ?_) (fun H' D e hD hd => ?_)⟩
  · have ex : xs.getD i .non = x := by rw [List.getD_eq_getElem?_getD, hx]; rfl
    have ey : ys.getD i .non = y := by rw [List.getD_eq_getElem?_getD, hy]; rfl
    have mem : (x, y) ∈ xs.zip ys := List.mem_of_getElem? (i := i) (by rw [List.getElem?_zip_eq_some]; exact ⟨hx, hy⟩)
    refine body x y _ mem e Qe Qn (fun H3 e3 hc => ?_) (fun H3 e3 hc => hn H3 e3 (by rw [ex, ey]; exact hc))
    have := he H3 e3 (by rw [ex, ey]; exact hc)
    rw [ex, ey] at this
    exact this
  · rw [zip_items] at hd
    exact k H' D e hD hd
/-- over enumerate(a) -/
theorem lcE {a : Addr} {xs : List V} {i1 i2 : Nat} (ha : SqT K H1 a xs) (sz : xs.length < sizeLine) (c : Nat → V → Bool) (f : Nat → V → V)
    (body : ∀ (i : Nat) x H', xs[i]? = some x → Ext H1 H' → ∀ (Qe : VK) (Qn : Hp → Prop), (∀ H3, Ext H' H3 → c i x = true → Qe (f i x) H3) → (∀ H3, Ext H' H3 → c i x = false → Qn H3) →
      wipe (((wipe σ vs).set i1 (some (.int (i : Nat)))).set i2 (some x)) vs = wipe σ vs ∧ tt (((wipe σ vs).set i1 (some (.int (i : Nat)))).set i2 (some x)) H' fun b H3 => if b = true then te (((wipe σ vs).set i1 (some (.int (i : Nat)))).set i2 (some x)) H3 Qe else Qn H3)
    (k : ∀ H' D, Ext H1 H' → H1 D = none → H' D = some (.lst ((idx (fun i => c i (xs.getD i .non)) xs.length).map fun i => f i (xs.getD i .non))) → Q (.ref D) H') :
    ∃ t xs, [V.ref a] = [V.ref t] ∧ SqT K H1 t xs ∧ LcG (IteT K t) (gTup K 2 (gCons (gName i1) (gCons (gName i2) gNil))) tt te vs σ H1 Q := by
  refine ⟨a, xs, rfl, ha, lcP walk_enumT (fun H' e => sqT_ext e ha) sz (fun i => c i (xs.getD i .non)) (fun i => f i (xs.getD i .non)) (fun i x y H' hi hx hy e Qe Qn he hn => ?_) k⟩
  cases hx
  have ey : xs.getD i .non = y := by rw [List.getD_eq_getElem?_getD, hy]; rfl
  refine body i y _ hy e Qe Qn (fun H3 e3 hc => ?_) (fun H3 e3 hc => hn H3 e3 (by rw [ey]; exact hc))
  have := he H3 e3 (by rw [ey]; exact hc)
  rw [ey] at this
  exact this
end
end
end

/-! Defs and methods, their places hidden. -/

section
open PySem PySem.Spec PyProof.Rows L2 Gd
structure Def1 (P : Program) (w : World) (K : PySem.W.Frag) (mg : Str → Option Value) (base : Heap) (CX : CXT) (k : Nat) (name : Str) (ps : List Str) (sp : Sp) : Prop where
  ex : ∃ (f : Addr) (fd : FuncData), mg name = some (.ref f) ∧ PySem.W.keepIn K (.ref f) = true ∧ FnOk P w K mg base CX k f fd ps sp ∧ Binds K fd ps []
structure Bin1 (P : Program) (w : World) (K : PySem.W.Frag) (mg : Str → Option Value) (base : Heap) (CX : CXT) (k : Nat) (C : Addr) (m r : Str) (sp : Sp) : Prop where
  ex : ∃ (f : Addr) (fd : FuncData), BinC K C m r f ∧ FnOk P w K mg base CX k f fd ["self", "other"] sp ∧ Binds K fd ["self", "other"] []
structure Met1 (P : Program) (w : World) (K : PySem.W.Frag) (mg : Str → Option Value) (base : Heap) (CX : CXT) (k : Nat) (C : Addr) (m : Str) (ps : List Str) (sp : Sp) : Prop where
  ex : ∃ (f : Addr) (fd : FuncData), Meth K C m f ∧ PySem.W.fnIn K f = true ∧ FnOk P w K mg base CX k f fd ps sp ∧ Binds K fd ps []
structure Pro1 (P : Program) (w : World) (K : PySem.W.Frag) (mg : Str → Option Value) (base : Heap) (k : Nat) (C : Addr) (x : Str) (sp : Sp) : Prop where
  ex : ∃ (p f : Addr) (fd : FuncData), PropOf K C x p f ∧ FnOk P w K mg base CX0 k f fd ["self"] sp ∧ Binds K fd ["self"] []
structure Ini1 (P : Program) (w : World) (K : PySem.W.Frag) (mg : Str → Option Value) (base : Heap) (CX : CXT) (k : Nat) (C t0 : Addr) (ps : List Str) (sp : Sp) : Prop where
  ex : ∃ (f : Addr) (fd : FuncData) (ds : List Value), Mk K C f ∧ FnOk P w K mg base CX k f fd ps sp ∧ Binds K fd ps [] ∧ Vals [V.ref t0] ds ∧ Binds K fd ps ds
abbrev X0 : XK := fun _ _ _ => False
section
variable {X : Cx} {CX : CXT} {C t0 : Addr} {k j : Nat} {x m r : Str} {ps : List Str} {sp : Sp} {e a : Expr} {es : List Expr} {t : TA} {ta tb : TE} {p pos apos : Pos}
theorem pe_def (D : Def1 X.prog X.w X.K X.mg X.base CX0 k x ps sp) (hr : Room j X.A) (hj : k ≤ j) (hgl : Gl X x) (ha : PA X (e :: es) t) (hdb : (x == ("__debug__" : Str)) = false := by decide)
    (he : starEach (e :: es) X.env = (false, eval e X.env) :: starEach es X.env := by rfl) (hpl : (backTo pos (starEach es X.env)).any (·.1) = false := by rfl) : PE X (.Call (.Name x p) (e :: es) [] pos) (tCall sp [] X0 t) := by
  obtain ⟨f, fd, hm, hk, F, hb⟩ := D.ex
  exact pe_call F (hr.mono hj) hgl hm hk hb .nil pass0 ha hdb he hpl
theorem pe_defX {E : XK} (D : Def1 X.prog X.w X.K X.mg X.base CX k x ps sp) (hx : Passes CX X E) (hr : Room j X.A) (hj : k ≤ j) (hgl : Gl X x) (ha : PA X (e :: es) t) (hdb : (x == ("__debug__" : Str)) = false := by decide)
    (he : starEach (e :: es) X.env = (false, eval e X.env) :: starEach es X.env := by rfl) (hpl : (backTo pos (starEach es X.env)).any (·.1) = false := by rfl) : PE X (.Call (.Name x p) (e :: es) [] pos) (tCall sp [] E t) := by
  obtain ⟨f, fd, hm, hk, F, hb⟩ := D.ex
  exact pe_call F (hr.mono hj) hgl hm hk hb .nil hx ha hdb he hpl
theorem op_add1 {E : XK} (D : Bin1 X.prog X.w X.K X.mg X.base CX k C "__add__" "__radd__" sp) (hx : ∀ σ, PassesAt CX X σ E) (hr : Room j X.A) (hj : k + 1 ≤ j) : OpR X (binaryOp .Add) (rBinO C sp E) := by
  obtain ⟨f, fd, B, F, hb⟩ := D.ex
  exact op_addO B F (hr.mono hj) hb hx
theorem op_eq1 (D : Met1 X.prog X.w X.K X.mg X.base CX0 k C "__eq__" ["self", "other"] sp) (hr : Room j X.A) (hj : k + 1 ≤ j) : OpR X (compareOp .Eq) (rCmpO X.K C sp X0) := by
  obtain ⟨f, fd, M, _, F, hb⟩ := D.ex
  exact op_eqO M F (hr.mono hj) hb (fun _ => quiet0)
theorem op_lt1 (D : Met1 X.prog X.w X.K X.mg X.base CX0 k C "__lt__" ["self", "other"] sp) (hr : Room j X.A) (hj : k + 1 ≤ j) : OpR X (compareOp .Lt) (rCmpO X.K C sp X0) := by
  obtain ⟨f, fd, M, _, F, hb⟩ := D.ex
  exact op_ltO M F (hr.mono hj) hb (fun _ => quiet0)
theorem op_ne1 (hn : NeC X.K C) (D : Met1 X.prog X.w X.K X.mg X.base CX0 k C "__eq__" ["self", "other"] sp) (hr : Room j X.A) (hj : k + 1 ≤ j) : OpR X (compareOp .NotEq) (rNeO X.K C sp X0) := by
  obtain ⟨f, fd, M, _, F, hb⟩ := D.ex
  exact op_neO hn M F (hr.mono hj) hb (fun _ => quiet0)
theorem pe_pro1 (c : Cls X.K C) (D : Pro1 X.prog X.w X.K X.mg X.base k C x sp) (hr : Room j X.A) (hj : k + 1 ≤ j) (ha : PE X e ta) (hab : attributeBase e x X.env (eval e X.env) = eval e X.env := by rfl) : PE X (.Attribute e x pos) (tProp C sp [] X0 ta) := by
  obtain ⟨p, f, fd, hp, F, hb⟩ := D.ex
  exact pe_prop ha c hp F (hr.mono hj) hb .nil pass0 hab
theorem pe_mk1 {E : XK} (D : Ini1 X.prog X.w X.K X.mg X.base CX k C t0 ps sp) (hx : Passes CX X E) (hr : Room j X.A) (hj : k + 1 ≤ j) (hgl : Gl X x) (hm : X.mg x = some (.ref C)) (ha : PA X (e :: es) t) (hdb : (x == ("__debug__" : Str)) = false := by decide)
    (he : starEach (e :: es) X.env = (false, eval e X.env) :: starEach es X.env := by rfl) (hpl : (backTo pos (starEach es X.env)).any (·.1) = false := by rfl) : PE X (.Call (.Name x p) (e :: es) [] pos) (tMake C sp [] E t) := by
  obtain ⟨f, fd, ds, M, F, hb, _, _⟩ := D.ex
  exact pe_make M F (hr.mono hj) hgl hm hb .nil hx ha hdb he hpl
theorem pe_mk0 {E : XK} (D : Ini1 X.prog X.w X.K X.mg X.base CX k C t0 ps sp) (hx : Passes CX X E) (hr : Room j X.A) (hj : k + 1 ≤ j) (hgl : Gl X x) (hm : X.mg x = some (.ref C)) (hdb : (x == ("__debug__" : Str)) = false := by decide) : PE X (.Call (.Name x p) [] [] pos) (tMake C sp [.ref t0] E tNil) := by
  obtain ⟨f, fd, ds, M, F, _, hv, hb⟩ := D.ex
  exact pe_make0 M F (hr.mono hj) hgl hm hb hv hx hdb
theorem pe_it1 (D : Met1 X.prog X.w X.K X.mg X.base CX k C "__getitem__" ["self", "index"] sp) {E : L2.St → XK} (hx : ∀ σ, PassesAt CX X σ (E σ)) (hr : Room j X.A) (hj : k + 1 ≤ j) (ha : PE X e ta) (hb : PE X a tb)
    (hs : ∀ v u : Value, subscripted a true v u = runValue (.builtin "lifetime.subscript" ⟨[v, u], []⟩) := by intro _ _; with_unfolding_all rfl) : PE X (.Subscript e a pos) (tIxO C sp E ta tb) := by
  obtain ⟨f, fd, M, hfn, F, hB⟩ := D.ex
  exact pe_ixO M hfn F (hr.mono hj) hB hx ha hb hs
theorem pe_me1 {o : Expr} {pl : Sem Bool} {E : XK} (c : Cls X.K C) (D : Met1 X.prog X.w X.K X.mg X.base CX k C m ps sp) (hx : Passes CX X E) (hr : Room j X.A) (hj : k ≤ j) (ho : PE X o ta) (ha : PA X (e :: es) t)
    (ht : eval (.Call (.Attribute o m apos) (e :: es) [] pos) X.env = (do
      let ov ← eval o X.env
      standAt apos.atName
      let (f, first) ← holding [ov] (getMethod ov m pl)
      callWith pos f first (backTo pos (starEach (e :: es) X.env)) (backToKw pos (keywordEach [] X.env))) := by rfl)
    (hst : starEach (e :: es) X.env = (false, eval e X.env) :: starEach es X.env := by rfl) (hpl : (backTo pos (starEach es X.env)).any (·.1) = false := by rfl) :
    PE X (.Call (.Attribute o m apos) (e :: es) [] pos) (tMeth C m sp [] E ta t) := by
  obtain ⟨f, fd, M, _, F, hb⟩ := D.ex
  exact pe_meth ho c M F (hr.mono hj) hb .nil hx ha hst hpl ht
theorem g_lc {wi : TI} {g : TG} {tt : TT} {te : TE} {vs : List Nat} {σ : L2.St} {H : Hp} {Q : VK} (k : wi σ H fun J H1 => LcG J g tt te vs σ H1 Q) : tLc wi g tt te vs σ H Q := k
theorem g_rng1 {ta : TA} {σ : L2.St} {H : Hp} {R : It → Hp → Prop} (k : ta σ H fun vs H1 => ∃ j : Int, vs = [.int j] ∧ -(2 ^ 62) ≤ j ∧ j < 2 ^ 62 ∧ R (Itr 0 j.toNat) H1) : iRng1 ta σ H R := k
theorem g_rng2 {ta : TA} {σ : L2.St} {H : Hp} {R : It → Hp → Prop} (k : ta σ H fun vs H1 => ∃ i j : Int, vs = [.int i, .int j] ∧ (-(2 ^ 62) ≤ i ∧ i < 2 ^ 62 ∧ -(2 ^ 62) ≤ j ∧ j < 2 ^ 62) ∧ R (Itr i (j - i).toNat) H1) : iRng2 ta σ H R := k
theorem g_itup {K : PySem.W.Frag} {te : TE} {σ : L2.St} {H : Hp} {R : It → Hp → Prop} (k : te σ H fun x H1 => ∃ a, x = .ref a ∧ (∃ xs, SqT K H1 a xs) ∧ R (Itt K a) H1) : iTup K te σ H R := k
theorem g_ilist {K : PySem.W.Frag} {te : TE} {σ : L2.St} {H : Hp} {R : It → Hp → Prop} (k : te σ H fun x H1 => ∃ a, x = .ref a ∧ (∃ xs, SqL K H1 a xs) ∧ R (Itl K a) H1) : iList K te σ H R := k
/-- a reading given two ways -/
theorem CallR.or {f : Value} {r1 r2 : List V → Hp → VK → Prop} (h1 : CallR X f r1) (h2 : CallR X f r2) : CallR X f (fun vs H Q => r1 vs H Q ∨ r2 vs H Q) := by
  intro pins s σ H vs us Q I r h
  rcases h with h | h
  · exact h1 pins s σ H vs us Q I r h
  · exact h2 pins s σ H vs us Q I r h
def rSumS (K : PySem.W.Frag) : List V → Hp → VK → Prop := fun vs H Q => ∃ (a : Addr) (ns : List Int), vs = [V.ref a] ∧ (SqL K H a (ns.map V.int) ∨ SqT K H a (ns.map V.int)) ∧ Q (.int ns.sum) H
theorem call_sumS (hc : X.calm = true) : CallR X (.builtin "sum") (rSumS X.K) := by
  intro pins s σ H vs us Q I r h
  obtain ⟨a, ns, e, h | h, k⟩ := h
  · exact cr_sum hc pins s σ H vs us Q I r ⟨a, ns, e, h, k⟩
  · exact cr_sumT hc pins s σ H vs us Q I r ⟨a, ns, e, h, k⟩
end
end

/-! The text by places; integers; dice. -/

section
open PySem PySem.Spec PyProof.Rows L2 Gd
open LamX (ExtN)
def top (i : Nat) : Stmt := PySem.Challenge.pw_primekinds_k06_kinds_number_by_number.main.body.getD i (.Pass ⟨0, 0, 0, 0⟩)
abbrev sWhole : Stmt := top 10
abbrev sInteger : Stmt := top 11
abbrev sIndex : Stmt := top 13
def cls (j : Nat) : Stmt := inClass (top 25) j
abbrev sDice : Stmt := top 28
abbrev sRoll : Stmt := top 29
abbrev sPick : Stmt := top 30
/-- what is known of the module's names -/
structure Txt (K : PySem.W.Frag) (mg : Str → Option Value) : Prop where
  isinstance : mg "isinstance" = none
  int : mg "int" = none
  bool : mg "bool" = none
  str : mg "str" = none
  tuple : mg "tuple" = none
  list : mg "list" = none
  dict : mg "dict" = none
  len : mg "len" = none
  all : mg "all" = none
  any : mg "any" = none
  sum : mg "sum" = none
  iter : mg "iter" = none
  max : mg "max" = none
  min : mg "min" = none
  abs : mg "abs" = none
  range : mg "range" = none
  repr : mg "repr" = none
  sorted : mg "sorted" = none
  enumerate : mg "enumerate" = none
  zip : mg "zip" = none
  bound : ∃ t, mg "BOUND" = some (.int (10 ^ 60) t)
section
variable {P : Program} {w : World} {K : PySem.W.Frag} {mg : Str → Option Value} {base : Heap} {f : Addr} {fd : FuncData}
theorem dec_l {p q : Prop} [Decidable p] [Decidable q] (h : p) : decide (p ∧ q) = decide q := by simp [h]
theorem dec_n {p q : Prop} [Decidable p] [Decidable q] (h : ¬ p) : decide (p ∧ q) = false := by simp [h]
/-! ### is_whole -/
/-- whether a value is an integer other than True and False -/
def WholeB (K : PySem.W.Frag) (H : Hp) (x : V) (b : Bool) : Prop := ∃ t b1 b2, TyX K H x t ∧ PySem.W.kitOne K t (.type "int") = some b1 ∧
  PySem.W.kitOne K t (.type "bool") = some b2 ∧ b = (b1 && !b2)
theorem whole_int {H : Hp} {i : Int} : WholeB K H (.int i) true := ⟨_, true, false, .base (.int i), by kernel_rfl, by kernel_rfl, rfl⟩
theorem whole_bl {H : Hp} {b : Bool} : WholeB K H (.bl b) false := ⟨_, true, true, .base (.bl b), by kernel_rfl, by kernel_rfl, rfl⟩
theorem whole_non {H : Hp} : WholeB K H .non false := ⟨_, false, false, .base .non, by kernel_rfl, by kernel_rfl, rfl⟩
theorem whole_str {H : Hp} {x : Str} : WholeB K H (.str x) false := ⟨_, false, false, .base (.str x), by kernel_rfl, by kernel_rfl, rfl⟩
theorem whole_tup {H : Hp} {a : Addr} {xs : List V} (h : H a = some (.tup xs)) : WholeB K H (.ref a) false := ⟨_, false, false, .base (.tup h), by kernel_rfl, by kernel_rfl, rfl⟩
def spWhole (K : PySem.W.Frag) : Sp := fun vs H Q _ => ∃ x b, vs = [x] ∧ WholeB K H x b ∧ Q (.bl b) H
theorem scWhole : FnScope ["value"] ["value"] (defScope sWhole) := ⟨rfl, rfl, rfl, by decide +kernel, rfl, by decide +kernel, by decide +kernel⟩
theorem ok_whole {f : Addr} {fd : FuncData} (F : Fun K "is_whole" "is_whole" sWhole f fd) (T : Txt K mg) : FnOk P w K mg base CX0 1 f fd ["value"] (spWhole K) := by
  refine F.ok scWhole (fun vs H Q E h => ?_) (fun cdv A outer s H vs Q E hr h => ?_)
  · obtain ⟨x, b, rfl, _⟩ := h
    rfl
  · obtain ⟨x, b, rfl, ⟨t, b1, b2, ty, k1, k2, rfl⟩, k⟩ := h
    refine ⟨_, pss_one (ps_ret (pe_and (pe_callB call_isi (by rfl) T.isinstance (by decide +kernel) (pa_cons (pv 0) (pa_cons (pe_bltn (v := .ty "int") (by rfl) T.int (by decide +kernel) rfl) pa_nil)))
      (pe_one (pe_not (pe_callB call_isi (by rfl) T.isinstance (by decide +kernel) (pa_cons (pv 0) (pa_cons (pe_bltn (v := .ty "bool") (by rfl) T.bool (by decide +kernel) rfl) pa_nil))))))), ?_⟩
    walk_at "rd"
    refine ⟨_, _, _, _, _, rfl, .ty _, ty, k1, ?_⟩
    walk_at "rd"
    refine ite2 (fun h1 => ?_) (fun h1 => ?_)
    · walk_at "rd"
      refine ⟨_, _, _, _, _, rfl, .ty _, ty, k2, ?_⟩
      walk_at "rd"
      rw [h1] at k
      exact k
    · rw [Bool.not_eq_true] at h1
      rw [h1] at k
      exact k

/-! ### is_integer -/
def IntB (K : PySem.W.Frag) (H : Hp) (x : V) (b : Bool) : Prop := (∃ i : Int, x = .int i ∧ b = decide (-(10 ^ 60) < i ∧ i < 10 ^ 60)) ∨ (WholeB K H x false ∧ b = false)
def spInteger (K : PySem.W.Frag) : Sp := fun vs H Q _ => ∃ x b, vs = [x] ∧ IntB K H x b ∧ Q (.bl b) H
theorem scInteger : FnScope ["value"] ["value"] (defScope sInteger) := ⟨rfl, rfl, rfl, by decide +kernel, rfl, by decide +kernel, by decide +kernel⟩
/-- where is_whole stands -/
structure AtW (K : PySem.W.Frag) (mg : Str → Option Value) (f : Addr) (fd : FuncData) : Prop where
  F : Fun K "is_whole" "is_whole" sWhole f fd
  b : Binds K fd ["value"] []
  g : mg "is_whole" = some (.ref f)
theorem ok_integer {f fW : Addr} {fd fdW : FuncData} (F : Fun K "is_integer" "is_integer" sInteger f fd) (T : Txt K mg) (W : AtW K mg fW fdW) : FnOk P w K mg base CX0 2 f fd ["value"] (spInteger K) := by
  have GW : FnOk P w K mg base CX0 1 fW fdW ["value"] (spWhole K) := ok_whole W.F T
  obtain ⟨tB, gB⟩ := T.bound
  refine F.ok scInteger (fun vs H Q E h => ?_) (fun cdv A outer s H vs Q E hr h => ?_)
  · obtain ⟨x, b, rfl, _⟩ := h
    rfl
  · obtain ⟨x, b, rfl, hx, k⟩ := h
    refine ⟨_, pss_one (ps_ret (pe_and (pe_call GW hr (by rfl) W.g W.F.kp W.b .nil pass0 (pa_cons (pv 0) pa_nil))
      (pe_one (pe_chain op_lt op_lt (pe_un un_neg (pe_glob (v := .int (10 ^ 60)) (by rfl) gB ⟨_, rfl⟩)) (pv 0) (pe_glob (v := .int (10 ^ 60)) (by rfl) gB ⟨_, rfl⟩))))), ?_⟩
    walk_at "rd"
    rcases hx with ⟨i, rfl, rfl⟩ | ⟨hx, rfl⟩
    · refine ⟨_, true, rfl, whole_int, ?_⟩
      walk_at "rd"
      try refine iteT ?_
      walk_at "rd"
      refine ite2 (fun h1 => ?_) (fun h1 => ?_)
      · walk_at "rd"
        have e : decide (-(10 ^ 60) < i ∧ i < 10 ^ 60) = decide (i < 10 ^ 60) := dec_l (of_decide_eq_true h1)
        rw [e] at k
        exact k
      · have h2 : ¬ (-(10 ^ 60) : Int) < i := fun z => h1 (decide_eq_true z)
        have e : decide (-(10 ^ 60) < i ∧ i < 10 ^ 60) = false := dec_n h2
        rw [e] at k
        exact k
    · refine ⟨_, false, rfl, hx, ?_⟩
      walk_at "rd"
      first | exact k | exact iteF k

/-! ### require_index -/
def IndexOk (K : PySem.W.Frag) (H : Hp) (x : V) (b : Bool) : Prop := (∃ i : Int, x = .int i ∧ b = decide (0 ≤ i ∧ i < 10 ^ 60)) ∨ (WholeB K H x false ∧ b = false)
def spIndex (K : PySem.W.Frag) (C : Addr) : Sp := fun vs H Q E => ∃ x b, vs = [x] ∧ IndexOk K H x b ∧ (b = true → Q .non H) ∧
  (b = false → ∀ d, H d = none → E (.ref C) (some d) (upd H d (.xd [(("value" : Str), x)])))
structure AtI (K : PySem.W.Frag) (mg : Str → Option Value) (f : Addr) (fd : FuncData) : Prop where
  F : Fun K "is_integer" "is_integer" sInteger f fd
  b : Binds K fd ["value"] []
  g : mg "is_integer" = some (.ref f)
theorem scIndex : FnScope ["value"] ["value"] (defScope sIndex) := ⟨rfl, rfl, rfl, by decide +kernel, rfl, by decide +kernel, by decide +kernel⟩
theorem ok_index {f fW fI C fC : Addr} {fd fdW fdI : FuncData} (F : Fun K "require_index" "require_index" sIndex f fd) (T : Txt K mg) (W : AtW K mg fW fdW) (I : AtI K mg fI fdI) (N : PySem.XInvalidNumber.InvalidNumberTxt K mg C fC) :
    FnOk P w K mg base (L2.CX P w) 4 f fd ["value"] (spIndex K C) := by
  have GI : FnOk P w K mg base CX0 2 fI fdI ["value"] (spInteger K) := ok_integer I.F T W
  refine F.okX scIndex (fun vs H Q E h => ?_) (fun cdv A outer s H vs Q E hr h => ?_)
  · obtain ⟨x, b, rfl, _⟩ := h
    rfl
  · obtain ⟨x, b, rfl, hx, k1, k2⟩ := h
    refine ⟨_, pss_one (ps_if (PW.pt (pw_or (pt_not (pt_val (pe_call GI (hr.mono (by decide)) (by rfl) I.g I.F.kp I.b .nil pass0 (pa_cons (pv 0) pa_nil)))) (pw_or1 (pt_cmpR op_lt (pv 0) pe_int (nomark _)))))
      (pss_one (ps_raiseInvalidNumber rfl N hr (takes_of rfl rfl rfl rfl) (by exact (pa_cons (pv 0) pa_nil)))) pss_nil), ?_⟩
    walk_at "rd"
    rcases hx with ⟨i, rfl, rfl⟩ | ⟨hx, rfl⟩
    · refine ⟨_, _, rfl, .inl ⟨i, rfl, rfl⟩, ?_⟩
      walk_at "rd"
      by_cases h1 : -(10 ^ 60) < i ∧ i < 10 ^ 60
      · rw [decide_eq_true h1]
        try refine iteF ?_
        walk_at "rd"
        by_cases h2 : i < 0
        · rw [decide_eq_true h2]
          try refine iteT ?_
          refine ⟨_, rfl, _, rfl, ?_⟩
          exact k2 (decide_eq_false (by omega))
        · rw [decide_eq_false h2]
          try refine iteF ?_
          exact k1 (decide_eq_true (by omega))
      · rw [decide_eq_false h1]
        iterate 2 (try refine iteT ?_)
        refine ⟨_, rfl, _, rfl, ?_⟩
        exact k2 (decide_eq_false (by omega))
    · refine ⟨_, _, rfl, .inr ⟨hx, rfl⟩, ?_⟩
      walk_at "rd"
      iterate 2 (try refine iteT ?_)
      refine ⟨_, rfl, _, rfl, ?_⟩
      exact k2 rfl
abbrev sIsWithin : Stmt := top 12
/-- whether a value is an integer from lo to hi (the bounds have at most sixty digits) -/
def WithB (K : PySem.W.Frag) (H : Hp) (x : V) (lo hi : Int) (b : Bool) : Prop := (∃ i : Int, x = .int i ∧ b = decide (lo ≤ i ∧ i ≤ hi)) ∨ (WholeB K H x false ∧ b = false)
def spIsWithin (K : PySem.W.Frag) : Sp := fun vs H Q _ => ∃ (x : V) (lo hi : Int) (b : Bool), vs = [x, .int lo, .int hi] ∧ -(10 ^ 60) < lo ∧ hi < 10 ^ 60 ∧ WithB K H x lo hi b ∧ Q (.bl b) H
theorem scIsWithin : FnScope ["value", "low", "high"] ["value", "low", "high"] (defScope sIsWithin) := ⟨rfl, rfl, rfl, by decide +kernel, rfl, by decide +kernel, by decide +kernel⟩
theorem ok_isWithin {fW fI : Addr} {fdW fdI : FuncData} (F : Fun K "is_within" "is_within" sIsWithin f fd) (T : Txt K mg) (W : AtW K mg fW fdW) (I : AtI K mg fI fdI) : FnOk P w K mg base CX0 3 f fd ["value", "low", "high"] (spIsWithin K) := by
  have GI : FnOk P w K mg base CX0 2 fI fdI ["value"] (spInteger K) := ok_integer I.F T W
  refine F.ok scIsWithin (fun vs H Q E h => ?_) (fun cdv A outer s H vs Q E hr h => ?_)
  · obtain ⟨x, lo, hi, b, rfl, _⟩ := h
    rfl
  · obtain ⟨x, lo, hi, b, rfl, hlo, hhi, hx, k⟩ := h
    refine ⟨_, pss_one (ps_ret (pe_and (pe_call GI hr (by rfl) I.g I.F.kp I.b .nil pass0 (pa_cons (pv 0) pa_nil))
      (pe_one (pe_chain op_le op_le (pv 1) (pv 0) (pv 2))))), ?_⟩
    walk_at "rd"
    rcases hx with ⟨i, rfl, rfl⟩ | ⟨hx, rfl⟩
    · refine ⟨_, _, rfl, .inl ⟨i, rfl, rfl⟩, ?_⟩
      walk_at "rd"
      refine ite2 (fun h0 => ?_) (fun h0 => ?_)
      · walk_at "rd"
        refine ite2 (fun h1 => ?_) (fun h1 => ?_)
        · walk_at "rd"
          have e : decide (lo ≤ i ∧ i ≤ hi) = decide (i ≤ hi) := dec_l (of_decide_eq_true h1)
          rw [e] at k
          exact k
        · have h2 : ¬ lo ≤ i := fun z => h1 (decide_eq_true z)
          have e : decide (lo ≤ i ∧ i ≤ hi) = false := dec_n h2
          rw [e] at k
          exact k
      · have h2 : ¬ (-(10 ^ 60) < i ∧ i < 10 ^ 60) := fun z => h0 (decide_eq_true z)
        have e : decide (lo ≤ i ∧ i ≤ hi) = false := decide_eq_false (by omega)
        rw [e] at k
        exact k
    · refine ⟨_, _, rfl, .inr ⟨hx, rfl⟩, ?_⟩
      walk_at "rd"
      first | exact k | exact iteF k
/-- the dice at d -/
def DiceAt (H : Hp) (d : Addr) : Prop := ∃ a b c : Int, H d = some (.lst [.int a, .int b, .int c]) ∧ 0 ≤ a ∧ a < 10 ^ 120 ∧ 0 ≤ b ∧ b < 2 ^ 80 ∧ 0 ≤ c
theorem fmod_lo {a n : Int} (h : 0 < n) : 0 ≤ a.fmod n := by
  rw [Int.fmod_eq_emod_of_nonneg _ (Int.le_of_lt h)]
  exact Int.emod_nonneg _ (Int.ne_of_gt h)
theorem fmod_hi {a n : Int} (h : 0 < n) : a.fmod n < n := by
  rw [Int.fmod_eq_emod_of_nonneg _ (Int.le_of_lt h)]
  exact Int.emod_lt_of_pos _ h
theorem g_fmod {H : Hp} {Q : VK} {a n : Int} (hn : 0 < n) (k : ∀ r, 0 ≤ r → r < n → Q (.int r) H) : rI (fun _ j => j ≠ 0) (fun i j => .int (i.fmod j)) (.int a) (.int n) H Q :=
  ⟨a, n, rfl, rfl, Int.ne_of_gt hn, k _ (fmod_lo hn) (fmod_hi hn)⟩
def spDice (K : PySem.W.Frag) : Sp := fun vs H Q _ => ∃ (a : Addr) (ns : List Int) (i : Nat), vs = [.ref a, .int (i : Int)] ∧ SqL K H a (ns.map V.int) ∧ i ≤ 63 ∧
  ∀ H' d, Ext H H' → H d = none → DiceAt H' d → Q (.ref d) H'
theorem scDice : FnScope ["_law_script", "_law_spot", "_law_cell", "_law_left"] ["_law_script", "_law_spot"] (defScope sDice) := ⟨rfl, rfl, rfl, by decide +kernel, rfl, by decide +kernel, by decide +kernel⟩
theorem ok_dice (F : Fun K "_law_dice" "_law_dice" sDice f fd) (T : Txt K mg) : FnOk P w K mg base CX0 1 f fd ["_law_script", "_law_spot"] (spDice K) := by
  refine F.ok scDice (fun vs H Q E h => ?_) (fun cdv A outer s H vs Q E hr h => ?_)
  · obtain ⟨a, ns, i, rfl, _⟩ := h
    rfl
  · obtain ⟨a, ns, i, rfl, hs, hi, k⟩ := h
    refine ⟨_, pss_cons (ps_set (i := 2) scDice.nd rfl (Or.inl rfl) (pe_ifExp (pt_cmpR op_lt (pv 1) (pe_callB call_len_seq (by rfl) T.len PySem.boot_len (pa_cons (pv 0) pa_nil)) (nomark _))
          (pe_callTy call_int1 (by rfl) T.int (by decide +kernel) (pa_cons (pe_ix ix_list (pv 0) (pv 1) (fun _ _ => rfl)) pa_nil)) (pe_op op_add (pe_op op_mul pe_int (pv 1)) pe_int)))
      (pss_cons (ps_set (i := 3) scDice.nd rfl (Or.inl rfl) (pe_op op_modN (pe_callB (call_max2 rfl) (by rfl) T.max (by decide +kernel) (pa_cons pe_int (pa_cons (pe_op op_sub (pe_callB call_abs (by rfl) T.abs (by decide +kernel) (pa_cons (pv 2) pa_nil)) (pe_op op_pow pe_int pe_int)) pa_nil)))
          (pe_op op_mulW (pe_op op_pow pe_int pe_int) (pe_op op_pow pe_int pe_int))))
        (pss_one (ps_ret (pe_lst (pa_cons (pv 3) (pa_cons (pe_op op_add (pe_op op_add (pe_op op_add (pe_op op_mul (pe_op op_modN (pe_callB call_abs (by rfl) T.abs (by decide +kernel) (pa_cons (pv 2) pa_nil)) pe_int) pe_int) (pe_op op_mul pe_int (pv 1)))
          (pe_op op_mul pe_int (pe_callTy call_int1 (by rfl) T.int (by decide +kernel) (pa_cons (pe_cmpR op_lt (pv 2) pe_int (nomark _)) pa_nil)))) pe_int) (pa_cons pe_int pa_nil))))))), ?_⟩
    walk_at "rd"
    refine ⟨a, _, rfl, .inl hs, ?_⟩
    walk_at "rd"
    refine ite2 (fun h1 => ?_) (fun h1 => ?_)
    have h2 := of_decide_eq_true h1
    rw [List.length_map] at h2
    have hlt : i < ns.length := by omega
    walk_at "rd"
    refine g_ixL hs (v := .int ns[i]) (atI_nat (by rw [mapget, List.getElem?_eq_getElem hlt]; rfl)) ?_
    walk_at "rd"
    refine .inl ⟨_, rfl, ?_⟩
    generalize ns[i] = c
    walk_at "rd"
    rotate_left
    walk_at "rd"
    refine g_I (.inr ⟨by omega, by omega⟩) ?_
    walk_at "rd"
    generalize (83 * (i : Int) + 61) = c
    walk_at "rd"
    all_goals
      refine g_I ⟨by decide, by decide, by decide⟩ ?_
      walk_at "rd"
      refine g_I ⟨by decide, by decide, by decide⟩ ?_
      walk_at "rd"
      refine g_I ⟨by decide, by decide, by decide⟩ ?_
      walk_at "rd"
      refine g_I (wide_mul (a := 200) (b := 200) (by decide +kernel) (by decide +kernel) (by decide) (by decide) (by decide)) ?_
      walk_at "rd"
      refine g_fmod (by decide +kernel) (fun l l0 l1 => ?_)
      walk_at "rd"
      refine g_fmod (by decide +kernel) (fun r r0 r1 => ?_)
      walk_at "rd"
      refine g_I (.inr ⟨by decide, by decide⟩) ?_
      walk_at "rd"
      refine g_I (.inl ⟨by decide, by decide⟩) ?_
      walk_at "rd"
      refine .inr ⟨_, rfl, ?_⟩
      refine g_I (.inl ⟨by decide, by decide⟩) ?_
      walk_at "rd"
      refine ⟨by show 3 ≤ sizeLine; decide, fun d hd => ?_⟩
      have l1' : l < 10 ^ 120 := Int.lt_of_lt_of_le l1 (by decide +kernel)
      refine k _ d (Ext.new hd) hd ⟨l, _, 0, upd_same, l0, l1', ?_, ?_, Int.le_refl _⟩
      · split <;> omega
      · split <;> omega

/-! ### a roll -/
def spRoll : Sp := fun vs H Q _ => ∃ (d : Addr) (n : Int), vs = [.ref d, .int n] ∧ DiceAt H d ∧ 0 < n ∧ n < 2 ^ 1000 ∧
  ∀ H' r, ExtBut d H H' → DiceAt H' d → 0 ≤ r → r < n → Q (.int r) H'
theorem scRoll : FnScope ["_law_dice_here", "_law_total", "_law_found", "_law_one", "_law_two"] ["_law_dice_here", "_law_total"] (defScope sRoll) := ⟨rfl, rfl, rfl, by decide +kernel, rfl, by decide +kernel, by decide +kernel⟩
theorem ok_roll (F : Fun K "_law_roll" "_law_roll" sRoll f fd) (T : Txt K mg) : FnOk P w K mg base CX0 1 f fd ["_law_dice_here", "_law_total"] spRoll := by
  refine F.ok scRoll (fun vs H Q E h => ?_) (fun cdv A outer s H vs Q E hr h => ?_)
  · obtain ⟨d, n, rfl, _⟩ := h
    rfl
  · obtain ⟨d, n, rfl, ⟨a, b, c, hd, a0, a1, b0, b1, c0⟩, n0, n1, k⟩ := h
    refine ⟨_, pss_cons (ps_if (pt_cmpR op_gt (pe_ix ix_list (pv 0) pe_int (fun _ _ => rfl)) pe_int (nomark _))
        (pss_cons (ps_set (i := 2) scRoll.nd rfl (Or.inl rfl) (pe_op op_modN (pe_callTy call_int1 (by rfl) T.int (by decide +kernel) (pa_cons (pe_ix ix_list (pv 0) pe_int (fun _ _ => rfl)) pa_nil)) (pv 1)))
          (pss_cons (ps_asg (pe_op op_fdivW (pe_ix ix_list (pv 0) pe_int (fun _ _ => rfl)) (pv 1)) (pg_sub (pv 0) pe_int set_list)) (pss_one (ps_ret (pv 2))))) pss_nil)
      (pss_cons (ps_asg (pe_op op_add (pe_ix ix_list (pv 0) pe_int (fun _ _ => rfl)) pe_int) (pg_sub (pv 0) pe_int set_list))
        (pss_cons (ps_set (i := 3) scRoll.nd rfl (Or.inl rfl) (pe_op op_modN (pe_callTy call_int1 (by rfl) T.int (by decide +kernel) (pa_cons (pe_op op_add (pe_ix ix_list (pv 0) pe_int (fun _ _ => rfl)) (pe_op op_mul pe_int (pe_ix ix_list (pv 0) pe_int (fun _ _ => rfl)))) pa_nil)) pe_int))
          (pss_cons (ps_set (i := 4) scRoll.nd rfl (Or.inl rfl) (pe_op op_add (pe_op op_mul (pe_op op_modN (pe_callTy call_int1 (by rfl) T.int (by decide +kernel)
              (pa_cons (pe_op op_add (pe_op op_mul (pv 3) (pv 3)) (pe_op op_mul pe_int (pe_ix ix_list (pv 0) pe_int (fun _ _ => rfl)))) pa_nil)) pe_int) pe_int) (pv 3)))
            (pss_one (ps_ret (pe_op op_modN (pe_callTy call_int1 (by rfl) T.int (by decide +kernel) (pa_cons (pe_op op_fdiv (pv 4) pe_int) pa_nil)) (pv 1))))))), ?_⟩
    walk_at "rd"
    refine g_ixL (SqL.of hd) (v := .int a) rfl ?_
    walk_at "rd"
    refine ite2 (fun h1 => ?_) (fun h1 => ?_)
    · walk_at "rd"
      refine g_ixL (SqL.of hd) (v := .int a) rfl ?_
      walk_at "rd"
      refine .inl ⟨_, rfl, ?_⟩
      walk_at "rd"
      refine g_fmod n0 (fun r r0 r1 => ?_)
      walk_at "rd"
      refine g_ixL (SqL.of hd) (v := .int a) rfl ?_
      walk_at "rd"
      refine g_I (wide_div (b := 1000) n0 (by omega) (by decide) (by decide)) ?_
      walk_at "rd"
      refine ⟨d, _, _, 0, rfl, rfl, hd, rfl, ?_⟩
      walk_at "rd"
      refine k _ r (fun x o hx q => by rw [upd_ne hx]; exact q) ⟨a / n, b, c, upd_same, Int.ediv_nonneg a0 (Int.le_of_lt n0), Int.lt_of_le_of_lt (Int.ediv_le_self _ a0) a1, b0, b1, c0⟩ r0 r1
    · walk_at "rd"
      refine g_ixL (SqL.of hd) (v := .int c) rfl ?_
      walk_at "rd"
      refine ⟨d, _, _, 2, rfl, rfl, hd, rfl, ?_⟩
      walk_at "rd"
      have hd2 : upd H d (.lst (List.set [V.int a, V.int b, V.int c] 2 (V.int (c + 1)))) d = some (.lst [.int a, .int b, .int (c + 1)]) := upd_same
      generalize hH2 : upd H d (.lst (List.set [V.int a, V.int b, V.int c] 2 (V.int (c + 1)))) = H2 at hd2 ⊢
      have e2 : ExtBut d H H2 := fun x o hx q => by rw [← hH2, upd_ne hx]; exact q
      refine g_ixL (SqL.of hd2) (v := .int b) rfl ?_
      walk_at "rd"
      refine g_ixL (SqL.of hd2) (v := .int (c + 1)) rfl ?_
      refine g_I (.inl ⟨by decide, by decide⟩) ?_
      walk_at "rd"
      refine .inl ⟨_, rfl, ?_⟩
      walk_at "rd"
      refine g_fmod (by decide) (fun r r0 r1 => ?_)
      walk_at "rd"
      refine g_I (.inl ⟨by omega, by omega⟩) ?_
      walk_at "rd"
      refine g_ixL (SqL.of hd2) (v := .int (c + 1)) rfl ?_
      refine g_I (.inl ⟨by decide, by decide⟩) ?_
      walk_at "rd"
      refine .inl ⟨_, rfl, ?_⟩
      walk_at "rd"
      refine g_fmod (by decide) (fun t t0 t1 => ?_)
      walk_at "rd"
      refine g_I (.inr ⟨by decide, by decide⟩) ?_
      walk_at "rd"
      refine g_I ⟨by decide, by decide⟩ ?_
      walk_at "rd"
      refine .inl ⟨_, rfl, ?_⟩
      walk_at "rd"
      refine g_fmod n0 (fun z z0 z1 => ?_)
      exact k _ z e2 ⟨a, b, c + 1, hd2, a0, a1, b0, b1, by omega⟩ z0 z1
theorem dice_none {H : Hp} {d l : Addr} (h : DiceAt H d) (e : H l = none) : l ≠ d := by
  obtain ⟨a, b, c, h, _⟩ := h
  intro z
  subst z
  rw [e] at h
  cases h
theorem dice_ne {H : Hp} {d l : Addr} {o : HO} (h : DiceAt H d) (e : H l = some o) (n : ∀ xs, o ≠ .lst xs) : l ≠ d := by
  obtain ⟨a, b, c, h, _⟩ := h
  intro z
  subst z
  rw [e] at h
  cases h
  exact n _ rfl
structure AtR (K : PySem.W.Frag) (mg : Str → Option Value) (f : Addr) (fd : FuncData) : Prop where
  F : Fun K "_law_roll" "_law_roll" sRoll f fd
  b : Binds K fd ["_law_dice_here", "_law_total"] []
  g : mg "_law_roll" = some (.ref f)
theorem DiceAt.ext {d : Addr} {H H1 : Hp} (e : Ext H H1) (h : DiceAt H d) : DiceAt H1 d := by
  obtain ⟨a, b, c, h, r⟩ := h
  exact ⟨a, b, c, e _ _ h, r⟩
/-! ### pick -/
def spPick (K : PySem.W.Frag) : Sp := fun vs H Q _ => ∃ (d l : Addr) (xs : List V), vs = [.ref d, .ref l] ∧ DiceAt H d ∧ SqL K H l xs ∧ l ≠ d ∧ 0 < xs.length ∧ xs.length ≤ 5000 ∧
  ∀ H' x, ExtBut d H H' → DiceAt H' d → x ∈ xs → Q x H'
theorem scPick : FnScope ["_law_dice_here", "_law_items"] ["_law_dice_here", "_law_items"] (defScope sPick) := ⟨rfl, rfl, rfl, by decide +kernel, rfl, by decide +kernel, by decide +kernel⟩
theorem ok_pick {fR : Addr} {fdR : FuncData} (F : Fun K "_law_pick" "_law_pick" sPick f fd) (T : Txt K mg) (R : AtR K mg fR fdR) : FnOk P w K mg base CX0 2 f fd ["_law_dice_here", "_law_items"] (spPick K) := by
  have GR : FnOk P w K mg base CX0 1 fR fdR ["_law_dice_here", "_law_total"] spRoll := ok_roll R.F T
  refine F.ok scPick (fun vs H Q E h => ?_) (fun cdv A outer s H vs Q E hr h => ?_)
  · obtain ⟨d, l, xs, rfl, _⟩ := h
    rfl
  · obtain ⟨d, l, xs, rfl, hd, hl, ne, l0, l1, k⟩ := h
    refine ⟨_, pss_one (ps_ret (pe_ix ix_list (pv 1) (pe_call GR hr (by rfl) R.g R.F.kp R.b .nil pass0 (pa_cons (pv 0) (pa_cons (pe_callB call_len_seq (by rfl) T.len PySem.boot_len (pa_cons (pv 1) pa_nil)) pa_nil))) (fun _ _ => rfl))), ?_⟩
    walk_at "rd"
    refine ⟨l, xs, rfl, .inl hl, ?_⟩
    walk_at "rd"
    refine ⟨d, _, rfl, hd, by omega, by omega, ?_⟩
    intro H' r e hd' r0 r1
    have hlt : r.toNat < xs.length := by omega
    have er : r = (r.toNat : Int) := by omega
    rw [er]
    exact g_ixL (sqL_but e ne hl) (atI_nat (List.getElem?_eq_getElem hlt)) (k _ _ e hd' (List.getElem_mem hlt))
end
end

/-! Falling rows: what they are; is_falling. -/

section
open PySem PySem.Spec PyProof.Rows L2 Gd
theorem getI {ns : List Int} {i : Nat} (h : i < ns.length) : (ns.map V.int)[i]? = some (.int (ns.getD i 0)) := by
  rw [mapget, List.getElem?_eq_getElem h, List.getD_eq_getElem?_getD, List.getElem?_eq_getElem h]
  rfl
theorem getDI {ns : List Int} {i : Nat} (h : i < ns.length) : (ns.map V.int).getD i .non = .int (ns.getD i 0) := by
  rw [List.getD_eq_getElem?_getD, getI h]
  rfl
theorem getD_big {ns : List Int} {i : Nat} (h : ¬ i < ns.length) : ns.getD i 0 = 0 := by
  rw [List.getD_eq_getElem?_getD, List.getElem?_eq_none (by omega)]
  rfl
structure Fall (ns : List Int) : Prop where
  pos : ∀ x ∈ ns, 1 ≤ x
  sum : ns.sum ≤ 12
  desc : ∀ i : Nat, i + 1 < ns.length → ns.getD (i + 1) 0 ≤ ns.getD i 0
theorem sum_len : ∀ {ns : List Int}, (∀ x ∈ ns, 1 ≤ x) → (ns.length : Int) ≤ ns.sum
  | [], _ => by simp
  | x :: r, h => by
    have h1 := h x List.mem_cons_self
    have h2 := sum_len (ns := r) fun y hy => h y (List.mem_cons_of_mem _ hy)
    rw [List.sum_cons, List.length_cons]
    omega
theorem mem_sum : ∀ {ns : List Int}, (∀ x ∈ ns, 1 ≤ x) → ∀ x ∈ ns, x ≤ ns.sum
  | [], _, x, hx => by cases hx
  | y :: r, h, x, hx => by
    have h1 := h y List.mem_cons_self
    have hr : ∀ z ∈ r, 1 ≤ z := fun z hz => h z (List.mem_cons_of_mem _ hz)
    have h2 := sum_len hr
    rw [List.sum_cons]
    rcases List.mem_cons.mp hx with e | e
    · subst e
      omega
    · have := mem_sum hr x e
      omega
theorem Fall.len {ns : List Int} (h : Fall ns) : ns.length ≤ 12 := by
  have := sum_len h.pos
  have := h.sum
  omega
theorem Fall.le {ns : List Int} (h : Fall ns) : ∀ x ∈ ns, x ≤ 12 := fun x hx => by
  have := mem_sum h.pos x hx
  have := h.sum
  omega
theorem Fall.sum0 {ns : List Int} (h : Fall ns) : 0 ≤ ns.sum := by
  have := sum_len h.pos
  omega
theorem Fall.at {ns : List Int} (h : Fall ns) (i : Nat) : 0 ≤ ns.getD i 0 ∧ ns.getD i 0 ≤ 12 := by
  by_cases hi : i < ns.length
  · rw [List.getD_eq_getElem?_getD, List.getElem?_eq_getElem hi]
    have := h.pos _ (List.getElem_mem hi)
    have := h.le _ (List.getElem_mem hi)
    show 0 ≤ ns[i] ∧ ns[i] ≤ 12
    omega
  · rw [getD_big hi]
    omega
theorem Fall.size {ns : List Int} (h : Fall ns) {n : Nat} (hn : n ≤ 1000) : n < sizeLine := by
  have : (1000 : Nat) < sizeLine := by decide
  omega
theorem small {n : Nat} (hn : n ≤ 1000) : n < sizeLine := by
  have : (1000 : Nat) < sizeLine := by decide
  omega
theorem getD_mem {ns : List Int} {i : Nat} (h : i < ns.length) : ns.getD i 0 ∈ ns := by
  rw [List.getD_eq_getElem?_getD, List.getElem?_eq_getElem h]
  exact List.getElem_mem h
theorem Fall.down {ns : List Int} (h : Fall ns) (i : Nat) : ns.getD (i + 1) 0 ≤ ns.getD i 0 := by
  by_cases hi : i + 1 < ns.length
  · exact h.desc i hi
  · rw [getD_big hi]
    exact (h.at i).1
theorem Fall.headI {ns : List Int} (h : Fall ns) : ∀ i : Nat, ns.getD i 0 ≤ ns.getD 0 0
  | 0 => Int.le_refl _
  | i + 1 => Int.le_trans (h.down i) (h.headI i)
theorem Fall.head {ns : List Int} (h : Fall ns) : ∀ x ∈ ns, x ≤ ns.getD 0 0 := fun x hx => by
  obtain ⟨i, hi, rfl⟩ := List.getElem_of_mem hx
  have := h.headI i
  rw [List.getD_eq_getElem?_getD, List.getElem?_eq_getElem hi] at this
  exact this
theorem fall_nil : Fall [] := ⟨(nofun), (by decide), fun i hi => absurd hi (by simp)⟩
theorem head_mem {ns : List Int} (h : Fall ns) (hne : ns ≠ []) : ns.getD 0 0 ∈ ns := getD_mem (List.length_pos_iff.mpr hne)
theorem lt66 {A : Around} {k : Nat} (hr : Room k A) : A.units + 66 < cLine := by
  have := hr.un
  omega
section
variable {P : Program} {w : World} {K : PySem.W.Frag} {mg : Str → Option Value} {base : Heap} {f : Addr} {fd : FuncData}
/-! ### falling -/
abbrev sFalling : Stmt := top 15
theorem scFalling : FnScope ["value", "most", "number", "i"] ["value", "most"] (defScope sFalling) := ⟨rfl, rfl, rfl, by decide +kernel, rfl, by decide +kernel, by decide +kernel⟩
def spFalling (K : PySem.W.Frag) : Sp := fun vs H Q _ => ∃ (a : Addr) (ns : List Int), vs = [.ref a, .int 12] ∧ SqT K H a (ns.map V.int) ∧ Fall ns ∧ ∀ H', Ext H H' → Q (.bl true) H'
theorem ok_falling (F : Fun K "is_falling" "is_falling" sFalling f fd) (T : Txt K mg) (Wi : Def1 P w K mg base CX0 3 "is_within" ["value", "low", "high"] (spIsWithin K)) : FnOk P w K mg base CX0 4 f fd ["value", "most"] (spFalling K) := by
  refine F.ok scFalling (fun vs H Q E h => ?_) (fun cdv A outer s H vs Q E hr h => ?_)
  · obtain ⟨a, ns, rfl, _⟩ := h
    rfl
  · obtain ⟨a, ns, rfl, hs, hF, k⟩ := h
    refine ⟨_, pss_cons (ps_if (PW.pt (pw_or (pt_not (pt_val (pe_callB call_isi (by rfl) T.isinstance (by decide +kernel) (pa_cons (pv 0) (pa_cons (pe_bltn (v := .ty "tuple") (by rfl) T.tuple (by decide +kernel) rfl) pa_nil))))) (pw_or1 (pt_not (pt_val (pe_callB (cr_all rfl) (by rfl) T.all (by decide +kernel) (pa_cons (pe_lc (own := [("number", 2)]) (g := gName 2) (tt := tYes) rfl scFalling.nd (pi_tup (pv 0)) (blkOk_by (N := ["value", "most", "number", "i"]) (sc := defScope sFalling) (by decide +kernel)) (fun _ _ _ _ _ => pg_name (i := 2) scFalling.nd rfl (Or.inl rfl)) (fun _ _ _ _ _ => pts_nil) (fun _ _ _ _ _ => (pe_def Wi hr (by decide) (by rfl) (pa_cons (pv 2) (pa_cons pe_int (pa_cons (pv 1) pa_nil)))))) pa_nil))))))) (pss_one (ps_ret pe_bl)) pss_nil)
      (pss_one (ps_ret (pe_and (pe_cmpR op_le (pe_callB (call_sumS rfl) (by rfl) T.sum (by decide +kernel) (pa_cons (pv 0) pa_nil)) (pv 1) (nomark _)) (pe_one (pe_callB (cr_all rfl) (by rfl) T.all (by decide +kernel) (pa_cons (pe_lc (own := [("i", 3)]) (g := gName 3) (tt := tYes) rfl scFalling.nd (pi_range2 (by rfl) T.range (pa_cons pe_int (pa_cons (pe_callB call_len_seq (by rfl) T.len PySem.boot_len (pa_cons (pv 0) pa_nil)) pa_nil))) (blkOk_by (N := ["value", "most", "number", "i"]) (sc := defScope sFalling) (by decide +kernel)) (fun _ _ _ _ _ => pg_name (i := 3) scFalling.nd rfl (Or.inl rfl)) (fun _ _ _ _ _ => pts_nil) (fun _ _ _ _ _ => (pe_cmpR op_le (pe_ix (r := rIxT K) ix_tup (pv 0) (pv 3) (fun _ _ => rfl)) (pe_ix (r := rIxT K) ix_tup (pv 0) (pe_op op_sub (pv 3) pe_int) (fun _ _ => rfl)) (nomark _)))) pa_nil)))))), ?_⟩
    try dsimp only [cx_nox, cx_K]
    have hl1 := hF.len
    have hs1 := hF.sum
    walk_at "rd"
    refine ⟨_, _, _, _, true, rfl, .ty _, tyT hs, by kernel_rfl, ?_⟩
    walk_at "rd"
    refine g_lc (g_itup ?_)
    walk_at "rd"
    refine lcT hs (small (by rw [List.length_map]; omega)) (fun _ => true) (fun _ => .bl true) (fun x H' hx e Qe Qn he hn => ?_) (fun H1 D e1 hD hd => ?_)
    · obtain ⟨n, hn', rfl⟩ := List.mem_map.mp hx
      refine ⟨rfl, ?_⟩
      walk_at "rd"
      refine ⟨_, 1, 12, true, rfl, by decide, by decide, .inl ⟨n, rfl, (decide_eq_true ⟨hF.pos n hn', hF.le n hn'⟩).symm⟩, ?_⟩
      exact he _ (fun _ _ z => z) rfl
    · walk_at "rd"
      refine ⟨D, ns.map fun _ => true, rfl, SqL.of ?_, ?_⟩
      · rw [hd, List.filter_eq_self.mpr (fun _ _ => rfl), List.map_map, List.map_map]
        rfl
      have all : (ns.map fun _ => true).all id = true := by simp
      rw [all]
      walk_at "rd"
      refine ⟨a, ns, rfl, .inr (sqT_ext e1 hs), ?_⟩
      walk_at "rd"
      rw [decide_eq_true hs1]
      walk_at "rd"
      refine g_lc (g_rng2 ?_)
      walk_at "rd"
      refine ⟨a, _, rfl, .inr (sqT_ext e1 hs), ?_⟩
      walk_at "rd"
      rw [List.length_map]
      refine ⟨⟨by decide, by decide, by omega, by omega⟩, ?_⟩
      have en : ((ns.length : Int) - 1).toNat = ns.length - 1 := by omega
      rw [en]
      refine lcR (small (by omega)) (fun _ => true) (fun _ => .bl true) (fun i H' hi e Qe Qn he hn => ?_) (fun H' D2 e hD2 hd2 => ?_)
      · have ei : (1 + (i : Int)) = ((i + 1 : Nat) : Int) := by omega
        rw [ei]
        refine ⟨rfl, ?_⟩
        walk_at "rd"
        refine g_ixT (sqT_ext e (sqT_ext e1 hs)) (atI_nat (getI (i := i + 1) (by omega))) ?_
        walk_at "rd"
        have ej : (((i + 1 : Nat) : Int) - 1) = (i : Int) := by omega
        rw [ej]
        refine g_ixT (sqT_ext e (sqT_ext e1 hs)) (atI_nat (getI (i := i) (by omega))) ?_
        walk_at "rd"
        rw [decide_eq_true (hF.desc i (by omega))]
        exact he _ (fun _ _ z => z) rfl
      · rw [idx_all] at hd2
        walk_at "rd"
        refine ⟨D2, (List.range (ns.length - 1)).map fun _ => true, rfl, SqL.of ?_, ?_⟩
        · rw [hd2, List.map_map]
          rfl
        have all2 : ((List.range (ns.length - 1)).map fun _ => true).all id = true := by simp
        rw [all2]
        exact k _ (Ext.trans e1 e)
end
end

/-! Kinds: made, told. -/

section
open PySem PySem.Spec PyProof.Rows L2 Gd
section
variable {P : Program} {w : World} {K : PySem.W.Frag} {mg : Str → Option Value} {base : Heap} {f C : Addr} {fd : FuncData}
/-- the class at C -/
structure KC (K : PySem.W.Frag) (mg : Str → Option Value) (C : Addr) : Prop where
  cl : Cls K C
  noN : NoAttr K C "_numbers"
  noP : NoAttr K C "_place"
  g : mg "Kind" = some (.ref C)
  kp : PySem.W.keepIn K (.ref C) = true
  ha : PySem.W.findIn K (.ref C) "__class__" = some (some (.builtin "object.__class__"))
  hn : PySem.W.specialIn K (.builtin "object.__class__") "__get__" = some (some (.builtin "getset_descriptor.__get__"))
  htk : PySem.W.takesIn K (.builtin "object.__class__") = some true
  hm : PySem.W.mroIn K C (.type "object") = some true
  kit : PySem.W.kitOne K (.ref C) (.ref C) = some true
  ne : NeC K C
  most : ∃ t, mg "MAX_SIZE" = some (.int 12 t)
theorem KC.ty {C : Addr} (T : KC K mg C) {H : Hp} {p dx : Addr} {fs : List (Str × V)} (h : H p = some (.ins C dx fs)) : TyX K H (.ref p) (.ref C) := .base (.ins h T.cl T.ha T.hn T.htk T.hm)
/-- a kind at p, with the numbers ns -/
structure KindAt (K : PySem.W.Frag) (C : Addr) (H : Hp) (p n t m : Addr) (ns : List Int) : Prop where
  ins : ∃ dx, H p = some (.ins C dx [(("_numbers" : Str), .ref n), (("_place" : Str), .ref t)])
  num : TupX K H n (ns.map V.int)
  pl : SqT K H t [.int ns.sum, .ref m]
  neg : SqT K H m ((ns.map fun x => -x).map V.int)
  fall : Fall ns
theorem KindAt.ext {H H' : Hp} {p n t m : Addr} {ns : List Int} (e : Ext H H') (h : KindAt K C H p n t m ns) : KindAt K C H' p n t m ns := by
  obtain ⟨⟨dx, h1⟩, h2, h3, h4, h5⟩ := h
  exact ⟨⟨dx, e _ _ h1⟩, h2.ext e, sqT_ext e h3, sqT_ext e h4, h5⟩
theorem look1 {u t : V} : ([(("_numbers" : Str), u), (("_place" : Str), t)] : List (Str × V)).lookup ("_numbers" : Str) = some u := by simp [List.lookup]
theorem look2 {u t : V} : ([(("_numbers" : Str), u), (("_place" : Str), t)] : List (Str × V)).lookup ("_place" : Str) = some t := by
  have : (("_place" : Str) == ("_numbers" : Str)) = false := by decide
  simp [List.lookup, this]
/-! ### __init__ -/
abbrev sInit : Stmt := cls 0
theorem scInit : FnScope ["self", "numbers", "number"] ["self", "numbers"] (defScope sInit) := ⟨rfl, rfl, rfl, by decide +kernel, rfl, by decide +kernel, by decide +kernel⟩
def spInit (K : PySem.W.Frag) (C : Addr) : Sp := fun vs H Q _ => ∃ (p dx a : Addr) (ns : List Int), vs = [.ref p, .ref a] ∧ H p = some (.ins C dx []) ∧ TupX K H a (ns.map V.int) ∧ Fall ns ∧
  ∀ H' n t m, ExtBut p H H' → KindAt K C H' p n t m ns → Q .non H'
abbrev FnI (K : PySem.W.Frag) (t0 f : Addr) (fd : FuncData) : Prop := FunD K "__init__" "Kind.__init__" (defArgs sInit) (defBody sInit) (defScope sInit) [.ref t0] [] f fd
def negV : V → V := fun v => match v with
  | .int n => .int (-n)
  | y => y
theorem sqT_up {H : Hp} {p a C dx : Addr} {fs gs : List (Str × V)} {xs : List V} (hp : H p = some (.ins C dx fs)) (h : SqT K H a xs) : SqT K (upd H p (.ins C dx gs)) a xs := by
  rcases h with (h | ⟨o, h⟩) | h
  · refine .inl (.inl ?_)
    rw [upd_ne (ne_of h hp (by intro z; cases z))]
    exact h
  · refine .inl (.inr ⟨o, ?_⟩)
    rw [upd_ne (ne_of h hp (by intro z; cases z))]
    exact h
  · exact .inr h
theorem tupX_up {H : Hp} {p a C dx : Addr} {fs gs : List (Str × V)} {xs : List V} (hp : H p = some (.ins C dx fs)) (h : TupX K H a xs) : TupX K (upd H p (.ins C dx gs)) a xs := by
  rcases h with ⟨o, h, d⟩ | h
  · refine .inl ⟨o, ?_, d⟩
    rw [upd_ne (ne_of h hp (by intro z; cases z))]
    exact h
  · exact .inr h
theorem ok_init {t0 : Addr} (F : FnI K t0 f fd) (T : Txt K mg) (Cl : KC K mg C) (Fa : Def1 P w K mg base CX0 4 "is_falling" ["value", "most"] (spFalling K)) :
    FnOk P w K mg base CX0 5 f fd ["self", "numbers"] (spInit K C) := by
  obtain ⟨tM, gM⟩ := Cl.most
  refine F.ok scInit (fun vs H Q E h => ?_) (fun cdv A outer s H vs Q E hr h => ?_)
  · obtain ⟨p, dx, a, ns, rfl, _⟩ := h
    rfl
  · obtain ⟨p, dx, a, ns, rfl, hp, ha, hF, k⟩ := h
    refine ⟨_, PSs.nox (pss_cons (ps_if (pt_not (pt_val (pe_def Fa hr (by decide) (by rfl) (pa_cons (pv 1) (pa_cons (pe_glob (v := .int 12) (by rfl) gM ⟨_, rfl⟩) pa_nil))))) (pss_one ps_never) pss_nil)
      (pss_cons (ps_fld (pv 0) (pe_callTy call_tupX (by rfl) T.tuple (by decide +kernel) (pa_cons (pv 1) pa_nil)) rfl)
      (pss_one (ps_fld (pv 0) (pe_tup (pa_cons (pe_callB (call_sumS rfl) (by rfl) T.sum (by decide +kernel) (pa_cons (pv 1) pa_nil)) (pa_cons (pe_callTy call_tupX (by rfl) T.tuple (by decide +kernel) (pa_cons (pe_lc (own := [("number", 2)]) (g := gName 2) (tt := tYes) rfl scInit.nd (pi_tup (pv 1)) (blkOk_by (N := ["self", "numbers", "number"]) (sc := defScope sInit) (by decide +kernel)) (fun _ _ _ _ _ => pg_name (i := 2) scInit.nd rfl (Or.inl rfl)) (fun _ _ _ _ _ => pts_nil) (fun _ _ _ _ _ => (pe_un un_neg (pv 2)))) pa_nil)) pa_nil))) rfl)))), ?_⟩
    try dsimp only [cx_nox, cx_K]
    have hl1 := hF.len
    walk_at "rd"
    refine ⟨a, ns, rfl, ha.sq, hF, fun H1 e1 => ?_⟩
    have hp1 : H1 p = some (.ins C dx []) := e1 _ _ hp
    have ha1 := ha.ext e1
    walk_at "rd"
    refine ⟨a, _, rfl, .inr ⟨ha1.sq, ?_⟩⟩
    walk_at "rd"
    refine ⟨p, C, dx, [], rfl, hp1, Cl.cl, Cl.noN, by decide, ?_⟩
    have hp2 : upd H1 p (.ins C dx (putF "_numbers" (.ref a) [])) p = some (.ins C dx [(("_numbers" : Str), .ref a)]) := upd_same
    have ha2 := tupX_up (gs := putF "_numbers" (.ref a) []) hp1 ha1
    have e2 : ExtBut p H (upd H1 p (.ins C dx (putF "_numbers" (.ref a) []))) := fun b o hb q => by
      rw [upd_ne hb]
      exact e1 _ _ q
    generalize upd H1 p (.ins C dx (putF "_numbers" (.ref a) [])) = H2 at hp2 ha2 e2 ⊢
    walk_at "rd"
    refine ⟨a, ns, rfl, .inr ha2.sq, ?_⟩
    walk_at "rd"
    refine g_lc (g_itup ?_)
    walk_at "rd"
    refine lcT ha2.sq (small (by rw [List.length_map]; omega)) (fun _ => true) negV (fun x H' hx e Qe Qn he hn => ?_) (fun H3 D e3 hD hd => ?_)
    · obtain ⟨n, hn', rfl⟩ := List.mem_map.mp hx
      refine ⟨rfl, ?_⟩
      walk_at "rd"
      exact he _ (fun _ _ z => z) rfl
    · walk_at "rd"
      rw [List.filter_eq_self.mpr (fun _ _ => rfl), List.map_map] at hd
      refine ⟨D, _, rfl, .inl ⟨SqL.of hd, fun l o hl ho => ?_⟩⟩
      walk_at "rd"
      refine ⟨by show 2 ≤ sizeLine; decide, fun t ht => ?_⟩
      have el := Ext.new (o := HO.frz o (.tup (ns.map (negV ∘ V.int)))) hl
      have et := Ext.new (o := HO.tup [V.int ns.sum, V.ref l]) ht
      have e4 := Ext.trans e3 (Ext.trans el et)
      have hl4 : SqT K _ l ((ns.map fun x => -x).map V.int) := sqT_ext et (xs := (ns.map fun x => -x).map V.int) (by
        rw [List.map_map]
        exact .inl (.inr ⟨o, upd_same⟩))
      have ht4 : SqT K (upd (upd H3 l (HO.frz o (.tup (ns.map (negV ∘ V.int))))) t (HO.tup [V.int ns.sum, V.ref l])) t [V.int ns.sum, V.ref l] := SqT.of upd_same
      generalize upd (upd H3 l (HO.frz o (.tup (ns.map (negV ∘ V.int))))) t (HO.tup [V.int ns.sum, V.ref l]) = H4 at e4 hl4 ht4 ⊢
      have hp4 := e4 _ _ hp2
      walk_at "rd"
      refine ⟨p, C, dx, _, rfl, hp4, Cl.cl, Cl.noP, (by show 1 < 1000; omega), ?_⟩
      refine k _ a t l ?_ ⟨⟨dx, upd_same⟩, tupX_up hp4 (ha2.ext e4), sqT_up hp4 ht4, sqT_up hp4 hl4, hF⟩
      intro b o hb q
      rw [upd_ne hb]
      exact e4 _ _ (e2 b o hb q)
end
end

/-! Kinds: numbers, size, kinds that are asked. -/

section
open PySem PySem.Spec PyProof.Rows L2 Gd
section
variable {P : Program} {w : World} {K : PySem.W.Frag} {mg : Str → Option Value} {base : Heap} {f C t0 : Addr} {fd : FuncData}
/-- a promise of a property: the answer v and nothing changed -/
def spGet (K : PySem.W.Frag) (C : Addr) (v : Addr → List Int → V) : Sp := fun vs H Q _ => ∃ (p n t m : Addr) (ns : List Int), vs = [.ref p] ∧ KindAt K C H p n t m ns ∧ ∀ H', Ext H H' → Q (v n ns) H'
theorem scNum : FnScope ["self"] ["self"] (defScope (cls 2)) := ⟨rfl, rfl, rfl, by decide +kernel, rfl, by decide +kernel, by decide +kernel⟩
theorem ok_numbers (F : Fun K "numbers" "Kind.numbers" (cls 2) f fd) (Cl : KC K mg C) : FnOk P w K mg base CX0 1 f fd ["self"] (spGet K C fun n _ => .ref n) := by
  refine F.ok scNum (fun vs H Q E h => ?_) (fun cdv A outer s H vs Q E hr h => ?_)
  · obtain ⟨p, n, t, m, ns, rfl, _⟩ := h
    rfl
  · obtain ⟨p, n, t, m, ns, rfl, ⟨⟨dx, hp⟩, hn, ht, hm, hF⟩, k⟩ := h
    refine ⟨_, pss_one (ps_ret (pe_fld (pv 0) rfl)), ?_⟩
    try dsimp only [cx_nox, cx_K]
    walk_at "rd"
    exact ⟨p, C, dx, _, _, rfl, hp, Cl.cl, Cl.noN, look1, k H (fun _ _ z => z)⟩
theorem scSiz : FnScope ["self"] ["self"] (defScope (cls 3)) := ⟨rfl, rfl, rfl, by decide +kernel, rfl, by decide +kernel, by decide +kernel⟩
theorem ok_size (F : Fun K "size" "Kind.size" (cls 3) f fd) (T : Txt K mg) (Cl : KC K mg C) : FnOk P w K mg base CX0 1 f fd ["self"] (spGet K C fun _ ns => .int ns.sum) := by
  refine F.ok scSiz (fun vs H Q E h => ?_) (fun cdv A outer s H vs Q E hr h => ?_)
  · obtain ⟨p, n, t, m, ns, rfl, _⟩ := h
    rfl
  · obtain ⟨p, n, t, m, ns, rfl, ⟨⟨dx, hp⟩, hn, ht, hm, hF⟩, k⟩ := h
    refine ⟨_, pss_one (ps_ret (pe_callB (call_sumS rfl) (by rfl) T.sum (by decide +kernel) (pa_cons (pe_fld (pv 0) rfl) pa_nil))), ?_⟩
    try dsimp only [cx_nox, cx_K]
    walk_at "rd"
    refine ⟨p, C, dx, _, _, rfl, hp, Cl.cl, Cl.noN, look1, ?_⟩
    walk_at "rd"
    exact ⟨n, ns, rfl, .inr hn.sq, k H (fun _ _ z => z)⟩
theorem made_ext {H : Hp} {x dx : Addr} {o u : HO} (hx : H x = none) (hdx : H dx = none) : Ext H (upd (upd H dx o) x u) := fun b ob q => by
  rw [upd_ne (ne_of_none q hx), upd_ne (ne_of_none q hdx)]
  exact q
theorem g_mk2 {E : XK} {H1 : Hp} {Q : VK} {a : Addr} {ns : List Int} (h : TupX K H1 a (ns.map V.int)) (hF : Fall ns) (k : ∀ H' p n t m, Ext H1 H' → KindAt K C H' p n t m ns → Q (.ref p) H') :
    ∀ x dx, H1 x = none → H1 dx = none → dx ≠ x → spInit K C [.ref x, .ref a] (upd (upd H1 dx (.own x)) x (.ins C dx [])) (fun v H2 => v = .non ∧ Q (.ref x) H2) E := fun x dx hx hdx ne =>
  ⟨x, dx, a, ns, rfl, upd_same, h.ext (made_ext hx hdx), hF, fun H' n t m e hk => ⟨rfl, k H' x n t m (fun b o q => e b o (ne_of_none q hx) (made_ext hx hdx b o q)) hk⟩⟩
theorem g_mk3 {E : XK} {H1 : Hp} {R : Addr → Hp → Prop} {a : Addr} {ns : List Int} (h : TupX K H1 a (ns.map V.int)) (hF : Fall ns) (k : ∀ H' p n t m, Ext H1 H' → KindAt K C H' p n t m ns → R p H') :
    ∀ x dx, H1 x = none → H1 dx = none → dx ≠ x → spInit K C [.ref x, .ref a] (upd (upd H1 dx (.own x)) x (.ins C dx [])) (fun v H2 => v = .non ∧ R x H2) E := fun x dx hx hdx ne =>
  ⟨x, dx, a, ns, rfl, upd_same, h.ext (made_ext hx hdx), hF, fun H' n t m e hk => ⟨rfl, k H' x n t m (fun b o q => e b o (ne_of_none q hx) (made_ext hx hdx b o q)) hk⟩⟩
end
end

/-! Rows: numbers, the turned one, the slant. -/

section
open PySem PySem.Spec PyProof.Rows L2 Gd
section
variable {P : Program} {w : World} {K : PySem.W.Frag} {mg : Str → Option Value} {base : Heap} {f C t0 : Addr} {fd : FuncData}
/-! ### number_at -/
abbrev sNumAt : Stmt := top 16
theorem scNumAt : FnScope ["row", "index"] ["row", "index"] (defScope sNumAt) := ⟨rfl, rfl, rfl, by decide +kernel, rfl, by decide +kernel, by decide +kernel⟩
def spNumAt (K : PySem.W.Frag) : Sp := fun vs H Q _ => ∃ (a : Addr) (ns : List Int) (i : Nat), vs = [.ref a, .int (i : Int)] ∧ SqT K H a (ns.map V.int) ∧ Q (.int (ns.getD i 0)) H
theorem ok_numAt (F : Fun K "number_at" "number_at" sNumAt f fd) (T : Txt K mg) : FnOk P w K mg base CX0 1 f fd ["row", "index"] (spNumAt K) := by
  refine F.ok scNumAt (fun vs H Q E h => ?_) (fun cdv A outer s H vs Q E hr h => ?_)
  · obtain ⟨a, ns, i, rfl, _⟩ := h
    rfl
  · obtain ⟨a, ns, i, rfl, hs, k⟩ := h
    refine ⟨_, pss_one (ps_ret (pe_ifExp (pt_cmpR op_lt (pv 1) (pe_callB call_len_seq (by rfl) T.len PySem.boot_len (pa_cons (pv 0) pa_nil)) (nomark _)) (pe_ix ix_tup (pv 0) (pv 1) (fun _ _ => rfl)) pe_int)), ?_⟩
    try dsimp only [cx_nox, cx_K]
    walk_at "rd"
    refine ⟨a, _, rfl, .inr hs, ?_⟩
    walk_at "rd"
    rw [List.length_map]
    refine ite2 (fun h1 => ?_) (fun h1 => ?_)
    · have h2 := of_decide_eq_true h1
      have hlt : i < ns.length := by omega
      walk_at "rd"
      exact g_ixT hs (atI_nat (getI hlt)) k
    · have hlt : ¬ i < ns.length := fun z => h1 (decide_eq_true (by omega))
      rw [getD_big hlt] at k
      walk_at "rd"
      exact k
/-! ### the turned row -/
def gtI (i : Nat) : V → Bool := fun v => match v with
  | .int n => decide ((i : Int) < n)
  | _ => false
theorem filter_gtI {ns : List Int} {i : Nat} : ((ns.map V.int).filter (gtI i)).length = (ns.filter fun x => decide ((i : Int) < x)).length := by
  rw [List.filter_map, List.length_map]
  rfl
theorem numZ {ns : List Int} : (0 + ns.getD 0 0 : Int).toNat = (ns.getD 0 0).toNat := by rw [Int.zero_add]
def turnM (ns : List Int) : List Int := (List.range (ns.getD 0 0).toNat).map fun (i : Nat) => ((ns.filter fun x => decide ((i : Int) < x)).length : Int)
abbrev sTurned : Stmt := top 17
theorem scTurned : FnScope ["row", "i", "number"] ["row"] (defScope sTurned) := ⟨rfl, rfl, rfl, by decide +kernel, rfl, by decide +kernel, by decide +kernel⟩
def spTurned (K : PySem.W.Frag) : Sp := fun vs H Q _ => ∃ (a : Addr) (ns : List Int), vs = [.ref a] ∧ SqT K H a (ns.map V.int) ∧ ns.length ≤ 100 ∧ 0 ≤ ns.getD 0 0 ∧ ns.getD 0 0 ≤ 100 ∧
  ∀ H' u, Ext H H' → TupX K H' u ((turnM ns).map V.int) → Q (.ref u) H'
theorem ok_turnedR (F : Fun K "turned_row" "turned_row" sTurned f fd) (T : Txt K mg) (N : Def1 P w K mg base CX0 1 "number_at" ["row", "index"] (spNumAt K)) : FnOk P w K mg base CX0 2 f fd ["row"] (spTurned K) := by
  refine F.ok scTurned (fun vs H Q E h => ?_) (fun cdv A outer s H vs Q E hr h => ?_)
  · obtain ⟨a, ns, rfl, _⟩ := h
    rfl
  · obtain ⟨a, ns, rfl, hs, hl, hm0, hm, k⟩ := h
    refine ⟨_, pss_one (ps_ret (pe_callTy call_tupX (by rfl) T.tuple (by decide +kernel) (pa_cons (pe_lc (own := [("i", 1)]) (g := gName 1) (tt := tYes) rfl scTurned.nd (pi_range1 (by rfl) T.range (pa_cons (pe_def N hr (by decide) (by rfl) (pa_cons (pv 0) (pa_cons pe_int pa_nil))) pa_nil)) (blkOk_by (N := ["row", "i", "number"]) (sc := defScope sTurned) (by decide +kernel)) (fun _ _ _ _ _ => pg_name (i := 1) scTurned.nd rfl (Or.inr rfl)) (fun _ _ _ _ _ => pts_nil) (fun _ _ _ _ _ => by exact (pe_callB (r := rLenS K) call_len_seq (by rfl) T.len PySem.boot_len (pa_cons (pe_lc (own := [("number", 2)]) (wi := iTup K (tVar 0)) (g := gName 2) rfl scTurned.nd (by exact (pi_tup (pv 0))) (blkOk_by (N := ["row", "i", "number"]) (sc := { kind := .function, names := [((".0" : Str), .local), ("i", .cell), ("len", .globalImplicit), ("row", .cell)], isGenerator := false, isCoroutine := false, more := [] }) (by decide +kernel)) (fun _ _ _ _ _ => pg_name (i := 2) scTurned.nd rfl (Or.inl rfl)) (fun _ _ _ _ _ => pts_one (pt_cmpR op_gt (pv 2) (pv 1) (nomark _))) (fun _ _ _ _ _ => by exact (pv 2))) pa_nil)))) pa_nil))), ?_⟩
    try dsimp only [cx_nox, cx_K]
    walk_at "rd"
    refine g_lc (g_rng1 ?_)
    walk_at "rd"
    refine ⟨a, ns, 0, rfl, hs, ?_⟩
    walk_at "rd"
    refine ⟨by omega, by omega, lcR (by show _ < sizeLine; have : (1000 : Nat) < sizeLine := by decide
                                        omega) (fun _ => true) (fun i => .int ((ns.filter fun x => decide ((i : Int) < x)).length : Int)) (fun i H' hi e Qe Qn he hn => ?_) (fun H' D e hD hd => ?_)⟩
    · walk_at "rd"
      refine ⟨rfl, ?_⟩
      walk_at "rd"
      refine g_lc (g_itup ?_)
      walk_at "rd"
      refine lcT (sqT_ext e hs) (by rw [List.length_map]; show _ < sizeLine; have : (1000 : Nat) < sizeLine := by decide
                                    omega) (gtI i) id (fun x H2 hx e2 Qe2 Qn2 he2 hn2 => ?_) (fun H2 D2 e2 hD2 hd2 => ?_)
      · obtain ⟨n, hn, rfl⟩ := List.mem_map.mp hx
        walk_at "rd"
        refine ⟨rfl, ?_⟩
        walk_at "rd"
        refine ite2 (fun h1 => ?_) (fun h1 => ?_)
        · walk_at "rd"
          exact he2 _ (fun _ _ z => z) (by show decide _ = true; simpa using h1)
        · refine hn2 _ (fun _ _ z => z) (by show decide _ = false; simpa using h1)
      · walk_at "rd"
        refine ⟨D2, _, rfl, .inl (SqL.of hd2), ?_⟩
        walk_at "rd"
        rw [List.length_map, filter_gtI]
        exact he _ e2 rfl
    · walk_at "rd"
      rw [idx_all] at hd
      refine ⟨D, _, rfl, .inl ⟨SqL.of hd, fun l o hl ho => ?_⟩⟩
      refine k _ l (Ext.trans e (Ext.new hl)) ?_
      unfold turnM
      rw [List.map_map]
      exact TupX.new ho
theorem mulS {a b : Int} (h0 : 0 ≤ a) (h1 : a ≤ 1000) (h2 : 0 ≤ b) (h3 : b ≤ 1000) : CMul a b := by
  first
    | exact .inr ⟨by omega, by omega⟩
    | exact .inl ⟨by omega, by omega⟩
    | exact ⟨by omega, by omega⟩
/-! ### slant -/
abbrev sSlant : Stmt := top 18
def slantM (ns : List Int) : Int := ((List.range ns.length).map fun (i : Nat) => (i : Int) * ns.getD i 0).sum
def mulV (i : Nat) : V → V := fun v => match v with
  | .int n => .int ((i : Int) * n)
  | y => y
theorem slant_map {ns : List Int} : ((idx (fun i => true) ns.length).map fun i => mulV i ((ns.map V.int).getD i .non)) = ((List.range ns.length).map fun (i : Nat) => (i : Int) * ns.getD i 0).map V.int := by
  rw [idx_all, List.map_map]
  refine List.map_congr_left fun i hi => ?_
  rw [getDI (List.mem_range.mp hi)]
  rfl
theorem scSlant : FnScope ["row", "i", "number"] ["row"] (defScope sSlant) := ⟨rfl, rfl, rfl, by decide +kernel, rfl, by decide +kernel, by decide +kernel⟩
def spSlant (K : PySem.W.Frag) : Sp := fun vs H Q _ => ∃ (a : Addr) (ns : List Int), vs = [.ref a] ∧ SqT K H a (ns.map V.int) ∧ Fall ns ∧ ∀ H', Ext H H' → Q (.int (slantM ns)) H'
theorem ok_slantR (F : Fun K "slant_of" "slant_of" sSlant f fd) (T : Txt K mg) : FnOk P w K mg base CX0 1 f fd ["row"] (spSlant K) := by
  refine F.ok scSlant (fun vs H Q E h => ?_) (fun cdv A outer s H vs Q E hr h => ?_)
  · obtain ⟨a, ns, rfl, _⟩ := h
    rfl
  · obtain ⟨a, ns, rfl, hs, hF, k⟩ := h
    refine ⟨_, pss_one (ps_ret (pe_callB (call_sumS rfl) (by rfl) T.sum (by decide +kernel) (pa_cons (pe_lc (own := [("i", 1), ("number", 2)]) (g := gTup K 2 (gCons (gName 1) (gCons (gName 2) gNil))) (tt := tYes) rfl scSlant.nd (pi_enumT (by rfl) T.enumerate (pa_cons (pv 0) pa_nil)) (blkOk_by (N := ["row", "i", "number"]) (sc := defScope sSlant) (by decide +kernel)) (fun _ _ _ _ _ => pg_tup rfl (pgs_cons (pg_name (i := 1) scSlant.nd rfl (Or.inl rfl)) (pgs_cons (pg_name (i := 2) scSlant.nd rfl (Or.inl rfl)) pgs_nil))) (fun _ _ _ _ _ => pts_nil) (fun _ _ _ _ _ => (pe_op op_mul (pv 1) (pv 2)))) pa_nil))), ?_⟩
    try dsimp only [cx_nox, cx_K]
    have hlen := hF.len
    walk_at "rd"
    refine g_lc ?_
    unfold iEnumT
    walk_at "rd"
    refine lcE hs (small (by rw [List.length_map]; omega)) (fun _ _ => true) mulV (fun i x H' hx e Qe Qn he hn => ?_) (fun H' D e hD hd => ?_)
    · rw [mapget] at hx
      obtain ⟨n, hn', rfl⟩ := Option.map_eq_some_iff.mp hx
      refine ⟨rfl, ?_⟩
      walk_at "rd"
      have b1 := hF.pos _ (List.mem_of_getElem? hn')
      have b2 := hF.le _ (List.mem_of_getElem? hn')
      have b3 := (List.getElem?_eq_some_iff.mp hn').1
      refine g_I (mulS (by omega) (by omega) (by omega) (by omega)) ?_
      exact he _ (fun _ _ z => z) rfl
    · rw [List.length_map, slant_map] at hd
      walk_at "rd"
      exact ⟨D, _, rfl, .inl (SqL.of hd), k H' e⟩
end
end

/-! All kinds of a size, as the law lists them. -/

section
open PySem PySem.Spec PyProof.Rows L2 Gd
theorem geo2 (l : Nat) : ∀ n : Nat, n ≤ l → ((List.range n).map fun i => 2 ^ (l - (i + 1))).sum + 2 ^ (l - n) ≤ 2 ^ l
  | 0, _ => by simp
  | n + 1, h => by
    have ih := geo2 l n (by omega)
    rw [List.range_succ, List.map_append, List.sum_append]
    have e : 2 ^ (l - n) = 2 ^ (l - (n + 1)) + 2 ^ (l - (n + 1)) := by
      rw [show l - n = (l - (n + 1)) + 1 by omega, Nat.pow_succ]
      omega
    have e2 : ([n].map fun i => 2 ^ (l - (i + 1))).sum = 2 ^ (l - (n + 1)) := by simp
    rw [e2]
    omega
theorem len_pow : ∀ ls : List Nat, ls.length ≤ (ls.map fun l => 2 ^ l).sum
  | [] => Nat.le_refl _
  | l :: r => by
    have := len_pow r
    have := Nat.one_le_two_pow (n := l)
    rw [List.length_cons, List.map_cons, List.sum_cons]
    omega
section
variable {K : PySem.W.Frag} {H H' : Hp} {size : Nat}
/-- a kind of that size, as a tuple -/
def KT (K : PySem.W.Frag) (size : Nat) (H : Hp) (f : V) : Prop := ∃ (a : Addr) (ns : List Int), f = .ref a ∧ TupX K H a (ns.map V.int) ∧ Fall ns ∧ ns.sum = (size : Int)
/-- the beginning of one, with what is left -/
def WT (K : PySem.W.Frag) (size : Nat) (H : Hp) (l : Nat) (v : V) : Prop := ∃ (b a : Addr) (ns : List Int), v = .ref b ∧ H b = some (.tup [.ref a, .int (l : Int)]) ∧ TupX K H a (ns.map V.int) ∧ Fall ns ∧ ns.sum + (l : Int) = (size : Int)
/-- what is no list stays -/
def Keeps (H H' : Hp) : Prop := ∀ b o, (∀ xs, o ≠ .lst xs) → H b = some o → H' b = some o
theorem Keeps.of (e : Ext H H') : Keeps H H' := fun b o _ q => e b o q
theorem Keeps.trans {H2 : Hp} (a : Keeps H H') (b : Keeps H' H2) : Keeps H H2 := fun x o n q => b x o n (a x o n q)
theorem Keeps.up {D : Addr} {xs ys : List V} (h : H D = some (.lst xs)) : Keeps H (upd H D (.lst ys)) := fun b o n q => by
  rw [upd_ne (fun z => by rw [z, h] at q; cases q; exact n _ rfl)]
  exact q
theorem TupX.keeps {a : Addr} {xs : List V} (e : Keeps H H') (h : TupX K H a xs) : TupX K H' a xs := by
  rcases h with ⟨o, h, d⟩ | h
  · exact .inl ⟨o, e _ _ (fun _ z => by cases z) h, d⟩
  · exact .inr h
theorem KT.keeps {f : V} (e : Keeps H H') (h : KT K size H f) : KT K size H' f := by
  obtain ⟨a, ns, rfl, ht, r⟩ := h
  exact ⟨a, ns, rfl, TupX.keeps e ht, r⟩
theorem WT.keeps {l : Nat} {v : V} (e : Keeps H H') (h : WT K size H l v) : WT K size H' l v := by
  obtain ⟨b, a, ns, rfl, hb, ht, r⟩ := h
  exact ⟨b, a, ns, rfl, e _ _ (fun _ z => by cases z) hb, TupX.keeps e ht, r⟩
theorem keeps_but {D : Addr} {ys : List V} (hd : H D = none ∨ H D = some (.lst ys)) (e : ExtBut D H H') : Keeps H H' := fun b o n q => e b o (fun z => by
  rw [z] at q
  rcases hd with hd | hd
  · rw [hd] at q
    cases q
  · rw [hd] at q
    cases q
    exact n _ rfl) q
theorem fall_snoc {ns : List Int} {k : Int} (h : Fall ns) (k1 : 1 ≤ k) (hs : ns.sum + k ≤ 12) (hl : ns ≠ [] → k ≤ ns.getD (ns.length - 1) 0) : Fall (ns ++ [k]) := by
  have e : [k].sum = k := by simp
  refine ⟨fun x hx => (List.mem_append.mp hx).elim (h.pos x) fun q => by rw [List.mem_singleton.mp q]; exact k1, by rw [List.sum_append, e]; exact hs, fun i hi => ?_⟩
  rw [List.length_append, List.length_singleton] at hi
  by_cases hin : i + 1 < ns.length
  · have := h.desc i hin
    rw [List.getD_eq_getElem?_getD, List.getD_eq_getElem?_getD, List.getElem?_append_left hin, List.getElem?_append_left (by omega), ← List.getD_eq_getElem?_getD, ← List.getD_eq_getElem?_getD]
    exact this
  · have en : i + 1 = ns.length := by omega
    have hne : ns ≠ [] := fun z => by rw [z] at en; simp at en
    have := hl hne
    rw [List.getD_eq_getElem?_getD, List.getD_eq_getElem?_getD, List.getElem?_append_right (by omega), List.getElem?_append_left (by omega), ← List.getD_eq_getElem?_getD (l := ns), en, Nat.sub_self]
    rw [show ns.length - 1 = i by omega] at this
    exact this
/-- a comprehension over numbers whose results stand in a relation to the turn -/
theorem lcRR {σ : L2.St} {H1 : Hp} {vs : List Nat} {g : TG} {tt : TT} {te : TE} {Q : VK} {lo : Int} {n : Nat} (sz : n < sizeLine) (R : Nat → V → Hp → Prop) (mono : ∀ i y H H', Keeps H H' → R i y H → R i y H')
    (body : ∀ (i : Nat) H', i < n → Ext H1 H' → ∀ (Qe : VK) (Qn : Hp → Prop), (∀ y H3, Ext H' H3 → R i y H3 → Qe y H3) →
      g (.int (lo + i)) (wipe σ vs) H' fun σ2 H2 => wipe σ2 vs = wipe σ vs ∧ tt σ2 H2 fun b H3 => if b = true then te σ2 H3 Qe else Qn H3)
    (k : ∀ H' D ys, Ext H1 H' → H1 D = none → H' D = some (.lst ys) → ys.length = n → (∀ i y, ys[i]? = some y → R i y H') → Q (.ref D) H') : LcG (Itr lo n) g tt te vs σ H1 Q := by
  refine fun D hD => lc_rel walk_range R (fun _ => true) (fun i y D ys H H' hd e r => mono i y H H' (keeps_but hd e) r) hD (fun H' e => True.intro) sz (fun i x H' H'' hi e hy Qe Qn he hn => ?_) (fun H' ys e hd hr => ?_)
  · obtain ⟨rfl, rfl⟩ := hy
    exact body i _ hi e Qe Qn fun y H3 e3 r => he y H3 e3 r rfl
  · rw [idx_all] at hr
    have hl := hr.1
    rw [List.length_range] at hl
    refine k H' D ys e hD hd hl.symm fun i y hy => hr.2 i i y ?_ hy
    rw [List.getElem?_range (by have := (List.getElem?_eq_some_iff.mp hy).1; omega)]
end
section
variable {P : Program} {w : World} {K : PySem.W.Frag} {mg : Str → Option Value} {base : Heap} {f : Addr} {fd : FuncData}
abbrev sKinds : Stmt := top 31
theorem scKinds : FnScope ["_law_size", "_law_found", "_law_waits", "_law_kind_here", "_law_left", "_law_most", "_law_number"] ["_law_size"] (defScope sKinds) := ⟨rfl, rfl, rfl, by decide +kernel, rfl, by decide +kernel, by decide +kernel⟩
def spKinds (K : PySem.W.Frag) : Sp := fun vs H Q _ => ∃ size : Nat, vs = [.int (size : Int)] ∧ size ≤ 12 ∧
  ∀ H' F fs, Ext H H' → H F = none → H' F = some (.lst fs) → fs ≠ [] → fs.length ≤ 4096 → (∀ f ∈ fs, KT K size H' f) → Q (.ref F) H'
def PvK (K : PySem.W.Frag) (size : Nat) (F W : Addr) (H0 : Hp) (m : Nat) : L2.St → Hp → Prop := fun σ H => ∃ (fs : List V) (ps : List (V × Nat)) (x y z : Option V),
  σ = [some (.int (size : Int)), some (.ref F), some (.ref W), x, y, z, none] ∧ m = (ps.map fun p => 2 ^ p.2).sum ∧ H F = some (.lst fs) ∧ H W = some (.lst (ps.map (·.1))) ∧ (∀ f ∈ fs, KT K size H f) ∧ (∀ p ∈ ps, WT K size H p.2 p.1) ∧
  fs.length + (ps.map fun p => 2 ^ p.2).sum ≤ 2 ^ size ∧ (fs ≠ [] ∨ ps ≠ []) ∧ (∀ b o, b ≠ F → b ≠ W → H0 b = some o → H b = some o)
theorem sh_row (ns : List Int) : SeqAt.shaped (.tuple (pdata ns)) = true := by
  have d : ∀ ns : List Int, PyData.depthAll (pdata ns) = 0 := fun ns => by
    induction ns with
    | nil => simp [pdata, PyData.depthAll]
    | cons n r ih =>
      unfold pdata at ih ⊢
      simp [PyData.depthAll, PyData.depth, ih]
  unfold SeqAt.shaped
  simp [PyData.canLay0, play, PyData.depth, d]
theorem g_seqP {i j : Nat} {ta : TA} {D : Ends} {σ : L2.St} {H : Hp} (k : ta σ H fun vs H1 => ∃ v w, vs = [v, w] ∧ D.nx ((σ.set i (some v)).set j (some w)) H1) : tPar i j ta D σ H := k
theorem ok_kinds (F : Fun K "_law_kinds" "_law_kinds" sKinds f fd) (T : Txt K mg) : FnOk P w K mg base CX0 1 f fd ["_law_size"] (spKinds K) := by
  refine F.ok scKinds (fun vs H Q E h => ?_) (fun cdv A outer s H vs Q E hr h => ?_)
  · obtain ⟨size, rfl, _⟩ := h
    rfl
  · obtain ⟨size, rfl, hsz, k⟩ := h
    refine ⟨_, pss_cons (ps_par (i := 1) (j := 2) (by rfl) scKinds.nd rfl rfl (by decide) rfl rfl (pa_cons (pe_lst pa_nil) (pa_cons (pe_lst (pa_cons (pe_tup (pa_cons (pe_tupX pa_nil) (pa_cons (pv 0) pa_nil))) pa_nil)) pa_nil)) (by rfl))
      (pss_cons (ps_while PassesOwn.never (pt_cmpR (op_neNil (Nat.lt_of_le_of_lt (Nat.le_add_right _ _) (lt66 hr))) (pv 2) (pe_lst pa_nil) (nomark _)) (pss_cons (ps_asg (pe_bm0 PySem.F.plainAttrs_list PySem.F.slot_list_pop PySem.F.type_list_pop mt_pop (pv 2)) (pg_tup rfl (pgs_cons (pg_name (i := 3) scKinds.nd rfl (Or.inr rfl)) (pgs_cons (pg_name (i := 4) scKinds.nd rfl (Or.inr rfl)) pgs_nil))))
      (pss_one (ps_if (pt_cmpR op_eq (pv 4) pe_int (nomark _)) (pss_one (ps_expr (pe_bm PySem.F.plainAttrs_list PySem.F.slot_list_append PySem.F.type_list_append mt_append (pv 1) (pa_cons (pv 3) pa_nil)))) (pss_cons (ps_set (i := 5) scKinds.nd rfl (Or.inl rfl) (pe_ifExp (pt_cmpR (op_neD hr.units) (pv 3) (pe_tupX pa_nil) (nomark _)) (pe_callB (call_min2 rfl) (by rfl) T.min (by decide +kernel) (pa_cons (pv 4) (pa_cons (pe_ix ix_tup (pv 3) (pe_un un_neg pe_int) (fun _ _ => rfl)) pa_nil))) (pv 4)))
      (pss_one (ps_expr (pe_bm PySem.F.plainAttrs_list PySem.F.slot_list_extend PySem.F.type_list_extend mt_extend (pv 2) (pa_cons (pe_lc (own := [("_law_number", 6)]) (g := gName 6) (tt := tYes) rfl scKinds.nd (pi_range2 (by rfl) T.range (pa_cons pe_int (pa_cons (pe_op op_add (pv 5) pe_int) pa_nil))) (blkOk_by (N := ["_law_size", "_law_found", "_law_waits", "_law_kind_here", "_law_left", "_law_most", "_law_number"]) (sc := defScope sKinds) (by decide +kernel)) (fun _ _ _ _ _ => pg_name (i := 6) scKinds.nd rfl (Or.inl rfl)) (fun _ _ _ _ _ => pts_nil) (fun _ _ _ _ _ => by exact (pe_tup (pa_cons (pe_op (r := rCatX K) op_catX (pv 3) (pe_tupX (pa_cons (pv 6) pa_nil))) (pa_cons (pe_op op_sub (pv 4) (pv 6)) pa_nil))))) pa_nil)))))))))
      (pss_one (ps_ret (pv 1)))), ?_⟩
    try dsimp only [cx_nox, cx_K]
    refine g_seqP ?_
    walk_at "rd"
    refine ⟨Nat.zero_le _, fun Fa hFa => ?_⟩
    walk_at "rd"
    refine g_tupX ?_
    walk_at "rd"
    refine ⟨Nat.zero_le _, fun a o ha ho => ?_⟩
    walk_at "rd"
    refine ⟨by show 2 ≤ sizeLine; decide, fun b hb => ?_⟩
    walk_at "rd"
    refine ⟨by show 1 ≤ sizeLine; decide, fun Wa hWa => ?_⟩
    walk_at "rd"
    refine ⟨_, _, rfl, ?_⟩
    have e1 : Ext H (upd H Fa (.lst [])) := Ext.new hFa
    have e2 := Ext.new (o := HO.frz o (.tup [])) ha
    have e3 := Ext.new (o := HO.tup [V.ref a, V.int (size : Int)]) hb
    have e4 := Ext.new (o := HO.lst [V.ref b]) hWa
    have t1 : TupX K (upd (upd H Fa (.lst [])) a (.frz o (.tup []))) a (([] : List Int).map V.int) := TupX.new ho
    have t2 := (t1.ext e3).ext e4
    have b2 := e4 _ _ (upd_same : upd (upd (upd H Fa (.lst [])) a (.frz o (.tup []))) b (HO.tup [V.ref a, V.int (size : Int)]) b = _)
    have f2 := e4 _ _ (e3 _ _ (e2 _ _ (upd_same : upd H Fa (.lst []) Fa = _)))
    have w2 : upd (upd (upd (upd H Fa (.lst [])) a (.frz o (.tup []))) b (HO.tup [V.ref a, V.int (size : Int)])) Wa (HO.lst [V.ref b]) Wa = some (.lst [V.ref b]) := upd_same
    have eall := Ext.trans e1 (Ext.trans e2 (Ext.trans e3 e4))
    have nFW : Fa ≠ Wa := ne_of_none (e3 _ _ (e2 _ _ (upd_same : upd H Fa (.lst []) Fa = _))) hWa
    have hW0 : H Wa = none := new_up (Ext.trans e1 (Ext.trans e2 e3)) hWa
    generalize upd (upd (upd (upd H Fa (.lst [])) a (.frz o (.tup []))) b (HO.tup [V.ref a, V.int (size : Int)])) Wa (HO.lst [V.ref b]) = H1 at t2 b2 f2 w2 eall ⊢
    walk_at "rd"
    refine ⟨PvK K size Fa Wa H, ⟨_, [], [(.ref b, size)], none, none, none, rfl, rfl, f2, w2, nofun, fun p hp => ?_, ?_, .inr (by simp), fun c u _ _ q => eall c u q⟩, ?_⟩
    · rw [List.mem_singleton.mp hp]
      exact ⟨b, a, [], rfl, b2, t2, fall_nil, by simp⟩
    · simp
    rintro m σ1 H2 ⟨fs, ps, x, y, z, rfl, rfl, hF, hW, hf, hw, hs, hne, hk⟩
    walk_at "rd"
    refine ⟨Nat.zero_le _, fun e he => ?_⟩
    walk_at "rd"
    have ee := Ext.new (o := HO.lst []) he
    refine ⟨Wa, e, _, rfl, rfl, SqL.of (ee _ _ hW), SqL.of upd_same, ?_⟩
    have hF3 := ee _ _ hF
    have hW3 := ee _ _ hW
    have hk3 : ∀ c u, c ≠ Fa → c ≠ Wa → H c = some u → upd H2 e (.lst []) c = some u := fun c u n1 n2 q => ee _ _ (hk c u n1 n2 q)
    have hf3 := fun f hf0 => (hf f hf0).keeps (Keeps.of ee)
    have hw3 := fun p hp => (hw p hp).keeps (Keeps.of ee)
    generalize upd H2 e (.lst []) = H3 at hF3 hW3 hk3 hf3 hw3 ⊢
    have hs12 : 2 ^ size ≤ 2 ^ 12 := Nat.pow_le_pow_right (by omega) hsz
    walk_at "rd"
    rcases List.eq_nil_or_concat ps with rfl | ⟨qs, ⟨v, l⟩, rfl⟩
    · refine iteF ?_
      walk_at "rd"
      refine k H3 Fa fs (fun c u q => hk3 c u (ne_of_none q hFa) (ne_of_none q hW0) q) hFa hF3 (hne.resolve_right (fun h => h rfl)) ?_ hf3
      have : (([] : List (V × Nat)).map fun p => 2 ^ p.2).sum = 0 := rfl
      rw [this] at hs
      have : (2 : Nat) ^ 12 = 4096 := by decide
      omega
    have hw0 := hw3 (v, l) (by simp)
    obtain ⟨b, a, ns, hv, hb, ht, hfl, hsum⟩ := hw0
    have hv : v = .ref b := hv
    subst hv
    have hb : H3 b = some (.tup [.ref a, .int (l : Int)]) := hb
    have hsum : ns.sum + (l : Int) = (size : Int) := hsum
    have nem : (!(((qs.concat (V.ref b, l)).map fun x => x.1).isEmpty)) = true := by
      rw [List.concat_eq_append, List.map_append]
      cases qs <;> rfl
    rw [nem]
    refine iteT ?_
    have esum : ((qs.concat (V.ref b, l)).map fun p => 2 ^ p.2).sum = (qs.map fun p => 2 ^ p.2).sum + 2 ^ l := by
      rw [List.concat_eq_append, List.map_append, List.sum_append]
      simp
    rw [esum] at hs ⊢
    have emap : (qs.concat (V.ref b, l)).map (fun x => x.1) = qs.map (fun x => x.1) ++ [.ref b] := by
      rw [List.concat_eq_append, List.map_append]
      rfl
    rw [emap] at hW3
    refine ⟨fun σ' H' => ∃ m', m' < (qs.map fun p => 2 ^ p.2).sum + 2 ^ l ∧ PvK K size Fa Wa H m' σ' H', fun _ _ q => q, ?_⟩
    walk_at "rd"
    refine ⟨.inl ⟨rfl, _, SqL.of hW3⟩, Wa, _, .ref b, rfl, rfl, hW3, by simp, ?_⟩
    rw [List.dropLast_concat]
    have kW := Keeps.up (ys := qs.map (fun x => x.1)) hW3
    have hF4 : upd H3 Wa (.lst (qs.map fun x => x.1)) Fa = some (.lst fs) := by
      rw [upd_ne nFW]
      exact hF3
    have hW4 : upd H3 Wa (.lst (qs.map fun x => x.1)) Wa = some (.lst (qs.map fun x => x.1)) := upd_same
    have hk4 : ∀ c u, c ≠ Fa → c ≠ Wa → H c = some u → upd H3 Wa (.lst (qs.map fun x => x.1)) c = some u := fun c u n1 n2 q => by
      rw [upd_ne n2]
      exact hk3 c u n1 n2 q
    have hf4 := fun f hf0 => (hf3 f hf0).keeps kW
    have hw4 : ∀ p ∈ qs, WT K size (upd H3 Wa (.lst (qs.map fun x => x.1))) p.2 p.1 := fun p hp => (hw3 p (by simp [hp])).keeps kW
    have hb4 := kW _ _ (fun _ z => by cases z) hb
    have ht4 := TupX.keeps kW ht
    generalize upd H3 Wa (.lst (qs.map fun x => x.1)) = H4 at hF4 hW4 hk4 hf4 hw4 hb4 ht4 ⊢
    refine ⟨b, _, rfl, SqT.of hb4, rfl, _, _, rfl, ?_⟩
    refine ⟨_, _, rfl, rfl, ?_⟩
    walk_at "rd"
    refine ite2 (fun hl => ?_) (fun hl => ?_)
    · have hl0 : l = 0 := by
        have := of_decide_eq_true hl
        omega
      subst hl0
      walk_at "rd"
      refine ⟨.inl ⟨rfl, _, SqL.of hF4⟩, ?_⟩
      walk_at "rd"
      have hlen := len_pow (qs.map fun p => p.2)
      rw [List.map_map, List.length_map] at hlen
      have h1 : (2 : Nat) ^ 0 = 1 := rfl
      refine ⟨Fa, fs, .ref a, rfl, rfl, hF4, by have : (4096 : Nat) < sizeLine := by decide
                                                have : (2 : Nat) ^ 12 = 4096 := by decide
                                                omega, ?_⟩
      have kF := Keeps.up (ys := fs ++ [.ref a]) hF4
      refine ⟨(qs.map fun p => 2 ^ p.2).sum, by omega, fs ++ [.ref a], qs, _, _, _, rfl, rfl, upd_same, ?_, fun f0 hf0 => ?_, fun p hp => (hw4 p hp).keeps kF, ?_, .inl (by simp), fun c u n1 n2 q => ?_⟩
      · rw [upd_ne (Ne.symm nFW)]
        exact hW4
      · rcases List.mem_append.mp hf0 with q | q
        · exact (hf4 f0 q).keeps kF
        · rw [List.mem_singleton.mp q]
          exact ⟨a, ns, rfl, TupX.keeps kF ht4, hfl, by omega⟩
      · rw [List.length_append, List.length_singleton]
        omega
      · rw [upd_ne n1]
        exact hk4 c u n1 n2 q
    · have hl0 : l ≠ 0 := fun z => hl (decide_eq_true (by rw [z]; rfl))
      walk_at "rd"
      refine g_tupX ?_
      walk_at "rd"
      refine ⟨Nat.zero_le _, fun u o2 hu ho2 => ?_⟩
      have e5 := Ext.new (o := HO.frz o2 (.tup [])) hu
      refine ⟨_, _, .tup (ht4.ext e5).sq (pdp ns), .tup (xs := ([] : List Int).map V.int) (TupX.new ho2).sq (pdp []), sh_row ns, sh_row [], ?_⟩
      have ene : PyData.eqv (.tuple (pdata ns)) (.tuple (pdata [])) = decide (ns = []) := by
        simp only [PyData.eqv, peqv]
      rw [ene]
      have hF5 := e5 _ _ hF4
      have hW5 := e5 _ _ hW4
      have hk5 : ∀ c v, c ≠ Fa → c ≠ Wa → H c = some v → upd H4 u (HO.frz o2 (.tup [])) c = some v := fun c v n1 n2 q => e5 _ _ (hk4 c v n1 n2 q)
      have hf5 := fun f0 hf0 => (hf4 f0 hf0).keeps (Keeps.of e5)
      have hw5 := fun p hp => (hw4 p hp).keeps (Keeps.of e5)
      have ht5 := ht4.ext e5
      generalize upd H4 u (HO.frz o2 (.tup [])) = H5 at hF5 hW5 hk5 hf5 hw5 ht5 ⊢
      obtain ⟨mo, m1, m2, m3, m4⟩ : ∃ mo : Nat, 1 ≤ mo ∧ mo ≤ l ∧ (ns ≠ [] → (mo : Int) ≤ ns.getD (ns.length - 1) 0) ∧ (mo : Int) = if ns = [] then (l : Int) else if ns.getD (ns.length - 1) 0 < (l : Int) then ns.getD (ns.length - 1) 0 else (l : Int) := by
        by_cases hn : ns = []
        · exact ⟨l, by omega, Nat.le_refl _, fun h => absurd hn h, by rw [if_pos hn]⟩
        · have hp := hfl.pos _ (getD_mem (i := ns.length - 1) (by have := List.length_pos_iff.mpr hn; omega))
          by_cases hc : ns.getD (ns.length - 1) 0 < (l : Int)
          · exact ⟨(ns.getD (ns.length - 1) 0).toNat, by omega, by omega, fun _ => by omega, by rw [if_neg hn, if_pos hc]; omega⟩
          · exact ⟨l, by omega, Nat.le_refl _, fun _ => by omega, by rw [if_neg hn, if_neg hc]⟩
      walk_at "rd"
      refine g_ifV (.int (mo : Int)) (fun h1 Q' q => ?_) (fun h1 Q' q => ?_) ?_
      · have hn : ns ≠ [] := fun z => by simp [z] at h1
        rw [if_neg hn] at m4
        walk_at "rd"
        refine g_ixT (v := .int (ns.getD (ns.length - 1) 0)) ht5.sq ?_ ?_
        · have hlen := List.length_pos_iff.mpr hn
          unfold atI ixN
          rw [List.length_map, if_neg (by decide), if_pos (by omega)]
          have : ((-1 : Int) + (ns.length : Int)).toNat = ns.length - 1 := by omega
          show (ns.map V.int)[((-1 : Int) + (ns.length : Int)).toNat]? = _
          rw [this]
          exact getI (by omega)
        · refine ⟨_, _, rfl, ?_⟩
          rw [← m4]
          exact q
      · have hn : ns = [] := by simpa using h1
        rw [if_pos hn] at m4
        walk_at "rd"
        rw [← m4]
        exact q
      walk_at "rd"
      refine ⟨.inl ⟨rfl, _, SqL.of hW5⟩, ?_⟩
      walk_at "rd"
      refine g_lc (g_rng2 ?_)
      walk_at "rd"
      have hl13 : (l : Int) ≤ 12 := by
        have := hfl.sum0
        omega
      refine ⟨⟨by decide, by decide, by omega, by omega⟩, ?_⟩
      have en : ((mo : Int) + 1 - 1).toNat = mo := by omega
      rw [en]
      refine lcRR (small (by omega)) (fun i y H => WT K size H (l - (i + 1)) y) (fun i y H H' e r => r.keeps e) (fun i H6 hi e6 Qe Qn he => ?_) (fun H6 D ys e6 hD hd hyl hyr => ?_)
      · refine ⟨rfl, ?_⟩
        walk_at "rd"
        refine g_tupX ?_
        walk_at "rd"
        refine ⟨by show 1 ≤ sizeLine; decide, fun c o3 hc ho3 => ?_⟩
        have e7 := Ext.new (o := HO.frz o3 (.tup [V.int (1 + (i : Int))])) hc
        have hfl' : Fall (ns ++ [1 + (i : Int)]) := fall_snoc hfl (by omega) (by omega) (fun hn => by have := m3 hn; omega)
        refine ⟨a, c, ns.map V.int, [V.int (1 + (i : Int))], rfl, rfl, (ht5.ext e6).ext e7, TupX.new ho3, ?_, fun H8 p e8 hp => ?_⟩
        · have := hfl'.len
          rw [List.length_append, List.length_singleton] at this
          rw [List.length_map, List.length_singleton]
          exact Nat.le_of_lt (small (by omega))
        walk_at "rd"
        refine ⟨by show 2 ≤ sizeLine; decide, fun q hq => ?_⟩
        have e9 := Ext.new (o := HO.tup [V.ref p, V.int ((l : Int) - (1 + (i : Int)))]) hq
        refine he _ _ (Ext.trans e7 (Ext.trans e8 e9)) ⟨q, p, ns ++ [1 + (i : Int)], rfl, ?_, ?_, hfl', ?_⟩
        · rw [upd_same]
          have : (l : Int) - (1 + (i : Int)) = ((l - (i + 1) : Nat) : Int) := by omega
          rw [this]
        · rw [List.map_append]
          exact hp.ext e9
        · rw [List.sum_append]
          have : [1 + (i : Int)].sum = 1 + (i : Int) := by simp
          rw [this]
          omega
      · walk_at "rd"
        have hlen := len_pow (qs.map fun p => p.2)
        rw [List.map_map, List.length_map] at hlen
        have hlen' : qs.length ≤ (qs.map fun p => 2 ^ p.2).sum := hlen
        have h12 : (2 : Nat) ^ 12 = 4096 := by decide
        refine ⟨Wa, D, _, ys, rfl, rfl, e6 _ _ hW5, hd, ?_, ?_⟩
        · rw [List.length_map, hyl]
          have : (5000 : Nat) < sizeLine := by decide
          have := Nat.one_le_two_pow (n := l)
          omega
        have kX := Keeps.up (ys := qs.map (fun x => x.1) ++ ys) (e6 _ _ hW5)
        have ksum := geo2 l mo m2
        have kpos := Nat.one_le_two_pow (n := l - mo)
        have ecs : (((List.range mo).map fun i => (ys.getD i V.non, l - (i + 1))).map fun p => 2 ^ p.2).sum = ((List.range mo).map fun i => 2 ^ (l - (i + 1))).sum := by
          rw [List.map_map]
          rfl
        have efs : ((List.range mo).map fun i => (ys.getD i V.non, l - (i + 1))).map (fun p => p.1) = ys := by
          rw [List.map_map]
          refine List.ext_getElem? fun j => ?_
          rw [List.getElem?_map]
          by_cases hj : j < mo
          · rw [List.getElem?_range hj]
            show some (ys.getD j V.non) = _
            rw [List.getD_eq_getElem?_getD, List.getElem?_eq_getElem (by omega)]
            rfl
          · rw [List.getElem?_eq_none (by rw [List.length_range]; omega), List.getElem?_eq_none (by omega)]
            rfl
        refine ⟨((qs ++ (List.range mo).map fun i => (ys.getD i V.non, l - (i + 1))).map fun p => 2 ^ p.2).sum, ?_, fs, qs ++ (List.range mo).map fun i => (ys.getD i V.non, l - (i + 1)), _, _, _, rfl, rfl, ?_, ?_, fun f0 hf0 => ((hf5 f0 hf0).keeps (Keeps.of e6)).keeps kX, fun p hp => ?_, ?_, .inr ?_, fun c v n1 n2 q => ?_⟩
        · rw [List.map_append, List.sum_append, ecs]
          omega
        · rw [upd_ne nFW]
          exact e6 _ _ hF5
        · rw [upd_same, List.map_append, efs]
        · rcases List.mem_append.mp hp with q | q
          · exact ((hw5 p q).keeps (Keeps.of e6)).keeps kX
          · obtain ⟨i, hi, rfl⟩ := List.mem_map.mp q
            have hi' : i < ys.length := by rw [hyl]; exact List.mem_range.mp hi
            have := hyr i ys[i] (List.getElem?_eq_getElem hi')
            have eg : ys.getD i V.non = ys[i] := by
              rw [List.getD_eq_getElem?_getD, List.getElem?_eq_getElem hi']
              rfl
            show WT K size _ (l - (i + 1)) (ys.getD i V.non)
            rw [eg]
            exact this.keeps kX
        · rw [List.map_append, List.sum_append, ecs]
          omega
        · intro hnil
          have := congrArg List.length hnil
          rw [List.length_append, List.length_map, List.length_range] at this
          simp at this
          omega
        · rw [upd_ne n2]
          exact e6 _ _ (hk5 c v n1 n2 q)
end
end

/-! Zips of tuples of integers. -/

section
open PySem PySem.Spec PyProof.Rows L2 Gd
theorem smallH {n : Nat} (h : n ≤ 1000) : n ≤ sizeLine := Nat.le_trans h (by show 1000 ≤ sizeLine; decide)
def lift2 (g : Int → Int → V) : V → V → V := fun x y => match x, y with
  | .int a, .int b => g a b
  | _, _ => .non
def lift2b (c : Int → Int → Bool) : V → V → Bool := fun x y => match x, y with
  | .int a, .int b => c a b
  | _, _ => false
theorem zip_lift (c : Int → Int → Bool) (g : Int → Int → V) : ∀ xs ys : List Int, (((xs.map V.int).zip (ys.map V.int)).filter fun p => lift2b c p.1 p.2).map (fun p => lift2 g p.1 p.2) = ((xs.zip ys).filter fun q => c q.1 q.2).map fun q => g q.1 q.2
  | [], _ => by simp
  | _ :: _, [] => by simp
  | x :: xs, y :: ys => by
    have ih := zip_lift c g xs ys
    simp only [List.map_cons, List.zip_cons_cons, List.filter_cons]
    have e : lift2b c (V.int x) (V.int y) = c x y := rfl
    rw [e]
    split
    · rw [List.map_cons, List.map_cons, ih]
      rfl
    · exact ih
section
variable {K : PySem.W.Frag} {H1 : Hp} {tt : TT} {te : TE} {vs : List Nat} {σ : L2.St} {Q : VK} {a b : Addr} {i1 i2 : Nat}
/-- over zip of two tuples of integers -/
theorem lcZI {ns ms : List Int} (ha : SqT K H1 a (ns.map V.int)) (hb : SqT K H1 b (ms.map V.int)) (hl : ns.length ≤ 900) (c : Int → Int → Bool) (g : Int → Int → V)
    (body : ∀ (x y : Int) H', (x, y) ∈ ns.zip ms → Ext H1 H' → ∀ (Qe : VK) (Qn : Hp → Prop), (∀ H3, Ext H' H3 → c x y = true → Qe (g x y) H3) → (∀ H3, Ext H' H3 → c x y = false → Qn H3) →
      wipe (((wipe σ vs).set i1 (some (.int x))).set i2 (some (.int y))) vs = wipe σ vs ∧ tt (((wipe σ vs).set i1 (some (.int x))).set i2 (some (.int y))) H' fun b H3 => if b = true then te (((wipe σ vs).set i1 (some (.int x))).set i2 (some (.int y))) H3 Qe else Qn H3)
    (k : ∀ H' D, Ext H1 H' → H1 D = none → H' D = some (.lst (((ns.zip ms).filter fun q => c q.1 q.2).map fun q => g q.1 q.2)) → Q (.ref D) H') :
    ∃ k1 k2 a' b' xs ys, [V.ref a, V.ref b] = [V.ref a', V.ref b'] ∧ SqE K k1 H1 a' xs ∧ SqE K k2 H1 b' ys ∧ LcG (ItzE K k1 k2 a' b') (gTup K 2 (gCons (gName i1) (gCons (gName i2) gNil))) tt te vs σ H1 Q := by
  refine lcZ (l1 := false) (l2 := false) ha hb (small (by simp only [List.length_map]; omega)) (lift2b c) (lift2 g) (fun x y H' hxy e Qe Qn he hn => ?_) (fun H' D e hD hd => ?_)
  · rw [List.zip_map] at hxy
    obtain ⟨⟨n, m⟩, hnm, e1⟩ := List.mem_map.mp hxy
    cases e1
    exact body n m H' hnm e Qe Qn he hn
  · rw [zip_lift] at hd
    exact k H' D e hD hd
end
theorem filter_yes {α : Type} (xs : List α) : (xs.filter fun _ => true) = xs := List.filter_eq_self.mpr fun _ _ => rfl
theorem g_neS1 {H : Hp} {Q : VK} {i j : Int} (e : i = j) (k : Q (.bl false) H) : rNe (.int i) (.int j) H Q := by
  subst e
  exact ⟨rfl, by simpa using k⟩
end

/-! Tuples of integers in the heap; loops and comprehensions over lists and tuples. -/

section
open PySem PySem.Spec PyProof.Rows L2 Gd
/-- a tuple of integers -/
def TR (H : Hp) (f : V) (xs : List Int) : Prop := ∃ b, f = .ref b ∧ H b = some (.tup (xs.map V.int))
abbrev TRs (H : Hp) (fs : List V) (xss : List (List Int)) : Prop := Paired (TR H) fs xss
theorem TR.ext {H H' : Hp} (e : Ext H H') {f : V} {xs : List Int} (h : TR H f xs) : TR H' f xs := by
  obtain ⟨b, rfl, h⟩ := h
  exact ⟨b, rfl, e _ _ h⟩
theorem TR.but {H H' : Hp} {d : Addr} {ys : List V} (hd : H d = none ∨ H d = some (.lst ys)) (e : ExtBut d H H') {f : V} {xs : List Int} (h : TR H f xs) : TR H' f xs := by
  obtain ⟨b, rfl, h⟩ := h
  refine ⟨b, rfl, e _ _ (fun z => ?_) h⟩
  subst z
  rcases hd with hd | hd <;> rw [h] at hd <;> cases hd
theorem TR.sq {K : PySem.W.Frag} {H : Hp} {b : Addr} {xs : List Int} (h : TR H (.ref b) xs) : SqT K H b (xs.map V.int) := by
  obtain ⟨c, e, h⟩ := h
  cases e
  exact .inl (.inl h)
theorem trs_ext {H H' : Hp} (e : Ext H H') {fs : List V} {xss : List (List Int)} (h : TRs H fs xss) : TRs H' fs xss := Paired.mapP h fun _ _ z => TR.ext e z
theorem trs_but {H H' : Hp} {d : Addr} {ys : List V} (hd : H d = none ∨ H d = some (.lst ys)) (e : ExtBut d H H') {fs : List V} {xss : List (List Int)} (h : TRs H fs xss) : TRs H' fs xss := Paired.mapP h fun _ _ z => TR.but hd e z
theorem pair_append {α β : Type} {F : α → β → Prop} : ∀ {a c : List α} {b d : List β}, Paired F a b → Paired F c d → Paired F (a ++ c) (b ++ d)
  | _, _, _, _, .nil, h => h
  | _, _, _, _, .cons h t, h2 => .cons h (pair_append t h2)
theorem pair_at {α β : Type} {F : α → β → Prop} : ∀ {a : List α} {b : List β}, Paired F a b → ∀ (i : Nat) (x : α), a[i]? = some x → ∃ y, b[i]? = some y ∧ F x y
  | _, _, .nil, i, x, e => by simp at e
  | _, _, .cons (b := q) h t, 0, x, e => by
    have e' := Option.some.inj e
    subst e'
    exact ⟨q, rfl, h⟩
  | _, _, .cons h t, i + 1, x, e => pair_at t i x e
theorem pair_of {α β : Type} {F : α → β → Prop} : ∀ {a : List α} {b : List β}, a.length = b.length → (∀ (i : Nat) x y, a[i]? = some x → b[i]? = some y → F x y) → Paired F a b
  | [], [], _, _ => .nil
  | [], _ :: _, h, _ => by simp at h
  | _ :: _, [], h, _ => by simp at h
  | x :: a, y :: b, h, f => .cons (f 0 x y rfl rfl) (pair_of (by simpa using h) fun i x y h1 h2 => f (i + 1) x y h1 h2)
theorem pair_len {α β : Type} {F : α → β → Prop} {a : List α} {b : List β} (h : Paired F a b) : a.length = b.length := Gd.paired_len h
/-- what a loop over J asks -/
abbrev ForG (J : It) (g : TG) (tb : TS) (D : Ends) (σ : L2.St) (H : Hp) : Prop := ∃ W : Nat → Nat → L2.St → Hp → Prop, (∃ m, W 0 m σ H) ∧ ∀ i m σ H, W i m σ H →
      (J.stop i H ∧ D.nx σ H) ∨ (J.go i H ∧ ∃ N : L2.St → Hp → Prop, (∀ σ' H', N σ' H' → ∃ m', m' < m ∧ W (i + 1) m' σ' H') ∧ ∀ x H', J.yld i H x H' → g x σ H' fun σ2 H2 => tb { D with nx := N, ct := N, bk := D.nx } σ2 H2)
theorem g_forT {K : PySem.W.Frag} {te : TE} {g : TG} {tb : TS} {D : Ends} {σ : L2.St} {H : Hp} (k : te σ H fun x H1 => ∃ a, x = .ref a ∧ (∃ xs, SqT K H1 a xs) ∧ ForG (Itt K a) g tb D σ H1) : tFor (iTup K te) g tb D σ H := k
theorem g_forL {K : PySem.W.Frag} {te : TE} {g : TG} {tb : TS} {D : Ends} {σ : L2.St} {H : Hp} (k : te σ H fun x H1 => ∃ a, x = .ref a ∧ (∃ xs, SqL K H1 a xs) ∧ ForG (Itl K a) g tb D σ H1) : tFor (iList K te) g tb D σ H := k
/-- over the items of a tuple -/
theorem forT {K : PySem.W.Frag} {a : Addr} {xs : List V} {g : TG} {tb : TS} {D : Ends} {σ : L2.St} {H : Hp} (hs : SqT K H a xs) (Pv : Nat → L2.St → Hp → Prop) (h0 : Pv 0 σ H) (hG : ∀ i σ H, i ≤ xs.length → Pv i σ H → SqT K H a xs)
    (hb : ∀ i x σ H, xs[i]? = some x → Pv i σ H → g x σ H fun σ2 H2 => tb { D with nx := Pv (i + 1), ct := Pv (i + 1), bk := D.nx } σ2 H2) (hd : ∀ σ H, Pv xs.length σ H → D.nx σ H) :
    ∃ a', V.ref a = .ref a' ∧ (∃ xs, SqT K H a' xs) ∧ ForG (Itt K a') g tb D σ H :=
  ⟨a, rfl, ⟨_, hs⟩, for_it walk_tup Pv h0 hG (fun i x σ H H' _ p y => by obtain ⟨rfl, e⟩ := y; exact hb i x σ _ e p) hd⟩
/-- over the items of a list -/
theorem forL {K : PySem.W.Frag} {a : Addr} {xs : List V} {g : TG} {tb : TS} {D : Ends} {σ : L2.St} {H : Hp} (hs : SqL K H a xs) (Pv : Nat → L2.St → Hp → Prop) (h0 : Pv 0 σ H) (hG : ∀ i σ H, i ≤ xs.length → Pv i σ H → SqL K H a xs)
    (hb : ∀ i x σ H, xs[i]? = some x → Pv i σ H → g x σ H fun σ2 H2 => tb { D with nx := Pv (i + 1), ct := Pv (i + 1), bk := D.nx } σ2 H2) (hd : ∀ σ H, Pv xs.length σ H → D.nx σ H) :
    ∃ a', V.ref a = .ref a' ∧ (∃ xs, SqL K H a' xs) ∧ ForG (Itl K a') g tb D σ H :=
  ⟨a, rfl, ⟨_, hs⟩, for_it walk_list Pv h0 hG (fun i x σ H H' _ p y => by obtain ⟨rfl, e⟩ := y; exact hb i x σ _ e p) hd⟩
/-- a comprehension over a list whose results stand in a relation to the item -/
theorem lcLR {K : PySem.W.Frag} {σ : L2.St} {H1 : Hp} {vs : List Nat} {g : TG} {tt : TT} {te : TE} {Q : VK} {a : Addr} {xs : List V} (hs : SqL K H1 a xs) (sz : xs.length < sizeLine) (R : Nat → V → Hp → Prop) (mono : ∀ i y H H', Keeps H H' → R i y H → R i y H')
    (body : ∀ (i : Nat) x H', xs[i]? = some x → Ext H1 H' → ∀ (Qe : VK) (Qn : Hp → Prop), (∀ y H3, Ext H' H3 → R i y H3 → Qe y H3) →
      g x (wipe σ vs) H' fun σ2 H2 => wipe σ2 vs = wipe σ vs ∧ tt σ2 H2 fun b H3 => if b = true then te σ2 H3 Qe else Qn H3)
    (k : ∀ H' D ys, Ext H1 H' → H1 D = none → H' D = some (.lst ys) → ys.length = xs.length → (∀ i y, ys[i]? = some y → R i y H') → Q (.ref D) H') :
    ∃ a', V.ref a = .ref a' ∧ (∃ xs, SqL K H1 a' xs) ∧ LcG (Itl K a') g tt te vs σ H1 Q := by
  refine ⟨a, rfl, ⟨_, hs⟩, fun D hD => lc_rel walk_list R (fun _ => true) (fun i y D ys H H' hd e r => mono i y H H' (keeps_but hd e) r) hD (fun H' e => sqL_ext e hs) sz (fun i x H' H'' hi e hy Qe Qn he hn => ?_) (fun H' ys e hd hr => ?_)⟩
  · obtain ⟨rfl, hx⟩ := hy
    exact body i x _ hx e Qe Qn fun y H3 e3 r => he y H3 e3 r rfl
  · rw [idx_all] at hr
    have hl := hr.1
    rw [List.length_range] at hl
    refine k H' D ys e hD hd hl.symm fun i y hy => hr.2 i i y ?_ hy
    rw [List.getElem?_range (by have := (List.getElem?_eq_some_iff.mp hy).1; omega)]
theorem g_ilistC {K : PySem.W.Frag} {te : TE} {σ : L2.St} {H : Hp} {R : It → Hp → Prop} (k : te σ H fun x H1 => ∃ a, x = .ref a ∧ (∃ xs, SqL K H1 a xs) ∧ R (Itl K a) H1) : iList K te σ H R := k
theorem TR.keeps {H H' : Hp} (e : Keeps H H') {f : V} {xs : List Int} (h : TR H f xs) : TR H' f xs := by
  obtain ⟨b, rfl, h⟩ := h
  exact ⟨b, rfl, e _ _ (fun _ z => by cases z) h⟩
theorem g_catR {K : PySem.W.Frag} {H : Hp} {Q : VK} {a b : Addr} {xs : List Int} {n : Int} (ha : TR H (.ref a) xs) (hb : H b = some (.tup [.int n])) (hl : xs.length ≤ 900) (k : ∀ H' p, Ext H H' → TR H' (.ref p) (xs ++ [n]) → Q (.ref p) H') : rCatA K (.ref a) (.ref b) H Q := by
  refine ⟨a, b, _, [.int n], rfl, rfl, ha.sq, SqT.of hb, by rw [List.length_map, List.length_singleton]; exact smallH (by omega), fun e => ?_, fun _ e => (by cases e), fun _ _ p hp => ?_⟩
  · have e' : xs = [] := by simpa using e
    subst e'
    exact k H b (fun _ _ z => z) ⟨b, rfl, hb⟩
  · refine k _ p (Ext.new hp) ⟨p, rfl, ?_⟩
    rw [upd_same, List.map_append]
    rfl
end

/-! All falling rows of a sum, in order. -/

section
open PySem PySem.Spec PyProof.Rows L2 Gd
def rowsN : Nat → Nat → Nat → List (List Int)
  | 0, _, _ => [[]]
  | f + 1, t, g => if t = 0 then [[]] else (List.range g).flatMap fun i => if g - i ≤ t then (rowsN f (t - (g - i)) (g - i)).map (fun r => ((g - i : Nat) : Int) :: r) else []
def rows (t g : Nat) : List (List Int) := rowsN t t g
theorem flat_cong {α β : Type} {f g : α → List β} : ∀ {l : List α}, (∀ a ∈ l, f a = g a) → l.flatMap f = l.flatMap g
  | [], _ => rfl
  | a :: l, h => by
    rw [List.flatMap_cons, List.flatMap_cons, h a List.mem_cons_self, flat_cong fun b hb => h b (List.mem_cons_of_mem _ hb)]
theorem rowsN_fuel : ∀ (f f' t g : Nat), t ≤ f → t ≤ f' → rowsN f t g = rowsN f' t g
  | 0, 0, _, _, _, _ => rfl
  | 0, f' + 1, t, g, h, _ => by
    have h0 : t = 0 := by omega
    subst h0
    rfl
  | f + 1, 0, t, g, _, h => by
    have h0 : t = 0 := by omega
    subst h0
    rfl
  | f + 1, f' + 1, t, g, h1, h2 => by
    by_cases h0 : t = 0
    · subst h0
      rfl
    · unfold rowsN
      rw [if_neg h0, if_neg h0]
      refine flat_cong fun i hi => ?_
      have hig := List.mem_range.mp hi
      by_cases hi : g - i ≤ t
      · rw [if_pos hi, if_pos hi, rowsN_fuel f f' (t - (g - i)) (g - i) (by omega) (by omega)]
      · rw [if_neg hi, if_neg hi]
/-- the rows that begin with the i-th one from the greatest number on -/
def rowsAt (t g i : Nat) : List (List Int) := if g - i ≤ t then (rows (t - (g - i)) (g - i)).map (fun r => ((g - i : Nat) : Int) :: r) else []
theorem rows_zero (g : Nat) : rows 0 g = [[]] := rfl
theorem rows_pos {t : Nat} (h : t ≠ 0) (g : Nat) : rows t g = (List.range g).flatMap (rowsAt t g) := by
  obtain ⟨f, rfl⟩ : ∃ f, t = f + 1 := ⟨t - 1, by omega⟩
  unfold rows rowsN
  rw [if_neg h]
  refine flat_cong fun i hi => ?_
  have hig := List.mem_range.mp hi
  unfold rowsAt rows
  by_cases hi : g - i ≤ f + 1
  · rw [if_pos hi, if_pos hi, rowsN_fuel f (f + 1 - (g - i)) _ _ (by omega) (by omega)]
  · rw [if_neg hi, if_neg hi]
/-- tuples of integers of which it is known that they have no dict -/
def RX (K : PySem.W.Frag) (H : Hp) (f : V) (xs : List Int) : Prop := ∃ a, f = .ref a ∧ TupX K H a (xs.map V.int)
abbrev RXs (K : PySem.W.Frag) (H : Hp) (fs : List V) (xss : List (List Int)) : Prop := Paired (RX K H) fs xss
theorem RX.keeps {K : PySem.W.Frag} {H H' : Hp} (e : Keeps H H') {f : V} {xs : List Int} (h : RX K H f xs) : RX K H' f xs := by
  obtain ⟨a, rfl, h⟩ := h
  exact ⟨a, rfl, TupX.keeps e h⟩
theorem RX.ext {K : PySem.W.Frag} {H H' : Hp} (e : Ext H H') {f : V} {xs : List Int} (h : RX K H f xs) : RX K H' f xs := h.keeps (Keeps.of e)
theorem rxs_keeps {K : PySem.W.Frag} {H H' : Hp} (e : Keeps H H') {fs : List V} {xss : List (List Int)} (h : RXs K H fs xss) : RXs K H' fs xss := Paired.mapP h fun _ _ z => z.keeps e
theorem rxs_ext {K : PySem.W.Frag} {H H' : Hp} (e : Ext H H') {fs : List V} {xss : List (List Int)} (h : RXs K H fs xss) : RXs K H' fs xss := rxs_keeps (Keeps.of e) h
theorem rows_len : ∀ t, t ≤ 12 → ∀ g, g ≤ 12 → (rows t g).length ≤ 77 := by decide +kernel
theorem rows_short : ∀ t, t ≤ 12 → ∀ g, g ≤ 12 → ∀ r ∈ rows t g, r.length ≤ 12 := by decide +kernel
theorem rows_part {t g : Nat} (h : t ≠ 0) (ht : t ≤ 12) (hg : g ≤ 12) {i : Nat} (hi : i ≤ g) : ((List.range i).flatMap (rowsAt t g)).length ≤ 77 := by
  have h1 := rows_len t ht g hg
  rw [rows_pos h] at h1
  have e : List.range g = List.range i ++ (List.range (g - i)).map (i + ·) := by
    rw [← List.range_add]
    congr 1
    omega
  rw [e, List.flatMap_append, List.length_append] at h1
  omega
theorem range_rev : ∀ n : Nat, (List.range n).reverse = (List.range n).map fun j => n - 1 - j
  | 0 => rfl
  | n + 1 => by
    have ih := range_rev n
    rw [List.range_succ, List.reverse_append, ih, ← List.range_succ, List.range_succ_eq_map, List.map_cons, List.map_map]
    show n :: _ = (n + 1 - 1 - 0) :: _
    rw [show n + 1 - 1 - 0 = n by omega]
    congr 1
    refine List.map_congr_left fun j hj => ?_
    have := List.mem_range.mp hj
    show n - 1 - j = n + 1 - 1 - (j + 1)
    omega
theorem rows_min {t g : Nat} (ht : t ≠ 0) (h : t ≤ g) : rows t g = rows t t := by
  rw [rows_pos ht, rows_pos ht]
  have e : List.range g = List.range (g - t) ++ (List.range t).map (g - t + ·) := by
    rw [← List.range_add]
    congr 1
    omega
  rw [e, List.flatMap_append]
  have e1 : (List.range (g - t)).flatMap (rowsAt t g) = [] := by
    refine List.flatMap_eq_nil_iff.mpr fun i hi => ?_
    have := List.mem_range.mp hi
    unfold rowsAt
    rw [if_neg (by omega)]
  rw [e1, List.nil_append, List.flatMap_map]
  refine flat_cong fun i hi => ?_
  have := List.mem_range.mp hi
  show rowsAt t g (g - t + i) = rowsAt t t i
  unfold rowsAt
  rw [show g - (g - t + i) = t - i by omega]
/-- how great the next number may be -/
def bnd (r : List Int) (l : Nat) : Nat := if r = [] then l else min l (r.getD (r.length - 1) 0).toNat
/-- what comes of what waits -/
def todo (qs : List (List Int × Nat)) : List (List Int) := qs.reverse.flatMap fun q => (rows q.2 (bnd q.1 q.2)).map (q.1 ++ ·)
theorem todo_snoc (qs : List (List Int × Nat)) (r : List Int) (l : Nat) : todo (qs ++ [(r, l)]) = (rows l (bnd r l)).map (r ++ ·) ++ todo qs := by
  unfold todo
  rw [List.reverse_append]
  rfl
theorem bnd_snoc (r : List Int) (a l : Nat) : bnd (r ++ [(a : Int)]) l = min l a := by
  unfold bnd
  rw [if_neg (by simp), List.length_append, List.length_singleton, Nat.add_sub_cancel, List.getD_eq_getElem?_getD, List.getElem?_append_right (Nat.le_refl _), Nat.sub_self]
  rfl
theorem todo_more (qs : List (List Int × Nat)) (r : List Int) {l mo : Nat} (hl : l ≠ 0) (hm : mo ≤ l) (hb : bnd r l = mo) : todo (qs ++ (List.range mo).map fun i => (r ++ [((i + 1 : Nat) : Int)], l - (i + 1))) = (rows l (bnd r l)).map (r ++ ·) ++ todo qs := by
  unfold todo
  rw [List.reverse_append, List.flatMap_append, ← List.map_reverse, List.flatMap_map, range_rev, List.flatMap_map, hb, rows_pos hl, List.map_flatMap]
  congr 1
  refine flat_cong fun j hj => ?_
  have hjm := List.mem_range.mp hj
  show (rows (l - (mo - 1 - j + 1)) (bnd (r ++ [((mo - 1 - j + 1 : Nat) : Int)]) (l - (mo - 1 - j + 1)))).map ((r ++ [((mo - 1 - j + 1 : Nat) : Int)]) ++ ·) = (rowsAt l mo j).map (r ++ ·)
  unfold rowsAt
  rw [show mo - 1 - j + 1 = mo - j by omega, if_pos (show mo - j ≤ l by omega), bnd_snoc, List.map_map]
  have e : rows (l - (mo - j)) (min (l - (mo - j)) (mo - j)) = rows (l - (mo - j)) (mo - j) := by
    by_cases h0 : l - (mo - j) = 0
    · rw [h0]
      rfl
    · by_cases h1 : l - (mo - j) ≤ mo - j
      · rw [Nat.min_eq_left h1, rows_min h0 h1]
      · rw [Nat.min_eq_right (by omega)]
  rw [e]
  refine List.map_congr_left fun x _ => ?_
  show (r ++ [((mo - j : Nat) : Int)]) ++ x = r ++ (((mo - j : Nat) : Int) :: x)
  rw [List.append_assoc]
  rfl
theorem todo_start (size : Nat) : todo [([], size)] = rows size size := by
  have h := todo_snoc [] [] size
  have e : todo [] = [] := rfl
  rw [List.nil_append, e, List.append_nil] at h
  rw [h]
  unfold bnd
  rw [if_pos rfl]
  exact List.map_id'' (fun _ => rfl) _
/-! ### all rows -/
def fallB (ns : List Int) : Bool := ns.all (fun x => decide (1 ≤ x)) && decide (ns.sum ≤ 12) && (List.range (ns.length - 1)).all fun i => decide (ns.getD (i + 1) 0 ≤ ns.getD i 0)
theorem fall_of {ns : List Int} (h : fallB ns = true) : Fall ns := by
  unfold fallB at h
  simp only [Bool.and_eq_true, List.all_eq_true, decide_eq_true_eq, List.mem_range] at h
  exact ⟨h.1.1, h.1.2, fun i hi => h.2 i (by omega)⟩
def chkR (n : Nat) (ns : List Int) : Bool := fallB ns && decide (ns.sum = (n : Int)) && (fallB (turnM ns) && decide (turnM (turnM ns) = ns) && decide ((turnM ns).sum = ns.sum))
theorem rows_chk : ((List.range 13).all fun n => (rows n n).all (chkR n)) = true := by decide +kernel
theorem rows_of {n : Nat} (hn : n ≤ 12) {ns : List Int} (h : ns ∈ rows n n) : chkR n ns = true := by
  have := rows_chk
  simp only [List.all_eq_true, List.mem_range] at this
  exact this n (by omega) ns h
theorem rows_fall {n : Nat} (hn : n ≤ 12) {ns : List Int} (h : ns ∈ rows n n) : Fall ns ∧ ns.sum = (n : Int) := by
  have := rows_of hn h
  unfold chkR at this
  simp only [Bool.and_eq_true, decide_eq_true_eq] at this
  exact ⟨fall_of this.1.1, this.1.2⟩
theorem mem_rows : ∀ (ns : List Int) (t g : Nat), (∀ x ∈ ns, 1 ≤ x) → (∀ i : Nat, i + 1 < ns.length → ns.getD (i + 1) 0 ≤ ns.getD i 0) → ns.getD 0 0 ≤ (g : Int) → ns.sum = (t : Int) → ns ∈ rows t g
  | [], t, g, hp, hd, hg, hs => by
    have : t = 0 := by simpa using hs.symm
    subst this
    exact List.mem_singleton.mpr rfl
  | x :: r, t, g, hp, hd, hg, hs => by
    have hx := hp x List.mem_cons_self
    have hr : ∀ y ∈ r, 1 ≤ y := fun y hy => hp y (List.mem_cons_of_mem _ hy)
    have h0 := sum_len hr
    rw [List.sum_cons] at hs
    have hgx : x ≤ (g : Int) := hg
    have ht : t ≠ 0 := by omega
    rw [rows_pos ht]
    refine List.mem_flatMap.mpr ⟨g - x.toNat, List.mem_range.mpr (by omega), ?_⟩
    unfold rowsAt
    rw [show g - (g - x.toNat) = x.toNat by omega, if_pos (by omega)]
    refine List.mem_map.mpr ⟨r, ?_, by rw [Int.toNat_of_nonneg (by omega)]⟩
    refine mem_rows r _ _ hr (fun i hi => hd (i + 1) (by rw [List.length_cons]; omega)) ?_ (by omega)
    cases r with
    | nil =>
      show (0 : Int) ≤ _
      omega
    | cons y q =>
      have := hd 0 (by simp)
      have e1 : (x :: y :: q).getD (0 + 1) 0 = y := rfl
      have e2 : (x :: y :: q).getD 0 0 = x := rfl
      have e3 : (y :: q).getD 0 0 = y := rfl
      rw [e1, e2] at this
      rw [e3]
      omega
theorem fall_in {ns : List Int} (h : Fall ns) {n : Nat} (hn : ns.sum = (n : Int)) : ns ∈ rows n n := by
  have := sum_len h.pos
  have h2 : ns.getD 0 0 ≤ (n : Int) := by
    cases ns with
    | nil =>
      show (0 : Int) ≤ _
      omega
    | cons x r =>
      rw [← hn]
      exact mem_sum h.pos x List.mem_cons_self
  exact mem_rows ns n n h.pos h.desc h2 hn
theorem turn_all {ns : List Int} (h : Fall ns) : Fall (turnM ns) ∧ turnM (turnM ns) = ns ∧ (turnM ns).sum = ns.sum := by
  have h0 := h.sum0
  have hs := h.sum
  have := rows_of (n := ns.sum.toNat) (by omega) (fall_in h (by omega))
  unfold chkR at this
  simp only [Bool.and_eq_true, decide_eq_true_eq] at this
  exact ⟨fall_of this.2.1.1, this.2.1.2, this.2.2⟩
theorem turn_fall {ns : List Int} (h : Fall ns) : Fall (turnM ns) := (turn_all h).1
theorem turn_back {ns : List Int} (h : Fall ns) : turnM (turnM ns) = ns := (turn_all h).2.1
def pairLtM (ns ms : List Int) : Bool := pairLt ns.sum ms.sum (ns.map fun x => -x) (ms.map fun x => -x)
theorem rows_desc : ∀ n, n < 13 → (rows n n).Pairwise (fun a b => pairLtM a b = true ∧ pairLtM b a = false) := by decide +kernel
variable {ns ms : List Int}
end

/-! A comprehension over a list, told item by item. -/

section
open PySem PySem.Spec PyProof.Rows L2 Gd
theorem dice_keepsX {H H' : Hp} {d : Addr} (hd : DiceAt H d) (e : ExtBut d H H') : Keeps H H' := by
  obtain ⟨_, _, _, q, _⟩ := hd
  exact keeps_but (.inr q) e
theorem sqT_keepsX {K : PySem.W.Frag} {H H' : Hp} {a : Addr} {xs : List V} (e : Keeps H H') (h : SqT K H a xs) : SqT K H' a xs := by
  rcases h with (h | ⟨o, h⟩) | h
  · exact .inl (.inl (e _ _ (fun _ z => by cases z) h))
  · exact .inl (.inr ⟨o, e _ _ (fun _ z => by cases z) h⟩)
  · exact .inr h
theorem kindAt_keeps {K : PySem.W.Frag} {C : Addr} {H H' : Hp} {q n t m : Addr} {ns : List Int} (e : Keeps H H') (h : KindAt K C H q n t m ns) : KindAt K C H' q n t m ns := by
  obtain ⟨⟨dy, h1⟩, h2, h3, h4, h5⟩ := h
  exact ⟨⟨dy, e _ _ (fun _ z => by cases z) h1⟩, TupX.keeps e h2, sqT_keepsX e h3, sqT_keepsX e h4, h5⟩
section
variable {K : PySem.W.Frag} {σ : L2.St} {H1 : Hp} {vs : List Nat} {g : TG} {tt : TT} {te : TE} {Q : VK} {α β : Type} {xs : List V} {as : List α} {a : Addr}
theorem rel_pair {R : Hp → V → β → Prop} {z : α} {c : α → Bool} {f : α → β} {ys : List V} {H' : Hp} {n : Nat} (hn : n = as.length) (hr : Rel (fun i y H => R H y (f (as.getD i z))) (idx (fun i => c (as.getD i z)) n) ys H') : Paired (R H') ys ((as.filter c).map f) := by
  rw [hn] at hr
  rw [← idx_items' as z c f]
  refine pair_of (by rw [List.length_map]; exact hr.1.symm) fun j y b hy hb => ?_
  rw [List.getElem?_map] at hb
  obtain ⟨i, hi, rfl⟩ := Option.map_eq_some_iff.mp hb
  exact hr.2 j i y hi hy
/-- a comprehension over a list that is told item by item, whose results are told too -/
theorem lcPL (hs : SqL K H1 a xs) (hn : xs.length = as.length) (sz : xs.length < sizeLine) (z : α) (c : α → Bool) (f : α → β) (R : Hp → V → β → Prop) (mono : ∀ H H' y b, Keeps H H' → R H y b → R H' y b)
    (body : ∀ (i : Nat) x y H', xs[i]? = some x → as[i]? = some y → Ext H1 H' → ∀ (Qe : VK) (Qn : Hp → Prop), (∀ v H3, Ext H' H3 → c y = true → R H3 v (f y) → Qe v H3) → (∀ H3, Ext H' H3 → c y = false → Qn H3) →
      g x (wipe σ vs) H' fun σ2 H2 => wipe σ2 vs = wipe σ vs ∧ tt σ2 H2 fun b H3 => if b = true then te σ2 H3 Qe else Qn H3)
    (k : ∀ H' D ys, Ext H1 H' → H1 D = none → H' D = some (.lst ys) → Paired (R H') ys ((as.filter c).map f) → Q (.ref D) H') :
    ∃ a', V.ref a = .ref a' ∧ (∃ xs, SqL K H1 a' xs) ∧ LcG (Itl K a') g tt te vs σ H1 Q := by
  refine ⟨a, rfl, ⟨_, hs⟩, fun D hD => lc_rel walk_list (fun i y H => R H y (f (as.getD i z))) (fun i => c (as.getD i z)) (fun i y D ys H H' hd e r => mono H H' y _ (keeps_but hd e) r) hD (fun H' e => sqL_ext e hs) sz (fun i x H' H'' hi e hy Qe Qn he hn2 => ?_) (fun H' ys e hd hr => ?_)⟩
  · obtain ⟨rfl, hx⟩ := hy
    have hi' : i < as.length := by omega
    have ex : as.getD i z = as[i] := by rw [List.getD_eq_getElem?_getD, List.getElem?_eq_getElem hi']; rfl
    exact body i x as[i] _ hx (List.getElem?_eq_getElem hi') e Qe Qn (fun v H3 e3 hc r => he v H3 e3 (by rw [ex]; exact r) (by rw [ex]; exact hc)) (fun H3 e3 hc => hn2 H3 e3 (by rw [ex]; exact hc))
  · exact k H' D ys e hD hd (rel_pair hn hr)
theorem lcPT (hs : SqT K H1 a xs) (hn : xs.length = as.length) (sz : xs.length < sizeLine) (z : α) (c : α → Bool) (f : α → β) (R : Hp → V → β → Prop) (mono : ∀ H H' y b, Keeps H H' → R H y b → R H' y b)
    (body : ∀ (i : Nat) x y H', xs[i]? = some x → as[i]? = some y → Ext H1 H' → ∀ (Qe : VK) (Qn : Hp → Prop), (∀ v H3, Ext H' H3 → c y = true → R H3 v (f y) → Qe v H3) → (∀ H3, Ext H' H3 → c y = false → Qn H3) →
      g x (wipe σ vs) H' fun σ2 H2 => wipe σ2 vs = wipe σ vs ∧ tt σ2 H2 fun b H3 => if b = true then te σ2 H3 Qe else Qn H3)
    (k : ∀ H' D ys, Ext H1 H' → H1 D = none → H' D = some (.lst ys) → Paired (R H') ys ((as.filter c).map f) → Q (.ref D) H') :
    ∃ a', V.ref a = .ref a' ∧ (∃ xs, SqT K H1 a' xs) ∧ LcG (Itt K a') g tt te vs σ H1 Q := by
  refine ⟨a, rfl, ⟨_, hs⟩, fun D hD => lc_rel walk_tup (fun i y H => R H y (f (as.getD i z))) (fun i => c (as.getD i z)) (fun i y D ys H H' hd e r => mono H H' y _ (keeps_but hd e) r) hD (fun H' e => sqT_ext e hs) sz (fun i x H' H'' hi e hy Qe Qn he hn2 => ?_) (fun H' ys e hd hr => ?_)⟩
  · obtain ⟨rfl, hx⟩ := hy
    have hi' : i < as.length := by omega
    have ex : as.getD i z = as[i] := by rw [List.getD_eq_getElem?_getD, List.getElem?_eq_getElem hi']; rfl
    exact body i x as[i] _ hx (List.getElem?_eq_getElem hi') e Qe Qn (fun v H3 e3 hc r => he v H3 e3 (by rw [ex]; exact r) (by rw [ex]; exact hc)) (fun H3 e3 hc => hn2 H3 e3 (by rw [ex]; exact hc))
  · exact k H' D ys e hD hd (rel_pair hn hr)
end
end

/-! The law's kinds of a size, in their order: the def. -/

section
open PySem PySem.Spec PyProof.Rows L2 Gd
/-- what waits: a begun row and what is left -/
def WTO (K : PySem.W.Frag) (H : Hp) (v : V) (q : List Int × Nat) : Prop := ∃ (b a : Addr), v = .ref b ∧ H b = some (.tup [.ref a, .int (q.2 : Int)]) ∧ TupX K H a (q.1.map V.int)
theorem WTO.keeps {K : PySem.W.Frag} {H H' : Hp} (e : Keeps H H') {v : V} {q : List Int × Nat} (h : WTO K H v q) : WTO K H' v q := by
  obtain ⟨b, a, rfl, h1, h2⟩ := h
  exact ⟨b, a, rfl, e _ _ (fun _ z => by cases z) h1, TupX.keeps e h2⟩
theorem wtos_keeps {K : PySem.W.Frag} {H H' : Hp} (e : Keeps H H') {ps : List V} {qs : List (List Int × Nat)} (h : Paired (WTO K H) ps qs) : Paired (WTO K H') ps qs := Paired.mapP h fun _ _ z => WTO.keeps e z
theorem pair_last {α β : Type} {F : α → β → Prop} : ∀ {a : List α} {b : List β} {y : β}, Paired F a (b ++ [y]) → ∃ c x, a = c ++ [x] ∧ Paired F c b ∧ F x y
  | _, [], _, h => by
    cases h with
    | cons h t =>
      cases t
      exact ⟨[], _, rfl, .nil, h⟩
  | _, q :: b, y, h => by
    cases h with
    | cons h t =>
      obtain ⟨c, x, e, h1, h2⟩ := pair_last t
      subst e
      exact ⟨_ :: c, x, rfl, .cons h h1, h2⟩
section
variable {P : Program} {w : World} {K : PySem.W.Frag} {mg : Str → Option Value} {base : Heap} {f : Addr} {fd : FuncData}
abbrev sKindsO : Stmt := top 31
theorem scKindsO : FnScope ["_law_size", "_law_found", "_law_waits", "_law_kind_here", "_law_left", "_law_most", "_law_number"] ["_law_size"] (defScope sKindsO) := ⟨rfl, rfl, rfl, by decide +kernel, rfl, by decide +kernel, by decide +kernel⟩
def spKindsO (K : PySem.W.Frag) : Sp := fun vs H Q _ => ∃ size : Nat, vs = [.int (size : Int)] ∧ size ≤ 12 ∧
  ∀ H' F fs, Ext H H' → H F = none → H' F = some (.lst fs) → RXs K H' fs (rows size size) → Q (.ref F) H'
def PvKO (K : PySem.W.Frag) (size : Nat) (F W : Addr) (H0 : Hp) (m : Nat) : L2.St → Hp → Prop := fun σ H => ∃ (fs : List V) (xs : List (List Int)) (ps : List V) (qs : List (List Int × Nat)) (x y z : Option V),
  σ = [some (.int (size : Int)), some (.ref F), some (.ref W), x, y, z, none] ∧ m = (qs.map fun p => 2 ^ p.2).sum ∧ H F = some (.lst fs) ∧ H W = some (.lst ps) ∧ RXs K H fs xs ∧ Paired (WTO K H) ps qs ∧ (∀ q ∈ qs, Fall q.1 ∧ q.1.sum + (q.2 : Int) = (size : Int)) ∧
  fs.length + (qs.map fun p => 2 ^ p.2).sum ≤ 2 ^ size ∧ xs ++ todo qs = rows size size ∧ (∀ b o, b ≠ F → b ≠ W → H0 b = some o → H b = some o)
theorem ok_kindsO (F : Fun K "_law_kinds" "_law_kinds" sKindsO f fd) (T : Txt K mg) : FnOk P w K mg base CX0 1 f fd ["_law_size"] (spKindsO K) := by
  refine F.ok scKindsO (fun vs H Q E h => ?_) (fun cdv A outer s H vs Q E hr h => ?_)
  · obtain ⟨size, rfl, _⟩ := h
    rfl
  · obtain ⟨size, rfl, hsz, k⟩ := h
    refine ⟨_, pss_cons (ps_par (i := 1) (j := 2) (by rfl) scKindsO.nd rfl rfl (by decide) rfl rfl (pa_cons (pe_lst pa_nil) (pa_cons (pe_lst (pa_cons (pe_tup (pa_cons (pe_tupX pa_nil) (pa_cons (pv 0) pa_nil))) pa_nil)) pa_nil)) (by rfl))
      (pss_cons (ps_while PassesOwn.never (pt_cmpR (op_neNil (Nat.lt_of_le_of_lt (Nat.le_add_right _ _) (lt66 hr))) (pv 2) (pe_lst pa_nil) (nomark _)) (pss_cons (ps_asg (pe_bm0 PySem.F.plainAttrs_list PySem.F.slot_list_pop PySem.F.type_list_pop mt_pop (pv 2)) (pg_tup rfl (pgs_cons (pg_name (i := 3) scKindsO.nd rfl (Or.inr rfl)) (pgs_cons (pg_name (i := 4) scKindsO.nd rfl (Or.inr rfl)) pgs_nil))))
      (pss_one (ps_if (pt_cmpR op_eq (pv 4) pe_int (nomark _)) (pss_one (ps_expr (pe_bm PySem.F.plainAttrs_list PySem.F.slot_list_append PySem.F.type_list_append mt_append (pv 1) (pa_cons (pv 3) pa_nil)))) (pss_cons (ps_set (i := 5) scKindsO.nd rfl (Or.inl rfl) (pe_ifExp (pt_cmpR (op_neD hr.units) (pv 3) (pe_tupX pa_nil) (nomark _)) (pe_callB (call_min2 rfl) (by rfl) T.min (by decide +kernel) (pa_cons (pv 4) (pa_cons (pe_ix ix_tup (pv 3) (pe_un un_neg pe_int) (fun _ _ => rfl)) pa_nil))) (pv 4)))
      (pss_one (ps_expr (pe_bm PySem.F.plainAttrs_list PySem.F.slot_list_extend PySem.F.type_list_extend mt_extend (pv 2) (pa_cons (pe_lc (own := [("_law_number", 6)]) (g := gName 6) (tt := tYes) rfl scKindsO.nd (pi_range2 (by rfl) T.range (pa_cons pe_int (pa_cons (pe_op op_add (pv 5) pe_int) pa_nil))) (blkOk_by (N := ["_law_size", "_law_found", "_law_waits", "_law_kind_here", "_law_left", "_law_most", "_law_number"]) (sc := defScope sKindsO) (by decide +kernel)) (fun _ _ _ _ _ => pg_name (i := 6) scKindsO.nd rfl (Or.inl rfl)) (fun _ _ _ _ _ => pts_nil) (fun _ _ _ _ _ => by exact (pe_tup (pa_cons (pe_op (r := rCatX K) op_catX (pv 3) (pe_tupX (pa_cons (pv 6) pa_nil))) (pa_cons (pe_op op_sub (pv 4) (pv 6)) pa_nil))))) pa_nil)))))))))
      (pss_one (ps_ret (pv 1)))), ?_⟩
    try dsimp only [cx_nox, cx_K]
    refine g_seqP ?_
    walk_at "rd"
    refine ⟨Nat.zero_le _, fun Fa hFa => ?_⟩
    walk_at "rd"
    refine g_tupX ?_
    walk_at "rd"
    refine ⟨Nat.zero_le _, fun a o ha ho => ?_⟩
    walk_at "rd"
    refine ⟨by show 2 ≤ sizeLine; decide, fun b hb => ?_⟩
    walk_at "rd"
    refine ⟨by show 1 ≤ sizeLine; decide, fun Wa hWa => ?_⟩
    walk_at "rd"
    refine ⟨_, _, rfl, ?_⟩
    have e1 : Ext H (upd H Fa (.lst [])) := Ext.new hFa
    have e2 := Ext.new (o := HO.frz o (.tup [])) ha
    have e3 := Ext.new (o := HO.tup [V.ref a, V.int (size : Int)]) hb
    have e4 := Ext.new (o := HO.lst [V.ref b]) hWa
    have t1 : TupX K (upd (upd H Fa (.lst [])) a (.frz o (.tup []))) a (([] : List Int).map V.int) := TupX.new ho
    have t2 := (t1.ext e3).ext e4
    have b2 := e4 _ _ (upd_same : upd (upd (upd H Fa (.lst [])) a (.frz o (.tup []))) b (HO.tup [V.ref a, V.int (size : Int)]) b = _)
    have f2 := e4 _ _ (e3 _ _ (e2 _ _ (upd_same : upd H Fa (.lst []) Fa = _)))
    have w2 : upd (upd (upd (upd H Fa (.lst [])) a (.frz o (.tup []))) b (HO.tup [V.ref a, V.int (size : Int)])) Wa (HO.lst [V.ref b]) Wa = some (.lst [V.ref b]) := upd_same
    have eall := Ext.trans e1 (Ext.trans e2 (Ext.trans e3 e4))
    have nFW : Fa ≠ Wa := ne_of_none (e3 _ _ (e2 _ _ (upd_same : upd H Fa (.lst []) Fa = _))) hWa
    have hW0 : H Wa = none := new_up (Ext.trans e1 (Ext.trans e2 e3)) hWa
    generalize upd (upd (upd (upd H Fa (.lst [])) a (.frz o (.tup []))) b (HO.tup [V.ref a, V.int (size : Int)])) Wa (HO.lst [V.ref b]) = H1 at t2 b2 f2 w2 eall ⊢
    walk_at "rd"
    refine ⟨PvKO K size Fa Wa H, ⟨_, [], [], [.ref b], [([], size)], none, none, none, rfl, rfl, f2, w2, .nil, .cons ⟨b, a, rfl, b2, t2⟩ .nil, fun q hq => ?_, ?_, todo_start size, fun c u _ _ q => eall c u q⟩, ?_⟩
    · rw [List.mem_singleton.mp hq]
      exact ⟨fall_nil, by simp⟩
    · simp
    rintro m σ1 H2 ⟨fs, xs, ps, qs, x, y, z, rfl, rfl, hF, hW, hf, hw, hfl0, hs, hto, hk⟩
    walk_at "rd"
    refine ⟨Nat.zero_le _, fun e he => ?_⟩
    walk_at "rd"
    have ee := Ext.new (o := HO.lst []) he
    refine ⟨Wa, e, _, rfl, rfl, SqL.of (ee _ _ hW), SqL.of upd_same, ?_⟩
    have hF3 := ee _ _ hF
    have hW3 := ee _ _ hW
    have hk3 : ∀ c u, c ≠ Fa → c ≠ Wa → H c = some u → upd H2 e (.lst []) c = some u := fun c u n1 n2 q => ee _ _ (hk c u n1 n2 q)
    have hf3 := rxs_ext ee hf
    have hw3 := wtos_keeps (Keeps.of ee) hw
    generalize upd H2 e (.lst []) = H3 at hF3 hW3 hk3 hf3 hw3 ⊢
    have hs12 : 2 ^ size ≤ 2 ^ 12 := Nat.pow_le_pow_right (by omega) hsz
    walk_at "rd"
    rcases List.eq_nil_or_concat qs with rfl | ⟨qs, ⟨ns, l⟩, rfl⟩
    · cases hw3
      refine iteF ?_
      walk_at "rd"
      have e0 : todo [] = [] := rfl
      rw [e0, List.append_nil] at hto
      rw [hto] at hf3
      exact k H3 Fa fs (fun c u q => hk3 c u (ne_of_none q hFa) (ne_of_none q hW0) q) hFa hF3 hf3
    rw [List.concat_eq_append] at hw3 hfl0 hs hto ⊢
    obtain ⟨ps, v, rfl, hwp, hwv⟩ := pair_last hw3
    clear hw3
    obtain ⟨b, a, rfl, hb, ht⟩ := hwv
    have hb : H3 b = some (.tup [.ref a, .int (l : Int)]) := hb
    have ht : TupX K H3 a (ns.map V.int) := ht
    obtain ⟨hfl, hsum⟩ := hfl0 (ns, l) (by simp)
    have hfl : Fall ns := hfl
    have hsum : ns.sum + (l : Int) = (size : Int) := hsum
    have hfl1 : ∀ q ∈ qs, Fall q.1 ∧ q.1.sum + (q.2 : Int) = (size : Int) := fun q hq => hfl0 q (by simp [hq])
    clear hfl0
    rw [todo_snoc] at hto
    have nem : (!((ps ++ [V.ref b]).isEmpty)) = true := by cases ps <;> rfl
    rw [nem]
    refine iteT ?_
    have esum : ((qs ++ [(ns, l)]).map fun p => 2 ^ p.2).sum = (qs.map fun p => 2 ^ p.2).sum + 2 ^ l := by
      rw [List.map_append, List.sum_append]
      simp
    rw [esum] at hs ⊢
    refine ⟨fun σ' H' => ∃ m', m' < (qs.map fun p => 2 ^ p.2).sum + 2 ^ l ∧ PvKO K size Fa Wa H m' σ' H', fun _ _ q => q, ?_⟩
    walk_at "rd"
    refine ⟨.inl ⟨rfl, _, SqL.of hW3⟩, Wa, _, .ref b, rfl, rfl, hW3, by simp, ?_⟩
    rw [List.dropLast_concat]
    have kW := Keeps.up (ys := ps) hW3
    have hF4 : upd H3 Wa (.lst ps) Fa = some (.lst fs) := by
      rw [upd_ne nFW]
      exact hF3
    have hW4 : upd H3 Wa (.lst ps) Wa = some (.lst ps) := upd_same
    have hk4 : ∀ c u, c ≠ Fa → c ≠ Wa → H c = some u → upd H3 Wa (.lst ps) c = some u := fun c u n1 n2 q => by
      rw [upd_ne n2]
      exact hk3 c u n1 n2 q
    have hf4 := rxs_keeps kW hf3
    have hw4 := wtos_keeps kW hwp
    have hb4 := kW _ _ (fun _ z => by cases z) hb
    have ht4 := TupX.keeps kW ht
    generalize upd H3 Wa (.lst ps) = H4 at hF4 hW4 hk4 hf4 hw4 hb4 ht4 ⊢
    refine ⟨b, _, rfl, SqT.of hb4, rfl, _, _, rfl, ?_⟩
    refine ⟨_, _, rfl, rfl, ?_⟩
    walk_at "rd"
    refine ite2 (fun hl => ?_) (fun hl => ?_)
    · have hl0 : l = 0 := by
        have := of_decide_eq_true hl
        omega
      subst hl0
      walk_at "rd"
      refine ⟨.inl ⟨rfl, _, SqL.of hF4⟩, ?_⟩
      walk_at "rd"
      have h1 : (2 : Nat) ^ 0 = 1 := rfl
      refine ⟨Fa, fs, .ref a, rfl, rfl, hF4, by have : (4096 : Nat) < sizeLine := by decide
                                                have : (2 : Nat) ^ 12 = 4096 := by decide
                                                omega, ?_⟩
      have kF := Keeps.up (ys := fs ++ [.ref a]) hF4
      have e0 : (rows 0 (bnd ns 0)).map (ns ++ ·) = [ns] := by
        rw [rows_zero]
        show [ns ++ []] = [ns]
        rw [List.append_nil]
      rw [e0, ← List.append_assoc] at hto
      refine ⟨(qs.map fun p => 2 ^ p.2).sum, by omega, fs ++ [.ref a], xs ++ [ns], ps, qs, _, _, _, rfl, rfl, upd_same, ?_, pair_append (rxs_keeps kF hf4) (.cons ⟨a, rfl, TupX.keeps kF ht4⟩ .nil), wtos_keeps kF hw4, hfl1, ?_, hto, fun c u n1 n2 q => ?_⟩
      · rw [upd_ne (Ne.symm nFW)]
        exact hW4
      · rw [List.length_append, List.length_singleton]
        omega
      · rw [upd_ne n1]
        exact hk4 c u n1 n2 q
    · have hl0 : l ≠ 0 := fun z => hl (decide_eq_true (by rw [z]; rfl))
      walk_at "rd"
      refine g_tupX ?_
      walk_at "rd"
      refine ⟨Nat.zero_le _, fun u o2 hu ho2 => ?_⟩
      have e5 := Ext.new (o := HO.frz o2 (.tup [])) hu
      refine ⟨_, _, .tup (ht4.ext e5).sq (pdp ns), .tup (xs := ([] : List Int).map V.int) (TupX.new ho2).sq (pdp []), sh_row ns, sh_row [], ?_⟩
      have ene : PyData.eqv (.tuple (pdata ns)) (.tuple (pdata [])) = decide (ns = []) := by
        simp only [PyData.eqv, peqv]
      rw [ene]
      have hF5 := e5 _ _ hF4
      have hW5 := e5 _ _ hW4
      have hk5 : ∀ c v, c ≠ Fa → c ≠ Wa → H c = some v → upd H4 u (HO.frz o2 (.tup [])) c = some v := fun c v n1 n2 q => e5 _ _ (hk4 c v n1 n2 q)
      have hf5 := rxs_ext e5 hf4
      have hw5 := wtos_keeps (Keeps.of e5) hw4
      have ht5 := ht4.ext e5
      generalize upd H4 u (HO.frz o2 (.tup [])) = H5 at hF5 hW5 hk5 hf5 hw5 ht5 ⊢
      obtain ⟨mo, m1, m2, m3, m4⟩ : ∃ mo : Nat, 1 ≤ mo ∧ mo ≤ l ∧ (ns ≠ [] → (mo : Int) ≤ ns.getD (ns.length - 1) 0) ∧ (mo : Int) = if ns = [] then (l : Int) else if ns.getD (ns.length - 1) 0 < (l : Int) then ns.getD (ns.length - 1) 0 else (l : Int) := by
        by_cases hn : ns = []
        · exact ⟨l, by omega, Nat.le_refl _, fun h => absurd hn h, by rw [if_pos hn]⟩
        · have hp := hfl.pos _ (getD_mem (i := ns.length - 1) (by have := List.length_pos_iff.mpr hn; omega))
          by_cases hc : ns.getD (ns.length - 1) 0 < (l : Int)
          · exact ⟨(ns.getD (ns.length - 1) 0).toNat, by omega, by omega, fun _ => by omega, by rw [if_neg hn, if_pos hc]; omega⟩
          · exact ⟨l, by omega, Nat.le_refl _, fun _ => by omega, by rw [if_neg hn, if_neg hc]⟩
      walk_at "rd"
      refine g_ifV (.int (mo : Int)) (fun h1 Q' q => ?_) (fun h1 Q' q => ?_) ?_
      · have hn : ns ≠ [] := fun z => by simp [z] at h1
        rw [if_neg hn] at m4
        walk_at "rd"
        refine g_ixT (v := .int (ns.getD (ns.length - 1) 0)) ht5.sq ?_ ?_
        · have hlen := List.length_pos_iff.mpr hn
          unfold atI ixN
          rw [List.length_map, if_neg (by decide), if_pos (by omega)]
          have : ((-1 : Int) + (ns.length : Int)).toNat = ns.length - 1 := by omega
          show (ns.map V.int)[((-1 : Int) + (ns.length : Int)).toNat]? = _
          rw [this]
          exact getI (by omega)
        · refine ⟨_, _, rfl, ?_⟩
          rw [← m4]
          exact q
      · have hn : ns = [] := by simpa using h1
        rw [if_pos hn] at m4
        walk_at "rd"
        rw [← m4]
        exact q
      walk_at "rd"
      refine ⟨.inl ⟨rfl, _, SqL.of hW5⟩, ?_⟩
      walk_at "rd"
      refine g_lc (g_rng2 ?_)
      walk_at "rd"
      have hl13 : (l : Int) ≤ 12 := by
        have := hfl.sum0
        omega
      refine ⟨⟨by decide, by decide, by omega, by omega⟩, ?_⟩
      have en : ((mo : Int) + 1 - 1).toNat = mo := by omega
      rw [en]
      refine lcRR (small (by omega)) (fun i y H => WTO K H y (ns ++ [((i + 1 : Nat) : Int)], l - (i + 1))) (fun i y H H' e r => WTO.keeps e r) (fun i H6 hi e6 Qe Qn he => ?_) (fun H6 D ys e6 hD hd hyl hyr => ?_)
      · refine ⟨rfl, ?_⟩
        walk_at "rd"
        refine g_tupX ?_
        walk_at "rd"
        refine ⟨by show 1 ≤ sizeLine; decide, fun c o3 hc ho3 => ?_⟩
        have e7 := Ext.new (o := HO.frz o3 (.tup [V.int (1 + (i : Int))])) hc
        have hfl' : Fall (ns ++ [1 + (i : Int)]) := fall_snoc hfl (by omega) (by omega) (fun hn => by have := m3 hn; omega)
        refine ⟨a, c, ns.map V.int, [V.int (1 + (i : Int))], rfl, rfl, (ht5.ext e6).ext e7, TupX.new ho3, ?_, fun H8 p e8 hp => ?_⟩
        · have := hfl'.len
          rw [List.length_append, List.length_singleton] at this
          rw [List.length_map, List.length_singleton]
          exact Nat.le_of_lt (small (by omega))
        walk_at "rd"
        refine ⟨by show 2 ≤ sizeLine; decide, fun q hq => ?_⟩
        have e9 := Ext.new (o := HO.tup [V.ref p, V.int ((l : Int) - (1 + (i : Int)))]) hq
        refine he _ _ (Ext.trans e7 (Ext.trans e8 e9)) ⟨q, p, rfl, ?_, ?_⟩
        · rw [upd_same]
          have : (l : Int) - (1 + (i : Int)) = ((l - (i + 1) : Nat) : Int) := by omega
          rw [this]
        · show TupX K _ p ((ns ++ [((i + 1 : Nat) : Int)]).map V.int)
          rw [show ((i + 1 : Nat) : Int) = 1 + (i : Int) by omega, List.map_append]
          exact hp.ext e9
      · have hlen := len_pow (qs.map fun p => p.2)
        rw [List.map_map, List.length_map] at hlen
        have hlen' : qs.length ≤ (qs.map fun p => 2 ^ p.2).sum := hlen
        have hpl := pair_len hw5
        have h12 : (2 : Nat) ^ 12 = 4096 := by decide
        have hbn : bnd ns l = mo := by
          unfold bnd
          by_cases hn : ns = []
          · rw [if_pos hn] at m4 ⊢
            omega
          · rw [if_neg hn] at m4 ⊢
            split at m4 <;> omega
        rw [← todo_more qs ns hl0 m2 hbn] at hto
        walk_at "rd"
        refine ⟨Wa, D, _, ys, rfl, rfl, e6 _ _ hW5, hd, ?_, ?_⟩
        · rw [hyl]
          have : (5000 : Nat) < sizeLine := by decide
          have := Nat.one_le_two_pow (n := l)
          omega
        have kX := Keeps.up (ys := ps ++ ys) (e6 _ _ hW5)
        have ksum := geo2 l mo m2
        have kpos := Nat.one_le_two_pow (n := l - mo)
        have ecs : (((List.range mo).map fun i => (ns ++ [((i + 1 : Nat) : Int)], l - (i + 1))).map fun p => 2 ^ p.2).sum = ((List.range mo).map fun i => 2 ^ (l - (i + 1))).sum := by
          rw [List.map_map]
          rfl
        refine ⟨((qs ++ (List.range mo).map fun i => (ns ++ [((i + 1 : Nat) : Int)], l - (i + 1))).map fun p => 2 ^ p.2).sum, ?_, fs, xs, ps ++ ys, qs ++ (List.range mo).map fun i => (ns ++ [((i + 1 : Nat) : Int)], l - (i + 1)), _, _, _, rfl, rfl, ?_, upd_same, rxs_keeps kX (rxs_ext e6 hf5), pair_append (wtos_keeps kX (wtos_keeps (Keeps.of e6) hw5)) (pair_of (by rw [List.length_map, List.length_range, hyl]) fun c y q h1 h2 => ?_), fun q hq => ?_, ?_, hto, fun c v n1 n2 q => ?_⟩
        · rw [List.map_append, List.sum_append, ecs]
          omega
        · rw [upd_ne nFW]
          exact e6 _ _ hF5
        · have hc := (List.getElem?_eq_some_iff.mp h1).1
          rw [List.getElem?_map, List.getElem?_range (by omega)] at h2
          cases h2
          exact WTO.keeps kX (hyr c y h1)
        · rcases List.mem_append.mp hq with q1 | q1
          · exact hfl1 q q1
          · obtain ⟨i, hi, rfl⟩ := List.mem_map.mp q1
            have him := List.mem_range.mp hi
            refine ⟨?_, ?_⟩
            · show Fall (ns ++ [((i + 1 : Nat) : Int)])
              exact fall_snoc hfl (by omega) (by omega) (fun hn => by have := m3 hn; omega)
            · show (ns ++ [((i + 1 : Nat) : Int)]).sum + ((l - (i + 1) : Nat) : Int) = (size : Int)
              rw [List.sum_append]
              have : [((i + 1 : Nat) : Int)].sum = 1 + (i : Int) := by simp; omega
              rw [this]
              omega
        · rw [List.map_append, List.sum_append, ecs]
          omega
        · rw [upd_ne n2]
          exact e6 _ _ (hk5 c v n1 n2 q)
end
end

/-! Kinds: ==. -/

section
open PySem PySem.Spec PyProof.Rows L2 Gd
section
variable {P : Program} {w : World} {K : PySem.W.Frag} {mg : Str → Option Value} {base : Heap} {f C : Addr} {fd : FuncData}
theorem neg_injQ {ns ms : List Int} : (ns.map fun x => -x) = (ms.map fun x => -x) ↔ ns = ms := by
  constructor
  · intro h
    have h2 := congrArg (List.map fun x : Int => -x) h
    rw [List.map_map, List.map_map] at h2
    have e : ((fun x : Int => -x) ∘ fun x => -x) = id := by
      funext x
      exact Int.neg_neg x
    rw [e, List.map_id, List.map_id] at h2
    exact h2
  · intro h
    rw [h]
theorem dp_pairQ {H : Hp} {t m : Addr} {i : Int} {ns : List Int} (ht : SqT K H t [.int i, .ref m]) (hm : SqT K H m (ns.map V.int)) : Dp K H (.ref t) (.tuple [.int i, .tuple (pdata ns)]) :=
  .tup ht (.cons (.int i) (.cons (.tup hm (pdp ns)) .nil))
theorem sh_pairQ (i : Int) (ns : List Int) : SeqAt.shaped (.tuple [.int i, .tuple (pdata ns)]) = true := by
  have d : ∀ ns : List Int, PyData.depthAll (pdata ns) = 0 := fun ns => by
    induction ns with
    | nil => simp [pdata, PyData.depthAll]
    | cons n r ih =>
      unfold pdata at ih ⊢
      simp [PyData.depthAll, PyData.depth, ih]
  unfold SeqAt.shaped
  simp [PyData.canLay0, PyData.canLayAll0, play, PyData.depth, PyData.depthAll, d]
theorem notFirst_own {G : Addr} : PySem.W.notFirst K G (.ref G) = true := by
  unfold PySem.W.notFirst
  simp
theorem scKEq : FnScope ["self", "other"] ["self", "other"] (defScope (cls 19)) := ⟨rfl, rfl, rfl, by decide +kernel, rfl, by decide +kernel, by decide +kernel⟩
def spKEq (K : PySem.W.Frag) (C : Addr) : Sp := fun vs H Q _ => ∃ (p n t m q n2 t2 m2 : Addr) (ns ms : List Int), vs = [.ref p, .ref q] ∧ KindAt K C H p n t m ns ∧ KindAt K C H q n2 t2 m2 ms ∧ ∀ H', Ext H H' → Q (.bl (decide (ns = ms))) H'
theorem ok_keq (F : Fun K "__eq__" "Kind.__eq__" (cls 19) f fd) (T : Txt K mg) (Cl : KC K mg C) : FnOk P w K mg base CX0 1 f fd ["self", "other"] (spKEq K C) := by
  refine F.ok scKEq (fun vs H Q E h => ?_) (fun cdv A outer s H vs Q E hr h => ?_)
  · obtain ⟨p, n, t, m, q, n2, t2, m2, ns, ms, rfl, _⟩ := h
    rfl
  · obtain ⟨p, n, t, m, q, n2, t2, m2, ns, ms, rfl, ⟨⟨dx, hp⟩, hn, ht, hm, hF⟩, ⟨⟨dy, hq⟩, hn2, ht2, hm2, hF2⟩, k⟩ := h
    refine ⟨_, pss_one (ps_ret (pe_and (pe_callB call_isi (by rfl) T.isinstance (by decide +kernel) (pa_cons (pv 1) (pa_cons (pe_glob (v := .ref C) (by rfl) Cl.g rfl) pa_nil))) (pe_one (pe_cmpR (op_eqD hr.units) (pe_fld (pv 0) rfl) (pe_fld (pv 1) rfl) (nomark _))))), ?_⟩
    try dsimp only [cx_nox, cx_K]
    walk_at "rd"
    refine ⟨_, _, _, _, true, rfl, .own C, Cl.ty hq, Cl.kit, ?_⟩
    walk_at "rd"
    refine ⟨p, C, dx, _, _, rfl, hp, Cl.cl, Cl.noP, look2, ?_⟩
    walk_at "rd"
    refine ⟨q, C, dy, _, _, rfl, hq, Cl.cl, Cl.noP, look2, ?_⟩
    refine ⟨_, _, dp_pairQ ht hm, dp_pairQ ht2 hm2, sh_pairQ _ _, sh_pairQ _ _, ?_⟩
    have e1 : PyData.eqv (.tuple [.int ns.sum, .tuple (pdata (ns.map fun x => -x))]) (.tuple [.int ms.sum, .tuple (pdata (ms.map fun x => -x))]) = (decide (ns.sum = ms.sum) && (decide ((ns.map fun x => -x) = (ms.map fun x => -x)) && true)) := by
      simp only [PyData.eqv, PyData.eqvAll, peqv]
      rfl
    have e : (decide (ns.sum = ms.sum) && (decide ((ns.map fun x => -x) = (ms.map fun x => -x)) && true)) = decide (ns = ms) := by
      rw [Bool.and_true]
      by_cases h : ns = ms
      · subst h
        simp
      · rw [decide_eq_false (p := (ns.map fun x => -x) = (ms.map fun x => -x)) (fun z => h (neg_injQ.mp z)), decide_eq_false h, Bool.and_false]
    rw [e1, e]
    exact k H (fun _ _ z => z)
/-- two kinds of the same numbers -/
theorem g_neKind {H : Hp} {Q : VK} {E : XK} {p n t m q n2 t2 m2 : Addr} {ns ms : List Int} (Cl : KC K mg C) (hp : KindAt K C H p n t m ns) (hq : KindAt K C H q n2 t2 m2 ms) (k : ∀ H', Ext H H' → Q (.bl (!decide (ns = ms))) H') : rNeO K C (spKEq K C) E (.ref p) (.ref q) H Q := by
  obtain ⟨dx, hpi⟩ := id hp.ins
  obtain ⟨dy, hqi⟩ := id hq.ins
  exact ⟨p, dx, _, _, rfl, hpi, Cl.ty hqi, notFirst_own, p, n, t, m, q, n2, t2, m2, ns, ms, rfl, hp, hq, fun H' e => ⟨_, rfl, k H' e⟩⟩
end
end

/-! The class's plain properties. -/

section
open PySem PySem.Spec PyProof.Rows L2 Gd
section
variable {P : Program} {w : World} {K : PySem.W.Frag} {mg : Str → Option Value} {base : Heap} {f C t0 : Addr} {fd : FuncData}
theorem scRan : FnScope ["self"] ["self"] (defScope (cls 4)) := ⟨rfl, rfl, rfl, by decide +kernel, rfl, by decide +kernel, by decide +kernel⟩
theorem ok_rank (F : Fun K "rank" "Kind.rank" (cls 4) f fd) (T : Txt K mg) (Cl : KC K mg C) : FnOk P w K mg base CX0 1 f fd ["self"] (spGet K C fun _ ns => .int (ns.length : Int)) := by
  refine F.ok scRan (fun vs H Q E h => ?_) (fun cdv A outer s H vs Q E hr h => ?_)
  · obtain ⟨p, n, t, m, ns, rfl, _⟩ := h
    rfl
  · obtain ⟨p, n, t, m, ns, rfl, ⟨⟨dx, hp⟩, hn, ht, hm, hF⟩, k⟩ := h
    refine ⟨_, pss_one (ps_ret (pe_callB call_len_seq (by rfl) T.len PySem.boot_len (pa_cons (pe_fld (pv 0) rfl) pa_nil))), ?_⟩
    try dsimp only [cx_nox, cx_K]
    walk_at "rd"
    refine ⟨p, C, dx, _, _, rfl, hp, Cl.cl, Cl.noN, look1, ?_⟩
    walk_at "rd"
    refine ⟨n, _, rfl, .inr hn.sq, ?_⟩
    rw [List.length_map]
    exact k H (fun _ _ z => z)
theorem scHei : FnScope ["self"] ["self"] (defScope (cls 5)) := ⟨rfl, rfl, rfl, by decide +kernel, rfl, by decide +kernel, by decide +kernel⟩
theorem ok_height (F : Fun K "height" "Kind.height" (cls 5) f fd) (Cl : KC K mg C) (N : Def1 P w K mg base CX0 1 "number_at" ["row", "index"] (spNumAt K)) : FnOk P w K mg base CX0 2 f fd ["self"] (spGet K C fun _ ns => .int (ns.getD 0 0)) := by
  refine F.ok scHei (fun vs H Q E h => ?_) (fun cdv A outer s H vs Q E hr h => ?_)
  · obtain ⟨p, n, t, m, ns, rfl, _⟩ := h
    rfl
  · obtain ⟨p, n, t, m, ns, rfl, ⟨⟨dx, hp⟩, hn, ht, hm, hF⟩, k⟩ := h
    refine ⟨_, pss_one (ps_ret (pe_def N hr (by decide) (by rfl) (pa_cons (pe_fld (pv 0) rfl) (pa_cons pe_int pa_nil)))), ?_⟩
    try dsimp only [cx_nox, cx_K]
    walk_at "rd"
    refine ⟨p, C, dx, _, _, rfl, hp, Cl.cl, Cl.noN, look1, ?_⟩
    walk_at "rd"
    exact ⟨n, ns, 0, rfl, hn.sq, k H (fun _ _ z => z)⟩
theorem scSla : FnScope ["self"] ["self"] (defScope (cls 6)) := ⟨rfl, rfl, rfl, by decide +kernel, rfl, by decide +kernel, by decide +kernel⟩
theorem ok_slant (F : Fun K "slant" "Kind.slant" (cls 6) f fd) (Cl : KC K mg C) (N : Def1 P w K mg base CX0 1 "slant_of" ["row"] (spSlant K)) : FnOk P w K mg base CX0 2 f fd ["self"] (spGet K C fun _ ns => .int (slantM ns)) := by
  refine F.ok scSla (fun vs H Q E h => ?_) (fun cdv A outer s H vs Q E hr h => ?_)
  · obtain ⟨p, n, t, m, ns, rfl, _⟩ := h
    rfl
  · obtain ⟨p, n, t, m, ns, rfl, ⟨⟨dx, hp⟩, hn, ht, hm, hF⟩, k⟩ := h
    refine ⟨_, pss_one (ps_ret (pe_def N hr (by decide) (by rfl) (pa_cons (pe_fld (pv 0) rfl) pa_nil))), ?_⟩
    try dsimp only [cx_nox, cx_K]
    walk_at "rd"
    refine ⟨p, C, dx, _, _, rfl, hp, Cl.cl, Cl.noN, look1, ?_⟩
    walk_at "rd"
    exact ⟨n, ns, rfl, hn.sq, hF, k⟩
/-- a promise that makes a kind -/
def spMakes (K : PySem.W.Frag) (C : Addr) (v : List Int → List Int) : Sp := fun vs H Q _ => ∃ (p n t m : Addr) (ns : List Int), vs = [.ref p] ∧ KindAt K C H p n t m ns ∧ ∀ H' p' n' t' m', Ext H H' → KindAt K C H' p' n' t' m' (v ns) → Q (.ref p') H'
theorem scTur : FnScope ["self"] ["self"] (defScope (cls 7)) := ⟨rfl, rfl, rfl, by decide +kernel, rfl, by decide +kernel, by decide +kernel⟩
theorem ok_turned (F : Fun K "turned" "Kind.turned" (cls 7) f fd) (Cl : KC K mg C) (N : Def1 P w K mg base CX0 2 "turned_row" ["row"] (spTurned K)) (I : Ini1 P w K mg base CX0 5 C t0 ["self", "numbers"] (spInit K C)) :
    FnOk P w K mg base CX0 7 f fd ["self"] (spMakes K C turnM) := by
  refine F.ok scTur (fun vs H Q E h => ?_) (fun cdv A outer s H vs Q E hr h => ?_)
  · obtain ⟨p, n, t, m, ns, rfl, _⟩ := h
    rfl
  · obtain ⟨p, n, t, m, ns, rfl, ⟨⟨dx, hp⟩, hn, ht, hm, hF⟩, k⟩ := h
    refine ⟨_, pss_one (ps_ret (pe_mk1 I pass0 hr (by decide) (by rfl) Cl.g (pa_cons (pe_def N hr (by decide) (by rfl) (pa_cons (pe_fld (pv 0) rfl) pa_nil)) pa_nil))), ?_⟩
    try dsimp only [cx_nox, cx_K]
    walk_at "rd"
    refine g_make ?_
    walk_at "rd"
    refine ⟨p, C, dx, _, _, rfl, hp, Cl.cl, Cl.noN, look1, ?_⟩
    walk_at "rd"
    have hl1 := hF.len
    have h0 := hF.at 0
    refine ⟨n, ns, rfl, hn.sq, by omega, h0.1, by omega, fun H1 u e1 hu => ?_⟩
    walk_at "rd"
    exact g_mk2 hu (turn_fall hF) fun H' p' n' t' m' e hk => k H' p' n' t' m' (Ext.trans e1 e) hk
def spTwo (K : PySem.W.Frag) (C : Addr) (B : List Int → List Int → Prop) (v : List Int → List Int → V) : Sp := fun vs H Q _ => ∃ (p n t m q n2 t2 m2 : Addr) (ns ms : List Int), vs = [.ref p, .ref q] ∧ KindAt K C H p n t m ns ∧ KindAt K C H q n2 t2 m2 ms ∧ B ns ms ∧ ∀ H', Ext H H' → Q (v ns ms) H'
theorem scLtk : FnScope ["self", "other"] ["self", "other"] (defScope (cls 20)) := ⟨rfl, rfl, rfl, by decide +kernel, rfl, by decide +kernel, by decide +kernel⟩
theorem ok_lt (F : Fun K "__lt__" "Kind.__lt__" (cls 20) f fd) (T : Txt K mg) (Cl : KC K mg C) : FnOk P w K mg base CX0 4 f fd ["self", "other"] (spTwo K C (fun _ _ => True) fun ns ms => .bl (pairLtM ns ms)) := by
  refine F.ok scLtk (fun vs H Q E h => ?_) (fun cdv A outer s H vs Q E hr h => ?_)
  · obtain ⟨p, n, t, m, q, n2, t2, m2, ns, ms, rfl, _⟩ := h
    rfl
  · obtain ⟨p, n, t, m, q, n2, t2, m2, ns, ms, rfl, ⟨⟨dx, hp⟩, hn, ht, hm, hF⟩, ⟨⟨dy, hq⟩, hn2, ht2, hm2, hF2⟩, _, k⟩ := h
    refine ⟨_, PSs.nox (pss_cons (ps_if (pt_not (pt_val (pe_callB call_isi (by rfl) T.isinstance (by decide +kernel) (pa_cons (pv 1) (pa_cons (pe_glob (v := .ref C) (by rfl) Cl.g rfl) pa_nil))))) (pss_one ps_never) pss_nil)
      (pss_one (ps_ret (pe_cmpR (op_ltP (lt66 hr)) (pe_fld (pv 0) rfl) (pe_fld (pv 1) rfl) (nomark _))))), ?_⟩
    try dsimp only [cx_nox, cx_K]
    walk_at "rd"
    refine ⟨_, _, _, _, true, rfl, .own C, Cl.ty hq, Cl.kit, ?_⟩
    walk_at "rd"
    refine ⟨p, C, dx, _, _, rfl, hp, Cl.cl, Cl.noP, look2, ?_⟩
    walk_at "rd"
    refine ⟨q, C, dy, _, _, rfl, hq, Cl.cl, Cl.noP, look2, ?_⟩
    exact ⟨t, t2, m, m2, _, _, _, _, rfl, rfl, ht, ht2, hm, hm2, k H (fun _ _ z => z)⟩
end
end

/-! The class: repeats, is_flat, is_line, len, [index]. -/

section
open PySem PySem.Spec PyProof.Rows L2 Gd
section
variable {P : Program} {w : World} {K : PySem.W.Frag} {mg : Str → Option Value} {base : Heap} {f C t0 CN : Addr} {fd : FuncData}
theorem scIsF : FnScope ["self"] ["self"] (defScope (cls 9)) := ⟨rfl, rfl, rfl, by decide +kernel, rfl, by decide +kernel, by decide +kernel⟩
theorem ok_isFlat (F : Fun K "is_flat" "Kind.is_flat" (cls 9) f fd) (Cl : KC K mg C) (Ph : Pro1 P w K mg base 2 C "height" (spGet K C fun _ ns => .int (ns.getD 0 0))) : FnOk P w K mg base CX0 4 f fd ["self"] (spGet K C fun _ ns => .bl (decide (ns.getD 0 0 ≤ 1))) := by
  refine F.ok scIsF (fun vs H Q E h => ?_) (fun cdv A outer s H vs Q E hr h => ?_)
  · obtain ⟨p, n, t, m, ns, rfl, _⟩ := h
    rfl
  · obtain ⟨p, n, t, m, ns, rfl, hp, k⟩ := h
    refine ⟨_, pss_one (ps_ret (pe_cmpR op_le (pe_pro1 Cl.cl Ph hr (by decide) (pv 0)) pe_int (nomark _))), ?_⟩
    try dsimp only [cx_nox, cx_K]
    obtain ⟨dx, hpi⟩ := id hp.ins
    walk_at "rd"
    refine ⟨p, dx, _, rfl, hpi, p, n, t, m, ns, rfl, hp, fun H1 e1 => ?_⟩
    walk_at "rd"
    exact k _ e1
theorem scIsL : FnScope ["self"] ["self"] (defScope (cls 10)) := ⟨rfl, rfl, rfl, by decide +kernel, rfl, by decide +kernel, by decide +kernel⟩
theorem ok_isLine (F : Fun K "is_line" "Kind.is_line" (cls 10) f fd) (T : Txt K mg) (Cl : KC K mg C) : FnOk P w K mg base CX0 1 f fd ["self"] (spGet K C fun _ ns => .bl (decide ((ns.length : Int) ≤ 1))) := by
  refine F.ok scIsL (fun vs H Q E h => ?_) (fun cdv A outer s H vs Q E hr h => ?_)
  · obtain ⟨p, n, t, m, ns, rfl, _⟩ := h
    rfl
  · obtain ⟨p, n, t, m, ns, rfl, ⟨⟨dx, hp⟩, hn, ht, hm, hF⟩, k⟩ := h
    refine ⟨_, pss_one (ps_ret (pe_cmpR op_le (pe_callB call_len_seq (by rfl) T.len PySem.boot_len (pa_cons (pe_fld (pv 0) rfl) pa_nil)) pe_int (nomark _))), ?_⟩
    try dsimp only [cx_nox, cx_K]
    walk_at "rd"
    refine ⟨p, C, dx, _, _, rfl, hp, Cl.cl, Cl.noN, look1, ?_⟩
    walk_at "rd"
    refine ⟨n, _, rfl, .inr hn.sq, ?_⟩
    walk_at "rd"
    rw [List.length_map]
    exact k H (fun _ _ z => z)
theorem scKln : FnScope ["self"] ["self"] (defScope (cls 17)) := ⟨rfl, rfl, rfl, by decide +kernel, rfl, by decide +kernel, by decide +kernel⟩
theorem ok_klen (F : Fun K "__len__" "Kind.__len__" (cls 17) f fd) (T : Txt K mg) (Cl : KC K mg C) : FnOk P w K mg base CX0 1 f fd ["self"] (spGet K C fun _ ns => .int (ns.length : Int)) := by
  refine F.ok scKln (fun vs H Q E h => ?_) (fun cdv A outer s H vs Q E hr h => ?_)
  · obtain ⟨p, n, t, m, ns, rfl, _⟩ := h
    rfl
  · obtain ⟨p, n, t, m, ns, rfl, ⟨⟨dx, hp⟩, hn, ht, hm, hF⟩, k⟩ := h
    refine ⟨_, pss_one (ps_ret (pe_callB call_len_seq (by rfl) T.len PySem.boot_len (pa_cons (pe_fld (pv 0) rfl) pa_nil))), ?_⟩
    try dsimp only [cx_nox, cx_K]
    walk_at "rd"
    refine ⟨p, C, dx, _, _, rfl, hp, Cl.cl, Cl.noN, look1, ?_⟩
    walk_at "rd"
    refine ⟨n, _, rfl, .inr hn.sq, ?_⟩
    rw [List.length_map]
    exact k H (fun _ _ z => z)
theorem scKit : FnScope ["self", "index"] ["self", "index"] (defScope (cls 16)) := ⟨rfl, rfl, rfl, by decide +kernel, rfl, by decide +kernel, by decide +kernel⟩
def spItem6 (K : PySem.W.Frag) (C : Addr) : Sp := fun vs H Q _ => ∃ (p n t m : Addr) (ns : List Int) (i : Nat), vs = [.ref p, .int (i : Int)] ∧ KindAt K C H p n t m ns ∧ (i : Int) < 10 ^ 60 ∧ Q (.int (ns.getD i 0)) H
theorem ok_kitem (F : Fun K "__getitem__" "Kind.__getitem__" (cls 16) f fd) (Cl : KC K mg C) (Ri : Def1 P w K mg base (L2.CX P w) 4 "require_index" ["value"] (spIndex K CN)) (N : Def1 P w K mg base CX0 1 "number_at" ["row", "index"] (spNumAt K)) :
    FnOk P w K mg base CX0 5 f fd ["self", "index"] (spItem6 K C) := by
  refine F.ok scKit (fun vs H Q E h => ?_) (fun cdv A outer s H vs Q E hr h => ?_)
  · obtain ⟨p, n, t, m, ns, i, rfl, _⟩ := h
    rfl
  · obtain ⟨p, n, t, m, ns, i, rfl, ⟨⟨dx, hp⟩, hn, ht, hm, hF⟩, hi, k⟩ := h
    refine ⟨_, PSs.nox (pss_cons (ps_expr (pe_defX (E := X0) Ri (passes_call L2.takes0 (fun _ _ _ _ h => h)) hr (by decide) (by rfl) (pa_cons (pv 1) pa_nil)))
      (pss_one (ps_ret (pe_def N hr (by decide) (by rfl) (pa_cons (pe_fld (pv 0) rfl) (pa_cons (pv 1) pa_nil)))))), ?_⟩
    try dsimp only [cx_nox, cx_K]
    have low : (-(10 ^ 60) : Int) < (i : Int) := Int.lt_of_lt_of_le (by decide +kernel) (Int.natCast_nonneg i)
    walk_at "rd"
    refine ⟨_, true, rfl, .inl ⟨(i : Int), rfl, (decide_eq_true ⟨Int.natCast_nonneg i, hi⟩).symm⟩, fun _ => ?_, fun h => by cases h⟩
    walk_at "rd"
    refine ⟨p, C, dx, _, _, rfl, hp, Cl.cl, Cl.noN, look1, ?_⟩
    walk_at "rd"
    exact ⟨n, ns, i, rfl, hn.sq, k⟩
theorem none_ofX {H H' : Hp} {r : Addr} (e : Ext H H') (h : H' r = none) : H r = none := by
  cases z : H r with
  | none => rfl
  | some o =>
    rw [e _ _ z] at h
    cases h
/-! ### repeats -/
def reps (ns : List Int) : List (L2.Key × V) := ns.reverse.foldl (fun kvs x => putK kvs (Sum.inl x) (.int (ns.count x : Nat))) []
theorem scRep : FnScope ["self", "number"] ["self"] (defScope (cls 8)) := ⟨rfl, rfl, rfl, by decide +kernel, rfl, by decide +kernel, by decide +kernel⟩
def spRep (K : PySem.W.Frag) (C : Addr) : Sp := fun vs H Q _ => ∃ (p n t m : Addr) (ns : List Int), vs = [.ref p] ∧ KindAt K C H p n t m ns ∧ ∀ H' D, Ext H H' → H D = none → H' D = some (.dK (reps ns)) → Q (.ref D) H'
theorem ok_repeats (F : Fun K "repeats" "Kind.repeats" (cls 8) f fd) (Cl : KC K mg C) : FnOk P w K mg base CX0 1 f fd ["self"] (spRep K C) := by
  refine F.ok scRep (fun vs H Q E h => ?_) (fun cdv A outer s H vs Q E hr h => ?_)
  · obtain ⟨p, n, t, m, ns, rfl, _⟩ := h
    rfl
  · obtain ⟨p, n, t, m, ns, rfl, hk, k⟩ := h
    refine ⟨_, pss_one (ps_ret (pe_dc (tk := tVar 1) (tv := tBMT K (rCntT K) (tFld K (tVar 0) "_numbers") (tCons (tVar 1) tNil)) (wi := iTup K (tRevT K (tFld K (tVar 0) "_numbers"))) (own := [("number", 1)]) (g := gName 1) (tt := tYes) rfl scRep.nd (by exact pi_tup (pe_revT (pe_fld (pv 0) rfl))) (blkOk_by (N := ["self", "number"]) (sc := defScope (cls 8)) (by decide +kernel)) (fun _ _ _ _ _ => pg_name (i := 1) scRep.nd rfl (Or.inl rfl)) (fun _ _ _ _ _ => pts_nil) (fun _ _ _ _ _ => by exact (pv 1)) (fun _ _ _ _ _ => by exact (pe_bmT PySem.F.plainAttrs_tuple PySem.F.slot_tuple_count PySem.F.type_tuple_count mt_tcount (pe_fld (pv 0) rfl) (pa_cons (pv 1) pa_nil))))), ?_⟩
    try dsimp only [cx_nox, cx_K]
    obtain ⟨⟨dx, hp⟩, hn, ht, hm, hF⟩ := id hk
    have sz : (100000 : Nat) < sizeLine := by decide
    have hl12 := hF.len
    refine g_ret ?_
    unfold tDc
    refine g_itup ?_
    unfold tRevT
    walk_at "rd"
    refine ⟨p, C, dx, _, _, rfl, hp, Cl.cl, Cl.noN, look1, ?_⟩
    refine ⟨n, _, rfl, hn.sq, fun u nu => ?_⟩
    have e1 := Ext.new (o := HO.tup (ns.map V.int).reverse) nu
    have hu : SqT K (upd H u (HO.tup (ns.map V.int).reverse)) u (ns.map V.int).reverse := SqT.of upd_same
    have hk1 := hk.ext e1
    generalize upd H u (HO.tup (ns.map V.int).reverse) = H1 at e1 hu hk1
    refine ⟨u, rfl, ⟨_, hu⟩, fun D hD => dc_tup (xs := (ns.map V.int).reverse) (fun i H' => Ext H1 H' ∧ ∃ kvs, H' D = some (.dK kvs) ∧ kvs = (ns.reverse.take i).foldl (fun kvs x => putK kvs (Sum.inl x) (.int (ns.count x : Nat))) [] ∧ kvs.length ≤ i) ⟨Ext.new hD, [], upd_same, rfl, Nat.le_refl _⟩ (fun i H2 _ p => sqT_ext p.1 hu) (fun i x H2 hx q => ?_) (fun H2 q => ?_)⟩
    · obtain ⟨e, kvs, h1, h2, h3⟩ := q
      rw [← List.map_reverse, mapget] at hx
      obtain ⟨y, hy, rfl⟩ := Option.map_eq_some_iff.mp hx
      have hi := (List.getElem?_eq_some_iff.mp hy).1
      rw [List.length_reverse] at hi
      refine ⟨rfl, ?_⟩
      walk_at "rd"
      obtain ⟨⟨dx2, hp2⟩, hn2, _, _, _⟩ := hk1.ext e
      refine g_bmT ?_
      walk_at "rd"
      refine ⟨p, C, dx2, _, _, rfl, hp2, Cl.cl, Cl.noN, look1, ?_⟩
      refine ⟨⟨n, _, rfl, hn2⟩, ?_⟩
      walk_at "rd"
      refine ⟨n, ns, _, rfl, rfl, hn2.sq, ?_⟩
      refine ⟨kvs, Sum.inl y, rfl, h1, by omega, fun c o q => ?_, _, upd_same, ?_, Nat.le_trans (length_putK _ _ _) (by omega)⟩
      · rw [upd_ne (ne_of_none q hD)]
        exact e c o q
      · rw [List.take_add_one, hy, h2, List.foldl_append]
        rfl
    · obtain ⟨e, kvs, h1, h2, h3⟩ := q
      rw [List.length_reverse, List.length_map, List.take_of_length_le (by rw [List.length_reverse]; exact Nat.le_refl _)] at h2
      subst h2
      exact k _ D (Ext.trans e1 e) (none_ofX e1 hD) h1
end
end

/-! Texts of kinds. -/

section
open PySem PySem.Spec PyProof.Rows L2 Gd
theorem str_assoc (x y z : Str) : x ++ y ++ z = x ++ (y ++ z) := Str.append_assoc x y z
theorem str_len (x y : Str) : (x ++ y).length = x.length + y.length := Str.length_append x y
def numT (n : Int) : Str := Str.ofString (toString n)
/-- the text of a kind's numbers -/
def kindTx (ns : List Int) : Str := ((Str.empty ++ ("[" : Str)) ++ Txt.join (" " : Str) (ns.map numT)) ++ ("]" : Str)
theorem num_len : ∀ n : Nat, n < 300 → (numT (n : Int)).length ≤ 3 := by
  have h : ((List.range 300).all fun n => decide ((numT (n : Int)).length ≤ 3)) = true := by decide +kernel
  intro n hn
  exact of_decide_eq_true (List.all_eq_true.mp h n (List.mem_range.mpr hn))
theorem num_len' {n : Int} (h0 : 0 ≤ n) (h1 : n < 300) : (numT n).length ≤ 3 := by
  have := num_len n.toNat (by omega)
  rw [Int.toNat_of_nonneg h0] at this
  exact this
theorem nums_sum : ∀ {ns : List Int}, (∀ n ∈ ns, 0 ≤ n ∧ n < 300) → ((ns.map numT).map fun y : Str => y.length).sum ≤ ns.length * 3
  | [], _ => Nat.le_refl _
  | n :: ns, h => by
    have h1 := h n List.mem_cons_self
    have ih := nums_sum (ns := ns) fun m hm => h m (List.mem_cons_of_mem _ hm)
    have := num_len' h1.1 h1.2
    rw [List.map_cons, List.map_cons, List.sum_cons, List.length_cons]
    omega
theorem fall_num {ns : List Int} (h : Fall ns) : ∀ n ∈ ns, 0 ≤ n ∧ n < 300 := fun n hn => by
  have := h.pos n hn
  have := h.le n hn
  omega
theorem join_len {ns : List Int} (h : Fall ns) : (Txt.join (" " : Str) (ns.map numT)).length ≤ 60 := by
  have h1 := StrLaws.join_length_le (" " : Str) (ns.map numT)
  have h2 := nums_sum (fall_num h)
  have h3 := h.len
  have h4 : (" " : Str).length = 1 := by decide +kernel
  rw [h4, List.length_map] at h1
  have e : Txt.join (" " : Str) (ns.map numT) = Str.join (" " : Str) (ns.map numT) := StrLaws.glued_eq_join _ _
  rw [e]
  have : (Str.join (" " : Str) (ns.map numT)).length ≤ ((ns.map numT).map fun y : Str => y.length).sum + ns.length * 1 := h1
  omega
theorem kindTx_len {ns : List Int} (h : Fall ns) : (kindTx ns).length ≤ 62 := by
  unfold kindTx
  rw [str_len, str_len, str_len]
  have h1 := join_len h
  have h2 : ("[" : Str).length = 1 := by decide +kernel
  have h3 : ("]" : Str).length = 1 := by decide +kernel
  have h4 : Str.empty.length = 0 := by decide +kernel
  omega
section
variable {P : Program} {w : World} {K : PySem.W.Frag} {mg : Str → Option Value} {base : Heap} {f C : Addr} {fd : FuncData}
abbrev sFTx : Stmt := top 20
theorem scFTx : FnScope ["row", "words", "number"] ["row"] (defScope sFTx) := ⟨rfl, rfl, rfl, by decide +kernel, rfl, by decide +kernel, by decide +kernel⟩
def spFTx (K : PySem.W.Frag) : Sp := fun vs H Q _ => ∃ (a : Addr) (ns : List Int), vs = [.ref a] ∧ SqT K H a (ns.map V.int) ∧ Fall ns ∧ ∀ H', Ext H H' → Q (.str (kindTx ns)) H'
theorem ok_fTx (F : Fun K "falling_text" "falling_text" sFTx f fd) (T : Txt K mg) : FnOk P w K mg base CX0 1 f fd ["row"] (spFTx K) := by
  refine F.ok scFTx (fun vs H Q E h => ?_) (fun cdv A outer s H vs Q E hr h => ?_)
  · obtain ⟨a, ns, rfl, _⟩ := h
    rfl
  · obtain ⟨a, ns, rfl, hs, hF, k⟩ := h
    refine ⟨_, pss_cons (ps_set (i := 1) scFTx.nd rfl (Or.inl rfl) (pe_bm PySem.F.plainAttrs_str PySem.F.slot_str_join PySem.F.type_str_join mt_join (pe_str) (pa_cons (pe_lc (own := [("number", 2)]) (g := gName 2) (tt := tYes) rfl scFTx.nd (pi_tup (pv 0)) (blkOk_by (N := ["row", "words", "number"]) (sc := defScope sFTx) (by decide +kernel)) (fun _ _ _ _ _ => pg_name (i := 2) scFTx.nd rfl (Or.inl rfl)) (fun _ _ _ _ _ => pts_nil) (fun _ _ _ _ _ => by exact (pe_callTy (T := "str") (r := fun xs H Q => ∃ i : Int, xs = [.int i] ∧ i.natAbs.log2 < 1920 ∧ Q (.str (numT i)) H) call_str_int (by rfl) T.str (by decide +kernel) (pa_cons (pv 2) pa_nil)))) pa_nil)))
      (pss_one (ps_ret (pe_joined (PJ.cons pe_str (PJ.cons (pe_fmt (pv 1)) (PJ.cons pe_str PJ.nil)))))), ?_⟩
    try dsimp only [cx_nox, cx_K]
    walk_at "rd"
    refine ⟨rfl, ?_⟩
    refine g_cons ?_
    refine g_lc (g_itup ?_)
    walk_at "rd"
    have hl := hF.len
    refine lcT hs (small (by rw [List.length_map]; omega)) (fun _ => true) (fun v => match v with | .int n => .str (numT n) | y => y) (fun x H1 hx e1 Qe Qn he hn => ?_) (fun H1 D e1 hD hd => ?_)
    · obtain ⟨n, hn0, rfl⟩ := List.mem_map.mp hx
      have h0 := fall_num hF n hn0
      refine ⟨rfl, ?_⟩
      walk_at "rd"
      refine ⟨?_, he _ (fun _ _ z => z) rfl⟩
      have : n.natAbs.log2 ≤ n.natAbs := Nat.log2_le_self _
      omega
    · rw [List.filter_eq_self.mpr (fun _ _ => rfl), List.map_map] at hd
      walk_at "rd"
      have hd' : H1 D = some (.lst ((ns.map numT).map V.str)) := by
        rw [hd, List.map_map]
        rfl
      have h4 : (" " : Str).length = 1 := by decide +kernel
      have h2 := nums_sum (fall_num hF)
      refine ⟨_, D, ns.map numT, rfl, rfl, .inl (SqL.of hd'), by rw [List.length_map, h4]; omega, ?_⟩
      walk_at "rd"
      have hj := join_len hF
      have hk := kindTx_len hF
      have hz : (62 : Nat) ≤ sizeLine := by decide
      unfold tJs
      walk_at "rd"
      refine ⟨_, rfl, ?_, ?_⟩
      · have : (Str.empty ++ ("[" : Str)).length = 1 := by decide +kernel
        omega
      unfold tJs tFmt
      walk_at "rd"
      refine .inl ⟨_, rfl, by omega, _, rfl, ?_, ?_⟩
      · rw [str_len]
        have : (Str.empty ++ ("[" : Str)).length = 1 := by decide +kernel
        omega
      unfold tJs
      walk_at "rd"
      refine ⟨_, rfl, ?_, ?_⟩
      · show (kindTx ns).length ≤ sizeLine
        omega
      unfold tJs
      exact k _ e1
theorem scKSt : FnScope ["self"] ["self"] (defScope (cls 21)) := ⟨rfl, rfl, rfl, by decide +kernel, rfl, by decide +kernel, by decide +kernel⟩
def spKSt (K : PySem.W.Frag) (C : Addr) : Sp := fun vs H Q _ => ∃ (p n t m : Addr) (ns : List Int), vs = [.ref p] ∧ KindAt K C H p n t m ns ∧ ∀ H', Ext H H' → Q (.str (kindTx ns)) H'
theorem ok_kstr (F : Fun K "__str__" "Kind.__str__" (cls 21) f fd) (T : Txt K mg) (Cl : KC K mg C) (Ft : Def1 P w K mg base CX0 1 "falling_text" ["row"] (spFTx K)) : FnOk P w K mg base CX0 2 f fd ["self"] (spKSt K C) := by
  refine F.ok scKSt (fun vs H Q E h => ?_) (fun cdv A outer s H vs Q E hr h => ?_)
  · obtain ⟨p, n, t, m, ns, rfl, _⟩ := h
    rfl
  · obtain ⟨p, n, t, m, ns, rfl, hp, k⟩ := h
    obtain ⟨dx, hpi⟩ := id hp.ins
    refine ⟨_, pss_one (ps_ret (pe_callTy SkE.call_str_str (by rfl) T.str (by decide +kernel) (pa_cons (pe_def Ft hr (by decide) (by rfl) (pa_cons (pe_fld (pv 0) rfl) pa_nil)) pa_nil))), ?_⟩
    try dsimp only [cx_nox, cx_K]
    walk_at "rd"
    refine ⟨p, C, dx, _, _, rfl, hpi, Cl.cl, Cl.noN, look1, ?_⟩
    walk_at "rd"
    refine ⟨n, ns, rfl, hp.num.sq, hp.fall, fun H1 e1 => ?_⟩
    walk_at "rd"
    exact ⟨_, rfl, k H1 e1⟩
end
end

/-! The law's slant and texts. -/

section
open PySem PySem.Spec PyProof.Rows L2 Gd TL
theorem g_catT6 {K : PySem.W.Frag} {H : Hp} {Q : VK} {a b : Addr} {xs ys : List V} (h1 : SqT K H a xs) (h2 : SqT K H b ys) (hz : xs.length + ys.length ≤ sizeLine) (k : ∀ H' p, Ext H H' → SqT K H' p (xs ++ ys) → Q (.ref p) H') : rCatA K (.ref a) (.ref b) H Q := by
  refine ⟨a, b, xs, ys, rfl, rfl, h1, h2, hz, fun z => ?_, fun _ z => ?_, fun _ _ p hp => k _ p (Ext.new hp) (SqT.of upd_same)⟩
  · subst z
    exact k H b (fun _ _ q => q) h2
  · subst z
    exact k H a (fun _ _ q => q) (by rw [List.append_nil]; exact h1)
section
variable {P : Program} {w : World} {K : PySem.W.Frag} {mg : Str → Option Value} {base : Heap} {f : Addr} {fd : FuncData}
abbrev sLSl : Stmt := top 34
theorem scLSl : FnScope ["_law_kind_here", "_law_at", "_law_number"] ["_law_kind_here"] (defScope sLSl) := ⟨rfl, rfl, rfl, by decide +kernel, rfl, by decide +kernel, by decide +kernel⟩
theorem ok_lslant (F : Fun K "_law_slant" "_law_slant" sLSl f fd) (T : Txt K mg) : FnOk P w K mg base CX0 1 f fd ["_law_kind_here"] (spSlant K) := by
  refine F.ok scLSl (fun vs H Q E h => ?_) (fun cdv A outer s H vs Q E hr h => ?_)
  · obtain ⟨a, ns, rfl, _⟩ := h
    rfl
  · obtain ⟨a, ns, rfl, hs, hF, k⟩ := h
    refine ⟨_, pss_one (ps_ret (pe_callB (call_sumS rfl) (by rfl) T.sum (by decide +kernel) (pa_cons (pe_lc (own := [("_law_at", 1), ("_law_number", 2)]) (g := gTup K 2 (gCons (gName 1) (gCons (gName 2) gNil))) (tt := tYes) rfl scLSl.nd (pi_enumT (by rfl) T.enumerate (pa_cons (pv 0) pa_nil)) (blkOk_by (N := ["_law_kind_here", "_law_at", "_law_number"]) (sc := defScope sLSl) (by decide +kernel)) (fun _ _ _ _ _ => pg_tup rfl (pgs_cons (pg_name (i := 1) scLSl.nd rfl (Or.inl rfl)) (pgs_cons (pg_name (i := 2) scLSl.nd rfl (Or.inl rfl)) pgs_nil))) (fun _ _ _ _ _ => pts_nil) (fun _ _ _ _ _ => by exact (pe_op op_mul (pv 1) (pv 2)))) pa_nil))), ?_⟩
    try dsimp only [cx_nox, cx_K]
    have hlen := hF.len
    walk_at "rd"
    refine g_lc ?_
    unfold iEnumT
    walk_at "rd"
    refine lcE hs (small (by rw [List.length_map]; omega)) (fun _ _ => true) mulV (fun i x H' hx e Qe Qn he hn => ?_) (fun H' D e hD hd => ?_)
    · rw [mapget] at hx
      obtain ⟨n, hn', rfl⟩ := Option.map_eq_some_iff.mp hx
      refine ⟨rfl, ?_⟩
      walk_at "rd"
      have b1 := hF.pos _ (List.mem_of_getElem? hn')
      have b2 := hF.le _ (List.mem_of_getElem? hn')
      have b3 := (List.getElem?_eq_some_iff.mp hn').1
      refine g_I (mulS (by omega) (by omega) (by omega) (by omega)) ?_
      exact he _ (fun _ _ z => z) rfl
    · rw [List.length_map, slant_map] at hd
      walk_at "rd"
      exact ⟨D, _, rfl, .inl (SqL.of hd), k H' e⟩
abbrev sLTx : Stmt := top 35
theorem scLTx : FnScope ["_law_kind_here", "_law_number"] ["_law_kind_here"] (defScope sLTx) := ⟨rfl, rfl, rfl, by decide +kernel, rfl, by decide +kernel, by decide +kernel⟩
theorem ok_ltx (F : Fun K "_law_kind_text" "_law_kind_text" sLTx f fd) (T : Txt K mg) : FnOk P w K mg base CX0 1 f fd ["_law_kind_here"] (spFTx K) := by
  refine F.ok scLTx (fun vs H Q E h => ?_) (fun cdv A outer s H vs Q E hr h => ?_)
  · obtain ⟨a, ns, rfl, _⟩ := h
    rfl
  · obtain ⟨a, ns, rfl, hs, hF, k⟩ := h
    refine ⟨_, pss_one (ps_ret (pe_op op_add_str (pe_op op_add_str pe_str (pe_bm PySem.F.plainAttrs_str PySem.F.slot_str_join PySem.F.type_str_join mt_join (pe_str) (pa_cons (pe_lc (own := [("_law_number", 1)]) (g := gName 1) (tt := tYes) rfl scLTx.nd (pi_tup (pv 0)) (blkOk_by (N := ["_law_kind_here", "_law_number"]) (sc := defScope sLTx) (by decide +kernel)) (fun _ _ _ _ _ => pg_name (i := 1) scLTx.nd rfl (Or.inl rfl)) (fun _ _ _ _ _ => pts_nil) (fun _ _ _ _ _ => by exact (pe_callTy (T := "str") (r := fun xs H Q => ∃ i : Int, xs = [V.int i] ∧ i.natAbs.log2 < 1920 ∧ Q (.str (Str.ofString (toString i))) H) call_str_int (by rfl) T.str (by decide +kernel) (pa_cons (pv 1) pa_nil)))) pa_nil))) pe_str)), ?_⟩
    try dsimp only [cx_nox, cx_K]
    walk_at "rd"
    refine ⟨rfl, ?_⟩
    refine g_cons ?_
    refine g_lc (g_itup ?_)
    walk_at "rd"
    have hl := hF.len
    refine lcT hs (small (by rw [List.length_map]; omega)) (fun _ => true) (fun v => match v with | .int n => .str (numT n) | y => y) (fun x H1 hx e1 Qe Qn he hn => ?_) (fun H1 D e1 hD hd => ?_)
    · obtain ⟨n, hn0, rfl⟩ := List.mem_map.mp hx
      have h0 := fall_num hF n hn0
      refine ⟨rfl, ?_⟩
      walk_at "rd"
      refine ⟨?_, he _ (fun _ _ z => z) rfl⟩
      have : n.natAbs.log2 ≤ n.natAbs := Nat.log2_le_self _
      omega
    · rw [List.filter_eq_self.mpr (fun _ _ => rfl), List.map_map] at hd
      walk_at "rd"
      have hd' : H1 D = some (.lst ((ns.map numT).map V.str)) := by
        rw [hd, List.map_map]
        rfl
      have h4 : (" " : Str).length = 1 := by decide +kernel
      have h2 := nums_sum (fall_num hF)
      refine ⟨_, D, ns.map numT, rfl, rfl, .inl (SqL.of hd'), by rw [List.length_map, h4]; omega, ?_⟩
      walk_at "rd"
      have hj := join_len hF
      have l1 : ("[" : Str).length = 1 := by decide +kernel
      have l2 : ("]" : Str).length = 1 := by decide +kernel
      have hz : (100 : Nat) ≤ sizeLine := by decide
      refine ⟨_, _, rfl, rfl, by rw [l1]; omega, ?_⟩
      walk_at "rd"
      refine ⟨_, _, rfl, rfl, by rw [str_len, l1, l2]; omega, ?_⟩
      have e : ("[" : Str) ++ Txt.join (" " : Str) (ns.map numT) ++ ("]" : Str) = kindTx ns := by
        refine ext_tl ?_
        unfold kindTx
        have e0 : tl Str.empty = [] := by decide +kernel
        simp only [tl_append, e0, List.nil_append]
      rw [e]
      exact k _ e1
/-! ### the law's turned row -/
abbrev sLTu : Stmt := top 33
theorem scLTu : FnScope ["_law_kind_here", "_law_at", "_law_number"] ["_law_kind_here"] (defScope sLTu) := ⟨rfl, rfl, rfl, by decide +kernel, rfl, by decide +kernel, by decide +kernel⟩
def spLTu (K : PySem.W.Frag) : Sp := fun vs H Q _ => ∃ (a : Addr) (ns : List Int), vs = [.ref a] ∧ SqT K H a (ns.map V.int) ∧ Fall ns ∧ ∀ H' u, Ext H H' → SqT K H' u ((turnM ns).map V.int) → Q (.ref u) H'
theorem ok_lturned (F : Fun K "_law_turned" "_law_turned" sLTu f fd) (T : Txt K mg) : FnOk P w K mg base CX0 1 f fd ["_law_kind_here"] (spLTu K) := by
  refine F.ok scLTu (fun vs H Q E h => ?_) (fun cdv A outer s H vs Q E hr h => ?_)
  · obtain ⟨a, ns, rfl, _⟩ := h
    rfl
  · obtain ⟨a, ns, rfl, hs, hF, k⟩ := h
    refine ⟨_, pss_one (ps_ret (pe_callTy call_tuple_of (by rfl) T.tuple (by decide +kernel) (pa_cons (pe_lc (own := [("_law_at", 1)]) (g := gName 1) (tt := tYes) rfl scLTu.nd (pi_range1 (by rfl) T.range (pa_cons (pe_callB (cr_maxT rfl) (by rfl) T.max (by decide +kernel) (pa_cons (pe_op op_catA (pe_tup (pa_cons pe_int pa_nil)) (pv 0)) pa_nil)) pa_nil)) (blkOk_by (N := ["_law_kind_here", "_law_at", "_law_number"]) (sc := defScope sLTu) (by decide +kernel)) (fun _ _ _ _ _ => pg_name (i := 1) scLTu.nd rfl (Or.inr rfl)) (fun _ _ _ _ _ => pts_nil) (fun _ _ _ _ _ => by exact (pe_callB (r := rLenS K) call_len_seq (by rfl) T.len PySem.boot_len (pa_cons (pe_lc (own := [("_law_number", 2)]) (wi := iTup K (tVar 0)) (g := gName 2) rfl scLTu.nd (by exact (pi_tup (pv 0))) (blkOk_by (N := ["_law_kind_here", "_law_at", "_law_number"]) (sc := { kind := .function, names := [((".0" : Str), .local), ("_law_at", .cell), ("len", .globalImplicit), ("_law_kind_here", .cell)], isGenerator := false, isCoroutine := false, more := [] }) (by decide +kernel)) (fun _ _ _ _ _ => pg_name (i := 2) scLTu.nd rfl (Or.inl rfl)) (fun _ _ _ _ _ => pts_one (pt_cmpR op_gt (pv 2) (pv 1) (nomark _))) (fun _ _ _ _ _ => by exact (pv 2))) pa_nil)))) pa_nil))), ?_⟩
    try dsimp only [cx_nox, cx_K]
    walk_at "rd"
    refine g_lc (g_rng1 ?_)
    have hl := hF.len
    have sz : (100000 : Nat) < sizeLine := by decide
    refine ⟨by show 1 ≤ sizeLine; omega, fun p hp => ?_⟩
    have e1 := Ext.new (o := HO.tup [V.int 0]) hp
    have hs1 := sqT_ext e1 hs
    have hp1 : SqT K (upd H p (HO.tup [V.int 0])) p [V.int 0] := SqT.of upd_same
    generalize upd H p (HO.tup [V.int 0]) = H1 at e1 hs1 hp1
    walk_at "rd"
    refine g_catT6 hp1 hs1 (by rw [List.length_map]; simp; omega) fun H2 q e2 hq => ?_
    walk_at "rd"
    refine ⟨q, 0 :: ns, rfl, hq, by simp, fun m hm hmax => ?_⟩
    have hm0 : m = ns.getD 0 0 := by
      have h0 := (hF.at 0).1
      have a1 : ns.getD 0 0 ≤ m := by
        cases ns with
        | nil => exact hmax 0 (by simp)
        | cons x r => exact hmax x (by simp)
      rcases List.mem_cons.mp hm with z | z
      · omega
      · have := hF.head m z
        omega
    subst hm0
    have hm2 := hF.at 0
    walk_at "rd"
    refine ⟨by omega, by omega, ?_⟩
    have hs2 := sqT_ext e2 hs1
    have e12 := Ext.trans e1 e2
    refine lcR (small (by omega)) (fun _ => true) (fun i => .int ((ns.filter fun x => decide ((i : Int) < x)).length : Int)) (fun i H' hi e Qe Qn he hn => ?_) (fun H' D e hD hd => ?_)
    · walk_at "rd"
      refine ⟨rfl, ?_⟩
      walk_at "rd"
      refine g_lc (g_itup ?_)
      walk_at "rd"
      refine lcT (sqT_ext e hs2) (small (by rw [List.length_map]; omega)) (gtI i) id (fun x H2 hx e2 Qe2 Qn2 he2 hn2 => ?_) (fun H2 D2 e2 hD2 hd2 => ?_)
      · obtain ⟨n, hn, rfl⟩ := List.mem_map.mp hx
        walk_at "rd"
        refine ⟨rfl, ?_⟩
        walk_at "rd"
        refine ite2 (fun h1 => ?_) (fun h1 => ?_)
        · walk_at "rd"
          exact he2 _ (fun _ _ z => z) (by show decide _ = true; simpa using h1)
        · refine hn2 _ (fun _ _ z => z) (by show decide _ = false; simpa using h1)
      · walk_at "rd"
        refine ⟨D2, _, rfl, .inl (SqL.of hd2), ?_⟩
        walk_at "rd"
        rw [List.length_map, filter_gtI]
        exact he _ e2 rfl
    · walk_at "rd"
      rw [idx_all] at hd
      refine ⟨D, _, rfl, .inl ⟨SqL.of hd, fun l hl => ?_⟩⟩
      refine k _ l (Ext.trans e12 (Ext.trans e (Ext.new hl))) ?_
      unfold turnM
      rw [List.map_map]
      exact SqT.of upd_same
end
end

/-! The law's key of a kind; all its kinds. -/

section
open PySem PySem.Spec PyProof.Rows L2 Gd
section
variable {P : Program} {w : World} {K : PySem.W.Frag} {mg : Str → Option Value} {base : Heap} {f : Addr} {fd : FuncData}
abbrev sKey : Stmt := top 36
theorem scKey : FnScope ["_law_kind_here", "_law_number"] ["_law_kind_here"] (defScope sKey) := ⟨rfl, rfl, rfl, by decide +kernel, rfl, by decide +kernel, by decide +kernel⟩
def spKey (K : PySem.W.Frag) : Sp := fun vs H Q _ => ∃ (a : Addr) (ns : List Int), vs = [.ref a] ∧ SqT K H a (ns.map V.int) ∧ Fall ns ∧ ∀ H' b q, Ext H H' → SqT K H' b [.int ns.sum, .ref q] → SqT K H' q ((ns.map fun x => -x).map V.int) → Q (.ref b) H'
theorem ok_key (F : Fun K "_law_kind_key" "_law_kind_key" sKey f fd) (T : Txt K mg) : FnOk P w K mg base CX0 1 f fd ["_law_kind_here"] (spKey K) := by
  refine F.ok scKey (fun vs H Q E h => ?_) (fun cdv A outer s H vs Q E hr h => ?_)
  · obtain ⟨a, ns, rfl, _⟩ := h
    rfl
  · obtain ⟨a, ns, rfl, hs, hF, k⟩ := h
    refine ⟨_, pss_one (ps_ret (pe_tup (pa_cons (pe_callB (call_sumS rfl) (by rfl) T.sum (by decide +kernel) (pa_cons (pv 0) pa_nil)) (pa_cons (pe_callTy call_tuple_of (by rfl) T.tuple (by decide +kernel) (pa_cons (pe_lc (own := [("_law_number", 1)]) (g := gName 1) (tt := tYes) rfl scKey.nd (pi_tup (pv 0)) (blkOk_by (N := ["_law_kind_here", "_law_number"]) (sc := defScope sKey) (by decide +kernel)) (fun _ _ _ _ _ => pg_name (i := 1) scKey.nd rfl (Or.inl rfl)) (fun _ _ _ _ _ => pts_nil) (fun _ _ _ _ _ => by exact (pe_op op_sub pe_int (pv 1)))) pa_nil)) pa_nil)))), ?_⟩
    try dsimp only [cx_nox, cx_K]
    have hlen := hF.len
    walk_at "rd"
    refine ⟨a, ns, rfl, .inr hs, ?_⟩
    walk_at "rd"
    refine g_lc (g_itup ?_)
    walk_at "rd"
    refine lcT hs (small (by rw [List.length_map]; omega)) (fun _ => true) negV (fun x H' hx e Qe Qn he hn => ?_) (fun H3 D e3 hD hd => ?_)
    · obtain ⟨n, hn', rfl⟩ := List.mem_map.mp hx
      refine ⟨rfl, ?_⟩
      walk_at "rd"
      have := he _ (fun _ _ z => z) rfl
      rw [show (0 : Int) - n = -n by omega]
      exact this
    · walk_at "rd"
      rw [List.filter_eq_self.mpr (fun _ _ => rfl), List.map_map] at hd
      refine ⟨D, _, rfl, .inl ⟨SqL.of hd, fun l hl => ?_⟩⟩
      walk_at "rd"
      refine ⟨by show 2 ≤ sizeLine; decide, fun t ht => ?_⟩
      have el := Ext.new (o := HO.tup (ns.map (negV ∘ V.int))) hl
      have et := Ext.new (o := HO.tup [V.int ns.sum, V.ref l]) ht
      refine k _ t l (Ext.trans e3 (Ext.trans el et)) (SqT.of upd_same) (sqT_ext et ?_)
      rw [List.map_map]
      exact SqT.of upd_same
/-! ### all kinds -/
def everyM (n : Nat) : List (List Int) := (List.range n).flatMap fun i => rows i i
theorem every_succ (n : Nat) : everyM (n + 1) = everyM n ++ rows n n := by
  unfold everyM
  rw [List.range_succ, List.flatMap_append]
  simp
theorem every_len : ∀ n, n < 14 → (everyM n).length ≤ 300 := by decide +kernel
theorem every_mem {ns : List Int} : ns ∈ everyM 13 ↔ Fall ns := by
  unfold everyM
  rw [List.mem_flatMap]
  constructor
  · rintro ⟨i, hi, h⟩
    exact (rows_fall (by have := List.mem_range.mp hi; omega) h).1
  · intro h
    have h0 := h.sum0
    have hs := h.sum
    exact ⟨ns.sum.toNat, List.mem_range.mpr (by omega), fall_in h (by omega)⟩
abbrev sEvery : Stmt := top 37
theorem scEvery : FnScope ["_law_most", "_law_found", "_law_size"] ["_law_most"] (defScope sEvery) := ⟨rfl, rfl, rfl, by decide +kernel, rfl, by decide +kernel, by decide +kernel⟩
def spEvery (K : PySem.W.Frag) : Sp := fun vs H Q _ => vs = [.int 12] ∧ ∀ H' Fa fs, Ext H H' → H' Fa = some (.lst fs) → RXs K H' fs (everyM 13) → Q (.ref Fa) H'
theorem ok_every (F : Fun K "_law_every_kind" "_law_every_kind" sEvery f fd) (T : Txt K mg) (Ks : Def1 P w K mg base CX0 1 "_law_kinds" ["_law_size"] (spKindsO K)) : FnOk P w K mg base CX0 2 f fd ["_law_most"] (spEvery K) := by
  refine F.ok scEvery (fun vs H Q E h => ?_) (fun cdv A outer s H vs Q E hr h => ?_)
  · obtain ⟨rfl, _⟩ := h
    rfl
  · obtain ⟨rfl, k⟩ := h
    refine ⟨_, pss_cons (ps_set (i := 1) scEvery.nd rfl (Or.inl rfl) (pe_lst pa_nil))
      (pss_cons (ps_for PassesOwn.never rfl (pi_range1 (by rfl) T.range (pa_cons (pe_op op_add (pv 0) pe_int) pa_nil)) (pg_name (i := 2) scEvery.nd rfl (Or.inl rfl)) (pss_one (ps_set (i := 1) scEvery.nd rfl (Or.inl rfl) (pe_op op_cat (pv 1) (pe_def Ks hr (by decide) (by rfl) (pa_cons (pv 2) pa_nil))))))
      (pss_one (ps_ret (pv 1)))), ?_⟩
    try dsimp only [cx_nox, cx_K]
    walk_at "rd"
    refine ⟨Nat.zero_le _, fun Fa hFa => ?_⟩
    walk_at "rd"
    refine g_forR ?_
    walk_at "rd"
    refine ⟨by decide, by decide, ?_⟩
    refine for_range (fun i σ H' => ∃ (x : Option V) (b : Addr) (fs : List V), σ = [some (.int 12), some (.ref b), x] ∧ H' b = some (.lst fs) ∧ RXs K H' fs (everyM i) ∧ Ext H H') ⟨_, Fa, [], rfl, upd_same, .nil, Ext.new hFa⟩ ?_ ?_
    · rintro i σ H2 hi ⟨x, b, fs, rfl, hb, hf, e⟩
      have hi13 : i < 13 := by simpa using hi
      walk_at "rd"
      have hi0 : (0 : Int) + (i : Int) = (i : Int) := by omega
      rw [hi0]
      refine ⟨i, rfl, by omega, fun H3 G gs e3 hG0 hG hg => ?_⟩
      walk_at "rd"
      have hl1 := pair_len hf
      have hl2 := pair_len hg
      have hl := every_len (i + 1) (by omega)
      rw [every_succ, List.length_append] at hl
      have sz : (100000 : Nat) < sizeLine := by decide
      refine ⟨b, G, fs, gs, rfl, rfl, e3 _ _ hb, hG, by omega, fun p hp => ?_⟩
      have ep := Ext.new (o := HO.lst (fs ++ gs)) hp
      refine ⟨_, p, fs ++ gs, rfl, upd_same, ?_, Ext.trans e (Ext.trans e3 ep)⟩
      rw [every_succ]
      exact pair_append (rxs_ext (Ext.trans e3 ep) hf) (rxs_ext ep hg)
    · rintro σ H2 ⟨x, b, fs, rfl, hb, hf, e⟩
      walk_at "rd"
      exact k H2 b fs e hb hf
end
end

/-! Reading the text of a kind: where a text stops to be the start of one (mathematics). -/
section
open PySem PySem.Spec PyProof.Rows L2 Gd TL
/-- the digits of a number -/
def nl (n : Int) : List Nat := numL n.toNat
/-- the text of a kind, as code points -/
def txL (ns : List Int) : List Nat := 91 :: (joinL [32] (ns.map nl) ++ [93])
def sp (ns : List Int) : List Nat := ns.flatMap fun n => nl n ++ [32]
theorem join_snoc : ∀ (ns : List Int) (k : Int), joinL [32] ((ns ++ [k]).map nl) = sp ns ++ nl k
  | [], k => rfl
  | [a], k => by
    show nl a ++ ([32] ++ nl k) = _
    simp [sp]
  | a :: b :: r, k => by
    show nl a ++ ([32] ++ joinL [32] ((b :: r ++ [k]).map nl)) = _
    rw [join_snoc (b :: r) k]
    simp [sp]
theorem sp_snoc (ns : List Int) (k : Int) : sp (ns ++ [k]) = sp ns ++ (nl k ++ [32]) := by simp [sp]
theorem tx_snoc (ns : List Int) (k : Int) : txL (ns ++ [k]) = 91 :: (sp ns ++ nl k ++ [93]) := by
  unfold txL
  rw [join_snoc]
/-- what find in the digits tells -/
def dig (c : Nat) : Int := if 48 ≤ c ∧ c ≤ 57 then (c : Int) - 48 else -1
theorem dig_pos {c : Nat} (h : 0 ≤ dig c) : 48 ≤ c ∧ c ≤ 57 ∧ dig c = (c : Int) - 48 := by
  unfold dig at h ⊢
  split at h
  · rename_i z
    rw [if_pos z]
    exact ⟨z.1, z.2, rfl⟩
  · omega
/-- the program's loop behind the first sign; first: nothing was read yet -/
def brkL : Int → Int → Int → Bool → List Nat → Nat → Option Nat
  | _, _, _, _, [], i => some i
  | left, limit, number, first, c :: r, i =>
    if 0 ≤ dig c then (if 10 * number + dig c = 0 ∨ limit < 10 * number + dig c then some i else brkL left limit (10 * number + dig c) false r (i + 1))
    else if c = 32 ∧ 0 < number ∧ number < left then brkL (left - number) (if number < left - number then number else left - number) 0 false r (i + 1)
    else if c = 93 ∧ (0 < number ∨ first = true) then (if r = [] then none else some (i + 1))
    else some i
def brkT : List Nat → Option Nat
  | [] => some 0
  | c :: r => if c = 91 then brkL 12 12 0 true r 1 else some 0
def pend (number : Int) : List Nat := if number = 0 then [] else nl number
theorem pend_pos {n : Int} (h : n ≠ 0) : pend n = nl n := if_neg h
theorem pend_zero : pend 0 = [] := rfl
theorem nl_step {number d : Int} (h0 : 0 ≤ number) (h1 : number ≤ 12) (d0 : 0 ≤ d) (d1 : d ≤ 9) (n0 : 10 * number + d ≠ 0) : nl (10 * number + d) = pend number ++ [48 + d.toNat] := by
  have e : (10 * number + d).toNat = 10 * number.toNat + d.toNat := by omega
  unfold nl
  rw [e]
  by_cases z : number = 0
  · subst z
    have : 10 * (0 : Int).toNat + d.toNat = d.toNat := by simp
    rw [this, numL_lt (by omega), pend_zero]
    rfl
  · rw [pend_pos z, numL_step (by omega), show (10 * number.toNat + d.toNat) / 10 = number.toNat by omega, show (10 * number.toNat + d.toNat) % 10 = d.toNat by omega]
    rfl
/-- what was read so far -/
structure Inv6 (left limit number : Int) (first : Bool) (pre : List Nat) (done : List Int) : Prop where
  text : pre = 91 :: (sp done ++ pend number)
  next : ∀ k, 1 ≤ k → k ≤ limit → Fall (done ++ [k])
  lim : 1 ≤ limit
  num : 0 ≤ number ∧ number ≤ limit
  lft : left = 12 - done.sum
  frs : first = true → done = [] ∧ number = 0
section
variable {left limit number : Int} {first : Bool} {pre : List Nat} {done : List Int}
theorem Inv6.lim12 (h : Inv6 left limit number first pre done) : limit ≤ 12 := (h.next limit h.lim (Int.le_refl _)).le limit (by simp)
theorem Inv6.fall (h : Inv6 left limit number first pre done) (n : 0 < number) : Fall (done ++ [number]) := h.next number (by omega) h.num.2
/-- what was read is the start of a text -/
theorem Inv6.start (h : Inv6 left limit number first pre done) : ∃ ns, Fall ns ∧ ∃ r, txL ns = pre ++ r := by
  by_cases z : number = 0
  · subst z
    refine ⟨done ++ [1], h.next 1 (by decide) h.lim, nl 1 ++ [93], ?_⟩
    rw [tx_snoc, h.text, pend_zero]
    simp
  · have hn := h.num.1
    refine ⟨done ++ [number], h.fall (by omega), [93], ?_⟩
    rw [tx_snoc, h.text, pend_pos z]
    simp
theorem Inv6.close (h : Inv6 left limit number first pre done) (c : 0 < number ∨ first = true) : ∃ ns, Fall ns ∧ txL ns = pre ++ [93] := by
  by_cases z : number = 0
  · obtain ⟨rfl, _⟩ := h.frs (c.resolve_left (by omega))
    subst z
    refine ⟨[], fall_nil, ?_⟩
    rw [h.text]
    rfl
  · have hn := h.num.1
    refine ⟨done ++ [number], h.fall (by omega), ?_⟩
    rw [tx_snoc, h.text, pend_pos z]
    simp
theorem Inv6.digit (h : Inv6 left limit number first pre done) {c : Nat} (d : 0 ≤ dig c) (k : ¬ (10 * number + dig c = 0 ∨ limit < 10 * number + dig c)) : Inv6 left limit (10 * number + dig c) false (pre ++ [c]) done := by
  obtain ⟨c1, c2, e⟩ := dig_pos d
  have hl := h.lim12
  have hn := h.num
  refine ⟨?_, h.next, h.lim, by omega, h.lft, fun z => by cases z⟩
  have nz : 10 * number + dig c ≠ 0 := fun z => k (.inl z)
  rw [h.text, pend_pos nz, nl_step hn.1 (by omega) d (by omega) nz]
  have : 48 + (dig c).toNat = c := by omega
  rw [this]
  simp
theorem Inv6.space (h : Inv6 left limit number first pre done) (n0 : 0 < number) (n1 : number < left) : Inv6 (left - number) (if number < left - number then number else left - number) 0 false (pre ++ [32]) (done ++ [number]) := by
  have hF := h.fall n0
  have hs : (done ++ [number]).sum = done.sum + number := by simp
  have hl := h.lft
  have hm : (if number < left - number then number else left - number) ≤ number ∧ (if number < left - number then number else left - number) ≤ left - number ∧ 1 ≤ (if number < left - number then number else left - number) := by
    split <;> omega
  refine ⟨?_, fun k k1 k2 => fall_snoc hF k1 (by omega) (fun _ => ?_), hm.2.2, ⟨Int.le_refl _, by omega⟩, by omega, fun z => by cases z⟩
  · rw [h.text, sp_snoc, pend_pos (by omega), pend_zero]
    simp
  · rw [List.length_append, List.length_singleton, Nat.add_sub_cancel, List.getD_eq_getElem?_getD, List.getElem?_append_right (Nat.le_refl _), Nat.sub_self]
    show k ≤ number
    omega
end
theorem take_of {w pre l r : List Nat} (e : w = pre ++ r) : w.take pre.length = (pre ++ l).take pre.length := by rw [e, List.take_left, List.take_left]
/-- what the loop tells is right -/
theorem brk_sound : ∀ (l : List Nat) {left limit number : Int} {first : Bool} {pre : List Nat} {done : List Int}, Inv6 left limit number first pre done →
    (brkL left limit number first l pre.length = none → ∃ ns, Fall ns ∧ txL ns = pre ++ l) ∧ ∀ j, brkL left limit number first l pre.length = some j → j ≤ pre.length + l.length ∧ ∃ ns, Fall ns ∧ (txL ns).take j = (pre ++ l).take j
  | [], left, limit, number, first, pre, done, h => by
    refine ⟨fun z => by simp [brkL] at z, fun j z => ?_⟩
    have : pre.length = j := by simpa [brkL] using z
    subst this
    obtain ⟨ns, hF, r, e⟩ := h.start
    exact ⟨by simp, ns, hF, take_of e⟩
  | c :: l, left, limit, number, first, pre, done, h => by
    have stop : ∀ j, some pre.length = some j → j ≤ pre.length + (c :: l).length ∧ ∃ ns, Fall ns ∧ (txL ns).take j = (pre ++ c :: l).take j := fun j z => by
      cases z
      obtain ⟨ns, hF, r, e⟩ := h.start
      exact ⟨by omega, ns, hF, take_of e⟩
    have go : ∀ {left limit number : Int} {first : Bool} {done : List Int}, Inv6 left limit number first (pre ++ [c]) done → (brkL left limit number first l (pre.length + 1) = none → ∃ ns, Fall ns ∧ txL ns = pre ++ c :: l) ∧ ∀ j, brkL left limit number first l (pre.length + 1) = some j → j ≤ pre.length + (c :: l).length ∧ ∃ ns, Fall ns ∧ (txL ns).take j = (pre ++ c :: l).take j := fun {_ _ _ _ _} h' => by
      have := brk_sound l h'
      rw [List.length_append, List.length_singleton, List.append_assoc] at this
      exact ⟨this.1, fun j z => ⟨by have := (this.2 j z).1; rw [List.length_cons]; omega, (this.2 j z).2⟩⟩
    unfold brkL
    split
    · rename_i d
      split
      · exact ⟨fun z => (by cases z), stop⟩
      · rename_i k
        exact go (h.digit d k)
    · split
      · rename_i k
        obtain ⟨rfl, n0, n1⟩ := k
        exact go (h.space n0 n1)
      · split
        · rename_i k
          obtain ⟨rfl, k⟩ := k
          obtain ⟨ns, hF, e⟩ := h.close k
          split
          · rename_i z
            subst z
            exact ⟨fun _ => ⟨ns, hF, e⟩, fun j z => (by cases z)⟩
          · refine ⟨fun z => (by cases z), fun j z => ?_⟩
            cases z
            refine ⟨by rw [List.length_cons]; omega, ns, hF, ?_⟩
            rw [e, List.take_of_length_le (by simp)]
            have : pre ++ 93 :: l = (pre ++ [93]) ++ l := by simp
            rw [this, show pre.length + 1 = (pre ++ [93]).length by simp, List.take_left]
        · exact ⟨fun z => (by cases z), stop⟩
theorem inv_start : Inv6 12 12 0 true [91] [] := ⟨rfl, fun k k1 k2 => ⟨by simpa using k1, by simpa using k2, fun i hi => by simp at hi⟩, by decide, by decide, by decide, fun _ => ⟨rfl, rfl⟩⟩
theorem brk_le : ∀ (l : List Nat) (left limit number : Int) (first : Bool) (i j : Nat), brkL left limit number first l i = some j → i ≤ j
  | [], _, _, _, _, i, j, z => by
    have : i = j := by simpa [brkL] using z
    omega
  | c :: l, left, limit, number, first, i, j, z => by
    unfold brkL at z
    split at z
    · split at z
      · cases z
        exact Nat.le_refl _
      · have := brk_le l _ _ _ _ _ _ z
        omega
    · split at z
      · have := brk_le l _ _ _ _ _ _ z
        omega
      · split at z
        · split at z
          · cases z
          · cases z
            omega
        · cases z
          exact Nat.le_refl _
/-- a text that starts as one that is read wholly is read as far -/
theorem brk_far : ∀ (w t : List Nat) (left limit number : Int) (first : Bool) (i e : Nat), brkL left limit number first w i = none → w.take e = t.take e → e ≤ w.length → e ≤ t.length → ∀ j, brkL left limit number first t i = some j → i + e ≤ j
  | w, t, left, limit, number, first, i, 0, _, _, _, _, j, z => brk_le t _ _ _ _ _ _ z
  | [], t, left, limit, number, first, i, e + 1, h, _, _, _, j, z => by simp [brkL] at h
  | c :: w, [], left, limit, number, first, i, e + 1, h, _, _, ht, j, z => by simp at ht
  | c :: w, c' :: t, left, limit, number, first, i, e + 1, h, hw, he, ht, j, z => by
    rw [List.take_succ_cons, List.take_succ_cons] at hw
    obtain ⟨hc, hw2⟩ := List.cons.inj hw
    subst hc
    clear hw
    have hw := hw2
    rw [List.length_cons] at he ht
    unfold brkL at h z
    split at h
    · rename_i d
      rw [if_pos d] at z
      split at h
      · cases h
      · rename_i k
        rw [if_neg k] at z
        have := brk_far w t _ _ _ _ _ e h hw (by omega) (by omega) j z
        omega
    · rename_i d
      rw [if_neg d] at z
      split at h
      · rename_i k
        rw [if_pos k] at z
        have := brk_far w t _ _ _ _ _ e h hw (by omega) (by omega) j z
        omega
      · rename_i k
        rw [if_neg k] at z
        split at h
        · rename_i k2
          rw [if_pos k2] at z
          split at h
          · rename_i k3
            subst k3
            have : e = 0 := by simpa using he
            subst this
            split at z
            · cases z
            · cases z
              omega
          · cases h
        · cases h
theorem nl_len1 {k : Int} (h0 : 0 ≤ k) (h : k < 10) : nl k = [48 + k.toNat] := numL_lt (by omega)
theorem dig_at {n : Nat} (h : n ≤ 9) : dig (48 + n) = (n : Int) := by
  unfold dig
  rw [if_pos ⟨by omega, by omega⟩]
  omega
theorem brk_digits {left limit k : Int} {f : Bool} {l : List Nat} {i : Nat} (h1 : 1 ≤ k) (h2 : k ≤ limit) (h3 : k ≤ 12) : brkL left limit 0 f (nl k ++ l) i = brkL left limit k false l (i + (nl k).length) := by
  by_cases h : k < 10
  · rw [nl_len1 (by omega) h]
    show brkL left limit 0 f ((48 + k.toNat) :: l) i = _
    have d : dig (48 + k.toNat) = k := by rw [dig_at (by omega)]; omega
    rw [brkL, d, if_pos (by omega), if_neg (by omega), show 10 * 0 + k = k by omega]
    rfl
  · have e : nl k = [49, 48 + (k - 10).toNat] := by
      unfold nl
      rw [numL_step (by omega), show k.toNat / 10 = 1 by omega, show k.toNat % 10 = (k - 10).toNat by omega, numL_lt (by decide)]
      rfl
    rw [e]
    show brkL left limit 0 f (49 :: (48 + (k - 10).toNat) :: l) i = _
    have d1 : dig 49 = 1 := by decide
    have d2 : dig (48 + (k - 10).toNat) = k - 10 := by rw [dig_at (by omega)]; omega
    rw [brkL, d1, if_pos (by omega), if_neg (by omega), brkL, d2, if_pos (by omega), if_neg (by omega), show 10 * (10 * 0 + 1) + (k - 10) = k by omega]
    rfl
theorem brk_whole : ∀ (rest : List Int) (k left limit : Int) (f : Bool) (i : Nat), (∀ x ∈ k :: rest, 1 ≤ x) → (∀ j : Nat, j + 1 < (k :: rest).length → (k :: rest).getD (j + 1) 0 ≤ (k :: rest).getD j 0) → (k :: rest).sum ≤ left → left ≤ 12 → k ≤ limit →
    brkL left limit 0 f (joinL [32] ((k :: rest).map nl) ++ [93]) i = none
  | [], k, left, limit, f, i, hp, hd, hs, h12, hk => by
    have h1 := hp k List.mem_cons_self
    have hs : k ≤ left := by simpa using hs
    show brkL left limit 0 f (nl k ++ [93]) i = none
    rw [brk_digits h1 hk (by omega), brkL, if_neg (by decide), if_neg (by simp), if_pos ⟨rfl, .inl (by omega)⟩, if_pos rfl]
  | m :: rest, k, left, limit, f, i, hp, hd, hs, h12, hk => by
    have h1 := hp k List.mem_cons_self
    have hp' : ∀ x ∈ m :: rest, 1 ≤ x := fun x hx => hp x (List.mem_cons_of_mem _ hx)
    have h2 := hp' m List.mem_cons_self
    have hmk : m ≤ k := hd 0 (by simp)
    have hs0 := sum_len hp'
    have hms := mem_sum hp' m List.mem_cons_self
    rw [List.sum_cons] at hs
    have e : joinL [32] ((k :: m :: rest).map nl) ++ [93] = nl k ++ 32 :: (joinL [32] ((m :: rest).map nl) ++ [93]) := by
      show nl k ++ ([32] ++ joinL [32] ((m :: rest).map nl)) ++ [93] = _
      simp
    rw [e, brk_digits h1 hk (by omega), brkL, if_neg (by decide), if_pos ⟨rfl, by omega, by omega⟩]
    refine brk_whole rest m _ _ _ _ hp' (fun j hj => hd (j + 1) (by rw [List.length_cons]; omega)) (by omega) (by omega) ?_
    split <;> omega
theorem brk_fall {ns : List Int} (h : Fall ns) : brkL 12 12 0 true (joinL [32] (ns.map nl) ++ [93]) 1 = none := by
  cases ns with
  | nil => decide
  | cons k rest => exact brk_whole rest k 12 12 true 1 h.pos h.desc h.sum (Int.le_refl _) (h.le k List.mem_cons_self)
/-- what reading tells: none just for texts of kinds, else the greatest length of a start that is a text's start -/
theorem brk_none {t : List Nat} : brkT t = none ↔ ∃ ns, Fall ns ∧ t = txL ns := by
  constructor
  · intro h
    cases t with
    | nil => cases h
    | cons c r =>
      rw [brkT] at h
      split at h
      · rename_i z
        subst z
        obtain ⟨ns, hF, e⟩ := (brk_sound r inv_start).1 h
        exact ⟨ns, hF, e.symm⟩
      · cases h
  · rintro ⟨ns, hF, rfl⟩
    exact brk_fall hF
theorem brk_some {t : List Nat} {i : Nat} (h : brkT t = some i) : i ≤ t.length ∧ (∃ ns, Fall ns ∧ (txL ns).take i = t.take i) ∧ ∀ ns e, Fall ns → e ≤ t.length → (txL ns).take e = t.take e → e ≤ i := by
  cases t with
  | nil =>
    cases h
    exact ⟨Nat.le_refl _, ⟨[], fall_nil, rfl⟩, fun ns e _ he _ => he⟩
  | cons c r =>
    rw [brkT] at h
    split at h
    · rename_i z
      subst z
      have s := (brk_sound r inv_start).2 i h
      refine ⟨by have := s.1; rw [List.length_cons]; exact Nat.le_trans this (by simp; omega), s.2, fun ns e hF he ht => ?_⟩
      cases e with
      | zero => exact Nat.zero_le _
      | succ e =>
        have ht : (91 :: (joinL [32] (ns.map nl) ++ [93])).take (e + 1) = (91 :: r).take (e + 1) := ht
        rw [List.take_succ_cons, List.take_succ_cons] at ht
        obtain ⟨_, ht⟩ := List.cons.inj ht
        rw [List.length_cons] at he
        have hlen : e ≤ (joinL [32] (ns.map nl) ++ [93]).length := by
          have := congrArg List.length ht
          rw [List.length_take, List.length_take] at this
          omega
        have := brk_far _ r 12 12 0 true 1 e (brk_fall hF) ht hlen (by omega) i h
        omega
    · rename_i z
      cases h
      refine ⟨Nat.zero_le _, ⟨[], fall_nil, rfl⟩, fun ns e hF he ht => ?_⟩
      cases e with
      | zero => exact Nat.le_refl _
      | succ e =>
        have ht : (91 :: (joinL [32] (ns.map nl) ++ [93])).take (e + 1) = (c :: r).take (e + 1) := ht
        rw [List.take_succ_cons, List.take_succ_cons] at ht
        exact absurd (List.cons.inj ht).1.symm z
theorem nl_inj {a b : Int} (ha : 0 ≤ a) (hb : 0 ≤ b) (h : nl a = nl b) : a = b := by
  have := numL_inj h
  omega
end

/-! break_index. -/

section
open PySem PySem.Spec PyProof.Rows L2 Gd TL
theorem find_dig (c : Nat) : Txt.find ("0123456789" : Str) ⟨#[c]⟩ = dig c := by
  by_cases h : 48 ≤ c ∧ c ≤ 57
  · have : ∀ d : Nat, d < 10 → Txt.find ("0123456789" : Str) ⟨#[48 + d]⟩ = dig (48 + d) := by
      intro d hd
      have : (List.range 10).all (fun d => decide (Txt.find ("0123456789" : Str) ⟨#[48 + d]⟩ = dig (48 + d))) = true := by decide +kernel
      exact of_decide_eq_true (List.all_eq_true.mp this d (List.mem_range.mpr hd))
    have := this (c - 48) (by omega)
    rw [show 48 + (c - 48) = c by omega] at this
    exact this
  · have e : dig c = -1 := if_neg h
    rw [e]
    rcases find_spec ("0123456789" : Str) ⟨#[c]⟩ with z | ⟨i, _, h1, h2⟩
    · exact z
    · exfalso
      have l1 : (⟨#[c]⟩ : Str).length = 1 := rfl
      have l2 : ("0123456789" : Str).length = 10 := by decide +kernel
      rw [l1, l2] at h1
      rw [l1] at h2
      have : (List.range 10).all (fun i => decide (tl (Builtin.Str.strSub ("0123456789" : Str) i (i + 1)) = [48 + i])) = true := by decide +kernel
      have := of_decide_eq_true (List.all_eq_true.mp this i (List.mem_range.mpr (by omega)))
      rw [h2] at this
      have : [c] = [48 + i] := this
      injection this with this
      omega
theorem one_eq (c d : Nat) : ((⟨#[c]⟩ : Str) = ⟨#[d]⟩) ↔ c = d := by
  constructor
  · intro h
    have : tl (⟨#[c]⟩ : Str) = tl (⟨#[d]⟩ : Str) := congrArg tl h
    have : [c] = [d] := this
    injection this
  · rintro rfl
    rfl
theorem g_forR2 {ta : TA} {g : TG} {tb : TS} {D : Ends} {σ : L2.St} {H : Hp} (k : ta σ H fun vs H1 => ∃ i j : Int, vs = [.int i, .int j] ∧ (-(2 ^ 62) ≤ i ∧ i < 2 ^ 62 ∧ -(2 ^ 62) ≤ j ∧ j < 2 ^ 62) ∧ ForG (Itr i (j - i).toNat) g tb D σ H1) : tFor (iRng2 ta) g tb D σ H := k
theorem g_par3 {i j l : Nat} {ta : TA} {D : Ends} {σ : L2.St} {H : Hp} (k : ta σ H fun vs H1 => ∃ u v w, vs = [u, v, w] ∧ D.nx (((σ.set i (some u)).set j (some v)).set l (some w)) H1) : tPar3 i j l ta D σ H := k
theorem starts_open (x : Str) : Txt.startswith x ("[" : Str) = true ↔ ∃ r, tl x = 91 :: r := by
  have l1 : ("[" : Str).length = 1 := by decide +kernel
  have e1 : tl ("[" : Str) = [91] := by decide +kernel
  unfold Txt.startswith
  rw [Bool.and_eq_true, decide_eq_true_iff, l1]
  constructor
  · rintro ⟨h1, h2⟩
    have := congrArg tl (strSub_of_subAt h2)
    rw [l1, tl_strSub, e1] at this
    cases h : tl x with
    | nil => rw [h] at this; simp at this
    | cons c r =>
      rw [h] at this
      have : [c] = [91] := this
      injection this with this
      rw [this]
      exact ⟨r, rfl⟩
  · rintro ⟨r, h⟩
    have hl : x.length = r.length + 1 := by rw [len_tl, h, List.length_cons]
    refine ⟨by omega, ?_⟩
    have : Builtin.Str.strSub x 0 (0 + ("[" : Str).length) = ("[" : Str) := ext_tl (by rw [l1, tl_strSub, e1, h]; rfl)
    unfold Builtin.Str.subAt
    exact beq_iff_eq.mpr (congrArg Str.cps this)
theorem g_eqC {c d : Nat} {y : Str} {H : Hp} {Q : VK} (hy : y = ⟨#[d]⟩) (k : Q (.bl (decide (c = d))) H) : rEq (.str ⟨#[c]⟩) (.str y) H Q := by
  refine ⟨rfl, ?_⟩
  have e : decide (V.str ⟨#[c]⟩ = V.str y) = decide (c = d) := by
    rw [decide_eq_decide, hy]
    constructor
    · intro h
      injection h with h
      exact (one_eq c d).mp h
    · intro h
      rw [h]
  rw [e]
  exact k
theorem sign_sp : (" " : Str) = ⟨#[32]⟩ := by decide +kernel
theorem sign_cl : ("]" : Str) = ⟨#[93]⟩ := by decide +kernel
theorem t_sp {x : Str} {j number left : Int} {c : Nat} {σ : L2.St} {H : Hp} {QT : Bool → Hp → Prop} (h0 : σ[0]? = some (some (.str x))) (h5 : σ[5]? = some (some (.int j))) (h4 : σ[4]? = some (some (.int number))) (h2 : σ[2]? = some (some (.int left))) (hl : x.length ≤ sizeLine) (ha : atI x.cps.toList j = some c)
    (ky : c = 32 ∧ 0 < number ∧ number < left → QT true H) (kn : ¬ (c = 32 ∧ 0 < number ∧ number < left) → QT false H) :
    tAnd (tTest (tOp rEq (tOp rIxS (tVar 0) (tVar 5)) (tC (V.str " ")))) (tTest (tChain (rI0 fun i j => V.bl (decide (i < j))) (rI0 fun i j => V.bl (decide (i < j))) (tC (V.int 0)) (tVar 4) (tVar 2))) σ H QT := by
  refine g_and (g_test (g_op (g_op (g_var h0 (g_var h5 ⟨x, j, c, rfl, rfl, hl, ha, g_c (g_eqC sign_sp ⟨_, rfl, ?_⟩)⟩)))))
  by_cases e : c = 32
  · rw [decide_eq_true e]
    refine iteT (g_test (g_chain (g_c (g_var h4 (g_I0 ⟨_, rfl, ?_⟩)))))
    by_cases e2 : 0 < number
    · rw [decide_eq_true e2]
      refine iteT (g_var h2 (g_I0 ⟨_, rfl, ?_⟩))
      by_cases e3 : number < left
      · rw [decide_eq_true e3]
        exact ky ⟨e, e2, e3⟩
      · rw [decide_eq_false e3]
        exact kn fun z => e3 z.2.2
    · rw [decide_eq_false e2]
      exact iteF ⟨_, rfl, kn fun z => e2 z.2.1⟩
  · rw [decide_eq_false e]
    exact iteF (kn fun z => e z.1)
theorem t_cl {x : Str} {j number : Int} {c : Nat} {σ : L2.St} {H : Hp} {QT : Bool → Hp → Prop} (h0 : σ[0]? = some (some (.str x))) (h5 : σ[5]? = some (some (.int j))) (h4 : σ[4]? = some (some (.int number))) (hl : x.length ≤ sizeLine) (ha : atI x.cps.toList j = some c)
    (ky : c = 93 ∧ (0 < number ∨ j = 1) → QT true H) (kn : ¬ (c = 93 ∧ (0 < number ∨ j = 1)) → QT false H) :
    tAnd (tTest (tOp rEq (tOp rIxS (tVar 0) (tVar 5)) (tC (V.str "]")))) (tOr (tTest (tOp (rI0 fun i j => V.bl (decide (j < i))) (tVar 4) (tC (V.int 0)))) (tTest (tOp rEq (tVar 5) (tC (V.int 1))))) σ H QT := by
  refine g_and (g_test (g_op (g_op (g_var h0 (g_var h5 ⟨x, j, c, rfl, rfl, hl, ha, g_c (g_eqC sign_cl ⟨_, rfl, ?_⟩)⟩)))))
  by_cases e : c = 93
  · rw [decide_eq_true e]
    refine iteT (g_or (g_test (g_op (g_var h4 (g_c (g_I0 ⟨_, rfl, ?_⟩))))))
    by_cases e2 : 0 < number
    · rw [decide_eq_true e2]
      exact iteT (ky ⟨e, .inl e2⟩)
    · rw [decide_eq_false e2]
      refine iteF (g_test (g_op (g_var h5 (g_c (g_eqI ⟨_, rfl, ?_⟩)))))
      by_cases e3 : j = 1
      · rw [decide_eq_true e3]
        exact ky ⟨e, .inr e3⟩
      · rw [decide_eq_false e3]
        exact kn fun z => z.2.elim e2 e3
  · rw [decide_eq_false e]
    exact iteF (kn fun z => e z.1)
theorem mulT {a b : Int} (h0 : 0 ≤ a) (h1 : a ≤ 1000) (h2 : 0 ≤ b) (h3 : b ≤ 1000) : CMul a b := by
  first
    | exact .inr ⟨by omega, by omega⟩
    | exact .inl ⟨by omega, by omega⟩
    | exact ⟨by omega, by omega⟩
section
variable {P : Program} {w : World} {K : PySem.W.Frag} {mg : Str → Option Value} {base : Heap} {f : Addr} {fd : FuncData}
abbrev sBreak : Stmt := top 21
theorem scBreak : FnScope ["text", "most", "left", "limit", "number", "index", "digit"] ["text", "most"] (defScope sBreak) := ⟨rfl, rfl, rfl, by decide +kernel, rfl, by decide +kernel, by decide +kernel⟩
def spBreak : Sp := fun vs H Q _ => ∃ x : Str, vs = [.str x, .int 12] ∧ x.length ≤ 1000 ∧ (brkT (tl x) = none → Q .non H) ∧ ∀ i : Nat, brkT (tl x) = some i → Q (.int (i : Int)) H
theorem ok_break (F : Fun K "break_index" "break_index" sBreak f fd) (T : Txt K mg) : FnOk P w K mg base CX0 1 f fd ["text", "most"] spBreak := by
  refine F.ok scBreak (fun vs H Q E h => ?_) (fun cdv A outer s H vs Q E hr h => ?_)
  · obtain ⟨x, rfl, _⟩ := h
    rfl
  · obtain ⟨x, rfl, hl, k0, k1⟩ := h
    refine ⟨_, pss_cons (ps_if (pt_not (pt_val (pe_bm PySem.F.plainAttrs_str PySem.F.slot_str_startswith PySem.F.type_str_startswith mt_startswith (pv 0) (pa_cons pe_str pa_nil)))) (pss_one (ps_ret pe_int)) pss_nil)
      (pss_cons (ps_par3 (i := 2) (j := 3) (l := 4) (by rfl) scBreak.nd rfl rfl rfl (by decide) (by decide) (by decide) rfl rfl rfl (pa_cons (pv 1) (pa_cons (pv 1) (pa_cons pe_int pa_nil))) (by rfl))
      (pss_cons (ps_for PassesOwn.never rfl (pi_range2 (by rfl) T.range (pa_cons pe_int (pa_cons (pe_callB call_len_str (by rfl) T.len PySem.boot_len (pa_cons (pv 0) pa_nil)) pa_nil))) (pg_name (i := 5) scBreak.nd rfl (Or.inl rfl)) (pss_cons (ps_set (i := 6) scBreak.nd rfl (Or.inl rfl) (pe_bm PySem.F.plainAttrs_str PySem.F.slot_str_find PySem.F.type_str_find mt_find pe_str (pa_cons (pe_ix ix_str (pv 0) (pv 5) (fun _ _ => rfl)) pa_nil)))
      (pss_one (ps_if (pt_cmpR op_ge (pv 6) pe_int (nomark _)) (pss_cons (ps_set (i := 4) scBreak.nd rfl (Or.inl rfl) (pe_op op_add (pe_op op_mul pe_int (pv 4)) (pv 6)))
      (pss_one (ps_if (PW.pt (pw_or (pt_cmpR op_eq (pv 4) pe_int (nomark _)) (pw_or1 (pt_cmpR op_gt (pv 4) (pv 3) (nomark _))))) (pss_one (ps_ret (pv 5))) pss_nil))) (pss_one (ps_if (PW.pt (pw_and (pt_cmpR op_eq (pe_ix ix_str (pv 0) (pv 5) (fun _ _ => rfl)) pe_str (nomark _)) (pw_and1 (pt_chain op_lt op_lt pe_int (pv 4) (pv 2))))) (pss_cons (ps_set (i := 2) scBreak.nd rfl (Or.inl rfl) (pe_op op_sub (pv 2) (pv 4)))
      (pss_cons (ps_set (i := 3) scBreak.nd rfl (Or.inl rfl) (pe_ifExp (pt_cmpR op_lt (pv 4) (pv 2) (nomark _)) (pv 4) (pv 2)))
      (pss_one (ps_set (i := 4) scBreak.nd rfl (Or.inl rfl) pe_int)))) (pss_one (ps_if (PW.pt (pw_and (pt_cmpR op_eq (pe_ix ix_str (pv 0) (pv 5) (fun _ _ => rfl)) pe_str (nomark _)) (pw_and1 (PW.pt (pw_or (pt_cmpR op_gt (pv 4) pe_int (nomark _)) (pw_or1 (pt_cmpR op_eq (pv 5) pe_int (nomark _)))))))) (pss_one (ps_ret (pe_ifExp (pt_cmpR op_lt (pe_op op_add (pv 5) pe_int) (pe_callB call_len_str (by rfl) T.len PySem.boot_len (pa_cons (pv 0) pa_nil)) (nomark _)) (pe_op op_add (pv 5) pe_int) pe_non))) (pss_one (ps_ret (pv 5)))))))))))
      (pss_one (ps_ret (pe_callB call_len_str (by rfl) T.len PySem.boot_len (pa_cons (pv 0) pa_nil)))))), ?_⟩
    try dsimp only [cx_nox, cx_K]
    have sz : (100000 : Nat) < sizeLine := by decide
    walk_at "rd"
    refine ⟨rfl, ?_⟩
    walk_at "rd"
    refine ⟨x, _, rfl, rfl, ?_⟩
    walk_at "rd"
    by_cases hs : Txt.startswith x ("[" : Str) = true
    rotate_left
    · rw [Bool.eq_false_iff.mpr hs]
      refine iteT ?_
      walk_at "rd"
      refine k1 0 ?_
      cases h : tl x with
      | nil => rfl
      | cons c r =>
        have : c ≠ 91 := fun z => hs ((starts_open x).mpr ⟨r, by rw [h, z]⟩)
        rw [brkT, if_neg this]
    obtain ⟨r, hx⟩ := (starts_open x).mp hs
    rw [hs]
    refine iteF ?_
    have hlen : x.length = r.length + 1 := by rw [len_tl, hx, List.length_cons]
    have hb : brkT (tl x) = brkL 12 12 0 true r 1 := by rw [hx, brkT, if_pos rfl]
    have at_ : ∀ i (hi : i < r.length), atI x.cps.toList (1 + (i : Int)) = some r[i] := fun i hi => by
      have e : (1 + (i : Int)) = ((i + 1 : Nat) : Int) := by omega
      rw [e]
      refine atI_nat ?_
      have : x.cps.toList = 91 :: r := hx
      rw [this, List.getElem?_cons_succ, List.getElem?_eq_getElem hi]
    walk_at "rd"
    refine g_par3 ?_
    walk_at "rd"
    refine ⟨_, _, _, rfl, ?_⟩
    dsimp only
    refine g_seq (g_forR2 ?_)
    walk_at "rd"
    refine ⟨x, rfl, by omega, ?_⟩
    walk_at "rd"
    refine ⟨⟨by decide, by decide, by omega, by omega⟩, ?_⟩
    have en : ((x.length : Int) - 1).toNat = r.length := by omega
    rw [en]
    refine for_range (fun i σ H' => ∃ (left limit number : Int) (x5 x6 : Option V), σ = [some (.str x), some (.int 12), some (.int left), some (.int limit), some (.int number), x5, x6] ∧ H' = H ∧ brkT (tl x) = brkL left limit number (decide (i = 0)) (r.drop i) (i + 1) ∧ 0 ≤ number ∧ number ≤ 12 ∧ limit ≤ 12 ∧ left ≤ 12) ⟨12, 12, 0, _, _, rfl, rfl, hb, by decide, by decide, by decide, by decide⟩ ?_ ?_
    · rintro i σ H2 hi ⟨left, limit, number, x5, x6, rfl, rfl, hb, n0, n1, l1, l2⟩
      have hcons : r.drop i = r[i] :: r.drop (i + 1) := (List.getElem_cons_drop hi).symm
      rw [hcons] at hb
      have hat := at_ i hi
      generalize r[i] = c at hb hat
      rw [brkL] at hb
      refine g_name ?_
      dsimp only
      walk_at "rd"
      refine ⟨rfl, ?_⟩
      walk_at "rd"
      refine ⟨x, _, c, rfl, rfl, by omega, hat, ?_⟩
      walk_at "rd"
      refine ⟨_, _, rfl, rfl, ?_⟩
      rw [find_dig]
      walk_at "rd"
      have ei : (1 + (i : Int)) = ((i + 1 : Nat) : Int) := by omega
      have ef : decide (i + 1 = 0) = false := by simp
      by_cases d0 : 0 ≤ dig c
      · rw [decide_eq_true d0]
        rw [if_pos d0] at hb
        have d9 := dig_pos d0
        refine iteT ?_
        walk_at "rd"
        refine g_I (mulT (by omega) (by omega) (by omega) (by omega)) ?_
        walk_at "rd"
        by_cases z : 10 * number + dig c = 0
        · rw [if_pos (.inl z)] at hb
          rw [decide_eq_true z]
          walk_at "rd"
          rw [ei]
          exact k1 _ hb
        rw [decide_eq_false z]
        walk_at "rd"
        by_cases z2 : limit < 10 * number + dig c
        · rw [if_pos (.inr z2)] at hb
          rw [decide_eq_true z2]
          walk_at "rd"
          rw [ei]
          exact k1 _ hb
        rw [if_neg (fun y => y.elim z z2)] at hb
        rw [decide_eq_false z2]
        walk_at "rd"
        exact ⟨_, _, _, _, _, rfl, rfl, by rw [ef]; exact hb, by omega, by omega, l1, l2⟩
      rw [decide_eq_false d0]
      rw [if_neg d0] at hb
      refine iteF (g_ifs ?_)
      refine t_sp rfl rfl rfl rfl (by omega) hat (fun q => iteT ?_) (fun q => iteF ?_)
      · rw [if_pos q] at hb
        walk_at "rd"
        by_cases z : number < left - number
        · rw [if_pos z] at hb
          rw [decide_eq_true z]
          walk_at "rd"
          exact ⟨_, _, _, _, _, rfl, rfl, by rw [ef]; exact hb, by decide, by decide, by omega, by omega⟩
        · rw [if_neg z] at hb
          rw [decide_eq_false z]
          walk_at "rd"
          exact ⟨_, _, _, _, _, rfl, rfl, by rw [ef]; exact hb, by decide, by decide, by omega, by omega⟩
      rw [if_neg q] at hb
      have efj : decide (i = 0) = true ↔ (1 + (i : Int)) = 1 := by
        rw [decide_eq_true_iff]
        omega
      refine g_ifs ?_
      refine t_cl rfl rfl rfl (by omega) hat (fun q => iteT ?_) (fun q => iteF ?_)
      · rw [if_pos ⟨q.1, q.2.imp id efj.mpr⟩] at hb
        walk_at "rd"
        refine ⟨x, rfl, by omega, ?_⟩
        walk_at "rd"
        have hd : r.drop (i + 1) = [] ↔ ¬ (1 + (i : Int) + 1 < (x.length : Int)) := by
          rw [List.drop_eq_nil_iff]
          omega
        by_cases z : r.drop (i + 1) = []
        · rw [if_pos z] at hb
          rw [decide_eq_false (hd.mp z)]
          walk_at "rd"
          exact k0 hb
        · rw [if_neg z] at hb
          rw [decide_eq_true (Decidable.not_not.mp fun y => z (hd.mpr y))]
          walk_at "rd"
          rw [ei]
          exact k1 _ hb
      · rw [if_neg fun y => q ⟨y.1, y.2.imp id efj.mp⟩] at hb
        walk_at "rd"
        rw [ei]
        exact k1 _ hb
    · rintro σ H2 ⟨left, limit, number, x5, x6, rfl, rfl, hb, _⟩
      rw [List.drop_length, brkL] at hb
      walk_at "rd"
      refine ⟨x, rfl, by omega, ?_⟩
      have := k1 _ hb
      rw [hlen]
      exact this
end
end

/-! read_falling. -/

section
open PySem PySem.Spec PyProof.Rows L2 Gd TL
theorem tl_numT {n : Int} (h : 0 ≤ n) : tl (numT n) = nl n := by
  have e : n = ((n.toNat : Nat) : Int) := by omega
  unfold numT nl
  conv => lhs; rw [e]
  exact tl_num n.toNat
theorem tl_kind {ns : List Int} (h : ∀ n ∈ ns, 0 ≤ n) : tl (kindTx ns) = txL ns := by
  have e1 : tl ("[" : Str) = [91] := by decide +kernel
  have e2 : tl ("]" : Str) = [93] := by decide +kernel
  have e3 : tl (" " : Str) = [32] := by decide +kernel
  have e4 : tl Str.empty = [] := by decide +kernel
  have e5 : (ns.map numT).map tl = ns.map nl := by
    rw [List.map_map]
    exact List.map_congr_left fun n hn => tl_numT (h n hn)
  unfold kindTx txL
  rw [tl_append, tl_append, tl_append, e1, e2, e4, join_eq, tl_join, e3, e5]
  rfl
theorem kind_of_tl {x : Str} {ns : List Int} (h : ∀ n ∈ ns, 0 ≤ n) (e : tl x = txL ns) : x = kindTx ns := ext_tl (by rw [e, tl_kind h])
theorem cut_in {x : Str} {L : List Nat} (h : tl x = 91 :: (L ++ [93])) : tl (cutS x (some 1) (some (-1))) = L := by
  have hl : x.length = L.length + 2 := by rw [len_tl, h, List.length_cons, List.length_append]; rfl
  unfold cutS
  rw [tl_mk]
  have e1 : HT.sIx x.length 0 (some 1) = 1 := by
    have := HT.sIx_nat x.length 0 1
    rw [show ((1 : Nat) : Int) = 1 from rfl] at this
    rw [this]
    omega
  have e2 : HT.sIx x.length x.length (some (-1)) = L.length + 1 := by
    show (if (-1 : Int) < 0 then ((-1 : Int) + (x.length : Int)).toNat else min (-1 : Int).toNat x.length) = L.length + 1
    rw [if_pos (by decide)]
    omega
  have hx : x.cps.toList = 91 :: (L ++ [93]) := h
  rw [e1, e2, hx]
  show (L ++ [93]).take (L.length + 1 - 1) = L
  rw [Nat.add_sub_cancel, List.take_left]
theorem words_kind {x : Str} {ns : List Int} (h : ∀ n ∈ ns, 0 ≤ n) (e : tl x = txL ns) : Txt.words (cutS x (some 1) (some (-1))) = ns.map numT := by
  refine map_tl_inj ?_
  have e5 : (ns.map numT).map tl = ns.map nl := by
    rw [List.map_map]
    exact List.map_congr_left fun n hn => tl_numT (h n hn)
  rw [words_tl, cut_in e, e5]
  cases ns with
  | nil => rfl
  | cons a r =>
    rw [wfold_join _ _ (by simp) fun p hp => ?_]
    · rfl
    · obtain ⟨n, _, rfl⟩ := List.mem_map.mp hp
      refine ⟨numL_ne _, fun c hc => ?_⟩
      have hd := numL_digits n.toNat c hc
      have : (List.range 58).all (fun c => decide (c < 48) || !Unicode.isSpace c) = true := by decide +kernel
      have := List.all_eq_true.mp this c (List.mem_range.mpr (by omega))
      rw [Bool.or_eq_true, decide_eq_true_iff] at this
      rcases this with z | z
      · omega
      · simpa using z
def numV : V → V
  | .str x => .int ((intText? x).getD 0)
  | y => y
theorem int_numT {n : Int} (h0 : 0 ≤ n) (h1 : n < 300) : intText? (numT n) = some n := by
  have e : n = ((n.toNat : Nat) : Int) := by omega
  unfold numT
  rw [e]
  refine int_num ?_
  have := numL_len (n := n.toNat) (k := 3) (by decide) (by omega)
  omega
section
variable {P : Program} {w : World} {K : PySem.W.Frag} {mg : Str → Option Value} {base : Heap} {f : Addr} {fd : FuncData}
abbrev sRdF : Stmt := top 22
theorem scRdF : FnScope ["text", "word"] ["text"] (defScope sRdF) := ⟨rfl, rfl, rfl, by decide +kernel, rfl, by decide +kernel, by decide +kernel⟩
def spRdF (K : PySem.W.Frag) : Sp := fun vs H Q _ => ∃ (x : Str) (ns : List Int), vs = [.str x] ∧ tl x = txL ns ∧ Fall ns ∧ ∀ H' a, Ext H H' → TupX K H' a (ns.map V.int) → Q (.ref a) H'
theorem ok_rdF (F : Fun K "read_falling" "read_falling" sRdF f fd) (T : Txt K mg) : FnOk P w K mg base CX0 1 f fd ["text"] (spRdF K) := by
  refine F.ok scRdF (fun vs H Q E h => ?_) (fun cdv A outer s H vs Q E hr h => ?_)
  · obtain ⟨x, ns, rfl, _⟩ := h
    rfl
  · obtain ⟨x, ns, rfl, hx, hF, k⟩ := h
    refine ⟨_, pss_one (ps_ret (pe_callTy call_tupX (by rfl) T.tuple (by decide +kernel) (pa_cons (pe_lc (own := [("word", 1)]) (g := gName 1) (tt := tYes) rfl scRdF.nd (pi_list (pe_bm0 PySem.F.plainAttrs_str PySem.F.slot_str_split PySem.F.type_str_split mt_words (pe_slice sl_str (pv 0) (po_some pe_int) (po_some (pe_un un_neg pe_int))))) (blkOk_by (N := ["text", "word"]) (sc := defScope sRdF) (by decide +kernel)) (fun _ _ _ _ _ => pg_name (i := 1) scRdF.nd rfl (Or.inl rfl)) (fun _ _ _ _ _ => pts_nil) (fun _ _ _ _ _ => by exact (pe_callTy call_int_str (by rfl) T.int (by decide +kernel) (pa_cons (pv 1) pa_nil)))) pa_nil))), ?_⟩
    try dsimp only [cx_nox, cx_K]
    have sz : (100000 : Nat) < sizeLine := by decide
    have hpos : ∀ n ∈ ns, 0 ≤ n := fun n hn => by have := hF.pos n hn; omega
    have hlen : x.length ≤ 62 := by
      rw [kind_of_tl hpos hx]
      exact kindTx_len hF
    have hw := words_kind hpos hx
    walk_at "rd"
    refine g_lc (g_ilist ?_)
    walk_at "rd"
    have hcl : (cutS x (some 1) (some (-1))).length ≤ x.length := by
      have h2 := cut_in hx
      rw [len_tl, h2, len_tl x, hx]
      unfold txL
      rw [List.length_cons, List.length_append]
      omega
    refine ⟨x, rfl, by omega, rfl, _, rfl, rfl, by omega, ?_⟩
    rw [hw]
    intro p hp
    have e1 := Ext.new (o := HO.lst ((ns.map numT).map V.str)) hp
    refine lcL (SqL.of upd_same) (by rw [List.length_map, List.length_map]; have := hF.len; omega) (fun _ => true) numV (fun v H' hv e Qe Qn he hn => ?_) (fun H' D e hD hd => ?_)
    · rw [List.map_map] at hv
      obtain ⟨n, hn', rfl⟩ := List.mem_map.mp hv
      have b1 := hF.pos n hn'
      have b2 := hF.le n hn'
      have hi := int_numT (n := n) (by omega) (by omega)
      refine ⟨rfl, ?_⟩
      walk_at "rd"
      refine ⟨numT n, n, rfl, hi, by have := num_len' (n := n) (by omega) (by omega); omega, ?_⟩
      have := he _ (fun _ _ z => z) rfl
      have en : numV ((V.str ∘ numT) n) = V.int n := by
        show V.int ((intText? (numT n)).getD 0) = V.int n
        rw [hi]
        rfl
      rw [en] at this
      exact this
    · rw [List.filter_eq_self.mpr (fun _ _ => rfl)] at hd
      have em : ((ns.map numT).map V.str).map numV = ns.map V.int := by
        rw [List.map_map, List.map_map]
        refine List.map_congr_left fun n hn' => ?_
        have b1 := hF.pos n hn'
        have b2 := hF.le n hn'
        show V.int ((intText? (numT n)).getD 0) = V.int n
        rw [int_numT (by omega) (by omega)]
        rfl
      rw [em] at hd
      walk_at "rd"
      refine ⟨D, _, rfl, .inl ⟨SqL.of hd, fun u o hu ho => ?_⟩⟩
      exact k _ u (Ext.trans e1 (Ext.trans e (Ext.new hu))) (TupX.new ho)
end
end

/-! The texts of kinds as keys; how often a number stands in a kind; what a kind tells, as data (mathematics). -/

section
open PySem PySem.Spec PyProof.Rows L2 Gd TL
theorem kindTx_inj {ns ms : List Int} (h1 : Fall ns) (h2 : Fall ms) (e : kindTx ns = kindTx ms) : ns = ms := by
  have p1 : ∀ n ∈ ns, 0 ≤ n ∧ n < 300 := fall_num h1
  have p2 : ∀ n ∈ ms, 0 ≤ n ∧ n < 300 := fall_num h2
  have w1 := words_kind (x := kindTx ns) (fun n hn => (p1 n hn).1) (tl_kind fun n hn => (p1 n hn).1)
  have w2 := words_kind (x := kindTx ms) (fun n hn => (p2 n hn).1) (tl_kind fun n hn => (p2 n hn).1)
  rw [e, w2] at w1
  have q : ∀ {l : List Int}, (∀ n ∈ l, 0 ≤ n ∧ n < 300) → (l.map numT).map (fun x => (intText? x).getD 0) = l := fun {l} h => by
    rw [List.map_map]
    conv => rhs; rw [← List.map_id l]
    refine List.map_congr_left fun n hn => ?_
    show (intText? (numT n)).getD 0 = n
    rw [int_numT (h n hn).1 (h n hn).2]
    rfl
  have := congrArg (List.map fun x => (intText? x).getD 0) w1
  rw [q p1, q p2] at this
  exact this.symm
/-! ### a dict of texts -/
/-- the dict of all kinds by their texts -/
structure DTx (K : PySem.W.Frag) (H : Hp) (kvs : List (L2.Key × V)) : Prop where
  len : kvs.length ≤ 5000
  keys : ∀ p ∈ kvs, ∃ ns, Fall ns ∧ p.1 = Sum.inr (kindTx ns)
  vals : ∀ k v, valV kvs k = some v → ∃ ns a, Fall ns ∧ k = Sum.inr (kindTx ns) ∧ v = .ref a ∧ TupX K H a (ns.map V.int)
  all : ∀ ns, Fall ns → (valV kvs (Sum.inr (kindTx ns))).isSome = true
theorem DTx.ext {K : PySem.W.Frag} {H H' : Hp} {kvs : List (L2.Key × V)} (e : Ext H H') (h : DTx K H kvs) : DTx K H' kvs := ⟨h.len, h.keys, fun k v q => by
  obtain ⟨ns, a, h1, h2, h3, h4⟩ := h.vals k v q
  exact ⟨ns, a, h1, h2, h3, h4.ext e⟩, h.all⟩
theorem DTx.keeps {K : PySem.W.Frag} {H H' : Hp} {kvs : List (L2.Key × V)} (e : Keeps H H') (h : DTx K H kvs) : DTx K H' kvs := ⟨h.len, h.keys, fun k v q => by
  obtain ⟨ns, a, h1, h2, h3, h4⟩ := h.vals k v q
  exact ⟨ns, a, h1, h2, h3, TupX.keeps e h4⟩, h.all⟩
theorem DTx.at_ {K : PySem.W.Frag} {H : Hp} {kvs : List (L2.Key × V)} (h : DTx K H kvs) {ns : List Int} (hF : Fall ns) : ∃ a, valV kvs (Sum.inr (kindTx ns)) = some (.ref a) ∧ TupX K H a (ns.map V.int) := by
  obtain ⟨v, hv⟩ := Option.isSome_iff_exists.mp (h.all ns hF)
  obtain ⟨ms, a, h1, h2, rfl, h4⟩ := h.vals _ v hv
  have := kindTx_inj hF h1 (Sum.inr.inj h2)
  subst this
  exact ⟨a, hv, h4⟩
theorem put_mem {kvs : List (L2.Key × V)} {k : L2.Key} {v : V} {p : L2.Key × V} (h : p ∈ putK kvs k v) : p.1 = k ∨ p ∈ kvs := by
  unfold putK at h
  split at h
  · obtain ⟨q, hq, e⟩ := List.mem_map.mp h
    split at e
    · rename_i z
      subst e
      exact .inl z
    · subst e
      exact .inr hq
  · rcases List.mem_append.mp h with h | h
    · exact .inr h
    · rw [List.mem_singleton.mp h]
      exact .inl rfl
theorem merge_keys : ∀ (more acc : List (L2.Key × V)) (p : L2.Key × V), p ∈ mergeK acc more → p ∈ acc ∨ ∃ q ∈ more, q.1 = p.1
  | [], acc, p, h => .inl h
  | q :: r, acc, p, h => by
    have h : p ∈ mergeK (putK acc q.1 q.2) r := h
    rcases merge_keys r _ p h with h | ⟨q', h1, h2⟩
    · rcases put_mem h with h | h
      · exact .inr ⟨q, List.mem_cons_self, h.symm⟩
      · exact .inl h
    · exact .inr ⟨q', List.mem_cons_of_mem _ h1, h2⟩
theorem merge_vals {G : L2.Key → V → Prop} : ∀ (more acc : List (L2.Key × V)), (∀ p ∈ more, G p.1 p.2) → (∀ k v, valV acc k = some v → G k v) → ∀ k v, valV (mergeK acc more) k = some v → G k v
  | [], acc, _, ha, k, v, h => ha k v h
  | q :: r, acc, hm, ha, k, v, h => by
    have h : valV (mergeK (putK acc q.1 q.2) r) k = some v := h
    refine merge_vals r _ (fun p hp => hm p (List.mem_cons_of_mem _ hp)) (fun k v h => ?_) k v h
    rw [valV_put] at h
    split at h
    · rename_i z
      subst z
      cases h
      exact hm q List.mem_cons_self
    · exact ha k v h
theorem merge_some : ∀ (more acc : List (L2.Key × V)) (k : L2.Key), ((valV acc k).isSome = true ∨ ∃ q ∈ more, q.1 = k) → (valV (mergeK acc more) k).isSome = true
  | [], acc, k, h => by
    rcases h with h | ⟨q, hq, _⟩
    · exact h
    · cases hq
  | q :: r, acc, k, h => by
    show (valV (mergeK (putK acc q.1 q.2) r) k).isSome = true
    refine merge_some r _ k ?_
    rcases h with h | ⟨q', hq, e⟩
    · left
      rw [valV_put]
      split
      · rfl
      · exact h
    · rcases List.mem_cons.mp hq with z | z
      · subst z
        left
        rw [valV_put, if_pos e.symm]
        rfl
      · exact .inr ⟨q', z, e⟩
/-! ### how often numbers stand in a kind -/
def repN (ns : List Int) : List Int := ns.reverse.foldl (fun acc x => if x ∈ acc then acc else acc ++ [x]) []
theorem reps_fold (f : Int → V) : ∀ (l acc : List Int), l.foldl (fun kvs x => putK kvs (Sum.inl x) (f x)) (acc.map fun x => ((Sum.inl x : L2.Key), f x)) = (l.foldl (fun acc x => if x ∈ acc then acc else acc ++ [x]) acc).map fun x => ((Sum.inl x : L2.Key), f x)
  | [], acc => rfl
  | x :: r, acc => by
    rw [List.foldl_cons, List.foldl_cons, ← reps_fold f r]
    congr 1
    unfold putK
    by_cases h : x ∈ acc
    · rw [if_pos h, if_pos (by
        rw [List.any_map, List.any_eq_true]
        exact ⟨x, h, decide_eq_true rfl⟩), List.map_map]
      refine List.map_congr_left fun y _ => ?_
      show (if (Sum.inl y : L2.Key) = Sum.inl x then ((Sum.inl y : L2.Key), f x) else (Sum.inl y, f y)) = _
      split
      · rename_i z
        rw [Sum.inl.inj z]
      · rfl
    · rw [if_neg h, if_neg, List.map_append]
      · rfl
      · intro z
        rw [List.any_map, List.any_eq_true] at z
        obtain ⟨y, hy, e⟩ := z
        have : (Sum.inl y : L2.Key) = Sum.inl x := of_decide_eq_true e
        exact h (Sum.inl.inj this ▸ hy)
theorem rep_mem : ∀ (l acc : List Int) (k : Int), k ∈ l.foldl (fun acc x => if x ∈ acc then acc else acc ++ [x]) acc ↔ k ∈ acc ∨ k ∈ l
  | [], acc, k => by simp
  | x :: r, acc, k => by
    rw [List.foldl_cons, rep_mem r]
    split
    · rename_i h
      rw [List.mem_cons]
      constructor
      · rintro (z | z)
        · exact .inl z
        · exact .inr (.inr z)
      · rintro (z | z | z)
        · exact .inl z
        · exact .inl (z ▸ h)
        · exact .inr z
    · rw [List.mem_append, List.mem_singleton, List.mem_cons]
      constructor
      · rintro ((z | z) | z)
        · exact .inl z
        · exact .inr (.inl z)
        · exact .inr (.inr z)
      · rintro (z | z | z)
        · exact .inl (.inl z)
        · exact .inl (.inr z)
        · exact .inr z
def upB (ns : List Int) : Bool := (List.range (ns.length - 1)).all fun i => decide (ns.getD i 0 < ns.getD (i + 1) 0)
theorem up_of : ∀ {ns : List Int}, upB ns = true → ns.Pairwise (· < ·)
  | [], _ => .nil
  | [x], _ => List.pairwise_singleton _ _
  | x :: y :: r, h => by
    unfold upB at h
    simp only [List.all_eq_true, List.mem_range, decide_eq_true_eq] at h
    have h0 := h 0 (by simp)
    have h1 : upB (y :: r) = true := by
      unfold upB
      simp only [List.all_eq_true, List.mem_range, decide_eq_true_eq]
      intro i hi
      exact h (i + 1) (by simp at hi ⊢; omega)
    have ih := up_of h1
    refine List.Pairwise.cons (fun z hz => ?_) ih
    have h0 : x < y := h0
    rcases List.mem_cons.mp hz with e | hz
    · rw [e]
      exact h0
    · exact Int.lt_trans h0 (List.rel_of_pairwise_cons ih hz)
theorem up_uniq : ∀ {a b : List Int}, a.Pairwise (· < ·) → b.Pairwise (· < ·) → (∀ k, k ∈ a ↔ k ∈ b) → a = b
  | [], [], _, _, _ => rfl
  | [], y :: b, _, _, h => absurd ((h y).mpr List.mem_cons_self) (by simp)
  | x :: a, [], _, _, h => absurd ((h x).mp List.mem_cons_self) (by simp)
  | x :: a, y :: b, ha, hb, h => by
    have h1 : ∀ {z : Int}, z ∈ a → x < z := fun {z} hz => List.rel_of_pairwise_cons ha hz
    have h2 : ∀ {z : Int}, z ∈ b → y < z := fun {z} hz => List.rel_of_pairwise_cons hb hz
    have e : x = y := by
      rcases List.mem_cons.mp ((h x).mp List.mem_cons_self) with z | z
      · exact z
      rcases List.mem_cons.mp ((h y).mpr List.mem_cons_self) with q | q
      · exact q.symm
      have := h2 z
      have := h1 q
      omega
    subst e
    have := up_uniq ha.of_cons hb.of_cons fun k => by
      constructor
      · intro z
        rcases List.mem_cons.mp ((h k).mp (List.mem_cons_of_mem _ z)) with q | q
        · subst q
          have := h1 z
          omega
        · exact q
      · intro z
        rcases List.mem_cons.mp ((h k).mpr (List.mem_cons_of_mem _ z)) with q | q
        · subst q
          have := h2 z
          omega
        · exact q
    rw [this]
theorem rep_up : ((List.range 13).all fun n => (rows n n).all fun ns => upB (repN ns)) = true := by decide +kernel
theorem repN_up {ns : List Int} (h : Fall ns) : (repN ns).Pairwise (· < ·) := by
  have h0 := h.sum0
  have hs := h.sum
  have := rep_up
  simp only [List.all_eq_true, List.mem_range] at this
  exact up_of (this ns.sum.toNat (by omega) ns (fall_in h (by omega)))
theorem repN_mem (ns : List Int) (k : Int) : k ∈ repN ns ↔ k ∈ ns := by
  unfold repN
  rw [rep_mem]
  simp
/-! ### what a kind tells, as data -/
def pairD (ns : List Int) : List PyData := (repN ns).map fun k => .tuple [.int k, .int (ns.count k : Nat)]
def toldD (ns : List Int) : PyData := .list [.tuple (pdata ns), .int ns.sum, .int (ns.length : Nat), .int (ns.getD 0 0), .int (slantM ns), .list (pairD ns), .bool (decide (ns.getD 0 0 ≤ 1)), .bool (decide ((ns.length : Int) ≤ 1)),
  .int (ns.length : Nat), .list (pdata ns), .str (kindTx ns), .list ((List.range 14).map fun i => .int (ns.getD i 0)), .int 0, .tuple (pdata (turnM ns))]
mutual
def smD : PyData → Bool
  | .none => true
  | .bool _ => true
  | .int i => decide (i.natAbs < 300)
  | .str x => x.cps.toList.all fun c => decide (c < 16 ^ 8)
  | .list xs => smA xs
  | .tuple xs => smA xs
  | .dict _ => false
def smA : List PyData → Bool
  | [] => true
  | x :: xs => smD x && smA xs
end
theorem int_short {i : Int} (h : i.natAbs < 300) : (PyData.shown (.int i)).length ≤ 64 := by
  have e := int_text_length_le10 (k := 60) (a := i) (by decide) (Nat.lt_trans h (by decide))
  show (Str.ofString (toString i)).length ≤ 64
  rw [PySem.ofString_length]
  omega
mutual
theorem sm_ok : ∀ d : PyData, smD d = true → d.showable = true ∧ d.hasDict = false ∧ d.leavesShort 64 = true
  | .none, _ => ⟨rfl, rfl, rfl⟩
  | .bool _, _ => ⟨rfl, rfl, rfl⟩
  | .int i, h => by
    have h : i.natAbs < 300 := of_decide_eq_true h
    refine ⟨?_, rfl, ?_⟩
    · show decide (i.natAbs.log2 < 1920) = true
      have : i.natAbs.log2 ≤ i.natAbs := Nat.log2_le_self _
      exact decide_eq_true (by omega)
    · show decide ((PyData.shown (.int i)).length ≤ 64) = true
      exact decide_eq_true (int_short h)
  | .str x, h => ⟨rfl, rfl, h⟩
  | .list xs, h => sm_all xs h
  | .tuple xs, h => sm_all xs h
  | .dict _, h => by cases h
theorem sm_all : ∀ xs : List PyData, smA xs = true → PyData.showableAll xs = true ∧ PyData.hasDictAll xs = false ∧ PyData.leavesShortAll 64 xs = true
  | [], _ => ⟨rfl, rfl, rfl⟩
  | x :: xs, h => by
    have h : (smD x && smA xs) = true := h
    rw [Bool.and_eq_true] at h
    obtain ⟨a1, a2, a3⟩ := sm_ok x h.1
    obtain ⟨b1, b2, b3⟩ := sm_all xs h.2
    refine ⟨?_, ?_, ?_⟩
    · show (x.showable && PyData.showableAll xs) = true
      rw [a1, b1]
      rfl
    · show (x.hasDict || PyData.hasDictAll xs) = false
      rw [a2, b2]
      rfl
    · show (x.leavesShort 64 && PyData.leavesShortAll 64 xs) = true
      rw [a3, b3]
      rfl
end
def okD (d : PyData) : Bool := smD d && decide (d.depth ≤ 60) && decide (d.weight ≤ 10000)
theorem told_ok : ((List.range 13).all fun n => (rows n n).all fun ns => okD (toldD ns)) = true := by decide +kernel
theorem told_sh {ns : List Int} (h : Fall ns) : (toldD ns).showable = true ∧ (toldD ns).hasDict = false ∧ (toldD ns).depth ≤ 60 ∧ (toldD ns).shown.length ≤ sizeLine := by
  have h0 := h.sum0
  have hs := h.sum
  have := told_ok
  simp only [List.all_eq_true, List.mem_range] at this
  have := this ns.sum.toNat (by omega) ns (fall_in h (by omega))
  unfold okD at this
  simp only [Bool.and_eq_true, decide_eq_true_eq] at this
  obtain ⟨a1, a2, a3⟩ := sm_ok _ this.1.1
  have hz : (10000000 : Nat) ≤ sizeLine := by decide
  have := PyData.shown_le 64 (by decide) _ a3
  exact ⟨a1, a2, by omega, by omega⟩
end

/-! Data kept while the heap grows. -/

section
open PySem PySem.Spec PyProof.Rows L2 Gd
mutual
theorem dp_ext {K : PySem.W.Frag} {H H' : Hp} (e : Ext H H') : ∀ {d : PyData} {v : V}, Dp K H v d → Dp K H' v d
  | .none, _, h => by
    cases h
    exact .non
  | .bool b, _, h => by
    cases h
    exact .bl b
  | .int i, _, h => by
    cases h
    exact .int i
  | .str x, _, h => by
    cases h
    exact .str x
  | .list ds, _, h => by
    cases h with
    | lst hs ha => exact .lst (sqL_ext e hs) (dpAll_ext e ha)
  | .tuple ds, _, h => by
    cases h with
    | tup hs ha => exact .tup (sqT_ext e hs) (dpAll_ext e ha)
  | .dict _, _, h => by cases h
theorem dpAll_ext {K : PySem.W.Frag} {H H' : Hp} (e : Ext H H') : ∀ {ds : List PyData} {vs : List V}, DpAll K H vs ds → DpAll K H' vs ds
  | [], _, h => by
    cases h
    exact .nil
  | d :: ds, _, h => by
    cases h with
    | cons h t => exact .cons (dp_ext e h) (dpAll_ext e t)
end
theorem new_at {H : Hp} {p : Addr} {o : HO} (_ : H p = none) : upd H p o p = some o := upd_same
theorem dp_map {K : PySem.W.Frag} {H : Hp} {f : Nat → Int} : ∀ l : List Nat, DpAll K H (l.map fun i => V.int (f i)) (l.map fun i => PyData.int (f i))
  | [] => .nil
  | _ :: l => .cons (.int _) (dp_map l)
end

/-! The class: iter, len as list asks them. -/

section
open PySem PySem.Spec PyProof.Rows L2 Gd
section
variable {P : Program} {w : World} {K : PySem.W.Frag} {mg : Str → Option Value} {base : Heap} {f C t0 CN : Addr} {fd : FuncData}
theorem scItr : FnScope ["self"] ["self"] (defScope (cls 18)) := ⟨rfl, rfl, rfl, by decide +kernel, rfl, by decide +kernel, by decide +kernel⟩
def KindR (K : PySem.W.Frag) (C : Addr) (p n : Addr) (ys : List V) (H : Hp) : Prop := ∃ (t m : Addr) (ns : List Int), ys = ns.map V.int ∧ KindAt K C H p n t m ns
theorem ok_iter (F : Fun K "__iter__" "Kind.__iter__" (cls 18) f fd) (T : Txt K mg) (Cl : KC K mg C) : FnOk P w K mg base CX0 1 f fd ["self"] (spIt K (KindR K C)) := by
  refine F.ok scItr (fun vs H Q E h => ?_) (fun cdv A outer s H vs Q E hr h => ?_)
  · obtain ⟨p, n, ys, rfl, _⟩ := h
    rfl
  · obtain ⟨p, n, ys, rfl, ⟨t, m, ns, rfl, ⟨⟨dx, hp⟩, hn, ht, hm, hF⟩⟩, _, k⟩ := h
    refine ⟨_, pss_one (ps_ret (pe_callB call_iterT (by rfl) T.iter (by decide +kernel) (pa_cons (pe_fld (pv 0) rfl) pa_nil))), ?_⟩
    try dsimp only [cx_nox, cx_K]
    walk_at "rd"
    refine ⟨p, C, dx, _, _, rfl, hp, Cl.cl, Cl.noN, look1, ?_⟩
    walk_at "rd"
    exact ⟨n, _, rfl, hn.sq, k⟩
theorem scKlr : FnScope ["self"] ["self"] (defScope (cls 17)) := ⟨rfl, rfl, rfl, by decide +kernel, rfl, by decide +kernel, by decide +kernel⟩
theorem ok_klenR (F : Fun K "__len__" "Kind.__len__" (cls 17) f fd) (T : Txt K mg) (Cl : KC K mg C) : FnOk P w K mg base CX0 1 f fd ["self"] (spLn (KindR K C)) := by
  refine F.ok scKlr (fun vs H Q E h => ?_) (fun cdv A outer s H vs Q E hr h => ?_)
  · obtain ⟨p, n, ys, rfl, _⟩ := h
    rfl
  · obtain ⟨p, n, ys, rfl, ⟨t, m, ns, rfl, ⟨⟨dx, hp⟩, hn, ht, hm, hF⟩⟩, k⟩ := h
    refine ⟨_, pss_one (ps_ret (pe_callB call_len_seq (by rfl) T.len PySem.boot_len (pa_cons (pe_fld (pv 0) rfl) pa_nil))), ?_⟩
    try dsimp only [cx_nox, cx_K]
    walk_at "rd"
    refine ⟨p, C, dx, _, _, rfl, hp, Cl.cl, Cl.noN, look1, ?_⟩
    walk_at "rd"
    exact ⟨n, _, rfl, .inr hn.sq, k⟩
end
end

/-! What a kind tells. -/

section
open PySem PySem.Spec PyProof.Rows L2 Gd
section
variable {P : Program} {w : World} {K : PySem.W.Frag} {mg : Str → Option Value} {base : Heap} {f C t0 : Addr} {fd : FuncData}
theorem call_str6 {X : Cx} {k j : Nat} {sp : Sp} (D : Met1 X.prog X.w X.K X.mg X.base CX0 k C "__str__" ["self"] sp) (hr : Room j X.A) (hj : k + 2 ≤ j) : CallR X (.type "str") (rStrO C sp X0) := by
  obtain ⟨f, fd, M, _, F, hb⟩ := D.ex
  exact call_strO M F (hr.mono hj) hb (fun _ => quiet0)
theorem call_len6 {X : Cx} {k j : Nat} {sp : Sp} (D : Met1 X.prog X.w X.K X.mg X.base CX0 k C "__len__" ["self"] sp) (hr : Room j X.A) (hj : k + 1 ≤ j) : CallR X (.builtin "len") (rLenO C sp X0) := by
  obtain ⟨f, fd, M, _, F, hb⟩ := D.ex
  exact call_lenO M F (hr.mono hj) hb (fun _ => quiet0)
theorem call_list6 {X : Cx} {k j : Nat} {R : Addr → Addr → List V → Hp → Prop} (DI : Met1 X.prog X.w X.K X.mg X.base CX0 k C "__iter__" ["self"] (spIt X.K R)) (DL : Met1 X.prog X.w X.K X.mg X.base CX0 k C "__len__" ["self"] (spLn R)) (hr : Room j X.A) (hj : k + 5 ≤ j) : CallR X (.type "list") (rListO X.K C R) := by
  obtain ⟨fi, fdI, MI, _, FI, bI⟩ := DI.ex
  obtain ⟨fl, fdL, ML, _, FL, bL⟩ := DL.ex
  exact call_listO ⟨MI, ML⟩ FI bI FL bL (hr.mono hj)
theorem reps_is (ns : List Int) : reps ns = (repN ns).map fun x => ((Sum.inl x : L2.Key), V.int (ns.count x : Nat)) := reps_fold (fun x => V.int (ns.count x : Nat)) ns.reverse []
theorem dp_reps {H : Hp} {c : Int → Nat} : ∀ {ts : List Addr} {ks : List Int}, Paired (fun (t : Addr) (q : L2.Key × V) => H t = some (.tup [kV q.1, q.2])) ts (ks.map fun x => ((Sum.inl x : L2.Key), V.int (c x : Nat))) → DpAll K H (ts.map V.ref) (ks.map fun k => .tuple [.int k, .int (c k : Nat)])
  | [], [], _ => .nil
  | t :: ts, k :: ks, h => by
    cases h with
    | cons h q => exact .cons (.tup (SqT.of h) (.cons (.int k) (.cons (.int _) .nil))) (dp_reps q)
/-- the class, as this law asks it -/
structure Api6 (P : Program) (w : World) (K : PySem.W.Frag) (mg : Str → Option Value) (base : Heap) (C : Addr) : Prop where
  numbers : Pro1 P w K mg base 1 C "numbers" (spGet K C fun n _ => .ref n)
  size : Pro1 P w K mg base 1 C "size" (spGet K C fun _ ns => .int ns.sum)
  rank : Pro1 P w K mg base 1 C "rank" (spGet K C fun _ ns => .int (ns.length : Int))
  height : Pro1 P w K mg base 2 C "height" (spGet K C fun _ ns => .int (ns.getD 0 0))
  slant : Pro1 P w K mg base 2 C "slant" (spGet K C fun _ ns => .int (slantM ns))
  repeats : Pro1 P w K mg base 1 C "repeats" (spRep K C)
  isFlat : Pro1 P w K mg base 4 C "is_flat" (spGet K C fun _ ns => .bl (decide (ns.getD 0 0 ≤ 1)))
  isLine : Pro1 P w K mg base 1 C "is_line" (spGet K C fun _ ns => .bl (decide ((ns.length : Int) ≤ 1)))
  turned : Pro1 P w K mg base 7 C "turned" (spMakes K C turnM)
  len : Met1 P w K mg base CX0 1 C "__len__" ["self"] (spLn (KindR K C))
  iter : Met1 P w K mg base CX0 1 C "__iter__" ["self"] (spIt K (KindR K C))
  str : Met1 P w K mg base CX0 2 C "__str__" ["self"] (spKSt K C)
  item : Met1 P w K mg base CX0 5 C "__getitem__" ["self", "index"] (spItem6 K C)
abbrev sTold6 : Stmt := top 38
theorem scTold6 : FnScope ["_law_kind_here", "_law_found", "_law_at"] ["_law_kind_here"] (defScope sTold6) := ⟨rfl, rfl, rfl, by decide +kernel, rfl, by decide +kernel, by decide +kernel⟩
def spTold6 (K : PySem.W.Frag) (C : Addr) : Sp := fun vs H Q _ => ∃ (p n t m : Addr) (ns : List Int), vs = [.ref p] ∧ KindAt K C H p n t m ns ∧ ∀ H' L, Ext H H' → Dp K H' (.ref L) (toldD ns) → Q (.ref L) H'
theorem ok_told6 (F : Fun K "_law_told" "_law_told" sTold6 f fd) (T : Txt K mg) (Cl : KC K mg C) (A : Api6 P w K mg base C) : FnOk P w K mg base CX0 9 f fd ["_law_kind_here"] (spTold6 K C) := by
  refine F.ok scTold6 (fun vs H Q E h => ?_) (fun cdv Ar outer s H vs Q E hr h => ?_)
  · obtain ⟨p, n, t, m, ns, rfl, _⟩ := h
    rfl
  · obtain ⟨p, n, t, m, ns, rfl, hk, k⟩ := h
    refine ⟨_, pss_cons (ps_set (i := 1) scTold6.nd rfl (Or.inl rfl) (pe_lst (pa_cons (pe_pro1 Cl.cl A.numbers hr (by decide) (pv 0)) (pa_cons (pe_pro1 Cl.cl A.size hr (by decide) (pv 0)) (pa_cons (pe_pro1 Cl.cl A.rank hr (by decide) (pv 0)) (pa_cons (pe_pro1 Cl.cl A.height hr (by decide) (pv 0)) (pa_cons (pe_pro1 Cl.cl A.slant hr (by decide) (pv 0)) (pa_cons (LiI.pe_listItems rfl (pe_pro1 Cl.cl A.repeats hr (by decide) (pv 0)) (by rfl) T.list (by decide +kernel)) (pa_cons (pe_pro1 Cl.cl A.isFlat hr (by decide) (pv 0)) (pa_cons (pe_pro1 Cl.cl A.isLine hr (by decide) (pv 0)) pa_nil))))))))))
      (pss_one (ps_ret (pe_op op_cat (pv 1) (pe_lst (pa_cons (pe_callB (call_len6 A.len hr (by decide)) (by rfl) T.len PySem.boot_len (pa_cons (pv 0) pa_nil)) (pa_cons (pe_callTy (call_list6 A.iter A.len hr (by decide)) (by rfl) T.list (by decide +kernel) (pa_cons (pv 0) pa_nil)) (pa_cons (pe_callTy (call_str6 A.str hr (by decide)) (by rfl) T.str (by decide +kernel) (pa_cons (pv 0) pa_nil)) (pa_cons (pe_lc (own := [("_law_at", 2)]) (g := gName 2) (tt := tYes) rfl scTold6.nd (pi_range1 (by rfl) T.range (pa_cons pe_int pa_nil)) (blkOk_by (N := ["_law_kind_here", "_law_found", "_law_at"]) (sc := defScope sTold6) (by decide +kernel)) (fun _ _ _ _ _ => pg_name (i := 2) scTold6.nd rfl (Or.inl rfl)) (fun _ _ _ _ _ => pts_nil) (fun _ _ _ _ _ => by exact (pe_it1 A.item (E := fun _ => X0) (fun _ => quiet0) hr (by decide) (pv 0) (pv 2)))) (pa_cons (pe_it1 A.item (E := fun _ => X0) (fun _ => quiet0) hr (by decide) (pv 0) (pe_op op_pow pe_int pe_int)) (pa_cons (pe_pro1 Cl.cl A.numbers hr (by decide) (pe_pro1 Cl.cl A.turned hr (by decide) (pv 0))) pa_nil)))))))))), ?_⟩
    try dsimp only [cx_nox, cx_K]
    have sz : (100000 : Nat) < sizeLine := by decide
    have hlen := hk.fall.len
    obtain ⟨dx, hpi⟩ := id hk.ins
    have get : ∀ {H1 : Hp} {g : Addr → List Int → V} {Q1 : VK}, Ext H H1 → (∀ H2, Ext H1 H2 → Q1 (g n ns) H2) → ∃ a dx fs, V.ref p = V.ref a ∧ H1 a = some (HO.ins C dx fs) ∧ spGet K C g [V.ref a] H1 Q1 X0 := fun {H1 g Q1} e q =>
      ⟨p, dx, _, rfl, e _ _ hpi, p, n, t, m, ns, rfl, hk.ext e, fun H2 e2 => q H2 e2⟩
    walk_at "rd"
    refine get (fun _ _ z => z) fun H1 e1 => ?_
    walk_at "rd"
    refine get e1 fun H2 e2 => ?_
    have e02 := Ext.trans e1 e2
    walk_at "rd"
    refine get e02 fun H3 e3 => ?_
    have e03 := Ext.trans e02 e3
    walk_at "rd"
    refine get e03 fun H4 e4 => ?_
    have e04 := Ext.trans e03 e4
    walk_at "rd"
    refine get e04 fun H5 e5 => ?_
    have e05 := Ext.trans e04 e5
    walk_at "rd"
    unfold LiI.tListItems
    walk_at "rd"
    refine ⟨p, dx, _, rfl, e05 _ _ hpi, p, n, t, m, ns, rfl, hk.ext e05, fun H6 D e6 hD0 hD => ?_⟩
    have e06 := Ext.trans e05 e6
    unfold LiI.rItemsL
    rw [reps_is] at hD
    refine ⟨D, _, rfl, hD, fun H7 L7 ts e7 _ _ _ hL7 hts => ?_⟩
    have e07 : Ext H H7 := Ext.trans e06 e7
    have d7 : Dp K H7 (.ref L7) (.list (pairD ns)) := .lst (SqL.of hL7) (dp_reps hts)
    walk_at "rd"
    refine get e07 fun H8 e8 => ?_
    have e08 := Ext.trans e07 e8
    walk_at "rd"
    refine get e08 fun H9 e9 => ?_
    have e09 := Ext.trans e08 e9
    walk_at "rd"
    refine ⟨by show 8 ≤ sizeLine; decide, fun La hLa => ?_⟩
    have eA := Ext.new (o := HO.lst [V.ref n, V.int ns.sum, V.int (ns.length : Int), V.int (ns.getD 0 0), V.int (slantM ns), V.ref L7, V.bl (decide (ns.getD 0 0 ≤ 1)), V.bl (decide ((ns.length : Int) ≤ 1))]) hLa
    have hLa' : upd H9 La (HO.lst [V.ref n, V.int ns.sum, V.int (ns.length : Int), V.int (ns.getD 0 0), V.int (slantM ns), V.ref L7, V.bl (decide (ns.getD 0 0 ≤ 1)), V.bl (decide ((ns.length : Int) ≤ 1))]) La = some (HO.lst [V.ref n, V.int ns.sum, V.int (ns.length : Int), V.int (ns.getD 0 0), V.int (slantM ns), V.ref L7, V.bl (decide (ns.getD 0 0 ≤ 1)), V.bl (decide ((ns.length : Int) ≤ 1))]) := upd_same
    have e7A := Ext.trans e8 (Ext.trans e9 eA)
    have e0A := Ext.trans e09 eA
    generalize upd H9 La _ = HA at eA hLa' e7A e0A ⊢
    walk_at "rd"
    refine ⟨p, dx, _, rfl, e0A _ _ hpi, p, n, _, rfl, ⟨t, m, ns, rfl, hk.ext e0A⟩, _, rfl, by omega, by rw [List.length_map]; omega, ?_⟩
    rw [List.length_map]
    walk_at "rd"
    refine ⟨p, dx, _, n, ns.map V.int, rfl, e0A _ _ hpi, fun H' e => ⟨t, m, ns, rfl, (hk.ext e0A).ext e⟩, (hk.ext e0A).num.sq, by rw [List.length_map]; omega, fun Lb HB eB hLb0 hLb => ?_⟩
    have eAB : Ext HA HB := eB
    have e0B := Ext.trans e0A eAB
    walk_at "rd"
    refine ⟨p, dx, _, rfl, e0B _ _ hpi, p, n, t, m, ns, rfl, hk.ext e0B, fun HC eC => ⟨_, rfl, ?_⟩⟩
    have e0C := Ext.trans e0B eC
    walk_at "rd"
    refine g_lc (g_rng1 ?_)
    walk_at "rd"
    refine ⟨by decide, by decide, ?_⟩
    refine lcR (small (by decide)) (fun _ => true) (fun i => .int (ns.getD i 0)) (fun i H' hi e Qe Qn he hn => ?_) (fun HD Lc eD hLc0 hLc => ?_)
    · refine ⟨rfl, ?_⟩
      unfold tIxO
      walk_at "rd"
      rw [show (0 : Int) + (i : Int) = (i : Int) by omega]
      have hi14 : i < 14 := hi
      refine ⟨p, dx, _, rfl, e _ _ (e0C _ _ hpi), p, n, t, m, ns, i, rfl, (hk.ext e0C).ext e, ?_, he _ (fun _ _ z => z) rfl⟩
      exact Int.lt_trans (show (i : Int) < 14 by omega) (by decide +kernel)
    rw [idx_all] at hLc
    have e0D := Ext.trans e0C eD
    unfold tIxO
    walk_at "rd"
    have hbig : (((10 : Int) ^ (20 : Int).toNat).toNat : Int) = 10 ^ (20 : Int).toNat := by decide +kernel
    refine ⟨10, 20, rfl, rfl, ⟨by decide, by decide, by decide⟩, p, dx, _, rfl, e0D _ _ hpi, p, n, t, m, ns, ((10 : Int) ^ (20 : Int).toNat).toNat, by rw [hbig], hk.ext e0D, by decide +kernel, ?_⟩
    have hfar : ns.getD ((10 : Int) ^ (20 : Int).toNat).toNat 0 = 0 := by
      have : (1000 : Nat) ≤ ((10 : Int) ^ (20 : Int).toNat).toNat := by decide +kernel
      rw [List.getD_eq_getElem?_getD, List.getElem?_eq_none (by omega)]
      rfl
    rw [hfar]
    walk_at "rd"
    refine ⟨p, dx, _, rfl, e0D _ _ hpi, p, n, t, m, ns, rfl, hk.ext e0D, fun HE p2 n2 t2 m2 eE hk2 => ?_⟩
    have e0E := Ext.trans e0D eE
    obtain ⟨dx2, hpi2⟩ := id hk2.ins
    walk_at "rd"
    refine ⟨p2, dx2, _, rfl, hpi2, p2, n2, t2, m2, _, rfl, hk2, fun HF eF => ?_⟩
    have e0F := Ext.trans e0E eF
    walk_at "rd"
    refine ⟨by show 6 ≤ sizeLine; decide, fun Ld hLd => ?_⟩
    have eG := Ext.new (o := HO.lst [V.int (ns.length : Int), V.ref Lb, V.str (kindTx ns), V.ref Lc, V.int 0, V.ref n2]) hLd
    have hG := new_at (o := HO.lst [V.int (ns.length : Int), V.ref Lb, V.str (kindTx ns), V.ref Lc, V.int 0, V.ref n2]) hLd
    have eFG : Ext HE (upd HF Ld (HO.lst [V.int (ns.length : Int), V.ref Lb, V.str (kindTx ns), V.ref Lc, V.int 0, V.ref n2])) := Ext.trans eF eG
    generalize upd HF Ld _ = HG at eG hG eFG ⊢
    have eDG := Ext.trans eE eFG
    have eCG := Ext.trans eD eDG
    have eBG := Ext.trans eC eCG
    have eAG := Ext.trans eAB eBG
    have e0G := Ext.trans e0A eAG
    refine ⟨La, Ld, _, _, rfl, rfl, eAG _ _ hLa', hG, by show 8 + 6 ≤ sizeLine; decide, fun Le hLe => ?_⟩
    have eH := Ext.new (o := HO.lst ([V.ref n, V.int ns.sum, V.int (ns.length : Int), V.int (ns.getD 0 0), V.int (slantM ns), V.ref L7, V.bl (decide (ns.getD 0 0 ≤ 1)), V.bl (decide ((ns.length : Int) ≤ 1))] ++ [V.int (ns.length : Int), V.ref Lb, V.str (kindTx ns), V.ref Lc, V.int 0, V.ref n2])) hLe
    have hH := new_at (o := HO.lst ([V.ref n, V.int ns.sum, V.int (ns.length : Int), V.int (ns.getD 0 0), V.int (slantM ns), V.ref L7, V.bl (decide (ns.getD 0 0 ≤ 1)), V.bl (decide ((ns.length : Int) ≤ 1))] ++ [V.int (ns.length : Int), V.ref Lb, V.str (kindTx ns), V.ref Lc, V.int 0, V.ref n2])) hLe
    generalize upd HG Le _ = HI at eH hH ⊢
    have eBI := Ext.trans eBG eH
    have eCI := Ext.trans eCG eH
    have eDI := Ext.trans eDG eH
    have eFI := Ext.trans eFG eH
    have e7I := Ext.trans e7A (Ext.trans eAG eH)
    have e0I := Ext.trans e0G eH
    refine k HI Le e0I (.lst (SqL.of hH) ?_)
    have dc : DpAll K HI ((List.range (Int.toNat 14)).map fun i => V.int (ns.getD i 0)) ((List.range 14).map fun i => PyData.int (ns.getD i 0)) := dp_map (List.range 14)
    exact .cons (.tup (hk.ext e0I).num.sq (pdp ns)) (.cons (.int _) (.cons (.int _) (.cons (.int _) (.cons (.int _) (.cons (dp_ext e7I d7) (.cons (.bl _) (.cons (.bl _)
      (.cons (.int _) (.cons (.lst (SqL.of (eBI _ _ hLb)) (pdp ns)) (.cons (.str _) (.cons (.lst (SqL.of (eDI _ _ hLc)) dc) (.cons (.int _) (.cons (.tup (hk2.ext eFI).num.sq (pdp _)) .nil)))))))))))))
end
end

/-! What a kind must tell. -/

section
open PySem PySem.Spec PyProof.Rows L2 Gd
theorem pe_bmTK {X : Cx} {K : PySem.W.Frag} (hK : X.K = K) {o e : Expr} {es : List Expr} {to : TE} {t : TA} {name : Str} {apos cpos : Pos} {id : String} {r : V → List V → Hp → VK → Prop} (pa : PlainAttrs "tuple") (slot : Slot "tuple" name id) (hty : typeOf (.builtin id) = pure (.type "method_descriptor")) (hm : MtR X id r) (ho : PE X o to) (ha : PA X (e :: es) t)
    (hbase : attributeBase o name X.env (eval o X.env) = eval o X.env := by rfl)
    (hfew : ((backTo cpos (starEach (e :: es) X.env)).all (fun x => !x.1) && (backToKw cpos (keywordEach [] X.env)).all (fun x => x.1.isSome)
      && decide ((e :: es).length + ([] : List Keyword).length + (if ([] : List Keyword).isEmpty then 0 else 1) < 30)) = true := by rfl)
    (hline : (apos.endLine == cpos.line) = true := by rfl) (hs : starEach (e :: es) X.env = (false, eval e X.env) :: starEach es X.env := by rfl) (hplain : (backTo cpos (starEach es X.env)).any (·.1) = false := by rfl) :
    PE X (.Call (.Attribute o name apos) (e :: es) [] cpos) (tBMT K r to t) := by
  subst hK
  exact pe_bmT pa slot hty hm ho ha hbase hfew hline hs hplain
theorem iteT6 {c : Bool} {A B : Prop} (h : c = true) (k : A) : if c = true then A else B := by rw [if_pos h]; exact k
theorem iteF6 {c : Bool} {A B : Prop} (h : c = false) (k : B) : if c = true then A else B := by rw [if_neg (by rw [h]; decide)]; exact k
/-- a number and how often it stands -/
def CntT (ns : List Int) (H : Hp) (v : V) (k : Int) : Prop := ∃ p, v = .ref p ∧ H p = some (.tup [.int k, .int (ns.count k : Nat)])
theorem dp_cnt {K : PySem.W.Frag} {H : Hp} {ns : List Int} : ∀ {ys : List V} {ks : List Int}, Paired (CntT ns H) ys ks → DpAll K H ys (ks.map fun k => .tuple [.int k, .int (ns.count k : Nat)])
  | [], [], _ => .nil
  | y :: ys, k :: ks, h => by
    cases h with
    | cons h t =>
      obtain ⟨p, rfl, h⟩ := h
      exact .cons (.tup (SqT.of h) (.cons (.int k) (.cons (.int _) .nil))) (dp_cnt t)
def notOne : V → Bool
  | .int n => !decide (V.int n = V.int 1)
  | _ => false
theorem flat_of {ns : List Int} (h : Fall ns) : ((ns.map V.int).filter notOne).isEmpty = decide (ns.getD 0 0 ≤ 1) := by
  have e : notOne ∘ V.int = fun n : Int => !decide (n = 1) := by
    funext n
    show (!decide (V.int n = V.int 1)) = _
    congr 1
    rw [decide_eq_decide]
    exact ⟨fun h => V.int.inj h, fun h => by rw [h]⟩
  rw [List.filter_map, e, List.isEmpty_map]
  have h0 := h.at 0
  by_cases hc : ns.getD 0 0 ≤ 1
  · rw [decide_eq_true hc, List.isEmpty_iff, List.filter_eq_nil_iff]
    intro n hn
    have b1 := h.pos n hn
    have b2 := h.head n hn
    simp
    omega
  · rw [decide_eq_false hc]
    cases ns with
    | nil => exact absurd (show ([] : List Int).getD 0 0 ≤ 1 by decide) hc
    | cons x r =>
      have hx : ¬ x ≤ 1 := hc
      rw [List.filter_cons, if_pos (by simp; omega)]
      rfl
section
variable {P : Program} {w : World} {K : PySem.W.Frag} {mg : Str → Option Value} {base : Heap} {f C t0 : Addr} {fd : FuncData}
abbrev sDue6 : Stmt := top 39
theorem scDue6 : FnScope ["_law_numbers", "_law_repeats", "_law_number", "_law_found", "_law_more", "_law_at"] ["_law_numbers"] (defScope sDue6) := ⟨rfl, rfl, rfl, by decide +kernel, rfl, by decide +kernel, by decide +kernel⟩
def spDue6 (K : PySem.W.Frag) : Sp := fun vs H Q _ => ∃ (a : Addr) (ns : List Int), vs = [.ref a] ∧ TupX K H a (ns.map V.int) ∧ Fall ns ∧ ∀ H' L, Ext H H' → Dp K H' (.ref L) (toldD ns) → Q (.ref L) H'
theorem ok_due6 (F : Fun K "_law_due" "_law_due" sDue6 f fd) (T : Txt K mg) (sSet : mg "set" = none) (Sl : Def1 P w K mg base CX0 1 "_law_slant" ["_law_kind_here"] (spSlant K)) (Tx : Def1 P w K mg base CX0 1 "_law_kind_text" ["_law_kind_here"] (spFTx K)) (Tu : Def1 P w K mg base CX0 1 "_law_turned" ["_law_kind_here"] (spLTu K)) :
    FnOk P w K mg base CX0 2 f fd ["_law_numbers"] (spDue6 K) := by
  refine F.ok scDue6 (fun vs H Q E h => ?_) (fun cdv Ar outer s H vs Q E hr h => ?_)
  · obtain ⟨a, ns, rfl, _⟩ := h
    rfl
  · obtain ⟨a, ns, rfl, ht, hF, k⟩ := h
    refine ⟨_, pss_cons (ps_setLc (i := 1) (own := [("_law_number", 2)]) (g := gName 2) (tt := tYes) rfl scDue6.nd rfl rfl (sw_true rfl rfl rfl (by decide +kernel)) (pi_list (pe_callB (cr_sortedSet rfl) (by rfl) T.sorted (by decide +kernel) (pa_cons (pe_callTy (cr_setT rfl) (by rfl) sSet (by decide +kernel) (pa_cons (pv 0) pa_nil)) pa_nil))) (blkOk_by (N := ["_law_numbers", "_law_repeats", "_law_number", "_law_found", "_law_more", "_law_at"]) (sc := defScope sDue6) (by decide +kernel)) (fun _ _ _ _ _ => pg_name (i := 2) scDue6.nd rfl (Or.inl rfl)) (fun _ _ _ _ _ => pts_nil) (fun _ _ _ _ _ => by exact (pe_tup (pa_cons (pv 2) (pa_cons (pe_bmTK (K := K) (r := rCntT K) (by rfl) PySem.F.plainAttrs_tuple PySem.F.slot_tuple_count PySem.F.type_tuple_count mt_tcount (pv 0) (pa_cons (pv 2) pa_nil)) pa_nil)))))
      (pss_cons (ps_set (i := 3) scDue6.nd rfl (Or.inl rfl) (pe_lst (pa_cons (pv 0) (pa_cons (pe_callB (call_sumS rfl) (by rfl) T.sum (by decide +kernel) (pa_cons (pv 0) pa_nil)) (pa_cons (pe_callB call_len_seq (by rfl) T.len PySem.boot_len (pa_cons (pv 0) pa_nil)) (pa_cons (pe_callB (cr_maxT rfl) (by rfl) T.max (by decide +kernel) (pa_cons (pe_op op_catA (pe_tup (pa_cons pe_int pa_nil)) (pv 0)) pa_nil)) (pa_cons (pe_def Sl hr (by decide) (by rfl) (pa_cons (pv 0) pa_nil)) (pa_cons (pv 1) pa_nil))))))))
      (pss_cons (ps_set (i := 3) scDue6.nd rfl (Or.inl rfl) (pe_op op_cat (pv 3) (pe_lst (pa_cons (pe_cmpR (op_eqNil (Nat.lt_of_le_of_lt (Nat.le_add_right _ _) hr.units)) (pe_lc (own := [("_law_number", 2)]) (g := gName 2) rfl scDue6.nd (pi_tup (pv 0)) (blkOk_by (N := ["_law_numbers", "_law_repeats", "_law_number", "_law_found", "_law_more", "_law_at"]) (sc := defScope sDue6) (by decide +kernel)) (fun _ _ _ _ _ => pg_name (i := 2) scDue6.nd rfl (Or.inl rfl)) (fun _ _ _ _ _ => pts_one (pt_cmpR op_ne (pv 2) pe_int (nomark _))) (fun _ _ _ _ _ => by exact (pv 2))) (pe_lst pa_nil) (nomark _)) (pa_cons (pe_cmpR op_lt (pe_callB call_len_seq (by rfl) T.len PySem.boot_len (pa_cons (pv 0) pa_nil)) pe_int (nomark _)) (pa_cons (pe_callB call_len_seq (by rfl) T.len PySem.boot_len (pa_cons (pv 0) pa_nil)) (pa_cons (pe_callTy call_list_of (by rfl) T.list (by decide +kernel) (pa_cons (pv 0) pa_nil)) pa_nil)))))))
      (pss_cons (ps_setLc (i := 4) (own := [("_law_at", 5)]) (g := gName 5) (tt := tYes) rfl scDue6.nd rfl rfl (sw_true rfl rfl rfl (by decide +kernel)) (pi_range1 (by rfl) T.range (pa_cons pe_int pa_nil)) (blkOk_by (N := ["_law_numbers", "_law_repeats", "_law_number", "_law_found", "_law_more", "_law_at"]) (sc := defScope sDue6) (by decide +kernel)) (fun _ _ _ _ _ => pg_name (i := 5) scDue6.nd rfl (Or.inl rfl)) (fun _ _ _ _ _ => pts_nil) (fun _ _ _ _ _ => by exact (pe_ifExp (pt_cmpR op_lt (pv 5) (pe_callB (r := rLenS K) call_len_seq (by rfl) T.len PySem.boot_len (pa_cons (pv 0) pa_nil)) (nomark _)) (pe_ix (r := rIxT K) ix_tup (pv 0) (pv 5) (fun _ _ => rfl)) pe_int)))
      (pss_one (ps_ret (pe_op op_cat (pv 3) (pe_lst (pa_cons (pe_def Tx hr (by decide) (by rfl) (pa_cons (pv 0) pa_nil)) (pa_cons (pv 4) (pa_cons pe_int (pa_cons (pe_def Tu hr (by decide) (by rfl) (pa_cons (pv 0) pa_nil)) pa_nil))))))))))), ?_⟩
    try dsimp only [cx_nox, cx_K]
    have sz : (100000 : Nat) < sizeLine := by decide
    have hlen := hF.len
    walk_at "rd"
    refine g_lc (g_ilist ?_)
    walk_at "rd"
    refine ⟨a, ns, rfl, ht.sq, by omega, fun S c hS hc => ?_⟩
    walk_at "rd"
    refine ⟨S, _, c, rfl, upd_same, by omega, fun ks L hup hks hkl hL => ?_⟩
    have eks : ks = repN ns := up_uniq hup (repN_up hF) fun k => by rw [hks, repN_mem, decide_eq_true_iff]
    subst eks
    have e1 := Ext.trans (Ext.new hS) (Ext.new (o := HO.lst ((repN ns).map V.int)) hL)
    have hL1 := new_at (o := HO.lst ((repN ns).map V.int)) hL
    generalize upd (upd H S _) L (HO.lst ((repN ns).map V.int)) = H1 at e1 hL1 ⊢
    have h1 := ht.ext e1
    refine lcPL (as := repN ns) (SqL.of hL1) (List.length_map ..) (by rw [List.length_map]; omega) 0 (fun _ => true) (fun k => k) (CntT ns) (fun H H' y b e r => ?_) (fun i x y H' hx hy e Qe Qn he hn => ?_) (fun H2 D ys e2 hD0 hD hys => ?_)
    · obtain ⟨p, rfl, r⟩ := r
      exact ⟨p, rfl, e _ _ (fun _ z => by cases z) r⟩
    · rw [List.getElem?_map, hy] at hx
      cases hx
      refine ⟨rfl, ?_⟩
      walk_at "rd"
      refine g_bmT ?_
      walk_at "rd"
      refine ⟨⟨a, _, rfl, h1.ext e⟩, ?_⟩
      walk_at "rd"
      refine ⟨a, ns, _, rfl, rfl, (h1.ext e).sq, ?_⟩
      walk_at "rd"
      refine ⟨by show 2 ≤ sizeLine; decide, fun u hu => ?_⟩
      exact he _ _ (Ext.new hu) rfl ⟨u, rfl, upd_same⟩
    rw [List.filter_eq_self.mpr (fun _ _ => rfl), List.map_id'] at hys
    have dR : Dp K H2 (.ref D) (.list (pairD ns)) := .lst (SqL.of hD) (dp_cnt hys)
    have e02 := Ext.trans e1 e2
    have h2 := ht.ext e02
    walk_at "rd"
    refine ⟨a, ns, rfl, .inr h2.sq, ?_⟩
    walk_at "rd"
    refine ⟨a, _, rfl, .inr h2.sq, ?_⟩
    rw [List.length_map]
    walk_at "rd"
    refine ⟨by show 1 ≤ sizeLine; decide, fun o ho => ?_⟩
    have eo := Ext.new (o := HO.tup [V.int 0]) ho
    walk_at "rd"
    refine g_catT6 (SqT.of upd_same) (h2.ext eo).sq (by rw [List.length_map]; simp; omega) fun H3 q e3 hq => ?_
    have e03 := Ext.trans e02 (Ext.trans eo e3)
    have h3 := ht.ext e03
    have dR3 := dp_ext (Ext.trans eo e3) dR
    walk_at "rd"
    refine ⟨q, 0 :: ns, rfl, hq, by simp, fun m hm hmax => ?_⟩
    have hm0 : m = ns.getD 0 0 := by
      have h0 := (hF.at 0).1
      have a1 : ns.getD 0 0 ≤ m := by
        cases ns with
        | nil => exact hmax 0 (by simp)
        | cons x r => exact hmax x (by simp)
      rcases List.mem_cons.mp hm with z | z
      · omega
      · have := hF.head m z
        omega
    subst hm0
    walk_at "rd"
    refine ⟨a, ns, rfl, h3.sq, hF, fun H4 e4 => ?_⟩
    have e04 := Ext.trans e03 e4
    have h4 := ht.ext e04
    walk_at "rd"
    refine ⟨by show 6 ≤ sizeLine; decide, fun La hLa => ?_⟩
    have eA := Ext.new (o := HO.lst [V.ref a, V.int ns.sum, V.int (ns.length : Int), V.int (ns.getD 0 0), V.int (slantM ns), V.ref D]) hLa
    have hA : upd H4 La (HO.lst [V.ref a, V.int ns.sum, V.int (ns.length : Int), V.int (ns.getD 0 0), V.int (slantM ns), V.ref D]) La = some (HO.lst [V.ref a, V.int ns.sum, V.int (ns.length : Int), V.int (ns.getD 0 0), V.int (slantM ns), V.ref D]) := upd_same
    have dRA := dp_ext (Ext.trans e4 eA) dR3
    have e0A := Ext.trans e04 eA
    generalize upd H4 La _ = HA at eA hA dRA e0A ⊢
    have hTA := ht.ext e0A
    walk_at "rd"
    refine g_lc (g_itup ?_)
    walk_at "rd"
    refine lcT hTA.sq (small (by rw [List.length_map]; omega)) notOne id (fun x H' hx e Qe Qn he hn => ?_) (fun HB Lb eB hLb0 hLb => ?_)
    · obtain ⟨q, hq, rfl⟩ := List.mem_map.mp hx
      walk_at "rd"
      refine ⟨rfl, ?_⟩
      walk_at "rd"
      refine ⟨rfl, _, rfl, ?_⟩
      cases hb : notOne (V.int q) with
      | true =>
        refine iteT6 (show notOne (V.int q) = true from hb) ?_
        walk_at "rd"
        exact he _ (fun _ _ z => z) hb
      | false => exact iteF6 (show notOne (V.int q) = false from hb) (hn _ (fun _ _ z => z) hb)
    rw [List.map_id] at hLb
    walk_at "rd"
    refine ⟨Nat.zero_le _, fun N hN => ?_⟩
    have eN := Ext.new (o := HO.lst []) hN
    refine ⟨Lb, N, _, rfl, rfl, SqL.of (eN _ _ hLb), SqL.of upd_same, ?_⟩
    rw [flat_of hF]
    have eAN := Ext.trans eB eN
    generalize upd HB N _ = HN at eAN ⊢
    have hTN := hTA.ext eAN
    walk_at "rd"
    refine ⟨a, _, rfl, .inr hTN.sq, ?_⟩
    rw [List.length_map]
    walk_at "rd"
    refine ⟨a, _, rfl, .inr hTN.sq, ?_⟩
    rw [List.length_map]
    walk_at "rd"
    refine ⟨a, _, rfl, .inr hTN.sq, fun Lc hLc => ?_⟩
    have eC := Ext.new (o := HO.lst (ns.map V.int)) hLc
    have hC := new_at (o := HO.lst (ns.map V.int)) hLc
    generalize upd HN Lc _ = HC at eC hC ⊢
    walk_at "rd"
    refine ⟨by show 4 ≤ sizeLine; decide, fun Ld hLd => ?_⟩
    have eD := Ext.new (o := HO.lst [V.bl (decide (ns.getD 0 0 ≤ 1)), V.bl (decide ((ns.length : Int) < 2)), V.int (ns.length : Int), V.ref Lc]) hLd
    have hD2 := new_at (o := HO.lst [V.bl (decide (ns.getD 0 0 ≤ 1)), V.bl (decide ((ns.length : Int) < 2)), V.int (ns.length : Int), V.ref Lc]) hLd
    generalize upd HC Ld _ = HD at eD hD2 ⊢
    have eAD := Ext.trans eAN (Ext.trans eC eD)
    refine ⟨La, Ld, _, _, rfl, rfl, eAD _ _ hA, hD2, by show 6 + 4 ≤ sizeLine; decide, fun Le hLe => ?_⟩
    have eE := Ext.new (o := HO.lst ([V.ref a, V.int ns.sum, V.int (ns.length : Int), V.int (ns.getD 0 0), V.int (slantM ns), V.ref D] ++ [V.bl (decide (ns.getD 0 0 ≤ 1)), V.bl (decide ((ns.length : Int) < 2)), V.int (ns.length : Int), V.ref Lc])) hLe
    have hE := new_at (o := HO.lst ([V.ref a, V.int ns.sum, V.int (ns.length : Int), V.int (ns.getD 0 0), V.int (slantM ns), V.ref D] ++ [V.bl (decide (ns.getD 0 0 ≤ 1)), V.bl (decide ((ns.length : Int) < 2)), V.int (ns.length : Int), V.ref Lc])) hLe
    generalize upd HD Le _ = HE at eE hE ⊢
    have eAE := Ext.trans eAD eE
    have e0E := Ext.trans e0A eAE
    have hCE := eE _ _ (eD _ _ hC)
    have dRE := dp_ext eAE dRA
    have hTE := ht.ext e0E
    walk_at "rd"
    refine g_lc (g_rng1 ?_)
    walk_at "rd"
    refine ⟨by decide, by decide, ?_⟩
    refine lcR (small (by decide)) (fun _ => true) (fun i => .int (ns.getD i 0)) (fun i H' hi e Qe Qn he hn => ?_) (fun HG Lg eG hLg0 hLg => ?_)
    · refine ⟨rfl, ?_⟩
      walk_at "rd"
      refine ⟨a, _, rfl, .inr (hTE.ext e).sq, ?_⟩
      walk_at "rd"
      rw [List.length_map, show (0 : Int) + (i : Int) = (i : Int) by omega]
      refine ite2 (fun h1 => ?_) (fun h1 => ?_)
      · have h2 := of_decide_eq_true h1
        have hlt : i < ns.length := by omega
        walk_at "rd"
        exact g_ixT (hTE.ext e).sq (atI_nat (getI hlt)) (he _ (fun _ _ z => z) rfl)
      · have hlt : ¬ i < ns.length := fun z => h1 (decide_eq_true (by omega))
        have := he _ (fun _ _ z => z) rfl
        rw [getD_big hlt] at this
        walk_at "rd"
        exact this
    rw [idx_all] at hLg
    have e0G := Ext.trans e0E eG
    have hTG := ht.ext e0G
    walk_at "rd"
    refine ⟨a, ns, rfl, hTG.sq, hF, fun HI eI => ?_⟩
    have hTI := hTG.ext eI
    walk_at "rd"
    refine ⟨a, ns, rfl, hTI.sq, hF, fun HJ u eJ hu => ?_⟩
    walk_at "rd"
    refine ⟨by show 4 ≤ sizeLine; decide, fun Lk hLk => ?_⟩
    have eK := Ext.new (o := HO.lst [V.str (kindTx ns), V.ref Lg, V.int 0, V.ref u]) hLk
    have hK := new_at (o := HO.lst [V.str (kindTx ns), V.ref Lg, V.int 0, V.ref u]) hLk
    have huK := sqT_ext eK hu
    generalize upd HJ Lk _ = HK at eK hK huK ⊢
    have eGK := Ext.trans eI (Ext.trans eJ eK)
    have eEK := Ext.trans eG eGK
    refine ⟨Le, Lk, _, _, rfl, rfl, eEK _ _ hE, hK, by show 10 + 4 ≤ sizeLine; decide, fun Lm hLm => ?_⟩
    have eM := Ext.new (o := HO.lst (([V.ref a, V.int ns.sum, V.int (ns.length : Int), V.int (ns.getD 0 0), V.int (slantM ns), V.ref D] ++ [V.bl (decide (ns.getD 0 0 ≤ 1)), V.bl (decide ((ns.length : Int) < 2)), V.int (ns.length : Int), V.ref Lc]) ++ [V.str (kindTx ns), V.ref Lg, V.int 0, V.ref u])) hLm
    have hM := new_at (o := HO.lst (([V.ref a, V.int ns.sum, V.int (ns.length : Int), V.int (ns.getD 0 0), V.int (slantM ns), V.ref D] ++ [V.bl (decide (ns.getD 0 0 ≤ 1)), V.bl (decide ((ns.length : Int) < 2)), V.int (ns.length : Int), V.ref Lc]) ++ [V.str (kindTx ns), V.ref Lg, V.int 0, V.ref u])) hLm
    have huM := sqT_ext eM huK
    generalize upd HK Lm _ = HM at eM hM huM ⊢
    have eEM := Ext.trans eEK eM
    have e0M := Ext.trans e0E eEM
    rw [show decide ((ns.length : Int) < 2) = decide ((ns.length : Int) ≤ 1) from by rw [decide_eq_decide]; omega] at hM
    refine k HM Lm e0M (.lst (SqL.of hM) ?_)
    have dc : DpAll K HM ((List.range (Int.toNat 14)).map fun i => V.int (ns.getD i 0)) ((List.range 14).map fun i => PyData.int (ns.getD i 0)) := dp_map (List.range 14)
    exact .cons (.tup (ht.ext e0M).sq (pdp ns)) (.cons (.int _) (.cons (.int _) (.cons (.int _) (.cons (.int _) (.cons (dp_ext eEM dRE) (.cons (.bl _) (.cons (.bl _)
      (.cons (.int _) (.cons (.lst (SqL.of (eEM _ _ hCE)) (pdp ns)) (.cons (.str _) (.cons (.lst (SqL.of (eM _ _ (eGK _ _ hLg))) dc) (.cons (.int _) (.cons (.tup huM (pdp _)) .nil)))))))))))))
end
end

/-! What a text is read as, by the law. -/

section
open PySem PySem.Spec PyProof.Rows L2 Gd TL
/-- a comprehension over a locked dict's keys -/
theorem lcKey {σ : L2.St} {H1 : Hp} {vs : List Nat} {g : TG} {tt : TT} {te : TE} {Q : VK} {d : Addr} {o : Obj} {kvs : List (L2.Key × V)} (hd : H1 d = some (.frz o (.dK kvs))) (sz : kvs.length < sizeLine) (c : L2.Key → Bool) (f : L2.Key → V)
    (body : ∀ (k : L2.Key) H', k ∈ kvs.map Prod.fst → Ext H1 H' → ∀ (Qe : VK) (Qn : Hp → Prop), (∀ H3, Ext H' H3 → c k = true → Qe (f k) H3) → (∀ H3, Ext H' H3 → c k = false → Qn H3) →
      g (kV k) (wipe σ vs) H' fun σ2 H2 => wipe σ2 vs = wipe σ vs ∧ tt σ2 H2 fun b H3 => if b = true then te σ2 H3 Qe else Qn H3)
    (k : ∀ H' D, Ext H1 H' → H1 D = none → H' D = some (.lst ((kvs.filter fun p => c p.1).map fun p => f p.1)) → Q (.ref D) H') : LcG (Itk d o kvs) g tt te vs σ H1 Q := by
  refine fun D hD => lc_rel walk_keys (fun i y _ => y = f (kvs.getD i (Sum.inl 0, .non)).1) (fun i => c (kvs.getD i (Sum.inl 0, .non)).1) (mono_fun fun i => f (kvs.getD i (Sum.inl 0, .non)).1) hD (fun H' e => e _ _ hd) sz (fun i x H' H'' hi e hy Qe Qn he hn => ?_) (fun H' ys e hd hr => ?_)
  · obtain ⟨rfl, q, v, hq, rfl⟩ := hy
    have ex : kvs.getD i (Sum.inl 0, .non) = (q, v) := by rw [List.getD_eq_getElem?_getD, hq]; rfl
    exact body q _ (List.mem_map.mpr ⟨_, List.mem_of_getElem? hq, rfl⟩) e Qe Qn (fun H3 e3 hc => he _ H3 e3 (by rw [ex]) (by rw [ex]; exact hc)) (fun H3 e3 hc => hn H3 e3 (by rw [ex]; exact hc))
  · have := rel_fun hr
    rw [idx_items' kvs (Sum.inl 0, .non) (fun p => c p.1) (fun p => f p.1)] at this
    rw [this] at hd
    exact k H' D e hD hd
theorem cut_tl (z : Str) (e : Nat) : tl (cutS z none (some (e : Int))) = (tl z).take e := by
  unfold cutS
  rw [tl_mk]
  have e1 : HT.sIx z.length 0 none = 0 := rfl
  rw [e1, HT.sIx_nat]
  show ((tl z).drop 0).take (min e z.length - 0) = _
  rw [List.drop_zero, Nat.sub_zero, len_tl]
  by_cases h : e ≤ (tl z).length
  · rw [Nat.min_eq_left h]
  · rw [Nat.min_eq_right (by omega), List.take_of_length_le (Nat.le_refl _), List.take_of_length_le (by omega)]
theorem cut_eq {x y : Str} {e : Nat} : cutS x none (some (e : Int)) = cutS y none (some (e : Int)) ↔ (tl x).take e = (tl y).take e := by
  rw [← cut_tl, ← cut_tl]
  exact ⟨fun h => by rw [h], fun h => ext_tl h⟩
theorem iteT' {c : Bool} {A B : Prop} (h : c = true) (k : A) : if c = true then A else B := by rw [if_pos h]; exact k
theorem iteF' {c : Bool} {A B : Prop} (h : c = false) (k : B) : if c = true then A else B := by rw [if_neg (by rw [h]; decide)]; exact k
/-- starts as some text of a kind -/
def goodK (x : Str) (e : Nat) (k : L2.Key) : Bool := match k with
  | .inl _ => false
  | .inr y => decide (cutS y none (some (e : Int)) = cutS x none (some (e : Int)))
def goodE (kvs : List (L2.Key × V)) (x : Str) (e : Nat) : Bool := !((kvs.filter fun p => goodK x e p.1).map fun p => kV p.1).isEmpty
theorem goodE_iff {K : PySem.W.Frag} {H : Hp} {kvs : List (L2.Key × V)} (h : DTx K H kvs) {x : Str} {e : Nat} : goodE kvs x e = true ↔ ∃ ns, Fall ns ∧ (txL ns).take e = (tl x).take e := by
  unfold goodE
  rw [Bool.not_eq_true', List.isEmpty_eq_false_iff]
  constructor
  · intro hn
    obtain ⟨v, hv⟩ := List.exists_mem_of_ne_nil _ hn
    obtain ⟨p, hp, _⟩ := List.mem_map.mp hv
    obtain ⟨hp, hg⟩ := List.mem_filter.mp hp
    obtain ⟨ns, hF, e1⟩ := h.keys p hp
    rw [e1] at hg
    have hg : cutS (kindTx ns) none (some (e : Int)) = cutS x none (some (e : Int)) := of_decide_eq_true hg
    refine ⟨ns, hF, ?_⟩
    have := cut_eq.mp hg
    rw [tl_kind fun n hn => by have := hF.pos n hn; omega] at this
    exact this
  · rintro ⟨ns, hF, ht⟩
    obtain ⟨a, hv, _⟩ := h.at_ hF
    have hm : ∃ v, ((Sum.inr (kindTx ns) : L2.Key), v) ∈ kvs := by
      unfold valV at hv
      obtain ⟨q, hq, _⟩ := Option.map_eq_some_iff.mp hv
      have h1 := List.mem_of_find?_eq_some hq
      have h2 := List.find?_some hq
      have h2 : q.1 = Sum.inr (kindTx ns) := of_decide_eq_true h2
      exact ⟨q.2, by rw [← h2]; exact h1⟩
    obtain ⟨v, hm⟩ := hm
    refine List.ne_nil_of_mem (a := kV (Sum.inr (kindTx ns))) (List.mem_map.mpr ⟨(Sum.inr (kindTx ns), v), List.mem_filter.mpr ⟨hm, ?_⟩, rfl⟩)
    refine decide_eq_true (cut_eq.mpr ?_)
    rw [tl_kind fun n hn => by have := hF.pos n hn; omega]
    exact ht
section
variable {P : Program} {w : World} {K : PySem.W.Frag} {mg : Str → Option Value} {base : Heap} {f C t0 : Addr} {fd : FuncData}
abbrev sLRead : Stmt := top 41
theorem scLRead : FnScope ["_law_text", "_law_texts", "_law_ends", "_law_end", "_law_one"] ["_law_text", "_law_texts"] (defScope sLRead) := ⟨rfl, rfl, rfl, by decide +kernel, rfl, by decide +kernel, by decide +kernel⟩
def spLRead (K : PySem.W.Frag) : Sp := fun vs H Q _ => ∃ (x : Str) (D : Addr) (kvs : List (L2.Key × V)), vs = [.str x, .ref D] ∧ x.length ≤ 1000 ∧ H D = some (.dK kvs) ∧ DTx K H kvs ∧
  (∀ ns, Fall ns → tl x = txL ns → ∀ H' a, Ext H H' → TupX K H' a (ns.map V.int) → Q (.ref a) H') ∧ ∀ i : Nat, brkT (tl x) = some i → ∀ H', Ext H H' → Q (.int (i : Int)) H'
theorem ok_lread (F : Fun K "_law_read" "_law_read" sLRead f fd) (T : Txt K mg) : FnOk P w K mg base CX0 2 f fd ["_law_text", "_law_texts"] (spLRead K) := by
  refine F.ok scLRead (fun vs H Q E h => ?_) (fun cdv Ar outer s H vs Q E hr h => ?_)
  · obtain ⟨x, D, kvs, rfl, _⟩ := h
    rfl
  · obtain ⟨x, D, kvs, rfl, hl, hD, hT, k0, k1⟩ := h
    have hu0 := Nat.lt_of_le_of_lt (Nat.le_add_right _ _) hr.units
    have hu := Nat.lt_of_le_of_lt (Nat.add_le_add_left (show 1 ≤ 64 by decide) _) hr.units
    refine ⟨_, pss_cons (ps_if (pt_cmp (pc_din hu (pv 0) (pv 1))) (pss_one (ps_ret (pe_dget hu (pv 1) (pv 0) (fun _ _ => rfl)))) pss_nil)
      (pss_cons (ps_setLc (i := 2) (own := [("_law_end", 3)]) (g := gName 3) rfl scLRead.nd rfl rfl (sw_true rfl rfl rfl (by decide +kernel)) (pi_range1 (by rfl) T.range (pa_cons (pe_op op_add (pe_callB call_len_str (by rfl) T.len PySem.boot_len (pa_cons (pv 0) pa_nil)) pe_int) pa_nil)) (blkOk_by (N := ["_law_text", "_law_texts", "_law_ends", "_law_end", "_law_one"]) (sc := defScope sLRead) (by decide +kernel)) (fun _ _ _ _ _ => pg_name (i := 3) scLRead.nd rfl (Or.inr rfl)) (fun _ _ _ _ _ => pts_one (pt_cmpR (r := rNeNil K) (op_neNil hu0) (pe_lock (pe_lc (own := [("_law_one", 4)]) (wi := iKeys (tVar 1)) (g := gName 4) rfl scLRead.nd (by exact (pi_keys (pv 1))) (blkOk_by (N := ["_law_text", "_law_texts", "_law_ends", "_law_end", "_law_one"]) (sc := { kind := .function, names := [((".0" : Str), .local), ("_law_end", .cell), ("_law_text", .cell), ("_law_texts", .cell)], isGenerator := false, isCoroutine := false, more := [] }) (by decide +kernel)) (fun _ _ _ _ _ => pg_name (i := 4) scLRead.nd rfl (Or.inl rfl)) (fun _ _ _ _ _ => pts_one (pt_cmpR op_eq (pe_slice (r := rSlS) sl_str (pv 4) po_none (po_some (pv 3))) (pe_slice (r := rSlS) sl_str (pv 0) po_none (po_some (pv 3))) (nomark _))) (fun _ _ _ _ _ => by exact (pv 4)))) (pe_lst pa_nil) (nomark _))) (fun _ _ _ _ _ => by exact (pv 3)))
      (pss_one (ps_ret (pe_callB (cr_max rfl) (by rfl) T.max (by decide +kernel) (pa_cons (pv 2) pa_nil))))), ?_⟩
    try dsimp only [cx_nox, cx_K]
    have sz : (100000 : Nat) < sizeLine := by decide
    unfold tDIn
    walk_at "rd"
    by_cases hx : ∃ ns, Fall ns ∧ tl x = txL ns
    · obtain ⟨ns, hF, e⟩ := hx
      have ex : x = kindTx ns := kind_of_tl (fun n hn => by have := hF.pos n hn; omega) e
      obtain ⟨a, hv, ha⟩ := hT.at_ hF
      rw [← ex] at hv
      refine ⟨D, some (.ref a), rfl, .inl ⟨kvs, Sum.inr x, .inl hD, rfl, hv.symm⟩, true, rfl, iteT ?_⟩
      unfold tDGet
      walk_at "rd"
      exact ⟨D, .ref a, rfl, .inl ⟨kvs, Sum.inr x, .inl hD, rfl, hv.symm⟩, k0 ns hF e H a (fun _ _ z => z) ha⟩
    have hnone : valV kvs (Sum.inr x) = none := by
      cases hv : valV kvs (Sum.inr x) with
      | none => rfl
      | some v =>
        obtain ⟨ns, a, hF, e, _⟩ := hT.vals _ v hv
        have e : x = kindTx ns := Sum.inr.inj e
        exact absurd ⟨ns, hF, by rw [e, tl_kind fun n hn => by have := hF.pos n hn; omega]⟩ hx
    obtain ⟨i, hi⟩ : ∃ i, brkT (tl x) = some i := by
      cases hb : brkT (tl x) with
      | none => exact absurd (brk_none.mp hb) hx
      | some i => exact ⟨i, rfl⟩
    obtain ⟨hi1, hi2, hi3⟩ := brk_some hi
    refine ⟨D, none, rfl, .inl ⟨kvs, Sum.inr x, .inl hD, rfl, hnone.symm⟩, false, rfl, iteF ?_⟩
    walk_at "rd"
    refine g_lc (g_rng1 ?_)
    walk_at "rd"
    refine ⟨x, rfl, by omega, ?_⟩
    walk_at "rd"
    refine ⟨by omega, by omega, ?_⟩
    have hT5 := hT.len
    have hxn : ((x.length : Int) + 1).toNat < sizeLine := by omega
    refine lcR hxn (goodE kvs x) (fun i => .int (i : Int)) (fun j H' hj e Qe Qn he hn => ?_) (fun H' L e hL hl' => ?_)
    · refine ⟨rfl, ?_⟩
      walk_at "rd"
      unfold tLockE
      refine ⟨D, .dK kvs, e _ _ hD, trivial, fun od => ?_⟩
      refine g_lc ?_
      unfold iKeys
      walk_at "rd"
      refine ⟨D, od, rfl, .inl ⟨kvs, upd_same, ?_⟩⟩
      have hj0 : (0 : Int) + (j : Int) = (j : Int) := by omega
      refine lcKey upd_same (by omega) (goodK x j) kV (fun q H2 hq e2 Qe2 Qn2 he2 hn2 => ?_) (fun H2 L9 e2 hL9 hl2 => ?_)
      · obtain ⟨p, hp, rfl⟩ := List.mem_map.mp hq
        obtain ⟨ns, hF, e1⟩ := hT.keys p hp
        rw [e1] at he2 hn2 ⊢
        have hlk := kindTx_len hF
        refine ⟨rfl, ?_⟩
        walk_at "rd"
        refine ⟨kindTx ns, rfl, by omega, ?_⟩
        walk_at "rd"
        refine ⟨x, rfl, by omega, ?_⟩
        refine ⟨rfl, _, rfl, ?_⟩
        rw [hj0]
        have eg : decide (V.str (cutS (kindTx ns) none (some (j : Int))) = V.str (cutS x none (some (j : Int)))) = goodK x j (Sum.inr (kindTx ns)) := by
          show _ = decide (cutS (kindTx ns) none (some (j : Int)) = cutS x none (some (j : Int)))
          rw [decide_eq_decide]
          exact ⟨fun h => V.str.inj h, fun h => by rw [h]⟩
        rw [eg]
        cases hgk : goodK x j (Sum.inr (kindTx ns)) with
        | true =>
          refine iteT ?_
          walk_at "rd"
          exact he2 _ (fun _ _ z => z) hgk
        | false => exact iteF (hn2 _ (fun _ _ z => z) hgk)
      · refine ⟨e2 _ _ upd_same, ?_⟩
        have e3 : Ext H' (upd H2 D (HO.dK kvs)) := fun b o q => by
          by_cases hb : b = D
          · subst hb
            rw [e _ _ hD] at q
            cases q
            exact upd_same
          · rw [upd_ne hb]
            exact e2 _ _ (by rw [upd_ne hb]; exact q)
        have nL : L9 ≠ D := fun z => by
          rw [z, upd_same] at hL9
          cases hL9
        have hl3 : upd H2 D (HO.dK kvs) L9 = some (HO.lst (List.map (fun p => kV p.fst) (List.filter (fun p => goodK x j p.fst) kvs))) := by
          rw [upd_ne nL]
          exact hl2
        generalize upd H2 D (HO.dK kvs) = H3 at e3 hl3 ⊢
        dsimp only
        walk_at "rd"
        refine ⟨Nat.zero_le _, fun N hN => ?_⟩
        have eN := Ext.new (o := HO.lst []) hN
        refine ⟨L9, N, _, rfl, rfl, SqL.of (eN _ _ hl3), SqL.of upd_same, _, rfl, ?_⟩
        cases hge : goodE kvs x j with
        | true =>
          refine iteT' (show goodE kvs x j = true from hge) ?_
          walk_at "rd"
          rw [hj0]
          exact he _ (Ext.trans e3 eN) hge
        | false =>
          refine iteF' (show goodE kvs x j = false from hge) ?_
          exact hn _ (Ext.trans e3 eN) hge
    · walk_at "rd"
      have hm0 : ∀ m : Nat, m ∈ idx (goodE kvs x) ((x.length : Int) + 1).toNat ↔ m < x.length + 1 ∧ goodE kvs x m = true := fun m => by
        unfold idx
        rw [List.mem_filter, List.mem_range]
        constructor
        · rintro ⟨h1, h2⟩
          exact ⟨by omega, h2⟩
        · rintro ⟨h1, h2⟩
          exact ⟨by omega, h2⟩
      have hlen : x.length = (tl x).length := len_tl x
      have hin : i ∈ idx (goodE kvs x) ((x.length : Int) + 1).toNat := (hm0 i).mpr ⟨by omega, (goodE_iff hT).mpr hi2⟩
      refine ⟨L, (idx (goodE kvs x) ((x.length : Int) + 1).toNat).map fun i : Nat => (i : Int), rfl, SqL.of (by rw [hl', List.map_map]; rfl), ?_, fun m hm hmax => ?_⟩
      · rw [List.length_map]
        exact List.length_pos_of_mem hin
      · obtain ⟨q, hq, rfl⟩ := List.mem_map.mp hm
        obtain ⟨hq1, hq2⟩ := (hm0 q).mp hq
        obtain ⟨ns, hF, ht⟩ := (goodE_iff hT).mp hq2
        have a1 := hi3 ns q hF (by omega) ht
        have a2 := hmax (i : Int) (List.mem_map.mpr ⟨i, hin, rfl⟩)
        have : q = i := by omega
        subst this
        exact k1 q hi H' e
end
end

/-! A drawn kind. -/

section
open PySem PySem.Spec PyProof.Rows L2 Gd
section
variable {P : Program} {w : World} {K : PySem.W.Frag} {mg : Str → Option Value} {base : Heap} {f : Addr} {fd : FuncData}
/-! ### a drawn kind -/
abbrev sKind : Stmt := top 32
theorem scKind : FnScope ["_law_dice_here", "_law_most"] ["_law_dice_here", "_law_most"] (defScope sKind) := ⟨rfl, rfl, rfl, by decide +kernel, rfl, by decide +kernel, by decide +kernel⟩
def spKind (K : PySem.W.Frag) : Sp := fun vs H Q _ => ∃ (d : Addr) (most : Int), vs = [.ref d, .int most] ∧ DiceAt H d ∧ 0 ≤ most ∧ most ≤ 12 ∧
  ∀ H' a ns, ExtBut d H H' → DiceAt H' d → TupX K H' a (ns.map V.int) → Fall ns → ns.sum ≤ most → Q (.ref a) H'
theorem ok_kind (F : Fun K "_law_kind" "_law_kind" sKind f fd) (Ro : Def1 P w K mg base CX0 1 "_law_roll" ["_law_dice_here", "_law_total"] spRoll) (Ks : Def1 P w K mg base CX0 1 "_law_kinds" ["_law_size"] (spKinds K))
    (Pi : Def1 P w K mg base CX0 2 "_law_pick" ["_law_dice_here", "_law_items"] (spPick K)) : FnOk P w K mg base CX0 3 f fd ["_law_dice_here", "_law_most"] (spKind K) := by
  refine F.ok scKind (fun vs H Q E h => ?_) (fun cdv A outer s H vs Q E hr h => ?_)
  · obtain ⟨d, most, rfl, _⟩ := h
    rfl
  · obtain ⟨d, most, rfl, hd, h0, h1, k⟩ := h
    refine ⟨_, pss_one (ps_ret (pe_def Pi hr (by decide) (by rfl) (pa_cons (pv 0) (pa_cons (pe_def Ks hr (by decide) (by rfl) (pa_cons (pe_def Ro hr (by decide) (by rfl) (pa_cons (pv 0) (pa_cons (pe_op op_add (pv 1) pe_int) pa_nil))) pa_nil)) pa_nil)))), ?_⟩
    try dsimp only [cx_nox, cx_K]
    walk_at "rd"
    have big : (13 : Int) < 2 ^ 1000 := by decide +kernel
    refine ⟨d, most + 1, rfl, hd, by omega, by omega, fun H1 r e1 d1 r0 r1 => ?_⟩
    walk_at "rd"
    have er : r = (r.toNat : Int) := by omega
    refine ⟨r.toNat, (by rw [← er]; rfl), by omega, fun H2 Fa fs e2 hFa hF hne hl hf => ?_⟩
    walk_at "rd"
    have hlen := List.length_pos_iff.mpr hne
    refine ⟨d, Fa, fs, rfl, d1.ext e2, SqL.of hF, dice_none d1 hFa, hlen, by omega, fun H3 x e3 d3 hx => ?_⟩
    obtain ⟨a, ns, rfl, ht, hfl, hs⟩ := hf x hx
    obtain ⟨q1, q2, q3, hdq, _⟩ := d1.ext e2
    have ht3 := TupX.keeps (keeps_but (.inr hdq) e3) ht
    exact k H3 a ns (ExtBut.trans e1 (ExtBut.trans (ExtBut.of e2) e3)) d3 ht3 hfl (by omega)
end
end

/-! A text near another one. -/

section
open PySem PySem.Spec PyProof.Rows L2 Gd TL
section
variable {P : Program} {w : World} {K : PySem.W.Frag} {mg : Str → Option Value} {base : Heap} {f : Addr} {fd : FuncData}
abbrev sNear : Stmt := top 40
theorem scNear : FnScope ["_law_dice_here", "_law_text", "_law_at", "_law_way", "_law_sign"] ["_law_dice_here", "_law_text"] (defScope sNear) := ⟨rfl, rfl, rfl, by decide +kernel, rfl, by decide +kernel, by decide +kernel⟩
def spNear : Sp := fun vs H Q _ => ∃ (d : Addr) (x : Str), vs = [.ref d, .str x] ∧ DiceAt H d ∧ x.length ≤ 100 ∧ ∀ H' y, ExtBut d H H' → DiceAt H' d → y.length ≤ 300 → Q (.str y) H'
theorem ok_near (F : Fun K "_law_near" "_law_near" sNear f fd) (T : Txt K mg) (Ro : Def1 P w K mg base CX0 1 "_law_roll" ["_law_dice_here", "_law_total"] spRoll) (Pi : Def1 P w K mg base CX0 2 "_law_pick" ["_law_dice_here", "_law_items"] (spPick K)) : FnOk P w K mg base CX0 3 f fd ["_law_dice_here", "_law_text"] spNear := by
  refine F.ok scNear (fun vs H Q E h => ?_) (fun cdv A outer s H vs Q E hr h => ?_)
  · obtain ⟨d, x, rfl, _⟩ := h
    rfl
  · obtain ⟨d, x, rfl, hd, hl, k⟩ := h
    refine ⟨_, pss_cons (ps_par (i := 2) (j := 3) (by rfl) scNear.nd rfl rfl (by decide) rfl rfl (pa_cons (pe_def Ro hr (by decide) (by rfl) (pa_cons (pv 0) (pa_cons (pe_op op_add (pe_callB call_len_str (by rfl) T.len PySem.boot_len (pa_cons (pv 1) pa_nil)) pe_int) pa_nil))) (pa_cons (pe_def Ro hr (by decide) (by rfl) (pa_cons (pv 0) (pa_cons pe_int pa_nil))) pa_nil)) (by rfl))
      (pss_cons (ps_set (i := 4) scNear.nd rfl (Or.inl rfl) (pe_def Pi hr (by decide) (by rfl) (pa_cons (pv 0) (pa_cons (pe_lst (pa_cons pe_str (pa_cons pe_str (pa_cons pe_str (pa_cons pe_str (pa_cons pe_str (pa_cons pe_str (pa_cons pe_str (pa_cons pe_str (pa_cons pe_str (pa_cons pe_str pa_nil))))))))))) pa_nil))))
      (pss_cons (ps_if (pt_cmpR op_eq (pv 3) pe_int (nomark _)) (pss_one (ps_ret (pv 1))) pss_nil)
      (pss_cons (ps_if (pt_cmpR op_eq (pv 3) pe_int (nomark _)) (pss_one (ps_ret (pe_slice sl_str (pv 1) po_none (po_some (pv 2))))) pss_nil)
      (pss_one (ps_ret (pe_op op_add_str (pe_op op_add_str (pe_slice sl_str (pv 1) po_none (po_some (pv 2))) (pv 4)) (pe_slice sl_str (pv 1) (po_some (pe_op op_add (pv 2) (pe_callTy call_int1 (by rfl) T.int (by decide +kernel) (pa_cons (pe_cmpR op_gt (pv 3) pe_int (nomark _)) pa_nil)))) po_none))))))), ?_⟩
    try dsimp only [cx_nox, cx_K]
    have sz : (100000 : Nat) < sizeLine := by decide
    have big : (1000 : Int) < 2 ^ 1000 := by decide +kernel
    refine g_seq (g_par ?_)
    walk_at "rd"
    refine ⟨x, rfl, by omega, ?_⟩
    walk_at "rd"
    refine ⟨d, _, rfl, hd, by omega, by omega, fun H1 at_ b1 hd1 a0 a1 => ?_⟩
    walk_at "rd"
    refine ⟨d, 5, rfl, hd1, by decide, by omega, fun H2 way b2 hd2 w0 w1 => ?_⟩
    walk_at "rd"
    refine ⟨_, _, rfl, ?_⟩
    dsimp only
    walk_at "rd"
    refine ⟨by show 10 ≤ sizeLine; omega, fun L hL => ?_⟩
    have eL := Ext.new (o := HO.lst [V.str "[", V.str "]", V.str " ", V.str "0", V.str "1", V.str "2", V.str "9", V.str "a", V.str "-", V.str "\n"]) hL
    walk_at "rd"
    refine ⟨d, L, _, rfl, hd2.ext eL, SqL.of upd_same, dice_none hd2 hL, by simp, by simp, fun H3 sg b3 hd3 hx => ?_⟩
    obtain ⟨g, rfl, hg⟩ : ∃ g : Str, sg = V.str g ∧ g.length ≤ 1 := by
      have : ∀ g : Str, g ∈ [("[" : Str), "]", " ", "0", "1", "2", "9", "a", "-", "\n"] → g.length ≤ 1 := by decide +kernel
      have hx : sg ∈ [("[" : Str), "]", " ", "0", "1", "2", "9", "a", "-", "\n"].map V.str := hx
      obtain ⟨g, h1, h2⟩ := List.mem_map.mp hx
      exact ⟨g, h2.symm, this g h1⟩
    have k3 : ∀ y : Str, y.length ≤ 300 → Q (.str y) H3 := fun y hy => k H3 y (ExtBut.trans b1 (ExtBut.trans b2 (ExtBut.trans (ExtBut.of eL) b3))) hd3 hy
    have hc := fun lo hi => cutS_length x lo hi
    walk_at "rd"
    by_cases y0 : way = 0
    · rw [decide_eq_true y0]
      refine iteT ?_
      walk_at "rd"
      exact k3 x (by omega)
    rw [decide_eq_false y0]
    refine iteF ?_
    walk_at "rd"
    by_cases y1 : way = 1
    · rw [decide_eq_true y1]
      walk_at "rd"
      refine ⟨x, rfl, by omega, ?_⟩
      exact k3 _ (Nat.le_trans (hc _ _) (by omega))
    rw [decide_eq_false y1]
    walk_at "rd"
    refine ⟨x, rfl, by omega, ?_⟩
    walk_at "rd"
    have h1 := hc none (some at_)
    refine ⟨_, _, rfl, rfl, by omega, ?_⟩
    walk_at "rd"
    refine .inr ⟨_, rfl, ?_⟩
    walk_at "rd"
    refine ⟨x, rfl, by omega, ?_⟩
    have h2 := hc (some (at_ + if decide (2 < way) = true then 1 else 0)) none
    refine ⟨_, _, rfl, rfl, by rw [str_len]; omega, ?_⟩
    exact k3 _ (by rw [str_len, str_len]; omega)
end
end

/-! An object made by a class that a variable holds. -/
section
open PySem PySem.Spec PyProof.Rows L2 Gd
section
variable {X : Cx} {CX : CXT} {k j : Nat} {C t0 : Addr} {ps : List Str} {sp : Sp} {E : XK} {pos : Pos} {fe e : Expr} {es : List Expr} {tf : TE} {t : TA}
def tMakeV (C : Addr) (sp : Sp) (dvs : List V) (E : XK) (tf : TE) (t : TA) : TE := fun σ H Q => tf σ H fun x H1 => x = .ref C ∧ tMake C sp dvs E t σ H1 Q
theorem pe_mkV (I : Ini1 X.prog X.w X.K X.mg X.base CX k C t0 ps sp) (hx : Passes CX X E) (hr : Room j X.A) (hj : k + 1 ≤ j) (hf : PE X fe tf) (ha : PA X (e :: es) t)
    (he : eval (.Call fe (e :: es) [] pos) X.env = (do callWith pos (← eval fe X.env) [] (backTo pos (starEach (e :: es) X.env)) (backToKw pos (keywordEach [] X.env))) := by rfl)
    (h1 : starEach (e :: es) X.env = (false, eval e X.env) :: starEach es X.env := by rfl) (h2 : (backTo pos (starEach es X.env)).any (·.1) = false := by rfl) :
    PE X (.Call fe (e :: es) [] pos) (tMakeV C sp [] E tf t) := by
  obtain ⟨f, fd, ds, M, F, hb, _⟩ := I.ex
  constructor
  intro pins s σ H Q I h
  refine Call_ (thn (hf.run pins s σ H _ I h) fun u s1 ⟨x, H1, I1, rx, ex, q1⟩ => ?_) he
  subst ex
  cases rx
  refine PySem.W.callWith_K (h₀ := X.base) I.ok.mod.kin M.kp (thn (ha.run pos pins s1 σ H1 _ I1 q1) fun us s2 ⟨vs, H2, I2, r, q⟩ => ⟨I2.kIn, ?_⟩) h1 h2
  exact run_make M F (hr.mono hj) hb .nil hx I2 r q
end
end

/-! Kind.read. -/

section
open PySem PySem.Spec PyProof.Rows L2 Gd TL
section
variable {P : Program} {w : World} {K : PySem.W.Frag} {mg : Str → Option Value} {base : Heap} {f C CP fP t0 : Addr} {fd : FuncData}
theorem scRead : FnScope ["cls", "text", "index"] ["cls", "text"] (defScope (cls 1)) := ⟨rfl, rfl, rfl, by decide +kernel, rfl, by decide +kernel, by decide +kernel⟩
def spRead (K : PySem.W.Frag) (C CP : Addr) : Sp := fun vs H Q E => ∃ x : Str, vs = [.ref C, .str x] ∧ x.length ≤ 1000 ∧ (∀ ns, Fall ns → tl x = txL ns → ∀ H' p n t m, Ext H H' → KindAt K C H' p n t m ns → Q (.ref p) H') ∧
  ∀ i : Nat, brkT (tl x) = some i → ∀ H' d, Ext H H' → H' d = none → E (.ref CP) (some d) (upd H' d (.xd [(("index" : Str), .int (i : Int))]))
theorem ok_read (F : Fun K "read" "Kind.read" (cls 1) f fd) (T : Txt K mg) (gM : ∃ t, mg "MAX_SIZE" = some (.int 12 t)) (R : PySem.XParseError.ParseErrorTxt K mg CP fP) (Bk : Def1 P w K mg base CX0 1 "break_index" ["text", "most"] spBreak) (Rf : Def1 P w K mg base CX0 1 "read_falling" ["text"] (spRdF K))
    (I : Ini1 P w K mg base CX0 5 C t0 ["self", "numbers"] (spInit K C)) : FnOk P w K mg base (L2.CX P w) 7 f fd ["cls", "text"] (spRead K C CP) := by
  obtain ⟨tM, gM⟩ := gM
  refine F.okX scRead (fun vs H Q E h => ?_) (fun cdv A outer s H vs Q E hr h => ?_)
  · obtain ⟨x, rfl, _⟩ := h
    rfl
  · obtain ⟨x, rfl, hl, k0, k1⟩ := h
    refine ⟨_, pss_cons (ps_if (pt_not (pt_val (pe_callB call_isi (by rfl) T.isinstance (by decide +kernel) (pa_cons (pv 1) (pa_cons (pe_bltn (v := .ty "str") (by rfl) T.str (by decide +kernel) rfl) pa_nil))))) (pss_one ps_never) pss_nil)
      (pss_cons (ps_set (i := 2) scRead.nd rfl (Or.inl rfl) (pe_def Bk hr (by decide) (by rfl) (pa_cons (pv 1) (pa_cons (pe_glob (v := .int 12) (by rfl) gM ⟨_, rfl⟩) pa_nil))))
      (pss_cons (ps_if (pt_cmp (pc_notN (pv 2))) (pss_one (ps_raiseParseError rfl R hr (takes_of rfl rfl rfl rfl) (by exact (pa_cons (pv 2) pa_nil)))) pss_nil)
      (pss_one (ps_ret (pe_mkV I pass0 hr (by decide) (pv 0) (pa_cons (pe_def Rf hr (by decide) (by rfl) (pa_cons (pv 1) pa_nil)) pa_nil)))))), ?_⟩
    try dsimp only [cx_nox, cx_K]
    walk_at "rd"
    refine ⟨_, _, _, _, true, rfl, .ty _, .base (.str x), by kernel_rfl, ?_⟩
    walk_at "rd"
    refine ⟨x, rfl, hl, fun hb => ?_, fun i hb => ?_⟩
    · obtain ⟨ns, hF, e⟩ := brk_none.mp hb
      walk_at "rd"
      unfold tNotN
      walk_at "rd"
      rw [show (!decide (V.non = V.non)) = false by simp]
      refine iteF ?_
      walk_at "rd"
      unfold tMakeV
      walk_at "rd"
      refine ⟨rfl, ?_⟩
      refine g_make ?_
      walk_at "rd"
      refine ⟨x, ns, rfl, e, hF, fun H1 u e1 hu => ?_⟩
      walk_at "rd"
      exact g_mk2 hu hF fun H2 p n t m e2 hk => k0 ns hF e H2 p n t m (Ext.trans e1 e2) hk
    · walk_at "rd"
      unfold tNotN
      walk_at "rd"
      rw [show (!decide (V.int (i : Int) = V.non)) = true by simp]
      refine iteT ?_
      unfold tRaiseParseError tMkParseError
      walk_at "rd"
      exact ⟨_, rfl, fun d hd => k1 i hb _ d (fun _ _ z => z) hd⟩
end
end

/-! What is read, or where not. -/

section
open PySem PySem.Spec PyProof.Rows L2 Gd TL
section
variable {P : Program} {w : World} {K : PySem.W.Frag} {mg : Str → Option Value} {base : Heap} {f C CP fP t0 : Addr} {fd : FuncData}
theorem ps_guard {X : Cx} {G : Prop} {st : Stmt} {t : TS} (h : G → PS X st t) : PS X st (fun D σ H => G ∧ t D σ H) := ⟨fun pins s σ H D I hw => (h hw.1).run pins s σ H D I hw.2⟩
theorem passLen {X : Cx} {W : WX} {E : XK} {n : Nat} (hn : X.N.length = n) (tk : Takes X W) (G : ∀ cls d σ H, σ.length = n → E cls d H → W cls d σ H) (σ : L2.St) : PassesAt (L2.CX X.prog X.w) X σ E :=
  fun _ _ _ e s' I c => tk e s' (XE.of_call I (fun cls d H' h => G cls d σ H' (I.len.trans hn) h) c)
theorem passLen' {X : Cx} {W : WX} {E : XK} {n : Nat} (hn : X.N.length = n) (tk : Takes X W) (G : ∀ cls d σ H, σ.length = n → E cls d H → W cls d σ H) : Passes (L2.CX X.prog X.w) X E :=
  fun pins σ H s e s' I c => passLen hn tk G σ pins H s e s' I c
theorem of_len2V {α : Type} {l : List α} (h : l.length = 2) : ∃ a b, l = [a, b] := by
  match l, h with
  | [a, b], _ => exact ⟨a, b, rfl⟩
/-- where Kind.read stands -/
structure RdK (P : Program) (w : World) (K : PySem.W.Frag) (mg : Str → Option Value) (base : Heap) (C CP : Addr) : Prop where
  ex : ∃ (mc : Value) (q g : Addr), ClX.CRead K C mc ∧ ClX.CMet K C mc "read" q g ∧ FnR P w K mg base (L2.CX P w) 7 g (spRead K C CP)
theorem pe_rd6 {X : Cx} {E : XK} {o e : Expr} {es : List Expr} {ta : TE} {t : TA} {pos apos : Pos} {pl : Sem Bool} (A : RdK X.prog X.w X.K X.mg X.base C CP) (hx : Passes (L2.CX X.prog X.w) X E) (hr : Room 7 X.A) (he : PE X o ta) (ha : PA X (e :: es) t)
    (hst : starEach (e :: es) X.env = (false, eval e X.env) :: starEach es X.env := by rfl) (hpl : (backTo pos (starEach es X.env)).any (·.1) = false := by rfl)
    (ht : eval (.Call (.Attribute o "read" apos) (e :: es) [] pos) X.env = (do
      let ov ← eval o X.env
      standAt apos.atName
      let (f, first) ← holding [ov] (getMethod ov "read" pl)
      callWith pos f first (backTo pos (starEach (e :: es) X.env)) (backToKw pos (keywordEach [] X.env))) := by rfl) : PE X (.Call (.Attribute o "read" apos) (e :: es) [] pos) (ClX.tCMeth C (spRead X.K C CP) E ta t) := by
  obtain ⟨mc, q, g, r, c, F⟩ := A.ex
  exact ClX.pe_cmeth he r c F hr hx ha hst hpl ht
abbrev sDidR : Stmt := top 42
theorem scDidR : FnScope ["_law_text", "e"] ["_law_text"] (defScope sDidR) := ⟨rfl, rfl, rfl, by decide +kernel, rfl, by decide +kernel, by decide +kernel⟩
def spDidR (K : PySem.W.Frag) : Sp := fun vs H Q _ => ∃ x : Str, vs = [.str x] ∧ x.length ≤ 1000 ∧ (∀ ns, Fall ns → tl x = txL ns → ∀ H' a, Ext H H' → TupX K H' a (ns.map V.int) → Q (.ref a) H') ∧ ∀ i : Nat, brkT (tl x) = some i → ∀ H', Ext H H' → Q (.int (i : Int)) H'
def ERd (CP : Addr) (H0 : Hp) (x : Str) : XK := fun cls d H => cls = .ref CP ∧ ∃ d' H1, ∃ i : Nat, d = some d' ∧ Ext H0 H1 ∧ H1 d' = none ∧ brkT (tl x) = some i ∧ H = upd H1 d' (.xd [(("index" : Str), .int (i : Int))])
theorem ok_didR (F : Fun K "_law_did_read" "_law_did_read" sDidR f fd) (T : Txt K mg) (Cl : KC K mg C) (R : PySem.XParseError.ParseErrorTxt K mg CP fP) (A : RdK P w K mg base C CP) (Pn : Pro1 P w K mg base 1 C "numbers" (spGet K C fun n _ => .ref n)) :
    FnOk P w K mg base CX0 8 f fd ["_law_text"] (spDidR K) := by
  refine F.ok scDidR (fun vs H Q E h => ?_) (fun cdv Ar outer s H vs Q E hr h => ?_)
  · obtain ⟨x, rfl, _⟩ := h
    rfl
  · obtain ⟨x, rfl, hl, k0, k1⟩ := h
    refine ⟨_, pss_one (ps_try_asAll (i := 1) (tb := fun W => fun D σ H' => (∀ cls d σ H', σ.length = 2 → ERd CP H x cls d H' → W cls d σ H') ∧ tRet (tProp C (spGet K C fun n _ => .ref n) [] X0 (ClX.tCMeth C (spRead K C CP) (ERd CP H x) (tC (.ref C)) (tCons (tVar 0) tNil))) D σ H')
          (Wo := fun _ _ _ _ => False) rfl rfl scDidR.nd rfl rfl takes0
          (fun W pn xe tk _ => pss_one (ps_guard fun G => ps_ret (by exact (pe_pro1 Cl.cl Pn hr (by decide) (pe_rd6 A (passLen' rfl tk G) hr (pe_glob (v := .ref C) (by rfl) Cl.g rfl) (pa_cons (pv 0) pa_nil))))))
          (AsOk.cons (c := .ref CP) ⟨rfl, by decide, Or.inl R.gC⟩ (fun a oe cls d pn hz hf => pss_one (ps_ret (by exact (pe_byParseError R hz hf (pv 1))))) AsOk.nil)), ?_⟩
    refine ⟨fun cls d σ H' hlen hE => ?_, ?_⟩
    · obtain ⟨s0, s1, rfl⟩ := of_len2V hlen
      obtain ⟨rfl, d', H1, i, rfl, e1, hd', hb, rfl⟩ := hE
      refine ⟨true, R.te, fun _ a0 _ => ?_, fun z => Bool.noConfusion z⟩
      refine ⟨_, rfl, rfl, rfl, d', _, rfl, upd_same, ?_⟩
      exact k1 i hb _ (Ext.trans e1 (Ext.new hd'))
    refine g_prop ?_
    unfold ClX.tCMeth
    walk_at "rd"
    refine ⟨rfl, ?_⟩
    walk_at "rd"
    refine ⟨x, rfl, hl, fun ns hF e H' p n t m e1 hk => ?_, fun i hb H' d e1 hd => ⟨rfl, d, H', i, rfl, e1, hd, hb, rfl⟩⟩
    obtain ⟨dx, hpi⟩ := id hk.ins
    exact ⟨p, dx, _, rfl, hpi, p, n, t, m, ns, rfl, hk, fun H2 e2 => k0 ns hF e H2 n (Ext.trans e1 e2) (hk.num.ext e2)⟩
end
end

/-! One draw. -/

section
open PySem PySem.Spec PyProof.Rows L2 Gd TL
section
variable {P : Program} {w : World} {K : PySem.W.Frag} {mg : Str → Option Value} {base : Heap} {f C CP fP t0 : Addr} {fd : FuncData}
theorem scKEqT : FnScope ["self", "other"] ["self", "other"] (defScope (cls 19)) := ⟨rfl, rfl, rfl, by decide +kernel, rfl, by decide +kernel, by decide +kernel⟩
/-- a tuple is no kind -/
structure NKT (K : PySem.W.Frag) (C : Addr) : Prop where
  nT : PySem.W.notFirst K C (.type "tuple") = true
  kT : PySem.W.kitOne K (.type "tuple") (.ref C) = some false
def spKEqT (K : PySem.W.Frag) (C : Addr) : Sp := fun vs H Q _ => ∃ (p n t m a : Addr) (ns : List Int) (xs : List V), vs = [.ref p, .ref a] ∧ KindAt K C H p n t m ns ∧ SqT K H a xs ∧ Q (.bl false) H
theorem ok_keqT (F : Fun K "__eq__" "Kind.__eq__" (cls 19) f fd) (T : Txt K mg) (Cl : KC K mg C) (N : NKT K C) : FnOk P w K mg base CX0 1 f fd ["self", "other"] (spKEqT K C) := by
  refine F.ok scKEqT (fun vs H Q E h => ?_) (fun cdv A outer s H vs Q E hr h => ?_)
  · obtain ⟨p, n, t, m, a, ns, xs, rfl, _⟩ := h
    rfl
  · obtain ⟨p, n, t, m, a, ns, xs, rfl, hk, hs, k⟩ := h
    refine ⟨_, pss_one (ps_ret (pe_and (pe_callB call_isi (by rfl) T.isinstance (by decide +kernel) (pa_cons (pv 1) (pa_cons (pe_glob (v := .ref C) (by rfl) Cl.g rfl) pa_nil))) (pe_one (pe_cmpR (op_eqD hr.units) (pe_fld (pv 0) rfl) (pe_fld (pv 1) rfl) (nomark _))))), ?_⟩
    try dsimp only [cx_nox, cx_K]
    walk_at "rd"
    refine ⟨_, _, _, _, false, rfl, .own C, tyT hs, N.kT, ?_⟩
    walk_at "rd"
    exact k
theorem g_neBl6 {H : Hp} {Q : VK} {a b : Bool} (e : a = b) (k : Q (.bl false) H) : rNe (.bl a) (.bl b) H Q := by
  subst e
  exact ⟨rfl, by simpa using k⟩
theorem g_neSame6 {H : Hp} {Q : VK} {x : V} (h : scal x x = true) (k : Q (.bl false) H) : rNe x x H Q := ⟨h, by simpa using k⟩
theorem g_eqK6 {H : Hp} {Q : VK} {E : XK} {p n t m q n2 t2 m2 : Addr} {ns ms : List Int} (Cl : KC K mg C) (hp : KindAt K C H p n t m ns) (hq : KindAt K C H q n2 t2 m2 ms) (k : ∀ H', Ext H H' → Q (.bl (decide (ns = ms))) H') : rCmpO K C (spKEq K C) E (.ref p) (.ref q) H Q := by
  obtain ⟨dx, hpi⟩ := id hp.ins
  obtain ⟨dy, hqi⟩ := id hq.ins
  exact ⟨p, dx, _, _, rfl, hpi, Cl.ty hqi, notFirst_own, p, n, t, m, q, n2, t2, m2, ns, ms, rfl, hp, hq, fun H' e => ⟨⟨_, rfl⟩, k H' e⟩⟩
theorem g_ltK6 {H : Hp} {Q : VK} {E : XK} {p n t m q n2 t2 m2 : Addr} {ns ms : List Int} (Cl : KC K mg C) (hp : KindAt K C H p n t m ns) (hq : KindAt K C H q n2 t2 m2 ms) (k : ∀ H', Ext H H' → Q (.bl (pairLtM ns ms)) H') : rCmpO K C (spTwo K C (fun _ _ => True) fun ns ms => .bl (pairLtM ns ms)) E (.ref p) (.ref q) H Q := by
  obtain ⟨dx, hpi⟩ := id hp.ins
  obtain ⟨dy, hqi⟩ := id hq.ins
  exact ⟨p, dx, _, _, rfl, hpi, Cl.ty hqi, notFirst_own, p, n, t, m, q, n2, t2, m2, ns, ms, rfl, hp, hq, trivial, fun H' e => ⟨⟨_, rfl⟩, k H' e⟩⟩
theorem g_eqKT6 {H : Hp} {Q : VK} {E : XK} {p n t m a : Addr} {ns : List Int} {xs : List V} (N : NKT K C) (hp : KindAt K C H p n t m ns) (hs : SqT K H a xs) (k : Q (.bl false) H) : rCmpO K C (spKEqT K C) E (.ref p) (.ref a) H Q := by
  obtain ⟨dx, hpi⟩ := id hp.ins
  exact ⟨p, dx, _, _, rfl, hpi, tyT hs, N.nT, p, n, t, m, a, ns, xs, rfl, hp, hs, ⟨_, rfl⟩, k⟩
theorem g_eqT6 {H : Hp} {Q : VK} {a b : Addr} {ns ms : List Int} (ha : SqT K H a (ns.map V.int)) (hb : SqT K H b (ms.map V.int)) (k : Q (.bl (decide (ns = ms))) H) : rEqD K (.ref a) (.ref b) H Q := by
  refine ⟨_, _, .tup ha (pdp ns), .tup hb (pdp ms), sh_row ns, sh_row ms, ?_⟩
  have e : PyData.eqv (.tuple (pdata ns)) (.tuple (pdata ms)) = decide (ns = ms) := by
    simp only [PyData.eqv, peqv]
  rw [e]
  exact k
theorem ltM_self (ns : List Int) : pairLtM ns ns = false := by
  unfold pairLtM pairLt
  rw [if_pos rfl, lex_self]
theorem row_ok : ((List.range 13).all fun n => (rows n n).all fun ns => okD (.tuple (pdata ns))) = true := by decide +kernel
theorem row_sh {ns : List Int} (h : Fall ns) : (PyData.tuple (pdata ns)).showable = true ∧ (PyData.tuple (pdata ns)).hasDict = false ∧ (PyData.tuple (pdata ns)).depth ≤ 60 ∧ (PyData.tuple (pdata ns)).shown.length ≤ sizeLine := by
  have h0 := h.sum0
  have hs := h.sum
  have := row_ok
  simp only [List.all_eq_true, List.mem_range] at this
  have := this ns.sum.toNat (by omega) ns (fall_in h (by omega))
  unfold okD at this
  simp only [Bool.and_eq_true, decide_eq_true_eq] at this
  obtain ⟨a1, a2, a3⟩ := sm_ok _ this.1.1
  have hz : (10000000 : Nat) ≤ sizeLine := by decide
  have := PyData.shown_le 64 (by decide) _ a3
  exact ⟨a1, a2, by omega, by omega⟩
theorem showT6 {H : Hp} {u : Addr} {ns : List Int} (h : Fall ns) (hu : TupX K H u (ns.map V.int)) : ShowV K H (.ref u) (PyData.tuple (pdata ns)).shown := by
  obtain ⟨a1, a2, a3, a4⟩ := row_sh h
  exact .inr (.inr (.inr (.inr ⟨u, _, rfl, .tup hu.sq (pdp ns), a1, a2, a3, a4, rfl⟩)))
theorem showI6 {H : Hp} {i : Nat} (h : i ≤ 1000) : ShowV K H (.int (i : Int)) (toString (i : Int)) := by
  refine .inr (.inr (.inl ⟨_, rfl, ?_, rfl⟩))
  have : (i : Int).natAbs.log2 ≤ (i : Int).natAbs := Nat.log2_le_self _
  omega
theorem tx_inj6 {x : Str} {ns ms : List Int} (h1 : Fall ns) (h2 : Fall ms) (e1 : tl x = txL ns) (e2 : tl x = txL ms) : ns = ms := by
  refine kindTx_inj h1 h2 ?_
  rw [← kind_of_tl (fun n hn => by have := h1.pos n hn; omega) e1, ← kind_of_tl (fun n hn => by have := h2.pos n hn; omega) e2]
abbrev sRight6 : Stmt := top 43
theorem scRight6 : FnScope ["_law_dice_here", "_law_texts", "_law_numbers", "_law_others", "_law_kind_here", "_law_other", "_law_turn", "_law_text"] ["_law_dice_here", "_law_texts"] (defScope sRight6) := ⟨rfl, rfl, rfl, by decide +kernel, rfl, by decide +kernel, by decide +kernel⟩
structure Law6 (P : Program) (w : World) (K : PySem.W.Frag) (mg : Str → Option Value) (base : Heap) (C CP t0 : Addr) : Prop where
  ini : Ini1 P w K mg base CX0 5 C t0 ["self", "numbers"] (spInit K C)
  eq : Met1 P w K mg base CX0 1 C "__eq__" ["self", "other"] (spKEq K C)
  eqT : Met1 P w K mg base CX0 1 C "__eq__" ["self", "other"] (spKEqT K C)
  lt : Met1 P w K mg base CX0 4 C "__lt__" ["self", "other"] (spTwo K C (fun _ _ => True) fun ns ms => .bl (pairLtM ns ms))
  read : RdK P w K mg base C CP
  kind : Def1 P w K mg base CX0 3 "_law_kind" ["_law_dice_here", "_law_most"] (spKind K)
  told : Def1 P w K mg base CX0 9 "_law_told" ["_law_kind_here"] (spTold6 K C)
  due : Def1 P w K mg base CX0 2 "_law_due" ["_law_numbers"] (spDue6 K)
  key : Def1 P w K mg base CX0 1 "_law_kind_key" ["_law_kind_here"] (spKey K)
  near : Def1 P w K mg base CX0 3 "_law_near" ["_law_dice_here", "_law_text"] spNear
  text : Def1 P w K mg base CX0 1 "_law_kind_text" ["_law_kind_here"] (spFTx K)
  didR : Def1 P w K mg base CX0 8 "_law_did_read" ["_law_text"] (spDidR K)
  lread : Def1 P w K mg base CX0 2 "_law_read" ["_law_text", "_law_texts"] (spLRead K)
def spRight6 (K : PySem.W.Frag) : Sp := fun vs H Q _ => ∃ (d D : Addr) (kvs : List (L2.Key × V)), vs = [.ref d, .ref D] ∧ DiceAt H d ∧ H D = some (.dK kvs) ∧ DTx K H kvs ∧ ∀ H', ExtBut d H H' → DiceAt H' d → Q (.bl true) H'
theorem ok_right6 (F : Fun K "_law_right" "_law_right" sRight6 f fd) (T : Txt K mg) (Cl : KC K mg C) (A : Law6 P w K mg base C CP t0) (B : Api6 P w K mg base C) (N : NKT K C) : FnG P w K mg base CX0 14 f fd ["_law_dice_here", "_law_texts"] (spRight6 K) := by
  refine fnG F scRight6 (fun vs H Q E h => ?_) (fun cdv Ar outer s H vs Q E hg hr h => ?_)
  · obtain ⟨d, D, kvs, rfl, _⟩ := h
    rfl
  · obtain ⟨d, D, kvs, rfl, hd, hD, hT, k⟩ := h
    refine ⟨_, PSs.nox (pss_cons (ps_par (i := 2) (j := 3) (by rfl) scRight6.nd rfl rfl (by decide) rfl rfl (pa_cons (pe_def A.kind hr (by decide) (by rfl) (pa_cons (pv 0) (pa_cons pe_int pa_nil))) (pa_cons (pe_def A.kind hr (by decide) (by rfl) (pa_cons (pv 0) (pa_cons pe_int pa_nil))) pa_nil)) (by rfl))
      (pss_cons (ps_par (i := 4) (j := 5) (by rfl) scRight6.nd rfl rfl (by decide) rfl rfl (pa_cons (pe_mk1 A.ini pass0 hr (by decide) (by rfl) Cl.g (pa_cons (pv 2) pa_nil)) (pa_cons (pe_mk1 A.ini pass0 hr (by decide) (by rfl) Cl.g (pa_cons (pv 3) pa_nil)) pa_nil)) (by rfl))
      (pss_cons (ps_if (PW.pt (pw_or (pt_cmpR op_ne (pe_callB (call_repr hg hr.units) (by rfl) T.repr (by decide +kernel) (pa_cons (pe_def A.told hr (by decide) (by rfl) (pa_cons (pv 4) pa_nil)) pa_nil)) (pe_callB (call_repr hg hr.units) (by rfl) T.repr (by decide +kernel) (pa_cons (pe_def A.due hr (by decide) (by rfl) (pa_cons (pv 2) pa_nil)) pa_nil)) (nomark _)) (pw_or (pt_cmpR (op_ne1 Cl.ne A.eq hr (by decide)) (pv 4) (pe_mk1 A.ini pass0 hr (by decide) (by rfl) Cl.g (pa_cons (pv 2) pa_nil)) (nomark _)) (pw_or1 (pt_cmpR op_ne (pe_cmpR (op_eq1 A.eq hr (by decide)) (pv 4) (pv 5) (nomark _)) (pe_cmpR (op_eqD hr.units) (pv 2) (pv 3) (nomark _)) (nomark _)))))) (pss_one (ps_ret pe_bl)) pss_nil)
      (pss_cons (ps_if (PW.pt (pw_or (pt_cmpR op_ne (pe_cmpR (op_lt1 A.lt hr (by decide)) (pv 4) (pv 5) (nomark _)) (pe_cmpR (op_ltP (lt66 hr)) (pe_def A.key hr (by decide) (by rfl) (pa_cons (pv 2) pa_nil)) (pe_def A.key hr (by decide) (by rfl) (pa_cons (pv 3) pa_nil)) (nomark _)) (nomark _)) (pw_or (pt_cmpR (op_eq1 A.eqT hr (by decide)) (pv 4) (pv 2) (nomark _)) (pw_or1 (pt_cmpR (op_lt1 A.lt hr (by decide)) (pv 4) (pv 4) (nomark _)))))) (pss_one (ps_ret pe_bl)) pss_nil)
      (pss_cons (ps_for PassesOwn.never rfl (pi_range1 (by rfl) T.range (pa_cons pe_int pa_nil)) (pg_name (i := 6) scRight6.nd rfl (Or.inl rfl)) (pss_cons (ps_set (i := 7) scRight6.nd rfl (Or.inl rfl) (pe_def A.near hr (by decide) (by rfl) (pa_cons (pv 0) (pa_cons (pe_def A.text hr (by decide) (by rfl) (pa_cons (pv 2) pa_nil)) pa_nil))))
      (pss_one (ps_if (pt_cmpR op_ne (pe_callB (call_reprV hg hr.units) (by rfl) T.repr (by decide +kernel) (pa_cons (pe_def A.didR hr (by decide) (by rfl) (pa_cons (pv 7) pa_nil)) pa_nil)) (pe_callB (call_reprV hg hr.units) (by rfl) T.repr (by decide +kernel) (pa_cons (pe_def A.lread hr (by decide) (by rfl) (pa_cons (pv 7) (pa_cons (pv 1) pa_nil))) pa_nil)) (nomark _)) (pss_one (ps_ret pe_bl)) pss_nil))))
      (pss_one (ps_ret (pe_cmpR (op_eq1 A.eq hr (by decide)) (pe_rd6 (E := X0) A.read (passes_call L2.takes0 (fun _ _ _ _ h => h)) (hr.mono (by decide)) (pe_glob (v := .ref C) (by rfl) Cl.g rfl) (pa_cons (pe_callTy (call_str6 B.str hr (by decide)) (by rfl) T.str (by decide +kernel) (pa_cons (pv 4) pa_nil)) pa_nil)) (pv 4) (nomark _))))))))), ?_⟩
    try dsimp only [cx_nox, cx_K]
    have sz : (100000 : Nat) < sizeLine := by decide
    refine g_seq (g_par ?_)
    walk_at "rd"
    refine ⟨d, 12, rfl, hd, by decide, by decide, fun H1 a ns b1 hd1 ha hF hs => ?_⟩
    have K1 := dice_keepsX hd b1
    walk_at "rd"
    refine ⟨d, 12, rfl, hd1, by decide, by decide, fun H2 a2 ms b2 hd2 ha2 hF2 hs2 => ?_⟩
    have K2 := dice_keepsX hd1 b2
    have ha' := TupX.keeps K2 ha
    have hD2 := K2 _ _ (fun _ z => by cases z) (K1 _ _ (fun _ z => by cases z) hD)
    have hT2 := (hT.keeps K1).keeps K2
    have b02 := ExtBut.trans b1 b2
    walk_at "rd"
    refine ⟨_, _, rfl, ?_⟩
    dsimp only
    refine g_seq (g_par ?_)
    walk_at "rd"
    refine g_make ?_
    walk_at "rd"
    refine g_mk3 (ns := ns) ha' hF fun H3 p n t m e3 hp => ?_
    walk_at "rd"
    refine g_make ?_
    walk_at "rd"
    refine g_mk3 (ns := ms) (ha2.ext e3) hF2 fun H4 q n2 t2 m2 e4 hq => ?_
    have hp4 := hp.ext e4
    have e24 := Ext.trans e3 e4
    have ha4 := ha'.ext e24
    have hb4 := ha2.ext e24
    walk_at "rd"
    refine ⟨_, _, rfl, ?_⟩
    dsimp only
    walk_at "rd"
    refine ⟨p, n, t, m, ns, rfl, hp4, fun H5 L5 e5 d5 => ?_⟩
    obtain ⟨q1, q2, q3, q4⟩ := told_sh hF
    walk_at "rd"
    refine ⟨L5, _, rfl, d5, q1, q2, q3, q4, ?_⟩
    walk_at "rd"
    refine ⟨a, ns, rfl, ha4.ext e5, hF, fun H6 L6 e6 d6 => ?_⟩
    have e46 := Ext.trans e5 e6
    walk_at "rd"
    refine ⟨L6, _, rfl, d6, q1, q2, q3, q4, ?_⟩
    dsimp only
    refine g_neSame6 rfl ⟨false, rfl, iteF ?_⟩
    have hp6 := hp4.ext e46
    have hq6 := hq.ext e46
    have ha6 := ha4.ext e46
    have hb6 := hb4.ext e46
    walk_at "rd"
    refine g_make ?_
    walk_at "rd"
    refine g_mk3 (ns := ns) ha6 hF fun H7 p7 n7 t7 m7 e7 hp7 => ?_
    walk_at "rd"
    refine g_neKind Cl (hp6.ext e7) hp7 fun H8 e8 => ?_
    rw [show (!decide (ns = ns)) = false by simp]
    refine ⟨false, rfl, iteF ?_⟩
    have e68 := Ext.trans e7 e8
    walk_at "rd"
    refine g_eqK6 Cl (hp6.ext e68) (hq6.ext e68) fun H9 e9 => ?_
    have e69 := Ext.trans e68 e9
    walk_at "rd"
    refine g_eqT6 (ha6.ext e69).sq (hb6.ext e69).sq ?_
    walk_at "rd"
    refine g_neBl6 rfl ⟨false, rfl, iteF ?_⟩
    walk_at "rd"
    refine g_ltK6 Cl (hp6.ext e69) (hq6.ext e69) fun Ha ea => ?_
    have e6a := Ext.trans e69 ea
    walk_at "rd"
    refine ⟨a, ns, rfl, (ha6.ext e6a).sq, hF, fun Hb y1 z1 eb hy1 hz1 => ?_⟩
    have e6b := Ext.trans e6a eb
    walk_at "rd"
    refine ⟨a2, ms, rfl, (hb6.ext e6b).sq, hF2, fun Hc y2 z2 ec hy2 hz2 => ?_⟩
    have e6c := Ext.trans e6b ec
    refine ⟨y1, y2, z1, z2, _, _, _, _, rfl, rfl, sqT_ext ec hy1, hy2, sqT_ext ec hz1, hz2, ?_⟩
    refine g_neBl6 rfl ⟨false, rfl, iteF ?_⟩
    walk_at "rd"
    refine g_eqKT6 N (hp6.ext e6c) (ha6.ext e6c).sq ⟨false, rfl, iteF ?_⟩
    walk_at "rd"
    refine g_ltK6 Cl (hp6.ext e6c) (hp6.ext e6c) fun Hd ed => ?_
    rw [ltM_self]
    refine ⟨false, rfl, iteF ?_⟩
    have e6d := Ext.trans e6c ed
    have e2d : Ext H2 Hd := Ext.trans e24 (Ext.trans e46 e6d)
    have hpd := hp6.ext e6d
    have had := ha6.ext e6d
    have hDd := e2d _ _ hD2
    have hTd := hT2.ext e2d
    have hdd := hd2.ext e2d
    have b0d := ExtBut.trans b02 (ExtBut.of e2d)
    walk_at "rd"
    refine g_forR ?_
    walk_at "rd"
    refine ⟨by decide, by decide, ?_⟩
    refine for_range (fun i σ H' => ∃ x y : Option V, σ = [some (.ref d), some (.ref D), some (.ref a), some (.ref a2), some (.ref p), some (.ref q), x, y] ∧ DiceAt H' d ∧ ExtBut d Hd H') ⟨_, _, rfl, hdd, fun _ _ _ z => z⟩ ?_ ?_
    · rintro i σ G1 hi ⟨x, y, rfl, gd1, gb1⟩
      have gk1 := dice_keepsX hdd gb1
      have ga1 := TupX.keeps gk1 had
      refine g_name (g_gen fun D1 hn1 hn2 => ?_)
      walk_at "rd"
      refine ⟨a, ns, rfl, ga1.sq, hF, fun G2 ge2 => ?_⟩
      have gd2 := gd1.ext ge2
      have hlk := kindTx_len hF
      walk_at "rd"
      refine ⟨d, kindTx ns, rfl, gd2, by omega, fun G3 z gb3 gd3 hz => ?_⟩
      have gk3 := Keeps.trans gk1 (Keeps.trans (Keeps.of ge2) (dice_keepsX gd2 gb3))
      have gD3 := gk3 _ _ (fun _ z => by cases z) hDd
      have gT3 := hTd.keeps gk3
      have gb13 := ExtBut.trans gb1 (ExtBut.trans (ExtBut.of ge2) gb3)
      walk_at "rd"
      refine ⟨z, rfl, by omega, fun ls hFl el G4 u ge4 hu => ?_, fun j hj G4 ge4 => ?_⟩
      · walk_at "rd"
        refine ⟨_, _, rfl, showT6 hFl hu, ?_⟩
        walk_at "rd"
        refine ⟨z, D, kvs, rfl, by omega, ge4 _ _ gD3, gT3.ext ge4, fun ls2 hFl2 el2 G5 u2 ge5 hu2 => ?_, fun j hj => ?_⟩
        · have := tx_inj6 hFl hFl2 el el2
          subst this
          walk_at "rd"
          refine ⟨_, _, rfl, showT6 hFl hu2, ?_⟩
          dsimp only
          refine g_neSame6 rfl ⟨false, rfl, iteF ?_⟩
          walk_at "rd"
          have ge35 := Ext.trans ge4 ge5
          exact hn1 _ _ ⟨_, _, rfl, gd3.ext ge35, ExtBut.trans gb13 (ExtBut.of ge35)⟩
        · rw [brk_none.mpr ⟨ls, hFl, el⟩] at hj
          cases hj
      · have hjl := (brk_some hj).1
        have hzl : z.length = (tl z).length := len_tl z
        walk_at "rd"
        refine ⟨_, _, rfl, showI6 (by omega), ?_⟩
        walk_at "rd"
        refine ⟨z, D, kvs, rfl, by omega, ge4 _ _ gD3, gT3.ext ge4, fun ls2 hFl2 el2 G5 u2 ge5 hu2 => ?_, fun j2 hj2 G5 ge5 => ?_⟩
        · rw [brk_none.mpr ⟨ls2, hFl2, el2⟩] at hj
          cases hj
        · have : j = j2 := by
            rw [hj] at hj2
            exact Option.some.inj hj2
          subst this
          walk_at "rd"
          refine ⟨_, _, rfl, showI6 (by omega), ?_⟩
          dsimp only
          refine g_neSame6 rfl ⟨false, rfl, iteF ?_⟩
          walk_at "rd"
          have ge35 := Ext.trans ge4 ge5
          exact hn1 _ _ ⟨_, _, rfl, gd3.ext ge35, ExtBut.trans gb13 (ExtBut.of ge35)⟩
    · rintro σ G1 ⟨x, y, rfl, gd1, gb1⟩
      have gk1 := dice_keepsX hdd gb1
      have gp1 := kindAt_keeps gk1 hpd
      obtain ⟨dx, hpi⟩ := id gp1.ins
      have hpos : ∀ n ∈ ns, 0 ≤ n := fun n hn => by have := hF.pos n hn; omega
      have hlk := kindTx_len hF
      walk_at "rd"
      unfold ClX.tCMeth
      walk_at "rd"
      refine ⟨rfl, ?_⟩
      walk_at "rd"
      refine ⟨p, dx, _, rfl, hpi, p, n, t, m, ns, rfl, gp1, fun G2 ge2 => ⟨_, rfl, ?_⟩⟩
      walk_at "rd"
      refine ⟨kindTx ns, rfl, by omega, fun ls hFl el G3 p3 n3 t3 m3 ge3 hp3 => ?_, fun j hj => ?_⟩
      · have := tx_inj6 hF hFl (tl_kind hpos) el
        subst this
        walk_at "rd"
        refine g_eqK6 Cl hp3 (gp1.ext (Ext.trans ge2 ge3)) fun G4 ge4 => ?_
        rw [decide_eq_true rfl]
        have ge14 := Ext.trans ge2 (Ext.trans ge3 ge4)
        exact k G4 (ExtBut.trans b0d (ExtBut.trans gb1 (ExtBut.of ge14))) (gd1.ext ge14)
      · rw [brk_none.mpr ⟨ns, hF, tl_kind hpos⟩] at hj
        cases hj
end
end

/-! The law. -/

section
open PySem PySem.Spec PyProof.Rows L2 Gd TL
/-- an entry of the dict: a kind's text and its numbers -/
def EntT (K : PySem.W.Frag) (H : Hp) (v : V) (ns : List Int) : Prop := ∃ p a, v = .ref p ∧ H p = some (.tup [.str (kindTx ns), .ref a]) ∧ TupX K H a (ns.map V.int)
theorem EntT.keeps {K : PySem.W.Frag} {H H' : Hp} (e : Keeps H H') {v : V} {ns : List Int} (h : EntT K H v ns) : EntT K H' v ns := by
  obtain ⟨p, a, rfl, h1, h2⟩ := h
  exact ⟨p, a, rfl, e _ _ (fun _ z => by cases z) h1, TupX.keeps e h2⟩
theorem ents_of {K : PySem.W.Frag} {H : Hp} : ∀ {ys : List V} {L : List (List Int)}, Paired (EntT K H) ys L → ∃ (ps : List Addr) (kvs : List (L2.Key × V)), ys = ps.map V.ref ∧ Paired (fun (p : Addr) (kv : L2.Key × V) => SqT K H p [kV kv.1, kv.2]) ps kvs ∧ kvs.length = L.length ∧
    (∀ q ∈ kvs, ∃ ns a, ns ∈ L ∧ q = (Sum.inr (kindTx ns), .ref a) ∧ TupX K H a (ns.map V.int)) ∧ ∀ ns ∈ L, ∃ q ∈ kvs, q.1 = Sum.inr (kindTx ns)
  | [], [], _ => ⟨[], [], rfl, .nil, rfl, (fun q hq => by cases hq), (fun ns hn => by cases hn)⟩
  | y :: ys, l :: L, h => by
    cases h with
    | cons h t =>
      obtain ⟨p, a, rfl, h1, h2⟩ := h
      obtain ⟨ps, kvs, rfl, q1, q2, q3, q4⟩ := ents_of t
      refine ⟨p :: ps, (Sum.inr (kindTx l), .ref a) :: kvs, rfl, .cons (SqT.of h1) q1, by rw [List.length_cons, List.length_cons, q2], fun q hq => ?_, fun ns hn => ?_⟩
      · rcases List.mem_cons.mp hq with rfl | hq
        · exact ⟨l, a, List.mem_cons_self, rfl, h2⟩
        · obtain ⟨ns, a, e1, e2, e3⟩ := q3 q hq
          exact ⟨ns, a, List.mem_cons_of_mem _ e1, e2, e3⟩
      · rcases List.mem_cons.mp hn with rfl | hn
        · exact ⟨_, List.mem_cons_self, rfl⟩
        · obtain ⟨q, e1, e2⟩ := q4 ns hn
          exact ⟨q, List.mem_cons_of_mem _ e1, e2⟩
theorem dtx_of {K : PySem.W.Frag} {H : Hp} {kvs : List (L2.Key × V)} (hl : kvs.length ≤ 5000) (h3 : ∀ q ∈ kvs, ∃ ns a, ns ∈ everyM 13 ∧ q = (Sum.inr (kindTx ns), .ref a) ∧ TupX K H a (ns.map V.int)) (h4 : ∀ ns ∈ everyM 13, ∃ q ∈ kvs, q.1 = Sum.inr (kindTx ns)) : DTx K H (mergeK [] kvs) := by
  refine ⟨?_, fun p hp => ?_, fun k v hv => ?_, fun ns hF => ?_⟩
  · have := length_mergeK kvs []
    simp at this
    omega
  · rcases merge_keys _ _ p hp with z | ⟨q, hq, e⟩
    · cases z
    · obtain ⟨ns, a, h1, rfl, _⟩ := h3 q hq
      exact ⟨ns, every_mem.mp h1, e.symm⟩
  · refine merge_vals (G := fun k v => ∃ ns a, Fall ns ∧ k = Sum.inr (kindTx ns) ∧ v = .ref a ∧ TupX K H a (ns.map V.int)) kvs [] (fun p hp => ?_) (fun k v h => by cases h) k v hv
    obtain ⟨ns, a, h1, rfl, h2⟩ := h3 p hp
    exact ⟨ns, a, every_mem.mp h1, rfl, rfl, h2⟩
  · obtain ⟨q, hq, e⟩ := h4 ns (every_mem.mpr hF)
    exact merge_some _ _ _ (.inr ⟨q, hq, e⟩)
/-! ### ten texts -/
def tbl6 : List (Str × (Nat ⊕ List Int)) := [("[3 4]", .inl 3), ("[12]", .inr [12]), ("[13]", .inl 2), ("[]", .inr []), ("[ ]", .inl 1), ("", .inl 0), ("[10 2 1]", .inl 5), ("[6 6]]", .inl 5), ("[1 1", .inl 4), ("[01]", .inl 1)]
def chk6 (q : Str × (Nat ⊕ List Int)) : Bool := decide (q.1.length ≤ 1000) && match q.2 with
  | .inl i => decide (brkT (tl q.1) = some i)
  | .inr ns => fallB ns && decide (tl q.1 = txL ns)
theorem tbl_chk : tbl6.all chk6 = true := by decide +kernel
theorem tbl_ok {q : Str × (Nat ⊕ List Int)} (h : q ∈ tbl6) : chk6 q = true := List.all_eq_true.mp tbl_chk q h
def dat6 : Nat ⊕ List Int → PyData
  | .inl i => .int (i : Int)
  | .inr ns => .tuple (pdata ns)
def RD6 (K : PySem.W.Frag) (H : Hp) (v : V) (q : Nat ⊕ List Int) : Prop := match q with
  | .inl i => v = .int (i : Int)
  | .inr ns => ∃ a, v = .ref a ∧ TupX K H a (ns.map V.int)
theorem RD6.keeps {K : PySem.W.Frag} {H H' : Hp} (e : Keeps H H') {v : V} {q : Nat ⊕ List Int} (h : RD6 K H v q) : RD6 K H' v q := by
  cases q with
  | inl i => exact h
  | inr ns =>
    obtain ⟨a, rfl, h⟩ := h
    exact ⟨a, rfl, TupX.keeps e h⟩
theorem rd6_dp {K : PySem.W.Frag} {H : Hp} : ∀ {ys : List V} {L : List (Nat ⊕ List Int)}, Paired (RD6 K H) ys L → DpAll K H ys (L.map dat6)
  | [], [], _ => .nil
  | y :: ys, .inl i :: L, h => by
    cases h with
    | cons h t =>
      have h : y = .int (i : Int) := h
      subst h
      exact .cons (.int _) (rd6_dp t)
  | y :: ys, .inr ns :: L, h => by
    cases h with
    | cons h t =>
      obtain ⟨a, rfl, h⟩ := h
      exact .cons (.tup h.sq (pdp ns)) (rd6_dp t)
section
variable {P : Program} {w : World} {K : PySem.W.Frag} {mg : Str → Option Value} {base : Heap} {f C CP fP t0 : Addr} {fd : FuncData}
abbrev sLaw : Stmt := top 44
theorem scLaw6 : FnScope ["_law_script", "_law_texts", "_law_numbers", "_law_spot", "_law_dice_here", "_law_turn", "_law_told_here", "_law_text"] ["_law_script"] (defScope sLaw) := ⟨rfl, rfl, rfl, by decide +kernel, rfl, by decide +kernel, by decide +kernel⟩
structure Def1G6 (P : Program) (w : World) (K : PySem.W.Frag) (mg : Str → Option Value) (base : Heap) (CX : CXT) (k : Nat) (name : Str) (ps : List Str) (sp : Sp) : Prop where
  ex : ∃ (f : Addr) (fd : FuncData), mg name = some (.ref f) ∧ PySem.W.keepIn K (.ref f) = true ∧ FnG P w K mg base CX k f fd ps sp ∧ Binds K fd ps []
theorem pe_defG6 {X : Cx} {k j : Nat} {x : Str} {ps : List Str} {sp : Sp} {e : Expr} {es : List Expr} {t : TA} {p pos : Pos} (hg : NoG X.A) (D : Def1G6 X.prog X.w X.K X.mg X.base CX0 k x ps sp) (hr : Room j X.A) (hj : k ≤ j) (hgl : Gl X x) (ha : PA X (e :: es) t) (hdb : (x == ("__debug__" : Str)) = false := by decide)
    (he : starEach (e :: es) X.env = (false, eval e X.env) :: starEach es X.env := by rfl) (hpl : (backTo pos (starEach es X.env)).any (·.1) = false := by rfl) : PE X (.Call (.Name x p) (e :: es) [] pos) (tCall sp [] X0 t) := by
  obtain ⟨f, fd, hm, hk, F, hb⟩ := D.ex
  exact pe_callG hg F (hr.mono hj) hgl hm hk hb .nil pass0 ha hdb he hpl
def spLaw (K : PySem.W.Frag) : Sp := fun vs H Q _ => ∃ (a : Addr) (ns : List Int), vs = [.ref a] ∧ SqL K H a (ns.map V.int) ∧ ns.length ≤ 63 ∧ ∀ H', Q (.bl true) H'
theorem ok_law (F : Fun K "law" "law" sLaw f fd) (T : Txt K mg) (A : Law6 P w K mg base C CP t0) (Dd : Def1 P w K mg base CX0 1 "_law_dice" ["_law_script", "_law_spot"] (spDice K)) (Ev : Def1 P w K mg base CX0 2 "_law_every_kind" ["_law_most"] (spEvery K)) (Rg : Def1G6 P w K mg base CX0 14 "_law_right" ["_law_dice_here", "_law_texts"] (spRight6 K)) :
    FnG P w K mg base CX0 15 f fd ["_law_script"] (spLaw K) := by
  refine fnG F scLaw6 (fun vs H Q E h => ?_) (fun cdv Ar outer s H vs Q E hg hr h => ?_)
  · obtain ⟨a, ns, rfl, _⟩ := h
    rfl
  · obtain ⟨a, ns, rfl, hs, hl, k⟩ := h
    refine ⟨_, PSs.nox (pss_cons (ps_set (i := 1) scLaw6.nd rfl (Or.inl rfl) (pe_callTy (call_dictP rfl) (by rfl) T.dict (by decide +kernel) (pa_cons (pe_lc (own := [("_law_numbers", 2)]) (g := gName 2) (tt := tYes) rfl scLaw6.nd (pi_list (pe_def Ev hr (by decide) (by rfl) (pa_cons pe_int pa_nil))) (blkOk_by (N := ["_law_script", "_law_texts", "_law_numbers", "_law_spot", "_law_dice_here", "_law_turn", "_law_told_here", "_law_text"]) (sc := defScope sLaw) (by decide +kernel)) (fun _ _ _ _ _ => pg_name (i := 2) scLaw6.nd rfl (Or.inl rfl)) (fun _ _ _ _ _ => pts_nil) (fun _ _ _ _ _ => by exact (pe_tup (pa_cons (pe_def A.text hr (by decide) (by rfl) (pa_cons (pv 2) pa_nil)) (pa_cons (pv 2) pa_nil))))) pa_nil)))
      (pss_cons (ps_for PassesOwn.never rfl (pi_range1 (by rfl) T.range (pa_cons (pe_callB (call_max2 rfl) (by rfl) T.max (by decide +kernel) (pa_cons pe_int (pa_cons (pe_callB (call_min2 rfl) (by rfl) T.min (by decide +kernel) (pa_cons pe_int (pa_cons (pe_callB call_len_seq (by rfl) T.len PySem.boot_len (pa_cons (pv 0) pa_nil)) pa_nil))) pa_nil))) pa_nil)) (pg_name (i := 3) scLaw6.nd rfl (Or.inl rfl)) (pss_cons (ps_set (i := 4) scLaw6.nd rfl (Or.inl rfl) (pe_def Dd hr (by decide) (by rfl) (pa_cons (pv 0) (pa_cons (pv 3) pa_nil))))
      (pss_one (ps_for PassesOwn.never rfl (pi_range1 (by rfl) T.range (pa_cons pe_int pa_nil)) (pg_name (i := 5) scLaw6.nd rfl (Or.inl rfl)) (pss_one (ps_if (pt_not (pt_val (pe_defG6 hg Rg hr (by decide) (by rfl) (pa_cons (pv 4) (pa_cons (pv 1) pa_nil))))) (pss_one (ps_ret pe_bl)) pss_nil))))))
      (pss_cons (ps_setLc (i := 6) (own := [("_law_text", 7)]) (g := gName 7) (tt := tYes) rfl scLaw6.nd rfl rfl (sw_true rfl rfl rfl (by decide +kernel)) (pi_tup (pe_tup (pa_cons pe_str (pa_cons pe_str (pa_cons pe_str (pa_cons pe_str (pa_cons pe_str (pa_cons pe_str (pa_cons pe_str (pa_cons pe_str (pa_cons pe_str (pa_cons pe_str pa_nil)))))))))))) (blkOk_by (N := ["_law_script", "_law_texts", "_law_numbers", "_law_spot", "_law_dice_here", "_law_turn", "_law_told_here", "_law_text"]) (sc := defScope sLaw) (by decide +kernel)) (fun _ _ _ _ _ => pg_name (i := 7) scLaw6.nd rfl (Or.inl rfl)) (fun _ _ _ _ _ => pts_nil) (fun _ _ _ _ _ => by exact (pe_def A.didR hr (by decide) (by rfl) (pa_cons (pv 7) pa_nil))))
      (pss_one (ps_ret (pe_cmpR (op_eqD hr.units) (pv 6) (pe_lst (pa_cons pe_int (pa_cons (pe_tup (pa_cons pe_int pa_nil)) (pa_cons pe_int (pa_cons (pe_tup pa_nil) (pa_cons pe_int (pa_cons pe_int (pa_cons pe_int (pa_cons pe_int (pa_cons pe_int (pa_cons pe_int pa_nil))))))))))) (nomark _))))))), ?_⟩
    try dsimp only [cx_nox, cx_K]
    have sz : (100000 : Nat) < sizeLine := by decide
    walk_at "rd"
    refine g_lc (g_ilist ?_)
    walk_at "rd"
    refine ⟨rfl, fun H1 Fa fs e1 hFa hf => ?_⟩
    walk_at "rd"
    have hlf := pair_len hf
    have hle := every_len 13 (by omega)
    refine lcPL (as := everyM 13) (SqL.of hFa) hlf (by omega) [] (fun _ => true) (fun r => r) (EntT K) (fun H H' y b e r => r.keeps e) (fun i x y H' hx hy e Qe Qn he hn => ?_) (fun H2 L ys e2 hL0 hL hys => ?_)
    · obtain ⟨y', hy', b, rfl, hb⟩ := pair_at hf i x hx
      obtain rfl : y' = y := Option.some.inj (hy'.symm.trans hy)
      have hFy := every_mem.mp (List.mem_of_getElem? hy)
      refine ⟨rfl, ?_⟩
      walk_at "rd"
      refine ⟨b, y', rfl, (hb.ext e).sq, hFy, fun H3 e3 => ?_⟩
      walk_at "rd"
      refine ⟨by show 2 ≤ sizeLine; decide, fun u hu => ?_⟩
      exact he _ _ (Ext.trans e3 (Ext.new hu)) rfl ⟨u, b, rfl, upd_same, ((hb.ext e).ext e3).ext (Ext.new hu)⟩
    rw [List.filter_eq_self.mpr (fun _ _ => rfl), List.map_id'] at hys
    obtain ⟨ps, kvs, rfl, hp, hkl, hk1, hk2⟩ := ents_of hys
    walk_at "rd"
    refine ⟨L, ps, kvs, rfl, SqL.of hL, hp, fun D hD => ?_⟩
    have eD := Ext.new (o := HO.dK (mergeK [] kvs)) hD
    have hD3 := new_at (o := HO.dK (mergeK [] kvs)) hD
    have hT3 := (dtx_of (by omega) hk1 hk2).ext eD
    have e03 := Ext.trans e1 (Ext.trans e2 eD)
    generalize upd H2 D _ = H3 at eD hD3 hT3 e03 ⊢
    walk_at "rd"
    refine g_forR ?_
    walk_at "rd"
    refine ⟨a, _, rfl, .inl (sqL_ext e03 hs), ?_⟩
    walk_at "rd"
    rw [List.length_map]
    refine ⟨by split <;> omega, by split <;> omega, ?_⟩
    refine for_range (fun i σ H' => ∃ x2 x3 x4 x5 : Option V, σ = [some (.ref a), some (.ref D), x2, x3, x4, x5, none, none] ∧ Ext H3 H') ⟨_, _, _, _, rfl, fun _ _ z => z⟩ ?_ ?_
    · rintro i σ H4 hi ⟨x2, x3, x4, x5, rfl, e⟩
      have hi63 : i ≤ 63 := by
        revert hi
        split <;> (try split) <;> intro hi <;> omega
      refine g_name (g_gen fun D1 hn1 _ => ?_)
      walk_at "rd"
      have hi0 : (0 : Int) + (i : Int) = (i : Int) := by omega
      rw [hi0]
      refine ⟨a, ns, i, rfl, sqL_ext (Ext.trans e03 e) hs, hi63, fun H5 d e5 hd0 hd => ?_⟩
      walk_at "rd"
      dsimp only
      refine g_forR ?_
      walk_at "rd"
      refine ⟨by decide, by decide, ?_⟩
      refine for_range (fun j σ H' => ∃ x5 : Option V, σ = [some (.ref a), some (.ref D), x2, some (.int (i : Int)), some (.ref d), x5, none, none] ∧ DiceAt H' d ∧ ExtBut d H5 H') ⟨_, rfl, hd, fun _ _ _ z => z⟩ ?_ ?_
      · rintro j σ H6 hj ⟨x5, rfl, hd6, e6⟩
        have K6 := dice_keepsX hd e6
        walk_at "rd"
        refine ⟨d, D, _, rfl, hd6, K6 _ _ (fun _ z => by cases z) (e5 _ _ (e _ _ hD3)), ((hT3.ext e).ext e5).keeps K6, fun H7 e7 hd7 => ?_⟩
        walk_at "rd"
        exact ⟨_, rfl, hd7, ExtBut.trans e6 e7⟩
      · rintro σ H6 ⟨x5, rfl, hd6, e6⟩
        refine hn1 _ _ ⟨_, _, _, _, rfl, fun b o q => ?_⟩
        have q2 := e b o q
        exact e6 b o (ne_of_none q2 hd0) (e5 b o q2)
    rintro σ Hz ⟨x2, x3, x4, x5, rfl, _⟩
    walk_at "rd"
    refine g_lc (g_itup ?_)
    walk_at "rd"
    refine ⟨by show 10 ≤ sizeLine; decide, fun u hu => ?_⟩
    have hu2 := new_at (o := HO.tup (tbl6.map fun q => V.str q.1)) hu
    rw [show [V.str "[3 4]", V.str "[12]", V.str "[13]", V.str "[]", V.str "[ ]", V.str "", V.str "[10 2 1]", V.str "[6 6]]", V.str "[1 1", V.str "[01]"] = tbl6.map (fun q => V.str q.1) from rfl]
    refine lcPT (xs := tbl6.map fun q => V.str q.1) (as := tbl6) (SqT.of hu2) (List.length_map ..) (by show 10 < sizeLine; decide) ("", .inl 0) (fun _ => true) (fun q => q.2) (RD6 K) (fun H H' y b e r => r.keeps e) (fun i x y H' hx hy e Qe Qn he hn => ?_) (fun H4 L4 ys4 e4 hL40 hL4 hys4 => ?_)
    · rw [List.getElem?_map, hy] at hx
      cases hx
      have hq := tbl_ok (List.mem_of_getElem? hy)
      obtain ⟨t, r⟩ := y
      unfold chk6 at hq
      rw [Bool.and_eq_true, decide_eq_true_eq] at hq
      obtain ⟨hq1, hq2⟩ := hq
      refine ⟨rfl, ?_⟩
      walk_at "rd"
      cases r with
      | inl j =>
        have hq2 : brkT (tl t) = some j := of_decide_eq_true hq2
        refine ⟨t, rfl, hq1, fun ls hFl el H5 u5 e5 hu5 => ?_, fun j2 hj2 H5 e5 => ?_⟩
        · rw [brk_none.mpr ⟨ls, hFl, el⟩] at hq2
          cases hq2
        · rw [hq2] at hj2
          cases hj2
          exact he _ _ e5 rfl rfl
      | inr ls0 =>
        have hq2 : (fallB ls0 && decide (tl t = txL ls0)) = true := hq2
        rw [Bool.and_eq_true, decide_eq_true_eq] at hq2
        refine ⟨t, rfl, hq1, fun ls hFl el H5 u5 e5 hu5 => ?_, fun j2 hj2 H5 e5 => ?_⟩
        · have := tx_inj6 hFl (fall_of hq2.1) el hq2.2
          subst this
          exact he _ _ e5 rfl ⟨u5, rfl, hu5⟩
        · rw [brk_none.mpr ⟨ls0, fall_of hq2.1, hq2.2⟩] at hj2
          cases hj2
    rw [List.filter_eq_self.mpr (fun _ _ => rfl)] at hys4
    have d4 := rd6_dp hys4
    walk_at "rd"
    refine ⟨by show 1 ≤ sizeLine; decide, fun v1 hv1 => ?_⟩
    have ev1 := Ext.new (o := HO.tup [V.int 12]) hv1
    walk_at "rd"
    refine ⟨Nat.zero_le _, fun v2 hv2 => ?_⟩
    have ev2 := Ext.new (o := HO.tup []) hv2
    walk_at "rd"
    refine ⟨by show 10 ≤ sizeLine; decide, fun v3 hv3 => ?_⟩
    have ev3 := Ext.new (o := HO.lst [V.int 3, V.ref v1, V.int 2, V.ref v2, V.int 1, V.int 0, V.int 5, V.int 5, V.int 4, V.int 1]) hv3
    have ev := Ext.trans ev1 (Ext.trans ev2 ev3)
    refine ⟨_, _, .lst (SqL.of (ev _ _ hL4)) (dpAll_ext ev d4), .lst (SqL.of upd_same) (.cons (.int 3) (.cons (.tup (SqT.of (ev3 _ _ (ev2 _ _ upd_same))) (.cons (.int 12) .nil)) (.cons (.int 2) (.cons (.tup (SqT.of (ev3 _ _ upd_same)) .nil) (.cons (.int 1) (.cons (.int 0) (.cons (.int 5) (.cons (.int 5) (.cons (.int 4) (.cons (.int 1) .nil)))))))))), by decide +kernel, by decide +kernel, ?_⟩
    rw [show PyData.eqv _ _ = true from by decide +kernel]
    exact k _
end
end

/-! What the top has written. -/

section
open PySem PySem.Spec PyProof.Rows L2 Gd
open LamX (Tabs TabB TabS ExtN)
/-- an error of the class at S, an except clause that names U -/
theorem exm_one {K : PySem.W.Frag} {S U : Addr} {b : Bool} (h1 : PySem.W.subIn K (.ref U) (.type "BaseException") = some true) (h2 : PySem.W.isClsIn K U = true) (h3 : PySem.W.typeIn K (.ref U) = some (.type "type")) (h4 : PySem.W.subIn K (.ref S) (.ref U) = some b) :
    PySem.W.exmOne K (.ref S) (.ref U) = some b := by
  have h2' : (PySem.W.clsIn K U).isSome = true := h2
  simp [PySem.W.exmOne, PySem.W.kitCls, h1, h2', h3, h4]
theorem kit_self {K : PySem.W.Frag} {C : Addr} : PySem.W.kitOne K (.ref C) (.ref C) = some true := by
  unfold PySem.W.kitOne
  simp
theorem kit_own {K : PySem.W.Frag} {C D : Addr} {b : Bool} (n : C ≠ D) (h : PySem.W.isClsIn K D = true) (ht : PySem.W.typeIn K (.ref D) = some (.type "type")) (hs : PySem.W.subIn K (.ref C) (.ref D) = some b) : PySem.W.kitOne K (.ref C) (.ref D) = some b := by
  have h' : (PySem.W.clsIn K D).isSome = true := h
  have e : (Value.ref C == Value.ref D) = false := by simpa using n
  simp [PySem.W.kitOne, PySem.W.kitCls, e, h', ht, hs]
theorem kit_ty {K : PySem.W.Frag} {C : Addr} {T : String} {b : Bool} (hT : PySem.W.kitMeta T = true) (hs : PySem.W.subIn K (.ref C) (.type T) = some b) : PySem.W.kitOne K (.ref C) (.type T) = some b := by
  have e : (Value.ref C == Value.type T) = false := rfl
  simp [PySem.W.kitOne, PySem.W.kitCls, e, hT, hs]
theorem kit_not {K : PySem.W.Frag} {C : Addr} {T : String} (h : PySem.W.isClsIn K C = true) (ht : PySem.W.typeIn K (.ref C) = some (.type "type")) (hs : PySem.W.subIn K (.type T) (.ref C) = some false) : PySem.W.kitOne K (.type T) (.ref C) = some false := by
  have h' : (PySem.W.clsIn K C).isSome = true := h
  have e : (Value.type T == Value.ref C) = false := rfl
  simp [PySem.W.kitOne, PySem.W.kitCls, e, h', ht, hs]
theorem of_len1 {us : List Value} (hl : us.length = 1) : ∃ a, us = [a] := List.length_eq_one_iff.mp hl
theorem of_lenS {us : List Value} {n : Nat} (hl : us.length = n + 1) : ∃ a t, us = a :: t ∧ t.length = n := by
  cases us with
  | nil => exact absurd hl (Nat.succ_ne_zero n).symm
  | cons a us => exact ⟨a, us, rfl, Nat.succ.inj hl⟩
theorem of_len2 {us : List Value} (hl : us.length = 2) : ∃ a b, us = [a, b] := by
  obtain ⟨a, t, rfl, h⟩ := of_lenS hl
  obtain ⟨b, rfl⟩ := of_len1 h
  exact ⟨a, b, rfl⟩
theorem of_len3 {us : List Value} (hl : us.length = 3) : ∃ a b c, us = [a, b, c] := by
  obtain ⟨a, t, rfl, h⟩ := of_lenS hl
  obtain ⟨b, c, rfl⟩ := of_len2 h
  exact ⟨a, b, c, rfl⟩
theorem of_len4 {us : List Value} (hl : us.length = 4) : ∃ a b c d, us = [a, b, c, d] := by
  obtain ⟨a, t, rfl, h⟩ := of_lenS hl
  obtain ⟨b, c, d, rfl⟩ := of_len3 h
  exact ⟨a, b, c, d, rfl⟩
theorem of_len5 {us : List Value} (hl : us.length = 5) : ∃ a b c d e, us = [a, b, c, d, e] := by
  obtain ⟨a, t, rfl, h⟩ := of_lenS hl
  obtain ⟨b, c, d, e, rfl⟩ := of_len4 h
  exact ⟨a, b, c, d, e, rfl⟩
theorem notFirst_sub {K : PySem.W.Frag} {G : Addr} {t : Value} (hs : PySem.W.subIn K t (.ref G) = some false) : PySem.W.notFirst K G t = true := by
  unfold PySem.W.notFirst
  rw [hs]
  simp
theorem all_mk {l : PySem.W.OpenLaw} {w : World} {K : PySem.W.Frag} {h : Heap} {mg : Str → Option Value} {fa fWh fIn fIw fRi fFa fNa fTr fSl fTx fBk fRf fDi fRo fPi fKs fKd fLt fLl fLx fKy fEv fTo fDu fNe fLr fDr fRg fLa C fI0 TI0 tI0 fIt fLe fIr fEq fLs fSt fPn pPn fPs pPs fPr pPr fPh pPh fPl pPl fPt pPt fPe pPe fPf pPf fPk pPk fRd pRd CNx fNx qNx CKx CPx fPx qPx : Addr} (X : K.In h) (G : h.Ns mainGlobals mg) (hfa : mg "law" = some (.ref fa))
    {odWh anWh : Option Addr} {slWh : Array (Option Value)} {ocWh kVWh dcWh pmWh cdWh ctWh : Value}
    {odIn anIn : Option Addr} {slIn : Array (Option Value)} {ocIn kVIn dcIn pmIn cdIn ctIn : Value}
    {odIw anIw : Option Addr} {slIw : Array (Option Value)} {ocIw kVIw dcIw pmIw cdIw ctIw : Value}
    {odRi anRi : Option Addr} {slRi : Array (Option Value)} {ocRi kVRi dcRi pmRi cdRi ctRi : Value}
    {odFa anFa : Option Addr} {slFa : Array (Option Value)} {ocFa kVFa dcFa pmFa cdFa ctFa : Value}
    {odNa anNa : Option Addr} {slNa : Array (Option Value)} {ocNa kVNa dcNa pmNa cdNa ctNa : Value}
    {odTr anTr : Option Addr} {slTr : Array (Option Value)} {ocTr kVTr dcTr pmTr cdTr ctTr : Value}
    {odSl anSl : Option Addr} {slSl : Array (Option Value)} {ocSl kVSl dcSl pmSl cdSl ctSl : Value}
    {odTx anTx : Option Addr} {slTx : Array (Option Value)} {ocTx kVTx dcTx pmTx cdTx ctTx : Value}
    {odBk anBk : Option Addr} {slBk : Array (Option Value)} {ocBk kVBk dcBk pmBk cdBk ctBk : Value}
    {odRf anRf : Option Addr} {slRf : Array (Option Value)} {ocRf kVRf dcRf pmRf cdRf ctRf : Value}
    {odDi anDi : Option Addr} {slDi : Array (Option Value)} {ocDi kVDi dcDi pmDi cdDi ctDi : Value}
    {odRo anRo : Option Addr} {slRo : Array (Option Value)} {ocRo kVRo dcRo pmRo cdRo ctRo : Value}
    {odPi anPi : Option Addr} {slPi : Array (Option Value)} {ocPi kVPi dcPi pmPi cdPi ctPi : Value}
    {odKs anKs : Option Addr} {slKs : Array (Option Value)} {ocKs kVKs dcKs pmKs cdKs ctKs : Value}
    {odKd anKd : Option Addr} {slKd : Array (Option Value)} {ocKd kVKd dcKd pmKd cdKd ctKd : Value}
    {odLt anLt : Option Addr} {slLt : Array (Option Value)} {ocLt kVLt dcLt pmLt cdLt ctLt : Value}
    {odLl anLl : Option Addr} {slLl : Array (Option Value)} {ocLl kVLl dcLl pmLl cdLl ctLl : Value}
    {odLx anLx : Option Addr} {slLx : Array (Option Value)} {ocLx kVLx dcLx pmLx cdLx ctLx : Value}
    {odKy anKy : Option Addr} {slKy : Array (Option Value)} {ocKy kVKy dcKy pmKy cdKy ctKy : Value}
    {odEv anEv : Option Addr} {slEv : Array (Option Value)} {ocEv kVEv dcEv pmEv cdEv ctEv : Value}
    {odTo anTo : Option Addr} {slTo : Array (Option Value)} {ocTo kVTo dcTo pmTo cdTo ctTo : Value}
    {odDu anDu : Option Addr} {slDu : Array (Option Value)} {ocDu kVDu dcDu pmDu cdDu ctDu : Value}
    {odNe anNe : Option Addr} {slNe : Array (Option Value)} {ocNe kVNe dcNe pmNe cdNe ctNe : Value}
    {odLr anLr : Option Addr} {slLr : Array (Option Value)} {ocLr kVLr dcLr pmLr cdLr ctLr : Value}
    {odDr anDr : Option Addr} {slDr : Array (Option Value)} {ocDr kVDr dcDr pmDr cdDr ctDr : Value}
    {odRg anRg : Option Addr} {slRg : Array (Option Value)} {ocRg kVRg dcRg pmRg cdRg ctRg : Value}
    {odLa anLa : Option Addr} {slLa : Array (Option Value)} {ocLa kVLa dcLa pmLa cdLa ctLa : Value}
    {odI0 anI0 : Option Addr} {slI0 : Array (Option Value)} {ocI0 kVI0 dcI0 pmI0 cdI0 ctI0 : Value}
    {o1I0 : Value} {o2I0 : Option Addr} {o3I0 : Nat} {o4I0 : Array (Option Value)} {o6I0 : Nat} {o7I0 : Array (Option Value)}
    {odIt anIt : Option Addr} {slIt : Array (Option Value)} {ocIt kVIt dcIt pmIt cdIt ctIt : Value}
    {odLe anLe : Option Addr} {slLe : Array (Option Value)} {ocLe kVLe dcLe pmLe cdLe ctLe : Value}
    {odIr anIr : Option Addr} {slIr : Array (Option Value)} {ocIr kVIr dcIr pmIr cdIr ctIr : Value}
    {odEq anEq : Option Addr} {slEq : Array (Option Value)} {ocEq kVEq dcEq pmEq cdEq ctEq : Value}
    {odLs anLs : Option Addr} {slLs : Array (Option Value)} {ocLs kVLs dcLs pmLs cdLs ctLs : Value}
    {odSt anSt : Option Addr} {slSt : Array (Option Value)} {ocSt kVSt dcSt pmSt cdSt ctSt : Value}
    {restPn : List Value}
    {odPn anPn : Option Addr} {slPn : Array (Option Value)} {ocPn kVPn dcPn pmPn cdPn ctPn : Value}
    {restPs : List Value}
    {odPs anPs : Option Addr} {slPs : Array (Option Value)} {ocPs kVPs dcPs pmPs cdPs ctPs : Value}
    {restPr : List Value}
    {odPr anPr : Option Addr} {slPr : Array (Option Value)} {ocPr kVPr dcPr pmPr cdPr ctPr : Value}
    {restPh : List Value}
    {odPh anPh : Option Addr} {slPh : Array (Option Value)} {ocPh kVPh dcPh pmPh cdPh ctPh : Value}
    {restPl : List Value}
    {odPl anPl : Option Addr} {slPl : Array (Option Value)} {ocPl kVPl dcPl pmPl cdPl ctPl : Value}
    {restPt : List Value}
    {odPt anPt : Option Addr} {slPt : Array (Option Value)} {ocPt kVPt dcPt pmPt cdPt ctPt : Value}
    {restPe : List Value}
    {odPe anPe : Option Addr} {slPe : Array (Option Value)} {ocPe kVPe dcPe pmPe cdPe ctPe : Value}
    {restPf : List Value}
    {odPf anPf : Option Addr} {slPf : Array (Option Value)} {ocPf kVPf dcPf pmPf cdPf ctPf : Value}
    {restPk : List Value}
    {odPk anPk : Option Addr} {slPk : Array (Option Value)} {ocPk kVPk dcPk pmPk cdPk ctPk : Value}
    {restRd : List Value}
    {odRd anRd : Option Addr} {slRd : Array (Option Value)} {ocRd kVRd dcRd pmRd cdRd ctRd : Value}
    {tkBOUND : Tok}
    {tkMAX_SIZE : Tok}
    {nmN qN : Str} {bsN : List Value} {snN : List Str} {subN : List Value} {abN : Bool} {colN : Option Bool} {ddN : Option Addr} {m0N m1N m2N m3N m5N : Option Value} {odxN anxN : Option Addr} {slxN : Array (Option Value)} {ocxN dcxN pmxN cdxN ctxN : Value} {q1N q2N q3N q4N q5N q6N : Pos}
    {nmP qP : Str} {bsP : List Value} {snP : List Str} {subP : List Value} {abP : Bool} {colP : Option Bool} {ddP : Option Addr} {m0P m1P m2P m3P m5P : Option Value} {odxP anxP : Option Addr} {slxP : Array (Option Value)} {ocxP dcxP pmxP cdxP ctxP : Value} {q1P q2P q3P q4P q5P q6P : Pos}
    (aWh : PySem.W.nsIn K mainGlobals "is_whole" = some (some (.ref fWh)))
    (lWh : K.lookup fWh = some ⟨ocWh, odWh, .func (PySem.W.fnOf "is_whole" "is_whole" (defArgs (sWhole)) (defBody (sWhole)) (defScope (sWhole)) .none kVWh dcWh pmWh anWh cdWh ctWh), slWh⟩)
    (cWh_ : PySem.W.codeIn K cdWh "is_whole" = true)
    (kWh : PySem.W.keepIn K (.ref fWh) = true)
    (aIn : PySem.W.nsIn K mainGlobals "is_integer" = some (some (.ref fIn)))
    (lIn : K.lookup fIn = some ⟨ocIn, odIn, .func (PySem.W.fnOf "is_integer" "is_integer" (defArgs (sInteger)) (defBody (sInteger)) (defScope (sInteger)) .none kVIn dcIn pmIn anIn cdIn ctIn), slIn⟩)
    (cIn_ : PySem.W.codeIn K cdIn "is_integer" = true)
    (kIn : PySem.W.keepIn K (.ref fIn) = true)
    (aIw : PySem.W.nsIn K mainGlobals "is_within" = some (some (.ref fIw)))
    (lIw : K.lookup fIw = some ⟨ocIw, odIw, .func (PySem.W.fnOf "is_within" "is_within" (defArgs (sIsWithin)) (defBody (sIsWithin)) (defScope (sIsWithin)) .none kVIw dcIw pmIw anIw cdIw ctIw), slIw⟩)
    (cIw_ : PySem.W.codeIn K cdIw "is_within" = true)
    (kIw : PySem.W.keepIn K (.ref fIw) = true)
    (aRi : PySem.W.nsIn K mainGlobals "require_index" = some (some (.ref fRi)))
    (lRi : K.lookup fRi = some ⟨ocRi, odRi, .func (PySem.W.fnOf "require_index" "require_index" (defArgs (sIndex)) (defBody (sIndex)) (defScope (sIndex)) .none kVRi dcRi pmRi anRi cdRi ctRi), slRi⟩)
    (cRi_ : PySem.W.codeIn K cdRi "require_index" = true)
    (kRi : PySem.W.keepIn K (.ref fRi) = true)
    (aFa : PySem.W.nsIn K mainGlobals "is_falling" = some (some (.ref fFa)))
    (lFa : K.lookup fFa = some ⟨ocFa, odFa, .func (PySem.W.fnOf "is_falling" "is_falling" (defArgs (sFalling)) (defBody (sFalling)) (defScope (sFalling)) .none kVFa dcFa pmFa anFa cdFa ctFa), slFa⟩)
    (cFa_ : PySem.W.codeIn K cdFa "is_falling" = true)
    (kFa : PySem.W.keepIn K (.ref fFa) = true)
    (aNa : PySem.W.nsIn K mainGlobals "number_at" = some (some (.ref fNa)))
    (lNa : K.lookup fNa = some ⟨ocNa, odNa, .func (PySem.W.fnOf "number_at" "number_at" (defArgs (sNumAt)) (defBody (sNumAt)) (defScope (sNumAt)) .none kVNa dcNa pmNa anNa cdNa ctNa), slNa⟩)
    (cNa_ : PySem.W.codeIn K cdNa "number_at" = true)
    (kNa : PySem.W.keepIn K (.ref fNa) = true)
    (aTr : PySem.W.nsIn K mainGlobals "turned_row" = some (some (.ref fTr)))
    (lTr : K.lookup fTr = some ⟨ocTr, odTr, .func (PySem.W.fnOf "turned_row" "turned_row" (defArgs (sTurned)) (defBody (sTurned)) (defScope (sTurned)) .none kVTr dcTr pmTr anTr cdTr ctTr), slTr⟩)
    (cTr_ : PySem.W.codeIn K cdTr "turned_row" = true)
    (kTr : PySem.W.keepIn K (.ref fTr) = true)
    (aSl : PySem.W.nsIn K mainGlobals "slant_of" = some (some (.ref fSl)))
    (lSl : K.lookup fSl = some ⟨ocSl, odSl, .func (PySem.W.fnOf "slant_of" "slant_of" (defArgs (sSlant)) (defBody (sSlant)) (defScope (sSlant)) .none kVSl dcSl pmSl anSl cdSl ctSl), slSl⟩)
    (cSl_ : PySem.W.codeIn K cdSl "slant_of" = true)
    (kSl : PySem.W.keepIn K (.ref fSl) = true)
    (aTx : PySem.W.nsIn K mainGlobals "falling_text" = some (some (.ref fTx)))
    (lTx : K.lookup fTx = some ⟨ocTx, odTx, .func (PySem.W.fnOf "falling_text" "falling_text" (defArgs (sFTx)) (defBody (sFTx)) (defScope (sFTx)) .none kVTx dcTx pmTx anTx cdTx ctTx), slTx⟩)
    (cTx_ : PySem.W.codeIn K cdTx "falling_text" = true)
    (kTx : PySem.W.keepIn K (.ref fTx) = true)
    (aBk : PySem.W.nsIn K mainGlobals "break_index" = some (some (.ref fBk)))
    (lBk : K.lookup fBk = some ⟨ocBk, odBk, .func (PySem.W.fnOf "break_index" "break_index" (defArgs (sBreak)) (defBody (sBreak)) (defScope (sBreak)) .none kVBk dcBk pmBk anBk cdBk ctBk), slBk⟩)
    (cBk_ : PySem.W.codeIn K cdBk "break_index" = true)
    (kBk : PySem.W.keepIn K (.ref fBk) = true)
    (aRf : PySem.W.nsIn K mainGlobals "read_falling" = some (some (.ref fRf)))
    (lRf : K.lookup fRf = some ⟨ocRf, odRf, .func (PySem.W.fnOf "read_falling" "read_falling" (defArgs (sRdF)) (defBody (sRdF)) (defScope (sRdF)) .none kVRf dcRf pmRf anRf cdRf ctRf), slRf⟩)
    (cRf_ : PySem.W.codeIn K cdRf "read_falling" = true)
    (kRf : PySem.W.keepIn K (.ref fRf) = true)
    (aDi : PySem.W.nsIn K mainGlobals "_law_dice" = some (some (.ref fDi)))
    (lDi : K.lookup fDi = some ⟨ocDi, odDi, .func (PySem.W.fnOf "_law_dice" "_law_dice" (defArgs (sDice)) (defBody (sDice)) (defScope (sDice)) .none kVDi dcDi pmDi anDi cdDi ctDi), slDi⟩)
    (cDi_ : PySem.W.codeIn K cdDi "_law_dice" = true)
    (kDi : PySem.W.keepIn K (.ref fDi) = true)
    (aRo : PySem.W.nsIn K mainGlobals "_law_roll" = some (some (.ref fRo)))
    (lRo : K.lookup fRo = some ⟨ocRo, odRo, .func (PySem.W.fnOf "_law_roll" "_law_roll" (defArgs (sRoll)) (defBody (sRoll)) (defScope (sRoll)) .none kVRo dcRo pmRo anRo cdRo ctRo), slRo⟩)
    (cRo_ : PySem.W.codeIn K cdRo "_law_roll" = true)
    (kRo : PySem.W.keepIn K (.ref fRo) = true)
    (aPi : PySem.W.nsIn K mainGlobals "_law_pick" = some (some (.ref fPi)))
    (lPi : K.lookup fPi = some ⟨ocPi, odPi, .func (PySem.W.fnOf "_law_pick" "_law_pick" (defArgs (sPick)) (defBody (sPick)) (defScope (sPick)) .none kVPi dcPi pmPi anPi cdPi ctPi), slPi⟩)
    (cPi_ : PySem.W.codeIn K cdPi "_law_pick" = true)
    (kPi : PySem.W.keepIn K (.ref fPi) = true)
    (aKs : PySem.W.nsIn K mainGlobals "_law_kinds" = some (some (.ref fKs)))
    (lKs : K.lookup fKs = some ⟨ocKs, odKs, .func (PySem.W.fnOf "_law_kinds" "_law_kinds" (defArgs (sKindsO)) (defBody (sKindsO)) (defScope (sKindsO)) .none kVKs dcKs pmKs anKs cdKs ctKs), slKs⟩)
    (cKs_ : PySem.W.codeIn K cdKs "_law_kinds" = true)
    (kKs : PySem.W.keepIn K (.ref fKs) = true)
    (aKd : PySem.W.nsIn K mainGlobals "_law_kind" = some (some (.ref fKd)))
    (lKd : K.lookup fKd = some ⟨ocKd, odKd, .func (PySem.W.fnOf "_law_kind" "_law_kind" (defArgs (sKind)) (defBody (sKind)) (defScope (sKind)) .none kVKd dcKd pmKd anKd cdKd ctKd), slKd⟩)
    (cKd_ : PySem.W.codeIn K cdKd "_law_kind" = true)
    (kKd : PySem.W.keepIn K (.ref fKd) = true)
    (aLt : PySem.W.nsIn K mainGlobals "_law_turned" = some (some (.ref fLt)))
    (lLt : K.lookup fLt = some ⟨ocLt, odLt, .func (PySem.W.fnOf "_law_turned" "_law_turned" (defArgs (sLTu)) (defBody (sLTu)) (defScope (sLTu)) .none kVLt dcLt pmLt anLt cdLt ctLt), slLt⟩)
    (cLt_ : PySem.W.codeIn K cdLt "_law_turned" = true)
    (kLt : PySem.W.keepIn K (.ref fLt) = true)
    (aLl : PySem.W.nsIn K mainGlobals "_law_slant" = some (some (.ref fLl)))
    (lLl : K.lookup fLl = some ⟨ocLl, odLl, .func (PySem.W.fnOf "_law_slant" "_law_slant" (defArgs (sLSl)) (defBody (sLSl)) (defScope (sLSl)) .none kVLl dcLl pmLl anLl cdLl ctLl), slLl⟩)
    (cLl_ : PySem.W.codeIn K cdLl "_law_slant" = true)
    (kLl : PySem.W.keepIn K (.ref fLl) = true)
    (aLx : PySem.W.nsIn K mainGlobals "_law_kind_text" = some (some (.ref fLx)))
    (lLx : K.lookup fLx = some ⟨ocLx, odLx, .func (PySem.W.fnOf "_law_kind_text" "_law_kind_text" (defArgs (sLTx)) (defBody (sLTx)) (defScope (sLTx)) .none kVLx dcLx pmLx anLx cdLx ctLx), slLx⟩)
    (cLx_ : PySem.W.codeIn K cdLx "_law_kind_text" = true)
    (kLx : PySem.W.keepIn K (.ref fLx) = true)
    (aKy : PySem.W.nsIn K mainGlobals "_law_kind_key" = some (some (.ref fKy)))
    (lKy : K.lookup fKy = some ⟨ocKy, odKy, .func (PySem.W.fnOf "_law_kind_key" "_law_kind_key" (defArgs (sKey)) (defBody (sKey)) (defScope (sKey)) .none kVKy dcKy pmKy anKy cdKy ctKy), slKy⟩)
    (cKy_ : PySem.W.codeIn K cdKy "_law_kind_key" = true)
    (kKy : PySem.W.keepIn K (.ref fKy) = true)
    (aEv : PySem.W.nsIn K mainGlobals "_law_every_kind" = some (some (.ref fEv)))
    (lEv : K.lookup fEv = some ⟨ocEv, odEv, .func (PySem.W.fnOf "_law_every_kind" "_law_every_kind" (defArgs (sEvery)) (defBody (sEvery)) (defScope (sEvery)) .none kVEv dcEv pmEv anEv cdEv ctEv), slEv⟩)
    (cEv_ : PySem.W.codeIn K cdEv "_law_every_kind" = true)
    (kEv : PySem.W.keepIn K (.ref fEv) = true)
    (aTo : PySem.W.nsIn K mainGlobals "_law_told" = some (some (.ref fTo)))
    (lTo : K.lookup fTo = some ⟨ocTo, odTo, .func (PySem.W.fnOf "_law_told" "_law_told" (defArgs (sTold6)) (defBody (sTold6)) (defScope (sTold6)) .none kVTo dcTo pmTo anTo cdTo ctTo), slTo⟩)
    (cTo_ : PySem.W.codeIn K cdTo "_law_told" = true)
    (kTo : PySem.W.keepIn K (.ref fTo) = true)
    (aDu : PySem.W.nsIn K mainGlobals "_law_due" = some (some (.ref fDu)))
    (lDu : K.lookup fDu = some ⟨ocDu, odDu, .func (PySem.W.fnOf "_law_due" "_law_due" (defArgs (sDue6)) (defBody (sDue6)) (defScope (sDue6)) .none kVDu dcDu pmDu anDu cdDu ctDu), slDu⟩)
    (cDu_ : PySem.W.codeIn K cdDu "_law_due" = true)
    (kDu : PySem.W.keepIn K (.ref fDu) = true)
    (aNe : PySem.W.nsIn K mainGlobals "_law_near" = some (some (.ref fNe)))
    (lNe : K.lookup fNe = some ⟨ocNe, odNe, .func (PySem.W.fnOf "_law_near" "_law_near" (defArgs (sNear)) (defBody (sNear)) (defScope (sNear)) .none kVNe dcNe pmNe anNe cdNe ctNe), slNe⟩)
    (cNe_ : PySem.W.codeIn K cdNe "_law_near" = true)
    (kNe : PySem.W.keepIn K (.ref fNe) = true)
    (aLr : PySem.W.nsIn K mainGlobals "_law_read" = some (some (.ref fLr)))
    (lLr : K.lookup fLr = some ⟨ocLr, odLr, .func (PySem.W.fnOf "_law_read" "_law_read" (defArgs (sLRead)) (defBody (sLRead)) (defScope (sLRead)) .none kVLr dcLr pmLr anLr cdLr ctLr), slLr⟩)
    (cLr_ : PySem.W.codeIn K cdLr "_law_read" = true)
    (kLr : PySem.W.keepIn K (.ref fLr) = true)
    (aDr : PySem.W.nsIn K mainGlobals "_law_did_read" = some (some (.ref fDr)))
    (lDr : K.lookup fDr = some ⟨ocDr, odDr, .func (PySem.W.fnOf "_law_did_read" "_law_did_read" (defArgs (sDidR)) (defBody (sDidR)) (defScope (sDidR)) .none kVDr dcDr pmDr anDr cdDr ctDr), slDr⟩)
    (cDr_ : PySem.W.codeIn K cdDr "_law_did_read" = true)
    (kDr : PySem.W.keepIn K (.ref fDr) = true)
    (aRg : PySem.W.nsIn K mainGlobals "_law_right" = some (some (.ref fRg)))
    (lRg : K.lookup fRg = some ⟨ocRg, odRg, .func (PySem.W.fnOf "_law_right" "_law_right" (defArgs (sRight6)) (defBody (sRight6)) (defScope (sRight6)) .none kVRg dcRg pmRg anRg cdRg ctRg), slRg⟩)
    (cRg_ : PySem.W.codeIn K cdRg "_law_right" = true)
    (kRg : PySem.W.keepIn K (.ref fRg) = true)
    (aLa : PySem.W.nsIn K mainGlobals "law" = some (some (.ref fLa)))
    (lLa : K.lookup fLa = some ⟨ocLa, odLa, .func (PySem.W.fnOf "law" "law" (defArgs (sLaw)) (defBody (sLaw)) (defScope (sLaw)) .none kVLa dcLa pmLa anLa cdLa ctLa), slLa⟩)
    (cLa_ : PySem.W.codeIn K cdLa "law" = true)
    (kLa : PySem.W.keepIn K (.ref fLa) = true)
    (aC : PySem.W.nsIn K mainGlobals "Kind" = some (some (.ref C)))
    (pgC : PySem.W.plainGet K C Str.empty = true)
    (hdC : PySem.W.hasDictIn K C = true)
    (poC : PySem.W.plainOver K C = true)
    (saC : PySem.W.findIn K (.ref C) "__setattr__" = some (some (.builtin "object.__setattr__")))
    (mkC : PySem.W.makesIn K C = true)
    (kcC : PySem.W.keepIn K (.ref C) = true)
    (haC : PySem.W.findIn K (.ref C) "__class__" = some (some (.builtin "object.__class__")))
    (hmC : PySem.W.mroIn K C (.type "object") = some true)
    (ciC : PySem.W.isClsIn K C = true)
    (ctC : PySem.W.typeIn K (.ref C) = some (.type "type"))
    (neC : PySem.W.findIn K (.ref C) "__ne__" = some (some (.builtin "object.__ne__")))
    (stupleC : PySem.W.subIn K (.type "tuple") (.ref C) = some false)
    (no0C : PySem.W.findIn K (.ref C) "_numbers" = some none)
    (no1C : PySem.W.findIn K (.ref C) "_place" = some none)
    (hn : PySem.W.specialIn K (.builtin "object.__class__") "__get__" = some (some (.builtin "getset_descriptor.__get__")))
    (htk : PySem.W.takesIn K (.builtin "object.__class__") = some true)
    (aI0 : PySem.W.findIn K (.ref C) "__init__" = some (some (.ref fI0)))
    (lI0 : K.lookup fI0 = some ⟨ocI0, odI0, .func (PySem.W.fnOf "__init__" "Kind.__init__" (defArgs (cls 0)) (defBody (cls 0)) (defScope (cls 0)) (.ref TI0) kVI0 dcI0 pmI0 anI0 cdI0 ctI0), slI0⟩)
    (cI0_ : PySem.W.codeIn K cdI0 "Kind.__init__" = true)
    (kI0 : PySem.W.keepIn K (.ref fI0) = true)
    (iI0 : PySem.W.isFn K (.ref fI0) = true)
    (LI0 : K.lookup TI0 = some ⟨o1I0, o2I0, .seq #[.ref tI0] o3I0, o4I0⟩)
    (mI0 : K.lookup tI0 = some ⟨.type "tuple", none, .seq #[] o6I0, o7I0⟩)
    (aIt : PySem.W.findIn K (.ref C) "__getitem__" = some (some (.ref fIt)))
    (lIt : K.lookup fIt = some ⟨ocIt, odIt, .func (PySem.W.fnOf "__getitem__" "Kind.__getitem__" (defArgs (cls 16)) (defBody (cls 16)) (defScope (cls 16)) .none kVIt dcIt pmIt anIt cdIt ctIt), slIt⟩)
    (cIt_ : PySem.W.codeIn K cdIt "Kind.__getitem__" = true)
    (kIt : PySem.W.keepIn K (.ref fIt) = true)
    (iIt : PySem.W.isFn K (.ref fIt) = true)
    (jIt : PySem.W.fnIn K fIt = true)
    (aLe : PySem.W.findIn K (.ref C) "__len__" = some (some (.ref fLe)))
    (lLe : K.lookup fLe = some ⟨ocLe, odLe, .func (PySem.W.fnOf "__len__" "Kind.__len__" (defArgs (cls 17)) (defBody (cls 17)) (defScope (cls 17)) .none kVLe dcLe pmLe anLe cdLe ctLe), slLe⟩)
    (cLe_ : PySem.W.codeIn K cdLe "Kind.__len__" = true)
    (kLe : PySem.W.keepIn K (.ref fLe) = true)
    (iLe : PySem.W.isFn K (.ref fLe) = true)
    (jLe : PySem.W.fnIn K fLe = true)
    (aIr : PySem.W.findIn K (.ref C) "__iter__" = some (some (.ref fIr)))
    (lIr : K.lookup fIr = some ⟨ocIr, odIr, .func (PySem.W.fnOf "__iter__" "Kind.__iter__" (defArgs (cls 18)) (defBody (cls 18)) (defScope (cls 18)) .none kVIr dcIr pmIr anIr cdIr ctIr), slIr⟩)
    (cIr_ : PySem.W.codeIn K cdIr "Kind.__iter__" = true)
    (kIr : PySem.W.keepIn K (.ref fIr) = true)
    (iIr : PySem.W.isFn K (.ref fIr) = true)
    (jIr : PySem.W.fnIn K fIr = true)
    (aEq : PySem.W.findIn K (.ref C) "__eq__" = some (some (.ref fEq)))
    (lEq : K.lookup fEq = some ⟨ocEq, odEq, .func (PySem.W.fnOf "__eq__" "Kind.__eq__" (defArgs (cls 19)) (defBody (cls 19)) (defScope (cls 19)) .none kVEq dcEq pmEq anEq cdEq ctEq), slEq⟩)
    (cEq_ : PySem.W.codeIn K cdEq "Kind.__eq__" = true)
    (kEq : PySem.W.keepIn K (.ref fEq) = true)
    (iEq : PySem.W.isFn K (.ref fEq) = true)
    (jEq : PySem.W.fnIn K fEq = true)
    (aLs : PySem.W.findIn K (.ref C) "__lt__" = some (some (.ref fLs)))
    (lLs : K.lookup fLs = some ⟨ocLs, odLs, .func (PySem.W.fnOf "__lt__" "Kind.__lt__" (defArgs (cls 20)) (defBody (cls 20)) (defScope (cls 20)) .none kVLs dcLs pmLs anLs cdLs ctLs), slLs⟩)
    (cLs_ : PySem.W.codeIn K cdLs "Kind.__lt__" = true)
    (kLs : PySem.W.keepIn K (.ref fLs) = true)
    (iLs : PySem.W.isFn K (.ref fLs) = true)
    (jLs : PySem.W.fnIn K fLs = true)
    (aSt : PySem.W.findIn K (.ref C) "__str__" = some (some (.ref fSt)))
    (lSt : K.lookup fSt = some ⟨ocSt, odSt, .func (PySem.W.fnOf "__str__" "Kind.__str__" (defArgs (cls 21)) (defBody (cls 21)) (defScope (cls 21)) .none kVSt dcSt pmSt anSt cdSt ctSt), slSt⟩)
    (cSt_ : PySem.W.codeIn K cdSt "Kind.__str__" = true)
    (kSt : PySem.W.keepIn K (.ref fSt) = true)
    (iSt : PySem.W.isFn K (.ref fSt) = true)
    (jSt : PySem.W.fnIn K fSt = true)
    (aPn : PySem.W.findIn K (.ref C) "numbers" = some (some (.ref pPn)))
    (gPn : PySem.W.specialIn K (.ref pPn) "__get__" = some (some (.builtin "property.__get__")))
    (tPn_ : PySem.W.takesIn K (.ref pPn) = some true)
    (rPn : PySem.W.recIn K pPn "property" = some (.ref fPn :: restPn))
    (lPn : K.lookup fPn = some ⟨ocPn, odPn, .func (PySem.W.fnOf "numbers" "Kind.numbers" (defArgs (cls 2)) (defBody (cls 2)) (defScope (cls 2)) .none kVPn dcPn pmPn anPn cdPn ctPn), slPn⟩)
    (cPn_ : PySem.W.codeIn K cdPn "Kind.numbers" = true)
    (kPn : PySem.W.keepIn K (.ref fPn) = true)
    (aPs : PySem.W.findIn K (.ref C) "size" = some (some (.ref pPs)))
    (gPs : PySem.W.specialIn K (.ref pPs) "__get__" = some (some (.builtin "property.__get__")))
    (tPs_ : PySem.W.takesIn K (.ref pPs) = some true)
    (rPs : PySem.W.recIn K pPs "property" = some (.ref fPs :: restPs))
    (lPs : K.lookup fPs = some ⟨ocPs, odPs, .func (PySem.W.fnOf "size" "Kind.size" (defArgs (cls 3)) (defBody (cls 3)) (defScope (cls 3)) .none kVPs dcPs pmPs anPs cdPs ctPs), slPs⟩)
    (cPs_ : PySem.W.codeIn K cdPs "Kind.size" = true)
    (kPs : PySem.W.keepIn K (.ref fPs) = true)
    (aPr : PySem.W.findIn K (.ref C) "rank" = some (some (.ref pPr)))
    (gPr : PySem.W.specialIn K (.ref pPr) "__get__" = some (some (.builtin "property.__get__")))
    (tPr_ : PySem.W.takesIn K (.ref pPr) = some true)
    (rPr : PySem.W.recIn K pPr "property" = some (.ref fPr :: restPr))
    (lPr : K.lookup fPr = some ⟨ocPr, odPr, .func (PySem.W.fnOf "rank" "Kind.rank" (defArgs (cls 4)) (defBody (cls 4)) (defScope (cls 4)) .none kVPr dcPr pmPr anPr cdPr ctPr), slPr⟩)
    (cPr_ : PySem.W.codeIn K cdPr "Kind.rank" = true)
    (kPr : PySem.W.keepIn K (.ref fPr) = true)
    (aPh : PySem.W.findIn K (.ref C) "height" = some (some (.ref pPh)))
    (gPh : PySem.W.specialIn K (.ref pPh) "__get__" = some (some (.builtin "property.__get__")))
    (tPh_ : PySem.W.takesIn K (.ref pPh) = some true)
    (rPh : PySem.W.recIn K pPh "property" = some (.ref fPh :: restPh))
    (lPh : K.lookup fPh = some ⟨ocPh, odPh, .func (PySem.W.fnOf "height" "Kind.height" (defArgs (cls 5)) (defBody (cls 5)) (defScope (cls 5)) .none kVPh dcPh pmPh anPh cdPh ctPh), slPh⟩)
    (cPh_ : PySem.W.codeIn K cdPh "Kind.height" = true)
    (kPh : PySem.W.keepIn K (.ref fPh) = true)
    (aPl : PySem.W.findIn K (.ref C) "slant" = some (some (.ref pPl)))
    (gPl : PySem.W.specialIn K (.ref pPl) "__get__" = some (some (.builtin "property.__get__")))
    (tPl_ : PySem.W.takesIn K (.ref pPl) = some true)
    (rPl : PySem.W.recIn K pPl "property" = some (.ref fPl :: restPl))
    (lPl : K.lookup fPl = some ⟨ocPl, odPl, .func (PySem.W.fnOf "slant" "Kind.slant" (defArgs (cls 6)) (defBody (cls 6)) (defScope (cls 6)) .none kVPl dcPl pmPl anPl cdPl ctPl), slPl⟩)
    (cPl_ : PySem.W.codeIn K cdPl "Kind.slant" = true)
    (kPl : PySem.W.keepIn K (.ref fPl) = true)
    (aPt : PySem.W.findIn K (.ref C) "turned" = some (some (.ref pPt)))
    (gPt : PySem.W.specialIn K (.ref pPt) "__get__" = some (some (.builtin "property.__get__")))
    (tPt_ : PySem.W.takesIn K (.ref pPt) = some true)
    (rPt : PySem.W.recIn K pPt "property" = some (.ref fPt :: restPt))
    (lPt : K.lookup fPt = some ⟨ocPt, odPt, .func (PySem.W.fnOf "turned" "Kind.turned" (defArgs (cls 7)) (defBody (cls 7)) (defScope (cls 7)) .none kVPt dcPt pmPt anPt cdPt ctPt), slPt⟩)
    (cPt_ : PySem.W.codeIn K cdPt "Kind.turned" = true)
    (kPt : PySem.W.keepIn K (.ref fPt) = true)
    (aPe : PySem.W.findIn K (.ref C) "repeats" = some (some (.ref pPe)))
    (gPe : PySem.W.specialIn K (.ref pPe) "__get__" = some (some (.builtin "property.__get__")))
    (tPe_ : PySem.W.takesIn K (.ref pPe) = some true)
    (rPe : PySem.W.recIn K pPe "property" = some (.ref fPe :: restPe))
    (lPe : K.lookup fPe = some ⟨ocPe, odPe, .func (PySem.W.fnOf "repeats" "Kind.repeats" (defArgs (cls 8)) (defBody (cls 8)) (defScope (cls 8)) .none kVPe dcPe pmPe anPe cdPe ctPe), slPe⟩)
    (cPe_ : PySem.W.codeIn K cdPe "Kind.repeats" = true)
    (kPe : PySem.W.keepIn K (.ref fPe) = true)
    (aPf : PySem.W.findIn K (.ref C) "is_flat" = some (some (.ref pPf)))
    (gPf : PySem.W.specialIn K (.ref pPf) "__get__" = some (some (.builtin "property.__get__")))
    (tPf_ : PySem.W.takesIn K (.ref pPf) = some true)
    (rPf : PySem.W.recIn K pPf "property" = some (.ref fPf :: restPf))
    (lPf : K.lookup fPf = some ⟨ocPf, odPf, .func (PySem.W.fnOf "is_flat" "Kind.is_flat" (defArgs (cls 9)) (defBody (cls 9)) (defScope (cls 9)) .none kVPf dcPf pmPf anPf cdPf ctPf), slPf⟩)
    (cPf_ : PySem.W.codeIn K cdPf "Kind.is_flat" = true)
    (kPf : PySem.W.keepIn K (.ref fPf) = true)
    (aPk : PySem.W.findIn K (.ref C) "is_line" = some (some (.ref pPk)))
    (gPk : PySem.W.specialIn K (.ref pPk) "__get__" = some (some (.builtin "property.__get__")))
    (tPk_ : PySem.W.takesIn K (.ref pPk) = some true)
    (rPk : PySem.W.recIn K pPk "property" = some (.ref fPk :: restPk))
    (lPk : K.lookup fPk = some ⟨ocPk, odPk, .func (PySem.W.fnOf "is_line" "Kind.is_line" (defArgs (cls 10)) (defBody (cls 10)) (defScope (cls 10)) .none kVPk dcPk pmPk anPk cdPk ctPk), slPk⟩)
    (cPk_ : PySem.W.codeIn K cdPk "Kind.is_line" = true)
    (kPk : PySem.W.keepIn K (.ref fPk) = true)
    (aRd : PySem.W.findIn K (.ref C) "read" = some (some (.ref pRd)))
    (rRd : PySem.W.recIn K pRd "classmethod" = some (.ref fRd :: restRd))
    (lRd : K.lookup fRd = some ⟨ocRd, odRd, .func (PySem.W.fnOf "read" "Kind.read" (defArgs (cls 1)) (defBody (cls 1)) (defScope (cls 1)) .none kVRd dcRd pmRd anRd cdRd ctRd), slRd⟩)
    (cRd_ : PySem.W.codeIn K cdRd "Kind.read" = true)
    (kRd : PySem.W.keepIn K (.ref fRd) = true)
    (uRd : PySem.W.fnIn K fRd = true)
    (wRd : PySem.W.readsIn K C (.type "type") = true)
    (gaC : PySem.W.specialIn K (.ref C) "__getattribute__" = some (some (.builtin "type.__getattribute__")))
    (xRd : PySem.W.findCls K (.ref C) (.type "type") "read" = some (.get (.builtin "classmethod.__get__") (.ref pRd) .none (.ref C)))
    (z_isinstance : PySem.W.nsIn K mainGlobals "isinstance" = some none)
    (z_int : PySem.W.nsIn K mainGlobals "int" = some none)
    (z_bool : PySem.W.nsIn K mainGlobals "bool" = some none)
    (z_str : PySem.W.nsIn K mainGlobals "str" = some none)
    (z_tuple : PySem.W.nsIn K mainGlobals "tuple" = some none)
    (z_list : PySem.W.nsIn K mainGlobals "list" = some none)
    (z_dict : PySem.W.nsIn K mainGlobals "dict" = some none)
    (z_len : PySem.W.nsIn K mainGlobals "len" = some none)
    (z_all : PySem.W.nsIn K mainGlobals "all" = some none)
    (z_any : PySem.W.nsIn K mainGlobals "any" = some none)
    (z_sum : PySem.W.nsIn K mainGlobals "sum" = some none)
    (z_iter : PySem.W.nsIn K mainGlobals "iter" = some none)
    (z_max : PySem.W.nsIn K mainGlobals "max" = some none)
    (z_min : PySem.W.nsIn K mainGlobals "min" = some none)
    (z_abs : PySem.W.nsIn K mainGlobals "abs" = some none)
    (z_range : PySem.W.nsIn K mainGlobals "range" = some none)
    (z_repr : PySem.W.nsIn K mainGlobals "repr" = some none)
    (z_sorted : PySem.W.nsIn K mainGlobals "sorted" = some none)
    (z_enumerate : PySem.W.nsIn K mainGlobals "enumerate" = some none)
    (z_zip : PySem.W.nsIn K mainGlobals "zip" = some none)
    (z_set : PySem.W.nsIn K mainGlobals "set" = some none)
    (v_BOUND : PySem.W.nsIn K mainGlobals "BOUND" = some (some (.int (10 ^ 60) tkBOUND)))
    (v_MAX_SIZE : PySem.W.nsIn K mainGlobals "MAX_SIZE" = some (some (.int (12) tkMAX_SIZE)))
    (xCN : PySem.W.nsIn K mainGlobals "InvalidNumber" = some (some (.ref CNx)))
    (xLN : K.lookup CNx = some (excClassObj nmN qN CNx qNx bsN [.type "IndexError", .type "LookupError", .type "Exception", .type "BaseException", .type "object"] true snN subN abN colN ddN m0N m1N m2N m3N m5N "IndexError.__new__"))
    (xsaN : PySem.W.findIn K (.ref CNx) "__setattr__" = some (some (.builtin "object.__setattr__")))
    (xgaN : PySem.W.findIn K (.ref CNx) "__getattribute__" = some (some (.builtin "BaseException.__getattribute__")))
    (xggN : PySem.W.findIn K (.ref CNx) "__getattr__" = some none)
    (xnbN : PySem.W.findIn K (.ref CNx) "value" = some none)
    (xaN : PySem.W.findIn K (.ref CNx) "__init__" = some (some (.ref fNx)))
    (xtN : PySem.W.typeIn K (.ref fNx) = some (.type "function"))
    (xlN : K.lookup fNx = some ⟨ocxN, odxN, .func (PySem.W.fnOf "__init__" "InvalidNumber.__init__" (PySem.XInvalidNumber.iA q1N q2N) (PySem.XInvalidNumber.iB q3N q4N q5N q6N) PySem.XInvalidNumber.iS .none .none dcxN pmxN anxN cdxN ctxN), slxN⟩)
    (xcN : PySem.W.codeIn K cdxN "InvalidNumber.__init__" = true)
    (xkN : PySem.W.keepIn K (.ref CNx) = true)
    (xeN : PySem.W.subIn K (.ref CNx) (.type "BaseException") = some true)
    (xTN : PySem.W.typeIn K (.ref CNx) = some (.type "type"))
    (xhN : PySem.W.hasDictIn K CNx = true)
    (xiN : PySem.W.isClsIn K CNx = true)
    (xsN : PySem.W.subIn K (.ref CNx) (.ref CNx) = some true)
    (xCP : PySem.W.nsIn K mainGlobals "ParseError" = some (some (.ref CPx)))
    (xLP : K.lookup CPx = some (excClassObj nmP qP CPx qPx bsP [.ref CKx, .type "ValueError", .type "Exception", .type "BaseException", .type "object"] true snP subP abP colP ddP m0P m1P m2P m3P m5P "ValueError.__new__"))
    (xsaP : PySem.W.findIn K (.ref CPx) "__setattr__" = some (some (.builtin "object.__setattr__")))
    (xgaP : PySem.W.findIn K (.ref CPx) "__getattribute__" = some (some (.builtin "BaseException.__getattribute__")))
    (xggP : PySem.W.findIn K (.ref CPx) "__getattr__" = some none)
    (xnbP : PySem.W.findIn K (.ref CPx) "index" = some none)
    (xaP : PySem.W.findIn K (.ref CPx) "__init__" = some (some (.ref fPx)))
    (xtP : PySem.W.typeIn K (.ref fPx) = some (.type "function"))
    (xlP : K.lookup fPx = some ⟨ocxP, odxP, .func (PySem.W.fnOf "__init__" "ParseError.__init__" (PySem.XParseError.iA q1P q2P) (PySem.XParseError.iB q3P q4P q5P q6P) PySem.XParseError.iS .none .none dcxP pmxP anxP cdxP ctxP), slxP⟩)
    (xcP : PySem.W.codeIn K cdxP "ParseError.__init__" = true)
    (xkP : PySem.W.keepIn K (.ref CPx) = true)
    (xeP : PySem.W.subIn K (.ref CPx) (.type "BaseException") = some true)
    (xTP : PySem.W.typeIn K (.ref CPx) = some (.type "type"))
    (xhP : PySem.W.hasDictIn K CPx = true)
    (xiP : PySem.W.isClsIn K CPx = true)
    (xsP : PySem.W.subIn K (.ref CPx) (.ref CPx) = some true)
    : ∃ fd : FuncData, (∀ (s : Shared) (v : Value), BindsTo s fd ⟨[v], []⟩ [("_law_script", v)]) ∧ ∀ base : Heap, K.In base → base.Ns mainGlobals mg → FnG l.prog w K mg base CX0 15 fa fd ["_law_script"] (spLaw K) := by
  have e := hfa.symm.trans (PySem.W.mg_of X G aLa)
  cases e
  have FWh := fun_mk (st := sWhole) lWh cWh_ kWh
  have bWh := FWh.binds (ps := ["value"]) fun _ _ _ _ _ _ us hl => by obtain ⟨_, rfl⟩ := of_len1 hl; rfl
  have gWh_ := PySem.W.mg_of X G aWh
  have FIn := fun_mk (st := sInteger) lIn cIn_ kIn
  have bIn := FIn.binds (ps := ["value"]) fun _ _ _ _ _ _ us hl => by obtain ⟨_, rfl⟩ := of_len1 hl; rfl
  have gIn_ := PySem.W.mg_of X G aIn
  have FIw := fun_mk (st := sIsWithin) lIw cIw_ kIw
  have bIw := FIw.binds (ps := ["value", "low", "high"]) fun _ _ _ _ _ _ us hl => by obtain ⟨_, _, _, rfl⟩ := of_len3 hl; rfl
  have gIw_ := PySem.W.mg_of X G aIw
  have FRi := fun_mk (st := sIndex) lRi cRi_ kRi
  have bRi := FRi.binds (ps := ["value"]) fun _ _ _ _ _ _ us hl => by obtain ⟨_, rfl⟩ := of_len1 hl; rfl
  have gRi_ := PySem.W.mg_of X G aRi
  have FFa := fun_mk (st := sFalling) lFa cFa_ kFa
  have bFa := FFa.binds (ps := ["value", "most"]) fun _ _ _ _ _ _ us hl => by obtain ⟨_, _, rfl⟩ := of_len2 hl; rfl
  have gFa_ := PySem.W.mg_of X G aFa
  have FNa := fun_mk (st := sNumAt) lNa cNa_ kNa
  have bNa := FNa.binds (ps := ["row", "index"]) fun _ _ _ _ _ _ us hl => by obtain ⟨_, _, rfl⟩ := of_len2 hl; rfl
  have gNa_ := PySem.W.mg_of X G aNa
  have FTr := fun_mk (st := sTurned) lTr cTr_ kTr
  have bTr := FTr.binds (ps := ["row"]) fun _ _ _ _ _ _ us hl => by obtain ⟨_, rfl⟩ := of_len1 hl; rfl
  have gTr_ := PySem.W.mg_of X G aTr
  have FSl := fun_mk (st := sSlant) lSl cSl_ kSl
  have bSl := FSl.binds (ps := ["row"]) fun _ _ _ _ _ _ us hl => by obtain ⟨_, rfl⟩ := of_len1 hl; rfl
  have gSl_ := PySem.W.mg_of X G aSl
  have FTx := fun_mk (st := sFTx) lTx cTx_ kTx
  have bTx := FTx.binds (ps := ["row"]) fun _ _ _ _ _ _ us hl => by obtain ⟨_, rfl⟩ := of_len1 hl; rfl
  have gTx_ := PySem.W.mg_of X G aTx
  have FBk := fun_mk (st := sBreak) lBk cBk_ kBk
  have bBk := FBk.binds (ps := ["text", "most"]) fun _ _ _ _ _ _ us hl => by obtain ⟨_, _, rfl⟩ := of_len2 hl; rfl
  have gBk_ := PySem.W.mg_of X G aBk
  have FRf := fun_mk (st := sRdF) lRf cRf_ kRf
  have bRf := FRf.binds (ps := ["text"]) fun _ _ _ _ _ _ us hl => by obtain ⟨_, rfl⟩ := of_len1 hl; rfl
  have gRf_ := PySem.W.mg_of X G aRf
  have FDi := fun_mk (st := sDice) lDi cDi_ kDi
  have bDi := FDi.binds (ps := ["_law_script", "_law_spot"]) fun _ _ _ _ _ _ us hl => by obtain ⟨_, _, rfl⟩ := of_len2 hl; rfl
  have gDi_ := PySem.W.mg_of X G aDi
  have FRo := fun_mk (st := sRoll) lRo cRo_ kRo
  have bRo := FRo.binds (ps := ["_law_dice_here", "_law_total"]) fun _ _ _ _ _ _ us hl => by obtain ⟨_, _, rfl⟩ := of_len2 hl; rfl
  have gRo_ := PySem.W.mg_of X G aRo
  have FPi := fun_mk (st := sPick) lPi cPi_ kPi
  have bPi := FPi.binds (ps := ["_law_dice_here", "_law_items"]) fun _ _ _ _ _ _ us hl => by obtain ⟨_, _, rfl⟩ := of_len2 hl; rfl
  have gPi_ := PySem.W.mg_of X G aPi
  have FKs := fun_mk (st := sKindsO) lKs cKs_ kKs
  have bKs := FKs.binds (ps := ["_law_size"]) fun _ _ _ _ _ _ us hl => by obtain ⟨_, rfl⟩ := of_len1 hl; rfl
  have gKs_ := PySem.W.mg_of X G aKs
  have FKd := fun_mk (st := sKind) lKd cKd_ kKd
  have bKd := FKd.binds (ps := ["_law_dice_here", "_law_most"]) fun _ _ _ _ _ _ us hl => by obtain ⟨_, _, rfl⟩ := of_len2 hl; rfl
  have gKd_ := PySem.W.mg_of X G aKd
  have FLt := fun_mk (st := sLTu) lLt cLt_ kLt
  have bLt := FLt.binds (ps := ["_law_kind_here"]) fun _ _ _ _ _ _ us hl => by obtain ⟨_, rfl⟩ := of_len1 hl; rfl
  have gLt_ := PySem.W.mg_of X G aLt
  have FLl := fun_mk (st := sLSl) lLl cLl_ kLl
  have bLl := FLl.binds (ps := ["_law_kind_here"]) fun _ _ _ _ _ _ us hl => by obtain ⟨_, rfl⟩ := of_len1 hl; rfl
  have gLl_ := PySem.W.mg_of X G aLl
  have FLx := fun_mk (st := sLTx) lLx cLx_ kLx
  have bLx := FLx.binds (ps := ["_law_kind_here"]) fun _ _ _ _ _ _ us hl => by obtain ⟨_, rfl⟩ := of_len1 hl; rfl
  have gLx_ := PySem.W.mg_of X G aLx
  have FKy := fun_mk (st := sKey) lKy cKy_ kKy
  have bKy := FKy.binds (ps := ["_law_kind_here"]) fun _ _ _ _ _ _ us hl => by obtain ⟨_, rfl⟩ := of_len1 hl; rfl
  have gKy_ := PySem.W.mg_of X G aKy
  have FEv := fun_mk (st := sEvery) lEv cEv_ kEv
  have bEv := FEv.binds (ps := ["_law_most"]) fun _ _ _ _ _ _ us hl => by obtain ⟨_, rfl⟩ := of_len1 hl; rfl
  have gEv_ := PySem.W.mg_of X G aEv
  have FTo := fun_mk (st := sTold6) lTo cTo_ kTo
  have bTo := FTo.binds (ps := ["_law_kind_here"]) fun _ _ _ _ _ _ us hl => by obtain ⟨_, rfl⟩ := of_len1 hl; rfl
  have gTo_ := PySem.W.mg_of X G aTo
  have FDu := fun_mk (st := sDue6) lDu cDu_ kDu
  have bDu := FDu.binds (ps := ["_law_numbers"]) fun _ _ _ _ _ _ us hl => by obtain ⟨_, rfl⟩ := of_len1 hl; rfl
  have gDu_ := PySem.W.mg_of X G aDu
  have FNe := fun_mk (st := sNear) lNe cNe_ kNe
  have bNe := FNe.binds (ps := ["_law_dice_here", "_law_text"]) fun _ _ _ _ _ _ us hl => by obtain ⟨_, _, rfl⟩ := of_len2 hl; rfl
  have gNe_ := PySem.W.mg_of X G aNe
  have FLr := fun_mk (st := sLRead) lLr cLr_ kLr
  have bLr := FLr.binds (ps := ["_law_text", "_law_texts"]) fun _ _ _ _ _ _ us hl => by obtain ⟨_, _, rfl⟩ := of_len2 hl; rfl
  have gLr_ := PySem.W.mg_of X G aLr
  have FDr := fun_mk (st := sDidR) lDr cDr_ kDr
  have bDr := FDr.binds (ps := ["_law_text"]) fun _ _ _ _ _ _ us hl => by obtain ⟨_, rfl⟩ := of_len1 hl; rfl
  have gDr_ := PySem.W.mg_of X G aDr
  have FRg := fun_mk (st := sRight6) lRg cRg_ kRg
  have bRg := FRg.binds (ps := ["_law_dice_here", "_law_texts"]) fun _ _ _ _ _ _ us hl => by obtain ⟨_, _, rfl⟩ := of_len2 hl; rfl
  have gRg_ := PySem.W.mg_of X G aRg
  have FLa := fun_mk (st := sLaw) lLa cLa_ kLa
  have FIt := fun_mk (st := cls 16) lIt cIt_ kIt
  have bIt := FIt.binds (ps := ["self", "index"]) fun _ _ _ _ _ _ us hl => by obtain ⟨_, _, rfl⟩ := of_len2 hl; rfl
  have MIt : Meth K C "__getitem__" fIt := ⟨aIt, iIt, kIt⟩
  have FLe := fun_mk (st := cls 17) lLe cLe_ kLe
  have bLe := FLe.binds (ps := ["self"]) fun _ _ _ _ _ _ us hl => by obtain ⟨_, rfl⟩ := of_len1 hl; rfl
  have MLe : Meth K C "__len__" fLe := ⟨aLe, iLe, kLe⟩
  have FIr := fun_mk (st := cls 18) lIr cIr_ kIr
  have bIr := FIr.binds (ps := ["self"]) fun _ _ _ _ _ _ us hl => by obtain ⟨_, rfl⟩ := of_len1 hl; rfl
  have MIr : Meth K C "__iter__" fIr := ⟨aIr, iIr, kIr⟩
  have FEq := fun_mk (st := cls 19) lEq cEq_ kEq
  have bEq := FEq.binds (ps := ["self", "other"]) fun _ _ _ _ _ _ us hl => by obtain ⟨_, _, rfl⟩ := of_len2 hl; rfl
  have MEq : Meth K C "__eq__" fEq := ⟨aEq, iEq, kEq⟩
  have FLs := fun_mk (st := cls 20) lLs cLs_ kLs
  have bLs := FLs.binds (ps := ["self", "other"]) fun _ _ _ _ _ _ us hl => by obtain ⟨_, _, rfl⟩ := of_len2 hl; rfl
  have MLs : Meth K C "__lt__" fLs := ⟨aLs, iLs, kLs⟩
  have FSt := fun_mk (st := cls 21) lSt cSt_ kSt
  have bSt := FSt.binds (ps := ["self"]) fun _ _ _ _ _ _ us hl => by obtain ⟨_, rfl⟩ := of_len1 hl; rfl
  have MSt : Meth K C "__str__" fSt := ⟨aSt, iSt, kSt⟩
  have FPn := fun_mk (st := cls 2) lPn cPn_ kPn
  have bPn := FPn.binds (ps := ["self"]) fun _ _ _ _ _ _ us hl => by obtain ⟨_, rfl⟩ := of_len1 hl; rfl
  have FPs := fun_mk (st := cls 3) lPs cPs_ kPs
  have bPs := FPs.binds (ps := ["self"]) fun _ _ _ _ _ _ us hl => by obtain ⟨_, rfl⟩ := of_len1 hl; rfl
  have FPr := fun_mk (st := cls 4) lPr cPr_ kPr
  have bPr := FPr.binds (ps := ["self"]) fun _ _ _ _ _ _ us hl => by obtain ⟨_, rfl⟩ := of_len1 hl; rfl
  have FPh := fun_mk (st := cls 5) lPh cPh_ kPh
  have bPh := FPh.binds (ps := ["self"]) fun _ _ _ _ _ _ us hl => by obtain ⟨_, rfl⟩ := of_len1 hl; rfl
  have FPl := fun_mk (st := cls 6) lPl cPl_ kPl
  have bPl := FPl.binds (ps := ["self"]) fun _ _ _ _ _ _ us hl => by obtain ⟨_, rfl⟩ := of_len1 hl; rfl
  have FPt := fun_mk (st := cls 7) lPt cPt_ kPt
  have bPt := FPt.binds (ps := ["self"]) fun _ _ _ _ _ _ us hl => by obtain ⟨_, rfl⟩ := of_len1 hl; rfl
  have FPe := fun_mk (st := cls 8) lPe cPe_ kPe
  have bPe := FPe.binds (ps := ["self"]) fun _ _ _ _ _ _ us hl => by obtain ⟨_, rfl⟩ := of_len1 hl; rfl
  have FPf := fun_mk (st := cls 9) lPf cPf_ kPf
  have bPf := FPf.binds (ps := ["self"]) fun _ _ _ _ _ _ us hl => by obtain ⟨_, rfl⟩ := of_len1 hl; rfl
  have FPk := fun_mk (st := cls 10) lPk cPk_ kPk
  have bPk := FPk.binds (ps := ["self"]) fun _ _ _ _ _ _ us hl => by obtain ⟨_, rfl⟩ := of_len1 hl; rfl
  have FRd := fun_mk (st := cls 1) lRd cRd_ kRd
  have bRd := FRd.binds (ps := ["cls", "text"]) fun _ _ _ _ _ _ us hl => by obtain ⟨_, _, rfl⟩ := of_len2 hl; rfl
  have Zisinstance := PySem.W.mg_none_of X G z_isinstance
  have Zint := PySem.W.mg_none_of X G z_int
  have Zbool := PySem.W.mg_none_of X G z_bool
  have Zstr := PySem.W.mg_none_of X G z_str
  have Ztuple := PySem.W.mg_none_of X G z_tuple
  have Zlist := PySem.W.mg_none_of X G z_list
  have Zdict := PySem.W.mg_none_of X G z_dict
  have Zlen := PySem.W.mg_none_of X G z_len
  have Zall := PySem.W.mg_none_of X G z_all
  have Zany := PySem.W.mg_none_of X G z_any
  have Zsum := PySem.W.mg_none_of X G z_sum
  have Ziter := PySem.W.mg_none_of X G z_iter
  have Zmax := PySem.W.mg_none_of X G z_max
  have Zmin := PySem.W.mg_none_of X G z_min
  have Zabs := PySem.W.mg_none_of X G z_abs
  have Zrange := PySem.W.mg_none_of X G z_range
  have Zrepr := PySem.W.mg_none_of X G z_repr
  have Zsorted := PySem.W.mg_none_of X G z_sorted
  have Zenumerate := PySem.W.mg_none_of X G z_enumerate
  have Zzip := PySem.W.mg_none_of X G z_zip
  have Zset := PySem.W.mg_none_of X G z_set
  have VBOUND : ∃ t, mg "BOUND" = some (.int (10 ^ 60) t) := ⟨tkBOUND, PySem.W.mg_of X G v_BOUND⟩
  have VMAX_SIZE : ∃ t, mg "MAX_SIZE" = some (.int (12) t) := ⟨tkMAX_SIZE, PySem.W.mg_of X G v_MAX_SIZE⟩
  have EN : PySem.XInvalidNumber.InvalidNumberTxt K mg CNx fNx :=
    { gC := PySem.W.mg_of X G xCN, cls := ⟨nmN, qN, qNx, bsN, snN, subN, abN, colN, ddN, m0N, m1N, m2N, m3N, m5N, xLN⟩, sa := xsaN, ga := xgaN, gg := xggN, noN := xnbN, iC := xaN, tC := xtN, kC := xkN, exC := xeN, tyC := xTN, hdC := xhN, te := exm_one xeN xiN xTN xsN,
      fn := ⟨_, _, _, _, _, _, _, _, _, _, _, _, _, _, xlN, xcN⟩ }
  have EP : PySem.XParseError.ParseErrorTxt K mg CPx fPx :=
    { gC := PySem.W.mg_of X G xCP, cls := ⟨CKx, nmP, qP, qPx, bsP, snP, subP, abP, colP, ddP, m0P, m1P, m2P, m3P, m5P, xLP⟩, sa := xsaP, ga := xgaP, gg := xggP, noN := xnbP, iC := xaP, tC := xtP, kC := xkP, exC := xeP, tyC := xTP, hdC := xhP, te := exm_one xeP xiP xTP xsP,
      fn := ⟨_, _, _, _, _, _, _, _, _, _, _, _, _, _, xlP, xcP⟩ }
  refine ⟨PySem.W.fnOf "law" "law" (defArgs sLaw) (defBody sLaw) (defScope sLaw) .none kVLa dcLa pmLa anLa cdLa ctLa, fun s v => .of_eq rfl, fun base _ _ => ?_⟩
  have T : Txt K mg := ⟨Zisinstance, Zint, Zbool, Zstr, Ztuple, Zlist, Zdict, Zlen, Zall, Zany, Zsum, Ziter, Zmax, Zmin, Zabs, Zrange, Zrepr, Zsorted, Zenumerate, Zzip, VBOUND⟩
  have Cl : KC K mg C := { cl := ⟨pgC, hdC, poC, saC⟩, noN := no0C, noP := no1C, g := PySem.W.mg_of X G aC, kp := kcC, ha := haC, hn := hn, htk := htk, hm := hmC, kit := kit_self, ne := ⟨neC, hmC⟩, most := VMAX_SIZE }
  have FI : FnI K tI0 fI0 (PySem.W.fnOf "__init__" "Kind.__init__" (defArgs (cls 0)) (defBody (cls 0)) (defScope (cls 0)) (.ref TI0) kVI0 dcI0 pmI0 anI0 cdI0 ctI0) := ⟨⟨ocI0, odI0, .ref TI0, kVI0, dcI0, pmI0, anI0, cdI0, ctI0, slI0, rfl, lI0, cI0_, .inr ⟨by simp, TI0, _, [.ref tI0], o3I0, rfl, LI0, rfl, .cons rfl .nil⟩, .inl rfl⟩, kI0⟩
  obtain ⟨ds, hds, b0⟩ : ∃ ds, Vals ([V.ref tI0].drop 0) ds ∧ Binds K (PySem.W.fnOf "__init__" "Kind.__init__" (defArgs (cls 0)) (defBody (cls 0)) (defScope (cls 0)) (.ref TI0) kVI0 dcI0 pmI0 anI0 cdI0 ctI0) ["self", "numbers"] ds := FI.binds1 1 0 (by simp) rfl fun T kV doc pm an cdv ct us its h1 h2 => by obtain ⟨_, rfl⟩ := of_len1 h1; obtain ⟨_, rfl⟩ := of_len1 h2; exact ⟨_, rfl, rfl⟩
  have bI : Binds K (PySem.W.fnOf "__init__" "Kind.__init__" (defArgs (cls 0)) (defBody (cls 0)) (defScope (cls 0)) (.ref TI0) kVI0 dcI0 pmI0 anI0 cdI0 ctI0) ["self", "numbers"] [] := by
    obtain ⟨ds, h1, h2⟩ : ∃ ds, Vals ([V.ref tI0].drop 1) ds ∧ Binds K (PySem.W.fnOf "__init__" "Kind.__init__" (defArgs (cls 0)) (defBody (cls 0)) (defScope (cls 0)) (.ref TI0) kVI0 dcI0 pmI0 anI0 cdI0 ctI0) ["self", "numbers"] ds := FI.binds1 2 1 (by simp) rfl fun T kV doc pm an cdv ct us its h1 h2 => by obtain ⟨_, _, rfl⟩ := of_len2 h1; obtain ⟨_, rfl⟩ := of_len1 h2; exact ⟨_, rfl, rfl⟩
    cases h1
    exact h2
  have AW : AtW K mg fWh _ := ⟨FWh, bWh, gWh_⟩
  have AI : AtI K mg fIn _ := ⟨FIn, bIn, gIn_⟩
  have AR : AtR K mg fRo _ := ⟨FRo, bRo, gRo_⟩
  have DIw : Def1 l.prog w K mg base CX0 3 "is_within" ["value", "low", "high"] (spIsWithin K) := ⟨_, _, gIw_, kIw, ok_isWithin FIw T AW AI, bIw⟩
  have DRi : Def1 l.prog w K mg base (L2.CX l.prog w) 4 "require_index" ["value"] (spIndex K CNx) := ⟨_, _, gRi_, kRi, ok_index FRi T AW AI EN, bRi⟩
  have DFa : Def1 l.prog w K mg base CX0 4 "is_falling" ["value", "most"] (spFalling K) := ⟨_, _, gFa_, kFa, ok_falling FFa T DIw, bFa⟩
  have DNa : Def1 l.prog w K mg base CX0 1 "number_at" ["row", "index"] (spNumAt K) := ⟨_, _, gNa_, kNa, ok_numAt FNa T, bNa⟩
  have DTr : Def1 l.prog w K mg base CX0 2 "turned_row" ["row"] (spTurned K) := ⟨_, _, gTr_, kTr, ok_turnedR FTr T DNa, bTr⟩
  have DSl : Def1 l.prog w K mg base CX0 1 "slant_of" ["row"] (spSlant K) := ⟨_, _, gSl_, kSl, ok_slantR FSl T, bSl⟩
  have DTx : Def1 l.prog w K mg base CX0 1 "falling_text" ["row"] (spFTx K) := ⟨_, _, gTx_, kTx, ok_fTx FTx T, bTx⟩
  have DBk : Def1 l.prog w K mg base CX0 1 "break_index" ["text", "most"] (spBreak) := ⟨_, _, gBk_, kBk, ok_break FBk T, bBk⟩
  have DRf : Def1 l.prog w K mg base CX0 1 "read_falling" ["text"] (spRdF K) := ⟨_, _, gRf_, kRf, ok_rdF FRf T, bRf⟩
  have GI := ok_init (P := l.prog) (w := w) (base := base) FI T Cl DFa
  have Ini : Ini1 l.prog w K mg base CX0 5 C tI0 ["self", "numbers"] (spInit K C) := ⟨_, _, ds, ⟨mkC, aI0, iI0, kcC⟩, GI, bI, hds, b0⟩
  have Qn : Pro1 l.prog w K mg base 1 C "numbers" (spGet K C fun n _ => .ref n) := ⟨_, _, _, ⟨aPn, gPn, tPn_, _, rPn⟩, ok_numbers FPn Cl, bPn⟩
  have Qs : Pro1 l.prog w K mg base 1 C "size" (spGet K C fun _ ns => .int ns.sum) := ⟨_, _, _, ⟨aPs, gPs, tPs_, _, rPs⟩, ok_size FPs T Cl, bPs⟩
  have Qr : Pro1 l.prog w K mg base 1 C "rank" (spGet K C fun _ ns => .int (ns.length : Int)) := ⟨_, _, _, ⟨aPr, gPr, tPr_, _, rPr⟩, ok_rank FPr T Cl, bPr⟩
  have Qh : Pro1 l.prog w K mg base 2 C "height" (spGet K C fun _ ns => .int (ns.getD 0 0)) := ⟨_, _, _, ⟨aPh, gPh, tPh_, _, rPh⟩, ok_height FPh Cl DNa, bPh⟩
  have Ql : Pro1 l.prog w K mg base 2 C "slant" (spGet K C fun _ ns => .int (slantM ns)) := ⟨_, _, _, ⟨aPl, gPl, tPl_, _, rPl⟩, ok_slant FPl Cl DSl, bPl⟩
  have Qt : Pro1 l.prog w K mg base 7 C "turned" (spMakes K C turnM) := ⟨_, _, _, ⟨aPt, gPt, tPt_, _, rPt⟩, ok_turned FPt Cl DTr Ini, bPt⟩
  have Qe : Pro1 l.prog w K mg base 1 C "repeats" (spRep K C) := ⟨_, _, _, ⟨aPe, gPe, tPe_, _, rPe⟩, ok_repeats FPe Cl, bPe⟩
  have Qf : Pro1 l.prog w K mg base 4 C "is_flat" (spGet K C fun _ ns => .bl (decide (ns.getD 0 0 ≤ 1))) := ⟨_, _, _, ⟨aPf, gPf, tPf_, _, rPf⟩, ok_isFlat FPf Cl Qh, bPf⟩
  have Qk : Pro1 l.prog w K mg base 1 C "is_line" (spGet K C fun _ ns => .bl (decide ((ns.length : Int) ≤ 1))) := ⟨_, _, _, ⟨aPk, gPk, tPk_, _, rPk⟩, ok_isLine FPk T Cl, bPk⟩
  have XIt : Met1 l.prog w K mg base CX0 5 C "__getitem__" ["self", "index"] (spItem6 K C) := ⟨_, _, MIt, jIt, ok_kitem FIt Cl DRi DNa, bIt⟩
  have XLe : Met1 l.prog w K mg base CX0 1 C "__len__" ["self"] (spLn (KindR K C)) := ⟨_, _, MLe, jLe, ok_klenR FLe T Cl, bLe⟩
  have XIr : Met1 l.prog w K mg base CX0 1 C "__iter__" ["self"] (spIt K (KindR K C)) := ⟨_, _, MIr, jIr, ok_iter FIr T Cl, bIr⟩
  have XEq : Met1 l.prog w K mg base CX0 1 C "__eq__" ["self", "other"] (spKEq K C) := ⟨_, _, MEq, jEq, ok_keq FEq T Cl, bEq⟩
  have NT : NKT K C := ⟨notFirst_sub stupleC, kit_not ciC ctC stupleC⟩
  have XEt : Met1 l.prog w K mg base CX0 1 C "__eq__" ["self", "other"] (spKEqT K C) := ⟨_, _, MEq, jEq, ok_keqT FEq T Cl NT, bEq⟩
  have XLs : Met1 l.prog w K mg base CX0 4 C "__lt__" ["self", "other"] (spTwo K C (fun _ _ => True) fun ns ms => .bl (pairLtM ns ms)) := ⟨_, _, MLs, jLs, ok_lt FLs T Cl, bLs⟩
  have XSt : Met1 l.prog w K mg base CX0 2 C "__str__" ["self"] (spKSt K C) := ⟨_, _, MSt, jSt, ok_kstr FSt T Cl DTx, bSt⟩
  have DRo : Def1 l.prog w K mg base CX0 1 "_law_roll" ["_law_dice_here", "_law_total"] (spRoll) := ⟨_, _, gRo_, kRo, ok_roll FRo T, bRo⟩
  have DPi : Def1 l.prog w K mg base CX0 2 "_law_pick" ["_law_dice_here", "_law_items"] (spPick K) := ⟨_, _, gPi_, kPi, ok_pick FPi T AR, bPi⟩
  have DDi : Def1 l.prog w K mg base CX0 1 "_law_dice" ["_law_script", "_law_spot"] (spDice K) := ⟨_, _, gDi_, kDi, ok_dice FDi T, bDi⟩
  have DKs : Def1 l.prog w K mg base CX0 1 "_law_kinds" ["_law_size"] (spKindsO K) := ⟨_, _, gKs_, kKs, ok_kindsO FKs T, bKs⟩
  have DKt : Def1 l.prog w K mg base CX0 1 "_law_kinds" ["_law_size"] (spKinds K) := ⟨_, _, gKs_, kKs, ok_kinds FKs T, bKs⟩
  have DKd : Def1 l.prog w K mg base CX0 3 "_law_kind" ["_law_dice_here", "_law_most"] (spKind K) := ⟨_, _, gKd_, kKd, ok_kind FKd DRo DKt DPi, bKd⟩
  have DLt : Def1 l.prog w K mg base CX0 1 "_law_turned" ["_law_kind_here"] (spLTu K) := ⟨_, _, gLt_, kLt, ok_lturned FLt T, bLt⟩
  have DLl : Def1 l.prog w K mg base CX0 1 "_law_slant" ["_law_kind_here"] (spSlant K) := ⟨_, _, gLl_, kLl, ok_lslant FLl T, bLl⟩
  have DLx : Def1 l.prog w K mg base CX0 1 "_law_kind_text" ["_law_kind_here"] (spFTx K) := ⟨_, _, gLx_, kLx, ok_ltx FLx T, bLx⟩
  have DKy : Def1 l.prog w K mg base CX0 1 "_law_kind_key" ["_law_kind_here"] (spKey K) := ⟨_, _, gKy_, kKy, ok_key FKy T, bKy⟩
  have DEv : Def1 l.prog w K mg base CX0 2 "_law_every_kind" ["_law_most"] (spEvery K) := ⟨_, _, gEv_, kEv, ok_every FEv T DKs, bEv⟩
  have B : Api6 l.prog w K mg base C := { numbers := Qn, size := Qs, rank := Qr, height := Qh, slant := Ql, repeats := Qe, isFlat := Qf, isLine := Qk, turned := Qt, len := XLe, iter := XIr, str := XSt, item := XIt }
  have DTo : Def1 l.prog w K mg base CX0 9 "_law_told" ["_law_kind_here"] (spTold6 K C) := ⟨_, _, gTo_, kTo, ok_told6 FTo T Cl B, bTo⟩
  have DDu : Def1 l.prog w K mg base CX0 2 "_law_due" ["_law_numbers"] (spDue6 K) := ⟨_, _, gDu_, kDu, ok_due6 FDu T Zset DLl DLx DLt, bDu⟩
  have DNe : Def1 l.prog w K mg base CX0 3 "_law_near" ["_law_dice_here", "_law_text"] (spNear) := ⟨_, _, gNe_, kNe, ok_near FNe T DRo DPi, bNe⟩
  have DLr : Def1 l.prog w K mg base CX0 2 "_law_read" ["_law_text", "_law_texts"] (spLRead K) := ⟨_, _, gLr_, kLr, ok_lread FLr T, bLr⟩
  have RdF : FnR l.prog w K mg base (L2.CX l.prog w) 7 fRd (spRead K C CPx) := ((ok_read (P := l.prog) (w := w) (base := base) FRd T VMAX_SIZE EP DBk DRf Ini).raw bRd .nil).imp fun vs H Q E q => by
    rw [List.append_nil]
    exact q
  have RK : RdK l.prog w K mg base C CPx := ⟨⟨_, pRd, fRd, ⟨wRd, gaC⟩, ⟨xRd, ⟨_, rRd⟩, uRd⟩, RdF⟩⟩
  have DDr : Def1 l.prog w K mg base CX0 8 "_law_did_read" ["_law_text"] (spDidR K) := ⟨_, _, gDr_, kDr, ok_didR FDr T Cl EP RK Qn, bDr⟩
  have A : Law6 l.prog w K mg base C CPx tI0 := { ini := Ini, eq := XEq, eqT := XEt, lt := XLs, read := RK, kind := DKd, told := DTo, due := DDu, key := DKy, near := DNe, text := DLx, didR := DDr, lread := DLr }
  have RgD : Def1G6 l.prog w K mg base CX0 14 "_law_right" ["_law_dice_here", "_law_texts"] (spRight6 K) := ⟨_, _, gRg_, kRg, ok_right6 FRg T Cl A B NT, bRg⟩
  exact ok_law FLa T A DDi DEv RgD
end

end Q0

set_option Elab.async false
set_option maxRecDepth 100000
open PySem PySem.W PyProof.Rows in
set_option maxRecDepth 100000 in
set_option maxHeartbeats 0 in
theorem PySem.Challenge.cw_primekinds_k06_kinds_number_by_number_holds : PySem.Challenge.rw_primekinds_k06_kinds_number_by_number.Holds := by
  w_on; o_law; k_head; (case hw => w_witness2)
  k_fill
  refine Gd.walkG (n := 63) (k := 15) (x := "_law_script") (CX := fun _ => L2.CX0) (l := PySem.Challenge.rw_primekinds_k06_kinds_number_by_number) (sp := fun w => Q0.spLaw _) rfl (by decide) rfl ⟨rfl, by decide, by decide⟩ (fun w h Y => PySem.W.kIn_of Y) ?F
    (fun _ _ a ns hl _ hS => ⟨a, ns, rfl, hS, hl, fun _ => rfl⟩) (fun _ _ _ _ _ z => z)
  case F =>
    intro w mg fa h KX G hmg
    refine' Q0.all_mk KX G hmg ?aWh ?lWh ?cWh_ ?kWh ?aIn ?lIn ?cIn_ ?kIn ?aIw ?lIw ?cIw_ ?kIw ?aRi ?lRi ?cRi_ ?kRi ?aFa ?lFa ?cFa_ ?kFa ?aNa ?lNa ?cNa_ ?kNa ?aTr ?lTr ?cTr_ ?kTr ?aSl ?lSl ?cSl_ ?kSl ?aTx ?lTx ?cTx_ ?kTx ?aBk ?lBk ?cBk_ ?kBk ?aRf ?lRf ?cRf_ ?kRf ?aDi ?lDi ?cDi_ ?kDi ?aRo ?lRo ?cRo_ ?kRo ?aPi ?lPi ?cPi_ ?kPi ?aKs ?lKs ?cKs_ ?kKs ?aKd ?lKd ?cKd_ ?kKd ?aLt ?lLt ?cLt_ ?kLt ?aLl ?lLl ?cLl_ ?kLl ?aLx ?lLx ?cLx_ ?kLx ?aKy ?lKy ?cKy_ ?kKy ?aEv ?lEv ?cEv_ ?kEv ?aTo ?lTo ?cTo_ ?kTo ?aDu ?lDu ?cDu_ ?kDu ?aNe ?lNe ?cNe_ ?kNe ?aLr ?lLr ?cLr_ ?kLr ?aDr ?lDr ?cDr_ ?kDr ?aRg ?lRg ?cRg_ ?kRg ?aLa ?lLa ?cLa_ ?kLa ?aC ?pgC ?hdC ?poC ?saC ?mkC ?kcC ?haC ?hmC ?ciC ?ctC ?neC ?stupleC ?no0C ?no1C ?hn ?htk ?aI0 ?lI0 ?cI0_ ?kI0 ?iI0 ?LI0 ?mI0 ?aIt ?lIt ?cIt_ ?kIt ?iIt ?jIt ?aLe ?lLe ?cLe_ ?kLe ?iLe ?jLe ?aIr ?lIr ?cIr_ ?kIr ?iIr ?jIr ?aEq ?lEq ?cEq_ ?kEq ?iEq ?jEq ?aLs ?lLs ?cLs_ ?kLs ?iLs ?jLs ?aSt ?lSt ?cSt_ ?kSt ?iSt ?jSt ?aPn ?gPn ?tPn_ ?rPn ?lPn ?cPn_ ?kPn ?aPs ?gPs ?tPs_ ?rPs ?lPs ?cPs_ ?kPs ?aPr ?gPr ?tPr_ ?rPr ?lPr ?cPr_ ?kPr ?aPh ?gPh ?tPh_ ?rPh ?lPh ?cPh_ ?kPh ?aPl ?gPl ?tPl_ ?rPl ?lPl ?cPl_ ?kPl ?aPt ?gPt ?tPt_ ?rPt ?lPt ?cPt_ ?kPt ?aPe ?gPe ?tPe_ ?rPe ?lPe ?cPe_ ?kPe ?aPf ?gPf ?tPf_ ?rPf ?lPf ?cPf_ ?kPf ?aPk ?gPk ?tPk_ ?rPk ?lPk ?cPk_ ?kPk ?aRd ?rRd ?lRd ?cRd_ ?kRd ?uRd ?wRd ?gaC ?xRd ?z_isinstance ?z_int ?z_bool ?z_str ?z_tuple ?z_list ?z_dict ?z_len ?z_all ?z_any ?z_sum ?z_iter ?z_max ?z_min ?z_abs ?z_range ?z_repr ?z_sorted ?z_enumerate ?z_zip ?z_set ?v_BOUND ?v_MAX_SIZE ?xCN ?xLN ?xsaN ?xgaN ?xggN ?xnbN ?xaN ?xtN ?xlN ?xcN ?xkN ?xeN ?xTN ?xhN ?xiN ?xsN ?xCP ?xLP ?xsaP ?xgaP ?xggP ?xnbP ?xaP ?xtP ?xlP ?xcP ?xkP ?xeP ?xTP ?xhP ?xiP ?xsP
    (case aWh => k_is)
    (case lWh => k_is)
    (case cWh_ => k_is)
    (case kWh => k_is)
    (case aIn => k_is)
    (case lIn => k_is)
    (case cIn_ => k_is)
    (case kIn => k_is)
    (case aIw => k_is)
    (case lIw => k_is)
    (case cIw_ => k_is)
    (case kIw => k_is)
    (case aRi => k_is)
    (case lRi => k_is)
    (case cRi_ => k_is)
    (case kRi => k_is)
    (case aFa => k_is)
    (case lFa => k_is)
    (case cFa_ => k_is)
    (case kFa => k_is)
    (case aNa => k_is)
    (case lNa => k_is)
    (case cNa_ => k_is)
    (case kNa => k_is)
    (case aTr => k_is)
    (case lTr => k_is)
    (case cTr_ => k_is)
    (case kTr => k_is)
    (case aSl => k_is)
    (case lSl => k_is)
    (case cSl_ => k_is)
    (case kSl => k_is)
    (case aTx => k_is)
    (case lTx => k_is)
    (case cTx_ => k_is)
    (case kTx => k_is)
    (case aBk => k_is)
    (case lBk => k_is)
    (case cBk_ => k_is)
    (case kBk => k_is)
    (case aRf => k_is)
    (case lRf => k_is)
    (case cRf_ => k_is)
    (case kRf => k_is)
    (case aDi => k_is)
    (case lDi => k_is)
    (case cDi_ => k_is)
    (case kDi => k_is)
    (case aRo => k_is)
    (case lRo => k_is)
    (case cRo_ => k_is)
    (case kRo => k_is)
    (case aPi => k_is)
    (case lPi => k_is)
    (case cPi_ => k_is)
    (case kPi => k_is)
    (case aKs => k_is)
    (case lKs => k_is)
    (case cKs_ => k_is)
    (case kKs => k_is)
    (case aKd => k_is)
    (case lKd => k_is)
    (case cKd_ => k_is)
    (case kKd => k_is)
    (case aLt => k_is)
    (case lLt => k_is)
    (case cLt_ => k_is)
    (case kLt => k_is)
    (case aLl => k_is)
    (case lLl => k_is)
    (case cLl_ => k_is)
    (case kLl => k_is)
    (case aLx => k_is)
    (case lLx => k_is)
    (case cLx_ => k_is)
    (case kLx => k_is)
    (case aKy => k_is)
    (case lKy => k_is)
    (case cKy_ => k_is)
    (case kKy => k_is)
    (case aEv => k_is)
    (case lEv => k_is)
    (case cEv_ => k_is)
    (case kEv => k_is)
    (case aTo => k_is)
    (case lTo => k_is)
    (case cTo_ => k_is)
    (case kTo => k_is)
    (case aDu => k_is)
    (case lDu => k_is)
    (case cDu_ => k_is)
    (case kDu => k_is)
    (case aNe => k_is)
    (case lNe => k_is)
    (case cNe_ => k_is)
    (case kNe => k_is)
    (case aLr => k_is)
    (case lLr => k_is)
    (case cLr_ => k_is)
    (case kLr => k_is)
    (case aDr => k_is)
    (case lDr => k_is)
    (case cDr_ => k_is)
    (case kDr => k_is)
    (case aRg => k_is)
    (case lRg => k_is)
    (case cRg_ => k_is)
    (case kRg => k_is)
    (case aLa => k_is)
    (case lLa => k_is)
    (case cLa_ => k_is)
    (case kLa => k_is)
    (case aC => k_is)
    (case pgC => k_is)
    (case hdC => k_is)
    (case poC => k_is)
    (case saC => k_is)
    (case mkC => k_is)
    (case kcC => k_is)
    (case haC => k_is)
    (case hmC => k_is)
    (case ciC => k_is)
    (case ctC => k_is)
    (case neC => k_is)
    (case stupleC => k_is)
    (case no0C => k_is)
    (case no1C => k_is)
    (case hn => k_is)
    (case htk => k_is)
    (case aI0 => k_is)
    (case lI0 => k_is)
    (case cI0_ => k_is)
    (case kI0 => k_is)
    (case iI0 => k_is)
    (case LI0 => k_is)
    (case mI0 => k_is)
    (case aIt => k_is)
    (case lIt => k_is)
    (case cIt_ => k_is)
    (case kIt => k_is)
    (case iIt => k_is)
    (case jIt => k_is)
    (case aLe => k_is)
    (case lLe => k_is)
    (case cLe_ => k_is)
    (case kLe => k_is)
    (case iLe => k_is)
    (case jLe => k_is)
    (case aIr => k_is)
    (case lIr => k_is)
    (case cIr_ => k_is)
    (case kIr => k_is)
    (case iIr => k_is)
    (case jIr => k_is)
    (case aEq => k_is)
    (case lEq => k_is)
    (case cEq_ => k_is)
    (case kEq => k_is)
    (case iEq => k_is)
    (case jEq => k_is)
    (case aLs => k_is)
    (case lLs => k_is)
    (case cLs_ => k_is)
    (case kLs => k_is)
    (case iLs => k_is)
    (case jLs => k_is)
    (case aSt => k_is)
    (case lSt => k_is)
    (case cSt_ => k_is)
    (case kSt => k_is)
    (case iSt => k_is)
    (case jSt => k_is)
    (case aPn => k_is)
    (case gPn => k_is)
    (case tPn_ => k_is)
    (case rPn => k_is)
    (case lPn => k_is)
    (case cPn_ => k_is)
    (case kPn => k_is)
    (case aPs => k_is)
    (case gPs => k_is)
    (case tPs_ => k_is)
    (case rPs => k_is)
    (case lPs => k_is)
    (case cPs_ => k_is)
    (case kPs => k_is)
    (case aPr => k_is)
    (case gPr => k_is)
    (case tPr_ => k_is)
    (case rPr => k_is)
    (case lPr => k_is)
    (case cPr_ => k_is)
    (case kPr => k_is)
    (case aPh => k_is)
    (case gPh => k_is)
    (case tPh_ => k_is)
    (case rPh => k_is)
    (case lPh => k_is)
    (case cPh_ => k_is)
    (case kPh => k_is)
    (case aPl => k_is)
    (case gPl => k_is)
    (case tPl_ => k_is)
    (case rPl => k_is)
    (case lPl => k_is)
    (case cPl_ => k_is)
    (case kPl => k_is)
    (case aPt => k_is)
    (case gPt => k_is)
    (case tPt_ => k_is)
    (case rPt => k_is)
    (case lPt => k_is)
    (case cPt_ => k_is)
    (case kPt => k_is)
    (case aPe => k_is)
    (case gPe => k_is)
    (case tPe_ => k_is)
    (case rPe => k_is)
    (case lPe => k_is)
    (case cPe_ => k_is)
    (case kPe => k_is)
    (case aPf => k_is)
    (case gPf => k_is)
    (case tPf_ => k_is)
    (case rPf => k_is)
    (case lPf => k_is)
    (case cPf_ => k_is)
    (case kPf => k_is)
    (case aPk => k_is)
    (case gPk => k_is)
    (case tPk_ => k_is)
    (case rPk => k_is)
    (case lPk => k_is)
    (case cPk_ => k_is)
    (case kPk => k_is)
    (case aRd => k_is)
    (case rRd => k_is)
    (case lRd => k_is)
    (case cRd_ => k_is)
    (case kRd => k_is)
    (case uRd => k_is)
    (case wRd => first | k_is | kernel_rfl)
    (case gaC => first | k_is | kernel_rfl)
    (case xRd => first | k_is | kernel_rfl)
    (case z_isinstance => k_is)
    (case z_int => k_is)
    (case z_bool => k_is)
    (case z_str => k_is)
    (case z_tuple => k_is)
    (case z_list => k_is)
    (case z_dict => k_is)
    (case z_len => k_is)
    (case z_all => k_is)
    (case z_any => k_is)
    (case z_sum => k_is)
    (case z_iter => k_is)
    (case z_max => k_is)
    (case z_min => k_is)
    (case z_abs => k_is)
    (case z_range => k_is)
    (case z_repr => k_is)
    (case z_sorted => k_is)
    (case z_enumerate => k_is)
    (case z_zip => k_is)
    (case z_set => k_is)
    (case v_BOUND => k_is)
    (case v_MAX_SIZE => k_is)
    (case xCN => k_is)
    (case xLN => k_is)
    (case xsaN => k_is)
    (case xgaN => k_is)
    (case xggN => k_is)
    (case xnbN => k_is)
    (case xaN => k_is)
    (case xtN => k_is)
    (case xlN => k_is)
    (case xcN => k_is)
    (case xkN => k_is)
    (case xeN => k_is)
    (case xTN => k_is)
    (case xhN => k_is)
    (case xiN => k_is)
    (case xsN => k_is)
    (case xCP => k_is)
    (case xLP => k_is)
    (case xsaP => k_is)
    (case xgaP => k_is)
    (case xggP => k_is)
    (case xnbP => k_is)
    (case xaP => k_is)
    (case xtP => k_is)
    (case xlP => k_is)
    (case xcP => k_is)
    (case xkP => k_is)
    (case xeP => k_is)
    (case xTP => k_is)
    (case xhP => k_is)
    (case xiP => k_is)
    (case xsP => k_is)
