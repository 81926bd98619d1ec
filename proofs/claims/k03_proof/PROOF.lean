import PyProof.Rows.All
import Wide.All
import OpenK.AllK
import Wide.FinOn
import HandS.ForMost
import HandS.ForExc
import HandS.IsInst
import HandS.IterNext
import HandS.OwnIter
import KE.KOwnIter
import PyProof.Rows.Range3
import PyProof.Conv_bool
import HandS.TupMul
import HandS.TupAny
import KE.KExcInit
import KE.GoesMore
import KE.GoesEnum
import KE.GoesZip
import HandS.Walk
import PyProof.FactsInt
import PyProof.FactsInt2
import PyProof.Rows.FactsB_mul
import HandS.OwnEq
import HandS.SetFor
import HandS.TupLe
import PyProof.NeKinds
import PyProof.P3Eq
import HandS.Text
import HandS.ReplaceList
import PyProof.CallFns
import HandS.FStr
import KE.KFmtOwn
import KE.KCallOwn
import HandS.Replace
import HandS.ReplaceLit
import HandS.TryMany
import HandS.Wide
import HandS.Property
import PySem.Challenge.RW_primekinds_k03_texts_of_polynomials
import HandS.Defaults
import HandS.Lambda
import HandS.ClsMeth
import HandS.Style
import HandS.StrMore
import HandS.Flow
import HandS.RaiseMore
import HandS.Steps
import KE.KRevSl
import PyProof.ListStr
set_option Elab.async false
set_option linter.all false
set_option maxRecDepth 100000
set_option maxHeartbeats 4000000
/-! Promises of defs that are called where no container is being shown (the guards of the stack are known to be empty): repr of containers needs this. -/
namespace Gd
open PySem PySem.Spec PyProof.Rows L2

/-- no container is being shown -/
abbrev NoG (A : Around) : Prop := A.guards = some []

/-- the promise of a def, kept wherever no container is being shown -/
structure FnG (P : Program) (w : World) (K : PySem.W.Frag) (mg : Str → Option Value) (base : Heap) (CX : CXT) (k : Nat)
    (f : Addr) (fd : FuncData) (ps : List Str) (sp : Sp) : Prop where
  many : ∀ vs H Q E, sp vs H Q E → vs.length = ps.length
  go : ∀ (A : Around) (out : List Env) (s : Shared) (H : Hp) (ar : Args) (us : List Value) (vs : List V) (Q : VK) (E : XK),
    NoG A → Room k A → Env0 P w K mg base A out s H → BindsTo s fd ar (ps.zip us) → Vals vs us → sp vs H Q E →
      codeAny (model P w) A (.call (.ref f) ar) (CR CX out P w H s Q E) s

section
variable {P : Program} {w : World} {K : PySem.W.Frag} {mg : Str → Option Value} {base : Heap} {CX : CXT} {k : Nat}
  {f : Addr} {fd : FuncData} {ps : List Str} {sp : Sp}
theorem FnG.of (F : FnOk P w K mg base CX k f fd ps sp) : FnG P w K mg base CX k f fd ps sp :=
  ⟨F.len, fun A out s H ar us vs Q E _ => F.run A out s H ar us vs Q E⟩

/-- a def by its body, where no container is being shown -/
theorem fnG {x qual : Str} {st : Stmt} {N : List Str} (F : Fun K x qual st f fd) (S : FnScope N ps (defScope st))
    (many : ∀ vs H Q E, sp vs H Q E → vs.length = ps.length)
    (body : ∀ (cdv : Value) (A : Around) (out : List Env) (s : Shared) (H : Hp) (vs : List V) (Q : VK) (E : XK),
      NoG A → Room k (A.deeper (envOfC qual (defScope st) s.heap.objs.size f cdv)) → sp vs H Q E →
      ∃ t, PSs (cxOf CX P w K mg base N qual (defScope st) f cdv A out s H E) (defBody st) t ∧
        t { nx := fun _ H' => Q .non H', rt := Q } (start N vs) H) :
    FnG P w K mg base CX (k + 1) f fd ps sp := by
  obtain ⟨oc, od, kV, doc, pm, an, cdv, ct, osl, rfl, lk, hcd⟩ := F.ex
  refine ⟨many, ?_⟩
  intro A out s H ar us vs Q E hg hr e0 hb r hsp
  have hl := many vs H Q E hsp
  have KX : K.In s.heap := e0.mod.kin.keeps (fun b o e => (e0.bs b o e).1)
  have lim : s.heap.NoLimit := e0.mod.nolimit.keeps (fun b o e => (e0.bs b o e).1)
  have kinds : ∀ y ∈ ps.zip us, (defScope st).names.lookup y.1 = some .local ∨
      ((defScope st).names.lookup y.1 = some .cell ∧ ((cellsFrom (s.heap.objs.size + 1) (defScope st).names []).lookup y.1).isSome = true) := by
    rintro ⟨n, v⟩ hy
    rcases S.par n (List.of_mem_zip hy).1 with q | q
    · exact Or.inl q
    · exact Or.inr ⟨q, PySem.W.cellsFrom_some _ _ _ (Or.inl q)⟩
  refine codeAny_call_function hr.depth (KX _ _ lk) rfl S.co S.gen rfl
    (PySem.W.codeRec_of KX hcd) (hb _ _ _ _ ?_)
  refine wpAny_newFunctionEnv_cells S.kind kinds ?_
  intro env he s1 x
  cases he
  refine ⟨lim.keeps x.toInCall.keep, codeAny_func ?_⟩
  obtain ⟨t, ht, hq⟩ := body cdv A out s H vs Q E hg (hr.deeper _) hsp
  have I := inv_start (CX := CX) (E := E) S hr.hd e0 hl r x
  refine wpAny_mono (ht.run [] s1 (start N vs) H _ I hq) ?_ (fun e s' hs => hs)
  intro fl s' hs
  have fin : ∀ {σ' : L2.St} {H' : Hp} {v : V} {u : Value},
      Inv (cxOf CX P w K mg base N qual (defScope st) f cdv A out s H E) [] σ' H' s' →
      RelV v u → Q v H' → CE out P w H s Q u s' := by
    intro σ' H' v u J rv q
    exact ⟨v, H', J.os, J.bare, J.base, J.hok, rv, q⟩
  cases fl with
  | ret u =>
    obtain ⟨v, σ', H', J, rv, q⟩ := hs
    exact fin J rv q
  | next =>
    obtain ⟨σ', H', J, q⟩ := hs
    exact fin (v := V.non) (u := Value.none) J rfl q
  | brk =>
    obtain ⟨σ', H', J, q⟩ := hs
    exact False.elim q
  | cont =>
    obtain ⟨σ', H', J, q⟩ := hs
    exact False.elim q
end

section
variable {X : Cx} {CX : CXT} {k : Nat} {f C : Addr} {fd : FuncData} {ps : List Str} {sp : Sp} {dvs : List V} {ds : List Value} {E : XK}
  {x : Str} {p pos : Pos} {e : Expr} {es : List Expr} {t : TA}
/-- the call of such a def -/
theorem goG {pins : List (Addr × Obj)} {σ : L2.St} {H : Hp} {s : Shared} {Q : VK} {us : List Value} {vs : List V}
    (hg : NoG X.A) (F : FnG X.prog X.w X.K X.mg X.base CX k f fd ps sp) (hr : Room k X.A) (hb : Binds X.K fd ps ds)
    (hd : Vals dvs ds) (hx : Passes CX X E) (I : Inv X pins σ H s) (r : Vals vs us) (h : sp (vs ++ dvs) H Q E) :
    wpAny (model X.prog X.w) X.A (call (.ref f) us) (EP X pins σ Q) X.xe s := by
  have r2 := Vals.append r hd
  have hl : (us ++ ds).length = ps.length := by
    rw [← r2.length]
    exact F.many _ H Q E h
  have run := F.go X.A X.stack s H ⟨us, []⟩ (us ++ ds) _ Q E hg hr I.env0 (hb s us I.kIn hl) r2 h
  refine wpAny_call (codeAny_mono run ?_)
  intro r s' hq
  match r, hq with
  | .error e, hq => exact hx pins σ H s e s' I hq
  | .ok (.ret u), hq => exact I.after hq
  | .ok .next, hq => exact False.elim hq
  | .ok .brk, hq => exact False.elim hq
  | .ok .cont, hq => exact False.elim hq

theorem pe_callG (hg : NoG X.A) (F : FnG X.prog X.w X.K X.mg X.base CX k f fd ps sp) (hr : Room k X.A) (hgl : Gl X x)
    (hm : X.mg x = some (.ref f)) (hk : PySem.W.keepIn X.K (.ref f) = true) (hb : Binds X.K fd ps ds) (hd : Vals dvs ds)
    (hx : Passes CX X E) (ha : PA X (e :: es) t) (hdb : (x == ("__debug__" : Str)) = false := by decide)
    (he : starEach (e :: es) X.env = (false, eval e X.env) :: starEach es X.env := by rfl)
    (hpl : (backTo pos (starEach es X.env)).any (·.1) = false := by rfl) :
    PE X (.Call (.Name x p) (e :: es) [] pos) (tCall sp dvs E t) := by
  constructor
  intro pins s σ H Q I h
  refine wpAny_Call_Name_kw (ld_glob I hgl hm ?_ hdb)
  have go := thn (ha.run pos pins s σ H _ I h) (fun us s1 ⟨vs, H1, I1, r, q⟩ =>
    (⟨I1.kIn, goG hg F hr hb hd hx I1 r q⟩ : X.K.In s1.heap ∧ wpAny (model X.prog X.w) X.A (call (.ref f) us) (EP X pins σ Q) X.xe s1))
  exact PySem.W.callWith_K (h₀ := X.base) I.ok.mod.kin hk go he hpl
end

section
variable {P : Program} {w : World} {K : PySem.W.Frag} {mg mb : Str → Option Value} {CX : CXT} {k : Nat} {fa a : Addr}
  {fd : FuncData} {x : Str} {sp : Sp} {s₁ : Shared} {vs : List Value} {ns : List Int}
/-- the call of the law, from a heap H of which nothing but the script is tracked -/
theorem coreG (KX : K.In s₁.heap) (hns : s₁.heap.Ns mainGlobals mg) (hb : s₁.heap.Ns builtinsNs mb)
    (hbb : ∀ x : Str, x ≠ "__name__" → mb x = bootBuiltins x) (hlim : s₁.heap.NoLimit) (hg : s₁.gens = #[])
    (ha : s₁.heap.get? a = some { cls := .type "list", data := .seq vs.toArray }) (hr : Room k callerA)
    (F : ∀ base : Heap, K.In base → base.Ns mainGlobals mg → FnG P w K mg base CX k fa fd [x] sp)
    (hbind : ∀ (s : Shared) (u : Value), BindsTo s fd ⟨[u], []⟩ [(x, u)])
    (hCX : ∀ H e s', CX [] H s₁ (fun _ _ _ => False) e s' → False)
    (H : Hp) (hO : Only H) (hsp : sp [.ref a] H (fun v _ => v = .bl true) fun _ _ _ => False)
    (hok : HOk P w H s₁.heap) (hA : ∀ b, H b ≠ none → b = a) (hK : H a ≠ none → K.lookup a = none) :
    codeAny (model P w) callerA (.call (.ref fa) ⟨[.ref a], []⟩)
      (fun r s' => r = .ok (.ret (.bool true)) ∧ OldK s₁.heap s'.heap ∧ s'.os = s₁.os ∧ AllBare s'.gens) s₁ := by
  have at_a : ∀ {b : Addr}, H b ≠ none → b = a := fun {b} z => hA b z
  have keepB : ∀ {b : Addr} {o : Obj}, s₁.heap.get? b = some o → H b = none → (hidT s₁.heap H).get? b = some o := by
    intro b o e n
    exact hidT_get e n
  have noDict : ∀ {b : Addr} {o : Obj} {es : Array DictEntry} {ep : Nat},
      s₁.heap.get? b = some o → o.data = .dict es ep → H b = none := by
    intro b o es ep e d
    cases q : H b with
    | none => rfl
    | some u =>
      obtain rfl : b = a := at_a (by rw [q]; simp)
      rw [ha] at e
      cases e
      cases d
  have nsOf : ∀ {b : Addr} {m : Str → Option Value}, s₁.heap.Ns b m → (hidT s₁.heap H).Ns b m := by
    rintro b m ⟨o, es, ep, e, d, r⟩
    exact ⟨o, es, ep, keepB e (noDict e d), d, r⟩
  have inB : K.In (hidT s₁.heap H) := by
    intro b o e
    refine keepB (KX b o e) ?_
    cases q : H b with
    | none => rfl
    | some u =>
      obtain rfl : b = a := at_a (by rw [q]; simp)
      rw [hK (by rw [q]; simp)] at e
      cases e
  obtain ⟨mc, l1, l2⟩ := hlim
  have hM : Mod K mg (hidT s₁.heap H) := ⟨inB, nsOf hns, ⟨mb, nsOf hb, hbb⟩, ⟨mc, nsOf l1, l2⟩⟩
  have e0 : Env0 P w K mg (hidT s₁.heap H) callerA [] s₁ H := by
    refine ⟨rfl, hM, ?_, Nat.le_of_eq (hidT_size _ _), trivial, ?_, hok, .of_eq hg⟩
    · intro b o e
      exact of_hidT e
    · intro b z
      exact absurd (show b ∈ ([] : List Addr) from z) (by simp)
  have run := (F _ inB (nsOf hns)).go callerA [] s₁ H ⟨[.ref a], []⟩ [.ref a] [.ref a] _ _ rfl hr e0 (hbind s₁ (.ref a)) (.cons rfl .nil) hsp
  refine codeAny_mono run ?_
  intro r s' h
  match r, h with
  | .error e, h => exact (hCX H e s' h).elim
  | .ok .next, h => exact False.elim h
  | .ok .brk, h => exact False.elim h
  | .ok .cont, h => exact False.elim h
  | .ok (.ret u), h =>
    obtain ⟨v, H', os, bare, un, hok', rv, q⟩ := h
    obtain rfl : v = .bl true := q
    obtain rfl : u = Value.bool true := rv
    refine ⟨rfl, OldK.of_keep ?_, os, bare⟩
    intro b o e
    cases q : H b with
    | none => exact un.keep b o e q (fun z => absurd (show b ∈ ([] : List Addr) from z) (by simp)) (by simp)
    | some u =>
      rcases hO b with z | ⟨ob, xs, z⟩
      · rw [q] at z
        cases z
      · obtain ⟨e1, _⟩ := hok b _ z
        obtain ⟨e2, _⟩ := hok' b _ (un.frzs b ob _ z)
        rw [e] at e1
        cases e1
        exact e2

theorem law_callG (KX : K.In s₁.heap) (hns : s₁.heap.Ns mainGlobals mg) (hb : s₁.heap.Ns builtinsNs mb)
    (hbb : ∀ x : Str, x ≠ "__name__" → mb x = bootBuiltins x) (hlim : s₁.heap.NoLimit) (hg : s₁.gens = #[])
    (ha : s₁.heap.get? a = some { cls := .type "list", data := .seq vs.toArray }) (hi : IntsAre vs ns) (hl : ns.length ≤ sizeLine)
    (hr : Room k callerA) (F : ∀ base : Heap, K.In base → base.Ns mainGlobals mg → FnG P w K mg base CX k fa fd [x] sp)
    (hbind : ∀ (s : Shared) (u : Value), BindsTo s fd ⟨[u], []⟩ [(x, u)])
    (hsp : ∀ H : Hp, Only H → SqL K H a (ns.map V.int) → sp [.ref a] H (fun v _ => v = .bl true) fun _ _ _ => False)
    (hCX : ∀ H e s', CX [] H s₁ (fun _ _ _ => False) e s' → False) :
    codeAny (model P w) callerA (.call (.ref fa) ⟨[.ref a], []⟩)
      (fun r s' => r = .ok (.ret (.bool true)) ∧ OldK s₁.heap s'.heap ∧ s'.os = s₁.os ∧ AllBare s'.gens) s₁ := by
  have rv := vals_ints hi
  have lenV := hi.length
  cases hk : K.lookup a with
  | some o =>
    have e := KX a o hk
    rw [ha] at e
    cases e
    have none' : ∀ b : Addr, (fun _ : Addr => (none : Option HO)) b = none := fun _ => rfl
    refine coreG KX hns hb hbb hlim hg ha hr F hbind hCX (fun _ => none) (fun _ => .inl rfl) (hsp _ (fun _ => .inl rfl) ?_) ?_ (fun b z => absurd (none' b) z) (fun z => absurd (none' a) z)
    · exact .inr ⟨_, vs.toArray, _, hk, rfl, rfl, rfl, by rw [List.size_toArray, lenV]; exact hl, by simpa using rv⟩
    · intro b u z
      cases z
  | none =>
    have hpos : ∀ b, (fun b => if b = a then some (HO.frz { cls := .type "list", data := .seq vs.toArray } (.lst (ns.map V.int))) else none) b ≠ none → b = a := by
      intro b z
      by_cases q : b = a
      · exact q
      · exact absurd (if_neg q) z
    have hO : Only (fun b => if b = a then some (HO.frz { cls := .type "list", data := .seq vs.toArray } (.lst (ns.map V.int))) else none) := by
      intro b
      by_cases q : b = a
      · exact .inr ⟨_, _, if_pos q⟩
      · exact .inl (if_neg q)
    refine coreG KX hns hb hbb hlim hg ha hr F hbind hCX _ hO (hsp _ hO ?_) ?_ hpos (fun _ => hk)
    · exact .inl (.inr ⟨{ cls := .type "list", data := .seq vs.toArray }, if_pos rfl⟩)
    · intro b u z
      have q : b = a := hpos b (by rw [z]; simp)
      subst q
      have z' := (if_pos rfl).symm.trans z
      cases z'
      exact ⟨ha, by rw [List.length_map]; exact hl, vs, _, rv, ha⟩
end

/-- the end of a law -/
theorem walkG {l : PySem.W.OpenLaw} {n k : Nat} {q : Program} {loose : List Str} {XP : (Str → Option Value) → Heap → Prop} {YP : World → Heap → Prop} {d : DefRec} {K : Params → PySem.W.Frag} {CX : World → CXT} {sp : World → Sp} {x : Str}
    (hn : l.most = some n) (hn2 : n ≤ sizeLine) (hdf : d.params.defaults = []) (hr : Room k callerA)
    (hY : ∀ (w : World) (h : Heap), YP w h → (K w.params).In h)
    (F : ∀ (w : World) (mg : Str → Option Value) (fa : Addr) (h : Heap), (K w.params).In h → h.Ns mainGlobals mg → mg d.name = some (.ref fa) →
      ∃ fd : FuncData, (∀ (s : Shared) (u : Value), BindsTo s fd ⟨[u], []⟩ [(x, u)]) ∧
        ∀ base : Heap, (K w.params).In base → base.Ns mainGlobals mg → FnG l.prog w (K w.params) mg base (CX w) k fa fd [x] (sp w))
    (hsp : ∀ (w : World) (H : Hp) (a : Addr) (ns : List Int), ns.length ≤ n → Only H → SqL (K w.params) H a (ns.map V.int) → sp w [.ref a] H (fun v _ => v = .bl true) fun _ _ _ => False)
    (hCX : ∀ (w : World) (H : Hp) (s : Shared) (e : Value) (s' : Shared), CX w [] H s (fun _ _ _ => False) e s' → False) :
    PySem.W.WalkO q loose XP YP l.row.toRowW d [] (fun f vs => PySem.call f vs) := by
  refine Att.attach_call hn hdf ?_
  intro w s₀ s₁ mg mb fa o pm cd doc a vs ns G Y ho hd hcd hmg hobj hints hlen hg
  obtain ⟨fd, hb, hF⟩ := F w mg fa _ (hY w _ Y) G.T.g hmg
  exact law_callG (hY w _ Y) G.T.g G.T.b G.T.builtins G.T.nolimit hg hobj hints (Nat.le_trans hlen hn2) hr hF hb (fun H hO hS => hsp w H a ns hlen hO hS) fun H e s' => hCX w H s₁ e s'
end Gd

set_option Elab.async false
set_option linter.all false
set_option maxRecDepth 100000
set_option maxHeartbeats 4000000
/-! Operators of own classes, and repr of data, as rules of the hand layer. -/
namespace Gd
open PySem PySem.Spec PyProof.Rows L2

/-! ### repr of data -/
def rRepr (K : PySem.W.Frag) : List V → Hp → VK → Prop := fun xs H Q =>
  ∃ a d, xs = [.ref a] ∧ Dp K H (.ref a) d ∧ d.showable = true ∧ d.hasDict = false ∧ d.depth ≤ 60 ∧ d.shown.length ≤ sizeLine ∧ Q (.str d.shown) H
theorem call_repr {X : Cx} (hg : NoG X.A) (hu : X.A.units + 64 < cLine) : CallR X (.builtin "repr") (rRepr X.K) := by
  intro pins s σ H xs us Q I r h
  obtain ⟨a, d, rfl, hd, h1, h2, h3, h4, q⟩ := h
  obtain ⟨u, rfl, hu1⟩ := vals1 r
  cases hu1
  obtain ⟨as, rd⟩ := Dp.reads I d (.ref a) (.ref a) hd rfl
  refine repr_of_reads' rd h1 (PyData.noDict_hsm h2) hg (by omega) (fun _ _ e => e) ?_ h4
  intro h' u tk hk
  exact ⟨.str d.shown, H, I.kept hk, ⟨u, rfl⟩, q⟩

section
variable {X : Cx} {CX : CXT} {k : Nat} {f C : Addr} {fd : FuncData} {ps : List Str} {sp : Sp} {dvs : List V} {ds : List Value}
  {pos : Pos} {a b : Expr} {ta tb : TE}

/-- the callee runs, from the body or from a builtin that the body calls -/
theorem runAt {E : XK} {A : Around} (hA : A = X.A ∨ A = X.A.in1) {pins : List (Addr × Obj)} {σ : L2.St} {H : Hp} {s : Shared} {Q : VK} {us : List Value} {vs : List V}
    (F : FnOk X.prog X.w X.K X.mg X.base CX k f fd ps sp) (hr : Room (k + 1) X.A) (hb : Binds X.K fd ps ds) (hd : Vals dvs ds)
    (hx : PassesAt CX X σ E) (I : Inv X pins σ H s) (r : Vals vs us) (h : sp (vs ++ dvs) H Q E) :
    wpAny (model X.prog X.w) A (call (.ref f) us) (EP X pins σ Q) X.xe s := by
  have r2 := Vals.append r hd
  have hl : (us ++ ds).length = ps.length := by
    rw [← r2.length]
    exact F.len _ H Q E h
  have room : Room k A := by
    rcases hA with rfl | rfl
    · exact hr.mono (Nat.le_succ _)
    · exact hr.in1
  have env : Env0 X.prog X.w X.K X.mg X.base A X.stack s H := by
    rcases hA with rfl | rfl
    · exact I.env0
    · exact I.env0.in1
  refine wpAny_call (codeAny_mono (F.run A X.stack s H ⟨us, []⟩ (us ++ ds) _ Q E room env (hb s us I.kIn hl) r2 h) ?_)
  intro r s' hq
  match r, hq with
  | .error e, hq => exact hx pins H s e s' I hq
  | .ok (.ret u), hq => exact I.after hq
  | .ok .next, hq => exact False.elim hq
  | .ok .brk, hq => exact False.elim hq
  | .ok .cont, hq => exact False.elim hq
theorem quiet0 {σ : L2.St} {E : XK} : PassesAt CX0 X σ E := fun _ _ _ _ _ _ h => h.elim

/-- the instance at a, as the library sees it -/
theorem seen {pins : List (Addr × Obj)} {σ : L2.St} {H : Hp} {s : Shared} {p dx : Addr} {fs : List (Str × V)} (I : Inv X pins σ H s)
    (e : H p = some (.ins C dx fs)) : ∃ od, PySem.W.InstAt s.heap p (PySem.W.instObj C dx) C (some od) := by
  obtain ⟨mA, J, _⟩ := ins_get I.hok e
  obtain ⟨od, J, _⟩ := J.look
  exact ⟨od, J⟩

/-! ### comparisons -/
/-- x OP y by the own method of x's class, whose answer is a truth value -/
def rCmpO (K : PySem.W.Frag) (C : Addr) (sp : Sp) (E : XK) : R2 := fun x y H Q => ∃ p dx fs t, x = .ref p ∧ H p = some (.ins C dx fs) ∧
  TyX K H y t ∧ PySem.W.notFirst K C t = true ∧ sp [x, y] H (fun v H' => (∃ c, v = .bl c) ∧ Q v H') E
theorem cmpO {op : CmpOp} {E : XK} (hm : Meth X.K C (cmpInfo op).2.1 f) (F : FnOk X.prog X.w X.K X.mg X.base CX k f fd ps sp) (hr : Room (k + 1) X.A)
    (hb : Binds X.K fd ps []) (hx : ∀ σ, PassesAt CX X σ E)
    {pins : List (Addr × Obj)} {s : Shared} {σ : L2.St} {H : Hp} {x y : V} {v u : Value} {Q : VK} (I : Inv X pins σ H s) (rx : RelV x v) (ry : RelV y u)
    (h : rCmpO X.K C sp E x y H Q) : wpAny (model X.prog X.w) X.A (richCompare op v u) (EP X pins σ Q) X.xe s := by
  obtain ⟨p, dx, fs, t, rfl, ep, ty, hn, hsp⟩ := h
  cases rx
  obtain ⟨od, J⟩ := seen I ep
  obtain ⟨P, Z, hP, _⟩ := kit_of I ry ty
  obtain ⟨m, hF⟩ := I.fr
  refine PySem.W.cmp_K (op := op) (tb := t) hr.units0 hF I.ok.mod.kin J (Z.ty _ _ I.kIn hP) hn hm.at_ hm.fn ?_
  refine wpAny_mono (runAt (.inl rfl) F hr hb .nil (hx σ) I (.cons (show RelV (V.ref p) (Value.ref p) from rfl) (.cons ry .nil)) hsp) ?_ (fun _ _ z => z)
  rintro w s' ⟨z, H', I', rz, ⟨c, rfl⟩, q⟩
  cases rz
  exact ⟨.bl c, H', I', rfl, q⟩
theorem op_eqO {E : XK} (hm : Meth X.K C "__eq__" f) (F : FnOk X.prog X.w X.K X.mg X.base CX k f fd ps sp) (hr : Room (k + 1) X.A)
    (hb : Binds X.K fd ps []) (hx : ∀ σ, PassesAt CX X σ E) : OpR X (compareOp .Eq) (rCmpO X.K C sp E) := by
  intro pins s σ H x y v u Q I rx ry h
  exact cmpO (op := .Eq) hm F hr hb hx I rx ry h
theorem op_ltO {E : XK} (hm : Meth X.K C "__lt__" f) (F : FnOk X.prog X.w X.K X.mg X.base CX k f fd ps sp) (hr : Room (k + 1) X.A)
    (hb : Binds X.K fd ps []) (hx : ∀ σ, PassesAt CX X σ E) : OpR X (compareOp .Lt) (rCmpO X.K C sp E) := by
  intro pins s σ H x y v u Q I rx ry h
  exact cmpO (op := .Lt) hm F hr hb hx I rx ry h

/-! ### len, truth, items -/
def rLenO (C : Addr) (sp : Sp) (E : XK) : List V → Hp → VK → Prop := fun xs H Q => ∃ p dx fs, xs = [.ref p] ∧ H p = some (.ins C dx fs) ∧
  sp [.ref p] H (fun v H' => ∃ n : Int, v = .int n ∧ 0 ≤ n ∧ n < 2 ^ 63 ∧ Q (.int n) H') E
theorem call_lenO {E : XK} (hm : Meth X.K C "__len__" f) (F : FnOk X.prog X.w X.K X.mg X.base CX k f fd ps sp) (hr : Room (k + 1) X.A)
    (hb : Binds X.K fd ps []) (hx : ∀ σ, PassesAt CX X σ E) : CallR X (.builtin "len") (rLenO C sp E) := by
  intro pins s σ H xs us Q I r h
  obtain ⟨p, dx, fs, rfl, ep, hsp⟩ := h
  obtain ⟨u, rfl, hu1⟩ := vals1 r
  cases hu1
  obtain ⟨od, J⟩ := seen I ep
  obtain ⟨m, hF⟩ := I.fr
  refine PySem.W.len_K hF I.ok.mod.kin J hm.at_ hm.fn ?_
  refine wpAny_mono (runAt (.inr rfl) F hr hb .nil (hx σ) I (.cons (show RelV (V.ref p) (Value.ref p) from rfl) .nil) hsp) ?_ (fun _ _ z => z)
  rintro w s' ⟨z, H', I', rz, n, rfl, h0, h1, q⟩
  obtain ⟨t, rfl⟩ := rz
  exact ⟨⟨h0, h1⟩, .int n, H', I'.tok _, ⟨_, rfl⟩, q⟩
def rTruO (C : Addr) (sp : Sp) (E : XK) : V → Hp → (Bool → Hp → Prop) → Prop := fun x H Q => ∃ p dx fs, x = .ref p ∧ H p = some (.ins C dx fs) ∧
  sp [.ref p] H (fun v H' => ∃ c, v = .bl c ∧ Q c H') E
theorem tru_O {E : XK} (hm : Meth X.K C "__bool__" f) (F : FnOk X.prog X.w X.K X.mg X.base CX k f fd ps sp) (hr : Room (k + 1) X.A)
    (hb : Binds X.K fd ps []) (hx : ∀ σ, PassesAt CX X σ E) : TruR X (rTruO C sp E) := by
  intro pins s σ H x v Q I rx h
  obtain ⟨p, dx, fs, rfl, ep, hsp⟩ := h
  cases rx
  obtain ⟨od, J⟩ := seen I ep
  obtain ⟨m, hF⟩ := I.fr
  refine PySem.W.truthy_K hF I.ok.mod.kin J hm.at_ hm.fn ?_
  refine wpAny_mono (runAt (.inl rfl) F hr hb .nil (hx σ) I (.cons (show RelV (V.ref p) (Value.ref p) from rfl) .nil) hsp) ?_ (fun _ _ z => z)
  rintro w s' ⟨z, H', I', rz, c, rfl, q⟩
  cases rz
  exact ⟨H', I', q⟩
/-- o[i] by the own method, which may raise -/
def tIxO (C : Addr) (sp : Sp) (E : L2.St → XK) (ta tb : TE) : TE := fun σ H Q => ta σ H fun x H1 => tb σ H1 fun y H2 =>
  ∃ p dx fs, x = .ref p ∧ H2 p = some (.ins C dx fs) ∧ sp [x, y] H2 Q (E σ)
theorem pe_ixO {E : L2.St → XK} (hm : Meth X.K C "__getitem__" f) (hfn : PySem.W.fnIn X.K f = true) (F : FnOk X.prog X.w X.K X.mg X.base CX k f fd ps sp)
    (hr : Room (k + 1) X.A) (hb : Binds X.K fd ps []) (hx : ∀ σ, PassesAt CX X σ (E σ)) (ha : PE X a ta) (hb' : PE X b tb)
    (hs : ∀ v u : Value, subscripted b true v u = runValue (.builtin "lifetime.subscript" ⟨[v, u], []⟩) := by intro _ _; with_unfolding_all rfl) :
    PE X (.Subscript a b pos) (tIxO C sp E ta tb) := by
  refine ⟨fun pins s σ H Q I h => ?_⟩
  refine Subscript_ (binT ha hb' I h fun v u s2 x y H2 I2 rx ry q => ?_)
  obtain ⟨p, dx, fs, rfl, ep, hsp⟩ := q
  cases rx
  obtain ⟨od, J⟩ := seen I2 ep
  obtain ⟨m, hF⟩ := I2.fr
  refine PySem.W.sub_K hF I2.ok.mod.kin J hm.at_ hfn hm.fn ?_ (hs _ _)
  exact runAt (.inr rfl) F hr hb .nil (hx σ) I2 (.cons (show RelV (V.ref p) (Value.ref p) from rfl) (.cons ry .nil)) hsp
end
end Gd

set_option Elab.async false
set_option linter.all false
set_option maxRecDepth 100000
set_option maxHeartbeats 4000000
/-! iter(a tuple), and list(o) of an own class that hands on such an iterator and has a length. -/
namespace PySem
section
variable {prog : Program} {w : World} {A : Around} {E : Value → Shared → Prop} {s : Shared}
/-- the end of a tuple's iterator, which stays an object -/
theorem tuple_next_end {it t : Addr} {i : Nat} {items : Array Value} {Q : Option Value → Shared → Prop} (hh : A.handled = none)
    (hit : s.heap.IsTupleIter it t i) (ht : s.heap.IsTuple t items) (hx : items[i]? = none)
    (hQ : ∀ h', (∀ b o, b ≠ it → s.heap.get? b = some o → h'.get? b = some o) → (∃ o, h'.get? it = some o) → Q none { s with heap := h' }) :
    wpAny (model prog w) A (pyNext (.ref it)) Q E s := by
  obtain ⟨o, ho, hc, hd⟩ := id hit
  obtain ⟨ol, hol, _, nl, hdl⟩ := ht
  have self := Heap.get?_update_self (Obj.mapFields (·.setIfInBounds 0 Value.none)) ho (Obj.isFreed_of_fields (Obj.data_mapFields hd _))
  unfold pyNext
  refine wpAny_bind (wpAny_attempt (wpAny_callSpecial?_slot (name := Str.ofString "__next__") hit.typeIs F.slot_tuple_iterator_next (wpAny_call_entry
    F.slot_tuple_iterator_next hit.typeIs F.entry_tuple_iterator_next ?_ (F.args_tuple_iterator_next_1 _))))
  show wpAny _ _ (field (.ref it) 0 >>= _) _ _ s
  refine wpAny_bind (wpAny_field ho hd (x := .ref t) rfl ?_)
  have nn : ¬ ((Value.ref t == Value.none) = true) := Bool.false_ne_true
  show wpAny _ _ (if (Value.ref t == Value.none) = true then _ else _) _ _ s
  rw [if_neg nn]
  show wpAny _ _ (field (.ref it) 1 >>= _) _ _ s
  refine wpAny_bind (wpAny_field ho hd (x := .int i 0) rfl ?_)
  show wpAny _ _ (seqItems? (.ref t) >>= _) _ _ s
  refine wpAny_bind (wpAny_seqItems hol hdl ?_)
  simp only [Int.toNat_natCast, hx]
  refine wpAny_bind (wpAny_rule (wpAny_bind (wpAny_setField ho hd (by simp) ?_)))
  show wpAny _ _ (newExc (.type "StopIteration") [] >>= _) _ _ _
  refine wpAny_bind ?_
  simp only [newExc, newTuple]
  refine wpAny_bind (wpAny_newObj_type ?_ (by size_fits))
  refine wpAny_bind (m := firstArgMember _ _) (wpAny_of_eq (a := Value.none) (by first | rfl | (simp only [firstArgMember]; rfl)) ?_)
  refine wpAny_newObj_type ?_ (by size_fits)
  simp only [raiseNew]
  refine wpAny_bind (wpAny_handled ?_)
  first | rw [show A.in1.handled = none from hh] | rw [hh]
  refine wpAny_bind (wpAny_pure (wpAny_throw ?_))
  refine wpAny_bind (wpAny_isInstance (T := "StopIteration") (b := true) ⟨_, Heap.get?_push_size _ rfl, rfl⟩ isSubtype_stop ?_)
  refine wpAny_pure (hQ _ (fun b o hb e => ?_) ⟨_, Heap.get?_push_of_some _ (Heap.get?_push_of_some _ self)⟩)
  exact Heap.get?_push_of_some _ (Heap.get?_push_of_some _ ((Heap.get?_update_other _ _ (Ne.symm hb)).trans e))
end
end PySem

namespace Gd
open PySem PySem.Spec PyProof.Rows L2
/-- at it: an iterator over the tuple at t, behind i items; | whatever it is -/
def TitO (t it : Addr) (i : Nat) : HO := .ext fun h => h.IsTupleIter it t i
def OddO (it : Addr) : HO := .ext fun h => ∃ o, h.get? it = some o
section
variable {P : Program} {w : World} {H : Hp} {h : Heap} {t it : Addr} {i : Nat}
theorem tit_ok (e : h.IsTupleIter it t i) : ObjOk P w H h it (TitO t it i) := by
  obtain ⟨o, ho, r⟩ := e
  exact ⟨⟨o, ho, r⟩, ⟨o, ho⟩, fun h1 h2 ⟨o', q, r'⟩ k => ⟨o', k _ q, r'⟩⟩
theorem odd_ok (e : ∃ o, h.get? it = some o) : ObjOk P w H h it (OddO it) := ⟨e, e, fun h1 h2 ⟨o', q⟩ k => ⟨o', k _ q⟩⟩
end
section
variable {X : Cx} {pins : List (Addr × Obj)} {σ : L2.St} {H : Hp} {s : Shared} {t it q a : Addr} {i : Nat} {ys : List V}
/-- iter(t), t a tuple -/
def rIterT (K : PySem.W.Frag) : List V → Hp → VK → Prop := fun xs H Q => ∃ (t : Addr) (ys : List V), xs = [.ref t] ∧ SqT K H t ys ∧ ∀ it, H it = none → Q (.ref it) (upd H it (TitO t it 0))
theorem isTuple_of {h : Heap} {a : Addr} {items : Array Value} (x : IsTup h a items) : h.IsTuple a items := by
  obtain ⟨o, h1, h2, h3⟩ := x
  exact ⟨o, h1, h2, by first | exact h3 | exact h3.2⟩
theorem call_iterT : CallR X (.builtin "iter") (rIterT X.K) := by
  intro pins s σ H xs us Q I r h
  obtain ⟨t, ys, rfl, hq, q⟩ := h
  obtain rfl := Vals.ref1 r
  obtain ⟨its, rv, pl, hz⟩ := I.tuple hq
  refine Calls.call_function_entry (by decide +kernel) (by decide +kernel) PySem.W.kdk_entry_iter (PySem.W.kdk_args_iter _) ?_
  unfold Builtin.«iter»
  refine wpAny_bind (m := someArgs "iter" 1 2 _) (wpAny_of_eq (a := [Value.ref t]) (by first | rfl | kernel_rfl!) ?_)
  show wpAny _ _ (pyIter (.ref t) >>= _) _ _ _
  refine wpAny_bind (wpAny_pyIter_tuple (isTuple_of pl) ?_)
  refine wpAny_pure ⟨_, rfl, ?_⟩
  have nw : H s.heap.objs.size = none := I.hok.fresh (Nat.le_refl _)
  refine ⟨.ref s.heap.objs.size, _, I.laid (t' := s.toks) (fun b u e => Heap.get?_push_of_some _ e) (Nat.le_refl _) (tit_ok ⟨_, Heap.get?_push_size _ rfl, rfl, rfl⟩), rfl, q _ nw⟩

theorem take_one {α : Type} : ∀ {l : List α} {i : Nat} (h : i < l.length), l.take (i + 1) = l.take i ++ [l[i]]
  | a :: l, 0, _ => rfl
  | a :: l, i + 1, h => by
    have h' : i < l.length := Nat.lt_of_succ_lt_succ h
    have ih := take_one (l := l) (i := i) h'
    show a :: l.take (i + 1) = (a :: l.take i) ++ [l[i]'h']
    rw [ih]
    rfl
/-- what is known stays known, but for the iterator and the list -/
def But (q it : Addr) (H H' : Hp) : Prop := ∀ b o, b ≠ q → b ≠ it → H b = some o → H' b = some o
theorem drain {A1 : Around} {Rs : Result → Shared → Prop} (hh : A1.in1.handled = none) (hqi : q ≠ it) (hqt : q ≠ t) (hti : t ≠ it) (H0 : Hp)
    (hys : ys.length < sizeLine) (ht0 : SqT X.K H0 t ys)
    (hdone : ∀ H' s', Inv X pins σ H' s' → But q it H0 H' → H' q = some (.lst ys) → H' it = some (OddO it) → Rs (.ok (.ret .none)) s') :
    ∀ (m i : Nat) (H : Hp) (s : Shared), m + i = ys.length → Inv X pins σ H s → But q it H0 H → H it = some (TitO t it i) → H q = some (.lst (ys.take i)) →
      codeAny (model X.prog X.w) A1 (.builtin "list.extend.loop" ⟨[.ref q, .ref it, .none], []⟩) Rs s := by
  intro m
  induction m with
  | zero =>
    intro i H s hi I hB hit hq
    have ht : SqT X.K H t ys := by
      rcases ht0 with (z | ⟨o, z⟩) | z
      · exact .inl (.inl (hB _ _ hqt.symm hti z))
      · exact .inl (.inr ⟨o, hB _ _ hqt.symm hti z⟩)
      · exact .inr z
    obtain ⟨its, rv, pl, hz⟩ := I.tuple ht
    refine codeAny_builtin PySem.F.entry_extend_loop ?_
    rw [Around.under_plainId PySem.F.plain_extend_loop _]
    show wpAny _ A1.in1 (pyNext (.ref it) >>= _) _ _ s
    have hx : its.toArray[i]? = none := by
      have e := rv.length
      rw [List.getElem?_toArray, List.getElem?_eq_none_iff]
      omega
    have T : s.heap.IsTupleIter it t i := (I.hok it _ hit).1
    refine wpAny_bind (PySem.tuple_next_end (items := its.toArray) hh T (isTuple_of pl) hx ?_)
    intro h' keep ex
    have J : Inv X pins σ (upd H it (OddO it)) { s with heap := h' } := by
      refine I.write (t' := s.toks) (x := it) (e := it) (by rw [hit]; exact True.intro) (.inl rfl) (fun b u hb hu => keep b u hb hu) ex (odd_ok ex)
    refine wpAny_pure (hdone _ _ J ?_ ?_ upd_same)
    · intro b o h1 h2 e
      rw [upd_ne h2]
      exact hB b o h1 h2 e
    · rw [upd_ne hqi, hq, List.take_of_length_le (by omega)]
  | succ m ih =>
    intro i H s hi I hB hit hq
    have ht : SqT X.K H t ys := by
      rcases ht0 with (z | ⟨o, z⟩) | z
      · exact .inl (.inl (hB _ _ hqt.symm hti z))
      · exact .inl (.inr ⟨o, hB _ _ hqt.symm hti z⟩)
      · exact .inr z
    obtain ⟨its, rv, pl, hz⟩ := I.tuple ht
    have hlt : i < ys.length := by omega
    obtain ⟨u, hu, ru⟩ := rv.get (List.getElem?_eq_getElem hlt)
    refine codeAny_builtin PySem.F.entry_extend_loop ?_
    rw [Around.under_plainId PySem.F.plain_extend_loop _]
    show wpAny _ A1.in1 (pyNext (.ref it) >>= _) _ _ s
    have T : s.heap.IsTupleIter it t i := (I.hok it _ hit).1
    refine wpAny_bind (wpAny_pyNext_tuple_item (items := its.toArray) T (isTuple_of pl) (by rw [List.getElem?_toArray]; exact hu) ?_)
    intro h' T' same
    have ex : ∃ o, h'.get? it = some o := by
      obtain ⟨o, ho, _⟩ := T'
      exact ⟨o, ho⟩
    have J : Inv X pins σ (upd H it (TitO t it (i + 1))) { s with heap := h' } :=
      I.write (t' := s.toks) (x := it) (e := it) (by rw [hit]; exact True.intro) (.inl rfl) (fun b u hb hu => (same.2 b hb).trans hu) ex (tit_ok T')
    have hq' : upd H it (TitO t it (i + 1)) q = some (.lst (ys.take i)) := by rw [upd_ne hqi]; exact hq
    obtain ⟨z, its2, n2, r2, hl2, e2⟩ := J.lstM hq'
    have l2 : its2.length ≤ i := by rw [← hl2, List.length_take]; omega
    show wpAny _ A1.in1 (updateSeq q (·.push u) >>= _) _ _ _
    refine wpAny_bind (wpAny_updateSeq e2 rfl (wpAny_pure ⟨plainId_quiet PySem.F.plain_extend_loop _, ?_⟩) (by rw [List.size_toArray]; omega) (by show (its2.toArray.push u).size ≤ sizeLine + 1; rw [Array.size_push, List.size_toArray]; omega))
    have tk : ys.take (i + 1) = ys.take i ++ [ys[i]] := take_one hlt
    have J2 := J.lset (f := (·.push u)) (its' := its2 ++ [u]) (ys := ys.take i ++ [ys[i]]) (t' := s.toks) hq' e2 (List.push_toArray its2 u) (r2.append (.cons ru .nil)) (by rw [List.length_append, List.length_singleton, List.length_take]; omega)
    refine ih (i + 1) _ _ (by omega) J2 ?_ ?_ (by rw [tk, upd_same])
    · intro b o h1 h2 e
      rw [upd_ne h1, upd_ne h2]
      exact hB b o h1 h2 e
    · rw [upd_ne hqi.symm, upd_same]

/-- the list's room is made -/
theorem touched {q : Addr} {A : Around} {R : Unit → Shared → Prop} {E : Value → Shared → Prop} (I : Inv X pins σ H s) (hq : H q = some (.lst []))
    (h : ∀ s', Inv X pins σ H s' → R () s') : wpAny (model X.prog X.w) A (Builtin.List.listTouch (.ref q)) R E s := by
  obtain ⟨z, its, k, r3, hl3, e3⟩ := I.lstM hq
  cases r3
  show wpAny _ _ (updateSeq q (·.push .none) >>= fun _ => updateSeq q (·.pop)) _ _ _
  refine wpAny_bind (wpAny_updateSeq e3 rfl ?_)
  have I2 := I.lset (f := (·.push Value.none)) (its' := [Value.none]) (ys := [.non]) (t' := s.toks) hq e3 (by simp) (.cons rfl .nil) (by rw [List.length_singleton, sizeLine_eq]; decide)
  obtain ⟨z4, its4, k4, r4, hl4, e4⟩ := I2.lstM upd_same
  obtain ⟨u4, rfl, ru4⟩ := r4.one
  refine wpAny_updateSeq e4 rfl ?_ (by show 1 ≤ sizeLine; rw [sizeLine_eq]; decide) (by show 0 ≤ sizeLine + 1; exact Nat.zero_le _)
  have I3 := I2.lset (f := (·.pop)) (its := [u4]) (its' := []) (ys := []) (t' := s.toks) upd_same e4 (by rfl) .nil (Nat.zero_le _)
  rw [upd_upd] at I3
  have hH : upd H q (.lst []) = H := by
    funext b
    by_cases hb : b = q
    · rw [hb, upd_same, hq]
    · rw [upd_ne hb]
  rw [hH] at I3
  exact h _ I3

/-- a class whose instances hand on a tuple's iterator, and have a length -/
structure ItT (K : PySem.W.Frag) (C fi fl : Addr) : Prop where
  it : Meth K C "__iter__" fi
  ln : Meth K C "__len__" fl
/-- what its __iter__ promises: an iterator of the tuple that R tells; what its __len__ promises -/
def spIt (K : PySem.W.Frag) (R : Addr → Addr → List V → Hp → Prop) : Sp := fun vs H Q _ => ∃ a t ys, vs = [.ref a] ∧ R a t ys H ∧ SqT K H t ys ∧ ∀ it, H it = none → Q (.ref it) (upd H it (TitO t it 0))
def spLn (R : Addr → Addr → List V → Hp → Prop) : Sp := fun vs H Q _ => ∃ a t ys, vs = [.ref a] ∧ R a t ys H ∧ Q (.int (ys.length : Int)) H
/-- list(o) -/
def rListO (K : PySem.W.Frag) (C : Addr) (R : Addr → Addr → List V → Hp → Prop) : List V → Hp → VK → Prop := fun xs H Q =>
  ∃ a dx fs t ys, xs = [.ref a] ∧ H a = some (.ins C dx fs) ∧ (∀ H', (∀ b o, H b = some o → H' b = some o) → R a t ys H') ∧ SqT K H t ys ∧ ys.length < sizeLine ∧
    ∀ q H', (∀ b o, H b = some o → H' b = some o) → H q = none → H' q = some (.lst ys) → Q (.ref q) H'
theorem call_listO {C fi fl : Addr} {k : Nat} {fdI fdL : FuncData} {psI psL : List Str} {R : Addr → Addr → List V → Hp → Prop} (hc : ItT X.K C fi fl)
    (FI : FnOk X.prog X.w X.K X.mg X.base CX0 k fi fdI psI (spIt X.K R)) (bI : Binds X.K fdI psI []) (FL : FnOk X.prog X.w X.K X.mg X.base CX0 k fl fdL psL (spLn R)) (bL : Binds X.K fdL psL [])
    (hr : Room (k + 5) X.A) : CallR X (.type "list") (rListO X.K C R) := by
  intro pins s σ H xs us Q I rv h
  obtain ⟨a, dx, fs, t, ys, rfl, ha, hR, ht, hlen, hq⟩ := h
  obtain ⟨u, rfl, ru⟩ := rv.one
  cases ru
  have rm2 : Room (k + 3) X.A.in1.in1 := (hr.in1).in1
  have sb : Sub X (k + 3) X.A.in1.in1 := Sub.in1 (Sub.in1 (⟨hr, rfl⟩ : Sub X (k + 5) X.A))
  refine callType_codes (Q₁ := fun obj s₁ => obj = .ref s.heap.objs.size ∧ s₁ = { s with heap := s.heap.push { cls := .type "list", data := .seq #[] } }) PySem.F.called_list (PySem.F.typeCall_list_1 _) PySem.F.entry_list_init
    (code_list_new _ ⟨rfl, rfl⟩) ?_
  intro obj s₁ h₁
  obtain ⟨rfl, rfl⟩ := h₁
  have hS : (s.heap.push { cls := .type "list", data := .seq #[] }).get? s.heap.objs.size = some { cls := .type "list", data := .seq #[] } := Heap.get?_push_size _ rfl
  refine ⟨⟨_, hS, rfl⟩, PySem.F.args_list_init_2 _ _, ?_⟩
  have fr : H s.heap.objs.size = none := I.hok.fresh (Nat.le_refl _)
  have I1 : Inv X pins σ (upd H s.heap.objs.size (.lst [])) { s with heap := s.heap.push { cls := .type "list", data := .seq #[] } } := I.lnew (its := []) (t' := s.toks) .nil (Nat.zero_le _)
  generalize hqq : s.heap.objs.size = q at *
  show wpAny _ _ (do let old ← Builtin.List.listItems (.ref q); Builtin.List.listUpdate (.ref q) (fun _ => #[]); letGo old.toList.reverse; Builtin.List.listExtendWith (.ref q) (.ref a) .none) _ _ _
  refine wpAny_bind ?_
  unfold Builtin.List.listItems
  refine wpAny_bind (wpAny_seqItems hS rfl (wpAny_pure ?_))
  show wpAny _ _ (updateSeq q (fun _ => #[]) >>= fun _ => letGo (#[] : Array Value).toList.reverse >>= fun _ => Builtin.List.listExtendWith (.ref q) (.ref a) .none) _ _ _
  refine wpAny_bind (wpAny_updateSeq hS rfl ?_)
  have I2 := I1.lset (f := fun _ => #[]) (its := []) (its' := []) (ys := []) (t' := s.toks) upd_same hS rfl .nil (Nat.zero_le _)
  rw [upd_upd] at I2
  refine wpAny_bind (wpAny_letGo ?_)
  have H2ext : ∀ b o, H b = some o → upd H q (.lst []) b = some o := fun b o e => by
    rw [upd_ne (ne_of_none e fr)]
    exact e
  have ha2 := H2ext _ _ ha
  have hq2 : upd H q (.lst []) q = some (.lst []) := upd_same
  have ht2 : SqT X.K (upd H q (.lst [])) t ys := ht.ext H2ext
  generalize hH2 : upd H q (.lst []) = H2 at *
  have hne : q ≠ a := ne_of hq2 ha2 (fun z => nomatch z)
  obtain ⟨od, J⟩ := seen I2 ha2
  obtain ⟨m0, hF⟩ := I2.fr
  unfold Builtin.List.listExtendWith
  refine wpAny_bind (J.type.here ?_)
  have h1 : Builtin.List.listSameRef (.ref q) (.ref a) = false := by simp [Builtin.List.listSameRef, hne]
  have h2 : (Value.ref C == Value.type "list") = false := rfl
  have h3 : (Value.ref C == Value.type "tuple") = false := rfl
  simp only [h1, h2, h3, Bool.or_false, Bool.false_eq_true, if_false]
  refine wpAny_bind (PySem.W.owit_iter hF I2.ok.mod.kin J hc.it.at_ hc.it.fn ?_)
  have e0 : Env0 X.prog X.w X.K X.mg X.base X.A.in1.in1 X.stack _ H2 := I2.env0.in1.in1
  have room : Room k X.A.in1.in1 := rm2.mono (by omega)
  have hspI : spIt X.K R [.ref a] H2 (fun v H' => ∃ it, v = .ref it ∧ H2 it = none ∧ H' = upd H2 it (TitO t it 0)) E0 := ⟨a, t, ys, rfl, hR _ H2ext, ht2, fun it n => ⟨it, rfl, n, rfl⟩⟩
  have hl := FI.len _ _ _ _ hspI
  have r2 : Vals [V.ref a] [Value.ref a] := .cons rfl .nil
  refine wpAny_call (codeAny_mono (FI.run X.A.in1.in1 X.stack _ H2 ⟨[.ref a], []⟩ [.ref a] [.ref a] _ E0 room e0 (by
    have := bI _ [.ref a] I2.kIn (by simpa using hl)
    simpa using this) r2 hspI) ?_)
  intro r s' hq'
  match r, hq' with
  | .error e, hq' => exact hq'.elim
  | .ok .next, hq' => exact False.elim hq'
  | .ok .brk, hq' => exact False.elim hq'
  | .ok .cont, hq' => exact False.elim hq'
  | .ok (.ret u), hq' =>
    obtain ⟨v, H3, I3, rv3, it, rfl, itn, rfl⟩ := I2.after hq'
    cases rv3
    have hit : upd H2 it (TitO t it 0) it = some (TitO t it 0) := upd_same
    have T : s'.heap.IsTupleIter it t 0 := (I3.hok it _ hit).1
    have E3 : ∀ b o, H b = some o → upd H2 it (TitO t it 0) b = some o := fun b o e => by
      rw [upd_ne (ne_of_none (H2ext _ _ e) itn)]
      exact H2ext _ _ e
    have ha3 := E3 _ _ ha
    have hqi : q ≠ it := ne_of_none hq2 itn
    have hq3 : upd H2 it (TitO t it 0) q = some (.lst []) := by
      rw [upd_ne hqi]
      exact hq2
    have ht3 : SqT X.K (upd H2 it (TitO t it 0)) t ys := ht.ext E3
    have hqt : q ≠ t := by
      intro z
      subst z
      rcases ht with (z | ⟨o, z⟩) | ⟨o, its, n, z, hcls, _⟩
      · rw [fr] at z
        cases z
      · rw [fr] at z
        cases z
      · obtain ⟨_, its2, n2, _, _, e2⟩ := I2.lstM hq2
        have e3 := I2.kIn _ _ z
        rw [e2] at e3
        cases (Option.some.inj e3)
        exact absurd (Value.type.inj hcls) (by decide)
    have hti : t ≠ it := by
      intro z
      subst z
      rcases ht2 with (z | ⟨o, z⟩) | ⟨o, its, n, z, hcls, _⟩
      · rw [itn] at z
        cases z
      · rw [itn] at z
        cases z
      · obtain ⟨o2, e2, c2, _⟩ := T
        have e3 := I3.kIn _ _ z
        rw [e2] at e3
        cases (Option.some.inj e3)
        rw [c2] at hcls
        exact absurd (Value.type.inj hcls) (by decide)
    refine wpAny_specialOf (Heap.IsTupleIter.typeIs T) PySem.F.slot_tuple_iterator_next.lookup ?_
    have loop : ∀ s4, Inv X pins σ (upd H2 it (TitO t it 0)) s4 → codeAny (model X.prog X.w) X.A.in1 (.builtin "list.extend.loop" ⟨[.ref q, .ref it, .none], []⟩)
        (wants (fun r s₂ => r = Value.none ∧ EP X pins σ Q (Value.ref q) s₂) X.xe) s4 := by
      intro s4 I4
      refine drain (A1 := X.A.in1) rm2.hd hqi hqt hti (upd H2 it (TitO t it 0)) hlen ht3 ?_ ys.length 0 _ s4 rfl I4 (fun b o _ _ e => e) hit (by rw [List.take_zero]; exact hq3)
      intro H' s5 I5 hB5 hq5 _
      refine ⟨rfl, .ref q, H', I5, rfl, hq q H' ?_ fr hq5⟩
      intro b o e
      have nq : b ≠ q := ne_of_none e fr
      have ni : b ≠ it := ne_of_none (H2ext _ _ e) itn
      exact hB5 b o nq ni (E3 _ _ e)
    have fin : ∀ s4, Inv X pins σ (upd H2 it (TitO t it 0)) s4 → wpAny (model X.prog X.w) X.A.in1.in1 (again (.builtin "list.extend.loop" ⟨[.ref q, .ref it, .none], []⟩))
        (fun fin s' => match fin with | .done f => wants (fun r s₂ => r = Value.none ∧ EP X pins σ Q (Value.ref q) s₂) X.xe (.ok f) s' | .again c' => c'.quiet = true ∧ codeAny (model X.prog X.w) X.A.in1 c' (wants (fun r s₂ => r = Value.none ∧ EP X pins σ Q (Value.ref q) s₂) X.xe) s')
        (fun e s' => wants (fun r s₂ => r = Value.none ∧ EP X pins σ Q (Value.ref q) s₂) X.xe (.error e) s') s4 := by
      intro s4 I4
      exact wpAny_pure ⟨plainId_quiet PySem.F.plain_extend_loop _, loop s4 I4⟩
    refine wpAny_bind (wpAny_holding ?_)
    obtain ⟨od3, J3⟩ := seen I3 ha3
    obtain ⟨m3, hF3⟩ := I3.fr
    unfold Builtin.List.listLengthHint
    refine wpAny_bind (wpAny_bind (J3.type.here ((PySem.W.looks_findIn I3.kIn hc.ln.at_).here ?_)))
    refine PySem.W.KFB.if_not rfl ?_
    refine PySem.W.KFB.if_so rfl ?_
    refine wpAny_bind (wpAny_rule ?_)
    refine wpAny_bind (m := (call (.builtin "len") [Value.ref a]).attempt) (wpAny_attempt ?_)
    refine PySem.W.len_K hF3 I3.ok.mod.kin J3 hc.ln.at_ hc.ln.fn ?_
    have hspL : spLn R [.ref a] (upd H2 it (TitO t it 0)) (fun v H' => v = .int (ys.length : Int) ∧ H' = upd H2 it (TitO t it 0)) E0 := ⟨a, t, ys, rfl, hR _ E3, rfl, rfl⟩
    have hlL := FL.len _ _ _ _ hspL
    refine wpAny_call (codeAny_mono (FL.run X.A.in1.in1.in1 X.stack _ _ ⟨[.ref a], []⟩ [.ref a] [.ref a] _ E0 (rm2.in1.mono (by omega)) I3.env0.in1.in1.in1 (by
      have := bL _ [.ref a] I3.kIn (by simpa using hlL)
      simpa using this) r2 hspL) ?_)
    intro r4 s4 hq4
    match r4, hq4 with
    | .error e, hq4 => exact hq4.elim
    | .ok .next, hq4 => exact False.elim hq4
    | .ok .brk, hq4 => exact False.elim hq4
    | .ok .cont, hq4 => exact False.elim hq4
    | .ok (.ret u4), hq4 =>
      obtain ⟨v4, H4, I4, rv4, rfl, rfl⟩ := I3.after hq4
      obtain ⟨tk4, rfl⟩ := rv4
      have l63 := line63
      refine ⟨⟨Int.natCast_nonneg _, by omega⟩, ?_⟩
      show wpAny _ _ (asInt? (Value.int (ys.length : Int) s4.toks) >>= _) _ _ _
      refine wpAny_bind (wpAny_pure ?_)
      show wpAny _ _ (if Builtin.List.listTooLong (ys.length : Int).toNat = true then _ else _) _ _ _
      rw [if_neg (by rw [Int.toNat_natCast, notLongL (Nat.le_of_lt hlen)]; exact Bool.false_ne_true)]
      refine wpAny_pure ?_
      have I5 := I4.tok (s4.toks + 1)
      refine wpAny_ite_split (fun _ => ?_) (fun _ => fin _ I5)
      exact wpAny_bind (wpAny_rule (wpAny_bind (touched I5 hq3 fin)))
end
end Gd

set_option Elab.async false
set_option linter.all false
set_option maxRecDepth 100000
set_option maxHeartbeats 4000000
/-! bool(o) and != of own classes. -/
namespace PySem
section
variable {prog : Program} {w : World} {A : Around} {E : Value → Shared → Prop} {s : Shared}
theorem bool_new_any (x : Value) : MeetsIn prog w (Builtin.«bool.__new__» ⟨[.type "bool", x], []⟩) (fun A R s =>
    wpAny (model prog w) A.in1 (truthy x) (fun b s' => R (.ok (.ret (.bool b))) s') (fun e s' => R (.error e) s') s) := by
  intro A R s h
  have f1 := F.conv_sub_bool
  unfold Builtin.«bool.__new__»
  refine wpAny_bind (wpAny_of_eq (a := true) (by first | rfl | kernel_rfl) ?_)
  refine PySem.W.KFB.if_not rfl ?_
  refine wpAny_bind (wpAny_of_eq f1 ?_)
  refine PySem.W.KFB.if_not rfl ?_
  refine wpAny_bind (m := someArgs "bool" 0 1 _) (wpAny_of_eq (a := [x]) (by first | rfl | kernel_rfl!) ?_)
  refine wpAny_bind (wpAny_mono h (fun b s' q => ?_) fun _ _ z => z)
  exact wpAny_pure q
theorem call_bool_any {x : Value} {Q : Value → Shared → Prop}
    (h : wpAny (model prog w) A.in1.in1 (truthy x) (fun b s' => Q (.bool b) s') E s) : wpAny (model prog w) A (call (.type "bool") [x]) Q E s := by
  refine callType_newIn F.called_bool F.newNe_bool (F.typeCall_bool_1 x) (F.newCall_bool_1 x) (fun obj => F.args_object_init_2 obj x) F.entry_bool_new (bool_new_any x) ?_
  exact wpAny_mono h (fun b s' q => ⟨rfl, q⟩) fun _ _ z => z
end
end PySem

namespace HN2
open PySem PySem.Spec PyProof.Rows PySem.SeqAt
section
variable {prog : Program} {w : World} {A : Around} {E : Value → Shared → Prop} {s : Shared} {K : PySem.W.Frag} {x C f : Addr} {ox : Obj} {od : Option Obj} {y : Value}
theorem ne_entry (hu : A.units < cLine) (X : K.In s.heap) (I : PySem.W.InstAt s.heap x ox C od) (hs : PySem.W.findIn K (.ref C) "__eq__" = some (some (.ref f))) (hf : PySem.W.isFn K (.ref f) = true) {Q : Fin → Shared → Prop}
    (h : wpAny (model prog w) A (call (.ref f) [.ref x, y]) (fun v s' => ∃ b, v = .bool b ∧ Q (.done (.ret (.bool (!b)))) s') E s) :
    wpAny (model prog w) A (Builtin.«object.__ne__» ⟨[.ref x, y], []⟩) Q E s := by
  unfold Builtin.«object.__ne__»
  refine wpAny_bind (m := slotArgs "__ne__" 1 _) (wpAny_of_eq (a := (Value.ref x, [y])) (by first | rfl | kernel_rfl!) ?_)
  refine wpAny_bind (wpAny_cRoomFor hu ?_)
  refine wpAny_bind (m := callSpecialIfBound? (.ref x) (Str.ofString "__eq__") [y]) (PySem.W.ifBound_K X I hs hf (wpAny_mono h (fun v s' z => ?_) fun _ _ z => z))
  obtain ⟨b, rfl, q⟩ := z
  exact wpAny_bind (wpAny_truthy_bool (wpAny_pure q))
theorem ifBound_ne {M : Model} {args : List Value} {Q : Option Value → Shared → Prop} (X : K.In s.heap) (I : PySem.W.InstAt s.heap x ox C od) (hs : PySem.W.findIn K (.ref C) "__ne__" = some (some (.builtin "object.__ne__")))
    (h : wpAny M A (call (.builtin "object.__ne__") (.ref x :: args)) (fun v => Q (some v)) E s) : wpAny M A (callSpecialIfBound? (.ref x) "__ne__" args) Q E s := by
  simp only [callSpecialIfBound?, bindSpecialIfBound?]
  refine wpAny_holding (wpAny_bind (wpAny_bind (wpAny_bind (I.type.here ((PySem.W.looks_findIn X hs).here ?_)))))
  refine wpAny_bind (wpAny_askSetting (wpAny_ite ?_))
  have last : wpAny M A (call (.builtin "object.__ne__") ([.ref x] ++ args) >>= fun v => pure (some v)) Q E s :=
    wpAny_bind (wpAny_mono h (fun v s' h' => wpAny_pure h') fun _ _ h' => h')
  split
  · exact wpAny_bind (wpAny_of_eq (F.cmp_object.ne.bind _) (wpAny_pure (by exact last)))
  · exact wpAny_tryCatch (wpAny_bind (wpAny_of_eq (F.cmp_object.ne.bind _) (wpAny_pure (by exact last))))
theorem rich_ne {tb : Value} {Q : Value → Shared → Prop} (hu : A.units + 1 < cLine) (X : K.In s.heap) (I : PySem.W.InstAt s.heap x ox C od) (hb : PySem.W.Looks (model prog w) s.heap (typeOf y) tb)
    (hn : PySem.W.notFirst K C tb = true) (hne : PySem.W.findIn K (.ref C) "__ne__" = some (some (.builtin "object.__ne__"))) (ho : PySem.W.mroIn K C (.type "object") = some true)
    (hs : PySem.W.findIn K (.ref C) "__eq__" = some (some (.ref f))) (hf : PySem.W.isFn K (.ref f) = true)
    (h : wpAny (model prog w) A.in1 (call (.ref f) [.ref x, y]) (fun v s' => ∃ b, v = .bool b ∧ Q (.bool (!b)) s') E s) :
    wpAny (model prog w) A (richCompare .NotEq (.ref x) y) Q E s := by
  have one : wpAny (model prog w) A (tryCompare (.ref x) "__ne__" y) (fun r s' => ∃ v, r = some v ∧ Q v s') E s := by
    unfold tryCompare
    refine wpAny_bind (ifBound_ne X I hne (wpAny_call (codeAny_call_builtin F.cmp_object.ne.plain F.cmpEntry_ne (PySem.W.check_slot F.cmpKind_ne F.cmpSplit_ne (I.type.andThen (PySem.W.looks_mroIn X ho)) (F.cmpArgs_ne _ _)
      (ne_entry (A := A.in1) (by show A.units + 1 < cLine; exact hu) X I hs hf (wpAny_mono h (fun v s' z => ?_) fun _ _ z => z))))))
    obtain ⟨b, rfl, q⟩ := z
    exact ⟨b, rfl, wpAny_pure ⟨_, rfl, q⟩⟩
  unfold richCompare
  simp only [oneThing_ref]
  refine wpAny_holding (wpAny_bind (wpAny_cRoomFor (Nat.lt_of_succ_lt hu) ?_))
  rw [cmpInfo_NotEq]
  dsimp only
  refine wpAny_bind (I.type.here (wpAny_bind (hb.here ?_)))
  split
  · rename_i q
    have e : PySem.W.subIn K tb (.ref C) = some false := by
      rcases Bool.or_eq_true_iff.mp hn with e | e
      · rw [beq_iff_eq.mp e] at q
        simp at q
      · exact beq_iff_eq.mp e
    refine wpAny_bind ((PySem.W.looks_subIn X e).here ?_)
    simp only [Bool.false_eq_true, if_false]
    refine wpAny_bind (m := tryCompare (.ref x) _ y) (wpAny_mono one (fun r s' z => ?_) fun _ _ e => e)
    obtain ⟨v, rfl, hq⟩ := z
    exact wpAny_pure hq
  · refine wpAny_bind (wpAny_pure ?_)
    simp only [Bool.false_eq_true, if_false]
    refine wpAny_bind (m := tryCompare (.ref x) _ y) (wpAny_mono one (fun r s' z => ?_) fun _ _ e => e)
    obtain ⟨v, rfl, hq⟩ := z
    exact wpAny_pure hq
end
end HN2

namespace Gd
open PySem PySem.Spec PyProof.Rows L2
section
variable {X : Cx} {CX : CXT} {k : Nat} {f C : Addr} {fd : FuncData} {ps : List Str} {sp : Sp}
/-- what != of a class with an own == asks of the class -/
structure NeC (K : PySem.W.Frag) (C : Addr) : Prop where
  ne : PySem.W.findIn K (.ref C) "__ne__" = some (some (.builtin "object.__ne__"))
  ob : PySem.W.mroIn K C (.type "object") = some true
def rNeO (K : PySem.W.Frag) (C : Addr) (sp : Sp) (E : XK) : R2 := fun x y H Q => ∃ p dx fs t, x = .ref p ∧ H p = some (.ins C dx fs) ∧
  TyX K H y t ∧ PySem.W.notFirst K C t = true ∧ sp [x, y] H (fun v H' => ∃ c, v = .bl c ∧ Q (.bl (!c)) H') E
theorem op_neO {E : XK} (hn : NeC X.K C) (hm : Meth X.K C "__eq__" f) (F : FnOk X.prog X.w X.K X.mg X.base CX k f fd ps sp) (hr : Room (k + 1) X.A)
    (hb : Binds X.K fd ps []) (hx : ∀ σ, PassesAt CX X σ E) : OpR X (compareOp .NotEq) (rNeO X.K C sp E) := by
  intro pins s σ H x y v u Q I rx ry h
  obtain ⟨p, dx, fs, t, rfl, ep, ty, hnf, hsp⟩ := h
  cases rx
  obtain ⟨od, J⟩ := seen I ep
  obtain ⟨P, Z, hP, _⟩ := kit_of I ry ty
  show wpAny _ _ (richCompare .NotEq _ _) _ _ _
  refine HN2.rich_ne (hu_of hr) I.kIn J (Z.ty _ _ I.kIn hP) hnf hn.ne hn.ob hm.at_ hm.fn ?_
  refine wpAny_mono (runAt (.inr rfl) F hr hb .nil (hx σ) I (.cons (show RelV (V.ref p) (Value.ref p) from rfl) (.cons ry .nil)) hsp) ?_ (fun _ _ z => z)
  rintro w s' ⟨z, H', I', rz, c, rfl, q⟩
  cases rz
  exact ⟨c, rfl, .bl (!c), H', I', rfl, q⟩
/-- bool(o) -/
def rBoolO (C : Addr) (sp : Sp) (E : XK) : List V → Hp → VK → Prop := fun xs H Q => ∃ p dx fs, xs = [.ref p] ∧ H p = some (.ins C dx fs) ∧
  sp [.ref p] H (fun v H' => ∃ c, v = .bl c ∧ Q (.bl c) H') E
theorem call_boolO {E : XK} (hm : Meth X.K C "__bool__" f) (F : FnOk X.prog X.w X.K X.mg X.base CX k f fd ps sp) (hr : Room (k + 2) X.A)
    (hb : Binds X.K fd ps []) (hx : ∀ σ, PassesAt CX X σ E) : CallR X (.type "bool") (rBoolO C sp E) := by
  intro pins s σ H xs us Q I r h
  obtain ⟨p, dx, fs, rfl, ep, hsp⟩ := h
  obtain ⟨u, rfl, hu1⟩ := vals1 r
  cases hu1
  obtain ⟨od, J⟩ := seen I ep
  obtain ⟨m, hF⟩ := I.fr
  refine call_bool_any (PySem.W.truthy_K hF I.ok.mod.kin J hm.at_ hm.fn ?_)
  have hl := F.len _ _ _ _ hsp
  refine wpAny_call (codeAny_mono (F.run X.A.in1.in1 X.stack s H ⟨[.ref p], []⟩ [.ref p] [.ref p] _ E hr.in1.in1 I.env0.in1.in1 (by
    have := hb s [.ref p] I.kIn (by simpa using hl)
    simpa using this) (.cons (show RelV (V.ref p) (Value.ref p) from rfl) .nil) hsp) ?_)
  intro r s' hq
  match r, hq with
  | .error e, hq => exact hx σ pins H s e s' I hq
  | .ok .next, hq => exact False.elim hq
  | .ok .brk, hq => exact False.elim hq
  | .ok .cont, hq => exact False.elim hq
  | .ok (.ret u), hq =>
    obtain ⟨v, H', I', rv, c, rfl, q⟩ := I.after hq
    cases rv
    exact ⟨.bl c, H', I', rfl, q⟩
end
end Gd

set_option Elab.async false
set_option linter.all false
set_option maxRecDepth 100000
set_option maxHeartbeats 4000000
/-! A tuple times 0 or 1. -/
namespace Gd
open PySem PySem.Spec PyProof.Rows L2
theorem tuple_mul1 (l : Addr) (items : Array Value) (n : Nat) (dd : Option Addr) (sl : Array (Option Value)) (u : Tok) :
    Meets (Builtin.«tuple.__mul__» ⟨[.ref l, .int 1 u], []⟩) (fun _ R s => s.heap.get? l = some { cls := .type "tuple", dict := dd, data := .seq items n, slots := sl } ∧
      R (.ok (.ret (Value.ref l))) s) :=
  .of_wp fun prog w A R s h => by
    obtain ⟨hp, g, d, tk, os⟩ := s
    obtain ⟨hl, h⟩ := h
    have f1 := AutoSeq1.idx_int
    have c1 : (items.isEmpty || (1 : Int) == 1) = true := by simp
    wp_walk using wpAny_loadPart' hl
    repeat (first
      | (refine wpAny_ite_true (decide_eq_true c1) ?_; wp_walk using wpAny_loadPart' hl))
    exact ⟨_, rfl, h⟩

theorem tuple_mul0 (l : Addr) (items : Array Value) (n : Nat) (dd : Option Addr) (sl : Array (Option Value)) (u : Tok) (ne : items.isEmpty = false) :
    Meets (Builtin.«tuple.__mul__» ⟨[.ref l, .int 0 u], []⟩) (fun _ R s => s.heap.get? l = some { cls := .type "tuple", dict := dd, data := .seq items n, slots := sl } ∧
      R (.ok (.ret (Value.ref s.heap.objs.size))) { s with heap := s.heap.push { cls := Value.type "tuple", data := Data.seq #[] }, toks := s.toks }) :=
  .of_wp fun prog w A R s h => by
    obtain ⟨hp, g, d, tk, os⟩ := s
    obtain ⟨hl, h⟩ := h
    have f1 := AutoSeq1.idx_int
    have c1 : ¬ (items.isEmpty || (0 : Int) == 1) = true := by rw [ne]; decide
    have c2 : (decide ((0 : Int) ≤ 0) || items.isEmpty) = true := by simp
    wp_walk using wpAny_loadPart' hl
    repeat (first
      | (refine wpAny_ite_false (decide_eq_false c1) ?_; wp_walk using wpAny_loadPart' hl)
      | (refine wpAny_ite_true (decide_eq_true c2) ?_; wp_walk using wpAny_loadPart' hl))
    exact ⟨_, rfl, h⟩
def rRepA (K : PySem.W.Frag) : R2 := fun x y H Q => ∃ l k xs, x = .ref l ∧ y = .int k ∧ SqT K H l xs ∧ xs ≠ [] ∧ 0 ≤ k ∧ k ≤ 1000 ∧ xs.length ≤ 1000 ∧
  (k = 1 → Q (.ref l) H) ∧ (k ≠ 1 → ∀ p, H p = none → Q (.ref p) (upd H p (.tup (List.replicate k.toNat xs).flatten)))
section
variable {X : Cx}
theorem op_repA : OpR X (binaryOp .Mult) (rRepA X.K) := by
  intro pins s σ H x y v u Q I rx ry h
  obtain ⟨l, k, xs, rfl, rfl, hT, hne, h1, h2, hz, q1, q2⟩ := h
  by_cases big : 2 ≤ k
  · exact op_repT pins s σ H _ _ v u Q I rx ry ⟨l, k, xs, rfl, rfl, hT, hne, big, h2, hz, q2 (by omega)⟩
  cases rx
  obtain ⟨t, rfl⟩ := ry
  obtain ⟨its, r, ⟨⟨cls, dd, data, sl⟩, ho, hc, n, hd⟩, hs⟩ := I.tuple hT
  simp only at hc hd
  subst hc hd
  have hle : its.length = xs.length := r.length.symm
  have hi : its.toArray.isEmpty = false := by
    cases its with
    | nil => exact absurd (List.eq_nil_of_length_eq_zero hle.symm) hne
    | cons a b => rfl
  have hk : k = 0 ∨ k = 1 := by omega
  rcases hk with rfl | rfl
  · refine wpAny_binaryOp_repeat_ref (T := "tuple") (U := "int") (by decide) ⟨_, ho, rfl⟩ (fun s' => typeIs_int s' 0 t) noFill_tuple_mul F.fills_int_mul F.slot_int_rmul repeat_tuple F.slot_int_index.lookup
      (call_meets F.slot_int_rmul (typeIs_int s 0 t) F.entry_int_rmul (F.args_int_rmul_2 _ _) (int_rmul_tuple 0 t l its.toArray n dd sl)
        ⟨ho, rfl, ⟨_, ho, rfl⟩, call_meets F.slot_tuple_mul ⟨_, ho, rfl⟩ F.entry_tuple_mul (F.args_tuple_mul_2 _ _) (tuple_mul0 l its.toArray n dd sl t hi) ⟨ho, ?_⟩⟩)
    have q := q2 (by decide) _ (I.hok.fresh (Nat.le_refl _))
    refine ⟨.ref s.heap.objs.size, _, I.laid (t' := s.toks) (o := .tup (List.replicate (0 : Int).toNat xs).flatten) (fun b ob q => Heap.get?_push_of_some _ q) (Nat.le_refl _) ?_, rfl, q⟩
    exact ⟨Nat.zero_le _, [], .nil, IsTup.new _ _⟩
  · refine wpAny_binaryOp_repeat_ref (T := "tuple") (U := "int") (by decide) ⟨_, ho, rfl⟩ (fun s' => typeIs_int s' 1 t) noFill_tuple_mul F.fills_int_mul F.slot_int_rmul repeat_tuple F.slot_int_index.lookup
      (call_meets F.slot_int_rmul (typeIs_int s 1 t) F.entry_int_rmul (F.args_int_rmul_2 _ _) (int_rmul_tuple 1 t l its.toArray n dd sl)
        ⟨ho, rfl, ⟨_, ho, rfl⟩, call_meets F.slot_tuple_mul ⟨_, ho, rfl⟩ F.entry_tuple_mul (F.args_tuple_mul_2 _ _) (tuple_mul1 l its.toArray n dd sl t) ⟨ho, ?_⟩⟩)
    exact ⟨.ref l, H, I, rfl, q1 rfl⟩
end
end Gd

set_option Elab.async false
set_option linter.all false
set_option maxRecDepth 100000
set_option maxHeartbeats 4000000
/-! The first field of an exception of an own class that stands directly below a builtin one. -/
namespace GdX
open PySem PySem.Calls PyProof.Rows PySem.HandSPX Builtin Builtin.ObjectAttr
section
variable {prog : Program} {w : World} {A : Around} {R : Result → Shared → Prop} {hp : Heap} {g : Array GenState} {d : Drawn} {t : Nat} {os : OsState}
theorem osaG {B : String} {bmB : List Value} (SF : StoreFacts B bmB "object.__setattr__" "object") {K : W.Frag} {name : Str} {tk : Tok} {v : Value} {x C : Addr} {fv : Array Value} {cd : ClassData}
    (X : K.In hp) (hx : hp.get? x = some { cls := .ref C, data := .fields fv }) (hcd : W.clsIn K C = some cd)
    (hm : cd.mro = .ref C :: bmB) (hh : cd.hasDict = true) (ha : W.findIn K (.ref C) name = some none)
    (hq : ∀ h' tk' dx, (∀ b o, b ≠ x → hp.get? b = some o → h'.get? b = some o) → hp.objs.size ≤ dx → dx ≠ x →
      h'.get? x = some { cls := .ref C, dict := some dx, data := .fields fv } →
      h'.Ns1 dx (fun y => if y = name then some v else none) → R (.ok (.ret .none)) ⟨h', g, d, tk', os⟩) :
    codeAny (model prog w) A (.call (.builtin "object.__setattr__") ⟨[.ref x, .str name tk, v], []⟩) R ⟨hp, g, d, t, os⟩ := by
  have I : W.InstAt hp x { cls := .ref C, data := .fields fv } C none := ⟨hx, rfl, rfl, trivial⟩
  have ne : cd.mro.isEmpty = false := by rw [hm]; rfl
  have hob : cd.mro.contains (.type "object") = true := by
    rw [hm, List.contains_cons, SF.hasOwner, Bool.or_true]
  have hxs : x ≠ hp.objs.size := Nat.ne_of_lt (Heap.lt_size hx)
  have sub : W.Looks (model prog w) hp (isInstance (.ref x) (.type "object")) true := by
    refine I.type.andThen (W.looks_mroIn X ?_)
    unfold W.mroIn
    rw [hcd, Option.bind_some, if_neg (by rw [ne]; decide), hob]
  refine codeAny_call_builtin SF.slot.plain SF.entry (@W.check_slot (model prog w) _ _ ⟨hp, g, d, t, os⟩ "object.__setattr__" "object" "__setattr__" (.ref x) [.str name tk, v] [] _
    SF.kind SF.split sub (SF.args (.ref x) (.str name tk) v) ?_)
  have hmr : W.Looks (model prog w) hp (mroOf (.ref C)) cd.mro := (W.looks_clsIn X hcd).andThen .now
  have L3 : W.Looks (model prog w) hp (storeTaker? none) none := .now
  have hcls : W.Looks (model prog w) hp (classData C) cd := W.looks_clsIn X hcd
  rw [W.osa_eq, refuse_eq]
  refine wpAny_bind (wpAny_bind (I.type.at (wpAny_bind (hmr.at ?_))))
  rw [hm, refuseLoop_ref, SF.passes]
  refine wpAny_pure (wpAny_bind (I.type.at (wpAny_bind ((W.looks_findIn X ha).at (wpAny_bind (L3.at ?_))))))
  show wpAny _ _ (storeInOwnDict (.ref x) (.ref C) (.str name tk) name v false) _ _ _
  clear hmr hob ne sub hm
  obtain ⟨nm, bs, mro, ns, qn, hd, sn, sb, ab, col, del⟩ := cd
  have hh' : hd = true := hh
  subst hh'
  unfold storeInOwnDict ownDictForStores
  repeat (first
    | with_reducible refine store_in_new ?_ ?_
    | with_reducible refine wpAny_loadPart_at hx ?_
    | with_reducible refine hcls.at ?_
    | wp_step)
  · exact ⟨_, #[], _, (Heap.get?_update_ne _ _ _ _ hxs.symm).trans (Heap.get?_push_at rfl rfl), rfl, fun e he => absurd he (by simp), fun _ => rfl⟩
  · intro h' tk' hn' hs
    have hx₁ : (hp.push { cls := .type "dict", data := .dict #[] }).get? x = some { cls := .ref C, data := .fields fv } := Heap.get?_push_of_some _ hx
    refine hq h' tk' hp.objs.size (fun b o hb ho => ?_) (Nat.le_refl _) hxs.symm ?_ hn'
    · have far : b ≠ hp.objs.size := Nat.ne_of_lt (Heap.lt_size ho)
      exact (hs.2 b far).trans ((Heap.get?_update_ne _ _ _ _ hb).trans (Heap.get?_push_of_some _ ho))
    · exact (hs.2 x hxs).trans (Heap.get?_update_self _ hx₁ rfl)
end
end GdX

set_option Elab.async false
set_option linter.all false
set_option maxRecDepth 100000
set_option maxHeartbeats 4000000
namespace PySem
namespace XInvalidNumber
open PySem.W PySem.Calls PyProof.Rows PySem.HandSPX
/-! ### the text of __init__ -/
def iA (p1 p2 : Pos) : Arguments := { posonlyargs := [], args := [{ arg := "self", annotation := none, pos := p1 }, { arg := "value", annotation := none, pos := p2 }], vararg := none, kwonlyargs := [], kw_defaults := [], kwarg := none, defaults := [] }
def iB (q1 q2 q3 q4 : Pos) : List Stmt := [.Assign [.Attribute (.Name "self" q1) "value" q2] (.Name "value" q3) q4]
def iS : Scope := { kind := .function, names := [(PySem.Str.ofString "self", .local), (PySem.Str.ofString "value", .local)], isGenerator := false, isCoroutine := false, more := [] }
/-- what the written part says of Low, at C, and of its __init__, at fI -/
structure InvalidNumberTxt (K : Frag) (mg : Str → Option Value) (C fI : Addr) : Prop where
  gC : mg "InvalidNumber" = some (.ref C)
  cls : ∃ nm q N bs sn sub ab col dd k0 k1 k2 k3 k5, K.lookup C = some (excClassObj nm q C N bs [.type "IndexError", .type "LookupError", .type "Exception", .type "BaseException", .type "object"] true sn sub ab col dd k0 k1 k2 k3 k5 "IndexError.__new__")
  sa : findIn K (.ref C) "__setattr__" = some (some (.builtin "object.__setattr__"))
  ga : findIn K (.ref C) "__getattribute__" = some (some (.builtin "BaseException.__getattribute__"))
  gg : findIn K (.ref C) "__getattr__" = some none
  noN : findIn K (.ref C) "value" = some none
  iC : findIn K (.ref C) "__init__" = some (some (.ref fI))
  tC : typeIn K (.ref fI) = some (.type "function")
  kC : keepIn K (.ref C) = true
  exC : subIn K (.ref C) (.type "BaseException") = some true
  tyC : typeIn K (.ref C) = some (.type "type")
  hdC : hasDictIn K C = true
  te : exmOne K (.ref C) (.ref C) = some true
  fn : ∃ (oc : Value) (od : Option Addr) (doc pm : Value) (an : Option Addr) (cdv ct : Value) (osl : Array (Option Value)) (p1 p2 q1 q2 q3 q4 : Pos),
    K.lookup fI = some ⟨oc, od, .func (fnOf "__init__" "InvalidNumber.__init__" (iA p1 p2) (iB q1 q2 q3 q4) iS .none .none doc pm an cdv ct), osl⟩ ∧ codeIn K cdv "InvalidNumber.__init__" = true
theorem one_size (v : Value) : [v].length ≤ sizeLine := by
  rw [sizeLine_eq]
  exact (by decide : 1 ≤ 16777216)
theorem kept_but {K : Frag} {h h' : Heap} {x : Addr} (X : K.In h) (hx : K.lookup x = none) (k : ∀ b o, b ≠ x → h.get? b = some o → h'.get? b = some o) : K.In h' := fun a o e =>
  k a o (fun z => by rw [z, hx] at e; cases e) (X a o e)
theorem ldC {M : Model} {s : Shared} {name : Str} {scope : Scope} {L a : Addr} {cd : Value} {m : Str → Option Value} {x : Str} {pos : Pos} {v : Value} {Q : Value → Shared → Prop} {A : Around} {E : Value → Shared → Prop} (hn : s.heap.Ns L m) (hv : m x = some v) (h : Q v s)
    (hk : scope.kind = .function := by rfl) (hl : (envOfC name scope L a cd).kindOf x = some .local := by rfl) (hd : (x == ("__debug__" : Str)) = false := by decide) :
    wpAny M A (eval (.Name x pos) (envOfC name scope L a cd)) Q E s := wpAny_Name (wpAny_loadName_local hk hl hn hv h) hd
/-- what __init__ leaves of a fresh exception at x -/
structure InitEnd (h h' : Heap) (x C dx t1 : Addr) (v : Value) : Prop where
  keep : ∀ b o, b ≠ x → h.get? b = some o → h'.get? b = some o
  obj : h'.get? x = some { cls := .ref C, dict := some dx, data := .fields #[.ref t1, .none, .none, .none, .bool false, .none] }
  dbig : h.objs.size ≤ dx
  dne : dx ≠ x
  ns : h'.Ns1 dx (fun y => if y = "value" then some v else none)
/-- a made Low -/
structure OwnMade (h h' : Heap) (e C d : Addr) (v : Value) : Prop where
  keep : ∀ b o, h.get? b = some o → h'.get? b = some o
  new : h.objs.size ≤ e
  obj : ∃ oe vs, h'.get? e = some oe ∧ oe.cls = .ref C ∧ oe.dict = some d ∧ oe.data = .fields vs ∧ vs[1]? = some .none
  dbig : h.objs.size ≤ d
  dne : d ≠ e
  ns : h'.Ns1 d (fun y => if y = "value" then some v else none)
section
variable {prog : Program} {w : World} {A : Around} {E : Value → Shared → Prop} {R : Result → Shared → Prop} {s : Shared} {K : Frag} {mg : Str → Option Value} {C fI : Addr}
theorem low_init (T : InvalidNumberTxt K mg C fI) {x t0 : Addr} {v : Value} (X : K.In s.heap) (hlim : s.heap.NoLimit) (hx : s.heap.get? x = some (excO C t0)) (hnx : K.lookup x = none) (hroom : A.depth < recursionLimit)
    (hq : ∀ h' tk dx, InitEnd s.heap h' x C dx t0 v → R (.ok (.ret .none)) { s with heap := h', toks := tk }) :
    codeAny (model prog w) A (.call (.ref fI) ⟨[.ref x, v], []⟩) R s := by
  obtain ⟨oc, od, doc, pm, an, cdv, ct, osl, p1, p2, q1, q2, q3, q4, ho, hcd⟩ := T.fn
  obtain ⟨nm, q, N, bs, sn, sub, ab, col, dd, k0, k1, k2, k3, k5, hC⟩ := T.cls
  have hcl : clsIn K C = some { name := nm, bases := bs, mro := .ref C :: [.type "IndexError", .type "LookupError", .type "Exception", .type "BaseException", .type "object"], ns := N, qualname := q, hasDict := true, slotNames := sn, subclasses := sub, abstract := ab, collection := col, hasDel := false } := by unfold clsIn; rw [hC] <;> rfl
  refine Att.call_fn (binds := [("self", .ref x), ("value", v)]) X hlim ho hcd hroom (BindsTo.of_eq (by first | rfl | with_unfolding_all rfl)) (by first | rfl | decide | with_unfolding_all rfl) (fun s₁ IC => ?_) rfl rfl rfl
  obtain ⟨h₁, tk₁, rfl⟩ := IC.toInCall.same
  have k : ∀ b o, s.heap.get? b = some o → h₁.get? b = some o := IC.toInCall.keep
  have hn := IC.toInCall.ns
  have hxL : s.heap.objs.size ≠ x := Nat.ne_of_gt (Heap.lt_size hx)
  have X₁ : K.In h₁ := X.keeps k
  have hx₁ := k _ _ hx
  -- self.by = by
  show wpAny _ _ (execs _ _) _ _ _
  refine wpAny_execs_cons (plainObj_wpAny_Assign_Attribute ?_)
  refine ldC (v := v) hn (by first | rfl | with_unfolding_all rfl | kernel_rfl) (ldC (v := .ref x) hn (by first | rfl | with_unfolding_all rfl | kernel_rfl) ?_)
  refine set_plain X₁ (ox := excO C t0) (od := none) ⟨hx₁, rfl, rfl, trivial⟩ T.sa ?_
  refine GdX.osaG F.store_IndexError X₁ hx₁ hcl rfl rfl T.noN (fun h₃ tk₃ dx k₃ dn dne hx₃ hn₃ => ?_)
  show wpAny _ _ (execs _ _) _ _ _
  have z : s.heap.objs.size < h₁.objs.size := hn.lt
  exact wpAny_execs_nil (hq h₃ tk₃ dx ⟨fun b o hb e => k₃ b o hb (k b o e), hx₃, Nat.le_of_lt (Nat.lt_of_lt_of_le z dn), dne, hn₃⟩)
theorem low_made (T : InvalidNumberTxt K mg C fI) {v : Value} (X : K.In s.heap) (hlim : s.heap.NoLimit) (hroom : A.depth + 1 < recursionLimit)
    (hq : ∀ h' tk e d, OwnMade s.heap h' e C d v → R (.ok (.ret (.ref e))) { s with heap := h', toks := tk }) :
    codeAny (model prog w) A (.call (.ref C) ⟨[v], []⟩) R s := by
  obtain ⟨nm, q, N, bs, sn, sub, ab, col, dd, k0, k1, k2, k3, k5, hC⟩ := T.cls
  obtain ⟨hp, g, dr, tk, os⟩ := s
  have k : ∀ b o, hp.get? b = some o → ((hp.push (kdv_tup [v])).push (excO C hp.objs.size)).get? b = some o := fun b o e => Heap.get?_push_of_some _ (Heap.get?_push_of_some _ e)
  have hget : ((hp.push (kdv_tup [v])).push (excO C hp.objs.size)).get? (hp.objs.size + 1) = some (excO C hp.objs.size) := by heap_get
  have hnx : K.lookup (hp.objs.size + 1) = none := by
    cases e : K.lookup (hp.objs.size + 1) with
    | none => rfl
    | some o =>
      have z : hp.get? (hp.objs.size + 1) = some o := X _ _ e
      exact absurd (Nat.lt_of_succ_lt (Heap.lt_size z)) (Nat.lt_irrefl _)
  refine call_own F.excBase_IndexError (fun _ => rfl) (X _ _ hC) (looks_findIn X T.iC) (fun self => bind_fn X self T.tC) (one_size v) ?_
  refine low_init (s := ⟨(hp.push (kdv_tup [v])).push (excO C hp.objs.size), g, dr, tk, os⟩) T (X.keeps k) (hlim.keeps k) hget hnx ?_ fun h' tk' dx ⟨k', hx, dn, dne, hns⟩ => ?_
  · show A.depth + 1 < recursionLimit
    exact hroom
  · have old : ∀ b o, hp.get? b = some o → h'.get? b = some o := fun b o e => k' b o (Nat.ne_of_lt (Nat.lt_succ_of_lt (Heap.lt_size e))) (k b o e)
    have z : hp.objs.size + 1 + 1 ≤ dx := by
      first
        | (simpa only [Heap.size_push] using dn)
        | exact dn
        | (have q := dn; rw [Heap.size_push, Heap.size_push] at q; exact q)
    exact ⟨rfl, hq h' tk' (hp.objs.size + 1) dx ⟨old, Nat.le_succ _, ⟨_, _, hx, rfl, rfl, rfl, rfl⟩, Nat.le_trans (Nat.le_trans (Nat.le_succ _) (Nat.le_succ _)) z, dne, hns⟩⟩
end
end XInvalidNumber
end PySem
namespace L2
open PySem PySem.Spec PyProof.Rows
theorem relO_InvalidNumber {v : V} {v' : Value} (r : RelV v v') (f : Str) : RelO (List.lookup f [(("value" : Str), v)]) (if f = "value" then some v' else none) := by
  by_cases hw : f = "value"
  · subst hw
    rw [if_pos rfl]
    have q : List.lookup ("value" : Str) [(("value" : Str), v)] = some v := by simp [List.lookup]
    rw [q]
    exact r
  · rw [if_neg hw]
    have qw : (f == ("value" : Str)) = false := by simpa using hw
    have q2 : List.lookup f [(("value" : Str), v)] = none := by simp [List.lookup, qw]
    rw [q2]
    trivial
section
variable {X : Cx} {C fI : Addr}
/-- Low(e) -/
def tMkInvalidNumber (C : Addr) (ta : TA) : St → Hp → XK → Prop := fun σ H Q => ta σ H fun vs H1 => ∃ v, vs = [v] ∧ ∀ d, H1 d = none → Q (.ref C) (some d) (upd H1 d (.xd [(("value" : Str), v)]))
theorem pmk_InvalidNumber {a : Expr} {ta : TA} {p pos : Pos} {k : Nat} (T : PySem.XInvalidNumber.InvalidNumberTxt X.K X.mg C fI) (hr : Room k X.A) (ha : PA X [a] ta) (hg : Gl X "InvalidNumber" := by rfl)
    (he : starEach (a :: []) X.env = (false, eval a X.env) :: starEach [] X.env := by rfl) (hpl : (backTo pos (starEach [] X.env)).any (·.1) = false := by rfl) :
    PMk X (.Call (.Name "InvalidNumber" p) [a] [] pos) (tMkInvalidNumber C ta) := by
  intro pins s σ H Q I h
  refine wpAny_Call_Name_kw (ld_glob I hg T.gC ?_)
  refine PySem.W.callWith_K (h₀ := X.base) I.ok.mod.kin T.kC (thn (ha.run pos pins s σ H _ I h) fun us s1 hh => ?_) he hpl
  obtain ⟨vs, H1, I1, r1, v, ev, q1⟩ := hh
  subst ev
  refine ⟨I1.kIn, ?_⟩
  cases r1 with
  | cons rv rn =>
    rename_i v' us'
    cases rn
    show wpAny _ _ (call (.ref C) [v']) _ _ _
    have hlim := I1.nolimit
    obtain ⟨hp, g, dr, tk, os⟩ := s1
    refine wpAny_call (PySem.XInvalidNumber.low_made T I1.kIn hlim (by have := hr.dp; omega) fun h' tk' e d M => ?_)
    show MkP X pins σ Q (.ref e) ⟨h', g, dr, tk', os⟩
    obtain ⟨oe, fv, hoe, hc, hd, hdat, h1⟩ := M.obj
    have hns := M.ns
    obtain ⟨G', g1, g2⟩ := restrict h' fun b => decide (b ≠ e)
    have gk : ∀ b, b ≠ e → G'.get? b = h'.get? b := fun b hb => g1 b (decide_eq_true hb)
    have ge : G'.get? e = none := g2 e (by simp)
    have old : ∀ b o, hp.get? b = some o → G'.get? b = some o := fun b o q => (gk b (Nat.ne_of_lt (Nat.lt_of_lt_of_le (Heap.lt_size q) M.new))).trans (M.keep b o q)
    have ob : ObjOk X.prog X.w (upd H1 d (.xd [(("value" : Str), v)])) G' d (.xd [(("value" : Str), v)]) :=
      ⟨_, hns.at (fun o q => (gk d M.dne).trans q), fun f => relO_InvalidNumber rv f⟩
    have J : Inv X pins σ (upd H1 d (.xd [(("value" : Str), v)])) ⟨G', g, dr, tk', os⟩ := I1.laid (t' := tk') old M.dbig ob
    refine ⟨e, oe, fv, ⟨G', g, dr, tk', os⟩, _, .ref C, some d, rfl, J, fun b o q => ?_, ge, hoe, ⟨hc, hd⟩, hdat, h1, ?_, rfl, I1.bare, raises_own T.exC T.tyC, q1 d (I1.hok.fresh M.dbig)⟩
    · by_cases hb : b = e
      · have q' : G'.get? b = some o := q
        rw [hb, ge] at q'; cases q'
      · exact (gk b hb).symm.trans q
    · rw [upd_ne (Ne.symm M.dne)]
      exact I1.hok.fresh M.new
/-- raise Low(e) -/
def tRaiseInvalidNumber (C : Addr) (W : WX) (ta : TA) : TS := fun _ σ H => tMkInvalidNumber C ta σ H fun cls d H' => W cls d σ H'
theorem ps_raiseInvalidNumber {a : Expr} {ta : TA} {W : WX} {p pos pos2 : Pos} {k : Nat} (hc : X.calm = true) (T : PySem.XInvalidNumber.InvalidNumberTxt X.K X.mg C fI) (hr : Room k X.A) (tk : Takes X W) (ha : PA X [a] ta) (hg : Gl X "InvalidNumber" := by rfl)
    (he : starEach (a :: []) X.env = (false, eval a X.env) :: starEach [] X.env := by rfl) (hpl : (backTo pos (starEach [] X.env)).any (·.1) = false := by rfl) :
    PS X (.Raise (some (.Call (.Name "InvalidNumber" p) [a] [] pos)) none pos2) (tRaiseInvalidNumber C W ta) := ps_raise hc tk (pmk_InvalidNumber T hr ha hg he hpl)
/-- low.by, low the exception that the suite holds (at a; its class cls, its dict d) -/
def tByInvalidNumber (C : Addr) (a : Addr) (cls : Value) (d : Option Addr) (te : TE) : TE := fun σ H Q => te σ H fun x H1 => x = .ref a ∧ cls = .ref C ∧ ∃ (dd : Addr) (v : V), d = some dd ∧ H1 dd = some (.xd [(("value" : Str), v)]) ∧ Q v H1
theorem pe_byInvalidNumber {a : Addr} {oe : Obj} {cls : Value} {d : Option Addr} {pn : List (Addr × Obj)} {e : Expr} {te : TE} {pos : Pos} (T : PySem.XInvalidNumber.InvalidNumberTxt X.K X.mg C fI) (hz : Zc cls d oe) (hf : ∃ vs, oe.data = .fields vs) (he : PE (X.suite a ((a, oe) :: pn)) e te)
    (hb : attributeBase e "value" X.env (eval e X.env) = eval e X.env := by rfl) :
    PE (X.suite a ((a, oe) :: pn)) (.Attribute e "value" pos) (tByInvalidNumber C a cls d te) := by
  refine ⟨fun pins s σ H Q I h => ?_⟩
  refine attr_of hb (thn (he.run pins s σ H _ I h) fun u s1 hh => ?_)
  obtain ⟨x, H1, I1, rx, ex, ec, dd, v, ed, ea, q⟩ := hh
  subst ex
  obtain rfl : u = Value.ref a := rx
  subst ec
  subst ed
  obtain ⟨ha, _⟩ := I1.pin (a, oe) (List.mem_append_left _ List.mem_cons_self)
  obtain ⟨vs, hd⟩ := hf
  have hx : ObjOk X.prog X.w H1 s1.heap dd (.xd [(("value" : Str), v)]) := I1.hok dd _ ea
  obtain ⟨mA, hns, hr⟩ := hx
  obtain ⟨od, ho, hl⟩ := lookIn_ns hns
  have l : List.lookup ("value" : Str) [(("value" : Str), v)] = some v := by simp [List.lookup]
  obtain ⟨u, hu, ru⟩ := RelO.some_of (v := v) (o := mA "value") (by rw [← l]; exact hr "value")
  have J : PySem.W.InstAt s1.heap a oe C (some od) := ⟨ha, hz.1, by unfold PySem.W.notCls; rw [hd] <;> rfl, by rw [hz.2]; exact ho⟩
  exact HandSPX.exc_get I1.kIn J T.ga T.gg T.exC (PySem.W.findObj_own T.hdC T.noN rfl (by rw [hl, hu])) (handed_of ru) ⟨v, H1, I1.tok _, ru, q⟩
end
end L2

set_option Elab.async false
set_option linter.all false
set_option maxRecDepth 100000
set_option maxHeartbeats 4000000
/-! enumerate(a tuple). -/
namespace HN4
open PySem PySem.Spec PyProof.Rows PySem.SeqAt
theorem meets_enum1 {v : Value} {o : Obj} {G : Heap → Prop} (B : Begins v o G) : Meets (Builtin.«enumerate.__new__» ⟨[.type "enumerate", v], []⟩) (fun _ R s => G s.heap ∧
    R (.ok (.ret (.ref (s.heap.push o).objs.size))) { s with heap := (s.heap.push o).push { cls := .type "enumerate", data := .fields #[.none, .bool false, .ref s.heap.objs.size, rawInt 0, .none, .none] } }) := by
  refine .of_wp fun prog w A R ⟨hp, g, d, tk, os⟩ hh => ?_
  obtain ⟨h1, h⟩ := hh
  have sb := sub_enumerate
  have it : ∀ {A' : Around} {E : Value → Shared → Prop} {Q : Value → Shared → Prop}, Q (.ref hp.objs.size) ⟨hp.push o, g, d, tk, os⟩ → wpAny (model prog w) A' (pyIter v) Q E ⟨hp, g, d, tk, os⟩ := fun q => B.iter prog w _ _ ⟨hp, g, d, tk, os⟩ _ h1 q
  wp_walk using it
  refine wpAny_stack_any fun st => wpAny_pure ?_
  split
  · rename_i c _ _ _ _ _
    cases (c == Value.type "enumerate") <;> (wp_walk using it; exact ⟨_, rfl, h⟩)
  · wp_walk using it
    exact ⟨_, rfl, h⟩
theorem begins_tup (t : Addr) (items : Array Value) : Begins (.ref t) { cls := .type "tuple_iterator", data := .fields #[.ref t, .int 0 0] } (fun h => h.IsTuple t items) where
  iter := fun prog w A E s Q ht hq => wpAny_pyIter_tuple ht hq
  keeps := fun h h' ht k => ht.at fun o e => k _ _ e
  free := rfl
section
variable {prog : Program} {w : World} {A : Around} {E : Value → Shared → Prop} {s : Shared}
theorem call_enumT {t : Addr} {items : Array Value} {Q : Value → Shared → Prop} (ht : s.heap.IsTuple t items)
    (h : ∀ h', IsEnum h' (s.heap.objs.size + 1) s.heap.objs.size 0 .none → h'.IsTupleIter s.heap.objs.size t 0 → (∀ b o, s.heap.get? b = some o → h'.get? b = some o) → Q (.ref (s.heap.objs.size + 1)) { s with heap := h' }) :
    wpAny (model prog w) A (call (.type "enumerate") [.ref t]) Q E s := by
  let o1 : Obj := { cls := .type "tuple_iterator", data := .fields #[.ref t, .int 0 0] }
  let o2 : Obj := { cls := .type "enumerate", data := .fields #[.none, .bool false, .ref s.heap.objs.size, rawInt 0, .none, .none] }
  have e1 : (s.heap.push o1).objs.size = s.heap.objs.size + 1 := Heap.size_push ..
  have e2 : ((s.heap.push o1).push o2).get? (s.heap.objs.size + 1) = some o2 := by
    have q := Heap.get?_push_size (s.heap.push o1) (o := o2) rfl
    rw [e1] at q
    exact q
  refine callType_new F.called_enumerate (by decide) (F.typeCall_enumerate_1 _) (F.newCall_enumerate_1 _) (fun obj => F.args_object_init_2 obj _) F.entry_enumerate_new (meets_enum1 (begins_tup t items)) ⟨ht, ?_⟩
  show _ ∧ _
  rw [e1]
  exact ⟨⟨_, e2, rfl⟩, h _ e2 ⟨_, Heap.get?_push_of_some _ (Heap.get?_push_size _ rfl), rfl, rfl⟩ fun b ob x => Heap.get?_push_of_some _ (Heap.get?_push_of_some _ x)⟩
end
end HN4
namespace Gd
open PySem PySem.Spec PyProof.Rows L2
/-- a tuple walked with its places: at each turn a new pair -/
def IteT (K : PySem.W.Frag) (t : Addr) : It where
  go := fun i H => ∃ (xs : List V) (x : V), SqT K H t xs ∧ xs[i]? = some x
  yld := fun i H v H' => ∃ T x, v = .ref T ∧ H T = none ∧ H' = upd H T (.tup [.int (i : Nat), x]) ∧ ∀ xs, SqT K H t xs → xs[i]? = some x
  stop := fun i H => ∃ xs : List V, SqT K H t xs ∧ xs.length = i
theorem tit_apart {h : Heap} {t it : Addr} {i : Nat} {items : Array Value} (a : h.IsTupleIter it t i) (b : h.IsTuple t items) : t ≠ it := by
  intro z
  subst z
  obtain ⟨o1, g1, c1, _⟩ := a
  obtain ⟨o2, g2, c2, _⟩ := b
  rw [g1] at g2
  cases g2
  rw [c1] at c2
  exact absurd c2 (by decide)
theorem enum_apart {h : Heap} {e it t : Addr} {k : Int} {old : Value} {items : Array Value} (a : IsEnum h e it k old) (b : h.IsTuple t items) : e ≠ t := by
  intro z
  subst z
  obtain ⟨o2, g2, c2, _⟩ := b
  have g1 : h.get? e = some _ := a
  rw [g1] at g2
  cases g2
  exact absurd c2 (by simp)
theorem turn_enumT {P : Program} {w : World} {K : PySem.W.Frag} {elts : List Expr} {kk : Nat} {tpos : Pos} (t e it : Addr) :
    Turn P w K (.Tuple elts kk tpos) (IteT K t) [e, it] e (fun i h => (∃ old, IsEnum h e it ((i : Nat) : Int) old) ∧ h.IsTupleIter it t i ∧ e ≠ it) where
  mem := List.mem_cons_self
  obj := by
    rintro i h ⟨⟨old, he⟩, ⟨o, ho, hc, hd⟩, _⟩ b hb
    rcases List.mem_cons.mp hb with rfl | hb
    · exact ⟨_, he, fun v q => nomatch q⟩
    · rw [List.mem_singleton.mp hb]
      refine ⟨o, ho, fun v q => ?_⟩
      rw [hd] at q
      cases q
  keep := by
    rintro i h h' ⟨⟨old, he⟩, hi, ne⟩ k
    exact ⟨⟨old, k e List.mem_cons_self _ he⟩, hi.at fun o q => k it (List.mem_cons_of_mem _ List.mem_cons_self) o q, ne⟩
  item := by
    intro X hP hw hK hc i pins s σ H E I hf st hg
    subst hP hw hK
    obtain ⟨⟨old, he⟩, hit, ne⟩ := st
    obtain ⟨xs, x, hq, hx⟩ := hg
    obtain ⟨its, rv, p, hz⟩ := I.tuple hq
    have pt := isTuple_of p
    obtain ⟨u, hu, ru⟩ := rv.get hx
    have a1 := tit_apart hit pt
    have a2 := enum_apart he pt
    have le : e < s.heap.objs.size := Heap.lt_size he
    have li : it < s.heap.objs.size := by
      obtain ⟨_, q, _⟩ := hit
      exact Heap.lt_size q
    have hlt : i < its.toArray.size := by
      rcases Nat.lt_or_ge i its.toArray.size with z | z
      · exact z
      · rw [List.getElem?_eq_none_iff.mpr (by simpa using z)] at hu
        cases hu
    refine wpAny_pyNext_enum_itemD (Draws.tuple (show X.A.in1.handled = none from I.ok.hd hc) it t a1 its.toArray) he ⟨hit, pt⟩ hlt ne (by simp [ne, a2]) fun y h1 tk hy ho st1 hT hsz hk => ?_
    obtain rfl : y = u := by
      rw [List.getElem?_toArray, hu] at hy
      exact (Option.some.inj hy).symm
    refine ⟨_, rfl, wpAny_letOwnedTupleGo_enum (s := { s with heap := h1, toks := tk + 1 }) ho fun h2 he2 sb => ?_⟩
    have hT2 : h2.get? s.heap.objs.size = some { cls := .type "tuple", data := .seq #[.int i tk, y] } := (sb.2 _ (Nat.ne_of_gt le)).trans hT
    have new : ObjOk X.prog X.w (upd H s.heap.objs.size (.tup [.int (i : Nat), x])) h2 s.heap.objs.size (.tup [.int (i : Nat), x]) :=
      ⟨by show 2 ≤ sizeLine; decide, [.int i tk, y], .cons ⟨_, rfl⟩ (.cons ru .nil), ⟨_, hT2, rfl, _, rfl⟩⟩
    have I1 : Inv X pins σ (upd H s.heap.objs.size (.tup [.int (i : Nat), x])) { s with heap := h2, toks := tk + 1 } :=
      I.turnedNew (ch := [e, it]) (fun b ob hb q => (sb.2 b (fun z => hb (by simp [z]))).trans (hk b ob (fun z => hb (by simp [z])) (fun z => hb (by simp [z])) q)) hf (Nat.le_refl _) new
    refine ⟨.ref s.heap.objs.size, _, I1, rfl, ⟨_, x, rfl, I.hok.fresh (Nat.le_refl _), rfl, fun ys hy => ?_⟩, ⟨⟨y, ?_⟩, st1.1.at fun o q => (sb.2 it (Ne.symm ne)).trans q, ne⟩, fun b hb => ?_⟩
    · rw [I.tuple_inj hy hq]
      exact hx
    · rw [show ((i + 1 : Nat) : Int) = (i : Int) + 1 by omega]
      exact he2
    · have lb : b < s.heap.objs.size := by
        rcases List.mem_cons.mp hb with rfl | hb
        · exact le
        · rw [List.mem_singleton.mp hb]
          exact li
      rw [upd_ne (Nat.ne_of_lt lb)]
      exact (hf b hb).1
  done := by
    intro X hP hw hK hc i pins s σ H E I hf st hg
    subst hP hw hK
    obtain ⟨⟨old, he⟩, hit, ne⟩ := st
    obtain ⟨xs, hq, hx⟩ := hg
    obtain ⟨its, rv, p, hz⟩ := I.tuple hq
    have pt := isTuple_of p
    obtain ⟨f0, f1, f2, f3, f4, f5⟩ := hf it (by simp)
    have n : i = its.toArray.size := by
      rw [List.size_toArray, ← rv.length]
      exact hx.symm
    subst n
    exact wpAny_pyNext_enum_endD (Draws.tuple (show X.A.in1.handled = none from I.ok.hd hc) it t (tit_apart hit pt) its.toArray) he ⟨hit, pt⟩ fun h1 eb => ⟨rfl, I.turned (t' := s.toks) (fun b o hb q => eb b o hb q) f0 f1 f3 f4 f5⟩
  self := fun A i s Q E st h => let ⟨⟨_, he⟩, _⟩ := st; wpAny_pyIter_enum he h
theorem call_of_enum {X : Cx} {elts : List Expr} {kk : Nat} {tpos : Pos} {pins : List (Addr × Obj)} {σ : L2.St} {H : Hp} {s : Shared} {R : It → Hp → Prop} {t : Addr} {items : Array Value} (I : Inv X pins σ H s) (pl : IsTup s.heap t items) (q : R (IteT X.K t) H) :
    wpAny (model X.prog X.w) X.A (call (.type "enumerate") [.ref t]) (fun v s2 => wpAny (model X.prog X.w) X.A (pyIter v) (PIE X pins σ (.Tuple elts kk tpos) R) X.xe s2) X.xe s := by
  refine HN4.call_enumT (isTuple_of pl) fun h1 he hit hk => wpAny_pyIter_enum he ?_
  refine ⟨s.heap.objs.size + 1, [s.heap.objs.size + 1, s.heap.objs.size], _, _, H, rfl, I.kept (t' := s.toks) hk, turn_enumT t _ _, ⟨⟨.none, he⟩, hit, Nat.succ_ne_self _⟩, fun b hb => ?_, q⟩
  have hle : s.heap.objs.size ≤ b := by
    rcases List.mem_cons.mp hb with rfl | hb
    · exact Nat.le_add_right _ _
    · rw [List.mem_singleton.mp hb]
      exact Nat.le_refl _
  exact I.fpOk hle (I.hok.fresh hle)
def iEnumT (K : PySem.W.Frag) (ta : TA) : TI := fun σ H R => ta σ H fun vs H1 => ∃ t xs, vs = [.ref t] ∧ SqT K H1 t xs ∧ R (IteT K t) H1
theorem pi_enumT {X : Cx} {e : Expr} {ta : TA} {p pos tpos : Pos} {elts : List Expr} {kk : Nat} (hg : Gl X "enumerate") (hm : X.mg "enumerate" = none) (ha : PA X [e] ta) (hs : starEach [e] X.env = [(false, eval e X.env)] := by rfl) :
    PI X (.Tuple elts kk tpos) (.Call (.Name "enumerate" p) [e] [] pos) (iEnumT X.K ta) := by
  constructor
  intro pins s σ H R I h
  refine Call_ (ld_blt I hg hm boot_enumerate (PyProof.Rows.callWith_type1 (thn (ha.run pos pins s σ H _ I h) fun us s1 q0 => ?_) hs rfl))
  obtain ⟨vs, H1, I1, r1, t, xs, ex, hq, q⟩ := q0
  subst ex
  obtain rfl := Vals.ref1 r1
  obtain ⟨its, rv, pl, hz⟩ := I1.tuple hq
  refine call_of_enum I1 pl q
/-- a loop over the pairs of a tuple -/
theorem for_enumT {K : PySem.W.Frag} {t : Addr} {xs : List V} {g : TG} {tb : TS} {D : Ends} {σ : L2.St} {H : Hp} (Pv : Nat → L2.St → Hp → Prop) (h0 : Pv 0 σ H) (hl : ∀ i σ H, i ≤ xs.length → Pv i σ H → SqT K H t xs)
    (hs : ∀ i x σ H T, xs[i]? = some x → Pv i σ H → H T = none → g (.ref T) σ (upd H T (.tup [.int (i : Nat), x])) fun σ2 H2 => tb { D with nx := Pv (i + 1), ct := Pv (i + 1), bk := D.nx } σ2 H2) (hd : ∀ σ H, Pv xs.length σ H → D.nx σ H) :
    ∃ W : Nat → Nat → L2.St → Hp → Prop, (∃ m, W 0 m σ H) ∧ ∀ i m σ H, W i m σ H →
      ((IteT K t).stop i H ∧ D.nx σ H) ∨ ((IteT K t).go i H ∧ ∃ N : L2.St → Hp → Prop, (∀ σ' H', N σ' H' → ∃ m', m' < m ∧ W (i + 1) m' σ' H') ∧ ∀ x H', (IteT K t).yld i H x H' → g x σ H' fun σ2 H2 => tb { D with nx := N, ct := N, bk := D.nx } σ2 H2) := by
  refine ⟨fun i m σ H => m = xs.length - i ∧ i ≤ xs.length ∧ Pv i σ H, ⟨xs.length, rfl, Nat.zero_le _, h0⟩, ?_⟩
  rintro i m σ H ⟨rfl, hi, p⟩
  have q := hl i σ H hi p
  rcases Nat.lt_or_ge i xs.length with hlt | hge
  · refine .inr ⟨⟨xs, xs[i], q, List.getElem?_eq_getElem hlt⟩, Pv (i + 1), fun σ' H' p' => ⟨xs.length - (i + 1), by omega, rfl, hlt, p'⟩, ?_⟩
    rintro y H' ⟨T, x, rfl, hT, rfl, hx⟩
    exact hs i x σ H T (hx xs q) p hT
  · have e : i = xs.length := Nat.le_antisymm hi hge
    subst e
    exact .inl ⟨⟨xs, q, rfl⟩, hd σ H p⟩
end Gd

set_option Elab.async false
set_option linter.all false
set_option maxRecDepth 100000
set_option maxHeartbeats 4000000
/-! zip of two sequences, each a list or a tuple. -/
namespace Gd
open PySem PySem.Spec PyProof.Rows L2
/-- a list (true) or a tuple (false) -/
def SqE (K : PySem.W.Frag) (l : Bool) (H : Hp) (a : Addr) (xs : List V) : Prop := match l with
  | true => SqL K H a xs
  | false => SqT K H a xs
def HpE (l : Bool) (h : Heap) (a : Addr) (items : Array Value) : Prop := match l with
  | true => h.IsList a items
  | false => h.IsTuple a items
def ItE (l : Bool) (h : Heap) (it a : Addr) (i : Nat) : Prop := match l with
  | true => h.IsListIter it a i
  | false => h.IsTupleIter it a i
def objE (l : Bool) (a : Addr) : Obj := match l with
  | true => { cls := .type "list_iterator", data := .fields #[.ref a, .int 0 0] }
  | false => { cls := .type "tuple_iterator", data := .fields #[.ref a, .int 0 0] }
section
variable {l : Bool} {h h' : Heap} {a it : Addr} {i : Nat} {items : Array Value}
theorem ItE.at (x : ItE l h it a i) (k : ∀ o, h.get? it = some o → h'.get? it = some o) : ItE l h' it a i := by
  cases l with
  | true => exact Heap.IsListIter.at (show h.IsListIter it a i from x) k
  | false => exact Heap.IsTupleIter.at (show h.IsTupleIter it a i from x) k
theorem ItE.there (x : ItE l h it a i) : ∃ o, h.get? it = some o ∧ ∀ v, o.data ≠ .cell v := by
  cases l with
  | true =>
    obtain ⟨o, g, _, d⟩ := (show h.IsListIter it a i from x)
    exact ⟨o, g, fun v q => by rw [d] at q; cases q⟩
  | false =>
    obtain ⟨o, g, _, d⟩ := (show h.IsTupleIter it a i from x)
    exact ⟨o, g, fun v q => by rw [d] at q; cases q⟩
theorem ItE.apart (x : ItE l h it a i) (y : HpE l h a items) : a ≠ it := by
  intro z
  subst z
  cases l with
  | true =>
    obtain ⟨o1, g1, c1, _⟩ := (show h.IsListIter a a i from x)
    obtain ⟨o2, g2, c2, _⟩ := (show h.IsList a items from y)
    rw [g1] at g2
    cases g2
    rw [c1] at c2
    exact absurd c2 (by simp)
  | false => exact tit_apart (show h.IsTupleIter a a i from x) (show h.IsTuple a items from y) rfl
theorem drawsE {prog : Program} {w : World} {A : Around} (hh : A.handled = none) (ne : a ≠ it) : Draws prog w A it [it, a] items.size (fun i v => items[i]? = some v) (fun i h => ItE l h it a i ∧ HpE l h a items) := by
  cases l with
  | true => exact Draws.list hh it a ne items
  | false => exact Draws.tuple hh it a ne items
theorem beginsE : Begins (.ref a) (objE l a) (fun h => HpE l h a items) := by
  cases l with
  | true => exact begins_list a items
  | false => exact begins_tuple a items
theorem ItE.new (g : h.get? it = some (objE l a)) : ItE l h it a 0 := by
  cases l with
  | true => exact ⟨_, g, rfl, rfl⟩
  | false => exact ⟨_, g, rfl, rfl⟩
end
section
variable {X : Cx} {pins : List (Addr × Obj)} {σ : L2.St} {H : Hp} {s : Shared} {l : Bool} {a : Addr} {xs ys : List V}
theorem seqE (I : Inv X pins σ H s) (h : SqE X.K l H a xs) : ∃ its : List Value, Vals xs its ∧ HpE l s.heap a its.toArray := by
  cases l with
  | true =>
    obtain ⟨its, rv, p, _⟩ := I.list (show SqL X.K H a xs from h)
    exact ⟨its, rv, p.isList⟩
  | false =>
    obtain ⟨its, rv, p, _⟩ := I.tuple (show SqT X.K H a xs from h)
    exact ⟨its, rv, isTuple_of p⟩
theorem injE (I : Inv X pins σ H s) (h1 : SqE X.K l H a xs) (h2 : SqE X.K l H a ys) : xs = ys := by
  cases l with
  | true => exact I.list_inj h1 h2
  | false => exact I.tuple_inj h1 h2
end
/-- both walked together: at each turn a new pair -/
def ItzE (K : PySem.W.Frag) (l1 l2 : Bool) (a b : Addr) : It where
  go := fun i H => ∃ (xs ys : List V) (x y : V), SqE K l1 H a xs ∧ SqE K l2 H b ys ∧ xs[i]? = some x ∧ ys[i]? = some y
  yld := fun i H v H' => ∃ T x y, v = .ref T ∧ H T = none ∧ H' = upd H T (.tup [x, y]) ∧ (∀ xs, SqE K l1 H a xs → xs[i]? = some x) ∧ ∀ ys, SqE K l2 H b ys → ys[i]? = some y
  stop := fun i H => ∃ xs ys : List V, SqE K l1 H a xs ∧ SqE K l2 H b ys ∧ i = min xs.length ys.length
theorem lt_of_get {its : List Value} {i : Nat} {u : Value} (h : its[i]? = some u) : i < its.toArray.size := by
  rw [List.size_toArray]
  exact (List.getElem?_eq_some_iff.mp h).1
theorem turn_zipE {P : Program} {w : World} {K : PySem.W.Frag} {elts : List Expr} {kk : Nat} {tpos : Pos} {l1 l2 : Bool} {a b z TI TO i1 i2 : Addr} (S : ZipSep2 z TI TO i1 i2 [i1, a] [i2, b]) :
    Turn P w K (.Tuple elts kk tpos) (ItzE K l1 l2 a b) [z, TI, TO, i1, i2] z (fun i h => IsZip h z TI TO .none ∧ IsTupOf2 h TI (.ref i1) (.ref i2) ∧ (∃ x y, IsTupOf2 h TO x y) ∧ ItE l1 h i1 a i ∧ ItE l2 h i2 b i) where
  mem := List.mem_cons_self
  obj := by
    rintro i h ⟨hz, hTI, ⟨x, y, hTO⟩, h1, h2⟩ c hc
    simp only [List.mem_cons, List.not_mem_nil, or_false] at hc
    rcases hc with rfl | rfl | rfl | rfl | rfl
    · exact ⟨_, hz, fun v q => nomatch q⟩
    · exact ⟨_, hTI, fun v q => nomatch q⟩
    · exact ⟨_, hTO, fun v q => nomatch q⟩
    · exact h1.there
    · exact h2.there
  keep := by
    rintro i h h' ⟨hz, hTI, ⟨x, y, hTO⟩, h1, h2⟩ k
    exact ⟨k _ (by simp) _ hz, k _ (by simp) _ hTI, ⟨x, y, k _ (by simp) _ hTO⟩, h1.at fun o q => k _ (by simp) o q, h2.at fun o q => k _ (by simp) o q⟩
  item := by
    intro X hP hw hK hc i pins s σ H E I hf st hg
    subst hP hw hK
    obtain ⟨hz, hTI, ⟨x0, y0, hTO⟩, h1, h2⟩ := st
    obtain ⟨xs, ys, x, y, hqx, hqy, hx, hy⟩ := hg
    obtain ⟨its, rv, p⟩ := seqE I hqx
    obtain ⟨its2, rv2, p2⟩ := seqE I hqy
    obtain ⟨u, hu, ru⟩ := rv.get hx
    obtain ⟨u2, hu2, ru2⟩ := rv2.get hy
    have hd : X.A.in1.handled = none := I.ok.hd hc
    have zl : z < s.heap.objs.size := Heap.lt_size hz
    refine wpAny_pyNext_zipD2_item S (drawsE hd (h1.apart p)) (drawsE hd (h2.apart p2)) hz hTI hTO ⟨h1, p⟩ ⟨h2, p2⟩ (lt_of_get hu) (lt_of_get hu2) fun v1 v2 h3 tk e1 e2 z3 TO3 s1 s2 hT hsz hk => ?_
    obtain rfl : v1 = u := by
      rw [List.getElem?_toArray, hu] at e1
      exact (Option.some.inj e1).symm
    obtain rfl : v2 = u2 := by
      rw [List.getElem?_toArray, hu2] at e2
      exact (Option.some.inj e2).symm
    refine ⟨_, rfl, wpAny_letOwnedTupleGo_zip (s := { s with heap := h3, toks := tk }) z3 fun h4 z4 sb => ?_⟩
    have hT4 : h4.get? s.heap.objs.size = some { cls := .type "tuple", data := .seq #[v1, v2] } := (sb.2 _ (Nat.ne_of_gt zl)).trans hT
    have new : ObjOk X.prog X.w (upd H s.heap.objs.size (.tup [x, y])) h4 s.heap.objs.size (.tup [x, y]) := ⟨by show 2 ≤ sizeLine; decide, [v1, v2], .cons ru (.cons ru2 .nil), ⟨_, hT4, rfl, _, rfl⟩⟩
    have kp : ∀ c o, c ∉ [z, TI, TO, i1, i2] → s.heap.get? c = some o → h4.get? c = some o := fun c o hb q => by
      simp only [List.mem_cons, List.not_mem_nil, or_false, not_or] at hb
      exact (sb.2 c hb.1).trans (hk c o hb.1 hb.2.2.1 hb.2.2.2.1 hb.2.2.2.2 q)
    have J : Inv X pins σ (upd H s.heap.objs.size (.tup [x, y])) { s with heap := h4, toks := tk } := I.turnedNew (t' := tk) kp hf (Nat.le_refl _) new
    refine ⟨.ref s.heap.objs.size, _, J, rfl, ⟨_, x, y, rfl, I.hok.fresh (Nat.le_refl _), rfl, fun m hm => ?_, fun m hm => ?_⟩, ⟨z4, ?_, ⟨v1, v2, ?_⟩, ?_, ?_⟩, fun c hcm => ?_⟩
    · rw [injE I hm hqx]
      exact hx
    · rw [injE I hm hqy]
      exact hy
    · exact (sb.2 _ S.TIz).trans (hk _ _ S.TIz S.TITO S.TIi1 S.TIi2 hTI)
    · exact (sb.2 _ S.TOz).trans TO3
    · exact s1.1.at fun o q => (sb.2 _ S.zi1.symm).trans q
    · exact s2.1.at fun o q => (sb.2 _ S.zi2.symm).trans q
    · have lt : c < s.heap.objs.size := by
        obtain ⟨_, g1, _⟩ := h1.there
        obtain ⟨_, g2, _⟩ := h2.there
        have hm := hcm
        simp only [List.mem_cons, List.not_mem_nil, or_false] at hm
        rcases hm with rfl | rfl | rfl | rfl | rfl
        · exact zl
        · exact Heap.lt_size hTI
        · exact Heap.lt_size hTO
        · exact Heap.lt_size g1
        · exact Heap.lt_size g2
      rw [upd_ne (Nat.ne_of_lt lt)]
      exact (hf c hcm).1
  done := by
    intro X hP hw hK hc i pins s σ H E I hf st hg
    subst hP hw hK
    obtain ⟨hz, hTI, ⟨x0, y0, hTO⟩, h1, h2⟩ := st
    obtain ⟨xs, ys, hqx, hqy, hend⟩ := hg
    obtain ⟨its, rv, p⟩ := seqE I hqx
    obtain ⟨its2, rv2, p2⟩ := seqE I hqy
    have n1 : its.toArray.size = xs.length := by rw [List.size_toArray, rv.length]
    have n2 : its2.toArray.size = ys.length := by rw [List.size_toArray, rv2.length]
    have hd : X.A.in1.handled = none := I.ok.hd hc
    refine wpAny_pyNext_zipD2_end S (drawsE hd (h1.apart p)) (drawsE hd (h2.apart p2)) hz hTI hTO ⟨h1, p⟩ ⟨h2, p2⟩ (by omega) (by omega) (by omega) fun h3 tk hk => ⟨rfl, I.turnedL (t' := tk) (fun c o hb q => ?_) hf⟩
    simp only [List.mem_cons, List.not_mem_nil, or_false, not_or] at hb
    exact hk c o hb.1 hb.2.2.1 hb.2.2.2.1 hb.2.2.2.2 q
  self := fun A i s Q E st h => wpAny_pyIter_zip st.1 h
def iZipE (K : PySem.W.Frag) (ta : TA) : TI := fun σ H R => ta σ H fun vs H1 => ∃ l1 l2 a b xs ys, vs = [.ref a, .ref b] ∧ SqE K l1 H1 a xs ∧ SqE K l2 H1 b ys ∧ R (ItzE K l1 l2 a b) H1
theorem HpE.lt {l : Bool} {h : Heap} {a : Addr} {items : Array Value} (x : HpE l h a items) : a < h.objs.size := by
  cases l with
  | true =>
    obtain ⟨o, g, _⟩ := (show h.IsList a items from x)
    exact Heap.lt_size g
  | false =>
    obtain ⟨o, g, _⟩ := (show h.IsTuple a items from x)
    exact Heap.lt_size g
theorem call_of_zip {X : Cx} {elts : List Expr} {kk : Nat} {tpos : Pos} {pins : List (Addr × Obj)} {σ : L2.St} {H : Hp} {s : Shared} {R : It → Hp → Prop} {l1 l2 : Bool} {a b : Addr} {i1 i2 : Array Value} (I : Inv X pins σ H s)
    (p1 : HpE l1 s.heap a i1) (p2 : HpE l2 s.heap b i2) (q : R (ItzE X.K l1 l2 a b) H) :
    wpAny (model X.prog X.w) X.A (call (.type "zip") [.ref a, .ref b]) (fun v s2 => wpAny (model X.prog X.w) X.A (pyIter v) (PIE X pins σ (.Tuple elts kk tpos) R) X.xe s2) X.xe s := by
  refine zip_begins2 beginsE beginsE p1 p2 fun h1 hz hTI hTO g1 g2 _ hk => wpAny_pyIter_zip hz ?_
  have sep : ZipSep2 (s.heap.objs.size + 4) (s.heap.objs.size + 2) (s.heap.objs.size + 3) s.heap.objs.size (s.heap.objs.size + 1) [s.heap.objs.size, a] [s.heap.objs.size + 1, b] :=
    zip_sep2 (fun c hc => by rw [List.mem_singleton.mp hc]; exact p1.lt) (fun c hc => by rw [List.mem_singleton.mp hc]; exact p2.lt)
  refine ⟨s.heap.objs.size + 4, [s.heap.objs.size + 4, s.heap.objs.size + 2, s.heap.objs.size + 3, s.heap.objs.size, s.heap.objs.size + 1], _, _, H, rfl, I.kept (t' := s.toks) hk, turn_zipE sep, ⟨hz, hTI, ⟨_, _, hTO⟩, .new g1, .new g2⟩, fun c hc => ?_, q⟩
  have le : s.heap.objs.size ≤ c := by
    simp only [List.mem_cons, List.not_mem_nil, or_false] at hc
    rcases hc with rfl | rfl | rfl | rfl | rfl
    all_goals first | exact Nat.le_refl _ | exact Nat.le_add_right _ _
  exact I.fpOk le (I.hok.fresh le)
theorem pi_zipE {X : Cx} {e e2 : Expr} {ta : TA} {p pos tpos : Pos} {elts : List Expr} {kk : Nat} (hg : Gl X "zip") (hm : X.mg "zip" = none) (ha : PA X [e, e2] ta)
    (hs : starEach [e, e2] X.env = (false, eval e X.env) :: starEach [e2] X.env := by rfl) (hpl : (backTo pos (starEach [e2] X.env)).any (·.1) = false := by rfl) :
    PI X (.Tuple elts kk tpos) (.Call (.Name "zip" p) [e, e2] [] pos) (iZipE X.K ta) := by
  constructor
  intro pins s σ H R I h
  refine Call_ (ld_blt I hg hm PyProof.Rows.boot_zip (PyProof.Rows.callWith_type1 (thn (ha.run pos pins s σ H _ I h) fun us s1 q0 => ?_) hs hpl))
  obtain ⟨vs, H1, I1, r1, l1, l2, a, b, xs, ys, ex, hx, hy, q⟩ := q0
  subst ex
  obtain ⟨u1, u2, rfl, r1, r2⟩ := vals2 r1
  cases r1
  cases r2
  obtain ⟨i1, _, p1⟩ := seqE I1 hx
  obtain ⟨i2, _, p2⟩ := seqE I1 hy
  exact call_of_zip I1 p1 p2 q
theorem walk_zipE {K : PySem.W.Frag} {l1 l2 : Bool} {a b : Addr} {xs ys : List V} {n : Nat} (hn : n = min xs.length ys.length) :
    Walk (ItzE K l1 l2 a b) n (fun H => SqE K l1 H a xs ∧ SqE K l2 H b ys) (YPair (fun i => xs[i]?) (fun i => ys[i]?)) where
  goes := fun i H hi q => by
    have h1 : i < xs.length := by omega
    have h2 : i < ys.length := by omega
    exact ⟨xs, ys, xs[i], ys[i], q.1, q.2, List.getElem?_eq_getElem h1, List.getElem?_eq_getElem h2⟩
  stops := fun H q => ⟨xs, ys, q.1, q.2, hn⟩
  yields := by
    rintro i H v H' _ q ⟨T, x, z, h1, h2, h3, h4, h5⟩
    exact ⟨T, x, z, h1, h2, h3, h4 xs q.1, h5 ys q.2⟩
theorem walk_enumT {K : PySem.W.Frag} {a : Addr} {xs : List V} : Walk (IteT K a) xs.length (fun H => SqT K H a xs) (YPair (fun i => some (.int (i : Nat))) (fun i => xs[i]?)) where
  goes := fun i H hi q => ⟨xs, xs[i], q, List.getElem?_eq_getElem hi⟩
  stops := fun H q => ⟨xs, q, rfl⟩
  yields := by
    rintro i H v H' _ q ⟨T, x, h1, h2, h3, h4⟩
    exact ⟨T, _, x, h1, h2, h3, rfl, h4 xs q⟩
end Gd

set_option Elab.async false
set_option linter.all false
set_option maxRecDepth 100000
set_option maxHeartbeats 4000000
/-! + - * of own classes, with an own object or an integer at the right; - of one. -/
namespace HN3
open PySem PySem.Spec PyProof.Rows PySem.SeqAt
section
variable {prog : Program} {w : World} {A : Around} {E : Value → Shared → Prop} {s : Shared} {K : PySem.W.Frag} {x C f : Addr} {ox : Obj} {od : Option Obj}
theorem name_there {M : Model} {h : Heap} {nm : String} (X : K.In h) (hs : PySem.W.findIn K (.ref C) (PySem.dunder nm) = some (some (.ref f))) (hr : PySem.W.findIn K (.ref C) (PySem.dunderR nm) = some none) :
    PySem.W.Looks M h (numberSlotInPython (.ref C) nm) true := by
  intro A Q E s k q
  unfold numberSlotInPython
  refine wpAny_bind (PySem.W.looks_findIn X hs A _ E s k ?_)
  refine wpAny_bind (wpAny_pure ?_)
  refine wpAny_bind (PySem.W.looks_findIn X hr A _ E s k ?_)
  refine wpAny_bind (wpAny_pure ?_)
  exact wpAny_pure q
theorem binop1_int {nm : String} {n : Int} {t : Tok} {z : Value} {Q : Value → Shared → Prop} (X : K.In s.heap) (I : PySem.W.InstAt s.heap x ox C od) (hc : PySem.W.selfFirst K C = true)
    (hs : PySem.W.findIn K (.ref C) (PySem.dunder nm) = some (some (.ref f))) (hrn : PySem.W.findIn K (.ref C) (PySem.dunderR nm) = some none) (hf : PySem.W.isFn K (.ref f) = true)
    (fi : fillsNumberSlot (.type "int") nm = pure true) (hsub : PySem.W.subIn K (.type "int") (.ref C) = some false) (hz : typeLookup (.type "int") (PySem.dunderR nm) = pure (some z))
    (h : wpAny (model prog w) A (call (.ref f) [.ref x, .int n t]) (PySem.W.CmpBack Q) E s) : wpAny (model prog w) A (binaryOp1 nm (.ref x) (.int n t)) (fun r s' => ∃ v, r = some v ∧ Q v s') E s := by
  obtain ⟨cd, hcd, hm⟩ := PySem.W.any_some hc
  obtain ⟨rest, hm⟩ : ∃ rest, cd.mro = .ref C :: rest := by
    cases q : cd.mro with
    | nil => rw [q] at hm; cases hm
    | cons a r => rw [q] at hm; exact ⟨r, by rw [List.head?_cons] at hm; cases (beq_iff_eq.mp hm); rfl⟩
  unfold binaryOp1
  refine wpAny_bind (I.type.here ?_)
  refine wpAny_bind (wpAny_of_eq (a := Value.type "int") rfl ?_)
  refine wpAny_bind ((PySem.W.fills_K X hcd hm hs).here ?_)
  have e : (Value.ref C == Value.type "int") = false := rfl
  rw [e]
  simp only [Bool.false_eq_true, if_false]
  refine wpAny_bind (wpAny_of_eq fi ?_)
  simp only [Bool.and_self, if_true]
  refine wpAny_bind ((PySem.W.looks_subIn X hsub).here ?_)
  simp only [Bool.false_eq_true, if_false]
  refine wpAny_bind ((name_there X hs hrn).here ?_)
  simp only [if_true]
  refine wpAny_bind (wpAny_of_eq (a := false) rfl ?_)
  simp only [Bool.not_false, if_true]
  refine wpAny_bind (wpAny_of_eq hz ?_)
  refine wpAny_bind (m := tryMethod (.ref x) _ (.int n t)) ?_
  unfold tryMethod
  refine wpAny_bind (PySem.W.special_fn X I hs (beq_iff_eq.mp hf) (wpAny_mono h (fun v s' hv => ?_) fun _ _ e => e))
  cases v <;> first | exact hv.elim | exact wpAny_pure (wpAny_pure ⟨_, rfl, hv⟩)
theorem binop_int {op : Operator} {n : Int} {t : Tok} {z : Value} {Q : Value → Shared → Prop} (X : K.In s.heap) (I : PySem.W.InstAt s.heap x ox C od) (hc : PySem.W.selfFirst K C = true)
    (hs : PySem.W.findIn K (.ref C) (PySem.dunder op.info.2) = some (some (.ref f))) (hrn : PySem.W.findIn K (.ref C) (PySem.dunderR op.info.2) = some none) (hf : PySem.W.isFn K (.ref f) = true)
    (fi : fillsNumberSlot (.type "int") op.info.2 = pure true) (hsub : PySem.W.subIn K (.type "int") (.ref C) = some false) (hz : typeLookup (.type "int") (PySem.dunderR op.info.2) = pure (some z))
    (h : wpAny (model prog w) A (call (.ref f) [.ref x, .int n t]) (PySem.W.CmpBack Q) E s) : wpAny (model prog w) A (binaryOp op (.ref x) (.int n t)) Q E s := by
  unfold binaryOp
  refine wpAny_holding (wpAny_bind (wpAny_mono (binop1_int X I hc hs hrn hf fi hsub hz h) (fun r s' hr => ?_) fun _ _ e => e))
  obtain ⟨v, rfl, q⟩ := hr
  exact wpAny_pure q
theorem neg_own {Q : Value → Shared → Prop} (X : K.In s.heap) (I : PySem.W.InstAt s.heap x ox C od)
    (hs : PySem.W.findIn K (.ref C) "__neg__" = some (some (.ref f))) (hf : PySem.W.isFn K (.ref f) = true)
    (h : wpAny (model prog w) A (call (.ref f) [.ref x]) Q E s) : wpAny (model prog w) A (unaryOp .USub (.ref x)) Q E s := by
  unfold unaryOp
  refine wpAny_holding ?_
  dsimp only
  rw [if_neg (by decide)]
  exact wpAny_bind (PySem.W.special_fn X I hs (beq_iff_eq.mp hf) (wpAny_mono h (fun v s' hv => wpAny_pure hv) fun _ _ e => e))
end
end HN3

namespace Gd
open PySem PySem.Spec PyProof.Rows L2
section
variable {X : Cx} {CX : CXT} {k : Nat} {f C : Addr} {fd : FuncData} {ps : List Str} {sp : Sp}
/-- what an operator of an own class asks of the class: m its method, r the name of the turned one, which nobody has -/
structure BinC (K : PySem.W.Frag) (C : Addr) (m r : Str) (f : Addr) : Prop where
  sf : PySem.W.selfFirst K C = true
  at_ : Meth K C m f
  rn : PySem.W.findIn K (.ref C) r = some none
/-- x OP y by the own method of x's class, y of that class or an integer; what it gives is an object -/
def rBinO (C : Addr) (sp : Sp) (E : XK) : R2 := fun x y H Q => ∃ p dx fs, x = .ref p ∧ H p = some (.ins C dx fs) ∧
  ((∃ q dy gs, y = .ref q ∧ H q = some (.ins C dy gs)) ∨ ∃ n, y = .int n) ∧ sp [x, y] H (fun v H' => (∃ q, v = .ref q) ∧ Q v H') E
theorem op_binO {op : Operator} {m r : Str} {z : Value} {E : XK} (e1 : PySem.dunder op.info.2 = m) (e2 : PySem.dunderR op.info.2 = r) (fi : fillsNumberSlot (.type "int") op.info.2 = pure true) (hz : typeLookup (.type "int") r = pure (some z))
    (B : BinC X.K C m r f) (F : FnOk X.prog X.w X.K X.mg X.base CX k f fd ps sp) (hr : Room (k + 1) X.A) (hb : Binds X.K fd ps []) (hx : ∀ σ, PassesAt CX X σ E) : OpR X (binaryOp op) (rBinO C sp E) := by
  subst e1 e2
  intro pins s σ H x y v u Q I rx ry h
  obtain ⟨p, dx, fs, rfl, ep, hy, hsp⟩ := h
  cases rx
  obtain ⟨od, J⟩ := seen I ep
  obtain ⟨m, hF⟩ := I.fr
  have run := wpAny_mono (runAt (.inl rfl) F hr hb .nil (hx σ) I (.cons (show RelV (V.ref p) (Value.ref p) from rfl) (.cons ry .nil)) hsp) (Q' := PySem.W.CmpBack (EP X pins σ Q)) (fun w s' hw => by
    obtain ⟨z, H', I', rz, ⟨q, rfl⟩, hq⟩ := hw
    cases rz
    exact ⟨.ref q, H', I', rfl, hq⟩) (fun _ _ z => z)
  rcases hy with ⟨q, dy, gs, rfl, eq⟩ | ⟨n, rfl⟩
  · cases ry
    obtain ⟨od2, J2⟩ := seen I eq
    exact PySem.W.binop_K hF I.ok.mod.kin J J2.type B.sf B.at_.at_ B.at_.fn run
  · obtain ⟨t, rfl⟩ := ry
    exact HN3.binop_int I.kIn J B.sf B.at_.at_ B.rn B.at_.fn fi (by kernel_rfl) hz run
theorem op_addO {E : XK} (B : BinC X.K C "__add__" "__radd__" f) (F : FnOk X.prog X.w X.K X.mg X.base CX k f fd ps sp) (hr : Room (k + 1) X.A) (hb : Binds X.K fd ps []) (hx : ∀ σ, PassesAt CX X σ E) : OpR X (binaryOp .Add) (rBinO C sp E) :=
  op_binO (op := .Add) (z := .builtin "int.__radd__") (by kernel_rfl) (by kernel_rfl) PySem.F.fills_int_add (by rw [typeLookup_type, builtinLookup_eq_fast]; kernel_rfl) B F hr hb hx
theorem op_subO {E : XK} (B : BinC X.K C "__sub__" "__rsub__" f) (F : FnOk X.prog X.w X.K X.mg X.base CX k f fd ps sp) (hr : Room (k + 1) X.A) (hb : Binds X.K fd ps []) (hx : ∀ σ, PassesAt CX X σ E) : OpR X (binaryOp .Sub) (rBinO C sp E) :=
  op_binO (op := .Sub) (z := .builtin "int.__rsub__") (by kernel_rfl) (by kernel_rfl) PySem.F.fills_int_sub (by rw [typeLookup_type, builtinLookup_eq_fast]; kernel_rfl) B F hr hb hx
theorem op_mulO {E : XK} (B : BinC X.K C "__mul__" "__rmul__" f) (F : FnOk X.prog X.w X.K X.mg X.base CX k f fd ps sp) (hr : Room (k + 1) X.A) (hb : Binds X.K fd ps []) (hx : ∀ σ, PassesAt CX X σ E) : OpR X (binaryOp .Mult) (rBinO C sp E) :=
  op_binO (op := .Mult) (z := .builtin "int.__rmul__") (by kernel_rfl) (by kernel_rfl) PySem.F.fills_int_mul (by rw [typeLookup_type, builtinLookup_eq_fast]; kernel_rfl) B F hr hb hx
/-- -x by the own method -/
def rNegO (C : Addr) (sp : Sp) (E : XK) : V → Hp → VK → Prop := fun x H Q => ∃ p dx fs, x = .ref p ∧ H p = some (.ins C dx fs) ∧ sp [x] H Q E
theorem un_negO {E : XK} (M : Meth X.K C "__neg__" f) (F : FnOk X.prog X.w X.K X.mg X.base CX k f fd ps sp) (hr : Room (k + 1) X.A) (hb : Binds X.K fd ps []) (hx : ∀ σ, PassesAt CX X σ E) : UnR X (unaryOp .USub) (rNegO C sp E) := by
  intro pins s σ H x v Q I rx h
  obtain ⟨p, dx, fs, rfl, ep, hsp⟩ := h
  cases rx
  obtain ⟨od, J⟩ := seen I ep
  exact HN3.neg_own I.kIn J M.at_ M.fn (runAt (.inl rfl) F hr hb .nil (hx σ) I (.cons (show RelV (V.ref p) (Value.ref p) from rfl) .nil) hsp)
end
end Gd

set_option Elab.async false
set_option linter.all false
set_option maxRecDepth 100000
set_option maxHeartbeats 4000000
/-! The sum and the count of a tuple; an integer and a tuple of integers, < ; != of two lists whose items are equal by an own ==. -/
namespace NeL
open PySem PySem.SeqAt
open AutoSeq1 (wpAny_loadPart')
open MeetsSeq MeetsSeq2 MeetsSeq3 SeqRoads2
section
variable {prog : Program} {w : World} {A : Around} {R : Result → Shared → Prop}
theorem ne_loopG (l b : Addr) (N : Nat) (I : Nat → Shared → Prop) (hl : GQ.ListI prog w A (fun e s' => R (.error e) s') l b N I)
    (fin : ∀ s, I N s → R (.ok (.ret (.bool false))) s) (k : Nat) :
    ∀ i : Nat, N - i = k → i ≤ N → ∀ s, I i s →
      wpAny (model prog w) A.in1 (Builtin.«list.__eq__.loop» ⟨[.ref l, .ref b, rawInt i, rawInt 3], []⟩) (GQ.FinOf prog w A R) (fun e s' => R (.error e) s') s := by
  induction k with
  | zero =>
    intro i hk hi s h
    obtain ⟨items, items2, n, n2, hl1, hb1, hs1, hs2, _⟩ := hl _ _ h
    have hi' : i = N := by omega
    have hR : R (.ok (.ret (.bool false))) s := fin s (hi' ▸ h)
    obtain ⟨hp, g, d, tk, os⟩ := s
    wp_walk using wpAny_loadPart' hl1, wpAny_loadPart' hb1
    have hi1 : items[((i : Nat) : Int).toNat]? = none := by simp; omega
    have hi2 : items2[((i : Nat) : Int).toNat]? = none := by simp; omega
    rw [hi1, hi2]
    wp_walk using wpAny_loadPart' hl1, wpAny_loadPart' hb1
    show R (.ok (.ret (.bool (items.size != items2.size)))) _
    rw [hs1, hs2]
    simpa using hR
  | succ k ih =>
    intro i hk hi s h
    obtain ⟨items, items2, n, n2, hl1, hb1, hs1, hs2, turn⟩ := hl _ _ h
    have hlt : i < items.size := by omega
    have hlt2 : i < items2.size := by omega
    have ht := turn hlt hlt2
    obtain ⟨hp, g, d, tk, os⟩ := s
    wp_walk using wpAny_loadPart' hl1, wpAny_loadPart' hb1
    have hi1 : items[((i : Nat) : Int).toNat]? = some items[i] := by simp [hlt]
    have hi2 : items2[((i : Nat) : Int).toNat]? = some items2[i] := by simp [hlt2]
    have hc : ((i : Int) + 1) = ((i + 1 : Nat) : Int) := by omega
    rw [hi1, hi2]
    refine wpAny_bind (wpAny_mono ht (fun r s2 h2 => ?_) fun _ _ x => x)
    obtain ⟨hr, h2⟩ := h2
    subst hr
    have hrec := ih (i + 1) (by omega) (by omega) s2 h2
    obtain ⟨hp2, g2, d2, tk2, os2⟩ := s2
    wp_walk
    rw [hc]
    exact ⟨plainId_quiet plain_eq_loop _, codeAny_builtin entry_eq_loop (by
      rw [Around.under_plainId plain_eq_loop _]
      exact hrec)⟩
theorem list_neG (l b : Addr) (N : Nat) (I : Nat → Shared → Prop) (hl : GQ.ListI prog w A (fun e s' => R (.error e) s') l b N I)
    (fin : ∀ s, I N s → R (.ok (.ret (.bool false))) s) {s : Shared} (h : I 0 s) :
    wpAny (model prog w) A.in1 (Builtin.«list.__ne__» ⟨[.ref l, .ref b], []⟩) (GQ.FinOf prog w A R) (fun e s' => R (.error e) s') s := by
  obtain ⟨items, items2, n, n2, hl1, hb1, hs1, hs2, _⟩ := hl _ _ h
  have hrec := ne_loopG (A := A) (R := R) l b N I hl fin _ 0 rfl (Nat.zero_le _) s h
  obtain ⟨hp, g, d, tk, os⟩ := s
  have f3 := AutoSeq1.sub_list_list
  have hne : ¬ (items.size != items2.size) = true := by simp [hs1, hs2]
  wp_walk using wpAny_loadPart' hl1, wpAny_loadPart' hb1
  exact ⟨plainId_quiet plain_eq_loop _, codeAny_builtin entry_eq_loop (by
    rw [Around.under_plainId plain_eq_loop _]
    exact hrec)⟩
end
section
variable {prog : Program} {w : World} {A : Around} {E : Value → Shared → Prop} {s : Shared}
theorem rc {l b : Addr} {N : Nat} {Q : Value → Shared → Prop} (hu : A.units < cLine) (I : Nat → Shared → Prop) (hl : GQ.ListI prog w A E l b N I)
    (fin : ∀ s, I N s → Q (.bool false) s) (h : I 0 s) : wpAny (model prog w) A (richCompare .NotEq (.ref l) (.ref b)) Q E s := by
  obtain ⟨items, items2, n, n2, hl1, hb1, _, _, _⟩ := hl _ _ h
  refine wpAny_richCompare_same_room (op := .NotEq) ⟨_, hl1, rfl⟩ ⟨_, hb1, rfl⟩ F.slot_list_ne (GQ.call_here F.slot_list_ne ⟨_, hl1, rfl⟩ F.entry_list_ne (F.args_list_ne_2 _ _) ?_) hu
  exact list_neG (R := wants (fun v s' => v ≠ .notImplemented ∧ Q v s') E) l b N I hl (fun s' q => ⟨(fun x => nomatch x), fin s' q⟩) h
end
section
variable {prog : Program} {w : World} {A : Around} {E : Value → Shared → Prop} {s : Shared} {l : Addr} {xs : Array (Int × Tok)}
theorem sum_tup {Q : Value → Shared → Prop} (hh : A.handled = none) (hl : s.heap.IsTuple l (intItems xs))
    (h : ∀ h' tk t', (∀ b o, s.heap.get? b = some o → h'.get? b = some o) → Q (.int (preSum (numAt xs) xs.size) t') { s with heap := h', toks := tk }) :
    wpAny (model prog w) A (call (.builtin "sum") [.ref l]) Q E s := by
  have hlt : l < s.heap.objs.size := by obtain ⟨_, e, _⟩ := hl; exact Heap.lt_size e
  refine call_sum_walkG (wpAny_pyIter_tuple hl ?_)
  refine ⟨_, _, _, _, _, _, numAt xs, rfl, Walks.tuple (A := A.in1) hh _ l (Nat.ne_of_lt hlt) (intItems xs), ⟨⟨_, Heap.get?_push_size _ rfl, rfl, rfl⟩, hl.push _⟩, fun b hb => ?_, (fun _ _ => intItems_at), fun h' tk t' hk => ?_⟩
  · show b < (s.heap.push _).objs.size
    rw [Heap.size_push]
    rcases List.mem_cons.mp hb with rfl | hb
    · exact Nat.lt_succ_self _
    · rcases List.mem_cons.mp hb with rfl | hb
      · exact Nat.lt_succ_of_lt hlt
      · cases hb
  · have hold : ∀ b o, s.heap.get? b = some o → h'.get? b = some o := fun b o e => by
      refine hk b o (fun hm => ?_) (Heap.get?_push_of_some _ e)
      rcases List.mem_cons.mp hm with e1 | hm
      · exact absurd (e1 ▸ Heap.lt_size e) (Nat.lt_irrefl _)
      · cases hm
    have := h h' tk t' hold
    simpa [intItems] using this
theorem sum_tup_raw {its : List Value} {ns : List Int} {Q : Value → Shared → Prop} (hh : A.handled = none) (hl : s.heap.IsTuple l its.toArray) (hi : PyProof.Rows.IntsAre its ns)
    (h : ∀ h' tk t', (∀ b o, s.heap.get? b = some o → h'.get? b = some o) → Q (.int ns.sum t') { s with heap := h', toks := tk }) : wpAny (model prog w) A (call (.builtin "sum") [.ref l]) Q E s := by
  obtain ⟨xs, e⟩ := hi.allInts.items
  have hn : numsOf (intItems xs).toList = ns := by rw [← e]; exact hi.numsOf
  rw [nums_intItems] at hn
  rw [e] at hl
  refine sum_tup hh hl fun h' tk t' hk => ?_
  have := h h' tk t' hk
  rw [preSum_eq, List.take_of_length_le (by simp), hn]; exact this
end
end NeL
namespace Gd
open PySem PySem.Spec PyProof.Rows L2
open PySem.SeqAt (EqAt)
/-- x != y of two lists, item by item equal -/
def rNeL (D : Eqv) : R2 := fun x y H Q => DList D x y H ∧ ∀ H', L2.Ext H H' → Q (.bl false) H'
theorem op_neL {X : Cx} {n : Nat} {D : Eqv} (hD : Mon D) (h : EqG X n D) (hr : Room (n + 1) X.A) : OpR X (compareOp .NotEq) (rNeL D) := by
  intro pins s σ H x y v u Q I rx ry hw
  obtain ⟨⟨a, b, xs, ys, rfl, rfl, ha, hb, p⟩, q⟩ := hw
  cases rx
  cases ry
  show wpAny (model X.prog X.w) X.A (richCompare .NotEq (.ref a) (.ref b)) (EP X pins σ Q) X.xe s
  refine NeL.rc (N := xs.length) hr.units0 (fun _ s' => LoopI X pins σ H s') (fun i s' q => ?_) (fun t z => ?_) ⟨H, I, L2.Ext.rfl'⟩
  · obtain ⟨H1, I1, e1⟩ := id q
    obtain ⟨z, its, k, r, e⟩ := I1.hok a _ (e1 _ _ ha)
    obtain ⟨z2, its2, k2, r2, e2⟩ := I1.hok b _ (e1 _ _ hb)
    refine ⟨its.toArray, its2.toArray, k, k2, e, e2, by rw [List.size_toArray, ← r.length], by rw [List.size_toArray, ← r2.length, ← p.1], fun h1 h2 => ?_⟩
    exact turnG hD h ⟨hr, rfl⟩ p r r2 i h1 h2 s' q
  · obtain ⟨H', I', e⟩ := z
    exact ⟨.bl false, H', I', rfl, q H' e⟩
section
variable {X : Cx}
/-- sum(t) of a tuple of ints -/
def rSumT (K : PySem.W.Frag) : List V → Hp → VK → Prop := fun vs H Q => ∃ (a : Addr) (ns : List Int), vs = [V.ref a] ∧ SqT K H a (ns.map V.int) ∧ Q (.int ns.sum) H
theorem cr_sumT (hc : X.calm = true) : CallR X (.builtin "sum") (rSumT X.K) := by
  intro pins s σ H vs us Q I r h
  obtain ⟨a, ns, rfl, hs, q⟩ := h
  obtain ⟨its, rv, hl, _⟩ := I.tuple hs
  rw [Vals.ref1 r]
  exact NeL.sum_tup_raw (I.ok.hd hc) hl (intsAre_of rv) fun h' tk t' hk => ⟨.int _, H, I.kept hk, ⟨_, rfl⟩, q⟩
/-- t.count(k) of a tuple of ints -/
def rCntT (K : PySem.W.Frag) : V → List V → Hp → VK → Prop := fun x xs H Q => ∃ (p : Addr) (ns : List Int) (k : Int), x = .ref p ∧ xs = [.int k] ∧ SqT K H p (ns.map V.int) ∧ Q (.int (ns.count k : Nat)) H
theorem mt_tcount : MtR X "tuple.count" (rCntT X.K) := by
  intro pins s σ H x xs v us Q I rx rxs h
  obtain ⟨p, ns, k, rfl, rfl, hs, q⟩ := h
  cases rx
  obtain ⟨u, rfl, ru⟩ := rxs.one
  obtain ⟨t, rfl⟩ := ru
  obtain ⟨its, rv, ⟨⟨cls, dd, data, sl⟩, ho, hc, n, hd⟩, hlen⟩ := I.tuple hs
  simp only at hc hd
  subst hc hd
  have hi := intsAre_of rv
  refine call_meets PySem.F.slot_tuple_count ⟨_, ho, rfl⟩ PySem.F.entry_tuple_count (PySem.F.args_tuple_count_2 _ _)
    (SeqAt.tuple_countAt p its.toArray n dd sl (.int k t) (eqk k)) ⟨ho, fun y hy => (eqk_gives hi y (by simpa using hy)).at _ _, ?_⟩
  have ec : its.toArray.toList.countP (eqk k) = ns.count k := eqk_count hi
  refine ⟨.int (ns.count k : Nat), H, I.tok _, ⟨s.toks, ?_⟩, q⟩
  show Value.int ((its.toArray.toList.countP (eqk k) : Nat) : Int) s.toks = Value.int ((ns.count k : Nat) : Int) s.toks
  rw [ec]
def pdata (ns : List Int) : List PyData := ns.map PyData.int
theorem pdp {K : PySem.W.Frag} {H : Hp} : ∀ ns : List Int, DpAll K H (ns.map V.int) (pdata ns)
  | [] => .nil
  | n :: r => .cons (.int n) (pdp r)
theorem play : ∀ ns : List Int, PyData.canLayAll0 (pdata ns) = true
  | [] => by simp [pdata, PyData.canLayAll0]
  | n :: r => by
    have := play r
    unfold pdata at this ⊢
    simp [PyData.canLayAll0, PyData.canLay0, this]
theorem peqv : ∀ ns ms : List Int, PyData.eqvAll (pdata ns) (pdata ms) = decide (ns = ms)
  | [], [] => by simp [pdata, PyData.eqvAll]
  | [], _ :: _ => by simp [pdata, PyData.eqvAll]
  | _ :: _, [] => by simp [pdata, PyData.eqvAll]
  | n :: r, m :: q => by
    have := peqv r q
    unfold pdata at this ⊢
    simp [PyData.eqvAll, PyData.eqv, this, Bool.decide_and]
    rfl
theorem lex_self : ∀ ns : List Int, HT.lexLt ns ns = false
  | [] => rfl
  | n :: r => by rw [HT.lexLt_cons, if_pos rfl]; exact lex_self r
/-- (i, t) < (j, u), ints and tuples of ints -/
def pairLt (i j : Int) (ns ms : List Int) : Bool := if i = j then HT.lexLt ns ms else decide (i < j)
def rLtP (K : PySem.W.Frag) : R2 := fun x y H Q => ∃ a b p q i j ns ms, x = .ref a ∧ y = .ref b ∧ SqT K H a [.int i, .ref p] ∧ SqT K H b [.int j, .ref q] ∧ SqT K H p (ns.map V.int) ∧ SqT K H q (ms.map V.int) ∧
  Q (.bl (pairLt i j ns ms)) H
theorem vals_ir {i : Int} {p : Addr} {us : List Value} (r : Vals [V.int i, V.ref p] us) : ∃ t, us = [Value.int i t, Value.ref p] := by
  cases r with
  | cons r t =>
    cases t with
    | cons r2 t2 =>
      cases t2
      obtain ⟨t, rfl⟩ := r
      cases r2
      exact ⟨t, rfl⟩
theorem eqAt_ints {pins : List (Addr × Obj)} {s : Shared} {σ : L2.St} {H : Hp} {A : Around} {p q : Addr} {ns ms : List Int} (I : Inv X pins σ H s) (hp : SqT X.K H p (ns.map V.int)) (hq : SqT X.K H q (ms.map V.int)) (hu : A.units + 64 < cLine) :
    EqAt A s (.ref p) (.ref q) (decide (ns = ms)) := by
  obtain ⟨as, r1⟩ := Dp.reads I (.tuple (pdata ns)) (.ref p) (.ref p) (.tup hp (pdp ns)) (show RelV (V.ref p) (Value.ref p) from rfl)
  obtain ⟨bs, r2⟩ := Dp.reads I (.tuple (pdata ms)) (.ref q) (.ref q) (.tup hq (pdp ms)) (show RelV (V.ref q) (Value.ref q) from rfl)
  have h := SeqAt.eqAt_reads _ _ A s _ _ _ _ r1 r2 (by simp [PyData.canLay0, play]) (by simp [PyData.canLay0, play]) (by
    have d : ∀ ns : List Int, PyData.depthAll (pdata ns) = 0 := fun ns => by
      induction ns with
      | nil => simp [pdata, PyData.depthAll]
      | cons n r ih =>
        unfold pdata at ih ⊢
        simp [PyData.depthAll, PyData.depth, ih]
    simp [PyData.depth, d]
    omega)
  simp only [PyData.eqv, peqv] at h
  exact h
theorem op_ltP (hu : X.A.units + 66 < cLine) : OpR X (compareOp .Lt) (rLtP X.K) := by
  intro pins s σ H x y v u Q I rx ry h
  obtain ⟨a, b, p, q, i, j, ns, ms, rfl, rfl, ha, hb, hp, hq, k⟩ := h
  cases rx
  cases ry
  obtain ⟨its, r1, p1, _⟩ := I.tuple ha
  obtain ⟨its2, r2, p2, _⟩ := I.tuple hb
  obtain ⟨t1, rfl⟩ := vals_ir r1
  obtain ⟨t2, rfl⟩ := vals_ir r2
  obtain ⟨us, v1, e1, _⟩ := I.tuple hp
  obtain ⟨vs, v2, e2, _⟩ := I.tuple hq
  have hA : X.A.in1.units + 64 < cLine := by
    show X.A.units + 1 + 64 < cLine
    omega
  have key := Ob.RcOp.tuples_lt (A := X.A) (s := s) (l := a) (b := b) (items := #[.int i t1, .ref p]) (items2 := #[.int j t2, .ref q]) (e := fun k => if k = 0 then decide (i = j) else decide (ns = ms)) (r := fun k => if k = 0 then decide (i < j) else HT.lexLt ns ms) p1 p2 (by omega)
    (fun k h1 h2 => ?_) (fun k h1 h2 hk => ?_)
  · refine key X.prog X.w X.xe _ ?_
    have e : Ob.lexAt (fun k => if k = 0 then decide (i = j) else decide (ns = ms)) (fun k => if k = 0 then decide (i < j) else HT.lexLt ns ms) (decide ((#[Value.int i t1, Value.ref p] : Array Value).size < (#[Value.int j t2, Value.ref q] : Array Value).size)) 0 (min (#[Value.int i t1, Value.ref p] : Array Value).size (#[Value.int j t2, Value.ref q] : Array Value).size) = pairLt i j ns ms := by
      show Ob.lexAt _ _ (decide (2 < 2)) 0 2 = _
      rw [Ob.lexAt_succ, Ob.lexAt_succ, Ob.lexAt_zero]
      unfold pairLt
      by_cases c1 : i = j
      · subst c1
        by_cases c2 : ns = ms
        · subst c2
          simp [lex_self]
        · simp [c2]
      · simp [c1]
    rw [e]
    exact ⟨.bl _, H, I, rfl, k⟩
  · match k, h1 with
    | 0, _ =>
      have := EqAt.int_int (A := X.A.in1) (s := s) i t1 j t2
      have e : (i == j) = decide (i = j) := rfl
      rw [e] at this
      simpa using this
    | 1, _ =>
      have := eqAt_ints I hp hq hA
      simpa using this
    | k + 2, h1 => exact absurd h1 (by simp)
  · match k, h1 with
    | 0, _ => exact Ob.RcOp.lt_int i j t1 t2
    | 1, _ =>
      intro prog w E Q' hQ
      exact HT.lt_tupInts e1 e2 (intsAre_of v1) (intsAre_of v2) (by omega) hQ
    | k + 2, h1 => exact absurd h1 (by simp)
end
end Gd
namespace Gd
open PySem PySem.Spec PyProof.Rows L2
/-- xs != [] -/
def rNeNil (K : PySem.W.Frag) : R2 := fun x y H Q => ∃ (a b : Addr) (xs : List V), x = .ref a ∧ y = .ref b ∧ SqL K H a xs ∧ SqL K H b [] ∧ Q (.bl (!xs.isEmpty)) H
theorem op_neNil {X : Cx} (hu : X.A.units < cLine) : OpR X (compareOp .NotEq) (rNeNil X.K) := by
  intro pins s σ H x y v u Q I rx ry h
  obtain ⟨a, b, xs, rfl, rfl, ha, hb, q⟩ := h
  cases rx
  cases ry
  obtain ⟨its, r1, p1, _⟩ := I.list ha
  obtain ⟨its2, r2, p2, _⟩ := I.list hb
  cases r2
  cases r1 with
  | nil => exact PySem.SeqAt.RcNeAt.lists (e := fun _ => true) p1.isList p2.isList rfl hu (fun j h1 _ => absurd h1 (Nat.not_lt_zero _)) _ _ _ _ ⟨.bl false, H, I, rfl, q⟩
  | cons r t => exact PySem.SeqAt.RcNeAt.lists_lengths p1.isList p2.isList rfl hu _ _ _ _ ⟨.bl true, H, I, rfl, q⟩
end Gd

set_option Elab.async false
set_option linter.all false
set_option maxRecDepth 100000
set_option maxHeartbeats 4000000
/-! Tuples of which it is known that they have no dict: so their methods can be called. -/
namespace Gd
open PySem PySem.Spec PyProof.Rows L2
def TupX (K : PySem.W.Frag) (H : Hp) (a : Addr) (xs : List V) : Prop := (∃ o : Obj, H a = some (.frz o (.tup xs)) ∧ o.dict = none) ∨
  ∃ (o : Obj) (its : Array Value) (n : Nat), K.lookup a = some o ∧ o.cls = .type "tuple" ∧ o.dict = none ∧ o.data = .seq its n ∧ its.size ≤ sizeLine ∧ Vals xs its.toList
theorem TupX.sq {K : PySem.W.Frag} {H : Hp} {a : Addr} {xs : List V} (h : TupX K H a xs) : SqT K H a xs := by
  rcases h with ⟨o, h, _⟩ | ⟨o, its, n, h, c, _, r⟩
  · exact .inl (.inr ⟨o, h⟩)
  · exact .inr ⟨o, its, n, h, c, r⟩
theorem TupX.ext {K : PySem.W.Frag} {H H' : Hp} {a : Addr} {xs : List V} (e : ∀ b o, H b = some o → H' b = some o) (h : TupX K H a xs) : TupX K H' a xs := by
  rcases h with ⟨o, h, d⟩ | h
  · exact .inl ⟨o, e _ _ h, d⟩
  · exact .inr h
theorem TupX.new {K : PySem.W.Frag} {H : Hp} {p : Addr} {xs : List V} {o : Obj} (d : o.dict = none) : TupX K (upd H p (.frz o (.tup xs))) p xs := .inl ⟨o, upd_same, d⟩
section
variable {X : Cx} {pins : List (Addr × Obj)} {σ : L2.St} {H : Hp} {s : Shared}
theorem TupX.is {a : Addr} {xs : List V} (I : Inv X pins σ H s) (h : TupX X.K H a xs) : s.TypeIs (.ref a) "tuple" ∧ ∀ b, Value.ref a = .ref b → ∃ ob, s.heap.get? b = some ob ∧ ob.dict = none := by
  rcases h with ⟨o, h, d⟩ | ⟨o, its, n, h, c, d, _⟩
  · obtain ⟨e, _, its, _, ob, e2, c, _⟩ := I.hok a _ h
    rw [e] at e2
    cases e2
    exact ⟨⟨o, e, c⟩, fun b z => by cases z; exact ⟨o, e, d⟩⟩
  · exact ⟨⟨o, I.kIn _ o h, c⟩, fun b z => by cases z; exact ⟨o, I.kIn _ o h, d⟩⟩
/-- t.m(..) of such a tuple -/
def tBMT (K : PySem.W.Frag) (r : V → List V → Hp → VK → Prop) (to : TE) (t : TA) : TE := fun σ H Q => to σ H fun x H1 => (∃ a xs, x = .ref a ∧ TupX K H1 a xs) ∧ t σ H1 fun xs H2 => r x xs H2 Q
theorem pe_bmT {o e : Expr} {es : List Expr} {to : TE} {t : TA} {name : Str} {apos cpos : Pos} {id : String} {r : V → List V → Hp → VK → Prop} (pa : PlainAttrs "tuple") (slot : Slot "tuple" name id) (hty : typeOf (.builtin id) = pure (.type "method_descriptor")) (hm : MtR X id r) (ho : PE X o to) (ha : PA X (e :: es) t)
    (hbase : attributeBase o name X.env (eval o X.env) = eval o X.env := by rfl)
    (hfew : ((backTo cpos (starEach (e :: es) X.env)).all (fun x => !x.1) && (backToKw cpos (keywordEach [] X.env)).all (fun x => x.1.isSome)
      && decide ((e :: es).length + ([] : List Keyword).length + (if ([] : List Keyword).isEmpty then 0 else 1) < 30)) = true := by rfl)
    (hline : (apos.endLine == cpos.line) = true := by rfl) (hs : starEach (e :: es) X.env = (false, eval e X.env) :: starEach es X.env := by rfl) (hplain : (backTo cpos (starEach es X.env)).any (·.1) = false := by rfl) :
    PE X (.Call (.Attribute o name apos) (e :: es) [] cpos) (tBMT X.K r to t) := by
  refine ⟨fun pins s σ H Q I h => ?_⟩
  refine wpAny_Call_method_late hbase hfew hline rfl (thn (ho.run pins s σ H _ I h) fun v s1 ⟨x, H1, I1, r1, ⟨a, xs, ex, hx⟩, q1⟩ => ?_)
  subst ex
  cases r1
  obtain ⟨h1, h2⟩ := TupX.is I1 hx
  refine ⟨"tuple", id, pa, slot, hty, h1, h2, ?_⟩
  have hA := ha.run cpos pins s1 σ H1 _ I1 q1
  rw [hs] at hA ⊢
  refine Calls.callWith_builtin (by show (false || (backTo cpos (starEach es X.env)).any (·.1)) = false; rw [hplain] <;> rfl) (Calls.evalArgs_plain ?_)
  exact thn hA fun us s2 ⟨vs, H2, I2, r2, q2⟩ => hm pins s2 σ H2 (.ref a) vs (.ref a) us Q I2 rfl r2 q2
/-! making them -/
def tTupX (t : TA) : TE := fun σ H Q => t σ H fun xs H1 => xs.length ≤ sizeLine ∧ ∀ p o, H1 p = none → o.dict = none → Q (.ref p) (upd H1 p (.frz o (.tup xs)))
theorem pe_tupX {es : List Expr} {t : TA} {pos : Pos} {x1} (h : PA X es t) : PE X (.Tuple es x1 pos) (tTupX t) := by
  refine ⟨fun pins s σ H Q I hq => ?_⟩
  refine wpAny_Tuple_spliced (thn (h.run pos pins s σ H _ I hq) fun us s1 ⟨xs, H1, I1, r, z, q⟩ => ⟨by rw [← r.length]; exact z, ?_⟩)
  have hf : H1 s1.heap.objs.size = none := I1.hok.fresh (Nat.le_refl _)
  refine ⟨.ref s1.heap.objs.size, upd H1 s1.heap.objs.size (.frz { cls := .type "tuple", data := .seq us.toArray } (.tup xs)), I1.laid (t' := s1.toks) (fun b u e => Heap.get?_push_of_some _ e) (Nat.le_refl _) ?_, rfl, q _ _ hf rfl⟩
  exact ⟨Heap.get?_push_size _ rfl, z, us, r, ⟨_, Heap.get?_push_size _ rfl, rfl, _, rfl⟩⟩
def rTupX (K : PySem.W.Frag) : List V → Hp → VK → Prop := fun xs H Q => ∃ p ys, xs = [.ref p] ∧ ((SqL K H p ys ∧ ∀ l o, H l = none → o.dict = none → Q (.ref l) (upd H l (.frz o (.tup ys)))) ∨ (SqT K H p ys ∧ Q (.ref p) H))
theorem call_tupX : CallR X (.type "tuple") (rTupX X.K) := by
  intro pins s σ H xs us Q I r h
  obtain ⟨p, ys, rfl, h⟩ := h
  obtain ⟨u, rfl, rx⟩ := vals1 r
  cases rx
  rcases h with ⟨hq, q⟩ | ⟨hq, q⟩
  · obtain ⟨its, r', pl, hz⟩ := I.list hq
    have hlen := r'.length
    refine call_tuple_list pl.isList (fun h' kp => ?_) (by simp only [List.size_toArray] <;> omega)
    have I1 : Inv X pins σ H { s with heap := h' } := I.kept (t' := s.toks) kp
    have I2 : Inv X pins σ (upd H h'.objs.size (.frz { cls := .type "tuple", data := .seq its.toArray } (.tup ys))) { s with heap := h'.push { cls := .type "tuple", data := .seq its.toArray } } :=
      I1.laid (t' := s.toks) (fun b o e => Heap.get?_push_of_some _ e) (Nat.le_refl _) (show ObjOk X.prog X.w _ _ _ (.frz _ (.tup ys)) from ⟨Heap.get?_push_size _ rfl, hz, its, r', IsTup.new _ _⟩)
    exact ⟨.ref h'.objs.size, _, I2, rfl, q _ _ (I1.hok.fresh (Nat.le_refl _)) rfl⟩
  · obtain ⟨its, r', pl, hz⟩ := I.tuple hq
    exact call_tuple_same pl ⟨.ref p, H, I, rfl, q⟩
def rCatX (K : PySem.W.Frag) : R2 := fun x y H Q => ∃ a b xs ys, x = .ref a ∧ y = .ref b ∧ TupX K H a xs ∧ TupX K H b ys ∧ xs.length + ys.length ≤ sizeLine ∧ ∀ H' p, L2.Ext H H' → TupX K H' p (xs ++ ys) → Q (.ref p) H'
theorem op_catX : OpR X (binaryOp .Add) (rCatX X.K) := by
  intro pins s σ H x y v u Q I rx ry h
  obtain ⟨a, b, xs, ys, rfl, rfl, ha, hb, hz, q⟩ := h
  cases rx
  cases ry
  obtain ⟨its, r1, p1, _⟩ := I.tuple ha.sq
  obtain ⟨its2, r2, p2, _⟩ := I.tuple hb.sq
  by_cases hx : xs = []
  · subst hx
    cases r1
    exact cat_tup0 p1 p2 ⟨.ref b, H, I, rfl, q H b (fun _ _ z => z) hb⟩
  · refine HT.cat_tup p1 p2 (fun z => hx (r1.nil_iff.mp z)) (fun z => ⟨.ref a, H, I, rfl, q H a (fun _ _ z => z) (by rw [r2.nil_iff.mp z, List.append_nil]; exact ha)⟩) (fun z => ?_) (by rw [← r1.length, ← r2.length]; exact hz)
    refine ⟨.ref s.heap.objs.size, _, I.laid (t' := s.toks) (o := .frz { cls := .type "tuple", data := .seq (its ++ its2).toArray } (.tup (xs ++ ys))) (fun b ob q => Heap.get?_push_of_some _ q) (Nat.le_refl _) ?_, rfl, q _ _ ?_ (TupX.new rfl)⟩
    · exact ⟨Heap.get?_push_size _ rfl, by rw [List.length_append]; exact hz, _, r1.append r2, IsTup.new _ _⟩
    · intro b o q
      rw [upd_ne (ne_of_none q (I.hok.fresh (Nat.le_refl _)))]
      exact q
end
theorem g_tupX {t : TA} {σ : L2.St} {H : Hp} {Q : VK} (k : t σ H fun xs H1 => xs.length ≤ sizeLine ∧ ∀ p o, H1 p = none → o.dict = none → Q (.ref p) (upd H1 p (.frz o (.tup xs)))) : tTupX t σ H Q := k
theorem g_bmT {K : PySem.W.Frag} {r : V → List V → Hp → VK → Prop} {to : TE} {t : TA} {σ : L2.St} {H : Hp} {Q : VK} (k : to σ H fun x H1 => (∃ a xs, x = .ref a ∧ TupX K H1 a xs) ∧ t σ H1 fun xs H2 => r x xs H2 Q) : tBMT K r to t σ H Q := k
end Gd

set_option Elab.async false
set_option linter.all false
set_option maxRecDepth 100000
set_option maxHeartbeats 4000000
/-! A tuple many times. -/
namespace Gd
open PySem PySem.Spec PyProof.Rows L2
/-- t * k, t not empty, few values in all -/
def rRepB (K : PySem.W.Frag) : R2 := fun x y H Q => ∃ l k xs, x = .ref l ∧ y = .int k ∧ SqT K H l xs ∧ xs ≠ [] ∧ 0 ≤ k ∧ k ≤ 100000 ∧ xs.length ≤ 10 ∧
  (k = 1 → Q (.ref l) H) ∧ (k ≠ 1 → ∀ p, H p = none → Q (.ref p) (upd H p (.tup (List.replicate k.toNat xs).flatten)))
section
variable {X : Cx}
theorem op_repB : OpR X (binaryOp .Mult) (rRepB X.K) := by
  intro pins s σ H x y v u Q I rx ry h
  obtain ⟨l, k, xs, rfl, rfl, hT, hne, h1, h2, hz, q1, q2⟩ := h
  by_cases few : k ≤ 1
  · exact op_repA pins s σ H _ _ v u Q I rx ry ⟨l, k, xs, rfl, rfl, hT, hne, h1, by omega, by omega, q1, q2⟩
  have two : 2 ≤ k := by omega
  have q := q2 (by omega)
  clear q1 q2
  cases rx
  obtain ⟨t, rfl⟩ := ry
  obtain ⟨its, r, ⟨⟨cls, dd, data, sl⟩, ho, hc, n, hd⟩, hs⟩ := I.tuple hT
  simp only at hc hd
  subst hc hd
  have len : its.length = xs.length := r.length.symm
  have some_ : its.toArray.isEmpty = false := by
    cases its with
    | nil => exact absurd (List.eq_nil_of_length_eq_zero len.symm) hne
    | cons a b => rfl
  have sz : its.toArray.size = xs.length := by rw [List.size_toArray, len]
  have all_ : ((its.toArray.size : Nat) : Int) * k ≤ 1000000 := by
    rw [sz]
    have a1 : ((xs.length : Nat) : Int) * k ≤ 10 * k := Int.mul_le_mul_of_nonneg_right (by omega) (by omega)
    omega
  have many : k.toNat * xs.length ≤ 100000 * 10 := Nat.mul_le_mul (by omega) hz
  have flat_ : (List.replicate k.toNat its).flatten.length ≤ sizeLine := by
    rw [PyProof.Rows.lm_len_rep_flat, len, sizeLine_eq]
    omega
  have d0 : (decide (k < -(2 ^ 63)) || decide (k ≥ 2 ^ 63)) = false := by
    rw [decide_eq_false (by omega), decide_eq_false (by omega)]
    rfl
  have d1 : (its.toArray.isEmpty || k == 1) = false := by
    rw [some_, Bool.false_or]
    exact beq_eq_false_iff_ne.mpr (by omega)
  have d2 : (decide (k ≤ 0) || its.toArray.isEmpty) = false := by
    rw [some_, Bool.or_false]
    exact decide_eq_false (by omega)
  have d4 : Builtin.Tuple.tupleTooMany (((its.toArray.size : Nat) : Int) * k) = false := by
    unfold Builtin.Tuple.tupleTooMany
    rw [sizeLine_eq]
    exact decide_eq_false (by omega)
  have met := tuple_mulW l its.toArray n dd sl k t d0 d1 d2 (by omega) d4 (by rw [size_rep, List.size_toArray]; exact flat_)
  refine wpAny_binaryOp_repeat_ref (T := "tuple") (U := "int") (by decide) ⟨_, ho, rfl⟩ (fun s' => typeIs_int s' k t) noFill_tuple_mul F.fills_int_mul F.slot_int_rmul repeat_tuple F.slot_int_index.lookup
    (call_meets F.slot_int_rmul (typeIs_int s k t) F.entry_int_rmul (F.args_int_rmul_2 _ _) (int_rmul_tuple k t l its.toArray n dd sl)
      ⟨ho, rfl, ⟨_, ho, rfl⟩, call_meets F.slot_tuple_mul ⟨_, ho, rfl⟩ F.entry_tuple_mul (F.args_tuple_mul_2 _ _) met ⟨ho, ?_⟩⟩)
  rw [size_rep]
  refine ⟨.ref s.heap.objs.size, _, I.laid (t' := s.toks) (o := .tup (List.replicate k.toNat xs).flatten) (fun b ob q => Heap.get?_push_of_some _ q) (Nat.le_refl _) ?_, rfl, q _ (I.hok.fresh (Nat.le_refl _))⟩
  exact ⟨by rw [PyProof.Rows.lm_len_rep_flat, sizeLine_eq]; omega, _, r.rep k.toNat, IsTup.new _ _⟩
end
end Gd

set_option Elab.async false
set_option linter.all false
set_option maxRecDepth 100000
set_option maxHeartbeats 4000000
/-! Texts of polynomials: how they are written, and read again (mathematics, on code points). -/
namespace Q0
open PySem PySem.Spec PyProof.Rows L2 TL StrLaws
/-! ### writing -/
/-- a term without its sign -/
def tmL (m k : Nat) : List Nat := if k = 0 then numL m else (if m = 1 then [] else numL m) ++ 112 :: (if k = 1 then [] else 94 :: numL k)
def sgL (n : Int) : List Nat := if n < 0 then [45] else []
def wdL (t : Nat × Int) : List Nat := sgL t.2 ++ tmL t.2.natAbs t.1
def spL (n : Int) : List Nat := if n < 0 then [32, 45, 32] else [32, 43, 32]
def midL (t : Nat × Int) : List Nat := spL t.2 ++ tmL t.2.natAbs t.1
/-- the text of terms, the highest power first -/
def rwT : List (Nat × Int) → List Nat
  | [] => [48]
  | t :: r => wdL t ++ r.flatMap midL
/-- the terms of a row -/
def trs (ns : List Int) : List (Nat × Int) := ((List.range ns.length).reverse.filter fun k => !decide (ns.getD k 0 = 0)).map fun k => (k, ns.getD k 0)
def rowL (ns : List Int) : List Nat := rwT (trs ns)
/-! ### signs of a term -/
theorem num_chars {n c : Nat} (h : c ∈ numL n) : 48 ≤ c ∧ c ≤ 57 := by
  have := numL_digits n c h
  omega
theorem tm_chars {m k c : Nat} (h : c ∈ tmL m k) : (48 ≤ c ∧ c ≤ 57) ∨ c = 112 ∨ c = 94 := by
  unfold tmL at h
  split at h
  · exact .inl (num_chars h)
  · rcases List.mem_append.mp h with h | h
    · split at h
      · cases h
      · exact .inl (num_chars h)
    · rcases List.mem_cons.mp h with h | h
      · exact .inr (.inl h)
      · split at h
        · cases h
        · rcases List.mem_cons.mp h with h | h
          · exact .inr (.inr h)
          · exact .inl (num_chars h)
theorem tm_ne (m k : Nat) : tmL m k ≠ [] := by
  unfold tmL
  split
  · exact numL_ne m
  · exact List.append_ne_nil_of_right_ne_nil _ (List.cons_ne_nil _ _)
theorem tm_free {m k c : Nat} (h : c = 32 ∨ c = 45 ∨ c = 43) : c ∉ tmL m k := fun z => by
  have := tm_chars z
  omega
theorem wd_chars {t : Nat × Int} {c : Nat} (h : c ∈ wdL t) : (48 ≤ c ∧ c ≤ 57) ∨ c = 112 ∨ c = 94 ∨ c = 45 := by
  unfold wdL at h
  rcases List.mem_append.mp h with h | h
  · unfold sgL at h
    split at h
    · exact .inr (.inr (.inr (List.mem_singleton.mp h)))
    · cases h
  · rcases tm_chars h with h | h | h
    · exact .inl h
    · exact .inr (.inl h)
    · exact .inr (.inr (.inl h))
theorem wd_free (t : Nat × Int) : 32 ∉ wdL t := fun z => by
  have := wd_chars z
  omega
/-! ### replacing -/
theorem repl_word {y z : List Nat} {s : Nat} {S : List Nat} (hy : y = s :: S) : ∀ (w r : List Nat), s ∉ w → replL y z (w ++ r) = w ++ replL y z r
  | [], r, _ => rfl
  | c :: w, r, h => by
    have hc : c ≠ s := fun e => h (e ▸ List.mem_cons_self)
    rw [List.cons_append, replL_miss, repl_word hy w r fun z => h (List.mem_cons_of_mem _ z)]
    · rfl
    · rw [hy]
      intro e
      rw [List.length_cons, List.take_succ_cons] at e
      exact hc (List.cons.inj e).1
theorem repl_self {y z r : List Nat} (hy : y ≠ []) : replL y z (y ++ r) = z ++ replL y z r := by
  cases y with
  | nil => exact absurd rfl hy
  | cons a y =>
    rw [List.cons_append, replL_hit (List.cons_ne_nil _ _)]
    · rw [← List.cons_append, List.drop_left]
    · rw [← List.cons_append, List.take_left]
theorem tm_head (m k : Nat) : ∃ c l, tmL m k = c :: l ∧ c ≠ 32 ∧ c ≠ 45 ∧ c ≠ 43 := by
  cases h : tmL m k with
  | nil => exact absurd h (tm_ne m k)
  | cons c l =>
    have := tm_chars (m := m) (k := k) (c := c) (by rw [h]; exact List.mem_cons_self)
    exact ⟨c, l, rfl, by omega, by omega, by omega⟩
/-- behind the first replacement -/
def mid1 (t : Nat × Int) : List Nat := (if t.2 < 0 then [32, 45] else [32, 43, 32]) ++ tmL t.2.natAbs t.1
theorem repl_one : ∀ r : List (Nat × Int), replL [32, 45, 32] [32, 45] (r.flatMap midL) = r.flatMap mid1
  | [] => replL_nil
  | t :: r => by
    have ih := repl_one r
    obtain ⟨c, l, e, c1, c2, c3⟩ := tm_head t.2.natAbs t.1
    have hw : 32 ∉ tmL t.2.natAbs t.1 := tm_free (.inl rfl)
    rw [List.flatMap_cons, List.flatMap_cons, ← ih]
    unfold midL mid1 spL
    by_cases hn : t.2 < 0
    · rw [if_pos hn, if_pos hn, List.append_assoc, repl_self (by simp), repl_word rfl _ _ hw, List.append_assoc]
    · rw [if_neg hn, if_neg hn]
      show replL [32, 45, 32] [32, 45] (32 :: 43 :: 32 :: (tmL t.2.natAbs t.1 ++ r.flatMap fun t => _)) = 32 :: 43 :: 32 :: (tmL t.2.natAbs t.1 ++ _)
      rw [replL_miss (by simp), replL_miss (by simp), replL_miss (by rw [e]; simp; exact fun z => absurd z c2), repl_word rfl _ _ hw]
theorem repl_two : ∀ r : List (Nat × Int), replL [32, 43, 32] [32] (r.flatMap mid1) = r.flatMap fun t => 32 :: wdL t
  | [] => replL_nil
  | t :: r => by
    have ih := repl_two r
    obtain ⟨c, l, e, c1, c2, c3⟩ := tm_head t.2.natAbs t.1
    have hw : 32 ∉ tmL t.2.natAbs t.1 := tm_free (.inl rfl)
    rw [List.flatMap_cons, List.flatMap_cons, ← ih]
    unfold mid1 wdL sgL
    by_cases hn : t.2 < 0
    · rw [if_pos hn, if_pos hn]
      show replL [32, 43, 32] [32] (32 :: 45 :: (tmL t.2.natAbs t.1 ++ r.flatMap fun t => _)) = 32 :: 45 :: (tmL t.2.natAbs t.1 ++ _)
      rw [replL_miss (by simp), replL_miss (by simp), repl_word rfl _ _ hw]
    · rw [if_neg hn, if_neg hn, List.append_assoc, repl_self (by simp), repl_word rfl _ _ hw]
      rfl
theorem words_join : ∀ (t : Nat × Int) (r : List (Nat × Int)), wdL t ++ r.flatMap (fun t => 32 :: wdL t) = joinL [32] ((t :: r).map wdL)
  | t, [] => by
    show wdL t ++ [] = wdL t
    rw [List.append_nil]
  | t, s :: r => by
    show wdL t ++ (32 :: wdL s ++ r.flatMap fun t => 32 :: wdL t) = wdL t ++ ([32] ++ joinL [32] ((s :: r).map wdL))
    rw [← words_join s r]
    rfl
/-- the words of a text, as the program takes them -/
def wordsP (x : List Nat) : List (List Nat) := spl [32] 0 [] (replL [32, 43, 32] [32] (replL [32, 45, 32] [32, 45] x))
theorem words_row (ts : List (Nat × Int)) : wordsP (rwT ts) = if ts = [] then [[48]] else ts.map wdL := by
  cases ts with
  | nil => decide +kernel
  | cons t r =>
    rw [if_neg (List.cons_ne_nil _ _)]
    unfold wordsP rwT
    rw [repl_word rfl _ _ (wd_free t), repl_one, repl_word rfl _ _ (wd_free t), repl_two, words_join]
    refine spl_join (by simp) fun p hp => ?_
    obtain ⟨s, _, rfl⟩ := List.mem_map.mp hp
    exact wd_free s
/-! ### reading a word, as the program does -/
def isDg (l : List Nat) : Bool := !l.isEmpty && l.all fun c => decide (48 ≤ c) && decide (c ≤ 57)
def rdW (l : List Nat) : Option Int := if l.length ≤ 60 ∧ isDg l = true then some (NumText.digitsVal l : Nat) else none
def rpx (c : Nat) : List Nat → List Nat
  | [] => []
  | a :: r => if a = c then r else a :: r
def or1 (l : List Nat) : List Nat := if l = [] then [49] else l
def sgW (l : List Nat) (f : Option Int) : Option Int := if l.head? = some 45 then f.map fun v => -v else f
def rdT (l : List Nat) : Option Int × Option Int := match par [112] [] (rpx 45 l) with
  | none => (sgW l (rdW (or1 (rpx 45 l))), some 0)
  | some (d, q) => (sgW l (rdW (or1 d)), rdW (or1 (rpx 94 q)))
theorem dg_fold : ∀ (l : List Nat) (a : Nat), (l.all fun c => decide (48 ≤ c) && decide (c ≤ 57)) = true → l.foldl (fun acc c => acc * 10 + (c - 48)) a < (a + 1) * 10 ^ l.length
  | [], a, _ => by simp
  | c :: r, a, h => by
    rw [List.all_cons, Bool.and_eq_true, Bool.and_eq_true, decide_eq_true_eq, decide_eq_true_eq] at h
    have ih := dg_fold r (a * 10 + (c - 48)) h.2
    rw [List.foldl_cons, List.length_cons, Nat.pow_succ]
    refine Nat.lt_of_lt_of_le ih ?_
    rw [Nat.mul_comm (10 ^ r.length) 10, ← Nat.mul_assoc]
    exact Nat.mul_le_mul_right _ (by omega)
theorem dg_val_lt {l : List Nat} (h : isDg l = true) : NumText.digitsVal l < 10 ^ l.length := by
  unfold isDg at h
  rw [Bool.and_eq_true] at h
  have := dg_fold l 0 h.2
  rw [Nat.zero_add, Nat.one_mul] at this
  exact this
theorem dg_num (n : Nat) : isDg (numL n) = true := by
  unfold isDg
  rw [Bool.and_eq_true]
  refine ⟨?_, List.all_eq_true.mpr fun c hc => ?_⟩
  · cases h : numL n with
    | nil => exact absurd h (numL_ne n)
    | cons c r => rfl
  · have := num_chars hc
    simp
    omega
theorem rdW_num {n : Nat} (h : n < 10 ^ 60) : rdW (numL n) = some (n : Int) := by
  unfold rdW
  rw [if_pos ⟨numL_len (by decide) h, dg_num n⟩, numL_val]
theorem par_tm {m k : Nat} : par [112] [] (tmL m k) = if k = 0 then none else some (if m = 1 then [] else numL m, if k = 1 then [] else 94 :: numL k) := by
  unfold tmL
  split
  · exact par_none1 (numL_free (by omega))
  · have e := par_part1 (s := 112) (S := []) (p := if m = 1 then [] else numL m) (rest := if k = 1 then [] else 94 :: numL k) (acc := []) (by
      split
      · simp
      · exact numL_free (by omega))
    rw [List.nil_append] at e
    exact e
theorem rpx_wd (t : Nat × Int) : rpx 45 (wdL t) = tmL t.2.natAbs t.1 := by
  obtain ⟨c, l, e, c1, c2, c3⟩ := tm_head t.2.natAbs t.1
  unfold wdL sgL
  split
  · show rpx 45 (45 :: tmL _ _) = _
    rw [rpx, if_pos rfl]
  · rw [List.nil_append, e, rpx, if_neg c2]
theorem head_wd (t : Nat × Int) : (wdL t).head? = some 45 ↔ t.2 < 0 := by
  obtain ⟨c, l, e, c1, c2, c3⟩ := tm_head t.2.natAbs t.1
  unfold wdL sgL
  split
  · rename_i h
    exact ⟨fun _ => h, fun _ => rfl⟩
  · rename_i h
    rw [List.nil_append, e]
    exact ⟨fun z => absurd (Option.some.inj z) c2, fun z => absurd z h⟩
theorem sgW_wd {t : Nat × Int} : sgW (wdL t) (some (t.2.natAbs : Int)) = some t.2 := by
  unfold sgW
  by_cases h : t.2 < 0
  · rw [if_pos ((head_wd t).mpr h)]
    show some (-(t.2.natAbs : Int)) = _
    congr 1
    omega
  · rw [if_neg fun z => h ((head_wd t).mp z)]
    congr 1
    omega
theorem rdT_wd {t : Nat × Int} (h0 : t.2 ≠ 0) (h1 : t.2.natAbs < 10 ^ 60) (h2 : t.1 < 10 ^ 60) : rdT (wdL t) = (some t.2, some (t.1 : Int)) := by
  have d1 : rdW [49] = some 1 := by decide +kernel
  unfold rdT
  rw [rpx_wd, par_tm]
  by_cases hk : t.1 = 0
  · rw [if_pos hk]
    show (sgW (wdL t) (rdW (or1 (tmL t.2.natAbs t.1))), some 0) = _
    have e : tmL t.2.natAbs t.1 = numL t.2.natAbs := by unfold tmL; rw [if_pos hk]
    rw [e]
    unfold or1
    rw [if_neg (numL_ne _), rdW_num h1, sgW_wd, hk]
    rfl
  · rw [if_neg hk]
    show (sgW (wdL t) (rdW (or1 (if t.2.natAbs = 1 then [] else numL t.2.natAbs))), rdW (or1 (rpx 94 (if t.1 = 1 then [] else 94 :: numL t.1)))) = _
    have a : rdW (or1 (if t.2.natAbs = 1 then [] else numL t.2.natAbs)) = some (t.2.natAbs : Int) := by
      unfold or1
      split
      · rename_i e
        rw [if_pos rfl, d1, e]
        rfl
      · rw [if_neg (numL_ne _), rdW_num h1]
    have b : rdW (or1 (rpx 94 (if t.1 = 1 then [] else 94 :: numL t.1))) = some (t.1 : Int) := by
      unfold or1
      split
      · rename_i e
        rw [show rpx 94 [] = [] from rfl, if_pos rfl, d1, e]
        rfl
      · rw [rpx, if_pos rfl, if_neg (numL_ne _), rdW_num h2]
    rw [a, b, sgW_wd]
/-! ### a whole row -/
def rdR : List (List Nat) → List Int → Option (List Int)
  | [], R => some R
  | w :: ws, R => match rdT w with
    | (some f, some p) => if p < 400 then rdR ws (R.set p.toNat f) else none
    | _ => none
theorem getD_set {R : List Int} {i j : Nat} {f : Int} (h : i < R.length) : (R.set i f).getD j 0 = if j = i then f else R.getD j 0 := by
  rw [List.getD_eq_getElem?_getD, List.getElem?_set]
  by_cases e : i = j
  · subst e
    rw [if_pos rfl, if_pos h, if_pos rfl]
    rfl
  · rw [if_neg e, if_neg (Ne.symm e), List.getD_eq_getElem?_getD]
theorem rdR_terms (ns : List Int) : ∀ (ts : List (Nat × Int)) (R : List Int), (∀ t ∈ ts, t.2 = ns.getD t.1 0 ∧ t.2 ≠ 0 ∧ t.2.natAbs < 10 ^ 60 ∧ t.1 < 400) → R.length = 400 →
    ∃ R', rdR (ts.map wdL) R = some R' ∧ R'.length = 400 ∧ ∀ k : Nat, R'.getD k 0 = if k ∈ ts.map Prod.fst then ns.getD k 0 else R.getD k 0
  | [], R, _, hl => ⟨R, rfl, hl, fun k => by simp⟩
  | t :: ts, R, h, hl => by
    obtain ⟨h1, h2, h3, h4⟩ := h t List.mem_cons_self
    obtain ⟨R', e1, e2, e3⟩ := rdR_terms ns ts (R.set t.1 t.2) (fun s hs => h s (List.mem_cons_of_mem _ hs)) (by rw [List.length_set]; exact hl)
    refine ⟨R', ?_, e2, fun k => ?_⟩
    · rw [List.map_cons, rdR, rdT_wd h2 h3 (Nat.lt_trans h4 (by decide))]
      show (if (t.1 : Int) < 400 then rdR (ts.map wdL) (R.set (t.1 : Int).toNat t.2) else none) = _
      rw [if_pos (by omega), Int.toNat_natCast]
      exact e1
    · rw [e3, List.map_cons, getD_set (by omega)]
      by_cases a : k ∈ ts.map Prod.fst
      · rw [if_pos a, if_pos (List.mem_cons_of_mem _ a)]
      · rw [if_neg a]
        by_cases b : k = t.1
        · rw [if_pos b, if_pos (b ▸ List.mem_cons_self), h1, b]
        · rw [if_neg b, if_neg fun z => (List.mem_cons.mp z).elim b a]
/-! ### trimming -/
def trm : List Int → List Int
  | [] => []
  | x :: r => match trm r with
    | [] => if x = 0 then [] else [x]
    | y :: s => x :: y :: s
theorem trm_getD : ∀ (l : List Int) (k : Nat), (trm l).getD k 0 = l.getD k 0
  | [], k => rfl
  | x :: r, k => by
    have ih := trm_getD r
    rw [trm]
    cases h : trm r with
    | nil =>
      rw [h] at ih
      show (if x = 0 then ([] : List Int) else [x]).getD k 0 = _
      cases k with
      | zero =>
        split
        · rename_i e
          rw [e]
          rfl
        · rfl
      | succ k =>
        have := ih k
        rw [show (x :: r).getD (k + 1) 0 = r.getD k 0 from rfl, ← this]
        split <;> rfl
    | cons y s =>
      rw [h] at ih
      show (x :: y :: s).getD k 0 = _
      cases k with
      | zero => rfl
      | succ k => exact ih k
theorem trm_last : ∀ (l : List Int), trm l ≠ [] → (trm l).getD ((trm l).length - 1) 0 ≠ 0
  | [], h => absurd rfl h
  | x :: r, h => by
    have ih := trm_last r
    rw [trm] at h ⊢
    cases e : trm r with
    | nil =>
      rw [e] at h
      by_cases hx : x = 0
      · exact absurd (if_pos hx) h
      · show (if x = 0 then ([] : List Int) else [x]).getD ((if x = 0 then ([] : List Int) else [x]).length - 1) 0 ≠ 0
        rw [if_neg hx]
        exact hx
    | cons y s =>
      rw [e] at ih
      exact ih (List.cons_ne_nil _ _)
theorem trm_uniq {a b : List Int} (ha : a ≠ [] → a.getD (a.length - 1) 0 ≠ 0) (hb : b ≠ [] → b.getD (b.length - 1) 0 ≠ 0) (h : ∀ k : Nat, a.getD k 0 = b.getD k 0) : a = b := by
  have far : ∀ {l : List Int} {k : Nat}, l.length ≤ k → l.getD k 0 = 0 := fun {l k} z => by
    rw [List.getD_eq_getElem?_getD, List.getElem?_eq_none z]
    rfl
  have le : ∀ {a b : List Int}, (a ≠ [] → a.getD (a.length - 1) 0 ≠ 0) → (∀ k : Nat, a.getD k 0 = b.getD k 0) → a.length ≤ b.length := fun {a b} ha h => by
    cases a with
    | nil => exact Nat.zero_le _
    | cons x r =>
      have h1 := ha (List.cons_ne_nil _ _)
      by_cases hc : (x :: r).length ≤ b.length
      · exact hc
      · rw [h, far (by rw [List.length_cons] at hc ⊢; omega)] at h1
        exact absurd rfl h1
  have hl : a.length = b.length := Nat.le_antisymm (le ha h) (le hb fun k => (h k).symm)
  refine List.ext_getElem hl fun i h1 h2 => ?_
  have := h i
  rw [List.getD_eq_getElem?_getD, List.getD_eq_getElem?_getD, List.getElem?_eq_getElem h1, List.getElem?_eq_getElem h2] at this
  exact this
theorem trm_len : ∀ l : List Int, (trm l).length ≤ l.length
  | [] => Nat.le_refl _
  | x :: r => by
    have ih := trm_len r
    rw [trm]
    cases e : trm r with
    | nil =>
      show (if x = 0 then ([] : List Int) else [x]).length ≤ r.length + 1
      split <;> simp
    | cons y s =>
      rw [e] at ih
      show s.length + 1 + 1 ≤ r.length + 1
      exact Nat.succ_le_succ ih
theorem trm_mem : ∀ (l : List Int) (x : Int), x ∈ trm l → x ∈ l
  | [], x, h => h
  | y :: r, x, h => by
    have ih := trm_mem r x
    rw [trm] at h
    cases e : trm r with
    | nil =>
      rw [e] at h
      have h : x ∈ (if y = 0 then ([] : List Int) else [y]) := h
      split at h
      · cases h
      · exact List.mem_cons.mpr (.inl (List.mem_singleton.mp h))
    | cons z s =>
      rw [e] at h ih
      have h : x ∈ y :: z :: s := h
      rcases List.mem_cons.mp h with q | q
      · exact List.mem_cons.mpr (.inl q)
      · exact List.mem_cons_of_mem _ (ih q)
/-- a row that is a polynomial's -/
structure VR (ns : List Int) : Prop where
  len : ns.length ≤ 400
  big : ∀ n ∈ ns, n.natAbs < 10 ^ 60
  trim : ns ≠ [] → ns.getD (ns.length - 1) 0 ≠ 0
theorem VR.same {ns : List Int} (h : VR ns) {l : List Int} (e : ∀ k : Nat, l.getD k 0 = ns.getD k 0) : trm l = ns := trm_uniq (trm_last l) h.trim fun k => by rw [trm_getD, e]
theorem vr_trm {l : List Int} (h : l.length ≤ 400) (hb : ∀ n ∈ l, n.natAbs < 10 ^ 60) : VR (trm l) := ⟨Nat.le_trans (trm_len l) h, fun n hn => hb n (trm_mem l n hn), trm_last l⟩
theorem trs_mem {ns : List Int} {t : Nat × Int} (h : t ∈ trs ns) : t.1 < ns.length ∧ t.2 = ns.getD t.1 0 ∧ t.2 ≠ 0 := by
  unfold trs at h
  obtain ⟨k, hk, rfl⟩ := List.mem_map.mp h
  obtain ⟨h1, h2⟩ := List.mem_filter.mp hk
  have h1 := List.mem_range.mp (List.mem_reverse.mp h1)
  exact ⟨h1, rfl, by simpa using h2⟩
theorem trs_all {ns : List Int} {k : Nat} (h : ns.getD k 0 ≠ 0) : k ∈ (trs ns).map Prod.fst := by
  have hk : k < ns.length := by
    by_cases hc : k < ns.length
    · exact hc
    · rw [List.getD_eq_getElem?_getD, List.getElem?_eq_none (by omega)] at h
      exact absurd rfl h
  unfold trs
  rw [List.map_map]
  exact List.mem_map.mpr ⟨k, List.mem_filter.mpr ⟨List.mem_reverse.mpr (List.mem_range.mpr hk), by simpa using h⟩, rfl⟩
theorem getD_memI {ns : List Int} {k : Nat} (h : k < ns.length) : ns.getD k 0 ∈ ns := by
  rw [List.getD_eq_getElem?_getD, List.getElem?_eq_getElem h]
  exact List.getElem_mem h
/-- the program's reading gives the row back -/
theorem read_back {ns : List Int} (h : VR ns) : ∃ R, rdR (wordsP (rowL ns)) (List.replicate 400 0) = some R ∧ R.length = 400 ∧ trm R = ns := by
  have z0 : ∀ k : Nat, (List.replicate 400 (0 : Int)).getD k 0 = 0 := fun k => by
    rw [List.getD_eq_getElem?_getD, List.getElem?_replicate]
    split <;> rfl
  unfold rowL
  rw [words_row]
  by_cases he : trs ns = []
  · rw [if_pos he]
    have hz : ∀ k : Nat, ns.getD k 0 = 0 := fun k => by
      by_cases hc : ns.getD k 0 = 0
      · exact hc
      · have := trs_all hc
        rw [he] at this
        cases this
    have e0 : rdT [48] = (some 0, some 0) := by decide +kernel
    refine ⟨(List.replicate 400 0).set 0 0, ?_, by simp, h.same fun k => ?_⟩
    · rw [rdR, e0]
      rfl
    · rw [getD_set (by simp), hz, z0]
      split <;> rfl
  · rw [if_neg he]
    obtain ⟨R', e1, e2, e3⟩ := rdR_terms ns (trs ns) (List.replicate 400 0) (fun t ht => by
      obtain ⟨a, b, c⟩ := trs_mem ht
      refine ⟨b, c, ?_, Nat.lt_of_lt_of_le a h.len⟩
      rw [b]
      exact h.big _ (getD_memI a)) (by simp)
    refine ⟨R', e1, e2, h.same fun k => ?_⟩
    rw [e3]
    split
    · rfl
    · rename_i hk
      rw [z0]
      by_cases hc : ns.getD k 0 = 0
      · exact hc.symm
      · exact absurd (trs_all hc) hk
/-- what a reading gives is short -/
theorem rdW_big {l : List Nat} {v : Int} (h : rdW l = some v) : 0 ≤ v ∧ v.natAbs < 10 ^ 60 := by
  unfold rdW at h
  split at h
  · rename_i c
    cases h
    have : NumText.digitsVal l < 10 ^ l.length := dg_val_lt c.2
    have : 10 ^ l.length ≤ 10 ^ 60 := Nat.pow_le_pow_right (by decide) c.1
    exact ⟨Int.natCast_nonneg _, by rw [Int.natAbs_natCast]; omega⟩
  · cases h
end Q0

set_option Elab.async false
set_option linter.all false
set_option maxRecDepth 100000
set_option maxHeartbeats 4000000
/-! The law's way to take a text apart (mathematics, on code points). -/
namespace Q0
open PySem PySem.Spec PyProof.Rows L2 TL StrLaws
/-- every second one, from the first; from the second -/
def ev2 {α : Type} : List α → List α
  | [] => []
  | [a] => [a]
  | a :: _ :: r => a :: ev2 r
def od2 {α : Type} : List α → List α
  | [] => []
  | [_] => []
  | _ :: b :: r => b :: od2 r
theorem ev2_map {α β : Type} (f : α → β) : ∀ l : List α, ev2 (l.map f) = (ev2 l).map f
  | [] => rfl
  | [_] => rfl
  | a :: b :: r => by
    show f a :: ev2 (r.map f) = f a :: (ev2 r).map f
    rw [ev2_map f r]
theorem od2_map {α β : Type} (f : α → β) : ∀ l : List α, od2 (l.map f) = (od2 l).map f
  | [] => rfl
  | [_] => rfl
  | a :: b :: r => by
    show f b :: od2 (r.map f) = f b :: (od2 r).map f
    rw [od2_map f r]
theorem ev2_get {α : Type} : ∀ (l : List α) (i : Nat), (ev2 l)[i]? = l[2 * i]?
  | [], i => by simp [ev2]
  | [a], i => by
    cases i with
    | zero => rfl
    | succ i => simp [ev2]
  | a :: b :: r, i => by
    cases i with
    | zero => rfl
    | succ i =>
      rw [show 2 * (i + 1) = 2 * i + 1 + 1 by omega, List.getElem?_cons_succ, List.getElem?_cons_succ]
      exact ev2_get r i
theorem od2_get {α : Type} : ∀ (l : List α) (i : Nat), (od2 l)[i]? = l[2 * i + 1]?
  | [], i => by simp [od2]
  | [a], i => by simp [od2]
  | a :: b :: r, i => by
    cases i with
    | zero => rfl
    | succ i =>
      rw [show 2 * (i + 1) + 1 = (2 * i + 1) + 1 + 1 by omega, List.getElem?_cons_succ, List.getElem?_cons_succ]
      exact od2_get r i
theorem ev2_mem {α : Type} : ∀ (l : List α) (x : α), x ∈ ev2 l → x ∈ l
  | [], x, h => h
  | [a], x, h => h
  | a :: b :: r, x, h => by
    rcases List.mem_cons.mp h with h | h
    · exact List.mem_cons.mpr (.inl h)
    · exact List.mem_cons_of_mem _ (List.mem_cons_of_mem _ (ev2_mem r x h))
theorem od2_mem {α : Type} : ∀ (l : List α) (x : α), x ∈ od2 l → x ∈ l
  | [], x, h => h
  | [a], x, h => by cases h
  | a :: b :: r, x, h => by
    rcases List.mem_cons.mp h with h | h
    · exact List.mem_cons_of_mem _ (List.mem_cons.mpr (.inl h))
    · exact List.mem_cons_of_mem _ (List.mem_cons_of_mem _ (od2_mem r x h))
theorem ev_len {α : Type} : ∀ l : List α, (ev2 l).length ≤ l.length
  | [] => Nat.le_refl _
  | [_] => Nat.le_refl _
  | _ :: _ :: r => by
    have := ev_len r
    show (ev2 r).length + 1 ≤ r.length + 1 + 1
    omega
theorem od_len {α : Type} : ∀ l : List α, (od2 l).length ≤ l.length
  | [] => Nat.le_refl _
  | [_] => Nat.zero_le _
  | _ :: _ :: r => by
    have := od_len r
    show (od2 r).length + 1 ≤ r.length + 1 + 1
    omega
/-! ### the words -/
def sg2 (n : Int) : List Nat := if n < 0 then [45] else [43]
theorem spl_mid : ∀ (p : List Nat) (r : List (Nat × Int)), 32 ∉ p → spl [32] 0 [] (p ++ r.flatMap midL) = p :: r.flatMap fun t => [sg2 t.2, tmL t.2.natAbs t.1]
  | p, [], h => by
    show spl [32] 0 [] (p ++ []) = [p]
    rw [List.append_nil, spl_last1 h, List.nil_append]
  | p, t :: r, h => by
    have hw : 32 ∉ tmL t.2.natAbs t.1 := tm_free (.inl rfl)
    have hs : 32 ∉ sg2 t.2 := by
      unfold sg2
      split <;> decide
    have e : p ++ (t :: r).flatMap midL = p ++ ([32] ++ (sg2 t.2 ++ ([32] ++ (tmL t.2.natAbs t.1 ++ r.flatMap midL)))) := by
      rw [List.flatMap_cons]
      unfold midL spL sg2
      split <;> simp
    rw [e, spl_part1 (S := []) h, List.nil_append, spl_part1 (S := []) hs, List.nil_append, spl_mid _ r hw]
    rfl
/-- with a sign ahead -/
def signed : List (List Nat) → List (List Nat)
  | [] => []
  | w :: r => if w.take 1 = [45] then [45] :: w.drop 1 :: r else [43] :: w :: r
def wordsQ (x : List Nat) : List (List Nat) := signed (spl [32] 0 [] x)
theorem signed_wd (t : Nat × Int) (r : List (List Nat)) : signed (wdL t :: r) = sg2 t.2 :: tmL t.2.natAbs t.1 :: r := by
  obtain ⟨c, l, e, c1, c2, c3⟩ := tm_head t.2.natAbs t.1
  unfold signed wdL sgL sg2
  by_cases h : t.2 < 0
  · rw [if_pos h, if_pos h]
    exact if_pos (rfl : (45 :: tmL t.2.natAbs t.1).take 1 = [45])
  · rw [if_neg h, if_neg h, List.nil_append, e]
    exact if_neg (by simpa using c2)
theorem wordsQ_row (ts : List (Nat × Int)) : wordsQ (rwT ts) = if ts = [] then [[43], [48]] else ts.flatMap fun t => [sg2 t.2, tmL t.2.natAbs t.1] := by
  cases ts with
  | nil => decide +kernel
  | cons t r =>
    rw [if_neg (List.cons_ne_nil _ _)]
    unfold wordsQ rwT
    rw [spl_mid _ r (wd_free t), signed_wd]
    rfl
theorem ev_flat : ∀ ts : List (Nat × Int), ev2 (ts.flatMap fun t => [sg2 t.2, tmL t.2.natAbs t.1]) = ts.map fun t => sg2 t.2
  | [] => rfl
  | t :: r => by
    show sg2 t.2 :: ev2 (r.flatMap fun t => [sg2 t.2, tmL t.2.natAbs t.1]) = _
    rw [ev_flat r]
    rfl
theorem od_flat : ∀ ts : List (Nat × Int), od2 (ts.flatMap fun t => [sg2 t.2, tmL t.2.natAbs t.1]) = ts.map fun t => tmL t.2.natAbs t.1
  | [] => rfl
  | t :: r => by
    show tmL t.2.natAbs t.1 :: od2 (r.flatMap fun t => [sg2 t.2, tmL t.2.natAbs t.1]) = _
    rw [od_flat r]
    rfl
/-! ### a term -/
def ltD (l : List Nat) : Int := if isDg l = true ∧ l.length ≤ 62 then (NumText.digitsVal l : Nat) else -1
def ltP (q : List Nat) : Int := match q with
  | [] => 1
  | c :: r => if c = 94 then ltD r else -1
def ltE (f p : Int) : Int × Int := if 0 ≤ p ∧ p ≤ 399 then (f, p) else (-1, 0)
def ltT (l : List Nat) : Int × Int := match par [112] [] l with
  | none => ltE (ltD l) 0
  | some (d, q) => ltE (if d = [] then 1 else ltD d) (ltP q)
theorem ltD_num {n : Nat} (h : n < 10 ^ 60) : ltD (numL n) = (n : Int) := by
  unfold ltD
  have := numL_len (n := n) (k := 60) (by decide) h
  rw [if_pos ⟨dg_num n, by omega⟩, numL_val]
theorem ltT_tm {m k : Nat} (h1 : m < 10 ^ 60) (h2 : k ≤ 399) : ltT (tmL m k) = ((m : Int), (k : Int)) := by
  unfold ltT
  rw [par_tm]
  by_cases hk : k = 0
  · rw [if_pos hk]
    show ltE (ltD (tmL m k)) 0 = _
    have e : tmL m k = numL m := by unfold tmL; rw [if_pos hk]
    rw [e, ltD_num h1, hk]
    rfl
  · rw [if_neg hk]
    show ltE (if (if m = 1 then ([] : List Nat) else numL m) = [] then 1 else ltD (if m = 1 then [] else numL m)) (ltP (if k = 1 then [] else 94 :: numL k)) = _
    have a : (if (if m = 1 then ([] : List Nat) else numL m) = [] then 1 else ltD (if m = 1 then [] else numL m)) = (m : Int) := by
      by_cases e : m = 1
      · rw [if_pos e, if_pos rfl, e]
        rfl
      · rw [if_neg e, if_neg (numL_ne _), ltD_num h1]
    have b : ltP (if k = 1 then [] else 94 :: numL k) = (k : Int) := by
      by_cases e : k = 1
      · rw [if_pos e, e]
        rfl
      · rw [if_neg e]
        show (if 94 = 94 then ltD (numL k) else -1) = _
        rw [if_pos rfl, ltD_num (Nat.lt_of_le_of_lt h2 (by decide))]
    rw [a, b]
    unfold ltE
    rw [if_pos ⟨by omega, by omega⟩]
/-! ### a whole row -/
def ltR : List (List Nat × List Nat) → List Int → Option (List Int)
  | [], R => some R
  | (s, w) :: r, R => if (ltT w).1 < 0 then none else ltR r (R.set (ltT w).2.toNat (R.getD (ltT w).2.toNat 0 + if s = [43] then (ltT w).1 else 0 - (ltT w).1))
def okS (ws : List (List Nat)) : Bool := decide (ws.length / 2 * 2 = ws.length) && (ev2 ws).all fun s => decide (s = [43] ∨ s = [45])
def takenL (x : List Nat) : Option (List Int) := if okS (wordsQ x) = true then (ltR ((ev2 (wordsQ x)).zip (od2 (wordsQ x))) (List.replicate 400 0)).map trm else none
theorem ltR_terms (ns : List Int) : ∀ (ts : List (Nat × Int)) (R : List Int), (∀ t ∈ ts, t.2 = ns.getD t.1 0 ∧ t.2.natAbs < 10 ^ 60 ∧ t.1 < 400) → (ts.map Prod.fst).Nodup → R.length = 400 →
    ∃ R', ltR (ts.map fun t => (sg2 t.2, tmL t.2.natAbs t.1)) R = some R' ∧ R'.length = 400 ∧ ∀ k : Nat, R'.getD k 0 = R.getD k 0 + if k ∈ ts.map Prod.fst then ns.getD k 0 else 0
  | [], R, _, _, hl => ⟨R, rfl, hl, fun k => by simp⟩
  | t :: ts, R, h, hn, hl => by
    obtain ⟨h1, h3, h4⟩ := h t List.mem_cons_self
    rw [List.map_cons] at hn
    obtain ⟨n1, n2⟩ := List.nodup_cons.mp hn
    have hv : (if sg2 t.2 = [43] then ((t.2.natAbs : Nat) : Int) else 0 - ((t.2.natAbs : Nat) : Int)) = t.2 := by
      unfold sg2
      by_cases e : t.2 < 0
      · rw [if_pos e, if_neg (by decide)]
        omega
      · rw [if_neg e, if_pos rfl]
        omega
    obtain ⟨R', e1, e2, e3⟩ := ltR_terms ns ts (R.set t.1 (R.getD t.1 0 + t.2)) (fun s hs => h s (List.mem_cons_of_mem _ hs)) n2 (by rw [List.length_set]; exact hl)
    refine ⟨R', ?_, e2, fun k => ?_⟩
    · rw [List.map_cons, ltR, ltT_tm h3 (by omega)]
      show (if ((t.2.natAbs : Nat) : Int) < 0 then none else ltR _ (R.set ((t.1 : Nat) : Int).toNat (R.getD ((t.1 : Nat) : Int).toNat 0 + if sg2 t.2 = [43] then ((t.2.natAbs : Nat) : Int) else 0 - ((t.2.natAbs : Nat) : Int)))) = _
      rw [if_neg (by omega), Int.toNat_natCast, hv]
      exact e1
    · rw [e3, List.map_cons, getD_set (by omega)]
      by_cases b : k = t.1
      · subst b
        rw [if_pos rfl, if_neg n1, if_pos List.mem_cons_self, h1]
        omega
      · rw [if_neg b]
        by_cases a : k ∈ ts.map Prod.fst
        · rw [if_pos a, if_pos (List.mem_cons_of_mem _ a)]
        · rw [if_neg a, if_neg fun z => (List.mem_cons.mp z).elim b a]
theorem trs_nodup (ns : List Int) : ((trs ns).map Prod.fst).Nodup := by
  unfold trs
  rw [List.map_map]
  have e : (Prod.fst ∘ fun k : Nat => (k, ns.getD k 0)) = id := rfl
  rw [e, List.map_id]
  refine List.Pairwise.filter _ ?_
  rw [List.pairwise_reverse]
  exact List.Pairwise.imp (fun h => Ne.symm h) List.nodup_range
theorem zip_map2 {α β γ : Type} (f : α → β) (g : α → γ) : ∀ l : List α, (l.map f).zip (l.map g) = l.map fun x => (f x, g x)
  | [] => rfl
  | x :: r => by
    rw [List.map_cons, List.map_cons, List.zip_cons_cons, zip_map2 f g r]
    rfl
theorem flat_len : ∀ ts : List (Nat × Int), (ts.flatMap fun t => [sg2 t.2, tmL t.2.natAbs t.1]).length = 2 * ts.length
  | [] => rfl
  | t :: r => by
    have := flat_len r
    rw [List.flatMap_cons, List.length_append, this, List.length_cons]
    show 2 + 2 * r.length = 2 * (r.length + 1)
    omega
theorem taken_back {ns : List Int} (h : VR ns) : takenL (rowL ns) = some ns := by
  have z0 : ∀ k : Nat, (List.replicate 400 (0 : Int)).getD k 0 = 0 := fun k => by
    rw [List.getD_eq_getElem?_getD, List.getElem?_replicate]
    split <;> rfl
  unfold takenL rowL
  rw [wordsQ_row]
  by_cases he : trs ns = []
  · rw [if_pos he]
    have hz : ∀ k : Nat, ns.getD k 0 = 0 := fun k => by
      by_cases hc : ns.getD k 0 = 0
      · exact hc
      · have := trs_all hc
        rw [he] at this
        cases this
    have e1 : okS [[43], [48]] = true := by decide
    have e0 : ltT [48] = (0, 0) := by decide +kernel
    rw [if_pos e1]
    show Option.map trm (ltR [([43], [48])] (List.replicate 400 0)) = _
    rw [ltR, e0]
    show some (trm ((List.replicate 400 (0 : Int)).set 0 _)) = _
    congr 1
    refine h.same fun k => ?_
    show ((List.replicate 400 (0 : Int)).set 0 ((List.replicate 400 (0 : Int)).getD 0 0 + if ([43] : List Nat) = [43] then 0 else 0 - 0)).getD k 0 = _
    rw [getD_set (by simp), hz, z0, z0]
    split <;> simp
  · rw [if_neg he, ev_flat, od_flat]
    have hok : okS ((trs ns).flatMap fun t => [sg2 t.2, tmL t.2.natAbs t.1]) = true := by
      unfold okS
      rw [Bool.and_eq_true, ev_flat, flat_len]
      refine ⟨decide_eq_true (by omega), List.all_eq_true.mpr fun s hs => ?_⟩
      obtain ⟨t, _, rfl⟩ := List.mem_map.mp hs
      unfold sg2
      split <;> decide
    rw [if_pos hok, zip_map2]
    obtain ⟨R', e1, e2, e3⟩ := ltR_terms ns (trs ns) (List.replicate 400 0) (fun t ht => by
      obtain ⟨a, b, c⟩ := trs_mem ht
      refine ⟨b, ?_, Nat.lt_of_lt_of_le a h.len⟩
      rw [b]
      exact h.big _ (getD_memI a)) (trs_nodup ns) (by simp)
    rw [e1]
    show some (trm R') = _
    congr 1
    refine h.same fun k => ?_
    rw [e3, z0]
    split
    · omega
    · rename_i hk
      by_cases hc : ns.getD k 0 = 0
      · rw [hc]
        rfl
      · exact absurd (trs_all hc) hk
/-- what can be read is read by both as the same row -/
theorem rowL_inj {ns ms : List Int} (h1 : VR ns) (h2 : VR ms) (e : rowL ns = rowL ms) : ns = ms := by
  have a := taken_back h1
  rw [e, taken_back h2] at a
  exact (Option.some.inj a).symm
end Q0

set_option Elab.async false
set_option linter.all false
set_option maxRecDepth 100000
set_option maxHeartbeats 4000000
/-! A def whose code object is known. -/
namespace Gd
open PySem PySem.Spec PyProof.Rows L2
section
variable {P : Program} {w : World} {K : PySem.W.Frag} {mg : Str → Option Value} {base : Heap} {CX : CXT} {k : Nat}
  {f c : Addr} {fd : FuncData} {ps : List Str} {sp : Sp}
theorem fnGc {x qual : Str} {st : Stmt} {N : List Str} (F : Fun K x qual st f fd) (hc : fd.code = .ref c) (S : FnScope N ps (defScope st))
    (many : ∀ vs H Q E, sp vs H Q E → vs.length = ps.length)
    (body : ∀ (A : Around) (out : List Env) (s : Shared) (H : Hp) (vs : List V) (Q : VK) (E : XK),
      NoG A → Room k (A.deeper (envOfC qual (defScope st) s.heap.objs.size f (.ref c))) → sp vs H Q E →
      ∃ t, PSs (cxOf CX P w K mg base N qual (defScope st) f (.ref c) A out s H E) (defBody st) t ∧
        t { nx := fun _ H' => Q .non H', rt := Q } (start N vs) H) :
    FnG P w K mg base CX (k + 1) f fd ps sp := by
  obtain ⟨oc, od, kV, doc, pm, an, cdv, ct, osl, rfl, lk, hcd⟩ := F.ex
  obtain rfl : cdv = .ref c := hc
  refine ⟨many, ?_⟩
  intro A out s H ar us vs Q E hg hr e0 hb r hsp
  have hl := many vs H Q E hsp
  have KX : K.In s.heap := e0.mod.kin.keeps (fun b o e => (e0.bs b o e).1)
  have lim : s.heap.NoLimit := e0.mod.nolimit.keeps (fun b o e => (e0.bs b o e).1)
  have kinds : ∀ y ∈ ps.zip us, (defScope st).names.lookup y.1 = some .local ∨
      ((defScope st).names.lookup y.1 = some .cell ∧ ((cellsFrom (s.heap.objs.size + 1) (defScope st).names []).lookup y.1).isSome = true) := by
    rintro ⟨n, v⟩ hy
    rcases S.par n (List.of_mem_zip hy).1 with q | q
    · exact Or.inl q
    · exact Or.inr ⟨q, PySem.W.cellsFrom_some _ _ _ (Or.inl q)⟩
  refine codeAny_call_function hr.depth (KX _ _ lk) rfl S.co S.gen rfl
    (PySem.W.codeRec_of KX hcd) (hb _ _ _ _ ?_)
  refine wpAny_newFunctionEnv_cells S.kind kinds ?_
  intro env he s1 x
  cases he
  refine ⟨lim.keeps x.toInCall.keep, codeAny_func ?_⟩
  obtain ⟨t, ht, hq⟩ := body A out s H vs Q E hg (hr.deeper _) hsp
  have I := inv_start (CX := CX) (E := E) S hr.hd e0 hl r x
  refine wpAny_mono (ht.run [] s1 (start N vs) H _ I hq) ?_ (fun e s' hs => hs)
  intro fl s' hs
  have fin : ∀ {σ' : L2.St} {H' : Hp} {v : V} {u : Value},
      Inv (cxOf CX P w K mg base N qual (defScope st) f (.ref c) A out s H E) [] σ' H' s' →
      RelV v u → Q v H' → CE out P w H s Q u s' := by
    intro σ' H' v u J rv q
    exact ⟨v, H', J.os, J.bare, J.base, J.hok, rv, q⟩
  cases fl with
  | ret u =>
    obtain ⟨v, σ', H', J, rv, q⟩ := hs
    exact fin J rv q
  | next =>
    obtain ⟨σ', H', J, q⟩ := hs
    exact fin (v := V.non) (u := Value.none) J rfl q
  | brk =>
    obtain ⟨σ', H', J, q⟩ := hs
    exact False.elim q
  | cont =>
    obtain ⟨σ', H', J, q⟩ := hs
    exact False.elim q
end
end Gd

set_option Elab.async false
set_option linter.all false
set_option maxRecDepth 100000
set_option maxHeartbeats 4000000
/-! repr of any datum, its kind known only when it runs. -/
namespace Gd
open PySem PySem.Spec PyProof.Rows L2
/-- what repr gives of x -/
def ShowV (K : PySem.W.Frag) (H : Hp) (x : V) (t : Str) : Prop := (x = .non ∧ t = "None") ∨ (∃ b, x = .bl b ∧ t = if b = true then ("True" : Str) else ("False" : Str)) ∨ (∃ i : Int, x = .int i ∧ i.natAbs.log2 < 1920 ∧ t = toString i) ∨
  (∃ y : Str, x = .str y ∧ (reprText y).length ≤ sizeLine ∧ t = reprText y) ∨ ∃ a d, x = .ref a ∧ Dp K H (.ref a) d ∧ d.showable = true ∧ d.hasDict = false ∧ d.depth ≤ 60 ∧ d.shown.length ≤ sizeLine ∧ t = d.shown
def rReprV (K : PySem.W.Frag) : List V → Hp → VK → Prop := fun xs H Q => ∃ x t, xs = [x] ∧ ShowV K H x t ∧ Q (.str t) H
theorem call_reprV {X : Cx} (hg : NoG X.A) (hu : X.A.units + 64 < cLine) : CallR X (.builtin "repr") (rReprV X.K) := by
  intro pins s σ H xs us Q I r h
  obtain ⟨x, t, rfl, h, q⟩ := h
  obtain ⟨u, rfl, hu1⟩ := vals1 r
  rcases h with ⟨rfl, rfl⟩ | ⟨b, rfl, rfl⟩ | ⟨i, rfl, hi, rfl⟩ | ⟨y, rfl, hl, rfl⟩ | ⟨a, d, rfl, hd, h1, h2, h3, h4, rfl⟩
  · cases hu1
    exact PySem.P.repr_of_none ⟨.str _, H, I.tok _, ⟨_, rfl⟩, q⟩
  · cases hu1
    exact PySem.P.repr_of_bool ⟨.str _, H, I.tok _, ⟨_, rfl⟩, q⟩
  · obtain ⟨t, rfl⟩ := hu1
    exact PySem.P.repr_of_int hi ⟨.str _, H, I.tok _, ⟨_, rfl⟩, q⟩
  · obtain ⟨t, rfl⟩ := hu1
    exact PySem.P.repr_of_str ⟨.str _, H, I.tok _, ⟨_, rfl⟩, q⟩ hl
  · exact call_repr hg hu pins s σ H _ _ Q I (.cons hu1 .nil) ⟨a, d, rfl, hd, h1, h2, h3, h4, q⟩
end Gd

set_option Elab.async false
set_option linter.all false
set_option maxRecDepth 100000
set_option maxHeartbeats 4000000
/-! str(o) and {o} in an f-string by an own __str__. -/
namespace Gd
open PySem PySem.Spec PyProof.Rows L2
section
variable {X : Cx} {CX : CXT} {C f : Addr} {fd : FuncData} {k : Nat} {ps : List Str} {sp : Sp}
theorem strBack_of {pins : List (Addr × Obj)} {σ : L2.St} {Q : VK} {w : Value} {s' : Shared} (h : EP X pins σ (fun v H' => ∃ y : Str, v = .str y ∧ Q (.str y) H') w s') : PySem.W.StrBack (EP X pins σ Q) w s' := by
  obtain ⟨z, H', I', rz, y, rfl, q⟩ := h
  obtain ⟨t, rfl⟩ := rz
  exact ⟨.str y, H', I', ⟨t, rfl⟩, q⟩
/-- the callee runs, from two builtins that the body calls -/
theorem runAt2 {E : XK} {A : Around} (hA : A = X.A.in1 ∨ A = X.A.in1.in1) {pins : List (Addr × Obj)} {σ : L2.St} {H : Hp} {s : Shared} {Q : VK} {us : List Value} {vs : List V}
    (F : FnOk X.prog X.w X.K X.mg X.base CX k f fd ps sp) (hr : Room (k + 2) X.A) (hb : Binds X.K fd ps [])
    (hx : PassesAt CX X σ E) (I : Inv X pins σ H s) (r : Vals vs us) (h : sp vs H Q E) :
    wpAny (model X.prog X.w) A (call (.ref f) us) (EP X pins σ Q) X.xe s := by
  have hl : us.length = ps.length := by
    rw [← r.length]
    exact F.len _ H Q E h
  have room : Room k A := by
    rcases hA with rfl | rfl
    · exact (hr.mono (Nat.le_succ _)).in1
    · exact hr.in1.in1
  have env : Env0 X.prog X.w X.K X.mg X.base A X.stack s H := by
    rcases hA with rfl | rfl
    · exact I.env0.in1
    · exact I.env0.in1.in1
  have hbs := hb s us I.kIn (by rw [List.append_nil]; exact hl)
  rw [List.append_nil] at hbs
  refine wpAny_call (codeAny_mono (F.run A X.stack s H ⟨us, []⟩ us _ Q E room env hbs r h) ?_)
  intro r s' hq
  match r, hq with
  | .error e, hq => exact hx pins H s e s' I hq
  | .ok (.ret u), hq => exact I.after hq
  | .ok .next, hq => exact False.elim hq
  | .ok .brk, hq => exact False.elim hq
  | .ok .cont, hq => exact False.elim hq
def rStrO (C : Addr) (sp : Sp) (E : XK) : List V → Hp → VK → Prop := fun xs H Q => ∃ p dx fs, xs = [.ref p] ∧ H p = some (.ins C dx fs) ∧ sp [.ref p] H (fun v H' => ∃ y : Str, v = .str y ∧ Q (.str y) H') E
theorem call_strO {E : XK} (hm : Meth X.K C "__str__" f) (F : FnOk X.prog X.w X.K X.mg X.base CX k f fd ps sp) (hr : Room (k + 2) X.A) (hb : Binds X.K fd ps []) (hx : ∀ σ, PassesAt CX X σ E) : CallR X (.type "str") (rStrO C sp E) := by
  intro pins s σ H xs us Q I r h
  obtain ⟨p, dx, fs, rfl, ep, hsp⟩ := h
  obtain ⟨u, rfl, hu1⟩ := vals1 r
  cases hu1
  obtain ⟨od, J⟩ := seen I ep
  refine PySem.W.kso_call (by have := hr.un; show X.A.units + 2 < cLine; omega) I.kIn J hm.at_ hm.fn ?_
  exact wpAny_mono (runAt2 (.inr rfl) F hr hb (hx σ) I (.cons (show RelV (V.ref p) (Value.ref p) from rfl) .nil) hsp) (fun _ _ z => strBack_of z) (fun _ _ z => z)
/-- {o} -/
def tFmtO (C : Addr) (sp : Sp) (E : XK) (te : TE) : TE := fun σ H Q => te σ H fun x H1 => ∃ p dx fs, x = .ref p ∧ H1 p = some (.ins C dx fs) ∧ sp [.ref p] H1 (fun v H' => ∃ y : Str, v = .str y ∧ Q (.str y) H') E
theorem pe_fmtO {E : XK} {e : Expr} {te : TE} {pos : Pos} (hm : Meth X.K C "__str__" f) (hfm : PySem.W.findIn X.K (.ref C) "__format__" = some (some (.builtin "object.__format__"))) (hmr : PySem.W.mroIn X.K C (.type "object") = some true)
    (F : FnOk X.prog X.w X.K X.mg X.base CX k f fd ps sp) (hr : Room (k + 2) X.A) (hb : Binds X.K fd ps []) (hx : ∀ σ, PassesAt CX X σ E) (he : PE X e te) : PE X (.FormattedValue e (-1) none pos) (tFmtO C sp E te) := by
  refine ⟨fun pins s σ H Q I h => ?_⟩
  refine wpAny_FormattedValue_plain (thn (he.run pins s σ H _ I h) fun v s1 hv => ?_)
  obtain ⟨x, H1, I1, r1, p, dx, fs, rfl, ep, hsp⟩ := hv
  cases r1
  obtain ⟨od, J⟩ := seen I1 ep
  have I2 : Inv X pins σ H1 { s1 with toks := s1.toks + 1 } := I1.tok _
  refine PySem.W.kfo_fieldS (by have := hr.un; show X.A.units + 1 < cLine; omega) I1.kIn J hfm hmr hm.at_ hm.fn ?_
  exact wpAny_mono (runAt2 (.inl rfl) F hr hb (hx σ) I2 (.cons (show RelV (V.ref p) (Value.ref p) from rfl) .nil) hsp) (fun _ _ z => strBack_of z) (fun _ _ z => z)
end
end Gd

set_option Elab.async false
set_option linter.all false
set_option maxRecDepth 100000
set_option maxHeartbeats 4000000
namespace GdX
open PySem PySem.Calls PyProof.Rows PySem.HandSPX Builtin Builtin.ObjectAttr
section
variable {prog : Program} {w : World} {A : Around} {R : Result → Shared → Prop} {hp : Heap} {g : Array GenState} {d : Drawn} {t : Nat} {os : OsState}
theorem osaG2 {B : String} {bmB : List Value} (SF : StoreFacts B bmB "object.__setattr__" "object") {K : W.Frag} {name : Str} {tk : Tok} {v : Value} {x C D : Addr} {fv : Array Value} {cd : ClassData}
    (X : K.In hp) (hx : hp.get? x = some { cls := .ref C, data := .fields fv }) (hcd : W.clsIn K C = some cd)
    (hm : cd.mro = .ref C :: .ref D :: bmB) (hh : cd.hasDict = true) (ha : W.findIn K (.ref C) name = some none)
    (hq : ∀ h' tk' dx, (∀ b o, b ≠ x → hp.get? b = some o → h'.get? b = some o) → hp.objs.size ≤ dx → dx ≠ x →
      h'.get? x = some { cls := .ref C, dict := some dx, data := .fields fv } →
      h'.Ns1 dx (fun y => if y = name then some v else none) → R (.ok (.ret .none)) ⟨h', g, d, tk', os⟩) :
    codeAny (model prog w) A (.call (.builtin "object.__setattr__") ⟨[.ref x, .str name tk, v], []⟩) R ⟨hp, g, d, t, os⟩ := by
  have I : W.InstAt hp x { cls := .ref C, data := .fields fv } C none := ⟨hx, rfl, rfl, trivial⟩
  have ne : cd.mro.isEmpty = false := by rw [hm]; rfl
  have hob : cd.mro.contains (.type "object") = true := by
    rw [hm, List.contains_cons, List.contains_cons, SF.hasOwner, Bool.or_true, Bool.or_true]
  have hxs : x ≠ hp.objs.size := Nat.ne_of_lt (Heap.lt_size hx)
  have sub : W.Looks (model prog w) hp (isInstance (.ref x) (.type "object")) true := by
    refine I.type.andThen (W.looks_mroIn X ?_)
    unfold W.mroIn
    rw [hcd, Option.bind_some, if_neg (by rw [ne]; decide), hob]
  refine codeAny_call_builtin SF.slot.plain SF.entry (@W.check_slot (model prog w) _ _ ⟨hp, g, d, t, os⟩ "object.__setattr__" "object" "__setattr__" (.ref x) [.str name tk, v] [] _
    SF.kind SF.split sub (SF.args (.ref x) (.str name tk) v) ?_)
  have hmr : W.Looks (model prog w) hp (mroOf (.ref C)) cd.mro := (W.looks_clsIn X hcd).andThen .now
  have L3 : W.Looks (model prog w) hp (storeTaker? none) none := .now
  have hcls : W.Looks (model prog w) hp (classData C) cd := W.looks_clsIn X hcd
  rw [W.osa_eq, refuse_eq]
  refine wpAny_bind (wpAny_bind (I.type.at (wpAny_bind (hmr.at ?_))))
  rw [hm, refuseLoop_ref, refuseLoop_ref, SF.passes]
  refine wpAny_pure (wpAny_bind (I.type.at (wpAny_bind ((W.looks_findIn X ha).at (wpAny_bind (L3.at ?_))))))
  show wpAny _ _ (storeInOwnDict (.ref x) (.ref C) (.str name tk) name v false) _ _ _
  clear hmr hob ne sub hm
  obtain ⟨nm, bs, mro, ns, qn, hd, sn, sb, ab, col, del⟩ := cd
  have hh' : hd = true := hh
  subst hh'
  unfold storeInOwnDict ownDictForStores
  repeat (first
    | with_reducible refine store_in_new ?_ ?_
    | with_reducible refine wpAny_loadPart_at hx ?_
    | with_reducible refine hcls.at ?_
    | wp_step)
  · exact ⟨_, #[], _, (Heap.get?_update_ne _ _ _ _ hxs.symm).trans (Heap.get?_push_at rfl rfl), rfl, fun e he => absurd he (by simp), fun _ => rfl⟩
  · intro h' tk' hn' hs
    have hx₁ : (hp.push { cls := .type "dict", data := .dict #[] }).get? x = some { cls := .ref C, data := .fields fv } := Heap.get?_push_of_some _ hx
    refine hq h' tk' hp.objs.size (fun b o hb ho => ?_) (Nat.le_refl _) hxs.symm ?_ hn'
    · have far : b ≠ hp.objs.size := Nat.ne_of_lt (Heap.lt_size ho)
      exact (hs.2 b far).trans ((Heap.get?_update_ne _ _ _ _ hb).trans (Heap.get?_push_of_some _ ho))
    · exact (hs.2 x hxs).trans (Heap.get?_update_self _ hx₁ rfl)
end
end GdX
namespace PySem
namespace XParseError
open PySem.W PySem.Calls PyProof.Rows PySem.HandSPX
/-! ### the text of __init__ -/
def iA (p1 p2 : Pos) : Arguments := { posonlyargs := [], args := [{ arg := "self", annotation := none, pos := p1 }, { arg := "index", annotation := none, pos := p2 }], vararg := none, kwonlyargs := [], kw_defaults := [], kwarg := none, defaults := [] }
def iB (q1 q2 q3 q4 : Pos) : List Stmt := [.Assign [.Attribute (.Name "self" q1) "index" q2] (.Name "index" q3) q4]
def iS : Scope := { kind := .function, names := [(PySem.Str.ofString "self", .local), (PySem.Str.ofString "index", .local)], isGenerator := false, isCoroutine := false, more := [] }
/-- what the written part says of Low, at C, and of its __init__, at fI -/
structure ParseErrorTxt (K : Frag) (mg : Str → Option Value) (C fI : Addr) : Prop where
  gC : mg "ParseError" = some (.ref C)
  cls : ∃ CK nm q N bs sn sub ab col dd k0 k1 k2 k3 k5, K.lookup C = some (excClassObj nm q C N bs [.ref CK, .type "ValueError", .type "Exception", .type "BaseException", .type "object"] true sn sub ab col dd k0 k1 k2 k3 k5 "ValueError.__new__")
  sa : findIn K (.ref C) "__setattr__" = some (some (.builtin "object.__setattr__"))
  ga : findIn K (.ref C) "__getattribute__" = some (some (.builtin "BaseException.__getattribute__"))
  gg : findIn K (.ref C) "__getattr__" = some none
  noN : findIn K (.ref C) "index" = some none
  iC : findIn K (.ref C) "__init__" = some (some (.ref fI))
  tC : typeIn K (.ref fI) = some (.type "function")
  kC : keepIn K (.ref C) = true
  exC : subIn K (.ref C) (.type "BaseException") = some true
  tyC : typeIn K (.ref C) = some (.type "type")
  hdC : hasDictIn K C = true
  te : exmOne K (.ref C) (.ref C) = some true
  fn : ∃ (oc : Value) (od : Option Addr) (doc pm : Value) (an : Option Addr) (cdv ct : Value) (osl : Array (Option Value)) (p1 p2 q1 q2 q3 q4 : Pos),
    K.lookup fI = some ⟨oc, od, .func (fnOf "__init__" "ParseError.__init__" (iA p1 p2) (iB q1 q2 q3 q4) iS .none .none doc pm an cdv ct), osl⟩ ∧ codeIn K cdv "ParseError.__init__" = true
theorem one_size (v : Value) : [v].length ≤ sizeLine := by
  rw [sizeLine_eq]
  exact (by decide : 1 ≤ 16777216)
theorem kept_but {K : Frag} {h h' : Heap} {x : Addr} (X : K.In h) (hx : K.lookup x = none) (k : ∀ b o, b ≠ x → h.get? b = some o → h'.get? b = some o) : K.In h' := fun a o e =>
  k a o (fun z => by rw [z, hx] at e; cases e) (X a o e)
theorem ldC {M : Model} {s : Shared} {name : Str} {scope : Scope} {L a : Addr} {cd : Value} {m : Str → Option Value} {x : Str} {pos : Pos} {v : Value} {Q : Value → Shared → Prop} {A : Around} {E : Value → Shared → Prop} (hn : s.heap.Ns L m) (hv : m x = some v) (h : Q v s)
    (hk : scope.kind = .function := by rfl) (hl : (envOfC name scope L a cd).kindOf x = some .local := by rfl) (hd : (x == ("__debug__" : Str)) = false := by decide) :
    wpAny M A (eval (.Name x pos) (envOfC name scope L a cd)) Q E s := wpAny_Name (wpAny_loadName_local hk hl hn hv h) hd
/-- what __init__ leaves of a fresh exception at x -/
structure InitEnd (h h' : Heap) (x C dx t1 : Addr) (v : Value) : Prop where
  keep : ∀ b o, b ≠ x → h.get? b = some o → h'.get? b = some o
  obj : h'.get? x = some { cls := .ref C, dict := some dx, data := .fields #[.ref t1, .none, .none, .none, .bool false, .none] }
  dbig : h.objs.size ≤ dx
  dne : dx ≠ x
  ns : h'.Ns1 dx (fun y => if y = "index" then some v else none)
/-- a made Low -/
structure OwnMade (h h' : Heap) (e C d : Addr) (v : Value) : Prop where
  keep : ∀ b o, h.get? b = some o → h'.get? b = some o
  new : h.objs.size ≤ e
  obj : ∃ oe vs, h'.get? e = some oe ∧ oe.cls = .ref C ∧ oe.dict = some d ∧ oe.data = .fields vs ∧ vs[1]? = some .none
  dbig : h.objs.size ≤ d
  dne : d ≠ e
  ns : h'.Ns1 d (fun y => if y = "index" then some v else none)
section
variable {prog : Program} {w : World} {A : Around} {E : Value → Shared → Prop} {R : Result → Shared → Prop} {s : Shared} {K : Frag} {mg : Str → Option Value} {C fI : Addr}
theorem low_init (T : ParseErrorTxt K mg C fI) {x t0 : Addr} {v : Value} (X : K.In s.heap) (hlim : s.heap.NoLimit) (hx : s.heap.get? x = some (excO C t0)) (hnx : K.lookup x = none) (hroom : A.depth < recursionLimit)
    (hq : ∀ h' tk dx, InitEnd s.heap h' x C dx t0 v → R (.ok (.ret .none)) { s with heap := h', toks := tk }) :
    codeAny (model prog w) A (.call (.ref fI) ⟨[.ref x, v], []⟩) R s := by
  obtain ⟨oc, od, doc, pm, an, cdv, ct, osl, p1, p2, q1, q2, q3, q4, ho, hcd⟩ := T.fn
  obtain ⟨CK, nm, q, N, bs, sn, sub, ab, col, dd, k0, k1, k2, k3, k5, hC⟩ := T.cls
  have hcl : clsIn K C = some { name := nm, bases := bs, mro := .ref C :: [.ref CK, .type "ValueError", .type "Exception", .type "BaseException", .type "object"], ns := N, qualname := q, hasDict := true, slotNames := sn, subclasses := sub, abstract := ab, collection := col, hasDel := false } := by unfold clsIn; rw [hC] <;> rfl
  refine Att.call_fn (binds := [("self", .ref x), ("index", v)]) X hlim ho hcd hroom (BindsTo.of_eq (by first | rfl | with_unfolding_all rfl)) (by first | rfl | decide | with_unfolding_all rfl) (fun s₁ IC => ?_) rfl rfl rfl
  obtain ⟨h₁, tk₁, rfl⟩ := IC.toInCall.same
  have k : ∀ b o, s.heap.get? b = some o → h₁.get? b = some o := IC.toInCall.keep
  have hn := IC.toInCall.ns
  have hxL : s.heap.objs.size ≠ x := Nat.ne_of_gt (Heap.lt_size hx)
  have X₁ : K.In h₁ := X.keeps k
  have hx₁ := k _ _ hx
  -- self.by = by
  show wpAny _ _ (execs _ _) _ _ _
  refine wpAny_execs_cons (plainObj_wpAny_Assign_Attribute ?_)
  refine ldC (v := v) hn (by first | rfl | with_unfolding_all rfl | kernel_rfl) (ldC (v := .ref x) hn (by first | rfl | with_unfolding_all rfl | kernel_rfl) ?_)
  refine set_plain X₁ (ox := excO C t0) (od := none) ⟨hx₁, rfl, rfl, trivial⟩ T.sa ?_
  refine GdX.osaG2 F.store_ValueError X₁ hx₁ hcl rfl rfl T.noN (fun h₃ tk₃ dx k₃ dn dne hx₃ hn₃ => ?_)
  show wpAny _ _ (execs _ _) _ _ _
  have z : s.heap.objs.size < h₁.objs.size := hn.lt
  exact wpAny_execs_nil (hq h₃ tk₃ dx ⟨fun b o hb e => k₃ b o hb (k b o e), hx₃, Nat.le_of_lt (Nat.lt_of_lt_of_le z dn), dne, hn₃⟩)
theorem low_made (T : ParseErrorTxt K mg C fI) {v : Value} (X : K.In s.heap) (hlim : s.heap.NoLimit) (hroom : A.depth + 1 < recursionLimit)
    (hq : ∀ h' tk e d, OwnMade s.heap h' e C d v → R (.ok (.ret (.ref e))) { s with heap := h', toks := tk }) :
    codeAny (model prog w) A (.call (.ref C) ⟨[v], []⟩) R s := by
  obtain ⟨CK, nm, q, N, bs, sn, sub, ab, col, dd, k0, k1, k2, k3, k5, hC⟩ := T.cls
  obtain ⟨hp, g, dr, tk, os⟩ := s
  have k : ∀ b o, hp.get? b = some o → ((hp.push (kdv_tup [v])).push (excO C hp.objs.size)).get? b = some o := fun b o e => Heap.get?_push_of_some _ (Heap.get?_push_of_some _ e)
  have hget : ((hp.push (kdv_tup [v])).push (excO C hp.objs.size)).get? (hp.objs.size + 1) = some (excO C hp.objs.size) := by heap_get
  have hnx : K.lookup (hp.objs.size + 1) = none := by
    cases e : K.lookup (hp.objs.size + 1) with
    | none => rfl
    | some o =>
      have z : hp.get? (hp.objs.size + 1) = some o := X _ _ e
      exact absurd (Nat.lt_of_succ_lt (Heap.lt_size z)) (Nat.lt_irrefl _)
  refine call_own (bm := [.ref CK, .type "ValueError", .type "Exception", .type "BaseException", .type "object"]) F.excBase_ValueError (fun _ => rfl) (X _ _ hC) (looks_findIn X T.iC) (fun self => bind_fn X self T.tC) (one_size v) ?_
  refine low_init (s := ⟨(hp.push (kdv_tup [v])).push (excO C hp.objs.size), g, dr, tk, os⟩) T (X.keeps k) (hlim.keeps k) hget hnx ?_ fun h' tk' dx ⟨k', hx, dn, dne, hns⟩ => ?_
  · show A.depth + 1 < recursionLimit
    exact hroom
  · have old : ∀ b o, hp.get? b = some o → h'.get? b = some o := fun b o e => k' b o (Nat.ne_of_lt (Nat.lt_succ_of_lt (Heap.lt_size e))) (k b o e)
    have z : hp.objs.size + 1 + 1 ≤ dx := by
      first
        | (simpa only [Heap.size_push] using dn)
        | exact dn
        | (have q := dn; rw [Heap.size_push, Heap.size_push] at q; exact q)
    exact ⟨rfl, hq h' tk' (hp.objs.size + 1) dx ⟨old, Nat.le_succ _, ⟨_, _, hx, rfl, rfl, rfl, rfl⟩, Nat.le_trans (Nat.le_trans (Nat.le_succ _) (Nat.le_succ _)) z, dne, hns⟩⟩
end
end XParseError
end PySem
namespace L2
open PySem PySem.Spec PyProof.Rows
theorem relO_ParseError {v : V} {v' : Value} (r : RelV v v') (f : Str) : RelO (List.lookup f [(("index" : Str), v)]) (if f = "index" then some v' else none) := by
  by_cases hw : f = "index"
  · subst hw
    rw [if_pos rfl]
    have q : List.lookup ("index" : Str) [(("index" : Str), v)] = some v := by simp [List.lookup]
    rw [q]
    exact r
  · rw [if_neg hw]
    have qw : (f == ("index" : Str)) = false := by simpa using hw
    have q2 : List.lookup f [(("index" : Str), v)] = none := by simp [List.lookup, qw]
    rw [q2]
    trivial
section
variable {X : Cx} {C fI : Addr}
/-- Low(e) -/
def tMkParseError (C : Addr) (ta : TA) : St → Hp → XK → Prop := fun σ H Q => ta σ H fun vs H1 => ∃ v, vs = [v] ∧ ∀ d, H1 d = none → Q (.ref C) (some d) (upd H1 d (.xd [(("index" : Str), v)]))
theorem pmk_ParseError {a : Expr} {ta : TA} {p pos : Pos} {k : Nat} (T : PySem.XParseError.ParseErrorTxt X.K X.mg C fI) (hr : Room k X.A) (ha : PA X [a] ta) (hg : Gl X "ParseError" := by rfl)
    (he : starEach (a :: []) X.env = (false, eval a X.env) :: starEach [] X.env := by rfl) (hpl : (backTo pos (starEach [] X.env)).any (·.1) = false := by rfl) :
    PMk X (.Call (.Name "ParseError" p) [a] [] pos) (tMkParseError C ta) := by
  intro pins s σ H Q I h
  refine wpAny_Call_Name_kw (ld_glob I hg T.gC ?_)
  refine PySem.W.callWith_K (h₀ := X.base) I.ok.mod.kin T.kC (thn (ha.run pos pins s σ H _ I h) fun us s1 hh => ?_) he hpl
  obtain ⟨vs, H1, I1, r1, v, ev, q1⟩ := hh
  subst ev
  refine ⟨I1.kIn, ?_⟩
  cases r1 with
  | cons rv rn =>
    rename_i v' us'
    cases rn
    show wpAny _ _ (call (.ref C) [v']) _ _ _
    have hlim := I1.nolimit
    obtain ⟨hp, g, dr, tk, os⟩ := s1
    refine wpAny_call (PySem.XParseError.low_made T I1.kIn hlim (by have := hr.dp; omega) fun h' tk' e d M => ?_)
    show MkP X pins σ Q (.ref e) ⟨h', g, dr, tk', os⟩
    obtain ⟨oe, fv, hoe, hc, hd, hdat, h1⟩ := M.obj
    have hns := M.ns
    obtain ⟨G', g1, g2⟩ := restrict h' fun b => decide (b ≠ e)
    have gk : ∀ b, b ≠ e → G'.get? b = h'.get? b := fun b hb => g1 b (decide_eq_true hb)
    have ge : G'.get? e = none := g2 e (by simp)
    have old : ∀ b o, hp.get? b = some o → G'.get? b = some o := fun b o q => (gk b (Nat.ne_of_lt (Nat.lt_of_lt_of_le (Heap.lt_size q) M.new))).trans (M.keep b o q)
    have ob : ObjOk X.prog X.w (upd H1 d (.xd [(("index" : Str), v)])) G' d (.xd [(("index" : Str), v)]) :=
      ⟨_, hns.at (fun o q => (gk d M.dne).trans q), fun f => relO_ParseError rv f⟩
    have J : Inv X pins σ (upd H1 d (.xd [(("index" : Str), v)])) ⟨G', g, dr, tk', os⟩ := I1.laid (t' := tk') old M.dbig ob
    refine ⟨e, oe, fv, ⟨G', g, dr, tk', os⟩, _, .ref C, some d, rfl, J, fun b o q => ?_, ge, hoe, ⟨hc, hd⟩, hdat, h1, ?_, rfl, I1.bare, raises_own T.exC T.tyC, q1 d (I1.hok.fresh M.dbig)⟩
    · by_cases hb : b = e
      · have q' : G'.get? b = some o := q
        rw [hb, ge] at q'; cases q'
      · exact (gk b hb).symm.trans q
    · rw [upd_ne (Ne.symm M.dne)]
      exact I1.hok.fresh M.new
/-- raise Low(e) -/
def tRaiseParseError (C : Addr) (W : WX) (ta : TA) : TS := fun _ σ H => tMkParseError C ta σ H fun cls d H' => W cls d σ H'
theorem ps_raiseParseError {a : Expr} {ta : TA} {W : WX} {p pos pos2 : Pos} {k : Nat} (hc : X.calm = true) (T : PySem.XParseError.ParseErrorTxt X.K X.mg C fI) (hr : Room k X.A) (tk : Takes X W) (ha : PA X [a] ta) (hg : Gl X "ParseError" := by rfl)
    (he : starEach (a :: []) X.env = (false, eval a X.env) :: starEach [] X.env := by rfl) (hpl : (backTo pos (starEach [] X.env)).any (·.1) = false := by rfl) :
    PS X (.Raise (some (.Call (.Name "ParseError" p) [a] [] pos)) none pos2) (tRaiseParseError C W ta) := ps_raise hc tk (pmk_ParseError T hr ha hg he hpl)
/-- low.by, low the exception that the suite holds (at a; its class cls, its dict d) -/
def tByParseError (C : Addr) (a : Addr) (cls : Value) (d : Option Addr) (te : TE) : TE := fun σ H Q => te σ H fun x H1 => x = .ref a ∧ cls = .ref C ∧ ∃ (dd : Addr) (v : V), d = some dd ∧ H1 dd = some (.xd [(("index" : Str), v)]) ∧ Q v H1
theorem pe_byParseError {a : Addr} {oe : Obj} {cls : Value} {d : Option Addr} {pn : List (Addr × Obj)} {e : Expr} {te : TE} {pos : Pos} (T : PySem.XParseError.ParseErrorTxt X.K X.mg C fI) (hz : Zc cls d oe) (hf : ∃ vs, oe.data = .fields vs) (he : PE (X.suite a ((a, oe) :: pn)) e te)
    (hb : attributeBase e "index" X.env (eval e X.env) = eval e X.env := by rfl) :
    PE (X.suite a ((a, oe) :: pn)) (.Attribute e "index" pos) (tByParseError C a cls d te) := by
  refine ⟨fun pins s σ H Q I h => ?_⟩
  refine attr_of hb (thn (he.run pins s σ H _ I h) fun u s1 hh => ?_)
  obtain ⟨x, H1, I1, rx, ex, ec, dd, v, ed, ea, q⟩ := hh
  subst ex
  obtain rfl : u = Value.ref a := rx
  subst ec
  subst ed
  obtain ⟨ha, _⟩ := I1.pin (a, oe) (List.mem_append_left _ List.mem_cons_self)
  obtain ⟨vs, hd⟩ := hf
  have hx : ObjOk X.prog X.w H1 s1.heap dd (.xd [(("index" : Str), v)]) := I1.hok dd _ ea
  obtain ⟨mA, hns, hr⟩ := hx
  obtain ⟨od, ho, hl⟩ := lookIn_ns hns
  have l : List.lookup ("index" : Str) [(("index" : Str), v)] = some v := by simp [List.lookup]
  obtain ⟨u, hu, ru⟩ := RelO.some_of (v := v) (o := mA "index") (by rw [← l]; exact hr "index")
  have J : PySem.W.InstAt s1.heap a oe C (some od) := ⟨ha, hz.1, by unfold PySem.W.notCls; rw [hd] <;> rfl, by rw [hz.2]; exact ho⟩
  exact HandSPX.exc_get I1.kIn J T.ga T.gg T.exC (PySem.W.findObj_own T.hdC T.noN rfl (by rw [hl, hu])) (handed_of ru) ⟨v, H1, I1.tok _, ru, q⟩
end
end L2

set_option Elab.async false
set_option linter.all false
set_option maxRecDepth 100000
set_option maxHeartbeats 4000000
/-! A row [z] * e at the head of a body, behind which texts may be replaced; e.split(sep) behind such a replacement. -/
namespace Gd
open PySem PySem.Spec PyProof.Rows L2
section
variable {X : Cx}
/-- x = [z] * e: behind it a token is out -/
theorem pss_repT {i : Nat} {x : Str} {z : Int} {j : Nat} {c0 lp bp pos' pos : Pos} {e : Expr} {te : TE} {r : R2} {rest : List Stmt} {u : TS} (ho : OpR X (binaryOp .Mult) r) (hN : X.N.Nodup) (hi : X.N[i]? = some x) (hx : Loc X.env.scope x) (he : PE X e te) (h2 : PSsT X rest u)
    (hs : swapsWith (.BinOp (.List [.Constant (.int z) j c0] lp) .Mult e bp) (some (.Name x pos')) pos.line X.env = pure false := by rfl) (hf : X.fn x = true ∨ X.env.scope.names.lookup x = some .local := by first | exact .inl rfl | exact .inr rfl | assumption) :
    PSs X (.Assign [.Name x pos'] (.BinOp (.List [.Constant (.int z) j c0] lp) .Mult e bp) pos :: rest) (tSeq (tAsg (tOp r (tLst (tCons (tC (.int z)) tNil)) te) (gName i)) u) := by
  refine ⟨fun pins s σ H D I h => ?_⟩
  refine wpAny_execs_cons (wpAny_Assign_Name (wpAny_BinOp ?_) hs)
  refine wpAny_List_spliced ?_
  show wpAny _ _ (spliced ((false, eval (.Constant (.int z) j c0) X.env) :: backTo lp (starEach [] X.env))) _ _ s
  refine Calls.spliced_cons (wpAny_Constant_int (Calls.spliced_nil ?_))
  obtain ⟨hz, q⟩ := h
  have I0 : Inv X pins σ H { s with toks := s.toks + 1 } := I.tok _
  have hfr : H s.heap.objs.size = none := I.hok.fresh (Nat.le_refl _)
  have h1 : (1 : Nat) ≤ sizeLine := by decide
  refine ⟨h1, ?_⟩
  have I1 : Inv X pins σ (upd H s.heap.objs.size (.lst [.int z])) { s with heap := s.heap.push { cls := .type "list", data := .seq #[.int z s.toks] }, toks := s.toks + 1 } :=
    I0.laid (t' := s.toks + 1) (fun b u e => Heap.get?_push_of_some _ e) (Nat.le_refl _) ⟨h1, [.int z s.toks], 0, .cons ⟨_, rfl⟩ .nil, Heap.get?_push_size _ rfl⟩
  refine wpAny_mono (wpAny_toks_of (n := 1) (by show 1 ≤ s.toks + 1; omega) (he.run pins _ σ _ _ I1 (q _ hfr))) (fun v s2 q2 => ?_) fun _ _ z => z.2
  obtain ⟨hk2, y, H2, I2, r2, q2⟩ := q2
  refine wpAny_mono (wpAny_toks_of hk2 (ho pins s2 σ H2 (V.ref s.heap.objs.size) y _ v _ I2 rfl r2 q2)) (fun w s3 q3 => ?_) fun _ _ z => z.2
  obtain ⟨hk3, x3, H3, I3, r3, q3⟩ := q3
  refine wpAny_mono (wpAny_toks_of hk3 (store_ok (Q := fun _ s4 => Inv X pins (σ.set i (some x3)) H3 s4) I3 hN hi hx r3 (fun _ I4 => I4) hf)) (fun _ s4 q4 => ?_) fun _ _ z => z.2
  exact h2 pins s4 _ H3 D q4.1 q4.2 q3
/-- e.split(sep) behind a replacement -/
theorem pet_split {o e : Expr} {to te : TE} {apos pos : Pos} (ho : PET X o to) (he : PE X e te) (hs : starEach [e] X.env = [(false, eval e X.env)] := by rfl) (hbase : attributeBase o "split" X.env (eval o X.env) = eval o X.env := by rfl) (hline : (apos.endLine == pos.line) = true := by rfl) :
    PET X (.Call (.Attribute o "split" apos) [e] [] pos) (tM1 (fun x xs H Q => ∃ a b, x = .str a ∧ xs = [.str b] ∧ (b.length == 0) = false ∧ a.length + 2 ≤ sizeLine ∧ rNewStrs (Txt.split a b) H Q) to te) := by
  intro pins s σ H Q h0 I h
  refine PySem.Call_method1 hbase hs hline (thn (ho pins s σ H _ h0 I h) fun v s1 ⟨x, H1, I1, r1, q1⟩ => ?_)
  obtain ⟨⟨a, rfl⟩, q1⟩ := q1
  obtain ⟨t, rfl⟩ := _root_.id r1
  refine ⟨"str", _, F.plainAttrs_str, F.slot_str_split, F.type_str_split, typeIs_str _ _ _, (fun _ e => nomatch e), Calls.callWith_builtin rfl (Calls.evalArgs_plain (Calls.spliced_cons ?_))⟩
  exact thn (he.run pins s1 σ H1 _ I1 q1) fun u s2 ⟨y, H2, I2, r2, q2⟩ => Calls.spliced_nil (mt_split pins s2 σ H2 _ [y] _ [u] Q I2 r1 (.cons r2 .nil) q2)
end
end Gd

set_option Elab.async false
set_option linter.all false
set_option maxRecDepth 100000
set_option maxHeartbeats 4000000
/-! try with several clauses «except x as n» of one name n. -/
namespace Gd
open PySem PySem.Spec PyProof.Rows L2
abbrev Clause := Value × (Addr → Value → Option Addr → TS)
/-- what the clauses wish, one after the other; slot i is the name's -/
def wAsAll (K : PySem.W.Frag) (i : Nat) (Wo : WX) (D : Ends) : List Clause → WX
  | [] => Wo
  | (c, ts) :: r => wAs K c i ts (wAsAll K i Wo D r) D
inductive AsOk (X : Cx) (n : Str) : List ExceptHandler → List Clause → Prop
  | nil : AsOk X n [] []
  | cons {x : Str} {c : Value} {ts : Addr → Value → Option Addr → TS} {b₀ : Stmt} {rows : List Stmt} {np po : Pos} {hds : List ExceptHandler} {l : List Clause} (hc : Names X x c)
      (hsu : ∀ (a : Addr) (oe : Obj) (k : Value) (d : Option Addr) (pn : List (Addr × Obj)), Zc k d oe → (∃ us, oe.data = .fields us) → PSs (X.suite a ((a, oe) :: pn)) (b₀ :: rows) (ts a k d)) (more : AsOk X n hds l) :
      AsOk X n (.ExceptHandler (some (.Name x np)) (some n) (b₀ :: rows) po :: hds) ((c, ts) :: l)
section
variable {X : Cx} {n : Str} {i : Nat} {body : List Stmt} {h₀ : ExceptHandler} {hds : List ExceptHandler} {l : List Clause} {pos : Pos} {tb : WX → TS} {Wo : WX}
theorem ps_try_asAll (hst : X.stack = X.env :: X.outer) (hfr0 : X.env.frame = some X.env.locals) (hN : X.N.Nodup) (hi : X.N[i]? = some n) (hl : X.env.kindOf n = some .local) (tk : Takes X Wo)
    (hb : ∀ (W : WX) (pn : List (Addr × Obj)) (xe : Value → Shared → Prop), Takes (X.tr pn xe) W → PassesOwn (model X.prog X.w) X.A X.env xe → PSs (X.tr pn xe) body (tb W))
    (hh : AsOk X n (h₀ :: hds) l) : PS X (.Try body (h₀ :: hds) [] [] pos) (fun D σ H => tb (wAsAll X.K i Wo D l) D σ H) := by
  constructor
  intro pins s0 σ0 H0 D I h
  have okX := I.ok
  have hfr : X.A.frames = some (X.env :: X.outer) := by rw [okX.frames, hst]
  have hloc : Loc X.env.scope n := .inl hl
  refine wpAny_Try_except ?_
  have go := hb (wAsAll X.K i Wo D l) (X.pn ++ pins) (fun e t₁ => wpAny (model X.prog X.w) X.A (noteFrame e X.env) (fun _ t₂ => wpAny (model X.prog X.w) X.A (setFlight e none) (fun _ t₃ =>
    wpAny (model X.prog X.w) X.A (handleBy e X.env (h₀ :: hds)) (SP X pins D) X.xe t₃) X.xe t₂) X.xe t₁) (fun u t' caught => ?_) PassesOwn.looking
  · refine wpAny_mono (go.run [] s0 σ0 H0 D (I.toTry _) h) (fun f t1 done => ?_) (fun e t1 z => z)
    match f, done with
    | .next, ⟨σ1, H1, J, q⟩ => exact wpAny_execs_nil ⟨σ1, H1, J.ofTry okX, q⟩
    | .brk, ⟨σ1, H1, J, q⟩ => exact ⟨σ1, H1, J.ofTry okX, q⟩
    | .cont, ⟨σ1, H1, J, q⟩ => exact ⟨σ1, H1, J.ofTry okX, q⟩
    | .ret u, ⟨v, σ1, H1, J, r, q⟩ => exact ⟨v, σ1, H1, J.ofTry okX, r, q⟩
  obtain ⟨a, B, sI, pins2, σ2, H2, cls, d, rfl, J0, nb, up, sky, na, os, ag, wish⟩ := caught
  have J : Inv X pins σ2 H2 sI := J0.ofTry okX
  have sky2 : Sky B (X.env :: X.outer) a (Zc cls d) X.env.locals t'.heap := by rw [← hst]; exact sky
  show wpAny (model X.prog X.w) X.A (noteFrame (.ref a) X.env) _ _ _
  refine Sky.land Zc.steady hfr hfr0 sky2 ?_
  intro h3 fl3 up3
  have J3 : Inv X pins σ2 H2 { t' with heap := h3 } := J.landed nb fl3.1 (up.trans up3) os ag
  obtain ⟨o3, vs3, at3, z3, d3⟩ := fl3.there
  have off : a ∉ frs (X.env :: X.outer) := by
    intro hm
    obtain ⟨_, o', e', hnf⟩ := fl3.2.2.1.mem hm
    rw [at3] at e'
    cases e'
    exact hnf _ d3
  have nL : a ≠ X.env.locals := by
    intro z
    exact off (List.mem_filterMap.mpr ⟨X.env, List.mem_cons_self, by rw [hfr0, z]⟩)
  have nF : a ∉ X.fs := by
    intro hm
    obtain ⟨e, he, q⟩ := List.mem_filterMap.mp hm
    exact off (List.mem_filterMap.mpr ⟨e, List.mem_cons_of_mem _ he, q⟩)
  have S3 := J3.suite at3 d3 na nL nF
  have clauses : ∀ (hs2 : List ExceptHandler) (l2 : List Clause), AsOk X n hs2 l2 → wAsAll X.K i Wo D l2 cls d σ2 H2 →
      wpAny (model X.prog X.w) X.A (handleBy (.ref a) X.env hs2) (SP X pins D) X.xe { t' with heap := h3 } := by
    intro hs2 l2 ok2
    induction ok2 with
    | nil =>
      intro wo
      refine wpAny_handleBy_nil ?_
      obtain ⟨_, _, _, oe, us, T, oT, ts2, at_, hz, hd, hT, hr⟩ := id fl3
      unfold PySem.passOn
      refine wpAny_bind (wpAny_field at_ hd hT ?_)
      rw [if_neg (show ¬ ((Value.ref T == Value.none) = true) by simp)]
      have out : wpAny (model X.prog X.w) X.A (setFlight (.ref a) X.env.frame) (fun _ t4 => wpAny (model X.prog X.w) X.A (throw (.ref a) : Sem Flow) (SP X pins D) X.xe t4) X.xe { t' with heap := h3 } := by
        rw [hfr0]
        refine HandSPX.setFlight_upZ fl3 ?_
        intro h4 hh4 up4
        refine wpAny_throw (tk _ _ ⟨a, B, sI, pins, σ2, H2, cls, d, rfl, J, nb, (up.trans up3).trans up4, .inr (.inr ?_), na, os, ag, wo⟩)
        rw [hst]
        exact hh4
      first
        | exact wpAny_bind (wpAny_pure (wpAny_bind out))
        | exact wpAny_bind out
    | @cons x c ts b₀ rows np po hds2 l3 hc hsu more ih =>
      rintro ⟨b, hb1, yes, no⟩
      refine wpAny_handleBy_cons (codeAny_handlers_test ?_) (by intro q; cases q)
      have LT : PySem.W.Looks (model X.prog X.w) h3 (typeOf (.ref a)) cls := by
        intro A Q E s k q
        exact wpAny_typeOf_ref (k _ _ at3) (by rw [z3.1]; exact q)
      have LM := PySem.W.exm_one (M := model X.prog X.w) J3.kIn LT hb1
      have named : ∀ {Q : Value → Shared → Prop} {E : Value → Shared → Prop}, Q c { t' with heap := h3 } → wpAny (model X.prog X.w) (X.A.mark (some (.ref a))) (eval (.Name x np) X.env) Q E { t' with heap := h3 } := by
        intro Q E q
        obtain ⟨hg, hdb, hm | ⟨hm, hv, hnn⟩⟩ := hc
        · exact ld_glob (X := X.suite a ((a, o3) :: (X.pn ++ pins))) S3 hg hm q hdb
        · exact ld_blt (X := X.suite a ((a, o3) :: (X.pn ++ pins))) S3 hg hm hv q hnn hdb
      refine named (LM.here ?_)
      cases b with
      | false =>
        show wpAny _ X.A (handleBy (.ref a) X.env hds2) _ _ _
        exact ih (no rfl)
      | true =>
        refine codeAny_handlers_suite_as ?_
        refine HandSPX.lands_againZ fl3 ?_
        intro h4 fl4 up4
        have J4 : Inv X pins σ2 H2 { t' with heap := h4 } := J.landed nb fl4.1 ((up.trans up3).trans up4) os ag
        obtain ⟨o4, vs4, at4, z4, d4⟩ := fl4.there
        refine store_ok (X := X.suite a ((a, o4) :: (X.pn ++ pins))) (v := .ref a) (J4.suite at4 d4 na nL nF) hN hi hloc rfl (fun t5 S5 => ?_) (.inr hl)
        refine wpAny_mono ((hsu a o4 cls d (X.pn ++ pins) z4 ⟨_, d4⟩).run [] t5 _ H2 _ S5 (yes rfl a na)) (fun f t6 done => ?_) (fun _ _ z => z.elim)
        have gone : ∀ {σ6 : L2.St} {H6 : Hp} {Q : Shared → Prop}, Inv (X.suite a ((a, o4) :: (X.pn ++ pins))) [] σ6 H6 t6 → (∀ t7, Inv X pins (σ6.set i none) H6 t7 → Q t7) →
            wpAny (model X.prog X.w) X.A (do bindName X.env n .none; unbindBehindTheSuite X.env n po) (fun _ t7 => Q t7) X.xe t6 := by
          intro σ6 H6 Q S6 hq
          exact gone_ok (S6.unsuite okX) hN hi hl hq
        match f, done with
        | .next, ⟨σ6, H6, S6, q6⟩ => exact gone S6 fun t7 J7 => ⟨_, _, J7, q6⟩
        | .brk, ⟨σ6, H6, S6, q6⟩ => exact gone S6 fun t7 J7 => ⟨_, _, J7, q6⟩
        | .cont, ⟨σ6, H6, S6, q6⟩ => exact gone S6 fun t7 J7 => ⟨_, _, J7, q6⟩
        | .ret u, ⟨v6, σ6, H6, S6, r6, q6⟩ => exact gone S6 fun t7 J7 => ⟨_, _, _, J7, r6, q6⟩
  exact clauses _ _ hh wish
end
end Gd

set_option Elab.async false
set_option linter.all false
set_option maxRecDepth 100000
set_option maxHeartbeats 4000000
/-! A short text many times: some text. -/
namespace Gd
open PySem PySem.Spec PyProof.Rows L2
def rRepS : R2 := fun x y H Q => ∃ (z : Str) (k : Int), x = .str z ∧ y = .int k ∧ z.length ≤ 1 ∧ 0 ≤ k ∧ k ≤ 1000 ∧ ∀ r, Q (.str r) H
theorem foldl_app (c : Array Nat) : ∀ (n : Nat) (acc : Array Nat), (List.foldl (fun a b => a ++ b) acc (List.replicate n c)).size = acc.size + n * c.size
  | 0, acc => by simp
  | n + 1, acc => by
    rw [List.replicate_succ, List.foldl_cons, foldl_app c n, Array.size_append, Nat.succ_mul]
    omega
theorem op_repS {X : Cx} : OpR X (binaryOp .Mult) rRepS := by
  intro pins s σ H x y v u Q I rx ry h
  obtain ⟨z, k, rfl, rfl, hz, k0, k1, q⟩ := h
  obtain ⟨t, rfl⟩ := rx
  obtain ⟨t', rfl⟩ := ry
  have big : (1000000 : Nat) ≤ sizeLine := by decide
  have hm : z.length * k.toNat ≤ 1 * 1000 := Nat.mul_le_mul hz (by omega)
  refine PySem.P.mul_str ?_ (fun h1 _ => ?_) (fun h1 _ => ?_) ?_
  · rw [decide_eq_false (by omega), decide_eq_false (by omega)]
    rfl
  · have h2 : (1 : Int) ≤ (2 ^ 63 - 1) / k := by
      rw [Int.le_ediv_iff_mul_le (by omega)]
      omega
    omega
  · show decide (_ > sizeLine) = false
    exact decide_eq_false (by omega)
  · split
    · exact ⟨Nat.zero_le _, .str _, H, I.tok _, ⟨_, rfl⟩, q _⟩
    · split
      · exact ⟨.str z, H, I, ⟨_, rfl⟩, q z⟩
      · refine ⟨?_, .str _, H, I.tok _, ⟨_, rfl⟩, q _⟩
        show (List.foldl (fun a b => a ++ b) #[] (List.replicate k.toNat z.cps)).size ≤ sizeLine
        rw [foldl_app]
        have : z.cps.size = z.length := rfl
        rw [this, Nat.mul_comm]
        show 0 + _ ≤ _
        omega
end Gd

set_option Elab.async false
set_option linter.all false
set_option maxRecDepth 100000
set_option maxHeartbeats 4000000
/-! Readings, step by step: one lemma a word of the readings, and a tactic that goes as far as nothing is asked. -/
namespace Gd
open PySem PySem.Spec PyProof.Rows L2
section
variable {σ : L2.St} {H : Hp} {Q : VK} {QA : List V → Hp → Prop} {QT : Bool → Hp → Prop} {D : Ends} {te ta tb tc to : TE} {t u : TT} {tr : TA} {s1 s2 : TS} {v : V} {i : Nat} {K : PySem.W.Frag}
theorem g_var (h : σ[i]? = some (some v)) (k : Q v H) : tVar i σ H Q := ⟨v, h, k⟩
theorem g_c (k : Q v H) : tC v σ H Q := k
theorem g_ret (k : te σ H D.rt) : tRet te D σ H := k
theorem g_retN (k : D.rt .non H) : tRetN D σ H := k
theorem g_seq (k : s1 { D with nx := s2 D } σ H) : tSeq s1 s2 D σ H := k
theorem g_next (k : D.nx σ H) : tNext D σ H := k
theorem g_drop (k : te σ H fun _ H1 => D.nx σ H1) : tDrop te D σ H := k
theorem g_asg {g : TG} (k : te σ H fun x H1 => g x σ H1 D.nx) : tAsg te g D σ H := k
theorem g_name {Qs : L2.St → Hp → Prop} (k : Qs (σ.set i (some v)) H) : gName i v σ H Qs := k
theorem g_ifs (k : t σ H fun b H1 => if b = true then s1 D σ H1 else s2 D σ H1) : tIfS t s1 s2 D σ H := k
theorem g_test (k : te σ H fun x H' => ∃ c, x = .bl c ∧ QT c H') : tTest te σ H QT := k
theorem g_tb (k : te σ H fun x H' => ∃ c, x = .bl c ∧ QT c H') : tB te σ H QT := k
theorem g_and (k : t σ H fun c H1 => if c = true then u σ H1 QT else QT false H1) : tAnd t u σ H QT := k
theorem g_or (k : t σ H fun c H1 => if c = true then QT true H1 else u σ H1 QT) : tOr t u σ H QT := k
theorem g_not (k : t σ H fun c H1 => QT (!c) H1) : tNot t σ H QT := k
theorem g_andV (k : ta σ H fun x H1 => ∃ c, x = .bl c ∧ if c = true then tb σ H1 Q else Q (.bl false) H1) : tAndV ta tb σ H Q := k
theorem g_orV (k : ta σ H fun x H1 => ∃ c, x = .bl c ∧ if c = true then Q (.bl true) H1 else tb σ H1 Q) : tOrV ta tb σ H Q := k
theorem g_notV (k : ta σ H fun x H1 => ∃ c, x = .bl c ∧ Q (.bl (!c)) H1) : tNotV ta σ H Q := k
theorem g_if (k : t σ H fun c H1 => if c = true then ta σ H1 Q else tb σ H1 Q) : tIf t ta tb σ H Q := k
theorem g_op {r : R2} (k : ta σ H fun x H1 => tb σ H1 fun y H2 => r x y H2 Q) : tOp r ta tb σ H Q := k
theorem g_un {r : V → Hp → VK → Prop} (k : ta σ H fun x H1 => r x H1 Q) : tUn r ta σ H Q := k
theorem g_cb {r : List V → Hp → VK → Prop} (k : tr σ H fun vs H1 => r vs H1 Q) : tCB r tr σ H Q := k
theorem g_nil (k : QA [] H) : tNil σ H QA := k
theorem g_cons (k : ta σ H fun x H1 => tr σ H1 fun xs H2 => QA (x :: xs) H2) : tCons ta tr σ H QA := k
theorem g_call {sp : Sp} {dvs : List V} {E : XK} (k : tr σ H fun vs H1 => sp (vs ++ dvs) H1 Q E) : tCall sp dvs E tr σ H Q := k
theorem g_callS {sp : Sp} {E : L2.St → XK} (k : tr σ H fun vs H1 => sp vs H1 Q (E σ)) : tCallS sp E tr σ H Q := k
theorem g_tup (k : tr σ H fun xs H1 => xs.length ≤ sizeLine ∧ ∀ p, H1 p = none → Q (.ref p) (upd H1 p (.tup xs))) : tTup tr σ H Q := k
theorem g_lst (k : tr σ H fun xs H1 => xs.length ≤ sizeLine ∧ ∀ p, H1 p = none → Q (.ref p) (upd H1 p (.lst xs))) : tLst tr σ H Q := k
theorem g_isN (k : ta σ H fun x H1 => Q (.bl (decide (x = .non))) H1) : tIsN ta σ H Q := k
theorem g_sl {r : V → Option Int → Option Int → Hp → VK → Prop} {tl th : TO} (k : te σ H fun x H1 => tl σ H1 fun l H2 => th σ H2 fun u H3 => r x l u H3 Q) : tSl r te tl th σ H Q := k
theorem g_nopart {Qo : Option Int → Hp → Prop} (k : Qo none H) : tNoPart σ H Qo := k
theorem g_part {Qo : Option Int → Hp → Prop} (k : te σ H fun x H1 => ∃ i, x = .int i ∧ Qo (some i) H1) : tPart te σ H Qo := k
theorem g_chain {r r' : R2} (k : ta σ H fun x H1 => tb σ H1 fun y H2 => r x y H2 fun z H3 => ∃ c, z = .bl c ∧
    if c = true then tc σ H3 fun w H4 => r' y w H4 Q else Q (.bl false) H3) : tChain r r' ta tb tc σ H Q := by
  exact k
theorem g_fld {f : Str} (k : ta σ H fun x H1 => ∃ a C dx fs v, x = .ref a ∧ H1 a = some (.ins C dx fs) ∧ Cls K C ∧ NoAttr K C f ∧ fs.lookup f = some v ∧ Q v H1) : tFld K ta f σ H Q := k
theorem g_prop {C : Addr} {sp : Sp} {dvs : List V} {E : XK} (k : ta σ H fun x H1 => ∃ a dx fs, x = .ref a ∧ H1 a = some (.ins C dx fs) ∧ sp (.ref a :: dvs) H1 Q E) : tProp C sp dvs E ta σ H Q := k
theorem g_bm {T : String} {r : V → List V → Hp → VK → Prop} (k : to σ H fun x H1 => tyV K T x H1 ∧ tr σ H1 fun xs H2 => r x xs H2 Q) : tBM K T r to tr σ H Q := k
theorem g_bm0 {T : String} {r : V → List V → Hp → VK → Prop} (k : to σ H fun x H1 => tyV K T x H1 ∧ r x [] H1 Q) : tBM0 K T r to σ H Q := k
theorem g_tru {r : V → Hp → (Bool → Hp → Prop) → Prop} (k : te σ H fun x H' => r x H' QT) : (fun (σ : L2.St) (H : Hp) (Q : Bool → Hp → Prop) => te σ H fun x H' => r x H' Q) σ H QT := k
-- values
theorem g_I0 {g : Int → Int → V} {a b : Int} (k : Q (g a b) H) : rI0 g (.int a) (.int b) H Q := ⟨a, b, rfl, rfl, k⟩
theorem g_I {C : Int → Int → Prop} {g : Int → Int → V} {a b : Int} (c : C a b) (k : Q (g a b) H) : rI C g (.int a) (.int b) H Q := ⟨a, b, rfl, rfl, c, k⟩
theorem g_U {g : Int → V} {a : Int} (k : Q (g a) H) : rU g (.int a) H Q := ⟨a, rfl, k⟩
theorem g_eqI {a b : Int} (k : Q (.bl (decide (a = b))) H) : rEq (.int a) (.int b) H Q := by
  refine ⟨rfl, ?_⟩
  have e : (V.int a = V.int b) = (a = b) := by simp
  simpa [e] using k
theorem g_eq {x y : V} (s : scal x y = true) (k : Q (.bl (decide (x = y))) H) : rEq x y H Q := ⟨s, k⟩
theorem g_ne {x y : V} (s : scal x y = true) (k : Q (.bl (!decide (x = y))) H) : rNe x y H Q := ⟨s, k⟩
theorem g_bl {b : Bool} (k : QT b H) : ∃ c, (V.bl b) = .bl c ∧ QT c H := ⟨b, rfl, k⟩
theorem g_blV {b : Bool} {A : Bool → Prop} (k : A b) : ∃ c, (V.bl b) = .bl c ∧ A c := ⟨b, rfl, k⟩
theorem g_inV {a : Int} {A : Int → Prop} (k : A a) : ∃ c, (V.int a) = .int c ∧ A c := ⟨a, rfl, k⟩
theorem g_ixT {p : Addr} {xs : List V} {a : Int} (h : SqT K H p xs) (e : atI xs a = some v) (k : Q v H) : rIxT K (.ref p) (.int a) H Q := ⟨p, xs, a, v, rfl, rfl, h, e, k⟩
theorem g_ixL {p : Addr} {xs : List V} {a : Int} (h : SqL K H p xs) (e : atI xs a = some v) (k : Q v H) : rIxL K (.ref p) (.int a) H Q := ⟨p, xs, a, v, rfl, rfl, h, e, k⟩
end

/-- the turn's end: the invariant again, the measure less -/
abbrev Turn (Pv : L2.St → Hp → Prop) (μ : L2.St → Hp → Nat) (m : Nat) : L2.St → Hp → Prop := fun σ' H' => Pv σ' H' ∧ μ σ' H' < m
theorem g_while {c : TT} {tb : TS} {D : Ends} {σ : L2.St} {H : Hp} (Pv : L2.St → Hp → Prop) (μ : L2.St → Hp → Nat) (h0 : Pv σ H)
    (hs : ∀ σ H, Pv σ H → c σ H fun b H1 => if b = true then ∃ N : L2.St → Hp → Prop, (∀ σ' H', N σ' H' → ∃ m', m' < μ σ H ∧ m' = μ σ' H' ∧ Pv σ' H') ∧
      tb { D with nx := N, ct := N, bk := D.nx } σ H1 else D.nx σ H1) : tWhile c tb D σ H := by
  refine ⟨fun m σ H => m = μ σ H ∧ Pv σ H, ⟨_, rfl, h0⟩, ?_⟩
  rintro m σ H ⟨rfl, p⟩
  exact hs σ H p
theorem g_turn {tb : TS} {D : Ends} {σ : L2.St} {H H1 : Hp} {Pv : L2.St → Hp → Prop} {μ : L2.St → Hp → Nat}
    (h : tb { D with nx := Turn Pv μ (μ σ H), ct := Turn Pv μ (μ σ H), bk := D.nx } σ H1) :
    ∃ N : L2.St → Hp → Prop, (∀ σ' H', N σ' H' → ∃ m', m' < μ σ H ∧ m' = μ σ' H' ∧ Pv σ' H') ∧ tb { D with nx := N, ct := N, bk := D.nx } σ H1 :=
  ⟨Turn Pv μ (μ σ H), fun σ' H' n => ⟨_, n.2, rfl, n.1⟩, h⟩
theorem g_aug {σ : L2.St} {H : Hp} {D : Ends} {i : Nat} {te : TE} {ti : TIp} {x : V} (h : σ[i]? = some (some x)) (k : te σ H fun y H1 => ti x y H1 fun z H2 => D.nx (σ.set i (some z)) H2) : tAug i te ti D σ H := ⟨x, h, k⟩
theorem tyT {K : PySem.W.Frag} {H : Hp} {a : Addr} {xs : List V} (h : SqT K H a xs) : TyX K H (.ref a) (.type "tuple") := by
  rcases h with (h | ⟨o, h⟩) | ⟨o, its, n, h, c, _⟩
  · exact .base (.tup h)
  · exact .fTuple h
  · exact .kTuple h c
theorem tyL {K : PySem.W.Frag} {H : Hp} {a : Addr} {xs : List V} (h : SqL K H a xs) : TyX K H (.ref a) (.type "list") ∨ ∃ o, K.lookup a = some o := by
  rcases h with (h | ⟨o, h⟩) | ⟨o, its, n, h, c, _⟩
  · exact .inl (.base (.lst h))
  · exact .inl (.base (.frz h))
  · exact .inr ⟨o, h⟩

theorem g_yes {σ : L2.St} {H : Hp} {Q : Bool → Hp → Prop} (k : Q true H) : tYes σ H Q := k
theorem g_sfld {σ : L2.St} {H : Hp} {D : Ends} {K : PySem.W.Frag} {ta te : TE} {f : Str} (k : te σ H fun y H1 => ta σ H1 fun x H2 => ∃ a C dx fs, x = .ref a ∧ H2 a = some (.ins C dx fs) ∧ Cls K C ∧ NoAttr K C f ∧
    fs.length < 1000 ∧ D.nx σ (upd H2 a (.ins C dx (putF f y fs)))) : sFld K ta te f D σ H := k
theorem g_int1 {a : Int} {A : Int → Prop} (k : A a) : ∃ i, [V.int a] = [V.int i] ∧ A i := ⟨a, rfl, k⟩
theorem g_int2 {a b : Int} {A : Int → Int → Prop} (k : A a b) : ∃ i j, [V.int a, V.int b] = [V.int i, V.int j] ∧ A i j := ⟨a, b, rfl, k⟩
theorem g_sub {σ : L2.St} {H : Hp} {Qs : L2.St → Hp → Prop} {to ti : TE} {t : TSet} {v : V} (k : to σ H fun o H1 => ti σ H1 fun i H2 => t o i v H2 fun H3 => Qs σ H3) : gSub to ti t v σ H Qs := k
theorem g_NT {A B : Prop} (h : B) : if (!true) = true then A else B := h
theorem g_NF {A B : Prop} (h : A) : if (!false) = true then A else B := h
end Gd

set_option Elab.async false
set_option linter.all false
set_option maxRecDepth 100000
set_option maxHeartbeats 4000000
/-! More readings. -/
namespace Gd
open PySem PySem.Spec PyProof.Rows L2
theorem g_forR {ta : TA} {g : TG} {tb : TS} {D : Ends} {σ : L2.St} {H : Hp} (k : ta σ H fun vs H1 => ∃ j : Int, vs = [.int j] ∧ -(2 ^ 62) ≤ j ∧ j < 2 ^ 62 ∧ ∃ W : Nat → Nat → L2.St → Hp → Prop, (∃ m, W 0 m σ H1) ∧ ∀ i m σ H, W i m σ H →
  ((Itr 0 j.toNat).stop i H ∧ D.nx σ H) ∨ ((Itr 0 j.toNat).go i H ∧ ∃ N : L2.St → Hp → Prop, (∀ σ' H', N σ' H' → ∃ m', m' < m ∧ W (i + 1) m' σ' H') ∧ ∀ x H', (Itr 0 j.toNat).yld i H x H' → g x σ H' fun σ2 H2 => tb { D with nx := N, ct := N, bk := D.nx } σ2 H2)) :
    tFor (iRng1 ta) g tb D σ H := k
theorem g_ifV {c : Bool} {ta tb : TE} {σ : L2.St} {H : Hp} {Q : VK} (v : V) (ha : c = true → ∀ Q' : VK, Q' v H → ta σ H Q') (hb : c = false → ∀ Q' : VK, Q' v H → tb σ H Q') (k : Q v H) : if c = true then ta σ H Q else tb σ H Q := by
  cases c with
  | true => exact ha rfl Q k
  | false => exact hb rfl Q k
theorem g_neS {x : Str} {H : Hp} {Q : VK} (k : Q (.bl false) H) : rNe (.str x) (.str x) H Q := ⟨rfl, by simpa using k⟩
theorem g_ixO {C : Addr} {sp : Sp} {E : L2.St → XK} {ta tb : TE} {σ : L2.St} {H : Hp} {Q : VK} (k : ta σ H fun x H1 => tb σ H1 fun y H2 => ∃ p dx fs, x = .ref p ∧ H2 p = some (.ins C dx fs) ∧ sp [x, y] H2 Q (E σ)) : tIxO C sp E ta tb σ H Q := k
/-- a place that is reached from more than one side -/
theorem g_cut {s1 s2 : TS} {D : Ends} {σ : L2.St} {H : Hp} (N : L2.St → Hp → Prop) (hN : ∀ σ' H', N σ' H' → s2 D σ' H') (k : (∀ σ' H', N σ' H' → s2 D σ' H') → s1 { D with nx := s2 D } σ H) : tSeq s1 s2 D σ H := k hN
theorem g_eqS {x : Str} {H : Hp} {Q : VK} (k : Q (.bl true) H) : rEq (.str x) (.str x) H Q := ⟨rfl, by simpa using k⟩
theorem g_par {i j : Nat} {ta : TA} {D : Ends} {σ : L2.St} {H : Hp} (k : ta σ H fun vs H1 => ∃ v w, vs = [v, w] ∧ D.nx ((σ.set i (some v)).set j (some w)) H1) : tPar i j ta D σ H := k
theorem g_make {C : Addr} {sp : Sp} {dvs : List V} {E : XK} {t : TA} {σ : L2.St} {H : Hp} {Q : VK} (k : t σ H fun vs H1 => ∀ x dx, H1 x = none → H1 dx = none → dx ≠ x →
  sp (.ref x :: (vs ++ dvs)) (upd (upd H1 dx (.own x)) x (.ins C dx [])) (fun v H2 => v = .non ∧ Q (.ref x) H2) E) : tMake C sp dvs E t σ H Q := k
end Gd

set_option Elab.async false
set_option linter.all false
set_option maxRecDepth 100000
set_option maxHeartbeats 4000000
/-! Readings by name, for the bodies of comprehensions. -/
namespace Gd
open PySem PySem.Spec PyProof.Rows L2
def rLenS (K : PySem.W.Frag) : List V → Hp → VK → Prop := fun xs H Q => ∃ p ys, xs = [.ref p] ∧ (SqL K H p ys ∨ SqT K H p ys) ∧ Q (.int (ys.length : Int)) H
def rListOf (K : PySem.W.Frag) : List V → Hp → VK → Prop := fun xs H Q => ∃ p ys, xs = [.ref p] ∧ (SqL K H p ys ∨ SqT K H p ys) ∧ ∀ l, H l = none → Q (.ref l) (upd H l (.lst ys))
def rTupOf (K : PySem.W.Frag) : List V → Hp → VK → Prop := fun xs H Q => ∃ p ys, xs = [.ref p] ∧ ((SqL K H p ys ∧ ∀ l, H l = none → Q (.ref l) (upd H l (.tup ys))) ∨ (SqT K H p ys ∧ Q (.ref p) H))
theorem call_lenS {X : Cx} : CallR X (.builtin "len") (rLenS X.K) := call_len_seq
theorem call_listS {X : Cx} : CallR X (.type "list") (rListOf X.K) := call_list_of
theorem call_tupS {X : Cx} : CallR X (.type "tuple") (rTupOf X.K) := call_tuple_of
end Gd

set_option Elab.async false
set_option linter.all false
set_option maxRecDepth 100000
set_option maxHeartbeats 4000000
/-! The text by places, and integers. -/
namespace K0

open PySem PySem.Spec PyProof.Rows L2 Gd

local macro_rules | `(tactic| walk_at "rd1") => `(tactic| first | with_reducible refine g_ret ?_ | with_reducible refine g_retN ?_ | with_reducible refine g_seq ?_ | with_reducible refine g_next ?_ | with_reducible refine g_drop ?_ | with_reducible refine g_asg ?_ | with_reducible refine g_name ?_ | with_reducible refine g_ifs ?_ | with_reducible refine g_test ?_ | with_reducible refine g_tb ?_ | with_reducible refine g_and ?_ | with_reducible refine g_or ?_ | with_reducible refine g_not ?_ | with_reducible refine g_andV ?_ | with_reducible refine g_orV ?_ | with_reducible refine g_notV ?_ | with_reducible refine g_if ?_ | with_reducible refine g_op ?_ | with_reducible refine g_un ?_ | with_reducible refine g_cb ?_ | with_reducible refine g_nil ?_ | with_reducible refine g_cons ?_ | with_reducible refine g_call ?_ | with_reducible refine g_callS ?_ | with_reducible refine g_tup ?_ | with_reducible refine g_lst ?_ | with_reducible refine g_isN ?_ | with_reducible refine g_sl ?_ | with_reducible refine g_nopart ?_ | with_reducible refine g_part ?_ | with_reducible refine g_chain ?_ | with_reducible refine g_fld ?_ | with_reducible refine g_prop ?_ | with_reducible refine g_bm ?_ | with_reducible refine g_bm0 ?_ | with_reducible refine g_c ?_ | with_reducible refine g_sub ?_ | with_reducible refine g_int1 ?_ | with_reducible refine g_int2 ?_ | with_reducible refine g_yes ?_ | with_reducible refine g_sfld ?_ | with_reducible refine g_NT ?_ | with_reducible refine g_NF ?_ | with_reducible refine iteT ?_ | with_reducible refine iteF ?_ | ((with_reducible refine' g_aug ?hv ?_); (case hv => exact rfl)) | ((with_reducible refine' g_var ?hv ?_); (case hv => exact rfl)) | with_reducible refine g_I0 ?_ | with_reducible refine g_U ?_ | with_reducible refine g_eqI ?_ | with_reducible refine g_blV ?_ | with_reducible refine g_inV ?_)
local macro_rules | `(tactic| walk_at "rd") => `(tactic| repeat walk_at "rd1")

section
open PySem PySem.Spec PyProof.Rows L2 Gd
def top (i : Nat) : Stmt := PySem.Challenge.pw_primekinds_k03_texts_of_polynomials.main.body.getD i (.Pass ⟨0, 0, 0, 0⟩)
abbrev sWhole : Stmt := top 10
abbrev sInteger : Stmt := top 11
abbrev sIndex : Stmt := top 14
abbrev sTrimmed : Stmt := top 16
def cls (j : Nat) : Stmt := inClass (top 30) j

/-- what is known of the module's names -/
structure Txt (K : PySem.W.Frag) (mg : Str → Option Value) : Prop where
  isinstance : mg "isinstance" = none
  int : mg "int" = none
  bool : mg "bool" = none
  tuple : mg "tuple" = none
  list : mg "list" = none
  len : mg "len" = none
  all : mg "all" = none
  iter : mg "iter" = none
  bound : ∃ t, mg "BOUND" = some (.int (10 ^ 60) t)
  most : ∃ t, mg "MAX_FACTORS" = some (.int 400 t)

section
variable {P : Program} {w : World} {K : PySem.W.Frag} {mg : Str → Option Value} {base : Heap}

theorem dec_l {p q : Prop} [Decidable p] [Decidable q] (h : p) : decide (p ∧ q) = decide q := by simp [h]
theorem dec_n {p q : Prop} [Decidable p] [Decidable q] (h : ¬ p) : decide (p ∧ q) = false := by simp [h]
/-! ### is_whole -/
/-- whether a value is an integer other than True and False -/
def WholeB (K : PySem.W.Frag) (H : Hp) (x : V) (b : Bool) : Prop := ∃ t b1 b2, TyX K H x t ∧ PySem.W.kitOne K t (.type "int") = some b1 ∧
  PySem.W.kitOne K t (.type "bool") = some b2 ∧ b = (b1 && !b2)
theorem whole_int {H : Hp} {i : Int} : WholeB K H (.int i) true := ⟨_, true, false, .base (.int i), by kernel_rfl, by kernel_rfl, rfl⟩
theorem whole_bl {H : Hp} {b : Bool} : WholeB K H (.bl b) false := ⟨_, true, true, .base (.bl b), by kernel_rfl, by kernel_rfl, rfl⟩
theorem whole_non {H : Hp} : WholeB K H .non false := ⟨_, false, false, .base .non, by kernel_rfl, by kernel_rfl, rfl⟩
theorem whole_str {H : Hp} {x : Str} : WholeB K H (.str x) false := ⟨_, false, false, .base (.str x), by kernel_rfl, by kernel_rfl, rfl⟩
theorem whole_tup {H : Hp} {a : Addr} {xs : List V} (h : H a = some (.tup xs)) : WholeB K H (.ref a) false := ⟨_, false, false, .base (.tup h), by kernel_rfl, by kernel_rfl, rfl⟩
def spWhole (K : PySem.W.Frag) : Sp := fun vs H Q _ => ∃ x b, vs = [x] ∧ WholeB K H x b ∧ Q (.bl b) H
theorem scWhole : FnScope ["value"] ["value"] (defScope sWhole) := ⟨rfl, rfl, rfl, by decide +kernel, rfl, by decide +kernel, by decide +kernel⟩
theorem ok_whole {f : Addr} {fd : FuncData} (F : Fun K "is_whole" "is_whole" sWhole f fd) (T : Txt K mg) : FnOk P w K mg base CX0 1 f fd ["value"] (spWhole K) := by
  refine F.ok scWhole (fun vs H Q E h => ?_) (fun cdv A outer s H vs Q E hr h => ?_)
  · obtain ⟨x, b, rfl, _⟩ := h
    rfl
  · obtain ⟨x, b, rfl, ⟨t, b1, b2, ty, k1, k2, rfl⟩, k⟩ := h
    refine ⟨_, pss_one (ps_ret (pe_and (pe_callB call_isi (by rfl) T.isinstance (by decide +kernel) (pa_cons (pv 0) (pa_cons (pe_bltn (v := .ty "int") (by rfl) T.int (by decide +kernel) rfl) pa_nil)))
      (pe_one (pe_not (pe_callB call_isi (by rfl) T.isinstance (by decide +kernel) (pa_cons (pv 0) (pa_cons (pe_bltn (v := .ty "bool") (by rfl) T.bool (by decide +kernel) rfl) pa_nil))))))), ?_⟩
    walk_at "rd"
    refine ⟨_, _, _, _, _, rfl, .ty _, ty, k1, ?_⟩
    walk_at "rd"
    refine ite2 (fun h1 => ?_) (fun h1 => ?_)
    · walk_at "rd"
      refine ⟨_, _, _, _, _, rfl, .ty _, ty, k2, ?_⟩
      walk_at "rd"
      rw [h1] at k
      exact k
    · rw [Bool.not_eq_true] at h1
      rw [h1] at k
      exact k

/-! ### is_integer -/
def IntB (K : PySem.W.Frag) (H : Hp) (x : V) (b : Bool) : Prop := (∃ i : Int, x = .int i ∧ b = decide (-(10 ^ 60) < i ∧ i < 10 ^ 60)) ∨ (WholeB K H x false ∧ b = false)
def spInteger (K : PySem.W.Frag) : Sp := fun vs H Q _ => ∃ x b, vs = [x] ∧ IntB K H x b ∧ Q (.bl b) H
theorem scInteger : FnScope ["value"] ["value"] (defScope sInteger) := ⟨rfl, rfl, rfl, by decide +kernel, rfl, by decide +kernel, by decide +kernel⟩
/-- where is_whole stands -/
structure AtW (K : PySem.W.Frag) (mg : Str → Option Value) (f : Addr) (fd : FuncData) : Prop where
  F : Fun K "is_whole" "is_whole" sWhole f fd
  b : Binds K fd ["value"] []
  g : mg "is_whole" = some (.ref f)
theorem ok_integer {f fW : Addr} {fd fdW : FuncData} (F : Fun K "is_integer" "is_integer" sInteger f fd) (T : Txt K mg) (W : AtW K mg fW fdW) : FnOk P w K mg base CX0 2 f fd ["value"] (spInteger K) := by
  have GW : FnOk P w K mg base CX0 1 fW fdW ["value"] (spWhole K) := ok_whole W.F T
  obtain ⟨tB, gB⟩ := T.bound
  refine F.ok scInteger (fun vs H Q E h => ?_) (fun cdv A outer s H vs Q E hr h => ?_)
  · obtain ⟨x, b, rfl, _⟩ := h
    rfl
  · obtain ⟨x, b, rfl, hx, k⟩ := h
    refine ⟨_, pss_one (ps_ret (pe_and (pe_call GW hr (by rfl) W.g W.F.kp W.b .nil pass0 (pa_cons (pv 0) pa_nil))
      (pe_one (pe_chain op_lt op_lt (pe_un un_neg (pe_glob (v := .int (10 ^ 60)) (by rfl) gB ⟨_, rfl⟩)) (pv 0) (pe_glob (v := .int (10 ^ 60)) (by rfl) gB ⟨_, rfl⟩))))), ?_⟩
    walk_at "rd"
    rcases hx with ⟨i, rfl, rfl⟩ | ⟨hx, rfl⟩
    · refine ⟨_, true, rfl, whole_int, ?_⟩
      walk_at "rd"
      try refine iteT ?_
      walk_at "rd"
      refine ite2 (fun h1 => ?_) (fun h1 => ?_)
      · walk_at "rd"
        have e : decide (-(10 ^ 60) < i ∧ i < 10 ^ 60) = decide (i < 10 ^ 60) := dec_l (of_decide_eq_true h1)
        rw [e] at k
        exact k
      · have h2 : ¬ (-(10 ^ 60) : Int) < i := fun z => h1 (decide_eq_true z)
        have e : decide (-(10 ^ 60) < i ∧ i < 10 ^ 60) = false := dec_n h2
        rw [e] at k
        exact k
    · refine ⟨_, false, rfl, hx, ?_⟩
      walk_at "rd"
      first | exact k | exact iteF k

/-! ### require_index -/
def IndexOk (K : PySem.W.Frag) (H : Hp) (x : V) (b : Bool) : Prop := (∃ i : Int, x = .int i ∧ b = decide (0 ≤ i ∧ i < 10 ^ 60)) ∨ (WholeB K H x false ∧ b = false)
def spIndex (K : PySem.W.Frag) (C : Addr) : Sp := fun vs H Q E => ∃ x b, vs = [x] ∧ IndexOk K H x b ∧ (b = true → Q .non H) ∧
  (b = false → ∀ d, H d = none → E (.ref C) (some d) (upd H d (.xd [(("value" : Str), x)])))
structure AtI (K : PySem.W.Frag) (mg : Str → Option Value) (f : Addr) (fd : FuncData) : Prop where
  F : Fun K "is_integer" "is_integer" sInteger f fd
  b : Binds K fd ["value"] []
  g : mg "is_integer" = some (.ref f)
theorem scIndex : FnScope ["value"] ["value"] (defScope sIndex) := ⟨rfl, rfl, rfl, by decide +kernel, rfl, by decide +kernel, by decide +kernel⟩
theorem ok_index {f fW fI C fC : Addr} {fd fdW fdI : FuncData} (F : Fun K "require_index" "require_index" sIndex f fd) (T : Txt K mg) (W : AtW K mg fW fdW) (I : AtI K mg fI fdI) (N : PySem.XInvalidNumber.InvalidNumberTxt K mg C fC) :
    FnOk P w K mg base (L2.CX P w) 4 f fd ["value"] (spIndex K C) := by
  have GI : FnOk P w K mg base CX0 2 fI fdI ["value"] (spInteger K) := ok_integer I.F T W
  refine F.okX scIndex (fun vs H Q E h => ?_) (fun cdv A outer s H vs Q E hr h => ?_)
  · obtain ⟨x, b, rfl, _⟩ := h
    rfl
  · obtain ⟨x, b, rfl, hx, k1, k2⟩ := h
    refine ⟨_, pss_one (ps_if (PW.pt (pw_or (pt_not (pt_val (pe_call GI (hr.mono (by decide)) (by rfl) I.g I.F.kp I.b .nil pass0 (pa_cons (pv 0) pa_nil)))) (pw_or1 (pt_cmpR op_lt (pv 0) pe_int (nomark _)))))
      (pss_one (ps_raiseInvalidNumber rfl N hr (takes_of rfl rfl rfl rfl) (by exact (pa_cons (pv 0) pa_nil)))) pss_nil), ?_⟩
    walk_at "rd"
    rcases hx with ⟨i, rfl, rfl⟩ | ⟨hx, rfl⟩
    · refine ⟨_, _, rfl, .inl ⟨i, rfl, rfl⟩, ?_⟩
      walk_at "rd"
      by_cases h1 : -(10 ^ 60) < i ∧ i < 10 ^ 60
      · rw [decide_eq_true h1]
        try refine iteF ?_
        walk_at "rd"
        by_cases h2 : i < 0
        · rw [decide_eq_true h2]
          try refine iteT ?_
          refine ⟨_, rfl, _, rfl, ?_⟩
          exact k2 (decide_eq_false (by omega))
        · rw [decide_eq_false h2]
          try refine iteF ?_
          exact k1 (decide_eq_true (by omega))
      · rw [decide_eq_false h1]
        iterate 2 (try refine iteT ?_)
        refine ⟨_, rfl, _, rfl, ?_⟩
        exact k2 (decide_eq_false (by omega))
    · refine ⟨_, _, rfl, .inr ⟨hx, rfl⟩, ?_⟩
      walk_at "rd"
      iterate 2 (try refine iteT ?_)
      refine ⟨_, rfl, _, rfl, ?_⟩
      exact k2 rfl
end
end

/-! Rows without zeros at their end. -/

section
open PySem PySem.Spec PyProof.Rows L2 Gd
/-! ### the mathematics -/
def trim : List Int → List Int
  | [] => []
  | x :: r => match trim r with
    | [] => if x = 0 then [] else [x]
    | y :: s => x :: y :: s
theorem trim_take : ∀ (ns : List Int) (e : Nat), e ≤ ns.length → (∀ j x, e ≤ j → ns[j]? = some x → x = 0) →
    (e = 0 ∨ ∃ x, ns[e - 1]? = some x ∧ x ≠ 0) → trim ns = ns.take e
  | [], e, h, _, _ => by
    have : e = 0 := Nat.le_zero.mp h
    subst this
    rfl
  | x :: r, 0, _, hz, _ => by
    have ih := trim_take r 0 (Nat.zero_le _) (fun j y _ e => hz (j + 1) y (Nat.zero_le _) e) (.inl rfl)
    have hx : x = 0 := hz 0 x (Nat.le_refl _) rfl
    unfold trim
    rw [ih]
    show (if x = 0 then [] else [x]) = []
    rw [if_pos hx]
  | x :: r, 1, _, hz, hl => by
    have ih := trim_take r 0 (Nat.zero_le _) (fun j y _ e => hz (j + 1) y (by omega) e) (.inl rfl)
    have hx : x ≠ 0 := by
      rcases hl with hl | ⟨y, e, hy⟩
      · cases hl
      · cases e
        exact hy
    unfold trim
    rw [ih]
    show (if x = 0 then [] else [x]) = [x]
    rw [if_neg hx]
  | x :: r, e + 2, h, hz, hl => by
    have hl' : e + 1 ≤ r.length := by simpa using h
    have ih := trim_take r (e + 1) hl' (fun j y g q => hz (j + 1) y (by omega) q) (.inr (by
      rcases hl with hl | ⟨y, q, hy⟩
      · cases hl
      · exact ⟨y, q, hy⟩))
    unfold trim
    rw [ih]
    cases r with
    | nil => simp at hl'
    | cons y s => rfl
theorem trim_len (ns : List Int) : (trim ns).length ≤ ns.length := by
  induction ns with
  | nil => exact Nat.le_refl _
  | cons x r ih =>
    unfold trim
    split
    · split <;> simp
    · rename_i y s e
      rw [e] at ih
      simp only [List.length_cons] at ih ⊢
      omega
theorem trim_mem (ns : List Int) : ∀ x ∈ trim ns, x ∈ ns := by
  induction ns with
  | nil => intro x h; exact h
  | cons y r ih =>
    intro x h
    unfold trim at h
    split at h
    · split at h
      · cases h
      · rcases List.mem_cons.mp h with rfl | h
        · exact List.mem_cons_self
        · cases h
    · rename_i z s e
      rw [e] at ih
      rcases List.mem_cons.mp h with rfl | h
      · exact List.mem_cons_self
      · exact List.mem_cons_of_mem _ (ih x h)

/-! ### trimmed -/
section
variable {P : Program} {w : World} {K : PySem.W.Frag} {mg : Str → Option Value} {base : Heap}
/-- the same things, all that was known is known still -/
def Ext (H H' : Hp) : Prop := ∀ b o, H b = some o → H' b = some o
theorem Ext.rfl' {H : Hp} : Ext H H := fun _ _ h => h
theorem Ext.new {H : Hp} {p : Addr} {o : HO} (h : H p = none) : Ext H (upd H p o) := fun b u e => by
  rw [upd_ne (ne_of_none e h)]
  exact e
theorem Ext.trans {H H1 H2 : Hp} (a : Ext H H1) (b : Ext H1 H2) : Ext H H2 := fun c o h => b c o (a c o h)
theorem mapget {ns : List Int} {i : Nat} : (ns.map V.int)[i]? = (ns[i]?).map V.int := List.getElem?_map
def spTrimmed (K : PySem.W.Frag) : Sp := fun vs H Q _ => ∃ (a : Addr) (ns : List Int), vs = [.ref a] ∧ SqT K H a (ns.map V.int) ∧ ns.length ≤ 100000 ∧
  ∀ H' u, Ext H H' → SqT K H' u ((trim ns).map V.int) → Q (.ref u) H'
/-- the measure: the int in a slot -/
def muI (i : Nat) : L2.St → Hp → Nat := fun σ _ => match σ[i]? with | some (some (.int e)) => e.toNat | _ => 0
def PvT (a : Addr) (H0 : Hp) (ns : List Int) : L2.St → Hp → Prop := fun σ H' => H' = H0 ∧ ∃ e : Nat, σ = [some (.ref a), some (.int (e : Int))] ∧ e ≤ ns.length ∧ ∀ j x, e ≤ j → ns[j]? = some x → x = 0
theorem scTrimmed : FnScope ["row", "end"] ["row"] (defScope sTrimmed) := ⟨rfl, rfl, rfl, by decide +kernel, rfl, by decide +kernel, by decide +kernel⟩
theorem ok_trimmed {f : Addr} {fd : FuncData} (F : Fun K "trimmed" "trimmed" sTrimmed f fd) (T : Txt K mg) : FnOk P w K mg base CX0 1 f fd ["row"] (spTrimmed K) := by
  refine F.ok scTrimmed (fun vs H Q E h => ?_) (fun cdv A outer s H vs Q E hr h => ?_)
  · obtain ⟨x, b, rfl, _⟩ := h
    rfl
  · obtain ⟨a, ns, rfl, hs, hl, k⟩ := h
    refine ⟨_, pss_cons (ps_set (i := 1) scTrimmed.nd rfl (Or.inl rfl) (pe_callB call_len_seq (by rfl) T.len PySem.boot_len (pa_cons (pv 0) pa_nil)))
      (pss_cons (ps_while PassesOwn.never (PW.pt (pw_and (pt_cmpR op_gt (pv 1) pe_int (nomark _)) (pw_and1 (pt_cmpR op_eq (pe_ix ix_tup (pv 0) (pe_op op_sub (pv 1) pe_int) (fun _ _ => rfl)) pe_int (nomark _)))))
          (pss_one (ps_aug (i := 1) scTrimmed.nd rfl (Or.inl rfl) pe_int ip_sub)))
        (pss_one (ps_ret (pe_callTy call_tupleT (by rfl) T.tuple (by decide +kernel) (pa_cons (pe_slice sl_tupA (pv 0) po_none (po_some (pv 1))) pa_nil))))), ?_⟩
    walk_at "rd"
    refine ⟨a, _, rfl, .inr hs, ?_⟩
    walk_at "rd"
    refine g_while (PvT a H ns) (muI 1) ⟨rfl, ns.length, by rw [List.length_map]; rfl, Nat.le_refl _, fun j x g e => by
        rw [List.getElem?_eq_none_iff.mpr g] at e
        cases e⟩ ?_
    rintro σ H' ⟨rfl, e, rfl, he, hz⟩
    walk_at "rd"
    have fin : (e = 0 ∨ ∃ x, ns[e - 1]? = some x ∧ x ≠ 0) → tRet (tCB (fun xs H Q => ∃ a ys, xs = [V.ref a] ∧ SqT K H a ys ∧ Q (V.ref a) H) (tCons (tSl (rSlA K) (tVar 0) tNoPart (tPart (tVar 1))) tNil))
        { nx := fun x H' => Q V.non H', rt := Q } [some (V.ref a), some (V.int (e : Int))] H' := by
      intro hl'
      have et := trim_take ns e he hz hl'
      walk_at "rd"
      have s1 : HT.sIx (ns.map V.int).length 0 none = 0 := rfl
      have s2 : HT.sIx (ns.map V.int).length (ns.map V.int).length (some (e : Int)) = e := by
        rw [HT.sIx_nat, List.length_map]
        omega
      refine ⟨a, _, rfl, hs, fun q => ?_, fun q p hp => ?_⟩
      · rw [s1, s2] at q
        have : trim ns = ns := by rw [et, List.take_of_length_le (by have := q.2; rw [List.length_map] at this; omega)]
        refine ⟨_, _, rfl, hs, k _ a Ext.rfl' ?_⟩
        rw [this]
        exact hs
      · refine ⟨_, _, rfl, SqT.of upd_same, k _ p (Ext.new hp) ?_⟩
        have ec : cutV (ns.map V.int) none (some (e : Int)) = (trim ns).map V.int := by
          unfold cutV
          rw [s1, s2, et, List.drop_zero, Nat.sub_zero, List.map_take]
        rw [← ec]
        exact SqT.of upd_same
    refine ite2 (fun h1 => ?_) (fun h1 => ?_)
    · have h1' : 0 < e := by
        have := of_decide_eq_true h1
        omega
      walk_at "rd"
      have hlt : e - 1 < ns.length := by omega
      have ge : (ns.map V.int)[e - 1]? = some (V.int ns[e - 1]) := by rw [mapget, List.getElem?_eq_getElem hlt]; rfl
      refine g_ixT hs (v := .int ns[e - 1]) ?_ ?_
      · have := atI_nat ge
        have q : ((e : Int) - 1) = ((e - 1 : Nat) : Int) := by omega
        rw [q]
        exact this
      walk_at "rd"
      refine ite2 (fun h2 => ?_) (fun h2 => ?_)
      · refine g_turn ?_
        walk_at "rd"
        refine ⟨_, _, rfl, rfl, ?_⟩
        refine ⟨⟨rfl, e - 1, ?_, by omega, fun j x g q => ?_⟩, ?_⟩
        · show [some (V.ref a), some (V.int ((e : Int) - 1))] = _
          have q : ((e : Int) - 1) = ((e - 1 : Nat) : Int) := by omega
          rw [q]
        · by_cases hj : j = e - 1
          · subst hj
            rw [List.getElem?_eq_getElem hlt] at q
            cases q
            exact of_decide_eq_true h2
          · exact hz j x (by omega) q
        · show ((e : Int) - 1).toNat < ((e : Int)).toNat
          omega
      · refine fin (.inr ⟨_, List.getElem?_eq_getElem hlt, fun z => h2 (decide_eq_true z)⟩)
    · refine iteF (fin (.inl ?_))
      have : ¬ (0 : Int) < (e : Int) := fun z => h1 (decide_eq_true z)
      omega
end
end

/-! The class Poly. -/

section
open PySem PySem.Spec PyProof.Rows L2 Gd
section
variable {P : Program} {w : World} {K : PySem.W.Frag} {mg : Str → Option Value} {base : Heap}
/-- the class at C -/
structure PC (K : PySem.W.Frag) (mg : Str → Option Value) (C : Addr) : Prop where
  cl : Cls K C
  noF : NoAttr K C "_factors"
  g : mg "Poly" = some (.ref C)
  kp : PySem.W.keepIn K (.ref C) = true
  ha : PySem.W.findIn K (.ref C) "__class__" = some (some (.builtin "object.__class__"))
  hn : PySem.W.specialIn K (.builtin "object.__class__") "__get__" = some (some (.builtin "getset_descriptor.__get__"))
  htk : PySem.W.takesIn K (.builtin "object.__class__") = some true
  hm : PySem.W.mroIn K C (.type "object") = some true
  kit : PySem.W.kitOne K (.ref C) (.ref C) = some true
  ne : NeC K C
theorem PC.ty {C : Addr} (T : PC K mg C) {H : Hp} {p dx : Addr} {fs : List (Str × V)} (h : H p = some (.ins C dx fs)) : TyX K H (.ref p) (.ref C) := .base (.ins h T.cl T.ha T.hn T.htk T.hm)
/-- a polynomial at p: its tuple at u has the factors ns -/
def PolyU (K : PySem.W.Frag) (C : Addr) (H : Hp) (p u : Addr) (ns : List Int) : Prop := (∃ dx, H p = some (.ins C dx [(("_factors" : Str), .ref u)])) ∧ SqT K H u (ns.map V.int) ∧ ns.length ≤ 100000
theorem sqT_ext {H H' : Hp} {a : Addr} {xs : List V} (e : Ext H H') (h : SqT K H a xs) : SqT K H' a xs := by
  rcases h with (h | ⟨o, h⟩) | h
  · exact .inl (.inl (e _ _ h))
  · exact .inl (.inr ⟨o, e _ _ h⟩)
  · exact .inr h
theorem sqL_ext {H H' : Hp} {a : Addr} {xs : List V} (e : Ext H H') (h : SqL K H a xs) : SqL K H' a xs := by
  rcases h with (h | ⟨o, h⟩) | h
  · exact .inl (.inl (e _ _ h))
  · exact .inl (.inr ⟨o, e _ _ h⟩)
  · exact .inr h
theorem PolyU.ext {C p u : Addr} {H H' : Hp} {ns : List Int} (e : Ext H H') (h : PolyU K C H p u ns) : PolyU K C H' p u ns := by
  obtain ⟨⟨dx, h1⟩, h2, h3⟩ := h
  exact ⟨⟨dx, e _ _ h1⟩, sqT_ext e h2, h3⟩
/-! ### __init__ -/
abbrev sInit : Stmt := cls 0
def ExtBut (p : Addr) (H H' : Hp) : Prop := ∀ b o, b ≠ p → H b = some o → H' b = some o
def Big (ns : List Int) : Prop := ∀ n ∈ ns, -(10 ^ 60) < n ∧ n < 10 ^ 60
def spInit (K : PySem.W.Frag) (C : Addr) : Sp := fun vs H Q _ => ∃ (p dx a : Addr) (ns : List Int), vs = [.ref p, .ref a] ∧ H p = some (.ins C dx []) ∧ SqT K H a (ns.map V.int) ∧ ns.length ≤ 400 ∧ Big ns ∧
  ∀ H' u, ExtBut p H H' → H' p = some (.ins C dx [(("_factors" : Str), .ref u)]) → SqT K H' u ((trim ns).map V.int) → Q .non H'
theorem scInit : FnScope ["self", "factors", "factor"] ["self", "factors"] (defScope sInit) := ⟨rfl, rfl, rfl, by decide +kernel, rfl, by decide +kernel, by decide +kernel⟩
structure AtT (K : PySem.W.Frag) (mg : Str → Option Value) (f : Addr) (fd : FuncData) : Prop where
  F : Fun K "trimmed" "trimmed" sTrimmed f fd
  b : Binds K fd ["row"] []
  g : mg "trimmed" = some (.ref f)
abbrev FnI (K : PySem.W.Frag) (t0 f : Addr) (fd : FuncData) : Prop := FunD K "__init__" "Poly.__init__" (defArgs sInit) (defBody sInit) (defScope sInit) [.ref t0] [] f fd
theorem ok_init {f fW fI fT C t0 : Addr} {fd fdW fdI fdT : FuncData} (F : FnI K t0 f fd) (T : Txt K mg) (Cl : PC K mg C) (W : AtW K mg fW fdW) (I : AtI K mg fI fdI) (R : AtT K mg fT fdT) :
    FnOk P w K mg base CX0 4 f fd ["self", "factors"] (spInit K C) := by
  have GI : FnOk P w K mg base CX0 2 fI fdI ["value"] (spInteger K) := ok_integer I.F T W
  have GT : FnOk P w K mg base CX0 1 fT fdT ["row"] (spTrimmed K) := ok_trimmed R.F T
  obtain ⟨tM, gM⟩ := T.most
  refine F.ok scInit (fun vs H Q E h => ?_) (fun cdv A outer s H vs Q E hr h => ?_)
  · obtain ⟨p, dx, a, ns, rfl, _⟩ := h
    rfl
  · obtain ⟨p, dx, a, ns, rfl, hp, hs, hl, hB, k⟩ := h
    refine ⟨_, PSs.nox (pss_cons (ps_if (PW.pt (pw_or (pt_not (pt_val (pe_callB call_isi (by rfl) T.isinstance (by decide +kernel) (pa_cons (pv 1) (pa_cons (pe_bltn (v := .ty "tuple") (by rfl) T.tuple (by decide +kernel) rfl) pa_nil)))))
        (pw_or1 (pt_cmpR op_gt (pe_callB call_len_seq (by rfl) T.len PySem.boot_len (pa_cons (pv 1) pa_nil)) (pe_glob (v := .int 400) (by rfl) gM ⟨_, rfl⟩) (nomark _))))) (pss_one ps_never) pss_nil)
      (pss_cons (ps_if (pt_not (pt_val (pe_callB (cr_all rfl) (by rfl) T.all (by decide +kernel) (pa_cons
          (pe_lc (own := [("factor", 2)]) (g := gName 2) (tt := tYes) rfl scInit.nd (pi_tup (pv 1)) (blkOk_by (N := ["self", "factors", "factor"]) (sc := defScope sInit) (by decide +kernel)) (fun _ _ _ _ _ => pg_name (i := 2) scInit.nd rfl (Or.inl rfl)) (fun _ _ _ _ _ => pts_nil)
            (fun _ _ _ _ _ => pe_call GI (hr.mono (by decide)) (by rfl) I.g I.F.kp I.b .nil pass0 (pa_cons (pv 2) pa_nil))) pa_nil)))) (pss_one ps_never) pss_nil)
        (pss_one (ps_fld (pv 0) (pe_call GT (hr.mono (by decide)) (by rfl) R.g R.F.kp R.b .nil pass0 (pa_cons (pv 1) pa_nil)) rfl)))), ?_⟩
    walk_at "rd"
    refine ⟨_, _, _, _, true, rfl, .ty _, tyT hs, by kernel_rfl, ?_⟩
    walk_at "rd"
    refine ⟨a, _, rfl, .inr hs, ?_⟩
    walk_at "rd"
    rw [decide_eq_false (by rw [List.length_map]; omega)]
    walk_at "rd"
    refine ⟨_, rfl, a, rfl, ⟨_, hs⟩, fun D hD => lc_tup (xs := ns.map V.int) (fun i H' => Ext H H' ∧ H' D = some (.lst ((ns.take i).map fun _ => V.bl true)))
      ⟨Ext.new hD, upd_same⟩ (fun i H' _ q => sqT_ext q.1 hs) ?_ ?_⟩
    · rintro i x H' hi ⟨e, hD'⟩
      rw [mapget] at hi
      obtain ⟨n, hn, rfl⟩ := Option.map_eq_some_iff.mp hi
      have hlt : i < ns.length := (List.getElem?_eq_some_iff.mp hn).1
      refine ⟨rfl, ?_⟩
      walk_at "rd"
      refine ⟨_, true, rfl, .inl ⟨n, rfl, (decide_eq_true (hB n (List.mem_of_getElem? hn))).symm⟩, _, hD', ?_, ?_, ?_⟩
      · rw [List.length_map, List.length_take, sizeLine_eq]
        omega
      · intro b o q
        rw [upd_ne (ne_of_none q hD)]
        exact e b o q
      · rw [upd_same, take_one hlt, List.map_append]
        rfl
    · rintro H' ⟨e, hD'⟩
      walk_at "rd"
      refine ⟨D, ns.map fun _ => true, rfl, SqL.of ?_, ?_⟩
      · rw [hD', List.length_map, List.take_length, List.map_map]
        rfl
      have all : (ns.map fun _ => true).all id = true := by simp
      rw [all]
      walk_at "rd"
      refine ⟨a, ns, rfl, sqT_ext e hs, by omega, ?_⟩
      intro H2 u e2 hu
      have hp2 : H2 p = some (.ins C dx []) := e2 _ _ (e _ _ hp)
      walk_at "rd"
      refine ⟨p, C, dx, [], rfl, hp2, Cl.cl, Cl.noF, by decide, ?_⟩
      refine k _ u ?_ upd_same ?_
      · intro b o hb q
        rw [upd_ne hb]
        exact e2 _ _ (e _ _ q)
      · rcases hu with (h | ⟨o, h⟩) | h
        · refine .inl (.inl ?_)
          rw [upd_ne (ne_of h hp2 (by intro z; cases z))]
          exact h
        · refine .inl (.inr ⟨o, ?_⟩)
          rw [upd_ne (ne_of h hp2 (by intro z; cases z))]
          exact h
        · exact .inr h
end
end

/-! What a polynomial shows. -/

section
open PySem PySem.Spec PyProof.Rows L2 Gd
section
variable {P : Program} {w : World} {K : PySem.W.Frag} {mg : Str → Option Value} {base : Heap}
theorem look1 {u : V} : ([(("_factors" : Str), u)] : List (Str × V)).lookup ("_factors" : Str) = some u := by simp [List.lookup]
/-! ### data -/
def idata (ns : List Int) : List PyData := ns.map PyData.int
theorem eqv_ints : ∀ (ns ms : List Int), PyData.eqvAll (idata ns) (idata ms) = decide (ns = ms)
  | [], [] => rfl
  | [], y :: s => by simp [idata, PyData.eqvAll]
  | x :: r, [] => by simp [idata, PyData.eqvAll]
  | x :: r, y :: s => by
    have ih := eqv_ints r s
    show (PyData.eqv (.int x) (.int y) && PyData.eqvAll (idata r) (idata s)) = _
    rw [ih]
    show ((x == y) && decide (r = s)) = _
    by_cases h : x = y
    · subst h
      by_cases g : r = s
      · subst g
        simp
      · simp [g]
    · simp [h]
theorem lay_ints : ∀ ns : List Int, PyData.canLayAll0 (idata ns) = true
  | [] => rfl
  | x :: r => by
    show (PyData.canLay0 (.int x) && PyData.canLayAll0 (idata r)) = true
    rw [lay_ints r]
    rfl
theorem deep_ints : ∀ ns : List Int, PyData.depthAll (idata ns) = 0
  | [] => rfl
  | x :: r => by
    show max (PyData.depth (.int x)) (PyData.depthAll (idata r)) = 0
    rw [deep_ints r]
    rfl
theorem dp_ints {H : Hp} : ∀ ns : List Int, DpAll K H (ns.map V.int) (idata ns)
  | [] => .nil
  | x :: r => .cons (.int x) (dp_ints r)
theorem dp_tup {H : Hp} {a : Addr} {ns : List Int} (h : SqT K H a (ns.map V.int)) : Dp K H (.ref a) (.tuple (idata ns)) := .tup h (dp_ints ns)
theorem shaped_tup (ns : List Int) : SeqAt.shaped (.tuple (idata ns)) = true := by
  unfold SeqAt.shaped
  rw [show PyData.canLay0 (.tuple (idata ns)) = PyData.canLayAll0 (idata ns) from rfl, lay_ints, show PyData.depth (.tuple (idata ns)) = PyData.depthAll (idata ns) + 1 from rfl, deep_ints]
  rfl
/-- a promise of a method without arguments: from the polynomial at p, its tuple at u, its factors ns, the answer v and nothing changed -/
def spGet (K : PySem.W.Frag) (C : Addr) (v : Addr → List Int → V) : Sp := fun vs H Q _ => ∃ (p u : Addr) (ns : List Int), vs = [.ref p] ∧ PolyU K C H p u ns ∧ Q (v u ns) H
theorem scS {j : Nat} (h : defScope (cls j) = defScope (cls 2)) : FnScope ["self"] ["self"] (defScope (cls j)) := by
  rw [h]
  exact ⟨rfl, rfl, rfl, by decide +kernel, rfl, by decide +kernel, by decide +kernel⟩
theorem sc2 : FnScope ["self"] ["self"] (defScope (cls 2)) := ⟨rfl, rfl, rfl, by decide +kernel, rfl, by decide +kernel, by decide +kernel⟩
theorem sc3 : FnScope ["self"] ["self"] (defScope (cls 3)) := ⟨rfl, rfl, rfl, by decide +kernel, rfl, by decide +kernel, by decide +kernel⟩
theorem sc15 : FnScope ["self", "index"] ["self", "index"] (defScope (cls 15)) := ⟨rfl, rfl, rfl, by decide +kernel, rfl, by decide +kernel, by decide +kernel⟩
theorem sc16 : FnScope ["self"] ["self"] (defScope (cls 16)) := ⟨rfl, rfl, rfl, by decide +kernel, rfl, by decide +kernel, by decide +kernel⟩
theorem sc17 : FnScope ["self"] ["self"] (defScope (cls 17)) := ⟨rfl, rfl, rfl, by decide +kernel, rfl, by decide +kernel, by decide +kernel⟩
theorem sc18 : FnScope ["self"] ["self"] (defScope (cls 18)) := ⟨rfl, rfl, rfl, by decide +kernel, rfl, by decide +kernel, by decide +kernel⟩
theorem sc19 : FnScope ["self", "other"] ["self", "other"] (defScope (cls 19)) := ⟨rfl, rfl, rfl, by decide +kernel, rfl, by decide +kernel, by decide +kernel⟩
variable {f C : Addr} {fd : FuncData}
theorem ok_factors (F : Fun K "factors" "Poly.factors" (cls 2) f fd) (Cl : PC K mg C) : FnOk P w K mg base CX0 1 f fd ["self"] (spGet K C fun u _ => .ref u) := by
  refine F.ok sc2 (fun vs H Q E h => ?_) (fun cdv A outer s H vs Q E hr h => ?_)
  · obtain ⟨p, u, ns, rfl, _⟩ := h
    rfl
  · obtain ⟨p, u, ns, rfl, ⟨⟨dx, hp⟩, hu, hl⟩, k⟩ := h
    refine ⟨_, pss_one (ps_ret (pe_fld (pv 0) rfl)), ?_⟩
    walk_at "rd"
    exact ⟨p, C, dx, _, _, rfl, hp, Cl.cl, Cl.noF, look1, k⟩
theorem ok_degree (F : Fun K "degree" "Poly.degree" (cls 3) f fd) (T : Txt K mg) (Cl : PC K mg C) : FnOk P w K mg base CX0 1 f fd ["self"] (spGet K C fun _ ns => .int ((ns.length : Int) - 1)) := by
  refine F.ok sc3 (fun vs H Q E h => ?_) (fun cdv A outer s H vs Q E hr h => ?_)
  · obtain ⟨p, u, ns, rfl, _⟩ := h
    rfl
  · obtain ⟨p, u, ns, rfl, ⟨⟨dx, hp⟩, hu, hl⟩, k⟩ := h
    refine ⟨_, pss_one (ps_ret (pe_op op_sub (pe_callB call_len_seq (by rfl) T.len PySem.boot_len (pa_cons (pe_fld (pv 0) rfl) pa_nil)) pe_int)), ?_⟩
    walk_at "rd"
    refine ⟨p, C, dx, _, _, rfl, hp, Cl.cl, Cl.noF, look1, ?_⟩
    walk_at "rd"
    refine ⟨u, _, rfl, .inr hu, ?_⟩
    walk_at "rd"
    rw [List.length_map]
    exact k
theorem ok_len (F : Fun K "__len__" "Poly.__len__" (cls 16) f fd) (T : Txt K mg) (Cl : PC K mg C) : FnOk P w K mg base CX0 1 f fd ["self"] (spGet K C fun _ ns => .int (ns.length : Int)) := by
  refine F.ok sc16 (fun vs H Q E h => ?_) (fun cdv A outer s H vs Q E hr h => ?_)
  · obtain ⟨p, u, ns, rfl, _⟩ := h
    rfl
  · obtain ⟨p, u, ns, rfl, ⟨⟨dx, hp⟩, hu, hl⟩, k⟩ := h
    refine ⟨_, pss_one (ps_ret (pe_callB call_len_seq (by rfl) T.len PySem.boot_len (pa_cons (pe_fld (pv 0) rfl) pa_nil))), ?_⟩
    walk_at "rd"
    refine ⟨p, C, dx, _, _, rfl, hp, Cl.cl, Cl.noF, look1, ?_⟩
    walk_at "rd"
    refine ⟨u, _, rfl, .inr hu, ?_⟩
    rw [List.length_map]
    exact k
theorem ok_bool (F : Fun K "__bool__" "Poly.__bool__" (cls 17) f fd) (T : Txt K mg) (Cl : PC K mg C) : FnOk P w K mg base CX0 1 f fd ["self"] (spGet K C fun _ ns => .bl (decide (0 < (ns.length : Int)))) := by
  refine F.ok sc17 (fun vs H Q E h => ?_) (fun cdv A outer s H vs Q E hr h => ?_)
  · obtain ⟨p, u, ns, rfl, _⟩ := h
    rfl
  · obtain ⟨p, u, ns, rfl, ⟨⟨dx, hp⟩, hu, hl⟩, k⟩ := h
    refine ⟨_, pss_one (ps_ret (pe_cmpR op_gt (pe_callB call_len_seq (by rfl) T.len PySem.boot_len (pa_cons (pe_fld (pv 0) rfl) pa_nil)) pe_int (nomark _))), ?_⟩
    walk_at "rd"
    refine ⟨p, C, dx, _, _, rfl, hp, Cl.cl, Cl.noF, look1, ?_⟩
    walk_at "rd"
    refine ⟨u, _, rfl, .inr hu, ?_⟩
    walk_at "rd"
    rw [List.length_map]
    exact k
/-- what list(o) asks -/
def PolyR (K : PySem.W.Frag) (C : Addr) (p u : Addr) (ys : List V) (H : Hp) : Prop := ∃ ns : List Int, ys = ns.map V.int ∧ PolyU K C H p u ns
theorem ok_iter (F : Fun K "__iter__" "Poly.__iter__" (cls 18) f fd) (T : Txt K mg) (Cl : PC K mg C) : FnOk P w K mg base CX0 1 f fd ["self"] (spIt K (PolyR K C)) := by
  refine F.ok sc18 (fun vs H Q E h => ?_) (fun cdv A outer s H vs Q E hr h => ?_)
  · obtain ⟨p, u, ns, rfl, _⟩ := h
    rfl
  · obtain ⟨p, u, ys, rfl, ⟨ns, rfl, ⟨dx, hp⟩, hu, hl⟩, _, k⟩ := h
    refine ⟨_, pss_one (ps_ret (pe_callB call_iterT (by rfl) T.iter (by decide +kernel) (pa_cons (pe_fld (pv 0) rfl) pa_nil))), ?_⟩
    walk_at "rd"
    refine ⟨p, C, dx, _, _, rfl, hp, Cl.cl, Cl.noF, look1, ?_⟩
    walk_at "rd"
    exact ⟨u, _, rfl, hu, k⟩
theorem len_ln : ∀ vs H Q E, spLn (PolyR K C) vs H Q E → spGet K C (fun _ ns => .int (ns.length : Int)) vs H Q E := by
  rintro vs H Q E ⟨p, u, ys, rfl, ⟨ns, rfl, h⟩, k⟩
  rw [List.length_map] at k
  exact ⟨p, u, ns, rfl, h, k⟩
/-- == : from two polynomials, or something else that is no polynomial -/
def spEqP (K : PySem.W.Frag) (C : Addr) : Sp := fun vs H Q _ => ∃ (p u : Addr) (ns : List Int) (y : V), vs = [.ref p, y] ∧ PolyU K C H p u ns ∧
  ((∃ (q v : Addr) (ms : List Int), y = .ref q ∧ PolyU K C H q v ms ∧ Q (.bl (decide (ns = ms))) H) ∨ (∃ t, TyX K H y t ∧ PySem.W.kitOne K t (.ref C) = some false ∧ Q (.bl false) H))
theorem ok_eq (F : Fun K "__eq__" "Poly.__eq__" (cls 19) f fd) (T : Txt K mg) (Cl : PC K mg C) : FnOk P w K mg base CX0 1 f fd ["self", "other"] (spEqP K C) := by
  refine F.ok sc19 (fun vs H Q E h => ?_) (fun cdv A outer s H vs Q E hr h => ?_)
  · obtain ⟨p, u, ns, y, rfl, _⟩ := h
    rfl
  · obtain ⟨p, u, ns, y, rfl, ⟨⟨dx, hp⟩, hu, hl⟩, h⟩ := h
    refine ⟨_, pss_one (ps_ret (pe_and (pe_callB call_isi (by rfl) T.isinstance (by decide +kernel) (pa_cons (pv 1) (pa_cons (pe_glob (v := .ref C) (by rfl) Cl.g rfl) pa_nil)))
      (pe_one (pe_cmpR (op_eqD hr.units) (pe_fld (pv 0) rfl) (pe_fld (pv 1) rfl) (nomark _))))), ?_⟩
    walk_at "rd"
    rcases h with ⟨q, v, ms, rfl, ⟨⟨dy, hq⟩, hv, hm⟩, k⟩ | ⟨t, ty, kt, k⟩
    · refine ⟨_, _, _, _, true, rfl, .own C, Cl.ty hq, Cl.kit, ?_⟩
      walk_at "rd"
      refine ⟨p, C, dx, _, _, rfl, hp, Cl.cl, Cl.noF, look1, ?_⟩
      walk_at "rd"
      refine ⟨q, C, dy, _, _, rfl, hq, Cl.cl, Cl.noF, look1, ?_⟩
      refine ⟨_, _, dp_tup hu, dp_tup hv, shaped_tup _, shaped_tup _, ?_⟩
      show Q (.bl (PyData.eqvAll (idata ns) (idata ms))) H
      rw [eqv_ints]
      exact k
    · refine ⟨_, _, _, _, false, rfl, .own C, ty, kt, ?_⟩
      walk_at "rd"
      exact k
end
end

/-! poly[index]. -/

section
open PySem PySem.Spec PyProof.Rows L2 Gd
section
variable {P : Program} {w : World} {K : PySem.W.Frag} {mg : Str → Option Value} {base : Heap} {f C : Addr} {fd : FuncData}
structure AtX (K : PySem.W.Frag) (mg : Str → Option Value) (f : Addr) (fd : FuncData) : Prop where
  F : Fun K "require_index" "require_index" sIndex f fd
  b : Binds K fd ["value"] []
  g : mg "require_index" = some (.ref f)
def spItem (K : PySem.W.Frag) (C CN : Addr) : Sp := fun vs H Q E => ∃ (p u : Addr) (ns : List Int) (y : V) (b : Bool), vs = [.ref p, y] ∧ PolyU K C H p u ns ∧ IndexOk K H y b ∧
  (b = true → ∀ i, y = .int i → Q (.int ((ns[i.toNat]?).getD 0)) H) ∧
  (b = false → ∀ d, H d = none → E (.ref CN) (some d) (upd H d (.xd [(("value" : Str), y)])))
theorem ok_item {fW fI fX CN fC : Addr} {fdW fdI fdX : FuncData} (F : Fun K "__getitem__" "Poly.__getitem__" (cls 15) f fd) (T : Txt K mg) (Cl : PC K mg C) (W : AtW K mg fW fdW) (I : AtI K mg fI fdI) (X : AtX K mg fX fdX)
    (N : PySem.XInvalidNumber.InvalidNumberTxt K mg CN fC) : FnOk P w K mg base (L2.CX P w) 5 f fd ["self", "index"] (spItem K C CN) := by
  have GX : FnOk P w K mg base (L2.CX P w) 4 fX fdX ["value"] (spIndex K CN) := ok_index X.F T W I N
  refine F.okX sc15 (fun vs H Q E h => ?_) (fun cdv A outer s H vs Q E hr h => ?_)
  · obtain ⟨p, u, ns, y, b, rfl, _⟩ := h
    rfl
  · obtain ⟨p, u, ns, y, b, rfl, ⟨⟨dx, hp⟩, hu, hl⟩, hi, k1, k2⟩ := h
    refine ⟨_, pss_cons (ps_expr (pe_call GX hr (by rfl) X.g X.F.kp X.b .nil (passes_call (takes_of rfl rfl rfl rfl) (fun _ _ _ _ h => h)) (pa_cons (pv 1) pa_nil)))
      (pss_one (ps_ret (pe_ifExp (pt_cmpR op_lt (pv 1) (pe_callB call_len_seq (by rfl) T.len PySem.boot_len (pa_cons (pe_fld (pv 0) rfl) pa_nil)) (nomark _))
        (pe_ix ix_tup (pe_fld (pv 0) rfl) (pv 1) (fun _ _ => rfl)) pe_int))), ?_⟩
    walk_at "rd"
    refine ⟨y, b, rfl, hi, fun hb => ?_, fun hb d hd => k2 hb d hd⟩
    walk_at "rd"
    subst hb
    rcases hi with ⟨i, rfl, hb⟩ | ⟨_, hb⟩
    · have hb' := of_decide_eq_true hb.symm
      refine ⟨p, C, dx, _, _, rfl, hp, Cl.cl, Cl.noF, look1 (u := .ref u), ?_⟩
      walk_at "rd"
      refine ⟨u, _, rfl, .inr hu, ?_⟩
      walk_at "rd"
      rw [List.length_map]
      have k := k1 rfl i rfl
      refine ite2 (fun h1 => ?_) (fun h1 => ?_)
      · have h2 := of_decide_eq_true h1
        walk_at "rd"
        refine ⟨p, C, dx, _, _, rfl, hp, Cl.cl, Cl.noF, look1 (u := .ref u), ?_⟩
        walk_at "rd"
        have hlt : i.toNat < ns.length := by omega
        refine g_ixT hu (v := .int ((ns[i.toNat]?).getD 0)) ?_ k
        have e : i = (i.toNat : Int) := by omega
        have ge : (ns.map V.int)[i.toNat]? = some (V.int ((ns[i.toNat]?).getD 0)) := by
          rw [mapget, List.getElem?_eq_getElem hlt]
          rfl
        rw [e]
        exact atI_nat ge
      · have h2 : ¬ i < (ns.length : Int) := fun z => h1 (decide_eq_true z)
        have hz : (ns[i.toNat]?).getD 0 = 0 := by
          rw [List.getElem?_eq_none_iff.mpr (by omega)]
          rfl
        rw [hz] at k
        exact k
    · cases hb
end
end

/-! The dice of a law: numbers for one place. -/

section
open PySem PySem.Spec PyProof.Rows L2 Gd
section
variable {P : Program} {w : World} {K : PySem.W.Frag} {mg : Str → Option Value} {base : Heap} {f : Addr} {fd : FuncData}
abbrev sDice : Stmt := top 34
abbrev sRoll : Stmt := top 35
abbrev sPick : Stmt := top 36
/-- more names -/
structure Txt2 (mg : Str → Option Value) : Prop where
  max : mg "max" = none
  min : mg "min" = none
  abs : mg "abs" = none
  range : mg "range" = none
  repr : mg "repr" = none
/-- the dice at d -/
def DiceAt (H : Hp) (d : Addr) : Prop := ∃ a b c : Int, H d = some (.lst [.int a, .int b, .int c]) ∧ 0 ≤ a ∧ a < 10 ^ 120 ∧ 0 ≤ b ∧ b < 2 ^ 80 ∧ 0 ≤ c
theorem fmod_lo {a n : Int} (h : 0 < n) : 0 ≤ a.fmod n := by
  rw [Int.fmod_eq_emod_of_nonneg _ (Int.le_of_lt h)]
  exact Int.emod_nonneg _ (Int.ne_of_gt h)
theorem fmod_hi {a n : Int} (h : 0 < n) : a.fmod n < n := by
  rw [Int.fmod_eq_emod_of_nonneg _ (Int.le_of_lt h)]
  exact Int.emod_lt_of_pos _ h
theorem g_fmod {H : Hp} {Q : VK} {a n : Int} (hn : 0 < n) (k : ∀ r, 0 ≤ r → r < n → Q (.int r) H) : rI (fun _ j => j ≠ 0) (fun i j => .int (i.fmod j)) (.int a) (.int n) H Q :=
  ⟨a, n, rfl, rfl, Int.ne_of_gt hn, k _ (fmod_lo hn) (fmod_hi hn)⟩
def spDice (K : PySem.W.Frag) : Sp := fun vs H Q _ => ∃ (a : Addr) (ns : List Int) (i : Nat), vs = [.ref a, .int (i : Int)] ∧ SqL K H a (ns.map V.int) ∧ i ≤ 63 ∧
  ∀ H' d, Ext H H' → H d = none → DiceAt H' d → Q (.ref d) H'
theorem scDice : FnScope ["_law_script", "_law_spot", "_law_cell", "_law_left"] ["_law_script", "_law_spot"] (defScope sDice) := ⟨rfl, rfl, rfl, by decide +kernel, rfl, by decide +kernel, by decide +kernel⟩
theorem ok_dice (F : Fun K "_law_dice" "_law_dice" sDice f fd) (T : Txt K mg) (T2 : Txt2 mg) : FnOk P w K mg base CX0 1 f fd ["_law_script", "_law_spot"] (spDice K) := by
  refine F.ok scDice (fun vs H Q E h => ?_) (fun cdv A outer s H vs Q E hr h => ?_)
  · obtain ⟨a, ns, i, rfl, _⟩ := h
    rfl
  · obtain ⟨a, ns, i, rfl, hs, hi, k⟩ := h
    refine ⟨_, pss_cons (ps_set (i := 2) scDice.nd rfl (Or.inl rfl) (pe_ifExp (pt_cmpR op_lt (pv 1) (pe_callB call_len_seq (by rfl) T.len PySem.boot_len (pa_cons (pv 0) pa_nil)) (nomark _))
          (pe_callTy call_int1 (by rfl) T.int (by decide +kernel) (pa_cons (pe_ix ix_list (pv 0) (pv 1) (fun _ _ => rfl)) pa_nil)) (pe_op op_add (pe_op op_mul pe_int (pv 1)) pe_int)))
      (pss_cons (ps_set (i := 3) scDice.nd rfl (Or.inl rfl) (pe_op op_modN (pe_callB (call_max2 rfl) (by rfl) T2.max (by decide +kernel) (pa_cons pe_int (pa_cons (pe_op op_sub (pe_callB call_abs (by rfl) T2.abs (by decide +kernel) (pa_cons (pv 2) pa_nil)) (pe_op op_pow pe_int pe_int)) pa_nil)))
          (pe_op op_mulW (pe_op op_pow pe_int pe_int) (pe_op op_pow pe_int pe_int))))
        (pss_one (ps_ret (pe_lst (pa_cons (pv 3) (pa_cons (pe_op op_add (pe_op op_add (pe_op op_add (pe_op op_mul (pe_op op_modN (pe_callB call_abs (by rfl) T2.abs (by decide +kernel) (pa_cons (pv 2) pa_nil)) pe_int) pe_int) (pe_op op_mul pe_int (pv 1)))
          (pe_op op_mul pe_int (pe_callTy call_int1 (by rfl) T.int (by decide +kernel) (pa_cons (pe_cmpR op_lt (pv 2) pe_int (nomark _)) pa_nil)))) pe_int) (pa_cons pe_int pa_nil))))))), ?_⟩
    walk_at "rd"
    refine ⟨a, _, rfl, .inl hs, ?_⟩
    walk_at "rd"
    refine ite2 (fun h1 => ?_) (fun h1 => ?_)
    have h2 := of_decide_eq_true h1
    rw [List.length_map] at h2
    have hlt : i < ns.length := by omega
    walk_at "rd"
    refine g_ixL hs (v := .int ns[i]) (atI_nat (by rw [mapget, List.getElem?_eq_getElem hlt]; rfl)) ?_
    walk_at "rd"
    refine .inl ⟨_, rfl, ?_⟩
    generalize ns[i] = c
    walk_at "rd"
    rotate_left
    walk_at "rd"
    refine g_I (.inr ⟨by omega, by omega⟩) ?_
    walk_at "rd"
    generalize (83 * (i : Int) + 61) = c
    walk_at "rd"
    all_goals
      refine g_I ⟨by decide, by decide, by decide⟩ ?_
      walk_at "rd"
      refine g_I ⟨by decide, by decide, by decide⟩ ?_
      walk_at "rd"
      refine g_I ⟨by decide, by decide, by decide⟩ ?_
      walk_at "rd"
      refine g_I (wide_mul (a := 200) (b := 200) (by decide +kernel) (by decide +kernel) (by decide) (by decide) (by decide)) ?_
      walk_at "rd"
      refine g_fmod (by decide +kernel) (fun l l0 l1 => ?_)
      walk_at "rd"
      refine g_fmod (by decide +kernel) (fun r r0 r1 => ?_)
      walk_at "rd"
      refine g_I (.inr ⟨by decide, by decide⟩) ?_
      walk_at "rd"
      refine g_I (.inl ⟨by decide, by decide⟩) ?_
      walk_at "rd"
      refine .inr ⟨_, rfl, ?_⟩
      refine g_I (.inl ⟨by decide, by decide⟩) ?_
      walk_at "rd"
      refine ⟨by show 3 ≤ sizeLine; decide, fun d hd => ?_⟩
      have l1' : l < 10 ^ 120 := Int.lt_of_lt_of_le l1 (by decide +kernel)
      refine k _ d (Ext.new hd) hd ⟨l, _, 0, upd_same, l0, l1', ?_, ?_, Int.le_refl _⟩
      · split <;> omega
      · split <;> omega

/-! ### a roll -/
def spRoll : Sp := fun vs H Q _ => ∃ (d : Addr) (n : Int), vs = [.ref d, .int n] ∧ DiceAt H d ∧ 0 < n ∧ n < 2 ^ 1000 ∧
  ∀ H' r, ExtBut d H H' → DiceAt H' d → 0 ≤ r → r < n → Q (.int r) H'
theorem scRoll : FnScope ["_law_dice_here", "_law_total", "_law_found", "_law_one", "_law_two"] ["_law_dice_here", "_law_total"] (defScope sRoll) := ⟨rfl, rfl, rfl, by decide +kernel, rfl, by decide +kernel, by decide +kernel⟩
theorem ok_roll (F : Fun K "_law_roll" "_law_roll" sRoll f fd) (T : Txt K mg) : FnOk P w K mg base CX0 1 f fd ["_law_dice_here", "_law_total"] spRoll := by
  refine F.ok scRoll (fun vs H Q E h => ?_) (fun cdv A outer s H vs Q E hr h => ?_)
  · obtain ⟨d, n, rfl, _⟩ := h
    rfl
  · obtain ⟨d, n, rfl, ⟨a, b, c, hd, a0, a1, b0, b1, c0⟩, n0, n1, k⟩ := h
    refine ⟨_, pss_cons (ps_if (pt_cmpR op_gt (pe_ix ix_list (pv 0) pe_int (fun _ _ => rfl)) pe_int (nomark _))
        (pss_cons (ps_set (i := 2) scRoll.nd rfl (Or.inl rfl) (pe_op op_modN (pe_callTy call_int1 (by rfl) T.int (by decide +kernel) (pa_cons (pe_ix ix_list (pv 0) pe_int (fun _ _ => rfl)) pa_nil)) (pv 1)))
          (pss_cons (ps_asg (pe_op op_fdivW (pe_ix ix_list (pv 0) pe_int (fun _ _ => rfl)) (pv 1)) (pg_sub (pv 0) pe_int set_list)) (pss_one (ps_ret (pv 2))))) pss_nil)
      (pss_cons (ps_asg (pe_op op_add (pe_ix ix_list (pv 0) pe_int (fun _ _ => rfl)) pe_int) (pg_sub (pv 0) pe_int set_list))
        (pss_cons (ps_set (i := 3) scRoll.nd rfl (Or.inl rfl) (pe_op op_modN (pe_callTy call_int1 (by rfl) T.int (by decide +kernel) (pa_cons (pe_op op_add (pe_ix ix_list (pv 0) pe_int (fun _ _ => rfl)) (pe_op op_mul pe_int (pe_ix ix_list (pv 0) pe_int (fun _ _ => rfl)))) pa_nil)) pe_int))
          (pss_cons (ps_set (i := 4) scRoll.nd rfl (Or.inl rfl) (pe_op op_add (pe_op op_mul (pe_op op_modN (pe_callTy call_int1 (by rfl) T.int (by decide +kernel)
              (pa_cons (pe_op op_add (pe_op op_mul (pv 3) (pv 3)) (pe_op op_mul pe_int (pe_ix ix_list (pv 0) pe_int (fun _ _ => rfl)))) pa_nil)) pe_int) pe_int) (pv 3)))
            (pss_one (ps_ret (pe_op op_modN (pe_callTy call_int1 (by rfl) T.int (by decide +kernel) (pa_cons (pe_op op_fdiv (pv 4) pe_int) pa_nil)) (pv 1))))))), ?_⟩
    walk_at "rd"
    refine g_ixL (SqL.of hd) (v := .int a) rfl ?_
    walk_at "rd"
    refine ite2 (fun h1 => ?_) (fun h1 => ?_)
    · walk_at "rd"
      refine g_ixL (SqL.of hd) (v := .int a) rfl ?_
      walk_at "rd"
      refine .inl ⟨_, rfl, ?_⟩
      walk_at "rd"
      refine g_fmod n0 (fun r r0 r1 => ?_)
      walk_at "rd"
      refine g_ixL (SqL.of hd) (v := .int a) rfl ?_
      walk_at "rd"
      refine g_I (wide_div (b := 1000) n0 (by omega) (by decide) (by decide)) ?_
      walk_at "rd"
      refine ⟨d, _, _, 0, rfl, rfl, hd, rfl, ?_⟩
      walk_at "rd"
      refine k _ r (fun x o hx q => by rw [upd_ne hx]; exact q) ⟨a / n, b, c, upd_same, Int.ediv_nonneg a0 (Int.le_of_lt n0), Int.lt_of_le_of_lt (Int.ediv_le_self _ a0) a1, b0, b1, c0⟩ r0 r1
    · walk_at "rd"
      refine g_ixL (SqL.of hd) (v := .int c) rfl ?_
      walk_at "rd"
      refine ⟨d, _, _, 2, rfl, rfl, hd, rfl, ?_⟩
      walk_at "rd"
      have hd2 : upd H d (.lst (List.set [V.int a, V.int b, V.int c] 2 (V.int (c + 1)))) d = some (.lst [.int a, .int b, .int (c + 1)]) := upd_same
      generalize hH2 : upd H d (.lst (List.set [V.int a, V.int b, V.int c] 2 (V.int (c + 1)))) = H2 at hd2 ⊢
      have e2 : ExtBut d H H2 := fun x o hx q => by rw [← hH2, upd_ne hx]; exact q
      refine g_ixL (SqL.of hd2) (v := .int b) rfl ?_
      walk_at "rd"
      refine g_ixL (SqL.of hd2) (v := .int (c + 1)) rfl ?_
      refine g_I (.inl ⟨by decide, by decide⟩) ?_
      walk_at "rd"
      refine .inl ⟨_, rfl, ?_⟩
      walk_at "rd"
      refine g_fmod (by decide) (fun r r0 r1 => ?_)
      walk_at "rd"
      refine g_I (.inl ⟨by omega, by omega⟩) ?_
      walk_at "rd"
      refine g_ixL (SqL.of hd2) (v := .int (c + 1)) rfl ?_
      refine g_I (.inl ⟨by decide, by decide⟩) ?_
      walk_at "rd"
      refine .inl ⟨_, rfl, ?_⟩
      walk_at "rd"
      refine g_fmod (by decide) (fun t t0 t1 => ?_)
      walk_at "rd"
      refine g_I (.inr ⟨by decide, by decide⟩) ?_
      walk_at "rd"
      refine g_I ⟨by decide, by decide⟩ ?_
      walk_at "rd"
      refine .inl ⟨_, rfl, ?_⟩
      walk_at "rd"
      refine g_fmod n0 (fun z z0 z1 => ?_)
      exact k _ z e2 ⟨a, b, c + 1, hd2, a0, a1, b0, b1, by omega⟩ z0 z1
end
end

/-! Picks, and drawn factors. -/

section
open PySem PySem.Spec PyProof.Rows L2 Gd
section
variable {P : Program} {w : World} {K : PySem.W.Frag} {mg : Str → Option Value} {base : Heap} {f : Addr} {fd : FuncData}
structure AtR (K : PySem.W.Frag) (mg : Str → Option Value) (f : Addr) (fd : FuncData) : Prop where
  F : Fun K "_law_roll" "_law_roll" sRoll f fd
  b : Binds K fd ["_law_dice_here", "_law_total"] []
  g : mg "_law_roll" = some (.ref f)
theorem sqL_but {H H' : Hp} {d l : Addr} {xs : List V} (e : ExtBut d H H') (n : l ≠ d) (h : SqL K H l xs) : SqL K H' l xs := by
  rcases h with (h | ⟨o, h⟩) | h
  · exact .inl (.inl (e _ _ n h))
  · exact .inl (.inr ⟨o, e _ _ n h⟩)
  · exact .inr h
theorem sqT_but {H H' : Hp} {d l : Addr} {xs : List V} (e : ExtBut d H H') (n : l ≠ d) (h : SqT K H l xs) : SqT K H' l xs := by
  rcases h with (h | ⟨o, h⟩) | h
  · exact .inl (.inl (e _ _ n h))
  · exact .inl (.inr ⟨o, e _ _ n h⟩)
  · exact .inr h
theorem ExtBut.trans {d : Addr} {H H1 H2 : Hp} (a : ExtBut d H H1) (b : ExtBut d H1 H2) : ExtBut d H H2 := fun x o n h => b x o n (a x o n h)
theorem ExtBut.of {d : Addr} {H H1 : Hp} (a : Ext H H1) : ExtBut d H H1 := fun x o _ h => a x o h
theorem DiceAt.ext {d : Addr} {H H1 : Hp} (e : Ext H H1) (h : DiceAt H d) : DiceAt H1 d := by
  obtain ⟨a, b, c, h, r⟩ := h
  exact ⟨a, b, c, e _ _ h, r⟩
/-! ### pick -/
def spPick (K : PySem.W.Frag) : Sp := fun vs H Q _ => ∃ (d l : Addr) (xs : List V), vs = [.ref d, .ref l] ∧ DiceAt H d ∧ SqL K H l xs ∧ l ≠ d ∧ 0 < xs.length ∧ xs.length ≤ 1000 ∧
  ∀ H' x, ExtBut d H H' → DiceAt H' d → x ∈ xs → Q x H'
theorem scPick : FnScope ["_law_dice_here", "_law_items"] ["_law_dice_here", "_law_items"] (defScope sPick) := ⟨rfl, rfl, rfl, by decide +kernel, rfl, by decide +kernel, by decide +kernel⟩
theorem ok_pick {fR : Addr} {fdR : FuncData} (F : Fun K "_law_pick" "_law_pick" sPick f fd) (T : Txt K mg) (R : AtR K mg fR fdR) : FnOk P w K mg base CX0 2 f fd ["_law_dice_here", "_law_items"] (spPick K) := by
  have GR : FnOk P w K mg base CX0 1 fR fdR ["_law_dice_here", "_law_total"] spRoll := ok_roll R.F T
  refine F.ok scPick (fun vs H Q E h => ?_) (fun cdv A outer s H vs Q E hr h => ?_)
  · obtain ⟨d, l, xs, rfl, _⟩ := h
    rfl
  · obtain ⟨d, l, xs, rfl, hd, hl, ne, l0, l1, k⟩ := h
    refine ⟨_, pss_one (ps_ret (pe_ix ix_list (pv 1) (pe_call GR hr (by rfl) R.g R.F.kp R.b .nil pass0 (pa_cons (pv 0) (pa_cons (pe_callB call_len_seq (by rfl) T.len PySem.boot_len (pa_cons (pv 1) pa_nil)) pa_nil))) (fun _ _ => rfl))), ?_⟩
    walk_at "rd"
    refine ⟨l, xs, rfl, .inl hl, ?_⟩
    walk_at "rd"
    refine ⟨d, _, rfl, hd, by omega, by omega, ?_⟩
    intro H' r e hd' r0 r1
    have hlt : r.toNat < xs.length := by omega
    have er : r = (r.toNat : Int) := by omega
    rw [er]
    exact g_ixL (sqL_but e ne hl) (atI_nat (List.getElem?_eq_getElem hlt)) (k _ _ e hd' (List.getElem_mem hlt))
/-! ### the law's own trimming -/
abbrev sLTrim : Stmt := top 37
def spLTrim (K : PySem.W.Frag) : Sp := fun vs H Q _ => ∃ (a : Addr) (ns : List Int), vs = [.ref a] ∧ (SqL K H a (ns.map V.int) ∨ SqT K H a (ns.map V.int)) ∧ ns.length ≤ 100000 ∧
  ∀ H' u, Ext H H' → SqT K H' u ((trim ns).map V.int) → Q (.ref u) H'
def muL (i : Nat) : L2.St → Hp → Nat := fun σ H => match σ[i]? with | some (some (.ref l)) => (match H l with | some (.lst xs) => xs.length | _ => 0) | _ => 0
def PvL (a : Addr) (H0 : Hp) (ns : List Int) : L2.St → Hp → Prop := fun σ H' => ∃ (l : Addr) (e : Nat), σ = [some (.ref a), some (.ref l)] ∧ H0 l = none ∧ Ext H0 H' ∧ H' l = some (.lst ((ns.take e).map V.int)) ∧
  e ≤ ns.length ∧ ∀ j x, e ≤ j → ns[j]? = some x → x = 0
theorem scLTrim : FnScope ["_law_factors_here", "_law_found"] ["_law_factors_here"] (defScope sLTrim) := ⟨rfl, rfl, rfl, by decide +kernel, rfl, by decide +kernel, by decide +kernel⟩
theorem shaped_lst (ns : List Int) : SeqAt.shaped (.list (idata ns)) = true := by
  unfold SeqAt.shaped
  rw [show PyData.canLay0 (.list (idata ns)) = PyData.canLayAll0 (idata ns) from rfl, lay_ints, show PyData.depth (.list (idata ns)) = PyData.depthAll (idata ns) + 1 from rfl, deep_ints]
  rfl
theorem ok_ltrim (F : Fun K "_law_trimmed" "_law_trimmed" sLTrim f fd) (T : Txt K mg) : FnOk P w K mg base CX0 1 f fd ["_law_factors_here"] (spLTrim K) := by
  refine F.ok scLTrim (fun vs H Q E h => ?_) (fun cdv A outer s H vs Q E hr h => ?_)
  · obtain ⟨a, ns, rfl, _⟩ := h
    rfl
  · obtain ⟨a, ns, rfl, hs, hl, k⟩ := h
    refine ⟨_, pss_cons (ps_set (i := 1) scLTrim.nd rfl (Or.inl rfl) (pe_callTy call_list_of (by rfl) T.list (by decide +kernel) (pa_cons (pv 0) pa_nil)))
      (pss_cons (ps_while PassesOwn.never (PW.pt (pw_and (pt_cmpR (op_neD hr.units) (pv 1) (pe_lst pa_nil) (nomark _)) (pw_and1 (pt_cmpR op_eq (pe_ix ix_list (pv 1) (pe_un un_neg pe_int) (fun _ _ => rfl)) pe_int (nomark _)))))
          (pss_one (ps_expr (pe_bm0 PySem.F.plainAttrs_list PySem.F.slot_list_pop PySem.F.type_list_pop mt_pop (pv 1)))))
        (pss_one (ps_ret (pe_callTy call_tuple_of (by rfl) T.tuple (by decide +kernel) (pa_cons (pv 1) pa_nil))))), ?_⟩
    walk_at "rd"
    refine ⟨a, _, rfl, hs, fun l hl0 => ?_⟩
    walk_at "rd"
    refine g_while (PvL a H ns) (muL 1) ⟨l, ns.length, rfl, hl0, Ext.new hl0, by rw [List.take_length]; exact upd_same, Nat.le_refl _, fun j x g e => by
        rw [List.getElem?_eq_none_iff.mpr g] at e
        cases e⟩ ?_
    rintro σ H1 ⟨l, e, rfl, hl0, e1, hL, he, hz⟩
    walk_at "rd"
    refine ⟨Nat.zero_le _, fun p hp => ?_⟩
    have e2 : Ext H1 (upd H1 p (.lst [])) := Ext.new hp
    have hL2 := e2 _ _ hL
    have npl : l ≠ p := ne_of_none hL hp
    refine ⟨.list (idata (ns.take e)), .list [], .lst (SqL.of hL2) (dp_ints _), .lst (SqL.of upd_same) .nil, shaped_lst _, by rfl, ?_⟩
    have ev : PyData.eqv (.list (idata (ns.take e))) (.list []) = decide (ns.take e = []) := eqv_ints (ns.take e) []
    rw [ev]
    generalize upd H1 p (.lst []) = H2 at e2 hL2
    have fin : (e = 0 ∨ ∃ x, ns[e - 1]? = some x ∧ x ≠ 0) → tRet (tCB (fun xs H Q => ∃ p ys, xs = [.ref p] ∧ ((SqL K H p ys ∧ ∀ l, H l = none → Q (.ref l) (upd H l (.tup ys))) ∨ (SqT K H p ys ∧ Q (.ref p) H))) (tCons (tVar 1) tNil))
        { nx := fun x H' => Q V.non H', rt := Q } [some (V.ref a), some (V.ref l)] H2 := by
      intro hl'
      have et := trim_take ns e he hz hl'
      walk_at "rd"
      refine ⟨l, _, rfl, .inl ⟨SqL.of hL2, fun u hu => ?_⟩⟩
      refine k _ u (Ext.trans e1 (Ext.trans e2 (Ext.new hu))) ?_
      rw [et]
      exact SqT.of upd_same
    walk_at "rd"
    refine ite2 (fun h1 => ?_) (fun h1 => ?_)
    · have ne0 : ns.take e ≠ [] := by
        intro z
        rw [z] at h1
        exact absurd h1 (by decide)
      have e0 : 0 < e := by
        rcases Nat.eq_zero_or_pos e with z | z
        · rw [z] at ne0
          exact absurd rfl ne0
        · exact z
      have hlt : e - 1 < ns.length := by omega
      have tk : ns.take e = ns.take (e - 1) ++ [ns[e - 1]] := by
        have := take_one (l := ns) (i := e - 1) hlt
        rw [show e - 1 + 1 = e by omega] at this
        exact this
      walk_at "rd"
      refine g_ixL (SqL.of hL2) (v := .int ns[e - 1]) ?_ ?_
      · rw [tk, List.map_append]
        exact atI_last _ _
      walk_at "rd"
      refine ite2 (fun h2 => ?_) (fun h2 => ?_)
      · refine g_turn ?_
        walk_at "rd"
        refine ⟨.inl ⟨rfl, _, SqL.of hL2⟩, ?_⟩
        refine ⟨l, _, .int ns[e - 1], rfl, rfl, hL2, ?_, ?_⟩
        · rw [tk, List.map_append]
          simp
        · have dl : ((ns.take e).map V.int).dropLast = (ns.take (e - 1)).map V.int := by
            rw [tk, List.map_append]
            exact List.dropLast_concat
          rw [dl]
          refine ⟨⟨l, e - 1, rfl, hl0, fun b o q => ?_, upd_same, by omega, fun j x g q => ?_⟩, ?_⟩
          · rw [upd_ne (ne_of_none q hl0)]
            exact e2 _ _ (e1 _ _ q)
          · by_cases hj : j = e - 1
            · subst hj
              rw [List.getElem?_eq_getElem hlt] at q
              cases q
              exact of_decide_eq_true h2
            · exact hz j x (by omega) q
          · show muL 1 [some (.ref a), some (.ref l)] _ < muL 1 [some (.ref a), some (.ref l)] H1
            unfold muL
            simp only [List.getElem?_cons_succ, List.getElem?_cons_zero, upd_same, hL, List.length_map, List.length_take]
            omega
      · exact fin (.inr ⟨_, List.getElem?_eq_getElem hlt, fun z => h2 (decide_eq_true z)⟩)
    · refine iteF (fin (.inl ?_))
      have z : ns.take e = [] := by
        by_cases z : ns.take e = []
        · exact z
        · rw [decide_eq_false z] at h1
          exact absurd rfl h1
      rcases List.take_eq_nil_iff.mp z with z | z
      · exact z
      · subst z
        simpa using he
end
end

/-! Drawn factors. -/

section
open PySem PySem.Spec PyProof.Rows L2 Gd
section
variable {P : Program} {w : World} {K : PySem.W.Frag} {mg : Str → Option Value} {base : Heap} {f : Addr} {fd : FuncData}
abbrev sFactors : Stmt := top 38
theorem dice_ne {H : Hp} {d l : Addr} {o : HO} (h : DiceAt H d) (e : H l = some o) (n : ∀ xs, o ≠ .lst xs) : l ≠ d := by
  obtain ⟨a, b, c, h, _⟩ := h
  intro z
  subst z
  rw [e] at h
  cases h
  exact n _ rfl
theorem dice_none {H : Hp} {d l : Addr} (h : DiceAt H d) (e : H l = none) : l ≠ d := by
  obtain ⟨a, b, c, h, _⟩ := h
  intro z
  subst z
  rw [e] at h
  cases h
theorem DiceAt.upd {H : Hp} {d l : Addr} {o : HO} (h : DiceAt H d) (n : l ≠ d) : DiceAt (upd H l o) d := by
  obtain ⟨a, b, c, h, r⟩ := h
  exact ⟨a, b, c, by rw [upd_ne (Ne.symm n)]; exact h, r⟩
def spFactors : Sp := fun vs H Q _ => ∃ (d : Addr) (m z : Int), vs = [.ref d, .int m, .int z] ∧ DiceAt H d ∧ 0 ≤ m ∧ m ≤ 1000 ∧ 0 ≤ z ∧ z < 2 ^ 500 ∧
  ∀ H' u (ns : List Int), ExtBut d H H' → DiceAt H' d → H u = none → H' u = some (.tup (ns.map V.int)) → (ns.length : Int) ≤ m → (∀ n ∈ ns, -z ≤ n ∧ n ≤ z) → Q (.ref u) H'
def PvF (d l : Addr) (m z : Int) (H0 : Hp) (i : Nat) : L2.St → Hp → Prop := fun σ H' => ∃ (t : Option V) (ns : List Int), σ = [some (.ref d), some (.int m), some (.int z), some (.ref l), t] ∧ H0 l = none ∧ ExtBut d H0 H' ∧ DiceAt H' d ∧
  H' l = some (.lst (ns.map V.int)) ∧ ns.length = i ∧ ∀ n ∈ ns, -z ≤ n ∧ n ≤ z
theorem scFactors : FnScope ["_law_dice_here", "_law_most", "_law_size", "_law_found", "_law_turn"] ["_law_dice_here", "_law_most", "_law_size"] (defScope sFactors) := ⟨rfl, rfl, rfl, by decide +kernel, rfl, by decide +kernel, by decide +kernel⟩
theorem ok_lfactors {fR : Addr} {fdR : FuncData} (F : Fun K "_law_factors" "_law_factors" sFactors f fd) (T : Txt K mg) (T2 : Txt2 mg) (R : AtR K mg fR fdR) : FnOk P w K mg base CX0 2 f fd ["_law_dice_here", "_law_most", "_law_size"] spFactors := by
  have GR : FnOk P w K mg base CX0 1 fR fdR ["_law_dice_here", "_law_total"] spRoll := ok_roll R.F T
  refine F.ok scFactors (fun vs H Q E h => ?_) (fun cdv A outer s H vs Q E hr h => ?_)
  · obtain ⟨d, m, z, rfl, _⟩ := h
    rfl
  · obtain ⟨d, m, z, rfl, hd, m0, m1, z0, z1, k⟩ := h
    refine ⟨_, pss_cons (ps_set (i := 3) scFactors.nd rfl (Or.inl rfl) (pe_lst pa_nil))
      (pss_cons (ps_for PassesOwn.never rfl (pi_range1 (by rfl) T2.range (pa_cons (pe_call GR hr (by rfl) R.g R.F.kp R.b .nil pass0 (pa_cons (pv 0) (pa_cons (pe_op op_add (pv 1) pe_int) pa_nil))) pa_nil)) (pg_name (i := 4) scFactors.nd rfl (Or.inl rfl))
          (pss_one (ps_expr (pe_bm PySem.F.plainAttrs_list PySem.F.slot_list_append PySem.F.type_list_append mt_append (pv 3)
            (pa_cons (pe_ifExp (pt_cmpR op_eq (pe_call GR hr (by rfl) R.g R.F.kp R.b .nil pass0 (pa_cons (pv 0) (pa_cons pe_int pa_nil))) pe_int (nomark _)) pe_int
              (pe_op op_sub (pe_call GR hr (by rfl) R.g R.F.kp R.b .nil pass0 (pa_cons (pv 0) (pa_cons (pe_op op_add (pe_op op_mul pe_int (pv 2)) pe_int) pa_nil))) (pv 2))) pa_nil)))))
        (pss_one (ps_ret (pe_callTy call_tuple_of (by rfl) T.tuple (by decide +kernel) (pa_cons (pv 3) pa_nil))))), ?_⟩
    walk_at "rd"
    refine ⟨Nat.zero_le _, fun l hl => ?_⟩
    walk_at "rd"
    have ld : l ≠ d := dice_none hd hl
    refine g_forR ?_
    walk_at "rd"
    refine ⟨d, _, rfl, hd.upd ld, by omega, by omega, fun H1 r e1 hd1 r0 r1 => ?_⟩
    walk_at "rd"
    refine ⟨by omega, by omega, ?_⟩
    have hl1 := e1 _ _ ld (upd_same (H := H) (o := HO.lst []))
    refine for_range (PvF d l m z H) ⟨_, [], rfl, hl, ExtBut.trans (ExtBut.of (Ext.new hl)) e1, hd1, hl1, rfl, fun n hn => nomatch hn⟩ ?_ ?_
    · rintro i σ H2 hi ⟨t, ns, rfl, _, e2, hd2, hl2, hlen, hb⟩
      walk_at "rd"
      refine ⟨.inl ⟨rfl, _, SqL.of hl2⟩, ?_⟩
      walk_at "rd"
      have go : ∀ (H3 : Hp) (x : Int), ExtBut d H2 H3 → DiceAt H3 d → -z ≤ x → x ≤ z → rAppend (.ref l) [.int x] H3 fun _ H' => PvF d l m z H (i + 1) [some (.ref d), some (.int m), some (.int z), some (.ref l), some (.int (0 + (i : Int)))] H' := by
        intro H3 x e3 hd3 x0 x1
        have hl3 := e3 _ _ ld hl2
        refine ⟨l, _, _, rfl, rfl, hl3, ?_, ?_⟩
        · rw [List.length_map, hlen]
          show i < sizeLine
          have : (1000 : Nat) < sizeLine := by decide
          omega
        · refine ⟨_, ns ++ [x], rfl, hl, fun y o hy q => ?_, hd3.upd ld, ?_, ?_, ?_⟩
          · by_cases hyl : y = l
            · subst hyl
              rw [hl] at q
              cases q
            · rw [upd_ne hyl]
              exact e3 _ _ hy (e2 _ _ hy q)
          · rw [List.map_append]
            exact upd_same
          · rw [List.length_append, hlen]
            rfl
          · intro n hn
            rcases List.mem_append.mp hn with hn | hn
            · exact hb n hn
            · rw [List.mem_singleton] at hn
              subst hn
              exact ⟨x0, x1⟩
      refine ⟨d, _, rfl, hd2, by decide, by decide, fun H3 r3 e3 hd3 r30 r31 => ?_⟩
      walk_at "rd"
      refine ite2 (fun h1 => ?_) (fun h1 => ?_)
      · walk_at "rd"
        exact go H3 0 e3 hd3 (by omega) z0
      · walk_at "rd"
        refine g_I (.inl ⟨by decide, by decide⟩) ?_
        walk_at "rd"
        refine ⟨d, _, rfl, hd3, by omega, by omega, fun H4 r4 e4 hd4 r40 r41 => ?_⟩
        walk_at "rd"
        exact go H4 (r4 - z) (e3.trans e4) hd4 (by omega) (by omega)
    · rintro σ H2 ⟨t, ns, rfl, _, e2, hd2, hl2, hlen, hb⟩
      walk_at "rd"
      refine ⟨l, _, rfl, .inl ⟨SqL.of hl2, fun u hu => ?_⟩⟩
      have ud : u ≠ d := dice_none hd2 hu
      refine k _ u ns (ExtBut.trans e2 (ExtBut.of (Ext.new hu))) (hd2.upd ud) ?_ upd_same (by omega) hb
      cases q : H u with
      | none => rfl
      | some o => 
        have := e2 _ _ ud q
        rw [hu] at this
        cases this
end
end

/-! Lists without zeros at their end; reckoned polynomials. -/

section
open PySem PySem.Spec PyProof.Rows L2 Gd
section
variable {P : Program} {w : World} {K : PySem.W.Frag} {mg : Str → Option Value} {base : Heap} {f : Addr} {fd : FuncData}
def spTrimmedL (K : PySem.W.Frag) : Sp := fun vs H Q _ => ∃ (a : Addr) (ns : List Int), vs = [.ref a] ∧ SqL K H a (ns.map V.int) ∧ ns.length ≤ 100000 ∧
  ∀ H' u, Ext H H' → SqT K H' u ((trim ns).map V.int) → Q (.ref u) H'
theorem ok_trimmedL (F : Fun K "trimmed" "trimmed" sTrimmed f fd) (T : Txt K mg) : FnOk P w K mg base CX0 1 f fd ["row"] (spTrimmedL K) := by
  refine F.ok scTrimmed (fun vs H Q E h => ?_) (fun cdv A outer s H vs Q E hr h => ?_)
  · obtain ⟨x, b, rfl, _⟩ := h
    rfl
  · obtain ⟨a, ns, rfl, hs, hl, k⟩ := h
    refine ⟨_, pss_cons (ps_set (i := 1) scTrimmed.nd rfl (Or.inl rfl) (pe_callB call_len_seq (by rfl) T.len PySem.boot_len (pa_cons (pv 0) pa_nil)))
      (pss_cons (ps_while PassesOwn.never (PW.pt (pw_and (pt_cmpR op_gt (pv 1) pe_int (nomark _)) (pw_and1 (pt_cmpR op_eq (pe_ix ix_list (pv 0) (pe_op op_sub (pv 1) pe_int) (fun _ _ => rfl)) pe_int (nomark _)))))
          (pss_one (ps_aug (i := 1) scTrimmed.nd rfl (Or.inl rfl) pe_int ip_sub)))
        (pss_one (ps_ret (pe_callTy call_tuple_of (by rfl) T.tuple (by decide +kernel) (pa_cons (pe_slice sl_list (pv 0) po_none (po_some (pv 1))) pa_nil))))), ?_⟩
    walk_at "rd"
    refine ⟨a, _, rfl, .inl hs, ?_⟩
    walk_at "rd"
    refine g_while (PvT a H ns) (muI 1) ⟨rfl, ns.length, by rw [List.length_map]; rfl, Nat.le_refl _, fun j x g e => by
        rw [List.getElem?_eq_none_iff.mpr g] at e
        cases e⟩ ?_
    rintro σ H' ⟨rfl, e, rfl, he, hz⟩
    walk_at "rd"
    have fin : (e = 0 ∨ ∃ x, ns[e - 1]? = some x ∧ x ≠ 0) → tRet (tCB (fun xs H Q => ∃ p ys, xs = [V.ref p] ∧ ((SqL K H p ys ∧ ∀ l, H l = none → Q (V.ref l) (upd H l (HO.tup ys))) ∨ (SqT K H p ys ∧ Q (V.ref p) H))) (tCons (tSl (rSlL K) (tVar 0) tNoPart (tPart (tVar 1))) tNil))
        { nx := fun x H' => Q V.non H', rt := Q } [some (V.ref a), some (V.int (e : Int))] H' := by
      intro hl'
      have et := trim_take ns e he hz hl'
      walk_at "rd"
      have s1 : HT.sIx (ns.map V.int).length 0 none = 0 := rfl
      have s2 : HT.sIx (ns.map V.int).length (ns.map V.int).length (some (e : Int)) = e := by
        rw [HT.sIx_nat, List.length_map]
        omega
      have ec : cutV (ns.map V.int) none (some (e : Int)) = (trim ns).map V.int := by
        unfold cutV
        rw [s1, s2, et, List.drop_zero, Nat.sub_zero, List.map_take]
      refine ⟨a, _, rfl, hs, fun p hp => ?_⟩
      rw [ec]
      walk_at "rd"
      refine ⟨p, _, rfl, .inl ⟨SqL.of upd_same, fun u hu => ?_⟩⟩
      exact k _ u (Ext.trans (Ext.new hp) (Ext.new hu)) (SqT.of upd_same)
    refine ite2 (fun h1 => ?_) (fun h1 => ?_)
    · have h1' : 0 < e := by
        have := of_decide_eq_true h1
        omega
      walk_at "rd"
      have hlt : e - 1 < ns.length := by omega
      have ge : (ns.map V.int)[e - 1]? = some (V.int ns[e - 1]) := by rw [mapget, List.getElem?_eq_getElem hlt]; rfl
      refine g_ixL hs (v := .int ns[e - 1]) ?_ ?_
      · have := atI_nat ge
        have q : ((e : Int) - 1) = ((e - 1 : Nat) : Int) := by omega
        rw [q]
        exact this
      walk_at "rd"
      refine ite2 (fun h2 => ?_) (fun h2 => ?_)
      · refine g_turn ?_
        walk_at "rd"
        refine ⟨_, _, rfl, rfl, ?_⟩
        refine ⟨⟨rfl, e - 1, ?_, by omega, fun j x g q => ?_⟩, ?_⟩
        · show [some (V.ref a), some (V.int ((e : Int) - 1))] = _
          have q : ((e : Int) - 1) = ((e - 1 : Nat) : Int) := by omega
          rw [q]
        · by_cases hj : j = e - 1
          · subst hj
            rw [List.getElem?_eq_getElem hlt] at q
            cases q
            exact of_decide_eq_true h2
          · exact hz j x (by omega) q
        · show ((e : Int) - 1).toNat < ((e : Int)).toNat
          omega
      · refine fin (.inr ⟨_, List.getElem?_eq_getElem hlt, fun z => h2 (decide_eq_true z)⟩)
    · refine iteF (fin (.inl ?_))
      have : ¬ (0 : Int) < (e : Int) := fun z => h1 (decide_eq_true z)
      omega
/-! ### poly_of -/
end
end

end K0

set_option Elab.async false
set_option linter.all false
set_option maxRecDepth 100000
set_option maxHeartbeats 4000000
/-! Heaps that grow; comprehensions told as maps. -/
namespace Q0

open PySem PySem.Spec PyProof.Rows L2 Gd
open LamX (ExtN)

local macro_rules | `(tactic| walk_at "rd1") => `(tactic| first | with_reducible refine g_ret ?_ | with_reducible refine g_retN ?_ | with_reducible refine g_seq ?_ | with_reducible refine g_next ?_ | with_reducible refine g_drop ?_ | with_reducible refine g_asg ?_ | with_reducible refine g_name ?_ | with_reducible refine g_ifs ?_ | with_reducible refine g_test ?_ | with_reducible refine g_tb ?_ | with_reducible refine g_and ?_ | with_reducible refine g_or ?_ | with_reducible refine g_not ?_ | with_reducible refine g_andV ?_ | with_reducible refine g_orV ?_ | with_reducible refine g_notV ?_ | with_reducible refine g_if ?_ | with_reducible refine g_op ?_ | with_reducible refine g_un ?_ | with_reducible refine g_cb ?_ | with_reducible refine g_nil ?_ | with_reducible refine g_cons ?_ | with_reducible refine g_call ?_ | with_reducible refine g_callS ?_ | with_reducible refine g_tup ?_ | with_reducible refine g_lst ?_ | with_reducible refine g_isN ?_ | with_reducible refine g_sl ?_ | with_reducible refine g_nopart ?_ | with_reducible refine g_part ?_ | with_reducible refine g_chain ?_ | with_reducible refine g_fld ?_ | with_reducible refine g_prop ?_ | with_reducible refine g_bm ?_ | with_reducible refine g_bm0 ?_ | with_reducible refine g_c ?_ | with_reducible refine g_sub ?_ | with_reducible refine g_int1 ?_ | with_reducible refine g_int2 ?_ | with_reducible refine g_yes ?_ | with_reducible refine g_sfld ?_ | with_reducible refine g_NT ?_ | with_reducible refine g_NF ?_ | with_reducible refine iteT ?_ | with_reducible refine iteF ?_ | ((with_reducible refine' g_aug ?hv ?_); (case hv => exact rfl)) | ((with_reducible refine' g_var ?hv ?_); (case hv => exact rfl)) | with_reducible refine g_I0 ?_ | with_reducible refine g_U ?_ | with_reducible refine g_eqI ?_ | with_reducible refine g_blV ?_ | with_reducible refine g_inV ?_)
local macro_rules | `(tactic| walk_at "rd") => `(tactic| repeat walk_at "rd1")

section
open PySem PySem.Spec PyProof.Rows L2 Gd
open LamX (ExtN)
def Ext (H H' : Hp) : Prop := ∀ b o, H b = some o → H' b = some o
theorem Ext.rfl' {H : Hp} : Ext H H := fun _ _ h => h
theorem Ext.new {H : Hp} {p : Addr} {o : HO} (h : H p = none) : Ext H (upd H p o) := fun b u e => by
  rw [upd_ne (ne_of_none e h)]
  exact e
theorem Ext.trans {H H1 H2 : Hp} (a : Ext H H1) (b : Ext H1 H2) : Ext H H2 := fun c o h => b c o (a c o h)
def ExtBut (p : Addr) (H H' : Hp) : Prop := ∀ b o, b ≠ p → H b = some o → H' b = some o
theorem ExtBut.trans {d : Addr} {H H1 H2 : Hp} (a : ExtBut d H H1) (b : ExtBut d H1 H2) : ExtBut d H H2 := fun x o n h => b x o n (a x o n h)
theorem ExtBut.of {d : Addr} {H H1 : Hp} (a : Ext H H1) : ExtBut d H H1 := fun x o _ h => a x o h
section
variable {K : PySem.W.Frag} {H H' : Hp} {a d : Addr} {xs ys : List V}
theorem sqT_ext (e : Ext H H') (h : SqT K H a xs) : SqT K H' a xs := by
  rcases h with (h | ⟨o, h⟩) | h
  · exact .inl (.inl (e _ _ h))
  · exact .inl (.inr ⟨o, e _ _ h⟩)
  · exact .inr h
theorem sqL_ext (e : Ext H H') (h : SqL K H a xs) : SqL K H' a xs := by
  rcases h with (h | ⟨o, h⟩) | h
  · exact .inl (.inl (e _ _ h))
  · exact .inl (.inr ⟨o, e _ _ h⟩)
  · exact .inr h
theorem sqT_but (e : ExtBut d H H') (n : a ≠ d) (h : SqT K H a xs) : SqT K H' a xs := by
  rcases h with (h | ⟨o, h⟩) | h
  · exact .inl (.inl (e _ _ n h))
  · exact .inl (.inr ⟨o, e _ _ n h⟩)
  · exact .inr h
theorem sqL_but (e : ExtBut d H H') (n : a ≠ d) (h : SqL K H a xs) : SqL K H' a xs := by
  rcases h with (h | ⟨o, h⟩) | h
  · exact .inl (.inl (e _ _ n h))
  · exact .inl (.inr ⟨o, e _ _ n h⟩)
  · exact .inr h
/-- a tuple beside a list that changes -/
theorem sqT_butL (hd : H d = some (.lst ys)) (e : ExtBut d H H') (h : SqT K H a xs) : SqT K H' a xs := by
  rcases h with (h | ⟨o, h⟩) | h
  · exact .inl (.inl (e _ _ (fun z => by rw [z, hd] at h; cases h) h))
  · exact .inl (.inr ⟨o, e _ _ (fun z => by rw [z, hd] at h; cases h) h⟩)
  · exact .inr h
theorem new_ne {o : HO} (h : H a = some o) (n : H d = none) : d ≠ a := fun z => by
  rw [z, h] at n
  cases n
theorem new_up (e : Ext H H') (h : H' d = none) : H d = none := by
  cases q : H d with
  | none => rfl
  | some o =>
    have := e _ _ q
    rw [h] at this
    cases this
theorem mapget {α : Type} {ns : List α} {f : α → V} {i : Nat} : (ns.map f)[i]? = (ns[i]?).map f := List.getElem?_map
end
/-! ### texts kept small: the frame's own K, and what comes behind a turn as a letter -/
theorem cx_nox (X : Cx) : X.nox.K = X.K := rfl
theorem cx_K {CX : CXT} {P : Program} {w : World} {K : PySem.W.Frag} {mg : Str → Option Value} {base : Heap} {N : List Str} {q : Str} {sc : Scope} {f : Addr} {cd : Value} {A : Around} {o : List Env} {s : Shared} {H : Hp} {E : XK} : (cxOf CX P w K mg base N q sc f cd A o s H E).K = K := rfl
theorem g_gen {tb : TS} {D : Ends} {σ : L2.St} {H : Hp} (h : ∀ D' : Ends, (∀ σ H, D.nx σ H → D'.nx σ H) → (∀ v H, D.rt v H → D'.rt v H) → tb D' σ H) : tb D σ H := h D (fun _ _ z => z) fun _ _ z => z
/-! ### comprehensions -/
section
variable {J : It} {n : Nat} {G : Hp → Prop} {Y : Nat → Hp → V → Hp → Prop} {g : TG} {tt : TT} {te : TE} {vs : List Nat} {σ : L2.St} {H1 : Hp} {D : Addr} {Qd : Hp → Prop}
/-- the indices that are taken -/
def idx (c : Nat → Bool) (n : Nat) : List Nat := (List.range n).filter c
theorem idx_succ (c : Nat → Bool) (n : Nat) : idx c (n + 1) = if c n then idx c n ++ [n] else idx c n := by
  unfold idx
  rw [List.range_succ, List.filter_append]
  cases h : c n <;> simp [h]
theorem idx_len (c : Nat → Bool) (n : Nat) : (idx c n).length ≤ n := by
  have := List.length_filter_le c (List.range n)
  rw [List.length_range] at this
  exact this
/-- results that stand in a relation to the turn -/
def Rel (R : Nat → V → Hp → Prop) (is : List Nat) (ys : List V) (H : Hp) : Prop := is.length = ys.length ∧ ∀ (j i : Nat) (y : V), is[j]? = some i → ys[j]? = some y → R i y H
/-- what a relation says stays where nothing but lists at one place change -/
def Mono (R : Nat → V → Hp → Prop) : Prop := ∀ i y D ys H H', (H D = none ∨ H D = some (.lst ys)) → ExtBut D H H' → R i y H → R i y H'
theorem Mono.ext {R : Nat → V → Hp → Prop} (mono : Mono R) {i : Nat} {y : V} {H H' : Hp} (e : Ext H H') (h : R i y H) (D : Addr) (ys : List V) (hd : H D = none ∨ H D = some (.lst ys)) : R i y H' := mono i y D ys H H' hd (ExtBut.of e) h
theorem Rel.ext {R : Nat → V → Hp → Prop} (mono : ∀ i y H H', Ext H H' → R i y H → R i y H') {is : List Nat} {ys : List V} {H H' : Hp} (e : Ext H H') (h : Rel R is ys H) : Rel R is ys H' := ⟨h.1, fun j i y a b => mono i y H H' e (h.2 j i y a b)⟩
theorem Rel.snoc {R : Nat → V → Hp → Prop} {is : List Nat} {ys : List V} {H : Hp} {i : Nat} {y : V} (h : Rel R is ys H) (hy : R i y H) : Rel R (is ++ [i]) (ys ++ [y]) H := by
  refine ⟨by rw [List.length_append, List.length_append, h.1]; rfl, fun j i' y' a b => ?_⟩
  by_cases hj : j < is.length
  · rw [List.getElem?_append_left hj] at a
    rw [List.getElem?_append_left (by rw [← h.1]; exact hj)] at b
    exact h.2 j i' y' a b
  · rw [List.getElem?_append_right (by omega)] at a
    rw [List.getElem?_append_right (by rw [← h.1]; omega), ← h.1] at b
    cases q : j - is.length with
    | zero =>
      rw [q] at a b
      cases a
      cases b
      exact hy
    | succ m =>
      rw [q] at a
      cases a
theorem lc_rel (w : Walk J n G Y) (R : Nat → V → Hp → Prop) (c : Nat → Bool) (mono : Mono R) (hD : H1 D = none) (hG : ∀ H', Ext H1 H' → G H') (sz : n < sizeLine)
    (body : ∀ i x H' H'', i < n → Ext H1 H' → Y i H' x H'' → ∀ (Qe : VK) (Qn : Hp → Prop), (∀ y H3, Ext H' H3 → R i y H3 → c i = true → Qe y H3) → (∀ H3, Ext H' H3 → c i = false → Qn H3) →
      g x (wipe σ vs) H'' fun σ2 H2 => wipe σ2 vs = wipe σ vs ∧ tt σ2 H2 fun b H3 => if b = true then te σ2 H3 Qe else Qn H3)
    (k : ∀ H' ys, Ext H1 H' → H' D = some (.lst ys) → Rel R (idx c n) ys H' → Qd H') :
    ∃ W : Nat → Nat → Hp → Prop, (∃ m, W 0 m (upd H1 D (.lst []))) ∧ ∀ i m H, W i m H →
      (J.stop i H ∧ Qd H) ∨ (J.go i H ∧ ∃ Nx : Hp → Prop, (∀ H', Nx H' → ∃ m', m' < m ∧ W (i + 1) m' H') ∧ ∀ x H', J.yld i H x H' → g x (wipe σ vs) H' fun σ2 H2 => wipe σ2 vs = wipe σ vs ∧ tt σ2 H2 fun b H3 =>
        if b = true then te σ2 H3 fun y H4 => ∃ acc, H4 D = some (.lst acc) ∧ acc.length < sizeLine ∧ Nx (upd H4 D (.lst (acc ++ [y]))) else Nx H3) := by
  refine lc_it w (fun i H' => ∃ ys, Ext H1 H' ∧ H' D = some (.lst ys) ∧ Rel R (idx c i) ys H') ⟨[], Ext.new hD, upd_same, rfl, fun j i y h => by cases h⟩ (fun i H' _ ⟨ys, e, _⟩ => hG H' e) ?_ ?_
  · rintro i x H' H'' hi ⟨ys, e, hd, hr⟩ hy
    have hys : ys.length < sizeLine := by
      have := idx_len c i
      have := hr.1
      omega
    refine body i x H' H'' hi e hy _ _ (fun y H3 e3 hR hc => ⟨ys, e3 _ _ hd, hys, ys ++ [y], ?_, upd_same, ?_⟩) (fun H3 e3 hc => ⟨ys, Ext.trans e e3, e3 _ _ hd, ?_⟩)
    · intro b o q
      rw [upd_ne (ne_of_none q hD)]
      exact e3 _ _ (e b o q)
    · rw [idx_succ, hc, if_pos rfl]
      have h3 : H3 D = some (.lst ys) := e3 _ _ hd
      have eB : ExtBut D H3 (upd H3 D (.lst (ys ++ [y]))) := fun b o n q => by
        rw [upd_ne n]
        exact q
      refine Rel.snoc ⟨hr.1, fun j i' y' a b => ?_⟩ (mono _ _ D ys _ _ (.inr h3) eB hR)
      exact mono _ _ D ys _ _ (.inr h3) eB (mono _ _ D ys _ _ (.inr hd) (ExtBut.of e3) (hr.2 j i' y' a b))
    · rw [idx_succ, hc, if_neg (by decide)]
      exact ⟨hr.1, fun j i' y' a b => mono _ _ D ys _ _ (.inr hd) (ExtBut.of e3) (hr.2 j i' y' a b)⟩
  · rintro H' ⟨ys, e, hd, hr⟩
    exact k H' ys e hd hr
theorem mono_fun (f : Nat → V) : Mono (fun i y _ => y = f i) := fun _ _ _ _ _ _ _ _ h => h
theorem rel_fun {f : Nat → V} {is : List Nat} {ys : List V} {H : Hp} (h : Rel (fun i y _ => y = f i) is ys H) : ys = is.map f := by
  refine List.ext_getElem? fun j => ?_
  rw [List.getElem?_map]
  cases a : is[j]? with
  | none =>
    have := List.getElem?_eq_none_iff.mp a
    rw [h.1] at this
    rw [List.getElem?_eq_none_iff.mpr this]
    rfl
  | some i =>
    have hj := (List.getElem?_eq_some_iff.mp a).1
    rw [h.1] at hj
    rw [List.getElem?_eq_getElem hj]
    exact congrArg some (h.2 j i _ a (List.getElem?_eq_getElem hj))
theorem idx_all (n : Nat) : idx (fun _ => true) n = List.range n := by
  unfold idx
  simp
/-- over the items of a list: taken ones, changed -/
theorem idx_items' {α β : Type} (xs : List α) (z : α) (c : α → Bool) (f : α → β) : (idx (fun i => c (xs.getD i z)) xs.length).map (fun i => f (xs.getD i z)) = (xs.filter c).map f := by
  unfold idx
  induction xs with
  | nil => rfl
  | cons x r ih =>
    rw [List.length_cons, List.range_succ_eq_map, List.filter_cons, List.filter_cons]
    have e1 : ((x :: r).getD 0 z) = x := rfl
    rw [e1]
    have e2 : (List.filter (fun i => c ((x :: r).getD i z)) (List.map Nat.succ (List.range r.length))) = (List.filter (fun i => c (r.getD i z)) (List.range r.length)).map Nat.succ := by
      rw [List.filter_map]
      rfl
    rw [e2]
    have e3 : List.map (fun i => f ((x :: r).getD i z)) (List.map Nat.succ (List.filter (fun i => c (r.getD i z)) (List.range r.length))) = (r.filter c).map f := by
      rw [List.map_map, ← ih]
      rfl
    split
    · rw [List.map_cons, List.map_cons, e3]
      rfl
    · exact e3
theorem idx_items (xs : List V) (c : V → Bool) (f : V → V) : (idx (fun i => c (xs.getD i .non)) xs.length).map (fun i => f (xs.getD i .non)) = (xs.filter c).map f := idx_items' xs .non c f
section
variable {K : PySem.W.Frag} {Q : VK}
/-- what a comprehension over J asks, told of its turns -/
def LcG (J : It) (g : TG) (tt : TT) (te : TE) (vs : List Nat) (σ : L2.St) (H1 : Hp) (Q : VK) : Prop := ∀ D, H1 D = none → ∃ W : Nat → Nat → Hp → Prop, (∃ m, W 0 m (upd H1 D (.lst []))) ∧ ∀ i m H, W i m H →
      (J.stop i H ∧ Q (.ref D) H) ∨ (J.go i H ∧ ∃ Nx : Hp → Prop, (∀ H', Nx H' → ∃ m', m' < m ∧ W (i + 1) m' H') ∧ ∀ x H', J.yld i H x H' → g x (wipe σ vs) H' fun σ2 H2 => wipe σ2 vs = wipe σ vs ∧ tt σ2 H2 fun b H3 =>
        if b = true then te σ2 H3 fun y H4 => ∃ acc, H4 D = some (.lst acc) ∧ acc.length < sizeLine ∧ Nx (upd H4 D (.lst (acc ++ [y]))) else Nx H3)
theorem lcT {a : Addr} {xs : List V} (hs : SqT K H1 a xs) (sz : xs.length < sizeLine) (c : V → Bool) (f : V → V)
    (body : ∀ x H', x ∈ xs → Ext H1 H' → ∀ (Qe : VK) (Qn : Hp → Prop), (∀ H3, Ext H' H3 → c x = true → Qe (f x) H3) → (∀ H3, Ext H' H3 → c x = false → Qn H3) →
      g x (wipe σ vs) H' fun σ2 H2 => wipe σ2 vs = wipe σ vs ∧ tt σ2 H2 fun b H3 => if b = true then te σ2 H3 Qe else Qn H3)
    (k : ∀ H' D, Ext H1 H' → H1 D = none → H' D = some (.lst ((xs.filter c).map f)) → Q (.ref D) H') :
    ∃ a', V.ref a = .ref a' ∧ (∃ xs, SqT K H1 a' xs) ∧ LcG (Itt K a') g tt te vs σ H1 Q := by
  refine ⟨a, rfl, ⟨_, hs⟩, fun D hD => lc_rel walk_tup (fun i y _ => y = f (xs.getD i .non)) (fun i => c (xs.getD i .non)) (mono_fun fun i => f (xs.getD i .non)) hD (fun H' e => sqT_ext e hs) sz (fun i x H' H'' hi e hy Qe Qn he hn => ?_) (fun H' ys e hd hr => ?_)⟩
  · obtain ⟨rfl, hx⟩ := hy
    have ex : xs.getD i .non = x := by rw [List.getD_eq_getElem?_getD, hx]; rfl
    refine body x _ (List.mem_of_getElem? hx) e Qe Qn (fun H3 e3 hc => he _ H3 e3 (by rw [ex]) (by rw [ex]; exact hc)) (fun H3 e3 hc => hn H3 e3 (by rw [ex]; exact hc))
  · have := rel_fun hr
    rw [idx_items] at this
    rw [this] at hd
    exact k H' D e hD hd
theorem lcL {a : Addr} {xs : List V} (hs : SqL K H1 a xs) (sz : xs.length < sizeLine) (c : V → Bool) (f : V → V)
    (body : ∀ x H', x ∈ xs → Ext H1 H' → ∀ (Qe : VK) (Qn : Hp → Prop), (∀ H3, Ext H' H3 → c x = true → Qe (f x) H3) → (∀ H3, Ext H' H3 → c x = false → Qn H3) →
      g x (wipe σ vs) H' fun σ2 H2 => wipe σ2 vs = wipe σ vs ∧ tt σ2 H2 fun b H3 => if b = true then te σ2 H3 Qe else Qn H3)
    (k : ∀ H' D, Ext H1 H' → H1 D = none → H' D = some (.lst ((xs.filter c).map f)) → Q (.ref D) H') :
    ∃ a', V.ref a = .ref a' ∧ (∃ xs, SqL K H1 a' xs) ∧ LcG (Itl K a') g tt te vs σ H1 Q := by
  refine ⟨a, rfl, ⟨_, hs⟩, fun D hD => lc_rel walk_list (fun i y _ => y = f (xs.getD i .non)) (fun i => c (xs.getD i .non)) (mono_fun fun i => f (xs.getD i .non)) hD (fun H' e => sqL_ext e hs) sz (fun i x H' H'' hi e hy Qe Qn he hn => ?_) (fun H' ys e hd hr => ?_)⟩
  · obtain ⟨rfl, hx⟩ := hy
    have ex : xs.getD i .non = x := by rw [List.getD_eq_getElem?_getD, hx]; rfl
    refine body x _ (List.mem_of_getElem? hx) e Qe Qn (fun H3 e3 hc => he _ H3 e3 (by rw [ex]) (by rw [ex]; exact hc)) (fun H3 e3 hc => hn H3 e3 (by rw [ex]; exact hc))
  · have := rel_fun hr
    rw [idx_items] at this
    rw [this] at hd
    exact k H' D e hD hd
/-- over a range: the turn's number is lo + i -/
theorem lcR {lo : Int} {n : Nat} (sz : n < sizeLine) (c : Nat → Bool) (f : Nat → V)
    (body : ∀ (i : Nat) H', i < n → Ext H1 H' → ∀ (Qe : VK) (Qn : Hp → Prop), (∀ H3, Ext H' H3 → c i = true → Qe (f i) H3) → (∀ H3, Ext H' H3 → c i = false → Qn H3) →
      g (.int (lo + i)) (wipe σ vs) H' fun σ2 H2 => wipe σ2 vs = wipe σ vs ∧ tt σ2 H2 fun b H3 => if b = true then te σ2 H3 Qe else Qn H3)
    (k : ∀ H' D, Ext H1 H' → H1 D = none → H' D = some (.lst ((idx c n).map f)) → Q (.ref D) H') : LcG (Itr lo n) g tt te vs σ H1 Q := by
  refine fun D hD => lc_rel walk_range (fun i y _ => y = f i) c (mono_fun f) hD (fun H' e => True.intro) sz (fun i x H' H'' hi e hy Qe Qn he hn => ?_) (fun H' ys e hd hr => ?_)
  · obtain ⟨rfl, rfl⟩ := hy
    exact body i _ hi e Qe Qn (fun H3 e3 hc => he _ H3 e3 rfl hc) hn
  · rw [rel_fun hr] at hd
    exact k H' D e hD hd
theorem lcRC {lo st : Int} {n : Nat} (sz : n < sizeLine) (c : Nat → Bool) (f : Nat → V)
    (body : ∀ (i : Nat) H', i < n → Ext H1 H' → ∀ (Qe : VK) (Qn : Hp → Prop), (∀ H3, Ext H' H3 → c i = true → Qe (f i) H3) → (∀ H3, Ext H' H3 → c i = false → Qn H3) →
      g (.int (lo + (i : Nat) * st)) (wipe σ vs) H' fun σ2 H2 => wipe σ2 vs = wipe σ vs ∧ tt σ2 H2 fun b H3 => if b = true then te σ2 H3 Qe else Qn H3)
    (k : ∀ H' D, Ext H1 H' → H1 D = none → H' D = some (.lst ((idx c n).map f)) → Q (.ref D) H') : LcG (Itc lo st n) g tt te vs σ H1 Q := by
  refine fun D hD => lc_rel walk_rangeC (fun i y _ => y = f i) c (mono_fun f) hD (fun H' e => True.intro) sz (fun i x H' H'' hi e hy Qe Qn he hn => ?_) (fun H' ys e hd hr => ?_)
  · obtain ⟨rfl, rfl⟩ := hy
    exact body i _ hi e Qe Qn (fun H3 e3 hc => he _ H3 e3 rfl hc) hn
  · rw [rel_fun hr] at hd
    exact k H' D e hD hd
/-! pairs -/
theorem walk_enumT {a : Addr} {xs : List V} : Walk (IteT K a) xs.length (fun H => SqT K H a xs) (YPair (fun i => some (.int (i : Nat))) (fun i => xs[i]?)) := by
  refine ⟨fun i _ hi q => ⟨xs, xs[i], q, by simp [hi]⟩, fun _ q => ⟨xs, q, rfl⟩, fun i H v H' _ q y => ?_⟩
  obtain ⟨T, x, h1, h2, h3, h4⟩ := y
  exact ⟨T, .int (i : Nat), x, h1, h2, h3, rfl, h4 xs q⟩
theorem sqE_ext {l : Bool} {H H' : Hp} {a : Addr} {xs : List V} (e : Ext H H') (h : SqE K l H a xs) : SqE K l H' a xs := by
  cases l with
  | true => exact sqL_ext e h
  | false => exact sqT_ext e h
theorem walk_zipE {l1 l2 : Bool} {a b : Addr} {xs ys : List V} : Walk (ItzE K l1 l2 a b) (min xs.length ys.length) (fun H => SqE K l1 H a xs ∧ SqE K l2 H b ys) (YPair (fun i => xs[i]?) (fun i => ys[i]?)) := by
  refine ⟨fun i _ hi q => ?_, fun _ q => ⟨xs, ys, q.1, q.2, rfl⟩, fun i H v H' _ q y => ?_⟩
  · have h1 : i < xs.length := by omega
    have h2 : i < ys.length := by omega
    exact ⟨xs, ys, xs[i], ys[i], q.1, q.2, by simp [h1], by simp [h2]⟩
  · obtain ⟨T, x, z, h1, h2, h3, h4, h5⟩ := y
    exact ⟨T, x, z, h1, h2, h3, h4 xs q.1, h5 ys q.2⟩
/-- a walk that gives pairs, into two names -/
theorem lcP {J : It} {n : Nat} {G : Hp → Prop} {px py : Nat → Option V} {i1 i2 : Nat} (w : Walk J n G (YPair px py)) (hG : ∀ H', Ext H1 H' → G H') (sz : n < sizeLine) (c : Nat → Bool) (f : Nat → V)
    (body : ∀ (i : Nat) x y H', i < n → px i = some x → py i = some y → Ext H1 H' → ∀ (Qe : VK) (Qn : Hp → Prop), (∀ H3, Ext H' H3 → c i = true → Qe (f i) H3) → (∀ H3, Ext H' H3 → c i = false → Qn H3) →
      wipe (((wipe σ vs).set i1 (some x)).set i2 (some y)) vs = wipe σ vs ∧ tt (((wipe σ vs).set i1 (some x)).set i2 (some y)) H' fun b H3 => if b = true then te (((wipe σ vs).set i1 (some x)).set i2 (some y)) H3 Qe else Qn H3)
    (k : ∀ H' D, Ext H1 H' → H1 D = none → H' D = some (.lst ((idx c n).map f)) → Q (.ref D) H') : LcG J (gTup K 2 (gCons (gName i1) (gCons (gName i2) gNil))) tt te vs σ H1 Q := by
  refine fun D hD => lc_rel w (fun i y _ => y = f i) c (mono_fun f) hD hG sz (fun i x H' H'' hi e hy Qe Qn he hn => ?_) (fun H' ys e hd hr => ?_)
  · obtain ⟨T, x, y, rfl, hT, rfl, hx, hy⟩ := hy
    have eT := Ext.new (o := HO.tup [x, y]) hT
    refine ⟨T, _, rfl, SqT.of upd_same, rfl, _, _, rfl, ?_⟩
    refine ⟨_, _, rfl, rfl, ?_⟩
    exact body i x y _ hi hx hy (Ext.trans e eT) Qe Qn (fun H3 e3 hc => he _ H3 (Ext.trans eT e3) rfl hc) (fun H3 e3 hc => hn H3 (Ext.trans eT e3) hc)
  · rw [rel_fun hr] at hd
    exact k H' D e hD hd
theorem zip_items (xs ys : List V) (c : V → V → Bool) (f : V → V → V) : (idx (fun i => c (xs.getD i .non) (ys.getD i .non)) (min xs.length ys.length)).map (fun i => f (xs.getD i .non) (ys.getD i .non)) = ((xs.zip ys).filter fun p => c p.1 p.2).map fun p => f p.1 p.2 := by
  have e := idx_items' (xs.zip ys) (V.non, V.non) (fun p => c p.1 p.2) (fun p => f p.1 p.2)
  rw [List.length_zip] at e
  rw [← e]
  unfold idx
  have hz : ∀ i, i < min xs.length ys.length → (xs.zip ys).getD i (V.non, V.non) = (xs.getD i .non, ys.getD i .non) := fun i hi => by
    have h1 : i < xs.length := by omega
    have h2 : i < ys.length := by omega
    have hl : i < (xs.zip ys).length := by rw [List.length_zip]; exact hi
    rw [List.getD_eq_getElem?_getD, List.getElem?_eq_getElem hl, List.getElem_zip, List.getD_eq_getElem?_getD, List.getElem?_eq_getElem h1, List.getD_eq_getElem?_getD, List.getElem?_eq_getElem h2]
    rfl
  have hf : (List.range (min xs.length ys.length)).filter (fun i => c (xs.getD i .non) (ys.getD i .non)) = (List.range (min xs.length ys.length)).filter (fun i => c ((xs.zip ys).getD i (V.non, V.non)).1 ((xs.zip ys).getD i (V.non, V.non)).2) := by
    refine List.filter_congr fun i hi => ?_
    rw [hz i (List.mem_range.mp hi)]
  rw [hf]
  refine List.map_congr_left fun i hi => ?_
  rw [hz i (List.mem_range.mp (List.mem_filter.mp hi).1)]
/-- over zip(a, b) -/
theorem lcZ {l1 l2 : Bool} {a b : Addr} {xs ys : List V} {i1 i2 : Nat} (ha : SqE K l1 H1 a xs) (hb : SqE K l2 H1 b ys) (sz : min xs.length ys.length < sizeLine) (c : V → V → Bool) (f : V → V → V)
    (body : ∀ x y H', (x, y) ∈ xs.zip ys → Ext H1 H' → ∀ (Qe : VK) (Qn : Hp → Prop), (∀ H3, Ext H' H3 → c x y = true → Qe (f x y) H3) → (∀ H3, Ext H' H3 → c x y = false → Qn H3) →
      wipe (((wipe σ vs).set i1 (some x)).set i2 (some y)) vs = wipe σ vs ∧ tt (((wipe σ vs).set i1 (some x)).set i2 (some y)) H' fun b H3 => if b = true then te (((wipe σ vs).set i1 (some x)).set i2 (some y)) H3 Qe else Qn H3)
    (k : ∀ H' D, Ext H1 H' → H1 D = none → H' D = some (.lst (((xs.zip ys).filter fun p => c p.1 p.2).map fun p => f p.1 p.2)) → Q (.ref D) H') :
    ∃ k1 k2 a' b' xs ys, [V.ref a, V.ref b] = [V.ref a', V.ref b'] ∧ SqE K k1 H1 a' xs ∧ SqE K k2 H1 b' ys ∧ LcG (ItzE K k1 k2 a' b') (gTup K 2 (gCons (gName i1) (gCons (gName i2) gNil))) tt te vs σ H1 Q := by
  refine ⟨l1, l2, a, b, xs, ys, rfl, ha, hb, lcP walk_zipE (fun H' e => ⟨sqE_ext e ha, sqE_ext e hb⟩) sz (fun i => c (xs.getD i .non) (ys.getD i .non)) (fun i => f (xs.getD i .non) (ys.getD i .non)) (fun i x y H' hi hx hy e Qe Qn he hn => ?_) (fun H' D e hD hd => ?_)⟩
  · have ex : xs.getD i .non = x := by rw [List.getD_eq_getElem?_getD, hx]; rfl
    have ey : ys.getD i .non = y := by rw [List.getD_eq_getElem?_getD, hy]; rfl
    have mem : (x, y) ∈ xs.zip ys := List.mem_of_getElem? (i := i) (by rw [List.getElem?_zip_eq_some]; exact ⟨hx, hy⟩)
    refine body x y _ mem e Qe Qn (fun H3 e3 hc => ?_) (fun H3 e3 hc => hn H3 e3 (by rw [ex, ey]; exact hc))
    have := he H3 e3 (by rw [ex, ey]; exact hc)
    rw [ex, ey] at this
    exact this
  · rw [zip_items] at hd
    exact k H' D e hD hd
/-- over enumerate(a) -/
theorem lcE {a : Addr} {xs : List V} {i1 i2 : Nat} (ha : SqT K H1 a xs) (sz : xs.length < sizeLine) (c : Nat → V → Bool) (f : Nat → V → V)
    (body : ∀ (i : Nat) x H', xs[i]? = some x → Ext H1 H' → ∀ (Qe : VK) (Qn : Hp → Prop), (∀ H3, Ext H' H3 → c i x = true → Qe (f i x) H3) → (∀ H3, Ext H' H3 → c i x = false → Qn H3) →
      wipe (((wipe σ vs).set i1 (some (.int (i : Nat)))).set i2 (some x)) vs = wipe σ vs ∧ tt (((wipe σ vs).set i1 (some (.int (i : Nat)))).set i2 (some x)) H' fun b H3 => if b = true then te (((wipe σ vs).set i1 (some (.int (i : Nat)))).set i2 (some x)) H3 Qe else Qn H3)
    (k : ∀ H' D, Ext H1 H' → H1 D = none → H' D = some (.lst ((idx (fun i => c i (xs.getD i .non)) xs.length).map fun i => f i (xs.getD i .non))) → Q (.ref D) H') :
    ∃ t xs, [V.ref a] = [V.ref t] ∧ SqT K H1 t xs ∧ LcG (IteT K t) (gTup K 2 (gCons (gName i1) (gCons (gName i2) gNil))) tt te vs σ H1 Q := by
  refine ⟨a, xs, rfl, ha, lcP walk_enumT (fun H' e => sqT_ext e ha) sz (fun i => c i (xs.getD i .non)) (fun i => f i (xs.getD i .non)) (fun i x y H' hi hx hy e Qe Qn he hn => ?_) k⟩
  cases hx
  have ey : xs.getD i .non = y := by rw [List.getD_eq_getElem?_getD, hy]; rfl
  refine body i y _ hy e Qe Qn (fun H3 e3 hc => ?_) (fun H3 e3 hc => hn H3 e3 (by rw [ey]; exact hc))
  have := he H3 e3 (by rw [ey]; exact hc)
  rw [ey] at this
  exact this
end
end
end

/-! Defs and methods, their places hidden. -/

section
open PySem PySem.Spec PyProof.Rows L2 Gd
structure Def1 (P : Program) (w : World) (K : PySem.W.Frag) (mg : Str → Option Value) (base : Heap) (CX : CXT) (k : Nat) (name : Str) (ps : List Str) (sp : Sp) : Prop where
  ex : ∃ (f : Addr) (fd : FuncData), mg name = some (.ref f) ∧ PySem.W.keepIn K (.ref f) = true ∧ FnOk P w K mg base CX k f fd ps sp ∧ Binds K fd ps []
structure Bin1 (P : Program) (w : World) (K : PySem.W.Frag) (mg : Str → Option Value) (base : Heap) (CX : CXT) (k : Nat) (C : Addr) (m r : Str) (sp : Sp) : Prop where
  ex : ∃ (f : Addr) (fd : FuncData), BinC K C m r f ∧ FnOk P w K mg base CX k f fd ["self", "other"] sp ∧ Binds K fd ["self", "other"] []
structure Met1 (P : Program) (w : World) (K : PySem.W.Frag) (mg : Str → Option Value) (base : Heap) (CX : CXT) (k : Nat) (C : Addr) (m : Str) (ps : List Str) (sp : Sp) : Prop where
  ex : ∃ (f : Addr) (fd : FuncData), Meth K C m f ∧ PySem.W.fnIn K f = true ∧ FnOk P w K mg base CX k f fd ps sp ∧ Binds K fd ps []
structure Pro1 (P : Program) (w : World) (K : PySem.W.Frag) (mg : Str → Option Value) (base : Heap) (k : Nat) (C : Addr) (x : Str) (sp : Sp) : Prop where
  ex : ∃ (p f : Addr) (fd : FuncData), PropOf K C x p f ∧ FnOk P w K mg base CX0 k f fd ["self"] sp ∧ Binds K fd ["self"] []
structure Ini1 (P : Program) (w : World) (K : PySem.W.Frag) (mg : Str → Option Value) (base : Heap) (CX : CXT) (k : Nat) (C t0 : Addr) (ps : List Str) (sp : Sp) : Prop where
  ex : ∃ (f : Addr) (fd : FuncData) (ds : List Value), Mk K C f ∧ FnOk P w K mg base CX k f fd ps sp ∧ Binds K fd ps [] ∧ Vals [V.ref t0] ds ∧ Binds K fd ps ds
abbrev X0 : XK := fun _ _ _ => False
section
variable {X : Cx} {CX : CXT} {C t0 : Addr} {k j : Nat} {x m r : Str} {ps : List Str} {sp : Sp} {e a : Expr} {es : List Expr} {t : TA} {ta tb : TE} {p pos apos : Pos}
theorem pe_def (D : Def1 X.prog X.w X.K X.mg X.base CX0 k x ps sp) (hr : Room j X.A) (hj : k ≤ j) (hgl : Gl X x) (ha : PA X (e :: es) t) (hdb : (x == ("__debug__" : Str)) = false := by decide)
    (he : starEach (e :: es) X.env = (false, eval e X.env) :: starEach es X.env := by rfl) (hpl : (backTo pos (starEach es X.env)).any (·.1) = false := by rfl) : PE X (.Call (.Name x p) (e :: es) [] pos) (tCall sp [] X0 t) := by
  obtain ⟨f, fd, hm, hk, F, hb⟩ := D.ex
  exact pe_call F (hr.mono hj) hgl hm hk hb .nil pass0 ha hdb he hpl
theorem pe_defX {E : XK} (D : Def1 X.prog X.w X.K X.mg X.base CX k x ps sp) (hx : Passes CX X E) (hr : Room j X.A) (hj : k ≤ j) (hgl : Gl X x) (ha : PA X (e :: es) t) (hdb : (x == ("__debug__" : Str)) = false := by decide)
    (he : starEach (e :: es) X.env = (false, eval e X.env) :: starEach es X.env := by rfl) (hpl : (backTo pos (starEach es X.env)).any (·.1) = false := by rfl) : PE X (.Call (.Name x p) (e :: es) [] pos) (tCall sp [] E t) := by
  obtain ⟨f, fd, hm, hk, F, hb⟩ := D.ex
  exact pe_call F (hr.mono hj) hgl hm hk hb .nil hx ha hdb he hpl
theorem op_add1 {E : XK} (D : Bin1 X.prog X.w X.K X.mg X.base CX k C "__add__" "__radd__" sp) (hx : ∀ σ, PassesAt CX X σ E) (hr : Room j X.A) (hj : k + 1 ≤ j) : OpR X (binaryOp .Add) (rBinO C sp E) := by
  obtain ⟨f, fd, B, F, hb⟩ := D.ex
  exact op_addO B F (hr.mono hj) hb hx
theorem op_eq1 (D : Met1 X.prog X.w X.K X.mg X.base CX0 k C "__eq__" ["self", "other"] sp) (hr : Room j X.A) (hj : k + 1 ≤ j) : OpR X (compareOp .Eq) (rCmpO X.K C sp X0) := by
  obtain ⟨f, fd, M, _, F, hb⟩ := D.ex
  exact op_eqO M F (hr.mono hj) hb (fun _ => quiet0)
theorem op_lt1 (D : Met1 X.prog X.w X.K X.mg X.base CX0 k C "__lt__" ["self", "other"] sp) (hr : Room j X.A) (hj : k + 1 ≤ j) : OpR X (compareOp .Lt) (rCmpO X.K C sp X0) := by
  obtain ⟨f, fd, M, _, F, hb⟩ := D.ex
  exact op_ltO M F (hr.mono hj) hb (fun _ => quiet0)
theorem op_ne1 (hn : NeC X.K C) (D : Met1 X.prog X.w X.K X.mg X.base CX0 k C "__eq__" ["self", "other"] sp) (hr : Room j X.A) (hj : k + 1 ≤ j) : OpR X (compareOp .NotEq) (rNeO X.K C sp X0) := by
  obtain ⟨f, fd, M, _, F, hb⟩ := D.ex
  exact op_neO hn M F (hr.mono hj) hb (fun _ => quiet0)
theorem pe_pro1 (c : Cls X.K C) (D : Pro1 X.prog X.w X.K X.mg X.base k C x sp) (hr : Room j X.A) (hj : k + 1 ≤ j) (ha : PE X e ta) (hab : attributeBase e x X.env (eval e X.env) = eval e X.env := by rfl) : PE X (.Attribute e x pos) (tProp C sp [] X0 ta) := by
  obtain ⟨p, f, fd, hp, F, hb⟩ := D.ex
  exact pe_prop ha c hp F (hr.mono hj) hb .nil pass0 hab
theorem pe_mk1 {E : XK} (D : Ini1 X.prog X.w X.K X.mg X.base CX k C t0 ps sp) (hx : Passes CX X E) (hr : Room j X.A) (hj : k + 1 ≤ j) (hgl : Gl X x) (hm : X.mg x = some (.ref C)) (ha : PA X (e :: es) t) (hdb : (x == ("__debug__" : Str)) = false := by decide)
    (he : starEach (e :: es) X.env = (false, eval e X.env) :: starEach es X.env := by rfl) (hpl : (backTo pos (starEach es X.env)).any (·.1) = false := by rfl) : PE X (.Call (.Name x p) (e :: es) [] pos) (tMake C sp [] E t) := by
  obtain ⟨f, fd, ds, M, F, hb, _, _⟩ := D.ex
  exact pe_make M F (hr.mono hj) hgl hm hb .nil hx ha hdb he hpl
theorem pe_mk0 {E : XK} (D : Ini1 X.prog X.w X.K X.mg X.base CX k C t0 ps sp) (hx : Passes CX X E) (hr : Room j X.A) (hj : k + 1 ≤ j) (hgl : Gl X x) (hm : X.mg x = some (.ref C)) (hdb : (x == ("__debug__" : Str)) = false := by decide) : PE X (.Call (.Name x p) [] [] pos) (tMake C sp [.ref t0] E tNil) := by
  obtain ⟨f, fd, ds, M, F, _, hv, hb⟩ := D.ex
  exact pe_make0 M F (hr.mono hj) hgl hm hb hv hx hdb
theorem pe_it1 (D : Met1 X.prog X.w X.K X.mg X.base CX k C "__getitem__" ["self", "index"] sp) {E : L2.St → XK} (hx : ∀ σ, PassesAt CX X σ (E σ)) (hr : Room j X.A) (hj : k + 1 ≤ j) (ha : PE X e ta) (hb : PE X a tb)
    (hs : ∀ v u : Value, subscripted a true v u = runValue (.builtin "lifetime.subscript" ⟨[v, u], []⟩) := by intro _ _; with_unfolding_all rfl) : PE X (.Subscript e a pos) (tIxO C sp E ta tb) := by
  obtain ⟨f, fd, M, hfn, F, hB⟩ := D.ex
  exact pe_ixO M hfn F (hr.mono hj) hB hx ha hb hs
theorem pe_me1 {o : Expr} {pl : Sem Bool} {E : XK} (c : Cls X.K C) (D : Met1 X.prog X.w X.K X.mg X.base CX k C m ps sp) (hx : Passes CX X E) (hr : Room j X.A) (hj : k ≤ j) (ho : PE X o ta) (ha : PA X (e :: es) t)
    (ht : eval (.Call (.Attribute o m apos) (e :: es) [] pos) X.env = (do
      let ov ← eval o X.env
      standAt apos.atName
      let (f, first) ← holding [ov] (getMethod ov m pl)
      callWith pos f first (backTo pos (starEach (e :: es) X.env)) (backToKw pos (keywordEach [] X.env))) := by rfl)
    (hst : starEach (e :: es) X.env = (false, eval e X.env) :: starEach es X.env := by rfl) (hpl : (backTo pos (starEach es X.env)).any (·.1) = false := by rfl) :
    PE X (.Call (.Attribute o m apos) (e :: es) [] pos) (tMeth C m sp [] E ta t) := by
  obtain ⟨f, fd, M, _, F, hb⟩ := D.ex
  exact pe_meth ho c M F (hr.mono hj) hb .nil hx ha hst hpl ht
theorem g_lc {wi : TI} {g : TG} {tt : TT} {te : TE} {vs : List Nat} {σ : L2.St} {H : Hp} {Q : VK} (k : wi σ H fun J H1 => LcG J g tt te vs σ H1 Q) : tLc wi g tt te vs σ H Q := k
theorem g_rng1 {ta : TA} {σ : L2.St} {H : Hp} {R : It → Hp → Prop} (k : ta σ H fun vs H1 => ∃ j : Int, vs = [.int j] ∧ -(2 ^ 62) ≤ j ∧ j < 2 ^ 62 ∧ R (Itr 0 j.toNat) H1) : iRng1 ta σ H R := k
theorem g_rng2 {ta : TA} {σ : L2.St} {H : Hp} {R : It → Hp → Prop} (k : ta σ H fun vs H1 => ∃ i j : Int, vs = [.int i, .int j] ∧ (-(2 ^ 62) ≤ i ∧ i < 2 ^ 62 ∧ -(2 ^ 62) ≤ j ∧ j < 2 ^ 62) ∧ R (Itr i (j - i).toNat) H1) : iRng2 ta σ H R := k
theorem g_itup {K : PySem.W.Frag} {te : TE} {σ : L2.St} {H : Hp} {R : It → Hp → Prop} (k : te σ H fun x H1 => ∃ a, x = .ref a ∧ (∃ xs, SqT K H1 a xs) ∧ R (Itt K a) H1) : iTup K te σ H R := k
theorem g_ilist {K : PySem.W.Frag} {te : TE} {σ : L2.St} {H : Hp} {R : It → Hp → Prop} (k : te σ H fun x H1 => ∃ a, x = .ref a ∧ (∃ xs, SqL K H1 a xs) ∧ R (Itl K a) H1) : iList K te σ H R := k
/-- a reading given two ways -/
theorem CallR.or {f : Value} {r1 r2 : List V → Hp → VK → Prop} (h1 : CallR X f r1) (h2 : CallR X f r2) : CallR X f (fun vs H Q => r1 vs H Q ∨ r2 vs H Q) := by
  intro pins s σ H vs us Q I r h
  rcases h with h | h
  · exact h1 pins s σ H vs us Q I r h
  · exact h2 pins s σ H vs us Q I r h
def rSumS (K : PySem.W.Frag) : List V → Hp → VK → Prop := fun vs H Q => ∃ (a : Addr) (ns : List Int), vs = [V.ref a] ∧ (SqL K H a (ns.map V.int) ∨ SqT K H a (ns.map V.int)) ∧ Q (.int ns.sum) H
theorem call_sumS (hc : X.calm = true) : CallR X (.builtin "sum") (rSumS X.K) := by
  intro pins s σ H vs us Q I r h
  obtain ⟨a, ns, e, h | h, k⟩ := h
  · exact cr_sum hc pins s σ H vs us Q I r ⟨a, ns, e, h, k⟩
  · exact cr_sumT hc pins s σ H vs us Q I r ⟨a, ns, e, h, k⟩
end
end

/-! An object made by a class that a variable holds. -/
section
open PySem PySem.Spec PyProof.Rows L2 Gd
section
variable {X : Cx} {CX : CXT} {k j : Nat} {C t0 : Addr} {ps : List Str} {sp : Sp} {E : XK} {pos : Pos} {fe e : Expr} {es : List Expr} {tf : TE} {t : TA}
def tMakeV (C : Addr) (sp : Sp) (dvs : List V) (E : XK) (tf : TE) (t : TA) : TE := fun σ H Q => tf σ H fun x H1 => x = .ref C ∧ tMake C sp dvs E t σ H1 Q
theorem pe_mkV (I : Ini1 X.prog X.w X.K X.mg X.base CX k C t0 ps sp) (hx : Passes CX X E) (hr : Room j X.A) (hj : k + 1 ≤ j) (hf : PE X fe tf) (ha : PA X (e :: es) t)
    (he : eval (.Call fe (e :: es) [] pos) X.env = (do callWith pos (← eval fe X.env) [] (backTo pos (starEach (e :: es) X.env)) (backToKw pos (keywordEach [] X.env))) := by rfl)
    (h1 : starEach (e :: es) X.env = (false, eval e X.env) :: starEach es X.env := by rfl) (h2 : (backTo pos (starEach es X.env)).any (·.1) = false := by rfl) :
    PE X (.Call fe (e :: es) [] pos) (tMakeV C sp [] E tf t) := by
  obtain ⟨f, fd, ds, M, F, hb, _⟩ := I.ex
  constructor
  intro pins s σ H Q I h
  refine Call_ (thn (hf.run pins s σ H _ I h) fun u s1 ⟨x, H1, I1, rx, ex, q1⟩ => ?_) he
  subst ex
  cases rx
  refine PySem.W.callWith_K (h₀ := X.base) I.ok.mod.kin M.kp (thn (ha.run pos pins s1 σ H1 _ I1 q1) fun us s2 ⟨vs, H2, I2, r, q⟩ => ⟨I2.kIn, ?_⟩) h1 h2
  exact run_make M F (hr.mono hj) hb .nil hx I2 r q
end
end

end Q0

set_option Elab.async false
set_option linter.all false
set_option maxRecDepth 100000
set_option maxHeartbeats 4000000
/-! What the defs lean on, in one word each. -/
namespace K0

open PySem PySem.Spec PyProof.Rows L2 Gd

local macro_rules | `(tactic| walk_at "rd1") => `(tactic| first | with_reducible refine g_ret ?_ | with_reducible refine g_retN ?_ | with_reducible refine g_seq ?_ | with_reducible refine g_next ?_ | with_reducible refine g_drop ?_ | with_reducible refine g_asg ?_ | with_reducible refine g_name ?_ | with_reducible refine g_ifs ?_ | with_reducible refine g_test ?_ | with_reducible refine g_tb ?_ | with_reducible refine g_and ?_ | with_reducible refine g_or ?_ | with_reducible refine g_not ?_ | with_reducible refine g_andV ?_ | with_reducible refine g_orV ?_ | with_reducible refine g_notV ?_ | with_reducible refine g_if ?_ | with_reducible refine g_op ?_ | with_reducible refine g_un ?_ | with_reducible refine g_cb ?_ | with_reducible refine g_nil ?_ | with_reducible refine g_cons ?_ | with_reducible refine g_call ?_ | with_reducible refine g_callS ?_ | with_reducible refine g_tup ?_ | with_reducible refine g_lst ?_ | with_reducible refine g_isN ?_ | with_reducible refine g_sl ?_ | with_reducible refine g_nopart ?_ | with_reducible refine g_part ?_ | with_reducible refine g_chain ?_ | with_reducible refine g_fld ?_ | with_reducible refine g_prop ?_ | with_reducible refine g_bm ?_ | with_reducible refine g_bm0 ?_ | with_reducible refine g_c ?_ | with_reducible refine g_sub ?_ | with_reducible refine g_int1 ?_ | with_reducible refine g_int2 ?_ | with_reducible refine g_yes ?_ | with_reducible refine g_sfld ?_ | with_reducible refine g_NT ?_ | with_reducible refine g_NF ?_ | with_reducible refine iteT ?_ | with_reducible refine iteF ?_ | ((with_reducible refine' g_aug ?hv ?_); (case hv => exact rfl)) | ((with_reducible refine' g_var ?hv ?_); (case hv => exact rfl)) | with_reducible refine g_I0 ?_ | with_reducible refine g_U ?_ | with_reducible refine g_eqI ?_ | with_reducible refine g_blV ?_ | with_reducible refine g_inV ?_)
local macro_rules | `(tactic| walk_at "rd") => `(tactic| repeat walk_at "rd1")

section
open PySem PySem.Spec PyProof.Rows L2 Gd
/-! ### defs and methods, their places hidden -/
structure Def1 (P : Program) (w : World) (K : PySem.W.Frag) (mg : Str → Option Value) (base : Heap) (CX : CXT) (k : Nat) (name : Str) (ps : List Str) (sp : Sp) : Prop where
  ex : ∃ (f : Addr) (fd : FuncData), mg name = some (.ref f) ∧ PySem.W.keepIn K (.ref f) = true ∧ FnOk P w K mg base CX k f fd ps sp ∧ Binds K fd ps []
structure Def1G (P : Program) (w : World) (K : PySem.W.Frag) (mg : Str → Option Value) (base : Heap) (CX : CXT) (k : Nat) (name : Str) (ps : List Str) (sp : Sp) : Prop where
  ex : ∃ (f : Addr) (fd : FuncData), mg name = some (.ref f) ∧ PySem.W.keepIn K (.ref f) = true ∧ FnG P w K mg base CX k f fd ps sp ∧ Binds K fd ps []
structure Met1 (P : Program) (w : World) (K : PySem.W.Frag) (mg : Str → Option Value) (base : Heap) (CX : CXT) (k : Nat) (C : Addr) (m : Str) (ps : List Str) (sp : Sp) : Prop where
  ex : ∃ (f : Addr) (fd : FuncData), Meth K C m f ∧ PySem.W.fnIn K f = true ∧ FnOk P w K mg base CX k f fd ps sp ∧ Binds K fd ps []
structure Pro1 (P : Program) (w : World) (K : PySem.W.Frag) (mg : Str → Option Value) (base : Heap) (C : Addr) (x : Str) (sp : Sp) : Prop where
  ex : ∃ (p f : Addr) (fd : FuncData), PropOf K C x p f ∧ FnOk P w K mg base CX0 1 f fd ["self"] sp ∧ Binds K fd ["self"] []
structure Ini1 (P : Program) (w : World) (K : PySem.W.Frag) (mg : Str → Option Value) (base : Heap) (C t0 : Addr) (sp : Sp) : Prop where
  ex : ∃ (f : Addr) (fd : FuncData) (ds : List Value), Mk K C f ∧ FnOk P w K mg base CX0 4 f fd ["self", "factors"] sp ∧ Binds K fd ["self", "factors"] [] ∧ Vals [V.ref t0] ds ∧ Binds K fd ["self", "factors"] ds
abbrev X0 : XK := fun _ _ _ => False
section
variable {X : Cx} {C t0 : Addr} {k j : Nat} {x m r : Str} {ps : List Str} {sp : Sp} {e a : Expr} {es : List Expr} {t : TA} {ta tb : TE} {p pos apos : Pos}
theorem pe_def (D : Def1 X.prog X.w X.K X.mg X.base CX0 k x ps sp) (hr : Room j X.A) (hj : k ≤ j) (hgl : Gl X x) (ha : PA X (e :: es) t) (hdb : (x == ("__debug__" : Str)) = false := by decide)
    (he : starEach (e :: es) X.env = (false, eval e X.env) :: starEach es X.env := by rfl) (hpl : (backTo pos (starEach es X.env)).any (·.1) = false := by rfl) : PE X (.Call (.Name x p) (e :: es) [] pos) (tCall sp [] X0 t) := by
  obtain ⟨f, fd, hm, hk, F, hb⟩ := D.ex
  exact pe_call F (hr.mono hj) hgl hm hk hb .nil pass0 ha hdb he hpl
theorem pe_defG (hg : NoG X.A) (D : Def1G X.prog X.w X.K X.mg X.base CX0 k x ps sp) (hr : Room j X.A) (hj : k ≤ j) (hgl : Gl X x) (ha : PA X (e :: es) t) (hdb : (x == ("__debug__" : Str)) = false := by decide)
    (he : starEach (e :: es) X.env = (false, eval e X.env) :: starEach es X.env := by rfl) (hpl : (backTo pos (starEach es X.env)).any (·.1) = false := by rfl) : PE X (.Call (.Name x p) (e :: es) [] pos) (tCall sp [] X0 t) := by
  obtain ⟨f, fd, hm, hk, F, hb⟩ := D.ex
  exact pe_callG hg F (hr.mono hj) hgl hm hk hb .nil pass0 ha hdb he hpl
theorem pe_pro1 (c : Cls X.K C) (D : Pro1 X.prog X.w X.K X.mg X.base C x sp) (hr : Room j X.A) (hj : 2 ≤ j) (ha : PE X e ta) (hab : attributeBase e x X.env (eval e X.env) = eval e X.env := by rfl) : PE X (.Attribute e x pos) (tProp C sp [] X0 ta) := by
  obtain ⟨p, f, fd, hp, F, hb⟩ := D.ex
  exact pe_prop ha c hp F (hr.mono hj) hb .nil pass0 hab
theorem pe_mk1 (D : Ini1 X.prog X.w X.K X.mg X.base C t0 sp) (hr : Room j X.A) (hj : 5 ≤ j) (hgl : Gl X x) (hm : X.mg x = some (.ref C)) (ha : PA X (e :: es) t) (hdb : (x == ("__debug__" : Str)) = false := by decide)
    (he : starEach (e :: es) X.env = (false, eval e X.env) :: starEach es X.env := by rfl) (hpl : (backTo pos (starEach es X.env)).any (·.1) = false := by rfl) : PE X (.Call (.Name x p) (e :: es) [] pos) (tMake C sp [] X0 t) := by
  obtain ⟨f, fd, ds, M, F, hb, _, _⟩ := D.ex
  exact pe_make M F (hr.mono hj) hgl hm hb .nil pass0 ha hdb he hpl
theorem pe_mk0 (D : Ini1 X.prog X.w X.K X.mg X.base C t0 sp) (hr : Room j X.A) (hj : 5 ≤ j) (hgl : Gl X x) (hm : X.mg x = some (.ref C)) (hdb : (x == ("__debug__" : Str)) = false := by decide) : PE X (.Call (.Name x p) [] [] pos) (tMake C sp [.ref t0] X0 tNil) := by
  obtain ⟨f, fd, ds, M, F, _, hv, hb⟩ := D.ex
  exact pe_make0 M F (hr.mono hj) hgl hm hb hv pass0 hdb
theorem pe_me1 {o : Expr} {pl : Sem Bool} {E : XK} (c : Cls X.K C) (D : Met1 X.prog X.w X.K X.mg X.base (L2.CX X.prog X.w) k C m ps sp) (hr : Room j X.A) (hj : k ≤ j) (hx : Passes (L2.CX X.prog X.w) X E) (ho : PE X o ta) (ha : PA X (e :: es) t)
    (ht : eval (.Call (.Attribute o m apos) (e :: es) [] pos) X.env = (do
      let ov ← eval o X.env
      standAt apos.atName
      let (f, first) ← holding [ov] (getMethod ov m pl)
      callWith pos f first (backTo pos (starEach (e :: es) X.env)) (backToKw pos (keywordEach [] X.env))) := by rfl)
    (hst : starEach (e :: es) X.env = (false, eval e X.env) :: starEach es X.env := by rfl) (hpl : (backTo pos (starEach es X.env)).any (·.1) = false := by rfl) :
    PE X (.Call (.Attribute o m apos) (e :: es) [] pos) (tMeth C m sp [] E ta t) := by
  obtain ⟨f, fd, M, _, F, hb⟩ := D.ex
  exact pe_meth ho c M F (hr.mono hj) hb .nil hx ha hst hpl ht
end
theorem trim_trm : ∀ l : List Int, trim l = Q0.trm l
  | [] => rfl
  | x :: r => by
    have ih := trim_trm r
    rw [trim, Q0.trm, ih]
    all_goals (cases Q0.trm r <;> rfl)
end

/-! A word as a whole number; a term. -/

section
open PySem PySem.Spec PyProof.Rows L2 Gd TL
open Q0 (g_gen rdW rdT isDg rpx or1 sgW)
def optV : Option Int → V
  | none => .non
  | some v => .int v
theorem ascii_dg : ((List.range 128).all fun c => decide (Unicode.isDigit c = (decide (48 ≤ c) && decide (c ≤ 57)))) = true := by decide +kernel
theorem dg_of {x : Str} : (Txt.isascii x && Txt.isdigit x) = isDg (tl x) := by
  have ha : Txt.isascii x = (tl x).all fun c => decide (c < 128) := by
    show x.cps.all _ = _
    rw [← Array.all_toList]
  have hd : Txt.isdigit x = (!(tl x).isEmpty && (tl x).all Unicode.isDigit) := by
    show (decide (x.length > 0) && x.cps.all Unicode.isDigit) = _
    rw [← Array.all_toList, len_tl]
    congr 1
    cases tl x <;> simp
  rw [ha, hd]
  unfold Q0.isDg
  generalize tl x = l
  have key : ∀ c, (decide (c < 128) && Unicode.isDigit c) = (decide (48 ≤ c) && decide (c ≤ 57)) := fun c => by
    by_cases hc : c < 128
    · have := List.all_eq_true.mp ascii_dg c (List.mem_range.mpr hc)
      rw [of_decide_eq_true this, decide_eq_true hc, Bool.true_and]
    · rw [decide_eq_false hc, Bool.false_and, decide_eq_false (show ¬ c ≤ 57 by omega), Bool.and_false]
  have both : ∀ l : List Nat, (l.all (fun c => decide (c < 128)) && l.all Unicode.isDigit) = l.all fun c => decide (48 ≤ c) && decide (c ≤ 57) := fun l => by
    induction l with
    | nil => rfl
    | cons c r ih =>
      rw [List.all_cons, List.all_cons, List.all_cons, ← ih, ← key c]
      cases decide (c < 128) <;> cases Unicode.isDigit c <;> cases r.all (fun c => decide (c < 128)) <;> simp
  rw [← both]
  cases l.all (fun c => decide (c < 128)) <;> cases l.isEmpty <;> simp
theorem int_dg {x : Str} (h : isDg (tl x) = true) (hl : x.length ≤ 640) : intText? x = some ((NumText.digitsVal (tl x) : Nat) : Int) := by
  unfold Q0.isDg at h
  rw [Bool.and_eq_true] at h
  refine intText_digits (fun c hc => ?_) (fun z => ?_) (by omega)
  · have := List.all_eq_true.mp h.2 c hc
    simpa using this
  · have : tl x = [] := z
    rw [this] at h
    simp at h
theorem sub_one {x y : Str} {c : Nat} (hy : tl y = [c]) : Builtin.Str.subAt x y 0 = decide ((tl x).head? = some c) := by
  rw [StrLaws.subAt_eq]
  have h1 : y.length = 1 := by rw [len_tl, hy]; rfl
  have h2 : y.cps.toList = [c] := hy
  rw [h1, h2, List.drop_zero]
  show ((tl x).take 1 == [c]) = _
  cases tl x with
  | nil => rfl
  | cons a r =>
    show ([a] == [c]) = decide (some a = some c)
    by_cases e : a = c
    · subst e
      simp
    · simp [e]
theorem tl_rp {x y : Str} {c : Nat} (hy : tl y = [c]) : tl (Txt.removeprefix x y) = rpx c (tl x) := by
  have h1 : y.length = 1 := by rw [len_tl, hy]; rfl
  unfold Txt.removeprefix
  rw [sub_one hy, h1]
  cases e : tl x with
  | nil =>
    rw [if_neg (by simp)]
    exact e
  | cons a r =>
    have hl : x.length = r.length + 1 := by rw [len_tl, e]; rfl
    by_cases h : a = c
    · subst h
      rw [if_pos (by simp)]
      show tl (if (x.length - 1 == x.length) = true then x else Builtin.Str.strSub x 1 x.length) = rpx a (a :: r)
      rw [if_neg (by simp; omega), tl_strSub_end, e, Q0.rpx, if_pos rfl]
      rfl
    · rw [if_neg (by simpa using h), Q0.rpx, if_neg h]
      exact e
theorem sw_one {x y : Str} {c : Nat} (hy : tl y = [c]) : Txt.startswith x y = decide ((tl x).head? = some c) := by
  have h1 : y.length = 1 := by rw [len_tl, hy]; rfl
  unfold Txt.startswith
  rw [sub_one hy, h1, len_tl]
  cases tl x with
  | nil => rfl
  | cons a r => simp
theorem rpx_len (c : Nat) : ∀ l : List Nat, (rpx c l).length ≤ l.length
  | [] => Nat.le_refl _
  | a :: r => by
    rw [Q0.rpx]
    split <;> simp
theorem par_len : ∀ (l acc d q : List Nat), par [112] acc l = some (d, q) → d.length + q.length ≤ acc.length + l.length
  | [], acc, d, q, h => by cases h
  | c :: r, acc, d, q, h => by
    by_cases hp : pre [112] (c :: r) = true
    · rw [par_hit hp] at h
      cases h
      rw [List.length_drop]
      omega
    · rw [par_miss (by simpa using hp)] at h
      have := par_len r (acc ++ [c]) d q h
      rw [List.length_append] at this
      simp at this ⊢
      omega
section
variable {P : Program} {w : World} {K : PySem.W.Frag} {mg : Str → Option Value} {base : Heap} {f : Addr} {fd : FuncData}
theorem g_or1 {te : TE} {σ : L2.St} {H : Hp} {Q : VK} {y : Str} (ht : ∀ Q' : VK, Q' (.str y) H → te σ H Q') (hy : y.length ≤ sizeLine) (k : ∀ z : Str, tl z = or1 (tl y) → z.length ≤ y.length + 1 → Q (.str z) H) : tOrT K te (tC (.str "1")) σ H Q := by
  refine ht _ ⟨_, ⟨hy, rfl⟩, ?_⟩
  have c49 : tl ("1" : Str) = [49] := by decide +kernel
  have hyl : y.length = (tl y).length := len_tl y
  by_cases e : tl y = []
  · rw [e] at hyl
    have hyl : y.length = 0 := hyl
    rw [hyl, if_neg (by decide)]
    refine k _ ?_ ?_
    · rw [c49, e]
      rfl
    · rw [len_tl, c49, hyl]
      decide
  · have : (tl y).length ≠ 0 := fun z => e (List.length_eq_zero_iff.mp z)
    rw [if_pos (by simp; omega)]
    refine k y ?_ (by omega)
    unfold Q0.or1
    rw [if_neg e]
abbrev sRdW : Stmt := top 23
abbrev sRdT : Stmt := top 24
theorem scRdW : FnScope ["word"] ["word"] (defScope sRdW) := ⟨rfl, rfl, rfl, by decide +kernel, rfl, by decide +kernel, by decide +kernel⟩
def spRdW : Sp := fun vs H Q _ => ∃ x : Str, vs = [.str x] ∧ x.length ≤ 1000000 ∧ Q (optV (rdW (tl x))) H
theorem ok_rdW (F : Fun K "read_whole" "read_whole" sRdW f fd) (T : Txt K mg) (gD : ∃ t, mg "MAX_DIGITS" = some (.int 60 t)) : FnOk P w K mg base CX0 1 f fd ["word"] spRdW := by
  obtain ⟨tD, gD⟩ := gD
  refine F.ok scRdW (fun vs H Q E h => ?_) (fun cdv A outer s H vs Q E hr h => ?_)
  · obtain ⟨x, rfl, _⟩ := h
    rfl
  · obtain ⟨x, rfl, hl, q⟩ := h
    refine ⟨_, pss_cons (ps_if (PW.pt (pw_or (pt_cmpR op_gt (pe_callB call_len_str (by rfl) T.len PySem.boot_len (pa_cons (pv 0) pa_nil)) (pe_glob (v := .int 60) (by rfl) gD ⟨_, rfl⟩) (nomark _)) (pw_or1 (pt_not (PW.pt (pw_and (pt_val (pe_bm0 PySem.F.plainAttrs_str PySem.F.slot_str_isascii PySem.F.type_str_isascii mt_isascii (pv 0))) (pw_and1 (pt_val (pe_bm0 PySem.F.plainAttrs_str PySem.F.slot_str_isdigit PySem.F.type_str_isdigit mt_isdigit (pv 0)))))))))) (pss_one (ps_ret pe_non)) pss_nil)
      (pss_one (ps_ret (pe_callTy call_int_str (by rfl) T.int (by decide +kernel) (pa_cons (pv 0) pa_nil)))), ?_⟩
    have sz : (10000000 : Nat) < sizeLine := by decide
    have hlx : x.length = (tl x).length := len_tl x
    walk_at "rd"
    refine ⟨x, rfl, by omega, ?_⟩
    walk_at "rd"
    refine ite2 (fun h => ?_) (fun h => ?_)
    · have h := of_decide_eq_true h
      have e : rdW (tl x) = none := by
        unfold Q0.rdW
        rw [if_neg]
        intro z
        have := z.1
        omega
      rw [e] at q
      walk_at "rd"
      exact q
    · have h : ¬ (60 : Int) < x.length := fun z => h (decide_eq_true z)
      walk_at "rd"
      refine ⟨rfl, x, rfl, rfl, trivial, ?_⟩
      dsimp only
      have hg := dg_of (x := x)
      have bad : isDg (tl x) = false → Q .non H := fun hd => by
        have e : rdW (tl x) = none := by
          unfold Q0.rdW
          rw [if_neg]
          intro z
          rw [hd] at z
          exact Bool.false_ne_true z.2
        rw [e] at q
        exact q
      cases ha : Txt.isascii x with
      | false =>
        rw [ha, Bool.false_and] at hg
        refine ⟨false, rfl, iteF (iteT ?_)⟩
        walk_at "rd"
        exact bad hg.symm
      | true =>
        rw [ha, Bool.true_and] at hg
        refine ⟨true, rfl, iteT ?_⟩
        walk_at "rd"
        refine ⟨rfl, x, rfl, rfl, trivial, ?_⟩
        dsimp only
        cases hd : Txt.isdigit x with
        | false =>
          rw [hd] at hg
          refine ⟨false, rfl, iteT ?_⟩
          walk_at "rd"
          exact bad hg.symm
        | true =>
          rw [hd] at hg
          refine ⟨true, rfl, iteF ?_⟩
          walk_at "rd"
          have e : rdW (tl x) = some ((NumText.digitsVal (tl x) : Nat) : Int) := by
            unfold Q0.rdW
            rw [if_pos ⟨by omega, hg.symm⟩]
          rw [e] at q
          exact ⟨x, _, rfl, int_dg hg.symm (by omega), by omega, q⟩
theorem scRdT : FnScope ["word", "digits", "letter", "power", "factor"] ["word"] (defScope sRdT) := ⟨rfl, rfl, rfl, by decide +kernel, rfl, by decide +kernel, by decide +kernel⟩
def spRdT (K : PySem.W.Frag) : Sp := fun vs H Q _ => ∃ x : Str, vs = [.str x] ∧ x.length ≤ 200000 ∧ ∀ H' b, Ext H H' → SqT K H' b [optV (rdT (tl x)).1, optV (rdT (tl x)).2] → Q (.ref b) H'
theorem ok_rdT (F : Fun K "read_term" "read_term" sRdT f fd) (T : Txt K mg) (Rw : Def1 P w K mg base CX0 1 "read_whole" ["word"] spRdW) : FnOk P w K mg base CX0 2 f fd ["word"] (spRdT K) := by
  refine F.ok scRdT (fun vs H Q E h => ?_) (fun cdv A outer s H vs Q E hr h => ?_)
  · obtain ⟨x, rfl, _⟩ := h
    rfl
  · obtain ⟨x, rfl, hl, q⟩ := h
    refine ⟨_, pss_cons (ps_asg (pe_bm PySem.F.plainAttrs_str PySem.F.slot_str_partition PySem.F.type_str_partition mt_partition (pe_bm PySem.F.plainAttrs_str PySem.F.slot_str_removeprefix PySem.F.type_str_removeprefix mt_removeprefix (pv 0) (pa_cons pe_str pa_nil)) (pa_cons pe_str pa_nil)) (pg_tup rfl (pgs_cons (pg_name (i := 1) scRdT.nd rfl (Or.inl rfl)) (pgs_cons (pg_name (i := 2) scRdT.nd rfl (Or.inl rfl)) (pgs_cons (pg_name (i := 3) scRdT.nd rfl (Or.inl rfl)) pgs_nil)))))
      (pss_cons (ps_set (i := 4) scRdT.nd rfl (Or.inl rfl) (pe_def Rw hr (by decide) (by rfl) (pa_cons (pe_orT (pv 1) (pe_one pe_str)) pa_nil)))
      (pss_cons (ps_if (PW.pt (pw_and (pt_cmp (pc_notN (pv 4))) (pw_and1 (pt_val (pe_bm PySem.F.plainAttrs_str PySem.F.slot_str_startswith PySem.F.type_str_startswith mt_startswith (pv 0) (pa_cons pe_str pa_nil)))))) (pss_one (ps_set (i := 4) scRdT.nd rfl (Or.inl rfl) (pe_un un_neg (pv 4)))) pss_nil)
      (pss_cons (ps_if (pt_cmpR op_eq (pv 2) pe_str (nomark _)) (pss_one (ps_ret (pe_tup (pa_cons (pv 4) (pa_cons pe_int pa_nil))))) pss_nil)
      (pss_one (ps_ret (pe_tup (pa_cons (pv 4) (pa_cons (pe_def Rw hr (by decide) (by rfl) (pa_cons (pe_orT (pe_bm PySem.F.plainAttrs_str PySem.F.slot_str_removeprefix PySem.F.type_str_removeprefix mt_removeprefix (pv 3) (pa_cons pe_str pa_nil)) (pe_one pe_str)) pa_nil)) pa_nil)))))))), ?_⟩
    have sz : (10000000 : Nat) < sizeLine := by decide
    have c45 : tl ("-" : Str) = [45] := by decide +kernel
    have c112 : tl ("p" : Str) = [112] := by decide +kernel
    have c94 : tl ("^" : Str) = [94] := by decide +kernel
    have c49 : tl ("1" : Str) = [49] := by decide +kernel
    have p1 : ("p" : Str).length = 1 := by decide +kernel
    have hlx : x.length = (tl x).length := len_tl x
    have hb := tl_rp (x := x) c45
    have hbl : (Txt.removeprefix x ("-" : Str)).length ≤ 200000 := by
      rw [len_tl, hb]
      have := rpx_len 45 (tl x)
      omega
    try dsimp only [Q0.cx_nox, Q0.cx_K]
    walk_at "rd"
    refine ⟨rfl, ?_⟩
    walk_at "rd"
    refine ⟨_, _, rfl, rfl, by omega, ?_⟩
    dsimp only
    refine ⟨rfl, ?_⟩
    walk_at "rd"
    refine ⟨_, _, rfl, rfl, by rw [p1]; rfl, by omega, fun t ht => ?_⟩
    have et := Ext.new (o := HO.tup [V.str (Txt.partition (Txt.removeprefix x ("-" : Str)) ("p" : Str)).1, V.str (Txt.partition (Txt.removeprefix x ("-" : Str)) ("p" : Str)).2.1, V.str (Txt.partition (Txt.removeprefix x ("-" : Str)) ("p" : Str)).2.2]) ht
    walk_at "rd"
    refine ⟨t, _, rfl, SqT.of upd_same, rfl, _, _, rfl, ?_⟩
    generalize upd H t _ = Ht at et ⊢
    have hpart : (par [112] [] (rpx 45 (tl x)) = none ∧ Txt.partition (Txt.removeprefix x ("-" : Str)) ("p" : Str) = (Txt.removeprefix x ("-" : Str), Str.empty, Str.empty)) ∨ ∃ d q, par [112] [] (rpx 45 (tl x)) = some (d, q) ∧ Txt.partition (Txt.removeprefix x ("-" : Str)) ("p" : Str) = (⟨d.toArray⟩, ("p" : Str), ⟨q.toArray⟩) := by
      rw [partition_par _ _ (by rw [c112]; simp), c112, hb]
      cases h : par [112] [] (rpx 45 (tl x)) with
      | none => exact .inl ⟨rfl, rfl⟩
      | some dq => exact .inr ⟨dq.1, dq.2, rfl, rfl⟩
    have hpl : (Txt.partition (Txt.removeprefix x ("-" : Str)) ("p" : Str)).1.length ≤ 200000 ∧ (Txt.partition (Txt.removeprefix x ("-" : Str)) ("p" : Str)).2.2.length ≤ 200000 := by
      rcases hpart with ⟨_, h⟩ | ⟨d, q, h1, h⟩
      · rw [h]
        exact ⟨hbl, Nat.zero_le _⟩
      · have := par_len _ _ _ _ h1
        have h3 := rpx_len 45 (tl x)
        rw [h]
        refine ⟨?_, ?_⟩
        · rw [len_tl, tl_mk]
          simp at this
          omega
        · rw [len_tl, tl_mk]
          simp at this
          omega
    generalize Txt.partition (Txt.removeprefix x ("-" : Str)) ("p" : Str) = Pt at hpart hpl ⊢
    obtain ⟨dg, lt, pw⟩ := Pt
    dsimp only at hpl ⊢
    walk_at "rd"
    refine ⟨_, _, rfl, ?_⟩
    walk_at "rd"
    refine ⟨_, _, rfl, ?_⟩
    walk_at "rd"
    refine ⟨rfl, ?_⟩
    walk_at "rd"
    refine g_or1 (y := dg) (fun Q' q' => ?_) (by omega) fun z hz hzl => ?_
    · exact ⟨_, rfl, q'⟩
    walk_at "rd"
    refine ⟨z, rfl, by omega, ?_⟩
    rw [hz]
    refine g_name ?_
    dsimp only
    refine g_cut (fun σ' H' => H' = Ht ∧ σ' = [some (.str x), some (.str dg), some (.str lt), some (.str pw), some (optV (sgW (tl x) (rdW (or1 (tl dg)))))]) (fun σ' H' hN => ?_) (fun go => ?_)
    rotate_left
    · refine g_gen fun D1 hn1 _ => ?_
      have fin : D1.nx [some (.str x), some (.str dg), some (.str lt), some (.str pw), some (optV (sgW (tl x) (rdW (or1 (tl dg)))))] Ht := hn1 _ _ (go _ _ ⟨rfl, rfl⟩)
      walk_at "rd"
      unfold tNotN
      walk_at "rd"
      cases hr : rdW (or1 (tl dg)) with
      | none =>
        have e : sgW (tl x) none = none := by
          unfold Q0.sgW
          split <;> rfl
        rw [hr, e] at fin
        exact fin
      | some v =>
        rw [hr] at fin
        rw [if_pos (by simp [optV])]
        walk_at "rd"
        refine ⟨rfl, x, _, rfl, rfl, ?_⟩
        dsimp only
        rw [sw_one c45]
        by_cases h : (tl x).head? = some 45
        · rw [Q0.sgW, if_pos h] at fin
          refine ⟨_, rfl, ?_⟩
          rw [if_pos (decide_eq_true h)]
          walk_at "rd"
          refine ⟨v, rfl, ?_⟩
          walk_at "rd"
          exact fin
        · rw [Q0.sgW, if_neg h] at fin
          refine ⟨_, rfl, ?_⟩
          rw [if_neg (by simpa using h)]
          walk_at "rd"
          exact fin
    · obtain ⟨rfl, rfl⟩ := hN
      walk_at "rd"
      refine ⟨rfl, ?_⟩
      rcases hpart with ⟨hp, h⟩ | ⟨d, qq, hp, h⟩
      · cases h
        rw [hb] at *
        rw [Q0.rdT, hp] at q
        refine ⟨_, rfl, ?_⟩
        rw [if_pos (decide_eq_true (show V.str Str.empty = V.str (Str.ofString "") by decide +kernel))]
        walk_at "rd"
        refine ⟨by show 2 ≤ sizeLine; decide, fun u hu => ?_⟩
        have eu := Ext.new (o := HO.tup [optV (sgW (tl x) (rdW (or1 (rpx 45 (tl x))))), V.int 0]) hu
        exact q _ u (Ext.trans et eu) (SqT.of upd_same)
      · cases h
        rw [Q0.rdT, hp] at q
        refine ⟨_, rfl, ?_⟩
        rw [if_neg (by simp; decide)]
        walk_at "rd"
        refine g_or1 (y := Txt.removeprefix ⟨qq.toArray⟩ ("^" : Str)) (fun Q' q' => ?_) ?_ fun z2 hz2 hzl2 => ?_
        · walk_at "rd"
          exact ⟨rfl, _, _, rfl, rfl, by omega, q'⟩
        · rw [len_tl, tl_rp c94, tl_mk qq]
          have h1 := rpx_len 94 qq
          have h2 := hpl.2
          rw [len_tl, tl_mk qq] at h2
          omega
        rw [tl_rp c94, tl_mk qq] at hz2
        rw [len_tl (Txt.removeprefix _ _), tl_rp c94, tl_mk] at hzl2
        have hz3 : z2.length ≤ 1000000 := by
          have h1 := rpx_len 94 qq
          have h2 := hpl.2
          rw [len_tl, tl_mk qq] at h2
          omega
        walk_at "rd"
        refine ⟨z2, rfl, hz3, ?_⟩
        rw [hz2]
        rw [tl_mk d]
        walk_at "rd"
        refine ⟨by show 2 ≤ sizeLine; decide, fun u hu => ?_⟩
        have eu := Ext.new (o := HO.tup [optV (sgW (tl x) (rdW (or1 d))), optV (rdW (or1 (rpx 94 qq)))]) hu
        exact q _ u (Ext.trans et eu) (SqT.of upd_same)
end
end

/-! The text of a term. -/

section
open PySem PySem.Spec PyProof.Rows L2 Gd TL
open Q0 (tmL sgL spL wdL midL rwT trs rowL g_gen)
theorem tl_nat (n : Nat) : tl (toString (n : Int) : String) = numL n := tl_num n
theorem num_len100 {n : Nat} (h : n < 10 ^ 100) : (numL n).length ≤ 100 := numL_len (by decide) h
theorem log_lt {i : Int} (h : i.natAbs < 10 ^ 100) : i.natAbs.log2 < 1920 := by
  by_cases z : i.natAbs = 0
  · rw [z]
    decide
  · exact (Nat.log2_lt z).mpr (Nat.lt_trans h (by decide +kernel))
theorem tm_len {m k : Nat} (h1 : m < 10 ^ 100) (h2 : k < 1000) : (tmL m k).length ≤ 110 := by
  have a := num_len100 h1
  have b : (numL k).length ≤ 3 := numL_len (by decide) h2
  unfold Q0.tmL
  split
  · omega
  · rw [List.length_append, List.length_cons]
    split <;> split <;> simp <;> omega
section
variable {P : Program} {w : World} {K : PySem.W.Frag} {mg : Str → Option Value} {base : Heap} {f : Addr} {fd : FuncData}
abbrev sTerm : Stmt := top 20
abbrev sSign : Stmt := top 21
theorem scTerm : FnScope ["many", "power", "letter"] ["many", "power"] (defScope sTerm) := ⟨rfl, rfl, rfl, by decide +kernel, rfl, by decide +kernel, by decide +kernel⟩
def spTerm : Sp := fun vs H Q _ => ∃ (m k : Nat), vs = [.int (m : Int), .int (k : Int)] ∧ m < 10 ^ 100 ∧ k < 1000 ∧ ∀ y : Str, tl y = tmL m k → Q (.str y) H
theorem ok_term (F : Fun K "term_text" "term_text" sTerm f fd) (sStr : mg "str" = none) : FnOk P w K mg base CX0 1 f fd ["many", "power"] spTerm := by
  refine F.ok scTerm (fun vs H Q E h => ?_) (fun cdv A outer s H vs Q E hr h => ?_)
  · obtain ⟨m, k, rfl, _⟩ := h
    rfl
  · obtain ⟨m, k, rfl, hm, hk, q⟩ := h
    refine ⟨_, pss_cons (ps_if (pt_cmpR op_eq (pv 1) pe_int (nomark _)) (pss_one (ps_ret (pe_callTy call_str_int (by rfl) sStr (by decide +kernel) (pa_cons (pv 0) pa_nil)))) pss_nil)
      (pss_cons (ps_set (i := 2) scTerm.nd rfl (Or.inl rfl) (pe_ifExp (pt_cmpR op_eq (pv 1) pe_int (nomark _)) pe_str (pe_joined (PJ.cons pe_str (PJ.cons (pe_fmt (pv 1)) PJ.nil)))))
      (pss_one (ps_ret (pe_ifExp (pt_cmpR op_eq (pv 0) pe_int (nomark _)) (pv 2) (pe_joined (PJ.cons (pe_fmt (pv 0)) (PJ.cons (pe_fmt (pv 2)) PJ.nil))))))), ?_⟩
    have sz : (100000 : Nat) < sizeLine := by decide
    have am := num_len100 hm
    have ak : (numL k).length ≤ 3 := numL_len (by decide) hk
    have lm : ((m : Int)).natAbs.log2 < 1920 := log_lt (by rw [Int.natAbs_natCast]; exact hm)
    have lk : ((k : Int)).natAbs.log2 < 1920 := log_lt (by rw [Int.natAbs_natCast]; exact Nat.lt_trans hk (by decide +kernel))
    have e112 : tl ("p" : Str) = [112] := by decide +kernel
    have e94 : tl ("p^" : Str) = [112, 94] := by decide +kernel
    have e0 : tl Str.empty = [] := by decide +kernel
    walk_at "rd"
    refine ite2 (fun h => ?_) (fun h => ?_)
    · have hk0 : k = 0 := by
        have := of_decide_eq_true h
        omega
      subst hk0
      walk_at "rd"
      refine ⟨lm, q _ ?_⟩
      rw [tl_num]
      unfold Q0.tmL
      rw [if_pos rfl]
    · have hk0 : k ≠ 0 := fun z => h (decide_eq_true (by rw [z]; rfl))
      have et : tmL m k = (if m = 1 then [] else numL m) ++ 112 :: (if k = 1 then [] else 94 :: numL k) := by
        unfold Q0.tmL
        rw [if_neg hk0]
      refine g_next ?_
      dsimp only
      refine g_cut (fun σ' H' => H' = H ∧ ∃ y : Str, σ' = [some (.int (m : Int)), some (.int (k : Int)), some (.str y)] ∧ tl y = 112 :: (if k = 1 then [] else 94 :: numL k)) (fun σ' H' hN => ?_) (fun go => ?_)
      rotate_left
      · refine g_gen fun D1 hn1 _ => ?_
        walk_at "rd"
        refine ite2 (fun h1 => ?_) (fun h1 => ?_)
        · have hk1 : k = 1 := by
            have := of_decide_eq_true h1
            omega
          walk_at "rd"
          exact hn1 _ _ (go _ _ ⟨rfl, _, rfl, by rw [e112, if_pos hk1]⟩)
        · have hk1 : k ≠ 1 := fun z => h1 (decide_eq_true (by rw [z]; rfl))
          unfold tJs
          walk_at "rd"
          refine ⟨_, rfl, ?_, ?_⟩
          · rw [len_tl, tl_append, e0, e94]
            simp
            omega
          unfold tJs tFmt
          walk_at "rd"
          refine .inr ⟨_, rfl, lk, _, rfl, ?_, ?_⟩
          · rw [len_tl, tl_append, tl_append, e0, e94, tl_nat]
            simp
            omega
          unfold tJs
          walk_at "rd"
          refine hn1 _ _ (go _ _ ⟨rfl, _, rfl, ?_⟩)
          rw [tl_append, tl_append, e0, e94, tl_nat, if_neg hk1]
          rfl
      · obtain ⟨rfl, y, rfl, hy⟩ := hN
        have hyl : y.length ≤ 5 := by
          rw [len_tl, hy]
          split <;> simp <;> omega
        walk_at "rd"
        refine ite2 (fun h1 => ?_) (fun h1 => ?_)
        · have hm1 : m = 1 := by
            have := of_decide_eq_true h1
            omega
          walk_at "rd"
          refine q y ?_
          rw [hy, et, if_pos hm1]
          rfl
        · have hm1 : m ≠ 1 := fun z => h1 (decide_eq_true (by rw [z]; rfl))
          unfold tJs tFmt
          walk_at "rd"
          refine .inr ⟨_, rfl, lm, _, rfl, ?_, ?_⟩
          · rw [len_tl, tl_append, e0, tl_nat]
            simp
            omega
          unfold tJs
          walk_at "rd"
          refine .inl ⟨_, rfl, by omega, _, rfl, ?_, ?_⟩
          · rw [len_tl, tl_append, tl_append, e0, tl_nat, hy, List.length_append]
            rw [len_tl, hy] at hyl
            simp at hyl ⊢
            omega
          unfold tJs
          refine q _ ?_
          rw [tl_append, tl_append, e0, tl_nat, hy, et, if_neg hm1]
          rfl
theorem scSign : FnScope ["factor", "is_first"] ["factor", "is_first"] (defScope sSign) := ⟨rfl, rfl, rfl, by decide +kernel, rfl, by decide +kernel, by decide +kernel⟩
def spSign : Sp := fun vs H Q _ => ∃ (n : Int) (b : Bool), vs = [.int n, .bl b] ∧ ∀ y : Str, tl y = (if b = true then sgL n else spL n) → y.length ≤ 3 → Q (.str y) H
theorem ok_sign (F : Fun K "sign_text" "sign_text" sSign f fd) : FnOk P w K mg base CX0 1 f fd ["factor", "is_first"] spSign := by
  refine F.ok scSign (fun vs H Q E h => ?_) (fun cdv A outer s H vs Q E hr h => ?_)
  · obtain ⟨n, b, rfl, _⟩ := h
    rfl
  · obtain ⟨n, b, rfl, q⟩ := h
    refine ⟨_, pss_cons (ps_if (pt_val (pv 1)) (pss_one (ps_ret (pe_ifExp (pt_cmpR op_lt (pv 0) pe_int (nomark _)) pe_str pe_str))) pss_nil)
      (pss_one (ps_ret (pe_ifExp (pt_cmpR op_lt (pv 0) pe_int (nomark _)) pe_str pe_str))), ?_⟩
    have c1 : tl ("-" : Str) = [45] := by decide +kernel
    have c2 : tl ("" : Str) = [] := by decide +kernel
    have c3 : tl (" - " : Str) = [32, 45, 32] := by decide +kernel
    have c4 : tl (" + " : Str) = [32, 43, 32] := by decide +kernel
    walk_at "rd"
    cases b with
    | true =>
      refine iteT ?_
      walk_at "rd"
      refine ite2 (fun h => ?_) (fun h => ?_)
      · have h := of_decide_eq_true h
        walk_at "rd"
        refine q _ ?_ ?_
        · rw [c1]
          unfold Q0.sgL
          rw [if_pos rfl, if_pos h]
        · rw [len_tl, c1]
          decide
      · have h : ¬ n < 0 := fun z => h (decide_eq_true z)
        walk_at "rd"
        refine q _ ?_ ?_
        · rw [c2]
          unfold Q0.sgL
          rw [if_pos rfl, if_neg h]
        · rw [len_tl, c2]
          decide
    | false =>
      refine iteF ?_
      walk_at "rd"
      refine ite2 (fun h => ?_) (fun h => ?_)
      · have h := of_decide_eq_true h
        walk_at "rd"
        refine q _ ?_ ?_
        · rw [c3]
          unfold Q0.spL
          rw [if_neg (by decide), if_pos h]
        · rw [len_tl, c3]
          decide
      · have h : ¬ n < 0 := fun z => h (decide_eq_true z)
        walk_at "rd"
        refine q _ ?_ ?_
        · rw [c4]
          unfold Q0.spL
          rw [if_neg (by decide), if_neg h]
        · rw [len_tl, c4]
          decide
end
end

/-! The text of a row. -/

section
open PySem PySem.Spec PyProof.Rows L2 Gd TL
open Q0 (tmL sgL spL wdL midL rwT trs rowL g_gen)
def catL : List (Nat × Int) → List Nat
  | [] => []
  | t :: r => wdL t ++ r.flatMap midL
theorem cat_snoc (t : Nat × Int) : ∀ ts : List (Nat × Int), catL (ts ++ [t]) = catL ts ++ ((if ts = [] then sgL t.2 else spL t.2) ++ tmL t.2.natAbs t.1)
  | [] => by
    show wdL t ++ [] = [] ++ _
    rw [List.append_nil, if_pos rfl]
    rfl
  | s :: r => by
    show wdL s ++ (r ++ [t]).flatMap midL = (wdL s ++ r.flatMap midL) ++ _
    rw [if_neg (List.cons_ne_nil _ _), List.flatMap_append, List.append_assoc]
    congr 2
    show midL t ++ [] = _
    rw [List.append_nil]
    rfl
def part (ns : List Int) (i : Nat) : List (Nat × Int) := (((List.range ns.length).reverse.take i).filter fun k => !decide (ns.getD k 0 = 0)).map fun k => (k, ns.getD k 0)
theorem rev_get {n i : Nat} (h : i < n) : (List.range n).reverse[i]? = some (n - 1 - i) := by
  rw [List.getElem?_reverse (by rw [List.length_range]; exact h), List.length_range, List.getElem?_range (by omega)]
theorem part_succ {ns : List Int} {i : Nat} (h : i < ns.length) : part ns (i + 1) = part ns i ++ if ns.getD (ns.length - 1 - i) 0 = 0 then [] else [(ns.length - 1 - i, ns.getD (ns.length - 1 - i) 0)] := by
  unfold part
  rw [List.take_add_one, rev_get h]
  show (((List.range ns.length).reverse.take i ++ [ns.length - 1 - i]).filter _).map _ = _
  rw [List.filter_append, List.map_append]
  congr 1
  by_cases e : ns.getD (ns.length - 1 - i) 0 = 0
  · rw [if_pos e, List.filter_cons, if_neg (by simpa using e)]
    rfl
  · rw [if_neg e, List.filter_cons, if_pos (by simpa using e)]
    rfl
theorem part_all (ns : List Int) : part ns ns.length = trs ns := by
  unfold part Q0.trs
  rw [List.take_of_length_le (by rw [List.length_reverse, List.length_range]; exact Nat.le_refl _)]
theorem row_cat (ts : List (Nat × Int)) : rwT ts = if ts = [] then [48] else catL ts := by
  cases ts with
  | nil => rfl
  | cons t r => rw [if_neg (List.cons_ne_nil _ _)]; rfl
theorem tl_empty_join : ∀ ys : List Str, tl (Txt.join ("" : Str) ys) = (ys.map tl).flatten := fun ys => by
  have e : tl ("" : Str) = [] := by decide +kernel
  rw [join_eq, tl_join, e]
  generalize ys.map tl = ls
  induction ls with
  | nil => rfl
  | cons a r ih =>
    cases r with
    | nil =>
      show a = a ++ []
      rw [List.append_nil]
    | cons b s =>
      show a ++ ([] ++ joinL [] (b :: s)) = a ++ (b :: s).flatten
      rw [List.nil_append, ih]
theorem flat_lens : ∀ ys : List Str, ((ys.map tl).flatten).length = (ys.map fun y : Str => y.length).sum
  | [] => rfl
  | y :: r => by
    rw [List.map_cons, List.flatten_cons, List.length_append, flat_lens r, List.map_cons, List.sum_cons, len_tl]
theorem g_forC3 {K : PySem.W.Frag} {ta : TA} {g : TG} {tb : TS} {D : Ends} {σ : L2.St} {H : Hp} (k : ta σ H fun vs H1 => ∃ (i j c : Int) (n : Nat), vs = [.int i, .int j, .int c] ∧ RgC i j c n ∧ ∃ W : Nat → Nat → L2.St → Hp → Prop, (∃ m, W 0 m σ H1) ∧ ∀ i' m σ H, W i' m σ H →
    ((Itc i c n).stop i' H ∧ D.nx σ H) ∨ ((Itc i c n).go i' H ∧ ∃ N : L2.St → Hp → Prop, (∀ σ' H', N σ' H' → ∃ m', m' < m ∧ W (i' + 1) m' σ' H') ∧ ∀ x H', (Itc i c n).yld i' H x H' → g x σ H' fun σ2 H2 => tb { D with nx := N, ct := N, bk := D.nx } σ2 H2)) :
    tFor (iRng3 ta) g tb D σ H := k
theorem getI3 {ns : List Int} {i : Nat} (h : i < ns.length) : (ns.map V.int)[i]? = some (.int (ns.getD i 0)) := by
  rw [List.getElem?_map, List.getElem?_eq_getElem h, List.getD_eq_getElem?_getD, List.getElem?_eq_getElem h]
  rfl
section
variable {P : Program} {w : World} {K : PySem.W.Frag} {mg : Str → Option Value} {base : Heap} {f : Addr} {fd : FuncData}
abbrev sRowTx : Stmt := top 22
theorem scRowTx : FnScope ["row", "words", "power"] ["row"] (defScope sRowTx) := ⟨rfl, rfl, rfl, by decide +kernel, rfl, by decide +kernel, by decide +kernel⟩
def spRowTx (K : PySem.W.Frag) : Sp := fun vs H Q _ => ∃ (a : Addr) (ns : List Int), vs = [.ref a] ∧ SqT K H a (ns.map V.int) ∧ ns.length ≤ 400 ∧ (∀ n ∈ ns, n.natAbs < 10 ^ 100) ∧ ∀ H' (y : Str), Ext H H' → tl y = rowL ns → y.length ≤ 50000 → Q (.str y) H'
theorem ok_rowTx (F : Fun K "row_text" "row_text" sRowTx f fd) (T : Txt K mg) (T2 : Txt2 mg) (Sg : Def1 P w K mg base CX0 1 "sign_text" ["factor", "is_first"] spSign) (Tm : Def1 P w K mg base CX0 1 "term_text" ["many", "power"] spTerm) : FnOk P w K mg base CX0 2 f fd ["row"] (spRowTx K) := by
  refine F.ok scRowTx (fun vs H Q E h => ?_) (fun cdv A outer s H vs Q E hr h => ?_)
  · obtain ⟨a, ns, rfl, _⟩ := h
    rfl
  · obtain ⟨a, ns, rfl, hs, hl, hb, k⟩ := h
    refine ⟨_, pss_cons (ps_set (i := 1) scRowTx.nd rfl (Or.inl rfl) (pe_lst pa_nil))
      (pss_cons (ps_for PassesOwn.never rfl (pi_range3 (by rfl) T2.range (pa_cons (pe_op op_sub (pe_callB call_len_seq (by rfl) T.len PySem.boot_len (pa_cons (pv 0) pa_nil)) pe_int) (pa_cons (pe_un un_neg pe_int) (pa_cons (pe_un un_neg pe_int) pa_nil)))) (pg_name (i := 2) scRowTx.nd rfl (Or.inl rfl)) (pss_one (ps_if (pt_cmpR op_ne (pe_ix ix_tup (pv 0) (pv 2) (fun _ _ => rfl)) pe_int (nomark _)) (pss_cons (ps_expr (pe_bm PySem.F.plainAttrs_list PySem.F.slot_list_append PySem.F.type_list_append mt_append (pv 1) (pa_cons (pe_def Sg hr (by decide) (by rfl) (pa_cons (pe_ix ix_tup (pv 0) (pv 2) (fun _ _ => rfl)) (pa_cons (pe_cmpR op_eq (pe_callB call_len_seq (by rfl) T.len PySem.boot_len (pa_cons (pv 1) pa_nil)) pe_int (nomark _)) pa_nil))) pa_nil)))
      (pss_one (ps_expr (pe_bm PySem.F.plainAttrs_list PySem.F.slot_list_append PySem.F.type_list_append mt_append (pv 1) (pa_cons (pe_def Tm hr (by decide) (by rfl) (pa_cons (pe_callB call_abs (by rfl) T2.abs (by decide +kernel) (pa_cons (pe_ix ix_tup (pv 0) (pv 2) (fun _ _ => rfl)) pa_nil)) (pa_cons (pv 2) pa_nil))) pa_nil))))) pss_nil)))
      (pss_one (ps_ret (pe_ifExp (pt_cmpR op_gt (pe_callB call_len_seq (by rfl) T.len PySem.boot_len (pa_cons (pv 1) pa_nil)) pe_int (nomark _)) (pe_bm PySem.F.plainAttrs_str PySem.F.slot_str_join PySem.F.type_str_join mt_join (pe_str) (pa_cons (pv 1) pa_nil)) pe_str)))), ?_⟩
    have sz : (10000000 : Nat) < sizeLine := by decide
    walk_at "rd"
    refine ⟨Nat.zero_le _, fun l hl0 => ?_⟩
    try dsimp only [Q0.cx_nox, Q0.cx_K]
    walk_at "rd"
    refine g_forC3 (K := K) ?_
    walk_at "rd"
    refine ⟨a, _, rfl, .inr (sqT_ext (Ext.new hl0) hs), ?_⟩
    walk_at "rd"
    rw [List.length_map]
    have hRg : RgC ((ns.length : Int) - 1) (-1) (-1) ns.length := by
      have := RgC.neg (i := (ns.length : Int) - 1) (j := -1) (by omega) (by omega) (by omega) (by omega)
      rw [show ((ns.length : Int) - 1 - -1).toNat = ns.length by omega] at this
      exact this
    refine ⟨_, _, _, ns.length, rfl, hRg, for_rangeC (fun i σ H' => ∃ (x : Option V) (ys : List Str), σ = [some (.ref a), some (.ref l), x] ∧ Ext H H' ∧ H' l = some (.lst (ys.map V.str)) ∧ (ys.map tl).flatten = catL (part ns i) ∧ (ys = [] ↔ part ns i = []) ∧ (ys.map fun y : Str => y.length).sum ≤ 120 * i ∧ ys.length ≤ 2 * i) ⟨_, [], rfl, Ext.new hl0, upd_same, rfl, ⟨fun _ => rfl, fun _ => rfl⟩, Nat.zero_le _, Nat.zero_le _⟩ ?_ ?_⟩
    · rintro i σ H1 hi ⟨x, ys, rfl, e1, hl1, hc, hn, hs1, hs2⟩
      have hk : ((ns.length : Int) - 1 + (i : Nat) * -1) = ((ns.length - 1 - i : Nat) : Int) := by omega
      have hkl : ns.length - 1 - i < ns.length := by omega
      have hv : (ns.getD (ns.length - 1 - i) 0).natAbs < 10 ^ 100 := hb _ (Q0.getD_memI hkl)
      have hps := part_succ hi
      generalize ev : ns.getD (ns.length - 1 - i) 0 = v at hv hps
      have hix : ∀ {H' : Hp} {Q' : VK}, Ext H H' → Q' (.int v) H' → rIxT K (.ref a) (.int ((ns.length - 1 - i : Nat) : Int)) H' Q' := fun {H' Q'} e q => g_ixT (sqT_ext e hs) (atI_nat (by rw [getI3 hkl, ev])) q
      walk_at "rd"
      rw [hk]
      refine hix e1 ?_
      walk_at "rd"
      refine ⟨rfl, _, rfl, ?_⟩
      by_cases hz : v = 0
      · rw [show (!decide (V.int v = V.int 0)) = false by simp [hz]]
        refine iteF ?_
        walk_at "rd"
        rw [if_pos hz, List.append_nil] at hps
        exact ⟨_, ys, rfl, e1, hl1, by rw [hps]; exact hc, by rw [hps]; exact hn, by omega, by omega⟩
      · rw [show (!decide (V.int v = V.int 0)) = true by simp [hz]]
        refine iteT ?_
        rw [if_neg hz] at hps
        walk_at "rd"
        refine ⟨.inl ⟨rfl, _, SqL.of hl1⟩, ?_⟩
        walk_at "rd"
        refine hix e1 ?_
        walk_at "rd"
        refine ⟨l, _, rfl, .inl (SqL.of hl1), ?_⟩
        rw [List.length_map]
        walk_at "rd"
        refine ⟨v, _, rfl, fun y1 hy1 hyl1 => ?_⟩
        walk_at "rd"
        refine ⟨l, _, _, rfl, rfl, hl1, by rw [List.length_map]; omega, ?_⟩
        have e2 : Ext H (upd H1 l (.lst (ys.map V.str ++ [.str y1]))) := fun b o q => by
          rw [upd_ne (ne_of_none q hl0)]
          exact e1 b o q
        have hl2 : upd H1 l (.lst (ys.map V.str ++ [.str y1])) l = some (.lst (ys.map V.str ++ [.str y1])) := upd_same
        generalize upd H1 l (.lst (ys.map V.str ++ [.str y1])) = H2 at e2 hl2 ⊢
        walk_at "rd"
        refine ⟨.inl ⟨rfl, _, SqL.of hl2⟩, ?_⟩
        walk_at "rd"
        refine hix e2 ?_
        walk_at "rd"
        have eabs : (if v < 0 then -v else v) = (v.natAbs : Int) := by
          split <;> omega
        rw [eabs]
        refine ⟨v.natAbs, ns.length - 1 - i, rfl, hv, by omega, fun y2 hy2 => ?_⟩
        have hyl2 : y2.length ≤ 110 := by
          rw [len_tl, hy2]
          exact tm_len hv (by omega)
        walk_at "rd"
        refine ⟨l, _, _, rfl, rfl, hl2, by rw [List.length_append, List.length_map, List.length_singleton]; omega, ?_⟩
        have enil : (decide ((ys.length : Int) = 0) = true) ↔ part ns i = [] := by
          rw [decide_eq_true_iff, ← hn]
          constructor
          · intro z
            exact List.length_eq_zero_iff.mp (by omega)
          · intro z
            rw [z]
            rfl
        refine ⟨_, ys ++ [y1, y2], rfl, fun b o q => ?_, ?_, ?_, ?_, ?_, ?_⟩
        · rw [upd_ne (ne_of_none q hl0)]
          exact e2 b o q
        · rw [upd_same, List.map_append, List.append_assoc]
          rfl
        · rw [List.map_append, List.flatten_append, hc, hps, cat_snoc]
          show _ ++ (tl y1 ++ (tl y2 ++ [])) = _
          rw [List.append_nil, hy2, hy1]
          by_cases hp : part ns i = []
          · rw [if_pos (enil.mpr hp), if_pos hp]
          · rw [if_neg fun z => hp (enil.mp z), if_neg hp]
        · rw [hps]
          exact ⟨fun z => by simp at z, fun z => by simp at z⟩
        · rw [List.map_append, List.sum_append]
          show _ + (y1.length + (y2.length + 0)) ≤ _
          omega
        · rw [List.length_append]
          show ys.length + 2 ≤ _
          omega
    · rintro σ H1 ⟨x, ys, rfl, e1, hl1, hc, hn, hs1, hs2⟩
      rw [part_all] at hc hn
      walk_at "rd"
      refine ⟨l, _, rfl, .inl (SqL.of hl1), ?_⟩
      rw [List.length_map]
      walk_at "rd"
      have hsz : ((ys.map tl).flatten).length ≤ 48000 := by
        rw [flat_lens]
        omega
      refine ite2 (fun h1 => ?_) (fun h1 => ?_)
      · have h2 := of_decide_eq_true h1
        have hne : ys ≠ [] := fun z => by
          rw [z] at h2
          simp at h2
        walk_at "rd"
        refine ⟨rfl, ?_⟩
        walk_at "rd"
        have e0 : ("" : Str).length = 0 := by decide +kernel
        refine ⟨_, l, ys, rfl, rfl, .inl (SqL.of hl1), ?_, ?_⟩
        · rw [e0]
          omega
        refine k H1 _ e1 ?_ ?_
        · rw [tl_empty_join, hc]
          unfold Q0.rowL
          rw [row_cat, if_neg fun z => hne (hn.mpr z)]
        · rw [len_tl, tl_empty_join]
          omega
      · have hne : ys = [] := by
          by_cases z : ys = []
          · exact z
          · exact absurd (decide_eq_true (by have := List.length_pos_iff.mpr z; omega)) h1
        walk_at "rd"
        have e48 : tl ("0" : Str) = [48] := by decide +kernel
        refine k H1 _ e1 ?_ ?_
        · unfold Q0.rowL
          rw [row_cat, if_pos (hn.mp hne), e48]
        · rw [len_tl, e48]
          decide
end
end

/-! A text as a row. -/

section
open PySem PySem.Spec PyProof.Rows L2 Gd TL StrLaws CwR
open Q0 (g_gen rdW rdT isDg rpx or1 sgW rdR rowL wordsP VR trm rdW_big read_back vr_trm trm_len trm_mem)
theorem replL_len {y z : List Nat} (hz : z.length ≤ y.length) (hy : y ≠ []) : ∀ (n : Nat) (l : List Nat), l.length ≤ n → (replL y z l).length ≤ l.length
  | n, [], _ => by
    rw [replL_nil]
    exact Nat.le_refl _
  | 0, c :: r, h => by simp at h
  | n + 1, c :: r, h => by
    by_cases e : (c :: r).take y.length = y
    · rw [replL_hit hy e, List.length_append]
      have h1 : (c :: r).length = y.length + ((c :: r).drop y.length).length := by
        have := congrArg List.length (List.take_append_drop y.length (c :: r))
        rw [List.length_append, e] at this
        exact this.symm
      have hp : 0 < y.length := List.length_pos_iff.mpr hy
      have ih := replL_len hz hy n ((c :: r).drop y.length) (by omega)
      omega
    · rw [replL_miss e]
      have ih := replL_len hz hy n r (by simp at h; omega)
      simp
      omega
theorem spl_len (S : List Nat) : ∀ (l : List Nat) (k : Nat) (acc : List Nat), ∀ w ∈ spl S k acc l, w.length ≤ acc.length + l.length
  | [], k, acc, w, h => by
    rw [spl_nil] at h
    rw [List.mem_singleton.mp h]
    exact Nat.le_add_right _ _
  | c :: r, 0, acc, w, h => by
    rw [spl] at h
    split at h
    · rcases List.mem_cons.mp h with rfl | h
      · exact Nat.le_add_right _ _
      · have := spl_len S r _ _ w h
        simp at this ⊢
        omega
    · have := spl_len S r _ _ w h
      rw [List.length_append] at this
      simp at this ⊢
      omega
  | c :: r, k + 1, acc, w, h => by
    rw [spl] at h
    have := spl_len S r _ _ w h
    simp at this ⊢
    omega
theorem sgW_big {l : List Nat} {f : Option Int} {v : Int} (h : sgW l f = some v) (hf : ∀ u, f = some u → u.natAbs < 10 ^ 60) : v.natAbs < 10 ^ 60 := by
  unfold Q0.sgW at h
  split at h
  · cases f with
    | none => cases h
    | some u =>
      cases h
      rw [Int.natAbs_neg]
      exact hf u rfl
  · exact hf v h
theorem rdT_big {l : List Nat} {f p : Int} (h : rdT l = (some f, some p)) : f.natAbs < 10 ^ 60 ∧ 0 ≤ p := by
  unfold Q0.rdT at h
  split at h
  · injection h with h1 h2
    exact ⟨sgW_big h1 fun u e => (rdW_big e).2, by cases h2; decide⟩
  · injection h with h1 h2
    exact ⟨sgW_big h1 fun u e => (rdW_big e).2, (rdW_big h2).1⟩
theorem ixN_nat {n i : Nat} (h : i < n) : ixN n (i : Int) = some i := by
  unfold ixN
  simp [h]
theorem flat_zero (m : Nat) : (List.replicate m [V.int 0]).flatten = (List.replicate m (0 : Int)).map V.int := by
  induction m with
  | zero => rfl
  | succ m ih =>
    rw [List.replicate_succ, List.replicate_succ, List.flatten_cons, ih]
    rfl
section
variable {P : Program} {w : World} {K : PySem.W.Frag} {mg : Str → Option Value} {base : Heap} {f : Addr} {fd : FuncData}
abbrev sRR : Stmt := top 25
theorem scRR : FnScope ["text", "most", "row", "word", "factor", "power"] ["text", "most"] (defScope sRR) := ⟨rfl, rfl, rfl, by decide +kernel, rfl, by decide +kernel, by decide +kernel⟩
theorem g_forL {te : TE} {g : TG} {tb : TS} {D : Ends} {σ : L2.St} {H : Hp} (k : te σ H fun x H1 => ∃ a, x = .ref a ∧ (∃ xs, SqL K H1 a xs) ∧ ∃ W : Nat → Nat → L2.St → Hp → Prop, (∃ m, W 0 m σ H1) ∧ ∀ i m σ H, W i m σ H →
  ((Itl K a).stop i H ∧ D.nx σ H) ∨ ((Itl K a).go i H ∧ ∃ N : L2.St → Hp → Prop, (∀ σ' H', N σ' H' → ∃ m', m' < m ∧ W (i + 1) m' σ' H') ∧ ∀ x H', (Itl K a).yld i H x H' → g x σ H' fun σ2 H2 => tb { D with nx := N, ct := N, bk := D.nx } σ2 H2)) :
    tFor (iList K te) g tb D σ H := k
def spRdRow (K : PySem.W.Frag) : Sp := fun vs H Q _ => ∃ x : Str, vs = [.str x, .int 400] ∧ x.length ≤ 100000 ∧ (∀ ns, VR ns → tl x = rowL ns → ∀ H' u, Ext H H' → SqT K H' u (ns.map V.int) → Q (.ref u) H') ∧
  ((¬ ∃ ns, VR ns ∧ tl x = rowL ns) → ∀ H', Ext H H' → Q .non H')
theorem ok_rdRow (F : Fun K "read_row" "read_row" sRR f fd) (T : Txt K mg) (Rt : Def1 P w K mg base CX0 2 "read_term" ["word"] (spRdT K)) (Tr : Def1 P w K mg base CX0 1 "trimmed" ["row"] (spTrimmedL K)) (Rw : Def1 P w K mg base CX0 2 "row_text" ["row"] (spRowTx K)) : FnOk P w K mg base CX0 3 f fd ["text", "most"] (spRdRow K) := by
  refine F.ok scRR (fun vs H Q E h => ?_) (fun cdv A outer s H vs Q E hr h => ?_)
  · obtain ⟨x, rfl, _⟩ := h
    rfl
  · obtain ⟨x, rfl, hl, kyes, kno⟩ := h
    refine ⟨_, pss_repT (i := 2) op_rep scRR.nd rfl (Or.inl rfl) (pv 1) (psst_cons (pst_for PassesOwn.never rfl (pit_list (pet_split (CwR.pet_replT (CwR.pet_replC (pv 0))) pe_str)) (pg_name (i := 3) scRR.nd rfl (Or.inl rfl)) (pss_cons (ps_asg (pe_def Rt hr (by decide) (by rfl) (pa_cons (pv 3) pa_nil)) (pg_tup rfl (pgs_cons (pg_name (i := 4) scRR.nd rfl (Or.inl rfl)) (pgs_cons (pg_name (i := 5) scRR.nd rfl (Or.inl rfl)) pgs_nil))))
      (pss_cons (ps_if (PW.pt (pw_or (pt_cmp (pc_isN (pv 4))) (pw_or (pt_cmp (pc_isN (pv 5))) (pw_or1 (pt_cmpR op_ge (pv 5) (pv 1) (nomark _)))))) (pss_one (ps_ret pe_non)) pss_nil)
      (pss_one (ps_asg (pv 4) (pg_sub (pv 2) (pv 5) set_list)))))) (PSsT.of (pss_one (ps_ret (pe_ifExp (pt_cmpR op_eq (pe_def Rw hr (by decide) (by rfl) (pa_cons (pe_def Tr hr (by decide) (by rfl) (pa_cons (pv 2) pa_nil)) pa_nil)) (pv 0) (nomark _)) (pe_def Tr hr (by decide) (by rfl) (pa_cons (pv 2) pa_nil)) pe_non))))), ?_⟩
    try dsimp only [Q0.cx_nox, Q0.cx_K]
    have sz : (10000000 : Nat) < sizeLine := by decide
    have c1 : tl (" - " : Str) = [32, 45, 32] := by decide +kernel
    have c2 : tl (" -" : Str) = [32, 45] := by decide +kernel
    have c3 : tl (" + " : Str) = [32, 43, 32] := by decide +kernel
    have c4 : tl (" " : Str) = [32] := by decide +kernel
    have l1 : (" - " : Str).length = 3 := by decide +kernel
    have l2 : (" -" : Str).length = 2 := by decide +kernel
    have l3 : (" + " : Str).length = 3 := by decide +kernel
    have l4 : (" " : Str).length = 1 := by decide +kernel
    walk_at "rd"
    refine ⟨by show 1 ≤ sizeLine; decide, fun z hz => ?_⟩
    have ez := Ext.new (o := HO.lst [V.int 0]) hz
    walk_at "rd"
    refine ⟨z, 400, [V.int 0], rfl, rfl, upd_same, by omega, by omega, by show 1 * 400 ≤ sizeLine; decide, fun r hr0 => ?_⟩
    have er := Ext.trans ez (Ext.new (o := HO.lst (List.replicate (400 : Int).toNat [V.int 0]).flatten) hr0)
    have hr1 : H r = none := by
      cases q : H r with
      | none => rfl
      | some o =>
        have := ez _ _ q
        rw [hr0] at this
        cases this
    have hR : upd (upd H z (.lst [V.int 0])) r (.lst (List.replicate (400 : Int).toNat [V.int 0]).flatten) r = some (.lst ((List.replicate 400 (0 : Int)).map V.int)) := by
      rw [upd_same, flat_zero]
      rfl
    generalize upd (upd H z (.lst [V.int 0])) r (.lst (List.replicate (400 : Int).toNat [V.int 0]).flatten) = H1 at er hR
    walk_at "rd"
    have e1 : tl (Txt.replace x (" - " : Str) (" -" : Str)) = replL [32, 45, 32] [32, 45] (tl x) := by
      have := replace_list (x := x) (y := (" - " : Str)) (z := (" -" : Str)) (by omega)
      rw [show (" - " : Str).cps.toList = tl (" - " : Str) from rfl, show (" -" : Str).cps.toList = tl (" -" : Str) from rfl, c1, c2] at this
      exact this
    have n1 : (Txt.replace x (" - " : Str) (" -" : Str)).length ≤ 100000 := by
      have := replL_len (y := [32, 45, 32]) (z := [32, 45]) (by decide) (by decide) _ (tl x) (Nat.le_refl _)
      rw [len_tl, e1]
      rw [len_tl] at hl
      omega
    have e2 : tl (Txt.replace (Txt.replace x (" - " : Str) (" -" : Str)) (" + " : Str) (" " : Str)) = replL [32, 43, 32] [32] (replL [32, 45, 32] [32, 45] (tl x)) := by
      have := replace_list (x := Txt.replace x (" - " : Str) (" -" : Str)) (y := (" + " : Str)) (z := (" " : Str)) (by omega)
      rw [show (" + " : Str).cps.toList = tl (" + " : Str) from rfl, show (" " : Str).cps.toList = tl (" " : Str) from rfl, show (Txt.replace x (" - " : Str) (" -" : Str)).cps.toList = tl (Txt.replace x (" - " : Str) (" -" : Str)) from rfl, c3, c4, e1] at this
      exact this
    have n2 : (Txt.replace (Txt.replace x (" - " : Str) (" -" : Str)) (" + " : Str) (" " : Str)).length ≤ 100000 := by
      have := replL_len (y := [32, 43, 32]) (z := [32]) (by decide) (by decide) _ (replL [32, 45, 32] [32, 45] (tl x)) (Nat.le_refl _)
      rw [len_tl, e2]
      rw [len_tl, e1] at n1
      omega
    refine g_forL ?_
    unfold tM1 tReplC
    walk_at "rd"
    refine ⟨x, rfl, by rw [l2]; omega, ?_⟩
    refine ⟨_, rfl, by rw [l4]; omega, ?_⟩
    refine ⟨⟨_, rfl⟩, ?_⟩
    walk_at "rd"
    refine ⟨_, _, rfl, rfl, by rw [l4]; rfl, by omega, fun L hL => ?_⟩
    have hw : (Txt.split (Txt.replace (Txt.replace x (" - " : Str) (" -" : Str)) (" + " : Str) (" " : Str)) (" " : Str)).map tl = wordsP (tl x) := by
      rw [split_spl _ _ (by rw [c4]; simp) (kind_ok (by decide +kernel)), e2, c4]
      rfl
    have nw : ∀ v ∈ wordsP (tl x), v.length ≤ 100000 := fun v hv => by
      have := spl_len [32] _ 0 [] v hv
      rw [len_tl, e2] at n2
      simp at this
      omega
    generalize Txt.split (Txt.replace (Txt.replace x (" - " : Str) (" -" : Str)) (" + " : Str) (" " : Str)) (" " : Str) = ws at hw hL ⊢
    have eL := Ext.new (o := HO.lst (ws.map V.str)) hL
    have hne : r ≠ L := fun z => by
      rw [z, hL] at hR
      cases hR
    have hL0 : H L = none := by
      cases q : H L with
      | none => rfl
      | some o =>
        have := er _ _ q
        rw [hL] at this
        cases this
    have eL2 := Ext.trans er eL
    have hR2 := eL _ _ hR
    have hL2 : upd H1 L (.lst (ws.map V.str)) L = some (.lst (ws.map V.str)) := upd_same
    generalize upd H1 L (.lst (ws.map V.str)) = H2 at eL2 hR2 hL2
    have rb : ∀ ns, VR ns → tl x = rowL ns → ∃ R, rdR (wordsP (tl x)) (List.replicate 400 0) = some R ∧ R.length = 400 ∧ trm R = ns := fun ns h e => by
      rw [e]
      exact read_back h
    refine ⟨L, rfl, ⟨_, SqL.of hL2⟩, for_list (xs := ws.map V.str) (fun i σ' H' => ∃ (x1 x2 x3 : Option V) (R : List Int), σ' = [some (.str x), some (.int 400), some (.ref r), x1, x2, x3] ∧ Ext H H' ∧ H' r = some (.lst (R.map V.int)) ∧ H' L = some (.lst (ws.map V.str)) ∧ R.length = 400 ∧ (∀ n ∈ R, n.natAbs < 10 ^ 60) ∧ rdR ((wordsP (tl x)).drop i) R = rdR (wordsP (tl x)) (List.replicate 400 0)) ⟨_, _, _, List.replicate 400 0, rfl, eL2, hR2, hL2, by simp, fun n hn => by rw [List.eq_of_mem_replicate hn]; decide, rfl⟩ (fun i σ' H' _ ⟨_, _, _, _, _, _, _, e, _⟩ => SqL.of e) ?_ ?_⟩
    · rintro i v σ' H' hv ⟨x1, x2, x3, R, rfl, eH, hR', hL', hlen, hbig, hrd⟩
      rw [List.getElem?_map] at hv
      obtain ⟨u, hu, rfl⟩ := Option.map_eq_some_iff.mp hv
      have hwu : (wordsP (tl x))[i]? = some (tl u) := by
        rw [← hw, List.getElem?_map, hu]
        rfl
      have hlt := (List.getElem?_eq_some_iff.mp hwu).1
      have hdr : (wordsP (tl x)).drop i = tl u :: (wordsP (tl x)).drop (i + 1) := by
        rw [List.drop_eq_getElem_cons hlt]
        congr 1
        exact (List.getElem?_eq_some_iff.mp hwu).2
      have hul : u.length ≤ 100000 := by
        rw [len_tl]
        exact nw _ (List.mem_of_getElem? hwu)
      rw [hdr] at hrd
      walk_at "rd"
      refine ⟨u, rfl, by omega, fun H3 b e3 hb => ?_⟩
      have hbad : rdR (wordsP (tl x)) (List.replicate 400 0) = none → Q .non H3 := fun hn => kno (fun ⟨ns, h, e⟩ => by
        obtain ⟨R', q, _⟩ := rb ns h e
        rw [hn] at q
        cases q) _ (Ext.trans eH e3)
      have hR3 := e3 _ _ hR'
      have hL3 := e3 _ _ hL'
      have eH3 := Ext.trans eH e3
      rw [rdR] at hrd
      refine ⟨b, _, rfl, hb, rfl, _, _, rfl, ?_⟩
      walk_at "rd"
      refine ⟨_, _, rfl, ?_⟩
      walk_at "rd"
      refine ⟨rfl, ?_⟩
      generalize hT : rdT (tl u) = pr at hrd ⊢
      obtain ⟨fo, po⟩ := pr
      cases fo with
      | none =>
        walk_at "rd"
        exact hbad hrd.symm
      | some fv =>
        cases po with
        | none =>
          have hT : rdT (tl u) = (some fv, none) := hT
          walk_at "rd"
          rw [if_neg (by simp [optV])]
          walk_at "rd"
          exact hbad hrd.symm
        | some pw =>
          have hT : rdT (tl u) = (some fv, some pw) := hT
          obtain ⟨hf, hp0⟩ := rdT_big hT
          walk_at "rd"
          rw [if_neg (by simp [optV])]
          walk_at "rd"
          rw [if_neg (by simp [optV])]
          walk_at "rd"
          show rI0 _ (.int pw) (.int 400) _ _
          walk_at "rd"
          refine ite2 (fun h => ?_) (fun h => ?_)
          · have h := of_decide_eq_true h
            dsimp only at hrd
            rw [if_neg (by omega)] at hrd
            walk_at "rd"
            exact hbad hrd.symm
          · have h : ¬ (400 : Int) ≤ pw := fun z => h (decide_eq_true z)
            dsimp only at hrd
            rw [if_pos (by omega)] at hrd
            walk_at "rd"
            obtain ⟨j, rfl⟩ : ∃ j : Nat, pw = (j : Int) := ⟨pw.toNat, by omega⟩
            refine ⟨r, _, _, j, rfl, rfl, hR3, ixN_nat (by rw [List.length_map]; omega), ?_⟩
            rw [Int.toNat_natCast] at hrd
            refine ⟨_, _, _, R.set j fv, rfl, fun o ob g => ?_, ?_, ?_, by rw [List.length_set]; exact hlen, fun n hn => ?_, hrd⟩
            · rw [upd_ne (ne_of_none g hr1)]
              exact eH3 _ _ g
            · rw [upd_same, List.map_set]
              rfl
            · rw [upd_ne (Ne.symm hne)]
              exact hL3
            · rcases List.mem_or_eq_of_mem_set hn with h | h
              · exact hbig n h
              · rw [h]
                exact hf
    · rintro σ' H' ⟨x1, x2, x3, R, rfl, eH, hR', hL', hlen, hbig, hrd⟩
      have hrd : rdR (wordsP (tl x)) (List.replicate 400 0) = some R := by
        rw [← hrd, List.length_map, ← List.length_map (f := tl), hw, List.drop_length]
        rfl
      have vr : VR (trm R) := vr_trm (by omega) hbig
      walk_at "rd"
      refine ⟨r, R, rfl, SqL.of hR', by omega, fun H3 u e3 hu => ?_⟩
      rw [trim_trm] at hu
      walk_at "rd"
      refine ⟨u, trm R, rfl, hu, vr.len, fun n hn => Nat.lt_trans (vr.big n hn) (by decide), fun H4 y e4 hy _ => ?_⟩
      walk_at "rd"
      refine ⟨rfl, ?_⟩
      refine ⟨_, rfl, ?_⟩
      have eA := Ext.trans eH (Ext.trans e3 e4)
      by_cases e : y = x
      · rw [if_pos (by simp [e])]
        walk_at "rd"
        refine ⟨r, R, rfl, SqL.of (e4 _ _ (e3 _ _ hR')), by omega, fun H5 v e5 hv => ?_⟩
        rw [trim_trm] at hv
        exact kyes (trm R) vr (by rw [← e]; exact hy) H5 v (Ext.trans eA e5) hv
      · rw [if_neg (by simp [e])]
        walk_at "rd"
        refine kno (fun ⟨ns, h, e'⟩ => ?_) _ eA
        obtain ⟨R', q1, _, q2⟩ := rb ns h e'
        rw [hrd] at q1
        cases q1
        exact e (by
          have : tl y = tl x := by rw [hy, e', q2]
          obtain ⟨⟨a⟩⟩ := y
          obtain ⟨⟨b⟩⟩ := x
          cases (show a = b from this)
          rfl)
end
end

/-! Poly.read, str of a polynomial. -/

section
open PySem PySem.Spec PyProof.Rows L2 Gd TL StrLaws CwR
open Q0 (g_gen rowL VR trm tMakeV)
section
variable {P : Program} {w : World} {K : PySem.W.Frag} {mg : Str → Option Value} {base : Heap} {f C CP fP t0 : Addr} {fd : FuncData}
theorem pe_mkP {X : Cx} {j : Nat} {sp : Sp} {pos : Pos} {fe e : Expr} {es : List Expr} {tf : TE} {t : TA} (I : Ini1 X.prog X.w X.K X.mg X.base C t0 sp) (hr : Room j X.A) (hj : 5 ≤ j) (hf : PE X fe tf) (ha : PA X (e :: es) t)
    (he : eval (.Call fe (e :: es) [] pos) X.env = (do callWith pos (← eval fe X.env) [] (backTo pos (starEach (e :: es) X.env)) (backToKw pos (keywordEach [] X.env))) := by rfl)
    (h1 : starEach (e :: es) X.env = (false, eval e X.env) :: starEach es X.env := by rfl) (h2 : (backTo pos (starEach es X.env)).any (·.1) = false := by rfl) :
    PE X (.Call fe (e :: es) [] pos) (tMakeV C sp [] X0 tf t) := by
  obtain ⟨f, fd, ds, M, F, hb, _⟩ := I.ex
  constructor
  intro pins s σ H Q I h
  refine Call_ (thn (hf.run pins s σ H _ I h) fun u s1 ⟨x, H1, I1, rx, ex, q1⟩ => ?_) he
  subst ex
  cases rx
  refine PySem.W.callWith_K (h₀ := X.base) I.ok.mod.kin M.kp (thn (ha.run pos pins s1 σ H1 _ I1 q1) fun us s2 ⟨vs, H2, I2, r, q⟩ => ⟨I2.kIn, ?_⟩) h1 h2
  exact run_make M F (hr.mono hj) hb .nil pass0 I2 r q
theorem call_strP {X : Cx} {k j : Nat} {sp : Sp} (D : Met1 X.prog X.w X.K X.mg X.base CX0 k C "__str__" ["self"] sp) (hr : Room j X.A) (hj : k + 2 ≤ j) : CallR X (.type "str") (rStrO C sp X0) := by
  obtain ⟨f, fd, M, _, F, hb⟩ := D.ex
  exact call_strO M F (hr.mono hj) hb (fun _ => quiet0)
theorem made_ext {H : Hp} {x dx : Addr} {o u : HO} (hx : H x = none) (hdx : H dx = none) : Ext H (upd (upd H dx o) x u) := fun b ob q => by
  rw [upd_ne (ne_of_none q hx), upd_ne (ne_of_none q hdx)]
  exact q
theorem g_makeP {H : Hp} {Q : VK} {E : XK} {a : Addr} {ns : List Int} (hs : SqT K H a (ns.map V.int)) (hl : ns.length ≤ 400) (hB : Big ns)
    (k : ∀ H' p u, Ext H H' → PolyU K C H' p u (trim ns) → Q (.ref p) H') : ∀ x dx, H x = none → H dx = none → dx ≠ x →
    spInit K C (.ref x :: ([.ref a] ++ [])) (upd (upd H dx (.own x)) x (.ins C dx [])) (fun v H2 => v = .non ∧ Q (.ref x) H2) E := by
  intro x dx hx hdx ne
  have e1 : Ext H (upd (upd H dx (.own x)) x (.ins C dx [])) := made_ext hx hdx
  refine ⟨x, dx, a, ns, rfl, upd_same, sqT_ext e1 hs, hl, hB, fun H' u e hp hu => ⟨rfl, k H' x u (fun b o q => e b o (ne_of_none q hx) (e1 b o q)) ⟨⟨dx, hp⟩, hu, Nat.le_trans (Nat.le_trans (trim_len ns) hl) (by decide)⟩⟩⟩
theorem vr_big {ns : List Int} (h : VR ns) : Big ns := fun n hn => by
  have := h.big n hn
  omega
theorem vr_trim {ns : List Int} (h : VR ns) : trim ns = ns := by
  rw [trim_trm]
  exact h.same fun k => rfl
/-- whether a value is a text -/
def NoTx (K : PySem.W.Frag) (H : Hp) (v : V) : Prop := ∃ t, TyX K H v t ∧ PySem.W.kitOne K t (.type "str") = some false
theorem scRead : FnScope ["cls", "text", "row"] ["cls", "text"] (defScope (cls 1)) := ⟨rfl, rfl, rfl, by decide +kernel, rfl, by decide +kernel, by decide +kernel⟩
def NoX (CP : Addr) (H : Hp) (E : XK) : Prop := ∀ H' d, Ext H H' → H' d = none → E (.ref CP) (some d) (upd H' d (.xd [(("index" : Str), .int 0)]))
def spRead (K : PySem.W.Frag) (C CP : Addr) : Sp := fun vs H Q E => ∃ v : V, vs = [.ref C, v] ∧ ((∃ x : Str, v = .str x ∧ x.length ≤ 100000 ∧ (∀ ns, VR ns → tl x = rowL ns → ∀ H' p u, Ext H H' → PolyU K C H' p u ns → Q (.ref p) H') ∧ ((¬ ∃ ns, VR ns ∧ tl x = rowL ns) → NoX CP H E)) ∨ (NoTx K H v ∧ NoX CP H E))
theorem ok_read (F : Fun K "read" "Poly.read" (cls 1) f fd) (T : Txt K mg) (zS : mg "str" = none) (R : PySem.XParseError.ParseErrorTxt K mg CP fP) (Rr : Def1 P w K mg base CX0 3 "read_row" ["text", "most"] (spRdRow K))
    (I : Ini1 P w K mg base C t0 (spInit K C)) : FnOk P w K mg base (L2.CX P w) 6 f fd ["cls", "text"] (spRead K C CP) := by
  obtain ⟨tM, gM⟩ := T.most
  refine F.okX scRead (fun vs H Q E h => ?_) (fun cdv A outer s H vs Q E hr h => ?_)
  · obtain ⟨x, rfl, _⟩ := h
    rfl
  · obtain ⟨v, rfl, kv⟩ := h
    refine ⟨_, pss_cons (ps_set (i := 2) scRead.nd rfl (Or.inl rfl) (pe_ifExp (pt_val (pe_callB call_isi (by rfl) T.isinstance (by decide +kernel) (pa_cons (pv 1) (pa_cons (pe_bltn (v := .ty "str") (by rfl) zS (by decide +kernel) rfl) pa_nil)))) (pe_def Rr hr (by decide) (by rfl) (pa_cons (pv 1) (pa_cons (pe_glob (v := .int 400) (by rfl) gM ⟨_, rfl⟩) pa_nil))) pe_non))
      (pss_cons (ps_if (pt_cmp (pc_isN (pv 2))) (pss_one (ps_raiseParseError rfl R hr (takes_of rfl rfl rfl rfl) (by exact (pa_cons pe_int pa_nil)))) pss_nil)
      (pss_one (ps_ret (pe_mkP I hr (by decide) (pv 0) (pa_cons (pv 2) pa_nil))))), ?_⟩
    try dsimp only [Q0.cx_nox, Q0.cx_K]
    walk_at "rd"
    rcases kv with ⟨x, rfl, hl, kyes, kno⟩ | ⟨⟨t, ty, hk⟩, kno⟩
    · refine ⟨_, _, _, _, true, rfl, .ty _, .base (.str x), by kernel_rfl, ?_⟩
      walk_at "rd"
      refine ⟨x, rfl, hl, fun ns hv e H1 u e1 hu => ?_, fun hno H1 e1 => ?_⟩
      · walk_at "rd"
        rw [if_neg (by simp)]
        walk_at "rd"
        unfold tMakeV
        walk_at "rd"
        refine ⟨rfl, ?_⟩
        unfold tMake
        walk_at "rd"
        refine g_makeP hu hv.len (vr_big hv) fun H2 p t e2 hp => ?_
        rw [vr_trim hv] at hp
        exact kyes ns hv e H2 p t (Ext.trans e1 e2) hp
      · walk_at "rd"
        unfold tRaiseParseError tMkParseError
        walk_at "rd"
        exact ⟨_, rfl, fun d hd => kno hno _ d e1 hd⟩
    · refine ⟨_, _, _, _, false, rfl, .ty _, ty, hk, ?_⟩
      walk_at "rd"
      unfold tRaiseParseError tMkParseError
      walk_at "rd"
      exact ⟨_, rfl, fun d hd => kno _ d (fun _ _ z => z) hd⟩
theorem scPSt : FnScope ["self"] ["self"] (defScope (cls 20)) := ⟨rfl, rfl, rfl, by decide +kernel, rfl, by decide +kernel, by decide +kernel⟩
def spPSt (K : PySem.W.Frag) (C : Addr) : Sp := fun vs H Q _ => ∃ (p u : Addr) (ns : List Int), vs = [.ref p] ∧ PolyU K C H p u ns ∧ ns.length ≤ 400 ∧ (∀ n ∈ ns, n.natAbs < 10 ^ 100) ∧ ∀ H' (y : Str), Ext H H' → tl y = rowL ns → y.length ≤ 50000 → Q (.str y) H'
theorem ok_pstr (F : Fun K "__str__" "Poly.__str__" (cls 20) f fd) (T : Txt K mg) (Cl : PC K mg C) (zS : mg "str" = none) (Rt : Def1 P w K mg base CX0 2 "row_text" ["row"] (spRowTx K)) : FnOk P w K mg base CX0 3 f fd ["self"] (spPSt K C) := by
  refine F.ok scPSt (fun vs H Q E h => ?_) (fun cdv A outer s H vs Q E hr h => ?_)
  · obtain ⟨p, u, ns, rfl, _⟩ := h
    rfl
  · obtain ⟨p, u, ns, rfl, hp, hl, hb, k⟩ := h
    obtain ⟨⟨dx, hpi⟩, hu, _⟩ := id hp
    refine ⟨_, pss_one (ps_ret (pe_callTy SkE.call_str_str (by rfl) zS (by decide +kernel) (pa_cons (pe_def Rt hr (by decide) (by rfl) (pa_cons (pe_fld (pv 0) rfl) pa_nil)) pa_nil))), ?_⟩
    try dsimp only [Q0.cx_nox, Q0.cx_K]
    walk_at "rd"
    refine ⟨p, C, dx, _, _, rfl, hpi, Cl.cl, Cl.noF, look1, ?_⟩
    walk_at "rd"
    refine ⟨u, ns, rfl, hu, hl, hb, fun H1 y e1 hy hyl => ?_⟩
    walk_at "rd"
    exact ⟨_, rfl, k H1 y e1 hy hyl⟩
end
end

/-! How the law reads a word. -/

section
open PySem PySem.Spec PyProof.Rows L2 Gd TL StrLaws CwR
open Q0 (g_gen isDg rowL VR trm ltD ltP ltE ltT)
theorem lc_str {x : Str} {g : TG} {tt : TT} {te : TE} {vs : List Nat} {σ : L2.St} {H1 : Hp} {D : Addr} {Qd : Hp → Prop} (Pv : Nat → Hp → Prop) (h0 : Pv 0 (upd H1 D (.lst [])))
    (hs : ∀ i c H, (tl x)[i]? = some c → Pv i H → g (.str ⟨#[c]⟩) (wipe σ vs) H fun σ2 H2 => wipe σ2 vs = wipe σ vs ∧ tt σ2 H2 fun b H3 =>
      if b = true then te σ2 H3 fun y H4 => ∃ acc, H4 D = some (.lst acc) ∧ acc.length < sizeLine ∧ Pv (i + 1) (upd H4 D (.lst (acc ++ [y]))) else Pv (i + 1) H3) (hd : ∀ H, Pv x.length H → Qd H) :
    ∃ W : Nat → Nat → Hp → Prop, (∃ m, W 0 m (upd H1 D (.lst []))) ∧ ∀ i m H, W i m H →
      ((Its x).stop i H ∧ Qd H) ∨ ((Its x).go i H ∧ ∃ Nx : Hp → Prop, (∀ H', Nx H' → ∃ m', m' < m ∧ W (i + 1) m' H') ∧ ∀ x' H', (Its x).yld i H x' H' → g x' (wipe σ vs) H' fun σ2 H2 => wipe σ2 vs = wipe σ vs ∧ tt σ2 H2 fun b H3 =>
        if b = true then te σ2 H3 fun y H4 => ∃ acc, H4 D = some (.lst acc) ∧ acc.length < sizeLine ∧ Nx (upd H4 D (.lst (acc ++ [y]))) else Nx H3) := by
  refine ⟨fun i m H => m = x.length - i ∧ i ≤ x.length ∧ Pv i H, ⟨x.length, by simp, Nat.zero_le _, h0⟩, ?_⟩
  rintro i m H ⟨rfl, hi, p⟩
  by_cases hlt : i < x.length
  · refine .inr ⟨hlt, Pv (i + 1), fun H' p' => ⟨x.length - (i + 1), by omega, rfl, hlt, p'⟩, fun x' H' y => ?_⟩
    obtain ⟨e, c, hc, e2⟩ := y
    subst e
    subst e2
    refine hs i c _ ?_ p
    rw [← hc]
    show x.cps.toList[i]? = _
    rw [Array.getElem?_toList]
  · have e : i = x.length := by omega
    subst e
    exact .inl ⟨Nat.le_refl _, hd H p⟩
section
variable {P : Program} {w : World} {K : PySem.W.Frag} {mg : Str → Option Value} {base : Heap} {f C CP fP t0 : Addr} {fd : FuncData}
abbrev sLDg : Stmt := top 41
theorem scLDg : FnScope ["_law_text", "_law_sign"] ["_law_text"] (defScope sLDg) := ⟨rfl, rfl, rfl, by decide +kernel, rfl, by decide +kernel, by decide +kernel⟩
def spLDg : Sp := fun vs H Q _ => ∃ x : Str, vs = [.str x] ∧ x.length ≤ 1000000 ∧ ∀ H', Ext H H' → Q (.int (ltD (tl x))) H'
theorem ok_ldg (F : Fun K "_law_digits" "_law_digits" sLDg f fd) (T : Txt K mg) : FnOk P w K mg base CX0 1 f fd ["_law_text"] spLDg := by
  refine F.ok scLDg (fun vs H Q E h => ?_) (fun cdv A outer s H vs Q E hr h => ?_)
  · obtain ⟨x, rfl, _⟩ := h
    rfl
  · obtain ⟨x, rfl, hl, k⟩ := h
    refine ⟨_, pss_cons (ps_if (PW.pt (pw_or (pt_cmpR op_eq (pv 0) pe_str (nomark _)) (pw_or (pt_cmpR op_gt (pe_callB call_len_str (by rfl) T.len PySem.boot_len (pa_cons (pv 0) pa_nil)) pe_int (nomark _)) (pw_or1 (pt_not (pt_val (pe_callB (cr_all rfl) (by rfl) T.all (by decide +kernel) (pa_cons (pe_lc (own := [("_law_sign", 1)]) (g := gName 1) (tt := tYes) rfl scLDg.nd (pi_str (pv 0)) (blkOk_by (N := ["_law_text", "_law_sign"]) (sc := defScope sLDg) (by decide +kernel)) (fun _ _ _ _ _ => pg_name (i := 1) scLDg.nd rfl (Or.inl rfl)) (fun _ _ _ _ _ => pts_nil) (fun _ _ _ _ _ => by exact (pe_cmpR op_inS (pv 1) pe_str (by rfl)))) pa_nil)))))))) (pss_one (ps_ret (pe_un un_neg pe_int))) pss_nil)
      (pss_one (ps_ret (pe_callTy call_int_str (by rfl) T.int (by decide +kernel) (pa_cons (pv 0) pa_nil)))), ?_⟩
    try dsimp only [Q0.cx_nox, Q0.cx_K]
    have sz : (10000000 : Nat) < sizeLine := by decide
    have hlx : x.length = (tl x).length := len_tl x
    have kb : ¬ (isDg (tl x) = true ∧ (tl x).length ≤ 62) → ∀ H', Ext H H' → Q (.int (-1)) H' := fun h H' e => by
      have := k H' e
      unfold Q0.ltD at this
      rw [if_neg h] at this
      exact this
    walk_at "rd"
    refine ⟨rfl, _, rfl, ?_⟩
    by_cases he : x = (Str.ofString "")
    · rw [if_pos (by simp [he])]
      walk_at "rd"
      refine kb (fun z => ?_) H fun _ _ z => z
      rw [he] at z
      exact absurd z.1 (by decide +kernel)
    · rw [if_neg (by simp [he])]
      walk_at "rd"
      refine ⟨x, rfl, by omega, ?_⟩
      walk_at "rd"
      refine ite2 (fun h => ?_) (fun h => ?_)
      · have h := of_decide_eq_true h
        walk_at "rd"
        exact kb (fun z => by omega) H fun _ _ z => z
      · have h : ¬ (62 : Int) < x.length := fun z => h (decide_eq_true z)
        walk_at "rd"
        refine ⟨_, rfl, x, rfl, fun D hD => lc_str (fun i H' => Ext H H' ∧ H' D = some (.lst (((tl x).take i).map fun c => V.bl (decide (48 ≤ c) && decide (c ≤ 57))))) ⟨Ext.new hD, upd_same⟩ ?_ ?_⟩
        · rintro i c H' hi ⟨e, hD'⟩
          have hlt : i < (tl x).length := (List.getElem?_eq_some_iff.mp hi).1
          refine ⟨rfl, ?_⟩
          walk_at "rd"
          refine ⟨c, _, rfl, rfl, _, hD', ?_, ?_, ?_⟩
          · rw [List.length_map, List.length_take]
            omega
          · intro b o q
            rw [upd_ne (ne_of_none q hD)]
            exact e b o q
          · rw [upd_same, take_one hlt, (List.getElem?_eq_some_iff.mp hi).2, List.map_append]
            have : decide (c ∈ ("0123456789" : Str).cps.toList) = (decide (48 ≤ c) && decide (c ≤ 57)) := by
              rw [show ("0123456789" : Str).cps.toList = [48, 49, 50, 51, 52, 53, 54, 55, 56, 57] by decide +kernel]
              rw [Bool.eq_iff_iff]
              simp
              omega
            rw [this]
            rfl
        · rintro H' ⟨e, hD'⟩
          walk_at "rd"
          refine ⟨D, (tl x).map fun c => decide (48 ≤ c) && decide (c ≤ 57), rfl, SqL.of ?_, ?_⟩
          · rw [hD', hlx, List.take_length, List.map_map]
            rfl
          walk_at "rd"
          have ha : ((tl x).map fun c => decide (48 ≤ c) && decide (c ≤ 57)).all id = (tl x).all fun c => decide (48 ≤ c) && decide (c ≤ 57) := by
            rw [List.all_map]
            rfl
          have hd : isDg (tl x) = (tl x).all fun c => decide (48 ≤ c) && decide (c ≤ 57) := by
            unfold Q0.isDg
            cases hx : tl x with
            | nil =>
              refine absurd ?_ he
              obtain ⟨⟨l⟩⟩ := x
              cases (show l = [] from hx)
              rfl
            | cons c r => simp
          rw [ha, ← hd]
          cases hdd : isDg (tl x) with
          | false =>
            walk_at "rd"
            exact kb (fun z => by rw [hdd] at z; exact absurd z.1 (by decide)) H' e
          | true =>
            walk_at "rd"
            have kk := k H' e
            unfold Q0.ltD at kk
            rw [if_pos ⟨hdd, by omega⟩] at kk
            exact ⟨x, _, rfl, int_dg hdd (by omega), by omega, kk⟩
end
end

/-! A term, as the law reads it. -/

section
open PySem PySem.Spec PyProof.Rows L2 Gd TL StrLaws CwR
open Q0 (g_gen isDg rowL VR trm ltD ltP ltE ltT)
theorem par_eq : ∀ (l acc d q : List Nat), par [112] acc l = some (d, q) → acc ++ l = d ++ 112 :: q
  | [], acc, d, q, h => by cases h
  | c :: r, acc, d, q, h => by
    by_cases hp : pre [112] (c :: r) = true
    · rw [par_hit hp] at h
      cases h
      have : c = 112 := by
        have := hp
        unfold pre at this
        simpa using this
      rw [this]
      rfl
    · rw [par_miss (by simpa using hp)] at h
      have := par_eq r (acc ++ [c]) d q h
      rw [← this, List.append_assoc]
      rfl
theorem par_no : ∀ (l acc : List Nat), par [112] acc l = none ↔ 112 ∉ l
  | [], acc => by
    constructor
    · intro _ h
      cases h
    · intro _
      rfl
  | c :: r, acc => by
    have ih := par_no r (acc ++ [c])
    by_cases hc : c = 112
    · subst hc
      have hp : pre [112] (112 :: r) = true := by
        unfold pre
        simp
      rw [par_hit hp]
      simp
    · have hp : pre [112] (c :: r) = false := by
        unfold pre
        simp [hc]
      rw [par_miss hp, ih]
      simp
      intro _ z
      exact hc z.symm
theorem occ_par {x y : Str} {d q : List Nat} (hy : tl y = [112]) (h : par [112] [] (tl x) = some (d, q)) : ∃ rest, Builtin.Str.occurrences x y 0 x.length 1 = d.length :: rest := by
  have hp := partition_par x y (by rw [hy]; simp)
  rw [hy, h] at hp
  unfold Txt.partition at hp
  revert hp
  cases ho : Builtin.Str.occurrences x y 0 x.length 1 with
  | nil =>
    intro hp
    dsimp only at hp
    injection hp with _ h2
    injection h2 with h2 _
    rw [← h2] at hy
    exact absurd hy (by decide +kernel)
  | cons i rest =>
    intro hp
    dsimp only at hp
    injection hp with h1 _
    have hi := (occ_spec x y 0 x.length 1 i (by rw [ho]; exact List.mem_cons_self)).1
    have h2 := congrArg tl h1
    rw [tl_strSub, tl_mk d, List.drop_zero, Nat.sub_zero] at h2
    have h3 := congrArg List.length h2
    rw [List.length_take, ← len_tl] at h3
    exact ⟨rest, by rw [show d.length = i by omega]⟩
theorem cut_tk (z : Str) (e : Nat) : tl (cutS z none (some (e : Int))) = (tl z).take e := by
  unfold cutS
  rw [tl_mk]
  have e1 : HT.sIx z.length 0 none = 0 := rfl
  rw [e1, HT.sIx_nat]
  show ((tl z).drop 0).take (min e z.length - 0) = _
  rw [List.drop_zero, Nat.sub_zero, len_tl]
  by_cases h : e ≤ (tl z).length
  · rw [Nat.min_eq_left h]
  · rw [Nat.min_eq_right (by omega), List.take_of_length_le (Nat.le_refl _), List.take_of_length_le (by omega)]
theorem cut_dr (z : Str) (e : Nat) : tl (cutS z (some (e : Int)) none) = (tl z).drop e := by
  unfold cutS
  rw [tl_mk]
  have e1 : HT.sIx z.length z.length none = z.length := rfl
  rw [e1, HT.sIx_nat]
  show ((tl z).drop (min e z.length)).take (z.length - min e z.length) = _
  rw [len_tl]
  by_cases h : e ≤ (tl z).length
  · rw [Nat.min_eq_left h, List.take_of_length_le (by rw [List.length_drop]; omega)]
  · rw [Nat.min_eq_right (by omega), List.drop_eq_nil_of_le (Nat.le_refl _), List.drop_eq_nil_of_le (by omega), List.take_nil]
theorem str_tl {x y : Str} (h : tl x = tl y) : x = y := by
  obtain ⟨⟨a⟩⟩ := x
  obtain ⟨⟨b⟩⟩ := y
  cases (show a = b from h)
  rfl
theorem str_e {x : Str} : x = ("" : Str) ↔ tl x = [] := by
  have e : tl ("" : Str) = [] := by decide +kernel
  constructor
  · intro h
    rw [h, e]
  · intro h
    exact str_tl (by rw [h, e])
section
variable {P : Program} {w : World} {K : PySem.W.Frag} {mg : Str → Option Value} {base : Heap} {f C CP fP t0 : Addr} {fd : FuncData}
abbrev sLTm : Stmt := top 42
theorem scLTm : FnScope ["_law_word", "_law_head", "_law_power", "_law_at", "_law_tail", "_law_factor"] ["_law_word"] (defScope sLTm) := ⟨rfl, rfl, rfl, by decide +kernel, rfl, by decide +kernel, by decide +kernel⟩
def spLTm (K : PySem.W.Frag) : Sp := fun vs H Q _ => ∃ x : Str, vs = [.str x] ∧ x.length ≤ 200000 ∧ ∀ H' b, Ext H H' → SqT K H' b [.int (ltT (tl x)).1, .int (ltT (tl x)).2] → Q (.ref b) H'
theorem ok_ltm (F : Fun K "_law_term" "_law_term" sLTm f fd) (T : Txt K mg) (Dg : Def1 P w K mg base CX0 1 "_law_digits" ["_law_text"] spLDg) : FnOk P w K mg base CX0 2 f fd ["_law_word"] (spLTm K) := by
  refine F.ok scLTm (fun vs H Q E h => ?_) (fun cdv A outer s H vs Q E hr h => ?_)
  · obtain ⟨x, rfl, _⟩ := h
    rfl
  · obtain ⟨x, rfl, hl, k⟩ := h
    refine ⟨_, pss_cons (ps_par (i := 1) (j := 2) (by rfl) scLTm.nd rfl rfl (by decide) rfl rfl (pa_cons (pv 0) (pa_cons pe_int pa_nil)) (by rfl))
      (pss_cons (ps_if (pt_cmpR (r := rInS) op_inS pe_str (pv 0) (by rfl)) (pss_cons (ps_set (i := 3) scLTm.nd rfl (Or.inl rfl) (pe_bm PySem.F.plainAttrs_str PySem.F.slot_str_index PySem.F.type_str_index mt_sindex (pv 0) (pa_cons pe_str pa_nil)))
      (pss_cons (ps_par (i := 1) (j := 4) (by rfl) scLTm.nd rfl rfl (by decide) rfl rfl (pa_cons (pe_slice sl_str (pv 0) po_none (po_some (pv 3))) (pa_cons (pe_slice sl_str (pv 0) (po_some (pe_op op_add (pv 3) pe_int)) po_none) pa_nil)) (by rfl))
      (pss_one (ps_set (i := 2) scLTm.nd rfl (Or.inl rfl) (pe_ifExp (pt_cmpR op_eq (pv 4) pe_str (nomark _)) pe_int (pe_ifExp (pt_cmpR op_eq (pe_ix ix_str (pv 4) pe_int (fun _ _ => rfl)) pe_str (nomark _)) (pe_def Dg hr (by decide) (by rfl) (pa_cons (pe_slice sl_str (pv 4) (po_some pe_int) po_none) pa_nil)) (pe_un un_neg pe_int))))))) pss_nil)
      (pss_cons (ps_set (i := 5) scLTm.nd rfl (Or.inl rfl) (pe_ifExp (PW.pt (pw_and (pt_cmpR op_eq (pv 1) pe_str (nomark _)) (pw_and1 (pt_cmpR op_ne (pv 1) (pv 0) (nomark _))))) pe_int (pe_def Dg hr (by decide) (by rfl) (pa_cons (pv 1) pa_nil))))
      (pss_one (ps_ret (pe_ifExp (pt_chain op_le op_le pe_int (pv 2) pe_int) (pe_tup (pa_cons (pv 5) (pa_cons (pv 2) pa_nil))) (pe_tup (pa_cons (pe_un un_neg pe_int) (pa_cons pe_int pa_nil)))))))), ?_⟩
    try dsimp only [Q0.cx_nox, Q0.cx_K]
    have sz : (10000000 : Nat) < sizeLine := by decide
    have hlx : x.length = (tl x).length := len_tl x
    have cp : ("p" : Str) = ⟨#[112]⟩ := by decide +kernel
    have tp : tl ("p" : Str) = [112] := by decide +kernel
    have tc : tl ("^" : Str) = [94] := by decide +kernel
    walk_at "rd"
    unfold tPar
    walk_at "rd"
    refine ⟨_, _, rfl, ?_⟩
    dsimp only
    refine g_cut (fun σ' H' => ∃ (hd : Str) (pw : Int) (x3 x4 x5 : Option V), hd.length ≤ 200000 ∧ Ext H H' ∧ ltT (tl x) = ltE (if hd = ("" : Str) ∧ hd ≠ x then 1 else ltD (tl hd)) pw ∧ σ' = [some (.str x), some (.str hd), some (.int pw), x3, x4, x5]) (fun σ' H' hN => ?_) (fun go => ?_)
    rotate_left
    · refine g_gen fun D1 hn1 _ => ?_
      have fin : ∀ (hd : Str) (pw : Int) (x3 x4 x5 : Option V) (H' : Hp), hd.length ≤ 200000 → Ext H H' → ltT (tl x) = ltE (if hd = ("" : Str) ∧ hd ≠ x then 1 else ltD (tl hd)) pw → D1.nx [some (.str x), some (.str hd), some (.int pw), x3, x4, x5] H' := fun hd pw x3 x4 x5 H' h1 h2 h3 => hn1 _ _ (go _ _ ⟨hd, pw, x3, x4, x5, h1, h2, h3, rfl⟩)
      walk_at "rd"
      refine ⟨112, x, by rw [cp], rfl, ?_⟩
      have hmem : (112 ∈ x.cps.toList) ↔ par [112] [] (tl x) ≠ none := by
        have := par_no (tl x) []
        constructor
        · intro h z
          exact (this.mp z) h
        · intro h
          exact Classical.byContradiction fun z => h (this.mpr z)
      refine ⟨_, rfl, ?_⟩
      cases hp : par [112] [] (tl x) with
      | none =>
        rw [if_neg (by
          intro z
          exact hmem.mp (of_decide_eq_true z) hp)]
        walk_at "rd"
        refine fin x 0 _ _ _ H hl (fun _ _ z => z) ?_
        unfold Q0.ltT
        rw [hp, if_neg (fun z => z.2 rfl)]
      | some dq =>
        obtain ⟨d, q⟩ := dq
        have hT : ltT (tl x) = ltE (if d = [] then 1 else ltD d) (ltP q) := by
          unfold Q0.ltT
          rw [hp]
        have hx := par_eq _ _ _ _ hp
        rw [List.nil_append] at hx
        have hdl : d.length + q.length + 1 = x.length := by
          rw [hlx, hx]
          simp
          omega
        obtain ⟨rest, ho⟩ := occ_par tp hp
        rw [if_pos (by rw [hp] at hmem; exact decide_eq_true (hmem.mpr (by simp)))]
        walk_at "rd"
        refine ⟨rfl, x, _, _, rest, rfl, rfl, ho, ?_⟩
        walk_at "rd"
        refine ⟨x, rfl, by omega, ?_⟩
        walk_at "rd"
        refine ⟨x, rfl, by omega, ?_⟩
        walk_at "rd"
        refine ⟨_, _, rfl, ?_⟩
        have eh : tl (cutS x none (some (d.length : Int))) = d := by
          rw [cut_tk, hx]
          simp
        have et : tl (cutS x (some ((d.length : Int) + 1)) none) = q := by
          have := cut_dr x (d.length + 1)
          rw [show ((d.length + 1 : Nat) : Int) = (d.length : Int) + 1 by omega, hx] at this
          rw [this, show d ++ 112 :: q = (d ++ [112]) ++ q by simp]
          exact List.drop_left' (by simp)
        generalize cutS x none (some (d.length : Int)) = hd at eh ⊢
        generalize cutS x (some ((d.length : Int) + 1)) none = ta at et ⊢
        have hhl : hd.length = d.length := by rw [len_tl, eh]
        have htl : ta.length = q.length := by rw [len_tl, et]
        have hne : hd ≠ x := fun z => by
          rw [z] at hhl
          omega
        have hC : (if hd = ("" : Str) ∧ hd ≠ x then 1 else ltD (tl hd)) = if d = [] then 1 else ltD d := by
          rw [eh]
          by_cases h : d = []
          · rw [if_pos h, if_pos ⟨str_e.mpr (by rw [eh, h]), hne⟩]
          · rw [if_neg h, if_neg fun z => h (by rw [← eh]; exact str_e.mp z.1)]
        walk_at "rd"
        refine ⟨rfl, _, rfl, ?_⟩
        by_cases ht : ta = ("" : Str)
        · rw [if_pos (by simp [ht])]
          walk_at "rd"
          refine fin hd 1 _ _ _ H (by omega) (fun _ _ z => z) ?_
          rw [hC, hT]
          have : q = [] := by
            rw [← et]
            exact str_e.mp ht
          rw [this]
          rfl
        · rw [if_neg (by simpa using ht)]
          walk_at "rd"
          cases q with
          | nil => exact absurd (str_e.mpr et) ht
          | cons c r =>
            refine ⟨ta, 0, c, rfl, rfl, by omega, ?_, ?_⟩
            · show atI (tl ta) ((0 : Nat) : Int) = _
              rw [et]
              exact atI_nat rfl
            walk_at "rd"
            refine ⟨rfl, _, rfl, ?_⟩
            have cq : (⟨#[c]⟩ : Str) = ("^" : Str) ↔ c = 94 := by
              constructor
              · intro z
                have := congrArg tl z
                rw [tc] at this
                exact List.cons.inj this |>.1
              · intro z
                rw [z]
                decide +kernel
            by_cases hc : c = 94
            · rw [if_pos (by rw [cq.mpr hc]; simp)]
              walk_at "rd"
              refine ⟨ta, rfl, by omega, ?_⟩
              walk_at "rd"
              have hcl := cutS_length ta (some 1) none
              refine ⟨_, rfl, by omega, fun H1 e1 => ?_⟩
              have ec : tl (cutS ta (some 1) none) = r := by
                have := cut_dr ta 1
                rw [et] at this
                exact this
              rw [ec]
              walk_at "rd"
              refine fin hd (ltD r) _ _ _ H1 (by omega) e1 ?_
              rw [hC, hT, hc]
              rfl
            · rw [if_neg (by
                intro z
                exact hc (cq.mp (V.str.inj (of_decide_eq_true z))))]
              walk_at "rd"
              refine fin hd (-1) _ _ _ H (by omega) (fun _ _ z => z) ?_
              rw [hC, hT]
              unfold Q0.ltP
              dsimp only
              rw [if_neg hc]
    · obtain ⟨hd, pw, x3, x4, x5, h1, h2, h3, rfl⟩ := hN
      refine g_cut (fun σ' H' => ∃ fv : Int, Ext H H' ∧ ltT (tl x) = ltE fv pw ∧ σ' = [some (.str x), some (.str hd), some (.int pw), x3, x4, some (.int fv)]) (fun σ' H' hN => ?_) (fun go => ?_)
      rotate_left
      · refine g_gen fun D1 hn1 _ => ?_
        have fin : ∀ (fv : Int) (H' : Hp), Ext H H' → ltT (tl x) = ltE fv pw → D1.nx [some (.str x), some (.str hd), some (.int pw), x3, x4, some (.int fv)] H' := fun fv H' h1 h2 => hn1 _ _ (go _ _ ⟨fv, h1, h2, rfl⟩)
        have dg : ¬ (hd = ("" : Str) ∧ hd ≠ x) → tCall spLDg [] X0 (tCons (tVar 1) tNil) [some (.str x), some (.str hd), some (.int pw), x3, x4, x5] H' fun v H1 => D1.nx [some (.str x), some (.str hd), some (.int pw), x3, x4, some v] H1 := fun hn => by
          rw [if_neg hn] at h3
          walk_at "rd"
          exact ⟨hd, rfl, by omega, fun H1 e1 => fin _ H1 (Ext.trans h2 e1) h3⟩
        walk_at "rd"
        refine ⟨rfl, _, rfl, ?_⟩
        by_cases ha : hd = ("" : Str)
        · rw [if_pos (by simp [ha])]
          walk_at "rd"
          refine ⟨rfl, _, rfl, ?_⟩
          by_cases hb : hd = x
          · rw [if_neg (by simp [hb])]
            exact dg fun z => z.2 hb
          · rw [if_pos (by simpa using hb)]
            walk_at "rd"
            rw [if_pos ⟨ha, hb⟩] at h3
            exact fin _ _ h2 h3
        · rw [if_neg (by simpa using ha)]
          refine iteF ?_
          exact dg fun z => ha z.1
      · obtain ⟨fv, e1, hT, rfl⟩ := hN
        unfold Q0.ltE at hT
        have no : ¬ (0 ≤ pw ∧ pw ≤ 399) → ∀ (u : Addr), H' u = none → Q (.ref u) (upd H' u (.tup [V.int (-1), V.int 0])) := fun hn u hu => by
          rw [if_neg hn] at hT
          refine k _ u (Ext.trans e1 (Ext.new hu)) ?_
          rw [hT]
          exact SqT.of upd_same
        walk_at "rd"
        by_cases ha : 0 ≤ pw
        · rw [if_pos (decide_eq_true ha)]
          walk_at "rd"
          by_cases hb : pw ≤ 399
          · rw [if_pos (decide_eq_true hb)]
            walk_at "rd"
            refine ⟨by show 2 ≤ sizeLine; decide, fun u hu => ?_⟩
            rw [if_pos ⟨ha, hb⟩] at hT
            refine k _ u (Ext.trans e1 (Ext.new hu)) ?_
            rw [hT]
            exact SqT.of upd_same
          · rw [if_neg (by simpa using hb)]
            walk_at "rd"
            exact ⟨by show 2 ≤ sizeLine; decide, fun u hu => no (fun z => hb z.2) u hu⟩
        · rw [if_neg (by simpa using ha)]
          refine ⟨false, rfl, iteF ?_⟩
          walk_at "rd"
          exact ⟨by show 2 ≤ sizeLine; decide, fun u hu => no (fun z => ha z.1) u hu⟩
end
end

/-! The law's text of a row. -/

section
open PySem PySem.Spec PyProof.Rows L2 Gd TL StrLaws CwR
open Q0 (g_gen tmL sgL spL wdL midL rwT trs rowL)
theorem cat_nil : ∀ ts : List (Nat × Int), catL ts = [] ↔ ts = []
  | [] => ⟨fun _ => rfl, fun _ => rfl⟩
  | t :: r => by
    constructor
    · intro h
      obtain ⟨c, l, e, _⟩ := Q0.tm_head t.2.natAbs t.1
      have := congrArg List.length h
      rw [show catL (t :: r) = (sgL t.2 ++ tmL t.2.natAbs t.1) ++ r.flatMap midL from rfl, e] at this
      simp at this
    · intro h
      cases h
theorem len_app (x y : Str) : (x ++ y).length = x.length + y.length := by
  rw [len_tl, tl_append, List.length_append, len_tl, len_tl]
section
variable {P : Program} {w : World} {K : PySem.W.Frag} {mg : Str → Option Value} {base : Heap} {f C CP fP t0 : Addr} {fd : FuncData}
abbrev sLTx : Stmt := top 39
theorem scLTx : FnScope ["_law_factors_here", "_law_found", "_law_power", "_law_factor", "_law_size", "_law_unknown", "_law_sign"] ["_law_factors_here"] (defScope sLTx) := ⟨rfl, rfl, rfl, by decide +kernel, rfl, by decide +kernel, by decide +kernel⟩
def spLTx (K : PySem.W.Frag) : Sp := spRowTx K
theorem ok_ltx (F : Fun K "_law_poly_text" "_law_poly_text" sLTx f fd) (T : Txt K mg) (T2 : Txt2 mg) (zS : mg "str" = none) : FnOk P w K mg base CX0 1 f fd ["_law_factors_here"] (spRowTx K) := by
  refine F.ok scLTx (fun vs H Q E h => ?_) (fun cdv A outer s H vs Q E hr h => ?_)
  · obtain ⟨a, ns, rfl, _⟩ := h
    rfl
  · obtain ⟨a, ns, rfl, hs, hl, hb, k⟩ := h
    refine ⟨_, pss_cons (ps_set (i := 1) scLTx.nd rfl (Or.inl rfl) pe_str)
      (pss_cons (ps_for PassesOwn.never rfl (pi_range3 (by rfl) T2.range (pa_cons (pe_op op_sub (pe_callB call_len_seq (by rfl) T.len PySem.boot_len (pa_cons (pv 0) pa_nil)) pe_int) (pa_cons (pe_un un_neg pe_int) (pa_cons (pe_un un_neg pe_int) pa_nil)))) (pg_name (i := 2) scLTx.nd rfl (Or.inl rfl)) (pss_cons (ps_set (i := 3) scLTx.nd rfl (Or.inl rfl) (pe_ix ix_tup (pv 0) (pv 2) (fun _ _ => rfl)))
      (pss_one (ps_if (pt_cmpR op_ne (pv 3) pe_int (nomark _)) (pss_cons (ps_set (i := 4) scLTx.nd rfl (Or.inl rfl) (pe_ifExp (PW.pt (pw_or (pt_cmpR op_ne (pe_callB call_abs (by rfl) T2.abs (by decide +kernel) (pa_cons (pv 3) pa_nil)) pe_int (nomark _)) (pw_or1 (pt_cmpR op_eq (pv 2) pe_int (nomark _))))) (pe_callTy call_str_int (by rfl) zS (by decide +kernel) (pa_cons (pe_callB call_abs (by rfl) T2.abs (by decide +kernel) (pa_cons (pv 3) pa_nil)) pa_nil)) pe_str))
      (pss_cons (ps_set (i := 5) scLTx.nd rfl (Or.inl rfl) (pe_ifExp (pt_cmpR op_eq (pv 2) pe_int (nomark _)) pe_str (pe_ifExp (pt_cmpR op_eq (pv 2) pe_int (nomark _)) pe_str (pe_op op_add_str pe_str (pe_callTy call_str_int (by rfl) zS (by decide +kernel) (pa_cons (pv 2) pa_nil))))))
      (pss_cons (ps_set (i := 6) scLTx.nd rfl (Or.inl rfl) (pe_ifExp (pt_cmpR op_eq (pv 1) pe_str (nomark _)) (pe_ifExp (pt_cmpR op_lt (pv 3) pe_int (nomark _)) pe_str pe_str) (pe_ifExp (pt_cmpR op_lt (pv 3) pe_int (nomark _)) pe_str pe_str)))
      (pss_one (ps_set (i := 1) scLTx.nd rfl (Or.inl rfl) (pe_op op_add_str (pe_op op_add_str (pe_op op_add_str (pv 1) (pv 6)) (pv 4)) (pv 5))))))) pss_nil))))
      (pss_one (ps_ret (pe_ifExp (pt_cmpR op_ne (pv 1) pe_str (nomark _)) (pv 1) pe_str)))), ?_⟩
    try dsimp only [Q0.cx_nox, Q0.cx_K]
    have sz : (10000000 : Nat) < sizeLine := by decide
    have ce : tl ("" : Str) = [] := by decide +kernel
    have c45 : tl ("-" : Str) = [45] := by decide +kernel
    have c48 : tl ("0" : Str) = [48] := by decide +kernel
    have c112 : tl ("p" : Str) = [112] := by decide +kernel
    have c112' : tl ("p^" : Str) = [112, 94] := by decide +kernel
    have cm : tl (" - " : Str) = [32, 45, 32] := by decide +kernel
    have cq : tl (" + " : Str) = [32, 43, 32] := by decide +kernel
    walk_at "rd"
    refine g_forC3 (K := K) ?_
    walk_at "rd"
    refine ⟨a, _, rfl, .inr hs, ?_⟩
    walk_at "rd"
    rw [List.length_map]
    have hRg : RgC ((ns.length : Int) - 1) (-1) (-1) ns.length := by
      have := RgC.neg (i := (ns.length : Int) - 1) (j := -1) (by omega) (by omega) (by omega) (by omega)
      rw [show ((ns.length : Int) - 1 - -1).toNat = ns.length by omega] at this
      exact this
    refine ⟨_, _, _, ns.length, rfl, hRg, for_rangeC (fun i σ H' => ∃ (x3 x4 x5 x6 x7 : Option V) (y : Str), σ = [some (.ref a), some (.str y), x3, x4, x5, x6, x7] ∧ H' = H ∧ tl y = catL (part ns i) ∧ y.length ≤ 120 * i) ⟨_, _, _, _, _, _, rfl, rfl, rfl, Nat.zero_le _⟩ ?_ ?_⟩
    · rintro i σ H1 hi ⟨x3, x4, x5, x6, x7, y, rfl, rfl, hc, hyl⟩
      have hk : ((ns.length : Int) - 1 + (i : Nat) * -1) = ((ns.length - 1 - i : Nat) : Int) := by omega
      have hkl : ns.length - 1 - i < ns.length := by omega
      have hv : (ns.getD (ns.length - 1 - i) 0).natAbs < 10 ^ 100 := hb _ (Q0.getD_memI hkl)
      have hps := part_succ hi
      generalize ev : ns.getD (ns.length - 1 - i) 0 = v at hv hps
      have hgx := getI3 hkl
      rw [ev] at hgx
      generalize hkk : ns.length - 1 - i = kk at *
      walk_at "rd"
      rw [hk]
      refine g_ixT hs (atI_nat hgx) ?_
      walk_at "rd"
      have hk400 : kk < 400 := by omega
      refine ⟨rfl, _, rfl, ?_⟩
      by_cases hz : v = 0
      · rw [show (!decide (V.int v = V.int 0)) = false by simp [hz]]
        refine iteF ?_
        walk_at "rd"
        rw [if_pos hz, List.append_nil] at hps
        exact ⟨_, _, _, _, _, y, rfl, rfl, by rw [hps]; exact hc, by omega⟩
      rw [show (!decide (V.int v = V.int 0)) = true by simp [hz]]
      refine iteT ?_
      rw [if_neg hz] at hps
      have eabs : (if v < 0 then -v else v) = (v.natAbs : Int) := by
        split <;> omega
      have lv : ((v.natAbs : Nat) : Int).natAbs.log2 < 1920 := log_lt (by rw [Int.natAbs_natCast]; exact hv)
      have lk : ((kk : Nat) : Int).natAbs.log2 < 1920 := log_lt (by rw [Int.natAbs_natCast]; exact Nat.lt_trans hk400 (by decide +kernel))
      refine g_cut (fun σ' H' => H' = H1 ∧ ∃ z : Str, σ' = [some (.ref a), some (.str y), some (.int (kk : Int)), some (.int v), some (.str z), x6, x7] ∧ tl z = if kk ≠ 0 ∧ v.natAbs = 1 then [] else numL v.natAbs) (fun σ' H' hN => ?_) (fun go => ?_)
      rotate_left
      · refine g_gen fun D1 hn1 _ => ?_
        have fin : ∀ z : Str, (tl z = if kk ≠ 0 ∧ v.natAbs = 1 then [] else numL v.natAbs) → D1.nx [some (.ref a), some (.str y), some (.int (kk : Int)), some (.int v), some (.str z), x6, x7] H1 := fun z e => hn1 _ _ (go _ _ ⟨rfl, z, rfl, e⟩)
        walk_at "rd"
        rw [eabs]
        refine ⟨rfl, _, rfl, ?_⟩
        by_cases h1 : v.natAbs = 1
        · rw [show (!decide (V.int (v.natAbs : Int) = V.int 1)) = false by rw [h1]; rfl]
          refine iteF ?_
          walk_at "rd"
          refine ite2 (fun h => ?_) (fun h => ?_)
          · have h := of_decide_eq_true h
            walk_at "rd"
            rw [eabs]
            refine ⟨lv, fin _ ?_⟩
            rw [tl_nat, if_neg (fun z => z.1 (by omega))]
          · have h : ¬ (kk : Int) = 0 := fun z => h (decide_eq_true z)
            walk_at "rd"
            refine fin _ ?_
            rw [ce, if_pos ⟨by omega, h1⟩]
        · rw [show (!decide (V.int (v.natAbs : Int) = V.int 1)) = true by
            rw [Bool.not_eq_true', decide_eq_false_iff_not]
            intro z
            have := V.int.inj z
            omega]
          refine iteT ?_
          walk_at "rd"
          rw [eabs]
          refine ⟨lv, fin _ ?_⟩
          rw [tl_nat, if_neg (fun z => h1 z.2)]
      obtain ⟨rfl, z1, rfl, hz1⟩ := hN
      refine g_cut (fun σ2 H2 => H2 = H' ∧ ∃ z2 : Str, σ2 = [some (.ref a), some (.str y), some (.int (kk : Int)), some (.int v), some (.str z1), some (.str z2), x7] ∧ tl z1 ++ tl z2 = tmL v.natAbs kk) (fun σ2 H2 hN => ?_) (fun go => ?_)
      rotate_left
      · refine g_gen fun D1 hn1 _ => ?_
        have fin : ∀ z2 : Str, tl z1 ++ tl z2 = tmL v.natAbs kk → D1.nx [some (.ref a), some (.str y), some (.int (kk : Int)), some (.int v), some (.str z1), some (.str z2), x7] H' := fun z e => hn1 _ _ (go _ _ ⟨rfl, z, rfl, e⟩)
        walk_at "rd"
        refine ite2 (fun h => ?_) (fun h => ?_)
        · have h := of_decide_eq_true h
          walk_at "rd"
          refine fin _ ?_
          rw [ce, hz1, if_neg (fun z => z.1 (by omega)), List.append_nil]
          unfold Q0.tmL
          rw [if_pos (by omega)]
        · have h : ¬ (kk : Int) = 0 := fun z => h (decide_eq_true z)
          have et : tmL v.natAbs kk = (if v.natAbs = 1 then [] else numL v.natAbs) ++ 112 :: (if kk = 1 then [] else 94 :: numL kk) := by
            unfold Q0.tmL
            rw [if_neg (by omega)]
          have e1 : tl z1 = if v.natAbs = 1 then [] else numL v.natAbs := by
            rw [hz1]
            by_cases g : v.natAbs = 1
            · rw [if_pos g, if_pos ⟨by omega, g⟩]
            · rw [if_neg g, if_neg fun z => g z.2]
          walk_at "rd"
          refine ite2 (fun g => ?_) (fun g => ?_)
          · have g := of_decide_eq_true g
            walk_at "rd"
            refine fin _ ?_
            rw [et, e1, c112, if_pos (show kk = 1 by omega)]
          · have g : ¬ (kk : Int) = 1 := fun z => g (decide_eq_true z)
            walk_at "rd"
            refine ⟨lk, ?_⟩
            walk_at "rd"
            refine ⟨_, _, rfl, rfl, ?_, fin _ ?_⟩
            · have : (numL kk).length ≤ 3 := numL_len (by decide) (by omega)
              rw [len_tl, len_tl, c112', tl_nat]
              simp
              omega
            · rw [et, e1, tl_append, c112', tl_nat, if_neg (show ¬ kk = 1 by omega)]
              rfl
      obtain ⟨rfl, z2, rfl, hz2⟩ := hN
      have hzl : z1.length + z2.length ≤ 110 := by
        have := tm_len hv (show kk < 1000 by omega)
        rw [← hz2, List.length_append] at this
        rw [len_tl, len_tl]
        exact this
      refine g_cut (fun σ3 H3 => H3 = H2 ∧ ∃ z3 : Str, σ3 = [some (.ref a), some (.str y), some (.int (kk : Int)), some (.int v), some (.str z1), some (.str z2), some (.str z3)] ∧ tl z3 = if part ns i = [] then sgL v else spL v) (fun σ3 H3 hN => ?_) (fun go => ?_)
      rotate_left
      · refine g_gen fun D1 hn1 _ => ?_
        have fin : ∀ z3 : Str, (tl z3 = if part ns i = [] then sgL v else spL v) → D1.nx [some (.ref a), some (.str y), some (.int (kk : Int)), some (.int v), some (.str z1), some (.str z2), some (.str z3)] H2 := fun z e => hn1 _ _ (go _ _ ⟨rfl, z, rfl, e⟩)
        have hy0 : y = ("" : Str) ↔ part ns i = [] := by
          rw [str_e, hc]
          exact cat_nil _
        walk_at "rd"
        refine ⟨rfl, _, rfl, ?_⟩
        by_cases hp : part ns i = []
        · rw [if_pos (by rw [hy0.mpr hp]; simp)]
          walk_at "rd"
          refine ite2 (fun h => ?_) (fun h => ?_)
          · walk_at "rd"
            refine fin _ ?_
            rw [if_pos hp, c45]
            unfold Q0.sgL
            rw [if_pos (of_decide_eq_true h)]
          · walk_at "rd"
            refine fin _ ?_
            rw [if_pos hp, ce]
            unfold Q0.sgL
            rw [if_neg fun z => h (decide_eq_true z)]
        · rw [if_neg (by
            intro z
            exact hp (hy0.mp (V.str.inj (of_decide_eq_true z))))]
          walk_at "rd"
          refine ite2 (fun h => ?_) (fun h => ?_)
          · walk_at "rd"
            refine fin _ ?_
            rw [if_neg hp, cm]
            unfold Q0.spL
            rw [if_pos (of_decide_eq_true h)]
          · walk_at "rd"
            refine fin _ ?_
            rw [if_neg hp, cq]
            unfold Q0.spL
            rw [if_neg fun z => h (decide_eq_true z)]
      obtain ⟨rfl, z3, rfl, hz3⟩ := hN
      have h3l : z3.length ≤ 3 := by
        rw [len_tl, hz3]
        unfold Q0.sgL Q0.spL
        split <;> split <;> simp
      walk_at "rd"
      refine ⟨_, _, rfl, rfl, by omega, ?_⟩
      walk_at "rd"
      refine ⟨_, _, rfl, rfl, by rw [len_app]; omega, ?_⟩
      walk_at "rd"
      refine ⟨_, _, rfl, rfl, by rw [len_app, len_app]; omega, ?_⟩
      refine ⟨_, _, _, _, _, _, rfl, rfl, ?_, ?_⟩
      · rw [tl_append, tl_append, tl_append, hps, cat_snoc, hc, hz3, List.append_assoc, List.append_assoc, hz2]
      · rw [len_app, len_app, len_app]
        omega
    · rintro σ H1 ⟨x3, x4, x5, x6, x7, y, rfl, rfl, hc, hyl⟩
      rw [part_all] at hc
      have hy0 : y = ("" : Str) ↔ trs ns = [] := by
        rw [str_e, hc]
        exact cat_nil _
      walk_at "rd"
      refine ⟨rfl, _, rfl, ?_⟩
      by_cases hp : trs ns = []
      · rw [if_neg (by rw [hy0.mpr hp]; simp)]
        walk_at "rd"
        refine k _ _ (fun _ _ z => z) ?_ ?_
        · unfold Q0.rowL
          rw [c48, hp]
          rfl
        · rw [len_tl, c48]
          decide
      · rw [if_pos (by
          rw [Bool.not_eq_true', decide_eq_false_iff_not]
          exact fun z => hp (hy0.mp (V.str.inj z)))]
        walk_at "rd"
        refine k _ _ (fun _ _ z => z) ?_ (by omega)
        unfold Q0.rowL
        rw [hc, row_cat, if_neg hp]
end
end

/-! xs[::2] and xs[1::2] of a list. -/

section
open PySem PySem.Spec PyProof.Rows L2 Gd TL StrLaws CwR
open Q0 (ev2 od2 ev2_get od2_get)
theorem ev2_len {α : Type} : ∀ l : List α, (ev2 l).length = (l.length + 1) / 2
  | [] => by simp [Q0.ev2]
  | [a] => by simp [Q0.ev2]
  | a :: b :: r => by
    show (ev2 r).length + 1 = _
    rw [ev2_len r]
    simp
    omega
theorem od2_len {α : Type} : ∀ l : List α, (od2 l).length = l.length / 2
  | [] => by simp [Q0.od2]
  | [a] => by simp [Q0.od2]
  | a :: b :: r => by
    show (od2 r).length + 1 = _
    rw [od2_len r]
    simp
    omega
theorem fm_cong {α β : Type} {f g : α → Option β} : ∀ {l : List α}, (∀ x ∈ l, f x = g x) → l.filterMap f = l.filterMap g
  | [], _ => rfl
  | a :: r, h => by
    have ih := fm_cong (l := r) fun x hx => h x (List.mem_cons_of_mem _ hx)
    rw [List.filterMap_cons, List.filterMap_cons, h a List.mem_cons_self, ih]
theorem fm_all {α : Type} (e : List α) (g : Nat → Option α) (h : ∀ k, k < e.length → g k = e[k]?) : (List.range e.length).filterMap g = e := by
  have := PySem.W.krv_all e.toArray
  rw [List.size_toArray] at this
  refine Eq.trans (fm_cong fun k hk => ?_) this
  rw [h k (List.mem_range.mp hk)]
  simp
theorem pick_ev (items : Array Value) : slicePick items none none (some 2) = (ev2 items.toList).toArray := by
  unfold slicePick
  have e : sliceBounds none none (some 2) items.size = (0, (items.size : Int), 2) := rfl
  rw [e]
  unfold sliceRange
  dsimp only
  have hc : (if (2 : Int) > 0 then (if (0 : Int) < (items.size : Int) then ((items.size : Int) - 0 + 2 - 1) / 2 else 0) else (if (0 : Int) > (items.size : Int) then (0 - (items.size : Int) - 2 - 1) / (-2) else 0)).toNat = (ev2 items.toList).length := by
    rw [ev2_len, Array.length_toList]
    split <;> split <;> omega
  rw [hc, List.filterMap_map]
  congr 1
  refine fm_all _ _ fun k _ => ?_
  rw [ev2_get]
  show items[(0 + 2 * (k : Int)).toNat]? = _
  rw [show (0 + 2 * (k : Int)).toNat = 2 * k by omega, Array.getElem?_toList]
theorem pick_od (items : Array Value) : slicePick items (some 1) none (some 2) = (od2 items.toList).toArray := by
  unfold slicePick
  have e : sliceBounds (some 1) none (some 2) items.size = (((min 1 items.size : Nat) : Int), (items.size : Int), 2) := by
    unfold sliceBounds
    simp
    omega
  rw [e]
  unfold sliceRange
  dsimp only
  have hc : (if (2 : Int) > 0 then (if ((min 1 items.size : Nat) : Int) < (items.size : Int) then ((items.size : Int) - ((min 1 items.size : Nat) : Int) + 2 - 1) / 2 else 0) else (if ((min 1 items.size : Nat) : Int) > (items.size : Int) then (((min 1 items.size : Nat) : Int) - (items.size : Int) - 2 - 1) / (-2) else 0)).toNat = (od2 items.toList).length := by
    rw [od2_len, Array.length_toList]
    split <;> split <;> omega
  rw [hc, List.filterMap_map]
  congr 1
  refine fm_all _ _ fun k hk => ?_
  rw [od2_get]
  rw [od2_len, Array.length_toList] at hk
  show items[(((min 1 items.size : Nat) : Int) + 2 * (k : Int)).toNat]? = _
  rw [show (((min 1 items.size : Nat) : Int) + 2 * (k : Int)).toNat = 2 * k + 1 by omega, Array.getElem?_toList]
theorem vals_ev : ∀ {xs : List V} {us : List Value}, Vals xs us → Vals (ev2 xs) (ev2 us)
  | [], _, h => by
    cases h
    exact .nil
  | [x], _, h => by
    cases h with
    | cons a b =>
      cases b
      exact .cons a .nil
  | x :: y :: r, _, h => by
    cases h with
    | cons a b =>
      cases b with
      | cons c d => exact .cons a (vals_ev d)
theorem vals_od : ∀ {xs : List V} {us : List Value}, Vals xs us → Vals (od2 xs) (od2 us)
  | [], _, h => by
    cases h
    exact .nil
  | [x], _, h => by
    cases h with
    | cons a b =>
      cases b
      exact .nil
  | x :: y :: r, _, h => by
    cases h with
    | cons a b =>
      cases b with
      | cons c d => exact .cons c (vals_od d)
section
variable {X : Cx}
def tStep (K : PySem.W.Frag) (l0 : Option Int) (f : List V → List V) (te : TE) (tl : TO) : TE := fun σ H Q => te σ H fun x H1 => ∃ a, x = .ref a ∧ tl σ H1 fun lo H2 => lo = l0 ∧ ∃ xs, SqL K H2 a xs ∧ ∀ p, H2 p = none → Q (.ref p) (upd H2 p (.lst (f xs)))
theorem pe_step {e : Expr} {te : TE} {lo : Option Expr} {tl : TO} {l0 : Option Int} {f : List V → List V} {g : List Value → List Value} {k : Nat} {p1 p3 pos : Pos}
    (hf : ∀ {xs : List V} {us : List Value}, Vals xs us → Vals (f xs) (g us)) (hp : ∀ items : Array Value, slicePick items l0 none (some 2) = (g items.toList).toArray) (hfl : ∀ xs : List V, (f xs).length ≤ xs.length)
    (he : PE X e te) (hl : PO X lo tl) : PE X (.Subscript e (.Slice lo none (some (.Constant (.int 2) k p1)) p3) pos) (tStep X.K l0 f te tl) := by
  constructor
  intro pins s σ H Q I h
  refine Subscript_ (thn (he.run pins s σ H _ I h) fun v s1 ⟨x, H1, I1, r1, a, ex, q⟩ => ?_)
  subst ex
  cases r1
  have step : PO X (some (.Constant (.int 2) k p1)) (tPart (tC (.int 2))) := po_some pe_int
  refine wpAny_Slice (thn (hl.run pins s1 σ H1 _ I1 q) fun vl s2 ⟨l, G, I2, pl, el, xs, hx, q⟩ => ?_)
  subst el
  refine thn (po_none.run pins s2 σ G (fun o G2 => o = none ∧ G2 = G) I2 ⟨rfl, rfl⟩) fun vu s3 ⟨u, G2, I3, pu, eu, eG2⟩ => ?_
  subst eu eG2
  refine thn (step.run pins s3 σ G2 (fun o G3 => o = some 2 ∧ G3 = G2) I3 ⟨2, rfl, rfl, rfl⟩) fun vs s4 ⟨o, G3, I4, ps, eo, eG3⟩ => ?_
  subst eo eG3
  let sh : Shared := { s4 with heap := s4.heap.push { cls := .type "slice", data := .fields #[vl, vu, vs] } }
  have J : Inv X pins σ G3 sh := I4.kept (t' := s4.toks) fun b ob z => Heap.get?_push_of_some _ z
  obtain ⟨its, r, ht, hz⟩ := J.list hx
  have hlen := r.length
  show wpAny (model X.prog X.w) X.A (subscriptTail e (.Slice lo none (some (.Constant (.int 2) k p1)) p3) (.ref a) (.ref s4.heap.objs.size)) (EP X pins σ Q) X.xe sh
  refine tail_any (ops := [.ref a, .ref s4.heap.objs.size]) ht.isList.typeIs (PySem.F.slot_list_getitem.lookup) ?_ (by with_unfolding_all rfl)
  refine wpAny_getItem_list_slice ht.isList (Heap.IsSliceOf.new _ vl vu vs) pl pu ps (by decide) ?_ (by rw [List.size_toArray]; omega)
  rw [hp, List.toList_toArray]
  refine ⟨.ref _, _, J.laid (t' := s4.toks) (o := .lst (f xs)) (fun b ob z => Heap.get?_push_of_some _ z) (Nat.le_refl _) ?_, rfl, q _ (J.hok.fresh (Nat.le_refl _))⟩
  exact ⟨Nat.le_trans (hfl xs) hz, _, 0, hf r, Heap.get?_push_size _ rfl⟩
theorem pe_ev {e : Expr} {te : TE} {k : Nat} {p1 p3 pos : Pos} (he : PE X e te) : PE X (.Subscript e (.Slice none none (some (.Constant (.int 2) k p1)) p3) pos) (tStep X.K none ev2 te tNoPart) :=
  pe_step vals_ev pick_ev (fun xs => by rw [ev2_len]; omega) he po_none
theorem pe_od {e : Expr} {te : TE} {k k2 : Nat} {p1 p2 p3 pos : Pos} (he : PE X e te) : PE X (.Subscript e (.Slice (some (.Constant (.int 1) k2 p2)) none (some (.Constant (.int 2) k p1)) p3) pos) (tStep X.K (some 1) od2 te (tPart (tC (.int 1)))) :=
  pe_step vals_od pick_od (fun xs => by rw [od2_len]; omega) he (po_some pe_int)
end
end

/-! What the law takes from a text. -/

section
open PySem PySem.Spec PyProof.Rows L2 Gd TL StrLaws CwR
open Q0 (g_gen ev2 od2 ev2_map od2_map ev2_mem od2_mem wordsQ signed okS takenL ltR ltT ltD ltE trm rowL VR g_lc g_ilist g_rng1 lcL lcR walk_zipE)
abbrev ForG (J : It) (g : TG) (tb : TS) (D : Ends) (σ : L2.St) (H : Hp) : Prop := ∃ W : Nat → Nat → L2.St → Hp → Prop, (∃ m, W 0 m σ H) ∧ ∀ i m σ H, W i m σ H →
  (J.stop i H ∧ D.nx σ H) ∨ (J.go i H ∧ ∃ N : L2.St → Hp → Prop, (∀ σ' H', N σ' H' → ∃ m', m' < m ∧ W (i + 1) m' σ' H') ∧ ∀ x H', J.yld i H x H' → g x σ H' fun σ2 H2 => tb { D with nx := N, ct := N, bk := D.nx } σ2 H2)
theorem g_forZ {K : PySem.W.Frag} {ta : TA} {g : TG} {tb : TS} {D : Ends} {σ : L2.St} {H : Hp} (k : ta σ H fun vs H1 => ∃ l1 l2 a b xs ys, vs = [.ref a, .ref b] ∧ SqE K l1 H1 a xs ∧ SqE K l2 H1 b ys ∧ ForG (ItzE K l1 l2 a b) g tb D σ H1) : tFor (iZipE K ta) g tb D σ H := k
theorem forZ {K : PySem.W.Frag} {l1 l2 : Bool} {a b : Addr} {xs ys : List V} {i1 i2 : Nat} {tb : TS} {D : Ends} {σ : L2.St} {H : Hp} (Pv : Nat → L2.St → Hp → Prop) (ha : ∀ i σ H, i ≤ min xs.length ys.length → Pv i σ H → SqE K l1 H a xs ∧ SqE K l2 H b ys) (h0 : Pv 0 σ H) (hs : SqE K l1 H a xs ∧ SqE K l2 H b ys)
    (hb : ∀ i x y σ H H', xs[i]? = some x → ys[i]? = some y → Pv i σ H → Ext H H' → tb { D with nx := Pv (i + 1), ct := Pv (i + 1), bk := D.nx } ((σ.set i1 (some x)).set i2 (some y)) H') (hd : ∀ σ H, Pv (min xs.length ys.length) σ H → D.nx σ H) :
    ∃ l1 l2 a' b' xs ys, [V.ref a, V.ref b] = [V.ref a', V.ref b'] ∧ SqE K l1 H a' xs ∧ SqE K l2 H b' ys ∧ ForG (ItzE K l1 l2 a' b') (gTup K 2 (gCons (gName i1) (gCons (gName i2) gNil))) tb D σ H := by
  refine ⟨l1, l2, a, b, xs, ys, rfl, hs.1, hs.2, ?_⟩
  refine for_it (walk_zipE (xs := xs) (ys := ys) (l1 := l1) (l2 := l2)) Pv h0 ha (fun i x σ H H' hi p hy => ?_) hd
  obtain ⟨T, u, v, rfl, hT, rfl, hu, hv⟩ := hy
  refine ⟨T, _, rfl, SqT.of upd_same, rfl, _, _, rfl, ?_⟩
  refine ⟨_, _, rfl, rfl, ?_⟩
  exact hb i u v σ H _ hu hv p (Ext.new (o := HO.tup [u, v]) hT)
theorem spl_num (S : List Nat) : ∀ (l : List Nat) (k : Nat) (acc : List Nat), (spl S k acc l).length ≤ l.length + 1
  | [], k, acc => by
    rw [spl_nil]
    simp
  | c :: r, 0, acc => by
    rw [spl]
    split
    · have := spl_num S r (S.length - 1) []
      simp
      omega
    · have := spl_num S r 0 (acc ++ [c])
      simp
      omega
  | c :: r, k + 1, acc => by
    rw [spl]
    have := spl_num S r k acc
    simp
    omega
theorem spl_ne (S : List Nat) : ∀ (l : List Nat) (k : Nat) (acc : List Nat), spl S k acc l ≠ []
  | [], k, acc => by
    rw [spl_nil]
    simp
  | c :: r, 0, acc => by
    rw [spl]
    split
    · simp
    · exact spl_ne S r 0 (acc ++ [c])
  | c :: r, k + 1, acc => by
    rw [spl]
    exact spl_ne S r k acc
theorem ltD_big (l : List Nat) : -1 ≤ ltD l ∧ ltD l < 10 ^ 62 := by
  unfold Q0.ltD
  split
  · rename_i c
    have : NumText.digitsVal l < 10 ^ l.length := Q0.dg_val_lt c.1
    have : 10 ^ l.length ≤ 10 ^ 62 := Nat.pow_le_pow_right (by decide) c.2
    omega
  · decide
theorem ltE_big {f p : Int} (h1 : -1 ≤ f) (h2 : f < 10 ^ 62) : (ltE f p).1.natAbs ≤ 10 ^ 62 ∧ 0 ≤ (ltE f p).2 ∧ (ltE f p).2 < 400 := by
  unfold Q0.ltE
  split
  · rename_i c
    dsimp only
    omega
  · decide
theorem ltT_big (l : List Nat) : (ltT l).1.natAbs ≤ 10 ^ 62 ∧ 0 ≤ (ltT l).2 ∧ (ltT l).2 < 400 := by
  unfold Q0.ltT
  split
  · exact ltE_big (ltD_big l).1 (ltD_big l).2
  · rename_i d q _
    by_cases h : d = []
    · rw [if_pos h]
      exact ltE_big (by decide) (by decide)
    · rw [if_neg h]
      exact ltE_big (ltD_big d).1 (ltD_big d).2
section
variable {P : Program} {w : World} {K : PySem.W.Frag} {mg : Str → Option Value} {base : Heap} {f C CP fP t0 : Addr} {fd : FuncData}
abbrev sTkn : Stmt := top 43
theorem scTkn : FnScope ["_law_text", "_law_words", "_law_sign", "_law_found", "_law_at", "_law_word", "_law_factor", "_law_power"] ["_law_text"] (defScope sTkn) := ⟨rfl, rfl, rfl, by decide +kernel, rfl, by decide +kernel, by decide +kernel⟩
def spTkn (K : PySem.W.Frag) : Sp := fun vs H Q _ => ∃ x : Str, vs = [.str x] ∧ x.length ≤ 100000 ∧ (∀ ns, takenL (tl x) = some ns → (∀ n ∈ ns, n.natAbs < 10 ^ 100) → ns.length ≤ 400 → ∀ H' b, Ext H H' → SqT K H' b (ns.map V.int) → Q (.ref b) H') ∧ (takenL (tl x) = none → ∀ H', Ext H H' → Q .non H')
theorem ok_tkn (F : Fun K "_law_taken" "_law_taken" sTkn f fd) (T : Txt K mg) (T2 : Txt2 mg) (zZ : mg "zip" = none) (Tm : Def1 P w K mg base CX0 2 "_law_term" ["_law_word"] (spLTm K)) (Tr : Def1 P w K mg base CX0 1 "_law_trimmed" ["_law_factors_here"] (spLTrim K)) : FnOk P w K mg base CX0 3 f fd ["_law_text"] (spTkn K) := by
  refine F.ok scTkn (fun vs H Q E h => ?_) (fun cdv A outer s H vs Q E hr h => ?_)
  · obtain ⟨x, rfl, _⟩ := h
    rfl
  · obtain ⟨x, rfl, hl, kyes, kno⟩ := h
    refine ⟨_, pss_cons (ps_set (i := 1) scTkn.nd rfl (Or.inl rfl) (pe_bm PySem.F.plainAttrs_str PySem.F.slot_str_split PySem.F.type_str_split mt_split (pv 0) (pa_cons pe_str pa_nil)))
      (pss_cons (ps_if (pt_cmpR op_eq (pe_slice sl_str (pe_ix ix_list (pv 1) pe_int (fun _ _ => rfl)) po_none (po_some pe_int)) pe_str (nomark _)) (pss_one (ps_set (i := 1) scTkn.nd rfl (Or.inl rfl) (pe_op op_cat (pe_lst (pa_cons pe_str (pa_cons (pe_slice sl_str (pe_ix ix_list (pv 1) pe_int (fun _ _ => rfl)) (po_some pe_int) po_none) pa_nil))) (pe_slice sl_list (pv 1) (po_some pe_int) po_none)))) (pss_one (ps_set (i := 1) scTkn.nd rfl (Or.inl rfl) (pe_op op_cat (pe_lst (pa_cons pe_str pa_nil)) (pv 1)))))
      (pss_cons (ps_if (PW.pt (pw_or (pt_cmpR op_ne (pe_op op_mul (pe_op op_fdiv (pe_callB call_len_seq (by rfl) T.len PySem.boot_len (pa_cons (pv 1) pa_nil)) pe_int) pe_int) (pe_callB call_len_seq (by rfl) T.len PySem.boot_len (pa_cons (pv 1) pa_nil)) (nomark _)) (pw_or1 (pt_not (pt_val (pe_callB (cr_all rfl) (by rfl) T.all (by decide +kernel) (pa_cons (pe_lc (own := [("_law_sign", 2)]) (g := gName 2) (tt := tYes) rfl scTkn.nd (pi_list (pe_ev (pv 1))) (blkOk_by (N := ["_law_text", "_law_words", "_law_sign", "_law_found", "_law_at", "_law_word", "_law_factor", "_law_power"]) (sc := defScope sTkn) (by decide +kernel)) (fun _ _ _ _ _ => pg_name (i := 2) scTkn.nd rfl (Or.inl rfl)) (fun _ _ _ _ _ => pts_nil) (fun _ _ _ _ _ => by exact (pe_cmpR (r := rIn K false) op_in_seq (pv 2) (pe_tupX (pa_cons pe_str (pa_cons pe_str pa_nil))) (by rfl)))) pa_nil))))))) (pss_one (ps_ret pe_non)) pss_nil)
      (pss_cons (ps_setLc (i := 3) (own := [("_law_at", 4)]) (g := gName 4) (tt := tYes) rfl scTkn.nd rfl rfl (sw_true rfl rfl rfl (by decide +kernel)) (pi_range1 (by rfl) T2.range (pa_cons pe_int pa_nil)) (blkOk_by (N := ["_law_text", "_law_words", "_law_sign", "_law_found", "_law_at", "_law_word", "_law_factor", "_law_power"]) (sc := defScope sTkn) (by decide +kernel)) (fun _ _ _ _ _ => pg_name (i := 4) scTkn.nd rfl (Or.inl rfl)) (fun _ _ _ _ _ => pts_nil) (fun _ _ _ _ _ => by exact pe_int))
      (pss_cons (ps_for PassesOwn.never rfl (pi_zipE (by rfl) zZ (pa_cons (pe_ev (pv 1)) (pa_cons (pe_od (pv 1)) pa_nil))) (pg_tup rfl (pgs_cons (pg_name (i := 2) scTkn.nd rfl (Or.inl rfl)) (pgs_cons (pg_name (i := 5) scTkn.nd rfl (Or.inl rfl)) pgs_nil))) (pss_cons (ps_asg (pe_def Tm hr (by decide) (by rfl) (pa_cons (pv 5) pa_nil)) (pg_tup rfl (pgs_cons (pg_name (i := 6) scTkn.nd rfl (Or.inl rfl)) (pgs_cons (pg_name (i := 7) scTkn.nd rfl (Or.inl rfl)) pgs_nil))))
      (pss_cons (ps_if (pt_cmpR op_lt (pv 6) pe_int (nomark _)) (pss_one (ps_ret pe_non)) pss_nil)
      (pss_one (ps_asg (pe_op op_add (pe_ix ix_list (pv 3) (pv 7) (fun _ _ => rfl)) (pe_ifExp (pt_cmpR op_eq (pv 2) pe_str (nomark _)) (pv 6) (pe_op op_sub pe_int (pv 6)))) (pg_sub (pv 3) (pv 7) set_list))))))
      (pss_one (ps_ret (pe_def Tr hr (by decide) (by rfl) (pa_cons (pv 3) pa_nil)))))))), ?_⟩
    try dsimp only [Q0.cx_nox, Q0.cx_K]
    have sz : (10000000 : Nat) < sizeLine := by decide
    have c32 : tl (" " : Str) = [32] := by decide +kernel
    have l32 : (" " : Str).length = 1 := by decide +kernel
    have c45 : tl ("-" : Str) = [45] := by decide +kernel
    have c43 : tl ("+" : Str) = [43] := by decide +kernel
    have l45 : ("-" : Str).length = 1 := by decide +kernel
    have l43 : ("+" : Str).length = 1 := by decide +kernel
    walk_at "rd"
    refine ⟨rfl, ?_⟩
    walk_at "rd"
    refine ⟨x, _, rfl, rfl, by rw [l32]; rfl, by omega, fun L hL => ?_⟩
    have hw : (Txt.split x (" " : Str)).map tl = spl [32] 0 [] (tl x) := by
      rw [split_spl _ _ (by rw [c32]; simp) (kind_ok (by decide +kernel)), c32]
    have nw : ∀ v ∈ Txt.split x (" " : Str), v.length ≤ 100000 := fun v hv => by
      have := spl_len [32] (tl x) 0 [] (tl v) (by rw [← hw]; exact List.mem_map.mpr ⟨v, hv, rfl⟩)
      rw [show ([] : List Nat).length = 0 from rfl, ← len_tl x, ← len_tl v] at this
      omega
    have nl : (Txt.split x (" " : Str)).length ≤ 100001 := by
      have := spl_num [32] (tl x) 0 []
      rw [← hw, List.length_map] at this
      rw [len_tl x] at hl
      omega
    generalize Txt.split x (" " : Str) = ws at hw hL nw nl ⊢
    have eL := Ext.new (o := HO.lst (ws.map V.str)) hL
    have hL2 : upd H L (.lst (ws.map V.str)) L = some (.lst (ws.map V.str)) := upd_same
    generalize upd H L (.lst (ws.map V.str)) = H1 at eL hL2 ⊢
    refine g_name ?_
    dsimp only
    refine g_cut (fun σ' H' => ∃ (L : Addr) (ws : List Str), Ext H H' ∧ SqL K H' L (ws.map V.str) ∧ ws.map tl = wordsQ (tl x) ∧ (∀ v ∈ ws, v.length ≤ 100000) ∧ ws.length ≤ 100002 ∧ σ' = [some (.str x), some (.ref L), none, none, none, none, none, none]) (fun σ' H' hN => ?_) (fun go => ?_)
    rotate_left
    · refine g_gen fun D1 hn1 _ => ?_
      have fin : ∀ (L' : Addr) (ws' : List Str) (H' : Hp), Ext H H' → SqL K H' L' (ws'.map V.str) → ws'.map tl = wordsQ (tl x) → (∀ v ∈ ws', v.length ≤ 100000) → ws'.length ≤ 100002 → D1.nx [some (.str x), some (.ref L'), none, none, none, none, none, none] H' := fun L' ws' H' h1 h2 h3 h4 h5 => hn1 _ _ (go _ _ ⟨L', ws', h1, h2, h3, h4, h5, rfl⟩)
      cases ws with
      | nil => exact absurd hw.symm (spl_ne _ _ _ _)
      | cons w r =>
        have hwl := nw w List.mem_cons_self
        walk_at "rd"
        refine g_ixL (SqL.of hL2) (v := .str w) (show atI _ ((0 : Nat) : Int) = _ from atI_nat rfl) ?_
        walk_at "rd"
        refine ⟨w, rfl, by omega, ?_⟩
        walk_at "rd"
        refine ⟨rfl, _, rfl, ?_⟩
        have ct : tl (cutS w none (some 1)) = (tl w).take 1 := cut_tk w 1
        have cd : tl (cutS w (some 1) none) = (tl w).drop 1 := cut_dr w 1
        by_cases h : (tl w).take 1 = [45]
        · have he : cutS w none (some 1) = ("-" : Str) := str_tl (by rw [ct, h, c45])
          rw [if_pos (by rw [he]; simp)]
          walk_at "rd"
          refine g_ixL (SqL.of hL2) (v := .str w) (show atI _ ((0 : Nat) : Int) = _ from atI_nat rfl) ?_
          walk_at "rd"
          refine ⟨w, rfl, by omega, ?_⟩
          walk_at "rd"
          refine ⟨by show 2 ≤ sizeLine; decide, fun p hp => ?_⟩
          have ep := Ext.new (o := HO.lst [V.str (Str.ofString "-"), V.str (cutS w (some 1) none)]) hp
          have hp2 : upd H1 p (.lst [V.str (Str.ofString "-"), V.str (cutS w (some 1) none)]) p = some (.lst [V.str (Str.ofString "-"), V.str (cutS w (some 1) none)]) := upd_same
          have hL3 := ep _ _ hL2
          generalize upd H1 p (.lst [V.str (Str.ofString "-"), V.str (cutS w (some 1) none)]) = H2 at ep hp2 hL3 ⊢
          walk_at "rd"
          refine ⟨L, _, rfl, SqL.of hL3, fun q hq => ?_⟩
          have ec : cutV ((w :: r).map V.str) (some 1) none = r.map V.str := by
            unfold cutV
            have s1 : HT.sIx ((w :: r).map V.str).length 0 (some ((1 : Nat) : Int)) = 1 := by
              rw [HT.sIx_nat]
              simp
            rw [show (some (1 : Int)) = some ((1 : Nat) : Int) from rfl, s1]
            show (r.map V.str).take _ = _
            exact List.take_of_length_le (by simp [HT.sIx])
          rw [ec]
          have eq := Ext.new (o := HO.lst (r.map V.str)) hq
          have hp3 := eq _ _ hp2
          have hq3 : upd H2 q (.lst (r.map V.str)) q = some (.lst (r.map V.str)) := upd_same
          generalize upd H2 q (.lst (r.map V.str)) = H3 at eq hp3 hq3 ⊢
          simp at nl
          refine ⟨p, q, _, _, rfl, rfl, hp3, hq3, by simp; omega, fun t ht => ?_⟩
          have hcl := cutS_length w (some 1) none
          refine fin t (("-" : Str) :: cutS w (some 1) none :: r) _ (Ext.trans eL (Ext.trans ep (Ext.trans eq (Ext.new ht)))) (SqL.of upd_same) ?_ ?_ ?_
          · show tl ("-" : Str) :: tl (cutS w (some 1) none) :: r.map tl = _
            unfold Q0.wordsQ
            rw [← hw, c45, cd]
            show _ = signed (tl w :: r.map tl)
            rw [Q0.signed, if_pos h]
          · intro v hv
            rcases List.mem_cons.mp hv with rfl | hv
            · omega
            · rcases List.mem_cons.mp hv with rfl | hv
              · omega
              · exact nw v (List.mem_cons_of_mem _ hv)
          · simp
            omega
        · rw [if_neg (by
            intro z
            have := V.str.inj (of_decide_eq_true z)
            rw [this, c45] at ct
            exact h ct.symm)]
          walk_at "rd"
          refine ⟨by show 1 ≤ sizeLine; decide, fun p hp => ?_⟩
          have ep := Ext.new (o := HO.lst [V.str (Str.ofString "+")]) hp
          have hp2 : upd H1 p (.lst [V.str (Str.ofString "+")]) p = some (.lst [V.str (Str.ofString "+")]) := upd_same
          have hL3 := ep _ _ hL2
          generalize upd H1 p (.lst [V.str (Str.ofString "+")]) = H2 at ep hp2 hL3 ⊢
          walk_at "rd"
          simp at nl
          refine ⟨p, L, _, _, rfl, rfl, hp2, hL3, by simp; omega, fun t ht => ?_⟩
          refine fin t (("+" : Str) :: w :: r) _ (Ext.trans eL (Ext.trans ep (Ext.new ht))) (SqL.of upd_same) ?_ ?_ ?_
          · show tl ("+" : Str) :: tl w :: r.map tl = _
            unfold Q0.wordsQ
            rw [← hw, c43]
            show _ = signed (tl w :: r.map tl)
            rw [Q0.signed, if_neg h]
          · intro v hv
            rcases List.mem_cons.mp hv with rfl | hv
            · omega
            · exact nw v hv
          · simp
            omega
    · obtain ⟨L, ws, e1, hL, hw, hv, hn, rfl⟩ := hN
      have hwl : (wordsQ (tl x)).length = ws.length := by rw [← hw, List.length_map]
      refine g_cut (fun σ' H' => Ext H H' ∧ SqL K H' L (ws.map V.str) ∧ okS (wordsQ (tl x)) = true ∧ σ' = [some (.str x), some (.ref L), none, none, none, none, none, none]) (fun σ' H' hN => ?_) (fun go => ?_)
      rotate_left
      · refine g_gen fun D1 hn1 hr1 => ?_
        walk_at "rd"
        refine ⟨L, _, rfl, .inl hL, ?_⟩
        rw [List.length_map]
        walk_at "rd"
        refine ⟨_, _, rfl, rfl, ⟨by decide, by decide⟩, ?_⟩
        walk_at "rd"
        refine ⟨_, _, rfl, rfl, .inr ⟨by decide, by decide⟩, ?_⟩
        walk_at "rd"
        refine ⟨L, _, rfl, .inl hL, ?_⟩
        rw [List.length_map]
        have no : okS (wordsQ (tl x)) = false → ∀ H2, Ext H' H2 → D1.rt .non H2 := fun hf H2 e => hr1 _ _ (kno (by
          unfold Q0.takenL
          rw [if_neg (by rw [hf]; decide)]) H2 (Ext.trans e1 e))
        refine ⟨rfl, _, rfl, ?_⟩
        have hdv : (decide (V.int ((ws.length : Int) / 2 * 2) = V.int (ws.length : Int))) = decide (ws.length / 2 * 2 = ws.length) := by
          rw [Bool.eq_iff_iff, decide_eq_true_iff, decide_eq_true_iff]
          constructor
          · intro z
            have := V.int.inj z
            omega
          · intro z
            congr 1
            omega
        rw [hdv]
        by_cases hev : ws.length / 2 * 2 = ws.length
        · rw [decide_eq_true hev]
          refine iteF ?_
          walk_at "rd"
          refine g_lc ?_
          refine g_ilist ?_
          unfold tStep
          walk_at "rd"
          refine ⟨L, rfl, ?_⟩
          walk_at "rd"
          refine ⟨rfl, _, hL, fun p hp => ?_⟩
          have ep := Ext.new (o := HO.lst (ev2 (ws.map V.str))) hp
          refine lcL (SqL.of upd_same) (by rw [ev2_len, List.length_map]; omega) (fun _ => true) (fun v => V.bl (inV v [V.str (Str.ofString "+"), V.str (Str.ofString "-")])) (fun v H2 hv e Qe Qn he hn => ?_) fun H2 D e2 hD0 hD => ?_
          · rw [ev2_map] at hv
            obtain ⟨u, _, rfl⟩ := List.mem_map.mp hv
            refine ⟨rfl, ?_⟩
            walk_at "rd"
            unfold tTupX
            walk_at "rd"
            refine ⟨by show 2 ≤ sizeLine; decide, fun q o hq ho => ?_⟩
            refine ⟨q, _, rfl, .inr (.inl (.inr ⟨o, upd_same⟩)), rfl, rfl, ?_⟩
            exact he _ (Ext.new hq) rfl
          · walk_at "rd"
            have hin : ∀ u : Str, inV (V.str u) [V.str (Str.ofString "+"), V.str (Str.ofString "-")] = decide (tl u = [43] ∨ tl u = [45]) := fun u => by
              show ((("+" : Str) == u) || ((("-" : Str) == u) || false)) = _
              have h1 : (("+" : Str) == u) = decide (tl u = [43]) := by
                rw [Bool.eq_iff_iff, beq_iff_eq, decide_eq_true_iff]
                constructor
                · intro z
                  rw [← z, c43]
                · intro z
                  exact str_tl (by rw [c43, z])
              have h2 : (("-" : Str) == u) = decide (tl u = [45]) := by
                rw [Bool.eq_iff_iff, beq_iff_eq, decide_eq_true_iff]
                constructor
                · intro z
                  rw [← z, c45]
                · intro z
                  exact str_tl (by rw [c45, z])
              rw [h1, h2, Bool.or_false, Bool.decide_or]
            have hDl : H2 D = some (.lst (((ev2 ws).map fun u => decide (tl u = [43] ∨ tl u = [45])).map V.bl)) := by
              rw [hD, List.filter_eq_self.mpr (fun _ _ => rfl), ev2_map, List.map_map, List.map_map]
              congr 2
              refine List.map_congr_left fun u _ => ?_
              show V.bl (inV (V.str u) _) = _
              rw [hin]
              rfl
            refine ⟨D, _, rfl, SqL.of hDl, ?_⟩
            have hall : ((ev2 ws).map fun u => decide (tl u = [43] ∨ tl u = [45])).all id = okS (wordsQ (tl x)) := by
              unfold Q0.okS
              rw [hwl, decide_eq_true hev, Bool.true_and, ← hw, ev2_map, List.all_map, List.all_map]
              rfl
            rw [hall]
            have eE := Ext.trans ep e2
            cases hok : okS (wordsQ (tl x)) with
            | true =>
              walk_at "rd"
              exact hn1 _ _ (go _ _ ⟨Ext.trans e1 eE, sqL_ext eE hL, hok, rfl⟩)
            | false =>
              walk_at "rd"
              exact no hok _ eE
        · rw [decide_eq_false hev]
          refine iteT ?_
          walk_at "rd"
          exact no (by
            unfold Q0.okS
            rw [hwl, decide_eq_false hev]
            rfl) H' fun _ _ z => z
      · obtain ⟨e2, hL2, hok, rfl⟩ := hN
        walk_at "rd"
        refine g_lc ?_
        refine g_rng1 ?_
        walk_at "rd"
        refine ⟨by decide, by decide, ?_⟩
        refine lcR (by show 400 < sizeLine; decide) (fun _ => true) (fun _ => V.int 0) (fun i H2 hi e Qe Qn he hn => ?_) fun H2 D e3 hD0 hD => ?_
        · refine ⟨rfl, ?_⟩
          walk_at "rd"
          exact he _ (fun _ _ z => z) rfl
        have hD : H2 D = some (.lst ((List.replicate 400 (0 : Int)).map V.int)) := by
          rw [hD, Q0.idx_all]
          congr 2
        have hDn : H D = none := by
          cases q : H D with
          | none => rfl
          | some o =>
            have := e2 _ _ q
            rw [hD0] at this
            cases this
        have e4 := Ext.trans e2 e3
        have hL4 := sqL_ext e3 hL2
        walk_at "rd"
        refine g_forZ ?_
        unfold tStep
        walk_at "rd"
        refine ⟨L, rfl, ?_⟩
        walk_at "rd"
        refine ⟨rfl, _, hL4, fun p hp => ?_⟩
        have ep := Ext.new (o := HO.lst (ev2 (ws.map V.str))) hp
        have hp2 : upd H2 p (.lst (ev2 (ws.map V.str))) p = some (.lst (ev2 (ws.map V.str))) := upd_same
        have hDp : D ≠ p := fun z => by
          rw [z, hp] at hD
          cases hD
        have hD5 := ep _ _ hD
        generalize upd H2 p (.lst (ev2 (ws.map V.str))) = H3 at ep hp2 hD5 ⊢
        walk_at "rd"
        refine ⟨L, rfl, ?_⟩
        walk_at "rd"
        refine ⟨rfl, _, sqL_ext ep hL4, fun q hq => ?_⟩
        have eq := Ext.new (o := HO.lst (od2 (ws.map V.str))) hq
        have hq2 : upd H3 q (.lst (od2 (ws.map V.str))) q = some (.lst (od2 (ws.map V.str))) := upd_same
        have hp3 := eq _ _ hp2
        have hDq : D ≠ q := fun z => by
          rw [z, hq] at hD5
          cases hD5
        have hD6 := eq _ _ hD5
        have e6 : Ext H (upd H3 q (.lst (od2 (ws.map V.str)))) := Ext.trans e4 (Ext.trans ep eq)
        generalize upd H3 q (.lst (od2 (ws.map V.str))) = H4 at eq hq2 hp3 hD6 e6 ⊢
        generalize hz : (ev2 (wordsQ (tl x))).zip (od2 (wordsQ (tl x))) = zs
        have hTk : takenL (tl x) = (ltR zs (List.replicate 400 0)).map trm := by
          unfold Q0.takenL
          rw [if_pos hok, hz]
        have hle : (ev2 (ws.map V.str)).length = (ev2 ws).length := by rw [ev2_map, List.length_map]
        have hlo : (od2 (ws.map V.str)).length = (od2 ws).length := by rw [od2_map, List.length_map]
        have hzl : zs.length = min (ev2 ws).length (od2 ws).length := by
          rw [← hz, List.length_zip, ← hw, ev2_map, od2_map, List.length_map, List.length_map]
        have hzb : zs.length ≤ 100002 := by
          rw [hzl, ev2_len]
          omega
        walk_at "rd"
        refine forZ (l1 := true) (l2 := true) (xs := ev2 (ws.map V.str)) (ys := od2 (ws.map V.str)) (fun i σ' H' => ∃ (y2 y4 y5 y6 y7 : Option V) (R : List Int), σ' = [some (.str x), some (.ref L), y2, some (.ref D), y4, y5, y6, y7] ∧ Ext H H' ∧ H' D = some (.lst (R.map V.int)) ∧ H' p = some (.lst (ev2 (ws.map V.str))) ∧ H' q = some (.lst (od2 (ws.map V.str))) ∧ R.length = 400 ∧ (∀ n ∈ R, n.natAbs ≤ i * 10 ^ 62) ∧ ltR (zs.drop i) R = ltR zs (List.replicate 400 0)) (fun i σ' H' _ ⟨_, _, _, _, _, _, _, _, _, e1, e2, _⟩ => ⟨SqL.of e1, SqL.of e2⟩) ⟨_, _, _, _, _, List.replicate 400 0, rfl, e6, hD6, hp3, hq2, by simp, fun n hn => by rw [List.eq_of_mem_replicate hn]; simp, rfl⟩ ⟨SqL.of hp3, SqL.of hq2⟩ ?_ ?_
        · rintro i vx vy σ' H5 H6 hx hy ⟨y2, y4, y5, y6, y7, R, rfl, e7, hD7, hp7, hq7, hRl, hRb, hlt⟩ e8
          rw [ev2_map, List.getElem?_map] at hx
          rw [od2_map, List.getElem?_map] at hy
          obtain ⟨u, hu, rfl⟩ := Option.map_eq_some_iff.mp hx
          obtain ⟨v, hv2, rfl⟩ := Option.map_eq_some_iff.mp hy
          have hiz : zs[i]? = some (tl u, tl v) := by
            rw [← hz, List.getElem?_zip_eq_some, ← hw, ev2_map, od2_map, List.getElem?_map, List.getElem?_map, hu, hv2]
            exact ⟨rfl, rfl⟩
          have hil := (List.getElem?_eq_some_iff.mp hiz).1
          have hdr : zs.drop i = (tl u, tl v) :: zs.drop (i + 1) := by
            rw [List.drop_eq_getElem_cons hil]
            congr 1
            exact (List.getElem?_eq_some_iff.mp hiz).2
          rw [hdr, Q0.ltR] at hlt
          have hvl : v.length ≤ 100000 := hv v (od2_mem ws v (List.mem_of_getElem? hv2))
          walk_at "rd"
          refine ⟨v, rfl, by omega, fun H7 b e9 hb => ?_⟩
          have e10 := Ext.trans (Ext.trans e7 e8) e9
          have hD8 := e9 _ _ (e8 _ _ hD7)
          have hp8 := e9 _ _ (e8 _ _ hp7)
          have hq8 := e9 _ _ (e8 _ _ hq7)
          obtain ⟨hb1, hb2, hb3⟩ := ltT_big (tl v)
          refine ⟨b, _, rfl, hb, rfl, _, _, rfl, ?_⟩
          walk_at "rd"
          refine ⟨_, _, rfl, ?_⟩
          walk_at "rd"
          refine ⟨rfl, ?_⟩
          generalize ltT (tl v) = fp at hlt hb1 hb2 hb3 ⊢
          obtain ⟨fv, pv⟩ := fp
          dsimp only at hlt hb1 hb2 hb3 ⊢
          walk_at "rd"
          refine ite2 (fun h => ?_) (fun h => ?_)
          · have h := of_decide_eq_true h
            rw [if_pos h] at hlt
            walk_at "rd"
            exact kno (by rw [hTk, ← hlt]; rfl) _ e10
          · have h : ¬ fv < 0 := fun z => h (decide_eq_true z)
            rw [if_neg h] at hlt
            obtain ⟨j, rfl⟩ : ∃ j : Nat, pv = (j : Int) := ⟨pv.toNat, by omega⟩
            rw [Int.toNat_natCast] at hlt
            have hj : j < 400 := by omega
            walk_at "rd"
            refine g_ixL (SqL.of hD8) (v := .int (R.getD j 0)) (atI_nat (getI3 (by omega))) ?_
            walk_at "rd"
            refine ⟨rfl, _, rfl, ?_⟩
            have su : decide (V.str u = V.str (Str.ofString "+")) = decide (tl u = [43]) := by
              rw [Bool.eq_iff_iff, decide_eq_true_iff, decide_eq_true_iff]
              constructor
              · intro z
                rw [V.str.inj z]
                exact c43
              · intro z
                congr 1
                exact str_tl (by rw [z]; exact c43.symm)
            rw [su]
            have fin : ∀ d : Int, d = (if tl u = [43] then fv else 0 - fv) → ∃ (z2 z4 z5 z6 z7 : Option V) (R' : List Int), ([some (.str x), some (.ref L), some (.str u), some (.ref D), y4, some (.str v), some (.int fv), some (.int (j : Int))] : L2.St) = [some (.str x), some (.ref L), z2, some (.ref D), z4, z5, z6, z7] ∧ Ext H (upd H7 D (.lst ((R.map V.int).set j (.int (R.getD j 0 + d))))) ∧ upd H7 D (.lst ((R.map V.int).set j (.int (R.getD j 0 + d)))) D = some (.lst (R'.map V.int)) ∧ upd H7 D (.lst ((R.map V.int).set j (.int (R.getD j 0 + d)))) p = some (.lst (ev2 (ws.map V.str))) ∧ upd H7 D (.lst ((R.map V.int).set j (.int (R.getD j 0 + d)))) q = some (.lst (od2 (ws.map V.str))) ∧ R'.length = 400 ∧ (∀ n ∈ R', n.natAbs ≤ (i + 1) * 10 ^ 62) ∧ ltR (zs.drop (i + 1)) R' = ltR zs (List.replicate 400 0) := by
              intro d hd
              refine ⟨_, _, _, _, _, R.set j (R.getD j 0 + d), rfl, fun o ob g => ?_, ?_, ?_, ?_, by rw [List.length_set]; exact hRl, fun n hn => ?_, ?_⟩
              · rw [upd_ne (ne_of_none g hDn)]
                exact e10 _ _ g
              · rw [upd_same, List.map_set]
              · rw [upd_ne (Ne.symm hDp)]
                exact hp8
              · rw [upd_ne (Ne.symm hDq)]
                exact hq8
              · rcases List.mem_or_eq_of_mem_set hn with h1 | h1
                · exact Nat.le_trans (hRb n h1) (Nat.mul_le_mul_right _ (Nat.le_succ i))
                · have h2 := hRb _ (Q0.getD_memI (show j < R.length by omega))
                  have h3 : d.natAbs ≤ 10 ^ 62 := by
                    rw [hd]
                    split
                    · exact hb1
                    · rw [Int.zero_sub, Int.natAbs_neg]
                      exact hb1
                  rw [h1, Nat.succ_mul]
                  exact Nat.le_trans (Int.natAbs_add_le _ _) (Nat.add_le_add h2 h3)
              · rw [hd]
                exact hlt
            by_cases hs : tl u = [43]
            · rw [decide_eq_true hs]
              refine iteT ?_
              walk_at "rd"
              refine ⟨D, _, _, j, rfl, rfl, hD8, ixN_nat (by rw [List.length_map]; omega), ?_⟩
              exact fin fv (by rw [if_pos hs])
            · rw [decide_eq_false hs]
              refine iteF ?_
              walk_at "rd"
              refine ⟨D, _, _, j, rfl, rfl, hD8, ixN_nat (by rw [List.length_map]; omega), ?_⟩
              exact fin (0 - fv) (by rw [if_neg hs])
        · rintro σ' H5 ⟨y2, y4, y5, y6, y7, R, rfl, e7, hD7, _, _, hRl, hRb, hlt⟩
          rw [hle, hlo, ← hzl, List.drop_length] at hlt
          have hTs : takenL (tl x) = some (trm R) := by
            rw [hTk, ← hlt]
            rfl
          walk_at "rd"
          refine ⟨D, R, rfl, .inl (SqL.of hD7), by omega, fun H6 u e8 hu => ?_⟩
          rw [trim_trm] at hu
          have tl1 := Q0.trm_len R
          refine kyes _ hTs (fun n hn => ?_) (by omega) H6 u (Ext.trans e7 e8) hu
          have h1 := hRb n (Q0.trm_mem R n hn)
          have h2 : min (ev2 (ws.map V.str)).length (od2 (ws.map V.str)).length * 10 ^ 62 ≤ 100002 * 10 ^ 62 := Nat.mul_le_mul_right _ (by omega)
          exact Nat.lt_of_le_of_lt (Nat.le_trans h1 h2) (by decide)
end
end

/-! What is read, as the law asks it. -/

section
open PySem PySem.Spec PyProof.Rows L2 Gd TL StrLaws CwR
open Q0 (g_gen rowL VR takenL)
/-- what a reading of the text l is due to give -/
def DueR (l : List Nat) (ds : List PyData) : Prop := (∃ ns, VR ns ∧ l = rowL ns ∧ ds = idata ns) ∨ ((¬ ∃ ns, VR ns ∧ l = rowL ns) ∧ ds = [.str "no", .int 0])
theorem due_ex (l : List Nat) : ∃ ds, DueR l ds := by
  by_cases h : ∃ ns, VR ns ∧ l = rowL ns
  · obtain ⟨ns, h1, h2⟩ := h
    exact ⟨_, .inl ⟨ns, h1, h2, rfl⟩⟩
  · exact ⟨_, .inr ⟨h, rfl⟩⟩
theorem due_one {l : List Nat} {ds es : List PyData} (h1 : DueR l ds) (h2 : DueR l es) : ds = es := by
  rcases h1 with ⟨ns, v1, e1, rfl⟩ | ⟨n1, rfl⟩
  · rcases h2 with ⟨ms, v2, e2, rfl⟩ | ⟨n2, rfl⟩
    · rw [Q0.rowL_inj v1 v2 (by rw [← e1, e2])]
    · exact absurd ⟨ns, v1, e1⟩ n2
  · rcases h2 with ⟨ms, v2, e2, rfl⟩ | ⟨n2, rfl⟩
    · exact absurd ⟨ms, v2, e2⟩ n1
    · rfl
section
variable {P : Program} {w : World} {K : PySem.W.Frag} {mg : Str → Option Value} {base : Heap} {f C CP fP t0 : Addr} {fd : FuncData}
theorem ps_guard {X : Cx} {G : Prop} {st : Stmt} {t : TS} (h : G → PS X st t) : PS X st (fun D σ H => G ∧ t D σ H) := ⟨fun pins s σ H D I hw => (h hw.1).run pins s σ H D I hw.2⟩
theorem passLen {X : Cx} {W : WX} {E : XK} {n : Nat} (hn : X.N.length = n) (tk : Takes X W) (G : ∀ cls d σ H, σ.length = n → E cls d H → W cls d σ H) (σ : L2.St) : PassesAt (L2.CX X.prog X.w) X σ E :=
  fun _ _ _ e s' I c => tk e s' (XE.of_call I (fun cls d H' h => G cls d σ H' (I.len.trans hn) h) c)
theorem passLen' {X : Cx} {W : WX} {E : XK} {n : Nat} (hn : X.N.length = n) (tk : Takes X W) (G : ∀ cls d σ H, σ.length = n → E cls d H → W cls d σ H) : Passes (L2.CX X.prog X.w) X E :=
  fun pins σ H s e s' I c => passLen hn tk G σ pins H s e s' I c
theorem of_len2V {α : Type} {l : List α} (h : l.length = 2) : ∃ a b, l = [a, b] := by
  match l, h with
  | [a, b], _ => exact ⟨a, b, rfl⟩
/-- where Poly.read stands -/
structure RdP (P : Program) (w : World) (K : PySem.W.Frag) (mg : Str → Option Value) (base : Heap) (C CP : Addr) : Prop where
  ex : ∃ (mc : Value) (q g : Addr), ClX.CRead K C mc ∧ ClX.CMet K C mc "read" q g ∧ FnR P w K mg base (L2.CX P w) 6 g (spRead K C CP)
theorem pe_rdP {X : Cx} {E : XK} {o e : Expr} {es : List Expr} {ta : TE} {t : TA} {pos apos : Pos} {pl : Sem Bool} (A : RdP X.prog X.w X.K X.mg X.base C CP) (hx : Passes (L2.CX X.prog X.w) X E) (hr : Room 6 X.A) (he : PE X o ta) (ha : PA X (e :: es) t)
    (hst : starEach (e :: es) X.env = (false, eval e X.env) :: starEach es X.env := by rfl) (hpl : (backTo pos (starEach es X.env)).any (·.1) = false := by rfl)
    (ht : eval (.Call (.Attribute o "read" apos) (e :: es) [] pos) X.env = (do
      let ov ← eval o X.env
      standAt apos.atName
      let (f, first) ← holding [ov] (getMethod ov "read" pl)
      callWith pos f first (backTo pos (starEach (e :: es) X.env)) (backToKw pos (keywordEach [] X.env))) := by rfl) : PE X (.Call (.Attribute o "read" apos) (e :: es) [] pos) (ClX.tCMeth C (spRead X.K C CP) E ta t) := by
  obtain ⟨mc, q, g, r, c, F⟩ := A.ex
  exact ClX.pe_cmeth he r c F hr hx ha hst hpl ht
abbrev sLRd : Stmt := top 40
theorem scLRd : FnScope ["_law_text", "e"] ["_law_text"] (defScope sLRd) := ⟨rfl, rfl, rfl, by decide +kernel, rfl, by decide +kernel, by decide +kernel⟩
def noD : PyData := .tuple [.str "no", .int 0]
def spLRd (K : PySem.W.Frag) : Sp := fun vs H Q _ => ∃ v : V, vs = [v] ∧ ((∃ x : Str, v = .str x ∧ x.length ≤ 100000 ∧ ∀ ds, DueR (tl x) ds → ∀ H' u, Ext H H' → Dp K H' (.ref u) (.tuple ds) → Q (.ref u) H') ∨
  (NoTx K H v ∧ ∀ H' u, Ext H H' → Dp K H' (.ref u) noD → Q (.ref u) H'))
def ERd (CP : Addr) (K : PySem.W.Frag) (H0 : Hp) (v : V) : XK := fun cls d H => cls = .ref CP ∧ ∃ d' H1, d = some d' ∧ Ext H0 H1 ∧ H1 d' = none ∧ (∀ x : Str, v = .str x → ¬ ∃ ns, VR ns ∧ tl x = rowL ns) ∧ H = upd H1 d' (.xd [(("index" : Str), .int 0)])
theorem notx_str {H : Hp} {x : Str} (h : NoTx K H (.str x)) : False := by
  obtain ⟨t, ty, hk⟩ := h
  cases ty with
  | base b =>
    cases b
    have e : PySem.W.kitOne K (.type "str") (.type "str") = some true := by kernel_rfl
    rw [e] at hk
    cases hk
theorem dp_no {H : Hp} {u : Addr} (h : SqT K H u [.str ("no" : Str), .int 0]) : Dp K H (.ref u) noD := .tup h (.cons (.str _) (.cons (.int _) .nil))
theorem ok_lrd (F : Fun K "_law_read" "_law_read" sLRd f fd) (T : Txt K mg) (Cl : PC K mg C) (R : PySem.XParseError.ParseErrorTxt K mg CP fP) (A : RdP P w K mg base C CP) (Pn : Pro1 P w K mg base C "factors" (spGet K C fun u _ => .ref u)) :
    FnOk P w K mg base CX0 7 f fd ["_law_text"] (spLRd K) := by
  refine F.ok scLRd (fun vs H Q E h => ?_) (fun cdv Ar outer s H vs Q E hr h => ?_)
  · obtain ⟨x, rfl, _⟩ := h
    rfl
  · obtain ⟨v, rfl, h⟩ := h
    have kx : ∀ H' u, Ext H H' → (∀ x : Str, v = .str x → ¬ ∃ ns, VR ns ∧ tl x = rowL ns) → Dp K H' (.ref u) noD → Q (.ref u) H' := fun H' u e hx hd => by
      rcases h with ⟨x, rfl, hl, k⟩ | ⟨hn, k⟩
      · exact k _ (.inr ⟨hx x rfl, rfl⟩) H' u e hd
      · exact k H' u e hd
    refine ⟨_, pss_one (ps_try_asAll (i := 1) (tb := fun W => fun D σ H' => (∀ cls d σ H', σ.length = 2 → ERd CP K H v cls d H' → W cls d σ H') ∧ tRet (tProp C (spGet K C fun u _ => .ref u) [] X0 (ClX.tCMeth C (spRead K C CP) (ERd CP K H v) (tC (.ref C)) (tCons (tVar 0) tNil))) D σ H')
          (Wo := fun _ _ _ _ => False) rfl rfl scLRd.nd rfl rfl takes0
          (fun W pn xe tk _ => pss_one (ps_guard fun G => ps_ret (by exact (pe_pro1 Cl.cl Pn hr (by decide) (pe_rdP A (passLen' rfl tk G) hr (pe_glob (v := .ref C) (by rfl) Cl.g rfl) (pa_cons (pv 0) pa_nil))))))
          (AsOk.cons (c := .ref CP) ⟨rfl, by decide, Or.inl R.gC⟩ (fun a oe cls d pn hz hf => pss_one (ps_ret (by exact (pe_tup (pa_cons pe_str (pa_cons (pe_byParseError R hz hf (pv 1)) pa_nil)))))) AsOk.nil)), ?_⟩
    refine ⟨fun cls d σ H' hlen hE => ?_, ?_⟩
    · obtain ⟨s0, s1, rfl⟩ := of_len2V hlen
      obtain ⟨rfl, d', H1, rfl, e1, hd', hb, rfl⟩ := hE
      refine ⟨true, R.te, fun _ a0 _ => ?_, fun z => Bool.noConfusion z⟩
      dsimp only
      walk_at "rd"
      unfold tByParseError
      walk_at "rd"
      refine ⟨rfl, rfl, d', _, rfl, upd_same, ?_⟩
      walk_at "rd"
      refine ⟨by show 2 ≤ sizeLine; decide, fun u hu => ?_⟩
      exact kx _ u (Ext.trans e1 (Ext.trans (Ext.new hd') (Ext.new hu))) hb (dp_no (SqT.of upd_same))
    refine g_prop ?_
    unfold ClX.tCMeth
    walk_at "rd"
    refine ⟨rfl, ?_⟩
    walk_at "rd"
    refine ⟨v, rfl, ?_⟩
    rcases h with ⟨x, rfl, hl, k⟩ | ⟨hn, k⟩
    · refine .inl ⟨x, rfl, hl, fun ns hv e H' p u e1 hp => ?_, fun hno H' d e1 hd => ⟨rfl, d, H', rfl, e1, hd, fun y ey => by cases ey; exact hno, rfl⟩⟩
      obtain ⟨⟨dx, hpi⟩, hu, _⟩ := id hp
      refine ⟨p, dx, _, rfl, hpi, p, u, ns, rfl, hp, ?_⟩
      exact k (idata ns) (.inl ⟨ns, hv, e, rfl⟩) H' u e1 (dp_tup hu)
    · exact .inr ⟨hn, fun H' d e1 hd => ⟨rfl, d, H', rfl, e1, hd, fun y ey => by rw [ey] at hn; exact (notx_str hn).elim, rfl⟩⟩
end
end

/-! What the law holds due. -/

section
open PySem PySem.Spec PyProof.Rows L2 Gd TL StrLaws CwR
open Q0 (g_gen rowL VR takenL g_lc g_itup lcT ltR wordsQ okS ev2 od2 trm)
theorem taken_last {l : List Nat} {ns : List Int} (h : takenL l = some ns) : ns ≠ [] → ns.getD (ns.length - 1) 0 ≠ 0 := by
  unfold Q0.takenL at h
  split at h
  · obtain ⟨R, _, rfl⟩ := Option.map_eq_some_iff.mp h
    exact Q0.trm_last R
  · cases h
theorem due_taken {l : List Nat} {ns : List Int} (h : takenL l = some ns) (hl : ns.length ≤ 400) (hb : ∀ n ∈ ns, n.natAbs < 10 ^ 60) (e : rowL ns = l) : DueR l (idata ns) := .inl ⟨ns, ⟨hl, hb, taken_last h⟩, e.symm, rfl⟩
theorem due_none {l : List Nat} (h : ∀ ms, VR ms → l = rowL ms → takenL l = some ms → False) : DueR l [.str "no", .int 0] := .inr ⟨fun ⟨ms, v, e⟩ => h ms v e (by rw [e]; exact Q0.taken_back v), rfl⟩
def smB : V → V := fun v => V.bl (match v with | .int i => decide (i.natAbs < 10 ^ 60) | _ => false)
theorem smB_int {i : Int} : smB (.int i) = .bl (decide ((if i < 0 then -i else i) < 10 ^ 60)) := by
  show V.bl (decide (i.natAbs < 10 ^ 60)) = _
  congr 1
  rw [Bool.eq_iff_iff, decide_eq_true_iff, decide_eq_true_iff]
  split <;> omega
section
variable {P : Program} {w : World} {K : PySem.W.Frag} {mg : Str → Option Value} {base : Heap} {f C CP fP t0 : Addr} {fd : FuncData}
abbrev sDue : Stmt := top 44
theorem scDue : FnScope ["_law_text", "_law_found", "_law_factor"] ["_law_text"] (defScope sDue) := ⟨rfl, rfl, rfl, by decide +kernel, rfl, by decide +kernel, by decide +kernel⟩
def spDue (K : PySem.W.Frag) : Sp := fun vs H Q _ => ∃ x : Str, vs = [.str x] ∧ x.length ≤ 100000 ∧ ∀ ds, DueR (tl x) ds → ∀ H' u, Ext H H' → Dp K H' (.ref u) (.tuple ds) → Q (.ref u) H'
theorem ok_due (F : Fun K "_law_due" "_law_due" sDue f fd) (T : Txt K mg) (T2 : Txt2 mg) (Tk : Def1 P w K mg base CX0 3 "_law_taken" ["_law_text"] (spTkn K)) (Tx : Def1 P w K mg base CX0 1 "_law_poly_text" ["_law_factors_here"] (spRowTx K)) : FnOk P w K mg base CX0 4 f fd ["_law_text"] (spDue K) := by
  refine F.ok scDue (fun vs H Q E h => ?_) (fun cdv A outer s H vs Q E hr h => ?_)
  · obtain ⟨x, rfl, _⟩ := h
    rfl
  · obtain ⟨x, rfl, hl, k⟩ := h
    refine ⟨_, pss_cons (ps_set (i := 1) scDue.nd rfl (Or.inl rfl) (pe_def Tk hr (by decide) (by rfl) (pa_cons (pv 0) pa_nil)))
      (pss_cons (ps_if (PW.pt (pw_or (pt_cmp (pc_isN (pv 1))) (pw_or (pt_cmpR op_ne (pe_def Tx hr (by decide) (by rfl) (pa_cons (pv 1) pa_nil)) (pv 0) (nomark _)) (pw_or1 (pt_not (pt_val (pe_callB (cr_all rfl) (by rfl) T.all (by decide +kernel) (pa_cons (pe_lc (own := [("_law_factor", 2)]) (g := gName 2) (tt := tYes) rfl scDue.nd (pi_tup (pv 1)) (blkOk_by (N := ["_law_text", "_law_found", "_law_factor"]) (sc := defScope sDue) (by decide +kernel)) (fun _ _ _ _ _ => pg_name (i := 2) scDue.nd rfl (Or.inl rfl)) (fun _ _ _ _ _ => pts_nil) (fun _ _ _ _ _ => by exact (pe_cmpR op_lt (pe_callB call_abs (by rfl) T2.abs (by decide +kernel) (pa_cons (pv 2) pa_nil)) (pe_op op_pow pe_int pe_int) (nomark _)))) pa_nil)))))))) (pss_one (ps_ret (pe_tup (pa_cons pe_str (pa_cons pe_int pa_nil))))) pss_nil)
      (pss_one (ps_ret (pv 1)))), ?_⟩
    try dsimp only [Q0.cx_nox, Q0.cx_K]
    have sz : (10000000 : Nat) < sizeLine := by decide
    have no : ∀ H', Ext H H' → (∀ ms, VR ms → tl x = rowL ms → takenL (tl x) = some ms → False) → ∀ u, H' u = none → Q (.ref u) (upd H' u (.tup [V.str ("no" : Str), V.int 0])) := fun H' e hm u hu =>
      k _ (due_none hm) _ u (Ext.trans e (Ext.new hu)) (dp_no (SqT.of upd_same))
    walk_at "rd"
    refine ⟨x, rfl, hl, fun ns hT hb hn H1 b e1 hs => ?_, fun hN H1 e1 => ?_⟩
    · walk_at "rd"
      rw [if_neg (by simp)]
      walk_at "rd"
      refine ⟨b, ns, rfl, hs, hn, hb, fun H2 y e2 hy hyl => ?_⟩
      walk_at "rd"
      refine ⟨rfl, _, rfl, ?_⟩
      by_cases e : y = x
      · rw [if_neg (by simp [e])]
        walk_at "rd"
        refine g_lc ?_
        refine g_itup ?_
        walk_at "rd"
        have hs2 := sqT_ext e2 hs
        have e12 := Ext.trans e1 e2
        refine lcT hs2 (by rw [List.length_map]; omega) (fun _ => true) smB (fun v H3 hv e3 Qe Qn he hn' => ?_) fun H3 D e3 hD0 hD => ?_
        · obtain ⟨n, _, rfl⟩ := List.mem_map.mp hv
          refine ⟨rfl, ?_⟩
          walk_at "rd"
          have := he H3 (fun _ _ z => z) rfl
          rw [smB_int] at this
          refine ⟨10, 60, rfl, rfl, by unfold CPow; decide, ?_⟩
          walk_at "rd"
          exact this
        · have hD2 : H3 D = some (.lst ((ns.map fun n => decide (n.natAbs < 10 ^ 60)).map V.bl)) := by
            rw [hD, List.filter_eq_self.mpr (fun _ _ => rfl), List.map_map, List.map_map]
            congr 2
          walk_at "rd"
          refine ⟨D, _, rfl, SqL.of hD2, ?_⟩
          have hall : ((ns.map fun n => decide (n.natAbs < 10 ^ 60)).all id = true) ↔ ∀ n ∈ ns, n.natAbs < 10 ^ 60 := by
            rw [List.all_map, List.all_eq_true]
            constructor
            · intro h n hn
              exact of_decide_eq_true (h n hn)
            · intro h n hn
              exact decide_eq_true (h n hn)
          cases ha : (ns.map fun n => decide (n.natAbs < 10 ^ 60)).all id with
          | true =>
            walk_at "rd"
            refine k _ (due_taken hT hn (hall.mp ha) (by rw [← hy, e])) H3 b (Ext.trans e12 e3) (dp_tup (sqT_ext e3 hs2))
          | false =>
            walk_at "rd"
            refine ⟨by show 2 ≤ sizeLine; decide, fun u hu => ?_⟩
            refine no H3 (Ext.trans e12 e3) (fun ms hv em ht => ?_) u hu
            rw [hT] at ht
            cases ht
            rw [hall.mpr hv.big] at ha
            cases ha
      · rw [if_pos (by simpa using e)]
        walk_at "rd"
        refine ⟨by show 2 ≤ sizeLine; decide, fun u hu => ?_⟩
        refine no H2 (Ext.trans e1 e2) (fun ms hv em ht => ?_) u hu
        rw [hT] at ht
        cases ht
        exact e (str_tl (by rw [hy, em]))
    · walk_at "rd"
      refine ⟨by show 2 ≤ sizeLine; decide, fun u hu => ?_⟩
      exact no H1 e1 (fun ms _ _ ht => by rw [hN] at ht; cases ht) u hu
end
end

/-! A text near another one; list of a text. -/

section
open PySem PySem.Spec PyProof.Rows L2 Gd TL StrLaws CwR
open Q0 (g_gen)
section
variable {X : Cx}
/-- list(x) of a text -/
def rLsS : List V → Hp → VK → Prop := fun xs H Q => ∃ x : Str, xs = [.str x] ∧ x.length ≤ sizeLine ∧ ∀ q, H q = none → Q (.ref q) (upd H q (.lst ((tl x).map fun c => V.str ⟨#[c]⟩)))
theorem call_listSg (hc : X.calm = true) : CallR X (.type "list") rLsS := by
  intro pins s σ H xs us Q I rs h
  obtain ⟨x, rfl, hz, q⟩ := h
  cases rs with
  | cons r1 rs =>
    cases rs
    obtain ⟨t, rfl⟩ := r1
    refine PySem.call_list_str (hn := hz) (I.ok.hd hc) x t fun h' tk acc c' hk e hi => ?_
    have hlen : (tl x).length = x.cps.size := (len_tl x).symm
    refine ⟨.ref s.heap.objs.size, upd H s.heap.objs.size (.lst ((tl x).map fun c => V.str ⟨#[c]⟩)), I.laid hk (Nat.le_refl _) ⟨by rw [List.length_map, hlen]; exact hz, acc.toList, c', ?_, by rw [Array.toArray_toList]; exact e⟩, rfl, q _ (I.hok.fresh (Nat.le_refl _))⟩
    refine vals_of_idx _ _ (by rw [List.length_map, Array.length_toList, hlen]; exact hi.1) fun j u hj => ?_
    obtain ⟨c, t', hc, rfl⟩ := hi.2 j u (by rw [← Array.getElem?_toList]; exact hj)
    refine ⟨.str ⟨#[c]⟩, ?_, ⟨_, rfl⟩⟩
    have : (tl x)[j]? = some c := by
      show x.cps.toList[j]? = _
      rw [Array.getElem?_toList]
      exact hc
    rw [List.getElem?_map, this]
    rfl
end
section
variable {P : Program} {w : World} {K : PySem.W.Frag} {mg : Str → Option Value} {base : Heap} {f : Addr} {fd : FuncData}
abbrev sNear : Stmt := top 45
theorem scNear : FnScope ["_law_dice_here", "_law_text", "_law_at", "_law_way", "_law_sign"] ["_law_dice_here", "_law_text"] (defScope sNear) := ⟨rfl, rfl, rfl, by decide +kernel, rfl, by decide +kernel, by decide +kernel⟩
def spNear : Sp := fun vs H Q _ => ∃ (d : Addr) (x : Str), vs = [.ref d, .str x] ∧ DiceAt H d ∧ x.length ≤ 90000 ∧ ∀ H' y, ExtBut d H H' → DiceAt H' d → y.length ≤ x.length + 3 → Q (.str y) H'
theorem ok_near (F : Fun K "_law_near" "_law_near" sNear f fd) (T : Txt K mg) (Ro : Def1 P w K mg base CX0 1 "_law_roll" ["_law_dice_here", "_law_total"] spRoll) (Pi : Def1 P w K mg base CX0 2 "_law_pick" ["_law_dice_here", "_law_items"] (spPick K)) : FnOk P w K mg base CX0 3 f fd ["_law_dice_here", "_law_text"] spNear := by
  refine F.ok scNear (fun vs H Q E h => ?_) (fun cdv A outer s H vs Q E hr h => ?_)
  · obtain ⟨d, x, rfl, _⟩ := h
    rfl
  · obtain ⟨d, x, rfl, hd, hl, k⟩ := h
    refine ⟨_, pss_cons (ps_par (i := 2) (j := 3) (by rfl) scNear.nd rfl rfl (by decide) rfl rfl (pa_cons (pe_def Ro hr (by decide) (by rfl) (pa_cons (pv 0) (pa_cons (pe_op op_add (pe_callB call_len_str (by rfl) T.len PySem.boot_len (pa_cons (pv 1) pa_nil)) pe_int) pa_nil))) (pa_cons (pe_def Ro hr (by decide) (by rfl) (pa_cons (pv 0) (pa_cons pe_int pa_nil))) pa_nil)) (by rfl))
      (pss_cons (ps_set (i := 4) scNear.nd rfl (Or.inl rfl) (pe_ifExp (pt_cmpR op_eq (pv 3) pe_int (nomark _)) pe_str (pe_def Pi hr (by decide) (by rfl) (pa_cons (pv 0) (pa_cons (pe_op op_cat (pe_callTy (call_listSg rfl) (by rfl) T.list (by decide +kernel) (pa_cons pe_str pa_nil)) (pe_lst (pa_cons pe_str (pa_cons pe_str (pa_cons pe_str (pa_cons pe_str pa_nil)))))) pa_nil)))))
      (pss_one (ps_ret (pe_op op_add_str (pe_op op_add_str (pe_slice sl_str (pv 1) po_none (po_some (pv 2))) (pv 4)) (pe_slice sl_str (pv 1) (po_some (pe_op op_add (pv 2) (pe_callTy call_int1 (by rfl) T.int (by decide +kernel) (pa_cons (pe_cmpR op_lt (pv 3) pe_int (nomark _)) pa_nil)))) po_none))))), ?_⟩
    try dsimp only [Q0.cx_nox, Q0.cx_K]
    have sz : (10000000 : Nat) < sizeLine := by decide
    have big : (100000 : Int) < 2 ^ 1000 := by decide +kernel
    walk_at "rd"
    unfold tPar
    walk_at "rd"
    refine ⟨x, rfl, by omega, ?_⟩
    walk_at "rd"
    refine ⟨d, _, rfl, hd, by omega, by omega, fun H1 at_ b1 hd1 a0 a1 => ?_⟩
    walk_at "rd"
    refine ⟨d, 3, rfl, hd1, by decide, by omega, fun H2 way b2 hd2 w0 w1 => ?_⟩
    walk_at "rd"
    refine ⟨_, _, rfl, ?_⟩
    dsimp only
    have b12 := ExtBut.trans b1 b2
    refine g_cut (fun σ' H' => ∃ g : Str, ExtBut d H H' ∧ DiceAt H' d ∧ g.length ≤ 3 ∧ σ' = [some (.ref d), some (.str x), some (.int at_), some (.int way), some (.str g)]) (fun σ' H' hN => ?_) (fun go => ?_)
    rotate_left
    · refine g_gen fun D1 hn1 _ => ?_
      have fin : ∀ (g : Str) (H' : Hp), ExtBut d H H' → DiceAt H' d → g.length ≤ 3 → D1.nx [some (.ref d), some (.str x), some (.int at_), some (.int way), some (.str g)] H' := fun g H' h1 h2 h3 => hn1 _ _ (go _ _ ⟨g, h1, h2, h3, rfl⟩)
      walk_at "rd"
      refine ite2 (fun h => ?_) (fun h => ?_)
      · walk_at "rd"
        exact fin _ _ b12 hd2 (by decide +kernel)
      · walk_at "rd"
        refine ⟨_, rfl, by decide +kernel, fun L hL => ?_⟩
        have eL := Ext.new (o := HO.lst ((tl ("0123456789p^+- x" : Str)).map fun c => V.str ⟨#[c]⟩)) hL
        have hL2 : upd H2 L (.lst ((tl ("0123456789p^+- x" : Str)).map fun c => V.str ⟨#[c]⟩)) L = some (.lst ((tl ("0123456789p^+- x" : Str)).map fun c => V.str ⟨#[c]⟩)) := upd_same
        generalize upd H2 L (.lst ((tl ("0123456789p^+- x" : Str)).map fun c => V.str ⟨#[c]⟩)) = H3 at eL hL2 ⊢
        walk_at "rd"
        refine ⟨by show 4 ≤ sizeLine; decide, fun M hM => ?_⟩
        have eM := Ext.new (o := HO.lst [V.str " + ", V.str " - ", V.str "p^", V.str "00"]) hM
        have hM2 : upd H3 M (.lst [V.str " + ", V.str " - ", V.str "p^", V.str "00"]) M = some (.lst [V.str " + ", V.str " - ", V.str "p^", V.str "00"]) := upd_same
        have hL3 := eM _ _ hL2
        have nl : (tl ("0123456789p^+- x" : Str)).length = 16 := by decide +kernel
        refine ⟨L, M, _, _, rfl, rfl, hL3, hM2, by rw [List.length_map, nl]; show 20 ≤ sizeLine; decide, fun N hN => ?_⟩
        have eN := Ext.new (o := HO.lst ((tl ("0123456789p^+- x" : Str)).map (fun c => V.str ⟨#[c]⟩) ++ [V.str " + ", V.str " - ", V.str "p^", V.str "00"])) hN
        have eA := Ext.trans eL (Ext.trans eM eN)
        have hd4 := hd2.ext eA
        have hN0 : H2 N = none := by
          cases q : H2 N with
          | none => rfl
          | some o =>
            have := eM _ _ (eL _ _ q)
            rw [hN] at this
            cases this
        walk_at "rd"
        refine ⟨d, N, _, rfl, hd4, SqL.of upd_same, dice_none hd2 hN0, by simp, by rw [List.length_append, List.length_map, nl]; decide, fun H5 sg b3 hd5 hx => ?_⟩
        obtain ⟨g, rfl, hg⟩ : ∃ g : Str, sg = V.str g ∧ g.length ≤ 3 := by
          rcases List.mem_append.mp hx with hx | hx
          · obtain ⟨c, _, rfl⟩ := List.mem_map.mp hx
            exact ⟨_, rfl, by show 1 ≤ 3; decide⟩
          · have : ∀ g : Str, g ∈ [(" + " : Str), " - ", "p^", "00"] → g.length ≤ 3 := by decide +kernel
            have hx : sg ∈ [(" + " : Str), " - ", "p^", "00"].map V.str := hx
            obtain ⟨g, h1, h2⟩ := List.mem_map.mp hx
            exact ⟨g, h2.symm, this g h1⟩
        exact fin g H5 (ExtBut.trans b12 (ExtBut.trans (ExtBut.of eA) b3)) hd5 hg
    · obtain ⟨g, b3, hd3, hg, rfl⟩ := hN
      obtain ⟨j, rfl⟩ : ∃ j : Nat, at_ = (j : Int) := ⟨at_.toNat, by omega⟩
      have k1 := cut_tk x j
      have n1 : (cutS x none (some (j : Int))).length ≤ j := by
        rw [len_tl, k1, List.length_take]
        omega
      have n2 : ∀ e : Nat, (cutS x (some ((j + e : Nat) : Int)) none).length ≤ x.length - j := fun e => by
        rw [len_tl, cut_dr x (j + e), List.length_drop, ← len_tl]
        omega
      have hj : j ≤ x.length := by omega
      walk_at "rd"
      refine ⟨x, rfl, by omega, ?_⟩
      walk_at "rd"
      refine ⟨_, _, rfl, rfl, by omega, ?_⟩
      walk_at "rd"
      refine .inr ⟨_, rfl, ?_⟩
      walk_at "rd"
      refine ⟨x, rfl, by omega, ?_⟩
      have n3 : (cutS x (some ((j : Int) + if decide (way < 2) = true then 1 else 0)) none).length ≤ x.length - j := by
        by_cases hw : way < 2
        · rw [if_pos (decide_eq_true hw)]
          exact n2 1
        · rw [if_neg (by simpa using hw)]
          exact n2 0
      refine ⟨_, _, rfl, rfl, by rw [len_app]; omega, ?_⟩
      exact k _ _ b3 hd3 (by rw [len_app, len_app]; omega)
end
end

/-! One turn of the law. -/

section
open PySem PySem.Spec PyProof.Rows L2 Gd TL StrLaws CwR
open Q0 (g_gen rowL VR trm)
mutual
theorem dp_ext {K : PySem.W.Frag} {H H' : Hp} (e : Ext H H') : ∀ {d : PyData} {v : V}, Dp K H v d → Dp K H' v d
  | .none, _, h => by
    cases h
    exact .non
  | .bool b, _, h => by
    cases h
    exact .bl b
  | .int i, _, h => by
    cases h
    exact .int i
  | .str x, _, h => by
    cases h
    exact .str x
  | .list ds, _, h => by
    cases h with
    | lst hs ha => exact .lst (sqL_ext e hs) (dpAll_ext e ha)
  | .tuple ds, _, h => by
    cases h with
    | tup hs ha => exact .tup (sqT_ext e hs) (dpAll_ext e ha)
  | .dict _, _, h => by cases h
theorem dpAll_ext {K : PySem.W.Frag} {H H' : Hp} (e : Ext H H') : ∀ {ds : List PyData} {vs : List V}, DpAll K H vs ds → DpAll K H' vs ds
  | [], _, h => by
    cases h
    exact .nil
  | d :: ds, _, h => by
    cases h with
    | cons h t => exact .cons (dp_ext e h) (dpAll_ext e t)
end
section
variable {K : PySem.W.Frag} {mg : Str → Option Value} {C : Addr}
theorem sqT_dice {H H' : Hp} {d l : Addr} {xs : List V} (hd : DiceAt H d) (e : ExtBut d H H') (h : SqT K H l xs) : SqT K H' l xs := by
  rcases h with (h | ⟨o, h⟩) | h
  · exact .inl (.inl (e _ _ (dice_ne hd h (fun _ => by simp)) h))
  · exact .inl (.inr ⟨o, e _ _ (dice_ne hd h (fun _ => by simp)) h⟩)
  · exact .inr h
theorem g_catA {H : Hp} {Q : VK} {a b : Addr} {xs ys : List V} (ha : SqT K H a xs) (hb : SqT K H b ys) (hz : xs.length + ys.length ≤ sizeLine)
    (k : ∀ H' g, Ext H H' → SqT K H' g (xs ++ ys) → Q (.ref g) H') : rCatA K (.ref a) (.ref b) H Q := by
  refine ⟨a, b, xs, ys, rfl, rfl, ha, hb, hz, fun e => ?_, fun _ e => ?_, fun _ _ p hp => ?_⟩
  · refine k H b (fun _ _ h => h) ?_
    rw [e]
    exact hb
  · refine k H a (fun _ _ h => h) ?_
    rw [e, List.append_nil]
    exact ha
  · exact k _ p (Ext.new hp) (SqT.of upd_same)
theorem g_repA {H : Hp} {Q : VK} {a : Addr} {n : Int} (ha : SqT K H a [V.int 0]) (h0 : 0 ≤ n) (h1 : n ≤ 1000)
    (k : ∀ H' g, Ext H H' → SqT K H' g ((List.replicate n.toNat (0 : Int)).map V.int) → Q (.ref g) H') : rRepA K (.ref a) (.int n) H Q := by
  refine ⟨a, n, _, rfl, rfl, ha, by simp, h0, h1, by show 1 ≤ 1000; decide, fun e => ?_, fun _ p hp => ?_⟩
  · refine k H a (fun _ _ h => h) ?_
    rw [e]
    exact ha
  · refine k _ p (Ext.new hp) ?_
    rw [flat_zero]
    exact SqT.of upd_same
theorem g_mkP {H : Hp} {Q : VK} {E : XK} {te : TE} {σ : L2.St} {ns : List Int} (ht : ∀ Q0 : VK, (∀ H1 a, Ext H H1 → SqT K H1 a (ns.map V.int) → Q0 (.ref a) H1) → te σ H Q0) (hl : ns.length ≤ 400) (hB : Big ns)
    (k : ∀ H' p u, Ext H H' → PolyU K C H' p u (trim ns) → Q (.ref p) H') : tMake C (spInit K C) [] E (tCons te tNil) σ H Q :=
  ht _ fun H1 a e hs x dx hx hdx ne => ⟨x, dx, a, ns, rfl, upd_same, sqT_ext (made_ext hx hdx) hs, hl, hB, fun H' u e2 hp hu => ⟨rfl, k H' x u (fun b o q => e2 b o (ne_of_none (e b o q) hx) (made_ext hx hdx b o (e b o q))) ⟨⟨dx, hp⟩, hu, Nat.le_trans (Nat.le_trans (trim_len ns) hl) (by decide)⟩⟩⟩
theorem idata_self (ns : List Int) : PyData.eqv (.tuple (idata ns)) (.tuple (idata ns)) = true := by
  show PyData.eqvAll (idata ns) (idata ns) = true
  rw [eqv_ints]
  exact decide_eq_true rfl
theorem due_self {l : List Nat} {ds : List PyData} (h : DueR l ds) : SeqAt.shaped (.tuple ds) = true ∧ PyData.eqv (.tuple ds) (.tuple ds) = true := by
  rcases h with ⟨ns, _, _, rfl⟩ | ⟨_, rfl⟩
  · exact ⟨shaped_tup ns, idata_self ns⟩
  · exact ⟨by decide +kernel, by decide +kernel⟩
theorem notx_own (NS : PySem.W.kitOne K (.ref C) (.type "str") = some false) (Cl : PC K mg C) {H : Hp} {p u : Addr} {ns : List Int} (h : PolyU K C H p u ns) : NoTx K H (.ref p) := by
  obtain ⟨⟨dx, h⟩, _⟩ := h
  exact ⟨_, Cl.ty h, NS⟩
end
section
variable {P : Program} {w : World} {K : PySem.W.Frag} {mg : Str → Option Value} {base : Heap} {f C CP fP t0 : Addr} {fd : FuncData}
abbrev sRight : Stmt := top 46
theorem scRight : FnScope ["_law_dice_here", "_law_factors_here", "_law_due_here", "_law_text", "_law_turn", "_law_here", "_law_odd"] ["_law_dice_here"] (defScope sRight) := ⟨rfl, rfl, rfl, by decide +kernel, rfl, by decide +kernel, by decide +kernel⟩
def spRight : Sp := fun vs H Q _ => ∃ d : Addr, vs = [.ref d] ∧ DiceAt H d ∧ ∀ H', ExtBut d H H' → Q (.bl true) H'
theorem ok_right (F : Fun K "_law_right" "_law_right" sRight f fd) (T : Txt K mg) (T2 : Txt2 mg) (zS : mg "str" = none) (Cl : PC K mg C) (NS : PySem.W.kitOne K (.ref C) (.type "str") = some false) (Ro : Def1 P w K mg base CX0 1 "_law_roll" ["_law_dice_here", "_law_total"] spRoll) (Pi : Def1 P w K mg base CX0 2 "_law_pick" ["_law_dice_here", "_law_items"] (spPick K))
    (Fa : Def1 P w K mg base CX0 2 "_law_factors" ["_law_dice_here", "_law_most", "_law_size"] spFactors) (Tr : Def1 P w K mg base CX0 1 "_law_trimmed" ["_law_factors_here"] (spLTrim K)) (Tx : Def1 P w K mg base CX0 1 "_law_poly_text" ["_law_factors_here"] (spRowTx K))
    (Ne : Def1 P w K mg base CX0 3 "_law_near" ["_law_dice_here", "_law_text"] spNear) (Rd : Def1 P w K mg base CX0 7 "_law_read" ["_law_text"] (spLRd K)) (Du : Def1 P w K mg base CX0 4 "_law_due" ["_law_text"] (spDue K)) (I : Ini1 P w K mg base C t0 (spInit K C)) (St : Met1 P w K mg base CX0 3 C "__str__" ["self"] (spPSt K C)) :
    FnOk P w K mg base CX0 8 f fd ["_law_dice_here"] spRight := by
  refine F.ok scRight (fun vs H Q E h => ?_) (fun cdv A outer s H vs Q E hr h => ?_)
  · obtain ⟨d, rfl, _⟩ := h
    rfl
  · obtain ⟨d, rfl, hd, k⟩ := h
    refine ⟨_, pss_cons (ps_set (i := 1) scRight.nd rfl (Or.inl rfl) (pe_def Fa hr (by decide) (by rfl) (pa_cons (pv 0) (pa_cons (pe_def Pi hr (by decide) (by rfl) (pa_cons (pv 0) (pa_cons (pe_lst (pa_cons pe_int (pa_cons pe_int pa_nil))) pa_nil))) (pa_cons (pe_def Pi hr (by decide) (by rfl) (pa_cons (pv 0) (pa_cons (pe_lst (pa_cons pe_int (pa_cons pe_int (pa_cons pe_int (pa_cons (pe_op op_sub (pe_op op_pow pe_int pe_int) pe_int) pa_nil))))) pa_nil))) pa_nil)))))
      (pss_cons (ps_if (pt_cmpR op_eq (pe_def Ro hr (by decide) (by rfl) (pa_cons (pv 0) (pa_cons pe_int pa_nil))) pe_int (nomark _)) (pss_one (ps_set (i := 1) scRight.nd rfl (Or.inl rfl) (pe_op op_catA (pe_op op_repA (pe_tup (pa_cons pe_int pa_nil)) (pe_def Ro hr (by decide) (by rfl) (pa_cons (pv 0) (pa_cons pe_int pa_nil)))) (pv 1)))) pss_nil)
      (pss_cons (ps_set (i := 2) scRight.nd rfl (Or.inl rfl) (pe_def Tr hr (by decide) (by rfl) (pa_cons (pv 1) pa_nil)))
      (pss_cons (ps_set (i := 3) scRight.nd rfl (Or.inl rfl) (pe_def Tx hr (by decide) (by rfl) (pa_cons (pv 2) pa_nil)))
      (pss_cons (ps_if (PW.pt (pw_or (pt_cmpR op_ne (pe_callTy (call_strP St hr (by decide)) (by rfl) zS (by decide +kernel) (pa_cons (pe_mk1 I hr (by decide) (by rfl) Cl.g (pa_cons (pv 1) pa_nil)) pa_nil)) (pv 3) (nomark _)) (pw_or1 (pt_cmpR (op_neD hr.units) (pe_def Rd hr (by decide) (by rfl) (pa_cons (pv 3) pa_nil)) (pv 2) (nomark _))))) (pss_one (ps_ret pe_bl)) pss_nil)
      (pss_cons (ps_for PassesOwn.never rfl (pi_range1 (by rfl) T2.range (pa_cons pe_int pa_nil)) (pg_name (i := 4) scRight.nd rfl (Or.inl rfl)) (pss_cons (ps_set (i := 5) scRight.nd rfl (Or.inl rfl) (pe_def Ne hr (by decide) (by rfl) (pa_cons (pv 0) (pa_cons (pv 3) pa_nil))))
      (pss_cons (ps_if (pt_cmpR op_eq (pe_def Ro hr (by decide) (by rfl) (pa_cons (pv 0) (pa_cons pe_int pa_nil))) pe_int (nomark _)) (pss_one (ps_set (i := 5) scRight.nd rfl (Or.inl rfl) (pe_def Ne hr (by decide) (by rfl) (pa_cons (pv 0) (pa_cons (pv 5) pa_nil))))) pss_nil)
      (pss_one (ps_if (pt_cmpR (op_neD hr.units) (pe_def Rd hr (by decide) (by rfl) (pa_cons (pv 5) pa_nil)) (pe_def Du hr (by decide) (by rfl) (pa_cons (pv 5) pa_nil)) (nomark _)) (pss_one (ps_ret pe_bl)) pss_nil)))))
      (pss_cons (ps_set (i := 6) scRight.nd rfl (Or.inl rfl) (pe_def Pi hr (by decide) (by rfl) (pa_cons (pv 0) (pa_cons (pe_lst (pa_cons pe_non (pa_cons pe_int (pa_cons (pe_tup (pa_cons pe_str pa_nil)) (pa_cons (pe_lst (pa_cons pe_str pa_nil)) (pa_cons pe_bl (pa_cons (pe_dnewK) (pa_cons (pe_mk1 I hr (by decide) (by rfl) Cl.g (pa_cons (pe_tup (pa_cons pe_int pa_nil)) pa_nil)) pa_nil)))))))) pa_nil))))
      (pss_one (ps_ret (pe_cmpR (op_eqD hr.units) (pe_def Rd hr (by decide) (by rfl) (pa_cons (pv 6) pa_nil)) (pe_tup (pa_cons pe_str (pa_cons pe_int pa_nil))) (nomark _)))))))))), ?_⟩
    try dsimp only [Q0.cx_nox, Q0.cx_K]
    have sz : (10000000 : Nat) < sizeLine := by decide
    walk_at "rd"
    refine ⟨by show 2 ≤ sizeLine; decide, fun l1 hl1 => ?_⟩
    walk_at "rd"
    refine ⟨d, l1, _, rfl, hd.upd (dice_none hd hl1), SqL.of upd_same, dice_none hd hl1, by decide, by decide, fun H1 x1 e1 hd1 hx1 => ?_⟩
    obtain ⟨m, rfl, m0, m1⟩ : ∃ m : Int, x1 = .int m ∧ 0 ≤ m ∧ m ≤ 8 := by
      simp only [List.mem_cons, List.not_mem_nil, or_false] at hx1
      rcases hx1 with rfl | rfl
      all_goals exact ⟨_, rfl, by decide, by decide⟩
    have E1 : ExtBut d H H1 := (ExtBut.of (Ext.new hl1)).trans e1
    clear e1 hx1
    walk_at "rd"
    refine g_I ⟨by decide, by decide, by decide⟩ ?_
    walk_at "rd"
    refine ⟨by show 4 ≤ sizeLine; decide, fun l2 hl2 => ?_⟩
    walk_at "rd"
    refine ⟨d, l2, _, rfl, hd1.upd (dice_none hd1 hl2), SqL.of upd_same, dice_none hd1 hl2, by decide, by decide, fun H2 x2 e2 hd2 hx2 => ?_⟩
    obtain ⟨z, rfl, z0, z1⟩ : ∃ z : Int, x2 = .int z ∧ 0 ≤ z ∧ z < 10 ^ 60 := by
      simp only [List.mem_cons, List.not_mem_nil, or_false] at hx2
      rcases hx2 with rfl | rfl | rfl | rfl
      all_goals exact ⟨_, rfl, by decide +kernel, by decide +kernel⟩
    have E2 := E1.trans ((ExtBut.of (Ext.new hl2)).trans e2)
    clear e2 hx2
    walk_at "rd"
    refine ⟨d, m, z, rfl, hd2, m0, by omega, by omega, by omega, fun H3 fh ns e3 hd3 _ hfh hlen hb => ?_⟩
    have E3 := E2.trans e3
    refine g_name ?_
    dsimp only
    refine g_cut (fun σ' H' => ∃ (g : Addr) (ms : List Int), ExtBut d H H' ∧ σ' = [some (.ref d), some (.ref g), none, none, none, none, none] ∧ DiceAt H' d ∧ SqT K H' g (ms.map V.int) ∧ ms.length ≤ 400 ∧ ∀ n ∈ ms, n.natAbs < 10 ^ 60) (fun σ' H' hN => ?_) (fun go => ?_)
    rotate_left
    · refine g_gen fun D1 hn1 _ => ?_
      have fin : ∀ (g : Addr) (ms : List Int) (H' : Hp), ExtBut d H H' → DiceAt H' d → SqT K H' g (ms.map V.int) → ms.length ≤ 400 → (∀ n ∈ ms, n.natAbs < 10 ^ 60) → D1.nx [some (.ref d), some (.ref g), none, none, none, none, none] H' := fun g ms H' h0 h1 h2 h3 h4 => hn1 _ _ (go _ _ ⟨g, ms, h0, rfl, h1, h2, h3, h4⟩)
      have hb' : ∀ n ∈ ns, n.natAbs < 10 ^ 60 := fun n hn => by
        have := hb n hn
        omega
      walk_at "rd"
      refine ⟨d, 4, rfl, hd3, by decide, by decide, fun H4 r e4 hd4 r0 r1 => ?_⟩
      have hf4 : SqT K H4 fh (ns.map V.int) := sqT_dice hd3 e4 (SqT.of hfh)
      walk_at "rd"
      refine ite2 (fun h => ?_) (fun h => ?_)
      · walk_at "rd"
        refine ⟨by show 1 ≤ sizeLine; decide, fun o1 ho1 => ?_⟩
        have eo := Ext.new (o := HO.tup [V.int 0]) ho1
        have hd4' := hd4.upd (o := HO.tup [V.int 0]) (dice_none hd4 ho1)
        walk_at "rd"
        refine ⟨d, 390, rfl, hd4', by decide, by decide, fun H5 r5 e5 hd5 s0 s1 => ?_⟩
        have hz5 : SqT K H5 o1 [V.int 0] := sqT_dice hd4' e5 (SqT.of upd_same)
        have hf5 := sqT_dice hd4' e5 (sqT_ext eo hf4)
        refine g_repA hz5 s0 (by omega) (fun H6 g6 e6 hg6 => ?_)
        walk_at "rd"
        refine g_catA hg6 (sqT_ext e6 hf5) (by simp only [List.length_map, List.length_replicate]; omega) (fun H7 g7 e7 hg7 => ?_)
        rw [← List.map_append] at hg7
        refine fin g7 _ H7 (E3.trans (e4.trans ((ExtBut.of eo).trans (e5.trans (ExtBut.of (Ext.trans e6 e7)))))) (hd5.ext (Ext.trans e6 e7)) hg7 (by rw [List.length_append, List.length_replicate]; omega) fun n hn => ?_
        rcases List.mem_append.mp hn with h | h
        · rw [List.eq_of_mem_replicate h]
          decide
        · exact hb' n h
      · walk_at "rd"
        exact fin fh ns H4 (E3.trans e4) hd4 hf4 (by omega) hb'
    obtain ⟨g, ms, E7, rfl, hd7, hg7, hml, hmb⟩ := hN
    have vr : VR (trm ms) := Q0.vr_trm hml hmb
    have big : Big ms := fun n hn => by
      have := hmb n hn
      omega
    walk_at "rd"
    refine ⟨g, ms, rfl, .inr hg7, by omega, fun H8 u e8 hu => ?_⟩
    rw [trim_trm] at hu
    walk_at "rd"
    refine ⟨u, trm ms, rfl, hu, vr.len, fun n hn => Nat.lt_trans (vr.big n hn) (by decide), fun H9 y e9 hy hyl => ?_⟩
    have hg9 := sqT_ext (Ext.trans e8 e9) hg7
    walk_at "rd"
    refine g_mkP (ns := ms) (fun Q0 k0 => ⟨_, rfl, k0 _ _ (fun _ _ h => h) hg9⟩) hml big fun H10 p v e10 hp => ?_
    rw [trim_trm] at hp
    obtain ⟨⟨dx, hpi⟩, _, _⟩ := id hp
    walk_at "rd"
    refine ⟨p, dx, _, rfl, hpi, p, v, trm ms, rfl, hp, vr.len, fun n hn => Nat.lt_trans (vr.big n hn) (by decide), fun H11 y2 e11 hy2 _ => ⟨y2, rfl, ?_⟩⟩
    have ey : y2 = y := str_tl (by rw [hy2, hy])
    rw [ey]
    have e811 : Ext H8 H11 := Ext.trans e9 (Ext.trans e10 e11)
    have hu11 := sqT_ext e811 hu
    have hd11 := hd7.ext (Ext.trans e8 e811)
    walk_at "rd"
    refine ⟨rfl, _, rfl, ?_⟩
    rw [show (!decide (V.str y = V.str y)) = false by simp]
    refine iteF ?_
    walk_at "rd"
    have hDue : DueR (tl y) (idata (trm ms)) := .inl ⟨_, vr, hy, rfl⟩
    refine ⟨.str y, rfl, .inl ⟨y, rfl, by omega, fun ds hds H12 b e12 hb => ?_⟩⟩
    have eds := due_one hds hDue
    subst eds
    walk_at "rd"
    refine ⟨_, _, hb, dp_tup (sqT_ext e12 hu11), shaped_tup _, shaped_tup _, ?_⟩
    rw [idata_self]
    have hd12 := hd11.ext e12
    have E12 := E7.trans (ExtBut.of (Ext.trans e8 (Ext.trans e811 e12)))
    walk_at "rd"
    refine g_forR ?_
    walk_at "rd"
    refine ⟨by decide, by decide, ?_⟩
    refine for_range (fun _ σ' H' => ∃ x4 x5 : Option V, ExtBut d H H' ∧ σ' = [some (.ref d), some (.ref g), some (.ref u), some (.str y), x4, x5, none] ∧ DiceAt H' d) ⟨_, _, E12, rfl, hd12⟩ ?_ ?_
    · rintro i σ' H13 hi ⟨x4, x5, E13, rfl, hd13⟩
      walk_at "rd"
      refine ⟨d, y, rfl, hd13, by omega, fun H14 y3 b14 hd14 hy3 => ?_⟩
      refine g_name ?_
      dsimp only
      have E14 := E13.trans b14
      refine g_cut (fun σ' H' => ∃ (x4 : Option V) (y4 : Str), ExtBut d H H' ∧ σ' = [some (.ref d), some (.ref g), some (.ref u), some (.str y), x4, some (.str y4), none] ∧ DiceAt H' d ∧ y4.length ≤ 60000) (fun σ' H' hN => ?_) (fun go => ?_)
      rotate_left
      · refine g_gen fun D1 hn1 _ => ?_
        have fin : ∀ (x4 : Option V) (y4 : Str) (H' : Hp), ExtBut d H H' → DiceAt H' d → y4.length ≤ 60000 → D1.nx [some (.ref d), some (.ref g), some (.ref u), some (.str y), x4, some (.str y4), none] H' := fun x4 y4 H' h0 h1 h2 => hn1 _ _ (go _ _ ⟨x4, y4, h0, rfl, h1, h2⟩)
        walk_at "rd"
        refine ⟨d, 2, rfl, hd14, by decide, by decide, fun H15 r e15 hd15 r0 r1 => ?_⟩
        walk_at "rd"
        refine ite2 (fun h => ?_) (fun h => ?_)
        · walk_at "rd"
          refine ⟨d, y3, rfl, hd15, by omega, fun H16 y5 b16 hd16 hy5 => ?_⟩
          exact fin _ y5 H16 (E14.trans (e15.trans b16)) hd16 (by omega)
        · walk_at "rd"
          exact fin _ y3 H15 (E14.trans e15) hd15 (by omega)
      obtain ⟨x4', y4, E15, rfl, hd15, hy4⟩ := hN
      walk_at "rd"
      refine ⟨.str y4, rfl, .inl ⟨y4, rfl, by omega, fun ds hds H16 b2 e16 hb2 => ?_⟩⟩
      walk_at "rd"
      refine ⟨y4, rfl, by omega, fun es hes H17 c e17 hc => ?_⟩
      have eq := due_one hes hds
      subst eq
      obtain ⟨hs1, hs2⟩ := due_self hds
      refine ⟨_, _, dp_ext e17 hb2, hc, hs1, hs1, ?_⟩
      rw [hs2]
      walk_at "rd"
      exact ⟨_, _, E15.trans (ExtBut.of (Ext.trans e16 e17)), rfl, hd15.ext (Ext.trans e16 e17)⟩
    · rintro σ' H13 ⟨x4, x5, E13, rfl, hd13⟩
      walk_at "rd"
      refine ⟨by show 1 ≤ sizeLine; decide, fun t ht => ?_⟩
      have et := Ext.new (o := HO.tup [V.str (Str.ofString "p")]) ht
      have ht2 : upd H13 t (.tup [V.str (Str.ofString "p")]) t = some (.tup [V.str (Str.ofString "p")]) := upd_same
      have hd14 := hd13.ext et
      generalize upd H13 t (.tup [V.str (Str.ofString "p")]) = H14 at et ht2 hd14 ⊢
      walk_at "rd"
      refine ⟨by show 1 ≤ sizeLine; decide, fun l hl => ?_⟩
      have el := Ext.new (o := HO.lst [V.str (Str.ofString "p")]) hl
      have hl2 : upd H14 l (.lst [V.str (Str.ofString "p")]) l = some (.lst [V.str (Str.ofString "p")]) := upd_same
      have hld : l ≠ d := dice_none hd14 hl
      have hd15 := hd14.ext el
      have ht3 := el _ _ ht2
      generalize upd H14 l (.lst [V.str (Str.ofString "p")]) = H15 at el hl2 hd15 ht3 ⊢
      walk_at "rd"
      intro e he
      have ee := Ext.new (o := HO.dK []) he
      have he2 : upd H15 e (.dK []) e = some (.dK []) := upd_same
      have hd16 := hd15.ext ee
      have ht4 := ee _ _ ht3
      have hl3 := ee _ _ hl2
      generalize upd H15 e (.dK []) = H16 at ee he2 hd16 ht4 hl3 ⊢
      walk_at "rd"
      refine g_mkP (ns := [1]) (fun Q0 k0 => ⟨by show 1 ≤ sizeLine; decide, fun t2 h2 => k0 _ _ (Ext.new h2) (SqT.of upd_same)⟩) (by decide) (fun n hn => by rw [List.mem_singleton.mp hn]; decide) fun H17 p2 v2 e17 hp2 => ?_
      obtain ⟨⟨dx2, hp3⟩, _, _⟩ := id hp2
      have hd17 := hd16.ext e17
      walk_at "rd"
      refine ⟨by show 7 ≤ sizeLine; decide, fun L hL => ?_⟩
      have eL := Ext.new (o := HO.lst [V.non, V.int 3, V.ref t, V.ref l, V.bl true, V.ref e, V.ref p2]) hL
      have hd18 := hd17.ext eL
      walk_at "rd"
      refine ⟨d, L, _, rfl, hd18, SqL.of upd_same, dice_none hd17 hL, by show 0 < 7; decide, by show 7 ≤ 1000; decide, fun H19 x b19 hd19 hx => ?_⟩
      have e18 := Ext.trans e17 eL
      have E19 := E13.trans ((ExtBut.of (Ext.trans et (Ext.trans el (Ext.trans ee e18)))).trans b19)
      have hno : NoTx K H19 x := by
        simp only [List.mem_cons, List.not_mem_nil, or_false] at hx
        rcases hx with rfl | rfl | rfl | rfl | rfl | rfl | rfl
        · exact ⟨_, .base .non, by kernel_rfl⟩
        · exact ⟨_, .base (.int 3), by kernel_rfl⟩
        · exact ⟨_, .base (.tup (b19 _ _ (dice_ne hd18 (e18 _ _ ht4) (fun _ => by simp)) (e18 _ _ ht4))), by kernel_rfl⟩
        · exact ⟨_, .base (.lst (b19 _ _ hld (e18 _ _ hl3))), by kernel_rfl⟩
        · exact ⟨_, .base (.bl true), by kernel_rfl⟩
        · exact ⟨_, .base (.dK (b19 _ _ (dice_ne hd18 (e18 _ _ he2) (fun _ => by simp)) (e18 _ _ he2))), by kernel_rfl⟩
        · exact ⟨_, Cl.ty (b19 _ _ (dice_ne hd18 (eL _ _ hp3) (fun _ => by simp)) (eL _ _ hp3)), NS⟩
      walk_at "rd"
      refine ⟨x, rfl, .inr ⟨hno, fun H20 b e20 hb => ?_⟩⟩
      walk_at "rd"
      refine ⟨by show 2 ≤ sizeLine; decide, fun n hn => ?_⟩
      refine ⟨_, noD, dp_ext (Ext.new hn) hb, dp_no (SqT.of upd_same), by decide +kernel, by decide +kernel, ?_⟩
      have : PyData.eqv noD noD = true := by decide +kernel
      rw [this]
      exact k _ (E19.trans (ExtBut.of (Ext.trans e20 (Ext.new hn))))
end
end

/-! The readings that the law names. -/

section
open PySem PySem.Spec PyProof.Rows L2 Gd TL StrLaws CwR
open Q0 (g_gen rowL VR trm rdR wordsP)
/-- whether the text l is a row's, as it is reckoned -/
def okL (l : List Nat) : Bool := match rdR (wordsP l) (List.replicate 400 0) with
  | none => false
  | some R => decide (rowL (trm R) = l)
theorem okL_no {l : List Nat} (h : okL l = false) : ¬ ∃ ns, VR ns ∧ l = rowL ns := fun ⟨ns, v, e⟩ => by
  obtain ⟨R, h1, _, h2⟩ := Q0.read_back v
  unfold okL at h
  rw [e, h1] at h
  dsimp only at h
  rw [h2] at h
  exact absurd (decide_eq_true rfl) (by rw [h]; decide)
def bigN : List Int := (-1 :: List.replicate 398 0) ++ [10 ^ 60 - 1]
def vrB (ns : List Int) : Bool := decide (ns.length ≤ 400) && (ns.all fun n => decide (n.natAbs < 10 ^ 60)) && (decide (ns = []) || !decide (ns.getD (ns.length - 1) 0 = 0))
theorem vr_of {ns : List Int} (h : vrB ns = true) : VR ns := by
  unfold vrB at h
  rw [Bool.and_eq_true, Bool.and_eq_true] at h
  refine ⟨of_decide_eq_true h.1.1, fun n hn => of_decide_eq_true (List.all_eq_true.mp h.1.2 n hn), fun hne => ?_⟩
  have := h.2
  rw [decide_eq_false hne, Bool.false_or, Bool.not_eq_true', decide_eq_false_iff_not] at this
  exact this
theorem due_big : DueR (List.replicate 60 57 ++ tl ("p^399 - 1" : Str)) (idata bigN) := .inl ⟨bigN, vr_of (by decide +kernel), by decide +kernel, rfl⟩
theorem due_long : DueR (49 :: List.replicate 60 57) [.str "no", .int 0] := .inr ⟨okL_no (by decide +kernel), rfl⟩
theorem due_zero : DueR (tl ("0" : Str)) (idata []) := .inl ⟨[], vr_of (by decide +kernel), by decide +kernel, rfl⟩
theorem due_minus : DueR (tl ("-p" : Str)) (idata [0, -1]) := .inl ⟨[0, -1], vr_of (by decide +kernel), by decide +kernel, rfl⟩
def tenN : List Int := [1, -10] ++ List.replicate 8 0 ++ [1]
theorem due_ten : DueR (tl ("p^10 - 10p + 1" : Str)) (idata tenN) := .inl ⟨tenN, vr_of (by decide +kernel), by decide +kernel, rfl⟩
theorem row_last : tl ("-p^2 + p - 1" : Str) = rowL [-1, 1, -1] := by decide +kernel
def wrongs : List Str := ["", "-0", "+1", "p^1", "p^0", "1p", "0p", "p + 0", "1 + p", "p^2 + p^2", "p^400", "p ^2", "--1", "1 1", "-", " p", "p "]
theorem due_wrong : ∀ x ∈ wrongs, DueR (tl x) [.str "no", .int 0] := by
  have : (wrongs.all fun x => !okL (tl x)) = true := by decide +kernel
  intro x hx
  have := List.all_eq_true.mp this x hx
  exact .inr ⟨okL_no (by simpa using this), rfl⟩
def toldD : PyData := .list [.tuple (idata bigN), noD, .tuple (idata []), .tuple (idata [0, -1]), .tuple (idata tenN)]
theorem told_ok : SeqAt.shaped toldD = true ∧ PyData.eqv toldD toldD = true := ⟨by decide +kernel, by decide +kernel⟩
end

/-! The law. -/

section
open PySem PySem.Spec PyProof.Rows L2 Gd TL StrLaws CwR
open Q0 (g_gen rowL VR trm g_lc g_ilist lc_rel)
def rMulS : R2 := fun x y H Q => ∃ (c : Nat) (k : Int), x = .str ⟨#[c]⟩ ∧ y = .int k ∧ 0 ≤ k ∧ k ≤ 1000 ∧ ∀ r : Str, tl r = List.replicate k.toNat c → Q (.str r) H
theorem op_mulS {X : Cx} : OpR X (binaryOp .Mult) rMulS := by
  intro pins s σ H x y v u Q I rx ry h
  obtain ⟨c, k, rfl, rfl, k0, k1, q⟩ := h
  obtain ⟨t, rfl⟩ := rx
  obtain ⟨t', rfl⟩ := ry
  refine PySem.SB.mul (mulOk_of 1 1000 (by show 1 ≤ 1; decide) (by omega) (by omega) (by decide) (by decide)) fun t2 k2 => ?_
  exact ⟨.str _, H, I.tok k2, ⟨_, rfl⟩, q _ (mul_one_list c k)⟩
theorem dp_no_inv {K : PySem.W.Frag} {H : Hp} {y : V} (h : Dp K H y noD) : ∃ u, y = .ref u ∧ SqT K H u [.str ("no" : Str), .int 0] := by
  cases h with
  | tup hs ha =>
    cases ha with
    | cons a b =>
      cases b with
      | cons c d =>
        cases d
        cases a
        cases c
        exact ⟨_, rfl, hs⟩
def RNo (K : PySem.W.Frag) : Nat → V → Hp → Prop := fun _ y H => ∃ u, y = .ref u ∧ SqT K H u [.str ("no" : Str), .int 0]
theorem rno_mono {K : PySem.W.Frag} : Q0.Mono (RNo K) := fun i y D ys H H' hd e h => by
  obtain ⟨u, rfl, hs⟩ := h
  refine ⟨u, rfl, ?_⟩
  have key : ∀ o, H u = some o → (∀ xs, o ≠ .lst xs) → H' u = some o := fun o ho hn => by
    refine e _ _ (fun z => ?_) ho
    subst z
    rcases hd with hd | hd
    · rw [hd] at ho
      cases ho
    · rw [hd] at ho
      cases ho
      exact hn _ rfl
  rcases hs with (h | ⟨o, h⟩) | h
  · exact .inl (.inl (key _ h (fun _ => by simp)))
  · exact .inl (.inr ⟨o, key _ h (fun _ => by simp)⟩)
  · exact .inr h
theorem rno_all {K : PySem.W.Frag} {H : Hp} : ∀ {n : Nat} {ys : List V}, ys.length = n → (∀ y ∈ ys, RNo K 0 y H) → DpAll K H ys (List.replicate n noD)
  | 0, [], _, _ => .nil
  | n + 1, y :: r, h, hy => by
    obtain ⟨u, rfl, hs⟩ := hy y List.mem_cons_self
    exact .cons (dp_no hs) (rno_all (by simpa using h) fun z hz => hy z (List.mem_cons_of_mem _ hz))
theorem flat_one (x : V) : ∀ n : Nat, (List.replicate n [x]).flatten = List.replicate n x
  | 0 => rfl
  | n + 1 => by
    rw [List.replicate_succ, List.flatten_cons, flat_one x n]
    rfl
section
variable {P : Program} {w : World} {K : PySem.W.Frag} {mg : Str → Option Value} {base : Heap} {f C CP fP t0 : Addr} {fd : FuncData}
abbrev sLaw : Stmt := top 47
theorem scLaw : FnScope ["_law_script", "_law_spot", "_law_texts", "_law_text", "_law_great", "_law_told", "_law_due_here"] ["_law_script"] (defScope sLaw) := ⟨rfl, rfl, rfl, by decide +kernel, rfl, by decide +kernel, by decide +kernel⟩
def spLaw (K : PySem.W.Frag) : Sp := fun vs H Q _ => ∃ (a : Addr) (ns : List Int), vs = [.ref a] ∧ SqL K H a (ns.map V.int) ∧ ns.length ≤ 63 ∧ ∀ H', Q (.bl true) H'
theorem ok_law (F : Fun K "law" "law" sLaw f fd) (T : Txt K mg) (T2 : Txt2 mg) (zS : mg "str" = none) (Cl : PC K mg C) (Di : Def1 P w K mg base CX0 1 "_law_dice" ["_law_script", "_law_spot"] (spDice K)) (Rg : Def1 P w K mg base CX0 8 "_law_right" ["_law_dice_here"] spRight)
    (Rd : Def1 P w K mg base CX0 7 "_law_read" ["_law_text"] (spLRd K)) (I : Ini1 P w K mg base C t0 (spInit K C)) (St : Met1 P w K mg base CX0 3 C "__str__" ["self"] (spPSt K C)) : FnG P w K mg base CX0 9 f fd ["_law_script"] (spLaw K) := by
  refine fnG F scLaw (fun vs H Q E h => ?_) (fun cdv A outer s H vs Q E hg hr h => ?_)
  · obtain ⟨a, ns, rfl, _⟩ := h
    rfl
  · obtain ⟨a, ns, rfl, hs, hl, k⟩ := h
    refine ⟨_, PSs.nox (pss_cons (ps_for PassesOwn.never rfl (pi_range1 (by rfl) T2.range (pa_cons (pe_callB (call_max2 rfl) (by rfl) T2.max (by decide +kernel) (pa_cons pe_int (pa_cons (pe_callB (call_min2 rfl) (by rfl) T2.min (by decide +kernel) (pa_cons pe_int (pa_cons (pe_callB call_len_seq (by rfl) T.len PySem.boot_len (pa_cons (pv 0) pa_nil)) pa_nil))) pa_nil))) pa_nil)) (pg_name (i := 1) scLaw.nd rfl (Or.inl rfl)) (pss_one (ps_if (pt_not (pt_val (pe_def Rg hr (by decide) (by rfl) (pa_cons (pe_def Di hr (by decide) (by rfl) (pa_cons (pv 0) (pa_cons (pv 1) pa_nil))) pa_nil)))) (pss_one (ps_ret pe_bl)) pss_nil)))
      (pss_cons (ps_set (i := 2) scLaw.nd rfl (Or.inl rfl) (pe_lst (pa_cons pe_str (pa_cons pe_str (pa_cons pe_str (pa_cons pe_str (pa_cons pe_str (pa_cons pe_str (pa_cons pe_str (pa_cons pe_str (pa_cons pe_str (pa_cons pe_str (pa_cons pe_str (pa_cons pe_str (pa_cons pe_str (pa_cons pe_str (pa_cons pe_str (pa_cons pe_str (pa_cons pe_str pa_nil)))))))))))))))))))
      (pss_cons (ps_if (pt_cmpR (op_neD hr.units) (pe_lc (own := [("_law_text", 3)]) (g := gName 3) (tt := tYes) rfl scLaw.nd (pi_list (pv 2)) (blkOk_by (N := ["_law_script", "_law_spot", "_law_texts", "_law_text", "_law_great", "_law_told", "_law_due_here"]) (sc := defScope sLaw) (by decide +kernel)) (fun _ _ _ _ _ => pg_name (i := 3) scLaw.nd rfl (Or.inl rfl)) (fun _ _ _ _ _ => pts_nil) (fun _ _ _ _ _ => by exact (pe_def Rd hr (by decide) (by rfl) (pa_cons (pv 3) pa_nil)))) (pe_op op_rep (pe_lst (pa_cons (pe_tup (pa_cons pe_str (pa_cons pe_int pa_nil))) pa_nil)) (pe_callB call_len_seq (by rfl) T.len PySem.boot_len (pa_cons (pv 2) pa_nil))) (nomark _)) (pss_one (ps_ret pe_bl)) pss_nil)
      (pss_cons (ps_set (i := 4) scLaw.nd rfl (Or.inl rfl) (pe_op op_mulS pe_str pe_int))
      (pss_cons (ps_set (i := 5) scLaw.nd rfl (Or.inl rfl) (pe_lst (pa_cons (pe_def Rd hr (by decide) (by rfl) (pa_cons (pe_op op_add_str (pv 4) pe_str) pa_nil)) (pa_cons (pe_def Rd hr (by decide) (by rfl) (pa_cons (pe_op op_add_str pe_str (pv 4)) pa_nil)) (pa_cons (pe_def Rd hr (by decide) (by rfl) (pa_cons pe_str pa_nil)) (pa_cons (pe_def Rd hr (by decide) (by rfl) (pa_cons pe_str pa_nil)) (pa_cons (pe_def Rd hr (by decide) (by rfl) (pa_cons pe_str pa_nil)) pa_nil)))))))
      (pss_cons (ps_set (i := 6) scLaw.nd rfl (Or.inl rfl) (pe_lst (pa_cons (pe_op op_catA (pe_op op_catA (pe_tup (pa_cons (pe_un un_neg pe_int) pa_nil)) (pe_op op_repA (pe_tup (pa_cons pe_int pa_nil)) pe_int)) (pe_tup (pa_cons (pe_op op_sub (pe_op op_pow pe_int pe_int) pe_int) pa_nil))) (pa_cons (pe_tup (pa_cons pe_str (pa_cons pe_int pa_nil))) (pa_cons (pe_tup pa_nil) (pa_cons (pe_tup (pa_cons pe_int (pa_cons (pe_un un_neg pe_int) pa_nil))) (pa_cons (pe_op op_catA (pe_op op_catA (pe_tup (pa_cons pe_int (pa_cons (pe_un un_neg pe_int) pa_nil))) (pe_op op_repA (pe_tup (pa_cons pe_int pa_nil)) pe_int)) (pe_tup (pa_cons pe_int pa_nil))) pa_nil)))))))
      (pss_one (ps_ret (pe_and (pe_cmpR (op_eqD hr.units) (pv 5) (pv 6) (nomark _)) (pe_one (pe_cmpR op_eq (pe_callTy (call_strP St hr (by decide)) (by rfl) zS (by decide +kernel) (pa_cons (pe_mk1 I hr (by decide) (by rfl) Cl.g (pa_cons (pe_tup (pa_cons (pe_un un_neg pe_int) (pa_cons pe_int (pa_cons (pe_un un_neg pe_int) pa_nil)))) pa_nil)) pa_nil)) pe_str (nomark _)))))))))))), ?_⟩
    try dsimp only [Q0.cx_nox, Q0.cx_K]
    have sz : (10000000 : Nat) < sizeLine := by decide
    walk_at "rd"
    refine g_forR ?_
    walk_at "rd"
    refine ⟨a, _, rfl, .inl hs, ?_⟩
    rw [List.length_map]
    walk_at "rd"
    refine ⟨by split <;> split <;> omega, by split <;> split <;> omega, ?_⟩
    refine for_range (fun i σ' H' => ∃ x1 : Option V, σ' = [some (.ref a), x1, none, none, none, none, none] ∧ Ext H H') ⟨_, rfl, fun _ _ z => z⟩ ?_ ?_
    · rintro i σ' H1 hi ⟨x1, rfl, e1⟩
      have hi12 : i < 12 := by
        revert hi
        split <;> split <;> omega
      walk_at "rd"
      rw [Int.zero_add]
      refine ⟨a, ns, i, rfl, sqL_ext e1 hs, by omega, fun H2 d e2 hd0 hd => ?_⟩
      walk_at "rd"
      refine ⟨d, rfl, hd, fun H3 e3 => ?_⟩
      walk_at "rd"
      exact ⟨_, rfl, fun b o q => e3 b o (ne_of_none (e1 b o q) hd0) (e2 b o (e1 b o q))⟩
    rintro σ' H1 ⟨x1, rfl, e1⟩
    walk_at "rd"
    refine ⟨by show 17 ≤ sizeLine; decide, fun L hL => ?_⟩
    have hL2 : upd H1 L (.lst (wrongs.map V.str)) L = some (.lst (wrongs.map V.str)) := upd_same
    rw [show [V.str "", V.str "-0", V.str "+1", V.str "p^1", V.str "p^0", V.str "1p", V.str "0p", V.str "p + 0", V.str "1 + p", V.str "p^2 + p^2", V.str "p^400", V.str "p ^2", V.str "--1", V.str "1 1", V.str "-", V.str " p", V.str "p "] = wrongs.map V.str from rfl]
    generalize upd H1 L (.lst (wrongs.map V.str)) = H2 at hL2 ⊢
    have wl : wrongs.length = 17 := rfl
    walk_at "rd"
    refine g_lc (g_ilist ?_)
    walk_at "rd"
    refine ⟨L, rfl, ⟨_, SqL.of hL2⟩, fun D hD => lc_rel (walk_list (xs := wrongs.map V.str)) (RNo K) (fun _ => true) rno_mono hD (fun H' e => sqL_ext e (SqL.of hL2)) (by rw [List.length_map, wl]; show 17 < sizeLine; decide) (fun i x H' H'' hi e hy Qe Qn he hn => ?_) (fun H3 ys e3 hd3 hr3 => ?_)⟩
    · obtain ⟨rfl, hx⟩ := hy
      rw [List.getElem?_map] at hx
      obtain ⟨t, ht, rfl⟩ := Option.map_eq_some_iff.mp hx
      have htm := List.mem_of_getElem? ht
      have htl : t.length ≤ 100000 := by
        have : (wrongs.all fun t => decide (t.length ≤ 100000)) = true := by decide +kernel
        exact of_decide_eq_true (List.all_eq_true.mp this t htm)
      refine ⟨rfl, ?_⟩
      walk_at "rd"
      refine ⟨.str t, rfl, .inl ⟨t, rfl, htl, fun ds hds H4 u e4 hu => ?_⟩⟩
      have := due_one hds (due_wrong t htm)
      subst this
      exact he _ H4 e4 (dp_no_inv hu) rfl
    · have hys : DpAll K H3 ys (List.replicate 17 noD) := by
        have h1 : ys.length = 17 := by
          have := hr3.1
          rw [Q0.idx_all, List.length_range, List.length_map, wl] at this
          exact this.symm
        refine rno_all h1 fun y hy => ?_
        obtain ⟨j, hj⟩ := List.getElem?_of_mem hy
        have hlt := (List.getElem?_eq_some_iff.mp hj).1
        exact hr3.2 j j y (by rw [Q0.idx_all, List.length_map, wl, List.getElem?_range (by omega)]) hj
      have hL3 := e3 _ _ hL2
      dsimp only
      walk_at "rd"
      refine ⟨by show 2 ≤ sizeLine; decide, fun t ht => ?_⟩
      have et := Ext.new (o := HO.tup [V.str (Str.ofString "no"), V.int 0]) ht
      have ht2 : upd H3 t (.tup [V.str (Str.ofString "no"), V.int 0]) t = some (.tup [V.str (Str.ofString "no"), V.int 0]) := upd_same
      generalize upd H3 t (.tup [V.str (Str.ofString "no"), V.int 0]) = H4 at et ht2 ⊢
      walk_at "rd"
      refine ⟨by show 1 ≤ sizeLine; decide, fun m hm => ?_⟩
      have em := Ext.new (o := HO.lst [V.ref t]) hm
      have hm2 : upd H4 m (.lst [V.ref t]) m = some (.lst [V.ref t]) := upd_same
      generalize upd H4 m (.lst [V.ref t]) = H5 at em hm2 ⊢
      walk_at "rd"
      refine ⟨L, _, rfl, .inl (SqL.of (em _ _ (et _ _ hL3))), ?_⟩
      rw [List.length_map, wl]
      refine ⟨m, 17, [V.ref t], rfl, rfl, hm2, by decide, by decide, by show 1 * 17 ≤ sizeLine; decide, fun r hr => ?_⟩
      have er := Ext.new (o := HO.lst (List.replicate (17 : Int).toNat [V.ref t]).flatten) hr
      have e36 := Ext.trans et (Ext.trans em er)
      have hN : SeqAt.shaped (.list (List.replicate 17 noD)) = true ∧ PyData.eqv (.list (List.replicate 17 noD)) (.list (List.replicate 17 noD)) = true := ⟨by decide +kernel, by decide +kernel⟩
      refine ⟨.list (List.replicate 17 noD), .list (List.replicate 17 noD), .lst (SqL.of (e36 _ _ hd3)) (dpAll_ext e36 hys), .lst (SqL.of upd_same) ?_, hN.1, hN.1, ?_⟩
      · rw [flat_one]
        refine rno_all (by simp) fun y hy => ?_
        rw [List.eq_of_mem_replicate hy]
        exact ⟨t, rfl, SqT.of (er _ _ (em _ _ ht2))⟩
      rw [hN.2]
      generalize upd H5 r (.lst (List.replicate (17 : Int).toNat [V.ref t]).flatten) = H6
      walk_at "rd"
      refine ⟨57, 60, by rw [show ("9" : Str) = ⟨#[57]⟩ by decide +kernel], rfl, by decide, by decide, fun gr hgr => ?_⟩
      have hgr : tl gr = List.replicate 60 57 := hgr
      have grl : gr.length = 60 := by rw [len_tl, hgr, List.length_replicate]
      have l1 : ("p^399 - 1" : Str).length = 9 := by decide +kernel
      have l2 : ("1" : Str).length = 1 := by decide +kernel
      have t2 : tl ("1" : Str) = [49] := by decide +kernel
      walk_at "rd"
      refine ⟨_, _, rfl, rfl, by rw [grl, l1]; omega, ?_⟩
      walk_at "rd"
      refine ⟨_, rfl, .inl ⟨_, rfl, by rw [len_app, grl, l1]; omega, fun d1 hd1 H7 b1 f1 hb1 => ?_⟩⟩
      have q1 := due_one hd1 (by rw [tl_append, hgr]; exact due_big)
      subst q1
      walk_at "rd"
      refine ⟨_, _, rfl, rfl, by rw [grl, l2]; omega, ?_⟩
      walk_at "rd"
      refine ⟨_, rfl, .inl ⟨_, rfl, by rw [len_app, grl, l2]; omega, fun d2 hd2 H8 b2 f2 hb2 => ?_⟩⟩
      have q2 := due_one hd2 (by rw [tl_append, hgr, t2]; exact due_long)
      subst q2
      walk_at "rd"
      refine ⟨_, rfl, .inl ⟨_, rfl, by decide +kernel, fun d3 hd3' H9 b3 f3 hb3 => ?_⟩⟩
      have q3 := due_one hd3' due_zero
      subst q3
      walk_at "rd"
      refine ⟨_, rfl, .inl ⟨_, rfl, by decide +kernel, fun d4 hd4 H10 b4 f4 hb4 => ?_⟩⟩
      have q4 := due_one hd4 due_minus
      subst q4
      walk_at "rd"
      refine ⟨_, rfl, .inl ⟨_, rfl, by decide +kernel, fun d5 hd5 H11 b5 f5 hb5 => ?_⟩⟩
      have q5 := due_one hd5 due_ten
      subst q5
      walk_at "rd"
      refine ⟨by show 5 ≤ sizeLine; decide, fun M hM => ?_⟩
      have fM := Ext.new (o := HO.lst [V.ref b1, V.ref b2, V.ref b3, V.ref b4, V.ref b5]) hM
      have hM1 : Dp K (upd H11 M (.lst [V.ref b1, V.ref b2, V.ref b3, V.ref b4, V.ref b5])) (.ref M) toldD := by
        have g5 := dp_ext fM hb5
        have g4 := dp_ext (Ext.trans f5 fM) hb4
        have g3 := dp_ext (Ext.trans f4 (Ext.trans f5 fM)) hb3
        have g2 := dp_ext (Ext.trans f3 (Ext.trans f4 (Ext.trans f5 fM))) hb2
        have g1 := dp_ext (Ext.trans f2 (Ext.trans f3 (Ext.trans f4 (Ext.trans f5 fM)))) hb1
        exact .lst (SqL.of upd_same) (.cons g1 (.cons g2 (.cons g3 (.cons g4 (.cons g5 .nil)))))
      generalize upd H11 M (.lst [V.ref b1, V.ref b2, V.ref b3, V.ref b4, V.ref b5]) = H12 at hM1 ⊢
      walk_at "rd"
      refine ⟨by show 1 ≤ sizeLine; decide, fun o1 ho1 => ?_⟩
      have g1 := Ext.new (o := HO.tup [V.int (-1)]) ho1
      have s1 : SqT K (upd H12 o1 (.tup [V.int (-1)])) o1 [V.int (-1)] := SqT.of upd_same
      generalize upd H12 o1 (.tup [V.int (-1)]) = H13 at g1 s1 ⊢
      walk_at "rd"
      refine ⟨by show 1 ≤ sizeLine; decide, fun o2 ho2 => ?_⟩
      have g2 := Ext.new (o := HO.tup [V.int 0]) ho2
      have s2 : SqT K (upd H13 o2 (.tup [V.int 0])) o2 [V.int 0] := SqT.of upd_same
      generalize upd H13 o2 (.tup [V.int 0]) = H14 at g2 s2 ⊢
      walk_at "rd"
      refine g_repA (n := 398) s2 (by decide) (by decide) fun H15 o3 g3 s3 => ?_
      refine g_catA (sqT_ext (Ext.trans g2 g3) s1) s3 (by rw [List.length_map, List.length_replicate]; show 1 + 398 ≤ sizeLine; decide) fun H16 o4 g4 s4 => ?_
      walk_at "rd"
      refine g_I ⟨by decide, by decide, by decide⟩ ?_
      walk_at "rd"
      refine ⟨by show 1 ≤ sizeLine; decide, fun o5 ho5 => ?_⟩
      have g5 := Ext.new (o := HO.tup [V.int (10 ^ (60 : Int).toNat - 1)]) ho5
      have s5 : SqT K (upd H16 o5 (.tup [V.int (10 ^ (60 : Int).toNat - 1)])) o5 [V.int (10 ^ (60 : Int).toNat - 1)] := SqT.of upd_same
      generalize upd H16 o5 (.tup [V.int (10 ^ (60 : Int).toNat - 1)]) = H17 at g5 s5 ⊢
      walk_at "rd"
      refine g_catA (sqT_ext g5 s4) s5 (by rw [List.length_append, List.length_map, List.length_replicate]; show 1 + 398 + 1 ≤ sizeLine; decide) fun H18 o6 g6 s6 => ?_
      walk_at "rd"
      refine ⟨by show 2 ≤ sizeLine; decide, fun o7 ho7 => ?_⟩
      have g7 := Ext.new (o := HO.tup [V.str (Str.ofString "no"), V.int 0]) ho7
      have s7 : SqT K (upd H18 o7 (.tup [V.str (Str.ofString "no"), V.int 0])) o7 [V.str (Str.ofString "no"), V.int 0] := SqT.of upd_same
      generalize upd H18 o7 (.tup [V.str (Str.ofString "no"), V.int 0]) = H19 at g7 s7 ⊢
      walk_at "rd"
      refine ⟨by show 0 ≤ sizeLine; decide, fun o8 ho8 => ?_⟩
      have g8 := Ext.new (o := HO.tup []) ho8
      have s8 : SqT K (upd H19 o8 (.tup [])) o8 [] := SqT.of upd_same
      generalize upd H19 o8 (.tup []) = H20 at g8 s8 ⊢
      walk_at "rd"
      refine ⟨by show 2 ≤ sizeLine; decide, fun o9 ho9 => ?_⟩
      have g9 := Ext.new (o := HO.tup [V.int 0, V.int (-1)]) ho9
      have s9 : SqT K (upd H20 o9 (.tup [V.int 0, V.int (-1)])) o9 [V.int 0, V.int (-1)] := SqT.of upd_same
      generalize upd H20 o9 (.tup [V.int 0, V.int (-1)]) = H21 at g9 s9 ⊢
      walk_at "rd"
      refine ⟨by show 2 ≤ sizeLine; decide, fun o10 ho10 => ?_⟩
      have g10 := Ext.new (o := HO.tup [V.int 1, V.int (-10)]) ho10
      have s10 : SqT K (upd H21 o10 (.tup [V.int 1, V.int (-10)])) o10 [V.int 1, V.int (-10)] := SqT.of upd_same
      generalize upd H21 o10 (.tup [V.int 1, V.int (-10)]) = H22 at g10 s10 ⊢
      walk_at "rd"
      refine ⟨by show 1 ≤ sizeLine; decide, fun o11 ho11 => ?_⟩
      have g11 := Ext.new (o := HO.tup [V.int 0]) ho11
      have s11 : SqT K (upd H22 o11 (.tup [V.int 0])) o11 [V.int 0] := SqT.of upd_same
      generalize upd H22 o11 (.tup [V.int 0]) = H23 at g11 s11 ⊢
      walk_at "rd"
      refine g_repA (n := 8) s11 (by decide) (by decide) fun H24 o12 g12 s12 => ?_
      refine g_catA (sqT_ext (Ext.trans g11 g12) s10) s12 (by rw [List.length_map, List.length_replicate]; show 2 + 8 ≤ sizeLine; decide) fun H25 o13 g13 s13 => ?_
      walk_at "rd"
      refine ⟨by show 1 ≤ sizeLine; decide, fun o14 ho14 => ?_⟩
      have g14 := Ext.new (o := HO.tup [V.int 1]) ho14
      have s14 : SqT K (upd H25 o14 (.tup [V.int 1])) o14 [V.int 1] := SqT.of upd_same
      generalize upd H25 o14 (.tup [V.int 1]) = H26 at g14 s14 ⊢
      walk_at "rd"
      refine g_catA (sqT_ext g14 s13) s14 (by rw [List.length_append, List.length_map, List.length_replicate]; show 2 + 8 + 1 ≤ sizeLine; decide) fun H27 o15 g15 s15 => ?_
      walk_at "rd"
      refine ⟨by show 5 ≤ sizeLine; decide, fun N hN => ?_⟩
      have gN := Ext.new (o := HO.lst [V.ref o6, V.ref o7, V.ref o8, V.ref o9, V.ref o15]) hN
      have k9 : Ext H21 H27 := Ext.trans g10 (Ext.trans g11 (Ext.trans g12 (Ext.trans g13 (Ext.trans g14 g15))))
      have k8 := Ext.trans g9 k9
      have k7 := Ext.trans g8 k8
      have k6 := Ext.trans g7 k7
      have k0 : Ext H12 H27 := Ext.trans g1 (Ext.trans g2 (Ext.trans g3 (Ext.trans g4 (Ext.trans g5 (Ext.trans g6 k6)))))
      have eB : (([V.int (-1)] ++ (List.replicate (398 : Int).toNat (0 : Int)).map V.int) ++ [V.int (10 ^ (60 : Int).toNat - 1)]) = bigN.map V.int := by
        unfold bigN
        rw [List.map_append]
        rfl
      have eT : (([V.int 1, V.int (-10)] ++ (List.replicate (8 : Int).toNat (0 : Int)).map V.int) ++ [V.int 1]) = tenN.map V.int := by
        unfold tenN
        rw [List.map_append, List.map_append]
        rfl
      rw [eB] at s6
      rw [eT] at s15
      have hN1 : Dp K (upd H27 N (.lst [V.ref o6, V.ref o7, V.ref o8, V.ref o9, V.ref o15])) (.ref N) toldD := by
        have u6 := dp_tup (sqT_ext (Ext.trans k6 gN) s6)
        have u7 := dp_no (sqT_ext (Ext.trans k7 gN) s7)
        have u8 : Dp K _ (.ref o8) (.tuple (idata [])) := dp_tup (ns := []) (sqT_ext (Ext.trans k8 gN) s8)
        have u9 : Dp K _ (.ref o9) (.tuple (idata [0, -1])) := dp_tup (ns := [0, -1]) (sqT_ext (Ext.trans k9 gN) s9)
        have u15 := dp_tup (sqT_ext gN s15)
        exact .lst (SqL.of upd_same) (.cons u6 (.cons u7 (.cons u8 (.cons u9 (.cons u15 .nil)))))
      have hM2 := dp_ext (Ext.trans k0 gN) hM1
      generalize upd H27 N (.lst [V.ref o6, V.ref o7, V.ref o8, V.ref o9, V.ref o15]) = H28 at hM2 hN1 ⊢
      walk_at "rd"
      refine ⟨toldD, toldD, hM2, hN1, told_ok.1, told_ok.1, ?_⟩
      rw [told_ok.2]
      refine ⟨true, rfl, iteT ?_⟩
      walk_at "rd"
      refine g_mkP (ns := [-1, 1, -1]) (fun Q0 k0 => ?_) (by decide) (fun n hn => by
        simp only [List.mem_cons, List.not_mem_nil, or_false] at hn
        rcases hn with rfl | rfl | rfl <;> exact ⟨by decide, by decide⟩) fun H29 p u ep hp => ?_
      · walk_at "rd"
        exact ⟨by show 3 ≤ sizeLine; decide, fun t ht => k0 _ _ (Ext.new ht) (SqT.of upd_same)⟩
      rw [show trim [-1, 1, -1] = [-1, 1, -1] by decide] at hp
      obtain ⟨⟨dx, hpi⟩, _, _⟩ := id hp
      walk_at "rd"
      refine ⟨p, dx, _, rfl, hpi, p, u, [-1, 1, -1], rfl, hp, by decide, fun n hn => ?_, fun H30 y ey hy _ => ⟨y, rfl, ?_⟩⟩
      · simp only [List.mem_cons, List.not_mem_nil, or_false] at hn
        rcases hn with rfl | rfl | rfl <;> decide
      have : y = ("-p^2 + p - 1" : Str) := str_tl (by rw [hy, row_last])
      subst this
      walk_at "rd"
      refine ⟨rfl, ?_⟩
      rw [decide_eq_true rfl]
      exact k _
end
end

/-! What the top has written. -/

section
open PySem PySem.Spec PyProof.Rows L2 Gd
open LamX (Tabs TabB TabS ExtN)
/-- an error of the class at S, an except clause that names U -/
theorem exm_one {K : PySem.W.Frag} {S U : Addr} {b : Bool} (h1 : PySem.W.subIn K (.ref U) (.type "BaseException") = some true) (h2 : PySem.W.isClsIn K U = true) (h3 : PySem.W.typeIn K (.ref U) = some (.type "type")) (h4 : PySem.W.subIn K (.ref S) (.ref U) = some b) :
    PySem.W.exmOne K (.ref S) (.ref U) = some b := by
  have h2' : (PySem.W.clsIn K U).isSome = true := h2
  simp [PySem.W.exmOne, PySem.W.kitCls, h1, h2', h3, h4]
theorem kit_self {K : PySem.W.Frag} {C : Addr} : PySem.W.kitOne K (.ref C) (.ref C) = some true := by
  unfold PySem.W.kitOne
  simp
theorem kit_own {K : PySem.W.Frag} {C D : Addr} {b : Bool} (n : C ≠ D) (h : PySem.W.isClsIn K D = true) (ht : PySem.W.typeIn K (.ref D) = some (.type "type")) (hs : PySem.W.subIn K (.ref C) (.ref D) = some b) : PySem.W.kitOne K (.ref C) (.ref D) = some b := by
  have h' : (PySem.W.clsIn K D).isSome = true := h
  have e : (Value.ref C == Value.ref D) = false := by simpa using n
  simp [PySem.W.kitOne, PySem.W.kitCls, e, h', ht, hs]
theorem kit_ty {K : PySem.W.Frag} {C : Addr} {T : String} {b : Bool} (hT : PySem.W.kitMeta T = true) (hs : PySem.W.subIn K (.ref C) (.type T) = some b) : PySem.W.kitOne K (.ref C) (.type T) = some b := by
  have e : (Value.ref C == Value.type T) = false := rfl
  simp [PySem.W.kitOne, PySem.W.kitCls, e, hT, hs]
theorem kit_not {K : PySem.W.Frag} {C : Addr} {T : String} (h : PySem.W.isClsIn K C = true) (ht : PySem.W.typeIn K (.ref C) = some (.type "type")) (hs : PySem.W.subIn K (.type T) (.ref C) = some false) : PySem.W.kitOne K (.type T) (.ref C) = some false := by
  have h' : (PySem.W.clsIn K C).isSome = true := h
  have e : (Value.type T == Value.ref C) = false := rfl
  simp [PySem.W.kitOne, PySem.W.kitCls, e, h', ht, hs]
theorem of_len1 {us : List Value} (hl : us.length = 1) : ∃ a, us = [a] := List.length_eq_one_iff.mp hl
theorem of_lenS {us : List Value} {n : Nat} (hl : us.length = n + 1) : ∃ a t, us = a :: t ∧ t.length = n := by
  cases us with
  | nil => exact absurd hl (Nat.succ_ne_zero n).symm
  | cons a us => exact ⟨a, us, rfl, Nat.succ.inj hl⟩
theorem of_len2 {us : List Value} (hl : us.length = 2) : ∃ a b, us = [a, b] := by
  obtain ⟨a, t, rfl, h⟩ := of_lenS hl
  obtain ⟨b, rfl⟩ := of_len1 h
  exact ⟨a, b, rfl⟩
theorem of_len3 {us : List Value} (hl : us.length = 3) : ∃ a b c, us = [a, b, c] := by
  obtain ⟨a, t, rfl, h⟩ := of_lenS hl
  obtain ⟨b, c, rfl⟩ := of_len2 h
  exact ⟨a, b, c, rfl⟩
theorem of_len4 {us : List Value} (hl : us.length = 4) : ∃ a b c d, us = [a, b, c, d] := by
  obtain ⟨a, t, rfl, h⟩ := of_lenS hl
  obtain ⟨b, c, d, rfl⟩ := of_len3 h
  exact ⟨a, b, c, d, rfl⟩
theorem of_len5 {us : List Value} (hl : us.length = 5) : ∃ a b c d e, us = [a, b, c, d, e] := by
  obtain ⟨a, t, rfl, h⟩ := of_lenS hl
  obtain ⟨b, c, d, e, rfl⟩ := of_len4 h
  exact ⟨a, b, c, d, e, rfl⟩
theorem all_mk {l : PySem.W.OpenLaw} {w : World} {K : PySem.W.Frag} {h : Heap} {mg : Str → Option Value} {fa fWh fIn fTr fTe fSg fRw fRh fRt fRr fDi fRo fPi fLt fLf fLx fLr fLg fLm fTk fDu fNe fRg fLa C fI0 TI0 tI0 fSt fFa pFa fRd pRd CKx CPx fPx qPx : Addr} (X : K.In h) (G : h.Ns mainGlobals mg) (hfa : mg "law" = some (.ref fa))
    {odWh anWh : Option Addr} {slWh : Array (Option Value)} {ocWh kVWh dcWh pmWh cdWh ctWh : Value}
    {odIn anIn : Option Addr} {slIn : Array (Option Value)} {ocIn kVIn dcIn pmIn cdIn ctIn : Value}
    {odTr anTr : Option Addr} {slTr : Array (Option Value)} {ocTr kVTr dcTr pmTr cdTr ctTr : Value}
    {odTe anTe : Option Addr} {slTe : Array (Option Value)} {ocTe kVTe dcTe pmTe cdTe ctTe : Value}
    {odSg anSg : Option Addr} {slSg : Array (Option Value)} {ocSg kVSg dcSg pmSg cdSg ctSg : Value}
    {odRw anRw : Option Addr} {slRw : Array (Option Value)} {ocRw kVRw dcRw pmRw cdRw ctRw : Value}
    {odRh anRh : Option Addr} {slRh : Array (Option Value)} {ocRh kVRh dcRh pmRh cdRh ctRh : Value}
    {odRt anRt : Option Addr} {slRt : Array (Option Value)} {ocRt kVRt dcRt pmRt cdRt ctRt : Value}
    {odRr anRr : Option Addr} {slRr : Array (Option Value)} {ocRr kVRr dcRr pmRr cdRr ctRr : Value}
    {odDi anDi : Option Addr} {slDi : Array (Option Value)} {ocDi kVDi dcDi pmDi cdDi ctDi : Value}
    {odRo anRo : Option Addr} {slRo : Array (Option Value)} {ocRo kVRo dcRo pmRo cdRo ctRo : Value}
    {odPi anPi : Option Addr} {slPi : Array (Option Value)} {ocPi kVPi dcPi pmPi cdPi ctPi : Value}
    {odLt anLt : Option Addr} {slLt : Array (Option Value)} {ocLt kVLt dcLt pmLt cdLt ctLt : Value}
    {odLf anLf : Option Addr} {slLf : Array (Option Value)} {ocLf kVLf dcLf pmLf cdLf ctLf : Value}
    {odLx anLx : Option Addr} {slLx : Array (Option Value)} {ocLx kVLx dcLx pmLx cdLx ctLx : Value}
    {odLr anLr : Option Addr} {slLr : Array (Option Value)} {ocLr kVLr dcLr pmLr cdLr ctLr : Value}
    {odLg anLg : Option Addr} {slLg : Array (Option Value)} {ocLg kVLg dcLg pmLg cdLg ctLg : Value}
    {odLm anLm : Option Addr} {slLm : Array (Option Value)} {ocLm kVLm dcLm pmLm cdLm ctLm : Value}
    {odTk anTk : Option Addr} {slTk : Array (Option Value)} {ocTk kVTk dcTk pmTk cdTk ctTk : Value}
    {odDu anDu : Option Addr} {slDu : Array (Option Value)} {ocDu kVDu dcDu pmDu cdDu ctDu : Value}
    {odNe anNe : Option Addr} {slNe : Array (Option Value)} {ocNe kVNe dcNe pmNe cdNe ctNe : Value}
    {odRg anRg : Option Addr} {slRg : Array (Option Value)} {ocRg kVRg dcRg pmRg cdRg ctRg : Value}
    {odLa anLa : Option Addr} {slLa : Array (Option Value)} {ocLa kVLa dcLa pmLa cdLa ctLa : Value}
    {odI0 anI0 : Option Addr} {slI0 : Array (Option Value)} {ocI0 kVI0 dcI0 pmI0 cdI0 ctI0 : Value}
    {o1I0 : Value} {o2I0 : Option Addr} {o3I0 : Nat} {o4I0 : Array (Option Value)} {o6I0 : Nat} {o7I0 : Array (Option Value)}
    {odSt anSt : Option Addr} {slSt : Array (Option Value)} {ocSt kVSt dcSt pmSt cdSt ctSt : Value}
    {restFa : List Value}
    {odFa anFa : Option Addr} {slFa : Array (Option Value)} {ocFa kVFa dcFa pmFa cdFa ctFa : Value}
    {restRd : List Value}
    {odRd anRd : Option Addr} {slRd : Array (Option Value)} {ocRd kVRd dcRd pmRd cdRd ctRd : Value}
    {tkBOUND : Tok}
    {tkMAX_FACTORS : Tok}
    {tkMAX_DIGITS : Tok}
    {nmP qP : Str} {bsP : List Value} {snP : List Str} {subP : List Value} {abP : Bool} {colP : Option Bool} {ddP : Option Addr} {m0P m1P m2P m3P m5P : Option Value} {odxP anxP : Option Addr} {slxP : Array (Option Value)} {ocxP dcxP pmxP cdxP ctxP : Value} {q1P q2P q3P q4P q5P q6P : Pos}
    (aWh : PySem.W.nsIn K mainGlobals "is_whole" = some (some (.ref fWh)))
    (lWh : K.lookup fWh = some ⟨ocWh, odWh, .func (PySem.W.fnOf "is_whole" "is_whole" (defArgs (sWhole)) (defBody (sWhole)) (defScope (sWhole)) .none kVWh dcWh pmWh anWh cdWh ctWh), slWh⟩)
    (cWh_ : PySem.W.codeIn K cdWh "is_whole" = true)
    (kWh : PySem.W.keepIn K (.ref fWh) = true)
    (aIn : PySem.W.nsIn K mainGlobals "is_integer" = some (some (.ref fIn)))
    (lIn : K.lookup fIn = some ⟨ocIn, odIn, .func (PySem.W.fnOf "is_integer" "is_integer" (defArgs (sInteger)) (defBody (sInteger)) (defScope (sInteger)) .none kVIn dcIn pmIn anIn cdIn ctIn), slIn⟩)
    (cIn_ : PySem.W.codeIn K cdIn "is_integer" = true)
    (kIn : PySem.W.keepIn K (.ref fIn) = true)
    (aTr : PySem.W.nsIn K mainGlobals "trimmed" = some (some (.ref fTr)))
    (lTr : K.lookup fTr = some ⟨ocTr, odTr, .func (PySem.W.fnOf "trimmed" "trimmed" (defArgs (sTrimmed)) (defBody (sTrimmed)) (defScope (sTrimmed)) .none kVTr dcTr pmTr anTr cdTr ctTr), slTr⟩)
    (cTr_ : PySem.W.codeIn K cdTr "trimmed" = true)
    (kTr : PySem.W.keepIn K (.ref fTr) = true)
    (aTe : PySem.W.nsIn K mainGlobals "term_text" = some (some (.ref fTe)))
    (lTe : K.lookup fTe = some ⟨ocTe, odTe, .func (PySem.W.fnOf "term_text" "term_text" (defArgs (sTerm)) (defBody (sTerm)) (defScope (sTerm)) .none kVTe dcTe pmTe anTe cdTe ctTe), slTe⟩)
    (cTe_ : PySem.W.codeIn K cdTe "term_text" = true)
    (kTe : PySem.W.keepIn K (.ref fTe) = true)
    (aSg : PySem.W.nsIn K mainGlobals "sign_text" = some (some (.ref fSg)))
    (lSg : K.lookup fSg = some ⟨ocSg, odSg, .func (PySem.W.fnOf "sign_text" "sign_text" (defArgs (sSign)) (defBody (sSign)) (defScope (sSign)) .none kVSg dcSg pmSg anSg cdSg ctSg), slSg⟩)
    (cSg_ : PySem.W.codeIn K cdSg "sign_text" = true)
    (kSg : PySem.W.keepIn K (.ref fSg) = true)
    (aRw : PySem.W.nsIn K mainGlobals "row_text" = some (some (.ref fRw)))
    (lRw : K.lookup fRw = some ⟨ocRw, odRw, .func (PySem.W.fnOf "row_text" "row_text" (defArgs (sRowTx)) (defBody (sRowTx)) (defScope (sRowTx)) .none kVRw dcRw pmRw anRw cdRw ctRw), slRw⟩)
    (cRw_ : PySem.W.codeIn K cdRw "row_text" = true)
    (kRw : PySem.W.keepIn K (.ref fRw) = true)
    (aRh : PySem.W.nsIn K mainGlobals "read_whole" = some (some (.ref fRh)))
    (lRh : K.lookup fRh = some ⟨ocRh, odRh, .func (PySem.W.fnOf "read_whole" "read_whole" (defArgs (sRdW)) (defBody (sRdW)) (defScope (sRdW)) .none kVRh dcRh pmRh anRh cdRh ctRh), slRh⟩)
    (cRh_ : PySem.W.codeIn K cdRh "read_whole" = true)
    (kRh : PySem.W.keepIn K (.ref fRh) = true)
    (aRt : PySem.W.nsIn K mainGlobals "read_term" = some (some (.ref fRt)))
    (lRt : K.lookup fRt = some ⟨ocRt, odRt, .func (PySem.W.fnOf "read_term" "read_term" (defArgs (sRdT)) (defBody (sRdT)) (defScope (sRdT)) .none kVRt dcRt pmRt anRt cdRt ctRt), slRt⟩)
    (cRt_ : PySem.W.codeIn K cdRt "read_term" = true)
    (kRt : PySem.W.keepIn K (.ref fRt) = true)
    (aRr : PySem.W.nsIn K mainGlobals "read_row" = some (some (.ref fRr)))
    (lRr : K.lookup fRr = some ⟨ocRr, odRr, .func (PySem.W.fnOf "read_row" "read_row" (defArgs (sRR)) (defBody (sRR)) (defScope (sRR)) .none kVRr dcRr pmRr anRr cdRr ctRr), slRr⟩)
    (cRr_ : PySem.W.codeIn K cdRr "read_row" = true)
    (kRr : PySem.W.keepIn K (.ref fRr) = true)
    (aDi : PySem.W.nsIn K mainGlobals "_law_dice" = some (some (.ref fDi)))
    (lDi : K.lookup fDi = some ⟨ocDi, odDi, .func (PySem.W.fnOf "_law_dice" "_law_dice" (defArgs (sDice)) (defBody (sDice)) (defScope (sDice)) .none kVDi dcDi pmDi anDi cdDi ctDi), slDi⟩)
    (cDi_ : PySem.W.codeIn K cdDi "_law_dice" = true)
    (kDi : PySem.W.keepIn K (.ref fDi) = true)
    (aRo : PySem.W.nsIn K mainGlobals "_law_roll" = some (some (.ref fRo)))
    (lRo : K.lookup fRo = some ⟨ocRo, odRo, .func (PySem.W.fnOf "_law_roll" "_law_roll" (defArgs (sRoll)) (defBody (sRoll)) (defScope (sRoll)) .none kVRo dcRo pmRo anRo cdRo ctRo), slRo⟩)
    (cRo_ : PySem.W.codeIn K cdRo "_law_roll" = true)
    (kRo : PySem.W.keepIn K (.ref fRo) = true)
    (aPi : PySem.W.nsIn K mainGlobals "_law_pick" = some (some (.ref fPi)))
    (lPi : K.lookup fPi = some ⟨ocPi, odPi, .func (PySem.W.fnOf "_law_pick" "_law_pick" (defArgs (sPick)) (defBody (sPick)) (defScope (sPick)) .none kVPi dcPi pmPi anPi cdPi ctPi), slPi⟩)
    (cPi_ : PySem.W.codeIn K cdPi "_law_pick" = true)
    (kPi : PySem.W.keepIn K (.ref fPi) = true)
    (aLt : PySem.W.nsIn K mainGlobals "_law_trimmed" = some (some (.ref fLt)))
    (lLt : K.lookup fLt = some ⟨ocLt, odLt, .func (PySem.W.fnOf "_law_trimmed" "_law_trimmed" (defArgs (sLTrim)) (defBody (sLTrim)) (defScope (sLTrim)) .none kVLt dcLt pmLt anLt cdLt ctLt), slLt⟩)
    (cLt_ : PySem.W.codeIn K cdLt "_law_trimmed" = true)
    (kLt : PySem.W.keepIn K (.ref fLt) = true)
    (aLf : PySem.W.nsIn K mainGlobals "_law_factors" = some (some (.ref fLf)))
    (lLf : K.lookup fLf = some ⟨ocLf, odLf, .func (PySem.W.fnOf "_law_factors" "_law_factors" (defArgs (sFactors)) (defBody (sFactors)) (defScope (sFactors)) .none kVLf dcLf pmLf anLf cdLf ctLf), slLf⟩)
    (cLf_ : PySem.W.codeIn K cdLf "_law_factors" = true)
    (kLf : PySem.W.keepIn K (.ref fLf) = true)
    (aLx : PySem.W.nsIn K mainGlobals "_law_poly_text" = some (some (.ref fLx)))
    (lLx : K.lookup fLx = some ⟨ocLx, odLx, .func (PySem.W.fnOf "_law_poly_text" "_law_poly_text" (defArgs (sLTx)) (defBody (sLTx)) (defScope (sLTx)) .none kVLx dcLx pmLx anLx cdLx ctLx), slLx⟩)
    (cLx_ : PySem.W.codeIn K cdLx "_law_poly_text" = true)
    (kLx : PySem.W.keepIn K (.ref fLx) = true)
    (aLr : PySem.W.nsIn K mainGlobals "_law_read" = some (some (.ref fLr)))
    (lLr : K.lookup fLr = some ⟨ocLr, odLr, .func (PySem.W.fnOf "_law_read" "_law_read" (defArgs (sLRd)) (defBody (sLRd)) (defScope (sLRd)) .none kVLr dcLr pmLr anLr cdLr ctLr), slLr⟩)
    (cLr_ : PySem.W.codeIn K cdLr "_law_read" = true)
    (kLr : PySem.W.keepIn K (.ref fLr) = true)
    (aLg : PySem.W.nsIn K mainGlobals "_law_digits" = some (some (.ref fLg)))
    (lLg : K.lookup fLg = some ⟨ocLg, odLg, .func (PySem.W.fnOf "_law_digits" "_law_digits" (defArgs (sLDg)) (defBody (sLDg)) (defScope (sLDg)) .none kVLg dcLg pmLg anLg cdLg ctLg), slLg⟩)
    (cLg_ : PySem.W.codeIn K cdLg "_law_digits" = true)
    (kLg : PySem.W.keepIn K (.ref fLg) = true)
    (aLm : PySem.W.nsIn K mainGlobals "_law_term" = some (some (.ref fLm)))
    (lLm : K.lookup fLm = some ⟨ocLm, odLm, .func (PySem.W.fnOf "_law_term" "_law_term" (defArgs (sLTm)) (defBody (sLTm)) (defScope (sLTm)) .none kVLm dcLm pmLm anLm cdLm ctLm), slLm⟩)
    (cLm_ : PySem.W.codeIn K cdLm "_law_term" = true)
    (kLm : PySem.W.keepIn K (.ref fLm) = true)
    (aTk : PySem.W.nsIn K mainGlobals "_law_taken" = some (some (.ref fTk)))
    (lTk : K.lookup fTk = some ⟨ocTk, odTk, .func (PySem.W.fnOf "_law_taken" "_law_taken" (defArgs (sTkn)) (defBody (sTkn)) (defScope (sTkn)) .none kVTk dcTk pmTk anTk cdTk ctTk), slTk⟩)
    (cTk_ : PySem.W.codeIn K cdTk "_law_taken" = true)
    (kTk : PySem.W.keepIn K (.ref fTk) = true)
    (aDu : PySem.W.nsIn K mainGlobals "_law_due" = some (some (.ref fDu)))
    (lDu : K.lookup fDu = some ⟨ocDu, odDu, .func (PySem.W.fnOf "_law_due" "_law_due" (defArgs (sDue)) (defBody (sDue)) (defScope (sDue)) .none kVDu dcDu pmDu anDu cdDu ctDu), slDu⟩)
    (cDu_ : PySem.W.codeIn K cdDu "_law_due" = true)
    (kDu : PySem.W.keepIn K (.ref fDu) = true)
    (aNe : PySem.W.nsIn K mainGlobals "_law_near" = some (some (.ref fNe)))
    (lNe : K.lookup fNe = some ⟨ocNe, odNe, .func (PySem.W.fnOf "_law_near" "_law_near" (defArgs (sNear)) (defBody (sNear)) (defScope (sNear)) .none kVNe dcNe pmNe anNe cdNe ctNe), slNe⟩)
    (cNe_ : PySem.W.codeIn K cdNe "_law_near" = true)
    (kNe : PySem.W.keepIn K (.ref fNe) = true)
    (aRg : PySem.W.nsIn K mainGlobals "_law_right" = some (some (.ref fRg)))
    (lRg : K.lookup fRg = some ⟨ocRg, odRg, .func (PySem.W.fnOf "_law_right" "_law_right" (defArgs (sRight)) (defBody (sRight)) (defScope (sRight)) .none kVRg dcRg pmRg anRg cdRg ctRg), slRg⟩)
    (cRg_ : PySem.W.codeIn K cdRg "_law_right" = true)
    (kRg : PySem.W.keepIn K (.ref fRg) = true)
    (aLa : PySem.W.nsIn K mainGlobals "law" = some (some (.ref fLa)))
    (lLa : K.lookup fLa = some ⟨ocLa, odLa, .func (PySem.W.fnOf "law" "law" (defArgs (sLaw)) (defBody (sLaw)) (defScope (sLaw)) .none kVLa dcLa pmLa anLa cdLa ctLa), slLa⟩)
    (cLa_ : PySem.W.codeIn K cdLa "law" = true)
    (kLa : PySem.W.keepIn K (.ref fLa) = true)
    (aC : PySem.W.nsIn K mainGlobals "Poly" = some (some (.ref C)))
    (pgC : PySem.W.plainGet K C Str.empty = true)
    (hdC : PySem.W.hasDictIn K C = true)
    (poC : PySem.W.plainOver K C = true)
    (saC : PySem.W.findIn K (.ref C) "__setattr__" = some (some (.builtin "object.__setattr__")))
    (mkC : PySem.W.makesIn K C = true)
    (kcC : PySem.W.keepIn K (.ref C) = true)
    (haC : PySem.W.findIn K (.ref C) "__class__" = some (some (.builtin "object.__class__")))
    (hmC : PySem.W.mroIn K C (.type "object") = some true)
    (ciC : PySem.W.isClsIn K C = true)
    (ctC : PySem.W.typeIn K (.ref C) = some (.type "type"))
    (neC : PySem.W.findIn K (.ref C) "__ne__" = some (some (.builtin "object.__ne__")))
    (no0C : PySem.W.findIn K (.ref C) "_factors" = some none)
    (hn : PySem.W.specialIn K (.builtin "object.__class__") "__get__" = some (some (.builtin "getset_descriptor.__get__")))
    (htk : PySem.W.takesIn K (.builtin "object.__class__") = some true)
    (sCs : PySem.W.subIn K (.ref C) (.type "str") = some false)
    (aI0 : PySem.W.findIn K (.ref C) "__init__" = some (some (.ref fI0)))
    (lI0 : K.lookup fI0 = some ⟨ocI0, odI0, .func (PySem.W.fnOf "__init__" "Poly.__init__" (defArgs (cls 0)) (defBody (cls 0)) (defScope (cls 0)) (.ref TI0) kVI0 dcI0 pmI0 anI0 cdI0 ctI0), slI0⟩)
    (cI0_ : PySem.W.codeIn K cdI0 "Poly.__init__" = true)
    (kI0 : PySem.W.keepIn K (.ref fI0) = true)
    (iI0 : PySem.W.isFn K (.ref fI0) = true)
    (LI0 : K.lookup TI0 = some ⟨o1I0, o2I0, .seq #[.ref tI0] o3I0, o4I0⟩)
    (mI0 : K.lookup tI0 = some ⟨.type "tuple", none, .seq #[] o6I0, o7I0⟩)
    (aSt : PySem.W.findIn K (.ref C) "__str__" = some (some (.ref fSt)))
    (lSt : K.lookup fSt = some ⟨ocSt, odSt, .func (PySem.W.fnOf "__str__" "Poly.__str__" (defArgs (cls 20)) (defBody (cls 20)) (defScope (cls 20)) .none kVSt dcSt pmSt anSt cdSt ctSt), slSt⟩)
    (cSt_ : PySem.W.codeIn K cdSt "Poly.__str__" = true)
    (kSt : PySem.W.keepIn K (.ref fSt) = true)
    (iSt : PySem.W.isFn K (.ref fSt) = true)
    (jSt : PySem.W.fnIn K fSt = true)
    (aFa : PySem.W.findIn K (.ref C) "factors" = some (some (.ref pFa)))
    (gFa : PySem.W.specialIn K (.ref pFa) "__get__" = some (some (.builtin "property.__get__")))
    (tFa_ : PySem.W.takesIn K (.ref pFa) = some true)
    (rFa : PySem.W.recIn K pFa "property" = some (.ref fFa :: restFa))
    (lFa : K.lookup fFa = some ⟨ocFa, odFa, .func (PySem.W.fnOf "factors" "Poly.factors" (defArgs (cls 2)) (defBody (cls 2)) (defScope (cls 2)) .none kVFa dcFa pmFa anFa cdFa ctFa), slFa⟩)
    (cFa_ : PySem.W.codeIn K cdFa "Poly.factors" = true)
    (kFa : PySem.W.keepIn K (.ref fFa) = true)
    (aRd : PySem.W.findIn K (.ref C) "read" = some (some (.ref pRd)))
    (rRd : PySem.W.recIn K pRd "classmethod" = some (.ref fRd :: restRd))
    (lRd : K.lookup fRd = some ⟨ocRd, odRd, .func (PySem.W.fnOf "read" "Poly.read" (defArgs (cls 1)) (defBody (cls 1)) (defScope (cls 1)) .none kVRd dcRd pmRd anRd cdRd ctRd), slRd⟩)
    (cRd_ : PySem.W.codeIn K cdRd "Poly.read" = true)
    (kRd : PySem.W.keepIn K (.ref fRd) = true)
    (uRd : PySem.W.fnIn K fRd = true)
    (wRd : PySem.W.readsIn K C (.type "type") = true)
    (gaC : PySem.W.specialIn K (.ref C) "__getattribute__" = some (some (.builtin "type.__getattribute__")))
    (xRd : PySem.W.findCls K (.ref C) (.type "type") "read" = some (.get (.builtin "classmethod.__get__") (.ref pRd) .none (.ref C)))
    (z_isinstance : PySem.W.nsIn K mainGlobals "isinstance" = some none)
    (z_int : PySem.W.nsIn K mainGlobals "int" = some none)
    (z_bool : PySem.W.nsIn K mainGlobals "bool" = some none)
    (z_str : PySem.W.nsIn K mainGlobals "str" = some none)
    (z_tuple : PySem.W.nsIn K mainGlobals "tuple" = some none)
    (z_list : PySem.W.nsIn K mainGlobals "list" = some none)
    (z_len : PySem.W.nsIn K mainGlobals "len" = some none)
    (z_all : PySem.W.nsIn K mainGlobals "all" = some none)
    (z_iter : PySem.W.nsIn K mainGlobals "iter" = some none)
    (z_max : PySem.W.nsIn K mainGlobals "max" = some none)
    (z_min : PySem.W.nsIn K mainGlobals "min" = some none)
    (z_abs : PySem.W.nsIn K mainGlobals "abs" = some none)
    (z_range : PySem.W.nsIn K mainGlobals "range" = some none)
    (z_repr : PySem.W.nsIn K mainGlobals "repr" = some none)
    (z_zip : PySem.W.nsIn K mainGlobals "zip" = some none)
    (v_BOUND : PySem.W.nsIn K mainGlobals "BOUND" = some (some (.int (10 ^ 60) tkBOUND)))
    (v_MAX_FACTORS : PySem.W.nsIn K mainGlobals "MAX_FACTORS" = some (some (.int (400) tkMAX_FACTORS)))
    (v_MAX_DIGITS : PySem.W.nsIn K mainGlobals "MAX_DIGITS" = some (some (.int (60) tkMAX_DIGITS)))
    (xCP : PySem.W.nsIn K mainGlobals "ParseError" = some (some (.ref CPx)))
    (xLP : K.lookup CPx = some (excClassObj nmP qP CPx qPx bsP [.ref CKx, .type "ValueError", .type "Exception", .type "BaseException", .type "object"] true snP subP abP colP ddP m0P m1P m2P m3P m5P "ValueError.__new__"))
    (xsaP : PySem.W.findIn K (.ref CPx) "__setattr__" = some (some (.builtin "object.__setattr__")))
    (xgaP : PySem.W.findIn K (.ref CPx) "__getattribute__" = some (some (.builtin "BaseException.__getattribute__")))
    (xggP : PySem.W.findIn K (.ref CPx) "__getattr__" = some none)
    (xnbP : PySem.W.findIn K (.ref CPx) "index" = some none)
    (xaP : PySem.W.findIn K (.ref CPx) "__init__" = some (some (.ref fPx)))
    (xtP : PySem.W.typeIn K (.ref fPx) = some (.type "function"))
    (xlP : K.lookup fPx = some ⟨ocxP, odxP, .func (PySem.W.fnOf "__init__" "ParseError.__init__" (PySem.XParseError.iA q1P q2P) (PySem.XParseError.iB q3P q4P q5P q6P) PySem.XParseError.iS .none .none dcxP pmxP anxP cdxP ctxP), slxP⟩)
    (xcP : PySem.W.codeIn K cdxP "ParseError.__init__" = true)
    (xkP : PySem.W.keepIn K (.ref CPx) = true)
    (xeP : PySem.W.subIn K (.ref CPx) (.type "BaseException") = some true)
    (xTP : PySem.W.typeIn K (.ref CPx) = some (.type "type"))
    (xhP : PySem.W.hasDictIn K CPx = true)
    (xiP : PySem.W.isClsIn K CPx = true)
    (xsP : PySem.W.subIn K (.ref CPx) (.ref CPx) = some true)
    : ∃ fd : FuncData, (∀ (s : Shared) (v : Value), BindsTo s fd ⟨[v], []⟩ [("_law_script", v)]) ∧ ∀ base : Heap, K.In base → base.Ns mainGlobals mg → FnG l.prog w K mg base CX0 9 fa fd ["_law_script"] (spLaw K) := by
  have e := hfa.symm.trans (PySem.W.mg_of X G aLa)
  cases e
  have FWh := fun_mk (st := sWhole) lWh cWh_ kWh
  have bWh := FWh.binds (ps := ["value"]) fun _ _ _ _ _ _ us hl => by obtain ⟨_, rfl⟩ := of_len1 hl; rfl
  have gWh_ := PySem.W.mg_of X G aWh
  have FIn := fun_mk (st := sInteger) lIn cIn_ kIn
  have bIn := FIn.binds (ps := ["value"]) fun _ _ _ _ _ _ us hl => by obtain ⟨_, rfl⟩ := of_len1 hl; rfl
  have gIn_ := PySem.W.mg_of X G aIn
  have FTr := fun_mk (st := sTrimmed) lTr cTr_ kTr
  have bTr := FTr.binds (ps := ["row"]) fun _ _ _ _ _ _ us hl => by obtain ⟨_, rfl⟩ := of_len1 hl; rfl
  have gTr_ := PySem.W.mg_of X G aTr
  have FTe := fun_mk (st := sTerm) lTe cTe_ kTe
  have bTe := FTe.binds (ps := ["many", "power"]) fun _ _ _ _ _ _ us hl => by obtain ⟨_, _, rfl⟩ := of_len2 hl; rfl
  have gTe_ := PySem.W.mg_of X G aTe
  have FSg := fun_mk (st := sSign) lSg cSg_ kSg
  have bSg := FSg.binds (ps := ["factor", "is_first"]) fun _ _ _ _ _ _ us hl => by obtain ⟨_, _, rfl⟩ := of_len2 hl; rfl
  have gSg_ := PySem.W.mg_of X G aSg
  have FRw := fun_mk (st := sRowTx) lRw cRw_ kRw
  have bRw := FRw.binds (ps := ["row"]) fun _ _ _ _ _ _ us hl => by obtain ⟨_, rfl⟩ := of_len1 hl; rfl
  have gRw_ := PySem.W.mg_of X G aRw
  have FRh := fun_mk (st := sRdW) lRh cRh_ kRh
  have bRh := FRh.binds (ps := ["word"]) fun _ _ _ _ _ _ us hl => by obtain ⟨_, rfl⟩ := of_len1 hl; rfl
  have gRh_ := PySem.W.mg_of X G aRh
  have FRt := fun_mk (st := sRdT) lRt cRt_ kRt
  have bRt := FRt.binds (ps := ["word"]) fun _ _ _ _ _ _ us hl => by obtain ⟨_, rfl⟩ := of_len1 hl; rfl
  have gRt_ := PySem.W.mg_of X G aRt
  have FRr := fun_mk (st := sRR) lRr cRr_ kRr
  have bRr := FRr.binds (ps := ["text", "most"]) fun _ _ _ _ _ _ us hl => by obtain ⟨_, _, rfl⟩ := of_len2 hl; rfl
  have gRr_ := PySem.W.mg_of X G aRr
  have FDi := fun_mk (st := sDice) lDi cDi_ kDi
  have bDi := FDi.binds (ps := ["_law_script", "_law_spot"]) fun _ _ _ _ _ _ us hl => by obtain ⟨_, _, rfl⟩ := of_len2 hl; rfl
  have gDi_ := PySem.W.mg_of X G aDi
  have FRo := fun_mk (st := sRoll) lRo cRo_ kRo
  have bRo := FRo.binds (ps := ["_law_dice_here", "_law_total"]) fun _ _ _ _ _ _ us hl => by obtain ⟨_, _, rfl⟩ := of_len2 hl; rfl
  have gRo_ := PySem.W.mg_of X G aRo
  have FPi := fun_mk (st := sPick) lPi cPi_ kPi
  have bPi := FPi.binds (ps := ["_law_dice_here", "_law_items"]) fun _ _ _ _ _ _ us hl => by obtain ⟨_, _, rfl⟩ := of_len2 hl; rfl
  have gPi_ := PySem.W.mg_of X G aPi
  have FLt := fun_mk (st := sLTrim) lLt cLt_ kLt
  have bLt := FLt.binds (ps := ["_law_factors_here"]) fun _ _ _ _ _ _ us hl => by obtain ⟨_, rfl⟩ := of_len1 hl; rfl
  have gLt_ := PySem.W.mg_of X G aLt
  have FLf := fun_mk (st := sFactors) lLf cLf_ kLf
  have bLf := FLf.binds (ps := ["_law_dice_here", "_law_most", "_law_size"]) fun _ _ _ _ _ _ us hl => by obtain ⟨_, _, _, rfl⟩ := of_len3 hl; rfl
  have gLf_ := PySem.W.mg_of X G aLf
  have FLx := fun_mk (st := sLTx) lLx cLx_ kLx
  have bLx := FLx.binds (ps := ["_law_factors_here"]) fun _ _ _ _ _ _ us hl => by obtain ⟨_, rfl⟩ := of_len1 hl; rfl
  have gLx_ := PySem.W.mg_of X G aLx
  have FLr := fun_mk (st := sLRd) lLr cLr_ kLr
  have bLr := FLr.binds (ps := ["_law_text"]) fun _ _ _ _ _ _ us hl => by obtain ⟨_, rfl⟩ := of_len1 hl; rfl
  have gLr_ := PySem.W.mg_of X G aLr
  have FLg := fun_mk (st := sLDg) lLg cLg_ kLg
  have bLg := FLg.binds (ps := ["_law_text"]) fun _ _ _ _ _ _ us hl => by obtain ⟨_, rfl⟩ := of_len1 hl; rfl
  have gLg_ := PySem.W.mg_of X G aLg
  have FLm := fun_mk (st := sLTm) lLm cLm_ kLm
  have bLm := FLm.binds (ps := ["_law_word"]) fun _ _ _ _ _ _ us hl => by obtain ⟨_, rfl⟩ := of_len1 hl; rfl
  have gLm_ := PySem.W.mg_of X G aLm
  have FTk := fun_mk (st := sTkn) lTk cTk_ kTk
  have bTk := FTk.binds (ps := ["_law_text"]) fun _ _ _ _ _ _ us hl => by obtain ⟨_, rfl⟩ := of_len1 hl; rfl
  have gTk_ := PySem.W.mg_of X G aTk
  have FDu := fun_mk (st := sDue) lDu cDu_ kDu
  have bDu := FDu.binds (ps := ["_law_text"]) fun _ _ _ _ _ _ us hl => by obtain ⟨_, rfl⟩ := of_len1 hl; rfl
  have gDu_ := PySem.W.mg_of X G aDu
  have FNe := fun_mk (st := sNear) lNe cNe_ kNe
  have bNe := FNe.binds (ps := ["_law_dice_here", "_law_text"]) fun _ _ _ _ _ _ us hl => by obtain ⟨_, _, rfl⟩ := of_len2 hl; rfl
  have gNe_ := PySem.W.mg_of X G aNe
  have FRg := fun_mk (st := sRight) lRg cRg_ kRg
  have bRg := FRg.binds (ps := ["_law_dice_here"]) fun _ _ _ _ _ _ us hl => by obtain ⟨_, rfl⟩ := of_len1 hl; rfl
  have gRg_ := PySem.W.mg_of X G aRg
  have FLa := fun_mk (st := sLaw) lLa cLa_ kLa
  have FSt := fun_mk (st := cls 20) lSt cSt_ kSt
  have bSt := FSt.binds (ps := ["self"]) fun _ _ _ _ _ _ us hl => by obtain ⟨_, rfl⟩ := of_len1 hl; rfl
  have MSt : Meth K C "__str__" fSt := ⟨aSt, iSt, kSt⟩
  have FFa := fun_mk (st := cls 2) lFa cFa_ kFa
  have bFa := FFa.binds (ps := ["self"]) fun _ _ _ _ _ _ us hl => by obtain ⟨_, rfl⟩ := of_len1 hl; rfl
  have FRd := fun_mk (st := cls 1) lRd cRd_ kRd
  have bRd := FRd.binds (ps := ["cls", "text"]) fun _ _ _ _ _ _ us hl => by obtain ⟨_, _, rfl⟩ := of_len2 hl; rfl
  have Zisinstance := PySem.W.mg_none_of X G z_isinstance
  have Zint := PySem.W.mg_none_of X G z_int
  have Zbool := PySem.W.mg_none_of X G z_bool
  have Zstr := PySem.W.mg_none_of X G z_str
  have Ztuple := PySem.W.mg_none_of X G z_tuple
  have Zlist := PySem.W.mg_none_of X G z_list
  have Zlen := PySem.W.mg_none_of X G z_len
  have Zall := PySem.W.mg_none_of X G z_all
  have Ziter := PySem.W.mg_none_of X G z_iter
  have Zmax := PySem.W.mg_none_of X G z_max
  have Zmin := PySem.W.mg_none_of X G z_min
  have Zabs := PySem.W.mg_none_of X G z_abs
  have Zrange := PySem.W.mg_none_of X G z_range
  have Zrepr := PySem.W.mg_none_of X G z_repr
  have Zzip := PySem.W.mg_none_of X G z_zip
  have VBOUND : ∃ t, mg "BOUND" = some (.int (10 ^ 60) t) := ⟨tkBOUND, PySem.W.mg_of X G v_BOUND⟩
  have VMAX_FACTORS : ∃ t, mg "MAX_FACTORS" = some (.int (400) t) := ⟨tkMAX_FACTORS, PySem.W.mg_of X G v_MAX_FACTORS⟩
  have VMAX_DIGITS : ∃ t, mg "MAX_DIGITS" = some (.int (60) t) := ⟨tkMAX_DIGITS, PySem.W.mg_of X G v_MAX_DIGITS⟩
  have EP : PySem.XParseError.ParseErrorTxt K mg CPx fPx :=
    { gC := PySem.W.mg_of X G xCP, cls := ⟨CKx, nmP, qP, qPx, bsP, snP, subP, abP, colP, ddP, m0P, m1P, m2P, m3P, m5P, xLP⟩, sa := xsaP, ga := xgaP, gg := xggP, noN := xnbP, iC := xaP, tC := xtP, kC := xkP, exC := xeP, tyC := xTP, hdC := xhP, te := exm_one xeP xiP xTP xsP,
      fn := ⟨_, _, _, _, _, _, _, _, _, _, _, _, _, _, xlP, xcP⟩ }
  refine ⟨PySem.W.fnOf "law" "law" (defArgs sLaw) (defBody sLaw) (defScope sLaw) .none kVLa dcLa pmLa anLa cdLa ctLa, fun s v => .of_eq rfl, fun base _ _ => ?_⟩
  have T : Txt K mg := ⟨Zisinstance, Zint, Zbool, Ztuple, Zlist, Zlen, Zall, Ziter, VBOUND, VMAX_FACTORS⟩
  have T2 : Txt2 mg := ⟨Zmax, Zmin, Zabs, Zrange, Zrepr⟩
  have Cl : PC K mg C := { cl := ⟨pgC, hdC, poC, saC⟩, noF := no0C, g := PySem.W.mg_of X G aC, kp := kcC, ha := haC, hn := hn, htk := htk, hm := hmC, kit := kit_self, ne := ⟨neC, hmC⟩ }
  have NS : PySem.W.kitOne K (.ref C) (.type "str") = some false := kit_ty (by decide +kernel) sCs
  have FI : FnI K tI0 fI0 (PySem.W.fnOf "__init__" "Poly.__init__" (defArgs (cls 0)) (defBody (cls 0)) (defScope (cls 0)) (.ref TI0) kVI0 dcI0 pmI0 anI0 cdI0 ctI0) := ⟨⟨ocI0, odI0, .ref TI0, kVI0, dcI0, pmI0, anI0, cdI0, ctI0, slI0, rfl, lI0, cI0_, .inr ⟨by simp, TI0, _, [.ref tI0], o3I0, rfl, LI0, rfl, .cons rfl .nil⟩, .inl rfl⟩, kI0⟩
  obtain ⟨ds, hds, b0⟩ : ∃ ds, Vals ([V.ref tI0].drop 0) ds ∧ Binds K (PySem.W.fnOf "__init__" "Poly.__init__" (defArgs (cls 0)) (defBody (cls 0)) (defScope (cls 0)) (.ref TI0) kVI0 dcI0 pmI0 anI0 cdI0 ctI0) ["self", "factors"] ds := FI.binds1 1 0 (by simp) rfl fun T kV doc pm an cdv ct us its h1 h2 => by obtain ⟨_, rfl⟩ := of_len1 h1; obtain ⟨_, rfl⟩ := of_len1 h2; exact ⟨_, rfl, rfl⟩
  have bI : Binds K (PySem.W.fnOf "__init__" "Poly.__init__" (defArgs (cls 0)) (defBody (cls 0)) (defScope (cls 0)) (.ref TI0) kVI0 dcI0 pmI0 anI0 cdI0 ctI0) ["self", "factors"] [] := by
    obtain ⟨ds, h1, h2⟩ : ∃ ds, Vals ([V.ref tI0].drop 1) ds ∧ Binds K (PySem.W.fnOf "__init__" "Poly.__init__" (defArgs (cls 0)) (defBody (cls 0)) (defScope (cls 0)) (.ref TI0) kVI0 dcI0 pmI0 anI0 cdI0 ctI0) ["self", "factors"] ds := FI.binds1 2 1 (by simp) rfl fun T kV doc pm an cdv ct us its h1 h2 => by obtain ⟨_, _, rfl⟩ := of_len2 h1; obtain ⟨_, rfl⟩ := of_len1 h2; exact ⟨_, rfl, rfl⟩
    cases h1
    exact h2
  have AW : AtW K mg fWh _ := ⟨FWh, bWh, gWh_⟩
  have AI : AtI K mg fIn _ := ⟨FIn, bIn, gIn_⟩
  have AT : AtT K mg fTr _ := ⟨FTr, bTr, gTr_⟩
  have AR : AtR K mg fRo _ := ⟨FRo, bRo, gRo_⟩
  have GI := ok_init (P := l.prog) (w := w) (base := base) FI T Cl AW AI AT
  have Ini : Ini1 l.prog w K mg base C tI0 (spInit K C) := ⟨_, _, ds, ⟨mkC, aI0, iI0, kcC⟩, GI, bI, hds, b0⟩
  have Pf : Pro1 l.prog w K mg base C "factors" (spGet K C fun u _ => .ref u) := ⟨_, _, _, ⟨aFa, gFa, tFa_, _, rFa⟩, ok_factors FFa Cl, bFa⟩
  have DTr : Def1 l.prog w K mg base CX0 1 "trimmed" ["row"] (spTrimmedL K) := ⟨_, _, gTr_, kTr, ok_trimmedL FTr T, bTr⟩
  have DTe : Def1 l.prog w K mg base CX0 1 "term_text" ["many", "power"] (spTerm) := ⟨_, _, gTe_, kTe, ok_term FTe Zstr, bTe⟩
  have DSg : Def1 l.prog w K mg base CX0 1 "sign_text" ["factor", "is_first"] (spSign) := ⟨_, _, gSg_, kSg, ok_sign FSg, bSg⟩
  have DRw : Def1 l.prog w K mg base CX0 2 "row_text" ["row"] (spRowTx K) := ⟨_, _, gRw_, kRw, ok_rowTx FRw T T2 DSg DTe, bRw⟩
  have DRh : Def1 l.prog w K mg base CX0 1 "read_whole" ["word"] (spRdW) := ⟨_, _, gRh_, kRh, ok_rdW FRh T VMAX_DIGITS, bRh⟩
  have DRt : Def1 l.prog w K mg base CX0 2 "read_term" ["word"] (spRdT K) := ⟨_, _, gRt_, kRt, ok_rdT FRt T DRh, bRt⟩
  have DRr : Def1 l.prog w K mg base CX0 3 "read_row" ["text", "most"] (spRdRow K) := ⟨_, _, gRr_, kRr, ok_rdRow FRr T DRt DTr DRw, bRr⟩
  have XSt : Met1 l.prog w K mg base CX0 3 C "__str__" ["self"] (spPSt K C) := ⟨_, _, MSt, jSt, ok_pstr FSt T Cl Zstr DRw, bSt⟩
  have DDi : Def1 l.prog w K mg base CX0 1 "_law_dice" ["_law_script", "_law_spot"] (spDice K) := ⟨_, _, gDi_, kDi, ok_dice FDi T T2, bDi⟩
  have DRo : Def1 l.prog w K mg base CX0 1 "_law_roll" ["_law_dice_here", "_law_total"] (spRoll) := ⟨_, _, gRo_, kRo, ok_roll FRo T, bRo⟩
  have DPi : Def1 l.prog w K mg base CX0 2 "_law_pick" ["_law_dice_here", "_law_items"] (spPick K) := ⟨_, _, gPi_, kPi, ok_pick FPi T AR, bPi⟩
  have DLt : Def1 l.prog w K mg base CX0 1 "_law_trimmed" ["_law_factors_here"] (spLTrim K) := ⟨_, _, gLt_, kLt, ok_ltrim FLt T, bLt⟩
  have DLf : Def1 l.prog w K mg base CX0 2 "_law_factors" ["_law_dice_here", "_law_most", "_law_size"] (spFactors) := ⟨_, _, gLf_, kLf, ok_lfactors FLf T T2 AR, bLf⟩
  have DLx : Def1 l.prog w K mg base CX0 1 "_law_poly_text" ["_law_factors_here"] (spRowTx K) := ⟨_, _, gLx_, kLx, ok_ltx FLx T T2 Zstr, bLx⟩
  have RdF : FnR l.prog w K mg base (L2.CX l.prog w) 6 fRd (spRead K C CPx) := ((ok_read (P := l.prog) (w := w) (base := base) FRd T Zstr EP DRr Ini).raw bRd .nil).imp fun vs H Q E q => by
    rw [List.append_nil]
    exact q
  have RK : RdP l.prog w K mg base C CPx := ⟨⟨_, pRd, fRd, ⟨wRd, gaC⟩, ⟨xRd, ⟨_, rRd⟩, uRd⟩, RdF⟩⟩
  have DLr : Def1 l.prog w K mg base CX0 7 "_law_read" ["_law_text"] (spLRd K) := ⟨_, _, gLr_, kLr, ok_lrd FLr T Cl EP RK Pf, bLr⟩
  have DLg : Def1 l.prog w K mg base CX0 1 "_law_digits" ["_law_text"] (spLDg) := ⟨_, _, gLg_, kLg, ok_ldg FLg T, bLg⟩
  have DLm : Def1 l.prog w K mg base CX0 2 "_law_term" ["_law_word"] (spLTm K) := ⟨_, _, gLm_, kLm, ok_ltm FLm T DLg, bLm⟩
  have DTk : Def1 l.prog w K mg base CX0 3 "_law_taken" ["_law_text"] (spTkn K) := ⟨_, _, gTk_, kTk, ok_tkn FTk T T2 Zzip DLm DLt, bTk⟩
  have DDu : Def1 l.prog w K mg base CX0 4 "_law_due" ["_law_text"] (spDue K) := ⟨_, _, gDu_, kDu, ok_due FDu T T2 DTk DLx, bDu⟩
  have DNe : Def1 l.prog w K mg base CX0 3 "_law_near" ["_law_dice_here", "_law_text"] (spNear) := ⟨_, _, gNe_, kNe, ok_near FNe T DRo DPi, bNe⟩
  have DRg : Def1 l.prog w K mg base CX0 8 "_law_right" ["_law_dice_here"] (spRight) := ⟨_, _, gRg_, kRg, ok_right FRg T T2 Zstr Cl NS DRo DPi DLf DLt DLx DNe DLr DDu Ini XSt, bRg⟩
  exact ok_law FLa T T2 Zstr Cl DDi DRg DLr Ini XSt
end

end K0

set_option Elab.async false
set_option maxRecDepth 100000
open PySem PySem.W PyProof.Rows in
set_option maxRecDepth 100000 in
set_option maxHeartbeats 0 in
theorem PySem.Challenge.cw_primekinds_k03_texts_of_polynomials_holds : PySem.Challenge.rw_primekinds_k03_texts_of_polynomials.Holds := by
  w_on; o_law; k_head; (case hw => w_witness2)
  k_fill
  refine Gd.walkG (n := 63) (k := 9) (x := "_law_script") (CX := fun _ => L2.CX0) (l := PySem.Challenge.rw_primekinds_k03_texts_of_polynomials) (sp := fun w => K0.spLaw _) rfl (by decide) rfl ⟨rfl, by decide, by decide⟩ (fun w h Y => PySem.W.kIn_of Y) ?F
    (fun _ _ a ns hl _ hS => ⟨a, ns, rfl, hS, hl, fun _ => rfl⟩) (fun _ _ _ _ _ z => z)
  case F =>
    intro w mg fa h KX G hmg
    refine' K0.all_mk KX G hmg ?aWh ?lWh ?cWh_ ?kWh ?aIn ?lIn ?cIn_ ?kIn ?aTr ?lTr ?cTr_ ?kTr ?aTe ?lTe ?cTe_ ?kTe ?aSg ?lSg ?cSg_ ?kSg ?aRw ?lRw ?cRw_ ?kRw ?aRh ?lRh ?cRh_ ?kRh ?aRt ?lRt ?cRt_ ?kRt ?aRr ?lRr ?cRr_ ?kRr ?aDi ?lDi ?cDi_ ?kDi ?aRo ?lRo ?cRo_ ?kRo ?aPi ?lPi ?cPi_ ?kPi ?aLt ?lLt ?cLt_ ?kLt ?aLf ?lLf ?cLf_ ?kLf ?aLx ?lLx ?cLx_ ?kLx ?aLr ?lLr ?cLr_ ?kLr ?aLg ?lLg ?cLg_ ?kLg ?aLm ?lLm ?cLm_ ?kLm ?aTk ?lTk ?cTk_ ?kTk ?aDu ?lDu ?cDu_ ?kDu ?aNe ?lNe ?cNe_ ?kNe ?aRg ?lRg ?cRg_ ?kRg ?aLa ?lLa ?cLa_ ?kLa ?aC ?pgC ?hdC ?poC ?saC ?mkC ?kcC ?haC ?hmC ?ciC ?ctC ?neC ?no0C ?hn ?htk ?sCs ?aI0 ?lI0 ?cI0_ ?kI0 ?iI0 ?LI0 ?mI0 ?aSt ?lSt ?cSt_ ?kSt ?iSt ?jSt ?aFa ?gFa ?tFa_ ?rFa ?lFa ?cFa_ ?kFa ?aRd ?rRd ?lRd ?cRd_ ?kRd ?uRd ?wRd ?gaC ?xRd ?z_isinstance ?z_int ?z_bool ?z_str ?z_tuple ?z_list ?z_len ?z_all ?z_iter ?z_max ?z_min ?z_abs ?z_range ?z_repr ?z_zip ?v_BOUND ?v_MAX_FACTORS ?v_MAX_DIGITS ?xCP ?xLP ?xsaP ?xgaP ?xggP ?xnbP ?xaP ?xtP ?xlP ?xcP ?xkP ?xeP ?xTP ?xhP ?xiP ?xsP
    (case aWh => k_is)
    (case lWh => k_is)
    (case cWh_ => k_is)
    (case kWh => k_is)
    (case aIn => k_is)
    (case lIn => k_is)
    (case cIn_ => k_is)
    (case kIn => k_is)
    (case aTr => k_is)
    (case lTr => k_is)
    (case cTr_ => k_is)
    (case kTr => k_is)
    (case aTe => k_is)
    (case lTe => k_is)
    (case cTe_ => k_is)
    (case kTe => k_is)
    (case aSg => k_is)
    (case lSg => k_is)
    (case cSg_ => k_is)
    (case kSg => k_is)
    (case aRw => k_is)
    (case lRw => k_is)
    (case cRw_ => k_is)
    (case kRw => k_is)
    (case aRh => k_is)
    (case lRh => k_is)
    (case cRh_ => k_is)
    (case kRh => k_is)
    (case aRt => k_is)
    (case lRt => k_is)
    (case cRt_ => k_is)
    (case kRt => k_is)
    (case aRr => k_is)
    (case lRr => k_is)
    (case cRr_ => k_is)
    (case kRr => k_is)
    (case aDi => k_is)
    (case lDi => k_is)
    (case cDi_ => k_is)
    (case kDi => k_is)
    (case aRo => k_is)
    (case lRo => k_is)
    (case cRo_ => k_is)
    (case kRo => k_is)
    (case aPi => k_is)
    (case lPi => k_is)
    (case cPi_ => k_is)
    (case kPi => k_is)
    (case aLt => k_is)
    (case lLt => k_is)
    (case cLt_ => k_is)
    (case kLt => k_is)
    (case aLf => k_is)
    (case lLf => k_is)
    (case cLf_ => k_is)
    (case kLf => k_is)
    (case aLx => k_is)
    (case lLx => k_is)
    (case cLx_ => k_is)
    (case kLx => k_is)
    (case aLr => k_is)
    (case lLr => k_is)
    (case cLr_ => k_is)
    (case kLr => k_is)
    (case aLg => k_is)
    (case lLg => k_is)
    (case cLg_ => k_is)
    (case kLg => k_is)
    (case aLm => k_is)
    (case lLm => k_is)
    (case cLm_ => k_is)
    (case kLm => k_is)
    (case aTk => k_is)
    (case lTk => k_is)
    (case cTk_ => k_is)
    (case kTk => k_is)
    (case aDu => k_is)
    (case lDu => k_is)
    (case cDu_ => k_is)
    (case kDu => k_is)
    (case aNe => k_is)
    (case lNe => k_is)
    (case cNe_ => k_is)
    (case kNe => k_is)
    (case aRg => k_is)
    (case lRg => k_is)
    (case cRg_ => k_is)
    (case kRg => k_is)
    (case aLa => k_is)
    (case lLa => k_is)
    (case cLa_ => k_is)
    (case kLa => k_is)
    (case aC => k_is)
    (case pgC => k_is)
    (case hdC => k_is)
    (case poC => k_is)
    (case saC => k_is)
    (case mkC => k_is)
    (case kcC => k_is)
    (case haC => k_is)
    (case hmC => k_is)
    (case ciC => k_is)
    (case ctC => k_is)
    (case neC => k_is)
    (case no0C => k_is)
    (case hn => k_is)
    (case htk => k_is)
    (case sCs => k_is)
    (case aI0 => k_is)
    (case lI0 => k_is)
    (case cI0_ => k_is)
    (case kI0 => k_is)
    (case iI0 => k_is)
    (case LI0 => k_is)
    (case mI0 => k_is)
    (case aSt => k_is)
    (case lSt => k_is)
    (case cSt_ => k_is)
    (case kSt => k_is)
    (case iSt => k_is)
    (case jSt => k_is)
    (case aFa => k_is)
    (case gFa => k_is)
    (case tFa_ => k_is)
    (case rFa => k_is)
    (case lFa => k_is)
    (case cFa_ => k_is)
    (case kFa => k_is)
    (case aRd => k_is)
    (case rRd => k_is)
    (case lRd => k_is)
    (case cRd_ => k_is)
    (case kRd => k_is)
    (case uRd => k_is)
    (case wRd => first | k_is | kernel_rfl)
    (case gaC => first | k_is | kernel_rfl)
    (case xRd => first | k_is | kernel_rfl)
    (case z_isinstance => k_is)
    (case z_int => k_is)
    (case z_bool => k_is)
    (case z_str => k_is)
    (case z_tuple => k_is)
    (case z_list => k_is)
    (case z_len => k_is)
    (case z_all => k_is)
    (case z_iter => k_is)
    (case z_max => k_is)
    (case z_min => k_is)
    (case z_abs => k_is)
    (case z_range => k_is)
    (case z_repr => k_is)
    (case z_zip => k_is)
    (case v_BOUND => k_is)
    (case v_MAX_FACTORS => k_is)
    (case v_MAX_DIGITS => k_is)
    (case xCP => k_is)
    (case xLP => k_is)
    (case xsaP => k_is)
    (case xgaP => k_is)
    (case xggP => k_is)
    (case xnbP => k_is)
    (case xaP => k_is)
    (case xtP => k_is)
    (case xlP => k_is)
    (case xcP => k_is)
    (case xkP => k_is)
    (case xeP => k_is)
    (case xTP => k_is)
    (case xhP => k_is)
    (case xiP => k_is)
    (case xsP => k_is)
