import PyProof.Rows.All
import Wide.All
import OpenK.AllK
import Wide.FinOn
import HandS.ForMost
import HandS.ForExc
import KE.KExcInit
import HandS.IsInst
import HandS.IterNext
import HandS.OwnIter
import KE.KOwnIter
import PyProof.Rows.Range3
import PyProof.Conv_bool
import HandS.TupMul
import HandS.TupAny
import KE.GoesMore
import KE.GoesEnum
import KE.GoesZip
import HandS.Walk
import HandS.Style
import PyProof.FactsInt
import PyProof.FactsInt2
import PyProof.Rows.FactsB_mul
import HandS.Dict
import KE.KCallOwn
import HandS.Wide
import HandS.Property
import HandS.TryMany
import HandS.Lambda
import HandS.EndBits
import HandS.EndTab
import HandS.ExcIs
import PySem.Challenge.RW_primekinds_k05_errors_of_polynomials
import HandS.Defaults
import PyProof.ExcBaseAll.ValueError
import HandS.ExcOwn
import HandS.RaiseMore
import PyProof.ReprLen
import HandS.NoneIn
import KE.KNestM
set_option Elab.async false
set_option linter.all false
set_option maxRecDepth 100000
set_option maxHeartbeats 4000000
/-! Promises of defs that are called where no container is being shown (the guards of the stack are known to be empty): repr of containers needs this. -/
namespace Gd
open PySem PySem.Spec PyProof.Rows L2

/-- no container is being shown -/
abbrev NoG (A : Around) : Prop := A.guards = some []

/-- the promise of a def, kept wherever no container is being shown -/
structure FnG (P : Program) (w : World) (K : PySem.W.Frag) (mg : Str → Option Value) (base : Heap) (CX : CXT) (k : Nat)
    (f : Addr) (fd : FuncData) (ps : List Str) (sp : Sp) : Prop where
  many : ∀ vs H Q E, sp vs H Q E → vs.length = ps.length
  go : ∀ (A : Around) (out : List Env) (s : Shared) (H : Hp) (ar : Args) (us : List Value) (vs : List V) (Q : VK) (E : XK),
    NoG A → Room k A → Env0 P w K mg base A out s H → BindsTo s fd ar (ps.zip us) → Vals vs us → sp vs H Q E →
      codeAny (model P w) A (.call (.ref f) ar) (CR CX out P w H s Q E) s

section
variable {P : Program} {w : World} {K : PySem.W.Frag} {mg : Str → Option Value} {base : Heap} {CX : CXT} {k : Nat}
  {f : Addr} {fd : FuncData} {ps : List Str} {sp : Sp}
theorem FnG.of (F : FnOk P w K mg base CX k f fd ps sp) : FnG P w K mg base CX k f fd ps sp :=
  ⟨F.len, fun A out s H ar us vs Q E _ => F.run A out s H ar us vs Q E⟩

/-- a def by its body, where no container is being shown -/
theorem fnG {x qual : Str} {st : Stmt} {N : List Str} (F : Fun K x qual st f fd) (S : FnScope N ps (defScope st))
    (many : ∀ vs H Q E, sp vs H Q E → vs.length = ps.length)
    (body : ∀ (cdv : Value) (A : Around) (out : List Env) (s : Shared) (H : Hp) (vs : List V) (Q : VK) (E : XK),
      NoG A → Room k (A.deeper (envOfC qual (defScope st) s.heap.objs.size f cdv)) → sp vs H Q E →
      ∃ t, PSs (cxOf CX P w K mg base N qual (defScope st) f cdv A out s H E) (defBody st) t ∧
        t { nx := fun _ H' => Q .non H', rt := Q } (start N vs) H) :
    FnG P w K mg base CX (k + 1) f fd ps sp := by
  obtain ⟨oc, od, kV, doc, pm, an, cdv, ct, osl, rfl, lk, hcd⟩ := F.ex
  refine ⟨many, ?_⟩
  intro A out s H ar us vs Q E hg hr e0 hb r hsp
  have hl := many vs H Q E hsp
  have KX : K.In s.heap := e0.mod.kin.keeps (fun b o e => (e0.bs b o e).1)
  have lim : s.heap.NoLimit := e0.mod.nolimit.keeps (fun b o e => (e0.bs b o e).1)
  have kinds : ∀ y ∈ ps.zip us, (defScope st).names.lookup y.1 = some .local ∨
      ((defScope st).names.lookup y.1 = some .cell ∧ ((cellsFrom (s.heap.objs.size + 1) (defScope st).names []).lookup y.1).isSome = true) := by
    rintro ⟨n, v⟩ hy
    rcases S.par n (List.of_mem_zip hy).1 with q | q
    · exact Or.inl q
    · exact Or.inr ⟨q, PySem.W.cellsFrom_some _ _ _ (Or.inl q)⟩
  refine codeAny_call_function hr.depth (KX _ _ lk) rfl S.co S.gen rfl
    (PySem.W.codeRec_of KX hcd) (hb _ _ _ _ ?_)
  refine wpAny_newFunctionEnv_cells S.kind kinds ?_
  intro env he s1 x
  cases he
  refine ⟨lim.keeps x.toInCall.keep, codeAny_func ?_⟩
  obtain ⟨t, ht, hq⟩ := body cdv A out s H vs Q E hg (hr.deeper _) hsp
  have I := inv_start (CX := CX) (E := E) S hr.hd e0 hl r x
  refine wpAny_mono (ht.run [] s1 (start N vs) H _ I hq) ?_ (fun e s' hs => hs)
  intro fl s' hs
  have fin : ∀ {σ' : L2.St} {H' : Hp} {v : V} {u : Value},
      Inv (cxOf CX P w K mg base N qual (defScope st) f cdv A out s H E) [] σ' H' s' →
      RelV v u → Q v H' → CE out P w H s Q u s' := by
    intro σ' H' v u J rv q
    exact ⟨v, H', J.os, J.bare, J.base, J.hok, rv, q⟩
  cases fl with
  | ret u =>
    obtain ⟨v, σ', H', J, rv, q⟩ := hs
    exact fin J rv q
  | next =>
    obtain ⟨σ', H', J, q⟩ := hs
    exact fin (v := V.non) (u := Value.none) J rfl q
  | brk =>
    obtain ⟨σ', H', J, q⟩ := hs
    exact False.elim q
  | cont =>
    obtain ⟨σ', H', J, q⟩ := hs
    exact False.elim q
end

section
variable {X : Cx} {CX : CXT} {k : Nat} {f C : Addr} {fd : FuncData} {ps : List Str} {sp : Sp} {dvs : List V} {ds : List Value} {E : XK}
  {x : Str} {p pos : Pos} {e : Expr} {es : List Expr} {t : TA}
/-- the call of such a def -/
theorem goG {pins : List (Addr × Obj)} {σ : L2.St} {H : Hp} {s : Shared} {Q : VK} {us : List Value} {vs : List V}
    (hg : NoG X.A) (F : FnG X.prog X.w X.K X.mg X.base CX k f fd ps sp) (hr : Room k X.A) (hb : Binds X.K fd ps ds)
    (hd : Vals dvs ds) (hx : Passes CX X E) (I : Inv X pins σ H s) (r : Vals vs us) (h : sp (vs ++ dvs) H Q E) :
    wpAny (model X.prog X.w) X.A (call (.ref f) us) (EP X pins σ Q) X.xe s := by
  have r2 := Vals.append r hd
  have hl : (us ++ ds).length = ps.length := by
    rw [← r2.length]
    exact F.many _ H Q E h
  have run := F.go X.A X.stack s H ⟨us, []⟩ (us ++ ds) _ Q E hg hr I.env0 (hb s us I.kIn hl) r2 h
  refine wpAny_call (codeAny_mono run ?_)
  intro r s' hq
  match r, hq with
  | .error e, hq => exact hx pins σ H s e s' I hq
  | .ok (.ret u), hq => exact I.after hq
  | .ok .next, hq => exact False.elim hq
  | .ok .brk, hq => exact False.elim hq
  | .ok .cont, hq => exact False.elim hq

theorem pe_callG (hg : NoG X.A) (F : FnG X.prog X.w X.K X.mg X.base CX k f fd ps sp) (hr : Room k X.A) (hgl : Gl X x)
    (hm : X.mg x = some (.ref f)) (hk : PySem.W.keepIn X.K (.ref f) = true) (hb : Binds X.K fd ps ds) (hd : Vals dvs ds)
    (hx : Passes CX X E) (ha : PA X (e :: es) t) (hdb : (x == ("__debug__" : Str)) = false := by decide)
    (he : starEach (e :: es) X.env = (false, eval e X.env) :: starEach es X.env := by rfl)
    (hpl : (backTo pos (starEach es X.env)).any (·.1) = false := by rfl) :
    PE X (.Call (.Name x p) (e :: es) [] pos) (tCall sp dvs E t) := by
  constructor
  intro pins s σ H Q I h
  refine wpAny_Call_Name_kw (ld_glob I hgl hm ?_ hdb)
  have go := thn (ha.run pos pins s σ H _ I h) (fun us s1 ⟨vs, H1, I1, r, q⟩ =>
    (⟨I1.kIn, goG hg F hr hb hd hx I1 r q⟩ : X.K.In s1.heap ∧ wpAny (model X.prog X.w) X.A (call (.ref f) us) (EP X pins σ Q) X.xe s1))
  exact PySem.W.callWith_K (h₀ := X.base) I.ok.mod.kin hk go he hpl
end

section
variable {P : Program} {w : World} {K : PySem.W.Frag} {mg mb : Str → Option Value} {CX : CXT} {k : Nat} {fa a : Addr}
  {fd : FuncData} {x : Str} {sp : Sp} {s₁ : Shared} {vs : List Value} {ns : List Int}
/-- the call of the law, from a heap H of which nothing but the script is tracked -/
theorem coreG (KX : K.In s₁.heap) (hns : s₁.heap.Ns mainGlobals mg) (hb : s₁.heap.Ns builtinsNs mb)
    (hbb : ∀ x : Str, x ≠ "__name__" → mb x = bootBuiltins x) (hlim : s₁.heap.NoLimit) (hg : s₁.gens = #[])
    (ha : s₁.heap.get? a = some { cls := .type "list", data := .seq vs.toArray }) (hr : Room k callerA)
    (F : ∀ base : Heap, K.In base → base.Ns mainGlobals mg → FnG P w K mg base CX k fa fd [x] sp)
    (hbind : ∀ (s : Shared) (u : Value), BindsTo s fd ⟨[u], []⟩ [(x, u)])
    (hCX : ∀ H e s', CX [] H s₁ (fun _ _ _ => False) e s' → False)
    (H : Hp) (hO : Only H) (hsp : sp [.ref a] H (fun v _ => v = .bl true) fun _ _ _ => False)
    (hok : HOk P w H s₁.heap) (hA : ∀ b, H b ≠ none → b = a) (hK : H a ≠ none → K.lookup a = none) :
    codeAny (model P w) callerA (.call (.ref fa) ⟨[.ref a], []⟩)
      (fun r s' => r = .ok (.ret (.bool true)) ∧ OldK s₁.heap s'.heap ∧ s'.os = s₁.os ∧ AllBare s'.gens) s₁ := by
  have at_a : ∀ {b : Addr}, H b ≠ none → b = a := fun {b} z => hA b z
  have keepB : ∀ {b : Addr} {o : Obj}, s₁.heap.get? b = some o → H b = none → (hidT s₁.heap H).get? b = some o := by
    intro b o e n
    exact hidT_get e n
  have noDict : ∀ {b : Addr} {o : Obj} {es : Array DictEntry} {ep : Nat},
      s₁.heap.get? b = some o → o.data = .dict es ep → H b = none := by
    intro b o es ep e d
    cases q : H b with
    | none => rfl
    | some u =>
      obtain rfl : b = a := at_a (by rw [q]; simp)
      rw [ha] at e
      cases e
      cases d
  have nsOf : ∀ {b : Addr} {m : Str → Option Value}, s₁.heap.Ns b m → (hidT s₁.heap H).Ns b m := by
    rintro b m ⟨o, es, ep, e, d, r⟩
    exact ⟨o, es, ep, keepB e (noDict e d), d, r⟩
  have inB : K.In (hidT s₁.heap H) := by
    intro b o e
    refine keepB (KX b o e) ?_
    cases q : H b with
    | none => rfl
    | some u =>
      obtain rfl : b = a := at_a (by rw [q]; simp)
      rw [hK (by rw [q]; simp)] at e
      cases e
  obtain ⟨mc, l1, l2⟩ := hlim
  have hM : Mod K mg (hidT s₁.heap H) := ⟨inB, nsOf hns, ⟨mb, nsOf hb, hbb⟩, ⟨mc, nsOf l1, l2⟩⟩
  have e0 : Env0 P w K mg (hidT s₁.heap H) callerA [] s₁ H := by
    refine ⟨rfl, hM, ?_, Nat.le_of_eq (hidT_size _ _), trivial, ?_, hok, .of_eq hg⟩
    · intro b o e
      exact of_hidT e
    · intro b z
      exact absurd (show b ∈ ([] : List Addr) from z) (by simp)
  have run := (F _ inB (nsOf hns)).go callerA [] s₁ H ⟨[.ref a], []⟩ [.ref a] [.ref a] _ _ rfl hr e0 (hbind s₁ (.ref a)) (.cons rfl .nil) hsp
  refine codeAny_mono run ?_
  intro r s' h
  match r, h with
  | .error e, h => exact (hCX H e s' h).elim
  | .ok .next, h => exact False.elim h
  | .ok .brk, h => exact False.elim h
  | .ok .cont, h => exact False.elim h
  | .ok (.ret u), h =>
    obtain ⟨v, H', os, bare, un, hok', rv, q⟩ := h
    obtain rfl : v = .bl true := q
    obtain rfl : u = Value.bool true := rv
    refine ⟨rfl, OldK.of_keep ?_, os, bare⟩
    intro b o e
    cases q : H b with
    | none => exact un.keep b o e q (fun z => absurd (show b ∈ ([] : List Addr) from z) (by simp)) (by simp)
    | some u =>
      rcases hO b with z | ⟨ob, xs, z⟩
      · rw [q] at z
        cases z
      · obtain ⟨e1, _⟩ := hok b _ z
        obtain ⟨e2, _⟩ := hok' b _ (un.frzs b ob _ z)
        rw [e] at e1
        cases e1
        exact e2

theorem law_callG (KX : K.In s₁.heap) (hns : s₁.heap.Ns mainGlobals mg) (hb : s₁.heap.Ns builtinsNs mb)
    (hbb : ∀ x : Str, x ≠ "__name__" → mb x = bootBuiltins x) (hlim : s₁.heap.NoLimit) (hg : s₁.gens = #[])
    (ha : s₁.heap.get? a = some { cls := .type "list", data := .seq vs.toArray }) (hi : IntsAre vs ns) (hl : ns.length ≤ sizeLine)
    (hr : Room k callerA) (F : ∀ base : Heap, K.In base → base.Ns mainGlobals mg → FnG P w K mg base CX k fa fd [x] sp)
    (hbind : ∀ (s : Shared) (u : Value), BindsTo s fd ⟨[u], []⟩ [(x, u)])
    (hsp : ∀ H : Hp, Only H → SqL K H a (ns.map V.int) → sp [.ref a] H (fun v _ => v = .bl true) fun _ _ _ => False)
    (hCX : ∀ H e s', CX [] H s₁ (fun _ _ _ => False) e s' → False) :
    codeAny (model P w) callerA (.call (.ref fa) ⟨[.ref a], []⟩)
      (fun r s' => r = .ok (.ret (.bool true)) ∧ OldK s₁.heap s'.heap ∧ s'.os = s₁.os ∧ AllBare s'.gens) s₁ := by
  have rv := vals_ints hi
  have lenV := hi.length
  cases hk : K.lookup a with
  | some o =>
    have e := KX a o hk
    rw [ha] at e
    cases e
    have none' : ∀ b : Addr, (fun _ : Addr => (none : Option HO)) b = none := fun _ => rfl
    refine coreG KX hns hb hbb hlim hg ha hr F hbind hCX (fun _ => none) (fun _ => .inl rfl) (hsp _ (fun _ => .inl rfl) ?_) ?_ (fun b z => absurd (none' b) z) (fun z => absurd (none' a) z)
    · exact .inr ⟨_, vs.toArray, _, hk, rfl, rfl, rfl, by rw [List.size_toArray, lenV]; exact hl, by simpa using rv⟩
    · intro b u z
      cases z
  | none =>
    have hpos : ∀ b, (fun b => if b = a then some (HO.frz { cls := .type "list", data := .seq vs.toArray } (.lst (ns.map V.int))) else none) b ≠ none → b = a := by
      intro b z
      by_cases q : b = a
      · exact q
      · exact absurd (if_neg q) z
    have hO : Only (fun b => if b = a then some (HO.frz { cls := .type "list", data := .seq vs.toArray } (.lst (ns.map V.int))) else none) := by
      intro b
      by_cases q : b = a
      · exact .inr ⟨_, _, if_pos q⟩
      · exact .inl (if_neg q)
    refine coreG KX hns hb hbb hlim hg ha hr F hbind hCX _ hO (hsp _ hO ?_) ?_ hpos (fun _ => hk)
    · exact .inl (.inr ⟨{ cls := .type "list", data := .seq vs.toArray }, if_pos rfl⟩)
    · intro b u z
      have q : b = a := hpos b (by rw [z]; simp)
      subst q
      have z' := (if_pos rfl).symm.trans z
      cases z'
      exact ⟨ha, by rw [List.length_map]; exact hl, vs, _, rv, ha⟩
end

/-- the end of a law -/
theorem walkG {l : PySem.W.OpenLaw} {n k : Nat} {q : Program} {loose : List Str} {XP : (Str → Option Value) → Heap → Prop} {YP : World → Heap → Prop} {d : DefRec} {K : Params → PySem.W.Frag} {CX : World → CXT} {sp : World → Sp} {x : Str}
    (hn : l.most = some n) (hn2 : n ≤ sizeLine) (hdf : d.params.defaults = []) (hr : Room k callerA)
    (hY : ∀ (w : World) (h : Heap), YP w h → (K w.params).In h)
    (F : ∀ (w : World) (mg : Str → Option Value) (fa : Addr) (h : Heap), (K w.params).In h → h.Ns mainGlobals mg → mg d.name = some (.ref fa) →
      ∃ fd : FuncData, (∀ (s : Shared) (u : Value), BindsTo s fd ⟨[u], []⟩ [(x, u)]) ∧
        ∀ base : Heap, (K w.params).In base → base.Ns mainGlobals mg → FnG l.prog w (K w.params) mg base (CX w) k fa fd [x] (sp w))
    (hsp : ∀ (w : World) (H : Hp) (a : Addr) (ns : List Int), ns.length ≤ n → Only H → SqL (K w.params) H a (ns.map V.int) → sp w [.ref a] H (fun v _ => v = .bl true) fun _ _ _ => False)
    (hCX : ∀ (w : World) (H : Hp) (s : Shared) (e : Value) (s' : Shared), CX w [] H s (fun _ _ _ => False) e s' → False) :
    PySem.W.WalkO q loose XP YP l.row.toRowW d [] (fun f vs => PySem.call f vs) := by
  refine Att.attach_call hn hdf ?_
  intro w s₀ s₁ mg mb fa o pm cd doc a vs ns G Y ho hd hcd hmg hobj hints hlen hg
  obtain ⟨fd, hb, hF⟩ := F w mg fa _ (hY w _ Y) G.T.g hmg
  exact law_callG (hY w _ Y) G.T.g G.T.b G.T.builtins G.T.nolimit hg hobj hints (Nat.le_trans hlen hn2) hr hF hb (fun H hO hS => hsp w H a ns hlen hO hS) fun H e s' => hCX w H s₁ e s'
end Gd

set_option Elab.async false
set_option linter.all false
set_option maxRecDepth 100000
set_option maxHeartbeats 4000000
/-! The first field of an exception of an own class that stands directly below a builtin one. -/
namespace GdX
open PySem PySem.Calls PyProof.Rows PySem.HandSPX Builtin Builtin.ObjectAttr
section
variable {prog : Program} {w : World} {A : Around} {R : Result → Shared → Prop} {hp : Heap} {g : Array GenState} {d : Drawn} {t : Nat} {os : OsState}
theorem osaG {B : String} {bmB : List Value} (SF : StoreFacts B bmB "object.__setattr__" "object") {K : W.Frag} {name : Str} {tk : Tok} {v : Value} {x C : Addr} {fv : Array Value} {cd : ClassData}
    (X : K.In hp) (hx : hp.get? x = some { cls := .ref C, data := .fields fv }) (hcd : W.clsIn K C = some cd)
    (hm : cd.mro = .ref C :: bmB) (hh : cd.hasDict = true) (ha : W.findIn K (.ref C) name = some none)
    (hq : ∀ h' tk' dx, (∀ b o, b ≠ x → hp.get? b = some o → h'.get? b = some o) → hp.objs.size ≤ dx → dx ≠ x →
      h'.get? x = some { cls := .ref C, dict := some dx, data := .fields fv } →
      h'.Ns1 dx (fun y => if y = name then some v else none) → R (.ok (.ret .none)) ⟨h', g, d, tk', os⟩) :
    codeAny (model prog w) A (.call (.builtin "object.__setattr__") ⟨[.ref x, .str name tk, v], []⟩) R ⟨hp, g, d, t, os⟩ := by
  have I : W.InstAt hp x { cls := .ref C, data := .fields fv } C none := ⟨hx, rfl, rfl, trivial⟩
  have ne : cd.mro.isEmpty = false := by rw [hm]; rfl
  have hob : cd.mro.contains (.type "object") = true := by
    rw [hm, List.contains_cons, SF.hasOwner, Bool.or_true]
  have hxs : x ≠ hp.objs.size := Nat.ne_of_lt (Heap.lt_size hx)
  have sub : W.Looks (model prog w) hp (isInstance (.ref x) (.type "object")) true := by
    refine I.type.andThen (W.looks_mroIn X ?_)
    unfold W.mroIn
    rw [hcd, Option.bind_some, if_neg (by rw [ne]; decide), hob]
  refine codeAny_call_builtin SF.slot.plain SF.entry (@W.check_slot (model prog w) _ _ ⟨hp, g, d, t, os⟩ "object.__setattr__" "object" "__setattr__" (.ref x) [.str name tk, v] [] _
    SF.kind SF.split sub (SF.args (.ref x) (.str name tk) v) ?_)
  have hmr : W.Looks (model prog w) hp (mroOf (.ref C)) cd.mro := (W.looks_clsIn X hcd).andThen .now
  have L3 : W.Looks (model prog w) hp (storeTaker? none) none := .now
  have hcls : W.Looks (model prog w) hp (classData C) cd := W.looks_clsIn X hcd
  rw [W.osa_eq, refuse_eq]
  refine wpAny_bind (wpAny_bind (I.type.at (wpAny_bind (hmr.at ?_))))
  rw [hm, refuseLoop_ref, SF.passes]
  refine wpAny_pure (wpAny_bind (I.type.at (wpAny_bind ((W.looks_findIn X ha).at (wpAny_bind (L3.at ?_))))))
  show wpAny _ _ (storeInOwnDict (.ref x) (.ref C) (.str name tk) name v false) _ _ _
  clear hmr hob ne sub hm
  obtain ⟨nm, bs, mro, ns, qn, hd, sn, sb, ab, col, del⟩ := cd
  have hh' : hd = true := hh
  subst hh'
  unfold storeInOwnDict ownDictForStores
  repeat (first
    | with_reducible refine store_in_new ?_ ?_
    | with_reducible refine wpAny_loadPart_at hx ?_
    | with_reducible refine hcls.at ?_
    | wp_step)
  · exact ⟨_, #[], _, (Heap.get?_update_ne _ _ _ _ hxs.symm).trans (Heap.get?_push_at rfl rfl), rfl, fun e he => absurd he (by simp), fun _ => rfl⟩
  · intro h' tk' hn' hs
    have hx₁ : (hp.push { cls := .type "dict", data := .dict #[] }).get? x = some { cls := .ref C, data := .fields fv } := Heap.get?_push_of_some _ hx
    refine hq h' tk' hp.objs.size (fun b o hb ho => ?_) (Nat.le_refl _) hxs.symm ?_ hn'
    · have far : b ≠ hp.objs.size := Nat.ne_of_lt (Heap.lt_size ho)
      exact (hs.2 b far).trans ((Heap.get?_update_ne _ _ _ _ hb).trans (Heap.get?_push_of_some _ ho))
    · exact (hs.2 x hxs).trans (Heap.get?_update_self _ hx₁ rfl)
end
end GdX

set_option Elab.async false
set_option linter.all false
set_option maxRecDepth 100000
set_option maxHeartbeats 4000000
namespace PySem
namespace XInvalidNumber
open PySem.W PySem.Calls PyProof.Rows PySem.HandSPX
/-! ### the text of __init__ -/
def iA (p1 p2 : Pos) : Arguments := { posonlyargs := [], args := [{ arg := "self", annotation := none, pos := p1 }, { arg := "value", annotation := none, pos := p2 }], vararg := none, kwonlyargs := [], kw_defaults := [], kwarg := none, defaults := [] }
def iB (q1 q2 q3 q4 : Pos) : List Stmt := [.Assign [.Attribute (.Name "self" q1) "value" q2] (.Name "value" q3) q4]
def iS : Scope := { kind := .function, names := [(PySem.Str.ofString "self", .local), (PySem.Str.ofString "value", .local)], isGenerator := false, isCoroutine := false, more := [] }
/-- what the written part says of Low, at C, and of its __init__, at fI -/
structure InvalidNumberTxt (K : Frag) (mg : Str → Option Value) (C fI : Addr) : Prop where
  gC : mg "InvalidNumber" = some (.ref C)
  cls : ∃ nm q N bs sn sub ab col dd k0 k1 k2 k3 k5, K.lookup C = some (excClassObj nm q C N bs [.type "IndexError", .type "LookupError", .type "Exception", .type "BaseException", .type "object"] true sn sub ab col dd k0 k1 k2 k3 k5 "IndexError.__new__")
  sa : findIn K (.ref C) "__setattr__" = some (some (.builtin "object.__setattr__"))
  ga : findIn K (.ref C) "__getattribute__" = some (some (.builtin "BaseException.__getattribute__"))
  gg : findIn K (.ref C) "__getattr__" = some none
  noN : findIn K (.ref C) "value" = some none
  iC : findIn K (.ref C) "__init__" = some (some (.ref fI))
  tC : typeIn K (.ref fI) = some (.type "function")
  kC : keepIn K (.ref C) = true
  exC : subIn K (.ref C) (.type "BaseException") = some true
  tyC : typeIn K (.ref C) = some (.type "type")
  hdC : hasDictIn K C = true
  te : exmOne K (.ref C) (.ref C) = some true
  fn : ∃ (oc : Value) (od : Option Addr) (doc pm : Value) (an : Option Addr) (cdv ct : Value) (osl : Array (Option Value)) (p1 p2 q1 q2 q3 q4 : Pos),
    K.lookup fI = some ⟨oc, od, .func (fnOf "__init__" "InvalidNumber.__init__" (iA p1 p2) (iB q1 q2 q3 q4) iS .none .none doc pm an cdv ct), osl⟩ ∧ codeIn K cdv "InvalidNumber.__init__" = true
theorem one_size (v : Value) : [v].length ≤ sizeLine := by
  rw [sizeLine_eq]
  exact (by decide : 1 ≤ 16777216)
theorem kept_but {K : Frag} {h h' : Heap} {x : Addr} (X : K.In h) (hx : K.lookup x = none) (k : ∀ b o, b ≠ x → h.get? b = some o → h'.get? b = some o) : K.In h' := fun a o e =>
  k a o (fun z => by rw [z, hx] at e; cases e) (X a o e)
theorem ldC {M : Model} {s : Shared} {name : Str} {scope : Scope} {L a : Addr} {cd : Value} {m : Str → Option Value} {x : Str} {pos : Pos} {v : Value} {Q : Value → Shared → Prop} {A : Around} {E : Value → Shared → Prop} (hn : s.heap.Ns L m) (hv : m x = some v) (h : Q v s)
    (hk : scope.kind = .function := by rfl) (hl : (envOfC name scope L a cd).kindOf x = some .local := by rfl) (hd : (x == ("__debug__" : Str)) = false := by decide) :
    wpAny M A (eval (.Name x pos) (envOfC name scope L a cd)) Q E s := wpAny_Name (wpAny_loadName_local hk hl hn hv h) hd
/-- what __init__ leaves of a fresh exception at x -/
structure InitEnd (h h' : Heap) (x C dx t1 : Addr) (v : Value) : Prop where
  keep : ∀ b o, b ≠ x → h.get? b = some o → h'.get? b = some o
  obj : h'.get? x = some { cls := .ref C, dict := some dx, data := .fields #[.ref t1, .none, .none, .none, .bool false, .none] }
  dbig : h.objs.size ≤ dx
  dne : dx ≠ x
  ns : h'.Ns1 dx (fun y => if y = "value" then some v else none)
/-- a made Low -/
structure OwnMade (h h' : Heap) (e C d : Addr) (v : Value) : Prop where
  keep : ∀ b o, h.get? b = some o → h'.get? b = some o
  new : h.objs.size ≤ e
  obj : ∃ oe vs, h'.get? e = some oe ∧ oe.cls = .ref C ∧ oe.dict = some d ∧ oe.data = .fields vs ∧ vs[1]? = some .none
  dbig : h.objs.size ≤ d
  dne : d ≠ e
  ns : h'.Ns1 d (fun y => if y = "value" then some v else none)
section
variable {prog : Program} {w : World} {A : Around} {E : Value → Shared → Prop} {R : Result → Shared → Prop} {s : Shared} {K : Frag} {mg : Str → Option Value} {C fI : Addr}
theorem low_init (T : InvalidNumberTxt K mg C fI) {x t0 : Addr} {v : Value} (X : K.In s.heap) (hlim : s.heap.NoLimit) (hx : s.heap.get? x = some (excO C t0)) (hnx : K.lookup x = none) (hroom : A.depth < recursionLimit)
    (hq : ∀ h' tk dx, InitEnd s.heap h' x C dx t0 v → R (.ok (.ret .none)) { s with heap := h', toks := tk }) :
    codeAny (model prog w) A (.call (.ref fI) ⟨[.ref x, v], []⟩) R s := by
  obtain ⟨oc, od, doc, pm, an, cdv, ct, osl, p1, p2, q1, q2, q3, q4, ho, hcd⟩ := T.fn
  obtain ⟨nm, q, N, bs, sn, sub, ab, col, dd, k0, k1, k2, k3, k5, hC⟩ := T.cls
  have hcl : clsIn K C = some { name := nm, bases := bs, mro := .ref C :: [.type "IndexError", .type "LookupError", .type "Exception", .type "BaseException", .type "object"], ns := N, qualname := q, hasDict := true, slotNames := sn, subclasses := sub, abstract := ab, collection := col, hasDel := false } := by unfold clsIn; rw [hC] <;> rfl
  refine Att.call_fn (binds := [("self", .ref x), ("value", v)]) X hlim ho hcd hroom (BindsTo.of_eq (by first | rfl | with_unfolding_all rfl)) (by first | rfl | decide | with_unfolding_all rfl) (fun s₁ IC => ?_) rfl rfl rfl
  obtain ⟨h₁, tk₁, rfl⟩ := IC.toInCall.same
  have k : ∀ b o, s.heap.get? b = some o → h₁.get? b = some o := IC.toInCall.keep
  have hn := IC.toInCall.ns
  have hxL : s.heap.objs.size ≠ x := Nat.ne_of_gt (Heap.lt_size hx)
  have X₁ : K.In h₁ := X.keeps k
  have hx₁ := k _ _ hx
  -- self.by = by
  show wpAny _ _ (execs _ _) _ _ _
  refine wpAny_execs_cons (plainObj_wpAny_Assign_Attribute ?_)
  refine ldC (v := v) hn (by first | rfl | with_unfolding_all rfl | kernel_rfl) (ldC (v := .ref x) hn (by first | rfl | with_unfolding_all rfl | kernel_rfl) ?_)
  refine set_plain X₁ (ox := excO C t0) (od := none) ⟨hx₁, rfl, rfl, trivial⟩ T.sa ?_
  refine GdX.osaG F.store_IndexError X₁ hx₁ hcl rfl rfl T.noN (fun h₃ tk₃ dx k₃ dn dne hx₃ hn₃ => ?_)
  show wpAny _ _ (execs _ _) _ _ _
  have z : s.heap.objs.size < h₁.objs.size := hn.lt
  exact wpAny_execs_nil (hq h₃ tk₃ dx ⟨fun b o hb e => k₃ b o hb (k b o e), hx₃, Nat.le_of_lt (Nat.lt_of_lt_of_le z dn), dne, hn₃⟩)
theorem low_made (T : InvalidNumberTxt K mg C fI) {v : Value} (X : K.In s.heap) (hlim : s.heap.NoLimit) (hroom : A.depth + 1 < recursionLimit)
    (hq : ∀ h' tk e d, OwnMade s.heap h' e C d v → R (.ok (.ret (.ref e))) { s with heap := h', toks := tk }) :
    codeAny (model prog w) A (.call (.ref C) ⟨[v], []⟩) R s := by
  obtain ⟨nm, q, N, bs, sn, sub, ab, col, dd, k0, k1, k2, k3, k5, hC⟩ := T.cls
  obtain ⟨hp, g, dr, tk, os⟩ := s
  have k : ∀ b o, hp.get? b = some o → ((hp.push (kdv_tup [v])).push (excO C hp.objs.size)).get? b = some o := fun b o e => Heap.get?_push_of_some _ (Heap.get?_push_of_some _ e)
  have hget : ((hp.push (kdv_tup [v])).push (excO C hp.objs.size)).get? (hp.objs.size + 1) = some (excO C hp.objs.size) := by heap_get
  have hnx : K.lookup (hp.objs.size + 1) = none := by
    cases e : K.lookup (hp.objs.size + 1) with
    | none => rfl
    | some o =>
      have z : hp.get? (hp.objs.size + 1) = some o := X _ _ e
      exact absurd (Nat.lt_of_succ_lt (Heap.lt_size z)) (Nat.lt_irrefl _)
  refine call_own F.excBase_IndexError (fun _ => rfl) (X _ _ hC) (looks_findIn X T.iC) (fun self => bind_fn X self T.tC) (one_size v) ?_
  refine low_init (s := ⟨(hp.push (kdv_tup [v])).push (excO C hp.objs.size), g, dr, tk, os⟩) T (X.keeps k) (hlim.keeps k) hget hnx ?_ fun h' tk' dx ⟨k', hx, dn, dne, hns⟩ => ?_
  · show A.depth + 1 < recursionLimit
    exact hroom
  · have old : ∀ b o, hp.get? b = some o → h'.get? b = some o := fun b o e => k' b o (Nat.ne_of_lt (Nat.lt_succ_of_lt (Heap.lt_size e))) (k b o e)
    have z : hp.objs.size + 1 + 1 ≤ dx := by
      first
        | (simpa only [Heap.size_push] using dn)
        | exact dn
        | (have q := dn; rw [Heap.size_push, Heap.size_push] at q; exact q)
    exact ⟨rfl, hq h' tk' (hp.objs.size + 1) dx ⟨old, Nat.le_succ _, ⟨_, _, hx, rfl, rfl, rfl, rfl⟩, Nat.le_trans (Nat.le_trans (Nat.le_succ _) (Nat.le_succ _)) z, dne, hns⟩⟩
end
end XInvalidNumber
end PySem
namespace L2
open PySem PySem.Spec PyProof.Rows
theorem relO_InvalidNumber {v : V} {v' : Value} (r : RelV v v') (f : Str) : RelO (List.lookup f [(("value" : Str), v)]) (if f = "value" then some v' else none) := by
  by_cases hw : f = "value"
  · subst hw
    rw [if_pos rfl]
    have q : List.lookup ("value" : Str) [(("value" : Str), v)] = some v := by simp [List.lookup]
    rw [q]
    exact r
  · rw [if_neg hw]
    have qw : (f == ("value" : Str)) = false := by simpa using hw
    have q2 : List.lookup f [(("value" : Str), v)] = none := by simp [List.lookup, qw]
    rw [q2]
    trivial
section
variable {X : Cx} {C fI : Addr}
/-- Low(e) -/
def tMkInvalidNumber (C : Addr) (ta : TA) : St → Hp → XK → Prop := fun σ H Q => ta σ H fun vs H1 => ∃ v, vs = [v] ∧ ∀ d, H1 d = none → Q (.ref C) (some d) (upd H1 d (.xd [(("value" : Str), v)]))
theorem pmk_InvalidNumber {a : Expr} {ta : TA} {p pos : Pos} {k : Nat} (T : PySem.XInvalidNumber.InvalidNumberTxt X.K X.mg C fI) (hr : Room k X.A) (ha : PA X [a] ta) (hg : Gl X "InvalidNumber" := by rfl)
    (he : starEach (a :: []) X.env = (false, eval a X.env) :: starEach [] X.env := by rfl) (hpl : (backTo pos (starEach [] X.env)).any (·.1) = false := by rfl) :
    PMk X (.Call (.Name "InvalidNumber" p) [a] [] pos) (tMkInvalidNumber C ta) := by
  intro pins s σ H Q I h
  refine wpAny_Call_Name_kw (ld_glob I hg T.gC ?_)
  refine PySem.W.callWith_K (h₀ := X.base) I.ok.mod.kin T.kC (thn (ha.run pos pins s σ H _ I h) fun us s1 hh => ?_) he hpl
  obtain ⟨vs, H1, I1, r1, v, ev, q1⟩ := hh
  subst ev
  refine ⟨I1.kIn, ?_⟩
  cases r1 with
  | cons rv rn =>
    rename_i v' us'
    cases rn
    show wpAny _ _ (call (.ref C) [v']) _ _ _
    have hlim := I1.nolimit
    obtain ⟨hp, g, dr, tk, os⟩ := s1
    refine wpAny_call (PySem.XInvalidNumber.low_made T I1.kIn hlim (by have := hr.dp; omega) fun h' tk' e d M => ?_)
    show MkP X pins σ Q (.ref e) ⟨h', g, dr, tk', os⟩
    obtain ⟨oe, fv, hoe, hc, hd, hdat, h1⟩ := M.obj
    have hns := M.ns
    obtain ⟨G', g1, g2⟩ := restrict h' fun b => decide (b ≠ e)
    have gk : ∀ b, b ≠ e → G'.get? b = h'.get? b := fun b hb => g1 b (decide_eq_true hb)
    have ge : G'.get? e = none := g2 e (by simp)
    have old : ∀ b o, hp.get? b = some o → G'.get? b = some o := fun b o q => (gk b (Nat.ne_of_lt (Nat.lt_of_lt_of_le (Heap.lt_size q) M.new))).trans (M.keep b o q)
    have ob : ObjOk X.prog X.w (upd H1 d (.xd [(("value" : Str), v)])) G' d (.xd [(("value" : Str), v)]) :=
      ⟨_, hns.at (fun o q => (gk d M.dne).trans q), fun f => relO_InvalidNumber rv f⟩
    have J : Inv X pins σ (upd H1 d (.xd [(("value" : Str), v)])) ⟨G', g, dr, tk', os⟩ := I1.laid (t' := tk') old M.dbig ob
    refine ⟨e, oe, fv, ⟨G', g, dr, tk', os⟩, _, .ref C, some d, rfl, J, fun b o q => ?_, ge, hoe, ⟨hc, hd⟩, hdat, h1, ?_, rfl, I1.bare, raises_own T.exC T.tyC, q1 d (I1.hok.fresh M.dbig)⟩
    · by_cases hb : b = e
      · have q' : G'.get? b = some o := q
        rw [hb, ge] at q'; cases q'
      · exact (gk b hb).symm.trans q
    · rw [upd_ne (Ne.symm M.dne)]
      exact I1.hok.fresh M.new
/-- raise Low(e) -/
def tRaiseInvalidNumber (C : Addr) (W : WX) (ta : TA) : TS := fun _ σ H => tMkInvalidNumber C ta σ H fun cls d H' => W cls d σ H'
theorem ps_raiseInvalidNumber {a : Expr} {ta : TA} {W : WX} {p pos pos2 : Pos} {k : Nat} (hc : X.calm = true) (T : PySem.XInvalidNumber.InvalidNumberTxt X.K X.mg C fI) (hr : Room k X.A) (tk : Takes X W) (ha : PA X [a] ta) (hg : Gl X "InvalidNumber" := by rfl)
    (he : starEach (a :: []) X.env = (false, eval a X.env) :: starEach [] X.env := by rfl) (hpl : (backTo pos (starEach [] X.env)).any (·.1) = false := by rfl) :
    PS X (.Raise (some (.Call (.Name "InvalidNumber" p) [a] [] pos)) none pos2) (tRaiseInvalidNumber C W ta) := ps_raise hc tk (pmk_InvalidNumber T hr ha hg he hpl)
/-- low.by, low the exception that the suite holds (at a; its class cls, its dict d) -/
def tByInvalidNumber (C : Addr) (a : Addr) (cls : Value) (d : Option Addr) (te : TE) : TE := fun σ H Q => te σ H fun x H1 => x = .ref a ∧ cls = .ref C ∧ ∃ (dd : Addr) (v : V), d = some dd ∧ H1 dd = some (.xd [(("value" : Str), v)]) ∧ Q v H1
theorem pe_byInvalidNumber {a : Addr} {oe : Obj} {cls : Value} {d : Option Addr} {pn : List (Addr × Obj)} {e : Expr} {te : TE} {pos : Pos} (T : PySem.XInvalidNumber.InvalidNumberTxt X.K X.mg C fI) (hz : Zc cls d oe) (hf : ∃ vs, oe.data = .fields vs) (he : PE (X.suite a ((a, oe) :: pn)) e te)
    (hb : attributeBase e "value" X.env (eval e X.env) = eval e X.env := by rfl) :
    PE (X.suite a ((a, oe) :: pn)) (.Attribute e "value" pos) (tByInvalidNumber C a cls d te) := by
  refine ⟨fun pins s σ H Q I h => ?_⟩
  refine attr_of hb (thn (he.run pins s σ H _ I h) fun u s1 hh => ?_)
  obtain ⟨x, H1, I1, rx, ex, ec, dd, v, ed, ea, q⟩ := hh
  subst ex
  obtain rfl : u = Value.ref a := rx
  subst ec
  subst ed
  obtain ⟨ha, _⟩ := I1.pin (a, oe) (List.mem_append_left _ List.mem_cons_self)
  obtain ⟨vs, hd⟩ := hf
  have hx : ObjOk X.prog X.w H1 s1.heap dd (.xd [(("value" : Str), v)]) := I1.hok dd _ ea
  obtain ⟨mA, hns, hr⟩ := hx
  obtain ⟨od, ho, hl⟩ := lookIn_ns hns
  have l : List.lookup ("value" : Str) [(("value" : Str), v)] = some v := by simp [List.lookup]
  obtain ⟨u, hu, ru⟩ := RelO.some_of (v := v) (o := mA "value") (by rw [← l]; exact hr "value")
  have J : PySem.W.InstAt s1.heap a oe C (some od) := ⟨ha, hz.1, by unfold PySem.W.notCls; rw [hd] <;> rfl, by rw [hz.2]; exact ho⟩
  exact HandSPX.exc_get I1.kIn J T.ga T.gg T.exC (PySem.W.findObj_own T.hdC T.noN rfl (by rw [hl, hu])) (handed_of ru) ⟨v, H1, I1.tok _, ru, q⟩
end
end L2

set_option Elab.async false
set_option linter.all false
set_option maxRecDepth 100000
set_option maxHeartbeats 4000000
namespace PySem
namespace XTooMany
open PySem.W PySem.Calls PyProof.Rows PySem.HandSPX
/-! ### the text of __init__ -/
def iA (p1 p2 : Pos) : Arguments := { posonlyargs := [], args := [{ arg := "self", annotation := none, pos := p1 }, { arg := "limit", annotation := none, pos := p2 }], vararg := none, kwonlyargs := [], kw_defaults := [], kwarg := none, defaults := [] }
def iB (q1 q2 q3 q4 : Pos) : List Stmt := [.Assign [.Attribute (.Name "self" q1) "limit" q2] (.Name "limit" q3) q4]
def iS : Scope := { kind := .function, names := [(PySem.Str.ofString "self", .local), (PySem.Str.ofString "limit", .local)], isGenerator := false, isCoroutine := false, more := [] }
/-- what the written part says of Low, at C, and of its __init__, at fI -/
structure TooManyTxt (K : Frag) (mg : Str → Option Value) (C fI : Addr) : Prop where
  gC : mg "TooMany" = some (.ref C)
  cls : ∃ nm q N bs sn sub ab col dd k0 k1 k2 k3 k5, K.lookup C = some (excClassObj nm q C N bs [.type "OverflowError", .type "ArithmeticError", .type "Exception", .type "BaseException", .type "object"] true sn sub ab col dd k0 k1 k2 k3 k5 "OverflowError.__new__")
  sa : findIn K (.ref C) "__setattr__" = some (some (.builtin "object.__setattr__"))
  ga : findIn K (.ref C) "__getattribute__" = some (some (.builtin "BaseException.__getattribute__"))
  gg : findIn K (.ref C) "__getattr__" = some none
  noN : findIn K (.ref C) "limit" = some none
  iC : findIn K (.ref C) "__init__" = some (some (.ref fI))
  tC : typeIn K (.ref fI) = some (.type "function")
  kC : keepIn K (.ref C) = true
  exC : subIn K (.ref C) (.type "BaseException") = some true
  tyC : typeIn K (.ref C) = some (.type "type")
  hdC : hasDictIn K C = true
  te : exmOne K (.ref C) (.ref C) = some true
  fn : ∃ (oc : Value) (od : Option Addr) (doc pm : Value) (an : Option Addr) (cdv ct : Value) (osl : Array (Option Value)) (p1 p2 q1 q2 q3 q4 : Pos),
    K.lookup fI = some ⟨oc, od, .func (fnOf "__init__" "TooMany.__init__" (iA p1 p2) (iB q1 q2 q3 q4) iS .none .none doc pm an cdv ct), osl⟩ ∧ codeIn K cdv "TooMany.__init__" = true
theorem one_size (v : Value) : [v].length ≤ sizeLine := by
  rw [sizeLine_eq]
  exact (by decide : 1 ≤ 16777216)
theorem kept_but {K : Frag} {h h' : Heap} {x : Addr} (X : K.In h) (hx : K.lookup x = none) (k : ∀ b o, b ≠ x → h.get? b = some o → h'.get? b = some o) : K.In h' := fun a o e =>
  k a o (fun z => by rw [z, hx] at e; cases e) (X a o e)
theorem ldC {M : Model} {s : Shared} {name : Str} {scope : Scope} {L a : Addr} {cd : Value} {m : Str → Option Value} {x : Str} {pos : Pos} {v : Value} {Q : Value → Shared → Prop} {A : Around} {E : Value → Shared → Prop} (hn : s.heap.Ns L m) (hv : m x = some v) (h : Q v s)
    (hk : scope.kind = .function := by rfl) (hl : (envOfC name scope L a cd).kindOf x = some .local := by rfl) (hd : (x == ("__debug__" : Str)) = false := by decide) :
    wpAny M A (eval (.Name x pos) (envOfC name scope L a cd)) Q E s := wpAny_Name (wpAny_loadName_local hk hl hn hv h) hd
/-- what __init__ leaves of a fresh exception at x -/
structure InitEnd (h h' : Heap) (x C dx t1 : Addr) (v : Value) : Prop where
  keep : ∀ b o, b ≠ x → h.get? b = some o → h'.get? b = some o
  obj : h'.get? x = some { cls := .ref C, dict := some dx, data := .fields #[.ref t1, .none, .none, .none, .bool false, .none] }
  dbig : h.objs.size ≤ dx
  dne : dx ≠ x
  ns : h'.Ns1 dx (fun y => if y = "limit" then some v else none)
/-- a made Low -/
structure OwnMade (h h' : Heap) (e C d : Addr) (v : Value) : Prop where
  keep : ∀ b o, h.get? b = some o → h'.get? b = some o
  new : h.objs.size ≤ e
  obj : ∃ oe vs, h'.get? e = some oe ∧ oe.cls = .ref C ∧ oe.dict = some d ∧ oe.data = .fields vs ∧ vs[1]? = some .none
  dbig : h.objs.size ≤ d
  dne : d ≠ e
  ns : h'.Ns1 d (fun y => if y = "limit" then some v else none)
section
variable {prog : Program} {w : World} {A : Around} {E : Value → Shared → Prop} {R : Result → Shared → Prop} {s : Shared} {K : Frag} {mg : Str → Option Value} {C fI : Addr}
theorem low_init (T : TooManyTxt K mg C fI) {x t0 : Addr} {v : Value} (X : K.In s.heap) (hlim : s.heap.NoLimit) (hx : s.heap.get? x = some (excO C t0)) (hnx : K.lookup x = none) (hroom : A.depth < recursionLimit)
    (hq : ∀ h' tk dx, InitEnd s.heap h' x C dx t0 v → R (.ok (.ret .none)) { s with heap := h', toks := tk }) :
    codeAny (model prog w) A (.call (.ref fI) ⟨[.ref x, v], []⟩) R s := by
  obtain ⟨oc, od, doc, pm, an, cdv, ct, osl, p1, p2, q1, q2, q3, q4, ho, hcd⟩ := T.fn
  obtain ⟨nm, q, N, bs, sn, sub, ab, col, dd, k0, k1, k2, k3, k5, hC⟩ := T.cls
  have hcl : clsIn K C = some { name := nm, bases := bs, mro := .ref C :: [.type "OverflowError", .type "ArithmeticError", .type "Exception", .type "BaseException", .type "object"], ns := N, qualname := q, hasDict := true, slotNames := sn, subclasses := sub, abstract := ab, collection := col, hasDel := false } := by unfold clsIn; rw [hC] <;> rfl
  refine Att.call_fn (binds := [("self", .ref x), ("limit", v)]) X hlim ho hcd hroom (BindsTo.of_eq (by first | rfl | with_unfolding_all rfl)) (by first | rfl | decide | with_unfolding_all rfl) (fun s₁ IC => ?_) rfl rfl rfl
  obtain ⟨h₁, tk₁, rfl⟩ := IC.toInCall.same
  have k : ∀ b o, s.heap.get? b = some o → h₁.get? b = some o := IC.toInCall.keep
  have hn := IC.toInCall.ns
  have hxL : s.heap.objs.size ≠ x := Nat.ne_of_gt (Heap.lt_size hx)
  have X₁ : K.In h₁ := X.keeps k
  have hx₁ := k _ _ hx
  -- self.by = by
  show wpAny _ _ (execs _ _) _ _ _
  refine wpAny_execs_cons (plainObj_wpAny_Assign_Attribute ?_)
  refine ldC (v := v) hn (by first | rfl | with_unfolding_all rfl | kernel_rfl) (ldC (v := .ref x) hn (by first | rfl | with_unfolding_all rfl | kernel_rfl) ?_)
  refine set_plain X₁ (ox := excO C t0) (od := none) ⟨hx₁, rfl, rfl, trivial⟩ T.sa ?_
  refine GdX.osaG F.store_OverflowError X₁ hx₁ hcl rfl rfl T.noN (fun h₃ tk₃ dx k₃ dn dne hx₃ hn₃ => ?_)
  show wpAny _ _ (execs _ _) _ _ _
  have z : s.heap.objs.size < h₁.objs.size := hn.lt
  exact wpAny_execs_nil (hq h₃ tk₃ dx ⟨fun b o hb e => k₃ b o hb (k b o e), hx₃, Nat.le_of_lt (Nat.lt_of_lt_of_le z dn), dne, hn₃⟩)
theorem low_made (T : TooManyTxt K mg C fI) {v : Value} (X : K.In s.heap) (hlim : s.heap.NoLimit) (hroom : A.depth + 1 < recursionLimit)
    (hq : ∀ h' tk e d, OwnMade s.heap h' e C d v → R (.ok (.ret (.ref e))) { s with heap := h', toks := tk }) :
    codeAny (model prog w) A (.call (.ref C) ⟨[v], []⟩) R s := by
  obtain ⟨nm, q, N, bs, sn, sub, ab, col, dd, k0, k1, k2, k3, k5, hC⟩ := T.cls
  obtain ⟨hp, g, dr, tk, os⟩ := s
  have k : ∀ b o, hp.get? b = some o → ((hp.push (kdv_tup [v])).push (excO C hp.objs.size)).get? b = some o := fun b o e => Heap.get?_push_of_some _ (Heap.get?_push_of_some _ e)
  have hget : ((hp.push (kdv_tup [v])).push (excO C hp.objs.size)).get? (hp.objs.size + 1) = some (excO C hp.objs.size) := by heap_get
  have hnx : K.lookup (hp.objs.size + 1) = none := by
    cases e : K.lookup (hp.objs.size + 1) with
    | none => rfl
    | some o =>
      have z : hp.get? (hp.objs.size + 1) = some o := X _ _ e
      exact absurd (Nat.lt_of_succ_lt (Heap.lt_size z)) (Nat.lt_irrefl _)
  refine call_own F.excBase_OverflowError (fun _ => rfl) (X _ _ hC) (looks_findIn X T.iC) (fun self => bind_fn X self T.tC) (one_size v) ?_
  refine low_init (s := ⟨(hp.push (kdv_tup [v])).push (excO C hp.objs.size), g, dr, tk, os⟩) T (X.keeps k) (hlim.keeps k) hget hnx ?_ fun h' tk' dx ⟨k', hx, dn, dne, hns⟩ => ?_
  · show A.depth + 1 < recursionLimit
    exact hroom
  · have old : ∀ b o, hp.get? b = some o → h'.get? b = some o := fun b o e => k' b o (Nat.ne_of_lt (Nat.lt_succ_of_lt (Heap.lt_size e))) (k b o e)
    have z : hp.objs.size + 1 + 1 ≤ dx := by
      first
        | (simpa only [Heap.size_push] using dn)
        | exact dn
        | (have q := dn; rw [Heap.size_push, Heap.size_push] at q; exact q)
    exact ⟨rfl, hq h' tk' (hp.objs.size + 1) dx ⟨old, Nat.le_succ _, ⟨_, _, hx, rfl, rfl, rfl, rfl⟩, Nat.le_trans (Nat.le_trans (Nat.le_succ _) (Nat.le_succ _)) z, dne, hns⟩⟩
end
end XTooMany
end PySem
namespace L2
open PySem PySem.Spec PyProof.Rows
theorem relO_TooMany {v : V} {v' : Value} (r : RelV v v') (f : Str) : RelO (List.lookup f [(("limit" : Str), v)]) (if f = "limit" then some v' else none) := by
  by_cases hw : f = "limit"
  · subst hw
    rw [if_pos rfl]
    have q : List.lookup ("limit" : Str) [(("limit" : Str), v)] = some v := by simp [List.lookup]
    rw [q]
    exact r
  · rw [if_neg hw]
    have qw : (f == ("limit" : Str)) = false := by simpa using hw
    have q2 : List.lookup f [(("limit" : Str), v)] = none := by simp [List.lookup, qw]
    rw [q2]
    trivial
section
variable {X : Cx} {C fI : Addr}
/-- Low(e) -/
def tMkTooMany (C : Addr) (ta : TA) : St → Hp → XK → Prop := fun σ H Q => ta σ H fun vs H1 => ∃ v, vs = [v] ∧ ∀ d, H1 d = none → Q (.ref C) (some d) (upd H1 d (.xd [(("limit" : Str), v)]))
theorem pmk_TooMany {a : Expr} {ta : TA} {p pos : Pos} {k : Nat} (T : PySem.XTooMany.TooManyTxt X.K X.mg C fI) (hr : Room k X.A) (ha : PA X [a] ta) (hg : Gl X "TooMany" := by rfl)
    (he : starEach (a :: []) X.env = (false, eval a X.env) :: starEach [] X.env := by rfl) (hpl : (backTo pos (starEach [] X.env)).any (·.1) = false := by rfl) :
    PMk X (.Call (.Name "TooMany" p) [a] [] pos) (tMkTooMany C ta) := by
  intro pins s σ H Q I h
  refine wpAny_Call_Name_kw (ld_glob I hg T.gC ?_)
  refine PySem.W.callWith_K (h₀ := X.base) I.ok.mod.kin T.kC (thn (ha.run pos pins s σ H _ I h) fun us s1 hh => ?_) he hpl
  obtain ⟨vs, H1, I1, r1, v, ev, q1⟩ := hh
  subst ev
  refine ⟨I1.kIn, ?_⟩
  cases r1 with
  | cons rv rn =>
    rename_i v' us'
    cases rn
    show wpAny _ _ (call (.ref C) [v']) _ _ _
    have hlim := I1.nolimit
    obtain ⟨hp, g, dr, tk, os⟩ := s1
    refine wpAny_call (PySem.XTooMany.low_made T I1.kIn hlim (by have := hr.dp; omega) fun h' tk' e d M => ?_)
    show MkP X pins σ Q (.ref e) ⟨h', g, dr, tk', os⟩
    obtain ⟨oe, fv, hoe, hc, hd, hdat, h1⟩ := M.obj
    have hns := M.ns
    obtain ⟨G', g1, g2⟩ := restrict h' fun b => decide (b ≠ e)
    have gk : ∀ b, b ≠ e → G'.get? b = h'.get? b := fun b hb => g1 b (decide_eq_true hb)
    have ge : G'.get? e = none := g2 e (by simp)
    have old : ∀ b o, hp.get? b = some o → G'.get? b = some o := fun b o q => (gk b (Nat.ne_of_lt (Nat.lt_of_lt_of_le (Heap.lt_size q) M.new))).trans (M.keep b o q)
    have ob : ObjOk X.prog X.w (upd H1 d (.xd [(("limit" : Str), v)])) G' d (.xd [(("limit" : Str), v)]) :=
      ⟨_, hns.at (fun o q => (gk d M.dne).trans q), fun f => relO_TooMany rv f⟩
    have J : Inv X pins σ (upd H1 d (.xd [(("limit" : Str), v)])) ⟨G', g, dr, tk', os⟩ := I1.laid (t' := tk') old M.dbig ob
    refine ⟨e, oe, fv, ⟨G', g, dr, tk', os⟩, _, .ref C, some d, rfl, J, fun b o q => ?_, ge, hoe, ⟨hc, hd⟩, hdat, h1, ?_, rfl, I1.bare, raises_own T.exC T.tyC, q1 d (I1.hok.fresh M.dbig)⟩
    · by_cases hb : b = e
      · have q' : G'.get? b = some o := q
        rw [hb, ge] at q'; cases q'
      · exact (gk b hb).symm.trans q
    · rw [upd_ne (Ne.symm M.dne)]
      exact I1.hok.fresh M.new
/-- raise Low(e) -/
def tRaiseTooMany (C : Addr) (W : WX) (ta : TA) : TS := fun _ σ H => tMkTooMany C ta σ H fun cls d H' => W cls d σ H'
theorem ps_raiseTooMany {a : Expr} {ta : TA} {W : WX} {p pos pos2 : Pos} {k : Nat} (hc : X.calm = true) (T : PySem.XTooMany.TooManyTxt X.K X.mg C fI) (hr : Room k X.A) (tk : Takes X W) (ha : PA X [a] ta) (hg : Gl X "TooMany" := by rfl)
    (he : starEach (a :: []) X.env = (false, eval a X.env) :: starEach [] X.env := by rfl) (hpl : (backTo pos (starEach [] X.env)).any (·.1) = false := by rfl) :
    PS X (.Raise (some (.Call (.Name "TooMany" p) [a] [] pos)) none pos2) (tRaiseTooMany C W ta) := ps_raise hc tk (pmk_TooMany T hr ha hg he hpl)
/-- low.by, low the exception that the suite holds (at a; its class cls, its dict d) -/
def tByTooMany (C : Addr) (a : Addr) (cls : Value) (d : Option Addr) (te : TE) : TE := fun σ H Q => te σ H fun x H1 => x = .ref a ∧ cls = .ref C ∧ ∃ (dd : Addr) (v : V), d = some dd ∧ H1 dd = some (.xd [(("limit" : Str), v)]) ∧ Q v H1
theorem pe_byTooMany {a : Addr} {oe : Obj} {cls : Value} {d : Option Addr} {pn : List (Addr × Obj)} {e : Expr} {te : TE} {pos : Pos} (T : PySem.XTooMany.TooManyTxt X.K X.mg C fI) (hz : Zc cls d oe) (hf : ∃ vs, oe.data = .fields vs) (he : PE (X.suite a ((a, oe) :: pn)) e te)
    (hb : attributeBase e "limit" X.env (eval e X.env) = eval e X.env := by rfl) :
    PE (X.suite a ((a, oe) :: pn)) (.Attribute e "limit" pos) (tByTooMany C a cls d te) := by
  refine ⟨fun pins s σ H Q I h => ?_⟩
  refine attr_of hb (thn (he.run pins s σ H _ I h) fun u s1 hh => ?_)
  obtain ⟨x, H1, I1, rx, ex, ec, dd, v, ed, ea, q⟩ := hh
  subst ex
  obtain rfl : u = Value.ref a := rx
  subst ec
  subst ed
  obtain ⟨ha, _⟩ := I1.pin (a, oe) (List.mem_append_left _ List.mem_cons_self)
  obtain ⟨vs, hd⟩ := hf
  have hx : ObjOk X.prog X.w H1 s1.heap dd (.xd [(("limit" : Str), v)]) := I1.hok dd _ ea
  obtain ⟨mA, hns, hr⟩ := hx
  obtain ⟨od, ho, hl⟩ := lookIn_ns hns
  have l : List.lookup ("limit" : Str) [(("limit" : Str), v)] = some v := by simp [List.lookup]
  obtain ⟨u, hu, ru⟩ := RelO.some_of (v := v) (o := mA "limit") (by rw [← l]; exact hr "limit")
  have J : PySem.W.InstAt s1.heap a oe C (some od) := ⟨ha, hz.1, by unfold PySem.W.notCls; rw [hd] <;> rfl, by rw [hz.2]; exact ho⟩
  exact HandSPX.exc_get I1.kIn J T.ga T.gg T.exC (PySem.W.findObj_own T.hdC T.noN rfl (by rw [hl, hu])) (handed_of ru) ⟨v, H1, I1.tok _, ru, q⟩
end
end L2

set_option Elab.async false
set_option linter.all false
set_option maxRecDepth 100000
set_option maxHeartbeats 4000000
namespace PySem
namespace XRefused
open PySem.W PySem.Calls PyProof.Rows PySem.HandSPX
/-! ### the text of __init__ -/
def iA (p1 p2 : Pos) : Arguments := { posonlyargs := [], args := [{ arg := "self", annotation := none, pos := p1 }, { arg := "reason", annotation := none, pos := p2 }], vararg := none, kwonlyargs := [], kw_defaults := [], kwarg := none, defaults := [] }
def iB (q1 q2 q3 q4 : Pos) : List Stmt := [.Assign [.Attribute (.Name "self" q1) "reason" q2] (.Name "reason" q3) q4]
def iS : Scope := { kind := .function, names := [(PySem.Str.ofString "self", .local), (PySem.Str.ofString "reason", .local)], isGenerator := false, isCoroutine := false, more := [] }
/-- what the written part says of Low, at C, and of its __init__, at fI -/
structure RefusedTxt (K : Frag) (mg : Str → Option Value) (C fI : Addr) : Prop where
  gC : mg "Refused" = some (.ref C)
  cls : ∃ nm q N bs sn sub ab col dd k0 k1 k2 k3 k5, K.lookup C = some (excClassObj nm q C N bs [.type "ArithmeticError", .type "Exception", .type "BaseException", .type "object"] true sn sub ab col dd k0 k1 k2 k3 k5 "ArithmeticError.__new__")
  sa : findIn K (.ref C) "__setattr__" = some (some (.builtin "object.__setattr__"))
  ga : findIn K (.ref C) "__getattribute__" = some (some (.builtin "BaseException.__getattribute__"))
  gg : findIn K (.ref C) "__getattr__" = some none
  noN : findIn K (.ref C) "reason" = some none
  iC : findIn K (.ref C) "__init__" = some (some (.ref fI))
  tC : typeIn K (.ref fI) = some (.type "function")
  kC : keepIn K (.ref C) = true
  exC : subIn K (.ref C) (.type "BaseException") = some true
  tyC : typeIn K (.ref C) = some (.type "type")
  hdC : hasDictIn K C = true
  te : exmOne K (.ref C) (.ref C) = some true
  fn : ∃ (oc : Value) (od : Option Addr) (doc pm : Value) (an : Option Addr) (cdv ct : Value) (osl : Array (Option Value)) (p1 p2 q1 q2 q3 q4 : Pos),
    K.lookup fI = some ⟨oc, od, .func (fnOf "__init__" "Refused.__init__" (iA p1 p2) (iB q1 q2 q3 q4) iS .none .none doc pm an cdv ct), osl⟩ ∧ codeIn K cdv "Refused.__init__" = true
theorem one_size (v : Value) : [v].length ≤ sizeLine := by
  rw [sizeLine_eq]
  exact (by decide : 1 ≤ 16777216)
theorem kept_but {K : Frag} {h h' : Heap} {x : Addr} (X : K.In h) (hx : K.lookup x = none) (k : ∀ b o, b ≠ x → h.get? b = some o → h'.get? b = some o) : K.In h' := fun a o e =>
  k a o (fun z => by rw [z, hx] at e; cases e) (X a o e)
theorem ldC {M : Model} {s : Shared} {name : Str} {scope : Scope} {L a : Addr} {cd : Value} {m : Str → Option Value} {x : Str} {pos : Pos} {v : Value} {Q : Value → Shared → Prop} {A : Around} {E : Value → Shared → Prop} (hn : s.heap.Ns L m) (hv : m x = some v) (h : Q v s)
    (hk : scope.kind = .function := by rfl) (hl : (envOfC name scope L a cd).kindOf x = some .local := by rfl) (hd : (x == ("__debug__" : Str)) = false := by decide) :
    wpAny M A (eval (.Name x pos) (envOfC name scope L a cd)) Q E s := wpAny_Name (wpAny_loadName_local hk hl hn hv h) hd
/-- what __init__ leaves of a fresh exception at x -/
structure InitEnd (h h' : Heap) (x C dx t1 : Addr) (v : Value) : Prop where
  keep : ∀ b o, b ≠ x → h.get? b = some o → h'.get? b = some o
  obj : h'.get? x = some { cls := .ref C, dict := some dx, data := .fields #[.ref t1, .none, .none, .none, .bool false, .none] }
  dbig : h.objs.size ≤ dx
  dne : dx ≠ x
  ns : h'.Ns1 dx (fun y => if y = "reason" then some v else none)
/-- a made Low -/
structure OwnMade (h h' : Heap) (e C d : Addr) (v : Value) : Prop where
  keep : ∀ b o, h.get? b = some o → h'.get? b = some o
  new : h.objs.size ≤ e
  obj : ∃ oe vs, h'.get? e = some oe ∧ oe.cls = .ref C ∧ oe.dict = some d ∧ oe.data = .fields vs ∧ vs[1]? = some .none
  dbig : h.objs.size ≤ d
  dne : d ≠ e
  ns : h'.Ns1 d (fun y => if y = "reason" then some v else none)
section
variable {prog : Program} {w : World} {A : Around} {E : Value → Shared → Prop} {R : Result → Shared → Prop} {s : Shared} {K : Frag} {mg : Str → Option Value} {C fI : Addr}
theorem low_init (T : RefusedTxt K mg C fI) {x t0 : Addr} {v : Value} (X : K.In s.heap) (hlim : s.heap.NoLimit) (hx : s.heap.get? x = some (excO C t0)) (hnx : K.lookup x = none) (hroom : A.depth < recursionLimit)
    (hq : ∀ h' tk dx, InitEnd s.heap h' x C dx t0 v → R (.ok (.ret .none)) { s with heap := h', toks := tk }) :
    codeAny (model prog w) A (.call (.ref fI) ⟨[.ref x, v], []⟩) R s := by
  obtain ⟨oc, od, doc, pm, an, cdv, ct, osl, p1, p2, q1, q2, q3, q4, ho, hcd⟩ := T.fn
  obtain ⟨nm, q, N, bs, sn, sub, ab, col, dd, k0, k1, k2, k3, k5, hC⟩ := T.cls
  have hcl : clsIn K C = some { name := nm, bases := bs, mro := .ref C :: [.type "ArithmeticError", .type "Exception", .type "BaseException", .type "object"], ns := N, qualname := q, hasDict := true, slotNames := sn, subclasses := sub, abstract := ab, collection := col, hasDel := false } := by unfold clsIn; rw [hC] <;> rfl
  refine Att.call_fn (binds := [("self", .ref x), ("reason", v)]) X hlim ho hcd hroom (BindsTo.of_eq (by first | rfl | with_unfolding_all rfl)) (by first | rfl | decide | with_unfolding_all rfl) (fun s₁ IC => ?_) rfl rfl rfl
  obtain ⟨h₁, tk₁, rfl⟩ := IC.toInCall.same
  have k : ∀ b o, s.heap.get? b = some o → h₁.get? b = some o := IC.toInCall.keep
  have hn := IC.toInCall.ns
  have hxL : s.heap.objs.size ≠ x := Nat.ne_of_gt (Heap.lt_size hx)
  have X₁ : K.In h₁ := X.keeps k
  have hx₁ := k _ _ hx
  -- self.by = by
  show wpAny _ _ (execs _ _) _ _ _
  refine wpAny_execs_cons (plainObj_wpAny_Assign_Attribute ?_)
  refine ldC (v := v) hn (by first | rfl | with_unfolding_all rfl | kernel_rfl) (ldC (v := .ref x) hn (by first | rfl | with_unfolding_all rfl | kernel_rfl) ?_)
  refine set_plain X₁ (ox := excO C t0) (od := none) ⟨hx₁, rfl, rfl, trivial⟩ T.sa ?_
  refine GdX.osaG F.store_ArithmeticError X₁ hx₁ hcl rfl rfl T.noN (fun h₃ tk₃ dx k₃ dn dne hx₃ hn₃ => ?_)
  show wpAny _ _ (execs _ _) _ _ _
  have z : s.heap.objs.size < h₁.objs.size := hn.lt
  exact wpAny_execs_nil (hq h₃ tk₃ dx ⟨fun b o hb e => k₃ b o hb (k b o e), hx₃, Nat.le_of_lt (Nat.lt_of_lt_of_le z dn), dne, hn₃⟩)
theorem low_made (T : RefusedTxt K mg C fI) {v : Value} (X : K.In s.heap) (hlim : s.heap.NoLimit) (hroom : A.depth + 1 < recursionLimit)
    (hq : ∀ h' tk e d, OwnMade s.heap h' e C d v → R (.ok (.ret (.ref e))) { s with heap := h', toks := tk }) :
    codeAny (model prog w) A (.call (.ref C) ⟨[v], []⟩) R s := by
  obtain ⟨nm, q, N, bs, sn, sub, ab, col, dd, k0, k1, k2, k3, k5, hC⟩ := T.cls
  obtain ⟨hp, g, dr, tk, os⟩ := s
  have k : ∀ b o, hp.get? b = some o → ((hp.push (kdv_tup [v])).push (excO C hp.objs.size)).get? b = some o := fun b o e => Heap.get?_push_of_some _ (Heap.get?_push_of_some _ e)
  have hget : ((hp.push (kdv_tup [v])).push (excO C hp.objs.size)).get? (hp.objs.size + 1) = some (excO C hp.objs.size) := by heap_get
  have hnx : K.lookup (hp.objs.size + 1) = none := by
    cases e : K.lookup (hp.objs.size + 1) with
    | none => rfl
    | some o =>
      have z : hp.get? (hp.objs.size + 1) = some o := X _ _ e
      exact absurd (Nat.lt_of_succ_lt (Heap.lt_size z)) (Nat.lt_irrefl _)
  refine call_own F.excBase_ArithmeticError (fun _ => rfl) (X _ _ hC) (looks_findIn X T.iC) (fun self => bind_fn X self T.tC) (one_size v) ?_
  refine low_init (s := ⟨(hp.push (kdv_tup [v])).push (excO C hp.objs.size), g, dr, tk, os⟩) T (X.keeps k) (hlim.keeps k) hget hnx ?_ fun h' tk' dx ⟨k', hx, dn, dne, hns⟩ => ?_
  · show A.depth + 1 < recursionLimit
    exact hroom
  · have old : ∀ b o, hp.get? b = some o → h'.get? b = some o := fun b o e => k' b o (Nat.ne_of_lt (Nat.lt_succ_of_lt (Heap.lt_size e))) (k b o e)
    have z : hp.objs.size + 1 + 1 ≤ dx := by
      first
        | (simpa only [Heap.size_push] using dn)
        | exact dn
        | (have q := dn; rw [Heap.size_push, Heap.size_push] at q; exact q)
    exact ⟨rfl, hq h' tk' (hp.objs.size + 1) dx ⟨old, Nat.le_succ _, ⟨_, _, hx, rfl, rfl, rfl, rfl⟩, Nat.le_trans (Nat.le_trans (Nat.le_succ _) (Nat.le_succ _)) z, dne, hns⟩⟩
end
end XRefused
end PySem
namespace L2
open PySem PySem.Spec PyProof.Rows
theorem relO_Refused {v : V} {v' : Value} (r : RelV v v') (f : Str) : RelO (List.lookup f [(("reason" : Str), v)]) (if f = "reason" then some v' else none) := by
  by_cases hw : f = "reason"
  · subst hw
    rw [if_pos rfl]
    have q : List.lookup ("reason" : Str) [(("reason" : Str), v)] = some v := by simp [List.lookup]
    rw [q]
    exact r
  · rw [if_neg hw]
    have qw : (f == ("reason" : Str)) = false := by simpa using hw
    have q2 : List.lookup f [(("reason" : Str), v)] = none := by simp [List.lookup, qw]
    rw [q2]
    trivial
section
variable {X : Cx} {C fI : Addr}
/-- Low(e) -/
def tMkRefused (C : Addr) (ta : TA) : St → Hp → XK → Prop := fun σ H Q => ta σ H fun vs H1 => ∃ v, vs = [v] ∧ ∀ d, H1 d = none → Q (.ref C) (some d) (upd H1 d (.xd [(("reason" : Str), v)]))
theorem pmk_Refused {a : Expr} {ta : TA} {p pos : Pos} {k : Nat} (T : PySem.XRefused.RefusedTxt X.K X.mg C fI) (hr : Room k X.A) (ha : PA X [a] ta) (hg : Gl X "Refused" := by rfl)
    (he : starEach (a :: []) X.env = (false, eval a X.env) :: starEach [] X.env := by rfl) (hpl : (backTo pos (starEach [] X.env)).any (·.1) = false := by rfl) :
    PMk X (.Call (.Name "Refused" p) [a] [] pos) (tMkRefused C ta) := by
  intro pins s σ H Q I h
  refine wpAny_Call_Name_kw (ld_glob I hg T.gC ?_)
  refine PySem.W.callWith_K (h₀ := X.base) I.ok.mod.kin T.kC (thn (ha.run pos pins s σ H _ I h) fun us s1 hh => ?_) he hpl
  obtain ⟨vs, H1, I1, r1, v, ev, q1⟩ := hh
  subst ev
  refine ⟨I1.kIn, ?_⟩
  cases r1 with
  | cons rv rn =>
    rename_i v' us'
    cases rn
    show wpAny _ _ (call (.ref C) [v']) _ _ _
    have hlim := I1.nolimit
    obtain ⟨hp, g, dr, tk, os⟩ := s1
    refine wpAny_call (PySem.XRefused.low_made T I1.kIn hlim (by have := hr.dp; omega) fun h' tk' e d M => ?_)
    show MkP X pins σ Q (.ref e) ⟨h', g, dr, tk', os⟩
    obtain ⟨oe, fv, hoe, hc, hd, hdat, h1⟩ := M.obj
    have hns := M.ns
    obtain ⟨G', g1, g2⟩ := restrict h' fun b => decide (b ≠ e)
    have gk : ∀ b, b ≠ e → G'.get? b = h'.get? b := fun b hb => g1 b (decide_eq_true hb)
    have ge : G'.get? e = none := g2 e (by simp)
    have old : ∀ b o, hp.get? b = some o → G'.get? b = some o := fun b o q => (gk b (Nat.ne_of_lt (Nat.lt_of_lt_of_le (Heap.lt_size q) M.new))).trans (M.keep b o q)
    have ob : ObjOk X.prog X.w (upd H1 d (.xd [(("reason" : Str), v)])) G' d (.xd [(("reason" : Str), v)]) :=
      ⟨_, hns.at (fun o q => (gk d M.dne).trans q), fun f => relO_Refused rv f⟩
    have J : Inv X pins σ (upd H1 d (.xd [(("reason" : Str), v)])) ⟨G', g, dr, tk', os⟩ := I1.laid (t' := tk') old M.dbig ob
    refine ⟨e, oe, fv, ⟨G', g, dr, tk', os⟩, _, .ref C, some d, rfl, J, fun b o q => ?_, ge, hoe, ⟨hc, hd⟩, hdat, h1, ?_, rfl, I1.bare, raises_own T.exC T.tyC, q1 d (I1.hok.fresh M.dbig)⟩
    · by_cases hb : b = e
      · have q' : G'.get? b = some o := q
        rw [hb, ge] at q'; cases q'
      · exact (gk b hb).symm.trans q
    · rw [upd_ne (Ne.symm M.dne)]
      exact I1.hok.fresh M.new
/-- raise Low(e) -/
def tRaiseRefused (C : Addr) (W : WX) (ta : TA) : TS := fun _ σ H => tMkRefused C ta σ H fun cls d H' => W cls d σ H'
theorem ps_raiseRefused {a : Expr} {ta : TA} {W : WX} {p pos pos2 : Pos} {k : Nat} (hc : X.calm = true) (T : PySem.XRefused.RefusedTxt X.K X.mg C fI) (hr : Room k X.A) (tk : Takes X W) (ha : PA X [a] ta) (hg : Gl X "Refused" := by rfl)
    (he : starEach (a :: []) X.env = (false, eval a X.env) :: starEach [] X.env := by rfl) (hpl : (backTo pos (starEach [] X.env)).any (·.1) = false := by rfl) :
    PS X (.Raise (some (.Call (.Name "Refused" p) [a] [] pos)) none pos2) (tRaiseRefused C W ta) := ps_raise hc tk (pmk_Refused T hr ha hg he hpl)
/-- low.by, low the exception that the suite holds (at a; its class cls, its dict d) -/
def tByRefused (C : Addr) (a : Addr) (cls : Value) (d : Option Addr) (te : TE) : TE := fun σ H Q => te σ H fun x H1 => x = .ref a ∧ cls = .ref C ∧ ∃ (dd : Addr) (v : V), d = some dd ∧ H1 dd = some (.xd [(("reason" : Str), v)]) ∧ Q v H1
theorem pe_byRefused {a : Addr} {oe : Obj} {cls : Value} {d : Option Addr} {pn : List (Addr × Obj)} {e : Expr} {te : TE} {pos : Pos} (T : PySem.XRefused.RefusedTxt X.K X.mg C fI) (hz : Zc cls d oe) (hf : ∃ vs, oe.data = .fields vs) (he : PE (X.suite a ((a, oe) :: pn)) e te)
    (hb : attributeBase e "reason" X.env (eval e X.env) = eval e X.env := by rfl) :
    PE (X.suite a ((a, oe) :: pn)) (.Attribute e "reason" pos) (tByRefused C a cls d te) := by
  refine ⟨fun pins s σ H Q I h => ?_⟩
  refine attr_of hb (thn (he.run pins s σ H _ I h) fun u s1 hh => ?_)
  obtain ⟨x, H1, I1, rx, ex, ec, dd, v, ed, ea, q⟩ := hh
  subst ex
  obtain rfl : u = Value.ref a := rx
  subst ec
  subst ed
  obtain ⟨ha, _⟩ := I1.pin (a, oe) (List.mem_append_left _ List.mem_cons_self)
  obtain ⟨vs, hd⟩ := hf
  have hx : ObjOk X.prog X.w H1 s1.heap dd (.xd [(("reason" : Str), v)]) := I1.hok dd _ ea
  obtain ⟨mA, hns, hr⟩ := hx
  obtain ⟨od, ho, hl⟩ := lookIn_ns hns
  have l : List.lookup ("reason" : Str) [(("reason" : Str), v)] = some v := by simp [List.lookup]
  obtain ⟨u, hu, ru⟩ := RelO.some_of (v := v) (o := mA "reason") (by rw [← l]; exact hr "reason")
  have J : PySem.W.InstAt s1.heap a oe C (some od) := ⟨ha, hz.1, by unfold PySem.W.notCls; rw [hd] <;> rfl, by rw [hz.2]; exact ho⟩
  exact HandSPX.exc_get I1.kIn J T.ga T.gg T.exC (PySem.W.findObj_own T.hdC T.noN rfl (by rw [hl, hu])) (handed_of ru) ⟨v, H1, I1.tok _, ru, q⟩
end
end L2

set_option Elab.async false
set_option linter.all false
set_option maxRecDepth 100000
set_option maxHeartbeats 4000000
/-! Operators of own classes, and repr of data, as rules of the hand layer. -/
namespace Gd
open PySem PySem.Spec PyProof.Rows L2

/-! ### repr of data -/
def rRepr (K : PySem.W.Frag) : List V → Hp → VK → Prop := fun xs H Q =>
  ∃ a d, xs = [.ref a] ∧ Dp K H (.ref a) d ∧ d.showable = true ∧ d.hasDict = false ∧ d.depth ≤ 60 ∧ d.shown.length ≤ sizeLine ∧ Q (.str d.shown) H
theorem call_repr {X : Cx} (hg : NoG X.A) (hu : X.A.units + 64 < cLine) : CallR X (.builtin "repr") (rRepr X.K) := by
  intro pins s σ H xs us Q I r h
  obtain ⟨a, d, rfl, hd, h1, h2, h3, h4, q⟩ := h
  obtain ⟨u, rfl, hu1⟩ := vals1 r
  cases hu1
  obtain ⟨as, rd⟩ := Dp.reads I d (.ref a) (.ref a) hd rfl
  refine repr_of_reads' rd h1 (PyData.noDict_hsm h2) hg (by omega) (fun _ _ e => e) ?_ h4
  intro h' u tk hk
  exact ⟨.str d.shown, H, I.kept hk, ⟨u, rfl⟩, q⟩

section
variable {X : Cx} {CX : CXT} {k : Nat} {f C : Addr} {fd : FuncData} {ps : List Str} {sp : Sp} {dvs : List V} {ds : List Value}
  {pos : Pos} {a b : Expr} {ta tb : TE}

/-- the callee runs, from the body or from a builtin that the body calls -/
theorem runAt {E : XK} {A : Around} (hA : A = X.A ∨ A = X.A.in1) {pins : List (Addr × Obj)} {σ : L2.St} {H : Hp} {s : Shared} {Q : VK} {us : List Value} {vs : List V}
    (F : FnOk X.prog X.w X.K X.mg X.base CX k f fd ps sp) (hr : Room (k + 1) X.A) (hb : Binds X.K fd ps ds) (hd : Vals dvs ds)
    (hx : PassesAt CX X σ E) (I : Inv X pins σ H s) (r : Vals vs us) (h : sp (vs ++ dvs) H Q E) :
    wpAny (model X.prog X.w) A (call (.ref f) us) (EP X pins σ Q) X.xe s := by
  have r2 := Vals.append r hd
  have hl : (us ++ ds).length = ps.length := by
    rw [← r2.length]
    exact F.len _ H Q E h
  have room : Room k A := by
    rcases hA with rfl | rfl
    · exact hr.mono (Nat.le_succ _)
    · exact hr.in1
  have env : Env0 X.prog X.w X.K X.mg X.base A X.stack s H := by
    rcases hA with rfl | rfl
    · exact I.env0
    · exact I.env0.in1
  refine wpAny_call (codeAny_mono (F.run A X.stack s H ⟨us, []⟩ (us ++ ds) _ Q E room env (hb s us I.kIn hl) r2 h) ?_)
  intro r s' hq
  match r, hq with
  | .error e, hq => exact hx pins H s e s' I hq
  | .ok (.ret u), hq => exact I.after hq
  | .ok .next, hq => exact False.elim hq
  | .ok .brk, hq => exact False.elim hq
  | .ok .cont, hq => exact False.elim hq
theorem quiet0 {σ : L2.St} {E : XK} : PassesAt CX0 X σ E := fun _ _ _ _ _ _ h => h.elim

/-- the instance at a, as the library sees it -/
theorem seen {pins : List (Addr × Obj)} {σ : L2.St} {H : Hp} {s : Shared} {p dx : Addr} {fs : List (Str × V)} (I : Inv X pins σ H s)
    (e : H p = some (.ins C dx fs)) : ∃ od, PySem.W.InstAt s.heap p (PySem.W.instObj C dx) C (some od) := by
  obtain ⟨mA, J, _⟩ := ins_get I.hok e
  obtain ⟨od, J, _⟩ := J.look
  exact ⟨od, J⟩

/-! ### comparisons -/
/-- x OP y by the own method of x's class, whose answer is a truth value -/
def rCmpO (K : PySem.W.Frag) (C : Addr) (sp : Sp) (E : XK) : R2 := fun x y H Q => ∃ p dx fs t, x = .ref p ∧ H p = some (.ins C dx fs) ∧
  TyX K H y t ∧ PySem.W.notFirst K C t = true ∧ sp [x, y] H (fun v H' => (∃ c, v = .bl c) ∧ Q v H') E
theorem cmpO {op : CmpOp} {E : XK} (hm : Meth X.K C (cmpInfo op).2.1 f) (F : FnOk X.prog X.w X.K X.mg X.base CX k f fd ps sp) (hr : Room (k + 1) X.A)
    (hb : Binds X.K fd ps []) (hx : ∀ σ, PassesAt CX X σ E)
    {pins : List (Addr × Obj)} {s : Shared} {σ : L2.St} {H : Hp} {x y : V} {v u : Value} {Q : VK} (I : Inv X pins σ H s) (rx : RelV x v) (ry : RelV y u)
    (h : rCmpO X.K C sp E x y H Q) : wpAny (model X.prog X.w) X.A (richCompare op v u) (EP X pins σ Q) X.xe s := by
  obtain ⟨p, dx, fs, t, rfl, ep, ty, hn, hsp⟩ := h
  cases rx
  obtain ⟨od, J⟩ := seen I ep
  obtain ⟨P, Z, hP, _⟩ := kit_of I ry ty
  obtain ⟨m, hF⟩ := I.fr
  refine PySem.W.cmp_K (op := op) (tb := t) hr.units0 hF I.ok.mod.kin J (Z.ty _ _ I.kIn hP) hn hm.at_ hm.fn ?_
  refine wpAny_mono (runAt (.inl rfl) F hr hb .nil (hx σ) I (.cons (show RelV (V.ref p) (Value.ref p) from rfl) (.cons ry .nil)) hsp) ?_ (fun _ _ z => z)
  rintro w s' ⟨z, H', I', rz, ⟨c, rfl⟩, q⟩
  cases rz
  exact ⟨.bl c, H', I', rfl, q⟩
theorem op_eqO {E : XK} (hm : Meth X.K C "__eq__" f) (F : FnOk X.prog X.w X.K X.mg X.base CX k f fd ps sp) (hr : Room (k + 1) X.A)
    (hb : Binds X.K fd ps []) (hx : ∀ σ, PassesAt CX X σ E) : OpR X (compareOp .Eq) (rCmpO X.K C sp E) := by
  intro pins s σ H x y v u Q I rx ry h
  exact cmpO (op := .Eq) hm F hr hb hx I rx ry h
theorem op_ltO {E : XK} (hm : Meth X.K C "__lt__" f) (F : FnOk X.prog X.w X.K X.mg X.base CX k f fd ps sp) (hr : Room (k + 1) X.A)
    (hb : Binds X.K fd ps []) (hx : ∀ σ, PassesAt CX X σ E) : OpR X (compareOp .Lt) (rCmpO X.K C sp E) := by
  intro pins s σ H x y v u Q I rx ry h
  exact cmpO (op := .Lt) hm F hr hb hx I rx ry h

/-! ### len, truth, items -/
def rLenO (C : Addr) (sp : Sp) (E : XK) : List V → Hp → VK → Prop := fun xs H Q => ∃ p dx fs, xs = [.ref p] ∧ H p = some (.ins C dx fs) ∧
  sp [.ref p] H (fun v H' => ∃ n : Int, v = .int n ∧ 0 ≤ n ∧ n < 2 ^ 63 ∧ Q (.int n) H') E
theorem call_lenO {E : XK} (hm : Meth X.K C "__len__" f) (F : FnOk X.prog X.w X.K X.mg X.base CX k f fd ps sp) (hr : Room (k + 1) X.A)
    (hb : Binds X.K fd ps []) (hx : ∀ σ, PassesAt CX X σ E) : CallR X (.builtin "len") (rLenO C sp E) := by
  intro pins s σ H xs us Q I r h
  obtain ⟨p, dx, fs, rfl, ep, hsp⟩ := h
  obtain ⟨u, rfl, hu1⟩ := vals1 r
  cases hu1
  obtain ⟨od, J⟩ := seen I ep
  obtain ⟨m, hF⟩ := I.fr
  refine PySem.W.len_K hF I.ok.mod.kin J hm.at_ hm.fn ?_
  refine wpAny_mono (runAt (.inr rfl) F hr hb .nil (hx σ) I (.cons (show RelV (V.ref p) (Value.ref p) from rfl) .nil) hsp) ?_ (fun _ _ z => z)
  rintro w s' ⟨z, H', I', rz, n, rfl, h0, h1, q⟩
  obtain ⟨t, rfl⟩ := rz
  exact ⟨⟨h0, h1⟩, .int n, H', I'.tok _, ⟨_, rfl⟩, q⟩
def rTruO (C : Addr) (sp : Sp) (E : XK) : V → Hp → (Bool → Hp → Prop) → Prop := fun x H Q => ∃ p dx fs, x = .ref p ∧ H p = some (.ins C dx fs) ∧
  sp [.ref p] H (fun v H' => ∃ c, v = .bl c ∧ Q c H') E
theorem tru_O {E : XK} (hm : Meth X.K C "__bool__" f) (F : FnOk X.prog X.w X.K X.mg X.base CX k f fd ps sp) (hr : Room (k + 1) X.A)
    (hb : Binds X.K fd ps []) (hx : ∀ σ, PassesAt CX X σ E) : TruR X (rTruO C sp E) := by
  intro pins s σ H x v Q I rx h
  obtain ⟨p, dx, fs, rfl, ep, hsp⟩ := h
  cases rx
  obtain ⟨od, J⟩ := seen I ep
  obtain ⟨m, hF⟩ := I.fr
  refine PySem.W.truthy_K hF I.ok.mod.kin J hm.at_ hm.fn ?_
  refine wpAny_mono (runAt (.inl rfl) F hr hb .nil (hx σ) I (.cons (show RelV (V.ref p) (Value.ref p) from rfl) .nil) hsp) ?_ (fun _ _ z => z)
  rintro w s' ⟨z, H', I', rz, c, rfl, q⟩
  cases rz
  exact ⟨H', I', q⟩
/-- o[i] by the own method, which may raise -/
def tIxO (C : Addr) (sp : Sp) (E : L2.St → XK) (ta tb : TE) : TE := fun σ H Q => ta σ H fun x H1 => tb σ H1 fun y H2 =>
  ∃ p dx fs, x = .ref p ∧ H2 p = some (.ins C dx fs) ∧ sp [x, y] H2 Q (E σ)
theorem pe_ixO {E : L2.St → XK} (hm : Meth X.K C "__getitem__" f) (hfn : PySem.W.fnIn X.K f = true) (F : FnOk X.prog X.w X.K X.mg X.base CX k f fd ps sp)
    (hr : Room (k + 1) X.A) (hb : Binds X.K fd ps []) (hx : ∀ σ, PassesAt CX X σ (E σ)) (ha : PE X a ta) (hb' : PE X b tb)
    (hs : ∀ v u : Value, subscripted b true v u = runValue (.builtin "lifetime.subscript" ⟨[v, u], []⟩) := by intro _ _; with_unfolding_all rfl) :
    PE X (.Subscript a b pos) (tIxO C sp E ta tb) := by
  refine ⟨fun pins s σ H Q I h => ?_⟩
  refine Subscript_ (binT ha hb' I h fun v u s2 x y H2 I2 rx ry q => ?_)
  obtain ⟨p, dx, fs, rfl, ep, hsp⟩ := q
  cases rx
  obtain ⟨od, J⟩ := seen I2 ep
  obtain ⟨m, hF⟩ := I2.fr
  refine PySem.W.sub_K hF I2.ok.mod.kin J hm.at_ hfn hm.fn ?_ (hs _ _)
  exact runAt (.inr rfl) F hr hb .nil (hx σ) I2 (.cons (show RelV (V.ref p) (Value.ref p) from rfl) (.cons ry .nil)) hsp
end
end Gd

set_option Elab.async false
set_option linter.all false
set_option maxRecDepth 100000
set_option maxHeartbeats 4000000
/-! iter(a tuple), and list(o) of an own class that hands on such an iterator and has a length. -/
namespace PySem
section
variable {prog : Program} {w : World} {A : Around} {E : Value → Shared → Prop} {s : Shared}
/-- the end of a tuple's iterator, which stays an object -/
theorem tuple_next_end {it t : Addr} {i : Nat} {items : Array Value} {Q : Option Value → Shared → Prop} (hh : A.handled = none)
    (hit : s.heap.IsTupleIter it t i) (ht : s.heap.IsTuple t items) (hx : items[i]? = none)
    (hQ : ∀ h', (∀ b o, b ≠ it → s.heap.get? b = some o → h'.get? b = some o) → (∃ o, h'.get? it = some o) → Q none { s with heap := h' }) :
    wpAny (model prog w) A (pyNext (.ref it)) Q E s := by
  obtain ⟨o, ho, hc, hd⟩ := id hit
  obtain ⟨ol, hol, _, nl, hdl⟩ := ht
  have self := Heap.get?_update_self (Obj.mapFields (·.setIfInBounds 0 Value.none)) ho (Obj.isFreed_of_fields (Obj.data_mapFields hd _))
  unfold pyNext
  refine wpAny_bind (wpAny_attempt (wpAny_callSpecial?_slot (name := Str.ofString "__next__") hit.typeIs F.slot_tuple_iterator_next (wpAny_call_entry
    F.slot_tuple_iterator_next hit.typeIs F.entry_tuple_iterator_next ?_ (F.args_tuple_iterator_next_1 _))))
  show wpAny _ _ (field (.ref it) 0 >>= _) _ _ s
  refine wpAny_bind (wpAny_field ho hd (x := .ref t) rfl ?_)
  have nn : ¬ ((Value.ref t == Value.none) = true) := Bool.false_ne_true
  show wpAny _ _ (if (Value.ref t == Value.none) = true then _ else _) _ _ s
  rw [if_neg nn]
  show wpAny _ _ (field (.ref it) 1 >>= _) _ _ s
  refine wpAny_bind (wpAny_field ho hd (x := .int i 0) rfl ?_)
  show wpAny _ _ (seqItems? (.ref t) >>= _) _ _ s
  refine wpAny_bind (wpAny_seqItems hol hdl ?_)
  simp only [Int.toNat_natCast, hx]
  refine wpAny_bind (wpAny_rule (wpAny_bind (wpAny_setField ho hd (by simp) ?_)))
  show wpAny _ _ (newExc (.type "StopIteration") [] >>= _) _ _ _
  refine wpAny_bind ?_
  simp only [newExc, newTuple]
  refine wpAny_bind (wpAny_newObj_type ?_ (by size_fits))
  refine wpAny_bind (m := firstArgMember _ _) (wpAny_of_eq (a := Value.none) (by first | rfl | (simp only [firstArgMember]; rfl)) ?_)
  refine wpAny_newObj_type ?_ (by size_fits)
  simp only [raiseNew]
  refine wpAny_bind (wpAny_handled ?_)
  first | rw [show A.in1.handled = none from hh] | rw [hh]
  refine wpAny_bind (wpAny_pure (wpAny_throw ?_))
  refine wpAny_bind (wpAny_isInstance (T := "StopIteration") (b := true) ⟨_, Heap.get?_push_size _ rfl, rfl⟩ isSubtype_stop ?_)
  refine wpAny_pure (hQ _ (fun b o hb e => ?_) ⟨_, Heap.get?_push_of_some _ (Heap.get?_push_of_some _ self)⟩)
  exact Heap.get?_push_of_some _ (Heap.get?_push_of_some _ ((Heap.get?_update_other _ _ (Ne.symm hb)).trans e))
end
end PySem

namespace Gd
open PySem PySem.Spec PyProof.Rows L2
/-- at it: an iterator over the tuple at t, behind i items; | whatever it is -/
def TitO (t it : Addr) (i : Nat) : HO := .ext fun h => h.IsTupleIter it t i
def OddO (it : Addr) : HO := .ext fun h => ∃ o, h.get? it = some o
section
variable {P : Program} {w : World} {H : Hp} {h : Heap} {t it : Addr} {i : Nat}
theorem tit_ok (e : h.IsTupleIter it t i) : ObjOk P w H h it (TitO t it i) := by
  obtain ⟨o, ho, r⟩ := e
  exact ⟨⟨o, ho, r⟩, ⟨o, ho⟩, fun h1 h2 ⟨o', q, r'⟩ k => ⟨o', k _ q, r'⟩⟩
theorem odd_ok (e : ∃ o, h.get? it = some o) : ObjOk P w H h it (OddO it) := ⟨e, e, fun h1 h2 ⟨o', q⟩ k => ⟨o', k _ q⟩⟩
end
section
variable {X : Cx} {pins : List (Addr × Obj)} {σ : L2.St} {H : Hp} {s : Shared} {t it q a : Addr} {i : Nat} {ys : List V}
/-- iter(t), t a tuple -/
def rIterT (K : PySem.W.Frag) : List V → Hp → VK → Prop := fun xs H Q => ∃ (t : Addr) (ys : List V), xs = [.ref t] ∧ SqT K H t ys ∧ ∀ it, H it = none → Q (.ref it) (upd H it (TitO t it 0))
theorem isTuple_of {h : Heap} {a : Addr} {items : Array Value} (x : IsTup h a items) : h.IsTuple a items := by
  obtain ⟨o, h1, h2, h3⟩ := x
  exact ⟨o, h1, h2, by first | exact h3 | exact h3.2⟩
theorem call_iterT : CallR X (.builtin "iter") (rIterT X.K) := by
  intro pins s σ H xs us Q I r h
  obtain ⟨t, ys, rfl, hq, q⟩ := h
  obtain rfl := Vals.ref1 r
  obtain ⟨its, rv, pl, hz⟩ := I.tuple hq
  refine Calls.call_function_entry (by decide +kernel) (by decide +kernel) PySem.W.kdk_entry_iter (PySem.W.kdk_args_iter _) ?_
  unfold Builtin.«iter»
  refine wpAny_bind (m := someArgs "iter" 1 2 _) (wpAny_of_eq (a := [Value.ref t]) (by first | rfl | kernel_rfl!) ?_)
  show wpAny _ _ (pyIter (.ref t) >>= _) _ _ _
  refine wpAny_bind (wpAny_pyIter_tuple (isTuple_of pl) ?_)
  refine wpAny_pure ⟨_, rfl, ?_⟩
  have nw : H s.heap.objs.size = none := I.hok.fresh (Nat.le_refl _)
  refine ⟨.ref s.heap.objs.size, _, I.laid (t' := s.toks) (fun b u e => Heap.get?_push_of_some _ e) (Nat.le_refl _) (tit_ok ⟨_, Heap.get?_push_size _ rfl, rfl, rfl⟩), rfl, q _ nw⟩

theorem take_one {α : Type} : ∀ {l : List α} {i : Nat} (h : i < l.length), l.take (i + 1) = l.take i ++ [l[i]]
  | a :: l, 0, _ => rfl
  | a :: l, i + 1, h => by
    have h' : i < l.length := Nat.lt_of_succ_lt_succ h
    have ih := take_one (l := l) (i := i) h'
    show a :: l.take (i + 1) = (a :: l.take i) ++ [l[i]'h']
    rw [ih]
    rfl
/-- what is known stays known, but for the iterator and the list -/
def But (q it : Addr) (H H' : Hp) : Prop := ∀ b o, b ≠ q → b ≠ it → H b = some o → H' b = some o
theorem drain {A1 : Around} {Rs : Result → Shared → Prop} (hh : A1.in1.handled = none) (hqi : q ≠ it) (hqt : q ≠ t) (hti : t ≠ it) (H0 : Hp)
    (hys : ys.length < sizeLine) (ht0 : SqT X.K H0 t ys)
    (hdone : ∀ H' s', Inv X pins σ H' s' → But q it H0 H' → H' q = some (.lst ys) → H' it = some (OddO it) → Rs (.ok (.ret .none)) s') :
    ∀ (m i : Nat) (H : Hp) (s : Shared), m + i = ys.length → Inv X pins σ H s → But q it H0 H → H it = some (TitO t it i) → H q = some (.lst (ys.take i)) →
      codeAny (model X.prog X.w) A1 (.builtin "list.extend.loop" ⟨[.ref q, .ref it, .none], []⟩) Rs s := by
  intro m
  induction m with
  | zero =>
    intro i H s hi I hB hit hq
    have ht : SqT X.K H t ys := by
      rcases ht0 with (z | ⟨o, z⟩) | z
      · exact .inl (.inl (hB _ _ hqt.symm hti z))
      · exact .inl (.inr ⟨o, hB _ _ hqt.symm hti z⟩)
      · exact .inr z
    obtain ⟨its, rv, pl, hz⟩ := I.tuple ht
    refine codeAny_builtin PySem.F.entry_extend_loop ?_
    rw [Around.under_plainId PySem.F.plain_extend_loop _]
    show wpAny _ A1.in1 (pyNext (.ref it) >>= _) _ _ s
    have hx : its.toArray[i]? = none := by
      have e := rv.length
      rw [List.getElem?_toArray, List.getElem?_eq_none_iff]
      omega
    have T : s.heap.IsTupleIter it t i := (I.hok it _ hit).1
    refine wpAny_bind (PySem.tuple_next_end (items := its.toArray) hh T (isTuple_of pl) hx ?_)
    intro h' keep ex
    have J : Inv X pins σ (upd H it (OddO it)) { s with heap := h' } := by
      refine I.write (t' := s.toks) (x := it) (e := it) (by rw [hit]; exact True.intro) (.inl rfl) (fun b u hb hu => keep b u hb hu) ex (odd_ok ex)
    refine wpAny_pure (hdone _ _ J ?_ ?_ upd_same)
    · intro b o h1 h2 e
      rw [upd_ne h2]
      exact hB b o h1 h2 e
    · rw [upd_ne hqi, hq, List.take_of_length_le (by omega)]
  | succ m ih =>
    intro i H s hi I hB hit hq
    have ht : SqT X.K H t ys := by
      rcases ht0 with (z | ⟨o, z⟩) | z
      · exact .inl (.inl (hB _ _ hqt.symm hti z))
      · exact .inl (.inr ⟨o, hB _ _ hqt.symm hti z⟩)
      · exact .inr z
    obtain ⟨its, rv, pl, hz⟩ := I.tuple ht
    have hlt : i < ys.length := by omega
    obtain ⟨u, hu, ru⟩ := rv.get (List.getElem?_eq_getElem hlt)
    refine codeAny_builtin PySem.F.entry_extend_loop ?_
    rw [Around.under_plainId PySem.F.plain_extend_loop _]
    show wpAny _ A1.in1 (pyNext (.ref it) >>= _) _ _ s
    have T : s.heap.IsTupleIter it t i := (I.hok it _ hit).1
    refine wpAny_bind (wpAny_pyNext_tuple_item (items := its.toArray) T (isTuple_of pl) (by rw [List.getElem?_toArray]; exact hu) ?_)
    intro h' T' same
    have ex : ∃ o, h'.get? it = some o := by
      obtain ⟨o, ho, _⟩ := T'
      exact ⟨o, ho⟩
    have J : Inv X pins σ (upd H it (TitO t it (i + 1))) { s with heap := h' } :=
      I.write (t' := s.toks) (x := it) (e := it) (by rw [hit]; exact True.intro) (.inl rfl) (fun b u hb hu => (same.2 b hb).trans hu) ex (tit_ok T')
    have hq' : upd H it (TitO t it (i + 1)) q = some (.lst (ys.take i)) := by rw [upd_ne hqi]; exact hq
    obtain ⟨z, its2, n2, r2, hl2, e2⟩ := J.lstM hq'
    have l2 : its2.length ≤ i := by rw [← hl2, List.length_take]; omega
    show wpAny _ A1.in1 (updateSeq q (·.push u) >>= _) _ _ _
    refine wpAny_bind (wpAny_updateSeq e2 rfl (wpAny_pure ⟨plainId_quiet PySem.F.plain_extend_loop _, ?_⟩) (by rw [List.size_toArray]; omega) (by show (its2.toArray.push u).size ≤ sizeLine + 1; rw [Array.size_push, List.size_toArray]; omega))
    have tk : ys.take (i + 1) = ys.take i ++ [ys[i]] := take_one hlt
    have J2 := J.lset (f := (·.push u)) (its' := its2 ++ [u]) (ys := ys.take i ++ [ys[i]]) (t' := s.toks) hq' e2 (List.push_toArray its2 u) (r2.append (.cons ru .nil)) (by rw [List.length_append, List.length_singleton, List.length_take]; omega)
    refine ih (i + 1) _ _ (by omega) J2 ?_ ?_ (by rw [tk, upd_same])
    · intro b o h1 h2 e
      rw [upd_ne h1, upd_ne h2]
      exact hB b o h1 h2 e
    · rw [upd_ne hqi.symm, upd_same]

/-- the list's room is made -/
theorem touched {q : Addr} {A : Around} {R : Unit → Shared → Prop} {E : Value → Shared → Prop} (I : Inv X pins σ H s) (hq : H q = some (.lst []))
    (h : ∀ s', Inv X pins σ H s' → R () s') : wpAny (model X.prog X.w) A (Builtin.List.listTouch (.ref q)) R E s := by
  obtain ⟨z, its, k, r3, hl3, e3⟩ := I.lstM hq
  cases r3
  show wpAny _ _ (updateSeq q (·.push .none) >>= fun _ => updateSeq q (·.pop)) _ _ _
  refine wpAny_bind (wpAny_updateSeq e3 rfl ?_)
  have I2 := I.lset (f := (·.push Value.none)) (its' := [Value.none]) (ys := [.non]) (t' := s.toks) hq e3 (by simp) (.cons rfl .nil) (by rw [List.length_singleton, sizeLine_eq]; decide)
  obtain ⟨z4, its4, k4, r4, hl4, e4⟩ := I2.lstM upd_same
  obtain ⟨u4, rfl, ru4⟩ := r4.one
  refine wpAny_updateSeq e4 rfl ?_ (by show 1 ≤ sizeLine; rw [sizeLine_eq]; decide) (by show 0 ≤ sizeLine + 1; exact Nat.zero_le _)
  have I3 := I2.lset (f := (·.pop)) (its := [u4]) (its' := []) (ys := []) (t' := s.toks) upd_same e4 (by rfl) .nil (Nat.zero_le _)
  rw [upd_upd] at I3
  have hH : upd H q (.lst []) = H := by
    funext b
    by_cases hb : b = q
    · rw [hb, upd_same, hq]
    · rw [upd_ne hb]
  rw [hH] at I3
  exact h _ I3

/-- a class whose instances hand on a tuple's iterator, and have a length -/
structure ItT (K : PySem.W.Frag) (C fi fl : Addr) : Prop where
  it : Meth K C "__iter__" fi
  ln : Meth K C "__len__" fl
/-- what its __iter__ promises: an iterator of the tuple that R tells; what its __len__ promises -/
def spIt (K : PySem.W.Frag) (R : Addr → Addr → List V → Hp → Prop) : Sp := fun vs H Q _ => ∃ a t ys, vs = [.ref a] ∧ R a t ys H ∧ SqT K H t ys ∧ ∀ it, H it = none → Q (.ref it) (upd H it (TitO t it 0))
def spLn (R : Addr → Addr → List V → Hp → Prop) : Sp := fun vs H Q _ => ∃ a t ys, vs = [.ref a] ∧ R a t ys H ∧ Q (.int (ys.length : Int)) H
/-- list(o) -/
def rListO (K : PySem.W.Frag) (C : Addr) (R : Addr → Addr → List V → Hp → Prop) : List V → Hp → VK → Prop := fun xs H Q =>
  ∃ a dx fs t ys, xs = [.ref a] ∧ H a = some (.ins C dx fs) ∧ (∀ H', (∀ b o, H b = some o → H' b = some o) → R a t ys H') ∧ SqT K H t ys ∧ ys.length < sizeLine ∧
    ∀ q H', (∀ b o, H b = some o → H' b = some o) → H q = none → H' q = some (.lst ys) → Q (.ref q) H'
theorem call_listO {C fi fl : Addr} {k : Nat} {fdI fdL : FuncData} {psI psL : List Str} {R : Addr → Addr → List V → Hp → Prop} (hc : ItT X.K C fi fl)
    (FI : FnOk X.prog X.w X.K X.mg X.base CX0 k fi fdI psI (spIt X.K R)) (bI : Binds X.K fdI psI []) (FL : FnOk X.prog X.w X.K X.mg X.base CX0 k fl fdL psL (spLn R)) (bL : Binds X.K fdL psL [])
    (hr : Room (k + 5) X.A) : CallR X (.type "list") (rListO X.K C R) := by
  intro pins s σ H xs us Q I rv h
  obtain ⟨a, dx, fs, t, ys, rfl, ha, hR, ht, hlen, hq⟩ := h
  obtain ⟨u, rfl, ru⟩ := rv.one
  cases ru
  have rm2 : Room (k + 3) X.A.in1.in1 := (hr.in1).in1
  have sb : Sub X (k + 3) X.A.in1.in1 := Sub.in1 (Sub.in1 (⟨hr, rfl⟩ : Sub X (k + 5) X.A))
  refine callType_codes (Q₁ := fun obj s₁ => obj = .ref s.heap.objs.size ∧ s₁ = { s with heap := s.heap.push { cls := .type "list", data := .seq #[] } }) PySem.F.called_list (PySem.F.typeCall_list_1 _) PySem.F.entry_list_init
    (code_list_new _ ⟨rfl, rfl⟩) ?_
  intro obj s₁ h₁
  obtain ⟨rfl, rfl⟩ := h₁
  have hS : (s.heap.push { cls := .type "list", data := .seq #[] }).get? s.heap.objs.size = some { cls := .type "list", data := .seq #[] } := Heap.get?_push_size _ rfl
  refine ⟨⟨_, hS, rfl⟩, PySem.F.args_list_init_2 _ _, ?_⟩
  have fr : H s.heap.objs.size = none := I.hok.fresh (Nat.le_refl _)
  have I1 : Inv X pins σ (upd H s.heap.objs.size (.lst [])) { s with heap := s.heap.push { cls := .type "list", data := .seq #[] } } := I.lnew (its := []) (t' := s.toks) .nil (Nat.zero_le _)
  generalize hqq : s.heap.objs.size = q at *
  show wpAny _ _ (do let old ← Builtin.List.listItems (.ref q); Builtin.List.listUpdate (.ref q) (fun _ => #[]); letGo old.toList.reverse; Builtin.List.listExtendWith (.ref q) (.ref a) .none) _ _ _
  refine wpAny_bind ?_
  unfold Builtin.List.listItems
  refine wpAny_bind (wpAny_seqItems hS rfl (wpAny_pure ?_))
  show wpAny _ _ (updateSeq q (fun _ => #[]) >>= fun _ => letGo (#[] : Array Value).toList.reverse >>= fun _ => Builtin.List.listExtendWith (.ref q) (.ref a) .none) _ _ _
  refine wpAny_bind (wpAny_updateSeq hS rfl ?_)
  have I2 := I1.lset (f := fun _ => #[]) (its := []) (its' := []) (ys := []) (t' := s.toks) upd_same hS rfl .nil (Nat.zero_le _)
  rw [upd_upd] at I2
  refine wpAny_bind (wpAny_letGo ?_)
  have H2ext : ∀ b o, H b = some o → upd H q (.lst []) b = some o := fun b o e => by
    rw [upd_ne (ne_of_none e fr)]
    exact e
  have ha2 := H2ext _ _ ha
  have hq2 : upd H q (.lst []) q = some (.lst []) := upd_same
  have ht2 : SqT X.K (upd H q (.lst [])) t ys := ht.ext H2ext
  generalize hH2 : upd H q (.lst []) = H2 at *
  have hne : q ≠ a := ne_of hq2 ha2 (fun z => nomatch z)
  obtain ⟨od, J⟩ := seen I2 ha2
  obtain ⟨m0, hF⟩ := I2.fr
  unfold Builtin.List.listExtendWith
  refine wpAny_bind (J.type.here ?_)
  have h1 : Builtin.List.listSameRef (.ref q) (.ref a) = false := by simp [Builtin.List.listSameRef, hne]
  have h2 : (Value.ref C == Value.type "list") = false := rfl
  have h3 : (Value.ref C == Value.type "tuple") = false := rfl
  simp only [h1, h2, h3, Bool.or_false, Bool.false_eq_true, if_false]
  refine wpAny_bind (PySem.W.owit_iter hF I2.ok.mod.kin J hc.it.at_ hc.it.fn ?_)
  have e0 : Env0 X.prog X.w X.K X.mg X.base X.A.in1.in1 X.stack _ H2 := I2.env0.in1.in1
  have room : Room k X.A.in1.in1 := rm2.mono (by omega)
  have hspI : spIt X.K R [.ref a] H2 (fun v H' => ∃ it, v = .ref it ∧ H2 it = none ∧ H' = upd H2 it (TitO t it 0)) E0 := ⟨a, t, ys, rfl, hR _ H2ext, ht2, fun it n => ⟨it, rfl, n, rfl⟩⟩
  have hl := FI.len _ _ _ _ hspI
  have r2 : Vals [V.ref a] [Value.ref a] := .cons rfl .nil
  refine wpAny_call (codeAny_mono (FI.run X.A.in1.in1 X.stack _ H2 ⟨[.ref a], []⟩ [.ref a] [.ref a] _ E0 room e0 (by
    have := bI _ [.ref a] I2.kIn (by simpa using hl)
    simpa using this) r2 hspI) ?_)
  intro r s' hq'
  match r, hq' with
  | .error e, hq' => exact hq'.elim
  | .ok .next, hq' => exact False.elim hq'
  | .ok .brk, hq' => exact False.elim hq'
  | .ok .cont, hq' => exact False.elim hq'
  | .ok (.ret u), hq' =>
    obtain ⟨v, H3, I3, rv3, it, rfl, itn, rfl⟩ := I2.after hq'
    cases rv3
    have hit : upd H2 it (TitO t it 0) it = some (TitO t it 0) := upd_same
    have T : s'.heap.IsTupleIter it t 0 := (I3.hok it _ hit).1
    have E3 : ∀ b o, H b = some o → upd H2 it (TitO t it 0) b = some o := fun b o e => by
      rw [upd_ne (ne_of_none (H2ext _ _ e) itn)]
      exact H2ext _ _ e
    have ha3 := E3 _ _ ha
    have hqi : q ≠ it := ne_of_none hq2 itn
    have hq3 : upd H2 it (TitO t it 0) q = some (.lst []) := by
      rw [upd_ne hqi]
      exact hq2
    have ht3 : SqT X.K (upd H2 it (TitO t it 0)) t ys := ht.ext E3
    have hqt : q ≠ t := by
      intro z
      subst z
      rcases ht with (z | ⟨o, z⟩) | ⟨o, its, n, z, hcls, _⟩
      · rw [fr] at z
        cases z
      · rw [fr] at z
        cases z
      · obtain ⟨_, its2, n2, _, _, e2⟩ := I2.lstM hq2
        have e3 := I2.kIn _ _ z
        rw [e2] at e3
        cases (Option.some.inj e3)
        exact absurd (Value.type.inj hcls) (by decide)
    have hti : t ≠ it := by
      intro z
      subst z
      rcases ht2 with (z | ⟨o, z⟩) | ⟨o, its, n, z, hcls, _⟩
      · rw [itn] at z
        cases z
      · rw [itn] at z
        cases z
      · obtain ⟨o2, e2, c2, _⟩ := T
        have e3 := I3.kIn _ _ z
        rw [e2] at e3
        cases (Option.some.inj e3)
        rw [c2] at hcls
        exact absurd (Value.type.inj hcls) (by decide)
    refine wpAny_specialOf (Heap.IsTupleIter.typeIs T) PySem.F.slot_tuple_iterator_next.lookup ?_
    have loop : ∀ s4, Inv X pins σ (upd H2 it (TitO t it 0)) s4 → codeAny (model X.prog X.w) X.A.in1 (.builtin "list.extend.loop" ⟨[.ref q, .ref it, .none], []⟩)
        (wants (fun r s₂ => r = Value.none ∧ EP X pins σ Q (Value.ref q) s₂) X.xe) s4 := by
      intro s4 I4
      refine drain (A1 := X.A.in1) rm2.hd hqi hqt hti (upd H2 it (TitO t it 0)) hlen ht3 ?_ ys.length 0 _ s4 rfl I4 (fun b o _ _ e => e) hit (by rw [List.take_zero]; exact hq3)
      intro H' s5 I5 hB5 hq5 _
      refine ⟨rfl, .ref q, H', I5, rfl, hq q H' ?_ fr hq5⟩
      intro b o e
      have nq : b ≠ q := ne_of_none e fr
      have ni : b ≠ it := ne_of_none (H2ext _ _ e) itn
      exact hB5 b o nq ni (E3 _ _ e)
    have fin : ∀ s4, Inv X pins σ (upd H2 it (TitO t it 0)) s4 → wpAny (model X.prog X.w) X.A.in1.in1 (again (.builtin "list.extend.loop" ⟨[.ref q, .ref it, .none], []⟩))
        (fun fin s' => match fin with | .done f => wants (fun r s₂ => r = Value.none ∧ EP X pins σ Q (Value.ref q) s₂) X.xe (.ok f) s' | .again c' => c'.quiet = true ∧ codeAny (model X.prog X.w) X.A.in1 c' (wants (fun r s₂ => r = Value.none ∧ EP X pins σ Q (Value.ref q) s₂) X.xe) s')
        (fun e s' => wants (fun r s₂ => r = Value.none ∧ EP X pins σ Q (Value.ref q) s₂) X.xe (.error e) s') s4 := by
      intro s4 I4
      exact wpAny_pure ⟨plainId_quiet PySem.F.plain_extend_loop _, loop s4 I4⟩
    refine wpAny_bind (wpAny_holding ?_)
    obtain ⟨od3, J3⟩ := seen I3 ha3
    obtain ⟨m3, hF3⟩ := I3.fr
    unfold Builtin.List.listLengthHint
    refine wpAny_bind (wpAny_bind (J3.type.here ((PySem.W.looks_findIn I3.kIn hc.ln.at_).here ?_)))
    refine PySem.W.KFB.if_not rfl ?_
    refine PySem.W.KFB.if_so rfl ?_
    refine wpAny_bind (wpAny_rule ?_)
    refine wpAny_bind (m := (call (.builtin "len") [Value.ref a]).attempt) (wpAny_attempt ?_)
    refine PySem.W.len_K hF3 I3.ok.mod.kin J3 hc.ln.at_ hc.ln.fn ?_
    have hspL : spLn R [.ref a] (upd H2 it (TitO t it 0)) (fun v H' => v = .int (ys.length : Int) ∧ H' = upd H2 it (TitO t it 0)) E0 := ⟨a, t, ys, rfl, hR _ E3, rfl, rfl⟩
    have hlL := FL.len _ _ _ _ hspL
    refine wpAny_call (codeAny_mono (FL.run X.A.in1.in1.in1 X.stack _ _ ⟨[.ref a], []⟩ [.ref a] [.ref a] _ E0 (rm2.in1.mono (by omega)) I3.env0.in1.in1.in1 (by
      have := bL _ [.ref a] I3.kIn (by simpa using hlL)
      simpa using this) r2 hspL) ?_)
    intro r4 s4 hq4
    match r4, hq4 with
    | .error e, hq4 => exact hq4.elim
    | .ok .next, hq4 => exact False.elim hq4
    | .ok .brk, hq4 => exact False.elim hq4
    | .ok .cont, hq4 => exact False.elim hq4
    | .ok (.ret u4), hq4 =>
      obtain ⟨v4, H4, I4, rv4, rfl, rfl⟩ := I3.after hq4
      obtain ⟨tk4, rfl⟩ := rv4
      have l63 := line63
      refine ⟨⟨Int.natCast_nonneg _, by omega⟩, ?_⟩
      show wpAny _ _ (asInt? (Value.int (ys.length : Int) s4.toks) >>= _) _ _ _
      refine wpAny_bind (wpAny_pure ?_)
      show wpAny _ _ (if Builtin.List.listTooLong (ys.length : Int).toNat = true then _ else _) _ _ _
      rw [if_neg (by rw [Int.toNat_natCast, notLongL (Nat.le_of_lt hlen)]; exact Bool.false_ne_true)]
      refine wpAny_pure ?_
      have I5 := I4.tok (s4.toks + 1)
      refine wpAny_ite_split (fun _ => ?_) (fun _ => fin _ I5)
      exact wpAny_bind (wpAny_rule (wpAny_bind (touched I5 hq3 fin)))
end
end Gd

set_option Elab.async false
set_option linter.all false
set_option maxRecDepth 100000
set_option maxHeartbeats 4000000
/-! bool(o) and != of own classes. -/
namespace PySem
section
variable {prog : Program} {w : World} {A : Around} {E : Value → Shared → Prop} {s : Shared}
theorem bool_new_any (x : Value) : MeetsIn prog w (Builtin.«bool.__new__» ⟨[.type "bool", x], []⟩) (fun A R s =>
    wpAny (model prog w) A.in1 (truthy x) (fun b s' => R (.ok (.ret (.bool b))) s') (fun e s' => R (.error e) s') s) := by
  intro A R s h
  have f1 := F.conv_sub_bool
  unfold Builtin.«bool.__new__»
  refine wpAny_bind (wpAny_of_eq (a := true) (by first | rfl | kernel_rfl) ?_)
  refine PySem.W.KFB.if_not rfl ?_
  refine wpAny_bind (wpAny_of_eq f1 ?_)
  refine PySem.W.KFB.if_not rfl ?_
  refine wpAny_bind (m := someArgs "bool" 0 1 _) (wpAny_of_eq (a := [x]) (by first | rfl | kernel_rfl!) ?_)
  refine wpAny_bind (wpAny_mono h (fun b s' q => ?_) fun _ _ z => z)
  exact wpAny_pure q
theorem call_bool_any {x : Value} {Q : Value → Shared → Prop}
    (h : wpAny (model prog w) A.in1.in1 (truthy x) (fun b s' => Q (.bool b) s') E s) : wpAny (model prog w) A (call (.type "bool") [x]) Q E s := by
  refine callType_newIn F.called_bool F.newNe_bool (F.typeCall_bool_1 x) (F.newCall_bool_1 x) (fun obj => F.args_object_init_2 obj x) F.entry_bool_new (bool_new_any x) ?_
  exact wpAny_mono h (fun b s' q => ⟨rfl, q⟩) fun _ _ z => z
end
end PySem

namespace HN2
open PySem PySem.Spec PyProof.Rows PySem.SeqAt
section
variable {prog : Program} {w : World} {A : Around} {E : Value → Shared → Prop} {s : Shared} {K : PySem.W.Frag} {x C f : Addr} {ox : Obj} {od : Option Obj} {y : Value}
theorem ne_entry (hu : A.units < cLine) (X : K.In s.heap) (I : PySem.W.InstAt s.heap x ox C od) (hs : PySem.W.findIn K (.ref C) "__eq__" = some (some (.ref f))) (hf : PySem.W.isFn K (.ref f) = true) {Q : Fin → Shared → Prop}
    (h : wpAny (model prog w) A (call (.ref f) [.ref x, y]) (fun v s' => ∃ b, v = .bool b ∧ Q (.done (.ret (.bool (!b)))) s') E s) :
    wpAny (model prog w) A (Builtin.«object.__ne__» ⟨[.ref x, y], []⟩) Q E s := by
  unfold Builtin.«object.__ne__»
  refine wpAny_bind (m := slotArgs "__ne__" 1 _) (wpAny_of_eq (a := (Value.ref x, [y])) (by first | rfl | kernel_rfl!) ?_)
  refine wpAny_bind (wpAny_cRoomFor hu ?_)
  refine wpAny_bind (m := callSpecialIfBound? (.ref x) (Str.ofString "__eq__") [y]) (PySem.W.ifBound_K X I hs hf (wpAny_mono h (fun v s' z => ?_) fun _ _ z => z))
  obtain ⟨b, rfl, q⟩ := z
  exact wpAny_bind (wpAny_truthy_bool (wpAny_pure q))
theorem ifBound_ne {M : Model} {args : List Value} {Q : Option Value → Shared → Prop} (X : K.In s.heap) (I : PySem.W.InstAt s.heap x ox C od) (hs : PySem.W.findIn K (.ref C) "__ne__" = some (some (.builtin "object.__ne__")))
    (h : wpAny M A (call (.builtin "object.__ne__") (.ref x :: args)) (fun v => Q (some v)) E s) : wpAny M A (callSpecialIfBound? (.ref x) "__ne__" args) Q E s := by
  simp only [callSpecialIfBound?, bindSpecialIfBound?]
  refine wpAny_holding (wpAny_bind (wpAny_bind (wpAny_bind (I.type.here ((PySem.W.looks_findIn X hs).here ?_)))))
  refine wpAny_bind (wpAny_askSetting (wpAny_ite ?_))
  have last : wpAny M A (call (.builtin "object.__ne__") ([.ref x] ++ args) >>= fun v => pure (some v)) Q E s :=
    wpAny_bind (wpAny_mono h (fun v s' h' => wpAny_pure h') fun _ _ h' => h')
  split
  · exact wpAny_bind (wpAny_of_eq (F.cmp_object.ne.bind _) (wpAny_pure (by exact last)))
  · exact wpAny_tryCatch (wpAny_bind (wpAny_of_eq (F.cmp_object.ne.bind _) (wpAny_pure (by exact last))))
theorem rich_ne {tb : Value} {Q : Value → Shared → Prop} (hu : A.units + 1 < cLine) (X : K.In s.heap) (I : PySem.W.InstAt s.heap x ox C od) (hb : PySem.W.Looks (model prog w) s.heap (typeOf y) tb)
    (hn : PySem.W.notFirst K C tb = true) (hne : PySem.W.findIn K (.ref C) "__ne__" = some (some (.builtin "object.__ne__"))) (ho : PySem.W.mroIn K C (.type "object") = some true)
    (hs : PySem.W.findIn K (.ref C) "__eq__" = some (some (.ref f))) (hf : PySem.W.isFn K (.ref f) = true)
    (h : wpAny (model prog w) A.in1 (call (.ref f) [.ref x, y]) (fun v s' => ∃ b, v = .bool b ∧ Q (.bool (!b)) s') E s) :
    wpAny (model prog w) A (richCompare .NotEq (.ref x) y) Q E s := by
  have one : wpAny (model prog w) A (tryCompare (.ref x) "__ne__" y) (fun r s' => ∃ v, r = some v ∧ Q v s') E s := by
    unfold tryCompare
    refine wpAny_bind (ifBound_ne X I hne (wpAny_call (codeAny_call_builtin F.cmp_object.ne.plain F.cmpEntry_ne (PySem.W.check_slot F.cmpKind_ne F.cmpSplit_ne (I.type.andThen (PySem.W.looks_mroIn X ho)) (F.cmpArgs_ne _ _)
      (ne_entry (A := A.in1) (by show A.units + 1 < cLine; exact hu) X I hs hf (wpAny_mono h (fun v s' z => ?_) fun _ _ z => z))))))
    obtain ⟨b, rfl, q⟩ := z
    exact ⟨b, rfl, wpAny_pure ⟨_, rfl, q⟩⟩
  unfold richCompare
  simp only [oneThing_ref]
  refine wpAny_holding (wpAny_bind (wpAny_cRoomFor (Nat.lt_of_succ_lt hu) ?_))
  rw [cmpInfo_NotEq]
  dsimp only
  refine wpAny_bind (I.type.here (wpAny_bind (hb.here ?_)))
  split
  · rename_i q
    have e : PySem.W.subIn K tb (.ref C) = some false := by
      rcases Bool.or_eq_true_iff.mp hn with e | e
      · rw [beq_iff_eq.mp e] at q
        simp at q
      · exact beq_iff_eq.mp e
    refine wpAny_bind ((PySem.W.looks_subIn X e).here ?_)
    simp only [Bool.false_eq_true, if_false]
    refine wpAny_bind (m := tryCompare (.ref x) _ y) (wpAny_mono one (fun r s' z => ?_) fun _ _ e => e)
    obtain ⟨v, rfl, hq⟩ := z
    exact wpAny_pure hq
  · refine wpAny_bind (wpAny_pure ?_)
    simp only [Bool.false_eq_true, if_false]
    refine wpAny_bind (m := tryCompare (.ref x) _ y) (wpAny_mono one (fun r s' z => ?_) fun _ _ e => e)
    obtain ⟨v, rfl, hq⟩ := z
    exact wpAny_pure hq
end
end HN2

namespace Gd
open PySem PySem.Spec PyProof.Rows L2
section
variable {X : Cx} {CX : CXT} {k : Nat} {f C : Addr} {fd : FuncData} {ps : List Str} {sp : Sp}
/-- what != of a class with an own == asks of the class -/
structure NeC (K : PySem.W.Frag) (C : Addr) : Prop where
  ne : PySem.W.findIn K (.ref C) "__ne__" = some (some (.builtin "object.__ne__"))
  ob : PySem.W.mroIn K C (.type "object") = some true
def rNeO (K : PySem.W.Frag) (C : Addr) (sp : Sp) (E : XK) : R2 := fun x y H Q => ∃ p dx fs t, x = .ref p ∧ H p = some (.ins C dx fs) ∧
  TyX K H y t ∧ PySem.W.notFirst K C t = true ∧ sp [x, y] H (fun v H' => ∃ c, v = .bl c ∧ Q (.bl (!c)) H') E
theorem op_neO {E : XK} (hn : NeC X.K C) (hm : Meth X.K C "__eq__" f) (F : FnOk X.prog X.w X.K X.mg X.base CX k f fd ps sp) (hr : Room (k + 1) X.A)
    (hb : Binds X.K fd ps []) (hx : ∀ σ, PassesAt CX X σ E) : OpR X (compareOp .NotEq) (rNeO X.K C sp E) := by
  intro pins s σ H x y v u Q I rx ry h
  obtain ⟨p, dx, fs, t, rfl, ep, ty, hnf, hsp⟩ := h
  cases rx
  obtain ⟨od, J⟩ := seen I ep
  obtain ⟨P, Z, hP, _⟩ := kit_of I ry ty
  show wpAny _ _ (richCompare .NotEq _ _) _ _ _
  refine HN2.rich_ne (hu_of hr) I.kIn J (Z.ty _ _ I.kIn hP) hnf hn.ne hn.ob hm.at_ hm.fn ?_
  refine wpAny_mono (runAt (.inr rfl) F hr hb .nil (hx σ) I (.cons (show RelV (V.ref p) (Value.ref p) from rfl) (.cons ry .nil)) hsp) ?_ (fun _ _ z => z)
  rintro w s' ⟨z, H', I', rz, c, rfl, q⟩
  cases rz
  exact ⟨c, rfl, .bl (!c), H', I', rfl, q⟩
/-- bool(o) -/
def rBoolO (C : Addr) (sp : Sp) (E : XK) : List V → Hp → VK → Prop := fun xs H Q => ∃ p dx fs, xs = [.ref p] ∧ H p = some (.ins C dx fs) ∧
  sp [.ref p] H (fun v H' => ∃ c, v = .bl c ∧ Q (.bl c) H') E
theorem call_boolO {E : XK} (hm : Meth X.K C "__bool__" f) (F : FnOk X.prog X.w X.K X.mg X.base CX k f fd ps sp) (hr : Room (k + 2) X.A)
    (hb : Binds X.K fd ps []) (hx : ∀ σ, PassesAt CX X σ E) : CallR X (.type "bool") (rBoolO C sp E) := by
  intro pins s σ H xs us Q I r h
  obtain ⟨p, dx, fs, rfl, ep, hsp⟩ := h
  obtain ⟨u, rfl, hu1⟩ := vals1 r
  cases hu1
  obtain ⟨od, J⟩ := seen I ep
  obtain ⟨m, hF⟩ := I.fr
  refine call_bool_any (PySem.W.truthy_K hF I.ok.mod.kin J hm.at_ hm.fn ?_)
  have hl := F.len _ _ _ _ hsp
  refine wpAny_call (codeAny_mono (F.run X.A.in1.in1 X.stack s H ⟨[.ref p], []⟩ [.ref p] [.ref p] _ E hr.in1.in1 I.env0.in1.in1 (by
    have := hb s [.ref p] I.kIn (by simpa using hl)
    simpa using this) (.cons (show RelV (V.ref p) (Value.ref p) from rfl) .nil) hsp) ?_)
  intro r s' hq
  match r, hq with
  | .error e, hq => exact hx σ pins H s e s' I hq
  | .ok .next, hq => exact False.elim hq
  | .ok .brk, hq => exact False.elim hq
  | .ok .cont, hq => exact False.elim hq
  | .ok (.ret u), hq =>
    obtain ⟨v, H', I', rv, c, rfl, q⟩ := I.after hq
    cases rv
    exact ⟨.bl c, H', I', rfl, q⟩
end
end Gd

set_option Elab.async false
set_option linter.all false
set_option maxRecDepth 100000
set_option maxHeartbeats 4000000
/-! A tuple times 0 or 1. -/
namespace Gd
open PySem PySem.Spec PyProof.Rows L2
theorem tuple_mul1 (l : Addr) (items : Array Value) (n : Nat) (dd : Option Addr) (sl : Array (Option Value)) (u : Tok) :
    Meets (Builtin.«tuple.__mul__» ⟨[.ref l, .int 1 u], []⟩) (fun _ R s => s.heap.get? l = some { cls := .type "tuple", dict := dd, data := .seq items n, slots := sl } ∧
      R (.ok (.ret (Value.ref l))) s) :=
  .of_wp fun prog w A R s h => by
    obtain ⟨hp, g, d, tk, os⟩ := s
    obtain ⟨hl, h⟩ := h
    have f1 := AutoSeq1.idx_int
    have c1 : (items.isEmpty || (1 : Int) == 1) = true := by simp
    wp_walk using wpAny_loadPart' hl
    repeat (first
      | (refine wpAny_ite_true (decide_eq_true c1) ?_; wp_walk using wpAny_loadPart' hl))
    exact ⟨_, rfl, h⟩

theorem tuple_mul0 (l : Addr) (items : Array Value) (n : Nat) (dd : Option Addr) (sl : Array (Option Value)) (u : Tok) (ne : items.isEmpty = false) :
    Meets (Builtin.«tuple.__mul__» ⟨[.ref l, .int 0 u], []⟩) (fun _ R s => s.heap.get? l = some { cls := .type "tuple", dict := dd, data := .seq items n, slots := sl } ∧
      R (.ok (.ret (Value.ref s.heap.objs.size))) { s with heap := s.heap.push { cls := Value.type "tuple", data := Data.seq #[] }, toks := s.toks }) :=
  .of_wp fun prog w A R s h => by
    obtain ⟨hp, g, d, tk, os⟩ := s
    obtain ⟨hl, h⟩ := h
    have f1 := AutoSeq1.idx_int
    have c1 : ¬ (items.isEmpty || (0 : Int) == 1) = true := by rw [ne]; decide
    have c2 : (decide ((0 : Int) ≤ 0) || items.isEmpty) = true := by simp
    wp_walk using wpAny_loadPart' hl
    repeat (first
      | (refine wpAny_ite_false (decide_eq_false c1) ?_; wp_walk using wpAny_loadPart' hl)
      | (refine wpAny_ite_true (decide_eq_true c2) ?_; wp_walk using wpAny_loadPart' hl))
    exact ⟨_, rfl, h⟩
def rRepA (K : PySem.W.Frag) : R2 := fun x y H Q => ∃ l k xs, x = .ref l ∧ y = .int k ∧ SqT K H l xs ∧ xs ≠ [] ∧ 0 ≤ k ∧ k ≤ 1000 ∧ xs.length ≤ 1000 ∧
  (k = 1 → Q (.ref l) H) ∧ (k ≠ 1 → ∀ p, H p = none → Q (.ref p) (upd H p (.tup (List.replicate k.toNat xs).flatten)))
section
variable {X : Cx}
theorem op_repA : OpR X (binaryOp .Mult) (rRepA X.K) := by
  intro pins s σ H x y v u Q I rx ry h
  obtain ⟨l, k, xs, rfl, rfl, hT, hne, h1, h2, hz, q1, q2⟩ := h
  by_cases big : 2 ≤ k
  · exact op_repT pins s σ H _ _ v u Q I rx ry ⟨l, k, xs, rfl, rfl, hT, hne, big, h2, hz, q2 (by omega)⟩
  cases rx
  obtain ⟨t, rfl⟩ := ry
  obtain ⟨its, r, ⟨⟨cls, dd, data, sl⟩, ho, hc, n, hd⟩, hs⟩ := I.tuple hT
  simp only at hc hd
  subst hc hd
  have hle : its.length = xs.length := r.length.symm
  have hi : its.toArray.isEmpty = false := by
    cases its with
    | nil => exact absurd (List.eq_nil_of_length_eq_zero hle.symm) hne
    | cons a b => rfl
  have hk : k = 0 ∨ k = 1 := by omega
  rcases hk with rfl | rfl
  · refine wpAny_binaryOp_repeat_ref (T := "tuple") (U := "int") (by decide) ⟨_, ho, rfl⟩ (fun s' => typeIs_int s' 0 t) noFill_tuple_mul F.fills_int_mul F.slot_int_rmul repeat_tuple F.slot_int_index.lookup
      (call_meets F.slot_int_rmul (typeIs_int s 0 t) F.entry_int_rmul (F.args_int_rmul_2 _ _) (int_rmul_tuple 0 t l its.toArray n dd sl)
        ⟨ho, rfl, ⟨_, ho, rfl⟩, call_meets F.slot_tuple_mul ⟨_, ho, rfl⟩ F.entry_tuple_mul (F.args_tuple_mul_2 _ _) (tuple_mul0 l its.toArray n dd sl t hi) ⟨ho, ?_⟩⟩)
    have q := q2 (by decide) _ (I.hok.fresh (Nat.le_refl _))
    refine ⟨.ref s.heap.objs.size, _, I.laid (t' := s.toks) (o := .tup (List.replicate (0 : Int).toNat xs).flatten) (fun b ob q => Heap.get?_push_of_some _ q) (Nat.le_refl _) ?_, rfl, q⟩
    exact ⟨Nat.zero_le _, [], .nil, IsTup.new _ _⟩
  · refine wpAny_binaryOp_repeat_ref (T := "tuple") (U := "int") (by decide) ⟨_, ho, rfl⟩ (fun s' => typeIs_int s' 1 t) noFill_tuple_mul F.fills_int_mul F.slot_int_rmul repeat_tuple F.slot_int_index.lookup
      (call_meets F.slot_int_rmul (typeIs_int s 1 t) F.entry_int_rmul (F.args_int_rmul_2 _ _) (int_rmul_tuple 1 t l its.toArray n dd sl)
        ⟨ho, rfl, ⟨_, ho, rfl⟩, call_meets F.slot_tuple_mul ⟨_, ho, rfl⟩ F.entry_tuple_mul (F.args_tuple_mul_2 _ _) (tuple_mul1 l its.toArray n dd sl t) ⟨ho, ?_⟩⟩)
    exact ⟨.ref l, H, I, rfl, q1 rfl⟩
end
end Gd

set_option Elab.async false
set_option linter.all false
set_option maxRecDepth 100000
set_option maxHeartbeats 4000000
/-! A tuple many times. -/
namespace Gd
open PySem PySem.Spec PyProof.Rows L2
/-- t * k, t not empty, few values in all -/
def rRepB (K : PySem.W.Frag) : R2 := fun x y H Q => ∃ l k xs, x = .ref l ∧ y = .int k ∧ SqT K H l xs ∧ xs ≠ [] ∧ 0 ≤ k ∧ k ≤ 100000 ∧ xs.length ≤ 10 ∧
  (k = 1 → Q (.ref l) H) ∧ (k ≠ 1 → ∀ p, H p = none → Q (.ref p) (upd H p (.tup (List.replicate k.toNat xs).flatten)))
section
variable {X : Cx}
theorem op_repB : OpR X (binaryOp .Mult) (rRepB X.K) := by
  intro pins s σ H x y v u Q I rx ry h
  obtain ⟨l, k, xs, rfl, rfl, hT, hne, h1, h2, hz, q1, q2⟩ := h
  by_cases few : k ≤ 1
  · exact op_repA pins s σ H _ _ v u Q I rx ry ⟨l, k, xs, rfl, rfl, hT, hne, h1, by omega, by omega, q1, q2⟩
  have two : 2 ≤ k := by omega
  have q := q2 (by omega)
  clear q1 q2
  cases rx
  obtain ⟨t, rfl⟩ := ry
  obtain ⟨its, r, ⟨⟨cls, dd, data, sl⟩, ho, hc, n, hd⟩, hs⟩ := I.tuple hT
  simp only at hc hd
  subst hc hd
  have len : its.length = xs.length := r.length.symm
  have some_ : its.toArray.isEmpty = false := by
    cases its with
    | nil => exact absurd (List.eq_nil_of_length_eq_zero len.symm) hne
    | cons a b => rfl
  have sz : its.toArray.size = xs.length := by rw [List.size_toArray, len]
  have all_ : ((its.toArray.size : Nat) : Int) * k ≤ 1000000 := by
    rw [sz]
    have a1 : ((xs.length : Nat) : Int) * k ≤ 10 * k := Int.mul_le_mul_of_nonneg_right (by omega) (by omega)
    omega
  have many : k.toNat * xs.length ≤ 100000 * 10 := Nat.mul_le_mul (by omega) hz
  have flat_ : (List.replicate k.toNat its).flatten.length ≤ sizeLine := by
    rw [PyProof.Rows.lm_len_rep_flat, len, sizeLine_eq]
    omega
  have d0 : (decide (k < -(2 ^ 63)) || decide (k ≥ 2 ^ 63)) = false := by
    rw [decide_eq_false (by omega), decide_eq_false (by omega)]
    rfl
  have d1 : (its.toArray.isEmpty || k == 1) = false := by
    rw [some_, Bool.false_or]
    exact beq_eq_false_iff_ne.mpr (by omega)
  have d2 : (decide (k ≤ 0) || its.toArray.isEmpty) = false := by
    rw [some_, Bool.or_false]
    exact decide_eq_false (by omega)
  have d4 : Builtin.Tuple.tupleTooMany (((its.toArray.size : Nat) : Int) * k) = false := by
    unfold Builtin.Tuple.tupleTooMany
    rw [sizeLine_eq]
    exact decide_eq_false (by omega)
  have met := tuple_mulW l its.toArray n dd sl k t d0 d1 d2 (by omega) d4 (by rw [size_rep, List.size_toArray]; exact flat_)
  refine wpAny_binaryOp_repeat_ref (T := "tuple") (U := "int") (by decide) ⟨_, ho, rfl⟩ (fun s' => typeIs_int s' k t) noFill_tuple_mul F.fills_int_mul F.slot_int_rmul repeat_tuple F.slot_int_index.lookup
    (call_meets F.slot_int_rmul (typeIs_int s k t) F.entry_int_rmul (F.args_int_rmul_2 _ _) (int_rmul_tuple k t l its.toArray n dd sl)
      ⟨ho, rfl, ⟨_, ho, rfl⟩, call_meets F.slot_tuple_mul ⟨_, ho, rfl⟩ F.entry_tuple_mul (F.args_tuple_mul_2 _ _) met ⟨ho, ?_⟩⟩)
  rw [size_rep]
  refine ⟨.ref s.heap.objs.size, _, I.laid (t' := s.toks) (o := .tup (List.replicate k.toNat xs).flatten) (fun b ob q => Heap.get?_push_of_some _ q) (Nat.le_refl _) ?_, rfl, q _ (I.hok.fresh (Nat.le_refl _))⟩
  exact ⟨by rw [PyProof.Rows.lm_len_rep_flat, sizeLine_eq]; omega, _, r.rep k.toNat, IsTup.new _ _⟩
end
end Gd

set_option Elab.async false
set_option linter.all false
set_option maxRecDepth 100000
set_option maxHeartbeats 4000000
/-! enumerate(a tuple). -/
namespace HN4
open PySem PySem.Spec PyProof.Rows PySem.SeqAt
theorem meets_enum1 {v : Value} {o : Obj} {G : Heap → Prop} (B : Begins v o G) : Meets (Builtin.«enumerate.__new__» ⟨[.type "enumerate", v], []⟩) (fun _ R s => G s.heap ∧
    R (.ok (.ret (.ref (s.heap.push o).objs.size))) { s with heap := (s.heap.push o).push { cls := .type "enumerate", data := .fields #[.none, .bool false, .ref s.heap.objs.size, rawInt 0, .none, .none] } }) := by
  refine .of_wp fun prog w A R ⟨hp, g, d, tk, os⟩ hh => ?_
  obtain ⟨h1, h⟩ := hh
  have sb := sub_enumerate
  have it : ∀ {A' : Around} {E : Value → Shared → Prop} {Q : Value → Shared → Prop}, Q (.ref hp.objs.size) ⟨hp.push o, g, d, tk, os⟩ → wpAny (model prog w) A' (pyIter v) Q E ⟨hp, g, d, tk, os⟩ := fun q => B.iter prog w _ _ ⟨hp, g, d, tk, os⟩ _ h1 q
  wp_walk using it
  refine wpAny_stack_any fun st => wpAny_pure ?_
  split
  · rename_i c _ _ _ _ _
    cases (c == Value.type "enumerate") <;> (wp_walk using it; exact ⟨_, rfl, h⟩)
  · wp_walk using it
    exact ⟨_, rfl, h⟩
theorem begins_tup (t : Addr) (items : Array Value) : Begins (.ref t) { cls := .type "tuple_iterator", data := .fields #[.ref t, .int 0 0] } (fun h => h.IsTuple t items) where
  iter := fun prog w A E s Q ht hq => wpAny_pyIter_tuple ht hq
  keeps := fun h h' ht k => ht.at fun o e => k _ _ e
  free := rfl
section
variable {prog : Program} {w : World} {A : Around} {E : Value → Shared → Prop} {s : Shared}
theorem call_enumT {t : Addr} {items : Array Value} {Q : Value → Shared → Prop} (ht : s.heap.IsTuple t items)
    (h : ∀ h', IsEnum h' (s.heap.objs.size + 1) s.heap.objs.size 0 .none → h'.IsTupleIter s.heap.objs.size t 0 → (∀ b o, s.heap.get? b = some o → h'.get? b = some o) → Q (.ref (s.heap.objs.size + 1)) { s with heap := h' }) :
    wpAny (model prog w) A (call (.type "enumerate") [.ref t]) Q E s := by
  let o1 : Obj := { cls := .type "tuple_iterator", data := .fields #[.ref t, .int 0 0] }
  let o2 : Obj := { cls := .type "enumerate", data := .fields #[.none, .bool false, .ref s.heap.objs.size, rawInt 0, .none, .none] }
  have e1 : (s.heap.push o1).objs.size = s.heap.objs.size + 1 := Heap.size_push ..
  have e2 : ((s.heap.push o1).push o2).get? (s.heap.objs.size + 1) = some o2 := by
    have q := Heap.get?_push_size (s.heap.push o1) (o := o2) rfl
    rw [e1] at q
    exact q
  refine callType_new F.called_enumerate (by decide) (F.typeCall_enumerate_1 _) (F.newCall_enumerate_1 _) (fun obj => F.args_object_init_2 obj _) F.entry_enumerate_new (meets_enum1 (begins_tup t items)) ⟨ht, ?_⟩
  show _ ∧ _
  rw [e1]
  exact ⟨⟨_, e2, rfl⟩, h _ e2 ⟨_, Heap.get?_push_of_some _ (Heap.get?_push_size _ rfl), rfl, rfl⟩ fun b ob x => Heap.get?_push_of_some _ (Heap.get?_push_of_some _ x)⟩
end
end HN4
namespace Gd
open PySem PySem.Spec PyProof.Rows L2
/-- a tuple walked with its places: at each turn a new pair -/
def IteT (K : PySem.W.Frag) (t : Addr) : It where
  go := fun i H => ∃ (xs : List V) (x : V), SqT K H t xs ∧ xs[i]? = some x
  yld := fun i H v H' => ∃ T x, v = .ref T ∧ H T = none ∧ H' = upd H T (.tup [.int (i : Nat), x]) ∧ ∀ xs, SqT K H t xs → xs[i]? = some x
  stop := fun i H => ∃ xs : List V, SqT K H t xs ∧ xs.length = i
theorem tit_apart {h : Heap} {t it : Addr} {i : Nat} {items : Array Value} (a : h.IsTupleIter it t i) (b : h.IsTuple t items) : t ≠ it := by
  intro z
  subst z
  obtain ⟨o1, g1, c1, _⟩ := a
  obtain ⟨o2, g2, c2, _⟩ := b
  rw [g1] at g2
  cases g2
  rw [c1] at c2
  exact absurd c2 (by decide)
theorem enum_apart {h : Heap} {e it t : Addr} {k : Int} {old : Value} {items : Array Value} (a : IsEnum h e it k old) (b : h.IsTuple t items) : e ≠ t := by
  intro z
  subst z
  obtain ⟨o2, g2, c2, _⟩ := b
  have g1 : h.get? e = some _ := a
  rw [g1] at g2
  cases g2
  exact absurd c2 (by simp)
theorem turn_enumT {P : Program} {w : World} {K : PySem.W.Frag} {elts : List Expr} {kk : Nat} {tpos : Pos} (t e it : Addr) :
    Turn P w K (.Tuple elts kk tpos) (IteT K t) [e, it] e (fun i h => (∃ old, IsEnum h e it ((i : Nat) : Int) old) ∧ h.IsTupleIter it t i ∧ e ≠ it) where
  mem := List.mem_cons_self
  obj := by
    rintro i h ⟨⟨old, he⟩, ⟨o, ho, hc, hd⟩, _⟩ b hb
    rcases List.mem_cons.mp hb with rfl | hb
    · exact ⟨_, he, fun v q => nomatch q⟩
    · rw [List.mem_singleton.mp hb]
      refine ⟨o, ho, fun v q => ?_⟩
      rw [hd] at q
      cases q
  keep := by
    rintro i h h' ⟨⟨old, he⟩, hi, ne⟩ k
    exact ⟨⟨old, k e List.mem_cons_self _ he⟩, hi.at fun o q => k it (List.mem_cons_of_mem _ List.mem_cons_self) o q, ne⟩
  item := by
    intro X hP hw hK hc i pins s σ H E I hf st hg
    subst hP hw hK
    obtain ⟨⟨old, he⟩, hit, ne⟩ := st
    obtain ⟨xs, x, hq, hx⟩ := hg
    obtain ⟨its, rv, p, hz⟩ := I.tuple hq
    have pt := isTuple_of p
    obtain ⟨u, hu, ru⟩ := rv.get hx
    have a1 := tit_apart hit pt
    have a2 := enum_apart he pt
    have le : e < s.heap.objs.size := Heap.lt_size he
    have li : it < s.heap.objs.size := by
      obtain ⟨_, q, _⟩ := hit
      exact Heap.lt_size q
    have hlt : i < its.toArray.size := by
      rcases Nat.lt_or_ge i its.toArray.size with z | z
      · exact z
      · rw [List.getElem?_eq_none_iff.mpr (by simpa using z)] at hu
        cases hu
    refine wpAny_pyNext_enum_itemD (Draws.tuple (show X.A.in1.handled = none from I.ok.hd hc) it t a1 its.toArray) he ⟨hit, pt⟩ hlt ne (by simp [ne, a2]) fun y h1 tk hy ho st1 hT hsz hk => ?_
    obtain rfl : y = u := by
      rw [List.getElem?_toArray, hu] at hy
      exact (Option.some.inj hy).symm
    refine ⟨_, rfl, wpAny_letOwnedTupleGo_enum (s := { s with heap := h1, toks := tk + 1 }) ho fun h2 he2 sb => ?_⟩
    have hT2 : h2.get? s.heap.objs.size = some { cls := .type "tuple", data := .seq #[.int i tk, y] } := (sb.2 _ (Nat.ne_of_gt le)).trans hT
    have new : ObjOk X.prog X.w (upd H s.heap.objs.size (.tup [.int (i : Nat), x])) h2 s.heap.objs.size (.tup [.int (i : Nat), x]) :=
      ⟨by show 2 ≤ sizeLine; decide, [.int i tk, y], .cons ⟨_, rfl⟩ (.cons ru .nil), ⟨_, hT2, rfl, _, rfl⟩⟩
    have I1 : Inv X pins σ (upd H s.heap.objs.size (.tup [.int (i : Nat), x])) { s with heap := h2, toks := tk + 1 } :=
      I.turnedNew (ch := [e, it]) (fun b ob hb q => (sb.2 b (fun z => hb (by simp [z]))).trans (hk b ob (fun z => hb (by simp [z])) (fun z => hb (by simp [z])) q)) hf (Nat.le_refl _) new
    refine ⟨.ref s.heap.objs.size, _, I1, rfl, ⟨_, x, rfl, I.hok.fresh (Nat.le_refl _), rfl, fun ys hy => ?_⟩, ⟨⟨y, ?_⟩, st1.1.at fun o q => (sb.2 it (Ne.symm ne)).trans q, ne⟩, fun b hb => ?_⟩
    · rw [I.tuple_inj hy hq]
      exact hx
    · rw [show ((i + 1 : Nat) : Int) = (i : Int) + 1 by omega]
      exact he2
    · have lb : b < s.heap.objs.size := by
        rcases List.mem_cons.mp hb with rfl | hb
        · exact le
        · rw [List.mem_singleton.mp hb]
          exact li
      rw [upd_ne (Nat.ne_of_lt lb)]
      exact (hf b hb).1
  done := by
    intro X hP hw hK hc i pins s σ H E I hf st hg
    subst hP hw hK
    obtain ⟨⟨old, he⟩, hit, ne⟩ := st
    obtain ⟨xs, hq, hx⟩ := hg
    obtain ⟨its, rv, p, hz⟩ := I.tuple hq
    have pt := isTuple_of p
    obtain ⟨f0, f1, f2, f3, f4, f5⟩ := hf it (by simp)
    have n : i = its.toArray.size := by
      rw [List.size_toArray, ← rv.length]
      exact hx.symm
    subst n
    exact wpAny_pyNext_enum_endD (Draws.tuple (show X.A.in1.handled = none from I.ok.hd hc) it t (tit_apart hit pt) its.toArray) he ⟨hit, pt⟩ fun h1 eb => ⟨rfl, I.turned (t' := s.toks) (fun b o hb q => eb b o hb q) f0 f1 f3 f4 f5⟩
  self := fun A i s Q E st h => let ⟨⟨_, he⟩, _⟩ := st; wpAny_pyIter_enum he h
theorem call_of_enum {X : Cx} {elts : List Expr} {kk : Nat} {tpos : Pos} {pins : List (Addr × Obj)} {σ : L2.St} {H : Hp} {s : Shared} {R : It → Hp → Prop} {t : Addr} {items : Array Value} (I : Inv X pins σ H s) (pl : IsTup s.heap t items) (q : R (IteT X.K t) H) :
    wpAny (model X.prog X.w) X.A (call (.type "enumerate") [.ref t]) (fun v s2 => wpAny (model X.prog X.w) X.A (pyIter v) (PIE X pins σ (.Tuple elts kk tpos) R) X.xe s2) X.xe s := by
  refine HN4.call_enumT (isTuple_of pl) fun h1 he hit hk => wpAny_pyIter_enum he ?_
  refine ⟨s.heap.objs.size + 1, [s.heap.objs.size + 1, s.heap.objs.size], _, _, H, rfl, I.kept (t' := s.toks) hk, turn_enumT t _ _, ⟨⟨.none, he⟩, hit, Nat.succ_ne_self _⟩, fun b hb => ?_, q⟩
  have hle : s.heap.objs.size ≤ b := by
    rcases List.mem_cons.mp hb with rfl | hb
    · exact Nat.le_add_right _ _
    · rw [List.mem_singleton.mp hb]
      exact Nat.le_refl _
  exact I.fpOk hle (I.hok.fresh hle)
def iEnumT (K : PySem.W.Frag) (ta : TA) : TI := fun σ H R => ta σ H fun vs H1 => ∃ t xs, vs = [.ref t] ∧ SqT K H1 t xs ∧ R (IteT K t) H1
theorem pi_enumT {X : Cx} {e : Expr} {ta : TA} {p pos tpos : Pos} {elts : List Expr} {kk : Nat} (hg : Gl X "enumerate") (hm : X.mg "enumerate" = none) (ha : PA X [e] ta) (hs : starEach [e] X.env = [(false, eval e X.env)] := by rfl) :
    PI X (.Tuple elts kk tpos) (.Call (.Name "enumerate" p) [e] [] pos) (iEnumT X.K ta) := by
  constructor
  intro pins s σ H R I h
  refine Call_ (ld_blt I hg hm boot_enumerate (PyProof.Rows.callWith_type1 (thn (ha.run pos pins s σ H _ I h) fun us s1 ⟨vs, H1, I1, r1, t, xs, ex, hq, q⟩ => ?_) hs rfl))
  subst ex
  obtain rfl := Vals.ref1 r1
  obtain ⟨its, rv, pl, hz⟩ := I1.tuple hq
  refine call_of_enum I1 pl q
/-- a loop over the pairs of a tuple -/
theorem for_enumT {K : PySem.W.Frag} {t : Addr} {xs : List V} {g : TG} {tb : TS} {D : Ends} {σ : L2.St} {H : Hp} (Pv : Nat → L2.St → Hp → Prop) (h0 : Pv 0 σ H) (hl : ∀ i σ H, i ≤ xs.length → Pv i σ H → SqT K H t xs)
    (hs : ∀ i x σ H T, xs[i]? = some x → Pv i σ H → H T = none → g (.ref T) σ (upd H T (.tup [.int (i : Nat), x])) fun σ2 H2 => tb { D with nx := Pv (i + 1), ct := Pv (i + 1), bk := D.nx } σ2 H2) (hd : ∀ σ H, Pv xs.length σ H → D.nx σ H) :
    ∃ W : Nat → Nat → L2.St → Hp → Prop, (∃ m, W 0 m σ H) ∧ ∀ i m σ H, W i m σ H →
      ((IteT K t).stop i H ∧ D.nx σ H) ∨ ((IteT K t).go i H ∧ ∃ N : L2.St → Hp → Prop, (∀ σ' H', N σ' H' → ∃ m', m' < m ∧ W (i + 1) m' σ' H') ∧ ∀ x H', (IteT K t).yld i H x H' → g x σ H' fun σ2 H2 => tb { D with nx := N, ct := N, bk := D.nx } σ2 H2) := by
  refine ⟨fun i m σ H => m = xs.length - i ∧ i ≤ xs.length ∧ Pv i σ H, ⟨xs.length, rfl, Nat.zero_le _, h0⟩, ?_⟩
  rintro i m σ H ⟨rfl, hi, p⟩
  have q := hl i σ H hi p
  rcases Nat.lt_or_ge i xs.length with hlt | hge
  · refine .inr ⟨⟨xs, xs[i], q, List.getElem?_eq_getElem hlt⟩, Pv (i + 1), fun σ' H' p' => ⟨xs.length - (i + 1), by omega, rfl, hlt, p'⟩, ?_⟩
    rintro y H' ⟨T, x, rfl, hT, rfl, hx⟩
    exact hs i x σ H T (hx xs q) p hT
  · have e : i = xs.length := Nat.le_antisymm hi hge
    subst e
    exact .inl ⟨⟨xs, q, rfl⟩, hd σ H p⟩
end Gd

set_option Elab.async false
set_option linter.all false
set_option maxRecDepth 100000
set_option maxHeartbeats 4000000
/-! zip of two sequences, each a list or a tuple. -/
namespace Gd
open PySem PySem.Spec PyProof.Rows L2
/-- a list (true) or a tuple (false) -/
def SqE (K : PySem.W.Frag) (l : Bool) (H : Hp) (a : Addr) (xs : List V) : Prop := match l with
  | true => SqL K H a xs
  | false => SqT K H a xs
def HpE (l : Bool) (h : Heap) (a : Addr) (items : Array Value) : Prop := match l with
  | true => h.IsList a items
  | false => h.IsTuple a items
def ItE (l : Bool) (h : Heap) (it a : Addr) (i : Nat) : Prop := match l with
  | true => h.IsListIter it a i
  | false => h.IsTupleIter it a i
def objE (l : Bool) (a : Addr) : Obj := match l with
  | true => { cls := .type "list_iterator", data := .fields #[.ref a, .int 0 0] }
  | false => { cls := .type "tuple_iterator", data := .fields #[.ref a, .int 0 0] }
section
variable {l : Bool} {h h' : Heap} {a it : Addr} {i : Nat} {items : Array Value}
theorem ItE.at (x : ItE l h it a i) (k : ∀ o, h.get? it = some o → h'.get? it = some o) : ItE l h' it a i := by
  cases l with
  | true => exact Heap.IsListIter.at (show h.IsListIter it a i from x) k
  | false => exact Heap.IsTupleIter.at (show h.IsTupleIter it a i from x) k
theorem ItE.there (x : ItE l h it a i) : ∃ o, h.get? it = some o ∧ ∀ v, o.data ≠ .cell v := by
  cases l with
  | true =>
    obtain ⟨o, g, _, d⟩ := (show h.IsListIter it a i from x)
    exact ⟨o, g, fun v q => by rw [d] at q; cases q⟩
  | false =>
    obtain ⟨o, g, _, d⟩ := (show h.IsTupleIter it a i from x)
    exact ⟨o, g, fun v q => by rw [d] at q; cases q⟩
theorem ItE.apart (x : ItE l h it a i) (y : HpE l h a items) : a ≠ it := by
  intro z
  subst z
  cases l with
  | true =>
    obtain ⟨o1, g1, c1, _⟩ := (show h.IsListIter a a i from x)
    obtain ⟨o2, g2, c2, _⟩ := (show h.IsList a items from y)
    rw [g1] at g2
    cases g2
    rw [c1] at c2
    exact absurd c2 (by simp)
  | false => exact tit_apart (show h.IsTupleIter a a i from x) (show h.IsTuple a items from y) rfl
theorem drawsE {prog : Program} {w : World} {A : Around} (hh : A.handled = none) (ne : a ≠ it) : Draws prog w A it [it, a] items.size (fun i v => items[i]? = some v) (fun i h => ItE l h it a i ∧ HpE l h a items) := by
  cases l with
  | true => exact Draws.list hh it a ne items
  | false => exact Draws.tuple hh it a ne items
theorem beginsE : Begins (.ref a) (objE l a) (fun h => HpE l h a items) := by
  cases l with
  | true => exact begins_list a items
  | false => exact begins_tuple a items
theorem ItE.new (g : h.get? it = some (objE l a)) : ItE l h it a 0 := by
  cases l with
  | true => exact ⟨_, g, rfl, rfl⟩
  | false => exact ⟨_, g, rfl, rfl⟩
end
section
variable {X : Cx} {pins : List (Addr × Obj)} {σ : L2.St} {H : Hp} {s : Shared} {l : Bool} {a : Addr} {xs ys : List V}
theorem seqE (I : Inv X pins σ H s) (h : SqE X.K l H a xs) : ∃ its : List Value, Vals xs its ∧ HpE l s.heap a its.toArray := by
  cases l with
  | true =>
    obtain ⟨its, rv, p, _⟩ := I.list (show SqL X.K H a xs from h)
    exact ⟨its, rv, p.isList⟩
  | false =>
    obtain ⟨its, rv, p, _⟩ := I.tuple (show SqT X.K H a xs from h)
    exact ⟨its, rv, isTuple_of p⟩
theorem injE (I : Inv X pins σ H s) (h1 : SqE X.K l H a xs) (h2 : SqE X.K l H a ys) : xs = ys := by
  cases l with
  | true => exact I.list_inj h1 h2
  | false => exact I.tuple_inj h1 h2
end
/-- both walked together: at each turn a new pair -/
def ItzE (K : PySem.W.Frag) (l1 l2 : Bool) (a b : Addr) : It where
  go := fun i H => ∃ (xs ys : List V) (x y : V), SqE K l1 H a xs ∧ SqE K l2 H b ys ∧ xs[i]? = some x ∧ ys[i]? = some y
  yld := fun i H v H' => ∃ T x y, v = .ref T ∧ H T = none ∧ H' = upd H T (.tup [x, y]) ∧ (∀ xs, SqE K l1 H a xs → xs[i]? = some x) ∧ ∀ ys, SqE K l2 H b ys → ys[i]? = some y
  stop := fun i H => ∃ xs ys : List V, SqE K l1 H a xs ∧ SqE K l2 H b ys ∧ i = min xs.length ys.length
theorem lt_of_get {its : List Value} {i : Nat} {u : Value} (h : its[i]? = some u) : i < its.toArray.size := by
  rw [List.size_toArray]
  exact (List.getElem?_eq_some_iff.mp h).1
theorem turn_zipE {P : Program} {w : World} {K : PySem.W.Frag} {elts : List Expr} {kk : Nat} {tpos : Pos} {l1 l2 : Bool} {a b z TI TO i1 i2 : Addr} (S : ZipSep2 z TI TO i1 i2 [i1, a] [i2, b]) :
    Turn P w K (.Tuple elts kk tpos) (ItzE K l1 l2 a b) [z, TI, TO, i1, i2] z (fun i h => IsZip h z TI TO .none ∧ IsTupOf2 h TI (.ref i1) (.ref i2) ∧ (∃ x y, IsTupOf2 h TO x y) ∧ ItE l1 h i1 a i ∧ ItE l2 h i2 b i) where
  mem := List.mem_cons_self
  obj := by
    rintro i h ⟨hz, hTI, ⟨x, y, hTO⟩, h1, h2⟩ c hc
    simp only [List.mem_cons, List.not_mem_nil, or_false] at hc
    rcases hc with rfl | rfl | rfl | rfl | rfl
    · exact ⟨_, hz, fun v q => nomatch q⟩
    · exact ⟨_, hTI, fun v q => nomatch q⟩
    · exact ⟨_, hTO, fun v q => nomatch q⟩
    · exact h1.there
    · exact h2.there
  keep := by
    rintro i h h' ⟨hz, hTI, ⟨x, y, hTO⟩, h1, h2⟩ k
    exact ⟨k _ (by simp) _ hz, k _ (by simp) _ hTI, ⟨x, y, k _ (by simp) _ hTO⟩, h1.at fun o q => k _ (by simp) o q, h2.at fun o q => k _ (by simp) o q⟩
  item := by
    intro X hP hw hK hc i pins s σ H E I hf st hg
    subst hP hw hK
    obtain ⟨hz, hTI, ⟨x0, y0, hTO⟩, h1, h2⟩ := st
    obtain ⟨xs, ys, x, y, hqx, hqy, hx, hy⟩ := hg
    obtain ⟨its, rv, p⟩ := seqE I hqx
    obtain ⟨its2, rv2, p2⟩ := seqE I hqy
    obtain ⟨u, hu, ru⟩ := rv.get hx
    obtain ⟨u2, hu2, ru2⟩ := rv2.get hy
    have hd : X.A.in1.handled = none := I.ok.hd hc
    have zl : z < s.heap.objs.size := Heap.lt_size hz
    refine wpAny_pyNext_zipD2_item S (drawsE hd (h1.apart p)) (drawsE hd (h2.apart p2)) hz hTI hTO ⟨h1, p⟩ ⟨h2, p2⟩ (lt_of_get hu) (lt_of_get hu2) fun v1 v2 h3 tk e1 e2 z3 TO3 s1 s2 hT hsz hk => ?_
    obtain rfl : v1 = u := by
      rw [List.getElem?_toArray, hu] at e1
      exact (Option.some.inj e1).symm
    obtain rfl : v2 = u2 := by
      rw [List.getElem?_toArray, hu2] at e2
      exact (Option.some.inj e2).symm
    refine ⟨_, rfl, wpAny_letOwnedTupleGo_zip (s := { s with heap := h3, toks := tk }) z3 fun h4 z4 sb => ?_⟩
    have hT4 : h4.get? s.heap.objs.size = some { cls := .type "tuple", data := .seq #[v1, v2] } := (sb.2 _ (Nat.ne_of_gt zl)).trans hT
    have new : ObjOk X.prog X.w (upd H s.heap.objs.size (.tup [x, y])) h4 s.heap.objs.size (.tup [x, y]) := ⟨by show 2 ≤ sizeLine; decide, [v1, v2], .cons ru (.cons ru2 .nil), ⟨_, hT4, rfl, _, rfl⟩⟩
    have kp : ∀ c o, c ∉ [z, TI, TO, i1, i2] → s.heap.get? c = some o → h4.get? c = some o := fun c o hb q => by
      simp only [List.mem_cons, List.not_mem_nil, or_false, not_or] at hb
      exact (sb.2 c hb.1).trans (hk c o hb.1 hb.2.2.1 hb.2.2.2.1 hb.2.2.2.2 q)
    have J : Inv X pins σ (upd H s.heap.objs.size (.tup [x, y])) { s with heap := h4, toks := tk } := I.turnedNew (t' := tk) kp hf (Nat.le_refl _) new
    refine ⟨.ref s.heap.objs.size, _, J, rfl, ⟨_, x, y, rfl, I.hok.fresh (Nat.le_refl _), rfl, fun m hm => ?_, fun m hm => ?_⟩, ⟨z4, ?_, ⟨v1, v2, ?_⟩, ?_, ?_⟩, fun c hcm => ?_⟩
    · rw [injE I hm hqx]
      exact hx
    · rw [injE I hm hqy]
      exact hy
    · exact (sb.2 _ S.TIz).trans (hk _ _ S.TIz S.TITO S.TIi1 S.TIi2 hTI)
    · exact (sb.2 _ S.TOz).trans TO3
    · exact s1.1.at fun o q => (sb.2 _ S.zi1.symm).trans q
    · exact s2.1.at fun o q => (sb.2 _ S.zi2.symm).trans q
    · have lt : c < s.heap.objs.size := by
        obtain ⟨_, g1, _⟩ := h1.there
        obtain ⟨_, g2, _⟩ := h2.there
        have hm := hcm
        simp only [List.mem_cons, List.not_mem_nil, or_false] at hm
        rcases hm with rfl | rfl | rfl | rfl | rfl
        · exact zl
        · exact Heap.lt_size hTI
        · exact Heap.lt_size hTO
        · exact Heap.lt_size g1
        · exact Heap.lt_size g2
      rw [upd_ne (Nat.ne_of_lt lt)]
      exact (hf c hcm).1
  done := by
    intro X hP hw hK hc i pins s σ H E I hf st hg
    subst hP hw hK
    obtain ⟨hz, hTI, ⟨x0, y0, hTO⟩, h1, h2⟩ := st
    obtain ⟨xs, ys, hqx, hqy, hend⟩ := hg
    obtain ⟨its, rv, p⟩ := seqE I hqx
    obtain ⟨its2, rv2, p2⟩ := seqE I hqy
    have n1 : its.toArray.size = xs.length := by rw [List.size_toArray, rv.length]
    have n2 : its2.toArray.size = ys.length := by rw [List.size_toArray, rv2.length]
    have hd : X.A.in1.handled = none := I.ok.hd hc
    refine wpAny_pyNext_zipD2_end S (drawsE hd (h1.apart p)) (drawsE hd (h2.apart p2)) hz hTI hTO ⟨h1, p⟩ ⟨h2, p2⟩ (by omega) (by omega) (by omega) fun h3 tk hk => ⟨rfl, I.turnedL (t' := tk) (fun c o hb q => ?_) hf⟩
    simp only [List.mem_cons, List.not_mem_nil, or_false, not_or] at hb
    exact hk c o hb.1 hb.2.2.1 hb.2.2.2.1 hb.2.2.2.2 q
  self := fun A i s Q E st h => wpAny_pyIter_zip st.1 h
def iZipE (K : PySem.W.Frag) (ta : TA) : TI := fun σ H R => ta σ H fun vs H1 => ∃ l1 l2 a b xs ys, vs = [.ref a, .ref b] ∧ SqE K l1 H1 a xs ∧ SqE K l2 H1 b ys ∧ R (ItzE K l1 l2 a b) H1
theorem HpE.lt {l : Bool} {h : Heap} {a : Addr} {items : Array Value} (x : HpE l h a items) : a < h.objs.size := by
  cases l with
  | true =>
    obtain ⟨o, g, _⟩ := (show h.IsList a items from x)
    exact Heap.lt_size g
  | false =>
    obtain ⟨o, g, _⟩ := (show h.IsTuple a items from x)
    exact Heap.lt_size g
theorem call_of_zip {X : Cx} {elts : List Expr} {kk : Nat} {tpos : Pos} {pins : List (Addr × Obj)} {σ : L2.St} {H : Hp} {s : Shared} {R : It → Hp → Prop} {l1 l2 : Bool} {a b : Addr} {i1 i2 : Array Value} (I : Inv X pins σ H s)
    (p1 : HpE l1 s.heap a i1) (p2 : HpE l2 s.heap b i2) (q : R (ItzE X.K l1 l2 a b) H) :
    wpAny (model X.prog X.w) X.A (call (.type "zip") [.ref a, .ref b]) (fun v s2 => wpAny (model X.prog X.w) X.A (pyIter v) (PIE X pins σ (.Tuple elts kk tpos) R) X.xe s2) X.xe s := by
  refine zip_begins2 beginsE beginsE p1 p2 fun h1 hz hTI hTO g1 g2 _ hk => wpAny_pyIter_zip hz ?_
  have sep : ZipSep2 (s.heap.objs.size + 4) (s.heap.objs.size + 2) (s.heap.objs.size + 3) s.heap.objs.size (s.heap.objs.size + 1) [s.heap.objs.size, a] [s.heap.objs.size + 1, b] :=
    zip_sep2 (fun c hc => by rw [List.mem_singleton.mp hc]; exact p1.lt) (fun c hc => by rw [List.mem_singleton.mp hc]; exact p2.lt)
  refine ⟨s.heap.objs.size + 4, [s.heap.objs.size + 4, s.heap.objs.size + 2, s.heap.objs.size + 3, s.heap.objs.size, s.heap.objs.size + 1], _, _, H, rfl, I.kept (t' := s.toks) hk, turn_zipE sep, ⟨hz, hTI, ⟨_, _, hTO⟩, .new g1, .new g2⟩, fun c hc => ?_, q⟩
  have le : s.heap.objs.size ≤ c := by
    simp only [List.mem_cons, List.not_mem_nil, or_false] at hc
    rcases hc with rfl | rfl | rfl | rfl | rfl
    all_goals first | exact Nat.le_refl _ | exact Nat.le_add_right _ _
  exact I.fpOk le (I.hok.fresh le)
theorem pi_zipE {X : Cx} {e e2 : Expr} {ta : TA} {p pos tpos : Pos} {elts : List Expr} {kk : Nat} (hg : Gl X "zip") (hm : X.mg "zip" = none) (ha : PA X [e, e2] ta)
    (hs : starEach [e, e2] X.env = (false, eval e X.env) :: starEach [e2] X.env := by rfl) (hpl : (backTo pos (starEach [e2] X.env)).any (·.1) = false := by rfl) :
    PI X (.Tuple elts kk tpos) (.Call (.Name "zip" p) [e, e2] [] pos) (iZipE X.K ta) := by
  constructor
  intro pins s σ H R I h
  refine Call_ (ld_blt I hg hm PyProof.Rows.boot_zip (PyProof.Rows.callWith_type1 (thn (ha.run pos pins s σ H _ I h) fun us s1 ⟨vs, H1, I1, r1, l1, l2, a, b, xs, ys, ex, hx, hy, q⟩ => ?_) hs hpl))
  subst ex
  obtain ⟨u1, u2, rfl, r1, r2⟩ := vals2 r1
  cases r1
  cases r2
  obtain ⟨i1, _, p1⟩ := seqE I1 hx
  obtain ⟨i2, _, p2⟩ := seqE I1 hy
  exact call_of_zip I1 p1 p2 q
theorem walk_zipE {K : PySem.W.Frag} {l1 l2 : Bool} {a b : Addr} {xs ys : List V} {n : Nat} (hn : n = min xs.length ys.length) :
    Walk (ItzE K l1 l2 a b) n (fun H => SqE K l1 H a xs ∧ SqE K l2 H b ys) (YPair (fun i => xs[i]?) (fun i => ys[i]?)) where
  goes := fun i H hi q => by
    have h1 : i < xs.length := by omega
    have h2 : i < ys.length := by omega
    exact ⟨xs, ys, xs[i], ys[i], q.1, q.2, List.getElem?_eq_getElem h1, List.getElem?_eq_getElem h2⟩
  stops := fun H q => ⟨xs, ys, q.1, q.2, hn⟩
  yields := by
    rintro i H v H' _ q ⟨T, x, z, h1, h2, h3, h4, h5⟩
    exact ⟨T, x, z, h1, h2, h3, h4 xs q.1, h5 ys q.2⟩
theorem walk_enumT {K : PySem.W.Frag} {a : Addr} {xs : List V} : Walk (IteT K a) xs.length (fun H => SqT K H a xs) (YPair (fun i => some (.int (i : Nat))) (fun i => xs[i]?)) where
  goes := fun i H hi q => ⟨xs, xs[i], q, List.getElem?_eq_getElem hi⟩
  stops := fun H q => ⟨xs, q, rfl⟩
  yields := by
    rintro i H v H' _ q ⟨T, x, h1, h2, h3, h4⟩
    exact ⟨T, _, x, h1, h2, h3, rfl, h4 xs q⟩
end Gd

set_option Elab.async false
set_option linter.all false
set_option maxRecDepth 100000
set_option maxHeartbeats 4000000
/-! t[::-1], t a tuple. -/
namespace HN5
open PySem PySem.Spec PyProof.Rows PySem.SeqAt
section
variable {prog : Program} {w : World} {A : Around} {E : Value → Shared → Prop} {s : Shared}
theorem slice_rev {sl : Addr} {vl vu vs : Value} {n : Nat} {Q : Int × Int × Nat → Shared → Prop} (hs : s.heap.IsSliceOf sl vl vu vs) (pl : IsPart vl none) (pu : IsPart vu none) (ps : IsPart vs (some (-1)))
    (h : Q ((n : Int) - 1, -1, n) s) : wpAny (model prog w) A (Builtin.Slice.sliceApplied (.ref sl) (pure (n : Int))) Q E s := by
  obtain ⟨os, hos, hcs, hds⟩ := id hs
  cases pl
  cases pu
  cases ps with
  | int i t =>
  unfold Builtin.Slice.sliceApplied Builtin.Slice.sliceFields
  refine wpAny_bind (wpAny_bind (wpAny_field hos hds (x := .none) rfl (wpAny_bind (wpAny_field hos hds (x := .none) rfl (wpAny_bind (wpAny_field hos hds (x := .int (-1) t) rfl (wpAny_pure ?_)))))))
  refine wpAny_bind (HT.slicePart_ (.int (-1) t) ?_)
  show wpAny _ _ (if (((-1) : Int) == 0) = true then _ else _) _ _ s
  rw [if_neg (by decide)]
  refine wpAny_bind (HT.slicePart_ .none (wpAny_bind (HT.slicePart_ .none (wpAny_bind (wpAny_pure ?_)))))
  show wpAny _ _ (pure ((n : Int) - 1, (-1 : Int), Builtin.Slice.slicePlaces ((n : Int) - 1) (-1) (-1))) _ _ s
  have e : Builtin.Slice.slicePlaces ((n : Int) - 1) (-1) (-1) = n := by
    unfold Builtin.Slice.slicePlaces
    rw [if_neg (by decide)]
    by_cases z : n = 0
    · subst z
      rfl
    · rw [if_pos (by omega)]
      simp
  rw [e]
  exact wpAny_pure h
theorem pick_rev (items : Array Value) : ((List.range items.size).filterMap fun (m : Nat) => items[((items.size : Int) - 1 + (m : Int) * (-1)).toNat]?).toArray = items.toList.reverse.toArray := by
  congr 1
  have e : ∀ m, m < items.size → items[((items.size : Int) - 1 + (m : Int) * (-1)).toNat]? = items.toList.reverse[m]? := fun m hm => by
    rw [List.getElem?_reverse (by rw [Array.length_toList]; exact hm), Array.length_toList, Array.getElem?_toList]
    congr 1
    omega
  have f : ∀ l : List Nat, (∀ m ∈ l, m < items.size) → l.filterMap (fun (m : Nat) => items[((items.size : Int) - 1 + (m : Int) * (-1)).toNat]?) = l.filterMap (fun m => items.toList.reverse[m]?) := by
    intro l hl
    induction l with
    | nil => rfl
    | cons a r ih => rw [List.filterMap_cons, List.filterMap_cons, e a (hl a List.mem_cons_self), ih fun m hm => hl m (List.mem_cons_of_mem _ hm)]
  rw [f _ fun m hm => List.mem_range.mp hm]
  have g : ∀ (xs : List Value), (List.range xs.length).filterMap (fun m => xs[m]?) = xs := by
    intro xs
    induction xs with
    | nil => rfl
    | cons a r ih =>
      rw [List.length_cons, List.range_succ_eq_map, List.filterMap_cons, List.filterMap_map]
      show a :: List.filterMap (fun m => r[m]?) (List.range r.length) = a :: r
      rw [ih]
  have := g items.toList.reverse
  rw [List.length_reverse, Array.length_toList] at this
  exact this
theorem rev_tup {t sl : Addr} {items : Array Value} {vl vu vs : Value} {Q : Value → Shared → Prop} (ht : IsTup s.heap t items) (hs : s.heap.IsSliceOf sl vl vu vs) (pl : IsPart vl none) (pu : IsPart vu none) (ps : IsPart vs (some (-1)))
    (h : Q (.ref s.heap.objs.size) { s with heap := s.heap.push { cls := .type "tuple", data := .seq items.toList.reverse.toArray } }) (hsz : items.size ≤ sizeLine) : wpAny (model prog w) A (getItem (.ref t) (.ref sl)) Q E s := by
  have small : sizeOk (.seq items.toList.reverse.toArray) := by
    show items.toList.reverse.toArray.size ≤ sizeLine
    rw [List.size_toArray, List.length_reverse, Array.length_toList]
    exact hsz
  obtain ⟨os, hos, hcs, hds⟩ := id hs
  have isl : s.TypeIs (.ref sl) "slice" := ⟨os, hos, hcs⟩
  unfold getItem
  try with_reducible refine wpAny_holding ?_
  first | refine wpAny_bind (wpAny_pure ?_) | skip
  refine wpAny_bind (wpAny_sequenceKey ht.typeIs (by decide) (wpAny_bind (wpAny_callSpecial?_slot (name := Str.ofString "__getitem__") ht.typeIs PyProof.Rows.slot_tuple_getitem (wpAny_call_entry PyProof.Rows.slot_tuple_getitem ht.typeIs entry_tuple_getitem ?_ (args_tuple_getitem _ _)))))
  show wpAny _ _ (Builtin.Tuple.tupleItemsOf (.ref t) >>= _) _ _ s
  refine wpAny_bind (PyProof.Rows.tupleItemsOf_ ht (wpAny_bind (wpAny_typeOf isl ?_)))
  rw [if_pos (by decide)]
  refine wpAny_bind (slice_rev hs pl pu ps ?_)
  show wpAny _ _ (if ((((items.size : Int) - 1) == 0 && (-1 : Int) == 1 && items.size == items.size)) = true then _ else _) _ _ s
  rw [if_neg (by simp), pick_rev]
  first
    | exact wpAny_bind (m := Builtin.Tuple.tupleExact _) (wpAny_newObj_type (wpAny_pure ⟨_, rfl, wpAny_pure h⟩) small)
    | exact wpAny_bind (wpAny_bind (m := Builtin.Tuple.tupleExact _) (wpAny_newObj_type (wpAny_pure (wpAny_pure ⟨_, rfl, wpAny_pure h⟩)) small))
    | exact wpAny_bind (m := Builtin.Tuple.tupleExact _) (wpAny_newObj_type (wpAny_bind (wpAny_pure (wpAny_pure ⟨_, rfl, wpAny_pure h⟩))) small)
    | exact wpAny_bind (wpAny_bind (m := Builtin.Tuple.tupleExact _) (wpAny_newObj_type (wpAny_pure ⟨_, rfl, wpAny_pure h⟩) small))
end
end HN5
namespace Gd
open PySem PySem.Spec PyProof.Rows L2
section
variable {X : Cx}
def tRevT (K : PySem.W.Frag) (te : TE) : TE := fun σ H Q => te σ H fun x H1 => ∃ a xs, x = .ref a ∧ SqT K H1 a xs ∧ ∀ p, H1 p = none → Q (.ref p) (upd H1 p (.tup xs.reverse))
theorem pe_revT {e : Expr} {te : TE} {k : Nat} {p1 p2 p3 pos : Pos} (he : PE X e te) : PE X (.Subscript e (.Slice none none (some (.UnaryOp .USub (.Constant (.int 1) k p1) p2)) p3) pos) (tRevT X.K te) := by
  constructor
  intro pins s σ H Q I h
  refine Subscript_ (thn (he.run pins s σ H _ I h) fun v s1 ⟨x, H1, I1, r1, a, xs, ex, hx, q⟩ => ?_)
  subst ex
  cases r1
  have step : PO X (some (.UnaryOp .USub (.Constant (.int 1) k p1) p2)) (tPart (tUn (rU fun i => .int (-i)) (tC (.int 1)))) := po_some (pe_un un_neg pe_int)
  refine wpAny_Slice (thn (po_none.run pins s1 σ H1 (fun o G => o = none ∧ G = H1) I1 ⟨rfl, rfl⟩) fun vl s2 ⟨l, G, I2, pl, el, eG⟩ => ?_)
  subst el eG
  refine thn (po_none.run pins s2 σ G (fun o G2 => o = none ∧ G2 = G) I2 ⟨rfl, rfl⟩) fun vu s3 ⟨u, G2, I3, pu, eu, eG2⟩ => ?_
  subst eu eG2
  refine thn (step.run pins s3 σ G2 (fun o G3 => o = some (-1) ∧ G3 = G2) I3 ⟨1, rfl, -1, rfl, rfl, rfl⟩) fun vs s4 ⟨o, G3, I4, ps, eo, eG3⟩ => ?_
  subst eo eG3
  let sh : Shared := { s4 with heap := s4.heap.push { cls := .type "slice", data := .fields #[vl, vu, vs] } }
  have J : Inv X pins σ G3 sh := I4.kept (t' := s4.toks) fun b ob z => Heap.get?_push_of_some _ z
  obtain ⟨its, r, ht, hz⟩ := J.tuple hx
  have hlen := r.length
  show wpAny (model X.prog X.w) X.A (subscriptTail e (.Slice none none (some (.UnaryOp .USub (.Constant (.int 1) k p1) p2)) p3) (.ref a) (.ref s4.heap.objs.size)) (EP X pins σ Q) X.xe sh
  refine tail_any (ops := [.ref a, .ref s4.heap.objs.size]) ht.typeIs (PyProof.Rows.slot_tuple_getitem.lookup) ?_ (by with_unfolding_all rfl)
  refine HN5.rev_tup ht (Heap.IsSliceOf.new _ vl vu vs) pl pu ps ?_ (by rw [List.size_toArray]; omega)
  refine ⟨.ref _, _, J.laid (t' := s4.toks) (o := .tup xs.reverse) (fun b ob z => Heap.get?_push_of_some _ z) (Nat.le_refl _) ?_, rfl, q _ (J.hok.fresh (Nat.le_refl _))⟩
  exact ⟨by rw [List.length_reverse]; exact hz, _, r.reverse, ⟨_, Heap.get?_push_size _ rfl, rfl, _, rfl⟩⟩
end
end Gd

set_option Elab.async false
set_option linter.all false
set_option maxRecDepth 100000
set_option maxHeartbeats 4000000
/-! + - * of own classes, with an own object or an integer at the right; - of one. -/
namespace HN3
open PySem PySem.Spec PyProof.Rows PySem.SeqAt
section
variable {prog : Program} {w : World} {A : Around} {E : Value → Shared → Prop} {s : Shared} {K : PySem.W.Frag} {x C f : Addr} {ox : Obj} {od : Option Obj}
theorem name_there {M : Model} {h : Heap} {nm : String} (X : K.In h) (hs : PySem.W.findIn K (.ref C) (PySem.dunder nm) = some (some (.ref f))) (hr : PySem.W.findIn K (.ref C) (PySem.dunderR nm) = some none) :
    PySem.W.Looks M h (numberSlotInPython (.ref C) nm) true := by
  intro A Q E s k q
  unfold numberSlotInPython
  refine wpAny_bind (PySem.W.looks_findIn X hs A _ E s k ?_)
  refine wpAny_bind (wpAny_pure ?_)
  refine wpAny_bind (PySem.W.looks_findIn X hr A _ E s k ?_)
  refine wpAny_bind (wpAny_pure ?_)
  exact wpAny_pure q
theorem binop1_int {nm : String} {n : Int} {t : Tok} {z : Value} {Q : Value → Shared → Prop} (X : K.In s.heap) (I : PySem.W.InstAt s.heap x ox C od) (hc : PySem.W.selfFirst K C = true)
    (hs : PySem.W.findIn K (.ref C) (PySem.dunder nm) = some (some (.ref f))) (hrn : PySem.W.findIn K (.ref C) (PySem.dunderR nm) = some none) (hf : PySem.W.isFn K (.ref f) = true)
    (fi : fillsNumberSlot (.type "int") nm = pure true) (hsub : PySem.W.subIn K (.type "int") (.ref C) = some false) (hz : typeLookup (.type "int") (PySem.dunderR nm) = pure (some z))
    (h : wpAny (model prog w) A (call (.ref f) [.ref x, .int n t]) (PySem.W.CmpBack Q) E s) : wpAny (model prog w) A (binaryOp1 nm (.ref x) (.int n t)) (fun r s' => ∃ v, r = some v ∧ Q v s') E s := by
  obtain ⟨cd, hcd, hm⟩ := PySem.W.any_some hc
  obtain ⟨rest, hm⟩ : ∃ rest, cd.mro = .ref C :: rest := by
    cases q : cd.mro with
    | nil => rw [q] at hm; cases hm
    | cons a r => rw [q] at hm; exact ⟨r, by rw [List.head?_cons] at hm; cases (beq_iff_eq.mp hm); rfl⟩
  unfold binaryOp1
  refine wpAny_bind (I.type.here ?_)
  refine wpAny_bind (wpAny_of_eq (a := Value.type "int") rfl ?_)
  refine wpAny_bind ((PySem.W.fills_K X hcd hm hs).here ?_)
  have e : (Value.ref C == Value.type "int") = false := rfl
  rw [e]
  simp only [Bool.false_eq_true, if_false]
  refine wpAny_bind (wpAny_of_eq fi ?_)
  simp only [Bool.and_self, if_true]
  refine wpAny_bind ((PySem.W.looks_subIn X hsub).here ?_)
  simp only [Bool.false_eq_true, if_false]
  refine wpAny_bind ((name_there X hs hrn).here ?_)
  simp only [if_true]
  refine wpAny_bind (wpAny_of_eq (a := false) rfl ?_)
  simp only [Bool.not_false, if_true]
  refine wpAny_bind (wpAny_of_eq hz ?_)
  refine wpAny_bind (m := tryMethod (.ref x) _ (.int n t)) ?_
  unfold tryMethod
  refine wpAny_bind (PySem.W.special_fn X I hs (beq_iff_eq.mp hf) (wpAny_mono h (fun v s' hv => ?_) fun _ _ e => e))
  cases v <;> first | exact hv.elim | exact wpAny_pure (wpAny_pure ⟨_, rfl, hv⟩)
theorem binop_int {op : Operator} {n : Int} {t : Tok} {z : Value} {Q : Value → Shared → Prop} (X : K.In s.heap) (I : PySem.W.InstAt s.heap x ox C od) (hc : PySem.W.selfFirst K C = true)
    (hs : PySem.W.findIn K (.ref C) (PySem.dunder op.info.2) = some (some (.ref f))) (hrn : PySem.W.findIn K (.ref C) (PySem.dunderR op.info.2) = some none) (hf : PySem.W.isFn K (.ref f) = true)
    (fi : fillsNumberSlot (.type "int") op.info.2 = pure true) (hsub : PySem.W.subIn K (.type "int") (.ref C) = some false) (hz : typeLookup (.type "int") (PySem.dunderR op.info.2) = pure (some z))
    (h : wpAny (model prog w) A (call (.ref f) [.ref x, .int n t]) (PySem.W.CmpBack Q) E s) : wpAny (model prog w) A (binaryOp op (.ref x) (.int n t)) Q E s := by
  unfold binaryOp
  refine wpAny_holding (wpAny_bind (wpAny_mono (binop1_int X I hc hs hrn hf fi hsub hz h) (fun r s' hr => ?_) fun _ _ e => e))
  obtain ⟨v, rfl, q⟩ := hr
  exact wpAny_pure q
theorem neg_own {Q : Value → Shared → Prop} (X : K.In s.heap) (I : PySem.W.InstAt s.heap x ox C od)
    (hs : PySem.W.findIn K (.ref C) "__neg__" = some (some (.ref f))) (hf : PySem.W.isFn K (.ref f) = true)
    (h : wpAny (model prog w) A (call (.ref f) [.ref x]) Q E s) : wpAny (model prog w) A (unaryOp .USub (.ref x)) Q E s := by
  unfold unaryOp
  refine wpAny_holding ?_
  dsimp only
  rw [if_neg (by decide)]
  exact wpAny_bind (PySem.W.special_fn X I hs (beq_iff_eq.mp hf) (wpAny_mono h (fun v s' hv => wpAny_pure hv) fun _ _ e => e))
end
end HN3

namespace Gd
open PySem PySem.Spec PyProof.Rows L2
section
variable {X : Cx} {CX : CXT} {k : Nat} {f C : Addr} {fd : FuncData} {ps : List Str} {sp : Sp}
/-- what an operator of an own class asks of the class: m its method, r the name of the turned one, which nobody has -/
structure BinC (K : PySem.W.Frag) (C : Addr) (m r : Str) (f : Addr) : Prop where
  sf : PySem.W.selfFirst K C = true
  at_ : Meth K C m f
  rn : PySem.W.findIn K (.ref C) r = some none
/-- x OP y by the own method of x's class, y of that class or an integer; what it gives is an object -/
def rBinO (C : Addr) (sp : Sp) (E : XK) : R2 := fun x y H Q => ∃ p dx fs, x = .ref p ∧ H p = some (.ins C dx fs) ∧
  ((∃ q dy gs, y = .ref q ∧ H q = some (.ins C dy gs)) ∨ ∃ n, y = .int n) ∧ sp [x, y] H (fun v H' => (∃ q, v = .ref q) ∧ Q v H') E
theorem op_binO {op : Operator} {m r : Str} {z : Value} {E : XK} (e1 : PySem.dunder op.info.2 = m) (e2 : PySem.dunderR op.info.2 = r) (fi : fillsNumberSlot (.type "int") op.info.2 = pure true) (hz : typeLookup (.type "int") r = pure (some z))
    (B : BinC X.K C m r f) (F : FnOk X.prog X.w X.K X.mg X.base CX k f fd ps sp) (hr : Room (k + 1) X.A) (hb : Binds X.K fd ps []) (hx : ∀ σ, PassesAt CX X σ E) : OpR X (binaryOp op) (rBinO C sp E) := by
  subst e1 e2
  intro pins s σ H x y v u Q I rx ry h
  obtain ⟨p, dx, fs, rfl, ep, hy, hsp⟩ := h
  cases rx
  obtain ⟨od, J⟩ := seen I ep
  obtain ⟨m, hF⟩ := I.fr
  have run := wpAny_mono (runAt (.inl rfl) F hr hb .nil (hx σ) I (.cons (show RelV (V.ref p) (Value.ref p) from rfl) (.cons ry .nil)) hsp) (Q' := PySem.W.CmpBack (EP X pins σ Q)) (fun w s' hw => by
    obtain ⟨z, H', I', rz, ⟨q, rfl⟩, hq⟩ := hw
    cases rz
    exact ⟨.ref q, H', I', rfl, hq⟩) (fun _ _ z => z)
  rcases hy with ⟨q, dy, gs, rfl, eq⟩ | ⟨n, rfl⟩
  · cases ry
    obtain ⟨od2, J2⟩ := seen I eq
    exact PySem.W.binop_K hF I.ok.mod.kin J J2.type B.sf B.at_.at_ B.at_.fn run
  · obtain ⟨t, rfl⟩ := ry
    exact HN3.binop_int I.kIn J B.sf B.at_.at_ B.rn B.at_.fn fi (by kernel_rfl) hz run
theorem op_addO {E : XK} (B : BinC X.K C "__add__" "__radd__" f) (F : FnOk X.prog X.w X.K X.mg X.base CX k f fd ps sp) (hr : Room (k + 1) X.A) (hb : Binds X.K fd ps []) (hx : ∀ σ, PassesAt CX X σ E) : OpR X (binaryOp .Add) (rBinO C sp E) :=
  op_binO (op := .Add) (z := .builtin "int.__radd__") (by kernel_rfl) (by kernel_rfl) PySem.F.fills_int_add (by rw [typeLookup_type, builtinLookup_eq_fast]; kernel_rfl) B F hr hb hx
theorem op_subO {E : XK} (B : BinC X.K C "__sub__" "__rsub__" f) (F : FnOk X.prog X.w X.K X.mg X.base CX k f fd ps sp) (hr : Room (k + 1) X.A) (hb : Binds X.K fd ps []) (hx : ∀ σ, PassesAt CX X σ E) : OpR X (binaryOp .Sub) (rBinO C sp E) :=
  op_binO (op := .Sub) (z := .builtin "int.__rsub__") (by kernel_rfl) (by kernel_rfl) PySem.F.fills_int_sub (by rw [typeLookup_type, builtinLookup_eq_fast]; kernel_rfl) B F hr hb hx
theorem op_mulO {E : XK} (B : BinC X.K C "__mul__" "__rmul__" f) (F : FnOk X.prog X.w X.K X.mg X.base CX k f fd ps sp) (hr : Room (k + 1) X.A) (hb : Binds X.K fd ps []) (hx : ∀ σ, PassesAt CX X σ E) : OpR X (binaryOp .Mult) (rBinO C sp E) :=
  op_binO (op := .Mult) (z := .builtin "int.__rmul__") (by kernel_rfl) (by kernel_rfl) PySem.F.fills_int_mul (by rw [typeLookup_type, builtinLookup_eq_fast]; kernel_rfl) B F hr hb hx
/-- -x by the own method -/
def rNegO (C : Addr) (sp : Sp) (E : XK) : V → Hp → VK → Prop := fun x H Q => ∃ p dx fs, x = .ref p ∧ H p = some (.ins C dx fs) ∧ sp [x] H Q E
theorem un_negO {E : XK} (M : Meth X.K C "__neg__" f) (F : FnOk X.prog X.w X.K X.mg X.base CX k f fd ps sp) (hr : Room (k + 1) X.A) (hb : Binds X.K fd ps []) (hx : ∀ σ, PassesAt CX X σ E) : UnR X (unaryOp .USub) (rNegO C sp E) := by
  intro pins s σ H x v Q I rx h
  obtain ⟨p, dx, fs, rfl, ep, hsp⟩ := h
  cases rx
  obtain ⟨od, J⟩ := seen I ep
  exact HN3.neg_own I.kIn J M.at_ M.fn (runAt (.inl rfl) F hr hb .nil (hx σ) I (.cons (show RelV (V.ref p) (Value.ref p) from rfl) .nil) hsp)
end
end Gd

set_option Elab.async false
set_option linter.all false
set_option maxRecDepth 100000
set_option maxHeartbeats 4000000
/-! Readings by name, for the bodies of comprehensions. -/
namespace Gd
open PySem PySem.Spec PyProof.Rows L2
def rLenS (K : PySem.W.Frag) : List V → Hp → VK → Prop := fun xs H Q => ∃ p ys, xs = [.ref p] ∧ (SqL K H p ys ∨ SqT K H p ys) ∧ Q (.int (ys.length : Int)) H
def rListOf (K : PySem.W.Frag) : List V → Hp → VK → Prop := fun xs H Q => ∃ p ys, xs = [.ref p] ∧ (SqL K H p ys ∨ SqT K H p ys) ∧ ∀ l, H l = none → Q (.ref l) (upd H l (.lst ys))
def rTupOf (K : PySem.W.Frag) : List V → Hp → VK → Prop := fun xs H Q => ∃ p ys, xs = [.ref p] ∧ ((SqL K H p ys ∧ ∀ l, H l = none → Q (.ref l) (upd H l (.tup ys))) ∨ (SqT K H p ys ∧ Q (.ref p) H))
theorem call_lenS {X : Cx} : CallR X (.builtin "len") (rLenS X.K) := call_len_seq
theorem call_listS {X : Cx} : CallR X (.type "list") (rListOf X.K) := call_list_of
theorem call_tupS {X : Cx} : CallR X (.type "tuple") (rTupOf X.K) := call_tuple_of
end Gd

set_option Elab.async false
set_option linter.all false
set_option maxRecDepth 100000
set_option maxHeartbeats 4000000
/-! repr of (text, {}). -/
namespace Gd
open PySem PySem.Spec PyProof.Rows L2
def rReprE (K : PySem.W.Frag) : List V → Hp → VK → Prop := fun xs H Q => ∃ a w e, xs = [.ref a] ∧ SqT K H a [.str w, .ref e] ∧ H e = some (.dK []) ∧
  (PyData.tuple [.str w, .dict []]).showable = true ∧ (PyData.tuple [.str w, .dict []]).shown.length ≤ sizeLine ∧ Q (.str (PyData.tuple [.str w, .dict []]).shown) H
/-- as data without a dict, or as that pair -/
def rReprX (K : PySem.W.Frag) : List V → Hp → VK → Prop := fun xs H Q => rRepr K xs H Q ∨ rReprE K xs H Q
theorem call_reprX {X : Cx} (hg : NoG X.A) (hu : X.A.units + 64 < cLine) : CallR X (.builtin "repr") (rReprX X.K) := by
  intro pins s σ H xs us Q I r h
  rcases h with h | ⟨a, w, e, rfl, hs, he, h1, h4, q⟩
  · exact call_repr hg hu pins s σ H xs us Q I r h
  obtain ⟨u, rfl, hu1⟩ := vals1 r
  cases hu1
  obtain ⟨its, rv, ⟨o, ho, hc, n, hd⟩, _⟩ := I.tuple hs
  obtain ⟨_, hsm, vs, kv, od, es, ep, e1, e2, e3, e4, e5, _⟩ : ([] : List (Key × V)).length ≤ sizeLine ∧ (e == sysModules) = false ∧ ∃ vs, KV [] vs ∧ s.heap.DictOf (mixKind X.prog X.w) e vs := I.hok e _ he
  cases kv
  have es0 : es.toList = [] := by
    generalize es.toList = l at e5
    cases e5
    rfl
  have rdE : Reads s.heap (.ref e) (.dict []) (e :: [] ++ []) := Reads.dict e1 e2.1 e3 (by rw [es0]; exact ReadsAll.nil) (by rw [es0]; exact ReadsAll.nil)
  obtain ⟨i1, i2, rfl, r1, r2⟩ := vals2 rv
  obtain ⟨t, rfl⟩ := r1
  cases r2
  have rd : Reads s.heap (.ref a) (.tuple [.str w, .dict []]) ([] ++ ((e :: [] ++ []) ++ [])) := Reads.tuple ho hc hd (ReadsAll.cons (Reads.str w t) (ReadsAll.cons rdE ReadsAll.nil))
  refine repr_of_reads' rd h1 (fun _ hm => ?_) hg (by have : (PyData.tuple [PyData.str w, PyData.dict []]).depth ≤ 5 := (by simp [PyData.depth, PyData.depthAll, PyData.depthKv]); omega) (fun _ _ e => e) (fun h' u tk hk => ?_) h4
  · simp at hm
    rw [← hm] at hsm
    simp at hsm
  · exact ⟨.str _, H, I.kept hk, ⟨u, rfl⟩, q⟩
def rReprB : List V → Hp → VK → Prop := fun xs H Q => ∃ b : Bool, xs = [.bl b] ∧ Q (.str (if b then "True" else "False")) H
theorem call_reprB {X : Cx} : CallR X (.builtin "repr") rReprB := by
  intro pins s σ H xs us Q I r h
  obtain ⟨b, rfl, q⟩ := h
  obtain ⟨u, rfl, hu1⟩ := vals1 r
  cases hu1
  exact PySem.P.repr_of_bool ⟨.str _, H, I.tok _, ⟨_, rfl⟩, q⟩
end Gd

set_option Elab.async false
set_option linter.all false
set_option maxRecDepth 100000
set_option maxHeartbeats 4000000
/-! o(x), o of an own class with a __call__. -/
namespace HN6
open PySem PySem.Spec PyProof.Rows PySem.SeqAt
section
variable {M : Model} {A : Around} {E : Value → Shared → Prop} {s : Shared} {env : Env} {pos : Pos} {x : Addr} {Q : Value → Shared → Prop}
/-- the callee is an object with a dict of its own, wherever the arguments lead -/
theorem callWith_obj {e : Expr} {rest : List Expr} (h : wpAny M A (spliced (backTo pos (starEach (e :: rest) env))) (fun vs s1 => (∃ C ox od, PySem.W.InstAt s1.heap x ox C od ∧ ox.data = .plain) ∧ wpAny M A (call (.ref x) vs) Q E s1) E s)
    (he : starEach (e :: rest) env = (false, eval e env) :: starEach rest env := by rfl) (hplain : (backTo pos (starEach rest env)).any (·.1) = false := by rfl) :
    wpAny M A (callWith pos (.ref x) [] (backTo pos (starEach (e :: rest) env)) []) Q E s := by
  rw [he] at h ⊢
  have none' : ((backTo pos ((false, eval e env) :: starEach rest env)).any (·.1) || ([] : List (Option Str × Sem Value)).any (·.1.isNone)) = false := by
    show ((false || (backTo pos (starEach rest env)).any (·.1)) || false) = false
    rw [hplain]
    rfl
  have args := PySem.Calls.evalArgs_plain (f := .ref x) (Q := fun a s1 => (∃ C ox od, PySem.W.InstAt s1.heap x ox C od ∧ ox.data = .plain) ∧ wpAny M A (call (.ref x) ([] ++ a.pos) a.kw) Q E s1) h
  unfold callWith
  refine wpAny_bind (wpAny_holding (wpAny_mono args (fun a s1 ha => wpAny_bind (wpAny_standAt ?_)) fun _ _ z => z))
  obtain ⟨⟨C, ox, od, I, hd⟩, go⟩ := ha
  simp only [none']
  refine wpAny_bind ((PySem.W.kco_keeper (M := M) I hd).here (wpAny_bind (wpAny_operateT ?_)))
  exact wpAny_mono go (fun r s2 hr => wpAny_bind (wpAny_holding (wpAny_point (wpAny_pure hr)))) fun _ _ z => z
end
end HN6
namespace Gd
open PySem PySem.Spec PyProof.Rows L2
section
variable {X : Cx} {CX : CXT} {k : Nat} {f C : Addr} {fd : FuncData} {ps : List Str} {sp : Sp} {E : L2.St → XK} {e fe : Expr} {es : List Expr} {t : TA} {tf : TE} {pos : Pos}
def tCallO (C : Addr) (sp : Sp) (E : L2.St → XK) (tf : TE) (t : TA) : TE := fun σ H Q => tf σ H fun x H1 => ∃ p, x = .ref p ∧ t σ H1 fun vs H2 => ∃ dx fs, H2 p = some (.ins C dx fs) ∧ sp (.ref p :: vs) H2 Q (E σ)
theorem pe_callO (hm : Meth X.K C "__call__" f) (hfn : PySem.W.fnIn X.K f = true) (F : FnOk X.prog X.w X.K X.mg X.base CX k f fd ps sp) (hr : Room (k + 1) X.A) (hb : Binds X.K fd ps []) (hx : ∀ σ, PassesAt CX X σ (E σ)) (hf : PE X fe tf) (ha : PA X (e :: es) t)
    (he : eval (.Call fe (e :: es) [] pos) X.env = (do callWith pos (← eval fe X.env) [] (backTo pos (starEach (e :: es) X.env)) (backToKw pos (keywordEach [] X.env))) := by rfl)
    (h1 : starEach (e :: es) X.env = (false, eval e X.env) :: starEach es X.env := by rfl) (h2 : (backTo pos (starEach es X.env)).any (·.1) = false := by rfl) :
    PE X (.Call fe (e :: es) [] pos) (tCallO C sp E tf t) := by
  constructor
  intro pins s σ H Q I h
  refine Call_ (thn (hf.run pins s σ H _ I h) fun u s1 ⟨x, H1, I1, rx, p, ex, q1⟩ => ?_) he
  subst ex
  cases rx
  refine HN6.callWith_obj (thn (ha.run pos pins s1 σ H1 _ I1 q1) fun us s2 ⟨vs, H2, I2, r, dx, fs, ep, hsp⟩ => ?_) h1 h2
  obtain ⟨od, J⟩ := seen I2 ep
  refine ⟨⟨C, _, _, J, rfl⟩, ?_⟩
  have rv : Vals (V.ref p :: vs) (Value.ref p :: us) := .cons rfl r
  have hl : (Value.ref p :: us).length = ps.length := by
    rw [← rv.length]
    exact F.len _ H2 Q (E σ) hsp
  refine wpAny_call (PySem.W.kco_code (a := ⟨us, []⟩) I2.kIn J rfl hm.at_ hm.fn hfn (codeAny_mono (F.run X.A X.stack s2 H2 ⟨.ref p :: us, []⟩ (.ref p :: us) _ Q (E σ) (hr.mono (Nat.le_succ _)) I2.env0 (by
    have q := hb s2 (.ref p :: us) I2.kIn (by simpa using hl)
    simpa using q) rv hsp) fun z s3 hz => ?_))
  match z, hz with
  | .error er, hz => exact hx σ pins H2 s2 er s3 I2 hz
  | .ok .next, hz => exact False.elim hz
  | .ok .brk, hz => exact False.elim hz
  | .ok .cont, hz => exact False.elim hz
  | .ok (.ret v), hz => exact I2.after hz
end
end Gd

set_option Elab.async false
set_option linter.all false
set_option maxRecDepth 100000
set_option maxHeartbeats 4000000
/-! Readings, step by step: one lemma a word of the readings, and a tactic that goes as far as nothing is asked. -/
namespace Gd
open PySem PySem.Spec PyProof.Rows L2
section
variable {σ : L2.St} {H : Hp} {Q : VK} {QA : List V → Hp → Prop} {QT : Bool → Hp → Prop} {D : Ends} {te ta tb tc to : TE} {t u : TT} {tr : TA} {s1 s2 : TS} {v : V} {i : Nat} {K : PySem.W.Frag}
theorem g_var (h : σ[i]? = some (some v)) (k : Q v H) : tVar i σ H Q := ⟨v, h, k⟩
theorem g_c (k : Q v H) : tC v σ H Q := k
theorem g_ret (k : te σ H D.rt) : tRet te D σ H := k
theorem g_retN (k : D.rt .non H) : tRetN D σ H := k
theorem g_seq (k : s1 { D with nx := s2 D } σ H) : tSeq s1 s2 D σ H := k
theorem g_next (k : D.nx σ H) : tNext D σ H := k
theorem g_drop (k : te σ H fun _ H1 => D.nx σ H1) : tDrop te D σ H := k
theorem g_asg {g : TG} (k : te σ H fun x H1 => g x σ H1 D.nx) : tAsg te g D σ H := k
theorem g_name {Qs : L2.St → Hp → Prop} (k : Qs (σ.set i (some v)) H) : gName i v σ H Qs := k
theorem g_ifs (k : t σ H fun b H1 => if b = true then s1 D σ H1 else s2 D σ H1) : tIfS t s1 s2 D σ H := k
theorem g_test (k : te σ H fun x H' => ∃ c, x = .bl c ∧ QT c H') : tTest te σ H QT := k
theorem g_tb (k : te σ H fun x H' => ∃ c, x = .bl c ∧ QT c H') : tB te σ H QT := k
theorem g_and (k : t σ H fun c H1 => if c = true then u σ H1 QT else QT false H1) : tAnd t u σ H QT := k
theorem g_or (k : t σ H fun c H1 => if c = true then QT true H1 else u σ H1 QT) : tOr t u σ H QT := k
theorem g_not (k : t σ H fun c H1 => QT (!c) H1) : tNot t σ H QT := k
theorem g_andV (k : ta σ H fun x H1 => ∃ c, x = .bl c ∧ if c = true then tb σ H1 Q else Q (.bl false) H1) : tAndV ta tb σ H Q := k
theorem g_orV (k : ta σ H fun x H1 => ∃ c, x = .bl c ∧ if c = true then Q (.bl true) H1 else tb σ H1 Q) : tOrV ta tb σ H Q := k
theorem g_notV (k : ta σ H fun x H1 => ∃ c, x = .bl c ∧ Q (.bl (!c)) H1) : tNotV ta σ H Q := k
theorem g_if (k : t σ H fun c H1 => if c = true then ta σ H1 Q else tb σ H1 Q) : tIf t ta tb σ H Q := k
theorem g_op {r : R2} (k : ta σ H fun x H1 => tb σ H1 fun y H2 => r x y H2 Q) : tOp r ta tb σ H Q := k
theorem g_un {r : V → Hp → VK → Prop} (k : ta σ H fun x H1 => r x H1 Q) : tUn r ta σ H Q := k
theorem g_cb {r : List V → Hp → VK → Prop} (k : tr σ H fun vs H1 => r vs H1 Q) : tCB r tr σ H Q := k
theorem g_nil (k : QA [] H) : tNil σ H QA := k
theorem g_cons (k : ta σ H fun x H1 => tr σ H1 fun xs H2 => QA (x :: xs) H2) : tCons ta tr σ H QA := k
theorem g_call {sp : Sp} {dvs : List V} {E : XK} (k : tr σ H fun vs H1 => sp (vs ++ dvs) H1 Q E) : tCall sp dvs E tr σ H Q := k
theorem g_callS {sp : Sp} {E : L2.St → XK} (k : tr σ H fun vs H1 => sp vs H1 Q (E σ)) : tCallS sp E tr σ H Q := k
theorem g_tup (k : tr σ H fun xs H1 => xs.length ≤ sizeLine ∧ ∀ p, H1 p = none → Q (.ref p) (upd H1 p (.tup xs))) : tTup tr σ H Q := k
theorem g_lst (k : tr σ H fun xs H1 => xs.length ≤ sizeLine ∧ ∀ p, H1 p = none → Q (.ref p) (upd H1 p (.lst xs))) : tLst tr σ H Q := k
theorem g_isN (k : ta σ H fun x H1 => Q (.bl (decide (x = .non))) H1) : tIsN ta σ H Q := k
theorem g_sl {r : V → Option Int → Option Int → Hp → VK → Prop} {tl th : TO} (k : te σ H fun x H1 => tl σ H1 fun l H2 => th σ H2 fun u H3 => r x l u H3 Q) : tSl r te tl th σ H Q := k
theorem g_nopart {Qo : Option Int → Hp → Prop} (k : Qo none H) : tNoPart σ H Qo := k
theorem g_part {Qo : Option Int → Hp → Prop} (k : te σ H fun x H1 => ∃ i, x = .int i ∧ Qo (some i) H1) : tPart te σ H Qo := k
theorem g_chain {r r' : R2} (k : ta σ H fun x H1 => tb σ H1 fun y H2 => r x y H2 fun z H3 => ∃ c, z = .bl c ∧
    if c = true then tc σ H3 fun w H4 => r' y w H4 Q else Q (.bl false) H3) : tChain r r' ta tb tc σ H Q := by
  exact k
theorem g_fld {f : Str} (k : ta σ H fun x H1 => ∃ a C dx fs v, x = .ref a ∧ H1 a = some (.ins C dx fs) ∧ Cls K C ∧ NoAttr K C f ∧ fs.lookup f = some v ∧ Q v H1) : tFld K ta f σ H Q := k
theorem g_prop {C : Addr} {sp : Sp} {dvs : List V} {E : XK} (k : ta σ H fun x H1 => ∃ a dx fs, x = .ref a ∧ H1 a = some (.ins C dx fs) ∧ sp (.ref a :: dvs) H1 Q E) : tProp C sp dvs E ta σ H Q := k
theorem g_bm {T : String} {r : V → List V → Hp → VK → Prop} (k : to σ H fun x H1 => tyV K T x H1 ∧ tr σ H1 fun xs H2 => r x xs H2 Q) : tBM K T r to tr σ H Q := k
theorem g_bm0 {T : String} {r : V → List V → Hp → VK → Prop} (k : to σ H fun x H1 => tyV K T x H1 ∧ r x [] H1 Q) : tBM0 K T r to σ H Q := k
theorem g_tru {r : V → Hp → (Bool → Hp → Prop) → Prop} (k : te σ H fun x H' => r x H' QT) : (fun (σ : L2.St) (H : Hp) (Q : Bool → Hp → Prop) => te σ H fun x H' => r x H' Q) σ H QT := k
-- values
theorem g_I0 {g : Int → Int → V} {a b : Int} (k : Q (g a b) H) : rI0 g (.int a) (.int b) H Q := ⟨a, b, rfl, rfl, k⟩
theorem g_I {C : Int → Int → Prop} {g : Int → Int → V} {a b : Int} (c : C a b) (k : Q (g a b) H) : rI C g (.int a) (.int b) H Q := ⟨a, b, rfl, rfl, c, k⟩
theorem g_U {g : Int → V} {a : Int} (k : Q (g a) H) : rU g (.int a) H Q := ⟨a, rfl, k⟩
theorem g_eqI {a b : Int} (k : Q (.bl (decide (a = b))) H) : rEq (.int a) (.int b) H Q := by
  refine ⟨rfl, ?_⟩
  have e : (V.int a = V.int b) = (a = b) := by simp
  simpa [e] using k
theorem g_eq {x y : V} (s : scal x y = true) (k : Q (.bl (decide (x = y))) H) : rEq x y H Q := ⟨s, k⟩
theorem g_ne {x y : V} (s : scal x y = true) (k : Q (.bl (!decide (x = y))) H) : rNe x y H Q := ⟨s, k⟩
theorem g_bl {b : Bool} (k : QT b H) : ∃ c, (V.bl b) = .bl c ∧ QT c H := ⟨b, rfl, k⟩
theorem g_blV {b : Bool} {A : Bool → Prop} (k : A b) : ∃ c, (V.bl b) = .bl c ∧ A c := ⟨b, rfl, k⟩
theorem g_inV {a : Int} {A : Int → Prop} (k : A a) : ∃ c, (V.int a) = .int c ∧ A c := ⟨a, rfl, k⟩
theorem g_ixT {p : Addr} {xs : List V} {a : Int} (h : SqT K H p xs) (e : atI xs a = some v) (k : Q v H) : rIxT K (.ref p) (.int a) H Q := ⟨p, xs, a, v, rfl, rfl, h, e, k⟩
theorem g_ixL {p : Addr} {xs : List V} {a : Int} (h : SqL K H p xs) (e : atI xs a = some v) (k : Q v H) : rIxL K (.ref p) (.int a) H Q := ⟨p, xs, a, v, rfl, rfl, h, e, k⟩
end

/-- the turn's end: the invariant again, the measure less -/
abbrev Turn (Pv : L2.St → Hp → Prop) (μ : L2.St → Hp → Nat) (m : Nat) : L2.St → Hp → Prop := fun σ' H' => Pv σ' H' ∧ μ σ' H' < m
theorem g_while {c : TT} {tb : TS} {D : Ends} {σ : L2.St} {H : Hp} (Pv : L2.St → Hp → Prop) (μ : L2.St → Hp → Nat) (h0 : Pv σ H)
    (hs : ∀ σ H, Pv σ H → c σ H fun b H1 => if b = true then ∃ N : L2.St → Hp → Prop, (∀ σ' H', N σ' H' → ∃ m', m' < μ σ H ∧ m' = μ σ' H' ∧ Pv σ' H') ∧
      tb { D with nx := N, ct := N, bk := D.nx } σ H1 else D.nx σ H1) : tWhile c tb D σ H := by
  refine ⟨fun m σ H => m = μ σ H ∧ Pv σ H, ⟨_, rfl, h0⟩, ?_⟩
  rintro m σ H ⟨rfl, p⟩
  exact hs σ H p
theorem g_turn {tb : TS} {D : Ends} {σ : L2.St} {H H1 : Hp} {Pv : L2.St → Hp → Prop} {μ : L2.St → Hp → Nat}
    (h : tb { D with nx := Turn Pv μ (μ σ H), ct := Turn Pv μ (μ σ H), bk := D.nx } σ H1) :
    ∃ N : L2.St → Hp → Prop, (∀ σ' H', N σ' H' → ∃ m', m' < μ σ H ∧ m' = μ σ' H' ∧ Pv σ' H') ∧ tb { D with nx := N, ct := N, bk := D.nx } σ H1 :=
  ⟨Turn Pv μ (μ σ H), fun σ' H' n => ⟨_, n.2, rfl, n.1⟩, h⟩
theorem g_aug {σ : L2.St} {H : Hp} {D : Ends} {i : Nat} {te : TE} {ti : TIp} {x : V} (h : σ[i]? = some (some x)) (k : te σ H fun y H1 => ti x y H1 fun z H2 => D.nx (σ.set i (some z)) H2) : tAug i te ti D σ H := ⟨x, h, k⟩
theorem tyT {K : PySem.W.Frag} {H : Hp} {a : Addr} {xs : List V} (h : SqT K H a xs) : TyX K H (.ref a) (.type "tuple") := by
  rcases h with (h | ⟨o, h⟩) | ⟨o, its, n, h, c, _⟩
  · exact .base (.tup h)
  · exact .fTuple h
  · exact .kTuple h c
theorem tyL {K : PySem.W.Frag} {H : Hp} {a : Addr} {xs : List V} (h : SqL K H a xs) : TyX K H (.ref a) (.type "list") ∨ ∃ o, K.lookup a = some o := by
  rcases h with (h | ⟨o, h⟩) | ⟨o, its, n, h, c, _⟩
  · exact .inl (.base (.lst h))
  · exact .inl (.base (.frz h))
  · exact .inr ⟨o, h⟩

theorem g_yes {σ : L2.St} {H : Hp} {Q : Bool → Hp → Prop} (k : Q true H) : tYes σ H Q := k
theorem g_sfld {σ : L2.St} {H : Hp} {D : Ends} {K : PySem.W.Frag} {ta te : TE} {f : Str} (k : te σ H fun y H1 => ta σ H1 fun x H2 => ∃ a C dx fs, x = .ref a ∧ H2 a = some (.ins C dx fs) ∧ Cls K C ∧ NoAttr K C f ∧
    fs.length < 1000 ∧ D.nx σ (upd H2 a (.ins C dx (putF f y fs)))) : sFld K ta te f D σ H := k
theorem g_int1 {a : Int} {A : Int → Prop} (k : A a) : ∃ i, [V.int a] = [V.int i] ∧ A i := ⟨a, rfl, k⟩
theorem g_int2 {a b : Int} {A : Int → Int → Prop} (k : A a b) : ∃ i j, [V.int a, V.int b] = [V.int i, V.int j] ∧ A i j := ⟨a, b, rfl, k⟩
theorem g_sub {σ : L2.St} {H : Hp} {Qs : L2.St → Hp → Prop} {to ti : TE} {t : TSet} {v : V} (k : to σ H fun o H1 => ti σ H1 fun i H2 => t o i v H2 fun H3 => Qs σ H3) : gSub to ti t v σ H Qs := k
theorem g_NT {A B : Prop} (h : B) : if (!true) = true then A else B := h
theorem g_NF {A B : Prop} (h : A) : if (!false) = true then A else B := h
end Gd

set_option Elab.async false
set_option linter.all false
set_option maxRecDepth 100000
set_option maxHeartbeats 4000000
/-! More readings. -/
namespace Gd
open PySem PySem.Spec PyProof.Rows L2
theorem g_forR {ta : TA} {g : TG} {tb : TS} {D : Ends} {σ : L2.St} {H : Hp} (k : ta σ H fun vs H1 => ∃ j : Int, vs = [.int j] ∧ -(2 ^ 62) ≤ j ∧ j < 2 ^ 62 ∧ ∃ W : Nat → Nat → L2.St → Hp → Prop, (∃ m, W 0 m σ H1) ∧ ∀ i m σ H, W i m σ H →
  ((Itr 0 j.toNat).stop i H ∧ D.nx σ H) ∨ ((Itr 0 j.toNat).go i H ∧ ∃ N : L2.St → Hp → Prop, (∀ σ' H', N σ' H' → ∃ m', m' < m ∧ W (i + 1) m' σ' H') ∧ ∀ x H', (Itr 0 j.toNat).yld i H x H' → g x σ H' fun σ2 H2 => tb { D with nx := N, ct := N, bk := D.nx } σ2 H2)) :
    tFor (iRng1 ta) g tb D σ H := k
theorem g_ifV {c : Bool} {ta tb : TE} {σ : L2.St} {H : Hp} {Q : VK} (v : V) (ha : c = true → ∀ Q' : VK, Q' v H → ta σ H Q') (hb : c = false → ∀ Q' : VK, Q' v H → tb σ H Q') (k : Q v H) : if c = true then ta σ H Q else tb σ H Q := by
  cases c with
  | true => exact ha rfl Q k
  | false => exact hb rfl Q k
theorem g_neS {x : Str} {H : Hp} {Q : VK} (k : Q (.bl false) H) : rNe (.str x) (.str x) H Q := ⟨rfl, by simpa using k⟩
theorem g_ixO {C : Addr} {sp : Sp} {E : L2.St → XK} {ta tb : TE} {σ : L2.St} {H : Hp} {Q : VK} (k : ta σ H fun x H1 => tb σ H1 fun y H2 => ∃ p dx fs, x = .ref p ∧ H2 p = some (.ins C dx fs) ∧ sp [x, y] H2 Q (E σ)) : tIxO C sp E ta tb σ H Q := k
/-- a place that is reached from more than one side -/
theorem g_cut {s1 s2 : TS} {D : Ends} {σ : L2.St} {H : Hp} (N : L2.St → Hp → Prop) (hN : ∀ σ' H', N σ' H' → s2 D σ' H') (k : (∀ σ' H', N σ' H' → s2 D σ' H') → s1 { D with nx := s2 D } σ H) : tSeq s1 s2 D σ H := k hN
theorem g_eqS {x : Str} {H : Hp} {Q : VK} (k : Q (.bl true) H) : rEq (.str x) (.str x) H Q := ⟨rfl, by simpa using k⟩
theorem g_par {i j : Nat} {ta : TA} {D : Ends} {σ : L2.St} {H : Hp} (k : ta σ H fun vs H1 => ∃ v w, vs = [v, w] ∧ D.nx ((σ.set i (some v)).set j (some w)) H1) : tPar i j ta D σ H := k
theorem g_make {C : Addr} {sp : Sp} {dvs : List V} {E : XK} {t : TA} {σ : L2.St} {H : Hp} {Q : VK} (k : t σ H fun vs H1 => ∀ x dx, H1 x = none → H1 dx = none → dx ≠ x →
  sp (.ref x :: (vs ++ dvs)) (upd (upd H1 dx (.own x)) x (.ins C dx [])) (fun v H2 => v = .non ∧ Q (.ref x) H2) E) : tMake C sp dvs E t σ H Q := k
end Gd

set_option Elab.async false
set_option linter.all false
set_option maxRecDepth 100000
set_option maxHeartbeats 4000000
/-! try with several clauses «except x as n» of one name n. -/
namespace Gd
open PySem PySem.Spec PyProof.Rows L2
abbrev Clause := Value × (Addr → Value → Option Addr → TS)
/-- what the clauses wish, one after the other; slot i is the name's -/
def wAsAll (K : PySem.W.Frag) (i : Nat) (Wo : WX) (D : Ends) : List Clause → WX
  | [] => Wo
  | (c, ts) :: r => wAs K c i ts (wAsAll K i Wo D r) D
inductive AsOk (X : Cx) (n : Str) : List ExceptHandler → List Clause → Prop
  | nil : AsOk X n [] []
  | cons {x : Str} {c : Value} {ts : Addr → Value → Option Addr → TS} {b₀ : Stmt} {rows : List Stmt} {np po : Pos} {hds : List ExceptHandler} {l : List Clause} (hc : Names X x c)
      (hsu : ∀ (a : Addr) (oe : Obj) (k : Value) (d : Option Addr) (pn : List (Addr × Obj)), Zc k d oe → (∃ us, oe.data = .fields us) → PSs (X.suite a ((a, oe) :: pn)) (b₀ :: rows) (ts a k d)) (more : AsOk X n hds l) :
      AsOk X n (.ExceptHandler (some (.Name x np)) (some n) (b₀ :: rows) po :: hds) ((c, ts) :: l)
section
variable {X : Cx} {n : Str} {i : Nat} {body : List Stmt} {h₀ : ExceptHandler} {hds : List ExceptHandler} {l : List Clause} {pos : Pos} {tb : WX → TS} {Wo : WX}
theorem ps_try_asAll (hst : X.stack = X.env :: X.outer) (hfr0 : X.env.frame = some X.env.locals) (hN : X.N.Nodup) (hi : X.N[i]? = some n) (hl : X.env.kindOf n = some .local) (tk : Takes X Wo)
    (hb : ∀ (W : WX) (pn : List (Addr × Obj)) (xe : Value → Shared → Prop), Takes (X.tr pn xe) W → PassesOwn (model X.prog X.w) X.A X.env xe → PSs (X.tr pn xe) body (tb W))
    (hh : AsOk X n (h₀ :: hds) l) : PS X (.Try body (h₀ :: hds) [] [] pos) (fun D σ H => tb (wAsAll X.K i Wo D l) D σ H) := by
  constructor
  intro pins s0 σ0 H0 D I h
  have okX := I.ok
  have hfr : X.A.frames = some (X.env :: X.outer) := by rw [okX.frames, hst]
  have hloc : Loc X.env.scope n := .inl hl
  refine wpAny_Try_except ?_
  have go := hb (wAsAll X.K i Wo D l) (X.pn ++ pins) (fun e t₁ => wpAny (model X.prog X.w) X.A (noteFrame e X.env) (fun _ t₂ => wpAny (model X.prog X.w) X.A (setFlight e none) (fun _ t₃ =>
    wpAny (model X.prog X.w) X.A (handleBy e X.env (h₀ :: hds)) (SP X pins D) X.xe t₃) X.xe t₂) X.xe t₁) (fun u t' caught => ?_) PassesOwn.looking
  · refine wpAny_mono (go.run [] s0 σ0 H0 D (I.toTry _) h) (fun f t1 done => ?_) (fun e t1 z => z)
    match f, done with
    | .next, ⟨σ1, H1, J, q⟩ => exact wpAny_execs_nil ⟨σ1, H1, J.ofTry okX, q⟩
    | .brk, ⟨σ1, H1, J, q⟩ => exact ⟨σ1, H1, J.ofTry okX, q⟩
    | .cont, ⟨σ1, H1, J, q⟩ => exact ⟨σ1, H1, J.ofTry okX, q⟩
    | .ret u, ⟨v, σ1, H1, J, r, q⟩ => exact ⟨v, σ1, H1, J.ofTry okX, r, q⟩
  obtain ⟨a, B, sI, pins2, σ2, H2, cls, d, rfl, J0, nb, up, sky, na, os, ag, wish⟩ := caught
  have J : Inv X pins σ2 H2 sI := J0.ofTry okX
  have sky2 : Sky B (X.env :: X.outer) a (Zc cls d) X.env.locals t'.heap := by rw [← hst]; exact sky
  show wpAny (model X.prog X.w) X.A (noteFrame (.ref a) X.env) _ _ _
  refine Sky.land Zc.steady hfr hfr0 sky2 ?_
  intro h3 fl3 up3
  have J3 : Inv X pins σ2 H2 { t' with heap := h3 } := J.landed nb fl3.1 (up.trans up3) os ag
  obtain ⟨o3, vs3, at3, z3, d3⟩ := fl3.there
  have off : a ∉ frs (X.env :: X.outer) := by
    intro hm
    obtain ⟨_, o', e', hnf⟩ := fl3.2.2.1.mem hm
    rw [at3] at e'
    cases e'
    exact hnf _ d3
  have nL : a ≠ X.env.locals := by
    intro z
    exact off (List.mem_filterMap.mpr ⟨X.env, List.mem_cons_self, by rw [hfr0, z]⟩)
  have nF : a ∉ X.fs := by
    intro hm
    obtain ⟨e, he, q⟩ := List.mem_filterMap.mp hm
    exact off (List.mem_filterMap.mpr ⟨e, List.mem_cons_of_mem _ he, q⟩)
  have S3 := J3.suite at3 d3 na nL nF
  have clauses : ∀ (hs2 : List ExceptHandler) (l2 : List Clause), AsOk X n hs2 l2 → wAsAll X.K i Wo D l2 cls d σ2 H2 →
      wpAny (model X.prog X.w) X.A (handleBy (.ref a) X.env hs2) (SP X pins D) X.xe { t' with heap := h3 } := by
    intro hs2 l2 ok2
    induction ok2 with
    | nil =>
      intro wo
      refine wpAny_handleBy_nil ?_
      obtain ⟨_, _, _, oe, us, T, oT, ts2, at_, hz, hd, hT, hr⟩ := id fl3
      unfold PySem.passOn
      refine wpAny_bind (wpAny_field at_ hd hT ?_)
      rw [if_neg (show ¬ ((Value.ref T == Value.none) = true) by simp)]
      have out : wpAny (model X.prog X.w) X.A (setFlight (.ref a) X.env.frame) (fun _ t4 => wpAny (model X.prog X.w) X.A (throw (.ref a) : Sem Flow) (SP X pins D) X.xe t4) X.xe { t' with heap := h3 } := by
        rw [hfr0]
        refine HandSPX.setFlight_upZ fl3 ?_
        intro h4 hh4 up4
        refine wpAny_throw (tk _ _ ⟨a, B, sI, pins, σ2, H2, cls, d, rfl, J, nb, (up.trans up3).trans up4, .inr (.inr ?_), na, os, ag, wo⟩)
        rw [hst]
        exact hh4
      first
        | exact wpAny_bind (wpAny_pure (wpAny_bind out))
        | exact wpAny_bind out
    | @cons x c ts b₀ rows np po hds2 l3 hc hsu more ih =>
      rintro ⟨b, hb1, yes, no⟩
      refine wpAny_handleBy_cons (codeAny_handlers_test ?_) (by intro q; cases q)
      have LT : PySem.W.Looks (model X.prog X.w) h3 (typeOf (.ref a)) cls := by
        intro A Q E s k q
        exact wpAny_typeOf_ref (k _ _ at3) (by rw [z3.1]; exact q)
      have LM := PySem.W.exm_one (M := model X.prog X.w) J3.kIn LT hb1
      have named : ∀ {Q : Value → Shared → Prop} {E : Value → Shared → Prop}, Q c { t' with heap := h3 } → wpAny (model X.prog X.w) (X.A.mark (some (.ref a))) (eval (.Name x np) X.env) Q E { t' with heap := h3 } := by
        intro Q E q
        obtain ⟨hg, hdb, hm | ⟨hm, hv, hnn⟩⟩ := hc
        · exact ld_glob (X := X.suite a ((a, o3) :: (X.pn ++ pins))) S3 hg hm q hdb
        · exact ld_blt (X := X.suite a ((a, o3) :: (X.pn ++ pins))) S3 hg hm hv q hnn hdb
      refine named (LM.here ?_)
      cases b with
      | false =>
        show wpAny _ X.A (handleBy (.ref a) X.env hds2) _ _ _
        exact ih (no rfl)
      | true =>
        refine codeAny_handlers_suite_as ?_
        refine HandSPX.lands_againZ fl3 ?_
        intro h4 fl4 up4
        have J4 : Inv X pins σ2 H2 { t' with heap := h4 } := J.landed nb fl4.1 ((up.trans up3).trans up4) os ag
        obtain ⟨o4, vs4, at4, z4, d4⟩ := fl4.there
        refine store_ok (X := X.suite a ((a, o4) :: (X.pn ++ pins))) (v := .ref a) (J4.suite at4 d4 na nL nF) hN hi hloc rfl (fun t5 S5 => ?_) (.inr hl)
        refine wpAny_mono ((hsu a o4 cls d (X.pn ++ pins) z4 ⟨_, d4⟩).run [] t5 _ H2 _ S5 (yes rfl a na)) (fun f t6 done => ?_) (fun _ _ z => z.elim)
        have gone : ∀ {σ6 : L2.St} {H6 : Hp} {Q : Shared → Prop}, Inv (X.suite a ((a, o4) :: (X.pn ++ pins))) [] σ6 H6 t6 → (∀ t7, Inv X pins (σ6.set i none) H6 t7 → Q t7) →
            wpAny (model X.prog X.w) X.A (do bindName X.env n .none; unbindBehindTheSuite X.env n po) (fun _ t7 => Q t7) X.xe t6 := by
          intro σ6 H6 Q S6 hq
          exact gone_ok (S6.unsuite okX) hN hi hl hq
        match f, done with
        | .next, ⟨σ6, H6, S6, q6⟩ => exact gone S6 fun t7 J7 => ⟨_, _, J7, q6⟩
        | .brk, ⟨σ6, H6, S6, q6⟩ => exact gone S6 fun t7 J7 => ⟨_, _, J7, q6⟩
        | .cont, ⟨σ6, H6, S6, q6⟩ => exact gone S6 fun t7 J7 => ⟨_, _, J7, q6⟩
        | .ret u, ⟨v6, σ6, H6, S6, r6, q6⟩ => exact gone S6 fun t7 J7 => ⟨_, _, _, J7, r6, q6⟩
  exact clauses _ _ hh wish
end
end Gd

set_option Elab.async false
set_option linter.all false
set_option maxRecDepth 100000
set_option maxHeartbeats 4000000
/-! A def whose code object is known. -/
namespace Gd
open PySem PySem.Spec PyProof.Rows L2
section
variable {P : Program} {w : World} {K : PySem.W.Frag} {mg : Str → Option Value} {base : Heap} {CX : CXT} {k : Nat}
  {f c : Addr} {fd : FuncData} {ps : List Str} {sp : Sp}
theorem fnGc {x qual : Str} {st : Stmt} {N : List Str} (F : Fun K x qual st f fd) (hc : fd.code = .ref c) (S : FnScope N ps (defScope st))
    (many : ∀ vs H Q E, sp vs H Q E → vs.length = ps.length)
    (body : ∀ (A : Around) (out : List Env) (s : Shared) (H : Hp) (vs : List V) (Q : VK) (E : XK),
      NoG A → Room k (A.deeper (envOfC qual (defScope st) s.heap.objs.size f (.ref c))) → sp vs H Q E →
      ∃ t, PSs (cxOf CX P w K mg base N qual (defScope st) f (.ref c) A out s H E) (defBody st) t ∧
        t { nx := fun _ H' => Q .non H', rt := Q } (start N vs) H) :
    FnG P w K mg base CX (k + 1) f fd ps sp := by
  obtain ⟨oc, od, kV, doc, pm, an, cdv, ct, osl, rfl, lk, hcd⟩ := F.ex
  obtain rfl : cdv = .ref c := hc
  refine ⟨many, ?_⟩
  intro A out s H ar us vs Q E hg hr e0 hb r hsp
  have hl := many vs H Q E hsp
  have KX : K.In s.heap := e0.mod.kin.keeps (fun b o e => (e0.bs b o e).1)
  have lim : s.heap.NoLimit := e0.mod.nolimit.keeps (fun b o e => (e0.bs b o e).1)
  have kinds : ∀ y ∈ ps.zip us, (defScope st).names.lookup y.1 = some .local ∨
      ((defScope st).names.lookup y.1 = some .cell ∧ ((cellsFrom (s.heap.objs.size + 1) (defScope st).names []).lookup y.1).isSome = true) := by
    rintro ⟨n, v⟩ hy
    rcases S.par n (List.of_mem_zip hy).1 with q | q
    · exact Or.inl q
    · exact Or.inr ⟨q, PySem.W.cellsFrom_some _ _ _ (Or.inl q)⟩
  refine codeAny_call_function hr.depth (KX _ _ lk) rfl S.co S.gen rfl
    (PySem.W.codeRec_of KX hcd) (hb _ _ _ _ ?_)
  refine wpAny_newFunctionEnv_cells S.kind kinds ?_
  intro env he s1 x
  cases he
  refine ⟨lim.keeps x.toInCall.keep, codeAny_func ?_⟩
  obtain ⟨t, ht, hq⟩ := body A out s H vs Q E hg (hr.deeper _) hsp
  have I := inv_start (CX := CX) (E := E) S hr.hd e0 hl r x
  refine wpAny_mono (ht.run [] s1 (start N vs) H _ I hq) ?_ (fun e s' hs => hs)
  intro fl s' hs
  have fin : ∀ {σ' : L2.St} {H' : Hp} {v : V} {u : Value},
      Inv (cxOf CX P w K mg base N qual (defScope st) f (.ref c) A out s H E) [] σ' H' s' →
      RelV v u → Q v H' → CE out P w H s Q u s' := by
    intro σ' H' v u J rv q
    exact ⟨v, H', J.os, J.bare, J.base, J.hok, rv, q⟩
  cases fl with
  | ret u =>
    obtain ⟨v, σ', H', J, rv, q⟩ := hs
    exact fin J rv q
  | next =>
    obtain ⟨σ', H', J, q⟩ := hs
    exact fin (v := V.non) (u := Value.none) J rfl q
  | brk =>
    obtain ⟨σ', H', J, q⟩ := hs
    exact False.elim q
  | cont =>
    obtain ⟨σ', H', J, q⟩ := hs
    exact False.elim q
end
end Gd

set_option Elab.async false
set_option linter.all false
set_option maxRecDepth 100000
set_option maxHeartbeats 4000000
/-! The end of a law with tables of code objects, whose promise is kept where no container is being shown. -/
namespace Gd
open PySem PySem.Spec PyProof.Rows L2 LamX
section
variable {P : Program} {w : World} {K : PySem.W.Frag} {mg mb : Str → Option Value} {CX : CXT} {k : Nat} {fa a : Addr} {cs : List (Addr × Addr)}
  {fd : FuncData} {x : Str} {sp : Sp} {s₁ : Shared} {vs : List Value} {ns : List Int}
/-- an object that is neither a sequence nor an empty record is not tracked where only the script and the tables are -/
theorem untracked {H : Hp} {h : Heap} {b : Addr} {o : Obj} (ha : h.get? a = some { cls := .type "list", data := .seq vs.toArray }) (isT : ∀ b : Addr, b ∈ cs.map (·.2) → h.get? b = some { cls := .none, data := .fields #[] })
    (hA : ∀ b, H b ≠ none → b = a ∨ b ∈ cs.map (·.2)) (e : h.get? b = some o) (h1 : ∀ us n, o.data ≠ .seq us n) (h2 : o.data ≠ .fields #[]) : H b = none := by
  cases q : H b with
  | none => rfl
  | some u =>
    exfalso
    rcases hA b (by rw [q]; simp) with z | z
    · rw [z, ha] at e
      cases e
      exact h1 _ _ rfl
    · rw [isT b z] at e
      cases e
      exact h2 rfl
theorem coreGT (KX : K.In s₁.heap) (hns : s₁.heap.Ns mainGlobals mg) (hb : s₁.heap.Ns builtinsNs mb) (hbb : ∀ x : Str, x ≠ "__name__" → mb x = bootBuiltins x) (hlim : s₁.heap.NoLimit) (hg : s₁.gens = #[])
    (hT : ∀ p ∈ cs, s₁.heap.get? p.2 = some { cls := .none, data := .fields #[] }) (nT : ∀ p ∈ cs, K.lookup p.2 = none) (C : ∀ p ∈ cs, PySem.W.CodeHd s₁.heap p.1 p.2)
    (hbm : ∃ (bm : Addr) (ob : Obj), mg "__builtins__" = some (.ref bm) ∧ bm ≠ builtinsNs ∧ s₁.heap.get? bm = some ob ∧ ob.cls = .type "module" ∧ ob.dict = some builtinsNs ∧ ob.data = .plain)
    (ha : s₁.heap.get? a = some { cls := .type "list", data := .seq vs.toArray }) (hr : Room k callerA)
    (F : ∀ base : Heap, K.In base → base.Ns mainGlobals mg → (∀ p ∈ cs, TabB base mg p.1 p.2) → FnG P w K mg base CX k fa fd [x] sp) (hbind : ∀ (s : Shared) (u : Value), BindsTo s fd ⟨[u], []⟩ [(x, u)])
    (hCX : ∀ H e s', CX [] H s₁ (fun _ _ _ => False) e s' → False)
    (H : Hp) (hH : ∀ p ∈ cs, H p.2 = some (.tbl #[])) (hO : ∀ b, H b = none ∨ b ∈ cs.map (·.2) ∨ ∃ o xs, H b = some (.frz o (.lst xs))) (hsp : sp [.ref a] H (fun v _ => v = .bl true) fun _ _ _ => False)
    (hok : HOk P w H s₁.heap) (hA : ∀ b, H b ≠ none → b = a ∨ b ∈ cs.map (·.2)) (hK : H a ≠ none → K.lookup a = none) :
    codeAny (model P w) callerA (.call (.ref fa) ⟨[.ref a], []⟩) (fun r s' => r = .ok (.ret (.bool true)) ∧ OldK s₁.heap s'.heap ∧ s'.os = s₁.os ∧ AllBare s'.gens) s₁ := by
  have isT : ∀ b : Addr, b ∈ cs.map (·.2) → s₁.heap.get? b = some { cls := .none, data := .fields #[] } := by
    intro b m
    obtain ⟨p, hp, rfl⟩ := List.mem_map.mp m
    exact hT p hp
  have old : ∀ {b : Addr} {o : Obj}, s₁.heap.get? b = some o → H b = none → (hidT s₁.heap H).get? b = some o := by
    intro b o e n
    exact hidT_get e n
  have un0 : ∀ {b : Addr} {o : Obj}, s₁.heap.get? b = some o → (∀ us n, o.data ≠ .seq us n) → o.data ≠ .fields #[] → H b = none := by
    intro b o e h1 h2
    exact untracked ha isT hA e h1 h2
  have nsOf : ∀ {b : Addr} {m : Str → Option Value}, s₁.heap.Ns b m → (hidT s₁.heap H).Ns b m := by
    rintro b m ⟨o, es, ep, e, d, r⟩
    refine ⟨o, es, ep, old e (un0 e ?_ ?_), d, r⟩
    · intro us n z
      rw [d] at z
      cases z
    · intro z
      rw [d] at z
      cases z
  have inB : K.In (hidT s₁.heap H) := by
    intro b o e
    refine old (KX b o e) ?_
    cases q : H b with
    | none => rfl
    | some u =>
      exfalso
      rcases hA b (by rw [q]; simp) with z | z
      · subst z
        rw [hK (by rw [q]; simp)] at e
        cases e
      · obtain ⟨p, hp, ep⟩ := List.mem_map.mp z
        rw [← ep, nT p hp] at e
        cases e
  obtain ⟨mc, l1, l2⟩ := hlim
  have hM : Mod K mg (hidT s₁.heap H) := ⟨inB, nsOf hns, ⟨mb, nsOf hb, hbb⟩, ⟨mc, nsOf l1, l2⟩⟩
  have TB : ∀ p ∈ cs, TabB (hidT s₁.heap H) mg p.1 p.2 := by
    intro p hp
    have at_ := hT p hp
    refine ⟨?_, ?_, ?_⟩
    · obtain ⟨o, us, file, tf, flags, tg, inF, text, tt, e1, r1, r2, r3, rest⟩ := C p hp
      refine ⟨o, us, file, tf, flags, tg, inF, text, tt, old e1 (un0 e1 ?_ ?_), r1, r2, r3, rest⟩
      · intro us n z
        rw [r2] at z
        cases z
      · intro z
        rw [r2] at z
        cases z
        simp at r3
    · obtain ⟨bm, ob, b1, b2, b3, b4, b5, b6⟩ := hbm
      refine ⟨bm, ob, b1, b2, ?_, ?_, old b3 (un0 b3 ?_ ?_), b4, b5, b6⟩
      · intro z
        obtain ⟨o, es, ep, e, d, _⟩ := hns
        subst z
        rw [e] at b3
        cases b3
        rw [d] at b6
        cases b6
      · intro z
        subst z
        rw [at_] at b3
        cases b3
        cases b6
      · intro us n z
        rw [b6] at z
        cases z
      · intro z
        rw [b6] at z
        cases z
    · intro z
      obtain ⟨o, es, ep, e, d, _⟩ := hns
      rw [z, at_] at e
      cases e
      cases d
  have e0 : Env0 P w K mg (hidT s₁.heap H) callerA [] s₁ H := by
    refine ⟨rfl, hM, ?_, Nat.le_of_eq (hidT_size _ _), trivial, ?_, hok, .of_eq hg⟩
    · intro b o e
      exact of_hidT e
    · intro b z
      exact absurd (show b ∈ ([] : List Addr) from z) (by simp)
  have run := (F _ inB (nsOf hns) TB).go callerA [] s₁ H ⟨[.ref a], []⟩ [.ref a] [.ref a] _ _ rfl hr e0 (hbind s₁ (.ref a)) (.cons rfl .nil) hsp
  refine codeAny_mono run ?_
  intro r s' h
  match r, h with
  | .error e, h => exact (hCX H e s' h).elim
  | .ok .next, h => exact False.elim h
  | .ok .brk, h => exact False.elim h
  | .ok .cont, h => exact False.elim h
  | .ok (.ret u), h =>
    obtain ⟨v, H', os, bare, un, hok', rv, q⟩ := h
    obtain rfl : v = .bl true := q
    obtain rfl : u = Value.bool true := rv
    have stays : ∀ b o, b ∉ cs.map (·.2) → s₁.heap.get? b = some o → s'.heap.get? b = some o := by
      intro b o nb e
      cases q : H b with
      | none => exact un.keep b o e q (fun z => absurd (show b ∈ ([] : List Addr) from z) (by simp)) (by simp)
      | some u =>
        rcases hO b with z | z | ⟨ob, xs, z⟩
        · rw [q] at z
          cases z
        · exact absurd z nb
        · obtain ⟨e1, _⟩ := hok b _ z
          obtain ⟨e2, _⟩ := hok' b _ (un.frzs b ob _ z)
          rw [e] at e1
          cases e1
          exact e2
    have more_ : ∀ p ∈ cs, ∃ more : Array Value, s'.heap.get? p.2 = some { cls := .none, data := .fields more } := by
      intro p hp
      obtain ⟨more, z⟩ := un.tbls p.2 #[] (hH p hp)
      exact ⟨_, hok' p.2 _ z⟩
    refine ⟨rfl, ⟨?_, ?_⟩, os, bare⟩
    · intro b o e
      by_cases m : b ∈ cs.map (·.2)
      · obtain ⟨p, hp, ep⟩ := List.mem_map.mp m
        subst ep
        obtain ⟨more, g⟩ := more_ p hp
        rw [hT p hp] at e
        cases e
        exact .inr (.inl ⟨((C p hp).tab (hT p hp)).isCodeTable, rfl, #[], more, rfl, by rw [Array.empty_append]; exact g⟩)
      · exact .inl (stays b o m e)
    · intro b o e
      by_cases m : b ∈ cs.map (·.2)
      · obtain ⟨p, hp, ep⟩ := List.mem_map.mp m
        subst ep
        obtain ⟨more, g⟩ := more_ p hp
        exact ⟨_, g⟩
      · exact ⟨o, stays b o m e⟩
theorem law_callGT (KX : K.In s₁.heap) (hns : s₁.heap.Ns mainGlobals mg) (hb : s₁.heap.Ns builtinsNs mb) (hbb : ∀ x : Str, x ≠ "__name__" → mb x = bootBuiltins x) (hlim : s₁.heap.NoLimit) (hg : s₁.gens = #[])
    (hT : ∀ p ∈ cs, s₁.heap.get? p.2 = some { cls := .none, data := .fields #[] }) (nT : ∀ p ∈ cs, K.lookup p.2 = none) (C : ∀ p ∈ cs, PySem.W.CodeHd s₁.heap p.1 p.2)
    (hbm : ∃ (bm : Addr) (ob : Obj), mg "__builtins__" = some (.ref bm) ∧ bm ≠ builtinsNs ∧ s₁.heap.get? bm = some ob ∧ ob.cls = .type "module" ∧ ob.dict = some builtinsNs ∧ ob.data = .plain)
    (ha : s₁.heap.get? a = some { cls := .type "list", data := .seq vs.toArray }) (hi : IntsAre vs ns) (hl : ns.length ≤ sizeLine) (hr : Room k callerA)
    (F : ∀ base : Heap, K.In base → base.Ns mainGlobals mg → (∀ p ∈ cs, TabB base mg p.1 p.2) → FnG P w K mg base CX k fa fd [x] sp) (hbind : ∀ (s : Shared) (u : Value), BindsTo s fd ⟨[u], []⟩ [(x, u)])
    (hsp : ∀ H : Hp, (∀ p ∈ cs, H p.2 = some (.tbl #[])) → (∀ b, H b = none ∨ b ∈ cs.map (·.2) ∨ ∃ o xs, H b = some (.frz o (.lst xs))) → SqL K H a (ns.map V.int) → sp [.ref a] H (fun v _ => v = .bl true) fun _ _ _ => False)
    (hCX : ∀ H e s', CX [] H s₁ (fun _ _ _ => False) e s' → False) :
    codeAny (model P w) callerA (.call (.ref fa) ⟨[.ref a], []⟩) (fun r s' => r = .ok (.ret (.bool true)) ∧ OldK s₁.heap s'.heap ∧ s'.os = s₁.os ∧ AllBare s'.gens) s₁ := by
  have rv := vals_ints hi
  have lenV := hi.length
  have isT : ∀ b : Addr, b ∈ cs.map (·.2) → s₁.heap.get? b = some { cls := .none, data := .fields #[] } := by
    intro b m
    obtain ⟨p, hp, rfl⟩ := List.mem_map.mp m
    exact hT p hp
  have aT : a ∉ cs.map (·.2) := by
    intro z
    have q := isT a z
    rw [ha] at q
    cases (congrArg Obj.data (Option.some.inj q) : Data.seq vs.toArray _ = Data.fields #[])
  have inT : ∀ p ∈ cs, p.2 ∈ cs.map (·.2) := by
    intro p hp
    exact List.mem_map.mpr ⟨p, hp, rfl⟩
  cases hk : K.lookup a with
  | some o =>
    have e := KX a o hk
    rw [ha] at e
    cases e
    obtain ⟨H, eH⟩ : ∃ H : Hp, H = fun b => if b ∈ cs.map (·.2) then some (.tbl #[]) else none := ⟨_, rfl⟩
    have yes : ∀ b, b ∈ cs.map (·.2) → H b = some (.tbl #[]) := fun b m => by rw [eH]; exact if_pos m
    have no : ∀ b, b ∉ cs.map (·.2) → H b = none := fun b m => by rw [eH]; exact if_neg m
    clear eH
    have hO : ∀ b, H b = none ∨ b ∈ cs.map (·.2) ∨ ∃ o xs, H b = some (.frz o (.lst xs)) := fun b => by
      by_cases m : b ∈ cs.map (·.2)
      · exact .inr (.inl m)
      · exact .inl (no b m)
    refine coreGT KX hns hb hbb hlim hg hT nT C hbm ha hr F hbind hCX H (fun p hp => yes _ (inT p hp)) hO (hsp H (fun p hp => yes _ (inT p hp)) hO ?_) ?_ ?_ (fun z => absurd (no a aT) z)
    · exact .inr ⟨_, vs.toArray, _, hk, rfl, rfl, rfl, by rw [List.size_toArray, lenV]; exact hl, by simpa using rv⟩
    · intro b u z
      by_cases m : b ∈ cs.map (·.2)
      · rw [yes b m] at z
        cases z
        exact isT b m
      · rw [no b m] at z
        cases z
    · intro b z
      by_cases m : b ∈ cs.map (·.2)
      · exact .inr m
      · exact absurd (no b m) z
  | none =>
    obtain ⟨H, eH⟩ : ∃ H : Hp, H = fun b => if b = a then some (.frz { cls := .type "list", data := .seq vs.toArray } (.lst (ns.map V.int))) else if b ∈ cs.map (·.2) then some (.tbl #[]) else none := ⟨_, rfl⟩
    have own : H a = some (.frz { cls := .type "list", data := .seq vs.toArray } (.lst (ns.map V.int))) := by rw [eH]; exact if_pos rfl
    have yes : ∀ b, b ∈ cs.map (·.2) → H b = some (.tbl #[]) := fun b m => by
      rw [eH]
      exact (if_neg (fun z : b = a => aT (by rw [← z]; exact m))).trans (if_pos m)
    have no : ∀ b, b ≠ a → b ∉ cs.map (·.2) → H b = none := fun b n m => by
      rw [eH]
      exact (if_neg n).trans (if_neg m)
    clear eH
    have hO : ∀ b, H b = none ∨ b ∈ cs.map (·.2) ∨ ∃ o xs, H b = some (.frz o (.lst xs)) := fun b => by
      by_cases n : b = a
      · subst n
        exact .inr (.inr ⟨_, _, own⟩)
      · by_cases m : b ∈ cs.map (·.2)
        · exact .inr (.inl m)
        · exact .inl (no b n m)
    refine coreGT KX hns hb hbb hlim hg hT nT C hbm ha hr F hbind hCX H (fun p hp => yes _ (inT p hp)) hO (hsp H (fun p hp => yes _ (inT p hp)) hO ?_) ?_ ?_ (fun _ => hk)
    · exact .inl (.inr ⟨{ cls := .type "list", data := .seq vs.toArray }, own⟩)
    · intro b u z
      by_cases n : b = a
      · subst n
        rw [own] at z
        cases z
        exact ⟨ha, by rw [List.length_map]; exact hl, vs, _, rv, ha⟩
      · by_cases m : b ∈ cs.map (·.2)
        · rw [yes b m] at z
          cases z
          exact isT b m
        · rw [no b n m] at z
          cases z
    · intro b z
      by_cases n : b = a
      · exact .inl n
      · by_cases m : b ∈ cs.map (·.2)
        · exact .inr m
        · exact absurd (no b n m) z
end
/-- what is known of the law's promise at the head's heap -/
def LawG (l : PySem.W.OpenLaw) (w : World) (K : PySem.W.Frag) (CX : CXT) (k n : Nat) (x : Str) (mg : Str → Option Value) (fa : Addr) (h : Heap) : Prop :=
  ∃ (fd : FuncData) (cs : List (Addr × Addr)) (sp : Sp), (∀ p ∈ cs, h.get? p.2 = some { cls := .none, data := .fields #[] }) ∧ (∀ p ∈ cs, K.lookup p.2 = none) ∧ (∀ p ∈ cs, PySem.W.CodeHd h p.1 p.2) ∧
    (∀ (s : Shared) (u : Value), BindsTo s fd ⟨[u], []⟩ [(x, u)]) ∧
    (∀ (H : Hp) (a : Addr) (ns : List Int), ns.length ≤ n → (∀ z ∈ ns, Builtin.Int.intBits z ≤ 1048576) → (∀ p ∈ cs, H p.2 = some (.tbl #[])) → (∀ b, H b = none ∨ b ∈ cs.map (·.2) ∨ ∃ o xs, H b = some (.frz o (.lst xs))) → SqL K H a (ns.map V.int) →
      sp [.ref a] H (fun v _ => v = .bl true) fun _ _ _ => False) ∧
    ∀ base : Heap, K.In base → base.Ns mainGlobals mg → (∀ p ∈ cs, TabB base mg p.1 p.2) → FnG l.prog w K mg base CX k fa fd [x] sp
theorem walkGT {l : PySem.W.OpenLaw} {n k : Nat} {q : Program} {loose : List Str} {XP : (Str → Option Value) → Heap → Prop} {YP : World → Heap → Prop} {d : DefRec} {K : Params → PySem.W.Frag} {CX : World → CXT} {x : Str}
    (hn : l.most = some n) (hn2 : n ≤ sizeLine) (hdf : d.params.defaults = []) (hr : Room k callerA) (hY : ∀ (w : World) (h : Heap), YP w h → (K w.params).In h)
    (F : ∀ (w : World) (mg : Str → Option Value) (fa : Addr) (h : Heap), YP w h → (K w.params).In h → h.Ns mainGlobals mg → mg d.name = some (.ref fa) → LawG l w (K w.params) (CX w) k n x mg fa h)
    (hCX : ∀ (w : World) (H : Hp) (s : Shared) (e : Value) (s' : Shared), CX w [] H s (fun _ _ _ => False) e s' → False) :
    PySem.W.WalkO q loose XP YP l.row.toRowW d [] (fun f vs => PySem.call f vs) := by
  refine Att.attach_callB hn hdf ?_
  intro w s₀ s₁ mg mb fa o pm cd doc a vs ns G Y ho hd hcd hmg hobj hints hlen hbits hg
  obtain ⟨fd, cs, sp, hT, nT, C, hb, hsp, hF⟩ := F w mg fa _ Y (hY w _ Y) G.T.g hmg
  exact law_callGT (hY w _ Y) G.T.g G.T.b G.T.builtins G.T.nolimit hg hT nT C G.T.bmain hobj hints (Nat.le_trans hlen hn2) hr hF hb (fun H hH hO hS => hsp H a ns hlen hbits hH hO hS) fun H e s' => hCX w H s₁ e s'
end Gd

set_option Elab.async false
set_option linter.all false
set_option maxRecDepth 100000
set_option maxHeartbeats 4000000
/-! isinstance(e, c) for an exception that keeps a field. -/
namespace IsW
open PySem PySem.Spec PySem.Calls PyProof.Rows PySem.W
section
variable {pg : Program} {wd : World} {B : Around} {Y : Value → Shared → Prop} {t : Shared} {K : Frag} {e D : Addr} {oe : Obj} {od : Option Obj}
theorem its_class {G : Option Value → Shared → Prop} (c : L2.ExcC K D) (X : K.In t.heap) (J : InstAt t.heap e oe D od) (done : G (some (.ref D)) { t with toks := t.toks + 1 }) :
    wpAny (model pg wd) B (getAttr? (.ref e) "__class__") G Y t := by
  have found : findObj K D od "__class__" = some (.bind (.builtin "getset_descriptor.__get__") (.builtin "object.__class__")) := by
    obtain ⟨cd, hc, _⟩ := any_some c.hd
    unfold findObj
    rw [show clsIn K D = some cd from hc, Option.bind_some, c.ha, Option.bind_some]
    simp [c.hn, c.ht]
  obtain ⟨a1, a2, a3, a4, a5⟩ := t
  have k0 := J.type (M := model pg wd)
  have k1 := looks_findIn (M := model pg wd) X c.hg
  have k2 := looks_findIn (M := model pg wd) X c.hk
  have k3 := looks_find (M := model pg wd) X J found
  have under : Looks (model pg wd) a1 (isInstance (.ref e) (.type "BaseException")) true := k0.andThen (looks_subIn X c.hs)
  have n2 : (Value.builtin "BaseException.__getattribute__" == Value.builtin "object.__getattribute__") = false := by decide +kernel
  have n1 : (onTheHeap (Value.ref D) && Value.builtin "BaseException.__getattribute__" == Value.builtin "object.__getattribute__") = false := by
    rw [n2]
    rfl
  unfold getAttr?
  unfold getAttrBy? getAttrBy
  refine wpAny_bind (wpAny_mkText (wpAny_bind (wpAny_attempt (wpAny_holding (wpAny_bind (k0.at (wpAny_bind (k1.at ?_))))))))
  show wpAny _ _ (if (onTheHeap (Value.ref D) && Value.builtin "BaseException.__getattribute__" == Value.builtin "object.__getattribute__") = true then _ else _) _ _ (_ : Shared)
  rw [n1, if_neg Bool.false_ne_true]
  unfold getAttrByItsOwn
  unfold hookBefore
  refine wpAny_bind ?_
  have onh : onTheHeap (Value.ref D) = true := rfl
  rw [if_pos onh]
  refine k2.at ?_
  refine wpAny_bind ?_
  refine wpAny_attempt (wpAny_holding ?_)
  unfold callGetattribute
  have n0 : (false && onTheHeap (Value.builtin "BaseException.__getattribute__")) = false := rfl
  rw [n0, if_neg Bool.false_ne_true]
  unfold boundAndCalled
  rw [PySem.F.excAttr_ValueError.ga.bind (.ref e)]
  refine wpAny_bind ?_
  refine wpAny_pure ?_
  show wpAny _ _ (call (.builtin "BaseException.__getattribute__") [.ref e, .str "__class__" a4]) _ _ (_ : Shared)
  have pl := PySem.F.excAttr_ValueError.ga.plain
  refine wpAny_call (codeAny_call_builtin pl PySem.F.entry_bexc_ga ?_)
  refine @check_slot (model pg wd) _ _ ⟨a1, a2, a3, a4 + 1, a5⟩ "BaseException.__getattribute__" "BaseException" "__getattribute__" (.ref e) [.str "__class__" a4] [] _ (by decide +kernel) (by decide +kernel) under (PySem.F.args_bexc_ga (.ref e) (.str "__class__" a4)) ?_
  unfold Builtin.«object.__getattribute__» -- the same body
  refine wpAny_bind (wpAny_of_eq (a := ((Value.ref e : Value), [Value.str "__class__" a4])) (by first | rfl | (simp only [slotArgs]; rfl)) ?_)
  refine wpAny_bind (wpAny_pure (wpAny_bind (k0.at (wpAny_bind (k3.at ?_)))))
  show wpAny _ _ (holding [Value.builtin "object.__class__"] (call (.builtin "getset_descriptor.__get__") [.builtin "object.__class__", .ref e, .ref D]) >>= ret) _ _ (_ : Shared)
  refine wpAny_bind (wpAny_holding (wpAny_call (class_get (s := ⟨a1, a2, a3, a4 + 1, a5⟩) (ox := oe) (od := od) X J c.hm ?_)))
  refine wpAny_pure ?_
  show wpAny _ _ (handedOut (.ref D)) _ _ (_ : Shared)
  have out := handedOut_of (v := Value.ref D) rfl
  rw [out]
  first
    | exact wpAny_pure (wpAny_pure done)
    | exact wpAny_pure done
    | exact wpAny_pure (wpAny_bind (wpAny_pure (wpAny_pure done)))
/-- what the rules of isinstance ask of it -/
theorem kit (c : L2.ExcC K D) : KitX K (.ref e) (.ref D) (fun h => InstAt h e oe D od) := by
  obtain ⟨cd, hc, _⟩ := any_some c.hd
  unfold clsIn at hc
  split at hc
  · rename_i c1 d1 cd1 s1 look
    refine ⟨fun _ _ _ J => J.type, fun _ _ X _ => ?_, fun h tp dd its n sl X at_ => ?_, fun X J q => its_class c X J q⟩
    · intro A' Q' E' s' keep q
      unfold isType loadHead
      exact wpAny_bind (wpAny_loadPart (keep _ _ (X _ _ look)) (wpAny_pure q))
    · refine Bool.eq_false_iff.mpr fun q => ?_
      obtain rfl : D = tp := Value.ref.inj (beq_iff_eq.mp q)
      have z := (X _ _ look).symm.trans at_
      cases z
  · cases hc
end
end IsW
namespace Gd
open PySem PySem.Spec PyProof.Rows L2
/-- isinstance(e, c), e the exception at a with a field, whose dict stands at dd -/
def rIsF (K : PySem.W.Frag) (D a dd : Addr) : List V → Hp → VK → Prop := fun xs H Q => ∃ (c : V) (cv : Value) (b : Bool) (fs : List (Str × V)), xs = [.ref a, c] ∧ (∀ u, RelV c u → u = cv) ∧ H dd = some (.xd fs) ∧ PySem.W.kitOne K (.ref D) cv = some b ∧ Q (.bl b) H
theorem call_isF {X : Cx} {a D dd : Addr} {oe : Obj} {pn : List (Addr × Obj)} (C : ExcC X.K D) (hz : Zc (.ref D) (some dd) oe) (hf : ∃ vs, oe.data = .fields vs) : CallR (X.suite a ((a, oe) :: pn)) (.builtin "isinstance") (rIsF X.K D a dd) := by
  intro pins s σ H args us Q I r h
  obtain ⟨c, cv, b, fs, rfl, hcv, hd, kt, q⟩ := h
  obtain ⟨va, vc, rfl, r1, r2⟩ := vals2 r
  cases r1
  obtain rfl := hcv _ r2
  obtain ⟨here, _⟩ := I.pin (a, oe) (List.mem_append.mpr (.inl List.mem_cons_self))
  obtain ⟨vs, hv⟩ := hf
  have hx : ObjOk X.prog X.w H s.heap dd (.xd fs) := I.hok dd _ hd
  obtain ⟨mA, ⟨od, es, ep, ed, _⟩, _⟩ := hx
  have J : PySem.W.InstAt s.heap a oe D (some od) := by
    obtain ⟨oc, o2, oda, osl⟩ := oe
    obtain ⟨h1, h2⟩ := hz
    dsimp only at h1 h2 hv
    subst h1 h2 hv
    exact ⟨here, rfl, rfl, ed⟩
  exact PySem.W.kia_one (IsW.kit C) I.kIn J kt (fun z => nomatch z) fun tk => ⟨.bl b, H, I.kept (t' := tk) fun _ _ z => z, rfl, q⟩
end Gd

set_option Elab.async false
set_option linter.all false
set_option maxRecDepth 100000
set_option maxHeartbeats 4000000
/-! The text by places, and integers. -/
namespace K0
open PySem PySem.Spec PyProof.Rows L2 Gd
local macro_rules | `(tactic| walk_at "rd1") => `(tactic| first | with_reducible refine g_ret ?_ | with_reducible refine g_retN ?_ | with_reducible refine g_seq ?_ | with_reducible refine g_next ?_ | with_reducible refine g_drop ?_ | with_reducible refine g_asg ?_ | with_reducible refine g_name ?_ | with_reducible refine g_ifs ?_ | with_reducible refine g_test ?_ | with_reducible refine g_tb ?_ | with_reducible refine g_and ?_ | with_reducible refine g_or ?_ | with_reducible refine g_not ?_ | with_reducible refine g_andV ?_ | with_reducible refine g_orV ?_ | with_reducible refine g_notV ?_ | with_reducible refine g_if ?_ | with_reducible refine g_op ?_ | with_reducible refine g_un ?_ | with_reducible refine g_cb ?_ | with_reducible refine g_nil ?_ | with_reducible refine g_cons ?_ | with_reducible refine g_call ?_ | with_reducible refine g_callS ?_ | with_reducible refine g_tup ?_ | with_reducible refine g_lst ?_ | with_reducible refine g_isN ?_ | with_reducible refine g_sl ?_ | with_reducible refine g_nopart ?_ | with_reducible refine g_part ?_ | with_reducible refine g_chain ?_ | with_reducible refine g_fld ?_ | with_reducible refine g_prop ?_ | with_reducible refine g_bm ?_ | with_reducible refine g_bm0 ?_ | with_reducible refine g_c ?_ | with_reducible refine g_sub ?_ | with_reducible refine g_int1 ?_ | with_reducible refine g_int2 ?_ | with_reducible refine g_yes ?_ | with_reducible refine g_sfld ?_ | with_reducible refine g_NT ?_ | with_reducible refine g_NF ?_ | with_reducible refine iteT ?_ | with_reducible refine iteF ?_ | ((with_reducible refine' g_aug ?hv ?_); (case hv => exact rfl)) | ((with_reducible refine' g_var ?hv ?_); (case hv => exact rfl)) | with_reducible refine g_I0 ?_ | with_reducible refine g_U ?_ | with_reducible refine g_eqI ?_ | with_reducible refine g_blV ?_ | with_reducible refine g_inV ?_)
local macro_rules | `(tactic| walk_at "rd") => `(tactic| repeat walk_at "rd1")
def top (i : Nat) : Stmt := PySem.Challenge.pw_primekinds_k05_errors_of_polynomials.main.body.getD i (.Pass ⟨0, 0, 0, 0⟩)
abbrev sWhole : Stmt := top 12
abbrev sInteger : Stmt := top 13
abbrev sIndex : Stmt := top 17
abbrev sTrimmed : Stmt := top 19
def cls (j : Nat) : Stmt := inClass (top 38) j

/-- what is known of the module's names -/
structure Txt (K : PySem.W.Frag) (mg : Str → Option Value) : Prop where
  isinstance : mg "isinstance" = none
  int : mg "int" = none
  bool : mg "bool" = none
  tuple : mg "tuple" = none
  list : mg "list" = none
  len : mg "len" = none
  all : mg "all" = none
  iter : mg "iter" = none
  bound : ∃ t, mg "BOUND" = some (.int (10 ^ 60) t)
  most : ∃ t, mg "MAX_FACTORS" = some (.int 400 t)

section
variable {P : Program} {w : World} {K : PySem.W.Frag} {mg : Str → Option Value} {base : Heap}

theorem dec_l {p q : Prop} [Decidable p] [Decidable q] (h : p) : decide (p ∧ q) = decide q := by simp [h]
theorem dec_n {p q : Prop} [Decidable p] [Decidable q] (h : ¬ p) : decide (p ∧ q) = false := by simp [h]
/-! ### is_whole -/
/-- whether a value is an integer other than True and False -/
def WholeB (K : PySem.W.Frag) (H : Hp) (x : V) (b : Bool) : Prop := ∃ t b1 b2, TyX K H x t ∧ PySem.W.kitOne K t (.type "int") = some b1 ∧
  PySem.W.kitOne K t (.type "bool") = some b2 ∧ b = (b1 && !b2)
theorem whole_int {H : Hp} {i : Int} : WholeB K H (.int i) true := ⟨_, true, false, .base (.int i), by kernel_rfl, by kernel_rfl, rfl⟩
theorem whole_bl {H : Hp} {b : Bool} : WholeB K H (.bl b) false := ⟨_, true, true, .base (.bl b), by kernel_rfl, by kernel_rfl, rfl⟩
theorem whole_non {H : Hp} : WholeB K H .non false := ⟨_, false, false, .base .non, by kernel_rfl, by kernel_rfl, rfl⟩
theorem whole_str {H : Hp} {x : Str} : WholeB K H (.str x) false := ⟨_, false, false, .base (.str x), by kernel_rfl, by kernel_rfl, rfl⟩
theorem whole_tup {H : Hp} {a : Addr} {xs : List V} (h : H a = some (.tup xs)) : WholeB K H (.ref a) false := ⟨_, false, false, .base (.tup h), by kernel_rfl, by kernel_rfl, rfl⟩
def spWhole (K : PySem.W.Frag) : Sp := fun vs H Q _ => ∃ x b, vs = [x] ∧ WholeB K H x b ∧ Q (.bl b) H
theorem scWhole : FnScope ["value"] ["value"] (defScope sWhole) := ⟨rfl, rfl, rfl, by decide +kernel, rfl, by decide +kernel, by decide +kernel⟩
theorem ok_whole {f : Addr} {fd : FuncData} (F : Fun K "is_whole" "is_whole" sWhole f fd) (T : Txt K mg) : FnOk P w K mg base CX0 1 f fd ["value"] (spWhole K) := by
  refine F.ok scWhole (fun vs H Q E h => ?_) (fun cdv A outer s H vs Q E hr h => ?_)
  · obtain ⟨x, b, rfl, _⟩ := h
    rfl
  · obtain ⟨x, b, rfl, ⟨t, b1, b2, ty, k1, k2, rfl⟩, k⟩ := h
    refine ⟨_, pss_one (ps_ret (pe_and (pe_callB call_isi (by rfl) T.isinstance (by decide +kernel) (pa_cons (pv 0) (pa_cons (pe_bltn (v := .ty "int") (by rfl) T.int (by decide +kernel) rfl) pa_nil)))
      (pe_one (pe_not (pe_callB call_isi (by rfl) T.isinstance (by decide +kernel) (pa_cons (pv 0) (pa_cons (pe_bltn (v := .ty "bool") (by rfl) T.bool (by decide +kernel) rfl) pa_nil))))))), ?_⟩
    walk_at "rd"
    refine ⟨_, _, _, _, _, rfl, .ty _, ty, k1, ?_⟩
    walk_at "rd"
    refine ite2 (fun h1 => ?_) (fun h1 => ?_)
    · walk_at "rd"
      refine ⟨_, _, _, _, _, rfl, .ty _, ty, k2, ?_⟩
      walk_at "rd"
      rw [h1] at k
      exact k
    · rw [Bool.not_eq_true] at h1
      rw [h1] at k
      exact k

/-! ### is_integer -/
def IntB (K : PySem.W.Frag) (H : Hp) (x : V) (b : Bool) : Prop := (∃ i : Int, x = .int i ∧ b = decide (-(10 ^ 60) < i ∧ i < 10 ^ 60)) ∨ (WholeB K H x false ∧ b = false)
def spInteger (K : PySem.W.Frag) : Sp := fun vs H Q _ => ∃ x b, vs = [x] ∧ IntB K H x b ∧ Q (.bl b) H
theorem scInteger : FnScope ["value"] ["value"] (defScope sInteger) := ⟨rfl, rfl, rfl, by decide +kernel, rfl, by decide +kernel, by decide +kernel⟩
/-- where is_whole stands -/
structure AtW (K : PySem.W.Frag) (mg : Str → Option Value) (f : Addr) (fd : FuncData) : Prop where
  F : Fun K "is_whole" "is_whole" sWhole f fd
  b : Binds K fd ["value"] []
  g : mg "is_whole" = some (.ref f)
theorem ok_integer {f fW : Addr} {fd fdW : FuncData} (F : Fun K "is_integer" "is_integer" sInteger f fd) (T : Txt K mg) (W : AtW K mg fW fdW) : FnOk P w K mg base CX0 2 f fd ["value"] (spInteger K) := by
  have GW : FnOk P w K mg base CX0 1 fW fdW ["value"] (spWhole K) := ok_whole W.F T
  obtain ⟨tB, gB⟩ := T.bound
  refine F.ok scInteger (fun vs H Q E h => ?_) (fun cdv A outer s H vs Q E hr h => ?_)
  · obtain ⟨x, b, rfl, _⟩ := h
    rfl
  · obtain ⟨x, b, rfl, hx, k⟩ := h
    refine ⟨_, pss_one (ps_ret (pe_and (pe_call GW hr (by rfl) W.g W.F.kp W.b .nil pass0 (pa_cons (pv 0) pa_nil))
      (pe_one (pe_chain op_lt op_lt (pe_un un_neg (pe_glob (v := .int (10 ^ 60)) (by rfl) gB ⟨_, rfl⟩)) (pv 0) (pe_glob (v := .int (10 ^ 60)) (by rfl) gB ⟨_, rfl⟩))))), ?_⟩
    walk_at "rd"
    rcases hx with ⟨i, rfl, rfl⟩ | ⟨hx, rfl⟩
    · refine ⟨_, true, rfl, whole_int, ?_⟩
      walk_at "rd"
      try refine iteT ?_
      walk_at "rd"
      refine ite2 (fun h1 => ?_) (fun h1 => ?_)
      · walk_at "rd"
        have e : decide (-(10 ^ 60) < i ∧ i < 10 ^ 60) = decide (i < 10 ^ 60) := dec_l (of_decide_eq_true h1)
        rw [e] at k
        exact k
      · have h2 : ¬ (-(10 ^ 60) : Int) < i := fun z => h1 (decide_eq_true z)
        have e : decide (-(10 ^ 60) < i ∧ i < 10 ^ 60) = false := dec_n h2
        rw [e] at k
        exact k
    · refine ⟨_, false, rfl, hx, ?_⟩
      walk_at "rd"
      first | exact k | exact iteF k

/-! ### require_index -/
def IndexOk (K : PySem.W.Frag) (H : Hp) (x : V) (b : Bool) : Prop := (∃ i : Int, x = .int i ∧ b = decide (0 ≤ i ∧ i < 10 ^ 60)) ∨ (WholeB K H x false ∧ b = false)
def spIndex (K : PySem.W.Frag) (C : Addr) : Sp := fun vs H Q E => ∃ x b, vs = [x] ∧ IndexOk K H x b ∧ (b = true → Q .non H) ∧
  (b = false → ∀ d, H d = none → E (.ref C) (some d) (upd H d (.xd [(("value" : Str), x)])))
structure AtI (K : PySem.W.Frag) (mg : Str → Option Value) (f : Addr) (fd : FuncData) : Prop where
  F : Fun K "is_integer" "is_integer" sInteger f fd
  b : Binds K fd ["value"] []
  g : mg "is_integer" = some (.ref f)
theorem scIndex : FnScope ["value"] ["value"] (defScope sIndex) := ⟨rfl, rfl, rfl, by decide +kernel, rfl, by decide +kernel, by decide +kernel⟩
theorem ok_index {f fW fI C fC : Addr} {fd fdW fdI : FuncData} (F : Fun K "require_index" "require_index" sIndex f fd) (T : Txt K mg) (W : AtW K mg fW fdW) (I : AtI K mg fI fdI) (N : PySem.XInvalidNumber.InvalidNumberTxt K mg C fC) :
    FnOk P w K mg base (L2.CX P w) 4 f fd ["value"] (spIndex K C) := by
  have GI : FnOk P w K mg base CX0 2 fI fdI ["value"] (spInteger K) := ok_integer I.F T W
  refine F.okX scIndex (fun vs H Q E h => ?_) (fun cdv A outer s H vs Q E hr h => ?_)
  · obtain ⟨x, b, rfl, _⟩ := h
    rfl
  · obtain ⟨x, b, rfl, hx, k1, k2⟩ := h
    refine ⟨_, pss_one (ps_if (PW.pt (pw_or (pt_not (pt_val (pe_call GI (hr.mono (by decide)) (by rfl) I.g I.F.kp I.b .nil pass0 (pa_cons (pv 0) pa_nil)))) (pw_or1 (pt_cmpR op_lt (pv 0) pe_int (nomark _)))))
      (pss_one (ps_raiseInvalidNumber rfl N hr (takes_of rfl rfl rfl rfl) (by exact (pa_cons (pv 0) pa_nil)))) pss_nil), ?_⟩
    walk_at "rd"
    rcases hx with ⟨i, rfl, rfl⟩ | ⟨hx, rfl⟩
    · refine ⟨_, _, rfl, .inl ⟨i, rfl, rfl⟩, ?_⟩
      walk_at "rd"
      by_cases h1 : -(10 ^ 60) < i ∧ i < 10 ^ 60
      · rw [decide_eq_true h1]
        try refine iteF ?_
        walk_at "rd"
        by_cases h2 : i < 0
        · rw [decide_eq_true h2]
          try refine iteT ?_
          refine ⟨_, rfl, _, rfl, ?_⟩
          exact k2 (decide_eq_false (by omega))
        · rw [decide_eq_false h2]
          try refine iteF ?_
          exact k1 (decide_eq_true (by omega))
      · rw [decide_eq_false h1]
        iterate 2 (try refine iteT ?_)
        refine ⟨_, rfl, _, rfl, ?_⟩
        exact k2 (decide_eq_false (by omega))
    · refine ⟨_, _, rfl, .inr ⟨hx, rfl⟩, ?_⟩
      walk_at "rd"
      iterate 2 (try refine iteT ?_)
      refine ⟨_, rfl, _, rfl, ?_⟩
      exact k2 rfl
end
end K0

set_option Elab.async false
set_option linter.all false
set_option maxRecDepth 100000
set_option maxHeartbeats 4000000
/-! Rows without zeros at their end. -/
namespace K0
open PySem PySem.Spec PyProof.Rows L2 Gd
local macro_rules | `(tactic| walk_at "rd1") => `(tactic| first | with_reducible refine g_ret ?_ | with_reducible refine g_retN ?_ | with_reducible refine g_seq ?_ | with_reducible refine g_next ?_ | with_reducible refine g_drop ?_ | with_reducible refine g_asg ?_ | with_reducible refine g_name ?_ | with_reducible refine g_ifs ?_ | with_reducible refine g_test ?_ | with_reducible refine g_tb ?_ | with_reducible refine g_and ?_ | with_reducible refine g_or ?_ | with_reducible refine g_not ?_ | with_reducible refine g_andV ?_ | with_reducible refine g_orV ?_ | with_reducible refine g_notV ?_ | with_reducible refine g_if ?_ | with_reducible refine g_op ?_ | with_reducible refine g_un ?_ | with_reducible refine g_cb ?_ | with_reducible refine g_nil ?_ | with_reducible refine g_cons ?_ | with_reducible refine g_call ?_ | with_reducible refine g_callS ?_ | with_reducible refine g_tup ?_ | with_reducible refine g_lst ?_ | with_reducible refine g_isN ?_ | with_reducible refine g_sl ?_ | with_reducible refine g_nopart ?_ | with_reducible refine g_part ?_ | with_reducible refine g_chain ?_ | with_reducible refine g_fld ?_ | with_reducible refine g_prop ?_ | with_reducible refine g_bm ?_ | with_reducible refine g_bm0 ?_ | with_reducible refine g_c ?_ | with_reducible refine g_sub ?_ | with_reducible refine g_int1 ?_ | with_reducible refine g_int2 ?_ | with_reducible refine g_yes ?_ | with_reducible refine g_sfld ?_ | with_reducible refine g_NT ?_ | with_reducible refine g_NF ?_ | with_reducible refine iteT ?_ | with_reducible refine iteF ?_ | ((with_reducible refine' g_aug ?hv ?_); (case hv => exact rfl)) | ((with_reducible refine' g_var ?hv ?_); (case hv => exact rfl)) | with_reducible refine g_I0 ?_ | with_reducible refine g_U ?_ | with_reducible refine g_eqI ?_ | with_reducible refine g_blV ?_ | with_reducible refine g_inV ?_)
local macro_rules | `(tactic| walk_at "rd") => `(tactic| repeat walk_at "rd1")
/-! ### the mathematics -/
def trim : List Int → List Int
  | [] => []
  | x :: r => match trim r with
    | [] => if x = 0 then [] else [x]
    | y :: s => x :: y :: s
theorem trim_take : ∀ (ns : List Int) (e : Nat), e ≤ ns.length → (∀ j x, e ≤ j → ns[j]? = some x → x = 0) →
    (e = 0 ∨ ∃ x, ns[e - 1]? = some x ∧ x ≠ 0) → trim ns = ns.take e
  | [], e, h, _, _ => by
    have : e = 0 := Nat.le_zero.mp h
    subst this
    rfl
  | x :: r, 0, _, hz, _ => by
    have ih := trim_take r 0 (Nat.zero_le _) (fun j y _ e => hz (j + 1) y (Nat.zero_le _) e) (.inl rfl)
    have hx : x = 0 := hz 0 x (Nat.le_refl _) rfl
    unfold trim
    rw [ih]
    show (if x = 0 then [] else [x]) = []
    rw [if_pos hx]
  | x :: r, 1, _, hz, hl => by
    have ih := trim_take r 0 (Nat.zero_le _) (fun j y _ e => hz (j + 1) y (by omega) e) (.inl rfl)
    have hx : x ≠ 0 := by
      rcases hl with hl | ⟨y, e, hy⟩
      · cases hl
      · cases e
        exact hy
    unfold trim
    rw [ih]
    show (if x = 0 then [] else [x]) = [x]
    rw [if_neg hx]
  | x :: r, e + 2, h, hz, hl => by
    have hl' : e + 1 ≤ r.length := by simpa using h
    have ih := trim_take r (e + 1) hl' (fun j y g q => hz (j + 1) y (by omega) q) (.inr (by
      rcases hl with hl | ⟨y, q, hy⟩
      · cases hl
      · exact ⟨y, q, hy⟩))
    unfold trim
    rw [ih]
    cases r with
    | nil => simp at hl'
    | cons y s => rfl
theorem trim_len (ns : List Int) : (trim ns).length ≤ ns.length := by
  induction ns with
  | nil => exact Nat.le_refl _
  | cons x r ih =>
    unfold trim
    split
    · split <;> simp
    · rename_i y s e
      rw [e] at ih
      simp only [List.length_cons] at ih ⊢
      omega
theorem trim_mem (ns : List Int) : ∀ x ∈ trim ns, x ∈ ns := by
  induction ns with
  | nil => intro x h; exact h
  | cons y r ih =>
    intro x h
    unfold trim at h
    split at h
    · split at h
      · cases h
      · rcases List.mem_cons.mp h with rfl | h
        · exact List.mem_cons_self
        · cases h
    · rename_i z s e
      rw [e] at ih
      rcases List.mem_cons.mp h with rfl | h
      · exact List.mem_cons_self
      · exact List.mem_cons_of_mem _ (ih x h)

/-! ### trimmed -/
section
variable {P : Program} {w : World} {K : PySem.W.Frag} {mg : Str → Option Value} {base : Heap}
/-- the same things, all that was known is known still -/
def Ext (H H' : Hp) : Prop := ∀ b o, H b = some o → H' b = some o
theorem Ext.rfl' {H : Hp} : Ext H H := fun _ _ h => h
theorem Ext.new {H : Hp} {p : Addr} {o : HO} (h : H p = none) : Ext H (upd H p o) := fun b u e => by
  rw [upd_ne (ne_of_none e h)]
  exact e
theorem Ext.trans {H H1 H2 : Hp} (a : Ext H H1) (b : Ext H1 H2) : Ext H H2 := fun c o h => b c o (a c o h)
theorem mapget {ns : List Int} {i : Nat} : (ns.map V.int)[i]? = (ns[i]?).map V.int := List.getElem?_map
def spTrimmed (K : PySem.W.Frag) : Sp := fun vs H Q _ => ∃ (a : Addr) (ns : List Int), vs = [.ref a] ∧ SqT K H a (ns.map V.int) ∧ ns.length ≤ 100000 ∧
  ∀ H' u, Ext H H' → SqT K H' u ((trim ns).map V.int) → Q (.ref u) H'
/-- the measure: the int in a slot -/
def muI (i : Nat) : L2.St → Hp → Nat := fun σ _ => match σ[i]? with | some (some (.int e)) => e.toNat | _ => 0
def PvT (a : Addr) (H0 : Hp) (ns : List Int) : L2.St → Hp → Prop := fun σ H' => H' = H0 ∧ ∃ e : Nat, σ = [some (.ref a), some (.int (e : Int))] ∧ e ≤ ns.length ∧ ∀ j x, e ≤ j → ns[j]? = some x → x = 0
theorem scTrimmed : FnScope ["row", "end"] ["row"] (defScope sTrimmed) := ⟨rfl, rfl, rfl, by decide +kernel, rfl, by decide +kernel, by decide +kernel⟩
theorem ok_trimmed {f : Addr} {fd : FuncData} (F : Fun K "trimmed" "trimmed" sTrimmed f fd) (T : Txt K mg) : FnOk P w K mg base CX0 1 f fd ["row"] (spTrimmed K) := by
  refine F.ok scTrimmed (fun vs H Q E h => ?_) (fun cdv A outer s H vs Q E hr h => ?_)
  · obtain ⟨x, b, rfl, _⟩ := h
    rfl
  · obtain ⟨a, ns, rfl, hs, hl, k⟩ := h
    refine ⟨_, pss_cons (ps_set (i := 1) scTrimmed.nd rfl (Or.inl rfl) (pe_callB call_len_seq (by rfl) T.len PySem.boot_len (pa_cons (pv 0) pa_nil)))
      (pss_cons (ps_while PassesOwn.never (PW.pt (pw_and (pt_cmpR op_gt (pv 1) pe_int (nomark _)) (pw_and1 (pt_cmpR op_eq (pe_ix ix_tup (pv 0) (pe_op op_sub (pv 1) pe_int) (fun _ _ => rfl)) pe_int (nomark _)))))
          (pss_one (ps_aug (i := 1) scTrimmed.nd rfl (Or.inl rfl) pe_int ip_sub)))
        (pss_one (ps_ret (pe_callTy call_tupleT (by rfl) T.tuple (by decide +kernel) (pa_cons (pe_slice sl_tupA (pv 0) po_none (po_some (pv 1))) pa_nil))))), ?_⟩
    walk_at "rd"
    refine ⟨a, _, rfl, .inr hs, ?_⟩
    walk_at "rd"
    refine g_while (PvT a H ns) (muI 1) ⟨rfl, ns.length, by rw [List.length_map]; rfl, Nat.le_refl _, fun j x g e => by
        rw [List.getElem?_eq_none_iff.mpr g] at e
        cases e⟩ ?_
    rintro σ H' ⟨rfl, e, rfl, he, hz⟩
    walk_at "rd"
    have fin : (e = 0 ∨ ∃ x, ns[e - 1]? = some x ∧ x ≠ 0) → tRet (tCB (fun xs H Q => ∃ a ys, xs = [V.ref a] ∧ SqT K H a ys ∧ Q (V.ref a) H) (tCons (tSl (rSlA K) (tVar 0) tNoPart (tPart (tVar 1))) tNil))
        { nx := fun x H' => Q V.non H', rt := Q } [some (V.ref a), some (V.int (e : Int))] H' := by
      intro hl'
      have et := trim_take ns e he hz hl'
      walk_at "rd"
      have s1 : HT.sIx (ns.map V.int).length 0 none = 0 := rfl
      have s2 : HT.sIx (ns.map V.int).length (ns.map V.int).length (some (e : Int)) = e := by
        rw [HT.sIx_nat, List.length_map]
        omega
      refine ⟨a, _, rfl, hs, fun q => ?_, fun q p hp => ?_⟩
      · rw [s1, s2] at q
        have : trim ns = ns := by rw [et, List.take_of_length_le (by have := q.2; rw [List.length_map] at this; omega)]
        refine ⟨_, _, rfl, hs, k _ a Ext.rfl' ?_⟩
        rw [this]
        exact hs
      · refine ⟨_, _, rfl, SqT.of upd_same, k _ p (Ext.new hp) ?_⟩
        have ec : cutV (ns.map V.int) none (some (e : Int)) = (trim ns).map V.int := by
          unfold cutV
          rw [s1, s2, et, List.drop_zero, Nat.sub_zero, List.map_take]
        rw [← ec]
        exact SqT.of upd_same
    refine ite2 (fun h1 => ?_) (fun h1 => ?_)
    · have h1' : 0 < e := by
        have := of_decide_eq_true h1
        omega
      walk_at "rd"
      have hlt : e - 1 < ns.length := by omega
      have ge : (ns.map V.int)[e - 1]? = some (V.int ns[e - 1]) := by rw [mapget, List.getElem?_eq_getElem hlt]; rfl
      refine g_ixT hs (v := .int ns[e - 1]) ?_ ?_
      · have := atI_nat ge
        have q : ((e : Int) - 1) = ((e - 1 : Nat) : Int) := by omega
        rw [q]
        exact this
      walk_at "rd"
      refine ite2 (fun h2 => ?_) (fun h2 => ?_)
      · refine g_turn ?_
        walk_at "rd"
        refine ⟨_, _, rfl, rfl, ?_⟩
        refine ⟨⟨rfl, e - 1, ?_, by omega, fun j x g q => ?_⟩, ?_⟩
        · show [some (V.ref a), some (V.int ((e : Int) - 1))] = _
          have q : ((e : Int) - 1) = ((e - 1 : Nat) : Int) := by omega
          rw [q]
        · by_cases hj : j = e - 1
          · subst hj
            rw [List.getElem?_eq_getElem hlt] at q
            cases q
            exact of_decide_eq_true h2
          · exact hz j x (by omega) q
        · show ((e : Int) - 1).toNat < ((e : Int)).toNat
          omega
      · refine fin (.inr ⟨_, List.getElem?_eq_getElem hlt, fun z => h2 (decide_eq_true z)⟩)
    · refine iteF (fin (.inl ?_))
      have : ¬ (0 : Int) < (e : Int) := fun z => h1 (decide_eq_true z)
      omega
end
end K0

set_option Elab.async false
set_option linter.all false
set_option maxRecDepth 100000
set_option maxHeartbeats 4000000
/-! The class Poly. -/
namespace K0
open PySem PySem.Spec PyProof.Rows L2 Gd
local macro_rules | `(tactic| walk_at "rd1") => `(tactic| first | with_reducible refine g_ret ?_ | with_reducible refine g_retN ?_ | with_reducible refine g_seq ?_ | with_reducible refine g_next ?_ | with_reducible refine g_drop ?_ | with_reducible refine g_asg ?_ | with_reducible refine g_name ?_ | with_reducible refine g_ifs ?_ | with_reducible refine g_test ?_ | with_reducible refine g_tb ?_ | with_reducible refine g_and ?_ | with_reducible refine g_or ?_ | with_reducible refine g_not ?_ | with_reducible refine g_andV ?_ | with_reducible refine g_orV ?_ | with_reducible refine g_notV ?_ | with_reducible refine g_if ?_ | with_reducible refine g_op ?_ | with_reducible refine g_un ?_ | with_reducible refine g_cb ?_ | with_reducible refine g_nil ?_ | with_reducible refine g_cons ?_ | with_reducible refine g_call ?_ | with_reducible refine g_callS ?_ | with_reducible refine g_tup ?_ | with_reducible refine g_lst ?_ | with_reducible refine g_isN ?_ | with_reducible refine g_sl ?_ | with_reducible refine g_nopart ?_ | with_reducible refine g_part ?_ | with_reducible refine g_chain ?_ | with_reducible refine g_fld ?_ | with_reducible refine g_prop ?_ | with_reducible refine g_bm ?_ | with_reducible refine g_bm0 ?_ | with_reducible refine g_c ?_ | with_reducible refine g_sub ?_ | with_reducible refine g_int1 ?_ | with_reducible refine g_int2 ?_ | with_reducible refine g_yes ?_ | with_reducible refine g_sfld ?_ | with_reducible refine g_NT ?_ | with_reducible refine g_NF ?_ | with_reducible refine iteT ?_ | with_reducible refine iteF ?_ | ((with_reducible refine' g_aug ?hv ?_); (case hv => exact rfl)) | ((with_reducible refine' g_var ?hv ?_); (case hv => exact rfl)) | with_reducible refine g_I0 ?_ | with_reducible refine g_U ?_ | with_reducible refine g_eqI ?_ | with_reducible refine g_blV ?_ | with_reducible refine g_inV ?_)
local macro_rules | `(tactic| walk_at "rd") => `(tactic| repeat walk_at "rd1")
section
variable {P : Program} {w : World} {K : PySem.W.Frag} {mg : Str → Option Value} {base : Heap}
/-- the class at C -/
structure PC (K : PySem.W.Frag) (mg : Str → Option Value) (C : Addr) : Prop where
  cl : Cls K C
  noF : NoAttr K C "_factors"
  g : mg "Poly" = some (.ref C)
  kp : PySem.W.keepIn K (.ref C) = true
  ha : PySem.W.findIn K (.ref C) "__class__" = some (some (.builtin "object.__class__"))
  hn : PySem.W.specialIn K (.builtin "object.__class__") "__get__" = some (some (.builtin "getset_descriptor.__get__"))
  htk : PySem.W.takesIn K (.builtin "object.__class__") = some true
  hm : PySem.W.mroIn K C (.type "object") = some true
  kit : PySem.W.kitOne K (.ref C) (.ref C) = some true
  ne : NeC K C
theorem PC.ty {C : Addr} (T : PC K mg C) {H : Hp} {p dx : Addr} {fs : List (Str × V)} (h : H p = some (.ins C dx fs)) : TyX K H (.ref p) (.ref C) := .base (.ins h T.cl T.ha T.hn T.htk T.hm)
/-- a polynomial at p: its tuple at u has the factors ns -/
def PolyU (K : PySem.W.Frag) (C : Addr) (H : Hp) (p u : Addr) (ns : List Int) : Prop := (∃ dx, H p = some (.ins C dx [(("_factors" : Str), .ref u)])) ∧ SqT K H u (ns.map V.int) ∧ ns.length ≤ 100000
theorem sqT_ext {H H' : Hp} {a : Addr} {xs : List V} (e : Ext H H') (h : SqT K H a xs) : SqT K H' a xs := by
  rcases h with (h | ⟨o, h⟩) | h
  · exact .inl (.inl (e _ _ h))
  · exact .inl (.inr ⟨o, e _ _ h⟩)
  · exact .inr h
theorem sqL_ext {H H' : Hp} {a : Addr} {xs : List V} (e : Ext H H') (h : SqL K H a xs) : SqL K H' a xs := by
  rcases h with (h | ⟨o, h⟩) | h
  · exact .inl (.inl (e _ _ h))
  · exact .inl (.inr ⟨o, e _ _ h⟩)
  · exact .inr h
theorem PolyU.ext {C p u : Addr} {H H' : Hp} {ns : List Int} (e : Ext H H') (h : PolyU K C H p u ns) : PolyU K C H' p u ns := by
  obtain ⟨⟨dx, h1⟩, h2, h3⟩ := h
  exact ⟨⟨dx, e _ _ h1⟩, sqT_ext e h2, h3⟩
/-! ### __init__ -/
abbrev sInit : Stmt := cls 0
def ExtBut (p : Addr) (H H' : Hp) : Prop := ∀ b o, b ≠ p → H b = some o → H' b = some o
def Big (ns : List Int) : Prop := ∀ n ∈ ns, -(10 ^ 60) < n ∧ n < 10 ^ 60
def spInit (K : PySem.W.Frag) (C : Addr) : Sp := fun vs H Q _ => ∃ (p dx a : Addr) (ns : List Int), vs = [.ref p, .ref a] ∧ H p = some (.ins C dx []) ∧ SqT K H a (ns.map V.int) ∧ ns.length ≤ 400 ∧ Big ns ∧
  ∀ H' u, ExtBut p H H' → H' p = some (.ins C dx [(("_factors" : Str), .ref u)]) → SqT K H' u ((trim ns).map V.int) → Q .non H'
theorem scInit : FnScope ["self", "factors", "factor"] ["self", "factors"] (defScope sInit) := ⟨rfl, rfl, rfl, by decide +kernel, rfl, by decide +kernel, by decide +kernel⟩
structure AtT (K : PySem.W.Frag) (mg : Str → Option Value) (f : Addr) (fd : FuncData) : Prop where
  F : Fun K "trimmed" "trimmed" sTrimmed f fd
  b : Binds K fd ["row"] []
  g : mg "trimmed" = some (.ref f)
abbrev FnI (K : PySem.W.Frag) (t0 f : Addr) (fd : FuncData) : Prop := FunD K "__init__" "Poly.__init__" (defArgs sInit) (defBody sInit) (defScope sInit) [.ref t0] [] f fd
theorem ok_init {f fW fI fT C t0 : Addr} {fd fdW fdI fdT : FuncData} (F : FnI K t0 f fd) (T : Txt K mg) (Cl : PC K mg C) (W : AtW K mg fW fdW) (I : AtI K mg fI fdI) (R : AtT K mg fT fdT) :
    FnOk P w K mg base CX0 4 f fd ["self", "factors"] (spInit K C) := by
  have GI : FnOk P w K mg base CX0 2 fI fdI ["value"] (spInteger K) := ok_integer I.F T W
  have GT : FnOk P w K mg base CX0 1 fT fdT ["row"] (spTrimmed K) := ok_trimmed R.F T
  obtain ⟨tM, gM⟩ := T.most
  refine F.ok scInit (fun vs H Q E h => ?_) (fun cdv A outer s H vs Q E hr h => ?_)
  · obtain ⟨p, dx, a, ns, rfl, _⟩ := h
    rfl
  · obtain ⟨p, dx, a, ns, rfl, hp, hs, hl, hB, k⟩ := h
    refine ⟨_, PSs.nox (pss_cons (ps_if (PW.pt (pw_or (pt_not (pt_val (pe_callB call_isi (by rfl) T.isinstance (by decide +kernel) (pa_cons (pv 1) (pa_cons (pe_bltn (v := .ty "tuple") (by rfl) T.tuple (by decide +kernel) rfl) pa_nil)))))
        (pw_or1 (pt_cmpR op_gt (pe_callB call_len_seq (by rfl) T.len PySem.boot_len (pa_cons (pv 1) pa_nil)) (pe_glob (v := .int 400) (by rfl) gM ⟨_, rfl⟩) (nomark _))))) (pss_one ps_never) pss_nil)
      (pss_cons (ps_if (pt_not (pt_val (pe_callB (cr_all rfl) (by rfl) T.all (by decide +kernel) (pa_cons
          (pe_lc (own := [("factor", 2)]) (g := gName 2) (tt := tYes) rfl scInit.nd (pi_tup (pv 1)) (blkOk_by (N := ["self", "factors", "factor"]) (sc := defScope sInit) (by decide +kernel)) (fun _ _ _ _ _ => pg_name (i := 2) scInit.nd rfl (Or.inl rfl)) (fun _ _ _ _ _ => pts_nil)
            (fun _ _ _ _ _ => pe_call GI (hr.mono (by decide)) (by rfl) I.g I.F.kp I.b .nil pass0 (pa_cons (pv 2) pa_nil))) pa_nil)))) (pss_one ps_never) pss_nil)
        (pss_one (ps_fld (pv 0) (pe_call GT (hr.mono (by decide)) (by rfl) R.g R.F.kp R.b .nil pass0 (pa_cons (pv 1) pa_nil)) rfl)))), ?_⟩
    walk_at "rd"
    refine ⟨_, _, _, _, true, rfl, .ty _, tyT hs, by kernel_rfl, ?_⟩
    walk_at "rd"
    refine ⟨a, _, rfl, .inr hs, ?_⟩
    walk_at "rd"
    rw [decide_eq_false (by rw [List.length_map]; omega)]
    walk_at "rd"
    refine ⟨_, rfl, a, rfl, ⟨_, hs⟩, fun D hD => lc_tup (xs := ns.map V.int) (fun i H' => Ext H H' ∧ H' D = some (.lst ((ns.take i).map fun _ => V.bl true)))
      ⟨Ext.new hD, upd_same⟩ (fun i H' _ q => sqT_ext q.1 hs) ?_ ?_⟩
    · rintro i x H' hi ⟨e, hD'⟩
      rw [mapget] at hi
      obtain ⟨n, hn, rfl⟩ := Option.map_eq_some_iff.mp hi
      have hlt : i < ns.length := (List.getElem?_eq_some_iff.mp hn).1
      refine ⟨rfl, ?_⟩
      walk_at "rd"
      refine ⟨_, true, rfl, .inl ⟨n, rfl, (decide_eq_true (hB n (List.mem_of_getElem? hn))).symm⟩, _, hD', ?_, ?_, ?_⟩
      · rw [List.length_map, List.length_take, sizeLine_eq]
        omega
      · intro b o q
        rw [upd_ne (ne_of_none q hD)]
        exact e b o q
      · rw [upd_same, take_one hlt, List.map_append]
        rfl
    · rintro H' ⟨e, hD'⟩
      walk_at "rd"
      refine ⟨D, ns.map fun _ => true, rfl, SqL.of ?_, ?_⟩
      · rw [hD', List.length_map, List.take_length, List.map_map]
        rfl
      have all : (ns.map fun _ => true).all id = true := by simp
      rw [all]
      walk_at "rd"
      refine ⟨a, ns, rfl, sqT_ext e hs, by omega, ?_⟩
      intro H2 u e2 hu
      have hp2 : H2 p = some (.ins C dx []) := e2 _ _ (e _ _ hp)
      walk_at "rd"
      refine ⟨p, C, dx, [], rfl, hp2, Cl.cl, Cl.noF, by decide, ?_⟩
      refine k _ u ?_ upd_same ?_
      · intro b o hb q
        rw [upd_ne hb]
        exact e2 _ _ (e _ _ q)
      · rcases hu with (h | ⟨o, h⟩) | h
        · refine .inl (.inl ?_)
          rw [upd_ne (ne_of h hp2 (by intro z; cases z))]
          exact h
        · refine .inl (.inr ⟨o, ?_⟩)
          rw [upd_ne (ne_of h hp2 (by intro z; cases z))]
          exact h
        · exact .inr h
end
end K0

set_option Elab.async false
set_option linter.all false
set_option maxRecDepth 100000
set_option maxHeartbeats 4000000
/-! What a polynomial shows. -/
namespace K0
open PySem PySem.Spec PyProof.Rows L2 Gd
local macro_rules | `(tactic| walk_at "rd1") => `(tactic| first | with_reducible refine g_ret ?_ | with_reducible refine g_retN ?_ | with_reducible refine g_seq ?_ | with_reducible refine g_next ?_ | with_reducible refine g_drop ?_ | with_reducible refine g_asg ?_ | with_reducible refine g_name ?_ | with_reducible refine g_ifs ?_ | with_reducible refine g_test ?_ | with_reducible refine g_tb ?_ | with_reducible refine g_and ?_ | with_reducible refine g_or ?_ | with_reducible refine g_not ?_ | with_reducible refine g_andV ?_ | with_reducible refine g_orV ?_ | with_reducible refine g_notV ?_ | with_reducible refine g_if ?_ | with_reducible refine g_op ?_ | with_reducible refine g_un ?_ | with_reducible refine g_cb ?_ | with_reducible refine g_nil ?_ | with_reducible refine g_cons ?_ | with_reducible refine g_call ?_ | with_reducible refine g_callS ?_ | with_reducible refine g_tup ?_ | with_reducible refine g_lst ?_ | with_reducible refine g_isN ?_ | with_reducible refine g_sl ?_ | with_reducible refine g_nopart ?_ | with_reducible refine g_part ?_ | with_reducible refine g_chain ?_ | with_reducible refine g_fld ?_ | with_reducible refine g_prop ?_ | with_reducible refine g_bm ?_ | with_reducible refine g_bm0 ?_ | with_reducible refine g_c ?_ | with_reducible refine g_sub ?_ | with_reducible refine g_int1 ?_ | with_reducible refine g_int2 ?_ | with_reducible refine g_yes ?_ | with_reducible refine g_sfld ?_ | with_reducible refine g_NT ?_ | with_reducible refine g_NF ?_ | with_reducible refine iteT ?_ | with_reducible refine iteF ?_ | ((with_reducible refine' g_aug ?hv ?_); (case hv => exact rfl)) | ((with_reducible refine' g_var ?hv ?_); (case hv => exact rfl)) | with_reducible refine g_I0 ?_ | with_reducible refine g_U ?_ | with_reducible refine g_eqI ?_ | with_reducible refine g_blV ?_ | with_reducible refine g_inV ?_)
local macro_rules | `(tactic| walk_at "rd") => `(tactic| repeat walk_at "rd1")
section
variable {P : Program} {w : World} {K : PySem.W.Frag} {mg : Str → Option Value} {base : Heap}
theorem look1 {u : V} : ([(("_factors" : Str), u)] : List (Str × V)).lookup ("_factors" : Str) = some u := by simp [List.lookup]
/-! ### data -/
def idata (ns : List Int) : List PyData := ns.map PyData.int
theorem eqv_ints : ∀ (ns ms : List Int), PyData.eqvAll (idata ns) (idata ms) = decide (ns = ms)
  | [], [] => rfl
  | [], y :: s => by simp [idata, PyData.eqvAll]
  | x :: r, [] => by simp [idata, PyData.eqvAll]
  | x :: r, y :: s => by
    have ih := eqv_ints r s
    show (PyData.eqv (.int x) (.int y) && PyData.eqvAll (idata r) (idata s)) = _
    rw [ih]
    show ((x == y) && decide (r = s)) = _
    by_cases h : x = y
    · subst h
      by_cases g : r = s
      · subst g
        simp
      · simp [g]
    · simp [h]
theorem lay_ints : ∀ ns : List Int, PyData.canLayAll0 (idata ns) = true
  | [] => rfl
  | x :: r => by
    show (PyData.canLay0 (.int x) && PyData.canLayAll0 (idata r)) = true
    rw [lay_ints r]
    rfl
theorem deep_ints : ∀ ns : List Int, PyData.depthAll (idata ns) = 0
  | [] => rfl
  | x :: r => by
    show max (PyData.depth (.int x)) (PyData.depthAll (idata r)) = 0
    rw [deep_ints r]
    rfl
theorem dp_ints {H : Hp} : ∀ ns : List Int, DpAll K H (ns.map V.int) (idata ns)
  | [] => .nil
  | x :: r => .cons (.int x) (dp_ints r)
theorem dp_tup {H : Hp} {a : Addr} {ns : List Int} (h : SqT K H a (ns.map V.int)) : Dp K H (.ref a) (.tuple (idata ns)) := .tup h (dp_ints ns)
theorem shaped_tup (ns : List Int) : SeqAt.shaped (.tuple (idata ns)) = true := by
  unfold SeqAt.shaped
  rw [show PyData.canLay0 (.tuple (idata ns)) = PyData.canLayAll0 (idata ns) from rfl, lay_ints, show PyData.depth (.tuple (idata ns)) = PyData.depthAll (idata ns) + 1 from rfl, deep_ints]
  rfl
/-- a promise of a method without arguments: from the polynomial at p, its tuple at u, its factors ns, the answer v and nothing changed -/
def spGet (K : PySem.W.Frag) (C : Addr) (v : Addr → List Int → V) : Sp := fun vs H Q _ => ∃ (p u : Addr) (ns : List Int), vs = [.ref p] ∧ PolyU K C H p u ns ∧ Q (v u ns) H
theorem scS {j : Nat} (h : defScope (cls j) = defScope (cls 2)) : FnScope ["self"] ["self"] (defScope (cls j)) := by
  rw [h]
  exact ⟨rfl, rfl, rfl, by decide +kernel, rfl, by decide +kernel, by decide +kernel⟩
theorem sc2 : FnScope ["self"] ["self"] (defScope (cls 2)) := ⟨rfl, rfl, rfl, by decide +kernel, rfl, by decide +kernel, by decide +kernel⟩
theorem sc3 : FnScope ["self"] ["self"] (defScope (cls 3)) := ⟨rfl, rfl, rfl, by decide +kernel, rfl, by decide +kernel, by decide +kernel⟩
theorem sc15 : FnScope ["self", "index"] ["self", "index"] (defScope (cls 15)) := ⟨rfl, rfl, rfl, by decide +kernel, rfl, by decide +kernel, by decide +kernel⟩
theorem sc16 : FnScope ["self"] ["self"] (defScope (cls 16)) := ⟨rfl, rfl, rfl, by decide +kernel, rfl, by decide +kernel, by decide +kernel⟩
theorem sc17 : FnScope ["self"] ["self"] (defScope (cls 17)) := ⟨rfl, rfl, rfl, by decide +kernel, rfl, by decide +kernel, by decide +kernel⟩
theorem sc18 : FnScope ["self"] ["self"] (defScope (cls 18)) := ⟨rfl, rfl, rfl, by decide +kernel, rfl, by decide +kernel, by decide +kernel⟩
theorem sc19 : FnScope ["self", "other"] ["self", "other"] (defScope (cls 19)) := ⟨rfl, rfl, rfl, by decide +kernel, rfl, by decide +kernel, by decide +kernel⟩
variable {f C : Addr} {fd : FuncData}
theorem ok_factors (F : Fun K "factors" "Poly.factors" (cls 2) f fd) (Cl : PC K mg C) : FnOk P w K mg base CX0 1 f fd ["self"] (spGet K C fun u _ => .ref u) := by
  refine F.ok sc2 (fun vs H Q E h => ?_) (fun cdv A outer s H vs Q E hr h => ?_)
  · obtain ⟨p, u, ns, rfl, _⟩ := h
    rfl
  · obtain ⟨p, u, ns, rfl, ⟨⟨dx, hp⟩, hu, hl⟩, k⟩ := h
    refine ⟨_, pss_one (ps_ret (pe_fld (pv 0) rfl)), ?_⟩
    walk_at "rd"
    exact ⟨p, C, dx, _, _, rfl, hp, Cl.cl, Cl.noF, look1, k⟩
theorem ok_degree (F : Fun K "degree" "Poly.degree" (cls 3) f fd) (T : Txt K mg) (Cl : PC K mg C) : FnOk P w K mg base CX0 1 f fd ["self"] (spGet K C fun _ ns => .int ((ns.length : Int) - 1)) := by
  refine F.ok sc3 (fun vs H Q E h => ?_) (fun cdv A outer s H vs Q E hr h => ?_)
  · obtain ⟨p, u, ns, rfl, _⟩ := h
    rfl
  · obtain ⟨p, u, ns, rfl, ⟨⟨dx, hp⟩, hu, hl⟩, k⟩ := h
    refine ⟨_, pss_one (ps_ret (pe_op op_sub (pe_callB call_len_seq (by rfl) T.len PySem.boot_len (pa_cons (pe_fld (pv 0) rfl) pa_nil)) pe_int)), ?_⟩
    walk_at "rd"
    refine ⟨p, C, dx, _, _, rfl, hp, Cl.cl, Cl.noF, look1, ?_⟩
    walk_at "rd"
    refine ⟨u, _, rfl, .inr hu, ?_⟩
    walk_at "rd"
    rw [List.length_map]
    exact k
theorem ok_len (F : Fun K "__len__" "Poly.__len__" (cls 16) f fd) (T : Txt K mg) (Cl : PC K mg C) : FnOk P w K mg base CX0 1 f fd ["self"] (spGet K C fun _ ns => .int (ns.length : Int)) := by
  refine F.ok sc16 (fun vs H Q E h => ?_) (fun cdv A outer s H vs Q E hr h => ?_)
  · obtain ⟨p, u, ns, rfl, _⟩ := h
    rfl
  · obtain ⟨p, u, ns, rfl, ⟨⟨dx, hp⟩, hu, hl⟩, k⟩ := h
    refine ⟨_, pss_one (ps_ret (pe_callB call_len_seq (by rfl) T.len PySem.boot_len (pa_cons (pe_fld (pv 0) rfl) pa_nil))), ?_⟩
    walk_at "rd"
    refine ⟨p, C, dx, _, _, rfl, hp, Cl.cl, Cl.noF, look1, ?_⟩
    walk_at "rd"
    refine ⟨u, _, rfl, .inr hu, ?_⟩
    rw [List.length_map]
    exact k
theorem ok_bool (F : Fun K "__bool__" "Poly.__bool__" (cls 17) f fd) (T : Txt K mg) (Cl : PC K mg C) : FnOk P w K mg base CX0 1 f fd ["self"] (spGet K C fun _ ns => .bl (decide (0 < (ns.length : Int)))) := by
  refine F.ok sc17 (fun vs H Q E h => ?_) (fun cdv A outer s H vs Q E hr h => ?_)
  · obtain ⟨p, u, ns, rfl, _⟩ := h
    rfl
  · obtain ⟨p, u, ns, rfl, ⟨⟨dx, hp⟩, hu, hl⟩, k⟩ := h
    refine ⟨_, pss_one (ps_ret (pe_cmpR op_gt (pe_callB call_len_seq (by rfl) T.len PySem.boot_len (pa_cons (pe_fld (pv 0) rfl) pa_nil)) pe_int (nomark _))), ?_⟩
    walk_at "rd"
    refine ⟨p, C, dx, _, _, rfl, hp, Cl.cl, Cl.noF, look1, ?_⟩
    walk_at "rd"
    refine ⟨u, _, rfl, .inr hu, ?_⟩
    walk_at "rd"
    rw [List.length_map]
    exact k
/-- what list(o) asks -/
def PolyR (K : PySem.W.Frag) (C : Addr) (p u : Addr) (ys : List V) (H : Hp) : Prop := ∃ ns : List Int, ys = ns.map V.int ∧ PolyU K C H p u ns
theorem ok_iter (F : Fun K "__iter__" "Poly.__iter__" (cls 18) f fd) (T : Txt K mg) (Cl : PC K mg C) : FnOk P w K mg base CX0 1 f fd ["self"] (spIt K (PolyR K C)) := by
  refine F.ok sc18 (fun vs H Q E h => ?_) (fun cdv A outer s H vs Q E hr h => ?_)
  · obtain ⟨p, u, ns, rfl, _⟩ := h
    rfl
  · obtain ⟨p, u, ys, rfl, ⟨ns, rfl, ⟨dx, hp⟩, hu, hl⟩, _, k⟩ := h
    refine ⟨_, pss_one (ps_ret (pe_callB call_iterT (by rfl) T.iter (by decide +kernel) (pa_cons (pe_fld (pv 0) rfl) pa_nil))), ?_⟩
    walk_at "rd"
    refine ⟨p, C, dx, _, _, rfl, hp, Cl.cl, Cl.noF, look1, ?_⟩
    walk_at "rd"
    exact ⟨u, _, rfl, hu, k⟩
theorem len_ln : ∀ vs H Q E, spLn (PolyR K C) vs H Q E → spGet K C (fun _ ns => .int (ns.length : Int)) vs H Q E := by
  rintro vs H Q E ⟨p, u, ys, rfl, ⟨ns, rfl, h⟩, k⟩
  rw [List.length_map] at k
  exact ⟨p, u, ns, rfl, h, k⟩
/-- == : from two polynomials, or something else that is no polynomial -/
def spEqP (K : PySem.W.Frag) (C : Addr) : Sp := fun vs H Q _ => ∃ (p u : Addr) (ns : List Int) (y : V), vs = [.ref p, y] ∧ PolyU K C H p u ns ∧
  ((∃ (q v : Addr) (ms : List Int), y = .ref q ∧ PolyU K C H q v ms ∧ Q (.bl (decide (ns = ms))) H) ∨ (∃ t, TyX K H y t ∧ PySem.W.kitOne K t (.ref C) = some false ∧ Q (.bl false) H))
theorem ok_eq (F : Fun K "__eq__" "Poly.__eq__" (cls 19) f fd) (T : Txt K mg) (Cl : PC K mg C) : FnOk P w K mg base CX0 1 f fd ["self", "other"] (spEqP K C) := by
  refine F.ok sc19 (fun vs H Q E h => ?_) (fun cdv A outer s H vs Q E hr h => ?_)
  · obtain ⟨p, u, ns, y, rfl, _⟩ := h
    rfl
  · obtain ⟨p, u, ns, y, rfl, ⟨⟨dx, hp⟩, hu, hl⟩, h⟩ := h
    refine ⟨_, pss_one (ps_ret (pe_and (pe_callB call_isi (by rfl) T.isinstance (by decide +kernel) (pa_cons (pv 1) (pa_cons (pe_glob (v := .ref C) (by rfl) Cl.g rfl) pa_nil)))
      (pe_one (pe_cmpR (op_eqD hr.units) (pe_fld (pv 0) rfl) (pe_fld (pv 1) rfl) (nomark _))))), ?_⟩
    walk_at "rd"
    rcases h with ⟨q, v, ms, rfl, ⟨⟨dy, hq⟩, hv, hm⟩, k⟩ | ⟨t, ty, kt, k⟩
    · refine ⟨_, _, _, _, true, rfl, .own C, Cl.ty hq, Cl.kit, ?_⟩
      walk_at "rd"
      refine ⟨p, C, dx, _, _, rfl, hp, Cl.cl, Cl.noF, look1, ?_⟩
      walk_at "rd"
      refine ⟨q, C, dy, _, _, rfl, hq, Cl.cl, Cl.noF, look1, ?_⟩
      refine ⟨_, _, dp_tup hu, dp_tup hv, shaped_tup _, shaped_tup _, ?_⟩
      show Q (.bl (PyData.eqvAll (idata ns) (idata ms))) H
      rw [eqv_ints]
      exact k
    · refine ⟨_, _, _, _, false, rfl, .own C, ty, kt, ?_⟩
      walk_at "rd"
      exact k
end
end K0

set_option Elab.async false
set_option linter.all false
set_option maxRecDepth 100000
set_option maxHeartbeats 4000000
/-! The last factor that a polynomial shows. -/
namespace K0
open PySem PySem.Spec PyProof.Rows L2 Gd
local macro_rules | `(tactic| walk_at "rd1") => `(tactic| first | with_reducible refine g_ret ?_ | with_reducible refine g_retN ?_ | with_reducible refine g_seq ?_ | with_reducible refine g_next ?_ | with_reducible refine g_drop ?_ | with_reducible refine g_asg ?_ | with_reducible refine g_name ?_ | with_reducible refine g_ifs ?_ | with_reducible refine g_test ?_ | with_reducible refine g_tb ?_ | with_reducible refine g_and ?_ | with_reducible refine g_or ?_ | with_reducible refine g_not ?_ | with_reducible refine g_andV ?_ | with_reducible refine g_orV ?_ | with_reducible refine g_notV ?_ | with_reducible refine g_if ?_ | with_reducible refine g_op ?_ | with_reducible refine g_un ?_ | with_reducible refine g_cb ?_ | with_reducible refine g_nil ?_ | with_reducible refine g_cons ?_ | with_reducible refine g_call ?_ | with_reducible refine g_callS ?_ | with_reducible refine g_tup ?_ | with_reducible refine g_lst ?_ | with_reducible refine g_isN ?_ | with_reducible refine g_sl ?_ | with_reducible refine g_nopart ?_ | with_reducible refine g_part ?_ | with_reducible refine g_chain ?_ | with_reducible refine g_fld ?_ | with_reducible refine g_prop ?_ | with_reducible refine g_bm ?_ | with_reducible refine g_bm0 ?_ | with_reducible refine g_c ?_ | with_reducible refine g_sub ?_ | with_reducible refine g_int1 ?_ | with_reducible refine g_int2 ?_ | with_reducible refine g_yes ?_ | with_reducible refine g_sfld ?_ | with_reducible refine g_NT ?_ | with_reducible refine g_NF ?_ | with_reducible refine iteT ?_ | with_reducible refine iteF ?_ | ((with_reducible refine' g_aug ?hv ?_); (case hv => exact rfl)) | ((with_reducible refine' g_var ?hv ?_); (case hv => exact rfl)) | with_reducible refine g_I0 ?_ | with_reducible refine g_U ?_ | with_reducible refine g_eqI ?_ | with_reducible refine g_blV ?_ | with_reducible refine g_inV ?_)
local macro_rules | `(tactic| walk_at "rd") => `(tactic| repeat walk_at "rd1")
section
variable {P : Program} {w : World} {K : PySem.W.Frag} {mg : Str → Option Value} {base : Heap} {f C : Addr} {fd : FuncData}
theorem sc4 : FnScope ["self"] ["self"] (defScope (cls 4)) := ⟨rfl, rfl, rfl, by decide +kernel, rfl, by decide +kernel, by decide +kernel⟩
theorem ok_lead (F : Fun K "lead" "Poly.lead" (cls 4) f fd) (T : Txt K mg) (Cl : PC K mg C) : FnOk P w K mg base CX0 1 f fd ["self"] (spGet K C fun _ ns => .int ((ns.getLast?).getD 0)) := by
  refine F.ok sc4 (fun vs H Q E h => ?_) (fun cdv A outer s H vs Q E hr h => ?_)
  · obtain ⟨p, u, ns, rfl, _⟩ := h
    rfl
  · obtain ⟨p, u, ns, rfl, ⟨⟨dx, hp⟩, hu, hl⟩, k⟩ := h
    refine ⟨_, pss_one (ps_ret (pe_ifExp (pt_cmpR op_gt (pe_callB call_len_seq (by rfl) T.len PySem.boot_len (pa_cons (pe_fld (pv 0) rfl) pa_nil)) pe_int (nomark _)) (pe_ix ix_tup (pe_fld (pv 0) rfl) (pe_un un_neg pe_int) (fun _ _ => rfl)) pe_int)), ?_⟩
    walk_at "rd"
    refine ⟨p, C, dx, _, _, rfl, hp, Cl.cl, Cl.noF, look1, ?_⟩
    walk_at "rd"
    refine ⟨u, _, rfl, .inr hu, ?_⟩
    walk_at "rd"
    rw [List.length_map]
    cases ns with
    | nil =>
      rw [show decide ((0 : Int) < (([] : List Int).length : Int)) = false from rfl]
      walk_at "rd"
      exact k
    | cons x r =>
      rw [decide_eq_true (by simp)]
      walk_at "rd"
      refine ⟨p, C, dx, _, _, rfl, hp, Cl.cl, Cl.noF, look1, ?_⟩
      walk_at "rd"
      refine g_ixT hu (v := .int (((x :: r).getLast?).getD 0)) ?_ k
      show atI ((x :: r).map V.int) (-1) = _
      have e : (x :: r) = (x :: r).dropLast ++ [((x :: r).getLast?).getD 0] := by
        rw [List.getLast?_eq_some_getLast (l := x :: r) (by simp)]
        exact (List.dropLast_concat_getLast (by simp)).symm
      rw [e, List.map_append]
      rw [← e]
      exact atI_last _ _
end
end K0

set_option Elab.async false
set_option linter.all false
set_option maxRecDepth 100000
set_option maxHeartbeats 4000000
/-! poly[index]. -/
namespace K0
open PySem PySem.Spec PyProof.Rows L2 Gd
local macro_rules | `(tactic| walk_at "rd1") => `(tactic| first | with_reducible refine g_ret ?_ | with_reducible refine g_retN ?_ | with_reducible refine g_seq ?_ | with_reducible refine g_next ?_ | with_reducible refine g_drop ?_ | with_reducible refine g_asg ?_ | with_reducible refine g_name ?_ | with_reducible refine g_ifs ?_ | with_reducible refine g_test ?_ | with_reducible refine g_tb ?_ | with_reducible refine g_and ?_ | with_reducible refine g_or ?_ | with_reducible refine g_not ?_ | with_reducible refine g_andV ?_ | with_reducible refine g_orV ?_ | with_reducible refine g_notV ?_ | with_reducible refine g_if ?_ | with_reducible refine g_op ?_ | with_reducible refine g_un ?_ | with_reducible refine g_cb ?_ | with_reducible refine g_nil ?_ | with_reducible refine g_cons ?_ | with_reducible refine g_call ?_ | with_reducible refine g_callS ?_ | with_reducible refine g_tup ?_ | with_reducible refine g_lst ?_ | with_reducible refine g_isN ?_ | with_reducible refine g_sl ?_ | with_reducible refine g_nopart ?_ | with_reducible refine g_part ?_ | with_reducible refine g_chain ?_ | with_reducible refine g_fld ?_ | with_reducible refine g_prop ?_ | with_reducible refine g_bm ?_ | with_reducible refine g_bm0 ?_ | with_reducible refine g_c ?_ | with_reducible refine g_sub ?_ | with_reducible refine g_int1 ?_ | with_reducible refine g_int2 ?_ | with_reducible refine g_yes ?_ | with_reducible refine g_sfld ?_ | with_reducible refine g_NT ?_ | with_reducible refine g_NF ?_ | with_reducible refine iteT ?_ | with_reducible refine iteF ?_ | ((with_reducible refine' g_aug ?hv ?_); (case hv => exact rfl)) | ((with_reducible refine' g_var ?hv ?_); (case hv => exact rfl)) | with_reducible refine g_I0 ?_ | with_reducible refine g_U ?_ | with_reducible refine g_eqI ?_ | with_reducible refine g_blV ?_ | with_reducible refine g_inV ?_)
local macro_rules | `(tactic| walk_at "rd") => `(tactic| repeat walk_at "rd1")
section
variable {P : Program} {w : World} {K : PySem.W.Frag} {mg : Str → Option Value} {base : Heap} {f C : Addr} {fd : FuncData}
structure AtX (K : PySem.W.Frag) (mg : Str → Option Value) (f : Addr) (fd : FuncData) : Prop where
  F : Fun K "require_index" "require_index" sIndex f fd
  b : Binds K fd ["value"] []
  g : mg "require_index" = some (.ref f)
def spItem (K : PySem.W.Frag) (C CN : Addr) : Sp := fun vs H Q E => ∃ (p u : Addr) (ns : List Int) (y : V) (b : Bool), vs = [.ref p, y] ∧ PolyU K C H p u ns ∧ IndexOk K H y b ∧
  (b = true → ∀ i, y = .int i → Q (.int ((ns[i.toNat]?).getD 0)) H) ∧
  (b = false → ∀ d, H d = none → E (.ref CN) (some d) (upd H d (.xd [(("value" : Str), y)])))
theorem ok_item {fW fI fX CN fC : Addr} {fdW fdI fdX : FuncData} (F : Fun K "__getitem__" "Poly.__getitem__" (cls 15) f fd) (T : Txt K mg) (Cl : PC K mg C) (W : AtW K mg fW fdW) (I : AtI K mg fI fdI) (X : AtX K mg fX fdX)
    (N : PySem.XInvalidNumber.InvalidNumberTxt K mg CN fC) : FnOk P w K mg base (L2.CX P w) 5 f fd ["self", "index"] (spItem K C CN) := by
  have GX : FnOk P w K mg base (L2.CX P w) 4 fX fdX ["value"] (spIndex K CN) := ok_index X.F T W I N
  refine F.okX sc15 (fun vs H Q E h => ?_) (fun cdv A outer s H vs Q E hr h => ?_)
  · obtain ⟨p, u, ns, y, b, rfl, _⟩ := h
    rfl
  · obtain ⟨p, u, ns, y, b, rfl, ⟨⟨dx, hp⟩, hu, hl⟩, hi, k1, k2⟩ := h
    refine ⟨_, pss_cons (ps_expr (pe_call GX hr (by rfl) X.g X.F.kp X.b .nil (passes_call (takes_of rfl rfl rfl rfl) (fun _ _ _ _ h => h)) (pa_cons (pv 1) pa_nil)))
      (pss_one (ps_ret (pe_ifExp (pt_cmpR op_lt (pv 1) (pe_callB call_len_seq (by rfl) T.len PySem.boot_len (pa_cons (pe_fld (pv 0) rfl) pa_nil)) (nomark _))
        (pe_ix ix_tup (pe_fld (pv 0) rfl) (pv 1) (fun _ _ => rfl)) pe_int))), ?_⟩
    walk_at "rd"
    refine ⟨y, b, rfl, hi, fun hb => ?_, fun hb d hd => k2 hb d hd⟩
    walk_at "rd"
    subst hb
    rcases hi with ⟨i, rfl, hb⟩ | ⟨_, hb⟩
    · have hb' := of_decide_eq_true hb.symm
      refine ⟨p, C, dx, _, _, rfl, hp, Cl.cl, Cl.noF, look1 (u := .ref u), ?_⟩
      walk_at "rd"
      refine ⟨u, _, rfl, .inr hu, ?_⟩
      walk_at "rd"
      rw [List.length_map]
      have k := k1 rfl i rfl
      refine ite2 (fun h1 => ?_) (fun h1 => ?_)
      · have h2 := of_decide_eq_true h1
        walk_at "rd"
        refine ⟨p, C, dx, _, _, rfl, hp, Cl.cl, Cl.noF, look1 (u := .ref u), ?_⟩
        walk_at "rd"
        have hlt : i.toNat < ns.length := by omega
        refine g_ixT hu (v := .int ((ns[i.toNat]?).getD 0)) ?_ k
        have e : i = (i.toNat : Int) := by omega
        have ge : (ns.map V.int)[i.toNat]? = some (V.int ((ns[i.toNat]?).getD 0)) := by
          rw [mapget, List.getElem?_eq_getElem hlt]
          rfl
        rw [e]
        exact atI_nat ge
      · have h2 : ¬ i < (ns.length : Int) := fun z => h1 (decide_eq_true z)
        have hz : (ns[i.toNat]?).getD 0 = 0 := by
          rw [List.getElem?_eq_none_iff.mpr (by omega)]
          rfl
        rw [hz] at k
        exact k
    · cases hb
end
end K0

set_option Elab.async false
set_option linter.all false
set_option maxRecDepth 100000
set_option maxHeartbeats 4000000
/-! The dice of a law: numbers for one place. -/
namespace K0
open PySem PySem.Spec PyProof.Rows L2 Gd
local macro_rules | `(tactic| walk_at "rd1") => `(tactic| first | with_reducible refine g_ret ?_ | with_reducible refine g_retN ?_ | with_reducible refine g_seq ?_ | with_reducible refine g_next ?_ | with_reducible refine g_drop ?_ | with_reducible refine g_asg ?_ | with_reducible refine g_name ?_ | with_reducible refine g_ifs ?_ | with_reducible refine g_test ?_ | with_reducible refine g_tb ?_ | with_reducible refine g_and ?_ | with_reducible refine g_or ?_ | with_reducible refine g_not ?_ | with_reducible refine g_andV ?_ | with_reducible refine g_orV ?_ | with_reducible refine g_notV ?_ | with_reducible refine g_if ?_ | with_reducible refine g_op ?_ | with_reducible refine g_un ?_ | with_reducible refine g_cb ?_ | with_reducible refine g_nil ?_ | with_reducible refine g_cons ?_ | with_reducible refine g_call ?_ | with_reducible refine g_callS ?_ | with_reducible refine g_tup ?_ | with_reducible refine g_lst ?_ | with_reducible refine g_isN ?_ | with_reducible refine g_sl ?_ | with_reducible refine g_nopart ?_ | with_reducible refine g_part ?_ | with_reducible refine g_chain ?_ | with_reducible refine g_fld ?_ | with_reducible refine g_prop ?_ | with_reducible refine g_bm ?_ | with_reducible refine g_bm0 ?_ | with_reducible refine g_c ?_ | with_reducible refine g_sub ?_ | with_reducible refine g_int1 ?_ | with_reducible refine g_int2 ?_ | with_reducible refine g_yes ?_ | with_reducible refine g_sfld ?_ | with_reducible refine g_NT ?_ | with_reducible refine g_NF ?_ | with_reducible refine iteT ?_ | with_reducible refine iteF ?_ | ((with_reducible refine' g_aug ?hv ?_); (case hv => exact rfl)) | ((with_reducible refine' g_var ?hv ?_); (case hv => exact rfl)) | with_reducible refine g_I0 ?_ | with_reducible refine g_U ?_ | with_reducible refine g_eqI ?_ | with_reducible refine g_blV ?_ | with_reducible refine g_inV ?_)
local macro_rules | `(tactic| walk_at "rd") => `(tactic| repeat walk_at "rd1")
section
variable {P : Program} {w : World} {K : PySem.W.Frag} {mg : Str → Option Value} {base : Heap} {f : Addr} {fd : FuncData}
abbrev sDice : Stmt := top 47
abbrev sRoll : Stmt := top 48
abbrev sPick : Stmt := top 49
/-- more names -/
structure Txt2 (mg : Str → Option Value) : Prop where
  max : mg "max" = none
  min : mg "min" = none
  abs : mg "abs" = none
  range : mg "range" = none
  repr : mg "repr" = none
/-- the dice at d -/
def DiceAt (H : Hp) (d : Addr) : Prop := ∃ a b c : Int, H d = some (.lst [.int a, .int b, .int c]) ∧ 0 ≤ a ∧ a < 10 ^ 120 ∧ 0 ≤ b ∧ b < 2 ^ 80 ∧ 0 ≤ c
theorem fmod_lo {a n : Int} (h : 0 < n) : 0 ≤ a.fmod n := by
  rw [Int.fmod_eq_emod_of_nonneg _ (Int.le_of_lt h)]
  exact Int.emod_nonneg _ (Int.ne_of_gt h)
theorem fmod_hi {a n : Int} (h : 0 < n) : a.fmod n < n := by
  rw [Int.fmod_eq_emod_of_nonneg _ (Int.le_of_lt h)]
  exact Int.emod_lt_of_pos _ h
theorem g_fmod {H : Hp} {Q : VK} {a n : Int} (hn : 0 < n) (k : ∀ r, 0 ≤ r → r < n → Q (.int r) H) : rI (fun _ j => j ≠ 0) (fun i j => .int (i.fmod j)) (.int a) (.int n) H Q :=
  ⟨a, n, rfl, rfl, Int.ne_of_gt hn, k _ (fmod_lo hn) (fmod_hi hn)⟩
def spDice (K : PySem.W.Frag) : Sp := fun vs H Q _ => ∃ (a : Addr) (ns : List Int) (i : Nat), vs = [.ref a, .int (i : Int)] ∧ SqL K H a (ns.map V.int) ∧ i ≤ 63 ∧
  ∀ H' d, Ext H H' → H d = none → DiceAt H' d → Q (.ref d) H'
theorem scDice : FnScope ["_law_script", "_law_spot", "_law_cell", "_law_left"] ["_law_script", "_law_spot"] (defScope sDice) := ⟨rfl, rfl, rfl, by decide +kernel, rfl, by decide +kernel, by decide +kernel⟩
theorem ok_dice (F : Fun K "_law_dice" "_law_dice" sDice f fd) (T : Txt K mg) (T2 : Txt2 mg) : FnOk P w K mg base CX0 1 f fd ["_law_script", "_law_spot"] (spDice K) := by
  refine F.ok scDice (fun vs H Q E h => ?_) (fun cdv A outer s H vs Q E hr h => ?_)
  · obtain ⟨a, ns, i, rfl, _⟩ := h
    rfl
  · obtain ⟨a, ns, i, rfl, hs, hi, k⟩ := h
    refine ⟨_, pss_cons (ps_set (i := 2) scDice.nd rfl (Or.inl rfl) (pe_ifExp (pt_cmpR op_lt (pv 1) (pe_callB call_len_seq (by rfl) T.len PySem.boot_len (pa_cons (pv 0) pa_nil)) (nomark _))
          (pe_callTy call_int1 (by rfl) T.int (by decide +kernel) (pa_cons (pe_ix ix_list (pv 0) (pv 1) (fun _ _ => rfl)) pa_nil)) (pe_op op_add (pe_op op_mul pe_int (pv 1)) pe_int)))
      (pss_cons (ps_set (i := 3) scDice.nd rfl (Or.inl rfl) (pe_op op_modN (pe_callB (call_max2 rfl) (by rfl) T2.max (by decide +kernel) (pa_cons pe_int (pa_cons (pe_op op_sub (pe_callB call_abs (by rfl) T2.abs (by decide +kernel) (pa_cons (pv 2) pa_nil)) (pe_op op_pow pe_int pe_int)) pa_nil)))
          (pe_op op_mulW (pe_op op_pow pe_int pe_int) (pe_op op_pow pe_int pe_int))))
        (pss_one (ps_ret (pe_lst (pa_cons (pv 3) (pa_cons (pe_op op_add (pe_op op_add (pe_op op_add (pe_op op_mul (pe_op op_modN (pe_callB call_abs (by rfl) T2.abs (by decide +kernel) (pa_cons (pv 2) pa_nil)) pe_int) pe_int) (pe_op op_mul pe_int (pv 1)))
          (pe_op op_mul pe_int (pe_callTy call_int1 (by rfl) T.int (by decide +kernel) (pa_cons (pe_cmpR op_lt (pv 2) pe_int (nomark _)) pa_nil)))) pe_int) (pa_cons pe_int pa_nil))))))), ?_⟩
    walk_at "rd"
    refine ⟨a, _, rfl, .inl hs, ?_⟩
    walk_at "rd"
    refine ite2 (fun h1 => ?_) (fun h1 => ?_)
    have h2 := of_decide_eq_true h1
    rw [List.length_map] at h2
    have hlt : i < ns.length := by omega
    walk_at "rd"
    refine g_ixL hs (v := .int ns[i]) (atI_nat (by rw [mapget, List.getElem?_eq_getElem hlt]; rfl)) ?_
    walk_at "rd"
    refine .inl ⟨_, rfl, ?_⟩
    generalize ns[i] = c
    walk_at "rd"
    rotate_left
    walk_at "rd"
    refine g_I (.inr ⟨by omega, by omega⟩) ?_
    walk_at "rd"
    generalize (83 * (i : Int) + 61) = c
    walk_at "rd"
    all_goals
      refine g_I ⟨by decide, by decide, by decide⟩ ?_
      walk_at "rd"
      refine g_I ⟨by decide, by decide, by decide⟩ ?_
      walk_at "rd"
      refine g_I ⟨by decide, by decide, by decide⟩ ?_
      walk_at "rd"
      refine g_I (wide_mul (a := 200) (b := 200) (by decide +kernel) (by decide +kernel) (by decide) (by decide) (by decide)) ?_
      walk_at "rd"
      refine g_fmod (by decide +kernel) (fun l l0 l1 => ?_)
      walk_at "rd"
      refine g_fmod (by decide +kernel) (fun r r0 r1 => ?_)
      walk_at "rd"
      refine g_I (.inr ⟨by decide, by decide⟩) ?_
      walk_at "rd"
      refine g_I (.inl ⟨by decide, by decide⟩) ?_
      walk_at "rd"
      refine .inr ⟨_, rfl, ?_⟩
      refine g_I (.inl ⟨by decide, by decide⟩) ?_
      walk_at "rd"
      refine ⟨by show 3 ≤ sizeLine; decide, fun d hd => ?_⟩
      have l1' : l < 10 ^ 120 := Int.lt_of_lt_of_le l1 (by decide +kernel)
      refine k _ d (Ext.new hd) hd ⟨l, _, 0, upd_same, l0, l1', ?_, ?_, Int.le_refl _⟩
      · split <;> omega
      · split <;> omega

/-! ### a roll -/
def spRoll : Sp := fun vs H Q _ => ∃ (d : Addr) (n : Int), vs = [.ref d, .int n] ∧ DiceAt H d ∧ 0 < n ∧ n < 2 ^ 1000 ∧
  ∀ H' r, ExtBut d H H' → DiceAt H' d → 0 ≤ r → r < n → Q (.int r) H'
theorem scRoll : FnScope ["_law_dice_here", "_law_total", "_law_found", "_law_one", "_law_two"] ["_law_dice_here", "_law_total"] (defScope sRoll) := ⟨rfl, rfl, rfl, by decide +kernel, rfl, by decide +kernel, by decide +kernel⟩
theorem ok_roll (F : Fun K "_law_roll" "_law_roll" sRoll f fd) (T : Txt K mg) : FnOk P w K mg base CX0 1 f fd ["_law_dice_here", "_law_total"] spRoll := by
  refine F.ok scRoll (fun vs H Q E h => ?_) (fun cdv A outer s H vs Q E hr h => ?_)
  · obtain ⟨d, n, rfl, _⟩ := h
    rfl
  · obtain ⟨d, n, rfl, ⟨a, b, c, hd, a0, a1, b0, b1, c0⟩, n0, n1, k⟩ := h
    refine ⟨_, pss_cons (ps_if (pt_cmpR op_gt (pe_ix ix_list (pv 0) pe_int (fun _ _ => rfl)) pe_int (nomark _))
        (pss_cons (ps_set (i := 2) scRoll.nd rfl (Or.inl rfl) (pe_op op_modN (pe_callTy call_int1 (by rfl) T.int (by decide +kernel) (pa_cons (pe_ix ix_list (pv 0) pe_int (fun _ _ => rfl)) pa_nil)) (pv 1)))
          (pss_cons (ps_asg (pe_op op_fdivW (pe_ix ix_list (pv 0) pe_int (fun _ _ => rfl)) (pv 1)) (pg_sub (pv 0) pe_int set_list)) (pss_one (ps_ret (pv 2))))) pss_nil)
      (pss_cons (ps_asg (pe_op op_add (pe_ix ix_list (pv 0) pe_int (fun _ _ => rfl)) pe_int) (pg_sub (pv 0) pe_int set_list))
        (pss_cons (ps_set (i := 3) scRoll.nd rfl (Or.inl rfl) (pe_op op_modN (pe_callTy call_int1 (by rfl) T.int (by decide +kernel) (pa_cons (pe_op op_add (pe_ix ix_list (pv 0) pe_int (fun _ _ => rfl)) (pe_op op_mul pe_int (pe_ix ix_list (pv 0) pe_int (fun _ _ => rfl)))) pa_nil)) pe_int))
          (pss_cons (ps_set (i := 4) scRoll.nd rfl (Or.inl rfl) (pe_op op_add (pe_op op_mul (pe_op op_modN (pe_callTy call_int1 (by rfl) T.int (by decide +kernel)
              (pa_cons (pe_op op_add (pe_op op_mul (pv 3) (pv 3)) (pe_op op_mul pe_int (pe_ix ix_list (pv 0) pe_int (fun _ _ => rfl)))) pa_nil)) pe_int) pe_int) (pv 3)))
            (pss_one (ps_ret (pe_op op_modN (pe_callTy call_int1 (by rfl) T.int (by decide +kernel) (pa_cons (pe_op op_fdiv (pv 4) pe_int) pa_nil)) (pv 1))))))), ?_⟩
    walk_at "rd"
    refine g_ixL (SqL.of hd) (v := .int a) rfl ?_
    walk_at "rd"
    refine ite2 (fun h1 => ?_) (fun h1 => ?_)
    · walk_at "rd"
      refine g_ixL (SqL.of hd) (v := .int a) rfl ?_
      walk_at "rd"
      refine .inl ⟨_, rfl, ?_⟩
      walk_at "rd"
      refine g_fmod n0 (fun r r0 r1 => ?_)
      walk_at "rd"
      refine g_ixL (SqL.of hd) (v := .int a) rfl ?_
      walk_at "rd"
      refine g_I (wide_div (b := 1000) n0 (by omega) (by decide) (by decide)) ?_
      walk_at "rd"
      refine ⟨d, _, _, 0, rfl, rfl, hd, rfl, ?_⟩
      walk_at "rd"
      refine k _ r (fun x o hx q => by rw [upd_ne hx]; exact q) ⟨a / n, b, c, upd_same, Int.ediv_nonneg a0 (Int.le_of_lt n0), Int.lt_of_le_of_lt (Int.ediv_le_self _ a0) a1, b0, b1, c0⟩ r0 r1
    · walk_at "rd"
      refine g_ixL (SqL.of hd) (v := .int c) rfl ?_
      walk_at "rd"
      refine ⟨d, _, _, 2, rfl, rfl, hd, rfl, ?_⟩
      walk_at "rd"
      have hd2 : upd H d (.lst (List.set [V.int a, V.int b, V.int c] 2 (V.int (c + 1)))) d = some (.lst [.int a, .int b, .int (c + 1)]) := upd_same
      generalize hH2 : upd H d (.lst (List.set [V.int a, V.int b, V.int c] 2 (V.int (c + 1)))) = H2 at hd2 ⊢
      have e2 : ExtBut d H H2 := fun x o hx q => by rw [← hH2, upd_ne hx]; exact q
      refine g_ixL (SqL.of hd2) (v := .int b) rfl ?_
      walk_at "rd"
      refine g_ixL (SqL.of hd2) (v := .int (c + 1)) rfl ?_
      refine g_I (.inl ⟨by decide, by decide⟩) ?_
      walk_at "rd"
      refine .inl ⟨_, rfl, ?_⟩
      walk_at "rd"
      refine g_fmod (by decide) (fun r r0 r1 => ?_)
      walk_at "rd"
      refine g_I (.inl ⟨by omega, by omega⟩) ?_
      walk_at "rd"
      refine g_ixL (SqL.of hd2) (v := .int (c + 1)) rfl ?_
      refine g_I (.inl ⟨by decide, by decide⟩) ?_
      walk_at "rd"
      refine .inl ⟨_, rfl, ?_⟩
      walk_at "rd"
      refine g_fmod (by decide) (fun t t0 t1 => ?_)
      walk_at "rd"
      refine g_I (.inr ⟨by decide, by decide⟩) ?_
      walk_at "rd"
      refine g_I ⟨by decide, by decide⟩ ?_
      walk_at "rd"
      refine .inl ⟨_, rfl, ?_⟩
      walk_at "rd"
      refine g_fmod n0 (fun z z0 z1 => ?_)
      exact k _ z e2 ⟨a, b, c + 1, hd2, a0, a1, b0, b1, by omega⟩ z0 z1
end
end K0

set_option Elab.async false
set_option linter.all false
set_option maxRecDepth 100000
set_option maxHeartbeats 4000000
/-! Picks. -/
namespace K0
open PySem PySem.Spec PyProof.Rows L2 Gd
local macro_rules | `(tactic| walk_at "rd1") => `(tactic| first | with_reducible refine g_ret ?_ | with_reducible refine g_retN ?_ | with_reducible refine g_seq ?_ | with_reducible refine g_next ?_ | with_reducible refine g_drop ?_ | with_reducible refine g_asg ?_ | with_reducible refine g_name ?_ | with_reducible refine g_ifs ?_ | with_reducible refine g_test ?_ | with_reducible refine g_tb ?_ | with_reducible refine g_and ?_ | with_reducible refine g_or ?_ | with_reducible refine g_not ?_ | with_reducible refine g_andV ?_ | with_reducible refine g_orV ?_ | with_reducible refine g_notV ?_ | with_reducible refine g_if ?_ | with_reducible refine g_op ?_ | with_reducible refine g_un ?_ | with_reducible refine g_cb ?_ | with_reducible refine g_nil ?_ | with_reducible refine g_cons ?_ | with_reducible refine g_call ?_ | with_reducible refine g_callS ?_ | with_reducible refine g_tup ?_ | with_reducible refine g_lst ?_ | with_reducible refine g_isN ?_ | with_reducible refine g_sl ?_ | with_reducible refine g_nopart ?_ | with_reducible refine g_part ?_ | with_reducible refine g_chain ?_ | with_reducible refine g_fld ?_ | with_reducible refine g_prop ?_ | with_reducible refine g_bm ?_ | with_reducible refine g_bm0 ?_ | with_reducible refine g_c ?_ | with_reducible refine g_sub ?_ | with_reducible refine g_int1 ?_ | with_reducible refine g_int2 ?_ | with_reducible refine g_yes ?_ | with_reducible refine g_sfld ?_ | with_reducible refine g_NT ?_ | with_reducible refine g_NF ?_ | with_reducible refine iteT ?_ | with_reducible refine iteF ?_ | ((with_reducible refine' g_aug ?hv ?_); (case hv => exact rfl)) | ((with_reducible refine' g_var ?hv ?_); (case hv => exact rfl)) | with_reducible refine g_I0 ?_ | with_reducible refine g_U ?_ | with_reducible refine g_eqI ?_ | with_reducible refine g_blV ?_ | with_reducible refine g_inV ?_)
local macro_rules | `(tactic| walk_at "rd") => `(tactic| repeat walk_at "rd1")
section
variable {P : Program} {w : World} {K : PySem.W.Frag} {mg : Str → Option Value} {base : Heap} {f : Addr} {fd : FuncData}
structure AtR (K : PySem.W.Frag) (mg : Str → Option Value) (f : Addr) (fd : FuncData) : Prop where
  F : Fun K "_law_roll" "_law_roll" sRoll f fd
  b : Binds K fd ["_law_dice_here", "_law_total"] []
  g : mg "_law_roll" = some (.ref f)
theorem sqL_but {H H' : Hp} {d l : Addr} {xs : List V} (e : ExtBut d H H') (n : l ≠ d) (h : SqL K H l xs) : SqL K H' l xs := by
  rcases h with (h | ⟨o, h⟩) | h
  · exact .inl (.inl (e _ _ n h))
  · exact .inl (.inr ⟨o, e _ _ n h⟩)
  · exact .inr h
theorem sqT_but {H H' : Hp} {d l : Addr} {xs : List V} (e : ExtBut d H H') (n : l ≠ d) (h : SqT K H l xs) : SqT K H' l xs := by
  rcases h with (h | ⟨o, h⟩) | h
  · exact .inl (.inl (e _ _ n h))
  · exact .inl (.inr ⟨o, e _ _ n h⟩)
  · exact .inr h
theorem ExtBut.trans {d : Addr} {H H1 H2 : Hp} (a : ExtBut d H H1) (b : ExtBut d H1 H2) : ExtBut d H H2 := fun x o n h => b x o n (a x o n h)
theorem ExtBut.of {d : Addr} {H H1 : Hp} (a : Ext H H1) : ExtBut d H H1 := fun x o _ h => a x o h
theorem DiceAt.ext {d : Addr} {H H1 : Hp} (e : Ext H H1) (h : DiceAt H d) : DiceAt H1 d := by
  obtain ⟨a, b, c, h, r⟩ := h
  exact ⟨a, b, c, e _ _ h, r⟩
/-! ### pick -/
def spPick (K : PySem.W.Frag) : Sp := fun vs H Q _ => ∃ (d l : Addr) (xs : List V), vs = [.ref d, .ref l] ∧ DiceAt H d ∧ SqL K H l xs ∧ l ≠ d ∧ 0 < xs.length ∧ xs.length ≤ 1000 ∧
  ∀ H' x, ExtBut d H H' → DiceAt H' d → x ∈ xs → Q x H'
theorem scPick : FnScope ["_law_dice_here", "_law_items"] ["_law_dice_here", "_law_items"] (defScope sPick) := ⟨rfl, rfl, rfl, by decide +kernel, rfl, by decide +kernel, by decide +kernel⟩
theorem ok_pick {fR : Addr} {fdR : FuncData} (F : Fun K "_law_pick" "_law_pick" sPick f fd) (T : Txt K mg) (R : AtR K mg fR fdR) : FnOk P w K mg base CX0 2 f fd ["_law_dice_here", "_law_items"] (spPick K) := by
  have GR : FnOk P w K mg base CX0 1 fR fdR ["_law_dice_here", "_law_total"] spRoll := ok_roll R.F T
  refine F.ok scPick (fun vs H Q E h => ?_) (fun cdv A outer s H vs Q E hr h => ?_)
  · obtain ⟨d, l, xs, rfl, _⟩ := h
    rfl
  · obtain ⟨d, l, xs, rfl, hd, hl, ne, l0, l1, k⟩ := h
    refine ⟨_, pss_one (ps_ret (pe_ix ix_list (pv 1) (pe_call GR hr (by rfl) R.g R.F.kp R.b .nil pass0 (pa_cons (pv 0) (pa_cons (pe_callB call_len_seq (by rfl) T.len PySem.boot_len (pa_cons (pv 1) pa_nil)) pa_nil))) (fun _ _ => rfl))), ?_⟩
    walk_at "rd"
    refine ⟨l, xs, rfl, .inl hl, ?_⟩
    walk_at "rd"
    refine ⟨d, _, rfl, hd, by omega, by omega, ?_⟩
    intro H' r e hd' r0 r1
    have hlt : r.toNat < xs.length := by omega
    have er : r = (r.toNat : Int) := by omega
    rw [er]
    exact g_ixL (sqL_but e ne hl) (atI_nat (List.getElem?_eq_getElem hlt)) (k _ _ e hd' (List.getElem_mem hlt))
end
end K0

set_option Elab.async false
set_option linter.all false
set_option maxRecDepth 100000
set_option maxHeartbeats 4000000
/-! Integers between bounds. -/
namespace K0
open PySem PySem.Spec PyProof.Rows L2 Gd
local macro_rules | `(tactic| walk_at "rd1") => `(tactic| first | with_reducible refine g_ret ?_ | with_reducible refine g_retN ?_ | with_reducible refine g_seq ?_ | with_reducible refine g_next ?_ | with_reducible refine g_drop ?_ | with_reducible refine g_asg ?_ | with_reducible refine g_name ?_ | with_reducible refine g_ifs ?_ | with_reducible refine g_test ?_ | with_reducible refine g_tb ?_ | with_reducible refine g_and ?_ | with_reducible refine g_or ?_ | with_reducible refine g_not ?_ | with_reducible refine g_andV ?_ | with_reducible refine g_orV ?_ | with_reducible refine g_notV ?_ | with_reducible refine g_if ?_ | with_reducible refine g_op ?_ | with_reducible refine g_un ?_ | with_reducible refine g_cb ?_ | with_reducible refine g_nil ?_ | with_reducible refine g_cons ?_ | with_reducible refine g_call ?_ | with_reducible refine g_callS ?_ | with_reducible refine g_tup ?_ | with_reducible refine g_lst ?_ | with_reducible refine g_isN ?_ | with_reducible refine g_sl ?_ | with_reducible refine g_nopart ?_ | with_reducible refine g_part ?_ | with_reducible refine g_chain ?_ | with_reducible refine g_fld ?_ | with_reducible refine g_prop ?_ | with_reducible refine g_bm ?_ | with_reducible refine g_bm0 ?_ | with_reducible refine g_c ?_ | with_reducible refine g_sub ?_ | with_reducible refine g_int1 ?_ | with_reducible refine g_int2 ?_ | with_reducible refine g_yes ?_ | with_reducible refine g_sfld ?_ | with_reducible refine g_NT ?_ | with_reducible refine g_NF ?_ | with_reducible refine iteT ?_ | with_reducible refine iteF ?_ | ((with_reducible refine' g_aug ?hv ?_); (case hv => exact rfl)) | ((with_reducible refine' g_var ?hv ?_); (case hv => exact rfl)) | with_reducible refine g_I0 ?_ | with_reducible refine g_U ?_ | with_reducible refine g_eqI ?_ | with_reducible refine g_blV ?_ | with_reducible refine g_inV ?_)
local macro_rules | `(tactic| walk_at "rd") => `(tactic| repeat walk_at "rd1")
section
variable {P : Program} {w : World} {K : PySem.W.Frag} {mg : Str → Option Value} {base : Heap} {f : Addr} {fd : FuncData}
abbrev sIsWithin : Stmt := top 15
abbrev sWithin : Stmt := top 16
/-- whether a value is an integer from lo to hi (the bounds have at most sixty digits) -/
def WithB (K : PySem.W.Frag) (H : Hp) (x : V) (lo hi : Int) (b : Bool) : Prop := (∃ i : Int, x = .int i ∧ b = decide (lo ≤ i ∧ i ≤ hi)) ∨ (WholeB K H x false ∧ b = false)
def spIsWithin (K : PySem.W.Frag) : Sp := fun vs H Q _ => ∃ (x : V) (lo hi : Int) (b : Bool), vs = [x, .int lo, .int hi] ∧ -(10 ^ 60) < lo ∧ hi < 10 ^ 60 ∧ WithB K H x lo hi b ∧ Q (.bl b) H
theorem scIsWithin : FnScope ["value", "low", "high"] ["value", "low", "high"] (defScope sIsWithin) := ⟨rfl, rfl, rfl, by decide +kernel, rfl, by decide +kernel, by decide +kernel⟩
theorem ok_isWithin {fW fI : Addr} {fdW fdI : FuncData} (F : Fun K "is_within" "is_within" sIsWithin f fd) (T : Txt K mg) (W : AtW K mg fW fdW) (I : AtI K mg fI fdI) : FnOk P w K mg base CX0 3 f fd ["value", "low", "high"] (spIsWithin K) := by
  have GI : FnOk P w K mg base CX0 2 fI fdI ["value"] (spInteger K) := ok_integer I.F T W
  refine F.ok scIsWithin (fun vs H Q E h => ?_) (fun cdv A outer s H vs Q E hr h => ?_)
  · obtain ⟨x, lo, hi, b, rfl, _⟩ := h
    rfl
  · obtain ⟨x, lo, hi, b, rfl, hlo, hhi, hx, k⟩ := h
    refine ⟨_, pss_one (ps_ret (pe_and (pe_call GI hr (by rfl) I.g I.F.kp I.b .nil pass0 (pa_cons (pv 0) pa_nil))
      (pe_one (pe_chain op_le op_le (pv 1) (pv 0) (pv 2))))), ?_⟩
    walk_at "rd"
    rcases hx with ⟨i, rfl, rfl⟩ | ⟨hx, rfl⟩
    · refine ⟨_, _, rfl, .inl ⟨i, rfl, rfl⟩, ?_⟩
      walk_at "rd"
      refine ite2 (fun h0 => ?_) (fun h0 => ?_)
      · walk_at "rd"
        refine ite2 (fun h1 => ?_) (fun h1 => ?_)
        · walk_at "rd"
          have e : decide (lo ≤ i ∧ i ≤ hi) = decide (i ≤ hi) := dec_l (of_decide_eq_true h1)
          rw [e] at k
          exact k
        · have h2 : ¬ lo ≤ i := fun z => h1 (decide_eq_true z)
          have e : decide (lo ≤ i ∧ i ≤ hi) = false := dec_n h2
          rw [e] at k
          exact k
      · have h2 : ¬ (-(10 ^ 60) < i ∧ i < 10 ^ 60) := fun z => h0 (decide_eq_true z)
        have e : decide (lo ≤ i ∧ i ≤ hi) = false := decide_eq_false (by omega)
        rw [e] at k
        exact k
    · refine ⟨_, _, rfl, .inr ⟨hx, rfl⟩, ?_⟩
      walk_at "rd"
      first | exact k | exact iteF k
structure AtV (K : PySem.W.Frag) (mg : Str → Option Value) (f : Addr) (fd : FuncData) : Prop where
  F : Fun K "is_within" "is_within" sIsWithin f fd
  b : Binds K fd ["value", "low", "high"] []
  g : mg "is_within" = some (.ref f)
def spWithin (K : PySem.W.Frag) (C : Addr) : Sp := fun vs H Q E => ∃ (x : V) (lo hi : Int) (b : Bool), vs = [x, .int lo, .int hi] ∧ -(10 ^ 60) < lo ∧ hi < 10 ^ 60 ∧ WithB K H x lo hi b ∧ (b = true → Q .non H) ∧
  (b = false → ∀ d, H d = none → E (.ref C) (some d) (upd H d (.xd [(("value" : Str), x)])))
theorem scWithin : FnScope ["value", "low", "high"] ["value", "low", "high"] (defScope sWithin) := ⟨rfl, rfl, rfl, by decide +kernel, rfl, by decide +kernel, by decide +kernel⟩
theorem ok_within {fW fI fV C fC : Addr} {fdW fdI fdV : FuncData} (F : Fun K "require_within" "require_within" sWithin f fd) (T : Txt K mg) (W : AtW K mg fW fdW) (I : AtI K mg fI fdI) (V : AtV K mg fV fdV) (N : PySem.XInvalidNumber.InvalidNumberTxt K mg C fC) :
    FnOk P w K mg base (L2.CX P w) 5 f fd ["value", "low", "high"] (spWithin K C) := by
  have GV : FnOk P w K mg base CX0 3 fV fdV ["value", "low", "high"] (spIsWithin K) := ok_isWithin V.F T W I
  refine F.okX scWithin (fun vs H Q E h => ?_) (fun cdv A outer s H vs Q E hr h => ?_)
  · obtain ⟨x, lo, hi, b, rfl, _⟩ := h
    rfl
  · obtain ⟨x, lo, hi, b, rfl, hlo, hhi, hx, k1, k2⟩ := h
    refine ⟨_, pss_one (ps_if (pt_not (pt_val (pe_call GV (hr.mono (by decide)) (by rfl) V.g V.F.kp V.b .nil pass0 (pa_cons (pv 0) (pa_cons (pv 1) (pa_cons (pv 2) pa_nil))))))
      (pss_one (ps_raiseInvalidNumber rfl N hr (takes_of rfl rfl rfl rfl) (by exact (pa_cons (pv 0) pa_nil)))) pss_nil), ?_⟩
    walk_at "rd"
    refine ⟨x, lo, hi, b, rfl, hlo, hhi, hx, ?_⟩
    walk_at "rd"
    cases b with
    | true => exact iteF (k1 rfl)
    | false =>
      refine iteT ?_
      refine ⟨_, rfl, _, rfl, ?_⟩
      exact k2 rfl
end
end K0

set_option Elab.async false
set_option linter.all false
set_option maxRecDepth 100000
set_option maxHeartbeats 4000000
/-! Lists without zeros at their end; reckoned polynomials. -/
namespace K0
open PySem PySem.Spec PyProof.Rows L2 Gd
local macro_rules | `(tactic| walk_at "rd1") => `(tactic| first | with_reducible refine g_ret ?_ | with_reducible refine g_retN ?_ | with_reducible refine g_seq ?_ | with_reducible refine g_next ?_ | with_reducible refine g_drop ?_ | with_reducible refine g_asg ?_ | with_reducible refine g_name ?_ | with_reducible refine g_ifs ?_ | with_reducible refine g_test ?_ | with_reducible refine g_tb ?_ | with_reducible refine g_and ?_ | with_reducible refine g_or ?_ | with_reducible refine g_not ?_ | with_reducible refine g_andV ?_ | with_reducible refine g_orV ?_ | with_reducible refine g_notV ?_ | with_reducible refine g_if ?_ | with_reducible refine g_op ?_ | with_reducible refine g_un ?_ | with_reducible refine g_cb ?_ | with_reducible refine g_nil ?_ | with_reducible refine g_cons ?_ | with_reducible refine g_call ?_ | with_reducible refine g_callS ?_ | with_reducible refine g_tup ?_ | with_reducible refine g_lst ?_ | with_reducible refine g_isN ?_ | with_reducible refine g_sl ?_ | with_reducible refine g_nopart ?_ | with_reducible refine g_part ?_ | with_reducible refine g_chain ?_ | with_reducible refine g_fld ?_ | with_reducible refine g_prop ?_ | with_reducible refine g_bm ?_ | with_reducible refine g_bm0 ?_ | with_reducible refine g_c ?_ | with_reducible refine g_sub ?_ | with_reducible refine g_int1 ?_ | with_reducible refine g_int2 ?_ | with_reducible refine g_yes ?_ | with_reducible refine g_sfld ?_ | with_reducible refine g_NT ?_ | with_reducible refine g_NF ?_ | with_reducible refine iteT ?_ | with_reducible refine iteF ?_ | ((with_reducible refine' g_aug ?hv ?_); (case hv => exact rfl)) | ((with_reducible refine' g_var ?hv ?_); (case hv => exact rfl)) | with_reducible refine g_I0 ?_ | with_reducible refine g_U ?_ | with_reducible refine g_eqI ?_ | with_reducible refine g_blV ?_ | with_reducible refine g_inV ?_)
local macro_rules | `(tactic| walk_at "rd") => `(tactic| repeat walk_at "rd1")
section
variable {P : Program} {w : World} {K : PySem.W.Frag} {mg : Str → Option Value} {base : Heap} {f : Addr} {fd : FuncData}
abbrev sPolyOf : Stmt := top 39
def spTrimmedL (K : PySem.W.Frag) : Sp := fun vs H Q _ => ∃ (a : Addr) (ns : List Int), vs = [.ref a] ∧ SqL K H a (ns.map V.int) ∧ ns.length ≤ 100000 ∧
  ∀ H' u, Ext H H' → SqT K H' u ((trim ns).map V.int) → Q (.ref u) H'
theorem ok_trimmedL (F : Fun K "trimmed" "trimmed" sTrimmed f fd) (T : Txt K mg) : FnOk P w K mg base CX0 1 f fd ["row"] (spTrimmedL K) := by
  refine F.ok scTrimmed (fun vs H Q E h => ?_) (fun cdv A outer s H vs Q E hr h => ?_)
  · obtain ⟨x, b, rfl, _⟩ := h
    rfl
  · obtain ⟨a, ns, rfl, hs, hl, k⟩ := h
    refine ⟨_, pss_cons (ps_set (i := 1) scTrimmed.nd rfl (Or.inl rfl) (pe_callB call_len_seq (by rfl) T.len PySem.boot_len (pa_cons (pv 0) pa_nil)))
      (pss_cons (ps_while PassesOwn.never (PW.pt (pw_and (pt_cmpR op_gt (pv 1) pe_int (nomark _)) (pw_and1 (pt_cmpR op_eq (pe_ix ix_list (pv 0) (pe_op op_sub (pv 1) pe_int) (fun _ _ => rfl)) pe_int (nomark _)))))
          (pss_one (ps_aug (i := 1) scTrimmed.nd rfl (Or.inl rfl) pe_int ip_sub)))
        (pss_one (ps_ret (pe_callTy call_tuple_of (by rfl) T.tuple (by decide +kernel) (pa_cons (pe_slice sl_list (pv 0) po_none (po_some (pv 1))) pa_nil))))), ?_⟩
    walk_at "rd"
    refine ⟨a, _, rfl, .inl hs, ?_⟩
    walk_at "rd"
    refine g_while (PvT a H ns) (muI 1) ⟨rfl, ns.length, by rw [List.length_map]; rfl, Nat.le_refl _, fun j x g e => by
        rw [List.getElem?_eq_none_iff.mpr g] at e
        cases e⟩ ?_
    rintro σ H' ⟨rfl, e, rfl, he, hz⟩
    walk_at "rd"
    have fin : (e = 0 ∨ ∃ x, ns[e - 1]? = some x ∧ x ≠ 0) → tRet (tCB (fun xs H Q => ∃ p ys, xs = [V.ref p] ∧ ((SqL K H p ys ∧ ∀ l, H l = none → Q (V.ref l) (upd H l (HO.tup ys))) ∨ (SqT K H p ys ∧ Q (V.ref p) H))) (tCons (tSl (rSlL K) (tVar 0) tNoPart (tPart (tVar 1))) tNil))
        { nx := fun x H' => Q V.non H', rt := Q } [some (V.ref a), some (V.int (e : Int))] H' := by
      intro hl'
      have et := trim_take ns e he hz hl'
      walk_at "rd"
      have s1 : HT.sIx (ns.map V.int).length 0 none = 0 := rfl
      have s2 : HT.sIx (ns.map V.int).length (ns.map V.int).length (some (e : Int)) = e := by
        rw [HT.sIx_nat, List.length_map]
        omega
      have ec : cutV (ns.map V.int) none (some (e : Int)) = (trim ns).map V.int := by
        unfold cutV
        rw [s1, s2, et, List.drop_zero, Nat.sub_zero, List.map_take]
      refine ⟨a, _, rfl, hs, fun p hp => ?_⟩
      rw [ec]
      walk_at "rd"
      refine ⟨p, _, rfl, .inl ⟨SqL.of upd_same, fun u hu => ?_⟩⟩
      exact k _ u (Ext.trans (Ext.new hp) (Ext.new hu)) (SqT.of upd_same)
    refine ite2 (fun h1 => ?_) (fun h1 => ?_)
    · have h1' : 0 < e := by
        have := of_decide_eq_true h1
        omega
      walk_at "rd"
      have hlt : e - 1 < ns.length := by omega
      have ge : (ns.map V.int)[e - 1]? = some (V.int ns[e - 1]) := by rw [mapget, List.getElem?_eq_getElem hlt]; rfl
      refine g_ixL hs (v := .int ns[e - 1]) ?_ ?_
      · have := atI_nat ge
        have q : ((e : Int) - 1) = ((e - 1 : Nat) : Int) := by omega
        rw [q]
        exact this
      walk_at "rd"
      refine ite2 (fun h2 => ?_) (fun h2 => ?_)
      · refine g_turn ?_
        walk_at "rd"
        refine ⟨_, _, rfl, rfl, ?_⟩
        refine ⟨⟨rfl, e - 1, ?_, by omega, fun j x g q => ?_⟩, ?_⟩
        · show [some (V.ref a), some (V.int ((e : Int) - 1))] = _
          have q : ((e : Int) - 1) = ((e - 1 : Nat) : Int) := by omega
          rw [q]
        · by_cases hj : j = e - 1
          · subst hj
            rw [List.getElem?_eq_getElem hlt] at q
            cases q
            exact of_decide_eq_true h2
          · exact hz j x (by omega) q
        · show ((e : Int) - 1).toNat < ((e : Int)).toNat
          omega
      · refine fin (.inr ⟨_, List.getElem?_eq_getElem hlt, fun z => h2 (decide_eq_true z)⟩)
    · refine iteF (fin (.inl ?_))
      have : ¬ (0 : Int) < (e : Int) := fun z => h1 (decide_eq_true z)
      omega
/-! ### poly_of -/
def spPolyOf (K : PySem.W.Frag) (C : Addr) (Sq : Hp → Addr → List V → Prop) : Sp := fun vs H Q _ => ∃ (a : Addr) (ns : List Int), vs = [.ref a] ∧ Sq H a (ns.map V.int) ∧ ns.length ≤ 100000 ∧
  ∀ H' p u, Ext H H' → PolyU K C H' p u (trim ns) → Q (.ref p) H'
/-- where __init__ stands -/
structure AtN (K : PySem.W.Frag) (C t0 f : Addr) (fd : FuncData) : Prop where
  F : FnI K t0 f fd
  M : Mk K C f
  b : Binds K fd ["self", "factors"] []
theorem bigN : Big [] := fun n hn => nomatch hn
theorem g_make1 {K : PySem.W.Frag} {C t0 : Addr} {E : XK} {σ : L2.St} {H : Hp} {Q : VK} (h0 : SqT K H t0 []) (k : ∀ H' p dx u, Ext H H' → H p = none → H' p = some (.ins C dx [(("_factors" : Str), .ref u)]) → SqT K H' u [] → Q (.ref p) H') : tMake C (spInit K C) [.ref t0] E tNil σ H Q := by
  intro x dx hx hdx ne
  have e1 : Ext H (upd (upd H dx (.own x)) x (.ins C dx [])) := fun b o q => by
    rw [upd_ne (ne_of_none q hx), upd_ne (ne_of_none q hdx)]
    exact q
  refine ⟨x, dx, t0, [], rfl, upd_same, sqT_ext e1 h0, by decide, bigN, fun H' u e hp hu => ⟨rfl, k H' x dx u (fun b o q => e b o (ne_of_none q hx) (e1 b o q)) hx hp hu⟩⟩
theorem scPolyOf : FnScope ["row", "poly"] ["row"] (defScope sPolyOf) := ⟨rfl, rfl, rfl, by decide +kernel, rfl, by decide +kernel, by decide +kernel⟩
theorem ok_polyOf {Sq : Hp → Addr → List V → Prop} {fC fT C t0 : Addr} {fdC fdT : FuncData} {ds : List Value} (F : Fun K "poly_of" "poly_of" sPolyOf f fd) (T : Txt K mg) (Cl : PC K mg C) (Ni : AtN K C t0 fC fdC)
    (b0 : Binds K fdC ["self", "factors"] ds) (hds : Vals [V.ref t0] ds) (hT0 : ∀ H, SqT K H t0 []) (R : AtT K mg fT fdT) (sq : ∀ H H' a xs, Ext H H' → Sq H a xs → Sq H' a xs)
    (GC : FnOk P w K mg base CX0 4 fC fdC ["self", "factors"] (spInit K C))
    (GT : FnOk P w K mg base CX0 1 fT fdT ["row"] (fun vs H Q _ => ∃ (a : Addr) (ns : List Int), vs = [.ref a] ∧ Sq H a (ns.map V.int) ∧ ns.length ≤ 100000 ∧ ∀ H' u, Ext H H' → SqT K H' u ((trim ns).map V.int) → Q (.ref u) H')) :
    FnOk P w K mg base CX0 6 f fd ["row"] (spPolyOf K C Sq) := by
  refine F.ok scPolyOf (fun vs H Q E h => ?_) (fun cdv A outer s H vs Q E hr h => ?_)
  · obtain ⟨a, ns, rfl, _⟩ := h
    rfl
  · obtain ⟨a, ns, rfl, hs, hl, k⟩ := h
    refine ⟨_, pss_cons (ps_set (i := 1) scPolyOf.nd rfl (Or.inl rfl) (pe_make0 Ni.M GC hr (by rfl) Cl.g b0 hds pass0))
      (pss_cons (ps_fld (pv 1) (pe_call GT (hr.mono (by decide)) (by rfl) R.g R.F.kp R.b .nil pass0 (pa_cons (pv 0) pa_nil)) rfl)
        (pss_one (ps_ret (pv 1)))), ?_⟩
    walk_at "rd"
    refine g_make1 (hT0 _) (fun H1 p dx u e1 hp0 hp hu => ?_)
    walk_at "rd"
    refine ⟨a, ns, rfl, sq _ _ _ _ e1 hs, hl, fun H2 v e2 hv => ?_⟩
    walk_at "rd"
    refine ⟨p, C, dx, _, rfl, e2 _ _ hp, Cl.cl, Cl.noF, by show 1 < 1000; decide, ?_⟩
    walk_at "rd"
    refine k _ p v (fun b o q => ?_) ⟨⟨dx, ?_⟩, ?_, Nat.le_trans (trim_len ns) hl⟩
    · rw [upd_ne (ne_of_none q hp0)]
      exact e2 _ _ (e1 _ _ q)
    · exact upd_same
    · rcases hv with (h | ⟨o, h⟩) | h
      · refine .inl (.inl ?_)
        rw [upd_ne (ne_of h (e2 _ _ hp) (by intro z; cases z))]
        exact h
      · refine .inl (.inr ⟨o, ?_⟩)
        rw [upd_ne (ne_of h (e2 _ _ hp) (by intro z; cases z))]
        exact h
      · exact .inr h
end
end K0

set_option Elab.async false
set_option linter.all false
set_option maxRecDepth 100000
set_option maxHeartbeats 4000000
/-! Rows negated and added. -/
namespace K0
open PySem PySem.Spec PyProof.Rows L2 Gd
local macro_rules | `(tactic| walk_at "rd1") => `(tactic| first | with_reducible refine g_ret ?_ | with_reducible refine g_retN ?_ | with_reducible refine g_seq ?_ | with_reducible refine g_next ?_ | with_reducible refine g_drop ?_ | with_reducible refine g_asg ?_ | with_reducible refine g_name ?_ | with_reducible refine g_ifs ?_ | with_reducible refine g_test ?_ | with_reducible refine g_tb ?_ | with_reducible refine g_and ?_ | with_reducible refine g_or ?_ | with_reducible refine g_not ?_ | with_reducible refine g_andV ?_ | with_reducible refine g_orV ?_ | with_reducible refine g_notV ?_ | with_reducible refine g_if ?_ | with_reducible refine g_op ?_ | with_reducible refine g_un ?_ | with_reducible refine g_cb ?_ | with_reducible refine g_nil ?_ | with_reducible refine g_cons ?_ | with_reducible refine g_call ?_ | with_reducible refine g_callS ?_ | with_reducible refine g_tup ?_ | with_reducible refine g_lst ?_ | with_reducible refine g_isN ?_ | with_reducible refine g_sl ?_ | with_reducible refine g_nopart ?_ | with_reducible refine g_part ?_ | with_reducible refine g_chain ?_ | with_reducible refine g_fld ?_ | with_reducible refine g_prop ?_ | with_reducible refine g_bm ?_ | with_reducible refine g_bm0 ?_ | with_reducible refine g_c ?_ | with_reducible refine g_sub ?_ | with_reducible refine g_int1 ?_ | with_reducible refine g_int2 ?_ | with_reducible refine g_yes ?_ | with_reducible refine g_sfld ?_ | with_reducible refine g_NT ?_ | with_reducible refine g_NF ?_ | with_reducible refine iteT ?_ | with_reducible refine iteF ?_ | ((with_reducible refine' g_aug ?hv ?_); (case hv => exact rfl)) | ((with_reducible refine' g_var ?hv ?_); (case hv => exact rfl)) | with_reducible refine g_I0 ?_ | with_reducible refine g_U ?_ | with_reducible refine g_eqI ?_ | with_reducible refine g_blV ?_ | with_reducible refine g_inV ?_)
local macro_rules | `(tactic| walk_at "rd") => `(tactic| repeat walk_at "rd1")
theorem PI_or {X : Cx} {tg e : Expr} {w1 w2 : TI} (h1 : PI X tg e w1) (h2 : PI X tg e w2) : PI X tg e (fun σ H R => w1 σ H R ∨ w2 σ H R) :=
  ⟨fun pins s σ H R I h => h.elim (h1.run pins s σ H R I) (h2.run pins s σ H R I)⟩
/-- the sum of two rows -/
def addR : List Int → List Int → List Int
  | [], b => b
  | a, [] => a
  | x :: a, y :: b => (x + y) :: addR a b
theorem addR_nil (a : List Int) : addR a [] = a := by cases a <;> rfl
theorem addR_comm : ∀ a b : List Int, addR a b = addR b a
  | [], b => (addR_nil b).symm
  | x :: a, [] => rfl
  | x :: a, y :: b => by
    show (x + y) :: addR a b = (y + x) :: addR b a
    rw [addR_comm a b, Int.add_comm]
theorem addR_zip : ∀ a b : List Int, b.length ≤ a.length → addR a b = List.zipWith (· + ·) a b ++ a.drop b.length
  | a, [], _ => by
    rw [addR_nil]
    simp
  | [], y :: b, h => absurd h (by simp)
  | x :: a, y :: b, h => by
    show (x + y) :: addR a b = _
    rw [addR_zip a b (by simpa using h)]
    rfl
theorem addR_len : ∀ a b : List Int, (addR a b).length = max a.length b.length
  | [], b => by simp [addR]
  | x :: a, [] => by simp [addR]
  | x :: a, y :: b => by
    show (addR a b).length + 1 = max (a.length + 1) (b.length + 1)
    rw [addR_len a b]
    omega
section
variable {P : Program} {w : World} {K : PySem.W.Frag} {mg : Str → Option Value} {base : Heap} {f : Addr} {fd : FuncData}
abbrev sNegated : Stmt := top 21
abbrev sAdded : Stmt := top 20
theorem sqE_ext {l : Bool} {H H' : Hp} {a : Addr} {xs : List V} (e : Ext H H') (h : SqE K l H a xs) : SqE K l H' a xs := by
  cases l with
  | true => exact sqL_ext e h
  | false => exact sqT_ext e h
def spNegated (K : PySem.W.Frag) : Sp := fun vs H Q _ => ∃ (l : Bool) (a : Addr) (ns : List Int), vs = [.ref a] ∧ SqE K l H a (ns.map V.int) ∧ ns.length ≤ 100000 ∧
  ∀ H' u, Ext H H' → H u = none → H' u = some (.lst ((ns.map fun n => -n).map V.int)) → Q (.ref u) H'
theorem scNegated : FnScope ["row", "factor"] ["row"] (defScope sNegated) := ⟨rfl, rfl, rfl, by decide +kernel, rfl, by decide +kernel, by decide +kernel⟩
theorem ok_negated (F : Fun K "negated" "negated" sNegated f fd) : FnOk P w K mg base CX0 1 f fd ["row"] (spNegated K) := by
  refine F.ok scNegated (fun vs H Q E h => ?_) (fun cdv A outer s H vs Q E hr h => ?_)
  · obtain ⟨l, a, ns, rfl, _⟩ := h
    rfl
  · obtain ⟨l, a, ns, rfl, hs, hl, k⟩ := h
    refine ⟨_, pss_one (ps_ret (pe_lc (own := [("factor", 1)]) (g := gName 1) (tt := tYes) rfl scNegated.nd (PI_or (pi_list (pv 0)) (pi_tup (pv 0))) (blkOk_by (N := ["row", "factor"]) (sc := defScope sNegated) (by decide +kernel)) (fun _ _ _ _ _ => pg_name (i := 1) scNegated.nd rfl (Or.inl rfl)) (fun _ _ _ _ _ => pts_nil)
      (fun _ _ _ _ _ => pe_un un_neg (pv 1)))), ?_⟩
    walk_at "rd"
    have hl' : ns.length < sizeLine := by
      rw [sizeLine_eq]
      omega
    have turn : ∀ D, H D = none → ∀ i x H', (ns.map V.int)[i]? = some x → (Ext H H' ∧ H' D = some (.lst (((ns.take i).map fun n => -n).map V.int))) →
        gName 1 x (wipe [some (V.ref a), none] [1]) H' fun σ2 H2 => wipe σ2 [1] = wipe [some (V.ref a), none] [1] ∧ tYes σ2 H2 fun b H3 =>
          if b = true then (tUn (rU fun i => V.int (-i)) (tVar 1)) σ2 H3 fun y H4 => ∃ acc, H4 D = some (.lst acc) ∧ acc.length < sizeLine ∧ (fun j H'' => Ext H H'' ∧ H'' D = some (.lst (((ns.take j).map fun n => -n).map V.int))) (i + 1) (upd H4 D (.lst (acc ++ [y])))
          else (fun j H'' => Ext H H'' ∧ H'' D = some (.lst (((ns.take j).map fun n => -n).map V.int))) (i + 1) H3 := by
      rintro D hD i x H' hi ⟨e, hD'⟩
      rw [mapget] at hi
      obtain ⟨n, hn, rfl⟩ := Option.map_eq_some_iff.mp hi
      have hlt : i < ns.length := (List.getElem?_eq_some_iff.mp hn).1
      refine ⟨rfl, ?_⟩
      walk_at "rd"
      refine ⟨_, hD', ?_, fun b o q => ?_, ?_⟩
      · rw [List.length_map, List.length_map, List.length_take]
        omega
      · rw [upd_ne (ne_of_none q hD)]
        exact e b o q
      · rw [upd_same, take_one hlt, List.map_append, List.map_append]
        have : ns[i] = n := by
          rw [List.getElem?_eq_getElem hlt] at hn
          exact Option.some.inj hn
        rw [this]
        rfl
    have fin : ∀ D, H D = none → ∀ H', Ext H H' ∧ H' D = some (.lst (((ns.take (ns.map V.int).length).map fun n => -n).map V.int)) → Q (.ref D) H' := by
      rintro D hD H' ⟨e, hD'⟩
      refine k _ D e hD ?_
      rw [hD', List.length_map, List.take_length]
    cases l with
    | true => exact .inl ⟨_, rfl, a, rfl, ⟨_, hs⟩, fun D hD => lc_list (xs := ns.map V.int) (fun i H' => Ext H H' ∧ H' D = some (.lst (((ns.take i).map fun n => -n).map V.int))) ⟨Ext.new hD, upd_same⟩ (fun i H' _ q => sqL_ext q.1 hs) (turn D hD) (fin D hD)⟩
    | false => exact .inr ⟨_, rfl, a, rfl, ⟨_, hs⟩, fun D hD => lc_tup (xs := ns.map V.int) (fun i H' => Ext H H' ∧ H' D = some (.lst (((ns.take i).map fun n => -n).map V.int))) ⟨Ext.new hD, upd_same⟩ (fun i H' _ q => sqT_ext q.1 hs) (turn D hD) (fin D hD)⟩
end
end K0

set_option Elab.async false
set_option linter.all false
set_option maxRecDepth 100000
set_option maxHeartbeats 4000000
/-! Rows added. -/
namespace K0
open PySem PySem.Spec PyProof.Rows L2 Gd
local macro_rules | `(tactic| walk_at "rd1") => `(tactic| first | with_reducible refine g_ret ?_ | with_reducible refine g_retN ?_ | with_reducible refine g_seq ?_ | with_reducible refine g_next ?_ | with_reducible refine g_drop ?_ | with_reducible refine g_asg ?_ | with_reducible refine g_name ?_ | with_reducible refine g_ifs ?_ | with_reducible refine g_test ?_ | with_reducible refine g_tb ?_ | with_reducible refine g_and ?_ | with_reducible refine g_or ?_ | with_reducible refine g_not ?_ | with_reducible refine g_andV ?_ | with_reducible refine g_orV ?_ | with_reducible refine g_notV ?_ | with_reducible refine g_if ?_ | with_reducible refine g_op ?_ | with_reducible refine g_un ?_ | with_reducible refine g_cb ?_ | with_reducible refine g_nil ?_ | with_reducible refine g_cons ?_ | with_reducible refine g_call ?_ | with_reducible refine g_callS ?_ | with_reducible refine g_tup ?_ | with_reducible refine g_lst ?_ | with_reducible refine g_isN ?_ | with_reducible refine g_sl ?_ | with_reducible refine g_nopart ?_ | with_reducible refine g_part ?_ | with_reducible refine g_chain ?_ | with_reducible refine g_fld ?_ | with_reducible refine g_prop ?_ | with_reducible refine g_bm ?_ | with_reducible refine g_bm0 ?_ | with_reducible refine g_c ?_ | with_reducible refine g_sub ?_ | with_reducible refine g_int1 ?_ | with_reducible refine g_int2 ?_ | with_reducible refine g_yes ?_ | with_reducible refine g_sfld ?_ | with_reducible refine g_NT ?_ | with_reducible refine g_NF ?_ | with_reducible refine iteT ?_ | with_reducible refine iteF ?_ | ((with_reducible refine' g_aug ?hv ?_); (case hv => exact rfl)) | ((with_reducible refine' g_var ?hv ?_); (case hv => exact rfl)) | with_reducible refine g_I0 ?_ | with_reducible refine g_U ?_ | with_reducible refine g_eqI ?_ | with_reducible refine g_blV ?_ | with_reducible refine g_inV ?_)
local macro_rules | `(tactic| walk_at "rd") => `(tactic| repeat walk_at "rd1")
section
variable {P : Program} {w : World} {K : PySem.W.Frag} {mg : Str → Option Value} {base : Heap} {f : Addr} {fd : FuncData}
def spAdded (K : PySem.W.Frag) : Sp := fun vs H Q _ => ∃ (l1 l2 : Bool) (a b : Addr) (ns ms : List Int), vs = [.ref a, .ref b] ∧ SqE K l1 H a (ns.map V.int) ∧ SqE K l2 H b (ms.map V.int) ∧ ns.length ≤ 100000 ∧ ms.length ≤ 100000 ∧
  ∀ H' u, Ext H H' → H u = none → H' u = some (.lst ((addR ns ms).map V.int)) → Q (.ref u) H'
theorem scAdded : FnScope ["one", "other", "x", "y"] ["one", "other"] (defScope sAdded) := ⟨rfl, rfl, rfl, by decide +kernel, rfl, by decide +kernel, by decide +kernel⟩
theorem sqE_or {l : Bool} {H : Hp} {a : Addr} {xs : List V} (h : SqE K l H a xs) : SqL K H a xs ∨ SqT K H a xs := by
  cases l with
  | true => exact .inl h
  | false => exact .inr h
theorem cut_drop {xs : List V} {m : Nat} (h : m ≤ xs.length) : cutV xs (some (m : Int)) none = xs.drop m := by
  unfold cutV
  have s1 : HT.sIx xs.length 0 (some (m : Int)) = m := by
    rw [HT.sIx_nat]
    omega
  have s2 : HT.sIx xs.length xs.length none = xs.length := rfl
  rw [s1, s2]
  exact List.take_of_length_le (by rw [List.length_drop]; exact Nat.le_refl _)
theorem g_dropE {l : Bool} {H : Hp} {a : Addr} {xs : List V} {m : Nat} {Q : VK} (h : SqE K l H a xs) (hm : m ≤ xs.length) (k : ∀ H' p, Ext H H' → (SqL K H' p (xs.drop m) ∨ SqT K H' p (xs.drop m)) → Q (.ref p) H') :
    rSlL K (.ref a) (some (m : Int)) none H Q ∨ rSlA K (.ref a) (some (m : Int)) none H Q := by
  cases l with
  | true =>
    refine .inl ⟨a, xs, rfl, h, fun p hp => ?_⟩
    rw [cut_drop hm]
    exact k _ p (Ext.new hp) (.inl (SqL.of upd_same))
  | false =>
    refine .inr ⟨a, xs, rfl, h, fun w => ?_, fun w p hp => ?_⟩
    · have z : m = 0 := by
        have := w.1
        rw [HT.sIx_nat] at this
        omega
      refine k H a (fun _ _ q => q) (.inr ?_)
      rw [z]
      exact h
    · rw [cut_drop hm]
      exact k _ p (Ext.new hp) (.inr (SqT.of upd_same))
theorem ok_added (F : Fun K "added" "added" sAdded f fd) (T : Txt K mg) (hz : mg "zip" = none) : FnOk P w K mg base CX0 1 f fd ["one", "other"] (spAdded K) := by
  refine F.ok scAdded (fun vs H Q E h => ?_) (fun cdv A outer s H vs Q E hr h => ?_)
  · obtain ⟨l1, l2, a, b, ns, ms, rfl, _⟩ := h
    rfl
  · obtain ⟨l1, l2, a, b, ns, ms, rfl, ha, hb, h1, h2, k⟩ := h
    refine ⟨_, pss_cons (ps_if (pt_cmpR op_lt (pe_callB call_len_seq (by rfl) T.len PySem.boot_len (pa_cons (pv 0) pa_nil)) (pe_callB call_len_seq (by rfl) T.len PySem.boot_len (pa_cons (pv 1) pa_nil)) (nomark _))
        (pss_one (ps_par (i := 0) (j := 1) rfl scAdded.nd rfl rfl (by decide) rfl rfl (pa_cons (pv 1) (pa_cons (pv 0) pa_nil)) rfl)) pss_nil)
      (pss_one (ps_ret (pe_op op_cat (pe_lc (own := [("x", 2), ("y", 3)]) (g := gTup K 2 (gCons (gName 2) (gCons (gName 3) gNil))) (tt := tYes) rfl scAdded.nd (pi_zipE (by rfl) hz (pa_cons (pv 0) (pa_cons (pv 1) pa_nil)))
            (blkOk_by (N := ["one", "other", "x", "y"]) (sc := defScope sAdded) (by decide +kernel)) (fun _ _ _ _ _ => pg_tup rfl (pgs_cons (pg_name (i := 2) scAdded.nd rfl (Or.inl rfl)) (pgs_cons (pg_name (i := 3) scAdded.nd rfl (Or.inl rfl)) pgs_nil))) (fun _ _ _ _ _ => pts_nil)
            (fun _ _ _ _ _ => pe_op op_add (pv 2) (pv 3)))
          (pe_callTy call_list_of (by rfl) T.list (by decide +kernel) (pa_cons (pe_slice (SlR.or sl_list sl_tupA) (pv 0) (po_some (pe_callB call_len_seq (by rfl) T.len PySem.boot_len (pa_cons (pv 1) pa_nil))) po_none) pa_nil))))), ?_⟩
    refine g_cut (fun σ H' => H' = H ∧ ∃ (l1 l2 : Bool) (a b : Addr) (xs ys : List Int), σ = [some (.ref a), some (.ref b), none, none] ∧ SqE K l1 H a (xs.map V.int) ∧ SqE K l2 H b (ys.map V.int) ∧ ys.length ≤ xs.length ∧ xs.length ≤ 100000 ∧ addR xs ys = addR ns ms) (fun σ' H' hN => ?_) (fun go => ?_)
    rotate_left
    · walk_at "rd"
      refine ⟨a, _, rfl, sqE_or ha, ?_⟩
      walk_at "rd"
      refine ⟨b, _, rfl, sqE_or hb, ?_⟩
      walk_at "rd"
      rw [List.length_map, List.length_map]
      refine ite2 (fun hc => ?_) (fun hc => ?_)
      · have hc' := of_decide_eq_true hc
        refine g_par ?_
        walk_at "rd"
        exact ⟨_, _, rfl, go _ _ ⟨rfl, l2, l1, b, a, ms, ns, rfl, hb, ha, by omega, h2, addR_comm ms ns⟩⟩
      · have hc' : ¬ (ns.length : Int) < (ms.length : Int) := fun z => hc (decide_eq_true z)
        exact go _ _ ⟨rfl, l1, l2, a, b, ns, ms, rfl, ha, hb, by omega, h1, rfl⟩
    · obtain ⟨rfl, l1, l2, a, b, xs, ys, rfl, ha, hb, hle, hx, ex⟩ := hN
      walk_at "rd"
      have hn : ys.length = min (xs.map V.int).length (ys.map V.int).length := by
        rw [List.length_map, List.length_map]
        omega
      have lz : (List.zipWith (· + ·) xs ys).length = ys.length := by
        rw [List.length_zipWith]
        omega
      have sz : (100000 : Nat) < sizeLine := by decide
      refine ⟨_, rfl, _, rfl, l1, l2, a, b, _, _, rfl, ha, hb, fun D hD => lc_it (walk_zipE hn) (fun i H2 => Ext H' H2 ∧ H2 D = some (.lst (((List.zipWith (· + ·) xs ys).take i).map V.int))) ⟨Ext.new hD, upd_same⟩
        (fun i H2 _ q => ⟨sqE_ext q.1 ha, sqE_ext q.1 hb⟩) ?_ ?_⟩
      · rintro i x Ha Hb hi ⟨e, hD'⟩ ⟨T, v, w, rfl, hT, rfl, hv, hw⟩
        have hv : (xs.map V.int)[i]? = some v := hv
        have hw : (ys.map V.int)[i]? = some w := hw
        rw [mapget] at hv hw
        obtain ⟨n, hn1, rfl⟩ := Option.map_eq_some_iff.mp hv
        obtain ⟨m, hm1, rfl⟩ := Option.map_eq_some_iff.mp hw
        have hlt : i < (List.zipWith (· + ·) xs ys).length := by omega
        have eq : (List.zipWith (· + ·) xs ys)[i] = n + m := by
          rw [List.getElem_zipWith]
          obtain ⟨q1, q2⟩ := List.getElem?_eq_some_iff.mp hn1
          obtain ⟨q3, q4⟩ := List.getElem?_eq_some_iff.mp hm1
          rw [q2, q4]
        have eT := Ext.new (o := HO.tup [V.int n, V.int m]) hT
        refine ⟨T, _, rfl, SqT.of upd_same, rfl, _, _, rfl, ?_⟩
        refine ⟨_, _, rfl, rfl, rfl, ?_⟩
        walk_at "rd"
        refine ⟨_, eT _ _ hD', ?_, fun b o q => ?_, ?_⟩
        · rw [List.length_map, List.length_take]
          omega
        · rw [upd_ne (ne_of_none q hD)]
          exact eT _ _ (e _ _ q)
        · rw [upd_same, take_one hlt, List.map_append, eq]
          rfl
      · rintro H2 ⟨e, hD'⟩
        rw [← lz, List.take_length] at hD'
        walk_at "rd"
        refine ⟨b, _, rfl, sqE_or (sqE_ext e hb), ?_⟩
        walk_at "rd"
        rw [List.length_map]
        refine g_dropE (sqE_ext e ha) (by rw [List.length_map]; exact hle) (fun H3 p e3 hp => ?_)
        walk_at "rd"
        refine ⟨p, _, rfl, hp, fun q hq => ?_⟩
        have eq3 := Ext.new (o := HO.lst ((xs.map V.int).drop ys.length)) hq
        refine ⟨D, q, _, _, rfl, rfl, eq3 _ _ (e3 _ _ hD'), upd_same, ?_, fun r hr => ?_⟩
        · rw [List.length_map, lz, List.length_drop, List.length_map]
          omega
        · refine k _ r (Ext.trans e (Ext.trans e3 (Ext.trans eq3 (Ext.new hr)))) ?_ ?_
          · cases z : H' r with
            | none => rfl
            | some o =>
              have := (Ext.trans e (Ext.trans e3 eq3)) _ _ z
              rw [hr] at this
              cases this
          · rw [upd_same, ← ex, addR_zip xs ys hle, List.map_append, List.map_drop]
end
end K0

set_option Elab.async false
set_option linter.all false
set_option maxRecDepth 100000
set_option maxHeartbeats 4000000
/-! Rows multiplied. -/
namespace K0
open PySem PySem.Spec PyProof.Rows L2 Gd
local macro_rules | `(tactic| walk_at "rd1") => `(tactic| first | with_reducible refine g_ret ?_ | with_reducible refine g_retN ?_ | with_reducible refine g_seq ?_ | with_reducible refine g_next ?_ | with_reducible refine g_drop ?_ | with_reducible refine g_asg ?_ | with_reducible refine g_name ?_ | with_reducible refine g_ifs ?_ | with_reducible refine g_test ?_ | with_reducible refine g_tb ?_ | with_reducible refine g_and ?_ | with_reducible refine g_or ?_ | with_reducible refine g_not ?_ | with_reducible refine g_andV ?_ | with_reducible refine g_orV ?_ | with_reducible refine g_notV ?_ | with_reducible refine g_if ?_ | with_reducible refine g_op ?_ | with_reducible refine g_un ?_ | with_reducible refine g_cb ?_ | with_reducible refine g_nil ?_ | with_reducible refine g_cons ?_ | with_reducible refine g_call ?_ | with_reducible refine g_callS ?_ | with_reducible refine g_tup ?_ | with_reducible refine g_lst ?_ | with_reducible refine g_isN ?_ | with_reducible refine g_sl ?_ | with_reducible refine g_nopart ?_ | with_reducible refine g_part ?_ | with_reducible refine g_chain ?_ | with_reducible refine g_fld ?_ | with_reducible refine g_prop ?_ | with_reducible refine g_bm ?_ | with_reducible refine g_bm0 ?_ | with_reducible refine g_c ?_ | with_reducible refine g_sub ?_ | with_reducible refine g_int1 ?_ | with_reducible refine g_int2 ?_ | with_reducible refine g_yes ?_ | with_reducible refine g_sfld ?_ | with_reducible refine g_NT ?_ | with_reducible refine g_NF ?_ | with_reducible refine iteT ?_ | with_reducible refine iteF ?_ | ((with_reducible refine' g_aug ?hv ?_); (case hv => exact rfl)) | ((with_reducible refine' g_var ?hv ?_); (case hv => exact rfl)) | with_reducible refine g_I0 ?_ | with_reducible refine g_U ?_ | with_reducible refine g_eqI ?_ | with_reducible refine g_blV ?_ | with_reducible refine g_inV ?_)
local macro_rules | `(tactic| walk_at "rd") => `(tactic| repeat walk_at "rd1")
/-! ### the mathematics: the factor of p ** k of a product -/
def at0 (b : List Int) (k : Nat) : Int := (b[k]?).getD 0
def co : List Int → List Int → Nat → Int
  | [], _, _ => 0
  | x :: _, b, 0 => x * at0 b 0
  | x :: a, b, k + 1 => x * at0 b (k + 1) + co a b k
/-- what x at the place n gives to that of k -/
def tm (x : Int) (n : Nat) (b : List Int) (k : Nat) : Int := if n ≤ k then x * at0 b (k - n) else 0
theorem co_snoc : ∀ (a : List Int) (x : Int) (b : List Int) (k : Nat), co (a ++ [x]) b k = co a b k + tm x a.length b k
  | [], x, b, 0 => by
    show x * at0 b 0 = 0 + _
    unfold tm
    simp
  | [], x, b, k + 1 => by
    show x * at0 b (k + 1) + 0 = 0 + _
    unfold tm
    simp
  | y :: a, x, b, 0 => by
    show y * at0 b 0 = y * at0 b 0 + tm x (a.length + 1) b 0
    unfold tm
    simp
  | y :: a, x, b, k + 1 => by
    show y * at0 b (k + 1) + co (a ++ [x]) b k = y * at0 b (k + 1) + co a b k + tm x (a.length + 1) b (k + 1)
    rw [co_snoc a x b k]
    have : tm x (a.length + 1) b (k + 1) = tm x a.length b k := by
      unfold tm
      by_cases h : a.length ≤ k
      · rw [if_pos h, if_pos (by omega), Nat.add_sub_add_right]
      · rw [if_neg h, if_neg (by omega)]
    rw [this, Int.add_assoc]
def mulR (a b : List Int) : List Int := (List.range (a.length + b.length)).map (co a b)
theorem mulR_len (a b : List Int) : (mulR a b).length = a.length + b.length := by
  unfold mulR
  rw [List.length_map, List.length_range]
/-- the row behind i items of the one and j of the other -/
def part (a b : List Int) (i j : Nat) (k : Nat) : Int := co (a.take i) b k + (if k < i + j then tm (at0 a i) i b k else 0)
theorem part_0 (a b : List Int) (k : Nat) : part a b 0 0 k = 0 := by
  unfold part
  rw [if_neg (by omega)]
  rfl
theorem part_zero (a b : List Int) (i k : Nat) : part a b i 0 k = co (a.take i) b k := by
  unfold part
  by_cases h : k < i + 0
  · rw [if_pos h]
    unfold tm
    rw [if_neg (by omega)]
    omega
  · rw [if_neg h]
    omega
theorem part_end {a b : List Int} {i : Nat} (hi : i < a.length) (k : Nat) (hk : k < a.length + b.length) : part a b i b.length k = co (a.take (i + 1)) b k := by
  have e : a.take (i + 1) = a.take i ++ [at0 a i] := by
    rw [take_one hi]
    unfold at0
    rw [List.getElem?_eq_getElem hi]
    rfl
  rw [e, co_snoc, List.length_take, Nat.min_eq_left (Nat.le_of_lt hi)]
  unfold part
  by_cases h : k < i + b.length
  · rw [if_pos h]
  · rw [if_neg h]
    unfold tm
    rw [if_pos (by omega)]
    have : at0 b (k - i) = 0 := by
      unfold at0
      rw [List.getElem?_eq_none_iff.mpr (by omega)]
      rfl
    rw [this, Int.mul_zero]
theorem part_same {a b : List Int} {i : Nat} (h : at0 a i = 0) (j k : Nat) : part a b i j k = co (a.take i) b k := by
  unfold part tm
  rw [h]
  split
  · split <;> simp
  · simp
theorem part_step {a b : List Int} {i j : Nat} (k : Nat) : part a b i (j + 1) k = if k = i + j then part a b i j k + at0 a i * at0 b j else part a b i j k := by
  unfold part
  by_cases h : k = i + j
  · subst h
    rw [if_pos rfl, if_pos (by omega), if_neg (by omega)]
    unfold tm
    rw [if_pos (by omega), Nat.add_sub_cancel_left]
    omega
  · rw [if_neg h]
    by_cases g : k < i + j
    · rw [if_pos g, if_pos (by omega)]
    · rw [if_neg g, if_neg (by omega)]
/-- the row as it stands -/
def rowAt (a b : List Int) (i j : Nat) : List Int := (List.range (a.length + b.length)).map (part a b i j)
theorem rowAt_len (a b : List Int) (i j : Nat) : (rowAt a b i j).length = a.length + b.length := by
  unfold rowAt
  rw [List.length_map, List.length_range]
theorem rowAt_get {a b : List Int} {i j k : Nat} (h : k < a.length + b.length) : (rowAt a b i j)[k]? = some (part a b i j k) := by
  unfold rowAt
  rw [List.getElem?_map, List.getElem?_range h]
  rfl
theorem row_ext {r s : List Int} (hl : r.length = s.length) (h : ∀ k, k < r.length → r[k]? = s[k]?) : r = s := by
  apply List.ext_getElem? 
  intro k
  by_cases g : k < r.length
  · exact h k g
  · rw [List.getElem?_eq_none_iff.mpr (by omega), List.getElem?_eq_none_iff.mpr (by omega)]
theorem rowAt_0 (a b : List Int) : rowAt a b 0 0 = List.replicate (a.length + b.length) 0 := by
  refine row_ext (by rw [rowAt_len, List.length_replicate]) fun k hk => ?_
  rw [rowAt_len] at hk
  rw [rowAt_get hk, part_0, List.getElem?_replicate, if_pos hk]
theorem rowAt_next {a b : List Int} {i : Nat} (hi : i < a.length) : rowAt a b i b.length = rowAt a b (i + 1) 0 := by
  refine row_ext (by rw [rowAt_len, rowAt_len]) fun k hk => ?_
  rw [rowAt_len] at hk
  rw [rowAt_get hk, rowAt_get hk, part_end hi k hk, part_zero]
theorem rowAt_skip {a b : List Int} {i : Nat} (hi : i < a.length) (h : at0 a i = 0) : rowAt a b i 0 = rowAt a b (i + 1) 0 := by
  rw [← rowAt_next hi]
  refine row_ext (by rw [rowAt_len, rowAt_len]) fun k hk => ?_
  rw [rowAt_len] at hk
  rw [rowAt_get hk, rowAt_get hk, part_same h, part_same h]
theorem rowAt_end (a b : List Int) : rowAt a b a.length 0 = mulR a b := by
  refine row_ext (by rw [rowAt_len, mulR_len]) fun k hk => ?_
  rw [rowAt_len] at hk
  rw [rowAt_get hk, part_zero, List.take_length]
  unfold mulR
  rw [List.getElem?_map, List.getElem?_range hk]
  rfl
theorem rowAt_set {a b : List Int} {i j : Nat} (h : i + j < a.length + b.length) : (rowAt a b i j).set (i + j) (part a b i j (i + j) + at0 a i * at0 b j) = rowAt a b i (j + 1) := by
  refine row_ext (by rw [List.length_set, rowAt_len, rowAt_len]) fun k hk => ?_
  rw [List.length_set, rowAt_len] at hk
  rw [rowAt_get hk, part_step]
  by_cases e : k = i + j
  · subst e
    rw [if_pos rfl, List.getElem?_set_self (by rw [rowAt_len]; exact hk)]
  · rw [if_neg e, List.getElem?_set_ne (Ne.symm e), rowAt_get hk]
end K0

set_option Elab.async false
set_option linter.all false
set_option maxRecDepth 100000
set_option maxHeartbeats 4000000
/-! The def that multiplies rows. -/
namespace K0
open PySem PySem.Spec PyProof.Rows L2 Gd
local macro_rules | `(tactic| walk_at "rd1") => `(tactic| first | with_reducible refine g_ret ?_ | with_reducible refine g_retN ?_ | with_reducible refine g_seq ?_ | with_reducible refine g_next ?_ | with_reducible refine g_drop ?_ | with_reducible refine g_asg ?_ | with_reducible refine g_name ?_ | with_reducible refine g_ifs ?_ | with_reducible refine g_test ?_ | with_reducible refine g_tb ?_ | with_reducible refine g_and ?_ | with_reducible refine g_or ?_ | with_reducible refine g_not ?_ | with_reducible refine g_andV ?_ | with_reducible refine g_orV ?_ | with_reducible refine g_notV ?_ | with_reducible refine g_if ?_ | with_reducible refine g_op ?_ | with_reducible refine g_un ?_ | with_reducible refine g_cb ?_ | with_reducible refine g_nil ?_ | with_reducible refine g_cons ?_ | with_reducible refine g_call ?_ | with_reducible refine g_callS ?_ | with_reducible refine g_tup ?_ | with_reducible refine g_lst ?_ | with_reducible refine g_isN ?_ | with_reducible refine g_sl ?_ | with_reducible refine g_nopart ?_ | with_reducible refine g_part ?_ | with_reducible refine g_chain ?_ | with_reducible refine g_fld ?_ | with_reducible refine g_prop ?_ | with_reducible refine g_bm ?_ | with_reducible refine g_bm0 ?_ | with_reducible refine g_c ?_ | with_reducible refine g_sub ?_ | with_reducible refine g_int1 ?_ | with_reducible refine g_int2 ?_ | with_reducible refine g_yes ?_ | with_reducible refine g_sfld ?_ | with_reducible refine g_NT ?_ | with_reducible refine g_NF ?_ | with_reducible refine iteT ?_ | with_reducible refine iteF ?_ | ((with_reducible refine' g_aug ?hv ?_); (case hv => exact rfl)) | ((with_reducible refine' g_var ?hv ?_); (case hv => exact rfl)) | with_reducible refine g_I0 ?_ | with_reducible refine g_U ?_ | with_reducible refine g_eqI ?_ | with_reducible refine g_blV ?_ | with_reducible refine g_inV ?_)
local macro_rules | `(tactic| walk_at "rd") => `(tactic| repeat walk_at "rd1")
section
variable {P : Program} {w : World} {K : PySem.W.Frag} {mg : Str → Option Value} {base : Heap} {f : Addr} {fd : FuncData}
abbrev sMultiplied : Stmt := top 22
def Bits (A : Nat) (ns : List Int) : Prop := ∀ n ∈ ns, n.natAbs < 2 ^ A
def spMultiplied (K : PySem.W.Frag) : Sp := fun vs H Q _ => ∃ (a b : Addr) (ns ms : List Int) (A B : Nat), vs = [.ref a, .ref b] ∧ SqT K H a (ns.map V.int) ∧ SqT K H b (ms.map V.int) ∧ ns.length ≤ 50000 ∧ ms.length ≤ 50000 ∧ 0 < A ∧ 0 < B ∧ A + B ≤ 1000000 ∧ Bits A ns ∧ Bits B ms ∧
  ∀ H' u, Ext H H' → H u = none → H' u = some (.lst ((mulR ns ms).map V.int)) → Q (.ref u) H'
theorem scMultiplied : FnScope ["one", "other", "row", "i", "x", "j", "y"] ["one", "other"] (defScope sMultiplied) := ⟨rfl, rfl, rfl, by decide +kernel, rfl, by decide +kernel, by decide +kernel⟩
def PvO (a b l : Addr) (H0 : Hp) (ns ms : List Int) (i : Nat) : L2.St → Hp → Prop := fun σ H' => ∃ x1 x2 x3 x4 : Option V, σ = [some (.ref a), some (.ref b), some (.ref l), x1, x2, x3, x4] ∧ H0 l = none ∧ Ext H0 H' ∧ H' l = some (.lst ((rowAt ns ms i 0).map V.int))
def PvN (a b l : Addr) (H0 : Hp) (ns ms : List Int) (i : Nat) (x : Int) (j : Nat) : L2.St → Hp → Prop := fun σ H' => ∃ x3 x4 : Option V, σ = [some (.ref a), some (.ref b), some (.ref l), some (.int (i : Int)), some (.int x), x3, x4] ∧ H0 l = none ∧ Ext H0 H' ∧ H' l = some (.lst ((rowAt ns ms i j).map V.int))
theorem g_forE {K : PySem.W.Frag} {ta : TA} {g : TG} {tb : TS} {D : Ends} {σ : L2.St} {H : Hp} (k : ta σ H fun vs H1 => ∃ t xs, vs = [.ref t] ∧ SqT K H1 t xs ∧ ∃ W : Nat → Nat → L2.St → Hp → Prop, (∃ m, W 0 m σ H1) ∧ ∀ i m σ H, W i m σ H →
  ((IteT K t).stop i H ∧ D.nx σ H) ∨ ((IteT K t).go i H ∧ ∃ N : L2.St → Hp → Prop, (∀ σ' H', N σ' H' → ∃ m', m' < m ∧ W (i + 1) m' σ' H') ∧ ∀ x H', (IteT K t).yld i H x H' → g x σ H' fun σ2 H2 => tb { D with nx := N, ct := N, bk := D.nx } σ2 H2)) :
    tFor (iEnumT K ta) g tb D σ H := k
theorem flatL_zero (m : Nat) : (List.replicate m [V.int 0]).flatten = (List.replicate m (0 : Int)).map V.int := by
  induction m with
  | zero => rfl
  | succ m ih =>
    rw [List.replicate_succ, List.replicate_succ, List.flatten_cons, List.map_cons, ih]
    rfl
theorem ixN_nat {n i : Nat} (h : i < n) : ixN n (i : Int) = some i := by
  unfold ixN
  simp [h]
theorem ok_multiplied (F : Fun K "multiplied" "multiplied" sMultiplied f fd) (T : Txt K mg) (hen : mg "enumerate" = none) : FnOk P w K mg base CX0 1 f fd ["one", "other"] (spMultiplied K) := by
  refine F.ok scMultiplied (fun vs H Q E h => ?_) (fun cdv A outer s H vs Q E hr h => ?_)
  · obtain ⟨a, b, ns, ms, A, B, rfl, _⟩ := h
    rfl
  · obtain ⟨a, b, ns, ms, A, B, rfl, ha, hb, ln, lm, A0, B0, AB, hA, hB, k⟩ := h
    refine ⟨_, pss_cons (ps_set (i := 2) scMultiplied.nd rfl (Or.inl rfl) (pe_op op_rep (pe_lst (pa_cons pe_int pa_nil)) (pe_op op_add (pe_callB call_len_seq (by rfl) T.len PySem.boot_len (pa_cons (pv 0) pa_nil)) (pe_callB call_len_seq (by rfl) T.len PySem.boot_len (pa_cons (pv 1) pa_nil)))))
      (pss_cons (ps_for PassesOwn.never rfl (pi_enumT (by rfl) hen (pa_cons (pv 0) pa_nil)) (pg_tup rfl (pgs_cons (pg_name (i := 3) scMultiplied.nd rfl (Or.inl rfl)) (pgs_cons (pg_name (i := 4) scMultiplied.nd rfl (Or.inl rfl)) pgs_nil)))
          (pss_one (ps_if (pt_cmpR op_ne (pv 4) pe_int (nomark _))
            (pss_one (ps_for PassesOwn.never rfl (pi_enumT (by rfl) hen (pa_cons (pv 1) pa_nil)) (pg_tup rfl (pgs_cons (pg_name (i := 5) scMultiplied.nd rfl (Or.inl rfl)) (pgs_cons (pg_name (i := 6) scMultiplied.nd rfl (Or.inl rfl)) pgs_nil)))
              (pss_one (ps_asg (pe_op op_add (pe_ix ix_list (pv 2) (pe_op op_add (pv 3) (pv 5)) (fun _ _ => rfl)) (pe_op op_mulW (pv 4) (pv 6))) (pg_sub (pv 2) (pe_op op_add (pv 3) (pv 5)) set_list))))) pss_nil)))
        (pss_one (ps_ret (pv 2)))), ?_⟩
    have sz : (100000 : Nat) < sizeLine := by decide
    walk_at "rd"
    refine ⟨by show 1 ≤ sizeLine; decide, fun z hz => ?_⟩
    have ez := Ext.new (o := HO.lst [V.int 0]) hz
    walk_at "rd"
    refine ⟨a, _, rfl, .inr (sqT_ext ez ha), ?_⟩
    walk_at "rd"
    refine ⟨b, _, rfl, .inr (sqT_ext ez hb), ?_⟩
    walk_at "rd"
    rw [List.length_map, List.length_map]
    refine ⟨z, _, [V.int 0], rfl, rfl, upd_same, by omega, by omega, ?_, fun l hl => ?_⟩
    · show 1 * _ ≤ sizeLine
      omega
    have el := Ext.trans ez (Ext.new (o := HO.lst (List.replicate ((ns.length : Int) + (ms.length : Int)).toNat [V.int 0]).flatten) hl)
    have hl0 : H l = none := by
      cases q : H l with
      | none => rfl
      | some o =>
        have := ez _ _ q
        rw [hl] at this
        cases this
    have hL : upd (upd H z (.lst [V.int 0])) l (.lst (List.replicate ((ns.length : Int) + (ms.length : Int)).toNat [V.int 0]).flatten) l = some (.lst ((rowAt ns ms 0 0).map V.int)) := by
      rw [upd_same, flatL_zero, rowAt_0]
      have : ((ns.length : Int) + (ms.length : Int)).toNat = ns.length + ms.length := by omega
      rw [this]
    generalize upd (upd H z (.lst [V.int 0])) l (.lst (List.replicate ((ns.length : Int) + (ms.length : Int)).toNat [V.int 0]).flatten) = H1 at el hL
    walk_at "rd"
    refine g_forE ?_
    walk_at "rd"
    refine ⟨a, _, rfl, sqT_ext el ha, for_enumT (xs := ns.map V.int) (PvO a b l H ns ms) ⟨_, _, _, _, rfl, hl0, el, hL⟩ (fun i σ H2 _ p => ?_) ?_ ?_⟩
    · obtain ⟨_, _, _, _, _, _, e, _⟩ := p
      exact sqT_ext e ha
    · rintro i v σ H2 T hi ⟨x1, x2, x3, x4, rfl, _, e2, hL2⟩ hT
      rw [mapget] at hi
      obtain ⟨x, hx, rfl⟩ := Option.map_eq_some_iff.mp hi
      have hlt : i < ns.length := (List.getElem?_eq_some_iff.mp hx).1
      have ax : at0 ns i = x := by
        unfold at0
        rw [hx]
        rfl
      have eT := Ext.new (o := HO.tup [V.int (i : Nat), V.int x]) hT
      refine ⟨T, _, rfl, SqT.of upd_same, rfl, _, _, rfl, ?_⟩
      refine ⟨_, _, rfl, rfl, ?_⟩
      have e3 := Ext.trans e2 eT
      have hL3 := eT _ _ hL2
      generalize upd H2 T (.tup [V.int (i : Nat), V.int x]) = H3 at e3 hL3
      walk_at "rd"
      refine g_ne (by rfl) ?_
      walk_at "rd"
      by_cases h0 : x = 0
      · subst h0
        rw [decide_eq_true rfl]
        walk_at "rd"
        exact ⟨_, _, _, _, rfl, hl0, e3, by rw [hL3, rowAt_skip hlt ax]⟩
      · rw [decide_eq_false (by simpa using h0)]
        walk_at "rd"
        refine g_forE ?_
        walk_at "rd"
        refine ⟨b, _, rfl, sqT_ext e3 hb, for_enumT (xs := ms.map V.int) (PvN a b l H ns ms i x) ⟨_, _, rfl, hl0, e3, hL3⟩ (fun j σ H4 _ p => ?_) ?_ ?_⟩
        · obtain ⟨_, _, _, _, e, _⟩ := p
          exact sqT_ext e hb
        · rintro j v σ H4 T2 hj ⟨x3, x4, rfl, _, e4, hL4⟩ hT2
          rw [mapget] at hj
          obtain ⟨y, hy, rfl⟩ := Option.map_eq_some_iff.mp hj
          have hlj : j < ms.length := (List.getElem?_eq_some_iff.mp hy).1
          have ay : at0 ms j = y := by
            unfold at0
            rw [hy]
            rfl
          have eT2 := Ext.new (o := HO.tup [V.int (j : Nat), V.int y]) hT2
          refine ⟨T2, _, rfl, SqT.of upd_same, rfl, _, _, rfl, ?_⟩
          refine ⟨_, _, rfl, rfl, ?_⟩
          have e5 := Ext.trans e4 eT2
          have hL5 := eT2 _ _ hL4
          generalize upd H4 T2 (.tup [V.int (j : Nat), V.int y]) = H5 at e5 hL5
          walk_at "rd"
          have q : ((i : Int) + (j : Int)) = ((i + j : Nat) : Int) := by omega
          have lij : i + j < ns.length + ms.length := by omega
          rw [q]
          refine g_ixL (SqL.of hL5) (v := .int (part ns ms i j (i + j))) (atI_nat (by rw [mapget, rowAt_get lij]; rfl)) ?_
          walk_at "rd"
          refine g_I (wide_mul (hA x (List.mem_of_getElem? hx)) (hB y (List.mem_of_getElem? hy)) A0 B0 AB) ?_
          walk_at "rd"
          rw [q]
          refine ⟨l, _, _, i + j, rfl, rfl, hL5, ?_, ?_⟩
          · exact ixN_nat (by rw [List.length_map, rowAt_len]; exact lij)
          · refine ⟨_, _, rfl, hl0, fun o ob g => ?_, ?_⟩
            · rw [upd_ne (ne_of_none g hl0)]
              exact e5 _ _ g
            · rw [upd_same, ← rowAt_set lij, ax, ay, List.map_set]
        · rintro σ H4 ⟨x3, x4, rfl, _, e4, hL4⟩
          rw [List.length_map, rowAt_next hlt] at hL4
          exact ⟨_, _, _, _, rfl, hl0, e4, hL4⟩
    · rintro σ H2 ⟨x1, x2, x3, x4, rfl, _, e2, hL2⟩
      rw [List.length_map, rowAt_end] at hL2
      walk_at "rd"
      exact k _ l e2 hl0 hL2
end
end K0

set_option Elab.async false
set_option linter.all false
set_option maxRecDepth 100000
set_option maxHeartbeats 4000000
/-! + - * and - of polynomials. -/
namespace K0
open PySem PySem.Spec PyProof.Rows L2 Gd
local macro_rules | `(tactic| walk_at "rd1") => `(tactic| first | with_reducible refine g_ret ?_ | with_reducible refine g_retN ?_ | with_reducible refine g_seq ?_ | with_reducible refine g_next ?_ | with_reducible refine g_drop ?_ | with_reducible refine g_asg ?_ | with_reducible refine g_name ?_ | with_reducible refine g_ifs ?_ | with_reducible refine g_test ?_ | with_reducible refine g_tb ?_ | with_reducible refine g_and ?_ | with_reducible refine g_or ?_ | with_reducible refine g_not ?_ | with_reducible refine g_andV ?_ | with_reducible refine g_orV ?_ | with_reducible refine g_notV ?_ | with_reducible refine g_if ?_ | with_reducible refine g_op ?_ | with_reducible refine g_un ?_ | with_reducible refine g_cb ?_ | with_reducible refine g_nil ?_ | with_reducible refine g_cons ?_ | with_reducible refine g_call ?_ | with_reducible refine g_callS ?_ | with_reducible refine g_tup ?_ | with_reducible refine g_lst ?_ | with_reducible refine g_isN ?_ | with_reducible refine g_sl ?_ | with_reducible refine g_nopart ?_ | with_reducible refine g_part ?_ | with_reducible refine g_chain ?_ | with_reducible refine g_fld ?_ | with_reducible refine g_prop ?_ | with_reducible refine g_bm ?_ | with_reducible refine g_bm0 ?_ | with_reducible refine g_c ?_ | with_reducible refine g_sub ?_ | with_reducible refine g_int1 ?_ | with_reducible refine g_int2 ?_ | with_reducible refine g_yes ?_ | with_reducible refine g_sfld ?_ | with_reducible refine g_NT ?_ | with_reducible refine g_NF ?_ | with_reducible refine iteT ?_ | with_reducible refine iteF ?_ | ((with_reducible refine' g_aug ?hv ?_); (case hv => exact rfl)) | ((with_reducible refine' g_var ?hv ?_); (case hv => exact rfl)) | with_reducible refine g_I0 ?_ | with_reducible refine g_U ?_ | with_reducible refine g_eqI ?_ | with_reducible refine g_blV ?_ | with_reducible refine g_inV ?_)
local macro_rules | `(tactic| walk_at "rd") => `(tactic| repeat walk_at "rd1")
section
variable {P : Program} {w : World} {K : PySem.W.Frag} {mg : Str → Option Value} {base : Heap} {f C : Addr} {fd : FuncData}
abbrev sOperand : Stmt := top 40
/-- where a def stands -/
structure At (K : PySem.W.Frag) (mg : Str → Option Value) (name : Str) (st : Stmt) (ps : List Str) (f : Addr) (fd : FuncData) : Prop where
  F : Fun K name name st f fd
  b : Binds K fd ps []
  g : mg name = some (.ref f)
/-- a right operand with its row: a polynomial or an integer -/
def OpRow (K : PySem.W.Frag) (C : Addr) (H : Hp) (y : V) (ms : List Int) : Prop := (∃ q v, y = .ref q ∧ PolyU K C H q v ms) ∨ ∃ i : Int, y = .int i ∧ ms = [i]
theorem OpRow.ext {H H' : Hp} {y : V} {ms : List Int} (e : Ext H H') (h : OpRow K C H y ms) : OpRow K C H' y ms := by
  rcases h with ⟨q, v, rfl, h⟩ | h
  · exact .inl ⟨q, v, rfl, h.ext e⟩
  · exact .inr h
theorem OpRow.len {H : Hp} {y : V} {ms : List Int} (h : OpRow K C H y ms) : ms.length ≤ 100000 := by
  rcases h with ⟨q, v, rfl, h⟩ | ⟨i, _, rfl⟩
  · exact h.2.2
  · show 1 ≤ 100000
    decide
structure AtP (K : PySem.W.Frag) (C : Addr) (name qual : Str) (j : Nat) (p f : Addr) (fd : FuncData) : Prop where
  F : Fun K name qual (cls j) f fd
  b : Binds K fd ["self"] []
  p : PropOf K C name p f
def spOperand (K : PySem.W.Frag) (C : Addr) : Sp := fun vs H Q _ => ∃ (y : V) (ms : List Int), vs = [y] ∧ OpRow K C H y ms ∧ ∀ H' u, Ext H H' → SqT K H' u (ms.map V.int) → Q (.ref u) H'
theorem scOperand : FnScope ["value"] ["value"] (defScope sOperand) := ⟨rfl, rfl, rfl, by decide +kernel, rfl, by decide +kernel, by decide +kernel⟩
theorem ok_operand {fW pF fF : Addr} {fdW fdF : FuncData} (F : Fun K "operand_row" "operand_row" sOperand f fd) (T : Txt K mg) (Cl : PC K mg C) (W : AtW K mg fW fdW) (PF : AtP K C "factors" "Poly.factors" 2 pF fF fdF)
    (ni : PySem.W.kitOne K (.type "int") (.ref C) = some false) : FnOk P w K mg base CX0 3 f fd ["value"] (spOperand K C) := by
  have GW : FnOk P w K mg base CX0 1 fW fdW ["value"] (spWhole K) := ok_whole W.F T
  have GF : FnOk P w K mg base CX0 1 fF fdF ["self"] (spGet K C fun u _ => .ref u) := ok_factors PF.F Cl
  refine F.ok scOperand (fun vs H Q E h => ?_) (fun cdv A outer s H vs Q E hr h => ?_)
  · obtain ⟨y, ms, rfl, _⟩ := h
    rfl
  · obtain ⟨y, ms, rfl, hy, k⟩ := h
    refine ⟨_, pss_cons (ps_if (pt_val (pe_callB call_isi (by rfl) T.isinstance (by decide +kernel) (pa_cons (pv 0) (pa_cons (pe_glob (v := .ref C) (by rfl) Cl.g rfl) pa_nil)))) (pss_one (ps_ret (pe_prop (pv 0) Cl.cl PF.p GF (hr.mono (by decide)) PF.b .nil pass0 rfl))) pss_nil)
      (pss_one (ps_ret (pe_ifExp (pt_val (pe_call GW (hr.mono (by decide)) (by rfl) W.g W.F.kp W.b .nil pass0 (pa_cons (pv 0) pa_nil))) (pe_tup (pa_cons (pv 0) pa_nil)) pe_non))), ?_⟩
    walk_at "rd"
    rcases hy with ⟨q, v, rfl, hp⟩ | ⟨i, rfl, rfl⟩
    · obtain ⟨⟨dx, hq⟩, hv, hl⟩ := id hp
      refine ⟨_, _, _, _, true, rfl, .own C, Cl.ty hq, Cl.kit, ?_⟩
      walk_at "rd"
      exact ⟨q, dx, _, rfl, hq, q, v, ms, rfl, hp, k _ v (fun _ _ z => z) hv⟩
    · refine ⟨_, _, _, _, false, rfl, .own C, .base (.int i), ni, ?_⟩
      walk_at "rd"
      refine ⟨_, _, rfl, whole_int, ?_⟩
      walk_at "rd"
      refine ⟨by show 1 ≤ sizeLine; decide, fun u hu => ?_⟩
      exact k _ u (Ext.new hu) (SqT.of upd_same)
end
end K0

set_option Elab.async false
set_option linter.all false
set_option maxRecDepth 100000
set_option maxHeartbeats 4000000
/-! The operators of polynomials. -/
namespace K0
open PySem PySem.Spec PyProof.Rows L2 Gd
local macro_rules | `(tactic| walk_at "rd1") => `(tactic| first | with_reducible refine g_ret ?_ | with_reducible refine g_retN ?_ | with_reducible refine g_seq ?_ | with_reducible refine g_next ?_ | with_reducible refine g_drop ?_ | with_reducible refine g_asg ?_ | with_reducible refine g_name ?_ | with_reducible refine g_ifs ?_ | with_reducible refine g_test ?_ | with_reducible refine g_tb ?_ | with_reducible refine g_and ?_ | with_reducible refine g_or ?_ | with_reducible refine g_not ?_ | with_reducible refine g_andV ?_ | with_reducible refine g_orV ?_ | with_reducible refine g_notV ?_ | with_reducible refine g_if ?_ | with_reducible refine g_op ?_ | with_reducible refine g_un ?_ | with_reducible refine g_cb ?_ | with_reducible refine g_nil ?_ | with_reducible refine g_cons ?_ | with_reducible refine g_call ?_ | with_reducible refine g_callS ?_ | with_reducible refine g_tup ?_ | with_reducible refine g_lst ?_ | with_reducible refine g_isN ?_ | with_reducible refine g_sl ?_ | with_reducible refine g_nopart ?_ | with_reducible refine g_part ?_ | with_reducible refine g_chain ?_ | with_reducible refine g_fld ?_ | with_reducible refine g_prop ?_ | with_reducible refine g_bm ?_ | with_reducible refine g_bm0 ?_ | with_reducible refine g_c ?_ | with_reducible refine g_sub ?_ | with_reducible refine g_int1 ?_ | with_reducible refine g_int2 ?_ | with_reducible refine g_yes ?_ | with_reducible refine g_sfld ?_ | with_reducible refine g_NT ?_ | with_reducible refine g_NF ?_ | with_reducible refine iteT ?_ | with_reducible refine iteF ?_ | ((with_reducible refine' g_aug ?hv ?_); (case hv => exact rfl)) | ((with_reducible refine' g_var ?hv ?_); (case hv => exact rfl)) | with_reducible refine g_I0 ?_ | with_reducible refine g_U ?_ | with_reducible refine g_eqI ?_ | with_reducible refine g_blV ?_ | with_reducible refine g_inV ?_)
local macro_rules | `(tactic| walk_at "rd") => `(tactic| repeat walk_at "rd1")
section
variable {P : Program} {w : World} {K : PySem.W.Frag} {mg : Str → Option Value} {base : Heap} {f C : Addr} {fd : FuncData}
def negR (ns : List Int) : List Int := ns.map fun n => -n
theorem negR_len (ns : List Int) : (negR ns).length = ns.length := List.length_map _
/-- what an operator promises: op the rows' operation, B what is asked of both rows -/
def spBin (K : PySem.W.Frag) (C : Addr) (op : List Int → List Int → List Int) (B : List Int → List Int → Prop) : Sp := fun vs H Q _ => ∃ (p u : Addr) (ns ms : List Int) (y : V), vs = [.ref p, y] ∧ PolyU K C H p u ns ∧ OpRow K C H y ms ∧ B ns ms ∧
  ∀ H' q v, Ext H H' → PolyU K C H' q v (trim (op ns ms)) → Q (.ref q) H'
def spNegP (K : PySem.W.Frag) (C : Addr) : Sp := fun vs H Q _ => ∃ (p u : Addr) (ns : List Int), vs = [.ref p] ∧ PolyU K C H p u ns ∧ ∀ H' q v, Ext H H' → PolyU K C H' q v (trim (negR ns)) → Q (.ref q) H'
theorem scB6 : FnScope ["self", "other", "row"] ["self", "other"] (defScope (cls 6)) := ⟨rfl, rfl, rfl, by decide +kernel, rfl, by decide +kernel, by decide +kernel⟩
theorem scB7 : FnScope ["self", "other", "row"] ["self", "other"] (defScope (cls 7)) := ⟨rfl, rfl, rfl, by decide +kernel, rfl, by decide +kernel, by decide +kernel⟩
theorem scB8 : FnScope ["self", "other", "row"] ["self", "other"] (defScope (cls 8)) := ⟨rfl, rfl, rfl, by decide +kernel, rfl, by decide +kernel, by decide +kernel⟩
theorem scB9 : FnScope ["self"] ["self"] (defScope (cls 9)) := ⟨rfl, rfl, rfl, by decide +kernel, rfl, by decide +kernel, by decide +kernel⟩
/-- what the operators lean on -/
structure Ops (P : Program) (w : World) (K : PySem.W.Frag) (mg : Str → Option Value) (base : Heap) (C fO fP fA fN fM : Addr) (fdO fdP fdA fdN fdM : FuncData) : Prop where
  O : At K mg "operand_row" sOperand ["value"] fO fdO
  Po : At K mg "poly_of" sPolyOf ["row"] fP fdP
  A : At K mg "added" sAdded ["one", "other"] fA fdA
  N : At K mg "negated" sNegated ["row"] fN fdN
  M : At K mg "multiplied" sMultiplied ["one", "other"] fM fdM
  GO : FnOk P w K mg base CX0 3 fO fdO ["value"] (spOperand K C)
  GP : FnOk P w K mg base CX0 6 fP fdP ["row"] (spPolyOf K C (SqL K))
  GA : FnOk P w K mg base CX0 1 fA fdA ["one", "other"] (spAdded K)
  GN : FnOk P w K mg base CX0 1 fN fdN ["row"] (spNegated K)
  GM : FnOk P w K mg base CX0 1 fM fdM ["one", "other"] (spMultiplied K)
variable {fO fP fA fN fM : Addr} {fdO fdP fdA fdN fdM : FuncData}
theorem ok_add (F : Fun K "__add__" "Poly.__add__" (cls 6) f fd) (Cl : PC K mg C) (O : Ops P w K mg base C fO fP fA fN fM fdO fdP fdA fdN fdM) :
    FnOk P w K mg base CX0 7 f fd ["self", "other"] (spBin K C addR fun _ _ => True) := by
  refine F.ok scB6 (fun vs H Q E h => ?_) (fun cdv A outer s H vs Q E hr h => ?_)
  · obtain ⟨p, u, ns, ms, y, rfl, _⟩ := h
    rfl
  · obtain ⟨p, u, ns, ms, y, rfl, hp, hy, _, k⟩ := h
    refine ⟨_, pss_cons (ps_set (i := 2) scB6.nd rfl (Or.inl rfl) (pe_call O.GO (hr.mono (by decide)) (by rfl) O.O.g O.O.F.kp O.O.b .nil pass0 (pa_cons (pv 1) pa_nil)))
      (pss_cons (ps_if (pt_cmp (pc_isN (pv 2))) (pss_one ps_never) pss_nil)
        (pss_one (ps_ret (pe_call O.GP hr (by rfl) O.Po.g O.Po.F.kp O.Po.b .nil pass0 (pa_cons (pe_call O.GA (hr.mono (by decide)) (by rfl) O.A.g O.A.F.kp O.A.b .nil pass0 (pa_cons (pe_fld (pv 0) rfl) (pa_cons (pv 2) pa_nil))) pa_nil))))), ?_⟩
    walk_at "rd"
    refine ⟨y, ms, rfl, hy, fun H1 v e1 hv => ?_⟩
    walk_at "rd"
    rw [decide_eq_false (show ¬ V.ref v = .non by intro z; cases z)]
    walk_at "rd"
    obtain ⟨⟨dx, hp1⟩, hu1, hl1⟩ := hp.ext e1
    refine ⟨p, C, dx, _, _, rfl, hp1, Cl.cl, Cl.noF, look1, ?_⟩
    walk_at "rd"
    refine ⟨false, false, u, v, ns, ms, rfl, hu1, hv, hl1, hy.len, fun H2 t e2 _ ht => ?_⟩
    walk_at "rd"
    refine ⟨t, _, rfl, SqL.of ht, ?_, fun H3 q z e3 hq => k H3 q z (Ext.trans e1 (Ext.trans e2 e3)) hq⟩
    have := hy.len
    rw [addR_len]
    omega
theorem ok_sub (F : Fun K "__sub__" "Poly.__sub__" (cls 7) f fd) (Cl : PC K mg C) (O : Ops P w K mg base C fO fP fA fN fM fdO fdP fdA fdN fdM) :
    FnOk P w K mg base CX0 7 f fd ["self", "other"] (spBin K C (fun a b => addR a (negR b)) fun _ _ => True) := by
  refine F.ok scB7 (fun vs H Q E h => ?_) (fun cdv A outer s H vs Q E hr h => ?_)
  · obtain ⟨p, u, ns, ms, y, rfl, _⟩ := h
    rfl
  · obtain ⟨p, u, ns, ms, y, rfl, hp, hy, _, k⟩ := h
    refine ⟨_, pss_cons (ps_set (i := 2) scB7.nd rfl (Or.inl rfl) (pe_call O.GO (hr.mono (by decide)) (by rfl) O.O.g O.O.F.kp O.O.b .nil pass0 (pa_cons (pv 1) pa_nil)))
      (pss_cons (ps_if (pt_cmp (pc_isN (pv 2))) (pss_one ps_never) pss_nil)
        (pss_one (ps_ret (pe_call O.GP hr (by rfl) O.Po.g O.Po.F.kp O.Po.b .nil pass0 (pa_cons (pe_call O.GA (hr.mono (by decide)) (by rfl) O.A.g O.A.F.kp O.A.b .nil pass0 (pa_cons (pe_fld (pv 0) rfl)
          (pa_cons (pe_call O.GN (hr.mono (by decide)) (by rfl) O.N.g O.N.F.kp O.N.b .nil pass0 (pa_cons (pv 2) pa_nil)) pa_nil))) pa_nil))))), ?_⟩
    walk_at "rd"
    refine ⟨y, ms, rfl, hy, fun H1 v e1 hv => ?_⟩
    walk_at "rd"
    rw [decide_eq_false (show ¬ V.ref v = .non by intro z; cases z)]
    walk_at "rd"
    obtain ⟨⟨dx, hp1⟩, hu1, hl1⟩ := hp.ext e1
    refine ⟨p, C, dx, _, _, rfl, hp1, Cl.cl, Cl.noF, look1, ?_⟩
    walk_at "rd"
    refine ⟨false, v, ms, rfl, hv, hy.len, fun H2 n e2 _ hn => ?_⟩
    walk_at "rd"
    refine ⟨false, true, u, n, ns, negR ms, rfl, sqT_ext e2 hu1, SqL.of hn, hl1, by rw [negR_len]; exact hy.len, fun H3 t e3 _ ht => ?_⟩
    walk_at "rd"
    refine ⟨t, _, rfl, SqL.of ht, ?_, fun H4 q z e4 hq => k H4 q z (Ext.trans e1 (Ext.trans e2 (Ext.trans e3 e4))) hq⟩
    have := hy.len
    rw [addR_len, negR_len]
    omega
/-- rows whose product fits -/
def MulB (ns ms : List Int) : Prop := ns.length ≤ 50000 ∧ ms.length ≤ 50000 ∧ ∃ A B, 0 < A ∧ 0 < B ∧ A + B ≤ 1000000 ∧ Bits A ns ∧ Bits B ms
theorem ok_mul (F : Fun K "__mul__" "Poly.__mul__" (cls 8) f fd) (Cl : PC K mg C) (O : Ops P w K mg base C fO fP fA fN fM fdO fdP fdA fdN fdM) :
    FnOk P w K mg base CX0 7 f fd ["self", "other"] (spBin K C mulR MulB) := by
  refine F.ok scB8 (fun vs H Q E h => ?_) (fun cdv A outer s H vs Q E hr h => ?_)
  · obtain ⟨p, u, ns, ms, y, rfl, _⟩ := h
    rfl
  · obtain ⟨p, u, ns, ms, y, rfl, hp, hy, ⟨ln, lm, A1, B1, A0, B0, AB, hA, hB⟩, k⟩ := h
    refine ⟨_, pss_cons (ps_set (i := 2) scB8.nd rfl (Or.inl rfl) (pe_call O.GO (hr.mono (by decide)) (by rfl) O.O.g O.O.F.kp O.O.b .nil pass0 (pa_cons (pv 1) pa_nil)))
      (pss_cons (ps_if (pt_cmp (pc_isN (pv 2))) (pss_one ps_never) pss_nil)
        (pss_one (ps_ret (pe_call O.GP hr (by rfl) O.Po.g O.Po.F.kp O.Po.b .nil pass0 (pa_cons (pe_call O.GM (hr.mono (by decide)) (by rfl) O.M.g O.M.F.kp O.M.b .nil pass0 (pa_cons (pe_fld (pv 0) rfl) (pa_cons (pv 2) pa_nil))) pa_nil))))), ?_⟩
    walk_at "rd"
    refine ⟨y, ms, rfl, hy, fun H1 v e1 hv => ?_⟩
    walk_at "rd"
    rw [decide_eq_false (show ¬ V.ref v = .non by intro z; cases z)]
    walk_at "rd"
    obtain ⟨⟨dx, hp1⟩, hu1, hl1⟩ := hp.ext e1
    refine ⟨p, C, dx, _, _, rfl, hp1, Cl.cl, Cl.noF, look1, ?_⟩
    walk_at "rd"
    refine ⟨u, v, ns, ms, A1, B1, rfl, hu1, hv, ln, lm, A0, B0, AB, hA, hB, fun H2 t e2 _ ht => ?_⟩
    walk_at "rd"
    refine ⟨t, _, rfl, SqL.of ht, ?_, fun H3 q z e3 hq => k H3 q z (Ext.trans e1 (Ext.trans e2 e3)) hq⟩
    rw [mulR_len]
    omega
theorem ok_neg (F : Fun K "__neg__" "Poly.__neg__" (cls 9) f fd) (Cl : PC K mg C) (O : Ops P w K mg base C fO fP fA fN fM fdO fdP fdA fdN fdM) :
    FnOk P w K mg base CX0 7 f fd ["self"] (spNegP K C) := by
  refine F.ok scB9 (fun vs H Q E h => ?_) (fun cdv A outer s H vs Q E hr h => ?_)
  · obtain ⟨p, u, ns, rfl, _⟩ := h
    rfl
  · obtain ⟨p, u, ns, rfl, ⟨⟨dx, hp⟩, hu, hl⟩, k⟩ := h
    refine ⟨_, pss_one (ps_ret (pe_call O.GP hr (by rfl) O.Po.g O.Po.F.kp O.Po.b .nil pass0 (pa_cons (pe_call O.GN (hr.mono (by decide)) (by rfl) O.N.g O.N.F.kp O.N.b .nil pass0 (pa_cons (pe_fld (pv 0) rfl) pa_nil)) pa_nil))), ?_⟩
    walk_at "rd"
    refine ⟨p, C, dx, _, _, rfl, hp, Cl.cl, Cl.noF, look1, ?_⟩
    walk_at "rd"
    refine ⟨false, u, ns, rfl, hu, hl, fun H1 t e1 _ ht => ?_⟩
    walk_at "rd"
    refine ⟨t, negR ns, rfl, SqL.of ht, by rw [negR_len]; exact hl, fun H2 q z e2 hq => k H2 q z (Ext.trans e1 e2) hq⟩
end
end K0

set_option Elab.async false
set_option linter.all false
set_option maxRecDepth 100000
set_option maxHeartbeats 4000000
/-! raised, power. -/
namespace K0
open PySem PySem.Spec PyProof.Rows L2 Gd
local macro_rules | `(tactic| walk_at "rd1") => `(tactic| first | with_reducible refine g_ret ?_ | with_reducible refine g_retN ?_ | with_reducible refine g_seq ?_ | with_reducible refine g_next ?_ | with_reducible refine g_drop ?_ | with_reducible refine g_asg ?_ | with_reducible refine g_name ?_ | with_reducible refine g_ifs ?_ | with_reducible refine g_test ?_ | with_reducible refine g_tb ?_ | with_reducible refine g_and ?_ | with_reducible refine g_or ?_ | with_reducible refine g_not ?_ | with_reducible refine g_andV ?_ | with_reducible refine g_orV ?_ | with_reducible refine g_notV ?_ | with_reducible refine g_if ?_ | with_reducible refine g_op ?_ | with_reducible refine g_un ?_ | with_reducible refine g_cb ?_ | with_reducible refine g_nil ?_ | with_reducible refine g_cons ?_ | with_reducible refine g_call ?_ | with_reducible refine g_callS ?_ | with_reducible refine g_tup ?_ | with_reducible refine g_lst ?_ | with_reducible refine g_isN ?_ | with_reducible refine g_sl ?_ | with_reducible refine g_nopart ?_ | with_reducible refine g_part ?_ | with_reducible refine g_chain ?_ | with_reducible refine g_fld ?_ | with_reducible refine g_prop ?_ | with_reducible refine g_bm ?_ | with_reducible refine g_bm0 ?_ | with_reducible refine g_c ?_ | with_reducible refine g_sub ?_ | with_reducible refine g_int1 ?_ | with_reducible refine g_int2 ?_ | with_reducible refine g_yes ?_ | with_reducible refine g_sfld ?_ | with_reducible refine g_NT ?_ | with_reducible refine g_NF ?_ | with_reducible refine iteT ?_ | with_reducible refine iteF ?_ | ((with_reducible refine' g_aug ?hv ?_); (case hv => exact rfl)) | ((with_reducible refine' g_var ?hv ?_); (case hv => exact rfl)) | with_reducible refine g_I0 ?_ | with_reducible refine g_U ?_ | with_reducible refine g_eqI ?_ | with_reducible refine g_blV ?_ | with_reducible refine g_inV ?_)
local macro_rules | `(tactic| walk_at "rd") => `(tactic| repeat walk_at "rd1")
section
variable {P : Program} {w : World} {K : PySem.W.Frag} {mg : Str → Option Value} {base : Heap} {f C CN fC : Addr} {fd : FuncData}
variable {fO fP fA fN fM : Addr} {fdO fdP fdA fdN fdM : FuncData}
/-! ### raised -/
def spRaised (K : PySem.W.Frag) (C CN : Addr) : Sp := fun vs H Q E => ∃ (p u : Addr) (ns : List Int) (y : V) (b : Bool), vs = [.ref p, y] ∧ PolyU K C H p u ns ∧ ns.length ≤ 50000 ∧ WithB K H y 0 400 b ∧
  (b = true → ∀ (i : Nat), y = .int (i : Int) → i ≤ 400 → ∀ H' q v, Ext H H' → PolyU K C H' q v (trim (List.replicate i 0 ++ ns)) → Q (.ref q) H') ∧
  (b = false → ∀ d, H d = none → E (.ref CN) (some d) (upd H d (.xd [(("value" : Str), y)])))
theorem sc11 : FnScope ["self", "many"] ["self", "many"] (defScope (cls 11)) := ⟨rfl, rfl, rfl, by decide +kernel, rfl, by decide +kernel, by decide +kernel⟩
theorem ok_raised {fT : Addr} {fdT : FuncData} (F : Fun K "raised" "Poly.raised" (cls 11) f fd) (T : Txt K mg) (gX : ∃ t, mg "MAX_RAISED" = some (.int 400 t)) (Cl : PC K mg C) (O : Ops P w K mg base C fO fP fA fN fM fdO fdP fdA fdN fdM)
    (W : At K mg "require_within" sWithin ["value", "low", "high"] fT fdT) (GW : FnOk P w K mg base (L2.CX P w) 5 fT fdT ["value", "low", "high"] (spWithin K CN)) :
    FnOk P w K mg base (L2.CX P w) 7 f fd ["self", "many"] (spRaised K C CN) := by
  obtain ⟨tX, gX⟩ := gX
  refine F.okX sc11 (fun vs H Q E h => ?_) (fun cdv A outer s H vs Q E hr h => ?_)
  · obtain ⟨p, u, ns, y, b, rfl, _⟩ := h
    rfl
  · obtain ⟨p, u, ns, y, b, rfl, ⟨⟨dx, hp⟩, hu, hl⟩, ln, hy, k1, k2⟩ := h
    refine ⟨_, pss_cons (ps_expr (pe_call GW (hr.mono (by decide)) (by rfl) W.g W.F.kp W.b .nil (passes_call (takes_of rfl rfl rfl rfl) (fun _ _ _ _ h => h)) (pa_cons (pv 1) (pa_cons pe_int (pa_cons (pe_glob (v := .int 400) (by rfl) gX ⟨_, rfl⟩) pa_nil)))))
      (pss_one (ps_ret (pe_call O.GP hr (by rfl) O.Po.g O.Po.F.kp O.Po.b .nil pass0 (pa_cons (pe_op op_cat (pe_op op_rep (pe_lst (pa_cons pe_int pa_nil)) (pv 1)) (pe_callTy call_list_of (by rfl) T.list (by decide +kernel) (pa_cons (pe_fld (pv 0) rfl) pa_nil))) pa_nil)))), ?_⟩
    walk_at "rd"
    refine ⟨y, 0, 400, b, rfl, by decide +kernel, by decide +kernel, hy, fun hb => ?_, fun hb d hd => k2 hb d hd⟩
    walk_at "rd"
    subst hb
    rcases hy with ⟨i0, rfl, hb⟩ | ⟨_, hb⟩
    · have hb' := of_decide_eq_true hb.symm
      obtain ⟨i, rfl⟩ : ∃ i : Nat, i0 = (i : Int) := ⟨i0.toNat, by omega⟩
      have hi : i ≤ 400 := by omega
      have sz : (100000 : Nat) < sizeLine := by decide
      refine ⟨by show 1 ≤ sizeLine; decide, fun z hz => ?_⟩
      have ez := Ext.new (o := HO.lst [V.int 0]) hz
      walk_at "rd"
      refine ⟨z, _, [V.int 0], rfl, rfl, upd_same, by omega, by omega, ?_, fun l hl0 => ?_⟩
      · show 1 * _ ≤ sizeLine
        omega
      have el := Ext.trans ez (Ext.new (o := HO.lst (List.replicate ((i : Int)).toNat [V.int 0]).flatten) hl0)
      have hL : upd (upd H z (.lst [V.int 0])) l (.lst (List.replicate ((i : Int)).toNat [V.int 0]).flatten) l = some (.lst ((List.replicate i (0 : Int)).map V.int)) := by
        rw [upd_same, flatL_zero, Int.toNat_natCast]
      generalize upd (upd H z (.lst [V.int 0])) l (.lst (List.replicate ((i : Int)).toNat [V.int 0]).flatten) = H1 at el hL
      walk_at "rd"
      refine ⟨p, C, dx, _, _, rfl, el _ _ hp, Cl.cl, Cl.noF, look1 (u := .ref u), ?_⟩
      walk_at "rd"
      refine ⟨u, _, rfl, .inr (sqT_ext el hu), fun l2 hl2 => ?_⟩
      have e2 := Ext.new (o := HO.lst (ns.map V.int)) hl2
      refine ⟨l, l2, _, _, rfl, rfl, e2 _ _ hL, upd_same, ?_, fun r hr0 => ?_⟩
      · rw [List.length_map, List.length_replicate, List.length_map]
        omega
      walk_at "rd"
      have e3 := Ext.trans el (Ext.trans e2 (Ext.new (o := HO.lst ((List.replicate i (0 : Int)).map V.int ++ ns.map V.int)) hr0))
      refine ⟨r, List.replicate i 0 ++ ns, rfl, SqL.of (by rw [upd_same, List.map_append]), ?_, fun H' q v e hq => k1 rfl i rfl hi H' q v (Ext.trans e3 e) hq⟩
      rw [List.length_append, List.length_replicate]
      omega
    · cases hb
end
end K0

set_option Elab.async false
set_option linter.all false
set_option maxRecDepth 100000
set_option maxHeartbeats 4000000
/-! power. -/
namespace K0
open PySem PySem.Spec PyProof.Rows L2 Gd
local macro_rules | `(tactic| walk_at "rd1") => `(tactic| first | with_reducible refine g_ret ?_ | with_reducible refine g_retN ?_ | with_reducible refine g_seq ?_ | with_reducible refine g_next ?_ | with_reducible refine g_drop ?_ | with_reducible refine g_asg ?_ | with_reducible refine g_name ?_ | with_reducible refine g_ifs ?_ | with_reducible refine g_test ?_ | with_reducible refine g_tb ?_ | with_reducible refine g_and ?_ | with_reducible refine g_or ?_ | with_reducible refine g_not ?_ | with_reducible refine g_andV ?_ | with_reducible refine g_orV ?_ | with_reducible refine g_notV ?_ | with_reducible refine g_if ?_ | with_reducible refine g_op ?_ | with_reducible refine g_un ?_ | with_reducible refine g_cb ?_ | with_reducible refine g_nil ?_ | with_reducible refine g_cons ?_ | with_reducible refine g_call ?_ | with_reducible refine g_callS ?_ | with_reducible refine g_tup ?_ | with_reducible refine g_lst ?_ | with_reducible refine g_isN ?_ | with_reducible refine g_sl ?_ | with_reducible refine g_nopart ?_ | with_reducible refine g_part ?_ | with_reducible refine g_chain ?_ | with_reducible refine g_fld ?_ | with_reducible refine g_prop ?_ | with_reducible refine g_bm ?_ | with_reducible refine g_bm0 ?_ | with_reducible refine g_c ?_ | with_reducible refine g_sub ?_ | with_reducible refine g_int1 ?_ | with_reducible refine g_int2 ?_ | with_reducible refine g_yes ?_ | with_reducible refine g_sfld ?_ | with_reducible refine g_NT ?_ | with_reducible refine g_NF ?_ | with_reducible refine iteT ?_ | with_reducible refine iteF ?_ | ((with_reducible refine' g_aug ?hv ?_); (case hv => exact rfl)) | ((with_reducible refine' g_var ?hv ?_); (case hv => exact rfl)) | with_reducible refine g_I0 ?_ | with_reducible refine g_U ?_ | with_reducible refine g_eqI ?_ | with_reducible refine g_blV ?_ | with_reducible refine g_inV ?_)
local macro_rules | `(tactic| walk_at "rd") => `(tactic| repeat walk_at "rd1")
section
variable {P : Program} {w : World} {K : PySem.W.Frag} {mg : Str → Option Value} {base : Heap} {f C CN fC : Addr} {fd : FuncData}
variable {fO fP fA fN fM : Addr} {fdO fdP fdA fdN fdM : FuncData}
def powR (ns : List Int) : Nat → List Int
  | 0 => [1]
  | k + 1 => trim (mulR ns (powR ns k))
/-- the products on the way fit -/
def PowB (ns : List Int) (m : Nat) : Prop := ∀ j, j < m → MulB ns (powR ns j)
def spPower (K : PySem.W.Frag) (C CN CT : Addr) : Sp := fun vs H Q E => ∃ (p u : Addr) (ns : List Int) (y : V) (b : Bool), vs = [.ref p, y] ∧ PolyU K C H p u ns ∧ WithB K H y 0 40 b ∧
  (b = true → ∀ m : Nat, y = .int (m : Int) → m ≤ 40 →
    (((ns.length : Int) - 1) * (m : Int) ≤ 2000 → PowB ns m ∧ (powR ns m).length ≤ 100000 ∧ ∀ H' q v, Ext H H' → PolyU K C H' q v (trim (powR ns m)) → Q (.ref q) H') ∧
    (¬ ((ns.length : Int) - 1) * (m : Int) ≤ 2000 → ∀ d, H d = none → E (.ref CT) (some d) (upd H d (.xd [(("limit" : Str), .int 2000)])))) ∧
  (b = false → ∀ d, H d = none → E (.ref CN) (some d) (upd H d (.xd [(("value" : Str), y)])))
theorem sc10 : FnScope ["self", "many", "row", "_"] ["self", "many"] (defScope (cls 10)) := ⟨rfl, rfl, rfl, by decide +kernel, rfl, by decide +kernel, by decide +kernel⟩
def PvW (p u : Addr) (C : Addr) (K : PySem.W.Frag) (m : Nat) (H : Hp) (ns : List Int) (i : Nat) : L2.St → Hp → Prop := fun σ H' => ∃ (r : Addr) (x : Option V), σ = [some (.ref p), some (.int (m : Int)), some (.ref r), x] ∧ Ext H H' ∧ SqT K H' r ((powR ns i).map V.int)
theorem ok_power {fT fW2 pD fD CT fCT : Addr} {fdT fdW2 fdD : FuncData} (F : Fun K "power" "Poly.power" (cls 10) f fd) (T : Txt K mg) (hrg : mg "range" = none) (gX : ∃ t, mg "MAX_POWER" = some (.int 40 t)) (gD : ∃ t, mg "MAX_DEGREE" = some (.int 2000 t)) (Cl : PC K mg C)
    (O : Ops P w K mg base C fO fP fA fN fM fdO fdP fdA fdN fdM) (GP2 : FnOk P w K mg base CX0 6 fP fdP ["row"] (spPolyOf K C (SqT K))) (N : PySem.XTooMany.TooManyTxt K mg CT fCT)
    (W : At K mg "require_within" sWithin ["value", "low", "high"] fW2 fdW2) (GW : FnOk P w K mg base (L2.CX P w) 5 fW2 fdW2 ["value", "low", "high"] (spWithin K CN)) (R : AtT K mg fT fdT) (PD : AtP K C "degree" "Poly.degree" 3 pD fD fdD) :
    FnOk P w K mg base (L2.CX P w) 7 f fd ["self", "many"] (spPower K C CN CT) := by
  have GT : FnOk P w K mg base CX0 1 fT fdT ["row"] (spTrimmedL K) := ok_trimmedL R.F T
  have GD : FnOk P w K mg base CX0 1 fD fdD ["self"] (spGet K C fun _ ns => .int ((ns.length : Int) - 1)) := ok_degree PD.F T Cl
  obtain ⟨tX, gX⟩ := gX
  obtain ⟨tD, gD⟩ := gD
  refine F.okX sc10 (fun vs H Q E h => ?_) (fun cdv A outer s H vs Q E hr h => ?_)
  · obtain ⟨p, u, ns, y, b, rfl, _⟩ := h
    rfl
  · obtain ⟨p, u, ns, y, b, rfl, hP, hy, k1, k2⟩ := h
    obtain ⟨⟨dx, hp⟩, hu, hl⟩ := id hP
    refine ⟨_, pss_cons (ps_expr (pe_call GW (hr.mono (by decide)) (by rfl) W.g W.F.kp W.b .nil (passes_call (takes_of rfl rfl rfl rfl) (fun _ _ _ _ h => h)) (pa_cons (pv 1) (pa_cons pe_int (pa_cons (pe_glob (v := .int 40) (by rfl) gX ⟨_, rfl⟩) pa_nil)))))
      (pss_cons (ps_if (pt_cmpR op_gt (pe_op op_mul (pe_prop (pv 0) Cl.cl PD.p GD (hr.mono (by decide)) PD.b .nil pass0 rfl) (pv 1)) (pe_glob (v := .int 2000) (by rfl) gD ⟨_, rfl⟩) (nomark _))
          (pss_one (ps_raiseTooMany rfl N hr (takes_of rfl rfl rfl rfl) (by exact (pa_cons (pe_glob (v := .int 2000) (by rfl) gD ⟨_, rfl⟩) pa_nil)))) pss_nil)
      (pss_cons (ps_set (i := 2) sc10.nd rfl (Or.inl rfl) (pe_tup (pa_cons pe_int pa_nil)))
      (pss_cons (ps_for (passes_of rfl) rfl (pi_range1 (by rfl) hrg (pa_cons (pv 1) pa_nil)) (pg_name (i := 3) sc10.nd rfl (Or.inl rfl))
          (pss_one (ps_set (i := 2) sc10.nd rfl (Or.inl rfl) (pe_call GT (hr.mono (by decide)) (by rfl) R.g R.F.kp R.b .nil pass0 (pa_cons (pe_call O.GM (hr.mono (by decide)) (by rfl) O.M.g O.M.F.kp O.M.b .nil pass0 (pa_cons (pe_fld (pv 0) rfl) (pa_cons (pv 2) pa_nil))) pa_nil)))))
        (pss_one (ps_ret (pe_call GP2 hr (by rfl) O.Po.g O.Po.F.kp O.Po.b .nil pass0 (pa_cons (pv 2) pa_nil))))))), ?_⟩
    walk_at "rd"
    refine ⟨y, 0, 40, b, rfl, by decide +kernel, by decide +kernel, hy, fun hb => ?_, fun hb d hd => k2 hb d hd⟩
    walk_at "rd"
    subst hb
    rcases hy with ⟨i0, rfl, hb⟩ | ⟨_, hb⟩
    · have hb' := of_decide_eq_true hb.symm
      obtain ⟨m, rfl⟩ : ∃ m : Nat, i0 = (m : Int) := ⟨i0.toNat, by omega⟩
      have hm : m ≤ 40 := by omega
      obtain ⟨kf, km⟩ := k1 rfl m rfl hm
      refine ⟨p, dx, _, rfl, hp, p, u, ns, rfl, hP, ?_⟩
      walk_at "rd"
      refine g_I (.inl ⟨by omega, by omega⟩) ?_
      walk_at "rd"
      by_cases hd : ((ns.length : Int) - 1) * (m : Int) ≤ 2000
      · obtain ⟨kB, kl, kq⟩ := kf hd
        rw [decide_eq_false (show ¬ (2000 : Int) < ((ns.length : Int) - 1) * (m : Int) from Int.not_lt.mpr hd)]
        walk_at "rd"
        refine ⟨by show 1 ≤ sizeLine; decide, fun r0 hr0 => ?_⟩
        have e0 := Ext.new (o := HO.tup [V.int 1]) hr0
        walk_at "rd"
        refine g_forR ?_
        walk_at "rd"
        refine ⟨by omega, by omega, ?_⟩
        rw [Int.toNat_natCast]
        refine for_range (PvW p u C K m H ns) ⟨r0, _, rfl, e0, SqT.of upd_same⟩ ?_ ?_
        · rintro i σ H2 hi ⟨r, x, rfl, e2, hr2⟩
          walk_at "rd"
          refine ⟨p, C, dx, _, _, rfl, e2 _ _ hp, Cl.cl, Cl.noF, look1 (u := .ref u), ?_⟩
          walk_at "rd"
          obtain ⟨ln, lm, A1, B1, A0, B0, AB, hA, hB⟩ := kB i hi
          refine ⟨u, r, ns, powR ns i, A1, B1, rfl, sqT_ext e2 hu, hr2, ln, lm, A0, B0, AB, hA, hB, fun H3 t e3 _ ht => ?_⟩
          walk_at "rd"
          refine ⟨t, _, rfl, SqL.of ht, by rw [mulR_len]; omega, fun H4 v e4 hv => ?_⟩
          walk_at "rd"
          exact ⟨v, _, rfl, Ext.trans e2 (Ext.trans e3 e4), hv⟩
        · rintro σ H2 ⟨r, x, rfl, e2, hr2⟩
          walk_at "rd"
          exact ⟨r, powR ns m, rfl, hr2, kl, fun H3 q v e3 hq => kq H3 q v (Ext.trans e2 e3) hq⟩
      · rw [decide_eq_true (show (2000 : Int) < ((ns.length : Int) - 1) * (m : Int) from Int.not_le.mp hd)]
        walk_at "rd"
        exact ⟨_, rfl, fun d hd0 => km hd d hd0⟩
    · cases hb
end
end K0

set_option Elab.async false
set_option linter.all false
set_option maxRecDepth 100000
set_option maxHeartbeats 4000000
/-! turned_round, and the value at a number. -/
namespace K0
open PySem PySem.Spec PyProof.Rows L2 Gd
local macro_rules | `(tactic| walk_at "rd1") => `(tactic| first | with_reducible refine g_ret ?_ | with_reducible refine g_retN ?_ | with_reducible refine g_seq ?_ | with_reducible refine g_next ?_ | with_reducible refine g_drop ?_ | with_reducible refine g_asg ?_ | with_reducible refine g_name ?_ | with_reducible refine g_ifs ?_ | with_reducible refine g_test ?_ | with_reducible refine g_tb ?_ | with_reducible refine g_and ?_ | with_reducible refine g_or ?_ | with_reducible refine g_not ?_ | with_reducible refine g_andV ?_ | with_reducible refine g_orV ?_ | with_reducible refine g_notV ?_ | with_reducible refine g_if ?_ | with_reducible refine g_op ?_ | with_reducible refine g_un ?_ | with_reducible refine g_cb ?_ | with_reducible refine g_nil ?_ | with_reducible refine g_cons ?_ | with_reducible refine g_call ?_ | with_reducible refine g_callS ?_ | with_reducible refine g_tup ?_ | with_reducible refine g_lst ?_ | with_reducible refine g_isN ?_ | with_reducible refine g_sl ?_ | with_reducible refine g_nopart ?_ | with_reducible refine g_part ?_ | with_reducible refine g_chain ?_ | with_reducible refine g_fld ?_ | with_reducible refine g_prop ?_ | with_reducible refine g_bm ?_ | with_reducible refine g_bm0 ?_ | with_reducible refine g_c ?_ | with_reducible refine g_sub ?_ | with_reducible refine g_int1 ?_ | with_reducible refine g_int2 ?_ | with_reducible refine g_yes ?_ | with_reducible refine g_sfld ?_ | with_reducible refine g_NT ?_ | with_reducible refine g_NF ?_ | with_reducible refine iteT ?_ | with_reducible refine iteF ?_ | ((with_reducible refine' g_aug ?hv ?_); (case hv => exact rfl)) | ((with_reducible refine' g_var ?hv ?_); (case hv => exact rfl)) | with_reducible refine g_I0 ?_ | with_reducible refine g_U ?_ | with_reducible refine g_eqI ?_ | with_reducible refine g_blV ?_ | with_reducible refine g_inV ?_)
local macro_rules | `(tactic| walk_at "rd") => `(tactic| repeat walk_at "rd1")
section
variable {P : Program} {w : World} {K : PySem.W.Frag} {mg : Str → Option Value} {base : Heap} {f C CN fC : Addr} {fd : FuncData}
variable {fO fP fA fN fM : Addr} {fdO fdP fdA fdN fdM : FuncData}
/-! ### turned_round -/
def turnR (ns : List Int) (m : Nat) : List Int := List.replicate (m + 1 - ns.length) 0 ++ ns.reverse
def spTurned (K : PySem.W.Frag) (C CN CR : Addr) : Sp := fun vs H Q E => ∃ (p u : Addr) (ns : List Int) (y : V) (b : Bool), vs = [.ref p, y] ∧ PolyU K C H p u ns ∧ ns.length ≤ 50000 ∧ WithB K H y 0 2000 b ∧
  (b = true → ∀ m : Nat, y = .int (m : Int) → m ≤ 2000 →
    (ns.length ≤ m + 1 → ∀ H' q v, Ext H H' → PolyU K C H' q v (trim (turnR ns m)) → Q (.ref q) H') ∧
    (¬ ns.length ≤ m + 1 → ∀ H1 t d, Ext H H1 → H1 t = some (.tup [.str "degree", .int ((ns.length : Int) - 1)]) → H1 d = none → E (.ref CR) (some d) (upd H1 d (.xd [(("reason" : Str), .ref t)])))) ∧
  (b = false → ∀ d, H d = none → E (.ref CN) (some d) (upd H d (.xd [(("value" : Str), y)])))
theorem sc12 : FnScope ["self", "many"] ["self", "many"] (defScope (cls 12)) := ⟨rfl, rfl, rfl, by decide +kernel, rfl, by decide +kernel, by decide +kernel⟩
theorem ok_turned {fW2 pD fD CR fCR : Addr} {fdW2 fdD : FuncData} (F : Fun K "turned_round" "Poly.turned_round" (cls 12) f fd) (T : Txt K mg) (gD : ∃ t, mg "MAX_DEGREE" = some (.int 2000 t)) (Cl : PC K mg C)
    (O : Ops P w K mg base C fO fP fA fN fM fdO fdP fdA fdN fdM) (N : PySem.XRefused.RefusedTxt K mg CR fCR)
    (W : At K mg "require_within" sWithin ["value", "low", "high"] fW2 fdW2) (GW : FnOk P w K mg base (L2.CX P w) 5 fW2 fdW2 ["value", "low", "high"] (spWithin K CN)) (PD : AtP K C "degree" "Poly.degree" 3 pD fD fdD) :
    FnOk P w K mg base (L2.CX P w) 7 f fd ["self", "many"] (spTurned K C CN CR) := by
  have GD : FnOk P w K mg base CX0 1 fD fdD ["self"] (spGet K C fun _ ns => .int ((ns.length : Int) - 1)) := ok_degree PD.F T Cl
  obtain ⟨tD, gD⟩ := gD
  refine F.okX sc12 (fun vs H Q E h => ?_) (fun cdv A outer s H vs Q E hr h => ?_)
  · obtain ⟨p, u, ns, y, b, rfl, _⟩ := h
    rfl
  · obtain ⟨p, u, ns, y, b, rfl, hP, ln, hy, k1, k2⟩ := h
    obtain ⟨⟨dx, hp⟩, hu, hl⟩ := id hP
    refine ⟨_, pss_cons (ps_expr (pe_call GW (hr.mono (by decide)) (by rfl) W.g W.F.kp W.b .nil (passes_call (takes_of rfl rfl rfl rfl) (fun _ _ _ _ h => h)) (pa_cons (pv 1) (pa_cons pe_int (pa_cons (pe_glob (v := .int 2000) (by rfl) gD ⟨_, rfl⟩) pa_nil)))))
      (pss_cons (ps_if (pt_cmpR op_gt (pe_prop (pv 0) Cl.cl PD.p GD (hr.mono (by decide)) PD.b .nil pass0 rfl) (pv 1) (nomark _))
          (pss_one (ps_raiseRefused rfl N hr (takes_of rfl rfl rfl rfl) (by exact (pa_cons (pe_tup (pa_cons pe_str (pa_cons (pe_prop (pv 0) Cl.cl PD.p GD (hr.mono (by decide)) PD.b .nil pass0 rfl) pa_nil))) pa_nil)))) pss_nil)
      (pss_one (ps_ret (pe_call O.GP hr (by rfl) O.Po.g O.Po.F.kp O.Po.b .nil pass0 (pa_cons (pe_op op_cat (pe_op op_rep (pe_lst (pa_cons pe_int pa_nil)) (pe_op op_sub (pv 1) (pe_prop (pv 0) Cl.cl PD.p GD (hr.mono (by decide)) PD.b .nil pass0 rfl)))
        (pe_callTy call_list_of (by rfl) T.list (by decide +kernel) (pa_cons (pe_revT (pe_fld (pv 0) rfl)) pa_nil))) pa_nil))))), ?_⟩
    walk_at "rd"
    refine ⟨y, 0, 2000, b, rfl, by decide +kernel, by decide +kernel, hy, fun hb => ?_, fun hb d hd => k2 hb d hd⟩
    walk_at "rd"
    subst hb
    rcases hy with ⟨i0, rfl, hb⟩ | ⟨_, hb⟩
    · have hb' := of_decide_eq_true hb.symm
      obtain ⟨m, rfl⟩ : ∃ m : Nat, i0 = (m : Int) := ⟨i0.toNat, by omega⟩
      have hm : m ≤ 2000 := by omega
      obtain ⟨kf, km⟩ := k1 rfl m rfl hm
      have sz : (100000 : Nat) < sizeLine := by decide
      refine ⟨p, dx, _, rfl, hp, p, u, ns, rfl, hP, ?_⟩
      walk_at "rd"
      by_cases hd : ns.length ≤ m + 1
      · rw [decide_eq_false (show ¬ (m : Int) < (ns.length : Int) - 1 by omega)]
        walk_at "rd"
        refine ⟨by show 1 ≤ sizeLine; decide, fun z hz => ?_⟩
        have ez := Ext.new (o := HO.lst [V.int 0]) hz
        walk_at "rd"
        refine ⟨p, dx, _, rfl, ez _ _ hp, p, u, ns, rfl, hP.ext ez, ?_⟩
        walk_at "rd"
        have eq : ((m : Int) - ((ns.length : Int) - 1)) = ((m + 1 - ns.length : Nat) : Int) := by omega
        rw [eq]
        refine ⟨z, _, [V.int 0], rfl, rfl, upd_same, by omega, by omega, ?_, fun l hl0 => ?_⟩
        · show 1 * _ ≤ sizeLine
          omega
        have el := Ext.trans ez (Ext.new (o := HO.lst (List.replicate (((m + 1 - ns.length : Nat) : Int)).toNat [V.int 0]).flatten) hl0)
        have hL : upd (upd H z (.lst [V.int 0])) l (.lst (List.replicate (((m + 1 - ns.length : Nat) : Int)).toNat [V.int 0]).flatten) l = some (.lst ((List.replicate (m + 1 - ns.length) (0 : Int)).map V.int)) := by
          rw [upd_same, flatL_zero, Int.toNat_natCast]
        generalize upd (upd H z (.lst [V.int 0])) l (.lst (List.replicate (((m + 1 - ns.length : Nat) : Int)).toNat [V.int 0]).flatten) = H1 at el hL
        walk_at "rd"
        refine ⟨_, rfl, p, C, dx, _, _, rfl, el _ _ hp, Cl.cl, Cl.noF, look1 (u := .ref u), u, _, rfl, sqT_ext el hu, fun r hr0 => ?_⟩
        have er := Ext.new (o := HO.tup (ns.map V.int).reverse) hr0
        walk_at "rd"
        refine ⟨r, _, rfl, .inr (SqT.of upd_same), fun l2 hl2 => ?_⟩
        have e2 := Ext.new (o := HO.lst (ns.map V.int).reverse) hl2
        refine ⟨l, l2, _, _, rfl, rfl, e2 _ _ (er _ _ hL), upd_same, ?_, fun o ho => ?_⟩
        · rw [List.length_map, List.length_replicate, List.length_reverse, List.length_map]
          omega
        walk_at "rd"
        have e3 := Ext.trans el (Ext.trans er (Ext.trans e2 (Ext.new (o := HO.lst ((List.replicate (m + 1 - ns.length) (0 : Int)).map V.int ++ (ns.map V.int).reverse)) ho)))
        refine ⟨o, turnR ns m, rfl, SqL.of (by rw [upd_same]; unfold turnR; rw [List.map_append, List.map_reverse]), ?_, fun H' q v e hq => kf hd H' q v (Ext.trans e3 e) hq⟩
        unfold turnR
        rw [List.length_append, List.length_replicate, List.length_reverse]
        omega
      · rw [decide_eq_true (show (m : Int) < (ns.length : Int) - 1 by omega)]
        walk_at "rd"
        unfold tRaiseRefused tMkRefused
        walk_at "rd"
        refine ⟨p, dx, _, rfl, hp, p, u, ns, rfl, hP, ?_⟩
        walk_at "rd"
        refine ⟨by show 2 ≤ sizeLine; decide, fun t ht => ?_⟩
        exact ⟨_, rfl, fun d hd0 => km hd _ t d (Ext.new ht) upd_same hd0⟩
    · cases hb
end
end K0

set_option Elab.async false
set_option linter.all false
set_option maxRecDepth 100000
set_option maxHeartbeats 4000000
/-! What tells no polynomial is refused; primes. -/
namespace K0
open PySem PySem.Spec PyProof.Rows L2 Gd
local macro_rules | `(tactic| walk_at "rd1") => `(tactic| first | with_reducible refine g_ret ?_ | with_reducible refine g_retN ?_ | with_reducible refine g_seq ?_ | with_reducible refine g_next ?_ | with_reducible refine g_drop ?_ | with_reducible refine g_asg ?_ | with_reducible refine g_name ?_ | with_reducible refine g_ifs ?_ | with_reducible refine g_test ?_ | with_reducible refine g_tb ?_ | with_reducible refine g_and ?_ | with_reducible refine g_or ?_ | with_reducible refine g_not ?_ | with_reducible refine g_andV ?_ | with_reducible refine g_orV ?_ | with_reducible refine g_notV ?_ | with_reducible refine g_if ?_ | with_reducible refine g_op ?_ | with_reducible refine g_un ?_ | with_reducible refine g_cb ?_ | with_reducible refine g_nil ?_ | with_reducible refine g_cons ?_ | with_reducible refine g_call ?_ | with_reducible refine g_callS ?_ | with_reducible refine g_tup ?_ | with_reducible refine g_lst ?_ | with_reducible refine g_isN ?_ | with_reducible refine g_sl ?_ | with_reducible refine g_nopart ?_ | with_reducible refine g_part ?_ | with_reducible refine g_chain ?_ | with_reducible refine g_fld ?_ | with_reducible refine g_prop ?_ | with_reducible refine g_bm ?_ | with_reducible refine g_bm0 ?_ | with_reducible refine g_c ?_ | with_reducible refine g_sub ?_ | with_reducible refine g_int1 ?_ | with_reducible refine g_int2 ?_ | with_reducible refine g_yes ?_ | with_reducible refine g_sfld ?_ | with_reducible refine g_NT ?_ | with_reducible refine g_NF ?_ | with_reducible refine iteT ?_ | with_reducible refine iteF ?_ | ((with_reducible refine' g_aug ?hv ?_); (case hv => exact rfl)) | ((with_reducible refine' g_var ?hv ?_); (case hv => exact rfl)) | with_reducible refine g_I0 ?_ | with_reducible refine g_U ?_ | with_reducible refine g_eqI ?_ | with_reducible refine g_blV ?_ | with_reducible refine g_inV ?_)
local macro_rules | `(tactic| walk_at "rd") => `(tactic| repeat walk_at "rd1")
/-- an own exception class without a field -/
structure OwnX (K : PySem.W.Frag) (mg : Str → Option Value) (x : Str) (C : Addr) : Prop where
  gC : mg x = some (.ref C)
  kC : PySem.W.keepIn K (.ref C) = true
  q : PySem.W.excIn K C [.type "ValueError", .type "Exception", .type "BaseException", .type "object"] "ValueError.__new__" = true
  s1 : PySem.W.subIn K (.ref C) (.type "BaseException") = some true
  t1 : PySem.W.typeIn K (.ref C) = some (.type "type")
  te : PySem.W.exmOne K (.ref C) (.ref C) = some true
theorem ps_raiseOwn {X : Cx} {W : WX} {C : Addr} {x m : Str} {j : Nat} {p p2 pos pos2 : Pos} (hc : X.calm = true) (N : OwnX X.K X.mg x C) (tk : Takes X W) (hg : Gl X x) (hdb : (x == ("__debug__" : Str)) = false := by decide) :
    PS X (.Raise (some (.Call (.Name x p) [.Constant (.str m) j p2] [] pos)) none pos2) (fun _ σ H => W (.ref C) none σ H) :=
  ps_raise hc tk (pmk_own PySem.F.excBase_ValueError N.q N.gC N.kC (raises_own N.s1 N.t1) hg hdb)
section
variable {P : Program} {w : World} {K : PySem.W.Frag} {mg : Str → Option Value} {base : Heap} {f C CP : Addr} {fd : FuncData}
/-- what is_integer says of the items, whatever is made meanwhile -/
def Judged (K : PySem.W.Frag) (H : Hp) (xs : List V) (bs : List Bool) : Prop := xs.length = bs.length ∧ ∀ (i : Nat) x b, xs[i]? = some x → bs[i]? = some b → ∀ H', Ext H H' → IntB K H' x b
/-- no row of factors -/
def BadF (K : PySem.W.Frag) (H : Hp) (x : V) : Prop := (∃ ty, TyX K H x ty ∧ PySem.W.kitOne K ty (.type "tuple") = some false) ∨
  (∃ a xs, x = .ref a ∧ SqT K H a xs ∧ 400 < xs.length ∧ xs.length ≤ 100000) ∨ (∃ a xs bs, x = .ref a ∧ SqT K H a xs ∧ xs.length ≤ 400 ∧ Judged K H xs bs ∧ bs.all id = false)
def spInitX (K : PySem.W.Frag) (C CP : Addr) : Sp := fun vs H Q E => ∃ (p dx : Addr) (x : V), vs = [.ref p, x] ∧ H p = some (.ins C dx []) ∧
  ((∃ (a : Addr) (ns : List Int), x = .ref a ∧ SqT K H a (ns.map V.int) ∧ ns.length ≤ 400 ∧ Big ns ∧
    ∀ H' u, ExtBut p H H' → H' p = some (.ins C dx [(("_factors" : Str), .ref u)]) → SqT K H' u ((trim ns).map V.int) → Q .non H') ∨
   (BadF K H x ∧ ∀ H', Ext H H' → E (.ref CP) none H'))
theorem ok_initX {f fW fI fT C t0 : Addr} {fd fdW fdI fdT : FuncData} (F : FnI K t0 f fd) (T : Txt K mg) (Cl : PC K mg C) (W : AtW K mg fW fdW) (I : AtI K mg fI fdI) (R : AtT K mg fT fdT) (N : OwnX K mg "InvalidPoly" CP) :
    FnOk P w K mg base (L2.CX P w) 4 f fd ["self", "factors"] (spInitX K C CP) := by
  have GI : FnOk P w K mg base CX0 2 fI fdI ["value"] (spInteger K) := ok_integer I.F T W
  have GT : FnOk P w K mg base CX0 1 fT fdT ["row"] (spTrimmed K) := ok_trimmed R.F T
  obtain ⟨tM, gM⟩ := T.most
  refine F.ok scInit (fun vs H Q E h => ?_) (fun cdv A outer s H vs Q E hr h => ?_)
  · obtain ⟨p, dx, x, rfl, _⟩ := h
    rfl
  · obtain ⟨p, dx, x, rfl, hp, h⟩ := h
    refine ⟨_, pss_cons (ps_if (PW.pt (pw_or (pt_not (pt_val (pe_callB call_isi (by rfl) T.isinstance (by decide +kernel) (pa_cons (pv 1) (pa_cons (pe_bltn (v := .ty "tuple") (by rfl) T.tuple (by decide +kernel) rfl) pa_nil)))))
        (pw_or1 (pt_cmpR op_gt (pe_callB call_len_seq (by rfl) T.len PySem.boot_len (pa_cons (pv 1) pa_nil)) (pe_glob (v := .int 400) (by rfl) gM ⟨_, rfl⟩) (nomark _))))) (pss_one (ps_raiseOwn rfl N (takes_of rfl rfl rfl rfl) (by rfl))) pss_nil)
      (pss_cons (ps_if (pt_not (pt_val (pe_callB (cr_all rfl) (by rfl) T.all (by decide +kernel) (pa_cons
          (pe_lc (own := [("factor", 2)]) (g := gName 2) (tt := tYes) rfl scInit.nd (pi_tup (pv 1)) (blkOk_by (N := ["self", "factors", "factor"]) (sc := defScope sInit) (by decide +kernel)) (fun _ _ _ _ _ => pg_name (i := 2) scInit.nd rfl (Or.inl rfl)) (fun _ _ _ _ _ => pts_nil)
            (fun _ _ _ _ _ => pe_call GI (hr.mono (by decide)) (by rfl) I.g I.F.kp I.b .nil pass0 (pa_cons (pv 2) pa_nil))) pa_nil)))) (pss_one (ps_raiseOwn rfl N (takes_of rfl rfl rfl rfl) (by rfl))) pss_nil)
        (pss_one (ps_fld (pv 0) (pe_call GT (hr.mono (by decide)) (by rfl) R.g R.F.kp R.b .nil pass0 (pa_cons (pv 1) pa_nil)) rfl))), ?_⟩
    have sz : (100000 : Nat) < sizeLine := by decide
    walk_at "rd"
    rcases h with ⟨a, ns, rfl, hs, hl, hB, k⟩ | ⟨hb, k⟩
    · refine ⟨_, _, _, _, true, rfl, .ty _, tyT hs, by kernel_rfl, ?_⟩
      walk_at "rd"
      refine ⟨a, _, rfl, .inr hs, ?_⟩
      walk_at "rd"
      rw [decide_eq_false (by rw [List.length_map]; omega)]
      walk_at "rd"
      refine ⟨_, rfl, a, rfl, ⟨_, hs⟩, fun D hD => lc_tup (xs := ns.map V.int) (fun i H' => Ext H H' ∧ H' D = some (.lst ((ns.take i).map fun _ => V.bl true)))
        ⟨Ext.new hD, upd_same⟩ (fun i H' _ q => sqT_ext q.1 hs) ?_ ?_⟩
      · rintro i x H' hi ⟨e, hD'⟩
        rw [mapget] at hi
        obtain ⟨n, hn, rfl⟩ := Option.map_eq_some_iff.mp hi
        have hlt : i < ns.length := (List.getElem?_eq_some_iff.mp hn).1
        refine ⟨rfl, ?_⟩
        walk_at "rd"
        refine ⟨_, true, rfl, .inl ⟨n, rfl, (decide_eq_true (hB n (List.mem_of_getElem? hn))).symm⟩, _, hD', ?_, ?_, ?_⟩
        · rw [List.length_map, List.length_take]
          omega
        · intro b o q
          rw [upd_ne (ne_of_none q hD)]
          exact e b o q
        · rw [upd_same, take_one hlt, List.map_append]
          rfl
      · rintro H' ⟨e, hD'⟩
        walk_at "rd"
        refine ⟨D, ns.map fun _ => true, rfl, SqL.of ?_, ?_⟩
        · rw [hD', List.length_map, List.take_length, List.map_map]
          rfl
        have all : (ns.map fun _ => true).all id = true := by simp
        rw [all]
        walk_at "rd"
        refine ⟨a, ns, rfl, sqT_ext e hs, by omega, ?_⟩
        intro H2 u e2 hu
        have hp2 : H2 p = some (.ins C dx []) := e2 _ _ (e _ _ hp)
        walk_at "rd"
        refine ⟨p, C, dx, [], rfl, hp2, Cl.cl, Cl.noF, by decide, ?_⟩
        refine k _ u ?_ upd_same ?_
        · intro b o hb q
          rw [upd_ne hb]
          exact e2 _ _ (e _ _ q)
        · rcases hu with (h | ⟨o, h⟩) | h
          · refine .inl (.inl ?_)
            rw [upd_ne (ne_of h hp2 (by intro z; cases z))]
            exact h
          · refine .inl (.inr ⟨o, ?_⟩)
            rw [upd_ne (ne_of h hp2 (by intro z; cases z))]
            exact h
          · exact .inr h
    · rcases hb with ⟨ty, ht, hk⟩ | ⟨a, xs, rfl, hs, hl, hl2⟩ | ⟨a, xs, bs, rfl, hs, hl, ⟨hn, hj⟩, hf⟩
      · refine ⟨_, _, _, _, false, rfl, .ty _, ht, hk, ?_⟩
        walk_at "rd"
        exact k H (fun _ _ z => z)
      · refine ⟨_, _, _, _, true, rfl, .ty _, tyT hs, by kernel_rfl, ?_⟩
        walk_at "rd"
        refine ⟨a, _, rfl, .inr hs, ?_⟩
        walk_at "rd"
        rw [decide_eq_true (show (400 : Int) < (xs.length : Int) by omega)]
        walk_at "rd"
        exact k H (fun _ _ z => z)
      · refine ⟨_, _, _, _, true, rfl, .ty _, tyT hs, by kernel_rfl, ?_⟩
        walk_at "rd"
        refine ⟨a, _, rfl, .inr hs, ?_⟩
        walk_at "rd"
        rw [decide_eq_false (show ¬ (400 : Int) < (xs.length : Int) by omega)]
        walk_at "rd"
        refine ⟨_, rfl, a, rfl, ⟨_, hs⟩, fun D hD => lc_tup (xs := xs) (fun i H' => Ext H H' ∧ H' D = some (.lst ((bs.take i).map V.bl)))
          ⟨Ext.new hD, upd_same⟩ (fun i H' _ q => sqT_ext q.1 hs) ?_ ?_⟩
        · rintro i x H' hi ⟨e, hD'⟩
          have hlt : i < xs.length := (List.getElem?_eq_some_iff.mp hi).1
          have hlb : i < bs.length := by omega
          refine ⟨rfl, ?_⟩
          walk_at "rd"
          refine ⟨_, bs[i], rfl, hj i x _ hi (List.getElem?_eq_getElem hlb) H' e, _, hD', ?_, ?_, ?_⟩
          · rw [List.length_map, List.length_take]
            omega
          · intro b o q
            rw [upd_ne (ne_of_none q hD)]
            exact e b o q
          · rw [upd_same, take_one hlb, List.map_append]
            rfl
        · rintro H' ⟨e, hD'⟩
          walk_at "rd"
          refine ⟨D, bs, rfl, SqL.of ?_, ?_⟩
          · rw [hD', hn, List.take_length]
          rw [hf]
          walk_at "rd"
          exact k H' e
end
end K0

set_option Elab.async false
set_option linter.all false
set_option maxRecDepth 100000
set_option maxHeartbeats 4000000
/-! Primes; gaps; binomials that are refused, and the one that is told. -/
namespace K0
open PySem PySem.Spec PyProof.Rows L2 Gd
local macro_rules | `(tactic| walk_at "rd1") => `(tactic| first | with_reducible refine g_ret ?_ | with_reducible refine g_retN ?_ | with_reducible refine g_seq ?_ | with_reducible refine g_next ?_ | with_reducible refine g_drop ?_ | with_reducible refine g_asg ?_ | with_reducible refine g_name ?_ | with_reducible refine g_ifs ?_ | with_reducible refine g_test ?_ | with_reducible refine g_tb ?_ | with_reducible refine g_and ?_ | with_reducible refine g_or ?_ | with_reducible refine g_not ?_ | with_reducible refine g_andV ?_ | with_reducible refine g_orV ?_ | with_reducible refine g_notV ?_ | with_reducible refine g_if ?_ | with_reducible refine g_op ?_ | with_reducible refine g_un ?_ | with_reducible refine g_cb ?_ | with_reducible refine g_nil ?_ | with_reducible refine g_cons ?_ | with_reducible refine g_call ?_ | with_reducible refine g_callS ?_ | with_reducible refine g_tup ?_ | with_reducible refine g_lst ?_ | with_reducible refine g_isN ?_ | with_reducible refine g_sl ?_ | with_reducible refine g_nopart ?_ | with_reducible refine g_part ?_ | with_reducible refine g_chain ?_ | with_reducible refine g_fld ?_ | with_reducible refine g_prop ?_ | with_reducible refine g_bm ?_ | with_reducible refine g_bm0 ?_ | with_reducible refine g_c ?_ | with_reducible refine g_sub ?_ | with_reducible refine g_int1 ?_ | with_reducible refine g_int2 ?_ | with_reducible refine g_yes ?_ | with_reducible refine g_sfld ?_ | with_reducible refine g_NT ?_ | with_reducible refine g_NF ?_ | with_reducible refine iteT ?_ | with_reducible refine iteF ?_ | ((with_reducible refine' g_aug ?hv ?_); (case hv => exact rfl)) | ((with_reducible refine' g_var ?hv ?_); (case hv => exact rfl)) | with_reducible refine g_I0 ?_ | with_reducible refine g_U ?_ | with_reducible refine g_eqI ?_ | with_reducible refine g_blV ?_ | with_reducible refine g_inV ?_)
local macro_rules | `(tactic| walk_at "rd") => `(tactic| repeat walk_at "rd1")
section
variable {P : Program} {w : World} {K : PySem.W.Frag} {mg : Str → Option Value} {base : Heap} {f C CN : Addr} {fd : FuncData}
abbrev sPrime : Stmt := top 14
def primes : List Int := [2, 3, 5, 7, 11, 13, 17, 19, 23, 29, 31, 37, 41, 43, 47, 53, 59, 61, 67, 71, 73, 79, 83, 89, 97]
/-- where the tuple of the primes stands -/
structure PrimesAt (K : PySem.W.Frag) (mg : Str → Option Value) : Prop where
  ex : ∃ T : Addr, mg "PRIMES" = some (.ref T) ∧ ∀ H : Hp, SqT K H T (primes.map V.int)
def spPrime (K : PySem.W.Frag) : Sp := fun vs H Q _ => ∃ (x : V) (b : Bool), vs = [x] ∧ IntB K H x b ∧ (b = true → ∀ i : Int, x = .int i → Q (.bl (inV (.int i) (primes.map V.int))) H) ∧ (b = false → Q (.bl false) H)
theorem scPrime : FnScope ["value"] ["value"] (defScope sPrime) := ⟨rfl, rfl, rfl, by decide +kernel, rfl, by decide +kernel, by decide +kernel⟩
theorem ok_prime {fI fW : Addr} {fdI fdW : FuncData} (F : Fun K "is_prime" "is_prime" sPrime f fd) (T : Txt K mg) (W : AtW K mg fW fdW) (I : AtI K mg fI fdI) (Pr : PrimesAt K mg) : FnOk P w K mg base CX0 3 f fd ["value"] (spPrime K) := by
  have GI : FnOk P w K mg base CX0 2 fI fdI ["value"] (spInteger K) := ok_integer I.F T W
  obtain ⟨tp, gp, hp⟩ := Pr.ex
  refine F.ok scPrime (fun vs H Q E h => ?_) (fun cdv A outer s H vs Q E hr h => ?_)
  · obtain ⟨x, b, rfl, _⟩ := h
    rfl
  · obtain ⟨x, b, rfl, hx, k1, k2⟩ := h
    refine ⟨_, pss_one (ps_ret (pe_and (pe_call GI hr (by rfl) I.g I.F.kp I.b .nil pass0 (pa_cons (pv 0) pa_nil))
      (pe_one (pe_cmpR op_in_seq (pv 0) (pe_glob (v := .ref tp) (by rfl) gp rfl) (by rfl))))), ?_⟩
    walk_at "rd"
    refine ⟨x, b, rfl, hx, ?_⟩
    walk_at "rd"
    rcases hx with ⟨i, rfl, rfl⟩ | ⟨hx, rfl⟩
    · refine ite2 (fun h0 => ?_) (fun h0 => ?_)
      · walk_at "rd"
        refine ⟨tp, _, rfl, .inr (hp H), rfl, by decide, ?_⟩
        exact k1 h0 i rfl
      · have h0' : decide (-(10 ^ 60) < i ∧ i < 10 ^ 60) = false := by
          cases z : decide (-(10 ^ 60) < i ∧ i < 10 ^ 60) with
          | true => exact absurd z h0
          | false => rfl
        have := k2 h0'
        first | exact this | (rw [h0']; exact this)
    · first | exact k2 rfl | exact iteF (k2 rfl)
/-! ### gaps -/
abbrev sTimesGap : Stmt := top 24
abbrev sOverGap : Stmt := top 25
/-- the row times p ** k - 1 -/
def gapR (ns : List Int) (k : Nat) : List Int := addR (List.replicate k 0 ++ ns) (ns.map fun n => -n)
def spTimesGap (K : PySem.W.Frag) : Sp := fun vs H Q _ => ∃ (l : Bool) (a : Addr) (ns : List Int) (k : Nat), vs = [.ref a, .int (k : Int)] ∧ SqE K l H a (ns.map V.int) ∧ ns.length ≤ 50000 ∧ k ≤ 400 ∧
  ∀ H' u, Ext H H' → H u = none → H' u = some (.lst ((gapR ns k).map V.int)) → Q (.ref u) H'
theorem scTimesGap : FnScope ["row", "power"] ["row", "power"] (defScope sTimesGap) := ⟨rfl, rfl, rfl, by decide +kernel, rfl, by decide +kernel, by decide +kernel⟩
theorem ok_timesGap {fA fN : Addr} {fdA fdN : FuncData} (F : Fun K "times_gap" "times_gap" sTimesGap f fd) (T : Txt K mg) (FA : Fun K "added" "added" sAdded fA fdA) (bA : Binds K fdA ["one", "other"] []) (gA : mg "added" = some (.ref fA)) (hz : mg "zip" = none)
    (FN : Fun K "negated" "negated" sNegated fN fdN) (bN : Binds K fdN ["row"] []) (gN : mg "negated" = some (.ref fN)) : FnOk P w K mg base CX0 2 f fd ["row", "power"] (spTimesGap K) := by
  have GA := ok_added (P := P) (w := w) (base := base) FA T hz
  have GN := ok_negated (P := P) (w := w) (mg := mg) (base := base) FN
  refine F.ok scTimesGap (fun vs H Q E h => ?_) (fun cdv A outer s H vs Q E hr h => ?_)
  · obtain ⟨l, a, ns, k, rfl, _⟩ := h
    rfl
  · obtain ⟨l, a, ns, k, rfl, hs, hl, hk, q⟩ := h
    refine ⟨_, pss_one (ps_ret (pe_call GA hr (by rfl) gA FA.kp bA .nil pass0 (pa_cons (pe_op op_cat (pe_op op_rep (pe_lst (pa_cons pe_int pa_nil)) (pv 1)) (pe_callTy call_list_of (by rfl) T.list (by decide +kernel) (pa_cons (pv 0) pa_nil)))
        (pa_cons (pe_call GN hr (by rfl) gN FN.kp bN .nil pass0 (pa_cons (pv 0) pa_nil)) pa_nil)))), ?_⟩
    have sz : (100000 : Nat) < sizeLine := by decide
    walk_at "rd"
    refine ⟨by show 1 ≤ sizeLine; decide, fun z hz => ?_⟩
    have ez := Ext.new (o := HO.lst [V.int 0]) hz
    walk_at "rd"
    refine ⟨z, _, [V.int 0], rfl, rfl, upd_same, by omega, by omega, ?_, fun l2 hl2 => ?_⟩
    · show 1 * _ ≤ sizeLine
      omega
    have el := Ext.trans ez (Ext.new (o := HO.lst (List.replicate ((k : Int)).toNat [V.int 0]).flatten) hl2)
    have hL : upd (upd H z (.lst [V.int 0])) l2 (.lst (List.replicate ((k : Int)).toNat [V.int 0]).flatten) l2 = some (.lst ((List.replicate k (0 : Int)).map V.int)) := by
      rw [upd_same, flatL_zero, Int.toNat_natCast]
    generalize upd (upd H z (.lst [V.int 0])) l2 (.lst (List.replicate ((k : Int)).toNat [V.int 0]).flatten) = H1 at el hL
    walk_at "rd"
    refine ⟨a, _, rfl, sqE_or (sqE_ext el hs), fun l3 hl3 => ?_⟩
    have e3 := Ext.new (o := HO.lst (ns.map V.int)) hl3
    refine ⟨l2, l3, _, _, rfl, rfl, e3 _ _ hL, upd_same, by rw [List.length_map, List.length_replicate, List.length_map]; omega, fun l4 hl4 => ?_⟩
    have e4 := Ext.trans el (Ext.trans e3 (Ext.new (o := HO.lst ((List.replicate k (0 : Int)).map V.int ++ ns.map V.int)) hl4))
    have hL4 : upd (upd H1 l3 (.lst (ns.map V.int))) l4 (.lst ((List.replicate k (0 : Int)).map V.int ++ ns.map V.int)) l4 = some (.lst ((List.replicate k (0 : Int) ++ ns).map V.int)) := by
      rw [upd_same, List.map_append]
    generalize upd (upd H1 l3 (.lst (ns.map V.int))) l4 (.lst ((List.replicate k (0 : Int)).map V.int ++ ns.map V.int)) = H2 at e4 hL4
    walk_at "rd"
    refine ⟨l, a, ns, rfl, sqE_ext e4 hs, by omega, fun H3 n e5 _ hn => ?_⟩
    walk_at "rd"
    refine ⟨true, true, l4, n, List.replicate k 0 ++ ns, ns.map fun n => -n, rfl, SqL.of (e5 _ _ hL4), SqL.of hn, by rw [List.length_append, List.length_replicate]; omega, by rw [List.length_map]; omega, fun H4 u e6 hu0 hu => ?_⟩
    have e46 := Ext.trans e4 (Ext.trans e5 e6)
    refine q H4 u e46 ?_ hu
    cases zz : H u with
    | none => rfl
    | some o =>
      have := (Ext.trans e4 e5) _ _ zz
      rw [hu0] at this
      cases this
end
end K0

set_option Elab.async false
set_option linter.all false
set_option maxRecDepth 100000
set_option maxHeartbeats 4000000
/-! A row divided by a gap; binomials, heights and flags that are refused. -/
namespace K0
open PySem PySem.Spec PyProof.Rows L2 Gd
local macro_rules | `(tactic| walk_at "rd1") => `(tactic| first | with_reducible refine g_ret ?_ | with_reducible refine g_retN ?_ | with_reducible refine g_seq ?_ | with_reducible refine g_next ?_ | with_reducible refine g_drop ?_ | with_reducible refine g_asg ?_ | with_reducible refine g_name ?_ | with_reducible refine g_ifs ?_ | with_reducible refine g_test ?_ | with_reducible refine g_tb ?_ | with_reducible refine g_and ?_ | with_reducible refine g_or ?_ | with_reducible refine g_not ?_ | with_reducible refine g_andV ?_ | with_reducible refine g_orV ?_ | with_reducible refine g_notV ?_ | with_reducible refine g_if ?_ | with_reducible refine g_op ?_ | with_reducible refine g_un ?_ | with_reducible refine g_cb ?_ | with_reducible refine g_nil ?_ | with_reducible refine g_cons ?_ | with_reducible refine g_call ?_ | with_reducible refine g_callS ?_ | with_reducible refine g_tup ?_ | with_reducible refine g_lst ?_ | with_reducible refine g_isN ?_ | with_reducible refine g_sl ?_ | with_reducible refine g_nopart ?_ | with_reducible refine g_part ?_ | with_reducible refine g_chain ?_ | with_reducible refine g_fld ?_ | with_reducible refine g_prop ?_ | with_reducible refine g_bm ?_ | with_reducible refine g_bm0 ?_ | with_reducible refine g_c ?_ | with_reducible refine g_sub ?_ | with_reducible refine g_int1 ?_ | with_reducible refine g_int2 ?_ | with_reducible refine g_yes ?_ | with_reducible refine g_sfld ?_ | with_reducible refine g_NT ?_ | with_reducible refine g_NF ?_ | with_reducible refine iteT ?_ | with_reducible refine iteF ?_ | ((with_reducible refine' g_aug ?hv ?_); (case hv => exact rfl)) | ((with_reducible refine' g_var ?hv ?_); (case hv => exact rfl)) | with_reducible refine g_I0 ?_ | with_reducible refine g_U ?_ | with_reducible refine g_eqI ?_ | with_reducible refine g_blV ?_ | with_reducible refine g_inV ?_)
local macro_rules | `(tactic| walk_at "rd") => `(tactic| repeat walk_at "rd1")
section
variable {P : Program} {w : World} {K : PySem.W.Frag} {mg : Str → Option Value} {base : Heap} {f C CN t0 : Addr} {fd : FuncData}
/-- the quotient behind i steps -/
def overL (ns : List Int) (k : Nat) : Nat → List Int
  | 0 => []
  | i + 1 => overL ns k i ++ [(if k ≤ i then at0 (overL ns k i) (i - k) else 0) - at0 ns i]
theorem overL_len (ns : List Int) (k : Nat) : ∀ i, (overL ns k i).length = i
  | 0 => rfl
  | i + 1 => by
    show (overL ns k i ++ [_]).length = i + 1
    rw [List.length_append, overL_len ns k i]
    rfl
def spOverGap (K : PySem.W.Frag) : Sp := fun vs H Q _ => ∃ (a : Addr) (ns : List Int) (k : Nat), vs = [.ref a, .int (k : Int)] ∧ SqL K H a (ns.map V.int) ∧ ns.length ≤ 50000 ∧ 1 ≤ k ∧ k ≤ 400 ∧
  ∀ H' u, Ext H H' → H' u = some (.lst ((overL ns k (ns.length - k)).map V.int)) → Q (.ref u) H'
theorem scOverGap : FnScope ["row", "power", "quotient", "i", "ahead"] ["row", "power"] (defScope sOverGap) := ⟨rfl, rfl, rfl, by decide +kernel, rfl, by decide +kernel, by decide +kernel⟩
def PvQ (a l : Addr) (k : Nat) (H0 : Hp) (ns : List Int) (i : Nat) : L2.St → Hp → Prop := fun σ H' => ∃ (x y : Option V), σ = [some (.ref a), some (.int (k : Int)), some (.ref l), x, y] ∧ H0 l = none ∧ Ext H0 H' ∧ H' l = some (.lst ((overL ns k i).map V.int))
theorem at0_getc {l : List Int} {k : Nat} (h : k < l.length) : (l.map V.int)[k]? = some (V.int (at0 l k)) := by
  unfold at0
  rw [List.getElem?_map, List.getElem?_eq_getElem h]
  rfl
theorem ok_overGap (F : Fun K "over_gap" "over_gap" sOverGap f fd) (T : Txt K mg) (hrg : mg "range" = none) : FnOk P w K mg base CX0 1 f fd ["row", "power"] (spOverGap K) := by
  refine F.ok scOverGap (fun vs H Q E h => ?_) (fun cdv A outer s H vs Q E hr h => ?_)
  · obtain ⟨a, ns, k, rfl, _⟩ := h
    rfl
  · obtain ⟨a, ns, k, rfl, hs, hl, k1, k2, q⟩ := h
    refine ⟨_, pss_cons (ps_set (i := 2) scOverGap.nd rfl (Or.inl rfl) (pe_lst pa_nil))
      (pss_cons (ps_for PassesOwn.never rfl (pi_range1 (by rfl) hrg (pa_cons (pe_op op_sub (pe_callB call_len_seq (by rfl) T.len PySem.boot_len (pa_cons (pv 0) pa_nil)) (pv 1)) pa_nil)) (pg_name (i := 3) scOverGap.nd rfl (Or.inl rfl))
          (pss_cons (ps_set (i := 4) scOverGap.nd rfl (Or.inl rfl) (pe_ifExp (pt_cmpR op_ge (pv 3) (pv 1) (nomark _)) (pe_ix ix_list (pv 2) (pe_op op_sub (pv 3) (pv 1)) (fun _ _ => rfl)) pe_int))
            (pss_one (ps_expr (pe_bm PySem.F.plainAttrs_list PySem.F.slot_list_append PySem.F.type_list_append mt_append (pv 2) (pa_cons (pe_op op_sub (pv 4) (pe_ix ix_list (pv 0) (pv 3) (fun _ _ => rfl))) pa_nil))))))
        (pss_one (ps_ret (pv 2)))), ?_⟩
    have sz : (100000 : Nat) < sizeLine := by decide
    walk_at "rd"
    refine ⟨Nat.zero_le _, fun l hl0 => ?_⟩
    have el := Ext.new (o := HO.lst []) hl0
    walk_at "rd"
    refine g_forR ?_
    walk_at "rd"
    refine ⟨a, _, rfl, .inl (sqL_ext el hs), ?_⟩
    walk_at "rd"
    rw [List.length_map]
    have en : ((ns.length : Int) - (k : Int)).toNat = ns.length - k := by omega
    refine ⟨by omega, by omega, ?_⟩
    rw [en]
    refine for_range (PvQ a l k H ns) ⟨_, _, rfl, hl0, el, upd_same⟩ ?_ ?_
    · rintro i σ H2 hi ⟨x, y, rfl, _, e2, hL⟩
      have lo := overL_len ns k i
      have hi0 : (0 : Int) + (i : Int) = (i : Int) := by omega
      rw [hi0]
      have fin : ∀ z : Int, z = (if k ≤ i then at0 (overL ns k i) (i - k) else 0) → True := fun _ _ => trivial
      walk_at "rd"
      by_cases hk : k ≤ i
      · rw [decide_eq_true (show (i : Int) ≥ (k : Int) by omega)]
        walk_at "rd"
        have e3 : (i : Int) - (k : Int) = ((i - k : Nat) : Int) := by omega
        rw [e3]
        refine g_ixL (SqL.of hL) (v := .int (at0 (overL ns k i) (i - k))) (atI_nat (at0_getc (by omega))) ?_
        walk_at "rd"
        refine ⟨.inl ⟨rfl, _, SqL.of hL⟩, ?_⟩
        walk_at "rd"
        refine g_ixL (sqL_ext e2 hs) (v := .int (at0 ns i)) (atI_nat (at0_getc (by omega))) ?_
        walk_at "rd"
        refine ⟨l, _, _, rfl, rfl, hL, by rw [List.length_map, lo]; omega, ?_⟩
        refine ⟨_, _, rfl, hl0, fun o ob g => ?_, ?_⟩
        · rw [upd_ne (ne_of_none g hl0)]
          exact e2 _ _ g
        · rw [upd_same]
          show some (HO.lst _) = some (HO.lst ((overL ns k i ++ [(if k ≤ i then at0 (overL ns k i) (i - k) else 0) - at0 ns i]).map V.int))
          rw [if_pos hk, List.map_append]
          rfl
      · rw [decide_eq_false (show ¬ (i : Int) ≥ (k : Int) by omega)]
        walk_at "rd"
        refine ⟨.inl ⟨rfl, _, SqL.of hL⟩, ?_⟩
        walk_at "rd"
        refine g_ixL (sqL_ext e2 hs) (v := .int (at0 ns i)) (atI_nat (at0_getc (by omega))) ?_
        walk_at "rd"
        refine ⟨l, _, _, rfl, rfl, hL, by rw [List.length_map, lo]; omega, ?_⟩
        refine ⟨_, _, rfl, hl0, fun o ob g => ?_, ?_⟩
        · rw [upd_ne (ne_of_none g hl0)]
          exact e2 _ _ g
        · rw [upd_same]
          show some (HO.lst _) = some (HO.lst ((overL ns k i ++ [(if k ≤ i then at0 (overL ns k i) (i - k) else 0) - at0 ns i]).map V.int))
          rw [if_neg hk, List.map_append]
          rfl
    · rintro σ H2 ⟨x, y, rfl, _, e2, hL⟩
      walk_at "rd"
      exact q _ l e2 hL
end
end K0

set_option Elab.async false
set_option linter.all false
set_option maxRecDepth 100000
set_option maxHeartbeats 4000000
/-! binomial, heights, flags: what they refuse; binomial of all of the greatest rank. -/
namespace K0
open PySem PySem.Spec PyProof.Rows L2 Gd
local macro_rules | `(tactic| walk_at "rd1") => `(tactic| first | with_reducible refine g_ret ?_ | with_reducible refine g_retN ?_ | with_reducible refine g_seq ?_ | with_reducible refine g_next ?_ | with_reducible refine g_drop ?_ | with_reducible refine g_asg ?_ | with_reducible refine g_name ?_ | with_reducible refine g_ifs ?_ | with_reducible refine g_test ?_ | with_reducible refine g_tb ?_ | with_reducible refine g_and ?_ | with_reducible refine g_or ?_ | with_reducible refine g_not ?_ | with_reducible refine g_andV ?_ | with_reducible refine g_orV ?_ | with_reducible refine g_notV ?_ | with_reducible refine g_if ?_ | with_reducible refine g_op ?_ | with_reducible refine g_un ?_ | with_reducible refine g_cb ?_ | with_reducible refine g_nil ?_ | with_reducible refine g_cons ?_ | with_reducible refine g_call ?_ | with_reducible refine g_callS ?_ | with_reducible refine g_tup ?_ | with_reducible refine g_lst ?_ | with_reducible refine g_isN ?_ | with_reducible refine g_sl ?_ | with_reducible refine g_nopart ?_ | with_reducible refine g_part ?_ | with_reducible refine g_chain ?_ | with_reducible refine g_fld ?_ | with_reducible refine g_prop ?_ | with_reducible refine g_bm ?_ | with_reducible refine g_bm0 ?_ | with_reducible refine g_c ?_ | with_reducible refine g_sub ?_ | with_reducible refine g_int1 ?_ | with_reducible refine g_int2 ?_ | with_reducible refine g_yes ?_ | with_reducible refine g_sfld ?_ | with_reducible refine g_NT ?_ | with_reducible refine g_NF ?_ | with_reducible refine iteT ?_ | with_reducible refine iteF ?_ | ((with_reducible refine' g_aug ?hv ?_); (case hv => exact rfl)) | ((with_reducible refine' g_var ?hv ?_); (case hv => exact rfl)) | with_reducible refine g_I0 ?_ | with_reducible refine g_U ?_ | with_reducible refine g_eqI ?_ | with_reducible refine g_blV ?_ | with_reducible refine g_inV ?_)
local macro_rules | `(tactic| walk_at "rd") => `(tactic| repeat walk_at "rd1")
section
variable {P : Program} {w : World} {K : PySem.W.Frag} {mg : Str → Option Value} {base : Heap} {f C CN t0 fW : Addr} {fd fdW : FuncData}
abbrev sBinomial : Stmt := top 43
abbrev sHeights : Stmt := top 44
abbrev sFlags : Stmt := top 45
/-- a value that is refused as no integer from 0 to 24 -/
def sp24 (K : PySem.W.Frag) (CN : Addr) : Sp := fun vs H _ E => ∃ x : V, vs = [x] ∧ WithB K H x 0 24 false ∧ ∀ d, H d = none → E (.ref CN) (some d) (upd H d (.xd [(("value" : Str), x)]))
theorem scHeights : FnScope ["many", "row", "i"] ["many"] (defScope sHeights) := ⟨rfl, rfl, rfl, by decide +kernel, rfl, by decide +kernel, by decide +kernel⟩
theorem scFlags : FnScope ["many", "row", "i"] ["many"] (defScope sFlags) := ⟨rfl, rfl, rfl, by decide +kernel, rfl, by decide +kernel, by decide +kernel⟩
theorem scBinomial : FnScope ["whole", "many", "row", "i"] ["whole", "many"] (defScope sBinomial) := ⟨rfl, rfl, rfl, by decide +kernel, rfl, by decide +kernel, by decide +kernel⟩
theorem ok_heights (F : Fun K "heights" "heights" sHeights f fd) (gX : ∃ t, mg "MAX_FLAT" = some (.int 24 t)) (W : At K mg "require_within" sWithin ["value", "low", "high"] fW fdW) (GW : FnOk P w K mg base (L2.CX P w) 5 fW fdW ["value", "low", "high"] (spWithin K CN)) :
    FnOk P w K mg base (L2.CX P w) 6 f fd ["many"] (sp24 K CN) := by
  obtain ⟨tX, gX⟩ := gX
  refine F.okX scHeights (fun vs H Q E h => ?_) (fun cdv A outer s H vs Q E hr h => ?_)
  · obtain ⟨x, rfl, _⟩ := h
    rfl
  · obtain ⟨x, rfl, hx, k⟩ := h
    refine ⟨_, pss_cons (ps_expr (pe_call GW hr (by rfl) W.g W.F.kp W.b .nil (passes_call (takes_of rfl rfl rfl rfl) (fun _ _ _ _ h => h)) (pa_cons (pv 0) (pa_cons pe_int (pa_cons (pe_glob (v := .int 24) (by rfl) gX ⟨_, rfl⟩) pa_nil))))) pss_never, ?_⟩
    walk_at "rd"
    exact ⟨x, 0, 24, false, rfl, by decide +kernel, by decide +kernel, hx, fun z => Bool.noConfusion z, fun _ d hd => k d hd⟩
theorem ok_flags (F : Fun K "flags" "flags" sFlags f fd) (gX : ∃ t, mg "MAX_FLAT" = some (.int 24 t)) (W : At K mg "require_within" sWithin ["value", "low", "high"] fW fdW) (GW : FnOk P w K mg base (L2.CX P w) 5 fW fdW ["value", "low", "high"] (spWithin K CN)) :
    FnOk P w K mg base (L2.CX P w) 6 f fd ["many"] (sp24 K CN) := by
  obtain ⟨tX, gX⟩ := gX
  refine F.okX scFlags (fun vs H Q E h => ?_) (fun cdv A outer s H vs Q E hr h => ?_)
  · obtain ⟨x, rfl, _⟩ := h
    rfl
  · obtain ⟨x, rfl, hx, k⟩ := h
    refine ⟨_, pss_cons (ps_expr (pe_call GW hr (by rfl) W.g W.F.kp W.b .nil (passes_call (takes_of rfl rfl rfl rfl) (fun _ _ _ _ h => h)) (pa_cons (pv 0) (pa_cons pe_int (pa_cons (pe_glob (v := .int 24) (by rfl) gX ⟨_, rfl⟩) pa_nil))))) pss_never, ?_⟩
    walk_at "rd"
    exact ⟨x, 0, 24, false, rfl, by decide +kernel, by decide +kernel, hx, fun z => Bool.noConfusion z, fun _ d hd => k d hd⟩
/-! ### binomial -/
theorem gap_one : ∀ i, i < 24 → overL (gapR [1] (i + 1)) (i + 1) ((gapR [1] (i + 1)).length - (i + 1)) = [1] ∧ (gapR [1] (i + 1)).length ≤ 50000 := by decide +kernel
def spBinomial (K : PySem.W.Frag) (C CN : Addr) : Sp := fun vs H Q E => ∃ (x y : V) (b c : Bool), vs = [x, y] ∧ WithB K H x 0 24 b ∧ (b = true → WithB K H y 0 24 c) ∧
  (b = false → ∀ d, H d = none → E (.ref CN) (some d) (upd H d (.xd [(("value" : Str), x)]))) ∧
  (b = true → c = false → ∀ d, H d = none → E (.ref CN) (some d) (upd H d (.xd [(("value" : Str), y)]))) ∧
  (b = true → c = true → x = .int 24 ∧ y = .int 24 ∧ ∀ H' p u, Ext H H' → PolyU K C H' p u [1] → Q (.ref p) H')
theorem g_for2 {ta : TA} {g : TG} {tb : TS} {D : Ends} {σ : L2.St} {H : Hp} (k : ta σ H fun vs H1 => ∃ i j : Int, vs = [.int i, .int j] ∧ (-(2 ^ 62) ≤ i ∧ i < 2 ^ 62 ∧ -(2 ^ 62) ≤ j ∧ j < 2 ^ 62) ∧ ∃ W : Nat → Nat → L2.St → Hp → Prop, (∃ m, W 0 m σ H1) ∧ ∀ i' m σ H, W i' m σ H →
  ((Itr i (j - i).toNat).stop i' H ∧ D.nx σ H) ∨ ((Itr i (j - i).toNat).go i' H ∧ ∃ N : L2.St → Hp → Prop, (∀ σ' H', N σ' H' → ∃ m', m' < m ∧ W (i' + 1) m' σ' H') ∧ ∀ x H', (Itr i (j - i).toNat).yld i' H x H' → g x σ H' fun σ2 H2 => tb { D with nx := N, ct := N, bk := D.nx } σ2 H2)) :
    tFor (iRng2 ta) g tb D σ H := k
def PvB (K : PySem.W.Frag) (H0 : Hp) : L2.St → Hp → Prop := fun σ H' => ∃ (r : Addr) (z : Option V), σ = [some (.int 24), some (.int 24), some (.ref r), z] ∧ Ext H0 H' ∧ SqL K H' r ([(1 : Int)].map V.int)
theorem ok_binomial {fP fG fO : Addr} {fdP fdG fdO : FuncData} (F : Fun K "binomial" "binomial" sBinomial f fd) (hrg : mg "range" = none) (gX : ∃ t, mg "MAX_FLAT" = some (.int 24 t)) (W : At K mg "require_within" sWithin ["value", "low", "high"] fW fdW) (GW : FnOk P w K mg base (L2.CX P w) 5 fW fdW ["value", "low", "high"] (spWithin K CN))
    (AP : At K mg "poly_of" sPolyOf ["row"] fP fdP) (GP : FnOk P w K mg base CX0 6 fP fdP ["row"] (spPolyOf K C (SqL K))) (AG : At K mg "times_gap" sTimesGap ["row", "power"] fG fdG) (GG : FnOk P w K mg base CX0 2 fG fdG ["row", "power"] (spTimesGap K))
    (AO : At K mg "over_gap" sOverGap ["row", "power"] fO fdO) (GO : FnOk P w K mg base CX0 1 fO fdO ["row", "power"] (spOverGap K)) : FnOk P w K mg base (L2.CX P w) 7 f fd ["whole", "many"] (spBinomial K C CN) := by
  obtain ⟨tX, gX⟩ := gX
  refine F.okX scBinomial (fun vs H Q E h => ?_) (fun cdv A outer s H vs Q E hr h => ?_)
  · obtain ⟨x, y, b, c, rfl, _⟩ := h
    rfl
  · obtain ⟨x, y, b, c, rfl, hx, hy, k1, k2, k3⟩ := h
    refine ⟨_, pss_cons (ps_expr (pe_call GW (hr.mono (by decide)) (by rfl) W.g W.F.kp W.b .nil (passes_call (takes_of rfl rfl rfl rfl) (fun _ _ _ _ h => h)) (pa_cons (pv 0) (pa_cons pe_int (pa_cons (pe_glob (v := .int 24) (by rfl) gX ⟨_, rfl⟩) pa_nil)))))
      (pss_cons (ps_expr (pe_call GW (hr.mono (by decide)) (by rfl) W.g W.F.kp W.b .nil (passes_call (takes_of rfl rfl rfl rfl) (fun _ _ _ _ h => h)) (pa_cons (pv 1) (pa_cons pe_int (pa_cons (pe_glob (v := .int 24) (by rfl) gX ⟨_, rfl⟩) pa_nil)))))
      (pss_cons (ps_if (pt_cmpR op_gt (pv 1) (pv 0) (nomark _)) pss_never pss_nil)
      (pss_cons (ps_set (i := 2) scBinomial.nd rfl (Or.inl rfl) (pe_lst (pa_cons pe_int pa_nil)))
      (pss_cons (ps_for (passes_of rfl) rfl (pi_range2 (by rfl) hrg (pa_cons pe_int (pa_cons (pe_op op_add (pv 1) pe_int) pa_nil))) (pg_name (i := 3) scBinomial.nd rfl (Or.inl rfl))
          (pss_one (ps_set (i := 2) scBinomial.nd rfl (Or.inl rfl) (pe_call GO (hr.mono (by decide)) (by rfl) AO.g AO.F.kp AO.b .nil pass0 (pa_cons (pe_call GG (hr.mono (by decide)) (by rfl) AG.g AG.F.kp AG.b .nil pass0 (pa_cons (pv 2) (pa_cons (pe_op op_add (pe_op op_sub (pv 0) (pv 1)) (pv 3)) pa_nil))) (pa_cons (pv 3) pa_nil))))))
        (pss_one (ps_ret (pe_call GP hr (by rfl) AP.g AP.F.kp AP.b .nil pass0 (pa_cons (pv 2) pa_nil)))))))), ?_⟩
    walk_at "rd"
    refine ⟨x, 0, 24, b, rfl, by decide +kernel, by decide +kernel, hx, fun hb => ?_, fun hb d hd => k1 hb d hd⟩
    walk_at "rd"
    refine ⟨y, 0, 24, c, rfl, by decide +kernel, by decide +kernel, hy hb, fun hc => ?_, fun hc d hd => k2 hb hc d hd⟩
    obtain ⟨rfl, rfl, k⟩ := k3 hb hc
    walk_at "rd"
    refine ⟨by show 1 ≤ sizeLine; decide, fun r0 hr0 => ?_⟩
    have e0 := Ext.new (o := HO.lst [V.int 1]) hr0
    walk_at "rd"
    refine g_for2 ?_
    walk_at "rd"
    refine ⟨by decide, ?_⟩
    refine for_range (fun _ => PvB K H) ⟨r0, _, rfl, e0, SqL.of upd_same⟩ ?_ ?_
    · rintro i σ H2 hi ⟨r, z, rfl, e2, hr2⟩
      have hi' : i < 24 := hi
      have e1 : (1 : Int) + (i : Int) = ((i + 1 : Nat) : Int) := by omega
      rw [e1]
      obtain ⟨g1, g2⟩ := gap_one i hi'
      walk_at "rd"
      have e3 : (24 : Int) - 24 + ((i + 1 : Nat) : Int) = ((i + 1 : Nat) : Int) := by omega
      rw [e3]
      refine ⟨true, r, [1], i + 1, rfl, hr2, by decide, by omega, fun H3 u e3 _ hu => ?_⟩
      walk_at "rd"
      refine ⟨u, gapR [1] (i + 1), i + 1, rfl, SqL.of hu, g2, by omega, by omega, fun H4 v e4 hv => ?_⟩
      rw [g1] at hv
      walk_at "rd"
      exact ⟨v, _, rfl, Ext.trans e2 (Ext.trans e3 e4), SqL.of hv⟩
    · rintro σ H2 ⟨r, z, rfl, e2, hr2⟩
      walk_at "rd"
      exact ⟨r, [1], rfl, hr2, by decide, fun H3 p u e3 hp => k H3 p u (Ext.trans e2 e3) hp⟩
end
end K0

set_option Elab.async false
set_option linter.all false
set_option maxRecDepth 100000
set_option maxHeartbeats 4000000
/-! A lambda handed to the def that tells its errors. -/
namespace Gd
open PySem PySem.Spec PyProof.Rows L2
/-- isinstance(e, c), e the exception at a of the class D, with a dict of fields or without -/
def rIsX (K : PySem.W.Frag) (D a : Addr) (cls : Value) (d : Option Addr) : List V → Hp → VK → Prop := fun xs H Q => cls = .ref D ∧
  ((d = none ∧ rIsE K D a xs H Q) ∨ ∃ dd, d = some dd ∧ rIsF K D a dd xs H Q)
theorem call_isX {X : Cx} {a D : Addr} {cls : Value} {d : Option Addr} {oe : Obj} {pn : List (Addr × Obj)} (C : ExcC X.K D) (hz : Zc cls d oe) (hf : ∃ vs, oe.data = .fields vs) : CallR (X.suite a ((a, oe) :: pn)) (.builtin "isinstance") (rIsX X.K D a cls d) := by
  intro pins s σ H args us Q I r h
  obtain ⟨rfl, ⟨rfl, h⟩ | ⟨dd, rfl, h⟩⟩ := h
  · exact call_isE C hz hf pins s σ H args us Q I r h
  · exact call_isF C hz hf pins s σ H args us Q I r h
end Gd
namespace K0
open PySem PySem.Spec PyProof.Rows L2 Gd
open LamX (Tabs TabB ExtN GivesTo CodeO tLam)
local macro_rules | `(tactic| walk_at "rd1") => `(tactic| first | with_reducible refine g_ret ?_ | with_reducible refine g_retN ?_ | with_reducible refine g_seq ?_ | with_reducible refine g_next ?_ | with_reducible refine g_drop ?_ | with_reducible refine g_asg ?_ | with_reducible refine g_name ?_ | with_reducible refine g_ifs ?_ | with_reducible refine g_test ?_ | with_reducible refine g_tb ?_ | with_reducible refine g_and ?_ | with_reducible refine g_or ?_ | with_reducible refine g_not ?_ | with_reducible refine g_andV ?_ | with_reducible refine g_orV ?_ | with_reducible refine g_notV ?_ | with_reducible refine g_if ?_ | with_reducible refine g_op ?_ | with_reducible refine g_un ?_ | with_reducible refine g_cb ?_ | with_reducible refine g_nil ?_ | with_reducible refine g_cons ?_ | with_reducible refine g_call ?_ | with_reducible refine g_callS ?_ | with_reducible refine g_tup ?_ | with_reducible refine g_lst ?_ | with_reducible refine g_isN ?_ | with_reducible refine g_sl ?_ | with_reducible refine g_nopart ?_ | with_reducible refine g_part ?_ | with_reducible refine g_chain ?_ | with_reducible refine g_fld ?_ | with_reducible refine g_prop ?_ | with_reducible refine g_bm ?_ | with_reducible refine g_bm0 ?_ | with_reducible refine g_c ?_ | with_reducible refine g_sub ?_ | with_reducible refine g_int1 ?_ | with_reducible refine g_int2 ?_ | with_reducible refine g_yes ?_ | with_reducible refine g_sfld ?_ | with_reducible refine g_NT ?_ | with_reducible refine g_NF ?_ | with_reducible refine iteT ?_ | with_reducible refine iteF ?_ | ((with_reducible refine' g_aug ?hv ?_); (case hv => exact rfl)) | ((with_reducible refine' g_var ?hv ?_); (case hv => exact rfl)) | with_reducible refine g_I0 ?_ | with_reducible refine g_U ?_ | with_reducible refine g_eqI ?_ | with_reducible refine g_blV ?_ | with_reducible refine g_inV ?_)
local macro_rules | `(tactic| walk_at "rd") => `(tactic| repeat walk_at "rd1")
abbrev sTold : Stmt := top 50
theorem scTold : FnScope ["_law_call", "e"] ["_law_call"] (defScope sTold) := ⟨rfl, rfl, rfl, by decide +kernel, rfl, by decide +kernel, by decide +kernel⟩
/-- told of a call: what it is refused with, or that it is fine -/
def TTold (CP CN CT : Addr) : (XK → Hp → VK → Prop) → Hp → VK → Prop := fun tl H Q =>
  tl (fun cls d H' => (cls = .ref CP ∧ d = none ∧ Q (.str "poly") H') ∨
      (cls = .ref CN ∧ ∃ dd r, d = some dd ∧ H' dd = some (.xd [(("value" : Str), r)]) ∧ ∀ t, H' t = none → Q (.ref t) (upd H' t (.tup [.str "number", r]))) ∨
      (cls = .ref CT ∧ ∃ dd i, d = some dd ∧ H' dd = some (.xd [(("limit" : Str), .int i)]) ∧ ∀ t, H' t = none → Q (.ref t) (upd H' t (.tup [.str "many", .int i]))))
    H (fun _ H1 => Q (.str "fine") H1)
theorem takes_len {X : Cx} {W : WX} (t : Takes X W) : Takes X (fun cls d σ H => σ.length = X.N.length → W cls d σ H) := fun u s' ⟨a, B, sI, pins, σ, H, cls, d, e, I, nb, up, sky, na, os, ag, w⟩ =>
  t u s' ⟨a, B, sI, pins, σ, H, cls, d, e, I, nb, up, sky, na, os, ag, w I.len⟩
/-- the def that tells errors, and what its clauses ask -/
structure Told (K : PySem.W.Frag) (mg : Str → Option Value) (CK CP CN CT : Addr) : Prop where
  at_ : ∃ (f : Addr) (fd : FuncData), At K mg "_law_told" sTold ["_law_call"] f fd
  np : OwnX K mg "InvalidPoly" CP
  n : ∃ fN, PySem.XInvalidNumber.InvalidNumberTxt K mg CN fN
  m : ∃ fT, PySem.XTooMany.TooManyTxt K mg CT fT
  nNP : PySem.W.exmOne K (.ref CN) (.ref CP) = some false
  nTP : PySem.W.exmOne K (.ref CT) (.ref CP) = some false
  nTN : PySem.W.exmOne K (.ref CT) (.ref CN) = some false
  eP : ExcC K CP
  eN : ExcC K CN
  eT : ExcC K CT
  gK : mg "KindsError" = some (.ref CK)
  k1 : PySem.W.kitOne K (.ref CP) (.ref CK) = some true
  k2 : PySem.W.kitOne K (.ref CP) (.type "ValueError") = some true
  k3 : PySem.W.kitOne K (.ref CN) (.type "IndexError") = some true
  k4 : PySem.W.kitOne K (.ref CN) (.type "ValueError") = some false
  k5 : PySem.W.kitOne K (.ref CT) (.type "OverflowError") = some true
  zi : mg "isinstance" = none
  zv : mg "ValueError" = none
  zx : mg "IndexError" = none
  zo : mg "OverflowError" = none
theorem ref_gives {X : Cx} {CK CP CN CT fN fT g : Addr} {cdg : Value} {q : Str} (R : Told X.K X.mg CK CP CN CT) (N : PySem.XInvalidNumber.InvalidNumberTxt X.K X.mg CN fN) (M : PySem.XTooMany.TooManyTxt X.K X.mg CT fT) :
    GivesTo X ["_law_call", "e"] "_law_told" (defScope sTold) g cdg (defBody sTold) "_law_call" q (TTold CP CN CT) := by
  intro f c' s H Q tl act hc h
  refine ⟨_, pss_cons (ps_try_asAll (X := (cxOf C8.CX0 X.prog X.w X.K X.mg X.base ["_law_call", "e"] "_law_told" (defScope sTold) g cdg X.A X.stack s H C8.E0).nox) (i := 1)
      (tb := fun W D σ H => ∃ Ech : XK, (∀ cls d σ' H', σ'.length = 2 → Ech cls d H' → W cls d σ' H') ∧ σ[0]? = some (some (.ref f)) ∧ H c' = some (CodeO c' q) ∧ tl Ech H fun _ H1 => D.nx σ H1)
      (Wo := fun _ _ _ _ => False) rfl rfl scTold.nd rfl rfl L2.takes0 (fun W pn xe tk _ => ?_)
      (AsOk.cons (c := .ref CP) ⟨rfl, by decide, Or.inl R.np.gC⟩ (fun a oe cls d pn hz hf => pss_one (ps_ret (pe_ifExp (PW.pt (pw_and (pt_val (pe_callB (call_isX R.eP hz hf) (by rfl) R.zi (by decide +kernel) (pa_cons (pv 1) (pa_cons (pe_glob (v := .ref CK) (by rfl) R.gK rfl) pa_nil))))
            (pw_and1 (pt_val (pe_callB (call_isX R.eP hz hf) (by rfl) R.zi (by decide +kernel) (pa_cons (pv 1) (pa_cons (pe_bltn (v := .ty "ValueError") (by rfl) R.zv (by decide +kernel) rfl) pa_nil))))))) pe_str pe_str)))
        (AsOk.cons (c := .ref CN) ⟨rfl, by decide, Or.inl N.gC⟩ (fun a oe cls d pn hz hf => pss_one (ps_ret (pe_ifExp (PW.pt (pw_and (pt_val (pe_callB (call_isX R.eN hz hf) (by rfl) R.zi (by decide +kernel) (pa_cons (pv 1) (pa_cons (pe_bltn (v := .ty "IndexError") (by rfl) R.zx (by decide +kernel) rfl) pa_nil))))
              (pw_and1 (pt_not (pt_val (pe_callB (call_isX R.eN hz hf) (by rfl) R.zi (by decide +kernel) (pa_cons (pv 1) (pa_cons (pe_bltn (v := .ty "ValueError") (by rfl) R.zv (by decide +kernel) rfl) pa_nil)))))))) (pe_tup (pa_cons pe_str (pa_cons (pe_byInvalidNumber N hz hf (pv 1)) pa_nil))) pe_str)))
          (AsOk.cons (c := .ref CT) ⟨rfl, by decide, Or.inl M.gC⟩ (fun a oe cls d pn hz hf => pss_one (ps_ret (pe_ifExp (pt_val (pe_callB (call_isX R.eT hz hf) (by rfl) R.zi (by decide +kernel) (pa_cons (pv 1) (pa_cons (pe_bltn (v := .ty "OverflowError") (by rfl) R.zo (by decide +kernel) rfl) pa_nil))))
              (pe_tup (pa_cons pe_str (pa_cons (pe_byTooMany M hz hf (pv 1)) pa_nil))) pe_str))) AsOk.nil))))
      (pss_one (ps_ret pe_str)), ?_⟩
  · constructor
    intro pins s' σ H' D I h'
    obtain ⟨Ech, hW, h1, h2, h3⟩ := h'
    exact (pss_one (ps_expr (act _ pn xe Ech _ _ (takes_len tk) fun cls d σ' H' z l => hW cls d σ' H' l z))).run pins s' σ H' D I ⟨h1, h2, h3⟩
  · refine ⟨_, fun cls d σ' H' l k => ?_, rfl, hc, h⟩
    obtain ⟨x, y, rfl⟩ : ∃ x y, σ' = [x, y] := by
      match σ', l with
      | [x, y], _ => exact ⟨x, y, rfl⟩
    rcases k with ⟨rfl, rfl, k⟩ | ⟨rfl, dd, r, rfl, e, k⟩ | ⟨rfl, dd, i, rfl, e, k⟩
    · refine ⟨true, R.np.te, fun _ a _ => ?_, fun z => Bool.noConfusion z⟩
      walk_at "rd"
      refine ⟨rfl, .inl ⟨rfl, _, _, true, rfl, fun u z => z, R.k1, ?_⟩⟩
      walk_at "rd"
      refine ⟨rfl, .inl ⟨rfl, _, _, true, rfl, fun u z => z, R.k2, ?_⟩⟩
      walk_at "rd"
      exact k
    · refine ⟨false, R.nNP, fun z => Bool.noConfusion z, fun _ => ⟨true, N.te, fun _ a _ => ?_, fun z => Bool.noConfusion z⟩⟩
      walk_at "rd"
      refine ⟨rfl, .inr ⟨dd, rfl, _, _, true, _, rfl, fun u z => z, e, R.k3, ?_⟩⟩
      walk_at "rd"
      refine ⟨rfl, .inr ⟨dd, rfl, _, _, false, _, rfl, fun u z => z, e, R.k4, ?_⟩⟩
      walk_at "rd"
      refine ⟨_, rfl, rfl, rfl, dd, r, rfl, e, ?_⟩
      walk_at "rd"
      exact ⟨by show 2 ≤ sizeLine; decide, fun t ht => k t ht⟩
    · refine ⟨false, R.nTP, fun z => Bool.noConfusion z, fun _ => ⟨false, R.nTN, fun z => Bool.noConfusion z, fun _ => ⟨true, M.te, fun _ a _ => ?_, fun z => Bool.noConfusion z⟩⟩⟩
      walk_at "rd"
      refine ⟨rfl, .inr ⟨dd, rfl, _, _, true, _, rfl, fun u z => z, e, R.k5, ?_⟩⟩
      walk_at "rd"
      refine ⟨_, rfl, rfl, rfl, dd, _, rfl, e, ?_⟩
      walk_at "rd"
      exact ⟨by show 2 ≤ sizeLine; decide, fun t ht => k t ht⟩
section
variable {CK CP CN CT : Addr}
/-- _law_told(lambda: body) -/
theorem pe_told {X : Cx} {T : List (Addr × Str)} {c Pt : Addr} {params : Arguments} {body : Expr} {scope : Scope} {t : XK → TE} {p lpos pos : Pos} {k : Nat} (hgl : Gl X "_law_told") (R : Told X.K X.mg CK CP CN CT)
    (TB : TabB X.base X.mg c Pt) (hcode : X.env.code = .ref c) (hmT : (Pt, X.env.qual ++ "<lambda>") ∈ T) (hu : ∀ p ∈ T, p.1 = Pt → p.2 = X.env.qual ++ "<lambda>") (hr : Room (k + 3) X.A) (L : LamX.LamS X.env.scope scope) (hdef : defaultsOf params X.env = ([], []))
    (hbind : ∀ (q : Str) (cl : List (Str × Addr)) (pm cv ctv : Value), bindArgs (PySem.W.kla_fn "<lambda>" q params body scope cl pm cv ctv) ⟨[], []⟩ = pure [])
    (hbody : ∀ (A : Around) (outer : List Env) (s : Shared) (H : Hp) (E : XK) (f c' : Addr), Room (k + 1) (A.deeper (LamX.lamEnv X scope s.heap.objs.size f c')) → PE (LamX.lamCx X A outer s H E scope f c') body (t E)) :
    PE X (.Call (.Name "_law_told" p) [.Lambda params body scope lpos] [] pos) (tLam T (TTold CP CN CT) t) := by
  obtain ⟨g, fdg, Rf⟩ := R.at_
  obtain ⟨fN, RN⟩ := R.n
  obtain ⟨fT, RM⟩ := R.m
  have hkp := Rf.F.kp
  have hbi := Rf.b
  obtain ⟨oc, od, kV, doc, pm, an, cdv, ct, osl, rfl, lk, hcd⟩ := Rf.F.ex
  exact LamX.pe_lamcall (k := k + 1) (Ng := ["_law_call", "e"]) hgl Rf.g hkp lk hcd hbi scTold rfl (Or.inl rfl) (ref_gives R RN RM) TB hcode hmT hu hr L hdef hbind hbody
theorem g_told {tl : XK → Hp → VK → Prop} {H : Hp} {Q : VK} (k : tl (fun cls d H' => (cls = .ref CP ∧ d = none ∧ Q (.str "poly") H') ∨
      (cls = .ref CN ∧ ∃ dd r, d = some dd ∧ H' dd = some (.xd [(("value" : Str), r)]) ∧ ∀ t, H' t = none → Q (.ref t) (upd H' t (.tup [.str "number", r]))) ∨
      (cls = .ref CT ∧ ∃ dd i, d = some dd ∧ H' dd = some (.xd [(("limit" : Str), .int i)]) ∧ ∀ t, H' t = none → Q (.ref t) (upd H' t (.tup [.str "many", .int i]))))
    H (fun _ H1 => Q (.str "fine") H1)) : TTold CP CN CT tl H Q := k
theorem g_lam {T : List (Addr × Str)} {TT : (XK → Hp → VK → Prop) → Hp → VK → Prop} {t : XK → TE} {σ : L2.St} {H : Hp} {Q : VK} (hT : Tabs T H) (k : ∀ H1, ExtN H H1 → Tabs T H1 → TT (fun E H' Q' => t E σ H' Q') H1 Q) : tLam T TT t σ H Q := ⟨hT, k⟩
end
end K0

set_option Elab.async false
set_option linter.all false
set_option maxRecDepth 100000
set_option maxHeartbeats 4000000
/-! What the law's defs lean on, in one word each; rows that fit. -/
namespace K0
open PySem PySem.Spec PyProof.Rows L2 Gd
local macro_rules | `(tactic| walk_at "rd1") => `(tactic| first | with_reducible refine g_ret ?_ | with_reducible refine g_retN ?_ | with_reducible refine g_seq ?_ | with_reducible refine g_next ?_ | with_reducible refine g_drop ?_ | with_reducible refine g_asg ?_ | with_reducible refine g_name ?_ | with_reducible refine g_ifs ?_ | with_reducible refine g_test ?_ | with_reducible refine g_tb ?_ | with_reducible refine g_and ?_ | with_reducible refine g_or ?_ | with_reducible refine g_not ?_ | with_reducible refine g_andV ?_ | with_reducible refine g_orV ?_ | with_reducible refine g_notV ?_ | with_reducible refine g_if ?_ | with_reducible refine g_op ?_ | with_reducible refine g_un ?_ | with_reducible refine g_cb ?_ | with_reducible refine g_nil ?_ | with_reducible refine g_cons ?_ | with_reducible refine g_call ?_ | with_reducible refine g_callS ?_ | with_reducible refine g_tup ?_ | with_reducible refine g_lst ?_ | with_reducible refine g_isN ?_ | with_reducible refine g_sl ?_ | with_reducible refine g_nopart ?_ | with_reducible refine g_part ?_ | with_reducible refine g_chain ?_ | with_reducible refine g_fld ?_ | with_reducible refine g_prop ?_ | with_reducible refine g_bm ?_ | with_reducible refine g_bm0 ?_ | with_reducible refine g_c ?_ | with_reducible refine g_sub ?_ | with_reducible refine g_int1 ?_ | with_reducible refine g_int2 ?_ | with_reducible refine g_yes ?_ | with_reducible refine g_sfld ?_ | with_reducible refine g_NT ?_ | with_reducible refine g_NF ?_ | with_reducible refine iteT ?_ | with_reducible refine iteF ?_ | ((with_reducible refine' g_aug ?hv ?_); (case hv => exact rfl)) | ((with_reducible refine' g_var ?hv ?_); (case hv => exact rfl)) | with_reducible refine g_I0 ?_ | with_reducible refine g_U ?_ | with_reducible refine g_eqI ?_ | with_reducible refine g_blV ?_ | with_reducible refine g_inV ?_)
local macro_rules | `(tactic| walk_at "rd") => `(tactic| repeat walk_at "rd1")
/-! ### defs and methods, their places hidden -/
structure Def1 (P : Program) (w : World) (K : PySem.W.Frag) (mg : Str → Option Value) (base : Heap) (CX : CXT) (k : Nat) (name : Str) (ps : List Str) (sp : Sp) : Prop where
  ex : ∃ (f : Addr) (fd : FuncData), mg name = some (.ref f) ∧ PySem.W.keepIn K (.ref f) = true ∧ FnOk P w K mg base CX k f fd ps sp ∧ Binds K fd ps []
structure Def1G (P : Program) (w : World) (K : PySem.W.Frag) (mg : Str → Option Value) (base : Heap) (CX : CXT) (k : Nat) (name : Str) (ps : List Str) (sp : Sp) : Prop where
  ex : ∃ (f : Addr) (fd : FuncData), mg name = some (.ref f) ∧ PySem.W.keepIn K (.ref f) = true ∧ FnG P w K mg base CX k f fd ps sp ∧ Binds K fd ps []
structure Bin1 (P : Program) (w : World) (K : PySem.W.Frag) (mg : Str → Option Value) (base : Heap) (C : Addr) (m r : Str) (sp : Sp) : Prop where
  ex : ∃ (f : Addr) (fd : FuncData), BinC K C m r f ∧ FnOk P w K mg base CX0 7 f fd ["self", "other"] sp ∧ Binds K fd ["self", "other"] []
structure Met1 (P : Program) (w : World) (K : PySem.W.Frag) (mg : Str → Option Value) (base : Heap) (CX : CXT) (k : Nat) (C : Addr) (m : Str) (ps : List Str) (sp : Sp) : Prop where
  ex : ∃ (f : Addr) (fd : FuncData), Meth K C m f ∧ PySem.W.fnIn K f = true ∧ FnOk P w K mg base CX k f fd ps sp ∧ Binds K fd ps []
structure Pro1 (P : Program) (w : World) (K : PySem.W.Frag) (mg : Str → Option Value) (base : Heap) (C : Addr) (x : Str) (sp : Sp) : Prop where
  ex : ∃ (p f : Addr) (fd : FuncData), PropOf K C x p f ∧ FnOk P w K mg base CX0 1 f fd ["self"] sp ∧ Binds K fd ["self"] []
structure Ini1 (P : Program) (w : World) (K : PySem.W.Frag) (mg : Str → Option Value) (base : Heap) (C t0 : Addr) (sp : Sp) : Prop where
  ex : ∃ (f : Addr) (fd : FuncData) (ds : List Value), Mk K C f ∧ FnOk P w K mg base CX0 4 f fd ["self", "factors"] sp ∧ Binds K fd ["self", "factors"] [] ∧ Vals [V.ref t0] ds ∧ Binds K fd ["self", "factors"] ds
abbrev X0 : XK := fun _ _ _ => False
section
variable {X : Cx} {C t0 : Addr} {k j : Nat} {x m r : Str} {ps : List Str} {sp : Sp} {e a : Expr} {es : List Expr} {t : TA} {ta tb : TE} {p pos apos : Pos}
theorem pe_def (D : Def1 X.prog X.w X.K X.mg X.base CX0 k x ps sp) (hr : Room j X.A) (hj : k ≤ j) (hgl : Gl X x) (ha : PA X (e :: es) t) (hdb : (x == ("__debug__" : Str)) = false := by decide)
    (he : starEach (e :: es) X.env = (false, eval e X.env) :: starEach es X.env := by rfl) (hpl : (backTo pos (starEach es X.env)).any (·.1) = false := by rfl) : PE X (.Call (.Name x p) (e :: es) [] pos) (tCall sp [] X0 t) := by
  obtain ⟨f, fd, hm, hk, F, hb⟩ := D.ex
  exact pe_call F (hr.mono hj) hgl hm hk hb .nil pass0 ha hdb he hpl
theorem pe_defG (hg : NoG X.A) (D : Def1G X.prog X.w X.K X.mg X.base CX0 k x ps sp) (hr : Room j X.A) (hj : k ≤ j) (hgl : Gl X x) (ha : PA X (e :: es) t) (hdb : (x == ("__debug__" : Str)) = false := by decide)
    (he : starEach (e :: es) X.env = (false, eval e X.env) :: starEach es X.env := by rfl) (hpl : (backTo pos (starEach es X.env)).any (·.1) = false := by rfl) : PE X (.Call (.Name x p) (e :: es) [] pos) (tCall sp [] X0 t) := by
  obtain ⟨f, fd, hm, hk, F, hb⟩ := D.ex
  exact pe_callG hg F (hr.mono hj) hgl hm hk hb .nil pass0 ha hdb he hpl
theorem op_add1 (D : Bin1 X.prog X.w X.K X.mg X.base C "__add__" "__radd__" sp) (hr : Room j X.A) (hj : 8 ≤ j) : OpR X (binaryOp .Add) (rBinO C sp X0) := by
  obtain ⟨f, fd, B, F, hb⟩ := D.ex
  exact op_addO B F (hr.mono hj) hb (fun _ => quiet0)
theorem op_sub1 (D : Bin1 X.prog X.w X.K X.mg X.base C "__sub__" "__rsub__" sp) (hr : Room j X.A) (hj : 8 ≤ j) : OpR X (binaryOp .Sub) (rBinO C sp X0) := by
  obtain ⟨f, fd, B, F, hb⟩ := D.ex
  exact op_subO B F (hr.mono hj) hb (fun _ => quiet0)
theorem op_mul1 (D : Bin1 X.prog X.w X.K X.mg X.base C "__mul__" "__rmul__" sp) (hr : Room j X.A) (hj : 8 ≤ j) : OpR X (binaryOp .Mult) (rBinO C sp X0) := by
  obtain ⟨f, fd, B, F, hb⟩ := D.ex
  exact op_mulO B F (hr.mono hj) hb (fun _ => quiet0)
theorem un_neg1 (D : Met1 X.prog X.w X.K X.mg X.base CX0 7 C "__neg__" ["self"] sp) (hr : Room j X.A) (hj : 8 ≤ j) : UnR X (unaryOp .USub) (rNegO C sp X0) := by
  obtain ⟨f, fd, M, _, F, hb⟩ := D.ex
  exact un_negO M F (hr.mono hj) hb (fun _ => quiet0)
theorem op_eq1 (D : Met1 X.prog X.w X.K X.mg X.base CX0 1 C "__eq__" ["self", "other"] sp) (hr : Room j X.A) (hj : 2 ≤ j) : OpR X (compareOp .Eq) (rCmpO X.K C sp X0) := by
  obtain ⟨f, fd, M, _, F, hb⟩ := D.ex
  exact op_eqO M F (hr.mono hj) hb (fun _ => quiet0)
theorem op_ne1 (hn : NeC X.K C) (D : Met1 X.prog X.w X.K X.mg X.base CX0 1 C "__eq__" ["self", "other"] sp) (hr : Room j X.A) (hj : 2 ≤ j) : OpR X (compareOp .NotEq) (rNeO X.K C sp X0) := by
  obtain ⟨f, fd, M, _, F, hb⟩ := D.ex
  exact op_neO hn M F (hr.mono hj) hb (fun _ => quiet0)
theorem call_bool1 (D : Met1 X.prog X.w X.K X.mg X.base CX0 1 C "__bool__" ["self"] sp) (hr : Room j X.A) (hj : 3 ≤ j) : CallR X (.type "bool") (rBoolO C sp X0) := by
  obtain ⟨f, fd, M, _, F, hb⟩ := D.ex
  exact call_boolO M F (hr.mono hj) hb (fun _ => quiet0)
theorem pe_pro1 (c : Cls X.K C) (D : Pro1 X.prog X.w X.K X.mg X.base C x sp) (hr : Room j X.A) (hj : 2 ≤ j) (ha : PE X e ta) (hab : attributeBase e x X.env (eval e X.env) = eval e X.env := by rfl) : PE X (.Attribute e x pos) (tProp C sp [] X0 ta) := by
  obtain ⟨p, f, fd, hp, F, hb⟩ := D.ex
  exact pe_prop ha c hp F (hr.mono hj) hb .nil pass0 hab
theorem pe_mk1 (D : Ini1 X.prog X.w X.K X.mg X.base C t0 sp) (hr : Room j X.A) (hj : 5 ≤ j) (hgl : Gl X x) (hm : X.mg x = some (.ref C)) (ha : PA X (e :: es) t) (hdb : (x == ("__debug__" : Str)) = false := by decide)
    (he : starEach (e :: es) X.env = (false, eval e X.env) :: starEach es X.env := by rfl) (hpl : (backTo pos (starEach es X.env)).any (·.1) = false := by rfl) : PE X (.Call (.Name x p) (e :: es) [] pos) (tMake C sp [] X0 t) := by
  obtain ⟨f, fd, ds, M, F, hb, _, _⟩ := D.ex
  exact pe_make M F (hr.mono hj) hgl hm hb .nil pass0 ha hdb he hpl
theorem pe_mk0 (D : Ini1 X.prog X.w X.K X.mg X.base C t0 sp) (hr : Room j X.A) (hj : 5 ≤ j) (hgl : Gl X x) (hm : X.mg x = some (.ref C)) (hdb : (x == ("__debug__" : Str)) = false := by decide) : PE X (.Call (.Name x p) [] [] pos) (tMake C sp [.ref t0] X0 tNil) := by
  obtain ⟨f, fd, ds, M, F, _, hv, hb⟩ := D.ex
  exact pe_make0 M F (hr.mono hj) hgl hm hb hv pass0 hdb
theorem pe_cl1 {fe : Expr} (D : Met1 X.prog X.w X.K X.mg X.base (L2.CX X.prog X.w) k C "__call__" ps sp) (hr : Room j X.A) (hj : k + 1 ≤ j) {W : WX} (tk : Takes X W) (hf : PE X fe ta) (ha : PA X (e :: es) t)
    (he : eval (.Call fe (e :: es) [] pos) X.env = (do callWith pos (← eval fe X.env) [] (backTo pos (starEach (e :: es) X.env)) (backToKw pos (keywordEach [] X.env))) := by rfl)
    (h1 : starEach (e :: es) X.env = (false, eval e X.env) :: starEach es X.env := by rfl) (h2 : (backTo pos (starEach es X.env)).any (·.1) = false := by rfl) :
    PE X (.Call fe (e :: es) [] pos) (tCallO C sp (WE W) ta t) := by
  obtain ⟨f, fd, M, hfn, F, hb⟩ := D.ex
  exact pe_callO M hfn F (hr.mono hj) hb (fun σ => passAt tk σ) hf ha he h1 h2
theorem pe_it1 (D : Met1 X.prog X.w X.K X.mg X.base (L2.CX X.prog X.w) k C "__getitem__" ["self", "index"] sp) (hr : Room j X.A) (hj : k + 1 ≤ j) {W : WX} (tk : Takes X W) (ha : PE X e ta) (hb : PE X a tb)
    (hs : ∀ v u : Value, subscripted a true v u = runValue (.builtin "lifetime.subscript" ⟨[v, u], []⟩) := by intro _ _; with_unfolding_all rfl) : PE X (.Subscript e a pos) (tIxO C sp (WE W) ta tb) := by
  obtain ⟨f, fd, M, hfn, F, hB⟩ := D.ex
  exact pe_ixO M hfn F (hr.mono hj) hB (fun σ => passAt tk σ) ha hb hs
theorem pe_me1 {o : Expr} {pl : Sem Bool} {E : XK} (c : Cls X.K C) (D : Met1 X.prog X.w X.K X.mg X.base (L2.CX X.prog X.w) k C m ps sp) (hr : Room j X.A) (hj : k ≤ j) (hx : Passes (L2.CX X.prog X.w) X E) (ho : PE X o ta) (ha : PA X (e :: es) t)
    (ht : eval (.Call (.Attribute o m apos) (e :: es) [] pos) X.env = (do
      let ov ← eval o X.env
      standAt apos.atName
      let (f, first) ← holding [ov] (getMethod ov m pl)
      callWith pos f first (backTo pos (starEach (e :: es) X.env)) (backToKw pos (keywordEach [] X.env))) := by rfl)
    (hst : starEach (e :: es) X.env = (false, eval e X.env) :: starEach es X.env := by rfl) (hpl : (backTo pos (starEach es X.env)).any (·.1) = false := by rfl) :
    PE X (.Call (.Attribute o m apos) (e :: es) [] pos) (tMeth C m sp [] E ta t) := by
  obtain ⟨f, fd, M, _, F, hb⟩ := D.ex
  exact pe_meth ho c M F (hr.mono hj) hb .nil hx ha hst hpl ht
end
/-! ### making, comparing, adding -/
section
variable {K : PySem.W.Frag} {mg : Str → Option Value} {C : Addr}
theorem made_ext {H : Hp} {x dx : Addr} {o u : HO} (hx : H x = none) (hdx : H dx = none) : Ext H (upd (upd H dx o) x u) := fun b ob q => by
  rw [upd_ne (ne_of_none q hx), upd_ne (ne_of_none q hdx)]
  exact q
theorem g_mkP {H : Hp} {Q : VK} {E : XK} {te : TE} {σ : L2.St} {ns : List Int} (ht : ∀ Q0 : VK, (∀ H1 a, Ext H H1 → SqT K H1 a (ns.map V.int) → Q0 (.ref a) H1) → te σ H Q0) (hl : ns.length ≤ 400) (hB : Big ns)
    (k : ∀ H' p u, Ext H H' → PolyU K C H' p u (trim ns) → Q (.ref p) H') : tMake C (spInit K C) [] E (tCons te tNil) σ H Q :=
  ht _ fun H1 a e hs x dx hx hdx ne => ⟨x, dx, a, ns, rfl, upd_same, sqT_ext (made_ext hx hdx) hs, hl, hB, fun H' u e2 hp hu => ⟨rfl, k H' x u (fun b o q => e2 b o (ne_of_none (e b o q) hx) (made_ext hx hdx b o (e b o q))) ⟨⟨dx, hp⟩, hu, Nat.le_trans (Nat.le_trans (trim_len ns) hl) (by decide)⟩⟩⟩
theorem notFirst_self : PySem.W.notFirst K C (.ref C) = true := by
  unfold PySem.W.notFirst
  simp
theorem g_eqP (Cl : PC K mg C) {H : Hp} {Q : VK} {E : XK} {p u q v : Addr} {ns ms : List Int} (hP : PolyU K C H p u ns) (hQ : PolyU K C H q v ms) (k : Q (.bl (decide (ns = ms))) H) : rCmpO K C (spEqP K C) E (.ref p) (.ref q) H Q := by
  obtain ⟨dx, hp⟩ := id hP.1
  obtain ⟨dy, hq⟩ := id hQ.1
  exact ⟨p, dx, _, _, rfl, hp, Cl.ty hq, notFirst_self, p, u, ns, _, rfl, hP, .inl ⟨q, v, ms, rfl, hQ, ⟨_, rfl⟩, k⟩⟩
theorem g_neP (Cl : PC K mg C) {H : Hp} {Q : VK} {E : XK} {p u q v : Addr} {ns ms : List Int} (hP : PolyU K C H p u ns) (hQ : PolyU K C H q v ms) (k : Q (.bl (!decide (ns = ms))) H) : rNeO K C (spEqP K C) E (.ref p) (.ref q) H Q := by
  obtain ⟨dx, hp⟩ := id hP.1
  obtain ⟨dy, hq⟩ := id hQ.1
  exact ⟨p, dx, _, _, rfl, hp, Cl.ty hq, notFirst_self, p, u, ns, _, rfl, hP, .inl ⟨q, v, ms, rfl, hQ, _, rfl, k⟩⟩
theorem g_binP {op : List Int → List Int → List Int} {B : List Int → List Int → Prop} {H : Hp} {Q : VK} {E : XK} {p u : Addr} {y : V} {ns ms : List Int} (hP : PolyU K C H p u ns) (hy : OpRow K C H y ms) (hB : B ns ms)
    (k : ∀ H' q v, Ext H H' → PolyU K C H' q v (trim (op ns ms)) → Q (.ref q) H') : rBinO C (spBin K C op B) E (.ref p) y H Q := by
  obtain ⟨dx, hp⟩ := id hP.1
  refine ⟨p, dx, _, rfl, hp, ?_, p, u, ns, ms, y, rfl, hP, hy, hB, fun H' q v e hq => ⟨⟨q, rfl⟩, k H' q v e hq⟩⟩
  rcases hy with ⟨q, v, rfl, ⟨⟨dy, hq⟩, _, _⟩⟩ | ⟨i, rfl, _⟩
  · exact .inl ⟨q, dy, _, rfl, hq⟩
  · exact .inr ⟨i, rfl⟩
theorem OpRow.pol {H : Hp} {q v : Addr} {ms : List Int} (h : PolyU K C H q v ms) : OpRow K C H (.ref q) ms := .inl ⟨q, v, rfl, h⟩
theorem OpRow.int {H : Hp} {i : Int} : OpRow K C H (.int i) [i] := .inr ⟨i, rfl, rfl⟩
theorem g_negP {H : Hp} {Q : VK} {E : XK} {p u : Addr} {ns : List Int} (hP : PolyU K C H p u ns) (k : ∀ H' q v, Ext H H' → PolyU K C H' q v (trim (negR ns)) → Q (.ref q) H') : rNegO C (spNegP K C) E (.ref p) H Q := by
  obtain ⟨dx, hp⟩ := id hP.1
  exact ⟨p, dx, _, rfl, hp, p, u, ns, rfl, hP, k⟩
end
end K0

set_option Elab.async false
set_option linter.all false
set_option maxRecDepth 100000
set_option maxHeartbeats 4000000
/-! Values that are no integers; what the law draws of wrong ones; refusals of defs and methods. -/
namespace K0
open PySem PySem.Spec PyProof.Rows L2 Gd
open LamX (ExtN)
local macro_rules | `(tactic| walk_at "rd1") => `(tactic| first | with_reducible refine g_ret ?_ | with_reducible refine g_retN ?_ | with_reducible refine g_seq ?_ | with_reducible refine g_next ?_ | with_reducible refine g_drop ?_ | with_reducible refine g_asg ?_ | with_reducible refine g_name ?_ | with_reducible refine g_ifs ?_ | with_reducible refine g_test ?_ | with_reducible refine g_tb ?_ | with_reducible refine g_and ?_ | with_reducible refine g_or ?_ | with_reducible refine g_not ?_ | with_reducible refine g_andV ?_ | with_reducible refine g_orV ?_ | with_reducible refine g_notV ?_ | with_reducible refine g_if ?_ | with_reducible refine g_op ?_ | with_reducible refine g_un ?_ | with_reducible refine g_cb ?_ | with_reducible refine g_nil ?_ | with_reducible refine g_cons ?_ | with_reducible refine g_call ?_ | with_reducible refine g_callS ?_ | with_reducible refine g_tup ?_ | with_reducible refine g_lst ?_ | with_reducible refine g_isN ?_ | with_reducible refine g_sl ?_ | with_reducible refine g_nopart ?_ | with_reducible refine g_part ?_ | with_reducible refine g_chain ?_ | with_reducible refine g_fld ?_ | with_reducible refine g_prop ?_ | with_reducible refine g_bm ?_ | with_reducible refine g_bm0 ?_ | with_reducible refine g_c ?_ | with_reducible refine g_sub ?_ | with_reducible refine g_int1 ?_ | with_reducible refine g_int2 ?_ | with_reducible refine g_yes ?_ | with_reducible refine g_sfld ?_ | with_reducible refine g_NT ?_ | with_reducible refine g_NF ?_ | with_reducible refine iteT ?_ | with_reducible refine iteF ?_ | ((with_reducible refine' g_aug ?hv ?_); (case hv => exact rfl)) | ((with_reducible refine' g_var ?hv ?_); (case hv => exact rfl)) | with_reducible refine g_I0 ?_ | with_reducible refine g_U ?_ | with_reducible refine g_eqI ?_ | with_reducible refine g_blV ?_ | with_reducible refine g_inV ?_)
local macro_rules | `(tactic| walk_at "rd") => `(tactic| repeat walk_at "rd1")
section
variable {P : Program} {w : World} {K : PySem.W.Frag} {mg : Str → Option Value} {base : Heap} {f C CN CP t0 : Addr} {fd : FuncData}
/-- values that are no integers -/
inductive Odd (H : Hp) : V → Prop
  | non : Odd H .non
  | bl (b : Bool) : Odd H (.bl b)
  | s1 : Odd H (.str "1")
  | s2 : Odd H (.str "2")
  | tup {a : Addr} {i : Int} (h : H a = some (.tup [.int i])) (hi : i = 1 ∨ i = 2) : Odd H (.ref a)
  | lst {a : Addr} {i : Int} (h : H a = some (.lst [.int i])) (hi : i = 1 ∨ i = 2) : Odd H (.ref a)
  | dct {a : Addr} (h : H a = some (.dK [])) : Odd H (.ref a)
theorem Odd.whole {H : Hp} {x : V} (h : Odd H x) : WholeB K H x false := by
  cases h with
  | non => exact whole_non
  | bl b => exact whole_bl
  | s1 => exact whole_str
  | s2 => exact whole_str
  | tup h hi => exact whole_tup h
  | lst h hi => exact ⟨_, false, false, .base (.lst h), by kernel_rfl, by kernel_rfl, rfl⟩
  | dct h => exact ⟨_, false, false, .base (.dK h), by kernel_rfl, by kernel_rfl, rfl⟩
theorem Odd.extN {H H' : Hp} {x : V} (e : ExtN H H') (h : Odd H x) : Odd H' x := by
  cases h with
  | non => exact .non
  | bl b => exact .bl b
  | s1 => exact .s1
  | s2 => exact .s2
  | tup h hi => exact .tup (e _ _ h (fun _ z => by cases z)) hi
  | lst h hi => exact .lst (e _ _ h (fun _ z => by cases z)) hi
  | dct h => exact .dct (e _ _ h (fun _ z => by cases z))
/-- an integer of some, or none -/
def OddI (H : Hp) (is : List Int) (x : V) : Prop := Odd H x ∨ ∃ i, x = .int i ∧ i ∈ is
theorem OddI.extN {H H' : Hp} {is : List Int} {x : V} (e : ExtN H H') (h : OddI H is x) : OddI H' is x := h.imp (Odd.extN e) id
theorem OddI.within {H : Hp} {is : List Int} {x : V} {lo hi : Int} (h : OddI H is x) (hb : ∀ i ∈ is, ¬ (lo ≤ i ∧ i ≤ hi)) : WithB K H x lo hi false := by
  rcases h with h | ⟨i, rfl, hi⟩
  · exact .inr ⟨h.whole, rfl⟩
  · exact .inl ⟨i, rfl, (decide_eq_false (hb i hi)).symm⟩
theorem OddI.int {H : Hp} {is : List Int} {x : V} (h : OddI H is x) (hb : ∀ i ∈ is, ¬ (-(10 ^ 60) < i ∧ i < 10 ^ 60)) : IntB K H x false := by
  rcases h with h | ⟨i, rfl, hi⟩
  · exact .inr ⟨h.whole, rfl⟩
  · exact .inl ⟨i, rfl, (decide_eq_false (hb i hi)).symm⟩
/-- the text of ("number", x), of an object that holds it -/
def NumText : V → Hp → Str → Prop := fun x H t => ∀ (K : PySem.W.Frag) (H' : Hp) (a : Addr) (Q : VK), ExtN H H' → SqT K H' a [.str "number", x] → Q (.str t) H' → rReprX K [.ref a] H' Q
theorem numText {H : Hp} {is : List Int} {x : V} (h : OddI H is x) (hb : ∀ i ∈ is, (PyData.tuple [.str "number", .int i]).showable = true ∧ (PyData.tuple [.str "number", .int i]).shown.length ≤ 1000) : ∃ t, NumText x H t := by
  have sz : (100000 : Nat) < sizeLine := by decide
  have one : ∀ (d : PyData), (PyData.tuple [.str "number", d]).showable = true → (PyData.tuple [.str "number", d]).hasDict = false → (PyData.tuple [.str "number", d]).depth ≤ 60 → (PyData.tuple [.str "number", d]).shown.length ≤ 1000 →
      (∀ (K : PySem.W.Frag) (H' : Hp), ExtN H H' → Dp K H' x d) → NumText x H (PyData.tuple [.str "number", d]).shown := by
    intro d h1 h2 h3 h4 hd K H' a Q e hs q
    exact .inl ⟨a, _, rfl, .tup hs (.cons (.str _) (.cons (hd K H' e) .nil)), h1, h2, h3, by omega, q⟩
  rcases h with h | ⟨i, rfl, hi⟩
  · cases h with
    | non => exact ⟨_, one .none (by decide +kernel) (by decide +kernel) (by decide +kernel) (by decide +kernel) fun _ _ _ => .non⟩
    | bl b => cases b <;> exact ⟨_, one (.bool _) (by decide +kernel) (by decide +kernel) (by decide +kernel) (by decide +kernel) fun _ _ _ => .bl _⟩
    | s1 => exact ⟨_, one (.str "1") (by decide +kernel) (by decide +kernel) (by decide +kernel) (by decide +kernel) fun _ _ _ => .str _⟩
    | s2 => exact ⟨_, one (.str "2") (by decide +kernel) (by decide +kernel) (by decide +kernel) (by decide +kernel) fun _ _ _ => .str _⟩
    | tup h hi => rcases hi with rfl | rfl <;> exact ⟨_, one (.tuple [.int _]) (by decide +kernel) (by decide +kernel) (by decide +kernel) (by decide +kernel) fun _ _ e => .tup (SqT.of (e _ _ h (fun _ z => by cases z))) (.cons (.int _) .nil)⟩
    | lst h hi => rcases hi with rfl | rfl <;> exact ⟨_, one (.list [.int _]) (by decide +kernel) (by decide +kernel) (by decide +kernel) (by decide +kernel) fun _ _ e => .lst (SqL.of (e _ _ h (fun _ z => by cases z))) (.cons (.int _) .nil)⟩
    | dct h => exact ⟨_, fun K H' a Q e hs q => .inr ⟨a, _, _, rfl, hs, e _ _ h (fun _ z => by cases z), by decide +kernel, by decide +kernel, q⟩⟩
  · exact ⟨_, one (.int i) (hb i hi).1 (by first | rfl | decide +kernel) (by simp [PyData.depth, PyData.depthAll]) (hb i hi).2 fun _ _ _ => .int i⟩
/-! ### what the law draws -/
abbrev sWrong : Stmt := top 51
def wrongs (n : Int) : List Int := [-1, n + 1, 10 ^ 60, -(10 ^ 60)]
def spWrong : Sp := fun vs H Q _ => ∃ (d : Addr) (n : Int), vs = [.ref d, .int n] ∧ DiceAt H d ∧ ∀ H' x, ExtBut d H H' → DiceAt H' d → OddI H' (wrongs n) x → Q x H'
theorem scWrong : FnScope ["_law_dice_here", "_law_most"] ["_law_dice_here", "_law_most"] (defScope sWrong) := ⟨rfl, rfl, rfl, by decide +kernel, rfl, by decide +kernel, by decide +kernel⟩
theorem ok_wrong {fP : Addr} {fdP : FuncData} (F : Fun K "_law_wrong" "_law_wrong" sWrong f fd) (R : At K mg "_law_pick" sPick ["_law_dice_here", "_law_items"] fP fdP) (GP : FnOk P w K mg base CX0 2 fP fdP ["_law_dice_here", "_law_items"] (spPick K)) : FnOk P w K mg base CX0 3 f fd ["_law_dice_here", "_law_most"] spWrong := by
  refine F.ok scWrong (fun vs H Q E h => ?_) (fun cdv A outer s H vs Q E hr h => ?_)
  · obtain ⟨d, n, rfl, _⟩ := h
    rfl
  · obtain ⟨d, n, rfl, hd, k⟩ := h
    refine ⟨_, pss_one (ps_ret (pe_call GP hr (by rfl) R.g R.F.kp R.b .nil pass0 (pa_cons (pv 0) (pa_cons (pe_lst (pa_cons (pe_un un_neg pe_int) (pa_cons (pe_op op_add (pv 1) pe_int) (pa_cons pe_non (pa_cons pe_bl (pa_cons pe_bl (pa_cons pe_str (pa_cons (pe_tup (pa_cons pe_int pa_nil)) (pa_cons (pe_lst (pa_cons pe_int pa_nil)) (pa_cons (pe_op op_pow pe_int pe_int) (pa_cons (pe_op op_sub pe_int (pe_op op_pow pe_int pe_int)) (pa_cons (pe_dnewK) pa_nil)))))))))))) pa_nil)))), ?_⟩
    walk_at "rd"
    refine ⟨by show 1 ≤ sizeLine; decide, fun t ht => ?_⟩
    walk_at "rd"
    refine ⟨by show 1 ≤ sizeLine; decide, fun l hl => ?_⟩
    walk_at "rd"
    refine g_I ⟨by decide, by decide, by decide⟩ ?_
    walk_at "rd"
    refine g_I ⟨by decide, by decide, by decide⟩ ?_
    walk_at "rd"
    intro e he
    walk_at "rd"
    refine ⟨by show 11 ≤ sizeLine; decide, fun p hp => ?_⟩
    have e1 := Ext.new (o := HO.tup [V.int 1]) ht
    have e2 := Ext.new (o := HO.lst [V.int 1]) hl
    have e3 := Ext.new (o := HO.dK []) he
    have e4 := Ext.new (o := HO.lst [V.int (-1), V.int (n + 1), .non, .bl true, .bl false, .str "1", .ref t, .ref l, .int (10 ^ 60), .int (-(10 ^ 60)), .ref e]) hp
    have e14 := Ext.trans e1 (Ext.trans e2 (Ext.trans e3 e4))
    have tt := Ext.trans e2 (Ext.trans e3 e4) _ _ upd_same
    have tl := Ext.trans e3 e4 _ _ upd_same
    have te := e4 _ _ upd_same
    refine ⟨d, p, _, rfl, hd.ext e14, SqL.of upd_same, ?_, by show 0 < 11; decide, by show 11 ≤ 1000; decide, fun H' x eB hd' hx => ?_⟩
    · intro z
      obtain ⟨_, _, _, h1, _⟩ := hd
      have := Ext.trans e1 (Ext.trans e2 e3) _ _ h1
      rw [← z, hp] at this
      cases this
    · have hd0 : H d ≠ none := by
        obtain ⟨_, _, _, h1, _⟩ := hd
        rw [h1]
        simp
      have n1 : t ≠ d := fun z => hd0 (z ▸ ht)
      have n2 : l ≠ d := fun z => hd0 (by
        cases q : H d with
        | none => rfl
        | some o =>
          have := e1 _ _ q
          rw [← z, hl] at this
          cases this)
      have n3 : e ≠ d := fun z => hd0 (by
        cases q : H d with
        | none => rfl
        | some o =>
          have := Ext.trans e1 e2 _ _ q
          rw [← z, he] at this
          cases this)
      refine k H' x (ExtBut.trans (ExtBut.of e14) eB) hd' ?_
      simp only [List.mem_cons, List.not_mem_nil, or_false] at hx
      rcases hx with rfl | rfl | rfl | rfl | rfl | rfl | rfl | rfl | rfl | rfl | rfl
      · exact .inr ⟨_, rfl, by simp [wrongs]⟩
      · exact .inr ⟨_, rfl, by simp [wrongs]⟩
      · exact .inl .non
      · exact .inl (.bl _)
      · exact .inl (.bl _)
      · exact .inl .s1
      · exact .inl (.tup (eB _ _ n1 tt) (.inl rfl))
      · exact .inl (.lst (eB _ _ n2 tl) (.inl rfl))
      · exact .inr ⟨_, rfl, by simp [wrongs]⟩
      · exact .inr ⟨_, rfl, by simp [wrongs]⟩
      · exact .inl (.dct (eB _ _ n3 te))
/-! ### a polynomial called with what is no integer -/
def spValX (K : PySem.W.Frag) (C CN : Addr) : Sp := fun vs H _ E => ∃ (p : Addr) (y : V), vs = [.ref p, y] ∧ IntB K H y false ∧ ∀ d, H d = none → E (.ref CN) (some d) (upd H d (.xd [(("value" : Str), y)]))
theorem sc5 : FnScope ["self", "number", "value", "factor"] ["self", "number"] (defScope (cls 5)) := ⟨rfl, rfl, rfl, by decide +kernel, rfl, by decide +kernel, by decide +kernel⟩
theorem ok_valueX {fW fI fC : Addr} {fdW fdI : FuncData} (F : Fun K "__call__" "Poly.__call__" (cls 5) f fd) (T : Txt K mg) (W : AtW K mg fW fdW) (I : AtI K mg fI fdI) (N : PySem.XInvalidNumber.InvalidNumberTxt K mg CN fC) :
    FnOk P w K mg base (L2.CX P w) 4 f fd ["self", "number"] (spValX K C CN) := by
  have GI : FnOk P w K mg base CX0 2 fI fdI ["value"] (spInteger K) := ok_integer I.F T W
  refine F.okX sc5 (fun vs H Q E h => ?_) (fun cdv A outer s H vs Q E hr h => ?_)
  · obtain ⟨p, y, rfl, _⟩ := h
    rfl
  · obtain ⟨p, y, rfl, hy, k⟩ := h
    refine ⟨_, pss_cons (ps_if (pt_not (pt_val (pe_call GI (hr.mono (by decide)) (by rfl) I.g I.F.kp I.b .nil pass0 (pa_cons (pv 1) pa_nil)))) (pss_one (ps_raiseInvalidNumber rfl N hr (takes_of rfl rfl rfl rfl) (by exact (pa_cons (pv 1) pa_nil)))) pss_nil) pss_never, ?_⟩
    walk_at "rd"
    refine ⟨y, false, rfl, hy, ?_⟩
    walk_at "rd"
    exact ⟨y, rfl, y, rfl, fun d hd => k d hd⟩
/-! ### words for calls that may raise -/
structure IniX (P : Program) (w : World) (K : PySem.W.Frag) (mg : Str → Option Value) (base : Heap) (C : Addr) (sp : Sp) : Prop where
  ex : ∃ (f : Addr) (fd : FuncData), Mk K C f ∧ FnOk P w K mg base (L2.CX P w) 4 f fd ["self", "factors"] sp ∧ Binds K fd ["self", "factors"] []
end
section
variable {X : Cx} {C : Addr} {k j : Nat} {x : Str} {ps : List Str} {sp : Sp} {e : Expr} {es : List Expr} {t : TA} {p pos : Pos} {E : XK}
theorem pe_defX (D : Def1 X.prog X.w X.K X.mg X.base (L2.CX X.prog X.w) k x ps sp) (hx : Passes (L2.CX X.prog X.w) X E) (hr : Room j X.A) (hj : k ≤ j) (hgl : Gl X x) (ha : PA X (e :: es) t) (hdb : (x == ("__debug__" : Str)) = false := by decide)
    (he : starEach (e :: es) X.env = (false, eval e X.env) :: starEach es X.env := by rfl) (hpl : (backTo pos (starEach es X.env)).any (·.1) = false := by rfl) : PE X (.Call (.Name x p) (e :: es) [] pos) (tCall sp [] E t) := by
  obtain ⟨f, fd, hm, hk, F, hb⟩ := D.ex
  exact pe_call F (hr.mono hj) hgl hm hk hb .nil hx ha hdb he hpl
theorem pe_mkX (D : IniX X.prog X.w X.K X.mg X.base C sp) (hx : Passes (L2.CX X.prog X.w) X E) (hr : Room j X.A) (hj : 5 ≤ j) (hgl : Gl X x) (hm : X.mg x = some (.ref C)) (ha : PA X (e :: es) t) (hdb : (x == ("__debug__" : Str)) = false := by decide)
    (he : starEach (e :: es) X.env = (false, eval e X.env) :: starEach es X.env := by rfl) (hpl : (backTo pos (starEach es X.env)).any (·.1) = false := by rfl) : PE X (.Call (.Name x p) (e :: es) [] pos) (tMake C sp [] E t) := by
  obtain ⟨f, fd, M, F, hb⟩ := D.ex
  exact pe_make M F (hr.mono hj) hgl hm hb .nil hx ha hdb he hpl
end
end K0

set_option Elab.async false
set_option linter.all false
set_option maxRecDepth 100000
set_option maxHeartbeats 4000000
/-! Numbers that are refused. -/
namespace K0
open PySem PySem.Spec PyProof.Rows L2 Gd
open LamX (Tabs TabB ExtN GivesTo CodeO tLam)
local macro_rules | `(tactic| walk_at "rd1") => `(tactic| first | with_reducible refine g_ret ?_ | with_reducible refine g_retN ?_ | with_reducible refine g_seq ?_ | with_reducible refine g_next ?_ | with_reducible refine g_drop ?_ | with_reducible refine g_asg ?_ | with_reducible refine g_name ?_ | with_reducible refine g_ifs ?_ | with_reducible refine g_test ?_ | with_reducible refine g_tb ?_ | with_reducible refine g_and ?_ | with_reducible refine g_or ?_ | with_reducible refine g_not ?_ | with_reducible refine g_andV ?_ | with_reducible refine g_orV ?_ | with_reducible refine g_notV ?_ | with_reducible refine g_if ?_ | with_reducible refine g_op ?_ | with_reducible refine g_un ?_ | with_reducible refine g_cb ?_ | with_reducible refine g_nil ?_ | with_reducible refine g_cons ?_ | with_reducible refine g_call ?_ | with_reducible refine g_callS ?_ | with_reducible refine g_tup ?_ | with_reducible refine g_lst ?_ | with_reducible refine g_isN ?_ | with_reducible refine g_sl ?_ | with_reducible refine g_nopart ?_ | with_reducible refine g_part ?_ | with_reducible refine g_chain ?_ | with_reducible refine g_fld ?_ | with_reducible refine g_prop ?_ | with_reducible refine g_bm ?_ | with_reducible refine g_bm0 ?_ | with_reducible refine g_c ?_ | with_reducible refine g_sub ?_ | with_reducible refine g_int1 ?_ | with_reducible refine g_int2 ?_ | with_reducible refine g_yes ?_ | with_reducible refine g_sfld ?_ | with_reducible refine g_NT ?_ | with_reducible refine g_NF ?_ | with_reducible refine iteT ?_ | with_reducible refine iteF ?_ | ((with_reducible refine' g_aug ?hv ?_); (case hv => exact rfl)) | ((with_reducible refine' g_var ?hv ?_); (case hv => exact rfl)) | with_reducible refine g_I0 ?_ | with_reducible refine g_U ?_ | with_reducible refine g_eqI ?_ | with_reducible refine g_blV ?_ | with_reducible refine g_inV ?_)
local macro_rules | `(tactic| walk_at "rd") => `(tactic| repeat walk_at "rd1")
section
variable {P : Program} {w : World} {K : PySem.W.Frag} {mg : Str → Option Value} {base : Heap} {f C CK CN CP CT CR t0 : Addr} {fd : FuncData}
/-- all but the object at r and the tables stays -/
def ExtR (r : Addr) (H H' : Hp) : Prop := ∀ b o, b ≠ r → H b = some o → (∀ ps, o ≠ .tbl ps) → H' b = some o
theorem ExtR.trans {r : Addr} {H H1 H2 : Hp} (a : ExtR r H H1) (b : ExtR r H1 H2) : ExtR r H H2 := fun x o n h z => b x o n (a x o n h z) z
theorem ExtR.n {r : Addr} {H H1 : Hp} (a : ExtN H H1) : ExtR r H H1 := fun x o _ h z => a x o h z
theorem ExtR.of {r : Addr} {H H1 : Hp} (a : Ext H H1) : ExtR r H H1 := fun x o _ h _ => a x o h
theorem Odd.extR {r : Addr} {xs : List V} {H H' : Hp} {x : V} (hr : H r = some (.lst xs)) (hne : xs ≠ [.int 1] ∧ xs ≠ [.int 2]) (e : ExtR r H H') (h : Odd H x) : Odd H' x := by
  cases h with
  | non => exact .non
  | bl b => exact .bl b
  | s1 => exact .s1
  | s2 => exact .s2
  | tup h hi => exact .tup (e _ _ (fun z => by rw [z, hr] at h; cases h) h (fun _ z => by cases z)) hi
  | lst h hi => exact .lst (e _ _ (fun z => by rw [z, hr] at h; cases h; rcases hi with rfl | rfl; exact hne.1 rfl; exact hne.2 rfl) h (fun _ z => by cases z)) hi
  | dct h => exact .dct (e _ _ (fun z => by rw [z, hr] at h; cases h) h (fun _ z => by cases z))
theorem dice_ne {H : Hp} {d l : Addr} {o : HO} (h : DiceAt H d) (e : H l = some o) (n : ∀ xs, o ≠ .lst xs) : l ≠ d := by
  obtain ⟨a, b, c, h, _⟩ := h
  intro z
  subst z
  rw [e] at h
  cases h
  exact n _ rfl
theorem tabs_but {T : List (Addr × Str)} {H H' : Hp} {d : Addr} (hd : DiceAt H d) (e : ExtBut d H H') (t : Tabs T H) : Tabs T H' := fun p hp => by
  obtain ⟨ps, h1, h2, h3⟩ := t p hp
  refine ⟨ps, e _ _ (dice_ne hd h1 (fun _ => by simp)) h1, h2, fun pos cv hc => ?_⟩
  obtain ⟨c, e1, e2⟩ := h3 pos cv hc
  exact ⟨c, e1, e _ _ (dice_ne hd e2 (fun _ z => by unfold CodeO at z; cases z)) e2⟩
def nums : List Int := [-1, 25, 2001, 401, 41, 10 ^ 60, -(10 ^ 60)]
/-- rows of a value and what was told of it -/
def RowsOk (r : Addr) (H : Hp) (items : List V) : Prop := ∀ x ∈ items, ∃ l v tt, x = .ref l ∧ l ≠ r ∧ tt ≠ r ∧ H l = some (.lst [v, .ref tt]) ∧ H tt = some (.tup [.str "number", v]) ∧ OddI H nums v
theorem RowsOk.ne {r : Addr} {H : Hp} {items : List V} (h : RowsOk r H items) (i : Int) : items ≠ [.int i] := fun z => by
  obtain ⟨l, v, tt, q, _⟩ := h (.int i) (by rw [z]; exact List.mem_singleton.mpr rfl)
  cases q
theorem OddI.extR {r : Addr} {is : List Int} {xs : List V} {H H' : Hp} {x : V} (hr : H r = some (.lst xs)) (hne : xs ≠ [.int 1] ∧ xs ≠ [.int 2]) (e : ExtR r H H') (h : OddI H is x) : OddI H' is x := h.imp (Odd.extR hr hne e) id
theorem OddI.sub {is js : List Int} {H : Hp} {x : V} (h : OddI H is x) (s : ∀ i ∈ is, i ∈ js) : OddI H js x := h.imp id fun ⟨i, a, b⟩ => ⟨i, a, s i b⟩
theorem sqT_extR {r : Addr} {xs ys : List V} {H H' : Hp} {a : Addr} (hr : H r = some (.lst xs)) (e : ExtR r H H') (h : SqT K H a ys) : SqT K H' a ys := by
  rcases h with (h | ⟨o, h⟩) | h
  · exact .inl (.inl (e _ _ (fun z => by rw [z, hr] at h; cases h) h (fun _ z => by cases z)))
  · exact .inl (.inr ⟨o, e _ _ (fun z => by rw [z, hr] at h; cases h) h (fun _ z => by cases z)⟩)
  · exact .inr h
theorem PolyU.extR {r : Addr} {xs : List V} {ns : List Int} {H H' : Hp} {p u : Addr} (hr : H r = some (.lst xs)) (e : ExtR r H H') (h : PolyU K C H p u ns) : PolyU K C H' p u ns := by
  obtain ⟨⟨dx, h1⟩, h2, h3⟩ := h
  exact ⟨⟨dx, e _ _ (fun z => by rw [z, hr] at h1; cases h1) h1 (fun _ z => by cases z)⟩, sqT_extR hr e h2, h3⟩
theorem PolyU.extN {H H' : Hp} {p u : Addr} {ns : List Int} (e : ExtN H H') (h : PolyU K C H p u ns) : PolyU K C H' p u ns := by
  obtain ⟨⟨dx, h1⟩, h2, h3⟩ := h
  refine ⟨⟨dx, e _ _ h1 (fun _ z => by cases z)⟩, ?_, h3⟩
  rcases h2 with (h | ⟨o, h⟩) | h
  · exact .inl (.inl (e _ _ h (fun _ z => by cases z)))
  · exact .inl (.inr ⟨o, e _ _ h (fun _ z => by cases z)⟩)
  · exact .inr h
/-- what stands while rows are made -/
structure St5 (K : PySem.W.Frag) (C : Addr) (T : List (Addr × Str)) (r p u : Addr) (few wide lift other often value : V) (items : List V) (H : Hp) : Prop where
  rr : H r = some (.lst items)
  rows : RowsOk r H items
  pol : PolyU K C H p u [1, 1]
  few : OddI H (wrongs 24) few
  wide : OddI H (wrongs 2000) wide
  lift : OddI H (wrongs 400) lift
  other : OddI H (wrongs 24) other
  often : OddI H (wrongs 40) often
  value : OddI H [10 ^ 60, -(10 ^ 60)] value
  tabs : Tabs T H
theorem St5.next {T : List (Addr × Str)} {r p u l tt : Addr} {few wide lift other often value v : V} {items : List V} {H H' : Hp} (S : St5 K C T r p u few wide lift other often value items H) (hv : OddI H nums v)
    (e : ExtR r H H') (hr : H' r = some (.lst (items ++ [.ref l]))) (nl : l ≠ r) (nt : tt ≠ r) (hl : H' l = some (.lst [v, .ref tt])) (ht : H' tt = some (.tup [.str "number", v])) (hT : Tabs T H') : St5 K C T r p u few wide lift other often value (items ++ [.ref l]) H' := by
  have ne : items ≠ [.int 1] ∧ items ≠ [.int 2] := ⟨S.rows.ne 1, S.rows.ne 2⟩
  refine ⟨hr, fun x hx => ?_, S.pol.extR S.rr e, S.few.extR S.rr ne e, S.wide.extR S.rr ne e, S.lift.extR S.rr ne e, S.other.extR S.rr ne e, S.often.extR S.rr ne e, S.value.extR S.rr ne e, hT⟩
  rcases List.mem_append.mp hx with q | q
  · obtain ⟨l', v', tt', a1, a2, a3, a4, a5, a6⟩ := S.rows x q
    exact ⟨l', v', tt', a1, a2, a3, e _ _ a2 a4 (fun _ z => by cases z), e _ _ a3 a5 (fun _ z => by cases z), a6.extR S.rr ne e⟩
  · exact ⟨l, v, tt, List.mem_singleton.mp q, nl, nt, hl, ht, hv.extR S.rr ne e⟩
theorem Odd.but {d : Addr} {H H' : Hp} {x : V} (hd : DiceAt H d) (e : ExtBut d H H') (h : Odd H x) : Odd H' x := by
  obtain ⟨_, _, _, h1, _⟩ := hd
  cases h with
  | non => exact .non
  | bl b => exact .bl b
  | s1 => exact .s1
  | s2 => exact .s2
  | tup h hi => exact .tup (e _ _ (fun z => by rw [z, h1] at h; cases h) h) hi
  | lst h hi => exact .lst (e _ _ (fun z => by rw [z, h1] at h; cases h) h) hi
  | dct h => exact .dct (e _ _ (fun z => by rw [z, h1] at h; cases h) h)
theorem OddI.but {d : Addr} {is : List Int} {H H' : Hp} {x : V} (hd : DiceAt H d) (e : ExtBut d H H') (h : OddI H is x) : OddI H' is x := h.imp (Odd.but hd e) id
theorem OddI.ext {is : List Int} {H H' : Hp} {x : V} (e : Ext H H') (h : OddI H is x) : OddI H' is x := h.extN (ExtN.of e)
theorem sqT_butD {d : Addr} {H H' : Hp} {a : Addr} {xs : List V} (hd : DiceAt H d) (e : ExtBut d H H') (h : SqT K H a xs) : SqT K H' a xs := by
  obtain ⟨_, _, _, h1, _⟩ := hd
  rcases h with (h | ⟨o, h⟩) | h
  · exact .inl (.inl (e _ _ (fun z => by rw [z, h1] at h; cases h) h))
  · exact .inl (.inr ⟨o, e _ _ (fun z => by rw [z, h1] at h; cases h) h⟩)
  · exact .inr h
theorem PolyU.but {d : Addr} {ns : List Int} {H H' : Hp} {p u : Addr} (hd : DiceAt H d) (e : ExtBut d H H') (h : PolyU K C H p u ns) : PolyU K C H' p u ns := by
  have hd2 := hd
  obtain ⟨_, _, _, g1, _⟩ := hd2
  obtain ⟨⟨dx, h1⟩, h2, h3⟩ := h
  exact ⟨⟨dx, e _ _ (fun z => by rw [z, g1] at h1; cases h1) h1⟩, sqT_butD hd e h2, h3⟩
/-- the statement rows.append([v, told(..)]) -/
theorem g_row {T : List (Addr × Str)} {σ : L2.St} {H : Hp} {r : Addr} {items : List V} {i : Nat} {v : V} {t : XK → TE} {rest : TS} {D : Ends} (hσ : σ[2]? = some (some (.ref r))) (hi : σ[i]? = some (some v)) (hr : H r = some (.lst items)) (hl : items.length < 100) (hT : Tabs T H)
    (raise : ∀ (E : XK) (H1 : Hp) (Q' : VK), ExtN H H1 → (∀ H2 d, Ext H1 H2 → H2 d = none → E (.ref CN) (some d) (upd H2 d (.xd [(("value" : Str), v)]))) → t E σ H1 Q')
    (next : ∀ H' l tt, ExtR r H H' → H' r = some (.lst (items ++ [.ref l])) → l ≠ r → tt ≠ r → H' l = some (.lst [v, .ref tt]) → H' tt = some (.tup [.str "number", v]) → Tabs T H' → rest D σ H') :
    tSeq (tDrop (tBM K "list" rAppend (tVar 2) (tCons (tLst (tCons (tVar i) (tCons (tLam T (TTold CP CN CT) t) tNil))) tNil))) rest D σ H := by
  have sz : (100000 : Nat) < sizeLine := by decide
  refine g_seq (g_drop (g_bm ⟨_, hσ, .inl ⟨rfl, _, SqL.of hr⟩, ?_⟩))
  refine g_cons (g_lst (g_cons ⟨_, hi, g_cons (g_lam hT fun H1 eN tG => g_told (raise _ H1 _ eN fun H2 d e2 hd => .inr (.inl ⟨rfl, d, v, rfl, upd_same, fun tt ht => ?_⟩)))⟩))
  refine g_nil ?_
  refine ⟨by show 2 ≤ sizeLine; decide, fun l hl0 => ?_⟩
  have e3 := Ext.new (o := HO.xd [(("value" : Str), v)]) hd
  have e4 := Ext.new (o := HO.tup [V.str "number", v]) ht
  have e5 := Ext.new (o := HO.lst [v, V.ref tt]) hl0
  have e25 := Ext.trans e2 (Ext.trans e3 (Ext.trans e4 e5))
  have tt5 := e5 _ _ (upd_same : upd (upd H2 d (.xd [(("value" : Str), v)])) tt (HO.tup [V.str "number", v]) tt = _)
  have l5 : upd (upd (upd H2 d (.xd [(("value" : Str), v)])) tt (.tup [V.str "number", v])) l (.lst [v, V.ref tt]) l = some (.lst [v, V.ref tt]) := upd_same
  have r5 := e25 _ _ (eN _ _ hr (fun _ z => by cases z))
  have nl : l ≠ r := fun z => by
    have := Ext.trans e2 (Ext.trans e3 e4) _ _ (eN _ _ hr (fun _ z => by cases z))
    rw [← z, hl0] at this
    cases this
  have nt : tt ≠ r := fun z => by
    have := Ext.trans e2 e3 _ _ (eN _ _ hr (fun _ z => by cases z))
    rw [← z, ht] at this
    cases this
  have T5 := tG.ext e25
  generalize upd (upd (upd H2 d (.xd [(("value" : Str), v)])) tt (.tup [V.str "number", v])) l (.lst [v, V.ref tt]) = H5 at e25 tt5 l5 r5 T5
  refine ⟨r, items, _, rfl, rfl, r5, by omega, ?_⟩
  refine next _ l tt (fun b o n h z => ?_) upd_same nl nt ?_ ?_ ?_
  · rw [upd_ne n]
    exact e25 _ _ (eN _ _ h z)
  · rw [upd_ne nl]
    exact l5
  · rw [upd_ne nt]
    exact tt5
  · intro p hp
    obtain ⟨ps, h1, h2, h3⟩ := T5 p hp
    refine ⟨ps, ?_, h2, fun pos cv hc => ?_⟩
    · rw [upd_ne (fun z => by rw [z, r5] at h1; cases h1)]
      exact h1
    · obtain ⟨c0, e1, e2⟩ := h3 pos cv hc
      refine ⟨c0, e1, ?_⟩
      rw [upd_ne (fun z => by rw [z, r5] at e2; unfold CodeO at e2; cases e2)]
      exact e2
structure Has5 (P : Program) (w : World) (K : PySem.W.Frag) (mg : Str → Option Value) (base : Heap) (C CN CT CR CP t0 : Addr) : Prop where
  ini : Ini1 P w K mg base C t0 (spInit K C)
  iniX : IniX P w K mg base C (spInitX K C CP)
  t0 : ∀ H, SqT K H t0 []
  call : Met1 P w K mg base (L2.CX P w) 4 C "__call__" ["self", "number"] (spValX K C CN)
  power : Met1 P w K mg base (L2.CX P w) 7 C "power" ["self", "many"] (spPower K C CN CT)
  raised : Met1 P w K mg base (L2.CX P w) 7 C "raised" ["self", "many"] (spRaised K C CN)
  turned : Met1 P w K mg base (L2.CX P w) 7 C "turned_round" ["self", "many"] (spTurned K C CN CR)
  binom : Def1 P w K mg base (L2.CX P w) 7 "binomial" ["whole", "many"] (spBinomial K C CN)
  heights : Def1 P w K mg base (L2.CX P w) 6 "heights" ["many"] (sp24 K CN)
  flags : Def1 P w K mg base (L2.CX P w) 6 "flags" ["many"] (sp24 K CN)
  roll : Def1 P w K mg base CX0 1 "_law_roll" ["_law_dice_here", "_law_total"] spRoll
  pick : Def1 P w K mg base CX0 2 "_law_pick" ["_law_dice_here", "_law_items"] (spPick K)
  wrong : Def1 P w K mg base CX0 3 "_law_wrong" ["_law_dice_here", "_law_most"] spWrong
/-- all but the dice and the tables stays -/
structure Keep (T : List (Addr × Str)) (d : Addr) (H H' : Hp) : Prop where
  ext : ∀ b o, b ≠ d → H b = some o → (∀ ps, o ≠ .tbl ps) → H' b = some o
  dice : DiceAt H' d
  tabs : Tabs T H'
abbrev sNumR : Stmt := top 52
abbrev qNumR : Str := "_law_numbers_right.<locals>.<lambda>"
theorem scNumR : FnScope ["_law_dice_here", "_law_poly", "_law_rows", "_law_few", "_law_wide", "_law_lift", "_law_other", "_law_often", "_law_value", "_law_given", "_law_told_here"] ["_law_dice_here"] (defScope sNumR) := ⟨rfl, rfl, rfl, by decide +kernel, rfl, by decide +kernel, by decide +kernel⟩
def spNumR (T : List (Addr × Str)) : Sp := fun vs H Q _ => ∃ d : Addr, vs = [.ref d] ∧ DiceAt H d ∧ Tabs T H ∧ ∀ H', Keep T d H H' → Q (.bl true) H'
theorem showI (i : Int) (h : i = -1 ∨ i = 25 ∨ i = 2001 ∨ i = 401 ∨ i = 41 ∨ i = 10 ^ 60 ∨ i = -(10 ^ 60)) : (PyData.tuple [.str "number", .int i]).showable = true ∧ (PyData.tuple [.str "number", .int i]).shown.length ≤ 1000 := by
  rcases h with rfl | rfl | rfl | rfl | rfl | rfl | rfl <;> exact ⟨by decide +kernel, by decide +kernel⟩
theorem ok_numR {c Pt : Addr} {T : List (Addr × Str)} (F : Fun K "_law_numbers_right" "_law_numbers_right" sNumR f fd) (hc : fd.code = .ref c) (TB : TabB base mg c Pt) (hmT : (Pt, qNumR) ∈ T) (hu : ∀ p ∈ T, p.1 = Pt → p.2 = qNumR)
    (Tx : Txt K mg) (T2 : Txt2 mg) (Cl : PC K mg C) (A : Has5 P w K mg base C CN CT CR CP t0) (R : Told K mg CK CP CN CT) :
    FnG P w K mg base CX0 12 f fd ["_law_dice_here"] (spNumR T) := by
  refine fnGc F hc scNumR (fun vs H Q E h => ?_) (fun Ar outer s H vs Q E hg hr h => ?_)
  · obtain ⟨d, rfl, _⟩ := h
    rfl
  · obtain ⟨d, rfl, hd, hT, k⟩ := h
    refine ⟨_, PSs.nox (pss_cons (ps_asg (pe_tup (pa_cons (pe_mk1 A.ini hr (by decide) (by rfl) Cl.g (pa_cons (pe_tup (pa_cons pe_int (pa_cons pe_int pa_nil))) pa_nil)) (pa_cons (pe_lst pa_nil) pa_nil))) (pg_tup rfl (pgs_cons (pg_name (i := 1) scNumR.nd rfl (Or.inr rfl)) (pgs_cons (pg_name (i := 2) scNumR.nd rfl (Or.inl rfl)) pgs_nil))))
      (pss_cons (ps_asg (pe_tup (pa_cons (pe_def A.wrong hr (by decide) (by rfl) (pa_cons (pv 0) (pa_cons pe_int pa_nil))) (pa_cons (pe_def A.wrong hr (by decide) (by rfl) (pa_cons (pv 0) (pa_cons pe_int pa_nil))) (pa_cons (pe_def A.wrong hr (by decide) (by rfl) (pa_cons (pv 0) (pa_cons pe_int pa_nil))) pa_nil)))) (pg_tup rfl (pgs_cons (pg_name (i := 3) scNumR.nd rfl (Or.inr rfl)) (pgs_cons (pg_name (i := 4) scNumR.nd rfl (Or.inr rfl)) (pgs_cons (pg_name (i := 5) scNumR.nd rfl (Or.inr rfl)) pgs_nil)))))
      (pss_cons (ps_asg (pe_tup (pa_cons (pe_def A.wrong hr (by decide) (by rfl) (pa_cons (pv 0) (pa_cons pe_int pa_nil))) (pa_cons (pe_def A.wrong hr (by decide) (by rfl) (pa_cons (pv 0) (pa_cons pe_int pa_nil))) pa_nil))) (pg_tup rfl (pgs_cons (pg_name (i := 6) scNumR.nd rfl (Or.inr rfl)) (pgs_cons (pg_name (i := 7) scNumR.nd rfl (Or.inr rfl)) pgs_nil))))
      (pss_cons (ps_set (i := 8) scNumR.nd rfl (Or.inr rfl) (pe_def A.pick hr (by decide) (by rfl) (pa_cons (pv 0) (pa_cons (pe_lst (pa_cons pe_non (pa_cons pe_bl (pa_cons pe_str (pa_cons (pe_op op_pow pe_int pe_int) (pa_cons (pe_op op_sub pe_int (pe_op op_pow pe_int pe_int)) (pa_cons (pe_tup (pa_cons pe_int pa_nil)) (pa_cons (pe_lst (pa_cons pe_int pa_nil)) pa_nil)))))))) pa_nil))))
      (pss_cons (ps_expr (pe_bm PySem.F.plainAttrs_list PySem.F.slot_list_append PySem.F.type_list_append mt_append (pv 2) (pa_cons (pe_lst (pa_cons (pv 3) (pa_cons (pe_told (k := 8) (t := fun E => (tCall (spBinomial K C CN) [] E (tCons (tVar 3) (tCons (tVar 6) tNil)))) (by rfl) R TB rfl hmT hu (hr.mono (by decide)) (LamX.lamS_by (by show LamX.lamSB (defScope sNumR) _ = true; decide +kernel)) rfl (fun _ _ _ _ _ => by rfl) (fun _ _ _ _ E _ _ hr' => (pe_defX A.binom (passes_call (takes_of rfl rfl rfl rfl) (fun _ _ _ _ h => h)) hr' (by decide) (by rfl) (pa_cons (pv 3) (pa_cons (pv 6) pa_nil))))) pa_nil))) pa_nil)))
      (pss_cons (ps_expr (pe_bm PySem.F.plainAttrs_list PySem.F.slot_list_append PySem.F.type_list_append mt_append (pv 2) (pa_cons (pe_lst (pa_cons (pv 6) (pa_cons (pe_told (k := 8) (t := fun E => (tCall (spBinomial K C CN) [] E (tCons (tC (.int 24)) (tCons (tVar 6) tNil)))) (by rfl) R TB rfl hmT hu (hr.mono (by decide)) (LamX.lamS_by (by show LamX.lamSB (defScope sNumR) _ = true; decide +kernel)) rfl (fun _ _ _ _ _ => by rfl) (fun _ _ _ _ E _ _ hr' => (pe_defX A.binom (passes_call (takes_of rfl rfl rfl rfl) (fun _ _ _ _ h => h)) hr' (by decide) (by rfl) (pa_cons pe_int (pa_cons (pv 6) pa_nil))))) pa_nil))) pa_nil)))
      (pss_cons (ps_expr (pe_bm PySem.F.plainAttrs_list PySem.F.slot_list_append PySem.F.type_list_append mt_append (pv 2) (pa_cons (pe_lst (pa_cons (pv 3) (pa_cons (pe_told (k := 8) (t := fun E => (tCall (sp24 K CN) [] E (tCons (tVar 3) tNil))) (by rfl) R TB rfl hmT hu (hr.mono (by decide)) (LamX.lamS_by (by show LamX.lamSB (defScope sNumR) _ = true; decide +kernel)) rfl (fun _ _ _ _ _ => by rfl) (fun _ _ _ _ E _ _ hr' => (pe_defX A.heights (passes_call (takes_of rfl rfl rfl rfl) (fun _ _ _ _ h => h)) hr' (by decide) (by rfl) (pa_cons (pv 3) pa_nil)))) pa_nil))) pa_nil)))
      (pss_cons (ps_expr (pe_bm PySem.F.plainAttrs_list PySem.F.slot_list_append PySem.F.type_list_append mt_append (pv 2) (pa_cons (pe_lst (pa_cons (pv 6) (pa_cons (pe_told (k := 8) (t := fun E => (tCall (sp24 K CN) [] E (tCons (tVar 6) tNil))) (by rfl) R TB rfl hmT hu (hr.mono (by decide)) (LamX.lamS_by (by show LamX.lamSB (defScope sNumR) _ = true; decide +kernel)) rfl (fun _ _ _ _ _ => by rfl) (fun _ _ _ _ E _ _ hr' => (pe_defX A.flags (passes_call (takes_of rfl rfl rfl rfl) (fun _ _ _ _ h => h)) hr' (by decide) (by rfl) (pa_cons (pv 6) pa_nil)))) pa_nil))) pa_nil)))
      (pss_cons (ps_expr (pe_bm PySem.F.plainAttrs_list PySem.F.slot_list_append PySem.F.type_list_append mt_append (pv 2) (pa_cons (pe_lst (pa_cons (pv 7) (pa_cons (pe_told (k := 8) (t := fun E => (tMeth C "power" (spPower K C CN CT) [] E (tVar 1) (tCons (tVar 7) tNil))) (by rfl) R TB rfl hmT hu (hr.mono (by decide)) (LamX.lamS_by (by show LamX.lamSB (defScope sNumR) _ = true; decide +kernel)) rfl (fun _ _ _ _ _ => by rfl) (fun _ _ _ _ E _ _ hr' => (pe_me1 Cl.cl A.power hr' (by decide) (passes_call (takes_of rfl rfl rfl rfl) (fun _ _ _ _ h => h)) (pv 1) (pa_cons (pv 7) pa_nil)))) pa_nil))) pa_nil)))
      (pss_cons (ps_expr (pe_bm PySem.F.plainAttrs_list PySem.F.slot_list_append PySem.F.type_list_append mt_append (pv 2) (pa_cons (pe_lst (pa_cons (pv 5) (pa_cons (pe_told (k := 8) (t := fun E => (tMeth C "raised" (spRaised K C CN) [] E (tVar 1) (tCons (tVar 5) tNil))) (by rfl) R TB rfl hmT hu (hr.mono (by decide)) (LamX.lamS_by (by show LamX.lamSB (defScope sNumR) _ = true; decide +kernel)) rfl (fun _ _ _ _ _ => by rfl) (fun _ _ _ _ E _ _ hr' => (pe_me1 Cl.cl A.raised hr' (by decide) (passes_call (takes_of rfl rfl rfl rfl) (fun _ _ _ _ h => h)) (pv 1) (pa_cons (pv 5) pa_nil)))) pa_nil))) pa_nil)))
      (pss_cons (ps_expr (pe_bm PySem.F.plainAttrs_list PySem.F.slot_list_append PySem.F.type_list_append mt_append (pv 2) (pa_cons (pe_lst (pa_cons (pv 4) (pa_cons (pe_told (k := 8) (t := fun E => (tMeth C "turned_round" (spTurned K C CN CR) [] E (tVar 1) (tCons (tVar 4) tNil))) (by rfl) R TB rfl hmT hu (hr.mono (by decide)) (LamX.lamS_by (by show LamX.lamSB (defScope sNumR) _ = true; decide +kernel)) rfl (fun _ _ _ _ _ => by rfl) (fun _ _ _ _ E _ _ hr' => (pe_me1 Cl.cl A.turned hr' (by decide) (passes_call (takes_of rfl rfl rfl rfl) (fun _ _ _ _ h => h)) (pv 1) (pa_cons (pv 4) pa_nil)))) pa_nil))) pa_nil)))
      (pss_cons (ps_expr (pe_bm PySem.F.plainAttrs_list PySem.F.slot_list_append PySem.F.type_list_append mt_append (pv 2) (pa_cons (pe_lst (pa_cons (pv 8) (pa_cons (pe_told (k := 8) (t := fun E => (tCallO C (spValX K C CN) (WE fun cls d _ H => E cls d H) (tVar 1) (tCons (tVar 8) tNil))) (by rfl) R TB rfl hmT hu (hr.mono (by decide)) (LamX.lamS_by (by show LamX.lamSB (defScope sNumR) _ = true; decide +kernel)) rfl (fun _ _ _ _ _ => by rfl) (fun _ _ _ _ E _ _ hr' => (pe_cl1 A.call hr' (by decide) (takes_of rfl rfl rfl rfl) (pv 1) (pa_cons (pv 8) pa_nil)))) pa_nil))) pa_nil)))
      (pss_one (ps_ret (pe_callB (cr_all rfl) (by rfl) Tx.all (by decide +kernel) (pa_cons (pe_lc (own := [("_law_given", 9), ("_law_told_here", 10)]) (g := gUnl K 2 (gCons (gName 9) (gCons (gName 10) gNil))) (tt := tYes) rfl scNumR.nd (pi_list (pv 2)) (blkOk_by (N := ["_law_dice_here", "_law_poly", "_law_rows", "_law_few", "_law_wide", "_law_lift", "_law_other", "_law_often", "_law_value", "_law_given", "_law_told_here"]) (sc := defScope sNumR) (by decide +kernel)) (fun _ _ _ _ _ => pg_unl rfl (pgs_cons (pg_name (i := 9) scNumR.nd rfl (Or.inl rfl)) (pgs_cons (pg_name (i := 10) scNumR.nd rfl (Or.inl rfl)) pgs_nil))) (fun _ _ _ _ _ => pts_nil) (fun _ _ _ _ _ => by exact (pe_cmpR op_eq (pe_callB (r := rReprX K) (call_reprX hg hr.units) (by rfl) T2.repr (by decide +kernel) (pa_cons (pv 10) pa_nil)) (pe_callB (r := rReprX K) (call_reprX hg hr.units) (by rfl) T2.repr (by decide +kernel) (pa_cons (pe_tup (pa_cons pe_str (pa_cons (pv 9) pa_nil))) pa_nil)) (nomark _)))) pa_nil)))))))))))))))), ?_⟩
    have sz : (100000 : Nat) < sizeLine := by decide
    walk_at "rd"
    refine g_mkP (ns := [1, 1]) (fun Q0 k0 => ⟨by show 2 ≤ sizeLine; decide, fun t ht => k0 _ _ (Ext.new ht) (SqT.of upd_same)⟩) (by decide) (fun n hn => by simp at hn; subst hn; decide) (fun H1 p u e1 h1 => ?_)
    have h1 : PolyU K C H1 p u [1, 1] := h1
    walk_at "rd"
    refine ⟨Nat.zero_le _, fun r hr0 => ?_⟩
    refine ⟨by show 2 ≤ sizeLine; decide, fun z hz => ?_⟩
    refine ⟨z, _, rfl, SqT.of upd_same, rfl, _, _, rfl, ?_⟩
    refine ⟨_, _, rfl, rfl, ?_⟩
    have er := Ext.new (o := HO.lst []) hr0
    have ez := Ext.new (o := HO.tup [V.ref p, V.ref r]) hz
    have e2 := Ext.trans er ez
    have h2 := h1.ext e2
    have r2 := ez _ _ (upd_same : upd H1 r (.lst []) r = _)
    have hd2 := hd.ext (Ext.trans e1 e2)
    have hT2 := hT.ext (Ext.trans e1 e2)
    have nrd : r ≠ d := fun q => by
      obtain ⟨_, _, _, g, _⟩ := hd.ext e1
      rw [← q, hr0] at g
      cases g
    have rH : H r = none := by
      cases q : H r with
      | none => rfl
      | some o =>
        have := e1 _ _ q
        rw [hr0] at this
        cases this
    have E2 : Ext H (upd (upd H1 r (.lst [])) z (.tup [V.ref p, V.ref r])) := Ext.trans e1 e2
    generalize upd (upd H1 r (.lst [])) z (.tup [V.ref p, V.ref r]) = H2 at h2 r2 hd2 hT2 E2
    clear e1 e2 er ez hz h1
    walk_at "rd"
    refine ⟨d, 24, rfl, hd2, fun H3 few b3 hd3 o3 => ?_⟩
    walk_at "rd"
    refine ⟨d, 2000, rfl, hd3, fun H4 wide b4 hd4 o4 => ?_⟩
    walk_at "rd"
    refine ⟨d, 400, rfl, hd4, fun H5 lift b5 hd5 o5 => ?_⟩
    refine ⟨by show 3 ≤ sizeLine; decide, fun z hz => ?_⟩
    refine ⟨z, _, rfl, SqT.of upd_same, rfl, _, _, rfl, ?_⟩
    refine ⟨_, _, rfl, ?_⟩
    refine ⟨_, _, rfl, rfl, ?_⟩
    have e6 := Ext.new (o := HO.tup [few, wide, lift]) hz
    have b25 := (b3.trans b4).trans b5
    have few5 := ((o3.but hd3 b4).but hd4 b5).ext e6
    have wide5 := (o4.but hd4 b5).ext e6
    have lift5 := o5.ext e6
    have pol5 := (h2.but hd2 b25).ext e6
    have r5 := e6 _ _ (b25 _ _ nrd r2)
    have B5 := ((ExtBut.of E2).trans b25).trans (ExtBut.of (d := d) e6)
    have bT5 := b25.trans (ExtBut.of (d := d) e6)
    have hd6 := hd5.ext e6
    have n6 : ∀ q, H2 q ≠ none → upd H5 z (.tup [few, wide, lift]) q ≠ none := fun q hq => by
      cases g : H2 q with
      | none => exact absurd g hq
      | some o =>
        by_cases qd : q = d
        · rw [qd]
          obtain ⟨_, _, _, g2, _⟩ := hd6
          rw [g2]
          simp
        · rw [bT5 _ _ qd g]
          simp
    generalize upd H5 z (.tup [few, wide, lift]) = H6 at few5 wide5 lift5 pol5 r5 B5 hd6 bT5
    clear o3 o4 o5 e6 hz b3 b4 b5 b25 hd3 hd4 hd5 n6 r2 h2
    walk_at "rd"
    refine ⟨d, 24, rfl, hd6, fun H7 other b7 hd7 o7 => ?_⟩
    walk_at "rd"
    refine ⟨d, 40, rfl, hd7, fun H8 often b8 hd8 o8 => ?_⟩
    refine ⟨by show 2 ≤ sizeLine; decide, fun z hz => ?_⟩
    refine ⟨z, _, rfl, SqT.of upd_same, rfl, _, _, rfl, ?_⟩
    refine ⟨_, _, rfl, rfl, ?_⟩
    have e9 := Ext.new (o := HO.tup [other, often]) hz
    have b68 := b7.trans b8
    have few9 := (few5.but hd6 b68).ext e9
    have wide9 := (wide5.but hd6 b68).ext e9
    have lift9 := (lift5.but hd6 b68).ext e9
    have other9 := (o7.but hd7 b8).ext e9
    have often9 := o8.ext e9
    have pol9 := (pol5.but hd6 b68).ext e9
    have r9 := e9 _ _ (b68 _ _ nrd r5)
    have B9 := (B5.trans b68).trans (ExtBut.of (d := d) e9)
    have bT9 := (bT5.trans b68).trans (ExtBut.of (d := d) e9)
    have hd9 := hd8.ext e9
    generalize upd H8 z (.tup [other, often]) = H9 at few9 wide9 lift9 other9 often9 pol9 r9 B9 hd9 bT9
    clear o7 o8 e9 hz b7 b8 b68 hd6 hd7 hd8 few5 wide5 lift5 pol5 r5 B5 bT5
    walk_at "rd"
    refine g_I ⟨by decide, by decide, by decide⟩ ?_
    walk_at "rd"
    refine g_I ⟨by decide, by decide, by decide⟩ ?_
    walk_at "rd"
    refine ⟨by show 1 ≤ sizeLine; decide, fun t ht => ?_⟩
    walk_at "rd"
    refine ⟨by show 1 ≤ sizeLine; decide, fun l hl => ?_⟩
    refine ⟨by show 7 ≤ sizeLine; decide, fun m hm => ?_⟩
    walk_at "rd"
    have et := Ext.new (o := HO.tup [V.int 2]) ht
    have el := Ext.new (o := HO.lst [V.int 2]) hl
    have em := Ext.new (o := HO.lst [V.non, .bl true, .str "2", .int (10 ^ 60), .int (-(10 ^ 60)), .ref t, .ref l]) hm
    have t10 := Ext.trans el em _ _ upd_same
    have l10 := em _ _ upd_same
    have e10 := Ext.trans et (Ext.trans el em)
    refine ⟨d, m, _, rfl, hd9.ext e10, SqL.of upd_same, ?_, by show 0 < 7; decide, by show 7 ≤ 1000; decide, fun H11 value b11 hd11 hx => ?_⟩
    · intro q
      obtain ⟨_, _, _, g, _⟩ := hd9
      have := Ext.trans et el _ _ g
      rw [← q, hm] at this
      cases this
    have v11 : OddI H11 [10 ^ 60, -(10 ^ 60)] value := by
      refine OddI.but (hd9.ext e10) b11 ?_
      simp only [List.mem_cons, List.not_mem_nil, or_false] at hx
      rcases hx with rfl | rfl | rfl | rfl | rfl | rfl | rfl
      · exact .inl .non
      · exact .inl (.bl _)
      · exact .inl .s2
      · exact .inr ⟨_, rfl, by simp⟩
      · exact .inr ⟨_, rfl, by simp⟩
      · exact .inl (.tup t10 (.inr rfl))
      · exact .inl (.lst l10 (.inr rfl))
    have hd10 := hd9.ext e10
    have B11 := (B9.trans (ExtBut.of (d := d) e10)).trans b11
    have bT11 := (bT9.trans (ExtBut.of (d := d) e10)).trans b11
    have S0 : St5 K C T r p u few wide lift other often value [] H11 := ⟨b11 _ _ nrd (e10 _ _ r9), fun x hx => absurd hx (List.not_mem_nil), (pol9.ext e10).but hd10 b11, (few9.ext e10).but hd10 b11, (wide9.ext e10).but hd10 b11, (lift9.ext e10).but hd10 b11,
      (other9.ext e10).but hd10 b11, (often9.ext e10).but hd10 b11, v11, tabs_but hd2 bT11 hT2⟩
    have d11 : ∃ xs, H11 d = some (.lst xs) ∧ DiceAt H11 d := by
      obtain ⟨_, _, _, g, _⟩ := id hd11
      exact ⟨_, g, hd11⟩
    clear e10 t10 l10 hx em el et hm hl ht hd10 hd9 few9 wide9 lift9 other9 often9 pol9 r9 B9 bT9 v11 b11 bT11 hd2 hT2 E2
    have w24 : ∀ i ∈ wrongs 24, ¬ (0 ≤ i ∧ i ≤ 24) := by decide +kernel
    have w2000 : ∀ i ∈ wrongs 2000, ¬ (0 ≤ i ∧ i ≤ 2000) := by decide +kernel
    have w400 : ∀ i ∈ wrongs 400, ¬ (0 ≤ i ∧ i ≤ 400) := by decide +kernel
    have w40 : ∀ i ∈ wrongs 40, ¬ (0 ≤ i ∧ i ≤ 40) := by decide +kernel
    have wv : ∀ i ∈ [10 ^ 60, -(10 ^ 60)], ¬ (-(10 ^ 60) < i ∧ i < (10 ^ 60 : Int)) := by decide +kernel
    have s24 : ∀ i ∈ wrongs 24, i ∈ nums := by decide +kernel
    have s2000 : ∀ i ∈ wrongs 2000, i ∈ nums := by decide +kernel
    have s400 : ∀ i ∈ wrongs 400, i ∈ nums := by decide +kernel
    have s40 : ∀ i ∈ wrongs 40, i ∈ nums := by decide +kernel
    have sv : ∀ i ∈ [10 ^ 60, -(10 ^ 60)], i ∈ nums := by decide +kernel
    refine g_row (CN := CN) (v := few) rfl rfl S0.rr (by decide) S0.tabs (fun E H1 Q' eN kx => ?_) (fun G1 l1 t1 eR hr' nl nt hl' ht' hT' => ?_)
    · refine ⟨_, rfl, _, rfl, few, other, false, false, rfl, (S0.few.extN eN).within w24, fun z => Bool.noConfusion z, fun _ d' hd' => kx H1 d' Ext.rfl' hd', fun z => Bool.noConfusion z, fun z => Bool.noConfusion z⟩
    have S1 := S0.next (S0.few.sub s24) eR hr' nl nt hl' ht' hT'
    have R1 := eR
    clear S0 hr' nl nt hl' ht' hT' eR
    refine g_row (CN := CN) (v := other) rfl rfl S1.rr (by show 1 < 100; decide) S1.tabs (fun E H1 Q' eN kx => ?_) (fun G2 l2 t2 eR hr' nl nt hl' ht' hT' => ?_)
    · refine ⟨_, rfl, .int 24, other, true, false, rfl, .inl ⟨24, rfl, rfl⟩, fun _ => (S1.other.extN eN).within w24, fun z => Bool.noConfusion z, fun _ _ d' hd' => kx H1 d' Ext.rfl' hd', fun _ z => Bool.noConfusion z⟩
    have S2 := S1.next (S1.other.sub s24) eR hr' nl nt hl' ht' hT'
    have R2 := R1.trans eR
    clear S1 hr' nl nt hl' ht' hT' eR R1
    refine g_row (CN := CN) (v := few) rfl rfl S2.rr (by show 2 < 100; decide) S2.tabs (fun E H1 Q' eN kx => ?_) (fun G3 l3 t3 eR hr' nl nt hl' ht' hT' => ?_)
    · refine ⟨_, rfl, few, rfl, (S2.few.extN eN).within w24, fun d' hd' => kx H1 d' Ext.rfl' hd'⟩
    have S3 := S2.next (S2.few.sub s24) eR hr' nl nt hl' ht' hT'
    have R3 := R2.trans eR
    clear S2 hr' nl nt hl' ht' hT' eR R2
    refine g_row (CN := CN) (v := other) rfl rfl S3.rr (by show 3 < 100; decide) S3.tabs (fun E H1 Q' eN kx => ?_) (fun G4 l4 t4 eR hr' nl nt hl' ht' hT' => ?_)
    · refine ⟨_, rfl, other, rfl, (S3.other.extN eN).within w24, fun d' hd' => kx H1 d' Ext.rfl' hd'⟩
    have S4 := S3.next (S3.other.sub s24) eR hr' nl nt hl' ht' hT'
    have R4 := R3.trans eR
    clear S3 hr' nl nt hl' ht' hT' eR R3
    refine g_row (CN := CN) (v := often) rfl rfl S4.rr (by show 4 < 100; decide) S4.tabs (fun E H1 Q' eN kx => ?_) (fun G5 l5 t5 eR hr' nl nt hl' ht' hT' => ?_)
    · have pN := S4.pol.extN eN
      obtain ⟨dp, ip⟩ := id pN.1
      refine ⟨_, rfl, p, dp, _, rfl, ip, rfl, _, rfl, p, u, _, often, false, rfl, pN, (S4.often.extN eN).within w40, fun z => Bool.noConfusion z, fun _ d' hd' => kx H1 d' Ext.rfl' hd'⟩
    have S5 := S4.next (S4.often.sub s40) eR hr' nl nt hl' ht' hT'
    have R5 := R4.trans eR
    clear S4 hr' nl nt hl' ht' hT' eR R4
    refine g_row (CN := CN) (v := lift) rfl rfl S5.rr (by show 5 < 100; decide) S5.tabs (fun E H1 Q' eN kx => ?_) (fun G6 l6 t6 eR hr' nl nt hl' ht' hT' => ?_)
    · have pN := S5.pol.extN eN
      obtain ⟨dp, ip⟩ := id pN.1
      refine ⟨_, rfl, p, dp, _, rfl, ip, rfl, _, rfl, p, u, _, lift, false, rfl, pN, by decide, (S5.lift.extN eN).within w400, fun z => Bool.noConfusion z, fun _ d' hd' => kx H1 d' Ext.rfl' hd'⟩
    have S6 := S5.next (S5.lift.sub s400) eR hr' nl nt hl' ht' hT'
    have R6 := R5.trans eR
    clear S5 hr' nl nt hl' ht' hT' eR R5
    refine g_row (CN := CN) (v := wide) rfl rfl S6.rr (by show 6 < 100; decide) S6.tabs (fun E H1 Q' eN kx => ?_) (fun G7 l7 t7 eR hr' nl nt hl' ht' hT' => ?_)
    · have pN := S6.pol.extN eN
      obtain ⟨dp, ip⟩ := id pN.1
      refine ⟨_, rfl, p, dp, _, rfl, ip, rfl, _, rfl, p, u, _, wide, false, rfl, pN, by decide, (S6.wide.extN eN).within w2000, fun z => Bool.noConfusion z, fun _ d' hd' => kx H1 d' Ext.rfl' hd'⟩
    have S7 := S6.next (S6.wide.sub s2000) eR hr' nl nt hl' ht' hT'
    have R7 := R6.trans eR
    clear S6 hr' nl nt hl' ht' hT' eR R6
    refine g_row (CN := CN) (v := value) rfl rfl S7.rr (by show 7 < 100; decide) S7.tabs (fun E H1 Q' eN kx => ?_) (fun G8 l8 t8 eR hr' nl nt hl' ht' hT' => ?_)
    · have pN := S7.pol.extN eN
      obtain ⟨dp, ip⟩ := id pN.1
      refine ⟨_, rfl, p, rfl, _, rfl, dp, _, ip, p, value, rfl, (S7.value.extN eN).int wv, fun d' hd' => kx H1 d' Ext.rfl' hd'⟩
    have S8 := S7.next (S7.value.sub sv) eR hr' nl nt hl' ht' hT'
    have R8 := R7.trans eR
    clear S7 hr' nl nt hl' ht' hT' eR R7
    have n8 : ([] ++ [V.ref l1] ++ [V.ref l2] ++ [V.ref l3] ++ [V.ref l4] ++ [V.ref l5] ++ [V.ref l6] ++ [V.ref l7] ++ [V.ref l8]).length = 8 := rfl
    generalize [] ++ [V.ref l1] ++ [V.ref l2] ++ [V.ref l3] ++ [V.ref l4] ++ [V.ref l5] ++ [V.ref l6] ++ [V.ref l7] ++ [V.ref l8] = items at S8 n8
    have fin : ∀ H', Ext G8 H' → Q (.bl true) H' := by
      intro H' e'
      obtain ⟨xs, g, gd⟩ := d11
      have nr : d ≠ r := fun z => nrd z.symm
      obtain ⟨a1, a2, a3, h0, hh⟩ := id gd
      refine k H' ⟨fun b o n h z => ?_, ?_, S8.tabs.ext e'⟩
      · refine e' _ _ (R8 b o (fun q => ?_) (B11 _ _ n h) z)
        rw [q, rH] at h
        cases h
      · exact ⟨a1, a2, a3, e' _ _ (R8 _ _ nr h0 (fun _ z => by cases z)), hh⟩
    walk_at "rd"
    refine ⟨.ref r, rfl, r, rfl, ⟨_, SqL.of S8.rr⟩, fun D hD => lc_list (xs := items) (fun i H' => Ext G8 H' ∧ H' D = some (.lst ((List.replicate i true).map V.bl))) ⟨Ext.new hD, upd_same⟩ (fun i H' _ q => SqL.of (q.1 _ _ S8.rr)) ?_ ?_⟩
    · rintro i x H' hi ⟨e', hD'⟩
      have hlt : i < items.length := (List.getElem?_eq_some_iff.mp hi).1
      obtain ⟨l, v, tt, rfl, _, _, hl, ht, ho⟩ := S8.rows x (List.mem_of_getElem? hi)
      obtain ⟨t, hN⟩ := numText ho (fun i hi => showI i (by simpa [nums] using hi))
      refine ⟨l, _, rfl, SqL.of (e' _ _ hl), rfl, _, _, rfl, ?_⟩
      refine ⟨_, _, rfl, rfl, ?_⟩
      refine ⟨rfl, ?_⟩
      walk_at "rd"
      refine hN K H' tt _ (ExtN.of e') (SqT.of (e' _ _ ht)) ?_
      walk_at "rd"
      refine ⟨by show 2 ≤ sizeLine; decide, fun z hz => ?_⟩
      have ez := Ext.new (o := HO.tup [V.str "number", v]) hz
      walk_at "rd"
      refine hN K _ z _ (ExtN.of (Ext.trans e' ez)) (SqT.of upd_same) ?_
      refine g_eqS ?_
      refine ⟨_, ez _ _ hD', ?_, ?_, ?_⟩
      · rw [List.length_map, List.length_replicate]
        omega
      · intro b o q
        rw [upd_ne (ne_of_none q hD)]
        exact ez _ _ (e' b o q)
      · rw [upd_same, List.replicate_succ', List.map_append]
        rfl
    · rintro H' ⟨e', hD'⟩
      walk_at "rd"
      refine ⟨D, List.replicate items.length true, rfl, SqL.of hD', ?_⟩
      rw [show (List.replicate items.length true).all id = true by simp]
      exact fin H' e'
end
end K0

set_option Elab.async false
set_option linter.all false
set_option maxRecDepth 100000
set_option maxHeartbeats 4000000
/-! Polynomials that are refused. -/
namespace K0
open PySem PySem.Spec PyProof.Rows L2 Gd
open LamX (Tabs TabB ExtN GivesTo CodeO tLam)
local macro_rules | `(tactic| walk_at "rd1") => `(tactic| first | with_reducible refine g_ret ?_ | with_reducible refine g_retN ?_ | with_reducible refine g_seq ?_ | with_reducible refine g_next ?_ | with_reducible refine g_drop ?_ | with_reducible refine g_asg ?_ | with_reducible refine g_name ?_ | with_reducible refine g_ifs ?_ | with_reducible refine g_test ?_ | with_reducible refine g_tb ?_ | with_reducible refine g_and ?_ | with_reducible refine g_or ?_ | with_reducible refine g_not ?_ | with_reducible refine g_andV ?_ | with_reducible refine g_orV ?_ | with_reducible refine g_notV ?_ | with_reducible refine g_if ?_ | with_reducible refine g_op ?_ | with_reducible refine g_un ?_ | with_reducible refine g_cb ?_ | with_reducible refine g_nil ?_ | with_reducible refine g_cons ?_ | with_reducible refine g_call ?_ | with_reducible refine g_callS ?_ | with_reducible refine g_tup ?_ | with_reducible refine g_lst ?_ | with_reducible refine g_isN ?_ | with_reducible refine g_sl ?_ | with_reducible refine g_nopart ?_ | with_reducible refine g_part ?_ | with_reducible refine g_chain ?_ | with_reducible refine g_fld ?_ | with_reducible refine g_prop ?_ | with_reducible refine g_bm ?_ | with_reducible refine g_bm0 ?_ | with_reducible refine g_c ?_ | with_reducible refine g_sub ?_ | with_reducible refine g_int1 ?_ | with_reducible refine g_int2 ?_ | with_reducible refine g_yes ?_ | with_reducible refine g_sfld ?_ | with_reducible refine g_NT ?_ | with_reducible refine g_NF ?_ | with_reducible refine iteT ?_ | with_reducible refine iteF ?_ | ((with_reducible refine' g_aug ?hv ?_); (case hv => exact rfl)) | ((with_reducible refine' g_var ?hv ?_); (case hv => exact rfl)) | with_reducible refine g_I0 ?_ | with_reducible refine g_U ?_ | with_reducible refine g_eqI ?_ | with_reducible refine g_blV ?_ | with_reducible refine g_inV ?_)
local macro_rules | `(tactic| walk_at "rd") => `(tactic| repeat walk_at "rd1")
section
variable {P : Program} {w : World} {K : PySem.W.Frag} {mg : Str → Option Value} {base : Heap} {f C CK CN CP CT CR t0 : Addr} {fd : FuncData}
def rTup (K : PySem.W.Frag) : List V → Hp → VK → Prop := fun xs H Q => ∃ p ys, xs = [.ref p] ∧ ((SqL K H p ys ∧ ∀ l, H l = none → Q (.ref l) (upd H l (.tup ys))) ∨ (SqT K H p ys ∧ Q (.ref p) H))
abbrev sPolR : Stmt := top 53
abbrev qPolR : Str := "_law_polys_right.<locals>.<lambda>"
theorem dice_none {H : Hp} {d l : Addr} (h : DiceAt H d) (e : H l = none) : l ≠ d := by
  obtain ⟨a, b, c, h, _⟩ := h
  intro z
  subst z
  rw [e] at h
  cases h
theorem tabs_lst {T : List (Addr × Str)} {H : Hp} {r : Addr} {xs zs : List V} (hr : H r = some (.lst xs)) (t : Tabs T H) : Tabs T (upd H r (.lst zs)) := fun p hp => by
  obtain ⟨ps, h1, h2, h3⟩ := t p hp
  refine ⟨ps, ?_, h2, fun pos cv hc => ?_⟩
  · rw [upd_ne (fun z => by rw [z, hr] at h1; cases h1)]
    exact h1
  · obtain ⟨c0, e1, e2⟩ := h3 pos cv hc
    refine ⟨c0, e1, ?_⟩
    rw [upd_ne (fun z => by rw [z, hr] at e2; unfold CodeO at e2; cases e2)]
    exact e2
/-- what spoils a row of factors -/
inductive Bad1 (C : Addr) (H : Hp) : V → Prop
  | non : Bad1 C H .non
  | bl (b : Bool) : Bad1 C H (.bl b)
  | str (s : Str) : Bad1 C H (.str s)
  | big {i : Int} (h : ¬ (-(10 ^ 60) < i ∧ i < 10 ^ 60)) : Bad1 C H (.int i)
  | tup {a : Addr} {xs : List V} (h : H a = some (.tup xs)) : Bad1 C H (.ref a)
  | lst {a : Addr} {i : Int} (h : H a = some (.lst [.int i])) : Bad1 C H (.ref a)
  | ins {a dx : Addr} {fs : List (Str × V)} (h : H a = some (.ins C dx fs)) : Bad1 C H (.ref a)
theorem Bad1.extN {H H' : Hp} {x : V} (e : ExtN H H') (h : Bad1 C H x) : Bad1 C H' x := by
  cases h with
  | non => exact .non
  | bl b => exact .bl b
  | str s => exact .str s
  | big h => exact .big h
  | tup h => exact .tup (e _ _ h (fun _ z => by cases z))
  | lst h => exact .lst (e _ _ h (fun _ z => by cases z))
  | ins h => exact .ins (e _ _ h (fun _ z => by cases z))
theorem Bad1.but {d : Addr} {H H' : Hp} {x : V} (hd : DiceAt H d) (e : ExtBut d H H') (h : Bad1 C H x) : Bad1 C H' x := by
  obtain ⟨_, _, _, g, _⟩ := hd
  cases h with
  | non => exact .non
  | bl b => exact .bl b
  | str s => exact .str s
  | big h => exact .big h
  | tup h => exact .tup (e _ _ (fun z => by rw [z, g] at h; cases h) h)
  | lst h => exact .lst (e _ _ (fun z => by rw [z, g] at h; cases h) h)
  | ins h => exact .ins (e _ _ (fun z => by rw [z, g] at h; cases h) h)
theorem Bad1.int {H : Hp} {x : V} (Cl : PC K mg C) (ni : PySem.W.kitOne K (.ref C) (.type "int") = some false) (nb : PySem.W.kitOne K (.ref C) (.type "bool") = some false) (h : Bad1 C H x) : IntB K H x false := by
  cases h with
  | non => exact .inr ⟨whole_non, rfl⟩
  | bl b => exact .inr ⟨whole_bl, rfl⟩
  | str s => exact .inr ⟨whole_str, rfl⟩
  | big h => exact .inl ⟨_, rfl, (decide_eq_false h).symm⟩
  | tup h => exact .inr ⟨whole_tup h, rfl⟩
  | lst h => exact .inr ⟨⟨_, false, false, .base (.lst h), by kernel_rfl, by kernel_rfl, rfl⟩, rfl⟩
  | ins h => exact .inr ⟨⟨_, false, false, Cl.ty h, ni, nb, rfl⟩, rfl⟩
/-- what is no row of factors -/
inductive Bad (K : PySem.W.Frag) (C : Addr) (H : Hp) : V → Prop
  | non : Bad K C H .non
  | str (s : Str) : Bad K C H (.str s)
  | int (i : Int) : Bad K C H (.int i)
  | lst {a : Addr} {i : Int} (h : H a = some (.lst [.int i])) : Bad K C H (.ref a)
  | dct {a : Addr} (h : H a = some (.dK [])) : Bad K C H (.ref a)
  | ins {a dx : Addr} {fs : List (Str × V)} (h : H a = some (.ins C dx fs)) : Bad K C H (.ref a)
  | long {a : Addr} {xs : List V} (h : H a = some (.tup xs)) (l : 400 < xs.length) (m : xs.length ≤ 100000) : Bad K C H (.ref a)
  | tup {a : Addr} {pre post : List Int} {y : V} (h : H a = some (.tup (pre.map V.int ++ y :: post.map V.int))) (l : pre.length + post.length ≤ 300) (hy : Bad1 C H y) : Bad K C H (.ref a)
theorem Bad.extN {H H' : Hp} {x : V} (e : ExtN H H') (h : Bad K C H x) : Bad K C H' x := by
  cases h with
  | non => exact .non
  | str s => exact .str s
  | int i => exact .int i
  | lst h => exact .lst (e _ _ h (fun _ z => by cases z))
  | dct h => exact .dct (e _ _ h (fun _ z => by cases z))
  | ins h => exact .ins (e _ _ h (fun _ z => by cases z))
  | long h l m => exact .long (e _ _ h (fun _ z => by cases z)) l m
  | tup h l hy => exact .tup (e _ _ h (fun _ z => by cases z)) l (hy.extN e)
theorem Bad.but {d : Addr} {H H' : Hp} {x : V} (hd : DiceAt H d) (e : ExtBut d H H') (h : Bad K C H x) : Bad K C H' x := by
  obtain ⟨_, _, _, g, _⟩ := id hd
  cases h with
  | non => exact .non
  | str s => exact .str s
  | int i => exact .int i
  | lst h => exact .lst (e _ _ (fun z => by rw [z, g] at h; cases h) h)
  | dct h => exact .dct (e _ _ (fun z => by rw [z, g] at h; cases h) h)
  | ins h => exact .ins (e _ _ (fun z => by rw [z, g] at h; cases h) h)
  | long h l m => exact .long (e _ _ (fun z => by rw [z, g] at h; cases h) h) l m
  | tup h l hy => exact .tup (e _ _ (fun z => by rw [z, g] at h; cases h) h) l (hy.but hd e)
theorem Bad.badF {H : Hp} {x : V} (Cl : PC K mg C) (nt : PySem.W.kitOne K (.ref C) (.type "tuple") = some false) (ni : PySem.W.kitOne K (.ref C) (.type "int") = some false) (nb : PySem.W.kitOne K (.ref C) (.type "bool") = some false) (h : Bad K C H x) : BadF K H x := by
  cases h with
  | non => exact .inl ⟨_, .base .non, by kernel_rfl⟩
  | str s => exact .inl ⟨_, .base (.str _), by kernel_rfl⟩
  | int i => exact .inl ⟨_, .base (.int _), by kernel_rfl⟩
  | lst h => exact .inl ⟨_, .base (.lst h), by kernel_rfl⟩
  | dct h => exact .inl ⟨_, .base (.dK h), by kernel_rfl⟩
  | ins h => exact .inl ⟨_, Cl.ty h, nt⟩
  | long h l m => exact .inr (.inl ⟨_, _, rfl, SqT.of h, l, m⟩)
  | @tup a pre post y h l hy =>
    refine .inr (.inr ⟨_, _, pre.map (fun i => decide (-(10 ^ 60) < i ∧ i < 10 ^ 60)) ++ false :: post.map (fun i => decide (-(10 ^ 60) < i ∧ i < 10 ^ 60)), rfl, SqT.of h, by simp; omega, ⟨by simp, fun i x b hx hb H' e => ?_⟩, by simp⟩)
    by_cases h1 : i < pre.length
    · rw [List.getElem?_append_left (by simpa using h1), List.getElem?_map, List.getElem?_eq_getElem h1] at hx hb
      cases hx
      cases hb
      exact .inl ⟨_, rfl, rfl⟩
    · rw [List.getElem?_append_right (by simpa using Nat.le_of_not_lt h1), List.length_map] at hx hb
      cases q : i - pre.length with
      | zero =>
        rw [q] at hx hb
        cases hx
        cases hb
        exact (hy.extN (ExtN.of e)).int Cl ni nb
      | succ j =>
        rw [q, List.getElem?_cons_succ, List.getElem?_map] at hx hb
        cases g : post[j]? with
        | none =>
          rw [g] at hx
          cases hx
        | some n =>
          rw [g] at hx hb
          cases hx
          cases hb
          exact .inl ⟨_, rfl, rfl⟩
theorem g_repV {H : Hp} {Q : VK} {a : Addr} {n : Nat} {v : V} (ha : SqT K H a [v]) (h1 : n ≤ 100000) (h2 : n ≠ 1) (k : ∀ g, H g = none → Q (.ref g) (upd H g (.tup (List.replicate n v)))) : rRepB K (.ref a) (.int (n : Int)) H Q := by
  refine ⟨a, _, _, rfl, rfl, ha, by simp, by omega, by omega, by show 1 ≤ 10; decide, fun e => absurd e (by omega), fun _ p hp => ?_⟩
  have e : (List.replicate ((n : Int)).toNat [v]).flatten = List.replicate n v := by rw [Int.toNat_natCast]; simp
  rw [e]
  exact k p hp
theorem g_mkBad {H : Hp} {Q : VK} {E : XK} {ta : TA} {σ : L2.St} (Cl : PC K mg C) (nt : PySem.W.kitOne K (.ref C) (.type "tuple") = some false) (ni : PySem.W.kitOne K (.ref C) (.type "int") = some false) (nb : PySem.W.kitOne K (.ref C) (.type "bool") = some false)
    (h : ∀ Q' : List V → Hp → Prop, (∀ H1 x, Ext H H1 → Bad K C H1 x → Q' [x] H1) → ta σ H Q') (k : ∀ H', Ext H H' → E (.ref CP) none H') : tMake C (spInitX K C CP) [] E ta σ H Q :=
  h _ fun H1 x e hb p dx hp hdx ne => ⟨p, dx, x, rfl, upd_same, .inr ⟨(hb.extN (ExtN.of (made_ext hp hdx))).badF Cl nt ni nb, fun H' e2 => k H' (Ext.trans e (Ext.trans (made_ext hp hdx) e2))⟩⟩
theorem g_mkFine {H : Hp} {Q : VK} {E : XK} {ta : TA} {σ : L2.St} {ns : List Int} (h : ∀ Q' : List V → Hp → Prop, (∀ H1 a, Ext H H1 → SqT K H1 a (ns.map V.int) → Q' [.ref a] H1) → ta σ H Q') (hl : ns.length ≤ 400) (hB : Big ns)
    (k : ∀ H' p u, Ext H H' → PolyU K C H' p u (trim ns) → Q (.ref p) H') : tMake C (spInitX K C CP) [] E ta σ H Q :=
  h _ fun H1 a e hs p dx hp hdx ne => ⟨p, dx, .ref a, rfl, upd_same, .inl ⟨a, ns, rfl, sqT_ext (made_ext hp hdx) hs, hl, hB, fun H' u e2 h1 hu => ⟨rfl, k H' p u (Ext.trans e (fun b o q => e2 b o (ne_of_none q hp) (made_ext hp hdx b o q))) ⟨⟨dx, h1⟩, hu, by have := trim_len ns; omega⟩⟩⟩⟩
theorem scPolR : FnScope ["_law_dice_here", "_law_menu", "_law_bad", "_law_at", "_law_good", "_law_spoilt", "_law_told_here"] ["_law_dice_here"] (defScope sPolR) := ⟨rfl, rfl, rfl, by decide +kernel, rfl, by decide +kernel, by decide +kernel⟩
def spPolR (T : List (Addr × Str)) : Sp := fun vs H Q _ => ∃ d : Addr, vs = [.ref d] ∧ DiceAt H d ∧ Tabs T H ∧ ∀ H', Keep T d H H' → Q (.bl true) H'
theorem ok_polR {c Pt : Addr} {T : List (Addr × Str)} (F : Fun K "_law_polys_right" "_law_polys_right" sPolR f fd) (hc : fd.code = .ref c) (TB : TabB base mg c Pt) (hmT : (Pt, qPolR) ∈ T) (hu : ∀ p ∈ T, p.1 = Pt → p.2 = qPolR)
    (Tx : Txt K mg) (T2 : Txt2 mg) (Cl : PC K mg C) (A : Has5 P w K mg base C CN CT CR CP t0) (R : Told K mg CK CP CN CT) (nt : PySem.W.kitOne K (.ref C) (.type "tuple") = some false) (ni : PySem.W.kitOne K (.ref C) (.type "int") = some false) (nb : PySem.W.kitOne K (.ref C) (.type "bool") = some false) :
    FnG P w K mg base CX0 12 f fd ["_law_dice_here"] (spPolR T) := by
  refine fnGc F hc scPolR (fun vs H Q E h => ?_) (fun Ar outer s H vs Q E hg hr h => ?_)
  · obtain ⟨d, rfl, _⟩ := h
    rfl
  · obtain ⟨d, rfl, hd, hT, k⟩ := h
    refine ⟨_, PSs.nox (pss_cons (ps_set (i := 1) scPolR.nd rfl (Or.inl rfl) (pe_lst (pa_cons pe_non (pa_cons (pe_lst (pa_cons pe_int pa_nil)) (pa_cons pe_str (pa_cons pe_int (pa_cons (pe_tup (pa_cons pe_int (pa_cons pe_bl pa_nil))) (pa_cons (pe_tup (pa_cons pe_int (pa_cons pe_non pa_nil))) (pa_cons (pe_tup (pa_cons pe_int (pa_cons pe_str pa_nil))) (pa_cons (pe_tup (pa_cons (pe_tup (pa_cons pe_int pa_nil)) pa_nil)) (pa_cons (pe_tup (pa_cons (pe_op op_pow pe_int pe_int) pa_nil)) (pa_cons (pe_tup (pa_cons pe_int (pa_cons (pe_op op_sub pe_int (pe_op op_pow pe_int pe_int)) pa_nil))) (pa_cons (pe_dnewK) (pa_cons (pe_op op_repB (pe_tup (pa_cons pe_int pa_nil)) pe_int) pa_nil))))))))))))))
      (pss_cons (ps_set (i := 2) scPolR.nd rfl (Or.inr rfl) (pe_def A.pick hr (by decide) (by rfl) (pa_cons (pv 0) (pa_cons (pe_op op_cat (pv 1) (pe_lst (pa_cons (pe_op op_repB (pe_tup (pa_cons pe_int pa_nil)) pe_int) (pa_cons (pe_tup (pa_cons pe_int (pa_cons pe_int (pa_cons (pe_lst (pa_cons pe_int pa_nil)) pa_nil)))) (pa_cons (pe_mk1 A.ini hr (by decide) (by rfl) Cl.g (pa_cons (pe_tup (pa_cons pe_int pa_nil)) pa_nil)) (pa_cons (pe_tup (pa_cons (pe_mk1 A.ini hr (by decide) (by rfl) Cl.g (pa_cons (pe_tup (pa_cons pe_int pa_nil)) pa_nil)) pa_nil)) pa_nil)))))) pa_nil))))
      (pss_cons (ps_asg (pe_tup (pa_cons (pe_def A.roll hr (by decide) (by rfl) (pa_cons (pv 0) (pa_cons pe_int pa_nil))) (pa_cons (pe_lst (pa_cons pe_int (pa_cons pe_int (pa_cons pe_int (pa_cons pe_int (pa_cons pe_int (pa_cons pe_int pa_nil))))))) pa_nil))) (pg_tup rfl (pgs_cons (pg_name (i := 3) scPolR.nd rfl (Or.inl rfl)) (pgs_cons (pg_name (i := 4) scPolR.nd rfl (Or.inr rfl)) pgs_nil))))
      (pss_cons (ps_set (i := 5) scPolR.nd rfl (Or.inr rfl) (pe_op op_cat (pe_op op_cat (pe_slice sl_list (pv 4) po_none (po_some (pv 3))) (pe_lst (pa_cons (pe_def A.pick hr (by decide) (by rfl) (pa_cons (pv 0) (pa_cons (pe_lst (pa_cons pe_non (pa_cons pe_bl (pa_cons pe_str (pa_cons (pe_tup (pa_cons pe_int pa_nil)) (pa_cons (pe_op op_pow pe_int pe_int) pa_nil)))))) pa_nil))) pa_nil))) (pe_slice sl_list (pv 4) (po_some (pe_op op_add (pv 3) pe_int)) po_none)))
      (pss_cons (ps_set (i := 6) scPolR.nd rfl (Or.inl rfl) (pe_lst (pa_cons (pe_told (k := 8) (t := fun E => (tMake C (spInitX K C CP) [] E (tCons (tVar 2) tNil))) (by rfl) R TB rfl hmT hu (hr.mono (by decide)) (LamX.lamS_by (by show LamX.lamSB (defScope sPolR) _ = true; decide +kernel)) rfl (fun _ _ _ _ _ => by rfl) (fun _ _ _ _ E _ _ hr' => (pe_mkX A.iniX (passes_call (takes_of rfl rfl rfl rfl) (fun _ _ _ _ h => h)) hr' (by decide) (by rfl) Cl.g (pa_cons (pv 2) pa_nil)))) pa_nil)))
      (pss_cons (ps_expr (pe_bm PySem.F.plainAttrs_list PySem.F.slot_list_append PySem.F.type_list_append mt_append (pv 6) (pa_cons (pe_told (k := 8) (t := fun E => (tMake C (spInitX K C CP) [] E (tCons (tCB (rTup K) (tCons (tVar 5) tNil)) tNil))) (by rfl) R TB rfl hmT hu (hr.mono (by decide)) (LamX.lamS_by (by show LamX.lamSB (defScope sPolR) _ = true; decide +kernel)) rfl (fun _ _ _ _ _ => by rfl) (fun _ _ _ _ E _ _ hr' => (pe_mkX A.iniX (passes_call (takes_of rfl rfl rfl rfl) (fun _ _ _ _ h => h)) hr' (by decide) (by rfl) Cl.g (pa_cons (pe_callTy call_tuple_of (by rfl) Tx.tuple (by decide +kernel) (pa_cons (pv 5) pa_nil)) pa_nil)))) pa_nil)))
      (pss_cons (ps_expr (pe_bm PySem.F.plainAttrs_list PySem.F.slot_list_append PySem.F.type_list_append mt_append (pv 6) (pa_cons (pe_told (k := 8) (t := fun E => (tMake C (spInitX K C CP) [] E (tCons (tCB (rTup K) (tCons (tVar 4) tNil)) tNil))) (by rfl) R TB rfl hmT hu (hr.mono (by decide)) (LamX.lamS_by (by show LamX.lamSB (defScope sPolR) _ = true; decide +kernel)) rfl (fun _ _ _ _ _ => by rfl) (fun _ _ _ _ E _ _ hr' => (pe_mkX A.iniX (passes_call (takes_of rfl rfl rfl rfl) (fun _ _ _ _ h => h)) hr' (by decide) (by rfl) Cl.g (pa_cons (pe_callTy call_tuple_of (by rfl) Tx.tuple (by decide +kernel) (pa_cons (pv 4) pa_nil)) pa_nil)))) pa_nil)))
      (pss_cons (ps_expr (pe_bm PySem.F.plainAttrs_list PySem.F.slot_list_append PySem.F.type_list_append mt_append (pv 6) (pa_cons (pe_told (k := 8) (t := fun E => (tMake C (spInitX K C CP) [] E (tCons (tTup (tCons (tOp (rI0 fun i j => .int (i - j)) (tOp (rI CPow fun i j => .int (i ^ j.toNat)) (tC (.int 10)) (tC (.int 60))) (tC (.int 1))) (tCons (tOp (rI0 fun i j => .int (i - j)) (tC (.int 1)) (tOp (rI CPow fun i j => .int (i ^ j.toNat)) (tC (.int 10)) (tC (.int 60)))) tNil))) tNil))) (by rfl) R TB rfl hmT hu (hr.mono (by decide)) (LamX.lamS_by (by show LamX.lamSB (defScope sPolR) _ = true; decide +kernel)) rfl (fun _ _ _ _ _ => by rfl) (fun _ _ _ _ E _ _ hr' => (pe_mkX A.iniX (passes_call (takes_of rfl rfl rfl rfl) (fun _ _ _ _ h => h)) hr' (by decide) (by rfl) Cl.g (pa_cons (pe_tup (pa_cons (pe_op op_sub (pe_op op_pow pe_int pe_int) pe_int) (pa_cons (pe_op op_sub pe_int (pe_op op_pow pe_int pe_int)) pa_nil))) pa_nil)))) pa_nil)))
      (pss_one (ps_ret (pe_cmpR (op_eqD hr.units) (pv 6) (pe_lst (pa_cons pe_str (pa_cons pe_str (pa_cons pe_str (pa_cons pe_str pa_nil))))) (nomark _)))))))))))), ?_⟩
    have sz : (100000 : Nat) < sizeLine := by decide
    walk_at "rd"
    refine ⟨by show 1 ≤ sizeLine; decide, fun a1 na1 => ?_⟩
    have e1 := Ext.new (o := HO.lst [V.int 1]) na1
    have fa1 : upd H a1 (HO.lst [V.int 1]) a1 = some (HO.lst [V.int 1]) := upd_same
    generalize upd H a1 (HO.lst [V.int 1]) = H1 at e1 fa1
    walk_at "rd"
    refine ⟨by show 2 ≤ sizeLine; decide, fun a2 na2 => ?_⟩
    have e2 := Ext.new (o := HO.tup [V.int 1, .bl true]) na2
    have fa2 : upd H1 a2 (HO.tup [V.int 1, .bl true]) a2 = some (HO.tup [V.int 1, .bl true]) := upd_same
    generalize upd H1 a2 (HO.tup [V.int 1, .bl true]) = H2 at e2 fa2
    walk_at "rd"
    refine ⟨by show 2 ≤ sizeLine; decide, fun a3 na3 => ?_⟩
    have e3 := Ext.new (o := HO.tup [V.int 1, .non]) na3
    have fa3 : upd H2 a3 (HO.tup [V.int 1, .non]) a3 = some (HO.tup [V.int 1, .non]) := upd_same
    generalize upd H2 a3 (HO.tup [V.int 1, .non]) = H3 at e3 fa3
    walk_at "rd"
    refine ⟨by show 2 ≤ sizeLine; decide, fun a4 na4 => ?_⟩
    have e4 := Ext.new (o := HO.tup [V.int 1, .str "2"]) na4
    have fa4 : upd H3 a4 (HO.tup [V.int 1, .str "2"]) a4 = some (HO.tup [V.int 1, .str "2"]) := upd_same
    generalize upd H3 a4 (HO.tup [V.int 1, .str "2"]) = H4 at e4 fa4
    walk_at "rd"
    refine ⟨by show 1 ≤ sizeLine; decide, fun b5 nb5 => ?_⟩
    have e5 := Ext.new (o := HO.tup [V.int 1]) nb5
    have fb5 : upd H4 b5 (HO.tup [V.int 1]) b5 = some (HO.tup [V.int 1]) := upd_same
    generalize upd H4 b5 (HO.tup [V.int 1]) = H5 at e5 fb5
    walk_at "rd"
    refine ⟨by show 1 ≤ sizeLine; decide, fun a5 na5 => ?_⟩
    have e6 := Ext.new (o := HO.tup [V.ref b5]) na5
    have fa5 : upd H5 a5 (HO.tup [V.ref b5]) a5 = some (HO.tup [V.ref b5]) := upd_same
    generalize upd H5 a5 (HO.tup [V.ref b5]) = H6 at e6 fa5
    walk_at "rd"
    refine g_I ⟨by decide, by decide, by decide⟩ ?_
    walk_at "rd"
    refine ⟨by show 1 ≤ sizeLine; decide, fun a6 na6 => ?_⟩
    have e7 := Ext.new (o := HO.tup [V.int (10 ^ Int.toNat 60)]) na6
    have fa6 : upd H6 a6 (HO.tup [V.int (10 ^ Int.toNat 60)]) a6 = some (HO.tup [V.int (10 ^ Int.toNat 60)]) := upd_same
    generalize upd H6 a6 (HO.tup [V.int (10 ^ Int.toNat 60)]) = H7 at e7 fa6
    walk_at "rd"
    refine g_I ⟨by decide, by decide, by decide⟩ ?_
    walk_at "rd"
    refine ⟨by show 2 ≤ sizeLine; decide, fun a7 na7 => ?_⟩
    have e8 := Ext.new (o := HO.tup [V.int 1, V.int (0 - 10 ^ Int.toNat 60)]) na7
    have fa7 : upd H7 a7 (HO.tup [V.int 1, V.int (0 - 10 ^ Int.toNat 60)]) a7 = some (HO.tup [V.int 1, V.int (0 - 10 ^ Int.toNat 60)]) := upd_same
    generalize upd H7 a7 (HO.tup [V.int 1, V.int (0 - 10 ^ Int.toNat 60)]) = H8 at e8 fa7
    walk_at "rd"
    intro a8 na8
    have e9 := Ext.new (o := HO.dK []) na8
    have fa8 : upd H8 a8 (HO.dK []) a8 = some (HO.dK []) := upd_same
    generalize upd H8 a8 (HO.dK []) = H9 at e9 fa8
    walk_at "rd"
    refine ⟨by show 1 ≤ sizeLine; decide, fun z9 nz9 => ?_⟩
    have e10 := Ext.new (o := HO.tup [V.int 0]) nz9
    have fz9 : upd H9 z9 (HO.tup [V.int 0]) z9 = some (HO.tup [V.int 0]) := upd_same
    generalize upd H9 z9 (HO.tup [V.int 0]) = H10 at e10 fz9
    walk_at "rd"
    show rRepB K (.ref z9) (.int ((401 : Nat) : Int)) _ _
    refine g_repV (SqT.of fz9) (by decide) (by decide) (fun a9 na9 => ?_)
    have e11 := Ext.new (o := HO.tup (List.replicate 401 (V.int 0))) na9
    have fa9 : upd H10 a9 (HO.tup (List.replicate 401 (V.int 0))) a9 = some (HO.tup (List.replicate 401 (V.int 0))) := upd_same
    generalize upd H10 a9 (HO.tup (List.replicate 401 (V.int 0))) = H11 at e11 fa9
    refine ⟨by show 12 ≤ sizeLine; decide, fun m nm => ?_⟩
    have e12 := Ext.new (o := HO.lst [V.non, .ref a1, .str "1", .int 1, .ref a2, .ref a3, .ref a4, .ref a5, .ref a6, .ref a7, .ref a8, .ref a9]) nm
    have fm : upd H11 m (HO.lst [V.non, .ref a1, .str "1", .int 1, .ref a2, .ref a3, .ref a4, .ref a5, .ref a6, .ref a7, .ref a8, .ref a9]) m = some (HO.lst [V.non, .ref a1, .str "1", .int 1, .ref a2, .ref a3, .ref a4, .ref a5, .ref a6, .ref a7, .ref a8, .ref a9]) := upd_same
    generalize upd H11 m (HO.lst [V.non, .ref a1, .str "1", .int 1, .ref a2, .ref a3, .ref a4, .ref a5, .ref a6, .ref a7, .ref a8, .ref a9]) = H12 at e12 fm
    walk_at "rd"
    refine ⟨by show 1 ≤ sizeLine; decide, fun z10 nz10 => ?_⟩
    have e13 := Ext.new (o := HO.tup [V.int 1]) nz10
    have fz10 : upd H12 z10 (HO.tup [V.int 1]) z10 = some (HO.tup [V.int 1]) := upd_same
    generalize upd H12 z10 (HO.tup [V.int 1]) = H13 at e13 fz10
    walk_at "rd"
    show rRepB K (.ref z10) (.int ((401 : Nat) : Int)) _ _
    refine g_repV (SqT.of fz10) (by decide) (by decide) (fun a10 na10 => ?_)
    have e14 := Ext.new (o := HO.tup (List.replicate 401 (V.int 1))) na10
    have fa10 : upd H13 a10 (HO.tup (List.replicate 401 (V.int 1))) a10 = some (HO.tup (List.replicate 401 (V.int 1))) := upd_same
    generalize upd H13 a10 (HO.tup (List.replicate 401 (V.int 1))) = H14 at e14 fa10
    walk_at "rd"
    refine ⟨by show 1 ≤ sizeLine; decide, fun b11 nb11 => ?_⟩
    have e15 := Ext.new (o := HO.lst [V.int 3]) nb11
    have fb11 : upd H14 b11 (HO.lst [V.int 3]) b11 = some (HO.lst [V.int 3]) := upd_same
    generalize upd H14 b11 (HO.lst [V.int 3]) = H15 at e15 fb11
    walk_at "rd"
    refine ⟨by show 3 ≤ sizeLine; decide, fun a11 na11 => ?_⟩
    have e16 := Ext.new (o := HO.tup [V.int 1, .int 2, .ref b11]) na11
    have fa11 : upd H15 a11 (HO.tup [V.int 1, .int 2, .ref b11]) a11 = some (HO.tup [V.int 1, .int 2, .ref b11]) := upd_same
    generalize upd H15 a11 (HO.tup [V.int 1, .int 2, .ref b11]) = H16 at e16 fa11
    walk_at "rd"
    refine g_mkP (ns := [1]) (fun Q0 k0 => ⟨by show 1 ≤ sizeLine; decide, fun t ht => k0 _ _ (Ext.new ht) (SqT.of upd_same)⟩) (by decide) (fun n hn => by simp at hn; subst hn; decide) (fun P1 p1 u1 ep1 hp1 => ?_)
    walk_at "rd"
    refine g_mkP (ns := [1]) (fun Q0 k0 => ⟨by show 1 ≤ sizeLine; decide, fun t ht => k0 _ _ (Ext.new ht) (SqT.of upd_same)⟩) (by decide) (fun n hn => by simp at hn; subst hn; decide) (fun P2 p2 u2 ep2 hp2 => ?_)
    walk_at "rd"
    refine ⟨by show 1 ≤ sizeLine; decide, fun a13 na13 => ?_⟩
    have e17 := Ext.new (o := HO.tup [V.ref p2]) na13
    have fa13 : upd P2 a13 (HO.tup [V.ref p2]) a13 = some (HO.tup [V.ref p2]) := upd_same
    generalize upd P2 a13 (HO.tup [V.ref p2]) = H17 at e17 fa13
    refine ⟨by show 4 ≤ sizeLine; decide, fun m2 nm2 => ?_⟩
    have e18 := Ext.new (o := HO.lst [V.ref a10, .ref a11, .ref p1, .ref a13]) nm2
    have fm2 : upd H17 m2 (HO.lst [V.ref a10, .ref a11, .ref p1, .ref a13]) m2 = some (HO.lst [V.ref a10, .ref a11, .ref p1, .ref a13]) := upd_same
    generalize upd H17 m2 (HO.lst [V.ref a10, .ref a11, .ref p1, .ref a13]) = H18 at e18 fm2
    walk_at "rd"
    have x19 := e18
    have x18 := Ext.trans e17 x19
    have x17 := Ext.trans ep2 x18
    have x16 := Ext.trans ep1 x17
    have x15 := Ext.trans e16 x16
    have x14 := Ext.trans e15 x15
    have x13 := Ext.trans e14 x14
    have x12 := Ext.trans e13 x13
    have x11 := Ext.trans e12 x12
    have x10 := Ext.trans e11 x11
    have x9 := Ext.trans e10 x10
    have x8 := Ext.trans e9 x9
    have x7 := Ext.trans e8 x8
    have x6 := Ext.trans e7 x7
    have x5 := Ext.trans e6 x6
    have x4 := Ext.trans e5 x5
    have x3 := Ext.trans e4 x4
    have x2 := Ext.trans e3 x3
    have x1 := Ext.trans e2 x2
    have x0 := Ext.trans e1 x1
    have B1 : Bad K C H18 (.ref a1) := .lst (x1 _ _ fa1)
    have B2 : Bad K C H18 (.ref a2) := .tup (pre := [1]) (post := []) (x2 _ _ fa2) (by decide) (.bl _)
    have B3 : Bad K C H18 (.ref a3) := .tup (pre := [1]) (post := []) (x3 _ _ fa3) (by decide) .non
    have B4 : Bad K C H18 (.ref a4) := .tup (pre := [1]) (post := []) (x4 _ _ fa4) (by decide) (.str _)
    have B5 : Bad K C H18 (.ref a5) := .tup (pre := []) (post := []) (x6 _ _ fa5) (by decide) (.tup (x5 _ _ fb5))
    have B6 : Bad K C H18 (.ref a6) := .tup (pre := []) (post := []) (x7 _ _ fa6) (by decide) (.big (by decide +kernel))
    have B7 : Bad K C H18 (.ref a7) := .tup (pre := [1]) (post := []) (x8 _ _ fa7) (by decide) (.big (by decide +kernel))
    have B8 : Bad K C H18 (.ref a8) := .dct (x9 _ _ fa8)
    have B9 : Bad K C H18 (.ref a9) := .long (x11 _ _ fa9) (by rw [List.length_replicate]; decide) (by rw [List.length_replicate]; decide)
    have B10 : Bad K C H18 (.ref a10) := .long (x14 _ _ fa10) (by rw [List.length_replicate]; decide) (by rw [List.length_replicate]; decide)
    have B11 : Bad K C H18 (.ref a11) := .tup (pre := [1, 2]) (post := []) (x16 _ _ fa11) (by decide) (.lst (x15 _ _ fb11))
    obtain ⟨d1, i1⟩ := id hp1.1
    obtain ⟨d2, i2⟩ := id hp2.1
    have B12 : Bad K C H18 (.ref p1) := .ins (x17 _ _ i1)
    have B13 : Bad K C H18 (.ref a13) := .tup (pre := []) (post := []) (x19 _ _ fa13) (by decide) (.ins (x18 _ _ i2))
    have hd18 := hd.ext x0
    have hT18 := hT.ext x0
    have fm18 := (x12 _ _ fm)
    have k18 := x0
    clear x19 x18 x17 x16 x15 x14 x13 x12 x11 x10 x9 x8 x7 x6 x5 x4 x3 x2 x1 x0 e1 e2 e3 e4 e5 e6 e7 e8 e9 e10 e11 e12 e13 e14 e15 e16 ep1 ep2 e17 e18 fa1 fa2 fa3 fa4 fb5 fa5 fa6 fa7 fa8 fz9 fa9 fm fz10 fa10 fb11 fa11 fa13
    refine ⟨m, m2, _, _, rfl, rfl, fm18, fm2, by show 12 + 4 ≤ sizeLine; decide, fun m3 nm3 => ?_⟩
    have e19 := Ext.new (o := HO.lst ([V.non, .ref a1, .str "1", .int 1, .ref a2, .ref a3, .ref a4, .ref a5, .ref a6, .ref a7, .ref a8, .ref a9] ++ [V.ref a10, .ref a11, .ref p1, .ref a13])) nm3
    walk_at "rd"
    refine ⟨d, m3, _, rfl, hd18.ext e19, SqL.of upd_same, dice_none hd18 nm3, by show 0 < 16; decide, by show 16 ≤ 1000; decide, fun H20 bad b20 hd20 hx => ?_⟩
    have k20 := (ExtBut.of (d := d) (Ext.trans k18 e19)).trans b20
    have Bb : Bad K C H20 bad := by
      refine Bad.but (hd18.ext e19) b20 (Bad.extN (ExtN.of e19) ?_)
      simp only [List.mem_append, List.mem_cons, List.not_mem_nil, or_false] at hx
      rcases hx with (rfl | rfl | rfl | rfl | rfl | rfl | rfl | rfl | rfl | rfl | rfl | rfl) | (rfl | rfl | rfl | rfl)
      · exact .non
      · exact B1
      · exact .str _
      · exact .int _
      · exact B2
      · exact B3
      · exact B4
      · exact B5
      · exact B6
      · exact B7
      · exact B8
      · exact B9
      · exact B10
      · exact B11
      · exact B12
      · exact B13
    have hT20 := tabs_but (hd18.ext e19) b20 (hT18.ext e19)
    clear B1 B2 B3 B4 B5 B6 B7 B8 B9 B10 B11 B12 B13 hx e19 nm3 b20 hd18 hT18 fm18 k18 fm2 hp1 hp2
    walk_at "rd"
    refine ⟨d, 6, rfl, hd20, by decide, by decide, fun H21 at' b21 hd21 r0 r1 => ?_⟩
    walk_at "rd"
    refine ⟨by show 6 ≤ sizeLine; decide, fun g ng => ?_⟩
    refine ⟨by show 2 ≤ sizeLine; decide, fun z nz => ?_⟩
    refine ⟨z, _, rfl, SqT.of upd_same, rfl, _, _, rfl, ?_⟩
    refine ⟨_, _, rfl, rfl, ?_⟩
    have eg := Ext.new (o := HO.lst [V.int 1, .int 2, .int 3, .int 4, .int 5, .int 6]) ng
    have ez := Ext.new (o := HO.tup [V.int at', V.ref g]) nz
    have gd := dice_none hd21 ng
    have G22 := ez _ _ (upd_same : upd H21 g (.lst [V.int 1, .int 2, .int 3, .int 4, .int 5, .int 6]) g = _)
    have e22 := Ext.trans eg ez
    have hd22 := hd21.ext e22
    have B22 := ((Bb.but hd20 b21).extN (ExtN.of e22))
    have k22 := (k20.trans b21).trans (ExtBut.of (d := d) e22)
    have hT22 := (tabs_but hd20 b21 hT20).ext e22
    generalize upd (upd H21 g (.lst [V.int 1, .int 2, .int 3, .int 4, .int 5, .int 6])) z (.tup [V.int at', V.ref g]) = H22 at G22 hd22 B22 k22 hT22
    clear eg ez e22 nz ng b21 hd21 Bb k20 hd20 hT20
    obtain ⟨pre, post, cp, cq, cl⟩ : ∃ pre post : List Int, cutV [V.int 1, .int 2, .int 3, .int 4, .int 5, .int 6] none (some at') = pre.map V.int ∧ cutV [V.int 1, .int 2, .int 3, .int 4, .int 5, .int 6] (some (at' + 1)) none = post.map V.int ∧ pre.length + post.length ≤ 300 := by
      obtain rfl | rfl | rfl | rfl | rfl | rfl : at' = 0 ∨ at' = 1 ∨ at' = 2 ∨ at' = 3 ∨ at' = 4 ∨ at' = 5 := by omega
      · exact ⟨[], [2, 3, 4, 5, 6], by rfl, by rfl, by decide⟩
      · exact ⟨[1], [3, 4, 5, 6], by rfl, by rfl, by decide⟩
      · exact ⟨[1, 2], [4, 5, 6], by rfl, by rfl, by decide⟩
      · exact ⟨[1, 2, 3], [5, 6], by rfl, by rfl, by decide⟩
      · exact ⟨[1, 2, 3, 4], [6], by rfl, by rfl, by decide⟩
      · exact ⟨[1, 2, 3, 4, 5], [], by rfl, by rfl, by decide⟩
    walk_at "rd"
    refine ⟨g, _, rfl, SqL.of G22, fun q1 nq1 => ?_⟩
    rw [cp]
    have eq1 := Ext.new (o := HO.lst (pre.map V.int)) nq1
    have fq1 : upd H22 q1 (.lst (pre.map V.int)) q1 = some (.lst (pre.map V.int)) := upd_same
    have q1d := dice_none hd22 nq1
    generalize upd H22 q1 (.lst (pre.map V.int)) = H23 at eq1 fq1
    walk_at "rd"
    refine ⟨by show 1 ≤ sizeLine; decide, fun t ht => ?_⟩
    have et := Ext.new (o := HO.tup [V.int 1]) ht
    have ft : upd H23 t (.tup [V.int 1]) t = some (.tup [V.int 1]) := upd_same
    generalize upd H23 t (.tup [V.int 1]) = H24 at et ft
    walk_at "rd"
    refine g_I ⟨by decide, by decide, by decide⟩ ?_
    refine ⟨by show 5 ≤ sizeLine; decide, fun m4 nm4 => ?_⟩
    have e24 := Ext.trans eq1 et
    have em4 := Ext.new (o := HO.lst [V.non, .bl true, .str "1", .ref t, .int (10 ^ Int.toNat 60)]) nm4
    have e25 := Ext.trans e24 em4
    refine ⟨d, m4, _, rfl, hd22.ext e25, SqL.of upd_same, dice_none (hd22.ext e24) nm4, by show 0 < 5; decide, by show 5 ≤ 1000; decide, fun H26 y b26 hd26 hx => ?_⟩
    have By : Bad1 C H26 y := by
      refine Bad1.but (hd22.ext e25) b26 ?_
      simp only [List.mem_cons, List.not_mem_nil, or_false] at hx
      rcases hx with rfl | rfl | rfl | rfl | rfl
      · exact .non
      · exact .bl _
      · exact .str _
      · exact .tup (em4 _ _ ft)
      · exact .big (by decide +kernel)
    have k26 := (k22.trans (ExtBut.of (d := d) e25)).trans b26
    have B26 := (B22.extN (ExtN.of e25)).but (hd22.ext e25) b26
    have G26 := b26 _ _ gd (e25 _ _ G22)
    have q26 := b26 _ _ q1d (Ext.trans et em4 _ _ fq1)
    have hT26 := tabs_but (hd22.ext e25) b26 (hT22.ext e25)
    clear hx em4 e24 e25 eq1 et ft fq1 b26 B22 k22 G22 hT22 hd22 nm4 ht nq1
    walk_at "rd"
    refine ⟨by show 1 ≤ sizeLine; decide, fun l1 nl1 => ?_⟩
    have el1 := Ext.new (o := HO.lst [y]) nl1
    have pl : pre.length ≤ 300 := by omega
    have sz : (100000 : Nat) < sizeLine := by decide
    refine ⟨q1, l1, _, _, rfl, rfl, el1 _ _ q26, upd_same, by rw [List.length_map]; show pre.length + 1 ≤ sizeLine; omega, fun l2 nl2 => ?_⟩
    have el2 := Ext.new (o := HO.lst (pre.map V.int ++ [y])) nl2
    have fl2 : upd (upd H26 l1 (.lst [y])) l2 (.lst (pre.map V.int ++ [y])) l2 = some (.lst (pre.map V.int ++ [y])) := upd_same
    have e28 := Ext.trans el1 el2
    generalize upd (upd H26 l1 (.lst [y])) l2 (.lst (pre.map V.int ++ [y])) = H28 at el2 fl2 e28
    walk_at "rd"
    refine ⟨g, _, rfl, SqL.of (e28 _ _ G26), fun q2 nq2 => ?_⟩
    rw [cq]
    have eq2 := Ext.new (o := HO.lst (post.map V.int)) nq2
    refine ⟨l2, q2, _, _, rfl, rfl, eq2 _ _ fl2, upd_same, by rw [List.length_append, List.length_map, List.length_map]; show pre.length + 1 + post.length ≤ sizeLine; omega, fun sp nsp => ?_⟩
    have esp := Ext.new (o := HO.lst ((pre.map V.int ++ [y]) ++ post.map V.int)) nsp
    have e30 := Ext.trans e28 (Ext.trans eq2 esp)
    have S30 : upd (upd H28 q2 (.lst (post.map V.int))) sp (.lst ((pre.map V.int ++ [y]) ++ post.map V.int)) sp = some (.lst (pre.map V.int ++ y :: post.map V.int)) := by
      rw [upd_same]
      simp
    have k30 := k26.trans (ExtBut.of (d := d) e30)
    have B30 := B26.extN (ExtN.of e30)
    have By30 := By.extN (ExtN.of e30)
    have G30 := e30 _ _ G26
    have hT30 := hT26.ext e30
    have hd30 := hd26.ext e30
    generalize upd (upd H28 q2 (.lst (post.map V.int))) sp (.lst ((pre.map V.int ++ [y]) ++ post.map V.int)) = H30 at S30 k30 B30 By30 G30 hT30 hd30
    clear esp eq2 e28 el2 el1 e30 k26 B26 By G26 hT26 hd26 q26 fl2 nsp nq2 nl2 nl1 cp cq
    walk_at "rd"
    refine g_lam hT30 (fun J1 n1 t1 => g_told ?_)
    walk_at "rd"
    refine g_mkBad Cl nt ni nb (fun Q' q => ⟨_, rfl, q J1 bad Ext.rfl' (B30.extN n1)⟩) (fun J2 e2 => .inl ⟨rfl, rfl, ?_⟩)
    walk_at "rd"
    refine ⟨by show 1 ≤ sizeLine; decide, fun r nr => ?_⟩
    have er := Ext.new (o := HO.lst [V.str "poly"]) nr
    have n2 := ExtN.trans n1 (ExtN.of e2)
    have N : ∀ b o, H30 b = some o → (∀ ps, o ≠ .tbl ps) → b ≠ r := fun b o q z w => by
      have := n2 b o q z
      rw [w, nr] at this
      cases this
    have n3 := ExtN.trans n2 (ExtN.of er)
    have t3 := (t1.ext e2).ext er
    have fr : upd J2 r (.lst [.str "poly"]) r = some (.lst [.str "poly"]) := upd_same
    generalize upd J2 r (.lst [.str "poly"]) = J3 at n3 t3 fr
    clear er n2 n1 t1 e2 nr
    walk_at "rd"
    refine ⟨.inl ⟨rfl, _, SqL.of fr⟩, ?_⟩
    refine g_cons (g_lam t3 (fun J4 n4 t4 => g_told ?_))
    have sp4 := n4 _ _ (n3 _ _ S30 (fun _ z => by cases z)) (fun _ z => by cases z)
    refine g_mkBad Cl nt ni nb (fun Q' q => ⟨_, rfl, sp, _, rfl, .inl ⟨SqL.of sp4, fun l nl => q _ _ (Ext.new nl) (.tup upd_same (by omega) ((By30.extN (ExtN.trans n3 n4)).extN (ExtN.of (Ext.new nl))))⟩⟩) (fun J5 e5 => .inl ⟨rfl, rfl, ?_⟩)
    have n5 := ExtN.trans n3 (ExtN.trans n4 (ExtN.of e5))
    have fr5 := e5 _ _ (n4 _ _ fr (fun _ z => by cases z))
    refine g_nil ⟨r, _, _, rfl, rfl, fr5, by show 1 < sizeLine; decide, ?_⟩
    have n6 : ExtN H30 (upd J5 r (.lst ([V.str "poly"] ++ [V.str "poly"]))) := fun b o q z => by
      rw [upd_ne (N b o q z)]
      exact n5 b o q z
    have fr6 : upd J5 r (.lst ([V.str "poly"] ++ [V.str "poly"])) r = some (.lst [V.str "poly", V.str "poly"]) := upd_same
    have t6 := tabs_lst fr5 (t4.ext e5) (zs := [V.str "poly"] ++ [V.str "poly"])
    generalize upd J5 r (.lst ([V.str "poly"] ++ [V.str "poly"])) = J6 at n6 fr6 t6
    clear fr fr5 n5 e5 sp4 n4 t4 n3 t3
    walk_at "rd"
    refine ⟨.inl ⟨rfl, _, SqL.of fr6⟩, ?_⟩
    refine g_cons (g_lam t6 (fun J7 n7 t7 => g_told ?_))
    have g7 := n7 _ _ (n6 _ _ G30 (fun _ z => by cases z)) (fun _ z => by cases z)
    refine g_mkFine (ns := [1, 2, 3, 4, 5, 6]) (fun Q' q => ⟨_, rfl, g, _, rfl, .inl ⟨SqL.of g7, fun l nl => q _ _ (Ext.new nl) (SqT.of upd_same)⟩⟩) (by decide) (by unfold Big; decide +kernel) (fun J8 p3 u3 e8 hp3 => ?_)
    have n8 := ExtN.trans n6 (ExtN.trans n7 (ExtN.of e8))
    have fr8 := e8 _ _ (n7 _ _ fr6 (fun _ z => by cases z))
    refine g_nil ⟨r, _, _, rfl, rfl, fr8, by show 2 < sizeLine; decide, ?_⟩
    have n9 : ExtN H30 (upd J8 r (.lst ([V.str "poly", V.str "poly"] ++ [V.str "fine"]))) := fun b o q z => by
      rw [upd_ne (N b o q z)]
      exact n8 b o q z
    have fr9 : upd J8 r (.lst ([V.str "poly", V.str "poly"] ++ [V.str "fine"])) r = some (.lst [V.str "poly", V.str "poly", V.str "fine"]) := upd_same
    have t9 := tabs_lst fr8 (t7.ext e8) (zs := [V.str "poly", V.str "poly"] ++ [V.str "fine"])
    generalize upd J8 r (.lst ([V.str "poly", V.str "poly"] ++ [V.str "fine"])) = J9 at n9 fr9 t9
    clear fr6 fr8 n8 e8 g7 n7 t7 n6 t6 hp3
    walk_at "rd"
    refine ⟨.inl ⟨rfl, _, SqL.of fr9⟩, ?_⟩
    refine g_cons (g_lam t9 (fun Ja na ta => g_told ?_))
    refine g_mkFine (ns := [10 ^ 60 - 1, 1 - 10 ^ 60]) (fun Q' q => ?_) (by decide) (by unfold Big; decide +kernel) (fun Jb p4 u4 eb hp4 => ?_)
    · walk_at "rd"
      refine g_I ⟨by decide, by decide, by decide⟩ ?_
      walk_at "rd"
      refine g_I ⟨by decide, by decide, by decide⟩ ?_
      walk_at "rd"
      exact ⟨by show 2 ≤ sizeLine; decide, fun l nl => q _ _ (Ext.new nl) (SqT.of upd_same)⟩
    have nb' := ExtN.trans n9 (ExtN.trans na (ExtN.of eb))
    have frb := eb _ _ (na _ _ fr9 (fun _ z => by cases z))
    refine g_nil ⟨r, _, _, rfl, rfl, frb, by show 3 < sizeLine; decide, ?_⟩
    have nc : ExtN H30 (upd Jb r (.lst ([V.str "poly", V.str "poly", V.str "fine"] ++ [V.str "fine"]))) := fun b o q z => by
      rw [upd_ne (N b o q z)]
      exact nb' b o q z
    have frc : upd Jb r (.lst ([V.str "poly", V.str "poly", V.str "fine"] ++ [V.str "fine"])) r = some (.lst [V.str "poly", V.str "poly", V.str "fine", V.str "fine"]) := upd_same
    have tc := tabs_lst frb (ta.ext eb) (zs := [V.str "poly", V.str "poly", V.str "fine"] ++ [V.str "fine"])
    generalize upd Jb r (.lst ([V.str "poly", V.str "poly", V.str "fine"] ++ [V.str "fine"])) = Jc at nc frc tc
    clear fr9 frb nb' eb na ta n9 t9 hp4
    walk_at "rd"
    refine ⟨by show 4 ≤ sizeLine; decide, fun o no => ?_⟩
    have eo := Ext.new (o := HO.lst [V.str "poly", V.str "poly", V.str "fine", V.str "fine"]) no
    refine ⟨.list [.str "poly", .str "poly", .str "fine", .str "fine"], .list [.str "poly", .str "poly", .str "fine", .str "fine"], .lst (SqL.of (eo _ _ frc)) (.cons (.str _) (.cons (.str _) (.cons (.str _) (.cons (.str _) .nil)))), .lst (SqL.of upd_same) (.cons (.str _) (.cons (.str _) (.cons (.str _) (.cons (.str _) .nil)))), by decide +kernel, by decide +kernel, ?_⟩
    rw [show PyData.eqv (.list [.str "poly", .str "poly", .str "fine", .str "fine"]) (.list [.str "poly", .str "poly", .str "fine", .str "fine"]) = true by decide +kernel]
    refine k _ ⟨fun b o n h z => eo _ _ (nc b o (k30 b o n h) z), ?_, tc.ext eo⟩
    obtain ⟨c1, c2, c3, h0, hh⟩ := id hd30
    exact ⟨c1, c2, c3, eo _ _ (nc _ _ h0 (fun _ z => by cases z)), hh⟩
end
end K0

set_option Elab.async false
set_option linter.all false
set_option maxRecDepth 100000
set_option maxHeartbeats 4000000
/-! Integers and primes, judged. -/
namespace K0
open PySem PySem.Spec PyProof.Rows L2 Gd
local macro_rules | `(tactic| walk_at "rd1") => `(tactic| first | with_reducible refine g_ret ?_ | with_reducible refine g_retN ?_ | with_reducible refine g_seq ?_ | with_reducible refine g_next ?_ | with_reducible refine g_drop ?_ | with_reducible refine g_asg ?_ | with_reducible refine g_name ?_ | with_reducible refine g_ifs ?_ | with_reducible refine g_test ?_ | with_reducible refine g_tb ?_ | with_reducible refine g_and ?_ | with_reducible refine g_or ?_ | with_reducible refine g_not ?_ | with_reducible refine g_andV ?_ | with_reducible refine g_orV ?_ | with_reducible refine g_notV ?_ | with_reducible refine g_if ?_ | with_reducible refine g_op ?_ | with_reducible refine g_un ?_ | with_reducible refine g_cb ?_ | with_reducible refine g_nil ?_ | with_reducible refine g_cons ?_ | with_reducible refine g_call ?_ | with_reducible refine g_callS ?_ | with_reducible refine g_tup ?_ | with_reducible refine g_lst ?_ | with_reducible refine g_isN ?_ | with_reducible refine g_sl ?_ | with_reducible refine g_nopart ?_ | with_reducible refine g_part ?_ | with_reducible refine g_chain ?_ | with_reducible refine g_fld ?_ | with_reducible refine g_prop ?_ | with_reducible refine g_bm ?_ | with_reducible refine g_bm0 ?_ | with_reducible refine g_c ?_ | with_reducible refine g_sub ?_ | with_reducible refine g_int1 ?_ | with_reducible refine g_int2 ?_ | with_reducible refine g_yes ?_ | with_reducible refine g_sfld ?_ | with_reducible refine g_NT ?_ | with_reducible refine g_NF ?_ | with_reducible refine iteT ?_ | with_reducible refine iteF ?_ | ((with_reducible refine' g_aug ?hv ?_); (case hv => exact rfl)) | ((with_reducible refine' g_var ?hv ?_); (case hv => exact rfl)) | with_reducible refine g_I0 ?_ | with_reducible refine g_U ?_ | with_reducible refine g_eqI ?_ | with_reducible refine g_blV ?_ | with_reducible refine g_inV ?_)
local macro_rules | `(tactic| walk_at "rd") => `(tactic| repeat walk_at "rd1")
section
variable {P : Program} {w : World} {K : PySem.W.Frag} {mg : Str → Option Value} {base : Heap} {f C CK CN CP CT CR t0 : Addr} {fd : FuncData}
abbrev sJudR : Stmt := top 54
theorem scJudR : FnScope ["_law_dice_here", "_law_number", "_law_is_one", "_law_part", "_law_great", "_law_odd", "_law_told_here"] ["_law_dice_here"] (defScope sJudR) := ⟨rfl, rfl, rfl, by decide +kernel, rfl, by decide +kernel, by decide +kernel⟩
structure Jud (P : Program) (w : World) (K : PySem.W.Frag) (mg : Str → Option Value) (base : Heap) : Prop where
  prime : Def1 P w K mg base CX0 3 "is_prime" ["value"] (spPrime K)
  integer : Def1 P w K mg base CX0 2 "is_integer" ["value"] (spInteger K)
def spJudR : Sp := fun vs H Q _ => ∃ d : Addr, vs = [.ref d] ∧ DiceAt H d ∧ ∀ H', ExtBut d H H' → DiceAt H' d → Q (.bl true) H'
/-- whether the law takes a number for a prime -/
def isOne (n : Int) : Bool := decide (1 < n) && (decide (n < 98) && ((List.range (n - 2).toNat).map fun (i : Nat) => !decide ((n.fdiv (2 + (i : Int))) * (2 + (i : Int)) = n)).all id)
theorem one_prime : ∀ k : Nat, k < 130 → isOne ((k : Int) - 10) = inV (.int ((k : Int) - 10)) (primes.map V.int) := by decide +kernel
theorem ok_judR {c : Addr} (F : Fun K "_law_judged_right" "_law_judged_right" sJudR f fd)
    (Tx : Txt K mg) (T2 : Txt2 mg) (A : Has5 P w K mg base C CN CT CR CP t0) (J : Jud P w K mg base) :
    FnG P w K mg base CX0 5 f fd ["_law_dice_here"] spJudR := by
  refine fnG F scJudR (fun vs H Q E h => ?_) (fun cdv Ar outer s H vs Q E hg hr h => ?_)
  · obtain ⟨d, rfl, _⟩ := h
    rfl
  · obtain ⟨d, rfl, hd, k⟩ := h
    refine ⟨_, pss_cons (ps_set (i := 1) scJudR.nd rfl (Or.inr rfl) (pe_op op_sub (pe_def A.roll hr (by decide) (by rfl) (pa_cons (pv 0) (pa_cons pe_int pa_nil))) pe_int))
      (pss_cons (ps_set (i := 2) scJudR.nd rfl (Or.inl rfl) (pe_and (pe_cmpR op_gt (pv 1) pe_int (nomark _)) (pe_and (pe_cmpR op_lt (pv 1) pe_int (nomark _)) (pe_one (pe_callB (cr_all rfl) (by rfl) Tx.all (by decide +kernel) (pa_cons (pe_lc (own := [("_law_part", 3)]) (g := gName 3) (tt := tYes) rfl scJudR.nd (pi_range2 (by rfl) T2.range (pa_cons pe_int (pa_cons (pv 1) pa_nil))) (blkOk_by (N := ["_law_dice_here", "_law_number", "_law_is_one", "_law_part", "_law_great", "_law_odd", "_law_told_here"]) (sc := defScope sJudR) (by decide +kernel)) (fun _ _ _ _ _ => pg_name (i := 3) scJudR.nd rfl (Or.inl rfl)) (fun _ _ _ _ _ => pts_nil) (fun _ _ _ _ _ => (pe_cmpR op_ne (pe_op op_mul (pe_op op_fdivN (pv 1) (pv 3)) (pv 3)) (pv 1) (nomark _)))) pa_nil))))))
      (pss_cons (ps_if (PW.pt (pw_or (pt_cmpR op_ne (pe_callB call_reprB (by rfl) T2.repr (by decide +kernel) (pa_cons (pe_def J.prime hr (by decide) (by rfl) (pa_cons (pv 1) pa_nil)) pa_nil)) (pe_callB call_reprB (by rfl) T2.repr (by decide +kernel) (pa_cons (pv 2) pa_nil)) (nomark _)) (pw_or1 (pt_cmpR op_ne (pe_callB call_reprB (by rfl) T2.repr (by decide +kernel) (pa_cons (pe_def J.integer hr (by decide) (by rfl) (pa_cons (pv 1) pa_nil)) pa_nil)) (pe_callB call_reprB (by rfl) T2.repr (by decide +kernel) (pa_cons pe_bl pa_nil)) (nomark _))))) (pss_one (ps_ret pe_bl)) pss_nil)
      (pss_cons (ps_set (i := 4) scJudR.nd rfl (Or.inl rfl) (pe_def A.pick hr (by decide) (by rfl) (pa_cons (pv 0) (pa_cons (pe_lst (pa_cons (pe_op op_pow pe_int pe_int) (pa_cons (pe_op op_sub (pe_op op_pow pe_int pe_int) pe_int) (pa_cons (pe_op op_sub pe_int (pe_op op_pow pe_int pe_int)) pa_nil)))) pa_nil))))
      (pss_cons (ps_set (i := 5) scJudR.nd rfl (Or.inl rfl) (pe_def A.pick hr (by decide) (by rfl) (pa_cons (pv 0) (pa_cons (pe_lst (pa_cons pe_non (pa_cons pe_bl (pa_cons pe_bl (pa_cons pe_str (pa_cons (pe_tup (pa_cons pe_int pa_nil)) (pa_cons (pe_op op_pow pe_int pe_int) (pa_cons (pe_op op_sub pe_int (pe_op op_pow pe_int pe_int)) (pa_cons (pe_lst (pa_cons pe_int pa_nil)) (pa_cons (pe_dnewK) (pa_cons (pe_op op_mulW (pe_op op_pow pe_int pe_int) (pe_op op_pow pe_int pe_int)) pa_nil))))))))))) pa_nil))))
      (pss_cons (ps_set (i := 6) scJudR.nd rfl (Or.inl rfl) (pe_lst (pa_cons (pe_def J.integer hr (by decide) (by rfl) (pa_cons (pv 4) pa_nil)) (pa_cons (pe_def J.prime hr (by decide) (by rfl) (pa_cons (pv 4) pa_nil)) (pa_cons (pe_def J.integer hr (by decide) (by rfl) (pa_cons (pv 5) pa_nil)) (pa_cons (pe_def J.prime hr (by decide) (by rfl) (pa_cons (pv 5) pa_nil)) pa_nil))))))
      (pss_one (ps_ret (pe_cmpR op_eq (pe_callB (call_repr hg hr.units) (by rfl) T2.repr (by decide +kernel) (pa_cons (pv 6) pa_nil)) (pe_callB (call_repr hg hr.units) (by rfl) T2.repr (by decide +kernel) (pa_cons (pe_lst (pa_cons pe_bl (pa_cons pe_bl (pa_cons pe_bl (pa_cons pe_bl pa_nil))))) pa_nil)) (nomark _))))))))), ?_⟩
    have sz : (100000 : Nat) < sizeLine := by decide
    walk_at "rd"
    refine ⟨d, 130, rfl, hd, by decide, by decide, fun H1 z b1 hd1 z0 z1 => ?_⟩
    refine g_c (g_I0 (g_name ?_))
    dsimp only
    obtain ⟨n0, rfl⟩ : ∃ k : Nat, z = (k : Int) := ⟨z.toNat, by omega⟩
    have hp := one_prime n0 (by omega)
    have lo : -10 ≤ (n0 : Int) - 10 := by omega
    have hi : (n0 : Int) - 10 < 120 := by omega
    generalize (n0 : Int) - 10 = n at hp lo hi
    clear z0 z1
    refine g_cut (fun σ H' => ∃ x : Option V, σ = [some (.ref d), some (.int n), some (.bl (isOne n)), x, none, none, none] ∧ Ext H1 H') (fun σ' H' hN => ?_) (fun go => ?_)
    rotate_left
    · walk_at "rd"
      refine ite2 (fun h1 => ?_) (fun h1 => ?_)
      · walk_at "rd"
        refine ite2 (fun h2 => ?_) (fun h2 => ?_)
        · unfold tLc iRng2
          walk_at "rd"
          have g1 := of_decide_eq_true h1
          have g2 := of_decide_eq_true h2
          refine ⟨by omega, fun D hD => lc_range (lo := 2) (n := (n - 2).toNat) (fun i H' => Ext H1 H' ∧ H' D = some (.lst (((List.range i).map fun (i : Nat) => !decide ((n.fdiv (2 + (i : Int))) * (2 + (i : Int)) = n)).map V.bl))) ⟨Ext.new hD, upd_same⟩ ?_ ?_⟩
          · rintro i H' hi' ⟨e, hD'⟩
            refine ⟨rfl, ?_⟩
            walk_at "rd"
            refine g_I ⟨by omega, by omega⟩ ?_
            walk_at "rd"
            refine g_I (.inr ⟨by omega, by omega⟩) ?_
            walk_at "rd"
            refine g_ne (by rfl) ?_
            refine ⟨_, hD', ?_, fun b o q => ?_, ?_⟩
            · rw [List.length_map, List.length_map, List.length_range]
              omega
            · rw [upd_ne (ne_of_none q hD)]
              exact e b o q
            · rw [upd_same, List.range_succ, List.map_append, List.map_append]
              simp
          · rintro H' ⟨e, hD'⟩
            walk_at "rd"
            refine ⟨D, _, rfl, SqL.of hD', ?_⟩
            refine g_name ?_
            dsimp only
            refine go _ _ ⟨none, ?_, e⟩
            unfold isOne
            rw [h1, h2]
            rfl
        · refine g_name ?_
          dsimp only
          refine go _ _ ⟨none, ?_, Ext.rfl'⟩
          unfold isOne
          rw [h1, Bool.eq_false_iff.mpr h2]
          rfl
      · refine g_name ?_
        dsimp only
        refine go _ _ ⟨none, ?_, Ext.rfl'⟩
        unfold isOne
        rw [Bool.eq_false_iff.mpr h1]
        rfl
    obtain ⟨x, rfl, e1⟩ := hN
    have hd2 := hd1.ext e1
    have b2 := b1.trans (ExtBut.of (d := d) e1)
    clear hd1 b1 e1 hd
    have nB : (true : Bool) = decide (-(10 ^ 60) < n ∧ n < 10 ^ 60) := (decide_eq_true ⟨by omega, by omega⟩).symm
    walk_at "rd"
    refine ⟨.int n, true, rfl, .inl ⟨n, rfl, nB⟩, fun _ i ei => ?_, fun z => Bool.noConfusion z⟩
    cases ei
    rw [← hp]
    walk_at "rd"
    refine ⟨_, rfl, ?_⟩
    walk_at "rd"
    refine ⟨_, rfl, ?_⟩
    refine g_neS ?_
    walk_at "rd"
    refine ⟨.int n, true, rfl, .inl ⟨n, rfl, nB⟩, ?_⟩
    walk_at "rd"
    refine ⟨_, rfl, ?_⟩
    walk_at "rd"
    refine ⟨_, rfl, ?_⟩
    refine g_neS ?_
    walk_at "rd"
    refine g_I ⟨by decide, by decide, by decide⟩ ?_
    walk_at "rd"
    refine g_I ⟨by decide, by decide, by decide⟩ ?_
    walk_at "rd"
    refine g_I ⟨by decide, by decide, by decide⟩ ?_
    walk_at "rd"
    refine ⟨by show 3 ≤ sizeLine; decide, fun m nm => ?_⟩
    walk_at "rd"
    have em := Ext.new (o := HO.lst [V.int (10 ^ Int.toNat 59), .int (10 ^ Int.toNat 60 - 1), .int (1 - 10 ^ Int.toNat 60)]) nm
    refine ⟨d, m, _, rfl, hd2.ext em, SqL.of upd_same, dice_none hd2 nm, by show 0 < 3; decide, by show 3 ≤ 1000; decide, fun H3 gr b3 hd3 hx => ?_⟩
    obtain ⟨q, rfl, q1, q2⟩ : ∃ q : Int, gr = .int q ∧ (true : Bool) = decide (-(10 ^ 60) < q ∧ q < 10 ^ 60) ∧ inV (.int q) (primes.map V.int) = false := by
      simp only [List.mem_cons, List.not_mem_nil, or_false] at hx
      rcases hx with rfl | rfl | rfl
      all_goals exact ⟨_, rfl, by decide +kernel, by decide +kernel⟩
    have k3 := (b2.trans (ExtBut.of (d := d) em)).trans b3
    clear hx em nm b3 b2 hd2 hp nB
    walk_at "rd"
    refine ⟨by show 1 ≤ sizeLine; decide, fun t ht => ?_⟩
    walk_at "rd"
    refine g_I ⟨by decide, by decide, by decide⟩ ?_
    walk_at "rd"
    refine g_I ⟨by decide, by decide, by decide⟩ ?_
    walk_at "rd"
    refine ⟨by show 1 ≤ sizeLine; decide, fun l hl => ?_⟩
    walk_at "rd"
    intro e he
    walk_at "rd"
    refine g_I ⟨by decide, by decide, by decide⟩ ?_
    walk_at "rd"
    refine g_I ⟨by decide, by decide, by decide⟩ ?_
    refine g_I (wide_mul (a := 200) (b := 200) (by decide +kernel) (by decide +kernel) (by decide) (by decide) (by decide)) ?_
    refine ⟨by show 10 ≤ sizeLine; decide, fun p np => ?_⟩
    walk_at "rd"
    have e1 := Ext.new (o := HO.tup [V.int 2]) ht
    have e2 := Ext.new (o := HO.lst [V.int 2]) hl
    have e3 := Ext.new (o := HO.dK []) he
    have e4 := Ext.new (o := HO.lst [V.non, .bl true, .bl false, .str "2", .ref t, .int (10 ^ Int.toNat 60), .int (0 - 10 ^ Int.toNat 60), .ref l, .ref e, .int (10 ^ Int.toNat 60 * 10 ^ Int.toNat 40)]) np
    have e13 := Ext.trans e1 (Ext.trans e2 e3)
    have e14 := Ext.trans e13 e4
    have tt := Ext.trans e2 (Ext.trans e3 e4) _ _ upd_same
    have tl := Ext.trans e3 e4 _ _ upd_same
    have te := e4 _ _ upd_same
    refine ⟨d, p, _, rfl, hd3.ext e14, SqL.of upd_same, dice_none (hd3.ext e13) np, by show 0 < 10; decide, by show 10 ≤ 1000; decide, fun H5 od b5 hd5 hx => ?_⟩
    have ho : OddI H5 [10 ^ 60, -(10 ^ 60), 10 ^ 100] od := by
      refine OddI.but (hd3.ext e14) b5 ?_
      simp only [List.mem_cons, List.not_mem_nil, or_false] at hx
      rcases hx with rfl | rfl | rfl | rfl | rfl | rfl | rfl | rfl | rfl | rfl
      · exact .inl .non
      · exact .inl (.bl _)
      · exact .inl (.bl _)
      · exact .inl .s2
      · exact .inl (.tup tt (.inr rfl))
      · exact .inr ⟨_, rfl, by decide +kernel⟩
      · exact .inr ⟨_, rfl, by decide +kernel⟩
      · exact .inl (.lst tl (.inr rfl))
      · exact .inl (.dct te)
      · exact .inr ⟨_, rfl, by decide +kernel⟩
    have hI : IntB K H5 od false := ho.int (by decide +kernel)
    have k5 := (k3.trans (ExtBut.of (d := d) e14)).trans b5
    clear hx e1 e2 e3 e4 e13 e14 tt tl te b5 hd3 k3 np he hl ht ho
    walk_at "rd"
    refine ⟨.int q, true, rfl, .inl ⟨q, rfl, q1⟩, ?_⟩
    walk_at "rd"
    refine ⟨.int q, true, rfl, .inl ⟨q, rfl, q1⟩, fun _ i ei => ?_, fun z => Bool.noConfusion z⟩
    cases ei
    rw [q2]
    walk_at "rd"
    refine ⟨od, false, rfl, hI, ?_⟩
    walk_at "rd"
    refine ⟨od, false, rfl, hI, fun z => Bool.noConfusion z, fun _ => ?_⟩
    refine ⟨by show 4 ≤ sizeLine; decide, fun r nr => ?_⟩
    have er := Ext.new (o := HO.lst [V.bl true, .bl false, .bl false, .bl false]) nr
    have fr : upd H5 r (.lst [V.bl true, .bl false, .bl false, .bl false]) r = some (.lst [V.bl true, .bl false, .bl false, .bl false]) := upd_same
    generalize upd H5 r (.lst [V.bl true, .bl false, .bl false, .bl false]) = H6 at er fr
    walk_at "rd"
    refine ⟨r, .list [.bool true, .bool false, .bool false, .bool false], rfl, .lst (SqL.of fr) (.cons (.bl _) (.cons (.bl _) (.cons (.bl _) (.cons (.bl _) .nil)))), by decide +kernel, by decide +kernel, by decide +kernel, by decide +kernel, ?_⟩
    walk_at "rd"
    refine ⟨by show 4 ≤ sizeLine; decide, fun o no => ?_⟩
    have eo := Ext.new (o := HO.lst [V.bl true, .bl false, .bl false, .bl false]) no
    refine ⟨o, .list [.bool true, .bool false, .bool false, .bool false], rfl, .lst (SqL.of upd_same) (.cons (.bl _) (.cons (.bl _) (.cons (.bl _) (.cons (.bl _) .nil)))), by decide +kernel, by decide +kernel, by decide +kernel, by decide +kernel, ?_⟩
    refine g_eqS ?_
    exact k _ (k5.trans (ExtBut.of (d := d) (Ext.trans er eo))) (hd5.ext (Ext.trans er eo))
end
end K0

set_option Elab.async false
set_option linter.all false
set_option maxRecDepth 100000
set_option maxHeartbeats 4000000
/-! The law. -/
namespace K0
open PySem PySem.Spec PyProof.Rows L2 Gd
open LamX (Tabs TabB ExtN GivesTo CodeO tLam)
local macro_rules | `(tactic| walk_at "rd1") => `(tactic| first | with_reducible refine g_ret ?_ | with_reducible refine g_retN ?_ | with_reducible refine g_seq ?_ | with_reducible refine g_next ?_ | with_reducible refine g_drop ?_ | with_reducible refine g_asg ?_ | with_reducible refine g_name ?_ | with_reducible refine g_ifs ?_ | with_reducible refine g_test ?_ | with_reducible refine g_tb ?_ | with_reducible refine g_and ?_ | with_reducible refine g_or ?_ | with_reducible refine g_not ?_ | with_reducible refine g_andV ?_ | with_reducible refine g_orV ?_ | with_reducible refine g_notV ?_ | with_reducible refine g_if ?_ | with_reducible refine g_op ?_ | with_reducible refine g_un ?_ | with_reducible refine g_cb ?_ | with_reducible refine g_nil ?_ | with_reducible refine g_cons ?_ | with_reducible refine g_call ?_ | with_reducible refine g_callS ?_ | with_reducible refine g_tup ?_ | with_reducible refine g_lst ?_ | with_reducible refine g_isN ?_ | with_reducible refine g_sl ?_ | with_reducible refine g_nopart ?_ | with_reducible refine g_part ?_ | with_reducible refine g_chain ?_ | with_reducible refine g_fld ?_ | with_reducible refine g_prop ?_ | with_reducible refine g_bm ?_ | with_reducible refine g_bm0 ?_ | with_reducible refine g_c ?_ | with_reducible refine g_sub ?_ | with_reducible refine g_int1 ?_ | with_reducible refine g_int2 ?_ | with_reducible refine g_yes ?_ | with_reducible refine g_sfld ?_ | with_reducible refine g_NT ?_ | with_reducible refine g_NF ?_ | with_reducible refine iteT ?_ | with_reducible refine iteF ?_ | ((with_reducible refine' g_aug ?hv ?_); (case hv => exact rfl)) | ((with_reducible refine' g_var ?hv ?_); (case hv => exact rfl)) | with_reducible refine g_I0 ?_ | with_reducible refine g_U ?_ | with_reducible refine g_eqI ?_ | with_reducible refine g_blV ?_ | with_reducible refine g_inV ?_)
local macro_rules | `(tactic| walk_at "rd") => `(tactic| repeat walk_at "rd1")
section
variable {P : Program} {w : World} {K : PySem.W.Frag} {mg : Str → Option Value} {base : Heap} {f C CK CN CP CT CR t0 : Addr} {fd : FuncData}
abbrev sLaw : Stmt := top 55
abbrev qLaw : Str := "law.<locals>.<lambda>"
def mono (j : Nat) : List Int := List.replicate j 0 ++ [1]
theorem mono_len (j : Nat) : (mono j).length = j + 1 := by
  unfold mono
  rw [List.length_append, List.length_replicate]
  rfl
theorem trim_last : ∀ (a : List Int) (x : Int), x ≠ 0 → trim (a ++ [x]) = a ++ [x]
  | [], x, hx => by
    show (if x = 0 then [] else [x]) = [x]
    rw [if_neg hx]
  | y :: r, x, hx => by
    have h := trim_last r x hx
    show trim (y :: (r ++ [x])) = y :: (r ++ [x])
    unfold trim
    rw [h]
    cases e : r ++ [x] with
    | nil => simp at e
    | cons z s => rfl
theorem trim_mono (j : Nat) : trim (mono j) = mono j := trim_last _ _ (by decide)
theorem mono_front (i j : Nat) : List.replicate i 0 ++ mono j = mono (i + j) := by
  unfold mono
  rw [← List.append_assoc, List.replicate_append_replicate]
theorem mono_bits (j : Nat) : Bits 1 (mono j) := fun n hn => by
  unfold mono at hn
  rcases List.mem_append.mp hn with q | q
  · rw [List.eq_of_mem_replicate q]
    decide
  · rw [List.mem_singleton.mp q]
    decide
theorem pow001 : ∀ j, j < 41 → (powR [0, 0, 1] j).length ≤ 50000 ∧ (powR [0, 0, 1] j).all (fun n => decide (n.natAbs < 2 ^ 2)) = true := by decide +kernel
theorem powB001 : PowB [0, 0, 1] 40 := fun j hj => ⟨by decide, (pow001 j (by omega)).1, 2, 2, by decide, by decide, by decide, fun n hn => by
    have : ∀ n ∈ ([0, 0, 1] : List Int), n.natAbs < 2 ^ 2 := by decide
    exact this n hn, fun n hn => of_decide_eq_true (List.all_eq_true.mp (pow001 j (by omega)).2 n hn)⟩
theorem powB_mono : PowB (mono 2000) 1 := fun j hj => by
  obtain rfl : j = 0 := by omega
  exact ⟨by rw [mono_len]; decide, by decide, 1, 1, by decide, by decide, by decide, mono_bits 2000, fun n hn => by rw [List.mem_singleton.mp hn]; decide⟩
theorem pow_len1 : (powR (mono 2000) 1).length ≤ 100000 := by
  show (trim (mulR (mono 2000) [1])).length ≤ 100000
  have h1 := trim_len (mulR (mono 2000) [1])
  rw [mulR_len, mono_len] at h1
  have : ([1] : List Int).length = 1 := rfl
  omega
/-- the law's own list of primes, as far as some number -/
def isPr (n : Int) : Bool := ((List.range (n - 2).toNat).map fun (i : Nat) => !decide ((n.fdiv (2 + (i : Int))) * (2 + (i : Int)) = n)).all id
def lawPr : Nat → List Int
  | 0 => []
  | i + 1 => if isPr (2 + (i : Int)) then lawPr i ++ [2 + (i : Int)] else lawPr i
theorem lawPr_succ (i : Nat) : lawPr (i + 1) = if isPr (2 + (i : Int)) then lawPr i ++ [2 + (i : Int)] else lawPr i := rfl
theorem lawPr_len : ∀ i, (lawPr i).length ≤ i
  | 0 => Nat.le_refl _
  | i + 1 => by
    have := lawPr_len i
    unfold lawPr
    split
    · rw [List.length_append]
      show (lawPr i).length + 1 ≤ i + 1
      omega
    · omega
theorem lawPr_all : lawPr (Int.toNat (98 - 2)) = primes := by decide +kernel
theorem sqL_extN {H H' : Hp} {a : Addr} {xs : List V} (e : ExtN H H') (h : SqL K H a xs) : SqL K H' a xs := by
  rcases h with (h | ⟨o, h⟩) | h
  · exact .inl (.inl (e _ _ h (fun _ z => by cases z)))
  · exact .inl (.inr ⟨o, e _ _ h (fun _ z => by cases z)⟩)
  · exact .inr h
theorem g_cat2' {H : Hp} {Q : VK} {a b : Addr} {xs ys : List V} (ha : SqT K H a xs) (hb : SqT K H b ys) (hz : xs.length + ys.length ≤ sizeLine)
    (k : ∀ H' g, Ext H H' → SqT K H' g (xs ++ ys) → Q (.ref g) H') : rCatA K (.ref a) (.ref b) H Q := by
  refine ⟨a, b, xs, ys, rfl, rfl, ha, hb, hz, fun e => k H b (fun _ _ h => h) (by rw [e]; exact hb), fun _ e => k H a (fun _ _ h => h) (by rw [e, List.append_nil]; exact ha), fun _ _ p hp => k _ p (Ext.new hp) (SqT.of upd_same)⟩
theorem g_meth {m : Str} {sp : Sp} {dvs : List V} {E : XK} {ta : TE} {t : TA} {σ : L2.St} {H : Hp} {Q : VK} (k : ta σ H fun x H1 => ∃ a dx fs, x = .ref a ∧ H1 a = some (.ins C dx fs) ∧ fs.lookup m = none ∧ t σ H1 fun vs H2 => sp (x :: (vs ++ dvs)) H2 Q E) : tMeth C m sp dvs E ta t σ H Q := k
theorem g_rais {H : Hp} {Q : VK} {E : XK} {p u : Addr} {j : Nat} {σ : L2.St} (hl : j ≤ 2000) (hP : PolyU K C H p u (mono j)) (k : ∀ H' q v, Ext H H' → PolyU K C H' q v (mono (400 + j)) → Q (.ref q) H') :
    ∃ a dx fs, V.ref p = V.ref a ∧ H a = some (.ins C dx fs) ∧ fs.lookup ("raised" : Str) = none ∧ (tCons (tC (.int 400)) tNil) σ H fun vs H2 => spRaised K C CN (V.ref p :: (vs ++ [])) H2 Q E := by
  obtain ⟨dp, ip⟩ := id hP.1
  refine ⟨p, dp, _, rfl, ip, rfl, ?_⟩
  refine ⟨p, u, _, _, true, rfl, hP, by rw [mono_len]; omega, .inl ⟨400, rfl, rfl⟩, fun _ i ei _ H' q v e h => ?_, fun z => Bool.noConfusion z⟩
  obtain rfl : 400 = i := by
    injection ei with ei
    omega
  rw [mono_front, trim_mono] at h
  exact k H' q v e h
structure Top1 (P : Program) (w : World) (K : PySem.W.Frag) (mg : Str → Option Value) (base : Heap) (T : List (Addr × Str)) : Prop where
  dice : Def1 P w K mg base CX0 1 "_law_dice" ["_law_script", "_law_spot"] (spDice K)
  num : Def1G P w K mg base CX0 12 "_law_numbers_right" ["_law_dice_here"] (spNumR T)
  pol : Def1G P w K mg base CX0 12 "_law_polys_right" ["_law_dice_here"] (spPolR T)
  jud : Def1G P w K mg base CX0 5 "_law_judged_right" ["_law_dice_here"] spJudR
def spLaw (K : PySem.W.Frag) (T : List (Addr × Str)) : Sp := fun vs H Q _ => ∃ (a : Addr) (ns : List Int), vs = [.ref a] ∧ SqL K H a (ns.map V.int) ∧ ns.length ≤ 63 ∧ Tabs T H ∧ ∀ H', Q (.bl true) H'
theorem scLaw : FnScope ["_law_script", "_law_spot", "_law_dice_here", "_law_told_here", "_law_one", "_law_part"] ["_law_script"] (defScope sLaw) := ⟨rfl, rfl, rfl, by decide +kernel, rfl, by decide +kernel, by decide +kernel⟩
theorem ok_law {c Pt : Addr} {T : List (Addr × Str)} (F : Fun K "law" "law" sLaw f fd) (hc : fd.code = .ref c) (TB : TabB base mg c Pt) (hmT : (Pt, qLaw) ∈ T) (hu : ∀ p ∈ T, p.1 = Pt → p.2 = qLaw)
    (Tx : Txt K mg) (T2 : Txt2 mg) (Cl : PC K mg C) (A : Has5 P w K mg base C CN CT CR CP t0) (R : Told K mg CK CP CN CT) (To : Top1 P w K mg base T) (Pr : PrimesAt K mg) :
    FnG P w K mg base CX0 13 f fd ["_law_script"] (spLaw K T) := by
  obtain ⟨tp, gp, hp⟩ := Pr.ex
  refine fnGc F hc scLaw (fun vs H Q E h => ?_) (fun Ar outer s H vs Q E hg hr h => ?_)
  · obtain ⟨a, ns, rfl, _⟩ := h
    rfl
  · obtain ⟨a, ns, rfl, hs, hl, hT, k⟩ := h
    refine ⟨_, PSs.nox (pss_cons (ps_for PassesOwn.never rfl (pi_range1 (by rfl) T2.range (pa_cons (pe_callB (call_max2 rfl) (by rfl) T2.max (by decide +kernel) (pa_cons pe_int (pa_cons (pe_callB (call_min2 rfl) (by rfl) T2.min (by decide +kernel) (pa_cons pe_int (pa_cons (pe_callB call_len_seq (by rfl) Tx.len PySem.boot_len (pa_cons (pv 0) pa_nil)) pa_nil))) pa_nil))) pa_nil)) (pg_name (i := 1) scLaw.nd rfl (Or.inl rfl)) (pss_cons (ps_set (i := 2) scLaw.nd rfl (Or.inl rfl) (pe_def To.dice hr (by decide) (by rfl) (pa_cons (pv 0) (pa_cons (pv 1) pa_nil))))
      (pss_one (ps_if (PW.pt (pw_or (pt_not (pt_val (pe_defG hg To.num hr (by decide) (by rfl) (pa_cons (pv 2) pa_nil)))) (pw_or (pt_not (pt_val (pe_defG hg To.pol hr (by decide) (by rfl) (pa_cons (pv 2) pa_nil)))) (pw_or1 (pt_not (pt_val (pe_defG hg To.jud hr (by decide) (by rfl) (pa_cons (pv 2) pa_nil)))))))) (pss_one (ps_ret pe_bl)) pss_nil))))
      (pss_cons (ps_set (i := 3) scLaw.nd rfl (Or.inl rfl) (pe_lst (pa_cons (pe_told (k := 8) (t := fun E => (tMeth C "power" (spPower K C CN CT) [] E (tMake C (spInitX K C CP) [] E (tCons (tTup (tCons (tC (.int 0)) (tCons (tC (.int 0)) (tCons (tC (.int 1)) tNil)))) tNil)) (tCons (tC (.int 40)) tNil))) (by rfl) R TB rfl hmT hu (hr.mono (by decide)) (LamX.lamS_by (by show LamX.lamSB (defScope sLaw) _ = true; decide +kernel)) rfl (fun _ _ _ _ _ => by rfl) (fun _ _ _ _ E _ _ hr' => (pe_me1 Cl.cl A.power hr' (by decide) (passes_call (takes_of rfl rfl rfl rfl) (fun _ _ _ _ h => h)) (pe_mkX A.iniX (passes_call (takes_of rfl rfl rfl rfl) (fun _ _ _ _ h => h)) hr' (by decide) (by rfl) Cl.g (pa_cons (pe_tup (pa_cons pe_int (pa_cons pe_int (pa_cons pe_int pa_nil)))) pa_nil)) (pa_cons pe_int pa_nil)))) pa_nil)))
      (pss_cons (ps_expr (pe_bm PySem.F.plainAttrs_list PySem.F.slot_list_append PySem.F.type_list_append mt_append (pv 3) (pa_cons (pe_told (k := 8) (t := fun E => (tMeth C "power" (spPower K C CN CT) [] E (tMeth C "raised" (spRaised K C CN) [] E (tMeth C "raised" (spRaised K C CN) [] E (tMeth C "raised" (spRaised K C CN) [] E (tMeth C "raised" (spRaised K C CN) [] E (tMeth C "raised" (spRaised K C CN) [] E (tMake C (spInitX K C CP) [] E (tCons (tTup (tCons (tC (.int 1)) tNil)) tNil)) (tCons (tC (.int 400)) tNil)) (tCons (tC (.int 400)) tNil)) (tCons (tC (.int 400)) tNil)) (tCons (tC (.int 400)) tNil)) (tCons (tC (.int 400)) tNil)) (tCons (tC (.int 1)) tNil))) (by rfl) R TB rfl hmT hu (hr.mono (by decide)) (LamX.lamS_by (by show LamX.lamSB (defScope sLaw) _ = true; decide +kernel)) rfl (fun _ _ _ _ _ => by rfl) (fun _ _ _ _ E _ _ hr' => (pe_me1 Cl.cl A.power hr' (by decide) (passes_call (takes_of rfl rfl rfl rfl) (fun _ _ _ _ h => h)) (pe_me1 Cl.cl A.raised hr' (by decide) (passes_call (takes_of rfl rfl rfl rfl) (fun _ _ _ _ h => h)) (pe_me1 Cl.cl A.raised hr' (by decide) (passes_call (takes_of rfl rfl rfl rfl) (fun _ _ _ _ h => h)) (pe_me1 Cl.cl A.raised hr' (by decide) (passes_call (takes_of rfl rfl rfl rfl) (fun _ _ _ _ h => h)) (pe_me1 Cl.cl A.raised hr' (by decide) (passes_call (takes_of rfl rfl rfl rfl) (fun _ _ _ _ h => h)) (pe_me1 Cl.cl A.raised hr' (by decide) (passes_call (takes_of rfl rfl rfl rfl) (fun _ _ _ _ h => h)) (pe_mkX A.iniX (passes_call (takes_of rfl rfl rfl rfl) (fun _ _ _ _ h => h)) hr' (by decide) (by rfl) Cl.g (pa_cons (pe_tup (pa_cons pe_int pa_nil)) pa_nil)) (pa_cons pe_int pa_nil)) (pa_cons pe_int pa_nil)) (pa_cons pe_int pa_nil)) (pa_cons pe_int pa_nil)) (pa_cons pe_int pa_nil)) (pa_cons pe_int pa_nil)))) pa_nil)))
      (pss_cons (ps_expr (pe_bm PySem.F.plainAttrs_list PySem.F.slot_list_append PySem.F.type_list_append mt_append (pv 3) (pa_cons (pe_told (k := 8) (t := fun E => (tMeth C "power" (spPower K C CN CT) [] E (tMake C (spInitX K C CP) [] E (tCons (tOp (rCatA K) (tOp (rRepB K) (tTup (tCons (tC (.int 0)) tNil)) (tC (.int 51))) (tTup (tCons (tC (.int 1)) tNil))) tNil)) (tCons (tC (.int 40)) tNil))) (by rfl) R TB rfl hmT hu (hr.mono (by decide)) (LamX.lamS_by (by show LamX.lamSB (defScope sLaw) _ = true; decide +kernel)) rfl (fun _ _ _ _ _ => by rfl) (fun _ _ _ _ E _ _ hr' => (pe_me1 Cl.cl A.power hr' (by decide) (passes_call (takes_of rfl rfl rfl rfl) (fun _ _ _ _ h => h)) (pe_mkX A.iniX (passes_call (takes_of rfl rfl rfl rfl) (fun _ _ _ _ h => h)) hr' (by decide) (by rfl) Cl.g (pa_cons (pe_op op_catA (pe_op op_repB (pe_tup (pa_cons pe_int pa_nil)) pe_int) (pe_tup (pa_cons pe_int pa_nil))) pa_nil)) (pa_cons pe_int pa_nil)))) pa_nil)))
      (pss_cons (ps_expr (pe_bm PySem.F.plainAttrs_list PySem.F.slot_list_append PySem.F.type_list_append mt_append (pv 3) (pa_cons (pe_told (k := 8) (t := fun E => (tCall (spBinomial K C CN) [] E (tCons (tC (.int 24)) (tCons (tC (.int 24)) tNil)))) (by rfl) R TB rfl hmT hu (hr.mono (by decide)) (LamX.lamS_by (by show LamX.lamSB (defScope sLaw) _ = true; decide +kernel)) rfl (fun _ _ _ _ _ => by rfl) (fun _ _ _ _ E _ _ hr' => (pe_defX A.binom (passes_call (takes_of rfl rfl rfl rfl) (fun _ _ _ _ h => h)) hr' (by decide) (by rfl) (pa_cons pe_int (pa_cons pe_int pa_nil))))) pa_nil)))
      (pss_cons (ps_if (pt_cmpR (op_neD hr.units) (pv 3) (pe_lst (pa_cons pe_str (pa_cons pe_str (pa_cons (pe_tup (pa_cons pe_str (pa_cons pe_int pa_nil))) (pa_cons pe_str pa_nil))))) (nomark _)) (pss_one (ps_ret pe_bl)) pss_nil)
      (pss_one (ps_ret (pe_cmpR (op_eqD hr.units) (pe_glob (v := .ref tp) (by rfl) gp rfl) (pe_callTy call_tuple_of (by rfl) Tx.tuple (by decide +kernel) (pa_cons (pe_lc (own := [("_law_one", 4)]) (g := gName 4) rfl scLaw.nd (pi_range2 (by rfl) T2.range (pa_cons pe_int (pa_cons pe_int pa_nil))) (blkOk_by (N := ["_law_script", "_law_spot", "_law_dice_here", "_law_told_here", "_law_one", "_law_part"]) (sc := defScope sLaw) (by decide +kernel)) (fun _ _ _ _ _ => pg_name (i := 4) scLaw.nd rfl (Or.inr rfl)) (fun _ _ _ _ _ => pts_one (pt_val (pe_callB (r := rAll K) (cr_all rfl) (by rfl) Tx.all (by decide +kernel) (pa_cons (pe_lc (own := [("_law_part", 5)]) (g := gName 5) (tt := tYes) rfl scLaw.nd (pi_range2 (by rfl) T2.range (pa_cons pe_int (pa_cons (pv 4) pa_nil))) (blkOk_by (N := ["_law_script", "_law_spot", "_law_dice_here", "_law_told_here", "_law_one", "_law_part"]) (sc := { kind := .function, names := [((".0" : Str), .local), ("_law_one", .cell), ("all", .globalImplicit), ("range", .globalImplicit)], isGenerator := false, isCoroutine := false, more := [] }) (by decide +kernel)) (fun _ _ _ _ _ => pg_name (i := 5) scLaw.nd rfl (Or.inl rfl)) (fun _ _ _ _ _ => pts_nil) (fun _ _ _ _ _ => (pe_cmpR op_ne (pe_op op_mul (pe_op op_fdivN (pv 4) (pv 5)) (pv 5)) (pv 4) (nomark _)))) pa_nil)))) (fun _ _ _ _ _ => (pv 4))) pa_nil)) (nomark _)))))))))), ?_⟩
    refine g_cut (fun σ H' => ∃ x y : Option V, σ = [some (.ref a), x, y, none, none, none] ∧ Tabs T H') (fun σ' H' hN => ?_) (fun go => ?_)
    rotate_left
    · refine g_forR ?_
      walk_at "rd"
      refine ⟨a, _, rfl, .inl hs, ?_⟩
      walk_at "rd"
      rw [List.length_map]
      refine ⟨by split <;> omega, by split <;> omega, ?_⟩
      refine for_range (fun i σ H' => ∃ x y : Option V, σ = [some (.ref a), x, y, none, none, none] ∧ ExtN H H' ∧ Tabs T H') ⟨_, _, rfl, ExtN.refl H, hT⟩ ?_ ?_
      · rintro i σ H2 hi ⟨x, y, rfl, e, hT2⟩
        have hi63 : i ≤ 63 := by
          revert hi
          split <;> (try split) <;> intro hi <;> omega
        walk_at "rd"
        have hi0 : (0 : Int) + (i : Int) = (i : Int) := by omega
        rw [hi0]
        refine ⟨a, ns, i, rfl, sqL_extN e hs, hi63, fun H3 d e3 hd0 hd => ?_⟩
        walk_at "rd"
        refine ⟨d, rfl, hd, hT2.ext e3, fun H4 K4 => ?_⟩
        walk_at "rd"
        refine ⟨d, rfl, K4.dice, K4.tabs, fun H5 K5 => ?_⟩
        walk_at "rd"
        refine ⟨d, rfl, K5.dice, fun H6 b6 hd6 => ?_⟩
        walk_at "rd"
        exact ⟨_, _, rfl, fun b o q n => by
          have nb := ne_of_none (e b o q n) hd0
          exact b6 _ _ nb (K5.ext b o nb (K4.ext b o nb (e3 b o (e b o q n)) n) n), tabs_but K5.dice b6 K5.tabs⟩
      · rintro σ H2 ⟨x, y, rfl, _, hT2⟩
        exact go _ _ ⟨_, _, rfl, hT2⟩
    obtain ⟨x0, y0, rfl, hT1⟩ := hN
    clear hs hT
    walk_at "rd"
    refine g_lam hT1 (fun J1 n1 t1 => g_told (g_meth ?_))
    refine g_mkFine (ns := [0, 0, 1]) (fun Q' q => ⟨by show 3 ≤ sizeLine; decide, fun t ht => q _ _ (Ext.new ht) (SqT.of upd_same)⟩) (by decide) (by unfold Big; decide) (fun J2 p u e2 hp2 => ?_)
    have hp2 : PolyU K C J2 p u [0, 0, 1] := hp2
    obtain ⟨dp, ip⟩ := id hp2.1
    refine ⟨p, dp, _, rfl, ip, rfl, ?_⟩
    refine ⟨p, u, _, _, true, rfl, hp2, .inl ⟨40, rfl, rfl⟩, fun _ m em _ => ?_, fun z => Bool.noConfusion z⟩
    obtain rfl : 40 = m := by
      injection em with em
      omega
    refine ⟨fun _ => ⟨powB001, Nat.le_trans (pow001 40 (by decide)).1 (by decide), fun J3 q v e3 h3 => ?_⟩, fun z => absurd (by decide) z⟩
    have t3 := (t1.ext e2).ext e3
    clear e2 hp2 ip h3 n1 t1 e3
    walk_at "rd"
    refine ⟨by show 1 ≤ sizeLine; decide, fun r nr => ?_⟩
    have t4 := t3.ext (Ext.new (o := HO.lst [V.str "fine"]) nr)
    have fr : upd J3 r (.lst [V.str "fine"]) r = some (.lst [V.str "fine"]) := upd_same
    generalize upd J3 r (.lst [V.str "fine"]) = J4 at t4 fr
    clear t3 nr
    walk_at "rd"
    refine ⟨.inl ⟨rfl, _, SqL.of fr⟩, ?_⟩
    refine g_cons (g_lam t4 (fun J5 n5 t5 => g_told (g_meth (g_meth (g_meth (g_meth (g_meth (g_meth ?_)))))))) 
    refine g_mkFine (ns := mono 0) (fun Q' q => ⟨by show 1 ≤ sizeLine; decide, fun t ht => q _ _ (Ext.new ht) (SqT.of upd_same)⟩) (by decide) (by unfold Big; decide) (fun J6 p6 u6 e6 h6 => ?_)
    rw [trim_mono] at h6
    refine g_rais (by decide) h6 (fun J7 p7 u7 e7 h7 => ?_)
    refine g_rais (by decide) h7 (fun J8 p8 u8 e8 h8 => ?_)
    refine g_rais (by decide) h8 (fun J9 p9 u9 e9 h9 => ?_)
    refine g_rais (by decide) h9 (fun Ja pa ua ea ha => ?_)
    refine g_rais (by decide) ha (fun Jb pb ub eb hb => ?_)
    have hb : PolyU K C Jb pb ub (mono 2000) := hb
    obtain ⟨db, ib⟩ := id hb.1
    refine ⟨pb, db, _, rfl, ib, rfl, ?_⟩
    refine ⟨pb, ub, _, _, true, rfl, hb, .inl ⟨1, rfl, rfl⟩, fun _ m em _ => ?_, fun z => Bool.noConfusion z⟩
    obtain rfl : 1 = m := by
      injection em with em
      omega
    refine ⟨fun _ => ⟨powB_mono, pow_len1, fun Jc q2 v2 ec hc2 => ?_⟩, fun z => absurd (by rw [mono_len]; decide) z⟩
    have e5c := Ext.trans e6 (Ext.trans e7 (Ext.trans e8 (Ext.trans e9 (Ext.trans ea (Ext.trans eb ec)))))
    have tc := t5.ext e5c
    have frc := e5c _ _ (n5 _ _ fr (fun _ z => by cases z))
    clear e6 e7 e8 e9 ea eb ec hc2 h6 h7 h8 h9 ha hb ib e5c n5 t5 fr t4
    refine g_nil ⟨r, _, _, rfl, rfl, frc, by show 1 < sizeLine; decide, ?_⟩
    have td := tabs_lst frc tc (zs := [V.str "fine"] ++ [V.str "fine"])
    have frd : upd Jc r (.lst ([V.str "fine"] ++ [V.str "fine"])) r = some (.lst [V.str "fine", V.str "fine"]) := upd_same
    generalize upd Jc r (.lst ([V.str "fine"] ++ [V.str "fine"])) = Jd at td frd
    clear frc tc
    walk_at "rd"
    refine ⟨.inl ⟨rfl, _, SqL.of frd⟩, ?_⟩
    refine g_cons (g_lam td (fun Je ne te => g_told (g_meth ?_)))
    refine g_mkFine (ns := mono 51) (fun Q' q => ?_) (by rw [mono_len]; decide) (by unfold Big; decide) (fun Jf p3 u3 ef hf3 => ?_)
    · walk_at "rd"
      refine ⟨by show 1 ≤ sizeLine; decide, fun z1 nz1 => ?_⟩
      walk_at "rd"
      show rRepB K (.ref z1) (.int ((51 : Nat) : Int)) _ _
      refine g_repV (SqT.of upd_same) (by decide) (by decide) (fun z2 nz2 => ?_)
      walk_at "rd"
      refine ⟨by show 1 ≤ sizeLine; decide, fun z3 nz3 => ?_⟩
      have x3 := Ext.new (o := HO.tup [V.int 1]) nz3
      refine g_cat2' (xs := List.replicate 51 (V.int 0)) (ys := [V.int 1]) (SqT.of (x3 _ _ upd_same)) (SqT.of upd_same) (by rw [List.length_replicate]; show 51 + 1 ≤ sizeLine; decide) (fun H' g e h => ?_)
      walk_at "rd"
      exact q _ _ (Ext.trans (Ext.new nz1) (Ext.trans (Ext.new nz2) (Ext.trans x3 e))) h
    rw [trim_mono] at hf3
    obtain ⟨df, if3⟩ := id hf3.1
    refine ⟨p3, df, _, rfl, if3, rfl, ?_⟩
    refine ⟨p3, u3, _, _, true, rfl, hf3, .inl ⟨40, rfl, rfl⟩, fun _ m em _ => ?_, fun z => Bool.noConfusion z⟩
    obtain rfl : 40 = m := by
      injection em with em
      omega
    refine ⟨fun z => absurd z (by rw [mono_len]; decide), fun _ dd hdd => .inr (.inr ⟨rfl, dd, 2000, rfl, upd_same, fun tt ntt => ?_⟩)⟩
    have eg := Ext.trans ef (Ext.trans (Ext.new (o := HO.xd [(("limit" : Str), V.int 2000)]) hdd) (Ext.new (o := HO.tup [V.str "many", V.int 2000]) ntt))
    have tg := te.ext eg
    have frg := eg _ _ (ne _ _ frd (fun _ z => by cases z))
    have ftt : upd (upd Jf dd (.xd [(("limit" : Str), V.int 2000)])) tt (.tup [V.str "many", V.int 2000]) tt = some (.tup [V.str "many", V.int 2000]) := upd_same
    generalize upd (upd Jf dd (.xd [(("limit" : Str), V.int 2000)])) tt (.tup [V.str "many", V.int 2000]) = Jg at tg frg ftt
    clear eg ef hf3 if3 ne te frd td hdd ntt
    refine g_nil ⟨r, _, _, rfl, rfl, frg, by show 2 < sizeLine; decide, ?_⟩
    have ntr : tt ≠ r := fun z => by
      rw [z, frg] at ftt
      cases ftt
    have th := tabs_lst frg tg (zs := [V.str "fine", V.str "fine"] ++ [V.ref tt])
    have frh : upd Jg r (.lst ([V.str "fine", V.str "fine"] ++ [V.ref tt])) r = some (.lst [V.str "fine", V.str "fine", V.ref tt]) := upd_same
    have fth : upd Jg r (.lst ([V.str "fine", V.str "fine"] ++ [V.ref tt])) tt = some (.tup [V.str "many", V.int 2000]) := by
      rw [upd_ne ntr]
      exact ftt
    generalize upd Jg r (.lst ([V.str "fine", V.str "fine"] ++ [V.ref tt])) = Jh at th frh fth
    clear frg tg ftt
    walk_at "rd"
    refine ⟨.inl ⟨rfl, _, SqL.of frh⟩, ?_⟩
    refine g_cons (g_lam th (fun Ji ni ti => g_told ?_))
    refine ⟨.int 24, .int 24, true, true, rfl, .inl ⟨24, rfl, rfl⟩, fun _ => .inl ⟨24, rfl, rfl⟩, fun z => Bool.noConfusion z, fun _ z => Bool.noConfusion z, fun _ _ => ⟨rfl, rfl, fun Jj p4 u4 ej h4 => ?_⟩⟩
    have frj := ej _ _ (ni _ _ frh (fun _ z => by cases z))
    have ftj := ej _ _ (ni _ _ fth (fun _ z => by cases z))
    clear h4 ej ni frh fth th ti
    refine g_nil ⟨r, _, _, rfl, rfl, frj, by show 3 < sizeLine; decide, ?_⟩
    have frk : upd Jj r (.lst ([V.str "fine", V.str "fine", V.ref tt] ++ [V.str "fine"])) r = some (.lst [V.str "fine", V.str "fine", V.ref tt, V.str "fine"]) := upd_same
    have ftk : upd Jj r (.lst ([V.str "fine", V.str "fine", V.ref tt] ++ [V.str "fine"])) tt = some (.tup [V.str "many", V.int 2000]) := by
      rw [upd_ne ntr]
      exact ftj
    generalize upd Jj r (.lst ([V.str "fine", V.str "fine", V.ref tt] ++ [V.str "fine"])) = Jk at frk ftk
    clear frj ftj
    walk_at "rd"
    refine ⟨by show 2 ≤ sizeLine; decide, fun t2 nt2 => ?_⟩
    walk_at "rd"
    refine ⟨by show 4 ≤ sizeLine; decide, fun o no => ?_⟩
    have eo1 := Ext.new (o := HO.tup [V.str "many", V.int 2000]) nt2
    have eo2 := Ext.new (o := HO.lst [V.str "fine", V.str "fine", V.ref t2, V.str "fine"]) no
    have eo := Ext.trans eo1 eo2
    have dt : ∀ (a : Addr) (Hh : Hp), Hh a = some (.tup [V.str "many", V.int 2000]) → Dp K Hh (.ref a) (.tuple [.str "many", .int 2000]) := fun a Hh h => .tup (SqT.of h) (.cons (.str _) (.cons (.int _) .nil))
    refine ⟨.list [.str "fine", .str "fine", .tuple [.str "many", .int 2000], .str "fine"], .list [.str "fine", .str "fine", .tuple [.str "many", .int 2000], .str "fine"], .lst (SqL.of (eo _ _ frk)) (.cons (.str _) (.cons (.str _) (.cons (dt _ _ (eo _ _ ftk)) (.cons (.str _) .nil)))), .lst (SqL.of upd_same) (.cons (.str _) (.cons (.str _) (.cons (dt _ _ (eo2 _ _ upd_same)) (.cons (.str _) .nil)))), by decide +kernel, by decide +kernel, ?_⟩
    rw [show PyData.eqv (.list [.str "fine", .str "fine", .tuple [.str "many", .int 2000], .str "fine"]) (.list [.str "fine", .str "fine", .tuple [.str "many", .int 2000], .str "fine"]) = true by decide +kernel]
    generalize upd (upd Jk t2 (.tup [V.str "many", V.int 2000])) o (.lst [V.str "fine", V.str "fine", V.ref t2, V.str "fine"]) = Jl
    walk_at "rd"
    unfold tLc iRng2
    walk_at "rd"
    refine ⟨by decide, fun D hD => lc_range (lo := 2) (n := (98 - 2 : Int).toNat) (fun i H' => H' D = some (.lst ((lawPr i).map V.int))) upd_same ?_ ?_⟩
    · rintro i H' hi hD'
      have sz : (100000 : Nat) < sizeLine := by decide
      refine ⟨rfl, ?_⟩
      walk_at "rd"
      refine ⟨by omega, fun D2 hD2 => lc_range (lo := 2) (n := (2 + (i : Int) - 2).toNat) (fun k H2 => Ext H' H2 ∧ H2 D2 = some (.lst (((List.range k).map fun (k : Nat) => !decide (((2 + (i : Int)).fdiv (2 + (k : Int))) * (2 + (k : Int)) = 2 + (i : Int))).map V.bl))) ⟨Ext.new hD2, upd_same⟩ ?_ ?_⟩
      · rintro k H2 hk ⟨e, h2⟩
        refine ⟨rfl, ?_⟩
        walk_at "rd"
        refine g_I ⟨by omega, by omega⟩ ?_
        walk_at "rd"
        refine g_I (.inr ⟨by omega, by omega⟩) ?_
        walk_at "rd"
        refine g_ne (by rfl) ?_
        refine ⟨_, h2, ?_, fun b o q => ?_, ?_⟩
        · rw [List.length_map, List.length_map, List.length_range]
          omega
        · rw [upd_ne (ne_of_none q hD2)]
          exact e b o q
        · rw [upd_same, List.range_succ, List.map_append, List.map_append]
          simp
      · rintro H2 ⟨e, h2⟩
        walk_at "rd"
        refine ⟨D2, _, rfl, SqL.of h2, ?_⟩
        have eb : (((List.range (2 + (i : Int) - 2).toNat).map fun (k : Nat) => !decide (((2 + (i : Int)).fdiv (2 + (k : Int))) * (2 + (k : Int)) = 2 + (i : Int))).all id) = isPr (2 + (i : Int)) := rfl
        rw [eb]
        walk_at "rd"
        cases ep : isPr (2 + (i : Int)) with
        | true =>
          walk_at "rd"
          refine ⟨_, e _ _ hD', ?_, ?_⟩
          · rw [List.length_map]
            have := lawPr_len i
            omega
          · show upd H2 D _ D = some (.lst ((lawPr (i + 1)).map V.int))
            rw [upd_same, lawPr_succ, ep, if_pos rfl, List.map_append]
            rfl
        | false =>
          walk_at "rd"
          show H2 D = some (.lst ((lawPr (i + 1)).map V.int))
          rw [lawPr_succ, ep, if_neg (by decide)]
          exact e _ _ hD'
    · rintro H' hD'
      rw [lawPr_all] at hD'
      walk_at "rd"
      refine ⟨D, _, rfl, .inl ⟨SqL.of hD', fun l nl => ?_⟩⟩
      refine ⟨_, _, dp_tup (hp _), dp_tup (SqT.of upd_same), shaped_tup _, shaped_tup _, ?_⟩
      rw [show PyData.eqv (.tuple (idata primes)) (.tuple (idata primes)) = true from (eqv_ints primes primes).trans (decide_eq_true rfl)]
      exact k _
end
end K0

set_option Elab.async false
set_option linter.all false
set_option maxRecDepth 100000
set_option maxHeartbeats 8000000
/-! What the top has written. -/
namespace K0
open PySem PySem.Spec PyProof.Rows L2 Gd
open LamX (Tabs TabB TabS ExtN)
/-- an error of the class at S, an except clause that names U -/
theorem exm_one {K : PySem.W.Frag} {S U : Addr} {b : Bool} (h1 : PySem.W.subIn K (.ref U) (.type "BaseException") = some true) (h2 : PySem.W.isClsIn K U = true) (h3 : PySem.W.typeIn K (.ref U) = some (.type "type")) (h4 : PySem.W.subIn K (.ref S) (.ref U) = some b) :
    PySem.W.exmOne K (.ref S) (.ref U) = some b := by
  have h2' : (PySem.W.clsIn K U).isSome = true := h2
  simp [PySem.W.exmOne, PySem.W.kitCls, h1, h2', h3, h4]
theorem kit_self {K : PySem.W.Frag} {C : Addr} : PySem.W.kitOne K (.ref C) (.ref C) = some true := by
  unfold PySem.W.kitOne
  simp
theorem kit_own {K : PySem.W.Frag} {C D : Addr} {b : Bool} (n : C ≠ D) (h : PySem.W.isClsIn K D = true) (ht : PySem.W.typeIn K (.ref D) = some (.type "type")) (hs : PySem.W.subIn K (.ref C) (.ref D) = some b) : PySem.W.kitOne K (.ref C) (.ref D) = some b := by
  have h' : (PySem.W.clsIn K D).isSome = true := h
  have e : (Value.ref C == Value.ref D) = false := by simpa using n
  simp [PySem.W.kitOne, PySem.W.kitCls, e, h', ht, hs]
theorem kit_ty {K : PySem.W.Frag} {C : Addr} {T : String} {b : Bool} (hT : PySem.W.kitMeta T = true) (hs : PySem.W.subIn K (.ref C) (.type T) = some b) : PySem.W.kitOne K (.ref C) (.type T) = some b := by
  have e : (Value.ref C == Value.type T) = false := rfl
  simp [PySem.W.kitOne, PySem.W.kitCls, e, hT, hs]
theorem kit_not {K : PySem.W.Frag} {C : Addr} {T : String} (h : PySem.W.isClsIn K C = true) (ht : PySem.W.typeIn K (.ref C) = some (.type "type")) (hs : PySem.W.subIn K (.type T) (.ref C) = some false) : PySem.W.kitOne K (.type T) (.ref C) = some false := by
  have h' : (PySem.W.clsIn K C).isSome = true := h
  have e : (Value.type T == Value.ref C) = false := rfl
  simp [PySem.W.kitOne, PySem.W.kitCls, e, h', ht, hs]
local macro_rules | `(tactic| walk_at "rd1") => `(tactic| first | with_reducible refine g_ret ?_ | with_reducible refine g_retN ?_ | with_reducible refine g_seq ?_ | with_reducible refine g_next ?_ | with_reducible refine g_drop ?_ | with_reducible refine g_asg ?_ | with_reducible refine g_name ?_ | with_reducible refine g_ifs ?_ | with_reducible refine g_test ?_ | with_reducible refine g_tb ?_ | with_reducible refine g_and ?_ | with_reducible refine g_or ?_ | with_reducible refine g_not ?_ | with_reducible refine g_andV ?_ | with_reducible refine g_orV ?_ | with_reducible refine g_notV ?_ | with_reducible refine g_if ?_ | with_reducible refine g_op ?_ | with_reducible refine g_un ?_ | with_reducible refine g_cb ?_ | with_reducible refine g_nil ?_ | with_reducible refine g_cons ?_ | with_reducible refine g_call ?_ | with_reducible refine g_callS ?_ | with_reducible refine g_tup ?_ | with_reducible refine g_lst ?_ | with_reducible refine g_isN ?_ | with_reducible refine g_sl ?_ | with_reducible refine g_nopart ?_ | with_reducible refine g_part ?_ | with_reducible refine g_chain ?_ | with_reducible refine g_fld ?_ | with_reducible refine g_prop ?_ | with_reducible refine g_bm ?_ | with_reducible refine g_bm0 ?_ | with_reducible refine g_c ?_ | with_reducible refine g_sub ?_ | with_reducible refine g_int1 ?_ | with_reducible refine g_int2 ?_ | with_reducible refine g_yes ?_ | with_reducible refine g_sfld ?_ | with_reducible refine g_NT ?_ | with_reducible refine g_NF ?_ | with_reducible refine iteT ?_ | with_reducible refine iteF ?_ | ((with_reducible refine' g_aug ?hv ?_); (case hv => exact rfl)) | ((with_reducible refine' g_var ?hv ?_); (case hv => exact rfl)) | with_reducible refine g_I0 ?_ | with_reducible refine g_U ?_ | with_reducible refine g_eqI ?_ | with_reducible refine g_blV ?_ | with_reducible refine g_inV ?_)
local macro_rules | `(tactic| walk_at "rd") => `(tactic| repeat walk_at "rd1")
theorem vals_of : ∀ (l : List Value), l.all (fun v => match v with | .int _ _ => true | _ => false) = true → Vals ((l.map (fun v => match v with | .int i _ => i | _ => 0)).map V.int) l
  | [], _ => .nil
  | v :: l, h => by
    rw [List.all_cons, Bool.and_eq_true] at h
    obtain ⟨h1, h2⟩ := h
    cases v with
    | int i t => exact .cons ⟨t, rfl⟩ (vals_of l h2)
    | _ => cases h1
theorem all_mk {l : PySem.W.OpenLaw} {w : World} {K : PySem.W.Frag} {h : Heap} {mg : Str → Option Value} {fa fWh fIn fPm fIw fRw fTr fAd fNg fMu fTg fOg fPo fOp fBi fHe fFl fDi fRo fPi fTo fWr fNr cNr tNr fPr cPr tPr fJr fLa cLa tLa C fI0 TI0 tI0 fCa fPw fRa fTu fFa pFa fDe pDe CRx fRx qRx CNx fNx qNx CMx fMx qMx CPx CKx TPx : Addr} (X : K.In h) (G : h.Ns mainGlobals mg) (hfa : mg "law" = some (.ref fa))
    {odWh anWh : Option Addr} {slWh : Array (Option Value)} {ocWh kVWh dcWh pmWh cdWh ctWh : Value}
    {odIn anIn : Option Addr} {slIn : Array (Option Value)} {ocIn kVIn dcIn pmIn cdIn ctIn : Value}
    {odPm anPm : Option Addr} {slPm : Array (Option Value)} {ocPm kVPm dcPm pmPm cdPm ctPm : Value}
    {odIw anIw : Option Addr} {slIw : Array (Option Value)} {ocIw kVIw dcIw pmIw cdIw ctIw : Value}
    {odRw anRw : Option Addr} {slRw : Array (Option Value)} {ocRw kVRw dcRw pmRw cdRw ctRw : Value}
    {odTr anTr : Option Addr} {slTr : Array (Option Value)} {ocTr kVTr dcTr pmTr cdTr ctTr : Value}
    {odAd anAd : Option Addr} {slAd : Array (Option Value)} {ocAd kVAd dcAd pmAd cdAd ctAd : Value}
    {odNg anNg : Option Addr} {slNg : Array (Option Value)} {ocNg kVNg dcNg pmNg cdNg ctNg : Value}
    {odMu anMu : Option Addr} {slMu : Array (Option Value)} {ocMu kVMu dcMu pmMu cdMu ctMu : Value}
    {odTg anTg : Option Addr} {slTg : Array (Option Value)} {ocTg kVTg dcTg pmTg cdTg ctTg : Value}
    {odOg anOg : Option Addr} {slOg : Array (Option Value)} {ocOg kVOg dcOg pmOg cdOg ctOg : Value}
    {odPo anPo : Option Addr} {slPo : Array (Option Value)} {ocPo kVPo dcPo pmPo cdPo ctPo : Value}
    {odOp anOp : Option Addr} {slOp : Array (Option Value)} {ocOp kVOp dcOp pmOp cdOp ctOp : Value}
    {odBi anBi : Option Addr} {slBi : Array (Option Value)} {ocBi kVBi dcBi pmBi cdBi ctBi : Value}
    {odHe anHe : Option Addr} {slHe : Array (Option Value)} {ocHe kVHe dcHe pmHe cdHe ctHe : Value}
    {odFl anFl : Option Addr} {slFl : Array (Option Value)} {ocFl kVFl dcFl pmFl cdFl ctFl : Value}
    {odDi anDi : Option Addr} {slDi : Array (Option Value)} {ocDi kVDi dcDi pmDi cdDi ctDi : Value}
    {odRo anRo : Option Addr} {slRo : Array (Option Value)} {ocRo kVRo dcRo pmRo cdRo ctRo : Value}
    {odPi anPi : Option Addr} {slPi : Array (Option Value)} {ocPi kVPi dcPi pmPi cdPi ctPi : Value}
    {odTo anTo : Option Addr} {slTo : Array (Option Value)} {ocTo kVTo dcTo pmTo cdTo ctTo : Value}
    {odWr anWr : Option Addr} {slWr : Array (Option Value)} {ocWr kVWr dcWr pmWr cdWr ctWr : Value}
    {odNr anNr : Option Addr} {slNr : Array (Option Value)} {ocNr kVNr dcNr pmNr ctNr : Value}
    {koNr : Value} {kdNr : Option Addr} {vsNr : Array Value} {ksNr : Array (Option Value)}
    {odPr anPr : Option Addr} {slPr : Array (Option Value)} {ocPr kVPr dcPr pmPr ctPr : Value}
    {koPr : Value} {kdPr : Option Addr} {vsPr : Array Value} {ksPr : Array (Option Value)}
    {odJr anJr : Option Addr} {slJr : Array (Option Value)} {ocJr kVJr dcJr pmJr cdJr ctJr : Value}
    {odLa anLa : Option Addr} {slLa : Array (Option Value)} {ocLa kVLa dcLa pmLa ctLa : Value}
    {koLa : Value} {kdLa : Option Addr} {vsLa : Array Value} {ksLa : Array (Option Value)}
    {odI0 anI0 : Option Addr} {slI0 : Array (Option Value)} {ocI0 kVI0 dcI0 pmI0 cdI0 ctI0 : Value}
    {o1I0 : Value} {o2I0 : Option Addr} {o3I0 : Nat} {o4I0 : Array (Option Value)} {o5I0 : Option Addr} {o6I0 : Nat} {o7I0 : Array (Option Value)}
    {odCa anCa : Option Addr} {slCa : Array (Option Value)} {ocCa kVCa dcCa pmCa cdCa ctCa : Value}
    {odPw anPw : Option Addr} {slPw : Array (Option Value)} {ocPw kVPw dcPw pmPw cdPw ctPw : Value}
    {odRa anRa : Option Addr} {slRa : Array (Option Value)} {ocRa kVRa dcRa pmRa cdRa ctRa : Value}
    {odTu anTu : Option Addr} {slTu : Array (Option Value)} {ocTu kVTu dcTu pmTu cdTu ctTu : Value}
    {restFa : List Value}
    {odFa anFa : Option Addr} {slFa : Array (Option Value)} {ocFa kVFa dcFa pmFa cdFa ctFa : Value}
    {restDe : List Value}
    {odDe anDe : Option Addr} {slDe : Array (Option Value)} {ocDe kVDe dcDe pmDe cdDe ctDe : Value}
    {tkBOUND : Tok}
    {tkMAX_FACTORS : Tok}
    {tkMAX_DEGREE : Tok}
    {tkMAX_POWER : Tok}
    {tkMAX_RAISED : Tok}
    {tkMAX_FLAT : Tok}
    {nmR qR : Str} {bsR : List Value} {snR : List Str} {subR : List Value} {abR : Bool} {colR : Option Bool} {ddR : Option Addr} {m0R m1R m2R m3R m5R : Option Value} {odxR anxR : Option Addr} {slxR : Array (Option Value)} {ocxR dcxR pmxR cdxR ctxR : Value} {q1R q2R q3R q4R q5R q6R : Pos}
    {nmN qN : Str} {bsN : List Value} {snN : List Str} {subN : List Value} {abN : Bool} {colN : Option Bool} {ddN : Option Addr} {m0N m1N m2N m3N m5N : Option Value} {odxN anxN : Option Addr} {slxN : Array (Option Value)} {ocxN dcxN pmxN cdxN ctxN : Value} {q1N q2N q3N q4N q5N q6N : Pos}
    {nmM qM : Str} {bsM : List Value} {snM : List Str} {subM : List Value} {abM : Bool} {colM : Option Bool} {ddM : Option Addr} {m0M m1M m2M m3M m5M : Option Value} {odxM anxM : Option Addr} {slxM : Array (Option Value)} {ocxM dcxM pmxM cdxM ctxM : Value} {q1M q2M q3M q4M q5M q6M : Pos}
    {p1 : Option Addr} {p2 : Nat} {p3 : Array (Option Value)} {pits : Array Value}
    (aWh : PySem.W.nsIn K mainGlobals "is_whole" = some (some (.ref fWh)))
    (lWh : K.lookup fWh = some ⟨ocWh, odWh, .func (PySem.W.fnOf "is_whole" "is_whole" (defArgs (sWhole)) (defBody (sWhole)) (defScope (sWhole)) .none kVWh dcWh pmWh anWh cdWh ctWh), slWh⟩)
    (cWh_ : PySem.W.codeIn K cdWh "is_whole" = true)
    (kWh : PySem.W.keepIn K (.ref fWh) = true)
    (aIn : PySem.W.nsIn K mainGlobals "is_integer" = some (some (.ref fIn)))
    (lIn : K.lookup fIn = some ⟨ocIn, odIn, .func (PySem.W.fnOf "is_integer" "is_integer" (defArgs (sInteger)) (defBody (sInteger)) (defScope (sInteger)) .none kVIn dcIn pmIn anIn cdIn ctIn), slIn⟩)
    (cIn_ : PySem.W.codeIn K cdIn "is_integer" = true)
    (kIn : PySem.W.keepIn K (.ref fIn) = true)
    (aPm : PySem.W.nsIn K mainGlobals "is_prime" = some (some (.ref fPm)))
    (lPm : K.lookup fPm = some ⟨ocPm, odPm, .func (PySem.W.fnOf "is_prime" "is_prime" (defArgs (sPrime)) (defBody (sPrime)) (defScope (sPrime)) .none kVPm dcPm pmPm anPm cdPm ctPm), slPm⟩)
    (cPm_ : PySem.W.codeIn K cdPm "is_prime" = true)
    (kPm : PySem.W.keepIn K (.ref fPm) = true)
    (aIw : PySem.W.nsIn K mainGlobals "is_within" = some (some (.ref fIw)))
    (lIw : K.lookup fIw = some ⟨ocIw, odIw, .func (PySem.W.fnOf "is_within" "is_within" (defArgs (sIsWithin)) (defBody (sIsWithin)) (defScope (sIsWithin)) .none kVIw dcIw pmIw anIw cdIw ctIw), slIw⟩)
    (cIw_ : PySem.W.codeIn K cdIw "is_within" = true)
    (kIw : PySem.W.keepIn K (.ref fIw) = true)
    (aRw : PySem.W.nsIn K mainGlobals "require_within" = some (some (.ref fRw)))
    (lRw : K.lookup fRw = some ⟨ocRw, odRw, .func (PySem.W.fnOf "require_within" "require_within" (defArgs (sWithin)) (defBody (sWithin)) (defScope (sWithin)) .none kVRw dcRw pmRw anRw cdRw ctRw), slRw⟩)
    (cRw_ : PySem.W.codeIn K cdRw "require_within" = true)
    (kRw : PySem.W.keepIn K (.ref fRw) = true)
    (aTr : PySem.W.nsIn K mainGlobals "trimmed" = some (some (.ref fTr)))
    (lTr : K.lookup fTr = some ⟨ocTr, odTr, .func (PySem.W.fnOf "trimmed" "trimmed" (defArgs (sTrimmed)) (defBody (sTrimmed)) (defScope (sTrimmed)) .none kVTr dcTr pmTr anTr cdTr ctTr), slTr⟩)
    (cTr_ : PySem.W.codeIn K cdTr "trimmed" = true)
    (kTr : PySem.W.keepIn K (.ref fTr) = true)
    (aAd : PySem.W.nsIn K mainGlobals "added" = some (some (.ref fAd)))
    (lAd : K.lookup fAd = some ⟨ocAd, odAd, .func (PySem.W.fnOf "added" "added" (defArgs (sAdded)) (defBody (sAdded)) (defScope (sAdded)) .none kVAd dcAd pmAd anAd cdAd ctAd), slAd⟩)
    (cAd_ : PySem.W.codeIn K cdAd "added" = true)
    (kAd : PySem.W.keepIn K (.ref fAd) = true)
    (aNg : PySem.W.nsIn K mainGlobals "negated" = some (some (.ref fNg)))
    (lNg : K.lookup fNg = some ⟨ocNg, odNg, .func (PySem.W.fnOf "negated" "negated" (defArgs (sNegated)) (defBody (sNegated)) (defScope (sNegated)) .none kVNg dcNg pmNg anNg cdNg ctNg), slNg⟩)
    (cNg_ : PySem.W.codeIn K cdNg "negated" = true)
    (kNg : PySem.W.keepIn K (.ref fNg) = true)
    (aMu : PySem.W.nsIn K mainGlobals "multiplied" = some (some (.ref fMu)))
    (lMu : K.lookup fMu = some ⟨ocMu, odMu, .func (PySem.W.fnOf "multiplied" "multiplied" (defArgs (sMultiplied)) (defBody (sMultiplied)) (defScope (sMultiplied)) .none kVMu dcMu pmMu anMu cdMu ctMu), slMu⟩)
    (cMu_ : PySem.W.codeIn K cdMu "multiplied" = true)
    (kMu : PySem.W.keepIn K (.ref fMu) = true)
    (aTg : PySem.W.nsIn K mainGlobals "times_gap" = some (some (.ref fTg)))
    (lTg : K.lookup fTg = some ⟨ocTg, odTg, .func (PySem.W.fnOf "times_gap" "times_gap" (defArgs (sTimesGap)) (defBody (sTimesGap)) (defScope (sTimesGap)) .none kVTg dcTg pmTg anTg cdTg ctTg), slTg⟩)
    (cTg_ : PySem.W.codeIn K cdTg "times_gap" = true)
    (kTg : PySem.W.keepIn K (.ref fTg) = true)
    (aOg : PySem.W.nsIn K mainGlobals "over_gap" = some (some (.ref fOg)))
    (lOg : K.lookup fOg = some ⟨ocOg, odOg, .func (PySem.W.fnOf "over_gap" "over_gap" (defArgs (sOverGap)) (defBody (sOverGap)) (defScope (sOverGap)) .none kVOg dcOg pmOg anOg cdOg ctOg), slOg⟩)
    (cOg_ : PySem.W.codeIn K cdOg "over_gap" = true)
    (kOg : PySem.W.keepIn K (.ref fOg) = true)
    (aPo : PySem.W.nsIn K mainGlobals "poly_of" = some (some (.ref fPo)))
    (lPo : K.lookup fPo = some ⟨ocPo, odPo, .func (PySem.W.fnOf "poly_of" "poly_of" (defArgs (sPolyOf)) (defBody (sPolyOf)) (defScope (sPolyOf)) .none kVPo dcPo pmPo anPo cdPo ctPo), slPo⟩)
    (cPo_ : PySem.W.codeIn K cdPo "poly_of" = true)
    (kPo : PySem.W.keepIn K (.ref fPo) = true)
    (aOp : PySem.W.nsIn K mainGlobals "operand_row" = some (some (.ref fOp)))
    (lOp : K.lookup fOp = some ⟨ocOp, odOp, .func (PySem.W.fnOf "operand_row" "operand_row" (defArgs (sOperand)) (defBody (sOperand)) (defScope (sOperand)) .none kVOp dcOp pmOp anOp cdOp ctOp), slOp⟩)
    (cOp_ : PySem.W.codeIn K cdOp "operand_row" = true)
    (kOp : PySem.W.keepIn K (.ref fOp) = true)
    (aBi : PySem.W.nsIn K mainGlobals "binomial" = some (some (.ref fBi)))
    (lBi : K.lookup fBi = some ⟨ocBi, odBi, .func (PySem.W.fnOf "binomial" "binomial" (defArgs (sBinomial)) (defBody (sBinomial)) (defScope (sBinomial)) .none kVBi dcBi pmBi anBi cdBi ctBi), slBi⟩)
    (cBi_ : PySem.W.codeIn K cdBi "binomial" = true)
    (kBi : PySem.W.keepIn K (.ref fBi) = true)
    (aHe : PySem.W.nsIn K mainGlobals "heights" = some (some (.ref fHe)))
    (lHe : K.lookup fHe = some ⟨ocHe, odHe, .func (PySem.W.fnOf "heights" "heights" (defArgs (sHeights)) (defBody (sHeights)) (defScope (sHeights)) .none kVHe dcHe pmHe anHe cdHe ctHe), slHe⟩)
    (cHe_ : PySem.W.codeIn K cdHe "heights" = true)
    (kHe : PySem.W.keepIn K (.ref fHe) = true)
    (aFl : PySem.W.nsIn K mainGlobals "flags" = some (some (.ref fFl)))
    (lFl : K.lookup fFl = some ⟨ocFl, odFl, .func (PySem.W.fnOf "flags" "flags" (defArgs (sFlags)) (defBody (sFlags)) (defScope (sFlags)) .none kVFl dcFl pmFl anFl cdFl ctFl), slFl⟩)
    (cFl_ : PySem.W.codeIn K cdFl "flags" = true)
    (kFl : PySem.W.keepIn K (.ref fFl) = true)
    (aDi : PySem.W.nsIn K mainGlobals "_law_dice" = some (some (.ref fDi)))
    (lDi : K.lookup fDi = some ⟨ocDi, odDi, .func (PySem.W.fnOf "_law_dice" "_law_dice" (defArgs (sDice)) (defBody (sDice)) (defScope (sDice)) .none kVDi dcDi pmDi anDi cdDi ctDi), slDi⟩)
    (cDi_ : PySem.W.codeIn K cdDi "_law_dice" = true)
    (kDi : PySem.W.keepIn K (.ref fDi) = true)
    (aRo : PySem.W.nsIn K mainGlobals "_law_roll" = some (some (.ref fRo)))
    (lRo : K.lookup fRo = some ⟨ocRo, odRo, .func (PySem.W.fnOf "_law_roll" "_law_roll" (defArgs (sRoll)) (defBody (sRoll)) (defScope (sRoll)) .none kVRo dcRo pmRo anRo cdRo ctRo), slRo⟩)
    (cRo_ : PySem.W.codeIn K cdRo "_law_roll" = true)
    (kRo : PySem.W.keepIn K (.ref fRo) = true)
    (aPi : PySem.W.nsIn K mainGlobals "_law_pick" = some (some (.ref fPi)))
    (lPi : K.lookup fPi = some ⟨ocPi, odPi, .func (PySem.W.fnOf "_law_pick" "_law_pick" (defArgs (sPick)) (defBody (sPick)) (defScope (sPick)) .none kVPi dcPi pmPi anPi cdPi ctPi), slPi⟩)
    (cPi_ : PySem.W.codeIn K cdPi "_law_pick" = true)
    (kPi : PySem.W.keepIn K (.ref fPi) = true)
    (aTo : PySem.W.nsIn K mainGlobals "_law_told" = some (some (.ref fTo)))
    (lTo : K.lookup fTo = some ⟨ocTo, odTo, .func (PySem.W.fnOf "_law_told" "_law_told" (defArgs (sTold)) (defBody (sTold)) (defScope (sTold)) .none kVTo dcTo pmTo anTo cdTo ctTo), slTo⟩)
    (cTo_ : PySem.W.codeIn K cdTo "_law_told" = true)
    (kTo : PySem.W.keepIn K (.ref fTo) = true)
    (aWr : PySem.W.nsIn K mainGlobals "_law_wrong" = some (some (.ref fWr)))
    (lWr : K.lookup fWr = some ⟨ocWr, odWr, .func (PySem.W.fnOf "_law_wrong" "_law_wrong" (defArgs (sWrong)) (defBody (sWrong)) (defScope (sWrong)) .none kVWr dcWr pmWr anWr cdWr ctWr), slWr⟩)
    (cWr_ : PySem.W.codeIn K cdWr "_law_wrong" = true)
    (kWr : PySem.W.keepIn K (.ref fWr) = true)
    (aNr : PySem.W.nsIn K mainGlobals "_law_numbers_right" = some (some (.ref fNr)))
    (lNr : K.lookup fNr = some ⟨ocNr, odNr, .func (PySem.W.fnOf "_law_numbers_right" "_law_numbers_right" (defArgs (sNumR)) (defBody (sNumR)) (defScope (sNumR)) .none kVNr dcNr pmNr anNr (.ref cNr) ctNr), slNr⟩)
    (cNr_ : PySem.W.codeIn K (.ref cNr) "_law_numbers_right" = true)
    (kNr : PySem.W.keepIn K (.ref fNr) = true)
    (qNr : K.lookup cNr = some ⟨koNr, kdNr, .fields vsNr, ksNr⟩)
    (vNr : (vsNr[11]? : Option Value) = some (.ref tNr))
    (dNr : PySem.W.codeHdIn K cNr tNr = true)
    (nNr : K.lookup tNr = none)
    (eNr : h.get? tNr = some { cls := .none, data := .fields #[] })
    (aPr : PySem.W.nsIn K mainGlobals "_law_polys_right" = some (some (.ref fPr)))
    (lPr : K.lookup fPr = some ⟨ocPr, odPr, .func (PySem.W.fnOf "_law_polys_right" "_law_polys_right" (defArgs (sPolR)) (defBody (sPolR)) (defScope (sPolR)) .none kVPr dcPr pmPr anPr (.ref cPr) ctPr), slPr⟩)
    (cPr_ : PySem.W.codeIn K (.ref cPr) "_law_polys_right" = true)
    (kPr : PySem.W.keepIn K (.ref fPr) = true)
    (qPr : K.lookup cPr = some ⟨koPr, kdPr, .fields vsPr, ksPr⟩)
    (vPr : (vsPr[11]? : Option Value) = some (.ref tPr))
    (dPr : PySem.W.codeHdIn K cPr tPr = true)
    (nPr : K.lookup tPr = none)
    (ePr : h.get? tPr = some { cls := .none, data := .fields #[] })
    (aJr : PySem.W.nsIn K mainGlobals "_law_judged_right" = some (some (.ref fJr)))
    (lJr : K.lookup fJr = some ⟨ocJr, odJr, .func (PySem.W.fnOf "_law_judged_right" "_law_judged_right" (defArgs (sJudR)) (defBody (sJudR)) (defScope (sJudR)) .none kVJr dcJr pmJr anJr cdJr ctJr), slJr⟩)
    (cJr_ : PySem.W.codeIn K cdJr "_law_judged_right" = true)
    (kJr : PySem.W.keepIn K (.ref fJr) = true)
    (aLa : PySem.W.nsIn K mainGlobals "law" = some (some (.ref fLa)))
    (lLa : K.lookup fLa = some ⟨ocLa, odLa, .func (PySem.W.fnOf "law" "law" (defArgs (sLaw)) (defBody (sLaw)) (defScope (sLaw)) .none kVLa dcLa pmLa anLa (.ref cLa) ctLa), slLa⟩)
    (cLa_ : PySem.W.codeIn K (.ref cLa) "law" = true)
    (kLa : PySem.W.keepIn K (.ref fLa) = true)
    (qLa : K.lookup cLa = some ⟨koLa, kdLa, .fields vsLa, ksLa⟩)
    (vLa : (vsLa[11]? : Option Value) = some (.ref tLa))
    (dLa : PySem.W.codeHdIn K cLa tLa = true)
    (nLa : K.lookup tLa = none)
    (eLa : h.get? tLa = some { cls := .none, data := .fields #[] })
    (aC : PySem.W.nsIn K mainGlobals "Poly" = some (some (.ref C)))
    (pgC : PySem.W.plainGet K C Str.empty = true)
    (hdC : PySem.W.hasDictIn K C = true)
    (poC : PySem.W.plainOver K C = true)
    (saC : PySem.W.findIn K (.ref C) "__setattr__" = some (some (.builtin "object.__setattr__")))
    (mkC : PySem.W.makesIn K C = true)
    (kcC : PySem.W.keepIn K (.ref C) = true)
    (haC : PySem.W.findIn K (.ref C) "__class__" = some (some (.builtin "object.__class__")))
    (hmC : PySem.W.mroIn K C (.type "object") = some true)
    (ciC : PySem.W.isClsIn K C = true)
    (ctC : PySem.W.typeIn K (.ref C) = some (.type "type"))
    (neC : PySem.W.findIn K (.ref C) "__ne__" = some (some (.builtin "object.__ne__")))
    (sfC : PySem.W.selfFirst K C = true)
    (sintC : PySem.W.subIn K (.type "int") (.ref C) = some false)
    (sNoneTypeC : PySem.W.subIn K (.type "NoneType") (.ref C) = some false)
    (stupleC : PySem.W.subIn K (.type "tuple") (.ref C) = some false)
    (sstrC : PySem.W.subIn K (.type "str") (.ref C) = some false)
    (sboolC : PySem.W.subIn K (.type "bool") (.ref C) = some false)
    (no0C : PySem.W.findIn K (.ref C) "_factors" = some none)
    (hn : PySem.W.specialIn K (.builtin "object.__class__") "__get__" = some (some (.builtin "getset_descriptor.__get__")))
    (htk : PySem.W.takesIn K (.builtin "object.__class__") = some true)
    (aI0 : PySem.W.findIn K (.ref C) "__init__" = some (some (.ref fI0)))
    (lI0 : K.lookup fI0 = some ⟨ocI0, odI0, .func (PySem.W.fnOf "__init__" "Poly.__init__" (defArgs (cls 0)) (defBody (cls 0)) (defScope (cls 0)) (.ref TI0) kVI0 dcI0 pmI0 anI0 cdI0 ctI0), slI0⟩)
    (cI0_ : PySem.W.codeIn K cdI0 "Poly.__init__" = true)
    (kI0 : PySem.W.keepIn K (.ref fI0) = true)
    (iI0 : PySem.W.isFn K (.ref fI0) = true)
    (LI0 : K.lookup TI0 = some ⟨o1I0, o2I0, .seq #[.ref tI0] o3I0, o4I0⟩)
    (mI0 : K.lookup tI0 = some ⟨.type "tuple", o5I0, .seq #[] o6I0, o7I0⟩)
    (aCa : PySem.W.findIn K (.ref C) "__call__" = some (some (.ref fCa)))
    (lCa : K.lookup fCa = some ⟨ocCa, odCa, .func (PySem.W.fnOf "__call__" "Poly.__call__" (defArgs (cls 5)) (defBody (cls 5)) (defScope (cls 5)) .none kVCa dcCa pmCa anCa cdCa ctCa), slCa⟩)
    (cCa_ : PySem.W.codeIn K cdCa "Poly.__call__" = true)
    (kCa : PySem.W.keepIn K (.ref fCa) = true)
    (iCa : PySem.W.isFn K (.ref fCa) = true)
    (jCa : PySem.W.fnIn K fCa = true)
    (aPw : PySem.W.findIn K (.ref C) "power" = some (some (.ref fPw)))
    (lPw : K.lookup fPw = some ⟨ocPw, odPw, .func (PySem.W.fnOf "power" "Poly.power" (defArgs (cls 10)) (defBody (cls 10)) (defScope (cls 10)) .none kVPw dcPw pmPw anPw cdPw ctPw), slPw⟩)
    (cPw_ : PySem.W.codeIn K cdPw "Poly.power" = true)
    (kPw : PySem.W.keepIn K (.ref fPw) = true)
    (iPw : PySem.W.isFn K (.ref fPw) = true)
    (jPw : PySem.W.fnIn K fPw = true)
    (aRa : PySem.W.findIn K (.ref C) "raised" = some (some (.ref fRa)))
    (lRa : K.lookup fRa = some ⟨ocRa, odRa, .func (PySem.W.fnOf "raised" "Poly.raised" (defArgs (cls 11)) (defBody (cls 11)) (defScope (cls 11)) .none kVRa dcRa pmRa anRa cdRa ctRa), slRa⟩)
    (cRa_ : PySem.W.codeIn K cdRa "Poly.raised" = true)
    (kRa : PySem.W.keepIn K (.ref fRa) = true)
    (iRa : PySem.W.isFn K (.ref fRa) = true)
    (jRa : PySem.W.fnIn K fRa = true)
    (aTu : PySem.W.findIn K (.ref C) "turned_round" = some (some (.ref fTu)))
    (lTu : K.lookup fTu = some ⟨ocTu, odTu, .func (PySem.W.fnOf "turned_round" "Poly.turned_round" (defArgs (cls 12)) (defBody (cls 12)) (defScope (cls 12)) .none kVTu dcTu pmTu anTu cdTu ctTu), slTu⟩)
    (cTu_ : PySem.W.codeIn K cdTu "Poly.turned_round" = true)
    (kTu : PySem.W.keepIn K (.ref fTu) = true)
    (iTu : PySem.W.isFn K (.ref fTu) = true)
    (jTu : PySem.W.fnIn K fTu = true)
    (aFa : PySem.W.findIn K (.ref C) "factors" = some (some (.ref pFa)))
    (gFa : PySem.W.specialIn K (.ref pFa) "__get__" = some (some (.builtin "property.__get__")))
    (tFa_ : PySem.W.takesIn K (.ref pFa) = some true)
    (rFa : PySem.W.recIn K pFa "property" = some (.ref fFa :: restFa))
    (lFa : K.lookup fFa = some ⟨ocFa, odFa, .func (PySem.W.fnOf "factors" "Poly.factors" (defArgs (cls 2)) (defBody (cls 2)) (defScope (cls 2)) .none kVFa dcFa pmFa anFa cdFa ctFa), slFa⟩)
    (cFa_ : PySem.W.codeIn K cdFa "Poly.factors" = true)
    (kFa : PySem.W.keepIn K (.ref fFa) = true)
    (aDe : PySem.W.findIn K (.ref C) "degree" = some (some (.ref pDe)))
    (gDe : PySem.W.specialIn K (.ref pDe) "__get__" = some (some (.builtin "property.__get__")))
    (tDe_ : PySem.W.takesIn K (.ref pDe) = some true)
    (rDe : PySem.W.recIn K pDe "property" = some (.ref fDe :: restDe))
    (lDe : K.lookup fDe = some ⟨ocDe, odDe, .func (PySem.W.fnOf "degree" "Poly.degree" (defArgs (cls 3)) (defBody (cls 3)) (defScope (cls 3)) .none kVDe dcDe pmDe anDe cdDe ctDe), slDe⟩)
    (cDe_ : PySem.W.codeIn K cdDe "Poly.degree" = true)
    (kDe : PySem.W.keepIn K (.ref fDe) = true)
    (z_isinstance : PySem.W.nsIn K mainGlobals "isinstance" = some none)
    (z_int : PySem.W.nsIn K mainGlobals "int" = some none)
    (z_bool : PySem.W.nsIn K mainGlobals "bool" = some none)
    (z_tuple : PySem.W.nsIn K mainGlobals "tuple" = some none)
    (z_list : PySem.W.nsIn K mainGlobals "list" = some none)
    (z_len : PySem.W.nsIn K mainGlobals "len" = some none)
    (z_all : PySem.W.nsIn K mainGlobals "all" = some none)
    (z_iter : PySem.W.nsIn K mainGlobals "iter" = some none)
    (z_max : PySem.W.nsIn K mainGlobals "max" = some none)
    (z_min : PySem.W.nsIn K mainGlobals "min" = some none)
    (z_abs : PySem.W.nsIn K mainGlobals "abs" = some none)
    (z_range : PySem.W.nsIn K mainGlobals "range" = some none)
    (z_repr : PySem.W.nsIn K mainGlobals "repr" = some none)
    (z_enumerate : PySem.W.nsIn K mainGlobals "enumerate" = some none)
    (z_zip : PySem.W.nsIn K mainGlobals "zip" = some none)
    (z_ValueError : PySem.W.nsIn K mainGlobals "ValueError" = some none)
    (z_IndexError : PySem.W.nsIn K mainGlobals "IndexError" = some none)
    (z_OverflowError : PySem.W.nsIn K mainGlobals "OverflowError" = some none)
    (v_BOUND : PySem.W.nsIn K mainGlobals "BOUND" = some (some (.int (10 ^ 60) tkBOUND)))
    (v_MAX_FACTORS : PySem.W.nsIn K mainGlobals "MAX_FACTORS" = some (some (.int (400) tkMAX_FACTORS)))
    (v_MAX_DEGREE : PySem.W.nsIn K mainGlobals "MAX_DEGREE" = some (some (.int (2000) tkMAX_DEGREE)))
    (v_MAX_POWER : PySem.W.nsIn K mainGlobals "MAX_POWER" = some (some (.int (40) tkMAX_POWER)))
    (v_MAX_RAISED : PySem.W.nsIn K mainGlobals "MAX_RAISED" = some (some (.int (400) tkMAX_RAISED)))
    (v_MAX_FLAT : PySem.W.nsIn K mainGlobals "MAX_FLAT" = some (some (.int (24) tkMAX_FLAT)))
    (xCR : PySem.W.nsIn K mainGlobals "Refused" = some (some (.ref CRx)))
    (xLR : K.lookup CRx = some (excClassObj nmR qR CRx qRx bsR [.type "ArithmeticError", .type "Exception", .type "BaseException", .type "object"] true snR subR abR colR ddR m0R m1R m2R m3R m5R "ArithmeticError.__new__"))
    (xsaR : PySem.W.findIn K (.ref CRx) "__setattr__" = some (some (.builtin "object.__setattr__")))
    (xgaR : PySem.W.findIn K (.ref CRx) "__getattribute__" = some (some (.builtin "BaseException.__getattribute__")))
    (xggR : PySem.W.findIn K (.ref CRx) "__getattr__" = some none)
    (xnbR : PySem.W.findIn K (.ref CRx) "reason" = some none)
    (xaR : PySem.W.findIn K (.ref CRx) "__init__" = some (some (.ref fRx)))
    (xtR : PySem.W.typeIn K (.ref fRx) = some (.type "function"))
    (xlR : K.lookup fRx = some ⟨ocxR, odxR, .func (PySem.W.fnOf "__init__" "Refused.__init__" (PySem.XRefused.iA q1R q2R) (PySem.XRefused.iB q3R q4R q5R q6R) PySem.XRefused.iS .none .none dcxR pmxR anxR cdxR ctxR), slxR⟩)
    (xcR : PySem.W.codeIn K cdxR "Refused.__init__" = true)
    (xkR : PySem.W.keepIn K (.ref CRx) = true)
    (xeR : PySem.W.subIn K (.ref CRx) (.type "BaseException") = some true)
    (xTR : PySem.W.typeIn K (.ref CRx) = some (.type "type"))
    (xhR : PySem.W.hasDictIn K CRx = true)
    (xiR : PySem.W.isClsIn K CRx = true)
    (xsR : PySem.W.subIn K (.ref CRx) (.ref CRx) = some true)
    (xCN : PySem.W.nsIn K mainGlobals "InvalidNumber" = some (some (.ref CNx)))
    (xLN : K.lookup CNx = some (excClassObj nmN qN CNx qNx bsN [.type "IndexError", .type "LookupError", .type "Exception", .type "BaseException", .type "object"] true snN subN abN colN ddN m0N m1N m2N m3N m5N "IndexError.__new__"))
    (xsaN : PySem.W.findIn K (.ref CNx) "__setattr__" = some (some (.builtin "object.__setattr__")))
    (xgaN : PySem.W.findIn K (.ref CNx) "__getattribute__" = some (some (.builtin "BaseException.__getattribute__")))
    (xggN : PySem.W.findIn K (.ref CNx) "__getattr__" = some none)
    (xnbN : PySem.W.findIn K (.ref CNx) "value" = some none)
    (xaN : PySem.W.findIn K (.ref CNx) "__init__" = some (some (.ref fNx)))
    (xtN : PySem.W.typeIn K (.ref fNx) = some (.type "function"))
    (xlN : K.lookup fNx = some ⟨ocxN, odxN, .func (PySem.W.fnOf "__init__" "InvalidNumber.__init__" (PySem.XInvalidNumber.iA q1N q2N) (PySem.XInvalidNumber.iB q3N q4N q5N q6N) PySem.XInvalidNumber.iS .none .none dcxN pmxN anxN cdxN ctxN), slxN⟩)
    (xcN : PySem.W.codeIn K cdxN "InvalidNumber.__init__" = true)
    (xkN : PySem.W.keepIn K (.ref CNx) = true)
    (xeN : PySem.W.subIn K (.ref CNx) (.type "BaseException") = some true)
    (xTN : PySem.W.typeIn K (.ref CNx) = some (.type "type"))
    (xhN : PySem.W.hasDictIn K CNx = true)
    (xiN : PySem.W.isClsIn K CNx = true)
    (xsN : PySem.W.subIn K (.ref CNx) (.ref CNx) = some true)
    (xCM : PySem.W.nsIn K mainGlobals "TooMany" = some (some (.ref CMx)))
    (xLM : K.lookup CMx = some (excClassObj nmM qM CMx qMx bsM [.type "OverflowError", .type "ArithmeticError", .type "Exception", .type "BaseException", .type "object"] true snM subM abM colM ddM m0M m1M m2M m3M m5M "OverflowError.__new__"))
    (xsaM : PySem.W.findIn K (.ref CMx) "__setattr__" = some (some (.builtin "object.__setattr__")))
    (xgaM : PySem.W.findIn K (.ref CMx) "__getattribute__" = some (some (.builtin "BaseException.__getattribute__")))
    (xggM : PySem.W.findIn K (.ref CMx) "__getattr__" = some none)
    (xnbM : PySem.W.findIn K (.ref CMx) "limit" = some none)
    (xaM : PySem.W.findIn K (.ref CMx) "__init__" = some (some (.ref fMx)))
    (xtM : PySem.W.typeIn K (.ref fMx) = some (.type "function"))
    (xlM : K.lookup fMx = some ⟨ocxM, odxM, .func (PySem.W.fnOf "__init__" "TooMany.__init__" (PySem.XTooMany.iA q1M q2M) (PySem.XTooMany.iB q3M q4M q5M q6M) PySem.XTooMany.iS .none .none dcxM pmxM anxM cdxM ctxM), slxM⟩)
    (xcM : PySem.W.codeIn K cdxM "TooMany.__init__" = true)
    (xkM : PySem.W.keepIn K (.ref CMx) = true)
    (xeM : PySem.W.subIn K (.ref CMx) (.type "BaseException") = some true)
    (xTM : PySem.W.typeIn K (.ref CMx) = some (.type "type"))
    (xhM : PySem.W.hasDictIn K CMx = true)
    (xiM : PySem.W.isClsIn K CMx = true)
    (xsM : PySem.W.subIn K (.ref CMx) (.ref CMx) = some true)
    (xCP : PySem.W.nsIn K mainGlobals "InvalidPoly" = some (some (.ref CPx)))
    (xkP : PySem.W.keepIn K (.ref CPx) = true)
    (xeP : PySem.W.subIn K (.ref CPx) (.type "BaseException") = some true)
    (xTP : PySem.W.typeIn K (.ref CPx) = some (.type "type"))
    (xiP : PySem.W.isClsIn K CPx = true)
    (xsP : PySem.W.subIn K (.ref CPx) (.ref CPx) = some true)
    (xqP : PySem.W.excIn K CPx [.type "ValueError", .type "Exception", .type "BaseException", .type "object"] "ValueError.__new__" = true)
    (xCK : PySem.W.nsIn K mainGlobals "KindsError" = some (some (.ref CKx)))
    (xiK : PySem.W.isClsIn K CKx = true)
    (xTK : PySem.W.typeIn K (.ref CKx) = some (.type "type"))
    (xgaP : PySem.W.findIn K (.ref CPx) "__getattribute__" = some (some (.builtin "BaseException.__getattribute__")))
    (xggP : PySem.W.findIn K (.ref CPx) "__getattr__" = some none)
    (xhP : PySem.W.hasDictIn K CPx = true)
    (xhaP : PySem.W.findIn K (.ref CPx) "__class__" = some (some (.builtin "object.__class__")))
    (xhmP : PySem.W.mroIn K CPx (.type "object") = some true)
    (xhaN : PySem.W.findIn K (.ref CNx) "__class__" = some (some (.builtin "object.__class__")))
    (xhmN : PySem.W.mroIn K CNx (.type "object") = some true)
    (xhaM : PySem.W.findIn K (.ref CMx) "__class__" = some (some (.builtin "object.__class__")))
    (xhmM : PySem.W.mroIn K CMx (.type "object") = some true)
    (nNP : PySem.W.subIn K (.ref CNx) (.ref CPx) = some false)
    (nTP : PySem.W.subIn K (.ref CMx) (.ref CPx) = some false)
    (nTN : PySem.W.subIn K (.ref CMx) (.ref CNx) = some false)
    (u1 : PySem.W.subIn K (.ref CPx) (.ref CKx) = some true)
    (u2 : PySem.W.subIn K (.ref CPx) (.type "ValueError") = some true)
    (u3 : PySem.W.subIn K (.ref CNx) (.type "IndexError") = some true)
    (u4 : PySem.W.subIn K (.ref CNx) (.type "ValueError") = some false)
    (u5 : PySem.W.subIn K (.ref CMx) (.type "OverflowError") = some true)
    (w1 : PySem.W.subIn K (.ref C) (.type "tuple") = some false)
    (w2 : PySem.W.subIn K (.ref C) (.type "int") = some false)
    (w3 : PySem.W.subIn K (.ref C) (.type "bool") = some false)
    (neqPK : CPx ≠ CKx)
    (prA : PySem.W.nsIn K mainGlobals "PRIMES" = some (some (.ref TPx)))
    (prL : K.lookup TPx = some ⟨.type "tuple", p1, .seq pits p2, p3⟩)
    (prV : pits.toList.map (fun v => match v with | .int i _ => i | _ => 0) = primes)
    (prI : pits.toList.all (fun v => match v with | .int _ _ => true | _ => false) = true)
    (neNrPr : tNr ≠ tPr)
    (neNrLa : tNr ≠ tLa)
    (nePrLa : tPr ≠ tLa)
    : LawG l w K CX0 13 63 "_law_script" mg fa h := by
  have e := hfa.symm.trans (PySem.W.mg_of X G aLa)
  cases e
  have FWh := fun_mk (st := sWhole) lWh cWh_ kWh
  have bWh := FWh.binds (ps := ["value"]) fun _ _ _ _ _ _ us hl => match us, hl with | [_], _ => rfl
  have gWh_ := PySem.W.mg_of X G aWh
  have FIn := fun_mk (st := sInteger) lIn cIn_ kIn
  have bIn := FIn.binds (ps := ["value"]) fun _ _ _ _ _ _ us hl => match us, hl with | [_], _ => rfl
  have gIn_ := PySem.W.mg_of X G aIn
  have FPm := fun_mk (st := sPrime) lPm cPm_ kPm
  have bPm := FPm.binds (ps := ["value"]) fun _ _ _ _ _ _ us hl => match us, hl with | [_], _ => rfl
  have gPm_ := PySem.W.mg_of X G aPm
  have FIw := fun_mk (st := sIsWithin) lIw cIw_ kIw
  have bIw := FIw.binds (ps := ["value", "low", "high"]) fun _ _ _ _ _ _ us hl => match us, hl with | [_, _, _], _ => rfl
  have gIw_ := PySem.W.mg_of X G aIw
  have FRw := fun_mk (st := sWithin) lRw cRw_ kRw
  have bRw := FRw.binds (ps := ["value", "low", "high"]) fun _ _ _ _ _ _ us hl => match us, hl with | [_, _, _], _ => rfl
  have gRw_ := PySem.W.mg_of X G aRw
  have FTr := fun_mk (st := sTrimmed) lTr cTr_ kTr
  have bTr := FTr.binds (ps := ["row"]) fun _ _ _ _ _ _ us hl => match us, hl with | [_], _ => rfl
  have gTr_ := PySem.W.mg_of X G aTr
  have FAd := fun_mk (st := sAdded) lAd cAd_ kAd
  have bAd := FAd.binds (ps := ["one", "other"]) fun _ _ _ _ _ _ us hl => match us, hl with | [_, _], _ => rfl
  have gAd_ := PySem.W.mg_of X G aAd
  have FNg := fun_mk (st := sNegated) lNg cNg_ kNg
  have bNg := FNg.binds (ps := ["row"]) fun _ _ _ _ _ _ us hl => match us, hl with | [_], _ => rfl
  have gNg_ := PySem.W.mg_of X G aNg
  have FMu := fun_mk (st := sMultiplied) lMu cMu_ kMu
  have bMu := FMu.binds (ps := ["one", "other"]) fun _ _ _ _ _ _ us hl => match us, hl with | [_, _], _ => rfl
  have gMu_ := PySem.W.mg_of X G aMu
  have FTg := fun_mk (st := sTimesGap) lTg cTg_ kTg
  have bTg := FTg.binds (ps := ["row", "power"]) fun _ _ _ _ _ _ us hl => match us, hl with | [_, _], _ => rfl
  have gTg_ := PySem.W.mg_of X G aTg
  have FOg := fun_mk (st := sOverGap) lOg cOg_ kOg
  have bOg := FOg.binds (ps := ["row", "power"]) fun _ _ _ _ _ _ us hl => match us, hl with | [_, _], _ => rfl
  have gOg_ := PySem.W.mg_of X G aOg
  have FPo := fun_mk (st := sPolyOf) lPo cPo_ kPo
  have bPo := FPo.binds (ps := ["row"]) fun _ _ _ _ _ _ us hl => match us, hl with | [_], _ => rfl
  have gPo_ := PySem.W.mg_of X G aPo
  have FOp := fun_mk (st := sOperand) lOp cOp_ kOp
  have bOp := FOp.binds (ps := ["value"]) fun _ _ _ _ _ _ us hl => match us, hl with | [_], _ => rfl
  have gOp_ := PySem.W.mg_of X G aOp
  have FBi := fun_mk (st := sBinomial) lBi cBi_ kBi
  have bBi := FBi.binds (ps := ["whole", "many"]) fun _ _ _ _ _ _ us hl => match us, hl with | [_, _], _ => rfl
  have gBi_ := PySem.W.mg_of X G aBi
  have FHe := fun_mk (st := sHeights) lHe cHe_ kHe
  have bHe := FHe.binds (ps := ["many"]) fun _ _ _ _ _ _ us hl => match us, hl with | [_], _ => rfl
  have gHe_ := PySem.W.mg_of X G aHe
  have FFl := fun_mk (st := sFlags) lFl cFl_ kFl
  have bFl := FFl.binds (ps := ["many"]) fun _ _ _ _ _ _ us hl => match us, hl with | [_], _ => rfl
  have gFl_ := PySem.W.mg_of X G aFl
  have FDi := fun_mk (st := sDice) lDi cDi_ kDi
  have bDi := FDi.binds (ps := ["_law_script", "_law_spot"]) fun _ _ _ _ _ _ us hl => match us, hl with | [_, _], _ => rfl
  have gDi_ := PySem.W.mg_of X G aDi
  have FRo := fun_mk (st := sRoll) lRo cRo_ kRo
  have bRo := FRo.binds (ps := ["_law_dice_here", "_law_total"]) fun _ _ _ _ _ _ us hl => match us, hl with | [_, _], _ => rfl
  have gRo_ := PySem.W.mg_of X G aRo
  have FPi := fun_mk (st := sPick) lPi cPi_ kPi
  have bPi := FPi.binds (ps := ["_law_dice_here", "_law_items"]) fun _ _ _ _ _ _ us hl => match us, hl with | [_, _], _ => rfl
  have gPi_ := PySem.W.mg_of X G aPi
  have FTo := fun_mk (st := sTold) lTo cTo_ kTo
  have bTo := FTo.binds (ps := ["_law_call"]) fun _ _ _ _ _ _ us hl => match us, hl with | [_], _ => rfl
  have gTo_ := PySem.W.mg_of X G aTo
  have FWr := fun_mk (st := sWrong) lWr cWr_ kWr
  have bWr := FWr.binds (ps := ["_law_dice_here", "_law_most"]) fun _ _ _ _ _ _ us hl => match us, hl with | [_, _], _ => rfl
  have gWr_ := PySem.W.mg_of X G aWr
  have FNr := fun_mk (st := sNumR) lNr cNr_ kNr
  have bNr := FNr.binds (ps := ["_law_dice_here"]) fun _ _ _ _ _ _ us hl => match us, hl with | [_], _ => rfl
  have gNr_ := PySem.W.mg_of X G aNr
  have FPr := fun_mk (st := sPolR) lPr cPr_ kPr
  have bPr := FPr.binds (ps := ["_law_dice_here"]) fun _ _ _ _ _ _ us hl => match us, hl with | [_], _ => rfl
  have gPr_ := PySem.W.mg_of X G aPr
  have FJr := fun_mk (st := sJudR) lJr cJr_ kJr
  have bJr := FJr.binds (ps := ["_law_dice_here"]) fun _ _ _ _ _ _ us hl => match us, hl with | [_], _ => rfl
  have gJr_ := PySem.W.mg_of X G aJr
  have FLa := fun_mk (st := sLaw) lLa cLa_ kLa
  have FCa := fun_mk (st := cls 5) lCa cCa_ kCa
  have bCa := FCa.binds (ps := ["self", "number"]) fun _ _ _ _ _ _ us hl => match us, hl with | [_, _], _ => rfl
  have MCa : Meth K C "__call__" fCa := ⟨aCa, iCa, kCa⟩
  have FPw := fun_mk (st := cls 10) lPw cPw_ kPw
  have bPw := FPw.binds (ps := ["self", "many"]) fun _ _ _ _ _ _ us hl => match us, hl with | [_, _], _ => rfl
  have MPw : Meth K C "power" fPw := ⟨aPw, iPw, kPw⟩
  have FRa := fun_mk (st := cls 11) lRa cRa_ kRa
  have bRa := FRa.binds (ps := ["self", "many"]) fun _ _ _ _ _ _ us hl => match us, hl with | [_, _], _ => rfl
  have MRa : Meth K C "raised" fRa := ⟨aRa, iRa, kRa⟩
  have FTu := fun_mk (st := cls 12) lTu cTu_ kTu
  have bTu := FTu.binds (ps := ["self", "many"]) fun _ _ _ _ _ _ us hl => match us, hl with | [_, _], _ => rfl
  have MTu : Meth K C "turned_round" fTu := ⟨aTu, iTu, kTu⟩
  have FFa := fun_mk (st := cls 2) lFa cFa_ kFa
  have bFa := FFa.binds (ps := ["self"]) fun _ _ _ _ _ _ us hl => match us, hl with | [_], _ => rfl
  have FDe := fun_mk (st := cls 3) lDe cDe_ kDe
  have bDe := FDe.binds (ps := ["self"]) fun _ _ _ _ _ _ us hl => match us, hl with | [_], _ => rfl
  have Zisinstance := PySem.W.mg_none_of X G z_isinstance
  have Zint := PySem.W.mg_none_of X G z_int
  have Zbool := PySem.W.mg_none_of X G z_bool
  have Ztuple := PySem.W.mg_none_of X G z_tuple
  have Zlist := PySem.W.mg_none_of X G z_list
  have Zlen := PySem.W.mg_none_of X G z_len
  have Zall := PySem.W.mg_none_of X G z_all
  have Ziter := PySem.W.mg_none_of X G z_iter
  have Zmax := PySem.W.mg_none_of X G z_max
  have Zmin := PySem.W.mg_none_of X G z_min
  have Zabs := PySem.W.mg_none_of X G z_abs
  have Zrange := PySem.W.mg_none_of X G z_range
  have Zrepr := PySem.W.mg_none_of X G z_repr
  have Zenumerate := PySem.W.mg_none_of X G z_enumerate
  have Zzip := PySem.W.mg_none_of X G z_zip
  have ZValueError := PySem.W.mg_none_of X G z_ValueError
  have ZIndexError := PySem.W.mg_none_of X G z_IndexError
  have ZOverflowError := PySem.W.mg_none_of X G z_OverflowError
  have VBOUND : ∃ t, mg "BOUND" = some (.int (10 ^ 60) t) := ⟨tkBOUND, PySem.W.mg_of X G v_BOUND⟩
  have VMAX_FACTORS : ∃ t, mg "MAX_FACTORS" = some (.int (400) t) := ⟨tkMAX_FACTORS, PySem.W.mg_of X G v_MAX_FACTORS⟩
  have VMAX_DEGREE : ∃ t, mg "MAX_DEGREE" = some (.int (2000) t) := ⟨tkMAX_DEGREE, PySem.W.mg_of X G v_MAX_DEGREE⟩
  have VMAX_POWER : ∃ t, mg "MAX_POWER" = some (.int (40) t) := ⟨tkMAX_POWER, PySem.W.mg_of X G v_MAX_POWER⟩
  have VMAX_RAISED : ∃ t, mg "MAX_RAISED" = some (.int (400) t) := ⟨tkMAX_RAISED, PySem.W.mg_of X G v_MAX_RAISED⟩
  have VMAX_FLAT : ∃ t, mg "MAX_FLAT" = some (.int (24) t) := ⟨tkMAX_FLAT, PySem.W.mg_of X G v_MAX_FLAT⟩
  have ER : PySem.XRefused.RefusedTxt K mg CRx fRx :=
    { gC := PySem.W.mg_of X G xCR, cls := ⟨nmR, qR, qRx, bsR, snR, subR, abR, colR, ddR, m0R, m1R, m2R, m3R, m5R, xLR⟩, sa := xsaR, ga := xgaR, gg := xggR, noN := xnbR, iC := xaR, tC := xtR, kC := xkR, exC := xeR, tyC := xTR, hdC := xhR, te := exm_one xeR xiR xTR xsR,
      fn := ⟨_, _, _, _, _, _, _, _, _, _, _, _, _, _, xlR, xcR⟩ }
  have EN : PySem.XInvalidNumber.InvalidNumberTxt K mg CNx fNx :=
    { gC := PySem.W.mg_of X G xCN, cls := ⟨nmN, qN, qNx, bsN, snN, subN, abN, colN, ddN, m0N, m1N, m2N, m3N, m5N, xLN⟩, sa := xsaN, ga := xgaN, gg := xggN, noN := xnbN, iC := xaN, tC := xtN, kC := xkN, exC := xeN, tyC := xTN, hdC := xhN, te := exm_one xeN xiN xTN xsN,
      fn := ⟨_, _, _, _, _, _, _, _, _, _, _, _, _, _, xlN, xcN⟩ }
  have EM : PySem.XTooMany.TooManyTxt K mg CMx fMx :=
    { gC := PySem.W.mg_of X G xCM, cls := ⟨nmM, qM, qMx, bsM, snM, subM, abM, colM, ddM, m0M, m1M, m2M, m3M, m5M, xLM⟩, sa := xsaM, ga := xgaM, gg := xggM, noN := xnbM, iC := xaM, tC := xtM, kC := xkM, exC := xeM, tyC := xTM, hdC := xhM, te := exm_one xeM xiM xTM xsM,
      fn := ⟨_, _, _, _, _, _, _, _, _, _, _, _, _, _, xlM, xcM⟩ }
  have NP : OwnX K mg "InvalidPoly" CPx := ⟨PySem.W.mg_of X G xCP, xkP, xqP, xeP, xTP, exm_one xeP xiP xTP xsP⟩
  have XP : ExcC K CPx := ⟨xgaP, xggP, xeP, xhP, xhaP, hn, htk, xhmP⟩
  have XN : ExcC K CNx := ⟨xgaN, xggN, xeN, xhN, xhaN, hn, htk, xhmN⟩
  have XM : ExcC K CMx := ⟨xgaM, xggM, xeM, xhM, xhaM, hn, htk, xhmM⟩
  refine ⟨PySem.W.fnOf "law" "law" (defArgs sLaw) (defBody sLaw) (defScope sLaw) .none kVLa dcLa pmLa anLa (.ref cLa) ctLa, [(cNr, tNr), (cPr, tPr), (cLa, tLa)], spLaw K [(tNr, qNumR), (tPr, qPolR), (tLa, qLaw)], ?_, ?_, ?_, fun s v => .of_eq rfl, ?_, fun base hKb hGb TB => ?_⟩
  · intro p hp
    simp only [List.mem_cons, List.not_mem_nil, or_false] at hp
    rcases hp with rfl | rfl | rfl
    · exact eNr
    · exact ePr
    · exact eLa
  · intro p hp
    simp only [List.mem_cons, List.not_mem_nil, or_false] at hp
    rcases hp with rfl | rfl | rfl
    · exact nNr
    · exact nPr
    · exact nLa
  · intro p hp
    simp only [List.mem_cons, List.not_mem_nil, or_false] at hp
    rcases hp with rfl | rfl | rfl
    · exact PySem.W.codeHd_of_K X dNr
    · exact PySem.W.codeHd_of_K X dPr
    · exact PySem.W.codeHd_of_K X dLa
  · intro H a ns hl _ hH _ hS
    refine ⟨a, ns, rfl, hS, hl, fun p hp => ?_, fun _ => rfl⟩
    simp only [List.mem_cons, List.not_mem_nil, or_false] at hp
    rcases hp with rfl | rfl | rfl
    · exact TabS.nil (hH (cNr, tNr) (by simp))
    · exact TabS.nil (hH (cPr, tPr) (by simp))
    · exact TabS.nil (hH (cLa, tLa) (by simp))
  have TBNr := TB (cNr, tNr) (by simp)
  have TBPr := TB (cPr, tPr) (by simp)
  have TBLa := TB (cLa, tLa) (by simp)
  have huNr : ∀ p ∈ [(tNr, qNumR), (tPr, qPolR), (tLa, qLaw)], p.1 = tNr → p.2 = qNumR := fun p hp e => by
    simp only [List.mem_cons, List.not_mem_nil, or_false] at hp
    rcases hp with rfl | rfl | rfl
    · rfl
    · exact absurd e.symm neNrPr
    · exact absurd e.symm neNrLa
  have huPr : ∀ p ∈ [(tNr, qNumR), (tPr, qPolR), (tLa, qLaw)], p.1 = tPr → p.2 = qPolR := fun p hp e => by
    simp only [List.mem_cons, List.not_mem_nil, or_false] at hp
    rcases hp with rfl | rfl | rfl
    · exact absurd e neNrPr
    · rfl
    · exact absurd e.symm nePrLa
  have huLa : ∀ p ∈ [(tNr, qNumR), (tPr, qPolR), (tLa, qLaw)], p.1 = tLa → p.2 = qLaw := fun p hp e => by
    simp only [List.mem_cons, List.not_mem_nil, or_false] at hp
    rcases hp with rfl | rfl | rfl
    · exact absurd e neNrLa
    · exact absurd e nePrLa
    · rfl
  have T : Txt K mg := ⟨Zisinstance, Zint, Zbool, Ztuple, Zlist, Zlen, Zall, Ziter, VBOUND, VMAX_FACTORS⟩
  have T2 : Txt2 mg := ⟨Zmax, Zmin, Zabs, Zrange, Zrepr⟩
  have Cl : PC K mg C := { cl := ⟨pgC, hdC, poC, saC⟩, noF := no0C, g := PySem.W.mg_of X G aC, kp := kcC, ha := haC, hn := hn, htk := htk, hm := hmC, kit := kit_self, ne := ⟨neC, hmC⟩ }
  have FI : FnI K tI0 fI0 (PySem.W.fnOf "__init__" "Poly.__init__" (defArgs (cls 0)) (defBody (cls 0)) (defScope (cls 0)) (.ref TI0) kVI0 dcI0 pmI0 anI0 cdI0 ctI0) := ⟨⟨ocI0, odI0, .ref TI0, kVI0, dcI0, pmI0, anI0, cdI0, ctI0, slI0, rfl, lI0, cI0_, .inr ⟨by simp, TI0, _, [.ref tI0], o3I0, rfl, LI0, rfl, .cons rfl .nil⟩, .inl rfl⟩, kI0⟩
  obtain ⟨ds, hds, b0⟩ : ∃ ds, Vals ([V.ref tI0].drop 0) ds ∧ Binds K (PySem.W.fnOf "__init__" "Poly.__init__" (defArgs (cls 0)) (defBody (cls 0)) (defScope (cls 0)) (.ref TI0) kVI0 dcI0 pmI0 anI0 cdI0 ctI0) ["self", "factors"] ds := FI.binds1 1 0 (by simp) rfl fun T kV doc pm an cdv ct us its h1 h2 => match us, its, h1, h2 with | [_], [_], _, _ => ⟨_, rfl, rfl⟩
  have bI : Binds K (PySem.W.fnOf "__init__" "Poly.__init__" (defArgs (cls 0)) (defBody (cls 0)) (defScope (cls 0)) (.ref TI0) kVI0 dcI0 pmI0 anI0 cdI0 ctI0) ["self", "factors"] [] := by
    obtain ⟨ds, h1, h2⟩ : ∃ ds, Vals ([V.ref tI0].drop 1) ds ∧ Binds K (PySem.W.fnOf "__init__" "Poly.__init__" (defArgs (cls 0)) (defBody (cls 0)) (defScope (cls 0)) (.ref TI0) kVI0 dcI0 pmI0 anI0 cdI0 ctI0) ["self", "factors"] ds := FI.binds1 2 1 (by simp) rfl fun T kV doc pm an cdv ct us its h1 h2 => match us, its, h1, h2 with | [_, _], [_], _, _ => ⟨_, rfl, rfl⟩
    cases h1
    exact h2
  have hT0 : ∀ H : Hp, SqT K H tI0 [] := fun H => .inr ⟨_, #[], o6I0, mI0, rfl, rfl, Nat.zero_le _, .nil⟩
  have AW : AtW K mg fWh _ := ⟨FWh, bWh, gWh_⟩
  have AI : AtI K mg fIn _ := ⟨FIn, bIn, gIn_⟩
  have AV : AtV K mg fIw _ := ⟨FIw, bIw, gIw_⟩
  have AT : AtT K mg fTr _ := ⟨FTr, bTr, gTr_⟩
  have AR : AtR K mg fRo _ := ⟨FRo, bRo, gRo_⟩
  have AN : AtN K C tI0 fI0 _ := ⟨FI, ⟨mkC, aI0, iI0, kcC⟩, bI⟩
  have PF : AtP K C "factors" "Poly.factors" 2 pFa fFa _ := ⟨FFa, bFa, ⟨aFa, gFa, tFa_, _, rFa⟩⟩
  have PD : AtP K C "degree" "Poly.degree" 3 pDe fDe _ := ⟨FDe, bDe, ⟨aDe, gDe, tDe_, _, rDe⟩⟩
  have GC := ok_init (P := l.prog) (w := w) (base := base) FI T Cl AW AI AT
  have GCX := ok_initX (P := l.prog) (w := w) (base := base) (CP := CPx) FI T Cl AW AI AT NP
  have GTL := ok_trimmedL (P := l.prog) (w := w) (K := K) (mg := mg) (base := base) FTr T
  have GTT := ok_trimmed (P := l.prog) (w := w) (K := K) (mg := mg) (base := base) FTr T
  have GPL : FnOk l.prog w K mg base CX0 6 fPo _ ["row"] (spPolyOf K C (SqL K)) := ok_polyOf (P := l.prog) (w := w) (base := base) (Sq := SqL K) FPo T Cl AN b0 hds hT0 AT (fun H H' a xs e q => sqL_ext e q) GC GTL
  have GPT : FnOk l.prog w K mg base CX0 6 fPo _ ["row"] (spPolyOf K C (SqT K)) := ok_polyOf (P := l.prog) (w := w) (base := base) (Sq := SqT K) FPo T Cl AN b0 hds hT0 AT (fun H H' a xs e q => sqT_ext e q) GC GTT
  have O : Ops l.prog w K mg base C fOp fPo fAd fNg fMu _ _ _ _ _ := ⟨⟨FOp, bOp, gOp_⟩, ⟨FPo, bPo, gPo_⟩, ⟨FAd, bAd, gAd_⟩, ⟨FNg, bNg, gNg_⟩, ⟨FMu, bMu, gMu_⟩, ok_operand FOp T Cl AW PF (kit_not ciC ctC sintC), GPL, ok_added FAd T Zzip, ok_negated FNg, ok_multiplied FMu T Zenumerate⟩
  have AtRw : At K mg "require_within" sWithin ["value", "low", "high"] fRw _ := ⟨FRw, bRw, gRw_⟩
  have GW := ok_within (P := l.prog) (w := w) (base := base) FRw T AW AI AV EN
  have A : Has5 l.prog w K mg base C CNx CMx CRx CPx tI0 := {
    ini := ⟨_, _, ds, AN.M, GC, bI, hds, b0⟩
    iniX := ⟨_, _, AN.M, GCX, bI⟩
    t0 := hT0
    call := ⟨_, _, MCa, jCa, ok_valueX FCa T AW AI EN, bCa⟩
    power := ⟨_, _, MPw, jPw, ok_power FPw T Zrange VMAX_POWER VMAX_DEGREE Cl O GPT EM AtRw GW AT PD, bPw⟩
    raised := ⟨_, _, MRa, jRa, ok_raised FRa T VMAX_RAISED Cl O AtRw GW, bRa⟩
    turned := ⟨_, _, MTu, jTu, ok_turned FTu T VMAX_DEGREE Cl O ER AtRw GW PD, bTu⟩
    binom := ⟨_, _, gBi_, kBi, ok_binomial FBi Zrange VMAX_FLAT AtRw GW ⟨FPo, bPo, gPo_⟩ GPL ⟨FTg, bTg, gTg_⟩ (ok_timesGap FTg T FAd bAd gAd_ Zzip FNg bNg gNg_) ⟨FOg, bOg, gOg_⟩ (ok_overGap FOg T Zrange), bBi⟩
    heights := ⟨_, _, gHe_, kHe, ok_heights FHe VMAX_FLAT AtRw GW, bHe⟩
    flags := ⟨_, _, gFl_, kFl, ok_flags FFl VMAX_FLAT AtRw GW, bFl⟩
    roll := ⟨_, _, gRo_, kRo, ok_roll FRo T, bRo⟩
    pick := ⟨_, _, gPi_, kPi, ok_pick FPi T AR, bPi⟩
    wrong := ⟨_, _, gWr_, kWr, ok_wrong FWr ⟨FPi, bPi, gPi_⟩ (ok_pick FPi T AR), bWr⟩ }
  have Rt : Told K mg CKx CPx CNx CMx := {
    at_ := ⟨fTo, _, ⟨FTo, bTo, gTo_⟩⟩
    np := NP
    n := ⟨_, EN⟩
    m := ⟨_, EM⟩
    nNP := exm_one xeP xiP xTP nNP
    nTP := exm_one xeP xiP xTP nTP
    nTN := exm_one xeN xiN xTN nTN
    eP := XP
    eN := XN
    eT := XM
    gK := PySem.W.mg_of X G xCK
    k1 := kit_own neqPK xiK xTK u1
    k2 := kit_ty (by decide +kernel) u2
    k3 := kit_ty (by decide +kernel) u3
    k4 := kit_ty (by decide +kernel) u4
    k5 := kit_ty (by decide +kernel) u5
    zi := Zisinstance
    zv := ZValueError
    zx := ZIndexError
    zo := ZOverflowError }
  have Pz : PrimesAt K mg := ⟨TPx, PySem.W.mg_of X G prA, fun H => .inr ⟨_, pits, p2, prL, rfl, rfl, by
      have := congrArg List.length prV
      rw [List.length_map, Array.length_toList] at this
      rw [this]
      decide, by
      rw [← prV]
      exact vals_of _ prI⟩⟩
  have J : Jud l.prog w K mg base := ⟨⟨_, _, gPm_, kPm, ok_prime FPm T AW AI Pz, bPm⟩, ⟨_, _, gIn_, kIn, ok_integer FIn T AW, bIn⟩⟩
  have To : Top1 l.prog w K mg base [(tNr, qNumR), (tPr, qPolR), (tLa, qLaw)] := {
    dice := ⟨_, _, gDi_, kDi, ok_dice FDi T T2, bDi⟩
    num := ⟨_, _, gNr_, kNr, ok_numR FNr rfl TBNr (by simp) huNr T T2 Cl A Rt, bNr⟩
    pol := ⟨_, _, gPr_, kPr, ok_polR FPr rfl TBPr (by simp) huPr T T2 Cl A Rt (kit_ty (by decide +kernel) w1) (kit_ty (by decide +kernel) w2) (kit_ty (by decide +kernel) w3), bPr⟩
    jud := ⟨_, _, gJr_, kJr, ok_judR (c := fJr) FJr T T2 A J, bJr⟩ }
  exact ok_law FLa rfl TBLa (by simp) huLa T T2 Cl A Rt To Pz
end K0

set_option Elab.async false
set_option maxRecDepth 100000
open PySem PySem.W PyProof.Rows in
set_option maxRecDepth 100000 in
set_option maxHeartbeats 0 in
theorem PySem.Challenge.cw_primekinds_k05_errors_of_polynomials_holds : PySem.Challenge.rw_primekinds_k05_errors_of_polynomials.Holds := by
  w_on; o_law; k_head; (case hw => w_witness2)
  k_fill
  refine Gd.walkGT (n := 63) (k := 13) (x := "_law_script") (CX := fun _ => L2.CX0) (l := PySem.Challenge.rw_primekinds_k05_errors_of_polynomials) rfl (by decide) rfl ⟨rfl, by decide, by decide⟩ (fun w h Y => PySem.W.km_in_of Y) ?F (fun _ _ _ _ _ z => z)
  case F =>
    intro w mg fa h Y KX G hmg
    have hT8 := PySem.W.km_tabs_of Y
    refine' K0.all_mk KX G hmg ?aWh ?lWh ?cWh_ ?kWh ?aIn ?lIn ?cIn_ ?kIn ?aPm ?lPm ?cPm_ ?kPm ?aIw ?lIw ?cIw_ ?kIw ?aRw ?lRw ?cRw_ ?kRw ?aTr ?lTr ?cTr_ ?kTr ?aAd ?lAd ?cAd_ ?kAd ?aNg ?lNg ?cNg_ ?kNg ?aMu ?lMu ?cMu_ ?kMu ?aTg ?lTg ?cTg_ ?kTg ?aOg ?lOg ?cOg_ ?kOg ?aPo ?lPo ?cPo_ ?kPo ?aOp ?lOp ?cOp_ ?kOp ?aBi ?lBi ?cBi_ ?kBi ?aHe ?lHe ?cHe_ ?kHe ?aFl ?lFl ?cFl_ ?kFl ?aDi ?lDi ?cDi_ ?kDi ?aRo ?lRo ?cRo_ ?kRo ?aPi ?lPi ?cPi_ ?kPi ?aTo ?lTo ?cTo_ ?kTo ?aWr ?lWr ?cWr_ ?kWr ?aNr ?lNr ?cNr_ ?kNr ?qNr ?vNr ?dNr ?nNr ?eNr ?aPr ?lPr ?cPr_ ?kPr ?qPr ?vPr ?dPr ?nPr ?ePr ?aJr ?lJr ?cJr_ ?kJr ?aLa ?lLa ?cLa_ ?kLa ?qLa ?vLa ?dLa ?nLa ?eLa ?aC ?pgC ?hdC ?poC ?saC ?mkC ?kcC ?haC ?hmC ?ciC ?ctC ?neC ?sfC ?sintC ?sNoneTypeC ?stupleC ?sstrC ?sboolC ?no0C ?hn ?htk ?aI0 ?lI0 ?cI0_ ?kI0 ?iI0 ?LI0 ?mI0 ?aCa ?lCa ?cCa_ ?kCa ?iCa ?jCa ?aPw ?lPw ?cPw_ ?kPw ?iPw ?jPw ?aRa ?lRa ?cRa_ ?kRa ?iRa ?jRa ?aTu ?lTu ?cTu_ ?kTu ?iTu ?jTu ?aFa ?gFa ?tFa_ ?rFa ?lFa ?cFa_ ?kFa ?aDe ?gDe ?tDe_ ?rDe ?lDe ?cDe_ ?kDe ?z_isinstance ?z_int ?z_bool ?z_tuple ?z_list ?z_len ?z_all ?z_iter ?z_max ?z_min ?z_abs ?z_range ?z_repr ?z_enumerate ?z_zip ?z_ValueError ?z_IndexError ?z_OverflowError ?v_BOUND ?v_MAX_FACTORS ?v_MAX_DEGREE ?v_MAX_POWER ?v_MAX_RAISED ?v_MAX_FLAT ?xCR ?xLR ?xsaR ?xgaR ?xggR ?xnbR ?xaR ?xtR ?xlR ?xcR ?xkR ?xeR ?xTR ?xhR ?xiR ?xsR ?xCN ?xLN ?xsaN ?xgaN ?xggN ?xnbN ?xaN ?xtN ?xlN ?xcN ?xkN ?xeN ?xTN ?xhN ?xiN ?xsN ?xCM ?xLM ?xsaM ?xgaM ?xggM ?xnbM ?xaM ?xtM ?xlM ?xcM ?xkM ?xeM ?xTM ?xhM ?xiM ?xsM ?xCP ?xkP ?xeP ?xTP ?xiP ?xsP ?xqP ?xCK ?xiK ?xTK ?xgaP ?xggP ?xhP ?xhaP ?xhmP ?xhaN ?xhmN ?xhaM ?xhmM ?nNP ?nTP ?nTN ?u1 ?u2 ?u3 ?u4 ?u5 ?w1 ?w2 ?w3 ?neqPK ?prA ?prL ?prV ?prI ?neNrPr ?neNrLa ?nePrLa
    (case aWh => k_is)
    (case lWh => k_is)
    (case cWh_ => k_is)
    (case kWh => k_is)
    (case aIn => k_is)
    (case lIn => k_is)
    (case cIn_ => k_is)
    (case kIn => k_is)
    (case aPm => k_is)
    (case lPm => k_is)
    (case cPm_ => k_is)
    (case kPm => k_is)
    (case aIw => k_is)
    (case lIw => k_is)
    (case cIw_ => k_is)
    (case kIw => k_is)
    (case aRw => k_is)
    (case lRw => k_is)
    (case cRw_ => k_is)
    (case kRw => k_is)
    (case aTr => k_is)
    (case lTr => k_is)
    (case cTr_ => k_is)
    (case kTr => k_is)
    (case aAd => k_is)
    (case lAd => k_is)
    (case cAd_ => k_is)
    (case kAd => k_is)
    (case aNg => k_is)
    (case lNg => k_is)
    (case cNg_ => k_is)
    (case kNg => k_is)
    (case aMu => k_is)
    (case lMu => k_is)
    (case cMu_ => k_is)
    (case kMu => k_is)
    (case aTg => k_is)
    (case lTg => k_is)
    (case cTg_ => k_is)
    (case kTg => k_is)
    (case aOg => k_is)
    (case lOg => k_is)
    (case cOg_ => k_is)
    (case kOg => k_is)
    (case aPo => k_is)
    (case lPo => k_is)
    (case cPo_ => k_is)
    (case kPo => k_is)
    (case aOp => k_is)
    (case lOp => k_is)
    (case cOp_ => k_is)
    (case kOp => k_is)
    (case aBi => k_is)
    (case lBi => k_is)
    (case cBi_ => k_is)
    (case kBi => k_is)
    (case aHe => k_is)
    (case lHe => k_is)
    (case cHe_ => k_is)
    (case kHe => k_is)
    (case aFl => k_is)
    (case lFl => k_is)
    (case cFl_ => k_is)
    (case kFl => k_is)
    (case aDi => k_is)
    (case lDi => k_is)
    (case cDi_ => k_is)
    (case kDi => k_is)
    (case aRo => k_is)
    (case lRo => k_is)
    (case cRo_ => k_is)
    (case kRo => k_is)
    (case aPi => k_is)
    (case lPi => k_is)
    (case cPi_ => k_is)
    (case kPi => k_is)
    (case aTo => k_is)
    (case lTo => k_is)
    (case cTo_ => k_is)
    (case kTo => k_is)
    (case aWr => k_is)
    (case lWr => k_is)
    (case cWr_ => k_is)
    (case kWr => k_is)
    (case aNr => k_is)
    (case lNr => k_is)
    (case cNr_ => k_is)
    (case kNr => k_is)
    (case qNr => k_is)
    (case vNr => rfl)
    (case dNr => kernel_rfl)
    (case nNr => kernel_rfl)
    (case eNr => exact hT8 _ (by simp))
    (case aPr => k_is)
    (case lPr => k_is)
    (case cPr_ => k_is)
    (case kPr => k_is)
    (case qPr => k_is)
    (case vPr => rfl)
    (case dPr => kernel_rfl)
    (case nPr => kernel_rfl)
    (case ePr => exact hT8 _ (by simp))
    (case aJr => k_is)
    (case lJr => k_is)
    (case cJr_ => k_is)
    (case kJr => k_is)
    (case aLa => k_is)
    (case lLa => k_is)
    (case cLa_ => k_is)
    (case kLa => k_is)
    (case qLa => k_is)
    (case vLa => rfl)
    (case dLa => kernel_rfl)
    (case nLa => kernel_rfl)
    (case eLa => exact hT8 _ (by simp))
    (case aC => k_is)
    (case pgC => k_is)
    (case hdC => k_is)
    (case poC => k_is)
    (case saC => k_is)
    (case mkC => k_is)
    (case kcC => k_is)
    (case haC => k_is)
    (case hmC => k_is)
    (case ciC => k_is)
    (case ctC => k_is)
    (case neC => k_is)
    (case sfC => k_is)
    (case sintC => k_is)
    (case sNoneTypeC => k_is)
    (case stupleC => k_is)
    (case sstrC => k_is)
    (case sboolC => k_is)
    (case no0C => k_is)
    (case hn => k_is)
    (case htk => k_is)
    (case aI0 => k_is)
    (case lI0 => k_is)
    (case cI0_ => k_is)
    (case kI0 => k_is)
    (case iI0 => k_is)
    (case LI0 => k_is)
    (case mI0 => k_is)
    (case aCa => k_is)
    (case lCa => k_is)
    (case cCa_ => k_is)
    (case kCa => k_is)
    (case iCa => k_is)
    (case jCa => k_is)
    (case aPw => k_is)
    (case lPw => k_is)
    (case cPw_ => k_is)
    (case kPw => k_is)
    (case iPw => k_is)
    (case jPw => k_is)
    (case aRa => k_is)
    (case lRa => k_is)
    (case cRa_ => k_is)
    (case kRa => k_is)
    (case iRa => k_is)
    (case jRa => k_is)
    (case aTu => k_is)
    (case lTu => k_is)
    (case cTu_ => k_is)
    (case kTu => k_is)
    (case iTu => k_is)
    (case jTu => k_is)
    (case aFa => k_is)
    (case gFa => k_is)
    (case tFa_ => k_is)
    (case rFa => k_is)
    (case lFa => k_is)
    (case cFa_ => k_is)
    (case kFa => k_is)
    (case aDe => k_is)
    (case gDe => k_is)
    (case tDe_ => k_is)
    (case rDe => k_is)
    (case lDe => k_is)
    (case cDe_ => k_is)
    (case kDe => k_is)
    (case z_isinstance => k_is)
    (case z_int => k_is)
    (case z_bool => k_is)
    (case z_tuple => k_is)
    (case z_list => k_is)
    (case z_len => k_is)
    (case z_all => k_is)
    (case z_iter => k_is)
    (case z_max => k_is)
    (case z_min => k_is)
    (case z_abs => k_is)
    (case z_range => k_is)
    (case z_repr => k_is)
    (case z_enumerate => k_is)
    (case z_zip => k_is)
    (case z_ValueError => k_is)
    (case z_IndexError => k_is)
    (case z_OverflowError => k_is)
    (case v_BOUND => k_is)
    (case v_MAX_FACTORS => k_is)
    (case v_MAX_DEGREE => k_is)
    (case v_MAX_POWER => k_is)
    (case v_MAX_RAISED => k_is)
    (case v_MAX_FLAT => k_is)
    (case xCR => k_is)
    (case xLR => k_is)
    (case xsaR => k_is)
    (case xgaR => k_is)
    (case xggR => k_is)
    (case xnbR => k_is)
    (case xaR => k_is)
    (case xtR => k_is)
    (case xlR => k_is)
    (case xcR => k_is)
    (case xkR => k_is)
    (case xeR => k_is)
    (case xTR => k_is)
    (case xhR => k_is)
    (case xiR => k_is)
    (case xsR => k_is)
    (case xCN => k_is)
    (case xLN => k_is)
    (case xsaN => k_is)
    (case xgaN => k_is)
    (case xggN => k_is)
    (case xnbN => k_is)
    (case xaN => k_is)
    (case xtN => k_is)
    (case xlN => k_is)
    (case xcN => k_is)
    (case xkN => k_is)
    (case xeN => k_is)
    (case xTN => k_is)
    (case xhN => k_is)
    (case xiN => k_is)
    (case xsN => k_is)
    (case xCM => k_is)
    (case xLM => k_is)
    (case xsaM => k_is)
    (case xgaM => k_is)
    (case xggM => k_is)
    (case xnbM => k_is)
    (case xaM => k_is)
    (case xtM => k_is)
    (case xlM => k_is)
    (case xcM => k_is)
    (case xkM => k_is)
    (case xeM => k_is)
    (case xTM => k_is)
    (case xhM => k_is)
    (case xiM => k_is)
    (case xsM => k_is)
    (case xCP => k_is)
    (case xkP => k_is)
    (case xeP => k_is)
    (case xTP => k_is)
    (case xiP => k_is)
    (case xsP => k_is)
    (case xqP => first | k_exc | k_is | kernel_rfl)
    (case xCK => k_is)
    (case xiK => k_is)
    (case xTK => k_is)
    (case xgaP => k_is)
    (case xggP => k_is)
    (case xhP => k_is)
    (case xhaP => k_is)
    (case xhmP => k_is)
    (case xhaN => k_is)
    (case xhmN => k_is)
    (case xhaM => k_is)
    (case xhmM => k_is)
    (case nNP => k_is)
    (case nTP => k_is)
    (case nTN => k_is)
    (case u1 => k_is)
    (case u2 => k_is)
    (case u3 => k_is)
    (case u4 => k_is)
    (case u5 => k_is)
    (case w1 => k_is)
    (case w2 => k_is)
    (case w3 => k_is)
    (case neqPK => decide)
    (case prA => k_is)
    (case prL => k_is)
    (case prV => first | rfl | decide | kernel_rfl)
    (case prI => first | rfl | decide | kernel_rfl)
    (case neNrPr => decide)
    (case neNrLa => decide)
    (case nePrLa => decide)
