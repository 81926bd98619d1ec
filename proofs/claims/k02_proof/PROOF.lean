import PyProof.Rows.All
import Wide.All
import OpenK.AllK
import Wide.FinOn
import HandS.ForMost
import HandS.ForExc
import KE.KExcInit
import HandS.IsInst
import HandS.IterNext
import HandS.OwnIter
import KE.KOwnIter
import PyProof.Rows.Range3
import PyProof.Conv_bool
import HandS.TupMul
import HandS.TupAny
import KE.GoesMore
import KE.GoesEnum
import KE.GoesZip
import HandS.Walk
import HandS.Style
import PyProof.FactsInt
import PyProof.FactsInt2
import PyProof.Rows.FactsB_mul
import HandS.OwnEq
import PyProof.NeKinds
import KE.KCallOwn
import HandS.Wide
import HandS.Property
import HandS.TryMany
import HandS.Lambda
import HandS.EndBits
import HandS.EndTab
import PySem.Challenge.RW_primekinds_k02_whole_divisions
import HandS.Defaults
import HandS.RaiseMore
import PyProof.ReprLen
import PyProof.ExcBaseAll.ValueError
import HandS.ExcOwn
import KE.KNestM
set_option Elab.async false
set_option linter.all false
set_option maxRecDepth 100000
set_option maxHeartbeats 4000000
/-! Promises of defs that are called where no container is being shown (the guards of the stack are known to be empty): repr of containers needs this. -/
namespace Gd
open PySem PySem.Spec PyProof.Rows L2

/-- no container is being shown -/
abbrev NoG (A : Around) : Prop := A.guards = some []

/-- the promise of a def, kept wherever no container is being shown -/
structure FnG (P : Program) (w : World) (K : PySem.W.Frag) (mg : Str → Option Value) (base : Heap) (CX : CXT) (k : Nat)
    (f : Addr) (fd : FuncData) (ps : List Str) (sp : Sp) : Prop where
  many : ∀ vs H Q E, sp vs H Q E → vs.length = ps.length
  go : ∀ (A : Around) (out : List Env) (s : Shared) (H : Hp) (ar : Args) (us : List Value) (vs : List V) (Q : VK) (E : XK),
    NoG A → Room k A → Env0 P w K mg base A out s H → BindsTo s fd ar (ps.zip us) → Vals vs us → sp vs H Q E →
      codeAny (model P w) A (.call (.ref f) ar) (CR CX out P w H s Q E) s

section
variable {P : Program} {w : World} {K : PySem.W.Frag} {mg : Str → Option Value} {base : Heap} {CX : CXT} {k : Nat}
  {f : Addr} {fd : FuncData} {ps : List Str} {sp : Sp}
theorem FnG.of (F : FnOk P w K mg base CX k f fd ps sp) : FnG P w K mg base CX k f fd ps sp :=
  ⟨F.len, fun A out s H ar us vs Q E _ => F.run A out s H ar us vs Q E⟩

/-- a def by its body, where no container is being shown -/
theorem fnG {x qual : Str} {st : Stmt} {N : List Str} (F : Fun K x qual st f fd) (S : FnScope N ps (defScope st))
    (many : ∀ vs H Q E, sp vs H Q E → vs.length = ps.length)
    (body : ∀ (cdv : Value) (A : Around) (out : List Env) (s : Shared) (H : Hp) (vs : List V) (Q : VK) (E : XK),
      NoG A → Room k (A.deeper (envOfC qual (defScope st) s.heap.objs.size f cdv)) → sp vs H Q E →
      ∃ t, PSs (cxOf CX P w K mg base N qual (defScope st) f cdv A out s H E) (defBody st) t ∧
        t { nx := fun _ H' => Q .non H', rt := Q } (start N vs) H) :
    FnG P w K mg base CX (k + 1) f fd ps sp := by
  obtain ⟨oc, od, kV, doc, pm, an, cdv, ct, osl, rfl, lk, hcd⟩ := F.ex
  refine ⟨many, ?_⟩
  intro A out s H ar us vs Q E hg hr e0 hb r hsp
  have hl := many vs H Q E hsp
  have KX : K.In s.heap := e0.mod.kin.keeps (fun b o e => (e0.bs b o e).1)
  have lim : s.heap.NoLimit := e0.mod.nolimit.keeps (fun b o e => (e0.bs b o e).1)
  have kinds : ∀ y ∈ ps.zip us, (defScope st).names.lookup y.1 = some .local ∨
      ((defScope st).names.lookup y.1 = some .cell ∧ ((cellsFrom (s.heap.objs.size + 1) (defScope st).names []).lookup y.1).isSome = true) := by
    rintro ⟨n, v⟩ hy
    rcases S.par n (List.of_mem_zip hy).1 with q | q
    · exact Or.inl q
    · exact Or.inr ⟨q, PySem.W.cellsFrom_some _ _ _ (Or.inl q)⟩
  refine codeAny_call_function hr.depth (KX _ _ lk) rfl S.co S.gen rfl
    (PySem.W.codeRec_of KX hcd) (hb _ _ _ _ ?_)
  refine wpAny_newFunctionEnv_cells S.kind kinds ?_
  intro env he s1 x
  cases he
  refine ⟨lim.keeps x.toInCall.keep, codeAny_func ?_⟩
  obtain ⟨t, ht, hq⟩ := body cdv A out s H vs Q E hg (hr.deeper _) hsp
  have I := inv_start (CX := CX) (E := E) S hr.hd e0 hl r x
  refine wpAny_mono (ht.run [] s1 (start N vs) H _ I hq) ?_ (fun e s' hs => hs)
  intro fl s' hs
  have fin : ∀ {σ' : L2.St} {H' : Hp} {v : V} {u : Value},
      Inv (cxOf CX P w K mg base N qual (defScope st) f cdv A out s H E) [] σ' H' s' →
      RelV v u → Q v H' → CE out P w H s Q u s' := by
    intro σ' H' v u J rv q
    exact ⟨v, H', J.os, J.bare, J.base, J.hok, rv, q⟩
  cases fl with
  | ret u =>
    obtain ⟨v, σ', H', J, rv, q⟩ := hs
    exact fin J rv q
  | next =>
    obtain ⟨σ', H', J, q⟩ := hs
    exact fin (v := V.non) (u := Value.none) J rfl q
  | brk =>
    obtain ⟨σ', H', J, q⟩ := hs
    exact False.elim q
  | cont =>
    obtain ⟨σ', H', J, q⟩ := hs
    exact False.elim q
end

section
variable {X : Cx} {CX : CXT} {k : Nat} {f C : Addr} {fd : FuncData} {ps : List Str} {sp : Sp} {dvs : List V} {ds : List Value} {E : XK}
  {x : Str} {p pos : Pos} {e : Expr} {es : List Expr} {t : TA}
/-- the call of such a def -/
theorem goG {pins : List (Addr × Obj)} {σ : L2.St} {H : Hp} {s : Shared} {Q : VK} {us : List Value} {vs : List V}
    (hg : NoG X.A) (F : FnG X.prog X.w X.K X.mg X.base CX k f fd ps sp) (hr : Room k X.A) (hb : Binds X.K fd ps ds)
    (hd : Vals dvs ds) (hx : Passes CX X E) (I : Inv X pins σ H s) (r : Vals vs us) (h : sp (vs ++ dvs) H Q E) :
    wpAny (model X.prog X.w) X.A (call (.ref f) us) (EP X pins σ Q) X.xe s := by
  have r2 := Vals.append r hd
  have hl : (us ++ ds).length = ps.length := by
    rw [← r2.length]
    exact F.many _ H Q E h
  have run := F.go X.A X.stack s H ⟨us, []⟩ (us ++ ds) _ Q E hg hr I.env0 (hb s us I.kIn hl) r2 h
  refine wpAny_call (codeAny_mono run ?_)
  intro r s' hq
  match r, hq with
  | .error e, hq => exact hx pins σ H s e s' I hq
  | .ok (.ret u), hq => exact I.after hq
  | .ok .next, hq => exact False.elim hq
  | .ok .brk, hq => exact False.elim hq
  | .ok .cont, hq => exact False.elim hq

theorem pe_callG (hg : NoG X.A) (F : FnG X.prog X.w X.K X.mg X.base CX k f fd ps sp) (hr : Room k X.A) (hgl : Gl X x)
    (hm : X.mg x = some (.ref f)) (hk : PySem.W.keepIn X.K (.ref f) = true) (hb : Binds X.K fd ps ds) (hd : Vals dvs ds)
    (hx : Passes CX X E) (ha : PA X (e :: es) t) (hdb : (x == ("__debug__" : Str)) = false := by decide)
    (he : starEach (e :: es) X.env = (false, eval e X.env) :: starEach es X.env := by rfl)
    (hpl : (backTo pos (starEach es X.env)).any (·.1) = false := by rfl) :
    PE X (.Call (.Name x p) (e :: es) [] pos) (tCall sp dvs E t) := by
  constructor
  intro pins s σ H Q I h
  refine wpAny_Call_Name_kw (ld_glob I hgl hm ?_ hdb)
  have go := thn (ha.run pos pins s σ H _ I h) (fun us s1 ⟨vs, H1, I1, r, q⟩ =>
    (⟨I1.kIn, goG hg F hr hb hd hx I1 r q⟩ : X.K.In s1.heap ∧ wpAny (model X.prog X.w) X.A (call (.ref f) us) (EP X pins σ Q) X.xe s1))
  exact PySem.W.callWith_K (h₀ := X.base) I.ok.mod.kin hk go he hpl
end

section
variable {P : Program} {w : World} {K : PySem.W.Frag} {mg mb : Str → Option Value} {CX : CXT} {k : Nat} {fa a : Addr}
  {fd : FuncData} {x : Str} {sp : Sp} {s₁ : Shared} {vs : List Value} {ns : List Int}
/-- the call of the law, from a heap H of which nothing but the script is tracked -/
theorem coreG (KX : K.In s₁.heap) (hns : s₁.heap.Ns mainGlobals mg) (hb : s₁.heap.Ns builtinsNs mb)
    (hbb : ∀ x : Str, x ≠ "__name__" → mb x = bootBuiltins x) (hlim : s₁.heap.NoLimit) (hg : s₁.gens = #[])
    (ha : s₁.heap.get? a = some { cls := .type "list", data := .seq vs.toArray }) (hr : Room k callerA)
    (F : ∀ base : Heap, K.In base → base.Ns mainGlobals mg → FnG P w K mg base CX k fa fd [x] sp)
    (hbind : ∀ (s : Shared) (u : Value), BindsTo s fd ⟨[u], []⟩ [(x, u)])
    (hCX : ∀ H e s', CX [] H s₁ (fun _ _ _ => False) e s' → False)
    (H : Hp) (hO : Only H) (hsp : sp [.ref a] H (fun v _ => v = .bl true) fun _ _ _ => False)
    (hok : HOk P w H s₁.heap) (hA : ∀ b, H b ≠ none → b = a) (hK : H a ≠ none → K.lookup a = none) :
    codeAny (model P w) callerA (.call (.ref fa) ⟨[.ref a], []⟩)
      (fun r s' => r = .ok (.ret (.bool true)) ∧ OldK s₁.heap s'.heap ∧ s'.os = s₁.os ∧ AllBare s'.gens) s₁ := by
  have at_a : ∀ {b : Addr}, H b ≠ none → b = a := fun {b} z => hA b z
  have keepB : ∀ {b : Addr} {o : Obj}, s₁.heap.get? b = some o → H b = none → (hidT s₁.heap H).get? b = some o := by
    intro b o e n
    exact hidT_get e n
  have noDict : ∀ {b : Addr} {o : Obj} {es : Array DictEntry} {ep : Nat},
      s₁.heap.get? b = some o → o.data = .dict es ep → H b = none := by
    intro b o es ep e d
    cases q : H b with
    | none => rfl
    | some u =>
      obtain rfl : b = a := at_a (by rw [q]; simp)
      rw [ha] at e
      cases e
      cases d
  have nsOf : ∀ {b : Addr} {m : Str → Option Value}, s₁.heap.Ns b m → (hidT s₁.heap H).Ns b m := by
    rintro b m ⟨o, es, ep, e, d, r⟩
    exact ⟨o, es, ep, keepB e (noDict e d), d, r⟩
  have inB : K.In (hidT s₁.heap H) := by
    intro b o e
    refine keepB (KX b o e) ?_
    cases q : H b with
    | none => rfl
    | some u =>
      obtain rfl : b = a := at_a (by rw [q]; simp)
      rw [hK (by rw [q]; simp)] at e
      cases e
  obtain ⟨mc, l1, l2⟩ := hlim
  have hM : Mod K mg (hidT s₁.heap H) := ⟨inB, nsOf hns, ⟨mb, nsOf hb, hbb⟩, ⟨mc, nsOf l1, l2⟩⟩
  have e0 : Env0 P w K mg (hidT s₁.heap H) callerA [] s₁ H := by
    refine ⟨rfl, hM, ?_, Nat.le_of_eq (hidT_size _ _), trivial, ?_, hok, .of_eq hg⟩
    · intro b o e
      exact of_hidT e
    · intro b z
      exact absurd (show b ∈ ([] : List Addr) from z) (by simp)
  have run := (F _ inB (nsOf hns)).go callerA [] s₁ H ⟨[.ref a], []⟩ [.ref a] [.ref a] _ _ rfl hr e0 (hbind s₁ (.ref a)) (.cons rfl .nil) hsp
  refine codeAny_mono run ?_
  intro r s' h
  match r, h with
  | .error e, h => exact (hCX H e s' h).elim
  | .ok .next, h => exact False.elim h
  | .ok .brk, h => exact False.elim h
  | .ok .cont, h => exact False.elim h
  | .ok (.ret u), h =>
    obtain ⟨v, H', os, bare, un, hok', rv, q⟩ := h
    obtain rfl : v = .bl true := q
    obtain rfl : u = Value.bool true := rv
    refine ⟨rfl, OldK.of_keep ?_, os, bare⟩
    intro b o e
    cases q : H b with
    | none => exact un.keep b o e q (fun z => absurd (show b ∈ ([] : List Addr) from z) (by simp)) (by simp)
    | some u =>
      rcases hO b with z | ⟨ob, xs, z⟩
      · rw [q] at z
        cases z
      · obtain ⟨e1, _⟩ := hok b _ z
        obtain ⟨e2, _⟩ := hok' b _ (un.frzs b ob _ z)
        rw [e] at e1
        cases e1
        exact e2

theorem law_callG (KX : K.In s₁.heap) (hns : s₁.heap.Ns mainGlobals mg) (hb : s₁.heap.Ns builtinsNs mb)
    (hbb : ∀ x : Str, x ≠ "__name__" → mb x = bootBuiltins x) (hlim : s₁.heap.NoLimit) (hg : s₁.gens = #[])
    (ha : s₁.heap.get? a = some { cls := .type "list", data := .seq vs.toArray }) (hi : IntsAre vs ns) (hl : ns.length ≤ sizeLine)
    (hr : Room k callerA) (F : ∀ base : Heap, K.In base → base.Ns mainGlobals mg → FnG P w K mg base CX k fa fd [x] sp)
    (hbind : ∀ (s : Shared) (u : Value), BindsTo s fd ⟨[u], []⟩ [(x, u)])
    (hsp : ∀ H : Hp, Only H → SqL K H a (ns.map V.int) → sp [.ref a] H (fun v _ => v = .bl true) fun _ _ _ => False)
    (hCX : ∀ H e s', CX [] H s₁ (fun _ _ _ => False) e s' → False) :
    codeAny (model P w) callerA (.call (.ref fa) ⟨[.ref a], []⟩)
      (fun r s' => r = .ok (.ret (.bool true)) ∧ OldK s₁.heap s'.heap ∧ s'.os = s₁.os ∧ AllBare s'.gens) s₁ := by
  have rv := vals_ints hi
  have lenV := hi.length
  cases hk : K.lookup a with
  | some o =>
    have e := KX a o hk
    rw [ha] at e
    cases e
    have none' : ∀ b : Addr, (fun _ : Addr => (none : Option HO)) b = none := fun _ => rfl
    refine coreG KX hns hb hbb hlim hg ha hr F hbind hCX (fun _ => none) (fun _ => .inl rfl) (hsp _ (fun _ => .inl rfl) ?_) ?_ (fun b z => absurd (none' b) z) (fun z => absurd (none' a) z)
    · exact .inr ⟨_, vs.toArray, _, hk, rfl, rfl, rfl, by rw [List.size_toArray, lenV]; exact hl, by simpa using rv⟩
    · intro b u z
      cases z
  | none =>
    have hpos : ∀ b, (fun b => if b = a then some (HO.frz { cls := .type "list", data := .seq vs.toArray } (.lst (ns.map V.int))) else none) b ≠ none → b = a := by
      intro b z
      by_cases q : b = a
      · exact q
      · exact absurd (if_neg q) z
    have hO : Only (fun b => if b = a then some (HO.frz { cls := .type "list", data := .seq vs.toArray } (.lst (ns.map V.int))) else none) := by
      intro b
      by_cases q : b = a
      · exact .inr ⟨_, _, if_pos q⟩
      · exact .inl (if_neg q)
    refine coreG KX hns hb hbb hlim hg ha hr F hbind hCX _ hO (hsp _ hO ?_) ?_ hpos (fun _ => hk)
    · exact .inl (.inr ⟨{ cls := .type "list", data := .seq vs.toArray }, if_pos rfl⟩)
    · intro b u z
      have q : b = a := hpos b (by rw [z]; simp)
      subst q
      have z' := (if_pos rfl).symm.trans z
      cases z'
      exact ⟨ha, by rw [List.length_map]; exact hl, vs, _, rv, ha⟩
end

/-- the end of a law -/
theorem walkG {l : PySem.W.OpenLaw} {n k : Nat} {q : Program} {loose : List Str} {XP : (Str → Option Value) → Heap → Prop} {YP : World → Heap → Prop} {d : DefRec} {K : Params → PySem.W.Frag} {CX : World → CXT} {sp : World → Sp} {x : Str}
    (hn : l.most = some n) (hn2 : n ≤ sizeLine) (hdf : d.params.defaults = []) (hr : Room k callerA)
    (hY : ∀ (w : World) (h : Heap), YP w h → (K w.params).In h)
    (F : ∀ (w : World) (mg : Str → Option Value) (fa : Addr) (h : Heap), (K w.params).In h → h.Ns mainGlobals mg → mg d.name = some (.ref fa) →
      ∃ fd : FuncData, (∀ (s : Shared) (u : Value), BindsTo s fd ⟨[u], []⟩ [(x, u)]) ∧
        ∀ base : Heap, (K w.params).In base → base.Ns mainGlobals mg → FnG l.prog w (K w.params) mg base (CX w) k fa fd [x] (sp w))
    (hsp : ∀ (w : World) (H : Hp) (a : Addr) (ns : List Int), ns.length ≤ n → Only H → SqL (K w.params) H a (ns.map V.int) → sp w [.ref a] H (fun v _ => v = .bl true) fun _ _ _ => False)
    (hCX : ∀ (w : World) (H : Hp) (s : Shared) (e : Value) (s' : Shared), CX w [] H s (fun _ _ _ => False) e s' → False) :
    PySem.W.WalkO q loose XP YP l.row.toRowW d [] (fun f vs => PySem.call f vs) := by
  refine Att.attach_call hn hdf ?_
  intro w s₀ s₁ mg mb fa o pm cd doc a vs ns G Y ho hd hcd hmg hobj hints hlen hg
  obtain ⟨fd, hb, hF⟩ := F w mg fa _ (hY w _ Y) G.T.g hmg
  exact law_callG (hY w _ Y) G.T.g G.T.b G.T.builtins G.T.nolimit hg hobj hints (Nat.le_trans hlen hn2) hr hF hb (fun H hO hS => hsp w H a ns hlen hO hS) fun H e s' => hCX w H s₁ e s'
end Gd

set_option Elab.async false
set_option linter.all false
set_option maxRecDepth 100000
set_option maxHeartbeats 4000000
/-! The first field of an exception of an own class that stands directly below a builtin one. -/
namespace GdX
open PySem PySem.Calls PyProof.Rows PySem.HandSPX Builtin Builtin.ObjectAttr
section
variable {prog : Program} {w : World} {A : Around} {R : Result → Shared → Prop} {hp : Heap} {g : Array GenState} {d : Drawn} {t : Nat} {os : OsState}
theorem osaG {B : String} {bmB : List Value} (SF : StoreFacts B bmB "object.__setattr__" "object") {K : W.Frag} {name : Str} {tk : Tok} {v : Value} {x C : Addr} {fv : Array Value} {cd : ClassData}
    (X : K.In hp) (hx : hp.get? x = some { cls := .ref C, data := .fields fv }) (hcd : W.clsIn K C = some cd)
    (hm : cd.mro = .ref C :: bmB) (hh : cd.hasDict = true) (ha : W.findIn K (.ref C) name = some none)
    (hq : ∀ h' tk' dx, (∀ b o, b ≠ x → hp.get? b = some o → h'.get? b = some o) → hp.objs.size ≤ dx → dx ≠ x →
      h'.get? x = some { cls := .ref C, dict := some dx, data := .fields fv } →
      h'.Ns1 dx (fun y => if y = name then some v else none) → R (.ok (.ret .none)) ⟨h', g, d, tk', os⟩) :
    codeAny (model prog w) A (.call (.builtin "object.__setattr__") ⟨[.ref x, .str name tk, v], []⟩) R ⟨hp, g, d, t, os⟩ := by
  have I : W.InstAt hp x { cls := .ref C, data := .fields fv } C none := ⟨hx, rfl, rfl, trivial⟩
  have ne : cd.mro.isEmpty = false := by rw [hm]; rfl
  have hob : cd.mro.contains (.type "object") = true := by
    rw [hm, List.contains_cons, SF.hasOwner, Bool.or_true]
  have hxs : x ≠ hp.objs.size := Nat.ne_of_lt (Heap.lt_size hx)
  have sub : W.Looks (model prog w) hp (isInstance (.ref x) (.type "object")) true := by
    refine I.type.andThen (W.looks_mroIn X ?_)
    unfold W.mroIn
    rw [hcd, Option.bind_some, if_neg (by rw [ne]; decide), hob]
  refine codeAny_call_builtin SF.slot.plain SF.entry (@W.check_slot (model prog w) _ _ ⟨hp, g, d, t, os⟩ "object.__setattr__" "object" "__setattr__" (.ref x) [.str name tk, v] [] _
    SF.kind SF.split sub (SF.args (.ref x) (.str name tk) v) ?_)
  have hmr : W.Looks (model prog w) hp (mroOf (.ref C)) cd.mro := (W.looks_clsIn X hcd).andThen .now
  have L3 : W.Looks (model prog w) hp (storeTaker? none) none := .now
  have hcls : W.Looks (model prog w) hp (classData C) cd := W.looks_clsIn X hcd
  rw [W.osa_eq, refuse_eq]
  refine wpAny_bind (wpAny_bind (I.type.at (wpAny_bind (hmr.at ?_))))
  rw [hm, refuseLoop_ref, SF.passes]
  refine wpAny_pure (wpAny_bind (I.type.at (wpAny_bind ((W.looks_findIn X ha).at (wpAny_bind (L3.at ?_))))))
  show wpAny _ _ (storeInOwnDict (.ref x) (.ref C) (.str name tk) name v false) _ _ _
  clear hmr hob ne sub hm
  obtain ⟨nm, bs, mro, ns, qn, hd, sn, sb, ab, col, del⟩ := cd
  have hh' : hd = true := hh
  subst hh'
  unfold storeInOwnDict ownDictForStores
  repeat (first
    | with_reducible refine store_in_new ?_ ?_
    | with_reducible refine wpAny_loadPart_at hx ?_
    | with_reducible refine hcls.at ?_
    | wp_step)
  · exact ⟨_, #[], _, (Heap.get?_update_ne _ _ _ _ hxs.symm).trans (Heap.get?_push_at rfl rfl), rfl, fun e he => absurd he (by simp), fun _ => rfl⟩
  · intro h' tk' hn' hs
    have hx₁ : (hp.push { cls := .type "dict", data := .dict #[] }).get? x = some { cls := .ref C, data := .fields fv } := Heap.get?_push_of_some _ hx
    refine hq h' tk' hp.objs.size (fun b o hb ho => ?_) (Nat.le_refl _) hxs.symm ?_ hn'
    · have far : b ≠ hp.objs.size := Nat.ne_of_lt (Heap.lt_size ho)
      exact (hs.2 b far).trans ((Heap.get?_update_ne _ _ _ _ hb).trans (Heap.get?_push_of_some _ ho))
    · exact (hs.2 x hxs).trans (Heap.get?_update_self _ hx₁ rfl)
end
end GdX

set_option Elab.async false
set_option linter.all false
set_option maxRecDepth 100000
set_option maxHeartbeats 4000000
namespace PySem
namespace XInvalidNumber
open PySem.W PySem.Calls PyProof.Rows PySem.HandSPX
/-! ### the text of __init__ -/
def iA (p1 p2 : Pos) : Arguments := { posonlyargs := [], args := [{ arg := "self", annotation := none, pos := p1 }, { arg := "value", annotation := none, pos := p2 }], vararg := none, kwonlyargs := [], kw_defaults := [], kwarg := none, defaults := [] }
def iB (q1 q2 q3 q4 : Pos) : List Stmt := [.Assign [.Attribute (.Name "self" q1) "value" q2] (.Name "value" q3) q4]
def iS : Scope := { kind := .function, names := [(PySem.Str.ofString "self", .local), (PySem.Str.ofString "value", .local)], isGenerator := false, isCoroutine := false, more := [] }
/-- what the written part says of Low, at C, and of its __init__, at fI -/
structure InvalidNumberTxt (K : Frag) (mg : Str → Option Value) (C fI : Addr) : Prop where
  gC : mg "InvalidNumber" = some (.ref C)
  cls : ∃ nm q N bs sn sub ab col dd k0 k1 k2 k3 k5, K.lookup C = some (excClassObj nm q C N bs [.type "IndexError", .type "LookupError", .type "Exception", .type "BaseException", .type "object"] true sn sub ab col dd k0 k1 k2 k3 k5 "IndexError.__new__")
  sa : findIn K (.ref C) "__setattr__" = some (some (.builtin "object.__setattr__"))
  ga : findIn K (.ref C) "__getattribute__" = some (some (.builtin "BaseException.__getattribute__"))
  gg : findIn K (.ref C) "__getattr__" = some none
  noN : findIn K (.ref C) "value" = some none
  iC : findIn K (.ref C) "__init__" = some (some (.ref fI))
  tC : typeIn K (.ref fI) = some (.type "function")
  kC : keepIn K (.ref C) = true
  exC : subIn K (.ref C) (.type "BaseException") = some true
  tyC : typeIn K (.ref C) = some (.type "type")
  hdC : hasDictIn K C = true
  te : exmOne K (.ref C) (.ref C) = some true
  fn : ∃ (oc : Value) (od : Option Addr) (doc pm : Value) (an : Option Addr) (cdv ct : Value) (osl : Array (Option Value)) (p1 p2 q1 q2 q3 q4 : Pos),
    K.lookup fI = some ⟨oc, od, .func (fnOf "__init__" "InvalidNumber.__init__" (iA p1 p2) (iB q1 q2 q3 q4) iS .none .none doc pm an cdv ct), osl⟩ ∧ codeIn K cdv "InvalidNumber.__init__" = true
theorem one_size (v : Value) : [v].length ≤ sizeLine := by
  rw [sizeLine_eq]
  exact (by decide : 1 ≤ 16777216)
theorem kept_but {K : Frag} {h h' : Heap} {x : Addr} (X : K.In h) (hx : K.lookup x = none) (k : ∀ b o, b ≠ x → h.get? b = some o → h'.get? b = some o) : K.In h' := fun a o e =>
  k a o (fun z => by rw [z, hx] at e; cases e) (X a o e)
theorem ldC {M : Model} {s : Shared} {name : Str} {scope : Scope} {L a : Addr} {cd : Value} {m : Str → Option Value} {x : Str} {pos : Pos} {v : Value} {Q : Value → Shared → Prop} {A : Around} {E : Value → Shared → Prop} (hn : s.heap.Ns L m) (hv : m x = some v) (h : Q v s)
    (hk : scope.kind = .function := by rfl) (hl : (envOfC name scope L a cd).kindOf x = some .local := by rfl) (hd : (x == ("__debug__" : Str)) = false := by decide) :
    wpAny M A (eval (.Name x pos) (envOfC name scope L a cd)) Q E s := wpAny_Name (wpAny_loadName_local hk hl hn hv h) hd
/-- what __init__ leaves of a fresh exception at x -/
structure InitEnd (h h' : Heap) (x C dx t1 : Addr) (v : Value) : Prop where
  keep : ∀ b o, b ≠ x → h.get? b = some o → h'.get? b = some o
  obj : h'.get? x = some { cls := .ref C, dict := some dx, data := .fields #[.ref t1, .none, .none, .none, .bool false, .none] }
  dbig : h.objs.size ≤ dx
  dne : dx ≠ x
  ns : h'.Ns1 dx (fun y => if y = "value" then some v else none)
/-- a made Low -/
structure OwnMade (h h' : Heap) (e C d : Addr) (v : Value) : Prop where
  keep : ∀ b o, h.get? b = some o → h'.get? b = some o
  new : h.objs.size ≤ e
  obj : ∃ oe vs, h'.get? e = some oe ∧ oe.cls = .ref C ∧ oe.dict = some d ∧ oe.data = .fields vs ∧ vs[1]? = some .none
  dbig : h.objs.size ≤ d
  dne : d ≠ e
  ns : h'.Ns1 d (fun y => if y = "value" then some v else none)
section
variable {prog : Program} {w : World} {A : Around} {E : Value → Shared → Prop} {R : Result → Shared → Prop} {s : Shared} {K : Frag} {mg : Str → Option Value} {C fI : Addr}
theorem low_init (T : InvalidNumberTxt K mg C fI) {x t0 : Addr} {v : Value} (X : K.In s.heap) (hlim : s.heap.NoLimit) (hx : s.heap.get? x = some (excO C t0)) (hnx : K.lookup x = none) (hroom : A.depth < recursionLimit)
    (hq : ∀ h' tk dx, InitEnd s.heap h' x C dx t0 v → R (.ok (.ret .none)) { s with heap := h', toks := tk }) :
    codeAny (model prog w) A (.call (.ref fI) ⟨[.ref x, v], []⟩) R s := by
  obtain ⟨oc, od, doc, pm, an, cdv, ct, osl, p1, p2, q1, q2, q3, q4, ho, hcd⟩ := T.fn
  obtain ⟨nm, q, N, bs, sn, sub, ab, col, dd, k0, k1, k2, k3, k5, hC⟩ := T.cls
  have hcl : clsIn K C = some { name := nm, bases := bs, mro := .ref C :: [.type "IndexError", .type "LookupError", .type "Exception", .type "BaseException", .type "object"], ns := N, qualname := q, hasDict := true, slotNames := sn, subclasses := sub, abstract := ab, collection := col, hasDel := false } := by unfold clsIn; rw [hC] <;> rfl
  refine Att.call_fn (binds := [("self", .ref x), ("value", v)]) X hlim ho hcd hroom (BindsTo.of_eq (by first | rfl | with_unfolding_all rfl)) (by first | rfl | decide | with_unfolding_all rfl) (fun s₁ IC => ?_) rfl rfl rfl
  obtain ⟨h₁, tk₁, rfl⟩ := IC.toInCall.same
  have k : ∀ b o, s.heap.get? b = some o → h₁.get? b = some o := IC.toInCall.keep
  have hn := IC.toInCall.ns
  have hxL : s.heap.objs.size ≠ x := Nat.ne_of_gt (Heap.lt_size hx)
  have X₁ : K.In h₁ := X.keeps k
  have hx₁ := k _ _ hx
  -- self.by = by
  show wpAny _ _ (execs _ _) _ _ _
  refine wpAny_execs_cons (plainObj_wpAny_Assign_Attribute ?_)
  refine ldC (v := v) hn (by first | rfl | with_unfolding_all rfl | kernel_rfl) (ldC (v := .ref x) hn (by first | rfl | with_unfolding_all rfl | kernel_rfl) ?_)
  refine set_plain X₁ (ox := excO C t0) (od := none) ⟨hx₁, rfl, rfl, trivial⟩ T.sa ?_
  refine GdX.osaG F.store_IndexError X₁ hx₁ hcl rfl rfl T.noN (fun h₃ tk₃ dx k₃ dn dne hx₃ hn₃ => ?_)
  show wpAny _ _ (execs _ _) _ _ _
  have z : s.heap.objs.size < h₁.objs.size := hn.lt
  exact wpAny_execs_nil (hq h₃ tk₃ dx ⟨fun b o hb e => k₃ b o hb (k b o e), hx₃, Nat.le_of_lt (Nat.lt_of_lt_of_le z dn), dne, hn₃⟩)
theorem low_made (T : InvalidNumberTxt K mg C fI) {v : Value} (X : K.In s.heap) (hlim : s.heap.NoLimit) (hroom : A.depth + 1 < recursionLimit)
    (hq : ∀ h' tk e d, OwnMade s.heap h' e C d v → R (.ok (.ret (.ref e))) { s with heap := h', toks := tk }) :
    codeAny (model prog w) A (.call (.ref C) ⟨[v], []⟩) R s := by
  obtain ⟨nm, q, N, bs, sn, sub, ab, col, dd, k0, k1, k2, k3, k5, hC⟩ := T.cls
  obtain ⟨hp, g, dr, tk, os⟩ := s
  have k : ∀ b o, hp.get? b = some o → ((hp.push (kdv_tup [v])).push (excO C hp.objs.size)).get? b = some o := fun b o e => Heap.get?_push_of_some _ (Heap.get?_push_of_some _ e)
  have hget : ((hp.push (kdv_tup [v])).push (excO C hp.objs.size)).get? (hp.objs.size + 1) = some (excO C hp.objs.size) := by heap_get
  have hnx : K.lookup (hp.objs.size + 1) = none := by
    cases e : K.lookup (hp.objs.size + 1) with
    | none => rfl
    | some o =>
      have z : hp.get? (hp.objs.size + 1) = some o := X _ _ e
      exact absurd (Nat.lt_of_succ_lt (Heap.lt_size z)) (Nat.lt_irrefl _)
  refine call_own F.excBase_IndexError (fun _ => rfl) (X _ _ hC) (looks_findIn X T.iC) (fun self => bind_fn X self T.tC) (one_size v) ?_
  refine low_init (s := ⟨(hp.push (kdv_tup [v])).push (excO C hp.objs.size), g, dr, tk, os⟩) T (X.keeps k) (hlim.keeps k) hget hnx ?_ fun h' tk' dx ⟨k', hx, dn, dne, hns⟩ => ?_
  · show A.depth + 1 < recursionLimit
    exact hroom
  · have old : ∀ b o, hp.get? b = some o → h'.get? b = some o := fun b o e => k' b o (Nat.ne_of_lt (Nat.lt_succ_of_lt (Heap.lt_size e))) (k b o e)
    have z : hp.objs.size + 1 + 1 ≤ dx := by
      first
        | (simpa only [Heap.size_push] using dn)
        | exact dn
        | (have q := dn; rw [Heap.size_push, Heap.size_push] at q; exact q)
    exact ⟨rfl, hq h' tk' (hp.objs.size + 1) dx ⟨old, Nat.le_succ _, ⟨_, _, hx, rfl, rfl, rfl, rfl⟩, Nat.le_trans (Nat.le_trans (Nat.le_succ _) (Nat.le_succ _)) z, dne, hns⟩⟩
end
end XInvalidNumber
end PySem
namespace L2
open PySem PySem.Spec PyProof.Rows
theorem relO_InvalidNumber {v : V} {v' : Value} (r : RelV v v') (f : Str) : RelO (List.lookup f [(("value" : Str), v)]) (if f = "value" then some v' else none) := by
  by_cases hw : f = "value"
  · subst hw
    rw [if_pos rfl]
    have q : List.lookup ("value" : Str) [(("value" : Str), v)] = some v := by simp [List.lookup]
    rw [q]
    exact r
  · rw [if_neg hw]
    have qw : (f == ("value" : Str)) = false := by simpa using hw
    have q2 : List.lookup f [(("value" : Str), v)] = none := by simp [List.lookup, qw]
    rw [q2]
    trivial
section
variable {X : Cx} {C fI : Addr}
/-- Low(e) -/
def tMkInvalidNumber (C : Addr) (ta : TA) : St → Hp → XK → Prop := fun σ H Q => ta σ H fun vs H1 => ∃ v, vs = [v] ∧ ∀ d, H1 d = none → Q (.ref C) (some d) (upd H1 d (.xd [(("value" : Str), v)]))
theorem pmk_InvalidNumber {a : Expr} {ta : TA} {p pos : Pos} {k : Nat} (T : PySem.XInvalidNumber.InvalidNumberTxt X.K X.mg C fI) (hr : Room k X.A) (ha : PA X [a] ta) (hg : Gl X "InvalidNumber" := by rfl)
    (he : starEach (a :: []) X.env = (false, eval a X.env) :: starEach [] X.env := by rfl) (hpl : (backTo pos (starEach [] X.env)).any (·.1) = false := by rfl) :
    PMk X (.Call (.Name "InvalidNumber" p) [a] [] pos) (tMkInvalidNumber C ta) := by
  intro pins s σ H Q I h
  refine wpAny_Call_Name_kw (ld_glob I hg T.gC ?_)
  refine PySem.W.callWith_K (h₀ := X.base) I.ok.mod.kin T.kC (thn (ha.run pos pins s σ H _ I h) fun us s1 hh => ?_) he hpl
  obtain ⟨vs, H1, I1, r1, v, ev, q1⟩ := hh
  subst ev
  refine ⟨I1.kIn, ?_⟩
  cases r1 with
  | cons rv rn =>
    rename_i v' us'
    cases rn
    show wpAny _ _ (call (.ref C) [v']) _ _ _
    have hlim := I1.nolimit
    obtain ⟨hp, g, dr, tk, os⟩ := s1
    refine wpAny_call (PySem.XInvalidNumber.low_made T I1.kIn hlim (by have := hr.dp; omega) fun h' tk' e d M => ?_)
    show MkP X pins σ Q (.ref e) ⟨h', g, dr, tk', os⟩
    obtain ⟨oe, fv, hoe, hc, hd, hdat, h1⟩ := M.obj
    have hns := M.ns
    obtain ⟨G', g1, g2⟩ := restrict h' fun b => decide (b ≠ e)
    have gk : ∀ b, b ≠ e → G'.get? b = h'.get? b := fun b hb => g1 b (decide_eq_true hb)
    have ge : G'.get? e = none := g2 e (by simp)
    have old : ∀ b o, hp.get? b = some o → G'.get? b = some o := fun b o q => (gk b (Nat.ne_of_lt (Nat.lt_of_lt_of_le (Heap.lt_size q) M.new))).trans (M.keep b o q)
    have ob : ObjOk X.prog X.w (upd H1 d (.xd [(("value" : Str), v)])) G' d (.xd [(("value" : Str), v)]) :=
      ⟨_, hns.at (fun o q => (gk d M.dne).trans q), fun f => relO_InvalidNumber rv f⟩
    have J : Inv X pins σ (upd H1 d (.xd [(("value" : Str), v)])) ⟨G', g, dr, tk', os⟩ := I1.laid (t' := tk') old M.dbig ob
    refine ⟨e, oe, fv, ⟨G', g, dr, tk', os⟩, _, .ref C, some d, rfl, J, fun b o q => ?_, ge, hoe, ⟨hc, hd⟩, hdat, h1, ?_, rfl, I1.bare, raises_own T.exC T.tyC, q1 d (I1.hok.fresh M.dbig)⟩
    · by_cases hb : b = e
      · have q' : G'.get? b = some o := q
        rw [hb, ge] at q'; cases q'
      · exact (gk b hb).symm.trans q
    · rw [upd_ne (Ne.symm M.dne)]
      exact I1.hok.fresh M.new
/-- raise Low(e) -/
def tRaiseInvalidNumber (C : Addr) (W : WX) (ta : TA) : TS := fun _ σ H => tMkInvalidNumber C ta σ H fun cls d H' => W cls d σ H'
theorem ps_raiseInvalidNumber {a : Expr} {ta : TA} {W : WX} {p pos pos2 : Pos} {k : Nat} (hc : X.calm = true) (T : PySem.XInvalidNumber.InvalidNumberTxt X.K X.mg C fI) (hr : Room k X.A) (tk : Takes X W) (ha : PA X [a] ta) (hg : Gl X "InvalidNumber" := by rfl)
    (he : starEach (a :: []) X.env = (false, eval a X.env) :: starEach [] X.env := by rfl) (hpl : (backTo pos (starEach [] X.env)).any (·.1) = false := by rfl) :
    PS X (.Raise (some (.Call (.Name "InvalidNumber" p) [a] [] pos)) none pos2) (tRaiseInvalidNumber C W ta) := ps_raise hc tk (pmk_InvalidNumber T hr ha hg he hpl)
/-- low.by, low the exception that the suite holds (at a; its class cls, its dict d) -/
def tByInvalidNumber (C : Addr) (a : Addr) (cls : Value) (d : Option Addr) (te : TE) : TE := fun σ H Q => te σ H fun x H1 => x = .ref a ∧ cls = .ref C ∧ ∃ (dd : Addr) (v : V), d = some dd ∧ H1 dd = some (.xd [(("value" : Str), v)]) ∧ Q v H1
theorem pe_byInvalidNumber {a : Addr} {oe : Obj} {cls : Value} {d : Option Addr} {pn : List (Addr × Obj)} {e : Expr} {te : TE} {pos : Pos} (T : PySem.XInvalidNumber.InvalidNumberTxt X.K X.mg C fI) (hz : Zc cls d oe) (hf : ∃ vs, oe.data = .fields vs) (he : PE (X.suite a ((a, oe) :: pn)) e te)
    (hb : attributeBase e "value" X.env (eval e X.env) = eval e X.env := by rfl) :
    PE (X.suite a ((a, oe) :: pn)) (.Attribute e "value" pos) (tByInvalidNumber C a cls d te) := by
  refine ⟨fun pins s σ H Q I h => ?_⟩
  refine attr_of hb (thn (he.run pins s σ H _ I h) fun u s1 hh => ?_)
  obtain ⟨x, H1, I1, rx, ex, ec, dd, v, ed, ea, q⟩ := hh
  subst ex
  obtain rfl : u = Value.ref a := rx
  subst ec
  subst ed
  obtain ⟨ha, _⟩ := I1.pin (a, oe) (List.mem_append_left _ List.mem_cons_self)
  obtain ⟨vs, hd⟩ := hf
  have hx : ObjOk X.prog X.w H1 s1.heap dd (.xd [(("value" : Str), v)]) := I1.hok dd _ ea
  obtain ⟨mA, hns, hr⟩ := hx
  obtain ⟨od, ho, hl⟩ := lookIn_ns hns
  have l : List.lookup ("value" : Str) [(("value" : Str), v)] = some v := by simp [List.lookup]
  obtain ⟨u, hu, ru⟩ := RelO.some_of (v := v) (o := mA "value") (by rw [← l]; exact hr "value")
  have J : PySem.W.InstAt s1.heap a oe C (some od) := ⟨ha, hz.1, by unfold PySem.W.notCls; rw [hd] <;> rfl, by rw [hz.2]; exact ho⟩
  exact HandSPX.exc_get I1.kIn J T.ga T.gg T.exC (PySem.W.findObj_own T.hdC T.noN rfl (by rw [hl, hu])) (handed_of ru) ⟨v, H1, I1.tok _, ru, q⟩
end
end L2

set_option Elab.async false
set_option linter.all false
set_option maxRecDepth 100000
set_option maxHeartbeats 4000000
namespace PySem
namespace XRefused
open PySem.W PySem.Calls PyProof.Rows PySem.HandSPX
/-! ### the text of __init__ -/
def iA (p1 p2 : Pos) : Arguments := { posonlyargs := [], args := [{ arg := "self", annotation := none, pos := p1 }, { arg := "reason", annotation := none, pos := p2 }], vararg := none, kwonlyargs := [], kw_defaults := [], kwarg := none, defaults := [] }
def iB (q1 q2 q3 q4 : Pos) : List Stmt := [.Assign [.Attribute (.Name "self" q1) "reason" q2] (.Name "reason" q3) q4]
def iS : Scope := { kind := .function, names := [(PySem.Str.ofString "self", .local), (PySem.Str.ofString "reason", .local)], isGenerator := false, isCoroutine := false, more := [] }
/-- what the written part says of Low, at C, and of its __init__, at fI -/
structure RefusedTxt (K : Frag) (mg : Str → Option Value) (C fI : Addr) : Prop where
  gC : mg "Refused" = some (.ref C)
  cls : ∃ nm q N bs sn sub ab col dd k0 k1 k2 k3 k5, K.lookup C = some (excClassObj nm q C N bs [.type "ArithmeticError", .type "Exception", .type "BaseException", .type "object"] true sn sub ab col dd k0 k1 k2 k3 k5 "ArithmeticError.__new__")
  sa : findIn K (.ref C) "__setattr__" = some (some (.builtin "object.__setattr__"))
  ga : findIn K (.ref C) "__getattribute__" = some (some (.builtin "BaseException.__getattribute__"))
  gg : findIn K (.ref C) "__getattr__" = some none
  noN : findIn K (.ref C) "reason" = some none
  iC : findIn K (.ref C) "__init__" = some (some (.ref fI))
  tC : typeIn K (.ref fI) = some (.type "function")
  kC : keepIn K (.ref C) = true
  exC : subIn K (.ref C) (.type "BaseException") = some true
  tyC : typeIn K (.ref C) = some (.type "type")
  hdC : hasDictIn K C = true
  te : exmOne K (.ref C) (.ref C) = some true
  fn : ∃ (oc : Value) (od : Option Addr) (doc pm : Value) (an : Option Addr) (cdv ct : Value) (osl : Array (Option Value)) (p1 p2 q1 q2 q3 q4 : Pos),
    K.lookup fI = some ⟨oc, od, .func (fnOf "__init__" "Refused.__init__" (iA p1 p2) (iB q1 q2 q3 q4) iS .none .none doc pm an cdv ct), osl⟩ ∧ codeIn K cdv "Refused.__init__" = true
theorem one_size (v : Value) : [v].length ≤ sizeLine := by
  rw [sizeLine_eq]
  exact (by decide : 1 ≤ 16777216)
theorem kept_but {K : Frag} {h h' : Heap} {x : Addr} (X : K.In h) (hx : K.lookup x = none) (k : ∀ b o, b ≠ x → h.get? b = some o → h'.get? b = some o) : K.In h' := fun a o e =>
  k a o (fun z => by rw [z, hx] at e; cases e) (X a o e)
theorem ldC {M : Model} {s : Shared} {name : Str} {scope : Scope} {L a : Addr} {cd : Value} {m : Str → Option Value} {x : Str} {pos : Pos} {v : Value} {Q : Value → Shared → Prop} {A : Around} {E : Value → Shared → Prop} (hn : s.heap.Ns L m) (hv : m x = some v) (h : Q v s)
    (hk : scope.kind = .function := by rfl) (hl : (envOfC name scope L a cd).kindOf x = some .local := by rfl) (hd : (x == ("__debug__" : Str)) = false := by decide) :
    wpAny M A (eval (.Name x pos) (envOfC name scope L a cd)) Q E s := wpAny_Name (wpAny_loadName_local hk hl hn hv h) hd
/-- what __init__ leaves of a fresh exception at x -/
structure InitEnd (h h' : Heap) (x C dx t1 : Addr) (v : Value) : Prop where
  keep : ∀ b o, b ≠ x → h.get? b = some o → h'.get? b = some o
  obj : h'.get? x = some { cls := .ref C, dict := some dx, data := .fields #[.ref t1, .none, .none, .none, .bool false, .none] }
  dbig : h.objs.size ≤ dx
  dne : dx ≠ x
  ns : h'.Ns1 dx (fun y => if y = "reason" then some v else none)
/-- a made Low -/
structure OwnMade (h h' : Heap) (e C d : Addr) (v : Value) : Prop where
  keep : ∀ b o, h.get? b = some o → h'.get? b = some o
  new : h.objs.size ≤ e
  obj : ∃ oe vs, h'.get? e = some oe ∧ oe.cls = .ref C ∧ oe.dict = some d ∧ oe.data = .fields vs ∧ vs[1]? = some .none
  dbig : h.objs.size ≤ d
  dne : d ≠ e
  ns : h'.Ns1 d (fun y => if y = "reason" then some v else none)
section
variable {prog : Program} {w : World} {A : Around} {E : Value → Shared → Prop} {R : Result → Shared → Prop} {s : Shared} {K : Frag} {mg : Str → Option Value} {C fI : Addr}
theorem low_init (T : RefusedTxt K mg C fI) {x t0 : Addr} {v : Value} (X : K.In s.heap) (hlim : s.heap.NoLimit) (hx : s.heap.get? x = some (excO C t0)) (hnx : K.lookup x = none) (hroom : A.depth < recursionLimit)
    (hq : ∀ h' tk dx, InitEnd s.heap h' x C dx t0 v → R (.ok (.ret .none)) { s with heap := h', toks := tk }) :
    codeAny (model prog w) A (.call (.ref fI) ⟨[.ref x, v], []⟩) R s := by
  obtain ⟨oc, od, doc, pm, an, cdv, ct, osl, p1, p2, q1, q2, q3, q4, ho, hcd⟩ := T.fn
  obtain ⟨nm, q, N, bs, sn, sub, ab, col, dd, k0, k1, k2, k3, k5, hC⟩ := T.cls
  have hcl : clsIn K C = some { name := nm, bases := bs, mro := .ref C :: [.type "ArithmeticError", .type "Exception", .type "BaseException", .type "object"], ns := N, qualname := q, hasDict := true, slotNames := sn, subclasses := sub, abstract := ab, collection := col, hasDel := false } := by unfold clsIn; rw [hC] <;> rfl
  refine Att.call_fn (binds := [("self", .ref x), ("reason", v)]) X hlim ho hcd hroom (BindsTo.of_eq (by first | rfl | with_unfolding_all rfl)) (by first | rfl | decide | with_unfolding_all rfl) (fun s₁ IC => ?_) rfl rfl rfl
  obtain ⟨h₁, tk₁, rfl⟩ := IC.toInCall.same
  have k : ∀ b o, s.heap.get? b = some o → h₁.get? b = some o := IC.toInCall.keep
  have hn := IC.toInCall.ns
  have hxL : s.heap.objs.size ≠ x := Nat.ne_of_gt (Heap.lt_size hx)
  have X₁ : K.In h₁ := X.keeps k
  have hx₁ := k _ _ hx
  -- self.by = by
  show wpAny _ _ (execs _ _) _ _ _
  refine wpAny_execs_cons (plainObj_wpAny_Assign_Attribute ?_)
  refine ldC (v := v) hn (by first | rfl | with_unfolding_all rfl | kernel_rfl) (ldC (v := .ref x) hn (by first | rfl | with_unfolding_all rfl | kernel_rfl) ?_)
  refine set_plain X₁ (ox := excO C t0) (od := none) ⟨hx₁, rfl, rfl, trivial⟩ T.sa ?_
  refine GdX.osaG F.store_ArithmeticError X₁ hx₁ hcl rfl rfl T.noN (fun h₃ tk₃ dx k₃ dn dne hx₃ hn₃ => ?_)
  show wpAny _ _ (execs _ _) _ _ _
  have z : s.heap.objs.size < h₁.objs.size := hn.lt
  exact wpAny_execs_nil (hq h₃ tk₃ dx ⟨fun b o hb e => k₃ b o hb (k b o e), hx₃, Nat.le_of_lt (Nat.lt_of_lt_of_le z dn), dne, hn₃⟩)
theorem low_made (T : RefusedTxt K mg C fI) {v : Value} (X : K.In s.heap) (hlim : s.heap.NoLimit) (hroom : A.depth + 1 < recursionLimit)
    (hq : ∀ h' tk e d, OwnMade s.heap h' e C d v → R (.ok (.ret (.ref e))) { s with heap := h', toks := tk }) :
    codeAny (model prog w) A (.call (.ref C) ⟨[v], []⟩) R s := by
  obtain ⟨nm, q, N, bs, sn, sub, ab, col, dd, k0, k1, k2, k3, k5, hC⟩ := T.cls
  obtain ⟨hp, g, dr, tk, os⟩ := s
  have k : ∀ b o, hp.get? b = some o → ((hp.push (kdv_tup [v])).push (excO C hp.objs.size)).get? b = some o := fun b o e => Heap.get?_push_of_some _ (Heap.get?_push_of_some _ e)
  have hget : ((hp.push (kdv_tup [v])).push (excO C hp.objs.size)).get? (hp.objs.size + 1) = some (excO C hp.objs.size) := by heap_get
  have hnx : K.lookup (hp.objs.size + 1) = none := by
    cases e : K.lookup (hp.objs.size + 1) with
    | none => rfl
    | some o =>
      have z : hp.get? (hp.objs.size + 1) = some o := X _ _ e
      exact absurd (Nat.lt_of_succ_lt (Heap.lt_size z)) (Nat.lt_irrefl _)
  refine call_own F.excBase_ArithmeticError (fun _ => rfl) (X _ _ hC) (looks_findIn X T.iC) (fun self => bind_fn X self T.tC) (one_size v) ?_
  refine low_init (s := ⟨(hp.push (kdv_tup [v])).push (excO C hp.objs.size), g, dr, tk, os⟩) T (X.keeps k) (hlim.keeps k) hget hnx ?_ fun h' tk' dx ⟨k', hx, dn, dne, hns⟩ => ?_
  · show A.depth + 1 < recursionLimit
    exact hroom
  · have old : ∀ b o, hp.get? b = some o → h'.get? b = some o := fun b o e => k' b o (Nat.ne_of_lt (Nat.lt_succ_of_lt (Heap.lt_size e))) (k b o e)
    have z : hp.objs.size + 1 + 1 ≤ dx := by
      first
        | (simpa only [Heap.size_push] using dn)
        | exact dn
        | (have q := dn; rw [Heap.size_push, Heap.size_push] at q; exact q)
    exact ⟨rfl, hq h' tk' (hp.objs.size + 1) dx ⟨old, Nat.le_succ _, ⟨_, _, hx, rfl, rfl, rfl, rfl⟩, Nat.le_trans (Nat.le_trans (Nat.le_succ _) (Nat.le_succ _)) z, dne, hns⟩⟩
end
end XRefused
end PySem
namespace L2
open PySem PySem.Spec PyProof.Rows
theorem relO_Refused {v : V} {v' : Value} (r : RelV v v') (f : Str) : RelO (List.lookup f [(("reason" : Str), v)]) (if f = "reason" then some v' else none) := by
  by_cases hw : f = "reason"
  · subst hw
    rw [if_pos rfl]
    have q : List.lookup ("reason" : Str) [(("reason" : Str), v)] = some v := by simp [List.lookup]
    rw [q]
    exact r
  · rw [if_neg hw]
    have qw : (f == ("reason" : Str)) = false := by simpa using hw
    have q2 : List.lookup f [(("reason" : Str), v)] = none := by simp [List.lookup, qw]
    rw [q2]
    trivial
section
variable {X : Cx} {C fI : Addr}
/-- Low(e) -/
def tMkRefused (C : Addr) (ta : TA) : St → Hp → XK → Prop := fun σ H Q => ta σ H fun vs H1 => ∃ v, vs = [v] ∧ ∀ d, H1 d = none → Q (.ref C) (some d) (upd H1 d (.xd [(("reason" : Str), v)]))
theorem pmk_Refused {a : Expr} {ta : TA} {p pos : Pos} {k : Nat} (T : PySem.XRefused.RefusedTxt X.K X.mg C fI) (hr : Room k X.A) (ha : PA X [a] ta) (hg : Gl X "Refused" := by rfl)
    (he : starEach (a :: []) X.env = (false, eval a X.env) :: starEach [] X.env := by rfl) (hpl : (backTo pos (starEach [] X.env)).any (·.1) = false := by rfl) :
    PMk X (.Call (.Name "Refused" p) [a] [] pos) (tMkRefused C ta) := by
  intro pins s σ H Q I h
  refine wpAny_Call_Name_kw (ld_glob I hg T.gC ?_)
  refine PySem.W.callWith_K (h₀ := X.base) I.ok.mod.kin T.kC (thn (ha.run pos pins s σ H _ I h) fun us s1 hh => ?_) he hpl
  obtain ⟨vs, H1, I1, r1, v, ev, q1⟩ := hh
  subst ev
  refine ⟨I1.kIn, ?_⟩
  cases r1 with
  | cons rv rn =>
    rename_i v' us'
    cases rn
    show wpAny _ _ (call (.ref C) [v']) _ _ _
    have hlim := I1.nolimit
    obtain ⟨hp, g, dr, tk, os⟩ := s1
    refine wpAny_call (PySem.XRefused.low_made T I1.kIn hlim (by have := hr.dp; omega) fun h' tk' e d M => ?_)
    show MkP X pins σ Q (.ref e) ⟨h', g, dr, tk', os⟩
    obtain ⟨oe, fv, hoe, hc, hd, hdat, h1⟩ := M.obj
    have hns := M.ns
    obtain ⟨G', g1, g2⟩ := restrict h' fun b => decide (b ≠ e)
    have gk : ∀ b, b ≠ e → G'.get? b = h'.get? b := fun b hb => g1 b (decide_eq_true hb)
    have ge : G'.get? e = none := g2 e (by simp)
    have old : ∀ b o, hp.get? b = some o → G'.get? b = some o := fun b o q => (gk b (Nat.ne_of_lt (Nat.lt_of_lt_of_le (Heap.lt_size q) M.new))).trans (M.keep b o q)
    have ob : ObjOk X.prog X.w (upd H1 d (.xd [(("reason" : Str), v)])) G' d (.xd [(("reason" : Str), v)]) :=
      ⟨_, hns.at (fun o q => (gk d M.dne).trans q), fun f => relO_Refused rv f⟩
    have J : Inv X pins σ (upd H1 d (.xd [(("reason" : Str), v)])) ⟨G', g, dr, tk', os⟩ := I1.laid (t' := tk') old M.dbig ob
    refine ⟨e, oe, fv, ⟨G', g, dr, tk', os⟩, _, .ref C, some d, rfl, J, fun b o q => ?_, ge, hoe, ⟨hc, hd⟩, hdat, h1, ?_, rfl, I1.bare, raises_own T.exC T.tyC, q1 d (I1.hok.fresh M.dbig)⟩
    · by_cases hb : b = e
      · have q' : G'.get? b = some o := q
        rw [hb, ge] at q'; cases q'
      · exact (gk b hb).symm.trans q
    · rw [upd_ne (Ne.symm M.dne)]
      exact I1.hok.fresh M.new
/-- raise Low(e) -/
def tRaiseRefused (C : Addr) (W : WX) (ta : TA) : TS := fun _ σ H => tMkRefused C ta σ H fun cls d H' => W cls d σ H'
theorem ps_raiseRefused {a : Expr} {ta : TA} {W : WX} {p pos pos2 : Pos} {k : Nat} (hc : X.calm = true) (T : PySem.XRefused.RefusedTxt X.K X.mg C fI) (hr : Room k X.A) (tk : Takes X W) (ha : PA X [a] ta) (hg : Gl X "Refused" := by rfl)
    (he : starEach (a :: []) X.env = (false, eval a X.env) :: starEach [] X.env := by rfl) (hpl : (backTo pos (starEach [] X.env)).any (·.1) = false := by rfl) :
    PS X (.Raise (some (.Call (.Name "Refused" p) [a] [] pos)) none pos2) (tRaiseRefused C W ta) := ps_raise hc tk (pmk_Refused T hr ha hg he hpl)
/-- low.by, low the exception that the suite holds (at a; its class cls, its dict d) -/
def tByRefused (C : Addr) (a : Addr) (cls : Value) (d : Option Addr) (te : TE) : TE := fun σ H Q => te σ H fun x H1 => x = .ref a ∧ cls = .ref C ∧ ∃ (dd : Addr) (v : V), d = some dd ∧ H1 dd = some (.xd [(("reason" : Str), v)]) ∧ Q v H1
theorem pe_byRefused {a : Addr} {oe : Obj} {cls : Value} {d : Option Addr} {pn : List (Addr × Obj)} {e : Expr} {te : TE} {pos : Pos} (T : PySem.XRefused.RefusedTxt X.K X.mg C fI) (hz : Zc cls d oe) (hf : ∃ vs, oe.data = .fields vs) (he : PE (X.suite a ((a, oe) :: pn)) e te)
    (hb : attributeBase e "reason" X.env (eval e X.env) = eval e X.env := by rfl) :
    PE (X.suite a ((a, oe) :: pn)) (.Attribute e "reason" pos) (tByRefused C a cls d te) := by
  refine ⟨fun pins s σ H Q I h => ?_⟩
  refine attr_of hb (thn (he.run pins s σ H _ I h) fun u s1 hh => ?_)
  obtain ⟨x, H1, I1, rx, ex, ec, dd, v, ed, ea, q⟩ := hh
  subst ex
  obtain rfl : u = Value.ref a := rx
  subst ec
  subst ed
  obtain ⟨ha, _⟩ := I1.pin (a, oe) (List.mem_append_left _ List.mem_cons_self)
  obtain ⟨vs, hd⟩ := hf
  have hx : ObjOk X.prog X.w H1 s1.heap dd (.xd [(("reason" : Str), v)]) := I1.hok dd _ ea
  obtain ⟨mA, hns, hr⟩ := hx
  obtain ⟨od, ho, hl⟩ := lookIn_ns hns
  have l : List.lookup ("reason" : Str) [(("reason" : Str), v)] = some v := by simp [List.lookup]
  obtain ⟨u, hu, ru⟩ := RelO.some_of (v := v) (o := mA "reason") (by rw [← l]; exact hr "reason")
  have J : PySem.W.InstAt s1.heap a oe C (some od) := ⟨ha, hz.1, by unfold PySem.W.notCls; rw [hd] <;> rfl, by rw [hz.2]; exact ho⟩
  exact HandSPX.exc_get I1.kIn J T.ga T.gg T.exC (PySem.W.findObj_own T.hdC T.noN rfl (by rw [hl, hu])) (handed_of ru) ⟨v, H1, I1.tok _, ru, q⟩
end
end L2

set_option Elab.async false
set_option linter.all false
set_option maxRecDepth 100000
set_option maxHeartbeats 4000000
/-! Operators of own classes, and repr of data, as rules of the hand layer. -/
namespace Gd
open PySem PySem.Spec PyProof.Rows L2

/-! ### repr of data -/
def rRepr (K : PySem.W.Frag) : List V → Hp → VK → Prop := fun xs H Q =>
  ∃ a d, xs = [.ref a] ∧ Dp K H (.ref a) d ∧ d.showable = true ∧ d.hasDict = false ∧ d.depth ≤ 60 ∧ d.shown.length ≤ sizeLine ∧ Q (.str d.shown) H
theorem call_repr {X : Cx} (hg : NoG X.A) (hu : X.A.units + 64 < cLine) : CallR X (.builtin "repr") (rRepr X.K) := by
  intro pins s σ H xs us Q I r h
  obtain ⟨a, d, rfl, hd, h1, h2, h3, h4, q⟩ := h
  obtain ⟨u, rfl, hu1⟩ := vals1 r
  cases hu1
  obtain ⟨as, rd⟩ := Dp.reads I d (.ref a) (.ref a) hd rfl
  refine repr_of_reads' rd h1 (PyData.noDict_hsm h2) hg (by omega) (fun _ _ e => e) ?_ h4
  intro h' u tk hk
  exact ⟨.str d.shown, H, I.kept hk, ⟨u, rfl⟩, q⟩

section
variable {X : Cx} {CX : CXT} {k : Nat} {f C : Addr} {fd : FuncData} {ps : List Str} {sp : Sp} {dvs : List V} {ds : List Value}
  {pos : Pos} {a b : Expr} {ta tb : TE}

/-- the callee runs, from the body or from a builtin that the body calls -/
theorem runAt {E : XK} {A : Around} (hA : A = X.A ∨ A = X.A.in1) {pins : List (Addr × Obj)} {σ : L2.St} {H : Hp} {s : Shared} {Q : VK} {us : List Value} {vs : List V}
    (F : FnOk X.prog X.w X.K X.mg X.base CX k f fd ps sp) (hr : Room (k + 1) X.A) (hb : Binds X.K fd ps ds) (hd : Vals dvs ds)
    (hx : PassesAt CX X σ E) (I : Inv X pins σ H s) (r : Vals vs us) (h : sp (vs ++ dvs) H Q E) :
    wpAny (model X.prog X.w) A (call (.ref f) us) (EP X pins σ Q) X.xe s := by
  have r2 := Vals.append r hd
  have hl : (us ++ ds).length = ps.length := by
    rw [← r2.length]
    exact F.len _ H Q E h
  have room : Room k A := by
    rcases hA with rfl | rfl
    · exact hr.mono (Nat.le_succ _)
    · exact hr.in1
  have env : Env0 X.prog X.w X.K X.mg X.base A X.stack s H := by
    rcases hA with rfl | rfl
    · exact I.env0
    · exact I.env0.in1
  refine wpAny_call (codeAny_mono (F.run A X.stack s H ⟨us, []⟩ (us ++ ds) _ Q E room env (hb s us I.kIn hl) r2 h) ?_)
  intro r s' hq
  match r, hq with
  | .error e, hq => exact hx pins H s e s' I hq
  | .ok (.ret u), hq => exact I.after hq
  | .ok .next, hq => exact False.elim hq
  | .ok .brk, hq => exact False.elim hq
  | .ok .cont, hq => exact False.elim hq
theorem quiet0 {σ : L2.St} {E : XK} : PassesAt CX0 X σ E := fun _ _ _ _ _ _ h => h.elim

/-- the instance at a, as the library sees it -/
theorem seen {pins : List (Addr × Obj)} {σ : L2.St} {H : Hp} {s : Shared} {p dx : Addr} {fs : List (Str × V)} (I : Inv X pins σ H s)
    (e : H p = some (.ins C dx fs)) : ∃ od, PySem.W.InstAt s.heap p (PySem.W.instObj C dx) C (some od) := by
  obtain ⟨mA, J, _⟩ := ins_get I.hok e
  obtain ⟨od, J, _⟩ := J.look
  exact ⟨od, J⟩

/-! ### comparisons -/
/-- x OP y by the own method of x's class, whose answer is a truth value -/
def rCmpO (K : PySem.W.Frag) (C : Addr) (sp : Sp) (E : XK) : R2 := fun x y H Q => ∃ p dx fs t, x = .ref p ∧ H p = some (.ins C dx fs) ∧
  TyX K H y t ∧ PySem.W.notFirst K C t = true ∧ sp [x, y] H (fun v H' => (∃ c, v = .bl c) ∧ Q v H') E
theorem cmpO {op : CmpOp} {E : XK} (hm : Meth X.K C (cmpInfo op).2.1 f) (F : FnOk X.prog X.w X.K X.mg X.base CX k f fd ps sp) (hr : Room (k + 1) X.A)
    (hb : Binds X.K fd ps []) (hx : ∀ σ, PassesAt CX X σ E)
    {pins : List (Addr × Obj)} {s : Shared} {σ : L2.St} {H : Hp} {x y : V} {v u : Value} {Q : VK} (I : Inv X pins σ H s) (rx : RelV x v) (ry : RelV y u)
    (h : rCmpO X.K C sp E x y H Q) : wpAny (model X.prog X.w) X.A (richCompare op v u) (EP X pins σ Q) X.xe s := by
  obtain ⟨p, dx, fs, t, rfl, ep, ty, hn, hsp⟩ := h
  cases rx
  obtain ⟨od, J⟩ := seen I ep
  obtain ⟨P, Z, hP, _⟩ := kit_of I ry ty
  obtain ⟨m, hF⟩ := I.fr
  refine PySem.W.cmp_K (op := op) (tb := t) hr.units0 hF I.ok.mod.kin J (Z.ty _ _ I.kIn hP) hn hm.at_ hm.fn ?_
  refine wpAny_mono (runAt (.inl rfl) F hr hb .nil (hx σ) I (.cons (show RelV (V.ref p) (Value.ref p) from rfl) (.cons ry .nil)) hsp) ?_ (fun _ _ z => z)
  rintro w s' ⟨z, H', I', rz, ⟨c, rfl⟩, q⟩
  cases rz
  exact ⟨.bl c, H', I', rfl, q⟩
theorem op_eqO {E : XK} (hm : Meth X.K C "__eq__" f) (F : FnOk X.prog X.w X.K X.mg X.base CX k f fd ps sp) (hr : Room (k + 1) X.A)
    (hb : Binds X.K fd ps []) (hx : ∀ σ, PassesAt CX X σ E) : OpR X (compareOp .Eq) (rCmpO X.K C sp E) := by
  intro pins s σ H x y v u Q I rx ry h
  exact cmpO (op := .Eq) hm F hr hb hx I rx ry h
theorem op_ltO {E : XK} (hm : Meth X.K C "__lt__" f) (F : FnOk X.prog X.w X.K X.mg X.base CX k f fd ps sp) (hr : Room (k + 1) X.A)
    (hb : Binds X.K fd ps []) (hx : ∀ σ, PassesAt CX X σ E) : OpR X (compareOp .Lt) (rCmpO X.K C sp E) := by
  intro pins s σ H x y v u Q I rx ry h
  exact cmpO (op := .Lt) hm F hr hb hx I rx ry h

/-! ### len, truth, items -/
def rLenO (C : Addr) (sp : Sp) (E : XK) : List V → Hp → VK → Prop := fun xs H Q => ∃ p dx fs, xs = [.ref p] ∧ H p = some (.ins C dx fs) ∧
  sp [.ref p] H (fun v H' => ∃ n : Int, v = .int n ∧ 0 ≤ n ∧ n < 2 ^ 63 ∧ Q (.int n) H') E
theorem call_lenO {E : XK} (hm : Meth X.K C "__len__" f) (F : FnOk X.prog X.w X.K X.mg X.base CX k f fd ps sp) (hr : Room (k + 1) X.A)
    (hb : Binds X.K fd ps []) (hx : ∀ σ, PassesAt CX X σ E) : CallR X (.builtin "len") (rLenO C sp E) := by
  intro pins s σ H xs us Q I r h
  obtain ⟨p, dx, fs, rfl, ep, hsp⟩ := h
  obtain ⟨u, rfl, hu1⟩ := vals1 r
  cases hu1
  obtain ⟨od, J⟩ := seen I ep
  obtain ⟨m, hF⟩ := I.fr
  refine PySem.W.len_K hF I.ok.mod.kin J hm.at_ hm.fn ?_
  refine wpAny_mono (runAt (.inr rfl) F hr hb .nil (hx σ) I (.cons (show RelV (V.ref p) (Value.ref p) from rfl) .nil) hsp) ?_ (fun _ _ z => z)
  rintro w s' ⟨z, H', I', rz, n, rfl, h0, h1, q⟩
  obtain ⟨t, rfl⟩ := rz
  exact ⟨⟨h0, h1⟩, .int n, H', I'.tok _, ⟨_, rfl⟩, q⟩
def rTruO (C : Addr) (sp : Sp) (E : XK) : V → Hp → (Bool → Hp → Prop) → Prop := fun x H Q => ∃ p dx fs, x = .ref p ∧ H p = some (.ins C dx fs) ∧
  sp [.ref p] H (fun v H' => ∃ c, v = .bl c ∧ Q c H') E
theorem tru_O {E : XK} (hm : Meth X.K C "__bool__" f) (F : FnOk X.prog X.w X.K X.mg X.base CX k f fd ps sp) (hr : Room (k + 1) X.A)
    (hb : Binds X.K fd ps []) (hx : ∀ σ, PassesAt CX X σ E) : TruR X (rTruO C sp E) := by
  intro pins s σ H x v Q I rx h
  obtain ⟨p, dx, fs, rfl, ep, hsp⟩ := h
  cases rx
  obtain ⟨od, J⟩ := seen I ep
  obtain ⟨m, hF⟩ := I.fr
  refine PySem.W.truthy_K hF I.ok.mod.kin J hm.at_ hm.fn ?_
  refine wpAny_mono (runAt (.inl rfl) F hr hb .nil (hx σ) I (.cons (show RelV (V.ref p) (Value.ref p) from rfl) .nil) hsp) ?_ (fun _ _ z => z)
  rintro w s' ⟨z, H', I', rz, c, rfl, q⟩
  cases rz
  exact ⟨H', I', q⟩
/-- o[i] by the own method, which may raise -/
def tIxO (C : Addr) (sp : Sp) (E : L2.St → XK) (ta tb : TE) : TE := fun σ H Q => ta σ H fun x H1 => tb σ H1 fun y H2 =>
  ∃ p dx fs, x = .ref p ∧ H2 p = some (.ins C dx fs) ∧ sp [x, y] H2 Q (E σ)
theorem pe_ixO {E : L2.St → XK} (hm : Meth X.K C "__getitem__" f) (hfn : PySem.W.fnIn X.K f = true) (F : FnOk X.prog X.w X.K X.mg X.base CX k f fd ps sp)
    (hr : Room (k + 1) X.A) (hb : Binds X.K fd ps []) (hx : ∀ σ, PassesAt CX X σ (E σ)) (ha : PE X a ta) (hb' : PE X b tb)
    (hs : ∀ v u : Value, subscripted b true v u = runValue (.builtin "lifetime.subscript" ⟨[v, u], []⟩) := by intro _ _; with_unfolding_all rfl) :
    PE X (.Subscript a b pos) (tIxO C sp E ta tb) := by
  refine ⟨fun pins s σ H Q I h => ?_⟩
  refine Subscript_ (binT ha hb' I h fun v u s2 x y H2 I2 rx ry q => ?_)
  obtain ⟨p, dx, fs, rfl, ep, hsp⟩ := q
  cases rx
  obtain ⟨od, J⟩ := seen I2 ep
  obtain ⟨m, hF⟩ := I2.fr
  refine PySem.W.sub_K hF I2.ok.mod.kin J hm.at_ hfn hm.fn ?_ (hs _ _)
  exact runAt (.inr rfl) F hr hb .nil (hx σ) I2 (.cons (show RelV (V.ref p) (Value.ref p) from rfl) (.cons ry .nil)) hsp
end
end Gd

set_option Elab.async false
set_option linter.all false
set_option maxRecDepth 100000
set_option maxHeartbeats 4000000
/-! iter(a tuple), and list(o) of an own class that hands on such an iterator and has a length. -/
namespace PySem
section
variable {prog : Program} {w : World} {A : Around} {E : Value → Shared → Prop} {s : Shared}
/-- the end of a tuple's iterator, which stays an object -/
theorem tuple_next_end {it t : Addr} {i : Nat} {items : Array Value} {Q : Option Value → Shared → Prop} (hh : A.handled = none)
    (hit : s.heap.IsTupleIter it t i) (ht : s.heap.IsTuple t items) (hx : items[i]? = none)
    (hQ : ∀ h', (∀ b o, b ≠ it → s.heap.get? b = some o → h'.get? b = some o) → (∃ o, h'.get? it = some o) → Q none { s with heap := h' }) :
    wpAny (model prog w) A (pyNext (.ref it)) Q E s := by
  obtain ⟨o, ho, hc, hd⟩ := id hit
  obtain ⟨ol, hol, _, nl, hdl⟩ := ht
  have self := Heap.get?_update_self (Obj.mapFields (·.setIfInBounds 0 Value.none)) ho (Obj.isFreed_of_fields (Obj.data_mapFields hd _))
  unfold pyNext
  refine wpAny_bind (wpAny_attempt (wpAny_callSpecial?_slot (name := Str.ofString "__next__") hit.typeIs F.slot_tuple_iterator_next (wpAny_call_entry
    F.slot_tuple_iterator_next hit.typeIs F.entry_tuple_iterator_next ?_ (F.args_tuple_iterator_next_1 _))))
  show wpAny _ _ (field (.ref it) 0 >>= _) _ _ s
  refine wpAny_bind (wpAny_field ho hd (x := .ref t) rfl ?_)
  have nn : ¬ ((Value.ref t == Value.none) = true) := Bool.false_ne_true
  show wpAny _ _ (if (Value.ref t == Value.none) = true then _ else _) _ _ s
  rw [if_neg nn]
  show wpAny _ _ (field (.ref it) 1 >>= _) _ _ s
  refine wpAny_bind (wpAny_field ho hd (x := .int i 0) rfl ?_)
  show wpAny _ _ (seqItems? (.ref t) >>= _) _ _ s
  refine wpAny_bind (wpAny_seqItems hol hdl ?_)
  simp only [Int.toNat_natCast, hx]
  refine wpAny_bind (wpAny_rule (wpAny_bind (wpAny_setField ho hd (by simp) ?_)))
  show wpAny _ _ (newExc (.type "StopIteration") [] >>= _) _ _ _
  refine wpAny_bind ?_
  simp only [newExc, newTuple]
  refine wpAny_bind (wpAny_newObj_type ?_ (by size_fits))
  refine wpAny_bind (m := firstArgMember _ _) (wpAny_of_eq (a := Value.none) (by first | rfl | (simp only [firstArgMember]; rfl)) ?_)
  refine wpAny_newObj_type ?_ (by size_fits)
  simp only [raiseNew]
  refine wpAny_bind (wpAny_handled ?_)
  first | rw [show A.in1.handled = none from hh] | rw [hh]
  refine wpAny_bind (wpAny_pure (wpAny_throw ?_))
  refine wpAny_bind (wpAny_isInstance (T := "StopIteration") (b := true) ⟨_, Heap.get?_push_size _ rfl, rfl⟩ isSubtype_stop ?_)
  refine wpAny_pure (hQ _ (fun b o hb e => ?_) ⟨_, Heap.get?_push_of_some _ (Heap.get?_push_of_some _ self)⟩)
  exact Heap.get?_push_of_some _ (Heap.get?_push_of_some _ ((Heap.get?_update_other _ _ (Ne.symm hb)).trans e))
end
end PySem

namespace Gd
open PySem PySem.Spec PyProof.Rows L2
/-- at it: an iterator over the tuple at t, behind i items; | whatever it is -/
def TitO (t it : Addr) (i : Nat) : HO := .ext fun h => h.IsTupleIter it t i
def OddO (it : Addr) : HO := .ext fun h => ∃ o, h.get? it = some o
section
variable {P : Program} {w : World} {H : Hp} {h : Heap} {t it : Addr} {i : Nat}
theorem tit_ok (e : h.IsTupleIter it t i) : ObjOk P w H h it (TitO t it i) := by
  obtain ⟨o, ho, r⟩ := e
  exact ⟨⟨o, ho, r⟩, ⟨o, ho⟩, fun h1 h2 ⟨o', q, r'⟩ k => ⟨o', k _ q, r'⟩⟩
theorem odd_ok (e : ∃ o, h.get? it = some o) : ObjOk P w H h it (OddO it) := ⟨e, e, fun h1 h2 ⟨o', q⟩ k => ⟨o', k _ q⟩⟩
end
section
variable {X : Cx} {pins : List (Addr × Obj)} {σ : L2.St} {H : Hp} {s : Shared} {t it q a : Addr} {i : Nat} {ys : List V}
/-- iter(t), t a tuple -/
def rIterT (K : PySem.W.Frag) : List V → Hp → VK → Prop := fun xs H Q => ∃ (t : Addr) (ys : List V), xs = [.ref t] ∧ SqT K H t ys ∧ ∀ it, H it = none → Q (.ref it) (upd H it (TitO t it 0))
theorem isTuple_of {h : Heap} {a : Addr} {items : Array Value} (x : IsTup h a items) : h.IsTuple a items := by
  obtain ⟨o, h1, h2, h3⟩ := x
  exact ⟨o, h1, h2, by first | exact h3 | exact h3.2⟩
theorem call_iterT : CallR X (.builtin "iter") (rIterT X.K) := by
  intro pins s σ H xs us Q I r h
  obtain ⟨t, ys, rfl, hq, q⟩ := h
  obtain rfl := Vals.ref1 r
  obtain ⟨its, rv, pl, hz⟩ := I.tuple hq
  refine Calls.call_function_entry (by decide +kernel) (by decide +kernel) PySem.W.kdk_entry_iter (PySem.W.kdk_args_iter _) ?_
  unfold Builtin.«iter»
  refine wpAny_bind (m := someArgs "iter" 1 2 _) (wpAny_of_eq (a := [Value.ref t]) (by first | rfl | kernel_rfl!) ?_)
  show wpAny _ _ (pyIter (.ref t) >>= _) _ _ _
  refine wpAny_bind (wpAny_pyIter_tuple (isTuple_of pl) ?_)
  refine wpAny_pure ⟨_, rfl, ?_⟩
  have nw : H s.heap.objs.size = none := I.hok.fresh (Nat.le_refl _)
  refine ⟨.ref s.heap.objs.size, _, I.laid (t' := s.toks) (fun b u e => Heap.get?_push_of_some _ e) (Nat.le_refl _) (tit_ok ⟨_, Heap.get?_push_size _ rfl, rfl, rfl⟩), rfl, q _ nw⟩

theorem take_one {α : Type} : ∀ {l : List α} {i : Nat} (h : i < l.length), l.take (i + 1) = l.take i ++ [l[i]]
  | a :: l, 0, _ => rfl
  | a :: l, i + 1, h => by
    have h' : i < l.length := Nat.lt_of_succ_lt_succ h
    have ih := take_one (l := l) (i := i) h'
    show a :: l.take (i + 1) = (a :: l.take i) ++ [l[i]'h']
    rw [ih]
    rfl
/-- what is known stays known, but for the iterator and the list -/
def But (q it : Addr) (H H' : Hp) : Prop := ∀ b o, b ≠ q → b ≠ it → H b = some o → H' b = some o
theorem drain {A1 : Around} {Rs : Result → Shared → Prop} (hh : A1.in1.handled = none) (hqi : q ≠ it) (hqt : q ≠ t) (hti : t ≠ it) (H0 : Hp)
    (hys : ys.length < sizeLine) (ht0 : SqT X.K H0 t ys)
    (hdone : ∀ H' s', Inv X pins σ H' s' → But q it H0 H' → H' q = some (.lst ys) → H' it = some (OddO it) → Rs (.ok (.ret .none)) s') :
    ∀ (m i : Nat) (H : Hp) (s : Shared), m + i = ys.length → Inv X pins σ H s → But q it H0 H → H it = some (TitO t it i) → H q = some (.lst (ys.take i)) →
      codeAny (model X.prog X.w) A1 (.builtin "list.extend.loop" ⟨[.ref q, .ref it, .none], []⟩) Rs s := by
  intro m
  induction m with
  | zero =>
    intro i H s hi I hB hit hq
    have ht : SqT X.K H t ys := by
      rcases ht0 with (z | ⟨o, z⟩) | z
      · exact .inl (.inl (hB _ _ hqt.symm hti z))
      · exact .inl (.inr ⟨o, hB _ _ hqt.symm hti z⟩)
      · exact .inr z
    obtain ⟨its, rv, pl, hz⟩ := I.tuple ht
    refine codeAny_builtin PySem.F.entry_extend_loop ?_
    rw [Around.under_plainId PySem.F.plain_extend_loop _]
    show wpAny _ A1.in1 (pyNext (.ref it) >>= _) _ _ s
    have hx : its.toArray[i]? = none := by
      have e := rv.length
      rw [List.getElem?_toArray, List.getElem?_eq_none_iff]
      omega
    have T : s.heap.IsTupleIter it t i := (I.hok it _ hit).1
    refine wpAny_bind (PySem.tuple_next_end (items := its.toArray) hh T (isTuple_of pl) hx ?_)
    intro h' keep ex
    have J : Inv X pins σ (upd H it (OddO it)) { s with heap := h' } := by
      refine I.write (t' := s.toks) (x := it) (e := it) (by rw [hit]; exact True.intro) (.inl rfl) (fun b u hb hu => keep b u hb hu) ex (odd_ok ex)
    refine wpAny_pure (hdone _ _ J ?_ ?_ upd_same)
    · intro b o h1 h2 e
      rw [upd_ne h2]
      exact hB b o h1 h2 e
    · rw [upd_ne hqi, hq, List.take_of_length_le (by omega)]
  | succ m ih =>
    intro i H s hi I hB hit hq
    have ht : SqT X.K H t ys := by
      rcases ht0 with (z | ⟨o, z⟩) | z
      · exact .inl (.inl (hB _ _ hqt.symm hti z))
      · exact .inl (.inr ⟨o, hB _ _ hqt.symm hti z⟩)
      · exact .inr z
    obtain ⟨its, rv, pl, hz⟩ := I.tuple ht
    have hlt : i < ys.length := by omega
    obtain ⟨u, hu, ru⟩ := rv.get (List.getElem?_eq_getElem hlt)
    refine codeAny_builtin PySem.F.entry_extend_loop ?_
    rw [Around.under_plainId PySem.F.plain_extend_loop _]
    show wpAny _ A1.in1 (pyNext (.ref it) >>= _) _ _ s
    have T : s.heap.IsTupleIter it t i := (I.hok it _ hit).1
    refine wpAny_bind (wpAny_pyNext_tuple_item (items := its.toArray) T (isTuple_of pl) (by rw [List.getElem?_toArray]; exact hu) ?_)
    intro h' T' same
    have ex : ∃ o, h'.get? it = some o := by
      obtain ⟨o, ho, _⟩ := T'
      exact ⟨o, ho⟩
    have J : Inv X pins σ (upd H it (TitO t it (i + 1))) { s with heap := h' } :=
      I.write (t' := s.toks) (x := it) (e := it) (by rw [hit]; exact True.intro) (.inl rfl) (fun b u hb hu => (same.2 b hb).trans hu) ex (tit_ok T')
    have hq' : upd H it (TitO t it (i + 1)) q = some (.lst (ys.take i)) := by rw [upd_ne hqi]; exact hq
    obtain ⟨z, its2, n2, r2, hl2, e2⟩ := J.lstM hq'
    have l2 : its2.length ≤ i := by rw [← hl2, List.length_take]; omega
    show wpAny _ A1.in1 (updateSeq q (·.push u) >>= _) _ _ _
    refine wpAny_bind (wpAny_updateSeq e2 rfl (wpAny_pure ⟨plainId_quiet PySem.F.plain_extend_loop _, ?_⟩) (by rw [List.size_toArray]; omega) (by show (its2.toArray.push u).size ≤ sizeLine + 1; rw [Array.size_push, List.size_toArray]; omega))
    have tk : ys.take (i + 1) = ys.take i ++ [ys[i]] := take_one hlt
    have J2 := J.lset (f := (·.push u)) (its' := its2 ++ [u]) (ys := ys.take i ++ [ys[i]]) (t' := s.toks) hq' e2 (List.push_toArray its2 u) (r2.append (.cons ru .nil)) (by rw [List.length_append, List.length_singleton, List.length_take]; omega)
    refine ih (i + 1) _ _ (by omega) J2 ?_ ?_ (by rw [tk, upd_same])
    · intro b o h1 h2 e
      rw [upd_ne h1, upd_ne h2]
      exact hB b o h1 h2 e
    · rw [upd_ne hqi.symm, upd_same]

/-- the list's room is made -/
theorem touched {q : Addr} {A : Around} {R : Unit → Shared → Prop} {E : Value → Shared → Prop} (I : Inv X pins σ H s) (hq : H q = some (.lst []))
    (h : ∀ s', Inv X pins σ H s' → R () s') : wpAny (model X.prog X.w) A (Builtin.List.listTouch (.ref q)) R E s := by
  obtain ⟨z, its, k, r3, hl3, e3⟩ := I.lstM hq
  cases r3
  show wpAny _ _ (updateSeq q (·.push .none) >>= fun _ => updateSeq q (·.pop)) _ _ _
  refine wpAny_bind (wpAny_updateSeq e3 rfl ?_)
  have I2 := I.lset (f := (·.push Value.none)) (its' := [Value.none]) (ys := [.non]) (t' := s.toks) hq e3 (by simp) (.cons rfl .nil) (by rw [List.length_singleton, sizeLine_eq]; decide)
  obtain ⟨z4, its4, k4, r4, hl4, e4⟩ := I2.lstM upd_same
  obtain ⟨u4, rfl, ru4⟩ := r4.one
  refine wpAny_updateSeq e4 rfl ?_ (by show 1 ≤ sizeLine; rw [sizeLine_eq]; decide) (by show 0 ≤ sizeLine + 1; exact Nat.zero_le _)
  have I3 := I2.lset (f := (·.pop)) (its := [u4]) (its' := []) (ys := []) (t' := s.toks) upd_same e4 (by rfl) .nil (Nat.zero_le _)
  rw [upd_upd] at I3
  have hH : upd H q (.lst []) = H := by
    funext b
    by_cases hb : b = q
    · rw [hb, upd_same, hq]
    · rw [upd_ne hb]
  rw [hH] at I3
  exact h _ I3

/-- a class whose instances hand on a tuple's iterator, and have a length -/
structure ItT (K : PySem.W.Frag) (C fi fl : Addr) : Prop where
  it : Meth K C "__iter__" fi
  ln : Meth K C "__len__" fl
/-- what its __iter__ promises: an iterator of the tuple that R tells; what its __len__ promises -/
def spIt (K : PySem.W.Frag) (R : Addr → Addr → List V → Hp → Prop) : Sp := fun vs H Q _ => ∃ a t ys, vs = [.ref a] ∧ R a t ys H ∧ SqT K H t ys ∧ ∀ it, H it = none → Q (.ref it) (upd H it (TitO t it 0))
def spLn (R : Addr → Addr → List V → Hp → Prop) : Sp := fun vs H Q _ => ∃ a t ys, vs = [.ref a] ∧ R a t ys H ∧ Q (.int (ys.length : Int)) H
/-- list(o) -/
def rListO (K : PySem.W.Frag) (C : Addr) (R : Addr → Addr → List V → Hp → Prop) : List V → Hp → VK → Prop := fun xs H Q =>
  ∃ a dx fs t ys, xs = [.ref a] ∧ H a = some (.ins C dx fs) ∧ (∀ H', (∀ b o, H b = some o → H' b = some o) → R a t ys H') ∧ SqT K H t ys ∧ ys.length < sizeLine ∧
    ∀ q H', (∀ b o, H b = some o → H' b = some o) → H q = none → H' q = some (.lst ys) → Q (.ref q) H'
theorem call_listO {C fi fl : Addr} {k : Nat} {fdI fdL : FuncData} {psI psL : List Str} {R : Addr → Addr → List V → Hp → Prop} (hc : ItT X.K C fi fl)
    (FI : FnOk X.prog X.w X.K X.mg X.base CX0 k fi fdI psI (spIt X.K R)) (bI : Binds X.K fdI psI []) (FL : FnOk X.prog X.w X.K X.mg X.base CX0 k fl fdL psL (spLn R)) (bL : Binds X.K fdL psL [])
    (hr : Room (k + 5) X.A) : CallR X (.type "list") (rListO X.K C R) := by
  intro pins s σ H xs us Q I rv h
  obtain ⟨a, dx, fs, t, ys, rfl, ha, hR, ht, hlen, hq⟩ := h
  obtain ⟨u, rfl, ru⟩ := rv.one
  cases ru
  have rm2 : Room (k + 3) X.A.in1.in1 := (hr.in1).in1
  have sb : Sub X (k + 3) X.A.in1.in1 := Sub.in1 (Sub.in1 (⟨hr, rfl⟩ : Sub X (k + 5) X.A))
  refine callType_codes (Q₁ := fun obj s₁ => obj = .ref s.heap.objs.size ∧ s₁ = { s with heap := s.heap.push { cls := .type "list", data := .seq #[] } }) PySem.F.called_list (PySem.F.typeCall_list_1 _) PySem.F.entry_list_init
    (code_list_new _ ⟨rfl, rfl⟩) ?_
  intro obj s₁ h₁
  obtain ⟨rfl, rfl⟩ := h₁
  have hS : (s.heap.push { cls := .type "list", data := .seq #[] }).get? s.heap.objs.size = some { cls := .type "list", data := .seq #[] } := Heap.get?_push_size _ rfl
  refine ⟨⟨_, hS, rfl⟩, PySem.F.args_list_init_2 _ _, ?_⟩
  have fr : H s.heap.objs.size = none := I.hok.fresh (Nat.le_refl _)
  have I1 : Inv X pins σ (upd H s.heap.objs.size (.lst [])) { s with heap := s.heap.push { cls := .type "list", data := .seq #[] } } := I.lnew (its := []) (t' := s.toks) .nil (Nat.zero_le _)
  generalize hqq : s.heap.objs.size = q at *
  show wpAny _ _ (do let old ← Builtin.List.listItems (.ref q); Builtin.List.listUpdate (.ref q) (fun _ => #[]); letGo old.toList.reverse; Builtin.List.listExtendWith (.ref q) (.ref a) .none) _ _ _
  refine wpAny_bind ?_
  unfold Builtin.List.listItems
  refine wpAny_bind (wpAny_seqItems hS rfl (wpAny_pure ?_))
  show wpAny _ _ (updateSeq q (fun _ => #[]) >>= fun _ => letGo (#[] : Array Value).toList.reverse >>= fun _ => Builtin.List.listExtendWith (.ref q) (.ref a) .none) _ _ _
  refine wpAny_bind (wpAny_updateSeq hS rfl ?_)
  have I2 := I1.lset (f := fun _ => #[]) (its := []) (its' := []) (ys := []) (t' := s.toks) upd_same hS rfl .nil (Nat.zero_le _)
  rw [upd_upd] at I2
  refine wpAny_bind (wpAny_letGo ?_)
  have H2ext : ∀ b o, H b = some o → upd H q (.lst []) b = some o := fun b o e => by
    rw [upd_ne (ne_of_none e fr)]
    exact e
  have ha2 := H2ext _ _ ha
  have hq2 : upd H q (.lst []) q = some (.lst []) := upd_same
  have ht2 : SqT X.K (upd H q (.lst [])) t ys := ht.ext H2ext
  generalize hH2 : upd H q (.lst []) = H2 at *
  have hne : q ≠ a := ne_of hq2 ha2 (fun z => nomatch z)
  obtain ⟨od, J⟩ := seen I2 ha2
  obtain ⟨m0, hF⟩ := I2.fr
  unfold Builtin.List.listExtendWith
  refine wpAny_bind (J.type.here ?_)
  have h1 : Builtin.List.listSameRef (.ref q) (.ref a) = false := by simp [Builtin.List.listSameRef, hne]
  have h2 : (Value.ref C == Value.type "list") = false := rfl
  have h3 : (Value.ref C == Value.type "tuple") = false := rfl
  simp only [h1, h2, h3, Bool.or_false, Bool.false_eq_true, if_false]
  refine wpAny_bind (PySem.W.owit_iter hF I2.ok.mod.kin J hc.it.at_ hc.it.fn ?_)
  have e0 : Env0 X.prog X.w X.K X.mg X.base X.A.in1.in1 X.stack _ H2 := I2.env0.in1.in1
  have room : Room k X.A.in1.in1 := rm2.mono (by omega)
  have hspI : spIt X.K R [.ref a] H2 (fun v H' => ∃ it, v = .ref it ∧ H2 it = none ∧ H' = upd H2 it (TitO t it 0)) E0 := ⟨a, t, ys, rfl, hR _ H2ext, ht2, fun it n => ⟨it, rfl, n, rfl⟩⟩
  have hl := FI.len _ _ _ _ hspI
  have r2 : Vals [V.ref a] [Value.ref a] := .cons rfl .nil
  refine wpAny_call (codeAny_mono (FI.run X.A.in1.in1 X.stack _ H2 ⟨[.ref a], []⟩ [.ref a] [.ref a] _ E0 room e0 (by
    have := bI _ [.ref a] I2.kIn (by simpa using hl)
    simpa using this) r2 hspI) ?_)
  intro r s' hq'
  match r, hq' with
  | .error e, hq' => exact hq'.elim
  | .ok .next, hq' => exact False.elim hq'
  | .ok .brk, hq' => exact False.elim hq'
  | .ok .cont, hq' => exact False.elim hq'
  | .ok (.ret u), hq' =>
    obtain ⟨v, H3, I3, rv3, it, rfl, itn, rfl⟩ := I2.after hq'
    cases rv3
    have hit : upd H2 it (TitO t it 0) it = some (TitO t it 0) := upd_same
    have T : s'.heap.IsTupleIter it t 0 := (I3.hok it _ hit).1
    have E3 : ∀ b o, H b = some o → upd H2 it (TitO t it 0) b = some o := fun b o e => by
      rw [upd_ne (ne_of_none (H2ext _ _ e) itn)]
      exact H2ext _ _ e
    have ha3 := E3 _ _ ha
    have hqi : q ≠ it := ne_of_none hq2 itn
    have hq3 : upd H2 it (TitO t it 0) q = some (.lst []) := by
      rw [upd_ne hqi]
      exact hq2
    have ht3 : SqT X.K (upd H2 it (TitO t it 0)) t ys := ht.ext E3
    have hqt : q ≠ t := by
      intro z
      subst z
      rcases ht with (z | ⟨o, z⟩) | ⟨o, its, n, z, hcls, _⟩
      · rw [fr] at z
        cases z
      · rw [fr] at z
        cases z
      · obtain ⟨_, its2, n2, _, _, e2⟩ := I2.lstM hq2
        have e3 := I2.kIn _ _ z
        rw [e2] at e3
        cases (Option.some.inj e3)
        exact absurd (Value.type.inj hcls) (by decide)
    have hti : t ≠ it := by
      intro z
      subst z
      rcases ht2 with (z | ⟨o, z⟩) | ⟨o, its, n, z, hcls, _⟩
      · rw [itn] at z
        cases z
      · rw [itn] at z
        cases z
      · obtain ⟨o2, e2, c2, _⟩ := T
        have e3 := I3.kIn _ _ z
        rw [e2] at e3
        cases (Option.some.inj e3)
        rw [c2] at hcls
        exact absurd (Value.type.inj hcls) (by decide)
    refine wpAny_specialOf (Heap.IsTupleIter.typeIs T) PySem.F.slot_tuple_iterator_next.lookup ?_
    have loop : ∀ s4, Inv X pins σ (upd H2 it (TitO t it 0)) s4 → codeAny (model X.prog X.w) X.A.in1 (.builtin "list.extend.loop" ⟨[.ref q, .ref it, .none], []⟩)
        (wants (fun r s₂ => r = Value.none ∧ EP X pins σ Q (Value.ref q) s₂) X.xe) s4 := by
      intro s4 I4
      refine drain (A1 := X.A.in1) rm2.hd hqi hqt hti (upd H2 it (TitO t it 0)) hlen ht3 ?_ ys.length 0 _ s4 rfl I4 (fun b o _ _ e => e) hit (by rw [List.take_zero]; exact hq3)
      intro H' s5 I5 hB5 hq5 _
      refine ⟨rfl, .ref q, H', I5, rfl, hq q H' ?_ fr hq5⟩
      intro b o e
      have nq : b ≠ q := ne_of_none e fr
      have ni : b ≠ it := ne_of_none (H2ext _ _ e) itn
      exact hB5 b o nq ni (E3 _ _ e)
    have fin : ∀ s4, Inv X pins σ (upd H2 it (TitO t it 0)) s4 → wpAny (model X.prog X.w) X.A.in1.in1 (again (.builtin "list.extend.loop" ⟨[.ref q, .ref it, .none], []⟩))
        (fun fin s' => match fin with | .done f => wants (fun r s₂ => r = Value.none ∧ EP X pins σ Q (Value.ref q) s₂) X.xe (.ok f) s' | .again c' => c'.quiet = true ∧ codeAny (model X.prog X.w) X.A.in1 c' (wants (fun r s₂ => r = Value.none ∧ EP X pins σ Q (Value.ref q) s₂) X.xe) s')
        (fun e s' => wants (fun r s₂ => r = Value.none ∧ EP X pins σ Q (Value.ref q) s₂) X.xe (.error e) s') s4 := by
      intro s4 I4
      exact wpAny_pure ⟨plainId_quiet PySem.F.plain_extend_loop _, loop s4 I4⟩
    refine wpAny_bind (wpAny_holding ?_)
    obtain ⟨od3, J3⟩ := seen I3 ha3
    obtain ⟨m3, hF3⟩ := I3.fr
    unfold Builtin.List.listLengthHint
    refine wpAny_bind (wpAny_bind (J3.type.here ((PySem.W.looks_findIn I3.kIn hc.ln.at_).here ?_)))
    refine PySem.W.KFB.if_not rfl ?_
    refine PySem.W.KFB.if_so rfl ?_
    refine wpAny_bind (wpAny_rule ?_)
    refine wpAny_bind (m := (call (.builtin "len") [Value.ref a]).attempt) (wpAny_attempt ?_)
    refine PySem.W.len_K hF3 I3.ok.mod.kin J3 hc.ln.at_ hc.ln.fn ?_
    have hspL : spLn R [.ref a] (upd H2 it (TitO t it 0)) (fun v H' => v = .int (ys.length : Int) ∧ H' = upd H2 it (TitO t it 0)) E0 := ⟨a, t, ys, rfl, hR _ E3, rfl, rfl⟩
    have hlL := FL.len _ _ _ _ hspL
    refine wpAny_call (codeAny_mono (FL.run X.A.in1.in1.in1 X.stack _ _ ⟨[.ref a], []⟩ [.ref a] [.ref a] _ E0 (rm2.in1.mono (by omega)) I3.env0.in1.in1.in1 (by
      have := bL _ [.ref a] I3.kIn (by simpa using hlL)
      simpa using this) r2 hspL) ?_)
    intro r4 s4 hq4
    match r4, hq4 with
    | .error e, hq4 => exact hq4.elim
    | .ok .next, hq4 => exact False.elim hq4
    | .ok .brk, hq4 => exact False.elim hq4
    | .ok .cont, hq4 => exact False.elim hq4
    | .ok (.ret u4), hq4 =>
      obtain ⟨v4, H4, I4, rv4, rfl, rfl⟩ := I3.after hq4
      obtain ⟨tk4, rfl⟩ := rv4
      have l63 := line63
      refine ⟨⟨Int.natCast_nonneg _, by omega⟩, ?_⟩
      show wpAny _ _ (asInt? (Value.int (ys.length : Int) s4.toks) >>= _) _ _ _
      refine wpAny_bind (wpAny_pure ?_)
      show wpAny _ _ (if Builtin.List.listTooLong (ys.length : Int).toNat = true then _ else _) _ _ _
      rw [if_neg (by rw [Int.toNat_natCast, notLongL (Nat.le_of_lt hlen)]; exact Bool.false_ne_true)]
      refine wpAny_pure ?_
      have I5 := I4.tok (s4.toks + 1)
      refine wpAny_ite_split (fun _ => ?_) (fun _ => fin _ I5)
      exact wpAny_bind (wpAny_rule (wpAny_bind (touched I5 hq3 fin)))
end
end Gd

set_option Elab.async false
set_option linter.all false
set_option maxRecDepth 100000
set_option maxHeartbeats 4000000
/-! bool(o) and != of own classes. -/
namespace PySem
section
variable {prog : Program} {w : World} {A : Around} {E : Value → Shared → Prop} {s : Shared}
theorem bool_new_any (x : Value) : MeetsIn prog w (Builtin.«bool.__new__» ⟨[.type "bool", x], []⟩) (fun A R s =>
    wpAny (model prog w) A.in1 (truthy x) (fun b s' => R (.ok (.ret (.bool b))) s') (fun e s' => R (.error e) s') s) := by
  intro A R s h
  have f1 := F.conv_sub_bool
  unfold Builtin.«bool.__new__»
  refine wpAny_bind (wpAny_of_eq (a := true) (by first | rfl | kernel_rfl) ?_)
  refine PySem.W.KFB.if_not rfl ?_
  refine wpAny_bind (wpAny_of_eq f1 ?_)
  refine PySem.W.KFB.if_not rfl ?_
  refine wpAny_bind (m := someArgs "bool" 0 1 _) (wpAny_of_eq (a := [x]) (by first | rfl | kernel_rfl!) ?_)
  refine wpAny_bind (wpAny_mono h (fun b s' q => ?_) fun _ _ z => z)
  exact wpAny_pure q
theorem call_bool_any {x : Value} {Q : Value → Shared → Prop}
    (h : wpAny (model prog w) A.in1.in1 (truthy x) (fun b s' => Q (.bool b) s') E s) : wpAny (model prog w) A (call (.type "bool") [x]) Q E s := by
  refine callType_newIn F.called_bool F.newNe_bool (F.typeCall_bool_1 x) (F.newCall_bool_1 x) (fun obj => F.args_object_init_2 obj x) F.entry_bool_new (bool_new_any x) ?_
  exact wpAny_mono h (fun b s' q => ⟨rfl, q⟩) fun _ _ z => z
end
end PySem

namespace HN2
open PySem PySem.Spec PyProof.Rows PySem.SeqAt
section
variable {prog : Program} {w : World} {A : Around} {E : Value → Shared → Prop} {s : Shared} {K : PySem.W.Frag} {x C f : Addr} {ox : Obj} {od : Option Obj} {y : Value}
theorem ne_entry (hu : A.units < cLine) (X : K.In s.heap) (I : PySem.W.InstAt s.heap x ox C od) (hs : PySem.W.findIn K (.ref C) "__eq__" = some (some (.ref f))) (hf : PySem.W.isFn K (.ref f) = true) {Q : Fin → Shared → Prop}
    (h : wpAny (model prog w) A (call (.ref f) [.ref x, y]) (fun v s' => ∃ b, v = .bool b ∧ Q (.done (.ret (.bool (!b)))) s') E s) :
    wpAny (model prog w) A (Builtin.«object.__ne__» ⟨[.ref x, y], []⟩) Q E s := by
  unfold Builtin.«object.__ne__»
  refine wpAny_bind (m := slotArgs "__ne__" 1 _) (wpAny_of_eq (a := (Value.ref x, [y])) (by first | rfl | kernel_rfl!) ?_)
  refine wpAny_bind (wpAny_cRoomFor hu ?_)
  refine wpAny_bind (m := callSpecialIfBound? (.ref x) (Str.ofString "__eq__") [y]) (PySem.W.ifBound_K X I hs hf (wpAny_mono h (fun v s' z => ?_) fun _ _ z => z))
  obtain ⟨b, rfl, q⟩ := z
  exact wpAny_bind (wpAny_truthy_bool (wpAny_pure q))
theorem ifBound_ne {M : Model} {args : List Value} {Q : Option Value → Shared → Prop} (X : K.In s.heap) (I : PySem.W.InstAt s.heap x ox C od) (hs : PySem.W.findIn K (.ref C) "__ne__" = some (some (.builtin "object.__ne__")))
    (h : wpAny M A (call (.builtin "object.__ne__") (.ref x :: args)) (fun v => Q (some v)) E s) : wpAny M A (callSpecialIfBound? (.ref x) "__ne__" args) Q E s := by
  simp only [callSpecialIfBound?, bindSpecialIfBound?]
  refine wpAny_holding (wpAny_bind (wpAny_bind (wpAny_bind (I.type.here ((PySem.W.looks_findIn X hs).here ?_)))))
  refine wpAny_bind (wpAny_askSetting (wpAny_ite ?_))
  have last : wpAny M A (call (.builtin "object.__ne__") ([.ref x] ++ args) >>= fun v => pure (some v)) Q E s :=
    wpAny_bind (wpAny_mono h (fun v s' h' => wpAny_pure h') fun _ _ h' => h')
  split
  · exact wpAny_bind (wpAny_of_eq (F.cmp_object.ne.bind _) (wpAny_pure (by exact last)))
  · exact wpAny_tryCatch (wpAny_bind (wpAny_of_eq (F.cmp_object.ne.bind _) (wpAny_pure (by exact last))))
theorem rich_ne {tb : Value} {Q : Value → Shared → Prop} (hu : A.units + 1 < cLine) (X : K.In s.heap) (I : PySem.W.InstAt s.heap x ox C od) (hb : PySem.W.Looks (model prog w) s.heap (typeOf y) tb)
    (hn : PySem.W.notFirst K C tb = true) (hne : PySem.W.findIn K (.ref C) "__ne__" = some (some (.builtin "object.__ne__"))) (ho : PySem.W.mroIn K C (.type "object") = some true)
    (hs : PySem.W.findIn K (.ref C) "__eq__" = some (some (.ref f))) (hf : PySem.W.isFn K (.ref f) = true)
    (h : wpAny (model prog w) A.in1 (call (.ref f) [.ref x, y]) (fun v s' => ∃ b, v = .bool b ∧ Q (.bool (!b)) s') E s) :
    wpAny (model prog w) A (richCompare .NotEq (.ref x) y) Q E s := by
  have one : wpAny (model prog w) A (tryCompare (.ref x) "__ne__" y) (fun r s' => ∃ v, r = some v ∧ Q v s') E s := by
    unfold tryCompare
    refine wpAny_bind (ifBound_ne X I hne (wpAny_call (codeAny_call_builtin F.cmp_object.ne.plain F.cmpEntry_ne (PySem.W.check_slot F.cmpKind_ne F.cmpSplit_ne (I.type.andThen (PySem.W.looks_mroIn X ho)) (F.cmpArgs_ne _ _)
      (ne_entry (A := A.in1) (by show A.units + 1 < cLine; exact hu) X I hs hf (wpAny_mono h (fun v s' z => ?_) fun _ _ z => z))))))
    obtain ⟨b, rfl, q⟩ := z
    exact ⟨b, rfl, wpAny_pure ⟨_, rfl, q⟩⟩
  unfold richCompare
  simp only [oneThing_ref]
  refine wpAny_holding (wpAny_bind (wpAny_cRoomFor (Nat.lt_of_succ_lt hu) ?_))
  rw [cmpInfo_NotEq]
  dsimp only
  refine wpAny_bind (I.type.here (wpAny_bind (hb.here ?_)))
  split
  · rename_i q
    have e : PySem.W.subIn K tb (.ref C) = some false := by
      rcases Bool.or_eq_true_iff.mp hn with e | e
      · rw [beq_iff_eq.mp e] at q
        simp at q
      · exact beq_iff_eq.mp e
    refine wpAny_bind ((PySem.W.looks_subIn X e).here ?_)
    simp only [Bool.false_eq_true, if_false]
    refine wpAny_bind (m := tryCompare (.ref x) _ y) (wpAny_mono one (fun r s' z => ?_) fun _ _ e => e)
    obtain ⟨v, rfl, hq⟩ := z
    exact wpAny_pure hq
  · refine wpAny_bind (wpAny_pure ?_)
    simp only [Bool.false_eq_true, if_false]
    refine wpAny_bind (m := tryCompare (.ref x) _ y) (wpAny_mono one (fun r s' z => ?_) fun _ _ e => e)
    obtain ⟨v, rfl, hq⟩ := z
    exact wpAny_pure hq
end
end HN2

namespace Gd
open PySem PySem.Spec PyProof.Rows L2
section
variable {X : Cx} {CX : CXT} {k : Nat} {f C : Addr} {fd : FuncData} {ps : List Str} {sp : Sp}
/-- what != of a class with an own == asks of the class -/
structure NeC (K : PySem.W.Frag) (C : Addr) : Prop where
  ne : PySem.W.findIn K (.ref C) "__ne__" = some (some (.builtin "object.__ne__"))
  ob : PySem.W.mroIn K C (.type "object") = some true
def rNeO (K : PySem.W.Frag) (C : Addr) (sp : Sp) (E : XK) : R2 := fun x y H Q => ∃ p dx fs t, x = .ref p ∧ H p = some (.ins C dx fs) ∧
  TyX K H y t ∧ PySem.W.notFirst K C t = true ∧ sp [x, y] H (fun v H' => ∃ c, v = .bl c ∧ Q (.bl (!c)) H') E
theorem op_neO {E : XK} (hn : NeC X.K C) (hm : Meth X.K C "__eq__" f) (F : FnOk X.prog X.w X.K X.mg X.base CX k f fd ps sp) (hr : Room (k + 1) X.A)
    (hb : Binds X.K fd ps []) (hx : ∀ σ, PassesAt CX X σ E) : OpR X (compareOp .NotEq) (rNeO X.K C sp E) := by
  intro pins s σ H x y v u Q I rx ry h
  obtain ⟨p, dx, fs, t, rfl, ep, ty, hnf, hsp⟩ := h
  cases rx
  obtain ⟨od, J⟩ := seen I ep
  obtain ⟨P, Z, hP, _⟩ := kit_of I ry ty
  show wpAny _ _ (richCompare .NotEq _ _) _ _ _
  refine HN2.rich_ne (hu_of hr) I.kIn J (Z.ty _ _ I.kIn hP) hnf hn.ne hn.ob hm.at_ hm.fn ?_
  refine wpAny_mono (runAt (.inr rfl) F hr hb .nil (hx σ) I (.cons (show RelV (V.ref p) (Value.ref p) from rfl) (.cons ry .nil)) hsp) ?_ (fun _ _ z => z)
  rintro w s' ⟨z, H', I', rz, c, rfl, q⟩
  cases rz
  exact ⟨c, rfl, .bl (!c), H', I', rfl, q⟩
/-- bool(o) -/
def rBoolO (C : Addr) (sp : Sp) (E : XK) : List V → Hp → VK → Prop := fun xs H Q => ∃ p dx fs, xs = [.ref p] ∧ H p = some (.ins C dx fs) ∧
  sp [.ref p] H (fun v H' => ∃ c, v = .bl c ∧ Q (.bl c) H') E
theorem call_boolO {E : XK} (hm : Meth X.K C "__bool__" f) (F : FnOk X.prog X.w X.K X.mg X.base CX k f fd ps sp) (hr : Room (k + 2) X.A)
    (hb : Binds X.K fd ps []) (hx : ∀ σ, PassesAt CX X σ E) : CallR X (.type "bool") (rBoolO C sp E) := by
  intro pins s σ H xs us Q I r h
  obtain ⟨p, dx, fs, rfl, ep, hsp⟩ := h
  obtain ⟨u, rfl, hu1⟩ := vals1 r
  cases hu1
  obtain ⟨od, J⟩ := seen I ep
  obtain ⟨m, hF⟩ := I.fr
  refine call_bool_any (PySem.W.truthy_K hF I.ok.mod.kin J hm.at_ hm.fn ?_)
  have hl := F.len _ _ _ _ hsp
  refine wpAny_call (codeAny_mono (F.run X.A.in1.in1 X.stack s H ⟨[.ref p], []⟩ [.ref p] [.ref p] _ E hr.in1.in1 I.env0.in1.in1 (by
    have := hb s [.ref p] I.kIn (by simpa using hl)
    simpa using this) (.cons (show RelV (V.ref p) (Value.ref p) from rfl) .nil) hsp) ?_)
  intro r s' hq
  match r, hq with
  | .error e, hq => exact hx σ pins H s e s' I hq
  | .ok .next, hq => exact False.elim hq
  | .ok .brk, hq => exact False.elim hq
  | .ok .cont, hq => exact False.elim hq
  | .ok (.ret u), hq =>
    obtain ⟨v, H', I', rv, c, rfl, q⟩ := I.after hq
    cases rv
    exact ⟨.bl c, H', I', rfl, q⟩
end
end Gd

set_option Elab.async false
set_option linter.all false
set_option maxRecDepth 100000
set_option maxHeartbeats 4000000
/-! A tuple times 0 or 1. -/
namespace Gd
open PySem PySem.Spec PyProof.Rows L2
theorem tuple_mul1 (l : Addr) (items : Array Value) (n : Nat) (dd : Option Addr) (sl : Array (Option Value)) (u : Tok) :
    Meets (Builtin.«tuple.__mul__» ⟨[.ref l, .int 1 u], []⟩) (fun _ R s => s.heap.get? l = some { cls := .type "tuple", dict := dd, data := .seq items n, slots := sl } ∧
      R (.ok (.ret (Value.ref l))) s) :=
  .of_wp fun prog w A R s h => by
    obtain ⟨hp, g, d, tk, os⟩ := s
    obtain ⟨hl, h⟩ := h
    have f1 := AutoSeq1.idx_int
    have c1 : (items.isEmpty || (1 : Int) == 1) = true := by simp
    wp_walk using wpAny_loadPart' hl
    repeat (first
      | (refine wpAny_ite_true (decide_eq_true c1) ?_; wp_walk using wpAny_loadPart' hl))
    exact ⟨_, rfl, h⟩

theorem tuple_mul0 (l : Addr) (items : Array Value) (n : Nat) (dd : Option Addr) (sl : Array (Option Value)) (u : Tok) (ne : items.isEmpty = false) :
    Meets (Builtin.«tuple.__mul__» ⟨[.ref l, .int 0 u], []⟩) (fun _ R s => s.heap.get? l = some { cls := .type "tuple", dict := dd, data := .seq items n, slots := sl } ∧
      R (.ok (.ret (Value.ref s.heap.objs.size))) { s with heap := s.heap.push { cls := Value.type "tuple", data := Data.seq #[] }, toks := s.toks }) :=
  .of_wp fun prog w A R s h => by
    obtain ⟨hp, g, d, tk, os⟩ := s
    obtain ⟨hl, h⟩ := h
    have f1 := AutoSeq1.idx_int
    have c1 : ¬ (items.isEmpty || (0 : Int) == 1) = true := by rw [ne]; decide
    have c2 : (decide ((0 : Int) ≤ 0) || items.isEmpty) = true := by simp
    wp_walk using wpAny_loadPart' hl
    repeat (first
      | (refine wpAny_ite_false (decide_eq_false c1) ?_; wp_walk using wpAny_loadPart' hl)
      | (refine wpAny_ite_true (decide_eq_true c2) ?_; wp_walk using wpAny_loadPart' hl))
    exact ⟨_, rfl, h⟩
def rRepA (K : PySem.W.Frag) : R2 := fun x y H Q => ∃ l k xs, x = .ref l ∧ y = .int k ∧ SqT K H l xs ∧ xs ≠ [] ∧ 0 ≤ k ∧ k ≤ 1000 ∧ xs.length ≤ 1000 ∧
  (k = 1 → Q (.ref l) H) ∧ (k ≠ 1 → ∀ p, H p = none → Q (.ref p) (upd H p (.tup (List.replicate k.toNat xs).flatten)))
section
variable {X : Cx}
theorem op_repA : OpR X (binaryOp .Mult) (rRepA X.K) := by
  intro pins s σ H x y v u Q I rx ry h
  obtain ⟨l, k, xs, rfl, rfl, hT, hne, h1, h2, hz, q1, q2⟩ := h
  by_cases big : 2 ≤ k
  · exact op_repT pins s σ H _ _ v u Q I rx ry ⟨l, k, xs, rfl, rfl, hT, hne, big, h2, hz, q2 (by omega)⟩
  cases rx
  obtain ⟨t, rfl⟩ := ry
  obtain ⟨its, r, ⟨⟨cls, dd, data, sl⟩, ho, hc, n, hd⟩, hs⟩ := I.tuple hT
  simp only at hc hd
  subst hc hd
  have hle : its.length = xs.length := r.length.symm
  have hi : its.toArray.isEmpty = false := by
    cases its with
    | nil => exact absurd (List.eq_nil_of_length_eq_zero hle.symm) hne
    | cons a b => rfl
  have hk : k = 0 ∨ k = 1 := by omega
  rcases hk with rfl | rfl
  · refine wpAny_binaryOp_repeat_ref (T := "tuple") (U := "int") (by decide) ⟨_, ho, rfl⟩ (fun s' => typeIs_int s' 0 t) noFill_tuple_mul F.fills_int_mul F.slot_int_rmul repeat_tuple F.slot_int_index.lookup
      (call_meets F.slot_int_rmul (typeIs_int s 0 t) F.entry_int_rmul (F.args_int_rmul_2 _ _) (int_rmul_tuple 0 t l its.toArray n dd sl)
        ⟨ho, rfl, ⟨_, ho, rfl⟩, call_meets F.slot_tuple_mul ⟨_, ho, rfl⟩ F.entry_tuple_mul (F.args_tuple_mul_2 _ _) (tuple_mul0 l its.toArray n dd sl t hi) ⟨ho, ?_⟩⟩)
    have q := q2 (by decide) _ (I.hok.fresh (Nat.le_refl _))
    refine ⟨.ref s.heap.objs.size, _, I.laid (t' := s.toks) (o := .tup (List.replicate (0 : Int).toNat xs).flatten) (fun b ob q => Heap.get?_push_of_some _ q) (Nat.le_refl _) ?_, rfl, q⟩
    exact ⟨Nat.zero_le _, [], .nil, IsTup.new _ _⟩
  · refine wpAny_binaryOp_repeat_ref (T := "tuple") (U := "int") (by decide) ⟨_, ho, rfl⟩ (fun s' => typeIs_int s' 1 t) noFill_tuple_mul F.fills_int_mul F.slot_int_rmul repeat_tuple F.slot_int_index.lookup
      (call_meets F.slot_int_rmul (typeIs_int s 1 t) F.entry_int_rmul (F.args_int_rmul_2 _ _) (int_rmul_tuple 1 t l its.toArray n dd sl)
        ⟨ho, rfl, ⟨_, ho, rfl⟩, call_meets F.slot_tuple_mul ⟨_, ho, rfl⟩ F.entry_tuple_mul (F.args_tuple_mul_2 _ _) (tuple_mul1 l its.toArray n dd sl t) ⟨ho, ?_⟩⟩)
    exact ⟨.ref l, H, I, rfl, q1 rfl⟩
end
end Gd

set_option Elab.async false
set_option linter.all false
set_option maxRecDepth 100000
set_option maxHeartbeats 4000000
/-! A tuple many times. -/
namespace Gd
open PySem PySem.Spec PyProof.Rows L2
/-- t * k, t not empty, few values in all -/
def rRepB (K : PySem.W.Frag) : R2 := fun x y H Q => ∃ l k xs, x = .ref l ∧ y = .int k ∧ SqT K H l xs ∧ xs ≠ [] ∧ 0 ≤ k ∧ k ≤ 100000 ∧ xs.length ≤ 10 ∧
  (k = 1 → Q (.ref l) H) ∧ (k ≠ 1 → ∀ p, H p = none → Q (.ref p) (upd H p (.tup (List.replicate k.toNat xs).flatten)))
section
variable {X : Cx}
theorem op_repB : OpR X (binaryOp .Mult) (rRepB X.K) := by
  intro pins s σ H x y v u Q I rx ry h
  obtain ⟨l, k, xs, rfl, rfl, hT, hne, h1, h2, hz, q1, q2⟩ := h
  by_cases few : k ≤ 1
  · exact op_repA pins s σ H _ _ v u Q I rx ry ⟨l, k, xs, rfl, rfl, hT, hne, h1, by omega, by omega, q1, q2⟩
  have two : 2 ≤ k := by omega
  have q := q2 (by omega)
  clear q1 q2
  cases rx
  obtain ⟨t, rfl⟩ := ry
  obtain ⟨its, r, ⟨⟨cls, dd, data, sl⟩, ho, hc, n, hd⟩, hs⟩ := I.tuple hT
  simp only at hc hd
  subst hc hd
  have len : its.length = xs.length := r.length.symm
  have some_ : its.toArray.isEmpty = false := by
    cases its with
    | nil => exact absurd (List.eq_nil_of_length_eq_zero len.symm) hne
    | cons a b => rfl
  have sz : its.toArray.size = xs.length := by rw [List.size_toArray, len]
  have all_ : ((its.toArray.size : Nat) : Int) * k ≤ 1000000 := by
    rw [sz]
    have a1 : ((xs.length : Nat) : Int) * k ≤ 10 * k := Int.mul_le_mul_of_nonneg_right (by omega) (by omega)
    omega
  have many : k.toNat * xs.length ≤ 100000 * 10 := Nat.mul_le_mul (by omega) hz
  have flat_ : (List.replicate k.toNat its).flatten.length ≤ sizeLine := by
    rw [PyProof.Rows.lm_len_rep_flat, len, sizeLine_eq]
    omega
  have d0 : (decide (k < -(2 ^ 63)) || decide (k ≥ 2 ^ 63)) = false := by
    rw [decide_eq_false (by omega), decide_eq_false (by omega)]
    rfl
  have d1 : (its.toArray.isEmpty || k == 1) = false := by
    rw [some_, Bool.false_or]
    exact beq_eq_false_iff_ne.mpr (by omega)
  have d2 : (decide (k ≤ 0) || its.toArray.isEmpty) = false := by
    rw [some_, Bool.or_false]
    exact decide_eq_false (by omega)
  have d4 : Builtin.Tuple.tupleTooMany (((its.toArray.size : Nat) : Int) * k) = false := by
    unfold Builtin.Tuple.tupleTooMany
    rw [sizeLine_eq]
    exact decide_eq_false (by omega)
  have met := tuple_mulW l its.toArray n dd sl k t d0 d1 d2 (by omega) d4 (by rw [size_rep, List.size_toArray]; exact flat_)
  refine wpAny_binaryOp_repeat_ref (T := "tuple") (U := "int") (by decide) ⟨_, ho, rfl⟩ (fun s' => typeIs_int s' k t) noFill_tuple_mul F.fills_int_mul F.slot_int_rmul repeat_tuple F.slot_int_index.lookup
    (call_meets F.slot_int_rmul (typeIs_int s k t) F.entry_int_rmul (F.args_int_rmul_2 _ _) (int_rmul_tuple k t l its.toArray n dd sl)
      ⟨ho, rfl, ⟨_, ho, rfl⟩, call_meets F.slot_tuple_mul ⟨_, ho, rfl⟩ F.entry_tuple_mul (F.args_tuple_mul_2 _ _) met ⟨ho, ?_⟩⟩)
  rw [size_rep]
  refine ⟨.ref s.heap.objs.size, _, I.laid (t' := s.toks) (o := .tup (List.replicate k.toNat xs).flatten) (fun b ob q => Heap.get?_push_of_some _ q) (Nat.le_refl _) ?_, rfl, q _ (I.hok.fresh (Nat.le_refl _))⟩
  exact ⟨by rw [PyProof.Rows.lm_len_rep_flat, sizeLine_eq]; omega, _, r.rep k.toNat, IsTup.new _ _⟩
end
end Gd

set_option Elab.async false
set_option linter.all false
set_option maxRecDepth 100000
set_option maxHeartbeats 4000000
/-! enumerate(a tuple). -/
namespace HN4
open PySem PySem.Spec PyProof.Rows PySem.SeqAt
theorem meets_enum1 {v : Value} {o : Obj} {G : Heap → Prop} (B : Begins v o G) : Meets (Builtin.«enumerate.__new__» ⟨[.type "enumerate", v], []⟩) (fun _ R s => G s.heap ∧
    R (.ok (.ret (.ref (s.heap.push o).objs.size))) { s with heap := (s.heap.push o).push { cls := .type "enumerate", data := .fields #[.none, .bool false, .ref s.heap.objs.size, rawInt 0, .none, .none] } }) := by
  refine .of_wp fun prog w A R ⟨hp, g, d, tk, os⟩ hh => ?_
  obtain ⟨h1, h⟩ := hh
  have sb := sub_enumerate
  have it : ∀ {A' : Around} {E : Value → Shared → Prop} {Q : Value → Shared → Prop}, Q (.ref hp.objs.size) ⟨hp.push o, g, d, tk, os⟩ → wpAny (model prog w) A' (pyIter v) Q E ⟨hp, g, d, tk, os⟩ := fun q => B.iter prog w _ _ ⟨hp, g, d, tk, os⟩ _ h1 q
  wp_walk using it
  refine wpAny_stack_any fun st => wpAny_pure ?_
  split
  · rename_i c _ _ _ _ _
    cases (c == Value.type "enumerate") <;> (wp_walk using it; exact ⟨_, rfl, h⟩)
  · wp_walk using it
    exact ⟨_, rfl, h⟩
theorem begins_tup (t : Addr) (items : Array Value) : Begins (.ref t) { cls := .type "tuple_iterator", data := .fields #[.ref t, .int 0 0] } (fun h => h.IsTuple t items) where
  iter := fun prog w A E s Q ht hq => wpAny_pyIter_tuple ht hq
  keeps := fun h h' ht k => ht.at fun o e => k _ _ e
  free := rfl
section
variable {prog : Program} {w : World} {A : Around} {E : Value → Shared → Prop} {s : Shared}
theorem call_enumT {t : Addr} {items : Array Value} {Q : Value → Shared → Prop} (ht : s.heap.IsTuple t items)
    (h : ∀ h', IsEnum h' (s.heap.objs.size + 1) s.heap.objs.size 0 .none → h'.IsTupleIter s.heap.objs.size t 0 → (∀ b o, s.heap.get? b = some o → h'.get? b = some o) → Q (.ref (s.heap.objs.size + 1)) { s with heap := h' }) :
    wpAny (model prog w) A (call (.type "enumerate") [.ref t]) Q E s := by
  let o1 : Obj := { cls := .type "tuple_iterator", data := .fields #[.ref t, .int 0 0] }
  let o2 : Obj := { cls := .type "enumerate", data := .fields #[.none, .bool false, .ref s.heap.objs.size, rawInt 0, .none, .none] }
  have e1 : (s.heap.push o1).objs.size = s.heap.objs.size + 1 := Heap.size_push ..
  have e2 : ((s.heap.push o1).push o2).get? (s.heap.objs.size + 1) = some o2 := by
    have q := Heap.get?_push_size (s.heap.push o1) (o := o2) rfl
    rw [e1] at q
    exact q
  refine callType_new F.called_enumerate (by decide) (F.typeCall_enumerate_1 _) (F.newCall_enumerate_1 _) (fun obj => F.args_object_init_2 obj _) F.entry_enumerate_new (meets_enum1 (begins_tup t items)) ⟨ht, ?_⟩
  show _ ∧ _
  rw [e1]
  exact ⟨⟨_, e2, rfl⟩, h _ e2 ⟨_, Heap.get?_push_of_some _ (Heap.get?_push_size _ rfl), rfl, rfl⟩ fun b ob x => Heap.get?_push_of_some _ (Heap.get?_push_of_some _ x)⟩
end
end HN4
namespace Gd
open PySem PySem.Spec PyProof.Rows L2
/-- a tuple walked with its places: at each turn a new pair -/
def IteT (K : PySem.W.Frag) (t : Addr) : It where
  go := fun i H => ∃ (xs : List V) (x : V), SqT K H t xs ∧ xs[i]? = some x
  yld := fun i H v H' => ∃ T x, v = .ref T ∧ H T = none ∧ H' = upd H T (.tup [.int (i : Nat), x]) ∧ ∀ xs, SqT K H t xs → xs[i]? = some x
  stop := fun i H => ∃ xs : List V, SqT K H t xs ∧ xs.length = i
theorem tit_apart {h : Heap} {t it : Addr} {i : Nat} {items : Array Value} (a : h.IsTupleIter it t i) (b : h.IsTuple t items) : t ≠ it := by
  intro z
  subst z
  obtain ⟨o1, g1, c1, _⟩ := a
  obtain ⟨o2, g2, c2, _⟩ := b
  rw [g1] at g2
  cases g2
  rw [c1] at c2
  exact absurd c2 (by decide)
theorem enum_apart {h : Heap} {e it t : Addr} {k : Int} {old : Value} {items : Array Value} (a : IsEnum h e it k old) (b : h.IsTuple t items) : e ≠ t := by
  intro z
  subst z
  obtain ⟨o2, g2, c2, _⟩ := b
  have g1 : h.get? e = some _ := a
  rw [g1] at g2
  cases g2
  exact absurd c2 (by simp)
theorem turn_enumT {P : Program} {w : World} {K : PySem.W.Frag} {elts : List Expr} {kk : Nat} {tpos : Pos} (t e it : Addr) :
    Turn P w K (.Tuple elts kk tpos) (IteT K t) [e, it] e (fun i h => (∃ old, IsEnum h e it ((i : Nat) : Int) old) ∧ h.IsTupleIter it t i ∧ e ≠ it) where
  mem := List.mem_cons_self
  obj := by
    rintro i h ⟨⟨old, he⟩, ⟨o, ho, hc, hd⟩, _⟩ b hb
    rcases List.mem_cons.mp hb with rfl | hb
    · exact ⟨_, he, fun v q => nomatch q⟩
    · rw [List.mem_singleton.mp hb]
      refine ⟨o, ho, fun v q => ?_⟩
      rw [hd] at q
      cases q
  keep := by
    rintro i h h' ⟨⟨old, he⟩, hi, ne⟩ k
    exact ⟨⟨old, k e List.mem_cons_self _ he⟩, hi.at fun o q => k it (List.mem_cons_of_mem _ List.mem_cons_self) o q, ne⟩
  item := by
    intro X hP hw hK hc i pins s σ H E I hf st hg
    subst hP hw hK
    obtain ⟨⟨old, he⟩, hit, ne⟩ := st
    obtain ⟨xs, x, hq, hx⟩ := hg
    obtain ⟨its, rv, p, hz⟩ := I.tuple hq
    have pt := isTuple_of p
    obtain ⟨u, hu, ru⟩ := rv.get hx
    have a1 := tit_apart hit pt
    have a2 := enum_apart he pt
    have le : e < s.heap.objs.size := Heap.lt_size he
    have li : it < s.heap.objs.size := by
      obtain ⟨_, q, _⟩ := hit
      exact Heap.lt_size q
    have hlt : i < its.toArray.size := by
      rcases Nat.lt_or_ge i its.toArray.size with z | z
      · exact z
      · rw [List.getElem?_eq_none_iff.mpr (by simpa using z)] at hu
        cases hu
    refine wpAny_pyNext_enum_itemD (Draws.tuple (show X.A.in1.handled = none from I.ok.hd hc) it t a1 its.toArray) he ⟨hit, pt⟩ hlt ne (by simp [ne, a2]) fun y h1 tk hy ho st1 hT hsz hk => ?_
    obtain rfl : y = u := by
      rw [List.getElem?_toArray, hu] at hy
      exact (Option.some.inj hy).symm
    refine ⟨_, rfl, wpAny_letOwnedTupleGo_enum (s := { s with heap := h1, toks := tk + 1 }) ho fun h2 he2 sb => ?_⟩
    have hT2 : h2.get? s.heap.objs.size = some { cls := .type "tuple", data := .seq #[.int i tk, y] } := (sb.2 _ (Nat.ne_of_gt le)).trans hT
    have new : ObjOk X.prog X.w (upd H s.heap.objs.size (.tup [.int (i : Nat), x])) h2 s.heap.objs.size (.tup [.int (i : Nat), x]) :=
      ⟨by show 2 ≤ sizeLine; decide, [.int i tk, y], .cons ⟨_, rfl⟩ (.cons ru .nil), ⟨_, hT2, rfl, _, rfl⟩⟩
    have I1 : Inv X pins σ (upd H s.heap.objs.size (.tup [.int (i : Nat), x])) { s with heap := h2, toks := tk + 1 } :=
      I.turnedNew (ch := [e, it]) (fun b ob hb q => (sb.2 b (fun z => hb (by simp [z]))).trans (hk b ob (fun z => hb (by simp [z])) (fun z => hb (by simp [z])) q)) hf (Nat.le_refl _) new
    refine ⟨.ref s.heap.objs.size, _, I1, rfl, ⟨_, x, rfl, I.hok.fresh (Nat.le_refl _), rfl, fun ys hy => ?_⟩, ⟨⟨y, ?_⟩, st1.1.at fun o q => (sb.2 it (Ne.symm ne)).trans q, ne⟩, fun b hb => ?_⟩
    · rw [I.tuple_inj hy hq]
      exact hx
    · rw [show ((i + 1 : Nat) : Int) = (i : Int) + 1 by omega]
      exact he2
    · have lb : b < s.heap.objs.size := by
        rcases List.mem_cons.mp hb with rfl | hb
        · exact le
        · rw [List.mem_singleton.mp hb]
          exact li
      rw [upd_ne (Nat.ne_of_lt lb)]
      exact (hf b hb).1
  done := by
    intro X hP hw hK hc i pins s σ H E I hf st hg
    subst hP hw hK
    obtain ⟨⟨old, he⟩, hit, ne⟩ := st
    obtain ⟨xs, hq, hx⟩ := hg
    obtain ⟨its, rv, p, hz⟩ := I.tuple hq
    have pt := isTuple_of p
    obtain ⟨f0, f1, f2, f3, f4, f5⟩ := hf it (by simp)
    have n : i = its.toArray.size := by
      rw [List.size_toArray, ← rv.length]
      exact hx.symm
    subst n
    exact wpAny_pyNext_enum_endD (Draws.tuple (show X.A.in1.handled = none from I.ok.hd hc) it t (tit_apart hit pt) its.toArray) he ⟨hit, pt⟩ fun h1 eb => ⟨rfl, I.turned (t' := s.toks) (fun b o hb q => eb b o hb q) f0 f1 f3 f4 f5⟩
  self := fun A i s Q E st h => let ⟨⟨_, he⟩, _⟩ := st; wpAny_pyIter_enum he h
theorem call_of_enum {X : Cx} {elts : List Expr} {kk : Nat} {tpos : Pos} {pins : List (Addr × Obj)} {σ : L2.St} {H : Hp} {s : Shared} {R : It → Hp → Prop} {t : Addr} {items : Array Value} (I : Inv X pins σ H s) (pl : IsTup s.heap t items) (q : R (IteT X.K t) H) :
    wpAny (model X.prog X.w) X.A (call (.type "enumerate") [.ref t]) (fun v s2 => wpAny (model X.prog X.w) X.A (pyIter v) (PIE X pins σ (.Tuple elts kk tpos) R) X.xe s2) X.xe s := by
  refine HN4.call_enumT (isTuple_of pl) fun h1 he hit hk => wpAny_pyIter_enum he ?_
  refine ⟨s.heap.objs.size + 1, [s.heap.objs.size + 1, s.heap.objs.size], _, _, H, rfl, I.kept (t' := s.toks) hk, turn_enumT t _ _, ⟨⟨.none, he⟩, hit, Nat.succ_ne_self _⟩, fun b hb => ?_, q⟩
  have hle : s.heap.objs.size ≤ b := by
    rcases List.mem_cons.mp hb with rfl | hb
    · exact Nat.le_add_right _ _
    · rw [List.mem_singleton.mp hb]
      exact Nat.le_refl _
  exact I.fpOk hle (I.hok.fresh hle)
def iEnumT (K : PySem.W.Frag) (ta : TA) : TI := fun σ H R => ta σ H fun vs H1 => ∃ t xs, vs = [.ref t] ∧ SqT K H1 t xs ∧ R (IteT K t) H1
theorem pi_enumT {X : Cx} {e : Expr} {ta : TA} {p pos tpos : Pos} {elts : List Expr} {kk : Nat} (hg : Gl X "enumerate") (hm : X.mg "enumerate" = none) (ha : PA X [e] ta) (hs : starEach [e] X.env = [(false, eval e X.env)] := by rfl) :
    PI X (.Tuple elts kk tpos) (.Call (.Name "enumerate" p) [e] [] pos) (iEnumT X.K ta) := by
  constructor
  intro pins s σ H R I h
  refine Call_ (ld_blt I hg hm boot_enumerate (PyProof.Rows.callWith_type1 (thn (ha.run pos pins s σ H _ I h) fun us s1 ⟨vs, H1, I1, r1, t, xs, ex, hq, q⟩ => ?_) hs rfl))
  subst ex
  obtain rfl := Vals.ref1 r1
  obtain ⟨its, rv, pl, hz⟩ := I1.tuple hq
  refine call_of_enum I1 pl q
/-- a loop over the pairs of a tuple -/
theorem for_enumT {K : PySem.W.Frag} {t : Addr} {xs : List V} {g : TG} {tb : TS} {D : Ends} {σ : L2.St} {H : Hp} (Pv : Nat → L2.St → Hp → Prop) (h0 : Pv 0 σ H) (hl : ∀ i σ H, i ≤ xs.length → Pv i σ H → SqT K H t xs)
    (hs : ∀ i x σ H T, xs[i]? = some x → Pv i σ H → H T = none → g (.ref T) σ (upd H T (.tup [.int (i : Nat), x])) fun σ2 H2 => tb { D with nx := Pv (i + 1), ct := Pv (i + 1), bk := D.nx } σ2 H2) (hd : ∀ σ H, Pv xs.length σ H → D.nx σ H) :
    ∃ W : Nat → Nat → L2.St → Hp → Prop, (∃ m, W 0 m σ H) ∧ ∀ i m σ H, W i m σ H →
      ((IteT K t).stop i H ∧ D.nx σ H) ∨ ((IteT K t).go i H ∧ ∃ N : L2.St → Hp → Prop, (∀ σ' H', N σ' H' → ∃ m', m' < m ∧ W (i + 1) m' σ' H') ∧ ∀ x H', (IteT K t).yld i H x H' → g x σ H' fun σ2 H2 => tb { D with nx := N, ct := N, bk := D.nx } σ2 H2) := by
  refine ⟨fun i m σ H => m = xs.length - i ∧ i ≤ xs.length ∧ Pv i σ H, ⟨xs.length, rfl, Nat.zero_le _, h0⟩, ?_⟩
  rintro i m σ H ⟨rfl, hi, p⟩
  have q := hl i σ H hi p
  rcases Nat.lt_or_ge i xs.length with hlt | hge
  · refine .inr ⟨⟨xs, xs[i], q, List.getElem?_eq_getElem hlt⟩, Pv (i + 1), fun σ' H' p' => ⟨xs.length - (i + 1), by omega, rfl, hlt, p'⟩, ?_⟩
    rintro y H' ⟨T, x, rfl, hT, rfl, hx⟩
    exact hs i x σ H T (hx xs q) p hT
  · have e : i = xs.length := Nat.le_antisymm hi hge
    subst e
    exact .inl ⟨⟨xs, q, rfl⟩, hd σ H p⟩
end Gd

set_option Elab.async false
set_option linter.all false
set_option maxRecDepth 100000
set_option maxHeartbeats 4000000
/-! zip of two sequences, each a list or a tuple. -/
namespace Gd
open PySem PySem.Spec PyProof.Rows L2
/-- a list (true) or a tuple (false) -/
def SqE (K : PySem.W.Frag) (l : Bool) (H : Hp) (a : Addr) (xs : List V) : Prop := match l with
  | true => SqL K H a xs
  | false => SqT K H a xs
def HpE (l : Bool) (h : Heap) (a : Addr) (items : Array Value) : Prop := match l with
  | true => h.IsList a items
  | false => h.IsTuple a items
def ItE (l : Bool) (h : Heap) (it a : Addr) (i : Nat) : Prop := match l with
  | true => h.IsListIter it a i
  | false => h.IsTupleIter it a i
def objE (l : Bool) (a : Addr) : Obj := match l with
  | true => { cls := .type "list_iterator", data := .fields #[.ref a, .int 0 0] }
  | false => { cls := .type "tuple_iterator", data := .fields #[.ref a, .int 0 0] }
section
variable {l : Bool} {h h' : Heap} {a it : Addr} {i : Nat} {items : Array Value}
theorem ItE.at (x : ItE l h it a i) (k : ∀ o, h.get? it = some o → h'.get? it = some o) : ItE l h' it a i := by
  cases l with
  | true => exact Heap.IsListIter.at (show h.IsListIter it a i from x) k
  | false => exact Heap.IsTupleIter.at (show h.IsTupleIter it a i from x) k
theorem ItE.there (x : ItE l h it a i) : ∃ o, h.get? it = some o ∧ ∀ v, o.data ≠ .cell v := by
  cases l with
  | true =>
    obtain ⟨o, g, _, d⟩ := (show h.IsListIter it a i from x)
    exact ⟨o, g, fun v q => by rw [d] at q; cases q⟩
  | false =>
    obtain ⟨o, g, _, d⟩ := (show h.IsTupleIter it a i from x)
    exact ⟨o, g, fun v q => by rw [d] at q; cases q⟩
theorem ItE.apart (x : ItE l h it a i) (y : HpE l h a items) : a ≠ it := by
  intro z
  subst z
  cases l with
  | true =>
    obtain ⟨o1, g1, c1, _⟩ := (show h.IsListIter a a i from x)
    obtain ⟨o2, g2, c2, _⟩ := (show h.IsList a items from y)
    rw [g1] at g2
    cases g2
    rw [c1] at c2
    exact absurd c2 (by simp)
  | false => exact tit_apart (show h.IsTupleIter a a i from x) (show h.IsTuple a items from y) rfl
theorem drawsE {prog : Program} {w : World} {A : Around} (hh : A.handled = none) (ne : a ≠ it) : Draws prog w A it [it, a] items.size (fun i v => items[i]? = some v) (fun i h => ItE l h it a i ∧ HpE l h a items) := by
  cases l with
  | true => exact Draws.list hh it a ne items
  | false => exact Draws.tuple hh it a ne items
theorem beginsE : Begins (.ref a) (objE l a) (fun h => HpE l h a items) := by
  cases l with
  | true => exact begins_list a items
  | false => exact begins_tuple a items
theorem ItE.new (g : h.get? it = some (objE l a)) : ItE l h it a 0 := by
  cases l with
  | true => exact ⟨_, g, rfl, rfl⟩
  | false => exact ⟨_, g, rfl, rfl⟩
end
section
variable {X : Cx} {pins : List (Addr × Obj)} {σ : L2.St} {H : Hp} {s : Shared} {l : Bool} {a : Addr} {xs ys : List V}
theorem seqE (I : Inv X pins σ H s) (h : SqE X.K l H a xs) : ∃ its : List Value, Vals xs its ∧ HpE l s.heap a its.toArray := by
  cases l with
  | true =>
    obtain ⟨its, rv, p, _⟩ := I.list (show SqL X.K H a xs from h)
    exact ⟨its, rv, p.isList⟩
  | false =>
    obtain ⟨its, rv, p, _⟩ := I.tuple (show SqT X.K H a xs from h)
    exact ⟨its, rv, isTuple_of p⟩
theorem injE (I : Inv X pins σ H s) (h1 : SqE X.K l H a xs) (h2 : SqE X.K l H a ys) : xs = ys := by
  cases l with
  | true => exact I.list_inj h1 h2
  | false => exact I.tuple_inj h1 h2
end
/-- both walked together: at each turn a new pair -/
def ItzE (K : PySem.W.Frag) (l1 l2 : Bool) (a b : Addr) : It where
  go := fun i H => ∃ (xs ys : List V) (x y : V), SqE K l1 H a xs ∧ SqE K l2 H b ys ∧ xs[i]? = some x ∧ ys[i]? = some y
  yld := fun i H v H' => ∃ T x y, v = .ref T ∧ H T = none ∧ H' = upd H T (.tup [x, y]) ∧ (∀ xs, SqE K l1 H a xs → xs[i]? = some x) ∧ ∀ ys, SqE K l2 H b ys → ys[i]? = some y
  stop := fun i H => ∃ xs ys : List V, SqE K l1 H a xs ∧ SqE K l2 H b ys ∧ i = min xs.length ys.length
theorem lt_of_get {its : List Value} {i : Nat} {u : Value} (h : its[i]? = some u) : i < its.toArray.size := by
  rw [List.size_toArray]
  exact (List.getElem?_eq_some_iff.mp h).1
theorem turn_zipE {P : Program} {w : World} {K : PySem.W.Frag} {elts : List Expr} {kk : Nat} {tpos : Pos} {l1 l2 : Bool} {a b z TI TO i1 i2 : Addr} (S : ZipSep2 z TI TO i1 i2 [i1, a] [i2, b]) :
    Turn P w K (.Tuple elts kk tpos) (ItzE K l1 l2 a b) [z, TI, TO, i1, i2] z (fun i h => IsZip h z TI TO .none ∧ IsTupOf2 h TI (.ref i1) (.ref i2) ∧ (∃ x y, IsTupOf2 h TO x y) ∧ ItE l1 h i1 a i ∧ ItE l2 h i2 b i) where
  mem := List.mem_cons_self
  obj := by
    rintro i h ⟨hz, hTI, ⟨x, y, hTO⟩, h1, h2⟩ c hc
    simp only [List.mem_cons, List.not_mem_nil, or_false] at hc
    rcases hc with rfl | rfl | rfl | rfl | rfl
    · exact ⟨_, hz, fun v q => nomatch q⟩
    · exact ⟨_, hTI, fun v q => nomatch q⟩
    · exact ⟨_, hTO, fun v q => nomatch q⟩
    · exact h1.there
    · exact h2.there
  keep := by
    rintro i h h' ⟨hz, hTI, ⟨x, y, hTO⟩, h1, h2⟩ k
    exact ⟨k _ (by simp) _ hz, k _ (by simp) _ hTI, ⟨x, y, k _ (by simp) _ hTO⟩, h1.at fun o q => k _ (by simp) o q, h2.at fun o q => k _ (by simp) o q⟩
  item := by
    intro X hP hw hK hc i pins s σ H E I hf st hg
    subst hP hw hK
    obtain ⟨hz, hTI, ⟨x0, y0, hTO⟩, h1, h2⟩ := st
    obtain ⟨xs, ys, x, y, hqx, hqy, hx, hy⟩ := hg
    obtain ⟨its, rv, p⟩ := seqE I hqx
    obtain ⟨its2, rv2, p2⟩ := seqE I hqy
    obtain ⟨u, hu, ru⟩ := rv.get hx
    obtain ⟨u2, hu2, ru2⟩ := rv2.get hy
    have hd : X.A.in1.handled = none := I.ok.hd hc
    have zl : z < s.heap.objs.size := Heap.lt_size hz
    refine wpAny_pyNext_zipD2_item S (drawsE hd (h1.apart p)) (drawsE hd (h2.apart p2)) hz hTI hTO ⟨h1, p⟩ ⟨h2, p2⟩ (lt_of_get hu) (lt_of_get hu2) fun v1 v2 h3 tk e1 e2 z3 TO3 s1 s2 hT hsz hk => ?_
    obtain rfl : v1 = u := by
      rw [List.getElem?_toArray, hu] at e1
      exact (Option.some.inj e1).symm
    obtain rfl : v2 = u2 := by
      rw [List.getElem?_toArray, hu2] at e2
      exact (Option.some.inj e2).symm
    refine ⟨_, rfl, wpAny_letOwnedTupleGo_zip (s := { s with heap := h3, toks := tk }) z3 fun h4 z4 sb => ?_⟩
    have hT4 : h4.get? s.heap.objs.size = some { cls := .type "tuple", data := .seq #[v1, v2] } := (sb.2 _ (Nat.ne_of_gt zl)).trans hT
    have new : ObjOk X.prog X.w (upd H s.heap.objs.size (.tup [x, y])) h4 s.heap.objs.size (.tup [x, y]) := ⟨by show 2 ≤ sizeLine; decide, [v1, v2], .cons ru (.cons ru2 .nil), ⟨_, hT4, rfl, _, rfl⟩⟩
    have kp : ∀ c o, c ∉ [z, TI, TO, i1, i2] → s.heap.get? c = some o → h4.get? c = some o := fun c o hb q => by
      simp only [List.mem_cons, List.not_mem_nil, or_false, not_or] at hb
      exact (sb.2 c hb.1).trans (hk c o hb.1 hb.2.2.1 hb.2.2.2.1 hb.2.2.2.2 q)
    have J : Inv X pins σ (upd H s.heap.objs.size (.tup [x, y])) { s with heap := h4, toks := tk } := I.turnedNew (t' := tk) kp hf (Nat.le_refl _) new
    refine ⟨.ref s.heap.objs.size, _, J, rfl, ⟨_, x, y, rfl, I.hok.fresh (Nat.le_refl _), rfl, fun m hm => ?_, fun m hm => ?_⟩, ⟨z4, ?_, ⟨v1, v2, ?_⟩, ?_, ?_⟩, fun c hcm => ?_⟩
    · rw [injE I hm hqx]
      exact hx
    · rw [injE I hm hqy]
      exact hy
    · exact (sb.2 _ S.TIz).trans (hk _ _ S.TIz S.TITO S.TIi1 S.TIi2 hTI)
    · exact (sb.2 _ S.TOz).trans TO3
    · exact s1.1.at fun o q => (sb.2 _ S.zi1.symm).trans q
    · exact s2.1.at fun o q => (sb.2 _ S.zi2.symm).trans q
    · have lt : c < s.heap.objs.size := by
        obtain ⟨_, g1, _⟩ := h1.there
        obtain ⟨_, g2, _⟩ := h2.there
        have hm := hcm
        simp only [List.mem_cons, List.not_mem_nil, or_false] at hm
        rcases hm with rfl | rfl | rfl | rfl | rfl
        · exact zl
        · exact Heap.lt_size hTI
        · exact Heap.lt_size hTO
        · exact Heap.lt_size g1
        · exact Heap.lt_size g2
      rw [upd_ne (Nat.ne_of_lt lt)]
      exact (hf c hcm).1
  done := by
    intro X hP hw hK hc i pins s σ H E I hf st hg
    subst hP hw hK
    obtain ⟨hz, hTI, ⟨x0, y0, hTO⟩, h1, h2⟩ := st
    obtain ⟨xs, ys, hqx, hqy, hend⟩ := hg
    obtain ⟨its, rv, p⟩ := seqE I hqx
    obtain ⟨its2, rv2, p2⟩ := seqE I hqy
    have n1 : its.toArray.size = xs.length := by rw [List.size_toArray, rv.length]
    have n2 : its2.toArray.size = ys.length := by rw [List.size_toArray, rv2.length]
    have hd : X.A.in1.handled = none := I.ok.hd hc
    refine wpAny_pyNext_zipD2_end S (drawsE hd (h1.apart p)) (drawsE hd (h2.apart p2)) hz hTI hTO ⟨h1, p⟩ ⟨h2, p2⟩ (by omega) (by omega) (by omega) fun h3 tk hk => ⟨rfl, I.turnedL (t' := tk) (fun c o hb q => ?_) hf⟩
    simp only [List.mem_cons, List.not_mem_nil, or_false, not_or] at hb
    exact hk c o hb.1 hb.2.2.1 hb.2.2.2.1 hb.2.2.2.2 q
  self := fun A i s Q E st h => wpAny_pyIter_zip st.1 h
def iZipE (K : PySem.W.Frag) (ta : TA) : TI := fun σ H R => ta σ H fun vs H1 => ∃ l1 l2 a b xs ys, vs = [.ref a, .ref b] ∧ SqE K l1 H1 a xs ∧ SqE K l2 H1 b ys ∧ R (ItzE K l1 l2 a b) H1
theorem HpE.lt {l : Bool} {h : Heap} {a : Addr} {items : Array Value} (x : HpE l h a items) : a < h.objs.size := by
  cases l with
  | true =>
    obtain ⟨o, g, _⟩ := (show h.IsList a items from x)
    exact Heap.lt_size g
  | false =>
    obtain ⟨o, g, _⟩ := (show h.IsTuple a items from x)
    exact Heap.lt_size g
theorem call_of_zip {X : Cx} {elts : List Expr} {kk : Nat} {tpos : Pos} {pins : List (Addr × Obj)} {σ : L2.St} {H : Hp} {s : Shared} {R : It → Hp → Prop} {l1 l2 : Bool} {a b : Addr} {i1 i2 : Array Value} (I : Inv X pins σ H s)
    (p1 : HpE l1 s.heap a i1) (p2 : HpE l2 s.heap b i2) (q : R (ItzE X.K l1 l2 a b) H) :
    wpAny (model X.prog X.w) X.A (call (.type "zip") [.ref a, .ref b]) (fun v s2 => wpAny (model X.prog X.w) X.A (pyIter v) (PIE X pins σ (.Tuple elts kk tpos) R) X.xe s2) X.xe s := by
  refine zip_begins2 beginsE beginsE p1 p2 fun h1 hz hTI hTO g1 g2 _ hk => wpAny_pyIter_zip hz ?_
  have sep : ZipSep2 (s.heap.objs.size + 4) (s.heap.objs.size + 2) (s.heap.objs.size + 3) s.heap.objs.size (s.heap.objs.size + 1) [s.heap.objs.size, a] [s.heap.objs.size + 1, b] :=
    zip_sep2 (fun c hc => by rw [List.mem_singleton.mp hc]; exact p1.lt) (fun c hc => by rw [List.mem_singleton.mp hc]; exact p2.lt)
  refine ⟨s.heap.objs.size + 4, [s.heap.objs.size + 4, s.heap.objs.size + 2, s.heap.objs.size + 3, s.heap.objs.size, s.heap.objs.size + 1], _, _, H, rfl, I.kept (t' := s.toks) hk, turn_zipE sep, ⟨hz, hTI, ⟨_, _, hTO⟩, .new g1, .new g2⟩, fun c hc => ?_, q⟩
  have le : s.heap.objs.size ≤ c := by
    simp only [List.mem_cons, List.not_mem_nil, or_false] at hc
    rcases hc with rfl | rfl | rfl | rfl | rfl
    all_goals first | exact Nat.le_refl _ | exact Nat.le_add_right _ _
  exact I.fpOk le (I.hok.fresh le)
theorem pi_zipE {X : Cx} {e e2 : Expr} {ta : TA} {p pos tpos : Pos} {elts : List Expr} {kk : Nat} (hg : Gl X "zip") (hm : X.mg "zip" = none) (ha : PA X [e, e2] ta)
    (hs : starEach [e, e2] X.env = (false, eval e X.env) :: starEach [e2] X.env := by rfl) (hpl : (backTo pos (starEach [e2] X.env)).any (·.1) = false := by rfl) :
    PI X (.Tuple elts kk tpos) (.Call (.Name "zip" p) [e, e2] [] pos) (iZipE X.K ta) := by
  constructor
  intro pins s σ H R I h
  refine Call_ (ld_blt I hg hm PyProof.Rows.boot_zip (PyProof.Rows.callWith_type1 (thn (ha.run pos pins s σ H _ I h) fun us s1 ⟨vs, H1, I1, r1, l1, l2, a, b, xs, ys, ex, hx, hy, q⟩ => ?_) hs hpl))
  subst ex
  obtain ⟨u1, u2, rfl, r1, r2⟩ := vals2 r1
  cases r1
  cases r2
  obtain ⟨i1, _, p1⟩ := seqE I1 hx
  obtain ⟨i2, _, p2⟩ := seqE I1 hy
  exact call_of_zip I1 p1 p2 q
theorem walk_zipE {K : PySem.W.Frag} {l1 l2 : Bool} {a b : Addr} {xs ys : List V} {n : Nat} (hn : n = min xs.length ys.length) :
    Walk (ItzE K l1 l2 a b) n (fun H => SqE K l1 H a xs ∧ SqE K l2 H b ys) (YPair (fun i => xs[i]?) (fun i => ys[i]?)) where
  goes := fun i H hi q => by
    have h1 : i < xs.length := by omega
    have h2 : i < ys.length := by omega
    exact ⟨xs, ys, xs[i], ys[i], q.1, q.2, List.getElem?_eq_getElem h1, List.getElem?_eq_getElem h2⟩
  stops := fun H q => ⟨xs, ys, q.1, q.2, hn⟩
  yields := by
    rintro i H v H' _ q ⟨T, x, z, h1, h2, h3, h4, h5⟩
    exact ⟨T, x, z, h1, h2, h3, h4 xs q.1, h5 ys q.2⟩
theorem walk_enumT {K : PySem.W.Frag} {a : Addr} {xs : List V} : Walk (IteT K a) xs.length (fun H => SqT K H a xs) (YPair (fun i => some (.int (i : Nat))) (fun i => xs[i]?)) where
  goes := fun i H hi q => ⟨xs, xs[i], q, List.getElem?_eq_getElem hi⟩
  stops := fun H q => ⟨xs, q, rfl⟩
  yields := by
    rintro i H v H' _ q ⟨T, x, h1, h2, h3, h4⟩
    exact ⟨T, _, x, h1, h2, h3, rfl, h4 xs q⟩
end Gd

set_option Elab.async false
set_option linter.all false
set_option maxRecDepth 100000
set_option maxHeartbeats 4000000
/-! t[::-1], t a tuple. -/
namespace HN5
open PySem PySem.Spec PyProof.Rows PySem.SeqAt
section
variable {prog : Program} {w : World} {A : Around} {E : Value → Shared → Prop} {s : Shared}
theorem slice_rev {sl : Addr} {vl vu vs : Value} {n : Nat} {Q : Int × Int × Nat → Shared → Prop} (hs : s.heap.IsSliceOf sl vl vu vs) (pl : IsPart vl none) (pu : IsPart vu none) (ps : IsPart vs (some (-1)))
    (h : Q ((n : Int) - 1, -1, n) s) : wpAny (model prog w) A (Builtin.Slice.sliceApplied (.ref sl) (pure (n : Int))) Q E s := by
  obtain ⟨os, hos, hcs, hds⟩ := id hs
  cases pl
  cases pu
  cases ps with
  | int i t =>
  unfold Builtin.Slice.sliceApplied Builtin.Slice.sliceFields
  refine wpAny_bind (wpAny_bind (wpAny_field hos hds (x := .none) rfl (wpAny_bind (wpAny_field hos hds (x := .none) rfl (wpAny_bind (wpAny_field hos hds (x := .int (-1) t) rfl (wpAny_pure ?_)))))))
  refine wpAny_bind (HT.slicePart_ (.int (-1) t) ?_)
  show wpAny _ _ (if (((-1) : Int) == 0) = true then _ else _) _ _ s
  rw [if_neg (by decide)]
  refine wpAny_bind (HT.slicePart_ .none (wpAny_bind (HT.slicePart_ .none (wpAny_bind (wpAny_pure ?_)))))
  show wpAny _ _ (pure ((n : Int) - 1, (-1 : Int), Builtin.Slice.slicePlaces ((n : Int) - 1) (-1) (-1))) _ _ s
  have e : Builtin.Slice.slicePlaces ((n : Int) - 1) (-1) (-1) = n := by
    unfold Builtin.Slice.slicePlaces
    rw [if_neg (by decide)]
    by_cases z : n = 0
    · subst z
      rfl
    · rw [if_pos (by omega)]
      simp
  rw [e]
  exact wpAny_pure h
theorem pick_rev (items : Array Value) : ((List.range items.size).filterMap fun (m : Nat) => items[((items.size : Int) - 1 + (m : Int) * (-1)).toNat]?).toArray = items.toList.reverse.toArray := by
  congr 1
  have e : ∀ m, m < items.size → items[((items.size : Int) - 1 + (m : Int) * (-1)).toNat]? = items.toList.reverse[m]? := fun m hm => by
    rw [List.getElem?_reverse (by rw [Array.length_toList]; exact hm), Array.length_toList, Array.getElem?_toList]
    congr 1
    omega
  have f : ∀ l : List Nat, (∀ m ∈ l, m < items.size) → l.filterMap (fun (m : Nat) => items[((items.size : Int) - 1 + (m : Int) * (-1)).toNat]?) = l.filterMap (fun m => items.toList.reverse[m]?) := by
    intro l hl
    induction l with
    | nil => rfl
    | cons a r ih => rw [List.filterMap_cons, List.filterMap_cons, e a (hl a List.mem_cons_self), ih fun m hm => hl m (List.mem_cons_of_mem _ hm)]
  rw [f _ fun m hm => List.mem_range.mp hm]
  have g : ∀ (xs : List Value), (List.range xs.length).filterMap (fun m => xs[m]?) = xs := by
    intro xs
    induction xs with
    | nil => rfl
    | cons a r ih =>
      rw [List.length_cons, List.range_succ_eq_map, List.filterMap_cons, List.filterMap_map]
      show a :: List.filterMap (fun m => r[m]?) (List.range r.length) = a :: r
      rw [ih]
  have := g items.toList.reverse
  rw [List.length_reverse, Array.length_toList] at this
  exact this
theorem rev_tup {t sl : Addr} {items : Array Value} {vl vu vs : Value} {Q : Value → Shared → Prop} (ht : IsTup s.heap t items) (hs : s.heap.IsSliceOf sl vl vu vs) (pl : IsPart vl none) (pu : IsPart vu none) (ps : IsPart vs (some (-1)))
    (h : Q (.ref s.heap.objs.size) { s with heap := s.heap.push { cls := .type "tuple", data := .seq items.toList.reverse.toArray } }) (hsz : items.size ≤ sizeLine) : wpAny (model prog w) A (getItem (.ref t) (.ref sl)) Q E s := by
  have small : sizeOk (.seq items.toList.reverse.toArray) := by
    show items.toList.reverse.toArray.size ≤ sizeLine
    rw [List.size_toArray, List.length_reverse, Array.length_toList]
    exact hsz
  obtain ⟨os, hos, hcs, hds⟩ := id hs
  have isl : s.TypeIs (.ref sl) "slice" := ⟨os, hos, hcs⟩
  unfold getItem
  try with_reducible refine wpAny_holding ?_
  first | refine wpAny_bind (wpAny_pure ?_) | skip
  refine wpAny_bind (wpAny_sequenceKey ht.typeIs (by decide) (wpAny_bind (wpAny_callSpecial?_slot (name := Str.ofString "__getitem__") ht.typeIs PyProof.Rows.slot_tuple_getitem (wpAny_call_entry PyProof.Rows.slot_tuple_getitem ht.typeIs entry_tuple_getitem ?_ (args_tuple_getitem _ _)))))
  show wpAny _ _ (Builtin.Tuple.tupleItemsOf (.ref t) >>= _) _ _ s
  refine wpAny_bind (PyProof.Rows.tupleItemsOf_ ht (wpAny_bind (wpAny_typeOf isl ?_)))
  rw [if_pos (by decide)]
  refine wpAny_bind (slice_rev hs pl pu ps ?_)
  show wpAny _ _ (if ((((items.size : Int) - 1) == 0 && (-1 : Int) == 1 && items.size == items.size)) = true then _ else _) _ _ s
  rw [if_neg (by simp), pick_rev]
  first
    | exact wpAny_bind (m := Builtin.Tuple.tupleExact _) (wpAny_newObj_type (wpAny_pure ⟨_, rfl, wpAny_pure h⟩) small)
    | exact wpAny_bind (wpAny_bind (m := Builtin.Tuple.tupleExact _) (wpAny_newObj_type (wpAny_pure (wpAny_pure ⟨_, rfl, wpAny_pure h⟩)) small))
    | exact wpAny_bind (m := Builtin.Tuple.tupleExact _) (wpAny_newObj_type (wpAny_bind (wpAny_pure (wpAny_pure ⟨_, rfl, wpAny_pure h⟩))) small)
    | exact wpAny_bind (wpAny_bind (m := Builtin.Tuple.tupleExact _) (wpAny_newObj_type (wpAny_pure ⟨_, rfl, wpAny_pure h⟩) small))
end
end HN5
namespace Gd
open PySem PySem.Spec PyProof.Rows L2
section
variable {X : Cx}
def tRevT (K : PySem.W.Frag) (te : TE) : TE := fun σ H Q => te σ H fun x H1 => ∃ a xs, x = .ref a ∧ SqT K H1 a xs ∧ ∀ p, H1 p = none → Q (.ref p) (upd H1 p (.tup xs.reverse))
theorem pe_revT {e : Expr} {te : TE} {k : Nat} {p1 p2 p3 pos : Pos} (he : PE X e te) : PE X (.Subscript e (.Slice none none (some (.UnaryOp .USub (.Constant (.int 1) k p1) p2)) p3) pos) (tRevT X.K te) := by
  constructor
  intro pins s σ H Q I h
  refine Subscript_ (thn (he.run pins s σ H _ I h) fun v s1 ⟨x, H1, I1, r1, a, xs, ex, hx, q⟩ => ?_)
  subst ex
  cases r1
  have step : PO X (some (.UnaryOp .USub (.Constant (.int 1) k p1) p2)) (tPart (tUn (rU fun i => .int (-i)) (tC (.int 1)))) := po_some (pe_un un_neg pe_int)
  refine wpAny_Slice (thn (po_none.run pins s1 σ H1 (fun o G => o = none ∧ G = H1) I1 ⟨rfl, rfl⟩) fun vl s2 ⟨l, G, I2, pl, el, eG⟩ => ?_)
  subst el eG
  refine thn (po_none.run pins s2 σ G (fun o G2 => o = none ∧ G2 = G) I2 ⟨rfl, rfl⟩) fun vu s3 ⟨u, G2, I3, pu, eu, eG2⟩ => ?_
  subst eu eG2
  refine thn (step.run pins s3 σ G2 (fun o G3 => o = some (-1) ∧ G3 = G2) I3 ⟨1, rfl, -1, rfl, rfl, rfl⟩) fun vs s4 ⟨o, G3, I4, ps, eo, eG3⟩ => ?_
  subst eo eG3
  let sh : Shared := { s4 with heap := s4.heap.push { cls := .type "slice", data := .fields #[vl, vu, vs] } }
  have J : Inv X pins σ G3 sh := I4.kept (t' := s4.toks) fun b ob z => Heap.get?_push_of_some _ z
  obtain ⟨its, r, ht, hz⟩ := J.tuple hx
  have hlen := r.length
  show wpAny (model X.prog X.w) X.A (subscriptTail e (.Slice none none (some (.UnaryOp .USub (.Constant (.int 1) k p1) p2)) p3) (.ref a) (.ref s4.heap.objs.size)) (EP X pins σ Q) X.xe sh
  refine tail_any (ops := [.ref a, .ref s4.heap.objs.size]) ht.typeIs (PyProof.Rows.slot_tuple_getitem.lookup) ?_ (by with_unfolding_all rfl)
  refine HN5.rev_tup ht (Heap.IsSliceOf.new _ vl vu vs) pl pu ps ?_ (by rw [List.size_toArray]; omega)
  refine ⟨.ref _, _, J.laid (t' := s4.toks) (o := .tup xs.reverse) (fun b ob z => Heap.get?_push_of_some _ z) (Nat.le_refl _) ?_, rfl, q _ (J.hok.fresh (Nat.le_refl _))⟩
  exact ⟨by rw [List.length_reverse]; exact hz, _, r.reverse, ⟨_, Heap.get?_push_size _ rfl, rfl, _, rfl⟩⟩
end
end Gd

set_option Elab.async false
set_option linter.all false
set_option maxRecDepth 100000
set_option maxHeartbeats 4000000
/-! + - * of own classes, with an own object or an integer at the right; - of one. -/
namespace HN3
open PySem PySem.Spec PyProof.Rows PySem.SeqAt
section
variable {prog : Program} {w : World} {A : Around} {E : Value → Shared → Prop} {s : Shared} {K : PySem.W.Frag} {x C f : Addr} {ox : Obj} {od : Option Obj}
theorem name_there {M : Model} {h : Heap} {nm : String} (X : K.In h) (hs : PySem.W.findIn K (.ref C) (PySem.dunder nm) = some (some (.ref f))) (hr : PySem.W.findIn K (.ref C) (PySem.dunderR nm) = some none) :
    PySem.W.Looks M h (numberSlotInPython (.ref C) nm) true := by
  intro A Q E s k q
  unfold numberSlotInPython
  refine wpAny_bind (PySem.W.looks_findIn X hs A _ E s k ?_)
  refine wpAny_bind (wpAny_pure ?_)
  refine wpAny_bind (PySem.W.looks_findIn X hr A _ E s k ?_)
  refine wpAny_bind (wpAny_pure ?_)
  exact wpAny_pure q
theorem binop1_int {nm : String} {n : Int} {t : Tok} {z : Value} {Q : Value → Shared → Prop} (X : K.In s.heap) (I : PySem.W.InstAt s.heap x ox C od) (hc : PySem.W.selfFirst K C = true)
    (hs : PySem.W.findIn K (.ref C) (PySem.dunder nm) = some (some (.ref f))) (hrn : PySem.W.findIn K (.ref C) (PySem.dunderR nm) = some none) (hf : PySem.W.isFn K (.ref f) = true)
    (fi : fillsNumberSlot (.type "int") nm = pure true) (hsub : PySem.W.subIn K (.type "int") (.ref C) = some false) (hz : typeLookup (.type "int") (PySem.dunderR nm) = pure (some z))
    (h : wpAny (model prog w) A (call (.ref f) [.ref x, .int n t]) (PySem.W.CmpBack Q) E s) : wpAny (model prog w) A (binaryOp1 nm (.ref x) (.int n t)) (fun r s' => ∃ v, r = some v ∧ Q v s') E s := by
  obtain ⟨cd, hcd, hm⟩ := PySem.W.any_some hc
  obtain ⟨rest, hm⟩ : ∃ rest, cd.mro = .ref C :: rest := by
    cases q : cd.mro with
    | nil => rw [q] at hm; cases hm
    | cons a r => rw [q] at hm; exact ⟨r, by rw [List.head?_cons] at hm; cases (beq_iff_eq.mp hm); rfl⟩
  unfold binaryOp1
  refine wpAny_bind (I.type.here ?_)
  refine wpAny_bind (wpAny_of_eq (a := Value.type "int") rfl ?_)
  refine wpAny_bind ((PySem.W.fills_K X hcd hm hs).here ?_)
  have e : (Value.ref C == Value.type "int") = false := rfl
  rw [e]
  simp only [Bool.false_eq_true, if_false]
  refine wpAny_bind (wpAny_of_eq fi ?_)
  simp only [Bool.and_self, if_true]
  refine wpAny_bind ((PySem.W.looks_subIn X hsub).here ?_)
  simp only [Bool.false_eq_true, if_false]
  refine wpAny_bind ((name_there X hs hrn).here ?_)
  simp only [if_true]
  refine wpAny_bind (wpAny_of_eq (a := false) rfl ?_)
  simp only [Bool.not_false, if_true]
  refine wpAny_bind (wpAny_of_eq hz ?_)
  refine wpAny_bind (m := tryMethod (.ref x) _ (.int n t)) ?_
  unfold tryMethod
  refine wpAny_bind (PySem.W.special_fn X I hs (beq_iff_eq.mp hf) (wpAny_mono h (fun v s' hv => ?_) fun _ _ e => e))
  cases v <;> first | exact hv.elim | exact wpAny_pure (wpAny_pure ⟨_, rfl, hv⟩)
theorem binop_int {op : Operator} {n : Int} {t : Tok} {z : Value} {Q : Value → Shared → Prop} (X : K.In s.heap) (I : PySem.W.InstAt s.heap x ox C od) (hc : PySem.W.selfFirst K C = true)
    (hs : PySem.W.findIn K (.ref C) (PySem.dunder op.info.2) = some (some (.ref f))) (hrn : PySem.W.findIn K (.ref C) (PySem.dunderR op.info.2) = some none) (hf : PySem.W.isFn K (.ref f) = true)
    (fi : fillsNumberSlot (.type "int") op.info.2 = pure true) (hsub : PySem.W.subIn K (.type "int") (.ref C) = some false) (hz : typeLookup (.type "int") (PySem.dunderR op.info.2) = pure (some z))
    (h : wpAny (model prog w) A (call (.ref f) [.ref x, .int n t]) (PySem.W.CmpBack Q) E s) : wpAny (model prog w) A (binaryOp op (.ref x) (.int n t)) Q E s := by
  unfold binaryOp
  refine wpAny_holding (wpAny_bind (wpAny_mono (binop1_int X I hc hs hrn hf fi hsub hz h) (fun r s' hr => ?_) fun _ _ e => e))
  obtain ⟨v, rfl, q⟩ := hr
  exact wpAny_pure q
theorem neg_own {Q : Value → Shared → Prop} (X : K.In s.heap) (I : PySem.W.InstAt s.heap x ox C od)
    (hs : PySem.W.findIn K (.ref C) "__neg__" = some (some (.ref f))) (hf : PySem.W.isFn K (.ref f) = true)
    (h : wpAny (model prog w) A (call (.ref f) [.ref x]) Q E s) : wpAny (model prog w) A (unaryOp .USub (.ref x)) Q E s := by
  unfold unaryOp
  refine wpAny_holding ?_
  dsimp only
  rw [if_neg (by decide)]
  exact wpAny_bind (PySem.W.special_fn X I hs (beq_iff_eq.mp hf) (wpAny_mono h (fun v s' hv => wpAny_pure hv) fun _ _ e => e))
end
end HN3

namespace Gd
open PySem PySem.Spec PyProof.Rows L2
section
variable {X : Cx} {CX : CXT} {k : Nat} {f C : Addr} {fd : FuncData} {ps : List Str} {sp : Sp}
/-- what an operator of an own class asks of the class: m its method, r the name of the turned one, which nobody has -/
structure BinC (K : PySem.W.Frag) (C : Addr) (m r : Str) (f : Addr) : Prop where
  sf : PySem.W.selfFirst K C = true
  at_ : Meth K C m f
  rn : PySem.W.findIn K (.ref C) r = some none
/-- x OP y by the own method of x's class, y of that class or an integer; what it gives is an object -/
def rBinO (C : Addr) (sp : Sp) (E : XK) : R2 := fun x y H Q => ∃ p dx fs, x = .ref p ∧ H p = some (.ins C dx fs) ∧
  ((∃ q dy gs, y = .ref q ∧ H q = some (.ins C dy gs)) ∨ ∃ n, y = .int n) ∧ sp [x, y] H (fun v H' => (∃ q, v = .ref q) ∧ Q v H') E
theorem op_binO {op : Operator} {m r : Str} {z : Value} {E : XK} (e1 : PySem.dunder op.info.2 = m) (e2 : PySem.dunderR op.info.2 = r) (fi : fillsNumberSlot (.type "int") op.info.2 = pure true) (hz : typeLookup (.type "int") r = pure (some z))
    (B : BinC X.K C m r f) (F : FnOk X.prog X.w X.K X.mg X.base CX k f fd ps sp) (hr : Room (k + 1) X.A) (hb : Binds X.K fd ps []) (hx : ∀ σ, PassesAt CX X σ E) : OpR X (binaryOp op) (rBinO C sp E) := by
  subst e1 e2
  intro pins s σ H x y v u Q I rx ry h
  obtain ⟨p, dx, fs, rfl, ep, hy, hsp⟩ := h
  cases rx
  obtain ⟨od, J⟩ := seen I ep
  obtain ⟨m, hF⟩ := I.fr
  have run := wpAny_mono (runAt (.inl rfl) F hr hb .nil (hx σ) I (.cons (show RelV (V.ref p) (Value.ref p) from rfl) (.cons ry .nil)) hsp) (Q' := PySem.W.CmpBack (EP X pins σ Q)) (fun w s' hw => by
    obtain ⟨z, H', I', rz, ⟨q, rfl⟩, hq⟩ := hw
    cases rz
    exact ⟨.ref q, H', I', rfl, hq⟩) (fun _ _ z => z)
  rcases hy with ⟨q, dy, gs, rfl, eq⟩ | ⟨n, rfl⟩
  · cases ry
    obtain ⟨od2, J2⟩ := seen I eq
    exact PySem.W.binop_K hF I.ok.mod.kin J J2.type B.sf B.at_.at_ B.at_.fn run
  · obtain ⟨t, rfl⟩ := ry
    exact HN3.binop_int I.kIn J B.sf B.at_.at_ B.rn B.at_.fn fi (by kernel_rfl) hz run
theorem op_addO {E : XK} (B : BinC X.K C "__add__" "__radd__" f) (F : FnOk X.prog X.w X.K X.mg X.base CX k f fd ps sp) (hr : Room (k + 1) X.A) (hb : Binds X.K fd ps []) (hx : ∀ σ, PassesAt CX X σ E) : OpR X (binaryOp .Add) (rBinO C sp E) :=
  op_binO (op := .Add) (z := .builtin "int.__radd__") (by kernel_rfl) (by kernel_rfl) PySem.F.fills_int_add (by rw [typeLookup_type, builtinLookup_eq_fast]; kernel_rfl) B F hr hb hx
theorem op_subO {E : XK} (B : BinC X.K C "__sub__" "__rsub__" f) (F : FnOk X.prog X.w X.K X.mg X.base CX k f fd ps sp) (hr : Room (k + 1) X.A) (hb : Binds X.K fd ps []) (hx : ∀ σ, PassesAt CX X σ E) : OpR X (binaryOp .Sub) (rBinO C sp E) :=
  op_binO (op := .Sub) (z := .builtin "int.__rsub__") (by kernel_rfl) (by kernel_rfl) PySem.F.fills_int_sub (by rw [typeLookup_type, builtinLookup_eq_fast]; kernel_rfl) B F hr hb hx
theorem op_mulO {E : XK} (B : BinC X.K C "__mul__" "__rmul__" f) (F : FnOk X.prog X.w X.K X.mg X.base CX k f fd ps sp) (hr : Room (k + 1) X.A) (hb : Binds X.K fd ps []) (hx : ∀ σ, PassesAt CX X σ E) : OpR X (binaryOp .Mult) (rBinO C sp E) :=
  op_binO (op := .Mult) (z := .builtin "int.__rmul__") (by kernel_rfl) (by kernel_rfl) PySem.F.fills_int_mul (by rw [typeLookup_type, builtinLookup_eq_fast]; kernel_rfl) B F hr hb hx
/-- -x by the own method -/
def rNegO (C : Addr) (sp : Sp) (E : XK) : V → Hp → VK → Prop := fun x H Q => ∃ p dx fs, x = .ref p ∧ H p = some (.ins C dx fs) ∧ sp [x] H Q E
theorem un_negO {E : XK} (M : Meth X.K C "__neg__" f) (F : FnOk X.prog X.w X.K X.mg X.base CX k f fd ps sp) (hr : Room (k + 1) X.A) (hb : Binds X.K fd ps []) (hx : ∀ σ, PassesAt CX X σ E) : UnR X (unaryOp .USub) (rNegO C sp E) := by
  intro pins s σ H x v Q I rx h
  obtain ⟨p, dx, fs, rfl, ep, hsp⟩ := h
  cases rx
  obtain ⟨od, J⟩ := seen I ep
  exact HN3.neg_own I.kIn J M.at_ M.fn (runAt (.inl rfl) F hr hb .nil (hx σ) I (.cons (show RelV (V.ref p) (Value.ref p) from rfl) .nil) hsp)
end
end Gd

set_option Elab.async false
set_option linter.all false
set_option maxRecDepth 100000
set_option maxHeartbeats 4000000
/-! != of two tuples whose items are equal, one by one, by an own ==. -/
namespace NeT
open PySem PySem.SeqAt
open AutoSeq1 (wpAny_loadPart')
open MeetsSeq MeetsSeq2 MeetsSeq3 SeqRoads2
section
variable {pg : Program} {wd : World} {B : Around} {Z : Result → Shared → Prop}
theorem walk (p q : Addr) (xs ys : Array Value) (np nq : Nat) (dp dq : Option Addr) (sp sq : Array (Option Value)) (same : xs.size = ys.size) (J : Nat → Shared → Prop)
    (step : ∀ k (a : k < xs.size) (b : k < ys.size) t, J k t → wpAny (model pg wd) B.in1 (eqBool xs[k] ys[k]) (fun z t' => z = true ∧ J (k + 1) t') (fun e t' => Z (.error e) t') t)
    (stop : ∀ t, J xs.size t → Z (.ok (.ret (.bool false))) t) {t : Shared} (gp : t.heap.get? p = some { cls := .type "tuple", dict := dp, data := .seq xs np, slots := sp }) (gq : t.heap.get? q = some { cls := .type "tuple", dict := dq, data := .seq ys nq, slots := sq }) (j0 : J 0 t) :
    wpAny (model pg wd) B.in1 (Builtin.«tuple.__ne__» ⟨[.ref p, .ref q], []⟩) (GQ.FinOf pg wd B Z) (fun e t' => Z (.error e) t') t := by
  have two := AutoSeq1.sub_tuple_tuple
  have zl : (xs.toList.zip ys.toList).length = xs.size := by simp [same]
  have j1 := j0
  obtain ⟨a1, a2, a3, a4, a5⟩ := t
  wp_walk using wpAny_loadPart' gp, wpAny_loadPart' gq, wpAny_forIn_list _ (fun more st t' => st.1 = none ∧ ∃ k, more = (xs.toList.zip ys.toList).drop k ∧ k ≤ xs.size ∧ J k t') _
  case turn =>
    rintro ⟨v, u⟩ more st t' ⟨e0, k, ek, lk, jk⟩
    have kz : k < (xs.toList.zip ys.toList).length := by
      by_cases g : k < (xs.toList.zip ys.toList).length
      · exact g
      · rw [List.drop_of_length_le (by omega)] at ek
        cases ek
    have ka : k < xs.size := by omega
    have kb : k < ys.size := by omega
    rw [List.drop_eq_getElem_cons kz] at ek
    injection ek with pair tail
    obtain rfl : v = xs[k] := by simpa using congrArg Prod.fst pair
    obtain rfl : u = ys[k] := by simpa using congrArg Prod.snd pair
    refine wpAny_bind (wpAny_mono (step k ka kb t' jk) (fun z t2 r2 => ?_) fun _ _ r2 => r2)
    obtain ⟨rfl, r2⟩ := r2
    wp_walk
    exact ⟨rfl, k + 1, tail, ka, r2⟩
  case fin =>
    rintro ⟨st1, st2⟩ t' ⟨e0, k, ek, lk, jk⟩
    simp only at e0
    subst e0
    have ke : xs.size ≤ k := by
      by_cases g : k < (xs.toList.zip ys.toList).length
      · rw [List.drop_eq_getElem_cons g] at ek
        cases ek
      · omega
    obtain rfl : k = xs.size := by omega
    have last : Z (.ok (.ret (.bool false))) t' := stop t' jk
    wp_walk
    simpa [Builtin.Tuple.tupleCompareSizes, same] using last
  case h =>
    exact ⟨rfl, 0, rfl, Nat.zero_le _, j1⟩
end
section
variable {pg : Program} {wd : World} {B : Around} {Y : Value → Shared → Prop} {t : Shared}
theorem rc {p q : Addr} {xs ys : Array Value} {W : Value → Shared → Prop} (same : xs.size = ys.size) (hu : B.units < cLine) (J : Nat → Shared → Prop) (hp : t.heap.IsTuple p xs) (hq : t.heap.IsTuple q ys)
    (step : ∀ k (a : k < xs.size) (b : k < ys.size) t, J k t → wpAny (model pg wd) B.in1 (eqBool xs[k] ys[k]) (fun z t' => z = true ∧ J (k + 1) t') Y t)
    (stop : ∀ t, J xs.size t → W (.bool false) t) (j0 : J 0 t) : wpAny (model pg wd) B (richCompare .NotEq (.ref p) (.ref q)) W Y t := by
  obtain ⟨⟨c1, d1, b1, s1⟩, g1, k1, n1, e1⟩ := id hp
  obtain ⟨⟨c2, d2, b2, s2⟩, g2, k2, n2, e2⟩ := id hq
  simp only at k1 e1 k2 e2
  subst k1 e1 k2 e2
  refine wpAny_richCompare_same_room (op := .NotEq) ⟨_, g1, rfl⟩ ⟨_, g2, rfl⟩ F.slot_tuple_ne (GQ.call_here F.slot_tuple_ne ⟨_, g1, rfl⟩ F.entry_tuple_ne (F.args_tuple_ne_2 _ _) ?_) hu
  exact walk (Z := wants (fun v t' => v ≠ .notImplemented ∧ W v t') Y) p q xs ys n1 n2 d1 d2 s1 s2 same J step (fun t' z => ⟨(fun x => nomatch x), stop t' z⟩) g1 g2 j0
end
end NeT
namespace Gd
open PySem PySem.Spec PyProof.Rows L2
/-- x != y of two tuples, item by item equal -/
def rNeT (K : PySem.W.Frag) (D : Eqv) : R2 := fun x y H Q => DTup K D x y H ∧ ∀ H', L2.Ext H H' → Q (.bl false) H'
theorem op_neT {X : Cx} {n : Nat} {D : Eqv} (hD : Mon D) (h : EqG X n D) (hr : Room (n + 1) X.A) : OpR X (compareOp .NotEq) (rNeT X.K D) := by
  intro pins s σ H x y v u Q I rx ry hw
  obtain ⟨⟨a, b, xs, ys, rfl, rfl, ha, hb, p⟩, q⟩ := hw
  cases rx
  cases ry
  obtain ⟨us, r1, e1, z1⟩ := I.tuple ha
  obtain ⟨vs, r2, e2, z2⟩ := I.tuple hb
  have same : us.toArray.size = vs.toArray.size := by
    rw [List.size_toArray, List.size_toArray, ← r1.length, ← r2.length]
    exact p.1
  show wpAny (model X.prog X.w) X.A (richCompare .NotEq (.ref a) (.ref b)) (EP X pins σ Q) X.xe s
  refine NeT.rc same hr.units0 (fun _ t => LoopI X pins σ H t) e1 e2 (fun i h1 h2 t z => turnG hD h ⟨hr, rfl⟩ p r1 r2 i h1 h2 t z) (fun t z => ?_) ⟨H, I, L2.Ext.rfl'⟩
  obtain ⟨H', I', e⟩ := z
  exact ⟨.bl false, H', I', rfl, q H' e⟩
end Gd

set_option Elab.async false
set_option linter.all false
set_option maxRecDepth 100000
set_option maxHeartbeats 4000000
/-! o(x), o of an own class with a __call__. -/
namespace HN6
open PySem PySem.Spec PyProof.Rows PySem.SeqAt
section
variable {M : Model} {A : Around} {E : Value → Shared → Prop} {s : Shared} {env : Env} {pos : Pos} {x : Addr} {Q : Value → Shared → Prop}
/-- the callee is an object with a dict of its own, wherever the arguments lead -/
theorem callWith_obj {e : Expr} {rest : List Expr} (h : wpAny M A (spliced (backTo pos (starEach (e :: rest) env))) (fun vs s1 => (∃ C ox od, PySem.W.InstAt s1.heap x ox C od ∧ ox.data = .plain) ∧ wpAny M A (call (.ref x) vs) Q E s1) E s)
    (he : starEach (e :: rest) env = (false, eval e env) :: starEach rest env := by rfl) (hplain : (backTo pos (starEach rest env)).any (·.1) = false := by rfl) :
    wpAny M A (callWith pos (.ref x) [] (backTo pos (starEach (e :: rest) env)) []) Q E s := by
  rw [he] at h ⊢
  have none' : ((backTo pos ((false, eval e env) :: starEach rest env)).any (·.1) || ([] : List (Option Str × Sem Value)).any (·.1.isNone)) = false := by
    show ((false || (backTo pos (starEach rest env)).any (·.1)) || false) = false
    rw [hplain]
    rfl
  have args := PySem.Calls.evalArgs_plain (f := .ref x) (Q := fun a s1 => (∃ C ox od, PySem.W.InstAt s1.heap x ox C od ∧ ox.data = .plain) ∧ wpAny M A (call (.ref x) ([] ++ a.pos) a.kw) Q E s1) h
  unfold callWith
  refine wpAny_bind (wpAny_holding (wpAny_mono args (fun a s1 ha => wpAny_bind (wpAny_standAt ?_)) fun _ _ z => z))
  obtain ⟨⟨C, ox, od, I, hd⟩, go⟩ := ha
  simp only [none']
  refine wpAny_bind ((PySem.W.kco_keeper (M := M) I hd).here (wpAny_bind (wpAny_operateT ?_)))
  exact wpAny_mono go (fun r s2 hr => wpAny_bind (wpAny_holding (wpAny_point (wpAny_pure hr)))) fun _ _ z => z
end
end HN6
namespace Gd
open PySem PySem.Spec PyProof.Rows L2
section
variable {X : Cx} {CX : CXT} {k : Nat} {f C : Addr} {fd : FuncData} {ps : List Str} {sp : Sp} {E : L2.St → XK} {e fe : Expr} {es : List Expr} {t : TA} {tf : TE} {pos : Pos}
def tCallO (C : Addr) (sp : Sp) (E : L2.St → XK) (tf : TE) (t : TA) : TE := fun σ H Q => tf σ H fun x H1 => ∃ p, x = .ref p ∧ t σ H1 fun vs H2 => ∃ dx fs, H2 p = some (.ins C dx fs) ∧ sp (.ref p :: vs) H2 Q (E σ)
theorem pe_callO (hm : Meth X.K C "__call__" f) (hfn : PySem.W.fnIn X.K f = true) (F : FnOk X.prog X.w X.K X.mg X.base CX k f fd ps sp) (hr : Room (k + 1) X.A) (hb : Binds X.K fd ps []) (hx : ∀ σ, PassesAt CX X σ (E σ)) (hf : PE X fe tf) (ha : PA X (e :: es) t)
    (he : eval (.Call fe (e :: es) [] pos) X.env = (do callWith pos (← eval fe X.env) [] (backTo pos (starEach (e :: es) X.env)) (backToKw pos (keywordEach [] X.env))) := by rfl)
    (h1 : starEach (e :: es) X.env = (false, eval e X.env) :: starEach es X.env := by rfl) (h2 : (backTo pos (starEach es X.env)).any (·.1) = false := by rfl) :
    PE X (.Call fe (e :: es) [] pos) (tCallO C sp E tf t) := by
  constructor
  intro pins s σ H Q I h
  refine Call_ (thn (hf.run pins s σ H _ I h) fun u s1 ⟨x, H1, I1, rx, p, ex, q1⟩ => ?_) he
  subst ex
  cases rx
  refine HN6.callWith_obj (thn (ha.run pos pins s1 σ H1 _ I1 q1) fun us s2 ⟨vs, H2, I2, r, dx, fs, ep, hsp⟩ => ?_) h1 h2
  obtain ⟨od, J⟩ := seen I2 ep
  refine ⟨⟨C, _, _, J, rfl⟩, ?_⟩
  have rv : Vals (V.ref p :: vs) (Value.ref p :: us) := .cons rfl r
  have hl : (Value.ref p :: us).length = ps.length := by
    rw [← rv.length]
    exact F.len _ H2 Q (E σ) hsp
  refine wpAny_call (PySem.W.kco_code (a := ⟨us, []⟩) I2.kIn J rfl hm.at_ hm.fn hfn (codeAny_mono (F.run X.A X.stack s2 H2 ⟨.ref p :: us, []⟩ (.ref p :: us) _ Q (E σ) (hr.mono (Nat.le_succ _)) I2.env0 (by
    have q := hb s2 (.ref p :: us) I2.kIn (by simpa using hl)
    simpa using q) rv hsp) fun z s3 hz => ?_))
  match z, hz with
  | .error er, hz => exact hx σ pins H2 s2 er s3 I2 hz
  | .ok .next, hz => exact False.elim hz
  | .ok .brk, hz => exact False.elim hz
  | .ok .cont, hz => exact False.elim hz
  | .ok (.ret v), hz => exact I2.after hz
end
end Gd

set_option Elab.async false
set_option linter.all false
set_option maxRecDepth 100000
set_option maxHeartbeats 4000000
/-! Readings, step by step: one lemma a word of the readings, and a tactic that goes as far as nothing is asked. -/
namespace Gd
open PySem PySem.Spec PyProof.Rows L2
section
variable {σ : L2.St} {H : Hp} {Q : VK} {QA : List V → Hp → Prop} {QT : Bool → Hp → Prop} {D : Ends} {te ta tb tc to : TE} {t u : TT} {tr : TA} {s1 s2 : TS} {v : V} {i : Nat} {K : PySem.W.Frag}
theorem g_var (h : σ[i]? = some (some v)) (k : Q v H) : tVar i σ H Q := ⟨v, h, k⟩
theorem g_c (k : Q v H) : tC v σ H Q := k
theorem g_ret (k : te σ H D.rt) : tRet te D σ H := k
theorem g_retN (k : D.rt .non H) : tRetN D σ H := k
theorem g_seq (k : s1 { D with nx := s2 D } σ H) : tSeq s1 s2 D σ H := k
theorem g_next (k : D.nx σ H) : tNext D σ H := k
theorem g_drop (k : te σ H fun _ H1 => D.nx σ H1) : tDrop te D σ H := k
theorem g_asg {g : TG} (k : te σ H fun x H1 => g x σ H1 D.nx) : tAsg te g D σ H := k
theorem g_name {Qs : L2.St → Hp → Prop} (k : Qs (σ.set i (some v)) H) : gName i v σ H Qs := k
theorem g_ifs (k : t σ H fun b H1 => if b = true then s1 D σ H1 else s2 D σ H1) : tIfS t s1 s2 D σ H := k
theorem g_test (k : te σ H fun x H' => ∃ c, x = .bl c ∧ QT c H') : tTest te σ H QT := k
theorem g_tb (k : te σ H fun x H' => ∃ c, x = .bl c ∧ QT c H') : tB te σ H QT := k
theorem g_and (k : t σ H fun c H1 => if c = true then u σ H1 QT else QT false H1) : tAnd t u σ H QT := k
theorem g_or (k : t σ H fun c H1 => if c = true then QT true H1 else u σ H1 QT) : tOr t u σ H QT := k
theorem g_not (k : t σ H fun c H1 => QT (!c) H1) : tNot t σ H QT := k
theorem g_andV (k : ta σ H fun x H1 => ∃ c, x = .bl c ∧ if c = true then tb σ H1 Q else Q (.bl false) H1) : tAndV ta tb σ H Q := k
theorem g_orV (k : ta σ H fun x H1 => ∃ c, x = .bl c ∧ if c = true then Q (.bl true) H1 else tb σ H1 Q) : tOrV ta tb σ H Q := k
theorem g_notV (k : ta σ H fun x H1 => ∃ c, x = .bl c ∧ Q (.bl (!c)) H1) : tNotV ta σ H Q := k
theorem g_if (k : t σ H fun c H1 => if c = true then ta σ H1 Q else tb σ H1 Q) : tIf t ta tb σ H Q := k
theorem g_op {r : R2} (k : ta σ H fun x H1 => tb σ H1 fun y H2 => r x y H2 Q) : tOp r ta tb σ H Q := k
theorem g_un {r : V → Hp → VK → Prop} (k : ta σ H fun x H1 => r x H1 Q) : tUn r ta σ H Q := k
theorem g_cb {r : List V → Hp → VK → Prop} (k : tr σ H fun vs H1 => r vs H1 Q) : tCB r tr σ H Q := k
theorem g_nil (k : QA [] H) : tNil σ H QA := k
theorem g_cons (k : ta σ H fun x H1 => tr σ H1 fun xs H2 => QA (x :: xs) H2) : tCons ta tr σ H QA := k
theorem g_call {sp : Sp} {dvs : List V} {E : XK} (k : tr σ H fun vs H1 => sp (vs ++ dvs) H1 Q E) : tCall sp dvs E tr σ H Q := k
theorem g_callS {sp : Sp} {E : L2.St → XK} (k : tr σ H fun vs H1 => sp vs H1 Q (E σ)) : tCallS sp E tr σ H Q := k
theorem g_tup (k : tr σ H fun xs H1 => xs.length ≤ sizeLine ∧ ∀ p, H1 p = none → Q (.ref p) (upd H1 p (.tup xs))) : tTup tr σ H Q := k
theorem g_lst (k : tr σ H fun xs H1 => xs.length ≤ sizeLine ∧ ∀ p, H1 p = none → Q (.ref p) (upd H1 p (.lst xs))) : tLst tr σ H Q := k
theorem g_isN (k : ta σ H fun x H1 => Q (.bl (decide (x = .non))) H1) : tIsN ta σ H Q := k
theorem g_sl {r : V → Option Int → Option Int → Hp → VK → Prop} {tl th : TO} (k : te σ H fun x H1 => tl σ H1 fun l H2 => th σ H2 fun u H3 => r x l u H3 Q) : tSl r te tl th σ H Q := k
theorem g_nopart {Qo : Option Int → Hp → Prop} (k : Qo none H) : tNoPart σ H Qo := k
theorem g_part {Qo : Option Int → Hp → Prop} (k : te σ H fun x H1 => ∃ i, x = .int i ∧ Qo (some i) H1) : tPart te σ H Qo := k
theorem g_chain {r r' : R2} (k : ta σ H fun x H1 => tb σ H1 fun y H2 => r x y H2 fun z H3 => ∃ c, z = .bl c ∧
    if c = true then tc σ H3 fun w H4 => r' y w H4 Q else Q (.bl false) H3) : tChain r r' ta tb tc σ H Q := by
  exact k
theorem g_fld {f : Str} (k : ta σ H fun x H1 => ∃ a C dx fs v, x = .ref a ∧ H1 a = some (.ins C dx fs) ∧ Cls K C ∧ NoAttr K C f ∧ fs.lookup f = some v ∧ Q v H1) : tFld K ta f σ H Q := k
theorem g_prop {C : Addr} {sp : Sp} {dvs : List V} {E : XK} (k : ta σ H fun x H1 => ∃ a dx fs, x = .ref a ∧ H1 a = some (.ins C dx fs) ∧ sp (.ref a :: dvs) H1 Q E) : tProp C sp dvs E ta σ H Q := k
theorem g_bm {T : String} {r : V → List V → Hp → VK → Prop} (k : to σ H fun x H1 => tyV K T x H1 ∧ tr σ H1 fun xs H2 => r x xs H2 Q) : tBM K T r to tr σ H Q := k
theorem g_bm0 {T : String} {r : V → List V → Hp → VK → Prop} (k : to σ H fun x H1 => tyV K T x H1 ∧ r x [] H1 Q) : tBM0 K T r to σ H Q := k
theorem g_tru {r : V → Hp → (Bool → Hp → Prop) → Prop} (k : te σ H fun x H' => r x H' QT) : (fun (σ : L2.St) (H : Hp) (Q : Bool → Hp → Prop) => te σ H fun x H' => r x H' Q) σ H QT := k
-- values
theorem g_I0 {g : Int → Int → V} {a b : Int} (k : Q (g a b) H) : rI0 g (.int a) (.int b) H Q := ⟨a, b, rfl, rfl, k⟩
theorem g_I {C : Int → Int → Prop} {g : Int → Int → V} {a b : Int} (c : C a b) (k : Q (g a b) H) : rI C g (.int a) (.int b) H Q := ⟨a, b, rfl, rfl, c, k⟩
theorem g_U {g : Int → V} {a : Int} (k : Q (g a) H) : rU g (.int a) H Q := ⟨a, rfl, k⟩
theorem g_eqI {a b : Int} (k : Q (.bl (decide (a = b))) H) : rEq (.int a) (.int b) H Q := by
  refine ⟨rfl, ?_⟩
  have e : (V.int a = V.int b) = (a = b) := by simp
  simpa [e] using k
theorem g_eq {x y : V} (s : scal x y = true) (k : Q (.bl (decide (x = y))) H) : rEq x y H Q := ⟨s, k⟩
theorem g_ne {x y : V} (s : scal x y = true) (k : Q (.bl (!decide (x = y))) H) : rNe x y H Q := ⟨s, k⟩
theorem g_bl {b : Bool} (k : QT b H) : ∃ c, (V.bl b) = .bl c ∧ QT c H := ⟨b, rfl, k⟩
theorem g_blV {b : Bool} {A : Bool → Prop} (k : A b) : ∃ c, (V.bl b) = .bl c ∧ A c := ⟨b, rfl, k⟩
theorem g_inV {a : Int} {A : Int → Prop} (k : A a) : ∃ c, (V.int a) = .int c ∧ A c := ⟨a, rfl, k⟩
theorem g_ixT {p : Addr} {xs : List V} {a : Int} (h : SqT K H p xs) (e : atI xs a = some v) (k : Q v H) : rIxT K (.ref p) (.int a) H Q := ⟨p, xs, a, v, rfl, rfl, h, e, k⟩
theorem g_ixL {p : Addr} {xs : List V} {a : Int} (h : SqL K H p xs) (e : atI xs a = some v) (k : Q v H) : rIxL K (.ref p) (.int a) H Q := ⟨p, xs, a, v, rfl, rfl, h, e, k⟩
end

/-- the turn's end: the invariant again, the measure less -/
abbrev Turn (Pv : L2.St → Hp → Prop) (μ : L2.St → Hp → Nat) (m : Nat) : L2.St → Hp → Prop := fun σ' H' => Pv σ' H' ∧ μ σ' H' < m
theorem g_while {c : TT} {tb : TS} {D : Ends} {σ : L2.St} {H : Hp} (Pv : L2.St → Hp → Prop) (μ : L2.St → Hp → Nat) (h0 : Pv σ H)
    (hs : ∀ σ H, Pv σ H → c σ H fun b H1 => if b = true then ∃ N : L2.St → Hp → Prop, (∀ σ' H', N σ' H' → ∃ m', m' < μ σ H ∧ m' = μ σ' H' ∧ Pv σ' H') ∧
      tb { D with nx := N, ct := N, bk := D.nx } σ H1 else D.nx σ H1) : tWhile c tb D σ H := by
  refine ⟨fun m σ H => m = μ σ H ∧ Pv σ H, ⟨_, rfl, h0⟩, ?_⟩
  rintro m σ H ⟨rfl, p⟩
  exact hs σ H p
theorem g_turn {tb : TS} {D : Ends} {σ : L2.St} {H H1 : Hp} {Pv : L2.St → Hp → Prop} {μ : L2.St → Hp → Nat}
    (h : tb { D with nx := Turn Pv μ (μ σ H), ct := Turn Pv μ (μ σ H), bk := D.nx } σ H1) :
    ∃ N : L2.St → Hp → Prop, (∀ σ' H', N σ' H' → ∃ m', m' < μ σ H ∧ m' = μ σ' H' ∧ Pv σ' H') ∧ tb { D with nx := N, ct := N, bk := D.nx } σ H1 :=
  ⟨Turn Pv μ (μ σ H), fun σ' H' n => ⟨_, n.2, rfl, n.1⟩, h⟩
theorem g_aug {σ : L2.St} {H : Hp} {D : Ends} {i : Nat} {te : TE} {ti : TIp} {x : V} (h : σ[i]? = some (some x)) (k : te σ H fun y H1 => ti x y H1 fun z H2 => D.nx (σ.set i (some z)) H2) : tAug i te ti D σ H := ⟨x, h, k⟩
theorem tyT {K : PySem.W.Frag} {H : Hp} {a : Addr} {xs : List V} (h : SqT K H a xs) : TyX K H (.ref a) (.type "tuple") := by
  rcases h with (h | ⟨o, h⟩) | ⟨o, its, n, h, c, _⟩
  · exact .base (.tup h)
  · exact .fTuple h
  · exact .kTuple h c
theorem tyL {K : PySem.W.Frag} {H : Hp} {a : Addr} {xs : List V} (h : SqL K H a xs) : TyX K H (.ref a) (.type "list") ∨ ∃ o, K.lookup a = some o := by
  rcases h with (h | ⟨o, h⟩) | ⟨o, its, n, h, c, _⟩
  · exact .inl (.base (.lst h))
  · exact .inl (.base (.frz h))
  · exact .inr ⟨o, h⟩

theorem g_yes {σ : L2.St} {H : Hp} {Q : Bool → Hp → Prop} (k : Q true H) : tYes σ H Q := k
theorem g_sfld {σ : L2.St} {H : Hp} {D : Ends} {K : PySem.W.Frag} {ta te : TE} {f : Str} (k : te σ H fun y H1 => ta σ H1 fun x H2 => ∃ a C dx fs, x = .ref a ∧ H2 a = some (.ins C dx fs) ∧ Cls K C ∧ NoAttr K C f ∧
    fs.length < 1000 ∧ D.nx σ (upd H2 a (.ins C dx (putF f y fs)))) : sFld K ta te f D σ H := k
theorem g_int1 {a : Int} {A : Int → Prop} (k : A a) : ∃ i, [V.int a] = [V.int i] ∧ A i := ⟨a, rfl, k⟩
theorem g_int2 {a b : Int} {A : Int → Int → Prop} (k : A a b) : ∃ i j, [V.int a, V.int b] = [V.int i, V.int j] ∧ A i j := ⟨a, b, rfl, k⟩
theorem g_sub {σ : L2.St} {H : Hp} {Qs : L2.St → Hp → Prop} {to ti : TE} {t : TSet} {v : V} (k : to σ H fun o H1 => ti σ H1 fun i H2 => t o i v H2 fun H3 => Qs σ H3) : gSub to ti t v σ H Qs := k
theorem g_NT {A B : Prop} (h : B) : if (!true) = true then A else B := h
theorem g_NF {A B : Prop} (h : A) : if (!false) = true then A else B := h
end Gd

set_option Elab.async false
set_option linter.all false
set_option maxRecDepth 100000
set_option maxHeartbeats 4000000
/-! More readings. -/
namespace Gd
open PySem PySem.Spec PyProof.Rows L2
theorem g_forR {ta : TA} {g : TG} {tb : TS} {D : Ends} {σ : L2.St} {H : Hp} (k : ta σ H fun vs H1 => ∃ j : Int, vs = [.int j] ∧ -(2 ^ 62) ≤ j ∧ j < 2 ^ 62 ∧ ∃ W : Nat → Nat → L2.St → Hp → Prop, (∃ m, W 0 m σ H1) ∧ ∀ i m σ H, W i m σ H →
  ((Itr 0 j.toNat).stop i H ∧ D.nx σ H) ∨ ((Itr 0 j.toNat).go i H ∧ ∃ N : L2.St → Hp → Prop, (∀ σ' H', N σ' H' → ∃ m', m' < m ∧ W (i + 1) m' σ' H') ∧ ∀ x H', (Itr 0 j.toNat).yld i H x H' → g x σ H' fun σ2 H2 => tb { D with nx := N, ct := N, bk := D.nx } σ2 H2)) :
    tFor (iRng1 ta) g tb D σ H := k
theorem g_ifV {c : Bool} {ta tb : TE} {σ : L2.St} {H : Hp} {Q : VK} (v : V) (ha : c = true → ∀ Q' : VK, Q' v H → ta σ H Q') (hb : c = false → ∀ Q' : VK, Q' v H → tb σ H Q') (k : Q v H) : if c = true then ta σ H Q else tb σ H Q := by
  cases c with
  | true => exact ha rfl Q k
  | false => exact hb rfl Q k
theorem g_neS {x : Str} {H : Hp} {Q : VK} (k : Q (.bl false) H) : rNe (.str x) (.str x) H Q := ⟨rfl, by simpa using k⟩
theorem g_ixO {C : Addr} {sp : Sp} {E : L2.St → XK} {ta tb : TE} {σ : L2.St} {H : Hp} {Q : VK} (k : ta σ H fun x H1 => tb σ H1 fun y H2 => ∃ p dx fs, x = .ref p ∧ H2 p = some (.ins C dx fs) ∧ sp [x, y] H2 Q (E σ)) : tIxO C sp E ta tb σ H Q := k
/-- a place that is reached from more than one side -/
theorem g_cut {s1 s2 : TS} {D : Ends} {σ : L2.St} {H : Hp} (N : L2.St → Hp → Prop) (hN : ∀ σ' H', N σ' H' → s2 D σ' H') (k : (∀ σ' H', N σ' H' → s2 D σ' H') → s1 { D with nx := s2 D } σ H) : tSeq s1 s2 D σ H := k hN
theorem g_eqS {x : Str} {H : Hp} {Q : VK} (k : Q (.bl true) H) : rEq (.str x) (.str x) H Q := ⟨rfl, by simpa using k⟩
theorem g_par {i j : Nat} {ta : TA} {D : Ends} {σ : L2.St} {H : Hp} (k : ta σ H fun vs H1 => ∃ v w, vs = [v, w] ∧ D.nx ((σ.set i (some v)).set j (some w)) H1) : tPar i j ta D σ H := k
theorem g_make {C : Addr} {sp : Sp} {dvs : List V} {E : XK} {t : TA} {σ : L2.St} {H : Hp} {Q : VK} (k : t σ H fun vs H1 => ∀ x dx, H1 x = none → H1 dx = none → dx ≠ x →
  sp (.ref x :: (vs ++ dvs)) (upd (upd H1 dx (.own x)) x (.ins C dx [])) (fun v H2 => v = .non ∧ Q (.ref x) H2) E) : tMake C sp dvs E t σ H Q := k
end Gd

set_option Elab.async false
set_option linter.all false
set_option maxRecDepth 100000
set_option maxHeartbeats 4000000
/-! try with several clauses, some «except x as n» of one name n, some «except x». -/
namespace Gd
open PySem PySem.Spec PyProof.Rows L2
abbrev MClause := Bool × Value × (Addr → Value → Option Addr → TS)
/-- what the clauses wish, one after the other; slot i is the name's; true: with the name -/
def wMix (K : PySem.W.Frag) (i : Nat) (Wo : WX) (D : Ends) : List MClause → WX
  | [] => Wo
  | (true, c, ts) :: r => wAs K c i ts (wMix K i Wo D r) D
  | (false, c, ts) :: r => fun k d σ H => ∃ b, PySem.W.exmOne K k c = some b ∧ (b = true → ∀ a, H a = none → ts a k d D σ H) ∧ (b = false → wMix K i Wo D r k d σ H)
inductive MixOk (X : Cx) (n : Str) : List ExceptHandler → List MClause → Prop
  | nil : MixOk X n [] []
  | named {x : Str} {c : Value} {ts : Addr → Value → Option Addr → TS} {b₀ : Stmt} {rows : List Stmt} {np po : Pos} {hds : List ExceptHandler} {l : List MClause} (hc : Names X x c)
      (hsu : ∀ (a : Addr) (oe : Obj) (k : Value) (d : Option Addr) (pn : List (Addr × Obj)), Zc k d oe → (∃ us, oe.data = .fields us) → PSs (X.suite a ((a, oe) :: pn)) (b₀ :: rows) (ts a k d)) (more : MixOk X n hds l) :
      MixOk X n (.ExceptHandler (some (.Name x np)) (some n) (b₀ :: rows) po :: hds) ((true, c, ts) :: l)
  | plain {x : Str} {c : Value} {ts : Addr → Value → Option Addr → TS} {b₀ : Stmt} {rows : List Stmt} {np po : Pos} {hds : List ExceptHandler} {l : List MClause} (hc : Names X x c)
      (hsu : ∀ (a : Addr) (oe : Obj) (k : Value) (d : Option Addr) (pn : List (Addr × Obj)), Zc k d oe → (∃ us, oe.data = .fields us) → PSs (X.suite a ((a, oe) :: pn)) (b₀ :: rows) (ts a k d)) (more : MixOk X n hds l) :
      MixOk X n (.ExceptHandler (some (.Name x np)) none (b₀ :: rows) po :: hds) ((false, c, ts) :: l)
section
variable {X : Cx} {n : Str} {i : Nat} {body : List Stmt} {h₀ : ExceptHandler} {hds : List ExceptHandler} {l : List MClause} {pos : Pos} {tb : WX → TS} {Wo : WX}
theorem ps_try_mix (hst : X.stack = X.env :: X.outer) (hfr0 : X.env.frame = some X.env.locals) (hN : X.N.Nodup) (hi : X.N[i]? = some n) (hl : X.env.kindOf n = some .local) (tk : Takes X Wo)
    (hb : ∀ (W : WX) (pn : List (Addr × Obj)) (xe : Value → Shared → Prop), Takes (X.tr pn xe) W → PassesOwn (model X.prog X.w) X.A X.env xe → PSs (X.tr pn xe) body (tb W))
    (hh : MixOk X n (h₀ :: hds) l) : PS X (.Try body (h₀ :: hds) [] [] pos) (fun D σ H => tb (wMix X.K i Wo D l) D σ H) := by
  constructor
  intro pins s0 σ0 H0 D I h
  have okX := I.ok
  have hfr : X.A.frames = some (X.env :: X.outer) := by rw [okX.frames, hst]
  have hloc : Loc X.env.scope n := .inl hl
  refine wpAny_Try_except ?_
  have go := hb (wMix X.K i Wo D l) (X.pn ++ pins) (fun e t₁ => wpAny (model X.prog X.w) X.A (noteFrame e X.env) (fun _ t₂ => wpAny (model X.prog X.w) X.A (setFlight e none) (fun _ t₃ =>
    wpAny (model X.prog X.w) X.A (handleBy e X.env (h₀ :: hds)) (SP X pins D) X.xe t₃) X.xe t₂) X.xe t₁) (fun u t' caught => ?_) PassesOwn.looking
  · refine wpAny_mono (go.run [] s0 σ0 H0 D (I.toTry _) h) (fun f t1 done => ?_) (fun e t1 z => z)
    match f, done with
    | .next, ⟨σ1, H1, J, q⟩ => exact wpAny_execs_nil ⟨σ1, H1, J.ofTry okX, q⟩
    | .brk, ⟨σ1, H1, J, q⟩ => exact ⟨σ1, H1, J.ofTry okX, q⟩
    | .cont, ⟨σ1, H1, J, q⟩ => exact ⟨σ1, H1, J.ofTry okX, q⟩
    | .ret u, ⟨v, σ1, H1, J, r, q⟩ => exact ⟨v, σ1, H1, J.ofTry okX, r, q⟩
  obtain ⟨a, B, sI, pins2, σ2, H2, cls, d, rfl, J0, nb, up, sky, na, os, ag, wish⟩ := caught
  have J : Inv X pins σ2 H2 sI := J0.ofTry okX
  have sky2 : Sky B (X.env :: X.outer) a (Zc cls d) X.env.locals t'.heap := by rw [← hst]; exact sky
  show wpAny (model X.prog X.w) X.A (noteFrame (.ref a) X.env) _ _ _
  refine Sky.land Zc.steady hfr hfr0 sky2 ?_
  intro h3 fl3 up3
  have J3 : Inv X pins σ2 H2 { t' with heap := h3 } := J.landed nb fl3.1 (up.trans up3) os ag
  obtain ⟨o3, vs3, at3, z3, d3⟩ := fl3.there
  have off : a ∉ frs (X.env :: X.outer) := by
    intro hm
    obtain ⟨_, o', e', hnf⟩ := fl3.2.2.1.mem hm
    rw [at3] at e'
    cases e'
    exact hnf _ d3
  have nL : a ≠ X.env.locals := by
    intro z
    exact off (List.mem_filterMap.mpr ⟨X.env, List.mem_cons_self, by rw [hfr0, z]⟩)
  have nF : a ∉ X.fs := by
    intro hm
    obtain ⟨e, he, q⟩ := List.mem_filterMap.mp hm
    exact off (List.mem_filterMap.mpr ⟨e, List.mem_cons_of_mem _ he, q⟩)
  have S3 := J3.suite at3 d3 na nL nF
  have clauses : ∀ (hs2 : List ExceptHandler) (l2 : List MClause), MixOk X n hs2 l2 → wMix X.K i Wo D l2 cls d σ2 H2 →
      wpAny (model X.prog X.w) X.A (handleBy (.ref a) X.env hs2) (SP X pins D) X.xe { t' with heap := h3 } := by
    intro hs2 l2 ok2
    induction ok2 with
    | nil =>
      intro wo
      refine wpAny_handleBy_nil ?_
      obtain ⟨_, _, _, oe, us, T, oT, ts2, at_, hz, hd, hT, hr⟩ := id fl3
      unfold PySem.passOn
      refine wpAny_bind (wpAny_field at_ hd hT ?_)
      rw [if_neg (show ¬ ((Value.ref T == Value.none) = true) by simp)]
      have out : wpAny (model X.prog X.w) X.A (setFlight (.ref a) X.env.frame) (fun _ t4 => wpAny (model X.prog X.w) X.A (throw (.ref a) : Sem Flow) (SP X pins D) X.xe t4) X.xe { t' with heap := h3 } := by
        rw [hfr0]
        refine HandSPX.setFlight_upZ fl3 ?_
        intro h4 hh4 up4
        refine wpAny_throw (tk _ _ ⟨a, B, sI, pins, σ2, H2, cls, d, rfl, J, nb, (up.trans up3).trans up4, .inr (.inr ?_), na, os, ag, wo⟩)
        rw [hst]
        exact hh4
      first
        | exact wpAny_bind (wpAny_pure (wpAny_bind out))
        | exact wpAny_bind out
    | @named x c ts b₀ rows np po hds2 l3 hc hsu more ih =>
      intro wsh
      obtain ⟨b, hb1, yes, no⟩ := wsh
      refine wpAny_handleBy_cons (codeAny_handlers_test ?_) (by intro q; cases q)
      have LT : PySem.W.Looks (model X.prog X.w) h3 (typeOf (.ref a)) cls := by
        intro A Q E s k q
        exact wpAny_typeOf_ref (k _ _ at3) (by rw [z3.1]; exact q)
      have LM := PySem.W.exm_one (M := model X.prog X.w) J3.kIn LT hb1
      have named : ∀ {Q : Value → Shared → Prop} {E : Value → Shared → Prop}, Q c { t' with heap := h3 } → wpAny (model X.prog X.w) (X.A.mark (some (.ref a))) (eval (.Name x np) X.env) Q E { t' with heap := h3 } := by
        intro Q E q
        obtain ⟨hg, hdb, hm | ⟨hm, hv, hnn⟩⟩ := hc
        · exact ld_glob (X := X.suite a ((a, o3) :: (X.pn ++ pins))) S3 hg hm q hdb
        · exact ld_blt (X := X.suite a ((a, o3) :: (X.pn ++ pins))) S3 hg hm hv q hnn hdb
      refine named (LM.here ?_)
      cases b with
      | false =>
        show wpAny _ X.A (handleBy (.ref a) X.env hds2) _ _ _
        exact ih (no rfl)
      | true =>
        refine codeAny_handlers_suite_as ?_
        refine HandSPX.lands_againZ fl3 ?_
        intro h4 fl4 up4
        have J4 : Inv X pins σ2 H2 { t' with heap := h4 } := J.landed nb fl4.1 ((up.trans up3).trans up4) os ag
        obtain ⟨o4, vs4, at4, z4, d4⟩ := fl4.there
        refine store_ok (X := X.suite a ((a, o4) :: (X.pn ++ pins))) (v := .ref a) (J4.suite at4 d4 na nL nF) hN hi hloc rfl (fun t5 S5 => ?_) (.inr hl)
        refine wpAny_mono ((hsu a o4 cls d (X.pn ++ pins) z4 ⟨_, d4⟩).run [] t5 _ H2 _ S5 (yes rfl a na)) (fun f t6 done => ?_) (fun _ _ z => z.elim)
        have gone : ∀ {σ6 : L2.St} {H6 : Hp} {Q : Shared → Prop}, Inv (X.suite a ((a, o4) :: (X.pn ++ pins))) [] σ6 H6 t6 → (∀ t7, Inv X pins (σ6.set i none) H6 t7 → Q t7) →
            wpAny (model X.prog X.w) X.A (do bindName X.env n .none; unbindBehindTheSuite X.env n po) (fun _ t7 => Q t7) X.xe t6 := by
          intro σ6 H6 Q S6 hq
          exact gone_ok (S6.unsuite okX) hN hi hl hq
        match f, done with
        | .next, ⟨σ6, H6, S6, q6⟩ => exact gone S6 fun t7 J7 => ⟨_, _, J7, q6⟩
        | .brk, ⟨σ6, H6, S6, q6⟩ => exact gone S6 fun t7 J7 => ⟨_, _, J7, q6⟩
        | .cont, ⟨σ6, H6, S6, q6⟩ => exact gone S6 fun t7 J7 => ⟨_, _, J7, q6⟩
        | .ret u, ⟨v6, σ6, H6, S6, r6, q6⟩ => exact gone S6 fun t7 J7 => ⟨_, _, _, J7, r6, q6⟩
    | @plain x c ts b₀ rows np po hds2 l3 hc hsu more ih =>
      intro wsh
      obtain ⟨b, hb1, yes, no⟩ := wsh
      refine wpAny_handleBy_cons (codeAny_handlers_test ?_) (by intro q; cases q)
      have LT : PySem.W.Looks (model X.prog X.w) h3 (typeOf (.ref a)) cls := by
        intro A Q E s k q
        exact wpAny_typeOf_ref (k _ _ at3) (by rw [z3.1]; exact q)
      have LM := PySem.W.exm_one (M := model X.prog X.w) J3.kIn LT hb1
      have named : ∀ {Q : Value → Shared → Prop} {E : Value → Shared → Prop}, Q c { t' with heap := h3 } → wpAny (model X.prog X.w) (X.A.mark (some (.ref a))) (eval (.Name x np) X.env) Q E { t' with heap := h3 } := by
        intro Q E q
        obtain ⟨hg, hdb, hm | ⟨hm, hv, hnn⟩⟩ := hc
        · exact ld_glob (X := X.suite a ((a, o3) :: (X.pn ++ pins))) S3 hg hm q hdb
        · exact ld_blt (X := X.suite a ((a, o3) :: (X.pn ++ pins))) S3 hg hm hv q hnn hdb
      refine named (LM.here ?_)
      cases b with
      | false =>
        show wpAny _ X.A (handleBy (.ref a) X.env hds2) _ _ _
        exact ih (no rfl)
      | true =>
        refine codeAny_handlers_suite ?_
        refine HandSPX.lands_againZ fl3 ?_
        intro h4 fl4 up4
        have J4 : Inv X pins σ2 H2 { t' with heap := h4 } := J.landed nb fl4.1 ((up.trans up3).trans up4) os ag
        obtain ⟨o4, vs4, at4, z4, d4⟩ := fl4.there
        refine wpAny_mono ((hsu a o4 cls d (X.pn ++ pins) z4 ⟨_, d4⟩).run [] _ _ H2 _ (J4.suite at4 d4 na nL nF) (yes rfl a na)) (fun f t6 done => ?_) (fun _ _ z => z.elim)
        match f, done with
        | .next, ⟨σ6, H6, S6, q6⟩ => exact ⟨_, _, S6.unsuite okX, q6⟩
        | .brk, ⟨σ6, H6, S6, q6⟩ => exact ⟨_, _, S6.unsuite okX, q6⟩
        | .cont, ⟨σ6, H6, S6, q6⟩ => exact ⟨_, _, S6.unsuite okX, q6⟩
        | .ret u, ⟨v6, σ6, H6, S6, r6, q6⟩ => exact ⟨_, _, _, S6.unsuite okX, r6, q6⟩
  exact clauses _ _ hh wish
end
end Gd

set_option Elab.async false
set_option linter.all false
set_option maxRecDepth 100000
set_option maxHeartbeats 4000000
/-! A def whose code object is known. -/
namespace Gd
open PySem PySem.Spec PyProof.Rows L2
section
variable {P : Program} {w : World} {K : PySem.W.Frag} {mg : Str → Option Value} {base : Heap} {CX : CXT} {k : Nat}
  {f c : Addr} {fd : FuncData} {ps : List Str} {sp : Sp}
theorem fnGc {x qual : Str} {st : Stmt} {N : List Str} (F : Fun K x qual st f fd) (hc : fd.code = .ref c) (S : FnScope N ps (defScope st))
    (many : ∀ vs H Q E, sp vs H Q E → vs.length = ps.length)
    (body : ∀ (A : Around) (out : List Env) (s : Shared) (H : Hp) (vs : List V) (Q : VK) (E : XK),
      NoG A → Room k (A.deeper (envOfC qual (defScope st) s.heap.objs.size f (.ref c))) → sp vs H Q E →
      ∃ t, PSs (cxOf CX P w K mg base N qual (defScope st) f (.ref c) A out s H E) (defBody st) t ∧
        t { nx := fun _ H' => Q .non H', rt := Q } (start N vs) H) :
    FnG P w K mg base CX (k + 1) f fd ps sp := by
  obtain ⟨oc, od, kV, doc, pm, an, cdv, ct, osl, rfl, lk, hcd⟩ := F.ex
  obtain rfl : cdv = .ref c := hc
  refine ⟨many, ?_⟩
  intro A out s H ar us vs Q E hg hr e0 hb r hsp
  have hl := many vs H Q E hsp
  have KX : K.In s.heap := e0.mod.kin.keeps (fun b o e => (e0.bs b o e).1)
  have lim : s.heap.NoLimit := e0.mod.nolimit.keeps (fun b o e => (e0.bs b o e).1)
  have kinds : ∀ y ∈ ps.zip us, (defScope st).names.lookup y.1 = some .local ∨
      ((defScope st).names.lookup y.1 = some .cell ∧ ((cellsFrom (s.heap.objs.size + 1) (defScope st).names []).lookup y.1).isSome = true) := by
    rintro ⟨n, v⟩ hy
    rcases S.par n (List.of_mem_zip hy).1 with q | q
    · exact Or.inl q
    · exact Or.inr ⟨q, PySem.W.cellsFrom_some _ _ _ (Or.inl q)⟩
  refine codeAny_call_function hr.depth (KX _ _ lk) rfl S.co S.gen rfl
    (PySem.W.codeRec_of KX hcd) (hb _ _ _ _ ?_)
  refine wpAny_newFunctionEnv_cells S.kind kinds ?_
  intro env he s1 x
  cases he
  refine ⟨lim.keeps x.toInCall.keep, codeAny_func ?_⟩
  obtain ⟨t, ht, hq⟩ := body A out s H vs Q E hg (hr.deeper _) hsp
  have I := inv_start (CX := CX) (E := E) S hr.hd e0 hl r x
  refine wpAny_mono (ht.run [] s1 (start N vs) H _ I hq) ?_ (fun e s' hs => hs)
  intro fl s' hs
  have fin : ∀ {σ' : L2.St} {H' : Hp} {v : V} {u : Value},
      Inv (cxOf CX P w K mg base N qual (defScope st) f (.ref c) A out s H E) [] σ' H' s' →
      RelV v u → Q v H' → CE out P w H s Q u s' := by
    intro σ' H' v u J rv q
    exact ⟨v, H', J.os, J.bare, J.base, J.hok, rv, q⟩
  cases fl with
  | ret u =>
    obtain ⟨v, σ', H', J, rv, q⟩ := hs
    exact fin J rv q
  | next =>
    obtain ⟨σ', H', J, q⟩ := hs
    exact fin (v := V.non) (u := Value.none) J rfl q
  | brk =>
    obtain ⟨σ', H', J, q⟩ := hs
    exact False.elim q
  | cont =>
    obtain ⟨σ', H', J, q⟩ := hs
    exact False.elim q
end
end Gd

set_option Elab.async false
set_option linter.all false
set_option maxRecDepth 100000
set_option maxHeartbeats 4000000
/-! The end of a law with tables of code objects, whose promise is kept where no container is being shown. -/
namespace Gd
open PySem PySem.Spec PyProof.Rows L2 LamX
section
variable {P : Program} {w : World} {K : PySem.W.Frag} {mg mb : Str → Option Value} {CX : CXT} {k : Nat} {fa a : Addr} {cs : List (Addr × Addr)}
  {fd : FuncData} {x : Str} {sp : Sp} {s₁ : Shared} {vs : List Value} {ns : List Int}
/-- an object that is neither a sequence nor an empty record is not tracked where only the script and the tables are -/
theorem untracked {H : Hp} {h : Heap} {b : Addr} {o : Obj} (ha : h.get? a = some { cls := .type "list", data := .seq vs.toArray }) (isT : ∀ b : Addr, b ∈ cs.map (·.2) → h.get? b = some { cls := .none, data := .fields #[] })
    (hA : ∀ b, H b ≠ none → b = a ∨ b ∈ cs.map (·.2)) (e : h.get? b = some o) (h1 : ∀ us n, o.data ≠ .seq us n) (h2 : o.data ≠ .fields #[]) : H b = none := by
  cases q : H b with
  | none => rfl
  | some u =>
    exfalso
    rcases hA b (by rw [q]; simp) with z | z
    · rw [z, ha] at e
      cases e
      exact h1 _ _ rfl
    · rw [isT b z] at e
      cases e
      exact h2 rfl
theorem coreGT (KX : K.In s₁.heap) (hns : s₁.heap.Ns mainGlobals mg) (hb : s₁.heap.Ns builtinsNs mb) (hbb : ∀ x : Str, x ≠ "__name__" → mb x = bootBuiltins x) (hlim : s₁.heap.NoLimit) (hg : s₁.gens = #[])
    (hT : ∀ p ∈ cs, s₁.heap.get? p.2 = some { cls := .none, data := .fields #[] }) (nT : ∀ p ∈ cs, K.lookup p.2 = none) (C : ∀ p ∈ cs, PySem.W.CodeHd s₁.heap p.1 p.2)
    (hbm : ∃ (bm : Addr) (ob : Obj), mg "__builtins__" = some (.ref bm) ∧ bm ≠ builtinsNs ∧ s₁.heap.get? bm = some ob ∧ ob.cls = .type "module" ∧ ob.dict = some builtinsNs ∧ ob.data = .plain)
    (ha : s₁.heap.get? a = some { cls := .type "list", data := .seq vs.toArray }) (hr : Room k callerA)
    (F : ∀ base : Heap, K.In base → base.Ns mainGlobals mg → (∀ p ∈ cs, TabB base mg p.1 p.2) → FnG P w K mg base CX k fa fd [x] sp) (hbind : ∀ (s : Shared) (u : Value), BindsTo s fd ⟨[u], []⟩ [(x, u)])
    (hCX : ∀ H e s', CX [] H s₁ (fun _ _ _ => False) e s' → False)
    (H : Hp) (hH : ∀ p ∈ cs, H p.2 = some (.tbl #[])) (hO : ∀ b, H b = none ∨ b ∈ cs.map (·.2) ∨ ∃ o xs, H b = some (.frz o (.lst xs))) (hsp : sp [.ref a] H (fun v _ => v = .bl true) fun _ _ _ => False)
    (hok : HOk P w H s₁.heap) (hA : ∀ b, H b ≠ none → b = a ∨ b ∈ cs.map (·.2)) (hK : H a ≠ none → K.lookup a = none) :
    codeAny (model P w) callerA (.call (.ref fa) ⟨[.ref a], []⟩) (fun r s' => r = .ok (.ret (.bool true)) ∧ OldK s₁.heap s'.heap ∧ s'.os = s₁.os ∧ AllBare s'.gens) s₁ := by
  have isT : ∀ b : Addr, b ∈ cs.map (·.2) → s₁.heap.get? b = some { cls := .none, data := .fields #[] } := by
    intro b m
    obtain ⟨p, hp, rfl⟩ := List.mem_map.mp m
    exact hT p hp
  have old : ∀ {b : Addr} {o : Obj}, s₁.heap.get? b = some o → H b = none → (hidT s₁.heap H).get? b = some o := by
    intro b o e n
    exact hidT_get e n
  have un0 : ∀ {b : Addr} {o : Obj}, s₁.heap.get? b = some o → (∀ us n, o.data ≠ .seq us n) → o.data ≠ .fields #[] → H b = none := by
    intro b o e h1 h2
    exact untracked ha isT hA e h1 h2
  have nsOf : ∀ {b : Addr} {m : Str → Option Value}, s₁.heap.Ns b m → (hidT s₁.heap H).Ns b m := by
    rintro b m ⟨o, es, ep, e, d, r⟩
    refine ⟨o, es, ep, old e (un0 e ?_ ?_), d, r⟩
    · intro us n z
      rw [d] at z
      cases z
    · intro z
      rw [d] at z
      cases z
  have inB : K.In (hidT s₁.heap H) := by
    intro b o e
    refine old (KX b o e) ?_
    cases q : H b with
    | none => rfl
    | some u =>
      exfalso
      rcases hA b (by rw [q]; simp) with z | z
      · subst z
        rw [hK (by rw [q]; simp)] at e
        cases e
      · obtain ⟨p, hp, ep⟩ := List.mem_map.mp z
        rw [← ep, nT p hp] at e
        cases e
  obtain ⟨mc, l1, l2⟩ := hlim
  have hM : Mod K mg (hidT s₁.heap H) := ⟨inB, nsOf hns, ⟨mb, nsOf hb, hbb⟩, ⟨mc, nsOf l1, l2⟩⟩
  have TB : ∀ p ∈ cs, TabB (hidT s₁.heap H) mg p.1 p.2 := by
    intro p hp
    have at_ := hT p hp
    refine ⟨?_, ?_, ?_⟩
    · obtain ⟨o, us, file, tf, flags, tg, inF, text, tt, e1, r1, r2, r3, rest⟩ := C p hp
      refine ⟨o, us, file, tf, flags, tg, inF, text, tt, old e1 (un0 e1 ?_ ?_), r1, r2, r3, rest⟩
      · intro us n z
        rw [r2] at z
        cases z
      · intro z
        rw [r2] at z
        cases z
        simp at r3
    · obtain ⟨bm, ob, b1, b2, b3, b4, b5, b6⟩ := hbm
      refine ⟨bm, ob, b1, b2, ?_, ?_, old b3 (un0 b3 ?_ ?_), b4, b5, b6⟩
      · intro z
        obtain ⟨o, es, ep, e, d, _⟩ := hns
        subst z
        rw [e] at b3
        cases b3
        rw [d] at b6
        cases b6
      · intro z
        subst z
        rw [at_] at b3
        cases b3
        cases b6
      · intro us n z
        rw [b6] at z
        cases z
      · intro z
        rw [b6] at z
        cases z
    · intro z
      obtain ⟨o, es, ep, e, d, _⟩ := hns
      rw [z, at_] at e
      cases e
      cases d
  have e0 : Env0 P w K mg (hidT s₁.heap H) callerA [] s₁ H := by
    refine ⟨rfl, hM, ?_, Nat.le_of_eq (hidT_size _ _), trivial, ?_, hok, .of_eq hg⟩
    · intro b o e
      exact of_hidT e
    · intro b z
      exact absurd (show b ∈ ([] : List Addr) from z) (by simp)
  have run := (F _ inB (nsOf hns) TB).go callerA [] s₁ H ⟨[.ref a], []⟩ [.ref a] [.ref a] _ _ rfl hr e0 (hbind s₁ (.ref a)) (.cons rfl .nil) hsp
  refine codeAny_mono run ?_
  intro r s' h
  match r, h with
  | .error e, h => exact (hCX H e s' h).elim
  | .ok .next, h => exact False.elim h
  | .ok .brk, h => exact False.elim h
  | .ok .cont, h => exact False.elim h
  | .ok (.ret u), h =>
    obtain ⟨v, H', os, bare, un, hok', rv, q⟩ := h
    obtain rfl : v = .bl true := q
    obtain rfl : u = Value.bool true := rv
    have stays : ∀ b o, b ∉ cs.map (·.2) → s₁.heap.get? b = some o → s'.heap.get? b = some o := by
      intro b o nb e
      cases q : H b with
      | none => exact un.keep b o e q (fun z => absurd (show b ∈ ([] : List Addr) from z) (by simp)) (by simp)
      | some u =>
        rcases hO b with z | z | ⟨ob, xs, z⟩
        · rw [q] at z
          cases z
        · exact absurd z nb
        · obtain ⟨e1, _⟩ := hok b _ z
          obtain ⟨e2, _⟩ := hok' b _ (un.frzs b ob _ z)
          rw [e] at e1
          cases e1
          exact e2
    have more_ : ∀ p ∈ cs, ∃ more : Array Value, s'.heap.get? p.2 = some { cls := .none, data := .fields more } := by
      intro p hp
      obtain ⟨more, z⟩ := un.tbls p.2 #[] (hH p hp)
      exact ⟨_, hok' p.2 _ z⟩
    refine ⟨rfl, ⟨?_, ?_⟩, os, bare⟩
    · intro b o e
      by_cases m : b ∈ cs.map (·.2)
      · obtain ⟨p, hp, ep⟩ := List.mem_map.mp m
        subst ep
        obtain ⟨more, g⟩ := more_ p hp
        rw [hT p hp] at e
        cases e
        exact .inr (.inl ⟨((C p hp).tab (hT p hp)).isCodeTable, rfl, #[], more, rfl, by rw [Array.empty_append]; exact g⟩)
      · exact .inl (stays b o m e)
    · intro b o e
      by_cases m : b ∈ cs.map (·.2)
      · obtain ⟨p, hp, ep⟩ := List.mem_map.mp m
        subst ep
        obtain ⟨more, g⟩ := more_ p hp
        exact ⟨_, g⟩
      · exact ⟨o, stays b o m e⟩
theorem law_callGT (KX : K.In s₁.heap) (hns : s₁.heap.Ns mainGlobals mg) (hb : s₁.heap.Ns builtinsNs mb) (hbb : ∀ x : Str, x ≠ "__name__" → mb x = bootBuiltins x) (hlim : s₁.heap.NoLimit) (hg : s₁.gens = #[])
    (hT : ∀ p ∈ cs, s₁.heap.get? p.2 = some { cls := .none, data := .fields #[] }) (nT : ∀ p ∈ cs, K.lookup p.2 = none) (C : ∀ p ∈ cs, PySem.W.CodeHd s₁.heap p.1 p.2)
    (hbm : ∃ (bm : Addr) (ob : Obj), mg "__builtins__" = some (.ref bm) ∧ bm ≠ builtinsNs ∧ s₁.heap.get? bm = some ob ∧ ob.cls = .type "module" ∧ ob.dict = some builtinsNs ∧ ob.data = .plain)
    (ha : s₁.heap.get? a = some { cls := .type "list", data := .seq vs.toArray }) (hi : IntsAre vs ns) (hl : ns.length ≤ sizeLine) (hr : Room k callerA)
    (F : ∀ base : Heap, K.In base → base.Ns mainGlobals mg → (∀ p ∈ cs, TabB base mg p.1 p.2) → FnG P w K mg base CX k fa fd [x] sp) (hbind : ∀ (s : Shared) (u : Value), BindsTo s fd ⟨[u], []⟩ [(x, u)])
    (hsp : ∀ H : Hp, (∀ p ∈ cs, H p.2 = some (.tbl #[])) → (∀ b, H b = none ∨ b ∈ cs.map (·.2) ∨ ∃ o xs, H b = some (.frz o (.lst xs))) → SqL K H a (ns.map V.int) → sp [.ref a] H (fun v _ => v = .bl true) fun _ _ _ => False)
    (hCX : ∀ H e s', CX [] H s₁ (fun _ _ _ => False) e s' → False) :
    codeAny (model P w) callerA (.call (.ref fa) ⟨[.ref a], []⟩) (fun r s' => r = .ok (.ret (.bool true)) ∧ OldK s₁.heap s'.heap ∧ s'.os = s₁.os ∧ AllBare s'.gens) s₁ := by
  have rv := vals_ints hi
  have lenV := hi.length
  have isT : ∀ b : Addr, b ∈ cs.map (·.2) → s₁.heap.get? b = some { cls := .none, data := .fields #[] } := by
    intro b m
    obtain ⟨p, hp, rfl⟩ := List.mem_map.mp m
    exact hT p hp
  have aT : a ∉ cs.map (·.2) := by
    intro z
    have q := isT a z
    rw [ha] at q
    cases (congrArg Obj.data (Option.some.inj q) : Data.seq vs.toArray _ = Data.fields #[])
  have inT : ∀ p ∈ cs, p.2 ∈ cs.map (·.2) := by
    intro p hp
    exact List.mem_map.mpr ⟨p, hp, rfl⟩
  cases hk : K.lookup a with
  | some o =>
    have e := KX a o hk
    rw [ha] at e
    cases e
    obtain ⟨H, eH⟩ : ∃ H : Hp, H = fun b => if b ∈ cs.map (·.2) then some (.tbl #[]) else none := ⟨_, rfl⟩
    have yes : ∀ b, b ∈ cs.map (·.2) → H b = some (.tbl #[]) := fun b m => by rw [eH]; exact if_pos m
    have no : ∀ b, b ∉ cs.map (·.2) → H b = none := fun b m => by rw [eH]; exact if_neg m
    clear eH
    have hO : ∀ b, H b = none ∨ b ∈ cs.map (·.2) ∨ ∃ o xs, H b = some (.frz o (.lst xs)) := fun b => by
      by_cases m : b ∈ cs.map (·.2)
      · exact .inr (.inl m)
      · exact .inl (no b m)
    refine coreGT KX hns hb hbb hlim hg hT nT C hbm ha hr F hbind hCX H (fun p hp => yes _ (inT p hp)) hO (hsp H (fun p hp => yes _ (inT p hp)) hO ?_) ?_ ?_ (fun z => absurd (no a aT) z)
    · exact .inr ⟨_, vs.toArray, _, hk, rfl, rfl, rfl, by rw [List.size_toArray, lenV]; exact hl, by simpa using rv⟩
    · intro b u z
      by_cases m : b ∈ cs.map (·.2)
      · rw [yes b m] at z
        cases z
        exact isT b m
      · rw [no b m] at z
        cases z
    · intro b z
      by_cases m : b ∈ cs.map (·.2)
      · exact .inr m
      · exact absurd (no b m) z
  | none =>
    obtain ⟨H, eH⟩ : ∃ H : Hp, H = fun b => if b = a then some (.frz { cls := .type "list", data := .seq vs.toArray } (.lst (ns.map V.int))) else if b ∈ cs.map (·.2) then some (.tbl #[]) else none := ⟨_, rfl⟩
    have own : H a = some (.frz { cls := .type "list", data := .seq vs.toArray } (.lst (ns.map V.int))) := by rw [eH]; exact if_pos rfl
    have yes : ∀ b, b ∈ cs.map (·.2) → H b = some (.tbl #[]) := fun b m => by
      rw [eH]
      exact (if_neg (fun z : b = a => aT (by rw [← z]; exact m))).trans (if_pos m)
    have no : ∀ b, b ≠ a → b ∉ cs.map (·.2) → H b = none := fun b n m => by
      rw [eH]
      exact (if_neg n).trans (if_neg m)
    clear eH
    have hO : ∀ b, H b = none ∨ b ∈ cs.map (·.2) ∨ ∃ o xs, H b = some (.frz o (.lst xs)) := fun b => by
      by_cases n : b = a
      · subst n
        exact .inr (.inr ⟨_, _, own⟩)
      · by_cases m : b ∈ cs.map (·.2)
        · exact .inr (.inl m)
        · exact .inl (no b n m)
    refine coreGT KX hns hb hbb hlim hg hT nT C hbm ha hr F hbind hCX H (fun p hp => yes _ (inT p hp)) hO (hsp H (fun p hp => yes _ (inT p hp)) hO ?_) ?_ ?_ (fun _ => hk)
    · exact .inl (.inr ⟨{ cls := .type "list", data := .seq vs.toArray }, own⟩)
    · intro b u z
      by_cases n : b = a
      · subst n
        rw [own] at z
        cases z
        exact ⟨ha, by rw [List.length_map]; exact hl, vs, _, rv, ha⟩
      · by_cases m : b ∈ cs.map (·.2)
        · rw [yes b m] at z
          cases z
          exact isT b m
        · rw [no b n m] at z
          cases z
    · intro b z
      by_cases n : b = a
      · exact .inl n
      · by_cases m : b ∈ cs.map (·.2)
        · exact .inr m
        · exact absurd (no b n m) z
end
/-- what is known of the law's promise at the head's heap -/
def LawG (l : PySem.W.OpenLaw) (w : World) (K : PySem.W.Frag) (CX : CXT) (k n : Nat) (x : Str) (mg : Str → Option Value) (fa : Addr) (h : Heap) : Prop :=
  ∃ (fd : FuncData) (cs : List (Addr × Addr)) (sp : Sp), (∀ p ∈ cs, h.get? p.2 = some { cls := .none, data := .fields #[] }) ∧ (∀ p ∈ cs, K.lookup p.2 = none) ∧ (∀ p ∈ cs, PySem.W.CodeHd h p.1 p.2) ∧
    (∀ (s : Shared) (u : Value), BindsTo s fd ⟨[u], []⟩ [(x, u)]) ∧
    (∀ (H : Hp) (a : Addr) (ns : List Int), ns.length ≤ n → (∀ z ∈ ns, Builtin.Int.intBits z ≤ 1048576) → (∀ p ∈ cs, H p.2 = some (.tbl #[])) → (∀ b, H b = none ∨ b ∈ cs.map (·.2) ∨ ∃ o xs, H b = some (.frz o (.lst xs))) → SqL K H a (ns.map V.int) →
      sp [.ref a] H (fun v _ => v = .bl true) fun _ _ _ => False) ∧
    ∀ base : Heap, K.In base → base.Ns mainGlobals mg → (∀ p ∈ cs, TabB base mg p.1 p.2) → FnG l.prog w K mg base CX k fa fd [x] sp
theorem walkGT {l : PySem.W.OpenLaw} {n k : Nat} {q : Program} {loose : List Str} {XP : (Str → Option Value) → Heap → Prop} {YP : World → Heap → Prop} {d : DefRec} {K : Params → PySem.W.Frag} {CX : World → CXT} {x : Str}
    (hn : l.most = some n) (hn2 : n ≤ sizeLine) (hdf : d.params.defaults = []) (hr : Room k callerA) (hY : ∀ (w : World) (h : Heap), YP w h → (K w.params).In h)
    (F : ∀ (w : World) (mg : Str → Option Value) (fa : Addr) (h : Heap), YP w h → (K w.params).In h → h.Ns mainGlobals mg → mg d.name = some (.ref fa) → LawG l w (K w.params) (CX w) k n x mg fa h)
    (hCX : ∀ (w : World) (H : Hp) (s : Shared) (e : Value) (s' : Shared), CX w [] H s (fun _ _ _ => False) e s' → False) :
    PySem.W.WalkO q loose XP YP l.row.toRowW d [] (fun f vs => PySem.call f vs) := by
  refine Att.attach_callB hn hdf ?_
  intro w s₀ s₁ mg mb fa o pm cd doc a vs ns G Y ho hd hcd hmg hobj hints hlen hbits hg
  obtain ⟨fd, cs, sp, hT, nT, C, hb, hsp, hF⟩ := F w mg fa _ Y (hY w _ Y) G.T.g hmg
  exact law_callGT (hY w _ Y) G.T.g G.T.b G.T.builtins G.T.nolimit hg hT nT C G.T.bmain hobj hints (Nat.le_trans hlen hn2) hr hF hb (fun H hH hO hS => hsp H a ns hlen hbits hH hO hS) fun H e s' => hCX w H s₁ e s'
end Gd

set_option Elab.async false
set_option linter.all false
set_option maxRecDepth 100000
set_option maxHeartbeats 4000000
/-! The text by places, and integers. -/
namespace K0
open PySem PySem.Spec PyProof.Rows L2 Gd
local macro_rules | `(tactic| walk_at "rd1") => `(tactic| first | with_reducible refine g_ret ?_ | with_reducible refine g_retN ?_ | with_reducible refine g_seq ?_ | with_reducible refine g_next ?_ | with_reducible refine g_drop ?_ | with_reducible refine g_asg ?_ | with_reducible refine g_name ?_ | with_reducible refine g_ifs ?_ | with_reducible refine g_test ?_ | with_reducible refine g_tb ?_ | with_reducible refine g_and ?_ | with_reducible refine g_or ?_ | with_reducible refine g_not ?_ | with_reducible refine g_andV ?_ | with_reducible refine g_orV ?_ | with_reducible refine g_notV ?_ | with_reducible refine g_if ?_ | with_reducible refine g_op ?_ | with_reducible refine g_un ?_ | with_reducible refine g_cb ?_ | with_reducible refine g_nil ?_ | with_reducible refine g_cons ?_ | with_reducible refine g_call ?_ | with_reducible refine g_callS ?_ | with_reducible refine g_tup ?_ | with_reducible refine g_lst ?_ | with_reducible refine g_isN ?_ | with_reducible refine g_sl ?_ | with_reducible refine g_nopart ?_ | with_reducible refine g_part ?_ | with_reducible refine g_chain ?_ | with_reducible refine g_fld ?_ | with_reducible refine g_prop ?_ | with_reducible refine g_bm ?_ | with_reducible refine g_bm0 ?_ | with_reducible refine g_c ?_ | with_reducible refine g_sub ?_ | with_reducible refine g_int1 ?_ | with_reducible refine g_int2 ?_ | with_reducible refine g_yes ?_ | with_reducible refine g_sfld ?_ | with_reducible refine g_NT ?_ | with_reducible refine g_NF ?_ | with_reducible refine iteT ?_ | with_reducible refine iteF ?_ | ((with_reducible refine' g_aug ?hv ?_); (case hv => exact rfl)) | ((with_reducible refine' g_var ?hv ?_); (case hv => exact rfl)) | with_reducible refine g_I0 ?_ | with_reducible refine g_U ?_ | with_reducible refine g_eqI ?_ | with_reducible refine g_blV ?_ | with_reducible refine g_inV ?_)
local macro_rules | `(tactic| walk_at "rd") => `(tactic| repeat walk_at "rd1")
def top (i : Nat) : Stmt := PySem.Challenge.pw_primekinds_k02_whole_divisions.main.body.getD i (.Pass ⟨0, 0, 0, 0⟩)
abbrev sWhole : Stmt := top 12
abbrev sInteger : Stmt := top 13
abbrev sIndex : Stmt := top 16
abbrev sTrimmed : Stmt := top 18
def cls (j : Nat) : Stmt := inClass (top 33) j

/-- what is known of the module's names -/
structure Txt (K : PySem.W.Frag) (mg : Str → Option Value) : Prop where
  isinstance : mg "isinstance" = none
  int : mg "int" = none
  bool : mg "bool" = none
  tuple : mg "tuple" = none
  list : mg "list" = none
  len : mg "len" = none
  all : mg "all" = none
  iter : mg "iter" = none
  bound : ∃ t, mg "BOUND" = some (.int (10 ^ 60) t)
  most : ∃ t, mg "MAX_FACTORS" = some (.int 400 t)

section
variable {P : Program} {w : World} {K : PySem.W.Frag} {mg : Str → Option Value} {base : Heap}

theorem dec_l {p q : Prop} [Decidable p] [Decidable q] (h : p) : decide (p ∧ q) = decide q := by simp [h]
theorem dec_n {p q : Prop} [Decidable p] [Decidable q] (h : ¬ p) : decide (p ∧ q) = false := by simp [h]
/-! ### is_whole -/
/-- whether a value is an integer other than True and False -/
def WholeB (K : PySem.W.Frag) (H : Hp) (x : V) (b : Bool) : Prop := ∃ t b1 b2, TyX K H x t ∧ PySem.W.kitOne K t (.type "int") = some b1 ∧
  PySem.W.kitOne K t (.type "bool") = some b2 ∧ b = (b1 && !b2)
theorem whole_int {H : Hp} {i : Int} : WholeB K H (.int i) true := ⟨_, true, false, .base (.int i), by kernel_rfl, by kernel_rfl, rfl⟩
theorem whole_bl {H : Hp} {b : Bool} : WholeB K H (.bl b) false := ⟨_, true, true, .base (.bl b), by kernel_rfl, by kernel_rfl, rfl⟩
theorem whole_non {H : Hp} : WholeB K H .non false := ⟨_, false, false, .base .non, by kernel_rfl, by kernel_rfl, rfl⟩
theorem whole_str {H : Hp} {x : Str} : WholeB K H (.str x) false := ⟨_, false, false, .base (.str x), by kernel_rfl, by kernel_rfl, rfl⟩
theorem whole_tup {H : Hp} {a : Addr} {xs : List V} (h : H a = some (.tup xs)) : WholeB K H (.ref a) false := ⟨_, false, false, .base (.tup h), by kernel_rfl, by kernel_rfl, rfl⟩
def spWhole (K : PySem.W.Frag) : Sp := fun vs H Q _ => ∃ x b, vs = [x] ∧ WholeB K H x b ∧ Q (.bl b) H
theorem scWhole : FnScope ["value"] ["value"] (defScope sWhole) := ⟨rfl, rfl, rfl, by decide +kernel, rfl, by decide +kernel, by decide +kernel⟩
theorem ok_whole {f : Addr} {fd : FuncData} (F : Fun K "is_whole" "is_whole" sWhole f fd) (T : Txt K mg) : FnOk P w K mg base CX0 1 f fd ["value"] (spWhole K) := by
  refine F.ok scWhole (fun vs H Q E h => ?_) (fun cdv A outer s H vs Q E hr h => ?_)
  · obtain ⟨x, b, rfl, _⟩ := h
    rfl
  · obtain ⟨x, b, rfl, ⟨t, b1, b2, ty, k1, k2, rfl⟩, k⟩ := h
    refine ⟨_, pss_one (ps_ret (pe_and (pe_callB call_isi (by rfl) T.isinstance (by decide +kernel) (pa_cons (pv 0) (pa_cons (pe_bltn (v := .ty "int") (by rfl) T.int (by decide +kernel) rfl) pa_nil)))
      (pe_one (pe_not (pe_callB call_isi (by rfl) T.isinstance (by decide +kernel) (pa_cons (pv 0) (pa_cons (pe_bltn (v := .ty "bool") (by rfl) T.bool (by decide +kernel) rfl) pa_nil))))))), ?_⟩
    walk_at "rd"
    refine ⟨_, _, _, _, _, rfl, .ty _, ty, k1, ?_⟩
    walk_at "rd"
    refine ite2 (fun h1 => ?_) (fun h1 => ?_)
    · walk_at "rd"
      refine ⟨_, _, _, _, _, rfl, .ty _, ty, k2, ?_⟩
      walk_at "rd"
      rw [h1] at k
      exact k
    · rw [Bool.not_eq_true] at h1
      rw [h1] at k
      exact k

/-! ### is_integer -/
def IntB (K : PySem.W.Frag) (H : Hp) (x : V) (b : Bool) : Prop := (∃ i : Int, x = .int i ∧ b = decide (-(10 ^ 60) < i ∧ i < 10 ^ 60)) ∨ (WholeB K H x false ∧ b = false)
def spInteger (K : PySem.W.Frag) : Sp := fun vs H Q _ => ∃ x b, vs = [x] ∧ IntB K H x b ∧ Q (.bl b) H
theorem scInteger : FnScope ["value"] ["value"] (defScope sInteger) := ⟨rfl, rfl, rfl, by decide +kernel, rfl, by decide +kernel, by decide +kernel⟩
/-- where is_whole stands -/
structure AtW (K : PySem.W.Frag) (mg : Str → Option Value) (f : Addr) (fd : FuncData) : Prop where
  F : Fun K "is_whole" "is_whole" sWhole f fd
  b : Binds K fd ["value"] []
  g : mg "is_whole" = some (.ref f)
theorem ok_integer {f fW : Addr} {fd fdW : FuncData} (F : Fun K "is_integer" "is_integer" sInteger f fd) (T : Txt K mg) (W : AtW K mg fW fdW) : FnOk P w K mg base CX0 2 f fd ["value"] (spInteger K) := by
  have GW : FnOk P w K mg base CX0 1 fW fdW ["value"] (spWhole K) := ok_whole W.F T
  obtain ⟨tB, gB⟩ := T.bound
  refine F.ok scInteger (fun vs H Q E h => ?_) (fun cdv A outer s H vs Q E hr h => ?_)
  · obtain ⟨x, b, rfl, _⟩ := h
    rfl
  · obtain ⟨x, b, rfl, hx, k⟩ := h
    refine ⟨_, pss_one (ps_ret (pe_and (pe_call GW hr (by rfl) W.g W.F.kp W.b .nil pass0 (pa_cons (pv 0) pa_nil))
      (pe_one (pe_chain op_lt op_lt (pe_un un_neg (pe_glob (v := .int (10 ^ 60)) (by rfl) gB ⟨_, rfl⟩)) (pv 0) (pe_glob (v := .int (10 ^ 60)) (by rfl) gB ⟨_, rfl⟩))))), ?_⟩
    walk_at "rd"
    rcases hx with ⟨i, rfl, rfl⟩ | ⟨hx, rfl⟩
    · refine ⟨_, true, rfl, whole_int, ?_⟩
      walk_at "rd"
      try refine iteT ?_
      walk_at "rd"
      refine ite2 (fun h1 => ?_) (fun h1 => ?_)
      · walk_at "rd"
        have e : decide (-(10 ^ 60) < i ∧ i < 10 ^ 60) = decide (i < 10 ^ 60) := dec_l (of_decide_eq_true h1)
        rw [e] at k
        exact k
      · have h2 : ¬ (-(10 ^ 60) : Int) < i := fun z => h1 (decide_eq_true z)
        have e : decide (-(10 ^ 60) < i ∧ i < 10 ^ 60) = false := dec_n h2
        rw [e] at k
        exact k
    · refine ⟨_, false, rfl, hx, ?_⟩
      walk_at "rd"
      first | exact k | exact iteF k

/-! ### require_index -/
def IndexOk (K : PySem.W.Frag) (H : Hp) (x : V) (b : Bool) : Prop := (∃ i : Int, x = .int i ∧ b = decide (0 ≤ i ∧ i < 10 ^ 60)) ∨ (WholeB K H x false ∧ b = false)
def spIndex (K : PySem.W.Frag) (C : Addr) : Sp := fun vs H Q E => ∃ x b, vs = [x] ∧ IndexOk K H x b ∧ (b = true → Q .non H) ∧
  (b = false → ∀ d, H d = none → E (.ref C) (some d) (upd H d (.xd [(("value" : Str), x)])))
structure AtI (K : PySem.W.Frag) (mg : Str → Option Value) (f : Addr) (fd : FuncData) : Prop where
  F : Fun K "is_integer" "is_integer" sInteger f fd
  b : Binds K fd ["value"] []
  g : mg "is_integer" = some (.ref f)
theorem scIndex : FnScope ["value"] ["value"] (defScope sIndex) := ⟨rfl, rfl, rfl, by decide +kernel, rfl, by decide +kernel, by decide +kernel⟩
theorem ok_index {f fW fI C fC : Addr} {fd fdW fdI : FuncData} (F : Fun K "require_index" "require_index" sIndex f fd) (T : Txt K mg) (W : AtW K mg fW fdW) (I : AtI K mg fI fdI) (N : PySem.XInvalidNumber.InvalidNumberTxt K mg C fC) :
    FnOk P w K mg base (L2.CX P w) 4 f fd ["value"] (spIndex K C) := by
  have GI : FnOk P w K mg base CX0 2 fI fdI ["value"] (spInteger K) := ok_integer I.F T W
  refine F.okX scIndex (fun vs H Q E h => ?_) (fun cdv A outer s H vs Q E hr h => ?_)
  · obtain ⟨x, b, rfl, _⟩ := h
    rfl
  · obtain ⟨x, b, rfl, hx, k1, k2⟩ := h
    refine ⟨_, pss_one (ps_if (PW.pt (pw_or (pt_not (pt_val (pe_call GI (hr.mono (by decide)) (by rfl) I.g I.F.kp I.b .nil pass0 (pa_cons (pv 0) pa_nil)))) (pw_or1 (pt_cmpR op_lt (pv 0) pe_int (nomark _)))))
      (pss_one (ps_raiseInvalidNumber rfl N hr (takes_of rfl rfl rfl rfl) (by exact (pa_cons (pv 0) pa_nil)))) pss_nil), ?_⟩
    walk_at "rd"
    rcases hx with ⟨i, rfl, rfl⟩ | ⟨hx, rfl⟩
    · refine ⟨_, _, rfl, .inl ⟨i, rfl, rfl⟩, ?_⟩
      walk_at "rd"
      by_cases h1 : -(10 ^ 60) < i ∧ i < 10 ^ 60
      · rw [decide_eq_true h1]
        try refine iteF ?_
        walk_at "rd"
        by_cases h2 : i < 0
        · rw [decide_eq_true h2]
          try refine iteT ?_
          refine ⟨_, rfl, _, rfl, ?_⟩
          exact k2 (decide_eq_false (by omega))
        · rw [decide_eq_false h2]
          try refine iteF ?_
          exact k1 (decide_eq_true (by omega))
      · rw [decide_eq_false h1]
        iterate 2 (try refine iteT ?_)
        refine ⟨_, rfl, _, rfl, ?_⟩
        exact k2 (decide_eq_false (by omega))
    · refine ⟨_, _, rfl, .inr ⟨hx, rfl⟩, ?_⟩
      walk_at "rd"
      iterate 2 (try refine iteT ?_)
      refine ⟨_, rfl, _, rfl, ?_⟩
      exact k2 rfl
end
end K0

set_option Elab.async false
set_option linter.all false
set_option maxRecDepth 100000
set_option maxHeartbeats 4000000
/-! Rows without zeros at their end. -/
namespace K0
open PySem PySem.Spec PyProof.Rows L2 Gd
local macro_rules | `(tactic| walk_at "rd1") => `(tactic| first | with_reducible refine g_ret ?_ | with_reducible refine g_retN ?_ | with_reducible refine g_seq ?_ | with_reducible refine g_next ?_ | with_reducible refine g_drop ?_ | with_reducible refine g_asg ?_ | with_reducible refine g_name ?_ | with_reducible refine g_ifs ?_ | with_reducible refine g_test ?_ | with_reducible refine g_tb ?_ | with_reducible refine g_and ?_ | with_reducible refine g_or ?_ | with_reducible refine g_not ?_ | with_reducible refine g_andV ?_ | with_reducible refine g_orV ?_ | with_reducible refine g_notV ?_ | with_reducible refine g_if ?_ | with_reducible refine g_op ?_ | with_reducible refine g_un ?_ | with_reducible refine g_cb ?_ | with_reducible refine g_nil ?_ | with_reducible refine g_cons ?_ | with_reducible refine g_call ?_ | with_reducible refine g_callS ?_ | with_reducible refine g_tup ?_ | with_reducible refine g_lst ?_ | with_reducible refine g_isN ?_ | with_reducible refine g_sl ?_ | with_reducible refine g_nopart ?_ | with_reducible refine g_part ?_ | with_reducible refine g_chain ?_ | with_reducible refine g_fld ?_ | with_reducible refine g_prop ?_ | with_reducible refine g_bm ?_ | with_reducible refine g_bm0 ?_ | with_reducible refine g_c ?_ | with_reducible refine g_sub ?_ | with_reducible refine g_int1 ?_ | with_reducible refine g_int2 ?_ | with_reducible refine g_yes ?_ | with_reducible refine g_sfld ?_ | with_reducible refine g_NT ?_ | with_reducible refine g_NF ?_ | with_reducible refine iteT ?_ | with_reducible refine iteF ?_ | ((with_reducible refine' g_aug ?hv ?_); (case hv => exact rfl)) | ((with_reducible refine' g_var ?hv ?_); (case hv => exact rfl)) | with_reducible refine g_I0 ?_ | with_reducible refine g_U ?_ | with_reducible refine g_eqI ?_ | with_reducible refine g_blV ?_ | with_reducible refine g_inV ?_)
local macro_rules | `(tactic| walk_at "rd") => `(tactic| repeat walk_at "rd1")
/-! ### the mathematics -/
def trim : List Int → List Int
  | [] => []
  | x :: r => match trim r with
    | [] => if x = 0 then [] else [x]
    | y :: s => x :: y :: s
theorem trim_take : ∀ (ns : List Int) (e : Nat), e ≤ ns.length → (∀ j x, e ≤ j → ns[j]? = some x → x = 0) →
    (e = 0 ∨ ∃ x, ns[e - 1]? = some x ∧ x ≠ 0) → trim ns = ns.take e
  | [], e, h, _, _ => by
    have : e = 0 := Nat.le_zero.mp h
    subst this
    rfl
  | x :: r, 0, _, hz, _ => by
    have ih := trim_take r 0 (Nat.zero_le _) (fun j y _ e => hz (j + 1) y (Nat.zero_le _) e) (.inl rfl)
    have hx : x = 0 := hz 0 x (Nat.le_refl _) rfl
    unfold trim
    rw [ih]
    show (if x = 0 then [] else [x]) = []
    rw [if_pos hx]
  | x :: r, 1, _, hz, hl => by
    have ih := trim_take r 0 (Nat.zero_le _) (fun j y _ e => hz (j + 1) y (by omega) e) (.inl rfl)
    have hx : x ≠ 0 := by
      rcases hl with hl | ⟨y, e, hy⟩
      · cases hl
      · cases e
        exact hy
    unfold trim
    rw [ih]
    show (if x = 0 then [] else [x]) = [x]
    rw [if_neg hx]
  | x :: r, e + 2, h, hz, hl => by
    have hl' : e + 1 ≤ r.length := by simpa using h
    have ih := trim_take r (e + 1) hl' (fun j y g q => hz (j + 1) y (by omega) q) (.inr (by
      rcases hl with hl | ⟨y, q, hy⟩
      · cases hl
      · exact ⟨y, q, hy⟩))
    unfold trim
    rw [ih]
    cases r with
    | nil => simp at hl'
    | cons y s => rfl
theorem trim_len (ns : List Int) : (trim ns).length ≤ ns.length := by
  induction ns with
  | nil => exact Nat.le_refl _
  | cons x r ih =>
    unfold trim
    split
    · split <;> simp
    · rename_i y s e
      rw [e] at ih
      simp only [List.length_cons] at ih ⊢
      omega
theorem trim_mem (ns : List Int) : ∀ x ∈ trim ns, x ∈ ns := by
  induction ns with
  | nil => intro x h; exact h
  | cons y r ih =>
    intro x h
    unfold trim at h
    split at h
    · split at h
      · cases h
      · rcases List.mem_cons.mp h with rfl | h
        · exact List.mem_cons_self
        · cases h
    · rename_i z s e
      rw [e] at ih
      rcases List.mem_cons.mp h with rfl | h
      · exact List.mem_cons_self
      · exact List.mem_cons_of_mem _ (ih x h)

/-! ### trimmed -/
section
variable {P : Program} {w : World} {K : PySem.W.Frag} {mg : Str → Option Value} {base : Heap}
/-- the same things, all that was known is known still -/
def Ext (H H' : Hp) : Prop := ∀ b o, H b = some o → H' b = some o
theorem Ext.rfl' {H : Hp} : Ext H H := fun _ _ h => h
theorem Ext.new {H : Hp} {p : Addr} {o : HO} (h : H p = none) : Ext H (upd H p o) := fun b u e => by
  rw [upd_ne (ne_of_none e h)]
  exact e
theorem Ext.trans {H H1 H2 : Hp} (a : Ext H H1) (b : Ext H1 H2) : Ext H H2 := fun c o h => b c o (a c o h)
theorem mapget {ns : List Int} {i : Nat} : (ns.map V.int)[i]? = (ns[i]?).map V.int := List.getElem?_map
def spTrimmed (K : PySem.W.Frag) : Sp := fun vs H Q _ => ∃ (a : Addr) (ns : List Int), vs = [.ref a] ∧ SqT K H a (ns.map V.int) ∧ ns.length ≤ 100000 ∧
  ∀ H' u, Ext H H' → SqT K H' u ((trim ns).map V.int) → Q (.ref u) H'
/-- the measure: the int in a slot -/
def muI (i : Nat) : L2.St → Hp → Nat := fun σ _ => match σ[i]? with | some (some (.int e)) => e.toNat | _ => 0
def PvT (a : Addr) (H0 : Hp) (ns : List Int) : L2.St → Hp → Prop := fun σ H' => H' = H0 ∧ ∃ e : Nat, σ = [some (.ref a), some (.int (e : Int))] ∧ e ≤ ns.length ∧ ∀ j x, e ≤ j → ns[j]? = some x → x = 0
theorem scTrimmed : FnScope ["row", "end"] ["row"] (defScope sTrimmed) := ⟨rfl, rfl, rfl, by decide +kernel, rfl, by decide +kernel, by decide +kernel⟩
theorem ok_trimmed {f : Addr} {fd : FuncData} (F : Fun K "trimmed" "trimmed" sTrimmed f fd) (T : Txt K mg) : FnOk P w K mg base CX0 1 f fd ["row"] (spTrimmed K) := by
  refine F.ok scTrimmed (fun vs H Q E h => ?_) (fun cdv A outer s H vs Q E hr h => ?_)
  · obtain ⟨x, b, rfl, _⟩ := h
    rfl
  · obtain ⟨a, ns, rfl, hs, hl, k⟩ := h
    refine ⟨_, pss_cons (ps_set (i := 1) scTrimmed.nd rfl (Or.inl rfl) (pe_callB call_len_seq (by rfl) T.len PySem.boot_len (pa_cons (pv 0) pa_nil)))
      (pss_cons (ps_while PassesOwn.never (PW.pt (pw_and (pt_cmpR op_gt (pv 1) pe_int (nomark _)) (pw_and1 (pt_cmpR op_eq (pe_ix ix_tup (pv 0) (pe_op op_sub (pv 1) pe_int) (fun _ _ => rfl)) pe_int (nomark _)))))
          (pss_one (ps_aug (i := 1) scTrimmed.nd rfl (Or.inl rfl) pe_int ip_sub)))
        (pss_one (ps_ret (pe_callTy call_tupleT (by rfl) T.tuple (by decide +kernel) (pa_cons (pe_slice sl_tupA (pv 0) po_none (po_some (pv 1))) pa_nil))))), ?_⟩
    walk_at "rd"
    refine ⟨a, _, rfl, .inr hs, ?_⟩
    walk_at "rd"
    refine g_while (PvT a H ns) (muI 1) ⟨rfl, ns.length, by rw [List.length_map]; rfl, Nat.le_refl _, fun j x g e => by
        rw [List.getElem?_eq_none_iff.mpr g] at e
        cases e⟩ ?_
    rintro σ H' ⟨rfl, e, rfl, he, hz⟩
    walk_at "rd"
    have fin : (e = 0 ∨ ∃ x, ns[e - 1]? = some x ∧ x ≠ 0) → tRet (tCB (fun xs H Q => ∃ a ys, xs = [V.ref a] ∧ SqT K H a ys ∧ Q (V.ref a) H) (tCons (tSl (rSlA K) (tVar 0) tNoPart (tPart (tVar 1))) tNil))
        { nx := fun x H' => Q V.non H', rt := Q } [some (V.ref a), some (V.int (e : Int))] H' := by
      intro hl'
      have et := trim_take ns e he hz hl'
      walk_at "rd"
      have s1 : HT.sIx (ns.map V.int).length 0 none = 0 := rfl
      have s2 : HT.sIx (ns.map V.int).length (ns.map V.int).length (some (e : Int)) = e := by
        rw [HT.sIx_nat, List.length_map]
        omega
      refine ⟨a, _, rfl, hs, fun q => ?_, fun q p hp => ?_⟩
      · rw [s1, s2] at q
        have : trim ns = ns := by rw [et, List.take_of_length_le (by have := q.2; rw [List.length_map] at this; omega)]
        refine ⟨_, _, rfl, hs, k _ a Ext.rfl' ?_⟩
        rw [this]
        exact hs
      · refine ⟨_, _, rfl, SqT.of upd_same, k _ p (Ext.new hp) ?_⟩
        have ec : cutV (ns.map V.int) none (some (e : Int)) = (trim ns).map V.int := by
          unfold cutV
          rw [s1, s2, et, List.drop_zero, Nat.sub_zero, List.map_take]
        rw [← ec]
        exact SqT.of upd_same
    refine ite2 (fun h1 => ?_) (fun h1 => ?_)
    · have h1' : 0 < e := by
        have := of_decide_eq_true h1
        omega
      walk_at "rd"
      have hlt : e - 1 < ns.length := by omega
      have ge : (ns.map V.int)[e - 1]? = some (V.int ns[e - 1]) := by rw [mapget, List.getElem?_eq_getElem hlt]; rfl
      refine g_ixT hs (v := .int ns[e - 1]) ?_ ?_
      · have := atI_nat ge
        have q : ((e : Int) - 1) = ((e - 1 : Nat) : Int) := by omega
        rw [q]
        exact this
      walk_at "rd"
      refine ite2 (fun h2 => ?_) (fun h2 => ?_)
      · refine g_turn ?_
        walk_at "rd"
        refine ⟨_, _, rfl, rfl, ?_⟩
        refine ⟨⟨rfl, e - 1, ?_, by omega, fun j x g q => ?_⟩, ?_⟩
        · show [some (V.ref a), some (V.int ((e : Int) - 1))] = _
          have q : ((e : Int) - 1) = ((e - 1 : Nat) : Int) := by omega
          rw [q]
        · by_cases hj : j = e - 1
          · subst hj
            rw [List.getElem?_eq_getElem hlt] at q
            cases q
            exact of_decide_eq_true h2
          · exact hz j x (by omega) q
        · show ((e : Int) - 1).toNat < ((e : Int)).toNat
          omega
      · refine fin (.inr ⟨_, List.getElem?_eq_getElem hlt, fun z => h2 (decide_eq_true z)⟩)
    · refine iteF (fin (.inl ?_))
      have : ¬ (0 : Int) < (e : Int) := fun z => h1 (decide_eq_true z)
      omega
end
end K0

set_option Elab.async false
set_option linter.all false
set_option maxRecDepth 100000
set_option maxHeartbeats 4000000
/-! The class Poly. -/
namespace K0
open PySem PySem.Spec PyProof.Rows L2 Gd
local macro_rules | `(tactic| walk_at "rd1") => `(tactic| first | with_reducible refine g_ret ?_ | with_reducible refine g_retN ?_ | with_reducible refine g_seq ?_ | with_reducible refine g_next ?_ | with_reducible refine g_drop ?_ | with_reducible refine g_asg ?_ | with_reducible refine g_name ?_ | with_reducible refine g_ifs ?_ | with_reducible refine g_test ?_ | with_reducible refine g_tb ?_ | with_reducible refine g_and ?_ | with_reducible refine g_or ?_ | with_reducible refine g_not ?_ | with_reducible refine g_andV ?_ | with_reducible refine g_orV ?_ | with_reducible refine g_notV ?_ | with_reducible refine g_if ?_ | with_reducible refine g_op ?_ | with_reducible refine g_un ?_ | with_reducible refine g_cb ?_ | with_reducible refine g_nil ?_ | with_reducible refine g_cons ?_ | with_reducible refine g_call ?_ | with_reducible refine g_callS ?_ | with_reducible refine g_tup ?_ | with_reducible refine g_lst ?_ | with_reducible refine g_isN ?_ | with_reducible refine g_sl ?_ | with_reducible refine g_nopart ?_ | with_reducible refine g_part ?_ | with_reducible refine g_chain ?_ | with_reducible refine g_fld ?_ | with_reducible refine g_prop ?_ | with_reducible refine g_bm ?_ | with_reducible refine g_bm0 ?_ | with_reducible refine g_c ?_ | with_reducible refine g_sub ?_ | with_reducible refine g_int1 ?_ | with_reducible refine g_int2 ?_ | with_reducible refine g_yes ?_ | with_reducible refine g_sfld ?_ | with_reducible refine g_NT ?_ | with_reducible refine g_NF ?_ | with_reducible refine iteT ?_ | with_reducible refine iteF ?_ | ((with_reducible refine' g_aug ?hv ?_); (case hv => exact rfl)) | ((with_reducible refine' g_var ?hv ?_); (case hv => exact rfl)) | with_reducible refine g_I0 ?_ | with_reducible refine g_U ?_ | with_reducible refine g_eqI ?_ | with_reducible refine g_blV ?_ | with_reducible refine g_inV ?_)
local macro_rules | `(tactic| walk_at "rd") => `(tactic| repeat walk_at "rd1")
section
variable {P : Program} {w : World} {K : PySem.W.Frag} {mg : Str → Option Value} {base : Heap}
/-- the class at C -/
structure PC (K : PySem.W.Frag) (mg : Str → Option Value) (C : Addr) : Prop where
  cl : Cls K C
  noF : NoAttr K C "_factors"
  g : mg "Poly" = some (.ref C)
  kp : PySem.W.keepIn K (.ref C) = true
  ha : PySem.W.findIn K (.ref C) "__class__" = some (some (.builtin "object.__class__"))
  hn : PySem.W.specialIn K (.builtin "object.__class__") "__get__" = some (some (.builtin "getset_descriptor.__get__"))
  htk : PySem.W.takesIn K (.builtin "object.__class__") = some true
  hm : PySem.W.mroIn K C (.type "object") = some true
  kit : PySem.W.kitOne K (.ref C) (.ref C) = some true
  ne : NeC K C
theorem PC.ty {C : Addr} (T : PC K mg C) {H : Hp} {p dx : Addr} {fs : List (Str × V)} (h : H p = some (.ins C dx fs)) : TyX K H (.ref p) (.ref C) := .base (.ins h T.cl T.ha T.hn T.htk T.hm)
/-- a polynomial at p: its tuple at u has the factors ns -/
def PolyU (K : PySem.W.Frag) (C : Addr) (H : Hp) (p u : Addr) (ns : List Int) : Prop := (∃ dx, H p = some (.ins C dx [(("_factors" : Str), .ref u)])) ∧ SqT K H u (ns.map V.int) ∧ ns.length ≤ 100000
theorem sqT_ext {H H' : Hp} {a : Addr} {xs : List V} (e : Ext H H') (h : SqT K H a xs) : SqT K H' a xs := by
  rcases h with (h | ⟨o, h⟩) | h
  · exact .inl (.inl (e _ _ h))
  · exact .inl (.inr ⟨o, e _ _ h⟩)
  · exact .inr h
theorem sqL_ext {H H' : Hp} {a : Addr} {xs : List V} (e : Ext H H') (h : SqL K H a xs) : SqL K H' a xs := by
  rcases h with (h | ⟨o, h⟩) | h
  · exact .inl (.inl (e _ _ h))
  · exact .inl (.inr ⟨o, e _ _ h⟩)
  · exact .inr h
theorem PolyU.ext {C p u : Addr} {H H' : Hp} {ns : List Int} (e : Ext H H') (h : PolyU K C H p u ns) : PolyU K C H' p u ns := by
  obtain ⟨⟨dx, h1⟩, h2, h3⟩ := h
  exact ⟨⟨dx, e _ _ h1⟩, sqT_ext e h2, h3⟩
/-! ### __init__ -/
abbrev sInit : Stmt := cls 0
def ExtBut (p : Addr) (H H' : Hp) : Prop := ∀ b o, b ≠ p → H b = some o → H' b = some o
def Big (ns : List Int) : Prop := ∀ n ∈ ns, -(10 ^ 60) < n ∧ n < 10 ^ 60
def spInit (K : PySem.W.Frag) (C : Addr) : Sp := fun vs H Q _ => ∃ (p dx a : Addr) (ns : List Int), vs = [.ref p, .ref a] ∧ H p = some (.ins C dx []) ∧ SqT K H a (ns.map V.int) ∧ ns.length ≤ 400 ∧ Big ns ∧
  ∀ H' u, ExtBut p H H' → H' p = some (.ins C dx [(("_factors" : Str), .ref u)]) → SqT K H' u ((trim ns).map V.int) → Q .non H'
theorem scInit : FnScope ["self", "factors", "factor"] ["self", "factors"] (defScope sInit) := ⟨rfl, rfl, rfl, by decide +kernel, rfl, by decide +kernel, by decide +kernel⟩
structure AtT (K : PySem.W.Frag) (mg : Str → Option Value) (f : Addr) (fd : FuncData) : Prop where
  F : Fun K "trimmed" "trimmed" sTrimmed f fd
  b : Binds K fd ["row"] []
  g : mg "trimmed" = some (.ref f)
abbrev FnI (K : PySem.W.Frag) (t0 f : Addr) (fd : FuncData) : Prop := FunD K "__init__" "Poly.__init__" (defArgs sInit) (defBody sInit) (defScope sInit) [.ref t0] [] f fd
theorem ok_init {f fW fI fT C t0 : Addr} {fd fdW fdI fdT : FuncData} (F : FnI K t0 f fd) (T : Txt K mg) (Cl : PC K mg C) (W : AtW K mg fW fdW) (I : AtI K mg fI fdI) (R : AtT K mg fT fdT) :
    FnOk P w K mg base CX0 4 f fd ["self", "factors"] (spInit K C) := by
  have GI : FnOk P w K mg base CX0 2 fI fdI ["value"] (spInteger K) := ok_integer I.F T W
  have GT : FnOk P w K mg base CX0 1 fT fdT ["row"] (spTrimmed K) := ok_trimmed R.F T
  obtain ⟨tM, gM⟩ := T.most
  refine F.ok scInit (fun vs H Q E h => ?_) (fun cdv A outer s H vs Q E hr h => ?_)
  · obtain ⟨p, dx, a, ns, rfl, _⟩ := h
    rfl
  · obtain ⟨p, dx, a, ns, rfl, hp, hs, hl, hB, k⟩ := h
    refine ⟨_, PSs.nox (pss_cons (ps_if (PW.pt (pw_or (pt_not (pt_val (pe_callB call_isi (by rfl) T.isinstance (by decide +kernel) (pa_cons (pv 1) (pa_cons (pe_bltn (v := .ty "tuple") (by rfl) T.tuple (by decide +kernel) rfl) pa_nil)))))
        (pw_or1 (pt_cmpR op_gt (pe_callB call_len_seq (by rfl) T.len PySem.boot_len (pa_cons (pv 1) pa_nil)) (pe_glob (v := .int 400) (by rfl) gM ⟨_, rfl⟩) (nomark _))))) (pss_one ps_never) pss_nil)
      (pss_cons (ps_if (pt_not (pt_val (pe_callB (cr_all rfl) (by rfl) T.all (by decide +kernel) (pa_cons
          (pe_lc (own := [("factor", 2)]) (g := gName 2) (tt := tYes) rfl scInit.nd (pi_tup (pv 1)) (blkOk_by (N := ["self", "factors", "factor"]) (sc := defScope sInit) (by decide +kernel)) (fun _ _ _ _ _ => pg_name (i := 2) scInit.nd rfl (Or.inl rfl)) (fun _ _ _ _ _ => pts_nil)
            (fun _ _ _ _ _ => pe_call GI (hr.mono (by decide)) (by rfl) I.g I.F.kp I.b .nil pass0 (pa_cons (pv 2) pa_nil))) pa_nil)))) (pss_one ps_never) pss_nil)
        (pss_one (ps_fld (pv 0) (pe_call GT (hr.mono (by decide)) (by rfl) R.g R.F.kp R.b .nil pass0 (pa_cons (pv 1) pa_nil)) rfl)))), ?_⟩
    walk_at "rd"
    refine ⟨_, _, _, _, true, rfl, .ty _, tyT hs, by kernel_rfl, ?_⟩
    walk_at "rd"
    refine ⟨a, _, rfl, .inr hs, ?_⟩
    walk_at "rd"
    rw [decide_eq_false (by rw [List.length_map]; omega)]
    walk_at "rd"
    refine ⟨_, rfl, a, rfl, ⟨_, hs⟩, fun D hD => lc_tup (xs := ns.map V.int) (fun i H' => Ext H H' ∧ H' D = some (.lst ((ns.take i).map fun _ => V.bl true)))
      ⟨Ext.new hD, upd_same⟩ (fun i H' _ q => sqT_ext q.1 hs) ?_ ?_⟩
    · rintro i x H' hi ⟨e, hD'⟩
      rw [mapget] at hi
      obtain ⟨n, hn, rfl⟩ := Option.map_eq_some_iff.mp hi
      have hlt : i < ns.length := (List.getElem?_eq_some_iff.mp hn).1
      refine ⟨rfl, ?_⟩
      walk_at "rd"
      refine ⟨_, true, rfl, .inl ⟨n, rfl, (decide_eq_true (hB n (List.mem_of_getElem? hn))).symm⟩, _, hD', ?_, ?_, ?_⟩
      · rw [List.length_map, List.length_take, sizeLine_eq]
        omega
      · intro b o q
        rw [upd_ne (ne_of_none q hD)]
        exact e b o q
      · rw [upd_same, take_one hlt, List.map_append]
        rfl
    · rintro H' ⟨e, hD'⟩
      walk_at "rd"
      refine ⟨D, ns.map fun _ => true, rfl, SqL.of ?_, ?_⟩
      · rw [hD', List.length_map, List.take_length, List.map_map]
        rfl
      have all : (ns.map fun _ => true).all id = true := by simp
      rw [all]
      walk_at "rd"
      refine ⟨a, ns, rfl, sqT_ext e hs, by omega, ?_⟩
      intro H2 u e2 hu
      have hp2 : H2 p = some (.ins C dx []) := e2 _ _ (e _ _ hp)
      walk_at "rd"
      refine ⟨p, C, dx, [], rfl, hp2, Cl.cl, Cl.noF, by decide, ?_⟩
      refine k _ u ?_ upd_same ?_
      · intro b o hb q
        rw [upd_ne hb]
        exact e2 _ _ (e _ _ q)
      · rcases hu with (h | ⟨o, h⟩) | h
        · refine .inl (.inl ?_)
          rw [upd_ne (ne_of h hp2 (by intro z; cases z))]
          exact h
        · refine .inl (.inr ⟨o, ?_⟩)
          rw [upd_ne (ne_of h hp2 (by intro z; cases z))]
          exact h
        · exact .inr h
end
end K0

set_option Elab.async false
set_option linter.all false
set_option maxRecDepth 100000
set_option maxHeartbeats 4000000
/-! What a polynomial shows. -/
namespace K0
open PySem PySem.Spec PyProof.Rows L2 Gd
local macro_rules | `(tactic| walk_at "rd1") => `(tactic| first | with_reducible refine g_ret ?_ | with_reducible refine g_retN ?_ | with_reducible refine g_seq ?_ | with_reducible refine g_next ?_ | with_reducible refine g_drop ?_ | with_reducible refine g_asg ?_ | with_reducible refine g_name ?_ | with_reducible refine g_ifs ?_ | with_reducible refine g_test ?_ | with_reducible refine g_tb ?_ | with_reducible refine g_and ?_ | with_reducible refine g_or ?_ | with_reducible refine g_not ?_ | with_reducible refine g_andV ?_ | with_reducible refine g_orV ?_ | with_reducible refine g_notV ?_ | with_reducible refine g_if ?_ | with_reducible refine g_op ?_ | with_reducible refine g_un ?_ | with_reducible refine g_cb ?_ | with_reducible refine g_nil ?_ | with_reducible refine g_cons ?_ | with_reducible refine g_call ?_ | with_reducible refine g_callS ?_ | with_reducible refine g_tup ?_ | with_reducible refine g_lst ?_ | with_reducible refine g_isN ?_ | with_reducible refine g_sl ?_ | with_reducible refine g_nopart ?_ | with_reducible refine g_part ?_ | with_reducible refine g_chain ?_ | with_reducible refine g_fld ?_ | with_reducible refine g_prop ?_ | with_reducible refine g_bm ?_ | with_reducible refine g_bm0 ?_ | with_reducible refine g_c ?_ | with_reducible refine g_sub ?_ | with_reducible refine g_int1 ?_ | with_reducible refine g_int2 ?_ | with_reducible refine g_yes ?_ | with_reducible refine g_sfld ?_ | with_reducible refine g_NT ?_ | with_reducible refine g_NF ?_ | with_reducible refine iteT ?_ | with_reducible refine iteF ?_ | ((with_reducible refine' g_aug ?hv ?_); (case hv => exact rfl)) | ((with_reducible refine' g_var ?hv ?_); (case hv => exact rfl)) | with_reducible refine g_I0 ?_ | with_reducible refine g_U ?_ | with_reducible refine g_eqI ?_ | with_reducible refine g_blV ?_ | with_reducible refine g_inV ?_)
local macro_rules | `(tactic| walk_at "rd") => `(tactic| repeat walk_at "rd1")
section
variable {P : Program} {w : World} {K : PySem.W.Frag} {mg : Str → Option Value} {base : Heap}
theorem look1 {u : V} : ([(("_factors" : Str), u)] : List (Str × V)).lookup ("_factors" : Str) = some u := by simp [List.lookup]
/-! ### data -/
def idata (ns : List Int) : List PyData := ns.map PyData.int
theorem eqv_ints : ∀ (ns ms : List Int), PyData.eqvAll (idata ns) (idata ms) = decide (ns = ms)
  | [], [] => rfl
  | [], y :: s => by simp [idata, PyData.eqvAll]
  | x :: r, [] => by simp [idata, PyData.eqvAll]
  | x :: r, y :: s => by
    have ih := eqv_ints r s
    show (PyData.eqv (.int x) (.int y) && PyData.eqvAll (idata r) (idata s)) = _
    rw [ih]
    show ((x == y) && decide (r = s)) = _
    by_cases h : x = y
    · subst h
      by_cases g : r = s
      · subst g
        simp
      · simp [g]
    · simp [h]
theorem lay_ints : ∀ ns : List Int, PyData.canLayAll0 (idata ns) = true
  | [] => rfl
  | x :: r => by
    show (PyData.canLay0 (.int x) && PyData.canLayAll0 (idata r)) = true
    rw [lay_ints r]
    rfl
theorem deep_ints : ∀ ns : List Int, PyData.depthAll (idata ns) = 0
  | [] => rfl
  | x :: r => by
    show max (PyData.depth (.int x)) (PyData.depthAll (idata r)) = 0
    rw [deep_ints r]
    rfl
theorem dp_ints {H : Hp} : ∀ ns : List Int, DpAll K H (ns.map V.int) (idata ns)
  | [] => .nil
  | x :: r => .cons (.int x) (dp_ints r)
theorem dp_tup {H : Hp} {a : Addr} {ns : List Int} (h : SqT K H a (ns.map V.int)) : Dp K H (.ref a) (.tuple (idata ns)) := .tup h (dp_ints ns)
theorem shaped_tup (ns : List Int) : SeqAt.shaped (.tuple (idata ns)) = true := by
  unfold SeqAt.shaped
  rw [show PyData.canLay0 (.tuple (idata ns)) = PyData.canLayAll0 (idata ns) from rfl, lay_ints, show PyData.depth (.tuple (idata ns)) = PyData.depthAll (idata ns) + 1 from rfl, deep_ints]
  rfl
/-- a promise of a method without arguments: from the polynomial at p, its tuple at u, its factors ns, the answer v and nothing changed -/
def spGet (K : PySem.W.Frag) (C : Addr) (v : Addr → List Int → V) : Sp := fun vs H Q _ => ∃ (p u : Addr) (ns : List Int), vs = [.ref p] ∧ PolyU K C H p u ns ∧ Q (v u ns) H
theorem scS {j : Nat} (h : defScope (cls j) = defScope (cls 2)) : FnScope ["self"] ["self"] (defScope (cls j)) := by
  rw [h]
  exact ⟨rfl, rfl, rfl, by decide +kernel, rfl, by decide +kernel, by decide +kernel⟩
theorem sc2 : FnScope ["self"] ["self"] (defScope (cls 2)) := ⟨rfl, rfl, rfl, by decide +kernel, rfl, by decide +kernel, by decide +kernel⟩
theorem sc3 : FnScope ["self"] ["self"] (defScope (cls 3)) := ⟨rfl, rfl, rfl, by decide +kernel, rfl, by decide +kernel, by decide +kernel⟩
theorem sc15 : FnScope ["self", "index"] ["self", "index"] (defScope (cls 15)) := ⟨rfl, rfl, rfl, by decide +kernel, rfl, by decide +kernel, by decide +kernel⟩
theorem sc16 : FnScope ["self"] ["self"] (defScope (cls 16)) := ⟨rfl, rfl, rfl, by decide +kernel, rfl, by decide +kernel, by decide +kernel⟩
theorem sc17 : FnScope ["self"] ["self"] (defScope (cls 17)) := ⟨rfl, rfl, rfl, by decide +kernel, rfl, by decide +kernel, by decide +kernel⟩
theorem sc18 : FnScope ["self"] ["self"] (defScope (cls 18)) := ⟨rfl, rfl, rfl, by decide +kernel, rfl, by decide +kernel, by decide +kernel⟩
theorem sc19 : FnScope ["self", "other"] ["self", "other"] (defScope (cls 19)) := ⟨rfl, rfl, rfl, by decide +kernel, rfl, by decide +kernel, by decide +kernel⟩
variable {f C : Addr} {fd : FuncData}
theorem ok_factors (F : Fun K "factors" "Poly.factors" (cls 2) f fd) (Cl : PC K mg C) : FnOk P w K mg base CX0 1 f fd ["self"] (spGet K C fun u _ => .ref u) := by
  refine F.ok sc2 (fun vs H Q E h => ?_) (fun cdv A outer s H vs Q E hr h => ?_)
  · obtain ⟨p, u, ns, rfl, _⟩ := h
    rfl
  · obtain ⟨p, u, ns, rfl, ⟨⟨dx, hp⟩, hu, hl⟩, k⟩ := h
    refine ⟨_, pss_one (ps_ret (pe_fld (pv 0) rfl)), ?_⟩
    walk_at "rd"
    exact ⟨p, C, dx, _, _, rfl, hp, Cl.cl, Cl.noF, look1, k⟩
theorem ok_degree (F : Fun K "degree" "Poly.degree" (cls 3) f fd) (T : Txt K mg) (Cl : PC K mg C) : FnOk P w K mg base CX0 1 f fd ["self"] (spGet K C fun _ ns => .int ((ns.length : Int) - 1)) := by
  refine F.ok sc3 (fun vs H Q E h => ?_) (fun cdv A outer s H vs Q E hr h => ?_)
  · obtain ⟨p, u, ns, rfl, _⟩ := h
    rfl
  · obtain ⟨p, u, ns, rfl, ⟨⟨dx, hp⟩, hu, hl⟩, k⟩ := h
    refine ⟨_, pss_one (ps_ret (pe_op op_sub (pe_callB call_len_seq (by rfl) T.len PySem.boot_len (pa_cons (pe_fld (pv 0) rfl) pa_nil)) pe_int)), ?_⟩
    walk_at "rd"
    refine ⟨p, C, dx, _, _, rfl, hp, Cl.cl, Cl.noF, look1, ?_⟩
    walk_at "rd"
    refine ⟨u, _, rfl, .inr hu, ?_⟩
    walk_at "rd"
    rw [List.length_map]
    exact k
theorem ok_len (F : Fun K "__len__" "Poly.__len__" (cls 16) f fd) (T : Txt K mg) (Cl : PC K mg C) : FnOk P w K mg base CX0 1 f fd ["self"] (spGet K C fun _ ns => .int (ns.length : Int)) := by
  refine F.ok sc16 (fun vs H Q E h => ?_) (fun cdv A outer s H vs Q E hr h => ?_)
  · obtain ⟨p, u, ns, rfl, _⟩ := h
    rfl
  · obtain ⟨p, u, ns, rfl, ⟨⟨dx, hp⟩, hu, hl⟩, k⟩ := h
    refine ⟨_, pss_one (ps_ret (pe_callB call_len_seq (by rfl) T.len PySem.boot_len (pa_cons (pe_fld (pv 0) rfl) pa_nil))), ?_⟩
    walk_at "rd"
    refine ⟨p, C, dx, _, _, rfl, hp, Cl.cl, Cl.noF, look1, ?_⟩
    walk_at "rd"
    refine ⟨u, _, rfl, .inr hu, ?_⟩
    rw [List.length_map]
    exact k
theorem ok_bool (F : Fun K "__bool__" "Poly.__bool__" (cls 17) f fd) (T : Txt K mg) (Cl : PC K mg C) : FnOk P w K mg base CX0 1 f fd ["self"] (spGet K C fun _ ns => .bl (decide (0 < (ns.length : Int)))) := by
  refine F.ok sc17 (fun vs H Q E h => ?_) (fun cdv A outer s H vs Q E hr h => ?_)
  · obtain ⟨p, u, ns, rfl, _⟩ := h
    rfl
  · obtain ⟨p, u, ns, rfl, ⟨⟨dx, hp⟩, hu, hl⟩, k⟩ := h
    refine ⟨_, pss_one (ps_ret (pe_cmpR op_gt (pe_callB call_len_seq (by rfl) T.len PySem.boot_len (pa_cons (pe_fld (pv 0) rfl) pa_nil)) pe_int (nomark _))), ?_⟩
    walk_at "rd"
    refine ⟨p, C, dx, _, _, rfl, hp, Cl.cl, Cl.noF, look1, ?_⟩
    walk_at "rd"
    refine ⟨u, _, rfl, .inr hu, ?_⟩
    walk_at "rd"
    rw [List.length_map]
    exact k
/-- what list(o) asks -/
def PolyR (K : PySem.W.Frag) (C : Addr) (p u : Addr) (ys : List V) (H : Hp) : Prop := ∃ ns : List Int, ys = ns.map V.int ∧ PolyU K C H p u ns
theorem ok_iter (F : Fun K "__iter__" "Poly.__iter__" (cls 18) f fd) (T : Txt K mg) (Cl : PC K mg C) : FnOk P w K mg base CX0 1 f fd ["self"] (spIt K (PolyR K C)) := by
  refine F.ok sc18 (fun vs H Q E h => ?_) (fun cdv A outer s H vs Q E hr h => ?_)
  · obtain ⟨p, u, ns, rfl, _⟩ := h
    rfl
  · obtain ⟨p, u, ys, rfl, ⟨ns, rfl, ⟨dx, hp⟩, hu, hl⟩, _, k⟩ := h
    refine ⟨_, pss_one (ps_ret (pe_callB call_iterT (by rfl) T.iter (by decide +kernel) (pa_cons (pe_fld (pv 0) rfl) pa_nil))), ?_⟩
    walk_at "rd"
    refine ⟨p, C, dx, _, _, rfl, hp, Cl.cl, Cl.noF, look1, ?_⟩
    walk_at "rd"
    exact ⟨u, _, rfl, hu, k⟩
theorem len_ln : ∀ vs H Q E, spLn (PolyR K C) vs H Q E → spGet K C (fun _ ns => .int (ns.length : Int)) vs H Q E := by
  rintro vs H Q E ⟨p, u, ys, rfl, ⟨ns, rfl, h⟩, k⟩
  rw [List.length_map] at k
  exact ⟨p, u, ns, rfl, h, k⟩
/-- == : from two polynomials, or something else that is no polynomial -/
def spEqP (K : PySem.W.Frag) (C : Addr) : Sp := fun vs H Q _ => ∃ (p u : Addr) (ns : List Int) (y : V), vs = [.ref p, y] ∧ PolyU K C H p u ns ∧
  ((∃ (q v : Addr) (ms : List Int), y = .ref q ∧ PolyU K C H q v ms ∧ Q (.bl (decide (ns = ms))) H) ∨ (∃ t, TyX K H y t ∧ PySem.W.kitOne K t (.ref C) = some false ∧ Q (.bl false) H))
theorem ok_eq (F : Fun K "__eq__" "Poly.__eq__" (cls 19) f fd) (T : Txt K mg) (Cl : PC K mg C) : FnOk P w K mg base CX0 1 f fd ["self", "other"] (spEqP K C) := by
  refine F.ok sc19 (fun vs H Q E h => ?_) (fun cdv A outer s H vs Q E hr h => ?_)
  · obtain ⟨p, u, ns, y, rfl, _⟩ := h
    rfl
  · obtain ⟨p, u, ns, y, rfl, ⟨⟨dx, hp⟩, hu, hl⟩, h⟩ := h
    refine ⟨_, pss_one (ps_ret (pe_and (pe_callB call_isi (by rfl) T.isinstance (by decide +kernel) (pa_cons (pv 1) (pa_cons (pe_glob (v := .ref C) (by rfl) Cl.g rfl) pa_nil)))
      (pe_one (pe_cmpR (op_eqD hr.units) (pe_fld (pv 0) rfl) (pe_fld (pv 1) rfl) (nomark _))))), ?_⟩
    walk_at "rd"
    rcases h with ⟨q, v, ms, rfl, ⟨⟨dy, hq⟩, hv, hm⟩, k⟩ | ⟨t, ty, kt, k⟩
    · refine ⟨_, _, _, _, true, rfl, .own C, Cl.ty hq, Cl.kit, ?_⟩
      walk_at "rd"
      refine ⟨p, C, dx, _, _, rfl, hp, Cl.cl, Cl.noF, look1, ?_⟩
      walk_at "rd"
      refine ⟨q, C, dy, _, _, rfl, hq, Cl.cl, Cl.noF, look1, ?_⟩
      refine ⟨_, _, dp_tup hu, dp_tup hv, shaped_tup _, shaped_tup _, ?_⟩
      show Q (.bl (PyData.eqvAll (idata ns) (idata ms))) H
      rw [eqv_ints]
      exact k
    · refine ⟨_, _, _, _, false, rfl, .own C, ty, kt, ?_⟩
      walk_at "rd"
      exact k
end
end K0

set_option Elab.async false
set_option linter.all false
set_option maxRecDepth 100000
set_option maxHeartbeats 4000000
/-! poly[index]. -/
namespace K0
open PySem PySem.Spec PyProof.Rows L2 Gd
local macro_rules | `(tactic| walk_at "rd1") => `(tactic| first | with_reducible refine g_ret ?_ | with_reducible refine g_retN ?_ | with_reducible refine g_seq ?_ | with_reducible refine g_next ?_ | with_reducible refine g_drop ?_ | with_reducible refine g_asg ?_ | with_reducible refine g_name ?_ | with_reducible refine g_ifs ?_ | with_reducible refine g_test ?_ | with_reducible refine g_tb ?_ | with_reducible refine g_and ?_ | with_reducible refine g_or ?_ | with_reducible refine g_not ?_ | with_reducible refine g_andV ?_ | with_reducible refine g_orV ?_ | with_reducible refine g_notV ?_ | with_reducible refine g_if ?_ | with_reducible refine g_op ?_ | with_reducible refine g_un ?_ | with_reducible refine g_cb ?_ | with_reducible refine g_nil ?_ | with_reducible refine g_cons ?_ | with_reducible refine g_call ?_ | with_reducible refine g_callS ?_ | with_reducible refine g_tup ?_ | with_reducible refine g_lst ?_ | with_reducible refine g_isN ?_ | with_reducible refine g_sl ?_ | with_reducible refine g_nopart ?_ | with_reducible refine g_part ?_ | with_reducible refine g_chain ?_ | with_reducible refine g_fld ?_ | with_reducible refine g_prop ?_ | with_reducible refine g_bm ?_ | with_reducible refine g_bm0 ?_ | with_reducible refine g_c ?_ | with_reducible refine g_sub ?_ | with_reducible refine g_int1 ?_ | with_reducible refine g_int2 ?_ | with_reducible refine g_yes ?_ | with_reducible refine g_sfld ?_ | with_reducible refine g_NT ?_ | with_reducible refine g_NF ?_ | with_reducible refine iteT ?_ | with_reducible refine iteF ?_ | ((with_reducible refine' g_aug ?hv ?_); (case hv => exact rfl)) | ((with_reducible refine' g_var ?hv ?_); (case hv => exact rfl)) | with_reducible refine g_I0 ?_ | with_reducible refine g_U ?_ | with_reducible refine g_eqI ?_ | with_reducible refine g_blV ?_ | with_reducible refine g_inV ?_)
local macro_rules | `(tactic| walk_at "rd") => `(tactic| repeat walk_at "rd1")
section
variable {P : Program} {w : World} {K : PySem.W.Frag} {mg : Str → Option Value} {base : Heap} {f C : Addr} {fd : FuncData}
structure AtX (K : PySem.W.Frag) (mg : Str → Option Value) (f : Addr) (fd : FuncData) : Prop where
  F : Fun K "require_index" "require_index" sIndex f fd
  b : Binds K fd ["value"] []
  g : mg "require_index" = some (.ref f)
def spItem (K : PySem.W.Frag) (C CN : Addr) : Sp := fun vs H Q E => ∃ (p u : Addr) (ns : List Int) (y : V) (b : Bool), vs = [.ref p, y] ∧ PolyU K C H p u ns ∧ IndexOk K H y b ∧
  (b = true → ∀ i, y = .int i → Q (.int ((ns[i.toNat]?).getD 0)) H) ∧
  (b = false → ∀ d, H d = none → E (.ref CN) (some d) (upd H d (.xd [(("value" : Str), y)])))
theorem ok_item {fW fI fX CN fC : Addr} {fdW fdI fdX : FuncData} (F : Fun K "__getitem__" "Poly.__getitem__" (cls 15) f fd) (T : Txt K mg) (Cl : PC K mg C) (W : AtW K mg fW fdW) (I : AtI K mg fI fdI) (X : AtX K mg fX fdX)
    (N : PySem.XInvalidNumber.InvalidNumberTxt K mg CN fC) : FnOk P w K mg base (L2.CX P w) 5 f fd ["self", "index"] (spItem K C CN) := by
  have GX : FnOk P w K mg base (L2.CX P w) 4 fX fdX ["value"] (spIndex K CN) := ok_index X.F T W I N
  refine F.okX sc15 (fun vs H Q E h => ?_) (fun cdv A outer s H vs Q E hr h => ?_)
  · obtain ⟨p, u, ns, y, b, rfl, _⟩ := h
    rfl
  · obtain ⟨p, u, ns, y, b, rfl, ⟨⟨dx, hp⟩, hu, hl⟩, hi, k1, k2⟩ := h
    refine ⟨_, pss_cons (ps_expr (pe_call GX hr (by rfl) X.g X.F.kp X.b .nil (passes_call (takes_of rfl rfl rfl rfl) (fun _ _ _ _ h => h)) (pa_cons (pv 1) pa_nil)))
      (pss_one (ps_ret (pe_ifExp (pt_cmpR op_lt (pv 1) (pe_callB call_len_seq (by rfl) T.len PySem.boot_len (pa_cons (pe_fld (pv 0) rfl) pa_nil)) (nomark _))
        (pe_ix ix_tup (pe_fld (pv 0) rfl) (pv 1) (fun _ _ => rfl)) pe_int))), ?_⟩
    walk_at "rd"
    refine ⟨y, b, rfl, hi, fun hb => ?_, fun hb d hd => k2 hb d hd⟩
    walk_at "rd"
    subst hb
    rcases hi with ⟨i, rfl, hb⟩ | ⟨_, hb⟩
    · have hb' := of_decide_eq_true hb.symm
      refine ⟨p, C, dx, _, _, rfl, hp, Cl.cl, Cl.noF, look1 (u := .ref u), ?_⟩
      walk_at "rd"
      refine ⟨u, _, rfl, .inr hu, ?_⟩
      walk_at "rd"
      rw [List.length_map]
      have k := k1 rfl i rfl
      refine ite2 (fun h1 => ?_) (fun h1 => ?_)
      · have h2 := of_decide_eq_true h1
        walk_at "rd"
        refine ⟨p, C, dx, _, _, rfl, hp, Cl.cl, Cl.noF, look1 (u := .ref u), ?_⟩
        walk_at "rd"
        have hlt : i.toNat < ns.length := by omega
        refine g_ixT hu (v := .int ((ns[i.toNat]?).getD 0)) ?_ k
        have e : i = (i.toNat : Int) := by omega
        have ge : (ns.map V.int)[i.toNat]? = some (V.int ((ns[i.toNat]?).getD 0)) := by
          rw [mapget, List.getElem?_eq_getElem hlt]
          rfl
        rw [e]
        exact atI_nat ge
      · have h2 : ¬ i < (ns.length : Int) := fun z => h1 (decide_eq_true z)
        have hz : (ns[i.toNat]?).getD 0 = 0 := by
          rw [List.getElem?_eq_none_iff.mpr (by omega)]
          rfl
        rw [hz] at k
        exact k
    · cases hb
end
end K0

set_option Elab.async false
set_option linter.all false
set_option maxRecDepth 100000
set_option maxHeartbeats 4000000
/-! The dice of a law: numbers for one place. -/
namespace K0
open PySem PySem.Spec PyProof.Rows L2 Gd
local macro_rules | `(tactic| walk_at "rd1") => `(tactic| first | with_reducible refine g_ret ?_ | with_reducible refine g_retN ?_ | with_reducible refine g_seq ?_ | with_reducible refine g_next ?_ | with_reducible refine g_drop ?_ | with_reducible refine g_asg ?_ | with_reducible refine g_name ?_ | with_reducible refine g_ifs ?_ | with_reducible refine g_test ?_ | with_reducible refine g_tb ?_ | with_reducible refine g_and ?_ | with_reducible refine g_or ?_ | with_reducible refine g_not ?_ | with_reducible refine g_andV ?_ | with_reducible refine g_orV ?_ | with_reducible refine g_notV ?_ | with_reducible refine g_if ?_ | with_reducible refine g_op ?_ | with_reducible refine g_un ?_ | with_reducible refine g_cb ?_ | with_reducible refine g_nil ?_ | with_reducible refine g_cons ?_ | with_reducible refine g_call ?_ | with_reducible refine g_callS ?_ | with_reducible refine g_tup ?_ | with_reducible refine g_lst ?_ | with_reducible refine g_isN ?_ | with_reducible refine g_sl ?_ | with_reducible refine g_nopart ?_ | with_reducible refine g_part ?_ | with_reducible refine g_chain ?_ | with_reducible refine g_fld ?_ | with_reducible refine g_prop ?_ | with_reducible refine g_bm ?_ | with_reducible refine g_bm0 ?_ | with_reducible refine g_c ?_ | with_reducible refine g_sub ?_ | with_reducible refine g_int1 ?_ | with_reducible refine g_int2 ?_ | with_reducible refine g_yes ?_ | with_reducible refine g_sfld ?_ | with_reducible refine g_NT ?_ | with_reducible refine g_NF ?_ | with_reducible refine iteT ?_ | with_reducible refine iteF ?_ | ((with_reducible refine' g_aug ?hv ?_); (case hv => exact rfl)) | ((with_reducible refine' g_var ?hv ?_); (case hv => exact rfl)) | with_reducible refine g_I0 ?_ | with_reducible refine g_U ?_ | with_reducible refine g_eqI ?_ | with_reducible refine g_blV ?_ | with_reducible refine g_inV ?_)
local macro_rules | `(tactic| walk_at "rd") => `(tactic| repeat walk_at "rd1")
section
variable {P : Program} {w : World} {K : PySem.W.Frag} {mg : Str → Option Value} {base : Heap} {f : Addr} {fd : FuncData}
abbrev sDice : Stmt := top 39
abbrev sRoll : Stmt := top 40
abbrev sPick : Stmt := top 41
/-- more names -/
structure Txt2 (mg : Str → Option Value) : Prop where
  max : mg "max" = none
  min : mg "min" = none
  abs : mg "abs" = none
  range : mg "range" = none
  repr : mg "repr" = none
/-- the dice at d -/
def DiceAt (H : Hp) (d : Addr) : Prop := ∃ a b c : Int, H d = some (.lst [.int a, .int b, .int c]) ∧ 0 ≤ a ∧ a < 10 ^ 120 ∧ 0 ≤ b ∧ b < 2 ^ 80 ∧ 0 ≤ c
theorem fmod_lo {a n : Int} (h : 0 < n) : 0 ≤ a.fmod n := by
  rw [Int.fmod_eq_emod_of_nonneg _ (Int.le_of_lt h)]
  exact Int.emod_nonneg _ (Int.ne_of_gt h)
theorem fmod_hi {a n : Int} (h : 0 < n) : a.fmod n < n := by
  rw [Int.fmod_eq_emod_of_nonneg _ (Int.le_of_lt h)]
  exact Int.emod_lt_of_pos _ h
theorem g_fmod {H : Hp} {Q : VK} {a n : Int} (hn : 0 < n) (k : ∀ r, 0 ≤ r → r < n → Q (.int r) H) : rI (fun _ j => j ≠ 0) (fun i j => .int (i.fmod j)) (.int a) (.int n) H Q :=
  ⟨a, n, rfl, rfl, Int.ne_of_gt hn, k _ (fmod_lo hn) (fmod_hi hn)⟩
def spDice (K : PySem.W.Frag) : Sp := fun vs H Q _ => ∃ (a : Addr) (ns : List Int) (i : Nat), vs = [.ref a, .int (i : Int)] ∧ SqL K H a (ns.map V.int) ∧ i ≤ 63 ∧
  ∀ H' d, Ext H H' → H d = none → DiceAt H' d → Q (.ref d) H'
theorem scDice : FnScope ["_law_script", "_law_spot", "_law_cell", "_law_left"] ["_law_script", "_law_spot"] (defScope sDice) := ⟨rfl, rfl, rfl, by decide +kernel, rfl, by decide +kernel, by decide +kernel⟩
theorem ok_dice (F : Fun K "_law_dice" "_law_dice" sDice f fd) (T : Txt K mg) (T2 : Txt2 mg) : FnOk P w K mg base CX0 1 f fd ["_law_script", "_law_spot"] (spDice K) := by
  refine F.ok scDice (fun vs H Q E h => ?_) (fun cdv A outer s H vs Q E hr h => ?_)
  · obtain ⟨a, ns, i, rfl, _⟩ := h
    rfl
  · obtain ⟨a, ns, i, rfl, hs, hi, k⟩ := h
    refine ⟨_, pss_cons (ps_set (i := 2) scDice.nd rfl (Or.inl rfl) (pe_ifExp (pt_cmpR op_lt (pv 1) (pe_callB call_len_seq (by rfl) T.len PySem.boot_len (pa_cons (pv 0) pa_nil)) (nomark _))
          (pe_callTy call_int1 (by rfl) T.int (by decide +kernel) (pa_cons (pe_ix ix_list (pv 0) (pv 1) (fun _ _ => rfl)) pa_nil)) (pe_op op_add (pe_op op_mul pe_int (pv 1)) pe_int)))
      (pss_cons (ps_set (i := 3) scDice.nd rfl (Or.inl rfl) (pe_op op_modN (pe_callB (call_max2 rfl) (by rfl) T2.max (by decide +kernel) (pa_cons pe_int (pa_cons (pe_op op_sub (pe_callB call_abs (by rfl) T2.abs (by decide +kernel) (pa_cons (pv 2) pa_nil)) (pe_op op_pow pe_int pe_int)) pa_nil)))
          (pe_op op_mulW (pe_op op_pow pe_int pe_int) (pe_op op_pow pe_int pe_int))))
        (pss_one (ps_ret (pe_lst (pa_cons (pv 3) (pa_cons (pe_op op_add (pe_op op_add (pe_op op_add (pe_op op_mul (pe_op op_modN (pe_callB call_abs (by rfl) T2.abs (by decide +kernel) (pa_cons (pv 2) pa_nil)) pe_int) pe_int) (pe_op op_mul pe_int (pv 1)))
          (pe_op op_mul pe_int (pe_callTy call_int1 (by rfl) T.int (by decide +kernel) (pa_cons (pe_cmpR op_lt (pv 2) pe_int (nomark _)) pa_nil)))) pe_int) (pa_cons pe_int pa_nil))))))), ?_⟩
    walk_at "rd"
    refine ⟨a, _, rfl, .inl hs, ?_⟩
    walk_at "rd"
    refine ite2 (fun h1 => ?_) (fun h1 => ?_)
    have h2 := of_decide_eq_true h1
    rw [List.length_map] at h2
    have hlt : i < ns.length := by omega
    walk_at "rd"
    refine g_ixL hs (v := .int ns[i]) (atI_nat (by rw [mapget, List.getElem?_eq_getElem hlt]; rfl)) ?_
    walk_at "rd"
    refine .inl ⟨_, rfl, ?_⟩
    generalize ns[i] = c
    walk_at "rd"
    rotate_left
    walk_at "rd"
    refine g_I (.inr ⟨by omega, by omega⟩) ?_
    walk_at "rd"
    generalize (83 * (i : Int) + 61) = c
    walk_at "rd"
    all_goals
      refine g_I ⟨by decide, by decide, by decide⟩ ?_
      walk_at "rd"
      refine g_I ⟨by decide, by decide, by decide⟩ ?_
      walk_at "rd"
      refine g_I ⟨by decide, by decide, by decide⟩ ?_
      walk_at "rd"
      refine g_I (wide_mul (a := 200) (b := 200) (by decide +kernel) (by decide +kernel) (by decide) (by decide) (by decide)) ?_
      walk_at "rd"
      refine g_fmod (by decide +kernel) (fun l l0 l1 => ?_)
      walk_at "rd"
      refine g_fmod (by decide +kernel) (fun r r0 r1 => ?_)
      walk_at "rd"
      refine g_I (.inr ⟨by decide, by decide⟩) ?_
      walk_at "rd"
      refine g_I (.inl ⟨by decide, by decide⟩) ?_
      walk_at "rd"
      refine .inr ⟨_, rfl, ?_⟩
      refine g_I (.inl ⟨by decide, by decide⟩) ?_
      walk_at "rd"
      refine ⟨by show 3 ≤ sizeLine; decide, fun d hd => ?_⟩
      have l1' : l < 10 ^ 120 := Int.lt_of_lt_of_le l1 (by decide +kernel)
      refine k _ d (Ext.new hd) hd ⟨l, _, 0, upd_same, l0, l1', ?_, ?_, Int.le_refl _⟩
      · split <;> omega
      · split <;> omega

/-! ### a roll -/
def spRoll : Sp := fun vs H Q _ => ∃ (d : Addr) (n : Int), vs = [.ref d, .int n] ∧ DiceAt H d ∧ 0 < n ∧ n < 2 ^ 1000 ∧
  ∀ H' r, ExtBut d H H' → DiceAt H' d → 0 ≤ r → r < n → Q (.int r) H'
theorem scRoll : FnScope ["_law_dice_here", "_law_total", "_law_found", "_law_one", "_law_two"] ["_law_dice_here", "_law_total"] (defScope sRoll) := ⟨rfl, rfl, rfl, by decide +kernel, rfl, by decide +kernel, by decide +kernel⟩
theorem ok_roll (F : Fun K "_law_roll" "_law_roll" sRoll f fd) (T : Txt K mg) : FnOk P w K mg base CX0 1 f fd ["_law_dice_here", "_law_total"] spRoll := by
  refine F.ok scRoll (fun vs H Q E h => ?_) (fun cdv A outer s H vs Q E hr h => ?_)
  · obtain ⟨d, n, rfl, _⟩ := h
    rfl
  · obtain ⟨d, n, rfl, ⟨a, b, c, hd, a0, a1, b0, b1, c0⟩, n0, n1, k⟩ := h
    refine ⟨_, pss_cons (ps_if (pt_cmpR op_gt (pe_ix ix_list (pv 0) pe_int (fun _ _ => rfl)) pe_int (nomark _))
        (pss_cons (ps_set (i := 2) scRoll.nd rfl (Or.inl rfl) (pe_op op_modN (pe_callTy call_int1 (by rfl) T.int (by decide +kernel) (pa_cons (pe_ix ix_list (pv 0) pe_int (fun _ _ => rfl)) pa_nil)) (pv 1)))
          (pss_cons (ps_asg (pe_op op_fdivW (pe_ix ix_list (pv 0) pe_int (fun _ _ => rfl)) (pv 1)) (pg_sub (pv 0) pe_int set_list)) (pss_one (ps_ret (pv 2))))) pss_nil)
      (pss_cons (ps_asg (pe_op op_add (pe_ix ix_list (pv 0) pe_int (fun _ _ => rfl)) pe_int) (pg_sub (pv 0) pe_int set_list))
        (pss_cons (ps_set (i := 3) scRoll.nd rfl (Or.inl rfl) (pe_op op_modN (pe_callTy call_int1 (by rfl) T.int (by decide +kernel) (pa_cons (pe_op op_add (pe_ix ix_list (pv 0) pe_int (fun _ _ => rfl)) (pe_op op_mul pe_int (pe_ix ix_list (pv 0) pe_int (fun _ _ => rfl)))) pa_nil)) pe_int))
          (pss_cons (ps_set (i := 4) scRoll.nd rfl (Or.inl rfl) (pe_op op_add (pe_op op_mul (pe_op op_modN (pe_callTy call_int1 (by rfl) T.int (by decide +kernel)
              (pa_cons (pe_op op_add (pe_op op_mul (pv 3) (pv 3)) (pe_op op_mul pe_int (pe_ix ix_list (pv 0) pe_int (fun _ _ => rfl)))) pa_nil)) pe_int) pe_int) (pv 3)))
            (pss_one (ps_ret (pe_op op_modN (pe_callTy call_int1 (by rfl) T.int (by decide +kernel) (pa_cons (pe_op op_fdiv (pv 4) pe_int) pa_nil)) (pv 1))))))), ?_⟩
    walk_at "rd"
    refine g_ixL (SqL.of hd) (v := .int a) rfl ?_
    walk_at "rd"
    refine ite2 (fun h1 => ?_) (fun h1 => ?_)
    · walk_at "rd"
      refine g_ixL (SqL.of hd) (v := .int a) rfl ?_
      walk_at "rd"
      refine .inl ⟨_, rfl, ?_⟩
      walk_at "rd"
      refine g_fmod n0 (fun r r0 r1 => ?_)
      walk_at "rd"
      refine g_ixL (SqL.of hd) (v := .int a) rfl ?_
      walk_at "rd"
      refine g_I (wide_div (b := 1000) n0 (by omega) (by decide) (by decide)) ?_
      walk_at "rd"
      refine ⟨d, _, _, 0, rfl, rfl, hd, rfl, ?_⟩
      walk_at "rd"
      refine k _ r (fun x o hx q => by rw [upd_ne hx]; exact q) ⟨a / n, b, c, upd_same, Int.ediv_nonneg a0 (Int.le_of_lt n0), Int.lt_of_le_of_lt (Int.ediv_le_self _ a0) a1, b0, b1, c0⟩ r0 r1
    · walk_at "rd"
      refine g_ixL (SqL.of hd) (v := .int c) rfl ?_
      walk_at "rd"
      refine ⟨d, _, _, 2, rfl, rfl, hd, rfl, ?_⟩
      walk_at "rd"
      have hd2 : upd H d (.lst (List.set [V.int a, V.int b, V.int c] 2 (V.int (c + 1)))) d = some (.lst [.int a, .int b, .int (c + 1)]) := upd_same
      generalize hH2 : upd H d (.lst (List.set [V.int a, V.int b, V.int c] 2 (V.int (c + 1)))) = H2 at hd2 ⊢
      have e2 : ExtBut d H H2 := fun x o hx q => by rw [← hH2, upd_ne hx]; exact q
      refine g_ixL (SqL.of hd2) (v := .int b) rfl ?_
      walk_at "rd"
      refine g_ixL (SqL.of hd2) (v := .int (c + 1)) rfl ?_
      refine g_I (.inl ⟨by decide, by decide⟩) ?_
      walk_at "rd"
      refine .inl ⟨_, rfl, ?_⟩
      walk_at "rd"
      refine g_fmod (by decide) (fun r r0 r1 => ?_)
      walk_at "rd"
      refine g_I (.inl ⟨by omega, by omega⟩) ?_
      walk_at "rd"
      refine g_ixL (SqL.of hd2) (v := .int (c + 1)) rfl ?_
      refine g_I (.inl ⟨by decide, by decide⟩) ?_
      walk_at "rd"
      refine .inl ⟨_, rfl, ?_⟩
      walk_at "rd"
      refine g_fmod (by decide) (fun t t0 t1 => ?_)
      walk_at "rd"
      refine g_I (.inr ⟨by decide, by decide⟩) ?_
      walk_at "rd"
      refine g_I ⟨by decide, by decide⟩ ?_
      walk_at "rd"
      refine .inl ⟨_, rfl, ?_⟩
      walk_at "rd"
      refine g_fmod n0 (fun z z0 z1 => ?_)
      exact k _ z e2 ⟨a, b, c + 1, hd2, a0, a1, b0, b1, by omega⟩ z0 z1
end
end K0

set_option Elab.async false
set_option linter.all false
set_option maxRecDepth 100000
set_option maxHeartbeats 4000000
/-! Picks, and drawn factors. -/
namespace K0
open PySem PySem.Spec PyProof.Rows L2 Gd
local macro_rules | `(tactic| walk_at "rd1") => `(tactic| first | with_reducible refine g_ret ?_ | with_reducible refine g_retN ?_ | with_reducible refine g_seq ?_ | with_reducible refine g_next ?_ | with_reducible refine g_drop ?_ | with_reducible refine g_asg ?_ | with_reducible refine g_name ?_ | with_reducible refine g_ifs ?_ | with_reducible refine g_test ?_ | with_reducible refine g_tb ?_ | with_reducible refine g_and ?_ | with_reducible refine g_or ?_ | with_reducible refine g_not ?_ | with_reducible refine g_andV ?_ | with_reducible refine g_orV ?_ | with_reducible refine g_notV ?_ | with_reducible refine g_if ?_ | with_reducible refine g_op ?_ | with_reducible refine g_un ?_ | with_reducible refine g_cb ?_ | with_reducible refine g_nil ?_ | with_reducible refine g_cons ?_ | with_reducible refine g_call ?_ | with_reducible refine g_callS ?_ | with_reducible refine g_tup ?_ | with_reducible refine g_lst ?_ | with_reducible refine g_isN ?_ | with_reducible refine g_sl ?_ | with_reducible refine g_nopart ?_ | with_reducible refine g_part ?_ | with_reducible refine g_chain ?_ | with_reducible refine g_fld ?_ | with_reducible refine g_prop ?_ | with_reducible refine g_bm ?_ | with_reducible refine g_bm0 ?_ | with_reducible refine g_c ?_ | with_reducible refine g_sub ?_ | with_reducible refine g_int1 ?_ | with_reducible refine g_int2 ?_ | with_reducible refine g_yes ?_ | with_reducible refine g_sfld ?_ | with_reducible refine g_NT ?_ | with_reducible refine g_NF ?_ | with_reducible refine iteT ?_ | with_reducible refine iteF ?_ | ((with_reducible refine' g_aug ?hv ?_); (case hv => exact rfl)) | ((with_reducible refine' g_var ?hv ?_); (case hv => exact rfl)) | with_reducible refine g_I0 ?_ | with_reducible refine g_U ?_ | with_reducible refine g_eqI ?_ | with_reducible refine g_blV ?_ | with_reducible refine g_inV ?_)
local macro_rules | `(tactic| walk_at "rd") => `(tactic| repeat walk_at "rd1")
section
variable {P : Program} {w : World} {K : PySem.W.Frag} {mg : Str → Option Value} {base : Heap} {f : Addr} {fd : FuncData}
structure AtR (K : PySem.W.Frag) (mg : Str → Option Value) (f : Addr) (fd : FuncData) : Prop where
  F : Fun K "_law_roll" "_law_roll" sRoll f fd
  b : Binds K fd ["_law_dice_here", "_law_total"] []
  g : mg "_law_roll" = some (.ref f)
theorem sqL_but {H H' : Hp} {d l : Addr} {xs : List V} (e : ExtBut d H H') (n : l ≠ d) (h : SqL K H l xs) : SqL K H' l xs := by
  rcases h with (h | ⟨o, h⟩) | h
  · exact .inl (.inl (e _ _ n h))
  · exact .inl (.inr ⟨o, e _ _ n h⟩)
  · exact .inr h
theorem sqT_but {H H' : Hp} {d l : Addr} {xs : List V} (e : ExtBut d H H') (n : l ≠ d) (h : SqT K H l xs) : SqT K H' l xs := by
  rcases h with (h | ⟨o, h⟩) | h
  · exact .inl (.inl (e _ _ n h))
  · exact .inl (.inr ⟨o, e _ _ n h⟩)
  · exact .inr h
theorem ExtBut.trans {d : Addr} {H H1 H2 : Hp} (a : ExtBut d H H1) (b : ExtBut d H1 H2) : ExtBut d H H2 := fun x o n h => b x o n (a x o n h)
theorem ExtBut.of {d : Addr} {H H1 : Hp} (a : Ext H H1) : ExtBut d H H1 := fun x o _ h => a x o h
theorem DiceAt.ext {d : Addr} {H H1 : Hp} (e : Ext H H1) (h : DiceAt H d) : DiceAt H1 d := by
  obtain ⟨a, b, c, h, r⟩ := h
  exact ⟨a, b, c, e _ _ h, r⟩
/-! ### pick -/
def spPick (K : PySem.W.Frag) : Sp := fun vs H Q _ => ∃ (d l : Addr) (xs : List V), vs = [.ref d, .ref l] ∧ DiceAt H d ∧ SqL K H l xs ∧ l ≠ d ∧ 0 < xs.length ∧ xs.length ≤ 1000 ∧
  ∀ H' x, ExtBut d H H' → DiceAt H' d → x ∈ xs → Q x H'
theorem scPick : FnScope ["_law_dice_here", "_law_items"] ["_law_dice_here", "_law_items"] (defScope sPick) := ⟨rfl, rfl, rfl, by decide +kernel, rfl, by decide +kernel, by decide +kernel⟩
theorem ok_pick {fR : Addr} {fdR : FuncData} (F : Fun K "_law_pick" "_law_pick" sPick f fd) (T : Txt K mg) (R : AtR K mg fR fdR) : FnOk P w K mg base CX0 2 f fd ["_law_dice_here", "_law_items"] (spPick K) := by
  have GR : FnOk P w K mg base CX0 1 fR fdR ["_law_dice_here", "_law_total"] spRoll := ok_roll R.F T
  refine F.ok scPick (fun vs H Q E h => ?_) (fun cdv A outer s H vs Q E hr h => ?_)
  · obtain ⟨d, l, xs, rfl, _⟩ := h
    rfl
  · obtain ⟨d, l, xs, rfl, hd, hl, ne, l0, l1, k⟩ := h
    refine ⟨_, pss_one (ps_ret (pe_ix ix_list (pv 1) (pe_call GR hr (by rfl) R.g R.F.kp R.b .nil pass0 (pa_cons (pv 0) (pa_cons (pe_callB call_len_seq (by rfl) T.len PySem.boot_len (pa_cons (pv 1) pa_nil)) pa_nil))) (fun _ _ => rfl))), ?_⟩
    walk_at "rd"
    refine ⟨l, xs, rfl, .inl hl, ?_⟩
    walk_at "rd"
    refine ⟨d, _, rfl, hd, by omega, by omega, ?_⟩
    intro H' r e hd' r0 r1
    have hlt : r.toNat < xs.length := by omega
    have er : r = (r.toNat : Int) := by omega
    rw [er]
    exact g_ixL (sqL_but e ne hl) (atI_nat (List.getElem?_eq_getElem hlt)) (k _ _ e hd' (List.getElem_mem hlt))
/-! ### the law's own trimming -/
abbrev sLTrim : Stmt := top 42
def spLTrim (K : PySem.W.Frag) : Sp := fun vs H Q _ => ∃ (a : Addr) (ns : List Int), vs = [.ref a] ∧ (SqL K H a (ns.map V.int) ∨ SqT K H a (ns.map V.int)) ∧ ns.length ≤ 100000 ∧
  ∀ H' u, Ext H H' → SqT K H' u ((trim ns).map V.int) → Q (.ref u) H'
def muL (i : Nat) : L2.St → Hp → Nat := fun σ H => match σ[i]? with | some (some (.ref l)) => (match H l with | some (.lst xs) => xs.length | _ => 0) | _ => 0
def PvL (a : Addr) (H0 : Hp) (ns : List Int) : L2.St → Hp → Prop := fun σ H' => ∃ (l : Addr) (e : Nat), σ = [some (.ref a), some (.ref l)] ∧ H0 l = none ∧ Ext H0 H' ∧ H' l = some (.lst ((ns.take e).map V.int)) ∧
  e ≤ ns.length ∧ ∀ j x, e ≤ j → ns[j]? = some x → x = 0
theorem scLTrim : FnScope ["_law_factors_here", "_law_found"] ["_law_factors_here"] (defScope sLTrim) := ⟨rfl, rfl, rfl, by decide +kernel, rfl, by decide +kernel, by decide +kernel⟩
theorem shaped_lst (ns : List Int) : SeqAt.shaped (.list (idata ns)) = true := by
  unfold SeqAt.shaped
  rw [show PyData.canLay0 (.list (idata ns)) = PyData.canLayAll0 (idata ns) from rfl, lay_ints, show PyData.depth (.list (idata ns)) = PyData.depthAll (idata ns) + 1 from rfl, deep_ints]
  rfl
theorem ok_ltrim (F : Fun K "_law_trimmed" "_law_trimmed" sLTrim f fd) (T : Txt K mg) : FnOk P w K mg base CX0 1 f fd ["_law_factors_here"] (spLTrim K) := by
  refine F.ok scLTrim (fun vs H Q E h => ?_) (fun cdv A outer s H vs Q E hr h => ?_)
  · obtain ⟨a, ns, rfl, _⟩ := h
    rfl
  · obtain ⟨a, ns, rfl, hs, hl, k⟩ := h
    refine ⟨_, pss_cons (ps_set (i := 1) scLTrim.nd rfl (Or.inl rfl) (pe_callTy call_list_of (by rfl) T.list (by decide +kernel) (pa_cons (pv 0) pa_nil)))
      (pss_cons (ps_while PassesOwn.never (PW.pt (pw_and (pt_cmpR (op_neD hr.units) (pv 1) (pe_lst pa_nil) (nomark _)) (pw_and1 (pt_cmpR op_eq (pe_ix ix_list (pv 1) (pe_un un_neg pe_int) (fun _ _ => rfl)) pe_int (nomark _)))))
          (pss_one (ps_expr (pe_bm0 PySem.F.plainAttrs_list PySem.F.slot_list_pop PySem.F.type_list_pop mt_pop (pv 1)))))
        (pss_one (ps_ret (pe_callTy call_tuple_of (by rfl) T.tuple (by decide +kernel) (pa_cons (pv 1) pa_nil))))), ?_⟩
    walk_at "rd"
    refine ⟨a, _, rfl, hs, fun l hl0 => ?_⟩
    walk_at "rd"
    refine g_while (PvL a H ns) (muL 1) ⟨l, ns.length, rfl, hl0, Ext.new hl0, by rw [List.take_length]; exact upd_same, Nat.le_refl _, fun j x g e => by
        rw [List.getElem?_eq_none_iff.mpr g] at e
        cases e⟩ ?_
    rintro σ H1 ⟨l, e, rfl, hl0, e1, hL, he, hz⟩
    walk_at "rd"
    refine ⟨Nat.zero_le _, fun p hp => ?_⟩
    have e2 : Ext H1 (upd H1 p (.lst [])) := Ext.new hp
    have hL2 := e2 _ _ hL
    have npl : l ≠ p := ne_of_none hL hp
    refine ⟨.list (idata (ns.take e)), .list [], .lst (SqL.of hL2) (dp_ints _), .lst (SqL.of upd_same) .nil, shaped_lst _, by rfl, ?_⟩
    have ev : PyData.eqv (.list (idata (ns.take e))) (.list []) = decide (ns.take e = []) := eqv_ints (ns.take e) []
    rw [ev]
    generalize upd H1 p (.lst []) = H2 at e2 hL2
    have fin : (e = 0 ∨ ∃ x, ns[e - 1]? = some x ∧ x ≠ 0) → tRet (tCB (fun xs H Q => ∃ p ys, xs = [.ref p] ∧ ((SqL K H p ys ∧ ∀ l, H l = none → Q (.ref l) (upd H l (.tup ys))) ∨ (SqT K H p ys ∧ Q (.ref p) H))) (tCons (tVar 1) tNil))
        { nx := fun x H' => Q V.non H', rt := Q } [some (V.ref a), some (V.ref l)] H2 := by
      intro hl'
      have et := trim_take ns e he hz hl'
      walk_at "rd"
      refine ⟨l, _, rfl, .inl ⟨SqL.of hL2, fun u hu => ?_⟩⟩
      refine k _ u (Ext.trans e1 (Ext.trans e2 (Ext.new hu))) ?_
      rw [et]
      exact SqT.of upd_same
    walk_at "rd"
    refine ite2 (fun h1 => ?_) (fun h1 => ?_)
    · have ne0 : ns.take e ≠ [] := by
        intro z
        rw [z] at h1
        exact absurd h1 (by decide)
      have e0 : 0 < e := by
        rcases Nat.eq_zero_or_pos e with z | z
        · rw [z] at ne0
          exact absurd rfl ne0
        · exact z
      have hlt : e - 1 < ns.length := by omega
      have tk : ns.take e = ns.take (e - 1) ++ [ns[e - 1]] := by
        have := take_one (l := ns) (i := e - 1) hlt
        rw [show e - 1 + 1 = e by omega] at this
        exact this
      walk_at "rd"
      refine g_ixL (SqL.of hL2) (v := .int ns[e - 1]) ?_ ?_
      · rw [tk, List.map_append]
        exact atI_last _ _
      walk_at "rd"
      refine ite2 (fun h2 => ?_) (fun h2 => ?_)
      · refine g_turn ?_
        walk_at "rd"
        refine ⟨.inl ⟨rfl, _, SqL.of hL2⟩, ?_⟩
        refine ⟨l, _, .int ns[e - 1], rfl, rfl, hL2, ?_, ?_⟩
        · rw [tk, List.map_append]
          simp
        · have dl : ((ns.take e).map V.int).dropLast = (ns.take (e - 1)).map V.int := by
            rw [tk, List.map_append]
            exact List.dropLast_concat
          rw [dl]
          refine ⟨⟨l, e - 1, rfl, hl0, fun b o q => ?_, upd_same, by omega, fun j x g q => ?_⟩, ?_⟩
          · rw [upd_ne (ne_of_none q hl0)]
            exact e2 _ _ (e1 _ _ q)
          · by_cases hj : j = e - 1
            · subst hj
              rw [List.getElem?_eq_getElem hlt] at q
              cases q
              exact of_decide_eq_true h2
            · exact hz j x (by omega) q
          · show muL 1 [some (.ref a), some (.ref l)] _ < muL 1 [some (.ref a), some (.ref l)] H1
            unfold muL
            simp only [List.getElem?_cons_succ, List.getElem?_cons_zero, upd_same, hL, List.length_map, List.length_take]
            omega
      · exact fin (.inr ⟨_, List.getElem?_eq_getElem hlt, fun z => h2 (decide_eq_true z)⟩)
    · refine iteF (fin (.inl ?_))
      have z : ns.take e = [] := by
        by_cases z : ns.take e = []
        · exact z
        · rw [decide_eq_false z] at h1
          exact absurd rfl h1
      rcases List.take_eq_nil_iff.mp z with z | z
      · exact z
      · subst z
        simpa using he
end
end K0

set_option Elab.async false
set_option linter.all false
set_option maxRecDepth 100000
set_option maxHeartbeats 4000000
/-! Drawn factors. -/
namespace K0
open PySem PySem.Spec PyProof.Rows L2 Gd
local macro_rules | `(tactic| walk_at "rd1") => `(tactic| first | with_reducible refine g_ret ?_ | with_reducible refine g_retN ?_ | with_reducible refine g_seq ?_ | with_reducible refine g_next ?_ | with_reducible refine g_drop ?_ | with_reducible refine g_asg ?_ | with_reducible refine g_name ?_ | with_reducible refine g_ifs ?_ | with_reducible refine g_test ?_ | with_reducible refine g_tb ?_ | with_reducible refine g_and ?_ | with_reducible refine g_or ?_ | with_reducible refine g_not ?_ | with_reducible refine g_andV ?_ | with_reducible refine g_orV ?_ | with_reducible refine g_notV ?_ | with_reducible refine g_if ?_ | with_reducible refine g_op ?_ | with_reducible refine g_un ?_ | with_reducible refine g_cb ?_ | with_reducible refine g_nil ?_ | with_reducible refine g_cons ?_ | with_reducible refine g_call ?_ | with_reducible refine g_callS ?_ | with_reducible refine g_tup ?_ | with_reducible refine g_lst ?_ | with_reducible refine g_isN ?_ | with_reducible refine g_sl ?_ | with_reducible refine g_nopart ?_ | with_reducible refine g_part ?_ | with_reducible refine g_chain ?_ | with_reducible refine g_fld ?_ | with_reducible refine g_prop ?_ | with_reducible refine g_bm ?_ | with_reducible refine g_bm0 ?_ | with_reducible refine g_c ?_ | with_reducible refine g_sub ?_ | with_reducible refine g_int1 ?_ | with_reducible refine g_int2 ?_ | with_reducible refine g_yes ?_ | with_reducible refine g_sfld ?_ | with_reducible refine g_NT ?_ | with_reducible refine g_NF ?_ | with_reducible refine iteT ?_ | with_reducible refine iteF ?_ | ((with_reducible refine' g_aug ?hv ?_); (case hv => exact rfl)) | ((with_reducible refine' g_var ?hv ?_); (case hv => exact rfl)) | with_reducible refine g_I0 ?_ | with_reducible refine g_U ?_ | with_reducible refine g_eqI ?_ | with_reducible refine g_blV ?_ | with_reducible refine g_inV ?_)
local macro_rules | `(tactic| walk_at "rd") => `(tactic| repeat walk_at "rd1")
section
variable {P : Program} {w : World} {K : PySem.W.Frag} {mg : Str → Option Value} {base : Heap} {f : Addr} {fd : FuncData}
abbrev sFactors : Stmt := top 44
theorem dice_ne {H : Hp} {d l : Addr} {o : HO} (h : DiceAt H d) (e : H l = some o) (n : ∀ xs, o ≠ .lst xs) : l ≠ d := by
  obtain ⟨a, b, c, h, _⟩ := h
  intro z
  subst z
  rw [e] at h
  cases h
  exact n _ rfl
theorem dice_none {H : Hp} {d l : Addr} (h : DiceAt H d) (e : H l = none) : l ≠ d := by
  obtain ⟨a, b, c, h, _⟩ := h
  intro z
  subst z
  rw [e] at h
  cases h
theorem DiceAt.upd {H : Hp} {d l : Addr} {o : HO} (h : DiceAt H d) (n : l ≠ d) : DiceAt (upd H l o) d := by
  obtain ⟨a, b, c, h, r⟩ := h
  exact ⟨a, b, c, by rw [upd_ne (Ne.symm n)]; exact h, r⟩
def spFactors : Sp := fun vs H Q _ => ∃ (d : Addr) (m z : Int), vs = [.ref d, .int m, .int z] ∧ DiceAt H d ∧ 0 ≤ m ∧ m ≤ 1000 ∧ 0 ≤ z ∧ z < 2 ^ 500 ∧
  ∀ H' u (ns : List Int), ExtBut d H H' → DiceAt H' d → H u = none → H' u = some (.tup (ns.map V.int)) → (ns.length : Int) ≤ m → (∀ n ∈ ns, -z ≤ n ∧ n ≤ z) → Q (.ref u) H'
def PvF (d l : Addr) (m z : Int) (H0 : Hp) (i : Nat) : L2.St → Hp → Prop := fun σ H' => ∃ (t : Option V) (ns : List Int), σ = [some (.ref d), some (.int m), some (.int z), some (.ref l), t] ∧ H0 l = none ∧ ExtBut d H0 H' ∧ DiceAt H' d ∧
  H' l = some (.lst (ns.map V.int)) ∧ ns.length = i ∧ ∀ n ∈ ns, -z ≤ n ∧ n ≤ z
theorem scFactors : FnScope ["_law_dice_here", "_law_most", "_law_size", "_law_found", "_law_turn"] ["_law_dice_here", "_law_most", "_law_size"] (defScope sFactors) := ⟨rfl, rfl, rfl, by decide +kernel, rfl, by decide +kernel, by decide +kernel⟩
theorem ok_lfactors {fR : Addr} {fdR : FuncData} (F : Fun K "_law_factors" "_law_factors" sFactors f fd) (T : Txt K mg) (T2 : Txt2 mg) (R : AtR K mg fR fdR) : FnOk P w K mg base CX0 2 f fd ["_law_dice_here", "_law_most", "_law_size"] spFactors := by
  have GR : FnOk P w K mg base CX0 1 fR fdR ["_law_dice_here", "_law_total"] spRoll := ok_roll R.F T
  refine F.ok scFactors (fun vs H Q E h => ?_) (fun cdv A outer s H vs Q E hr h => ?_)
  · obtain ⟨d, m, z, rfl, _⟩ := h
    rfl
  · obtain ⟨d, m, z, rfl, hd, m0, m1, z0, z1, k⟩ := h
    refine ⟨_, pss_cons (ps_set (i := 3) scFactors.nd rfl (Or.inl rfl) (pe_lst pa_nil))
      (pss_cons (ps_for PassesOwn.never rfl (pi_range1 (by rfl) T2.range (pa_cons (pe_call GR hr (by rfl) R.g R.F.kp R.b .nil pass0 (pa_cons (pv 0) (pa_cons (pe_op op_add (pv 1) pe_int) pa_nil))) pa_nil)) (pg_name (i := 4) scFactors.nd rfl (Or.inl rfl))
          (pss_one (ps_expr (pe_bm PySem.F.plainAttrs_list PySem.F.slot_list_append PySem.F.type_list_append mt_append (pv 3)
            (pa_cons (pe_ifExp (pt_cmpR op_eq (pe_call GR hr (by rfl) R.g R.F.kp R.b .nil pass0 (pa_cons (pv 0) (pa_cons pe_int pa_nil))) pe_int (nomark _)) pe_int
              (pe_op op_sub (pe_call GR hr (by rfl) R.g R.F.kp R.b .nil pass0 (pa_cons (pv 0) (pa_cons (pe_op op_add (pe_op op_mul pe_int (pv 2)) pe_int) pa_nil))) (pv 2))) pa_nil)))))
        (pss_one (ps_ret (pe_callTy call_tuple_of (by rfl) T.tuple (by decide +kernel) (pa_cons (pv 3) pa_nil))))), ?_⟩
    walk_at "rd"
    refine ⟨Nat.zero_le _, fun l hl => ?_⟩
    walk_at "rd"
    have ld : l ≠ d := dice_none hd hl
    refine g_forR ?_
    walk_at "rd"
    refine ⟨d, _, rfl, hd.upd ld, by omega, by omega, fun H1 r e1 hd1 r0 r1 => ?_⟩
    walk_at "rd"
    refine ⟨by omega, by omega, ?_⟩
    have hl1 := e1 _ _ ld (upd_same (H := H) (o := HO.lst []))
    refine for_range (PvF d l m z H) ⟨_, [], rfl, hl, ExtBut.trans (ExtBut.of (Ext.new hl)) e1, hd1, hl1, rfl, fun n hn => nomatch hn⟩ ?_ ?_
    · rintro i σ H2 hi ⟨t, ns, rfl, _, e2, hd2, hl2, hlen, hb⟩
      walk_at "rd"
      refine ⟨.inl ⟨rfl, _, SqL.of hl2⟩, ?_⟩
      walk_at "rd"
      have go : ∀ (H3 : Hp) (x : Int), ExtBut d H2 H3 → DiceAt H3 d → -z ≤ x → x ≤ z → rAppend (.ref l) [.int x] H3 fun _ H' => PvF d l m z H (i + 1) [some (.ref d), some (.int m), some (.int z), some (.ref l), some (.int (0 + (i : Int)))] H' := by
        intro H3 x e3 hd3 x0 x1
        have hl3 := e3 _ _ ld hl2
        refine ⟨l, _, _, rfl, rfl, hl3, ?_, ?_⟩
        · rw [List.length_map, hlen]
          show i < sizeLine
          have : (1000 : Nat) < sizeLine := by decide
          omega
        · refine ⟨_, ns ++ [x], rfl, hl, fun y o hy q => ?_, hd3.upd ld, ?_, ?_, ?_⟩
          · by_cases hyl : y = l
            · subst hyl
              rw [hl] at q
              cases q
            · rw [upd_ne hyl]
              exact e3 _ _ hy (e2 _ _ hy q)
          · rw [List.map_append]
            exact upd_same
          · rw [List.length_append, hlen]
            rfl
          · intro n hn
            rcases List.mem_append.mp hn with hn | hn
            · exact hb n hn
            · rw [List.mem_singleton] at hn
              subst hn
              exact ⟨x0, x1⟩
      refine ⟨d, _, rfl, hd2, by decide, by decide, fun H3 r3 e3 hd3 r30 r31 => ?_⟩
      walk_at "rd"
      refine ite2 (fun h1 => ?_) (fun h1 => ?_)
      · walk_at "rd"
        exact go H3 0 e3 hd3 (by omega) z0
      · walk_at "rd"
        refine g_I (.inl ⟨by decide, by decide⟩) ?_
        walk_at "rd"
        refine ⟨d, _, rfl, hd3, by omega, by omega, fun H4 r4 e4 hd4 r40 r41 => ?_⟩
        walk_at "rd"
        exact go H4 (r4 - z) (e3.trans e4) hd4 (by omega) (by omega)
    · rintro σ H2 ⟨t, ns, rfl, _, e2, hd2, hl2, hlen, hb⟩
      walk_at "rd"
      refine ⟨l, _, rfl, .inl ⟨SqL.of hl2, fun u hu => ?_⟩⟩
      have ud : u ≠ d := dice_none hd2 hu
      refine k _ u ns (ExtBut.trans e2 (ExtBut.of (Ext.new hu))) (hd2.upd ud) ?_ upd_same (by omega) hb
      cases q : H u with
      | none => rfl
      | some o => 
        have := e2 _ _ ud q
        rw [hu] at this
        cases this
end
end K0

set_option Elab.async false
set_option linter.all false
set_option maxRecDepth 100000
set_option maxHeartbeats 4000000
/-! Integers between bounds. -/
namespace K0
open PySem PySem.Spec PyProof.Rows L2 Gd
local macro_rules | `(tactic| walk_at "rd1") => `(tactic| first | with_reducible refine g_ret ?_ | with_reducible refine g_retN ?_ | with_reducible refine g_seq ?_ | with_reducible refine g_next ?_ | with_reducible refine g_drop ?_ | with_reducible refine g_asg ?_ | with_reducible refine g_name ?_ | with_reducible refine g_ifs ?_ | with_reducible refine g_test ?_ | with_reducible refine g_tb ?_ | with_reducible refine g_and ?_ | with_reducible refine g_or ?_ | with_reducible refine g_not ?_ | with_reducible refine g_andV ?_ | with_reducible refine g_orV ?_ | with_reducible refine g_notV ?_ | with_reducible refine g_if ?_ | with_reducible refine g_op ?_ | with_reducible refine g_un ?_ | with_reducible refine g_cb ?_ | with_reducible refine g_nil ?_ | with_reducible refine g_cons ?_ | with_reducible refine g_call ?_ | with_reducible refine g_callS ?_ | with_reducible refine g_tup ?_ | with_reducible refine g_lst ?_ | with_reducible refine g_isN ?_ | with_reducible refine g_sl ?_ | with_reducible refine g_nopart ?_ | with_reducible refine g_part ?_ | with_reducible refine g_chain ?_ | with_reducible refine g_fld ?_ | with_reducible refine g_prop ?_ | with_reducible refine g_bm ?_ | with_reducible refine g_bm0 ?_ | with_reducible refine g_c ?_ | with_reducible refine g_sub ?_ | with_reducible refine g_int1 ?_ | with_reducible refine g_int2 ?_ | with_reducible refine g_yes ?_ | with_reducible refine g_sfld ?_ | with_reducible refine g_NT ?_ | with_reducible refine g_NF ?_ | with_reducible refine iteT ?_ | with_reducible refine iteF ?_ | ((with_reducible refine' g_aug ?hv ?_); (case hv => exact rfl)) | ((with_reducible refine' g_var ?hv ?_); (case hv => exact rfl)) | with_reducible refine g_I0 ?_ | with_reducible refine g_U ?_ | with_reducible refine g_eqI ?_ | with_reducible refine g_blV ?_ | with_reducible refine g_inV ?_)
local macro_rules | `(tactic| walk_at "rd") => `(tactic| repeat walk_at "rd1")
section
variable {P : Program} {w : World} {K : PySem.W.Frag} {mg : Str → Option Value} {base : Heap} {f : Addr} {fd : FuncData}
abbrev sIsWithin : Stmt := top 14
abbrev sWithin : Stmt := top 15
/-- whether a value is an integer from lo to hi (the bounds have at most sixty digits) -/
def WithB (K : PySem.W.Frag) (H : Hp) (x : V) (lo hi : Int) (b : Bool) : Prop := (∃ i : Int, x = .int i ∧ b = decide (lo ≤ i ∧ i ≤ hi)) ∨ (WholeB K H x false ∧ b = false)
def spIsWithin (K : PySem.W.Frag) : Sp := fun vs H Q _ => ∃ (x : V) (lo hi : Int) (b : Bool), vs = [x, .int lo, .int hi] ∧ -(10 ^ 60) < lo ∧ hi < 10 ^ 60 ∧ WithB K H x lo hi b ∧ Q (.bl b) H
theorem scIsWithin : FnScope ["value", "low", "high"] ["value", "low", "high"] (defScope sIsWithin) := ⟨rfl, rfl, rfl, by decide +kernel, rfl, by decide +kernel, by decide +kernel⟩
theorem ok_isWithin {fW fI : Addr} {fdW fdI : FuncData} (F : Fun K "is_within" "is_within" sIsWithin f fd) (T : Txt K mg) (W : AtW K mg fW fdW) (I : AtI K mg fI fdI) : FnOk P w K mg base CX0 3 f fd ["value", "low", "high"] (spIsWithin K) := by
  have GI : FnOk P w K mg base CX0 2 fI fdI ["value"] (spInteger K) := ok_integer I.F T W
  refine F.ok scIsWithin (fun vs H Q E h => ?_) (fun cdv A outer s H vs Q E hr h => ?_)
  · obtain ⟨x, lo, hi, b, rfl, _⟩ := h
    rfl
  · obtain ⟨x, lo, hi, b, rfl, hlo, hhi, hx, k⟩ := h
    refine ⟨_, pss_one (ps_ret (pe_and (pe_call GI hr (by rfl) I.g I.F.kp I.b .nil pass0 (pa_cons (pv 0) pa_nil))
      (pe_one (pe_chain op_le op_le (pv 1) (pv 0) (pv 2))))), ?_⟩
    walk_at "rd"
    rcases hx with ⟨i, rfl, rfl⟩ | ⟨hx, rfl⟩
    · refine ⟨_, _, rfl, .inl ⟨i, rfl, rfl⟩, ?_⟩
      walk_at "rd"
      refine ite2 (fun h0 => ?_) (fun h0 => ?_)
      · walk_at "rd"
        refine ite2 (fun h1 => ?_) (fun h1 => ?_)
        · walk_at "rd"
          have e : decide (lo ≤ i ∧ i ≤ hi) = decide (i ≤ hi) := dec_l (of_decide_eq_true h1)
          rw [e] at k
          exact k
        · have h2 : ¬ lo ≤ i := fun z => h1 (decide_eq_true z)
          have e : decide (lo ≤ i ∧ i ≤ hi) = false := dec_n h2
          rw [e] at k
          exact k
      · have h2 : ¬ (-(10 ^ 60) < i ∧ i < 10 ^ 60) := fun z => h0 (decide_eq_true z)
        have e : decide (lo ≤ i ∧ i ≤ hi) = false := decide_eq_false (by omega)
        rw [e] at k
        exact k
    · refine ⟨_, _, rfl, .inr ⟨hx, rfl⟩, ?_⟩
      walk_at "rd"
      first | exact k | exact iteF k
structure AtV (K : PySem.W.Frag) (mg : Str → Option Value) (f : Addr) (fd : FuncData) : Prop where
  F : Fun K "is_within" "is_within" sIsWithin f fd
  b : Binds K fd ["value", "low", "high"] []
  g : mg "is_within" = some (.ref f)
def spWithin (K : PySem.W.Frag) (C : Addr) : Sp := fun vs H Q E => ∃ (x : V) (lo hi : Int) (b : Bool), vs = [x, .int lo, .int hi] ∧ -(10 ^ 60) < lo ∧ hi < 10 ^ 60 ∧ WithB K H x lo hi b ∧ (b = true → Q .non H) ∧
  (b = false → ∀ d, H d = none → E (.ref C) (some d) (upd H d (.xd [(("value" : Str), x)])))
theorem scWithin : FnScope ["value", "low", "high"] ["value", "low", "high"] (defScope sWithin) := ⟨rfl, rfl, rfl, by decide +kernel, rfl, by decide +kernel, by decide +kernel⟩
theorem ok_within {fW fI fV C fC : Addr} {fdW fdI fdV : FuncData} (F : Fun K "require_within" "require_within" sWithin f fd) (T : Txt K mg) (W : AtW K mg fW fdW) (I : AtI K mg fI fdI) (V : AtV K mg fV fdV) (N : PySem.XInvalidNumber.InvalidNumberTxt K mg C fC) :
    FnOk P w K mg base (L2.CX P w) 5 f fd ["value", "low", "high"] (spWithin K C) := by
  have GV : FnOk P w K mg base CX0 3 fV fdV ["value", "low", "high"] (spIsWithin K) := ok_isWithin V.F T W I
  refine F.okX scWithin (fun vs H Q E h => ?_) (fun cdv A outer s H vs Q E hr h => ?_)
  · obtain ⟨x, lo, hi, b, rfl, _⟩ := h
    rfl
  · obtain ⟨x, lo, hi, b, rfl, hlo, hhi, hx, k1, k2⟩ := h
    refine ⟨_, pss_one (ps_if (pt_not (pt_val (pe_call GV (hr.mono (by decide)) (by rfl) V.g V.F.kp V.b .nil pass0 (pa_cons (pv 0) (pa_cons (pv 1) (pa_cons (pv 2) pa_nil))))))
      (pss_one (ps_raiseInvalidNumber rfl N hr (takes_of rfl rfl rfl rfl) (by exact (pa_cons (pv 0) pa_nil)))) pss_nil), ?_⟩
    walk_at "rd"
    refine ⟨x, lo, hi, b, rfl, hlo, hhi, hx, ?_⟩
    walk_at "rd"
    cases b with
    | true => exact iteF (k1 rfl)
    | false =>
      refine iteT ?_
      refine ⟨_, rfl, _, rfl, ?_⟩
      exact k2 rfl
end
end K0

set_option Elab.async false
set_option linter.all false
set_option maxRecDepth 100000
set_option maxHeartbeats 4000000
/-! Lists without zeros at their end; reckoned polynomials. -/
namespace K0
open PySem PySem.Spec PyProof.Rows L2 Gd
local macro_rules | `(tactic| walk_at "rd1") => `(tactic| first | with_reducible refine g_ret ?_ | with_reducible refine g_retN ?_ | with_reducible refine g_seq ?_ | with_reducible refine g_next ?_ | with_reducible refine g_drop ?_ | with_reducible refine g_asg ?_ | with_reducible refine g_name ?_ | with_reducible refine g_ifs ?_ | with_reducible refine g_test ?_ | with_reducible refine g_tb ?_ | with_reducible refine g_and ?_ | with_reducible refine g_or ?_ | with_reducible refine g_not ?_ | with_reducible refine g_andV ?_ | with_reducible refine g_orV ?_ | with_reducible refine g_notV ?_ | with_reducible refine g_if ?_ | with_reducible refine g_op ?_ | with_reducible refine g_un ?_ | with_reducible refine g_cb ?_ | with_reducible refine g_nil ?_ | with_reducible refine g_cons ?_ | with_reducible refine g_call ?_ | with_reducible refine g_callS ?_ | with_reducible refine g_tup ?_ | with_reducible refine g_lst ?_ | with_reducible refine g_isN ?_ | with_reducible refine g_sl ?_ | with_reducible refine g_nopart ?_ | with_reducible refine g_part ?_ | with_reducible refine g_chain ?_ | with_reducible refine g_fld ?_ | with_reducible refine g_prop ?_ | with_reducible refine g_bm ?_ | with_reducible refine g_bm0 ?_ | with_reducible refine g_c ?_ | with_reducible refine g_sub ?_ | with_reducible refine g_int1 ?_ | with_reducible refine g_int2 ?_ | with_reducible refine g_yes ?_ | with_reducible refine g_sfld ?_ | with_reducible refine g_NT ?_ | with_reducible refine g_NF ?_ | with_reducible refine iteT ?_ | with_reducible refine iteF ?_ | ((with_reducible refine' g_aug ?hv ?_); (case hv => exact rfl)) | ((with_reducible refine' g_var ?hv ?_); (case hv => exact rfl)) | with_reducible refine g_I0 ?_ | with_reducible refine g_U ?_ | with_reducible refine g_eqI ?_ | with_reducible refine g_blV ?_ | with_reducible refine g_inV ?_)
local macro_rules | `(tactic| walk_at "rd") => `(tactic| repeat walk_at "rd1")
section
variable {P : Program} {w : World} {K : PySem.W.Frag} {mg : Str → Option Value} {base : Heap} {f : Addr} {fd : FuncData}
abbrev sPolyOf : Stmt := top 34
def spTrimmedL (K : PySem.W.Frag) : Sp := fun vs H Q _ => ∃ (a : Addr) (ns : List Int), vs = [.ref a] ∧ SqL K H a (ns.map V.int) ∧ ns.length ≤ 100000 ∧
  ∀ H' u, Ext H H' → SqT K H' u ((trim ns).map V.int) → Q (.ref u) H'
theorem ok_trimmedL (F : Fun K "trimmed" "trimmed" sTrimmed f fd) (T : Txt K mg) : FnOk P w K mg base CX0 1 f fd ["row"] (spTrimmedL K) := by
  refine F.ok scTrimmed (fun vs H Q E h => ?_) (fun cdv A outer s H vs Q E hr h => ?_)
  · obtain ⟨x, b, rfl, _⟩ := h
    rfl
  · obtain ⟨a, ns, rfl, hs, hl, k⟩ := h
    refine ⟨_, pss_cons (ps_set (i := 1) scTrimmed.nd rfl (Or.inl rfl) (pe_callB call_len_seq (by rfl) T.len PySem.boot_len (pa_cons (pv 0) pa_nil)))
      (pss_cons (ps_while PassesOwn.never (PW.pt (pw_and (pt_cmpR op_gt (pv 1) pe_int (nomark _)) (pw_and1 (pt_cmpR op_eq (pe_ix ix_list (pv 0) (pe_op op_sub (pv 1) pe_int) (fun _ _ => rfl)) pe_int (nomark _)))))
          (pss_one (ps_aug (i := 1) scTrimmed.nd rfl (Or.inl rfl) pe_int ip_sub)))
        (pss_one (ps_ret (pe_callTy call_tuple_of (by rfl) T.tuple (by decide +kernel) (pa_cons (pe_slice sl_list (pv 0) po_none (po_some (pv 1))) pa_nil))))), ?_⟩
    walk_at "rd"
    refine ⟨a, _, rfl, .inl hs, ?_⟩
    walk_at "rd"
    refine g_while (PvT a H ns) (muI 1) ⟨rfl, ns.length, by rw [List.length_map]; rfl, Nat.le_refl _, fun j x g e => by
        rw [List.getElem?_eq_none_iff.mpr g] at e
        cases e⟩ ?_
    rintro σ H' ⟨rfl, e, rfl, he, hz⟩
    walk_at "rd"
    have fin : (e = 0 ∨ ∃ x, ns[e - 1]? = some x ∧ x ≠ 0) → tRet (tCB (fun xs H Q => ∃ p ys, xs = [V.ref p] ∧ ((SqL K H p ys ∧ ∀ l, H l = none → Q (V.ref l) (upd H l (HO.tup ys))) ∨ (SqT K H p ys ∧ Q (V.ref p) H))) (tCons (tSl (rSlL K) (tVar 0) tNoPart (tPart (tVar 1))) tNil))
        { nx := fun x H' => Q V.non H', rt := Q } [some (V.ref a), some (V.int (e : Int))] H' := by
      intro hl'
      have et := trim_take ns e he hz hl'
      walk_at "rd"
      have s1 : HT.sIx (ns.map V.int).length 0 none = 0 := rfl
      have s2 : HT.sIx (ns.map V.int).length (ns.map V.int).length (some (e : Int)) = e := by
        rw [HT.sIx_nat, List.length_map]
        omega
      have ec : cutV (ns.map V.int) none (some (e : Int)) = (trim ns).map V.int := by
        unfold cutV
        rw [s1, s2, et, List.drop_zero, Nat.sub_zero, List.map_take]
      refine ⟨a, _, rfl, hs, fun p hp => ?_⟩
      rw [ec]
      walk_at "rd"
      refine ⟨p, _, rfl, .inl ⟨SqL.of upd_same, fun u hu => ?_⟩⟩
      exact k _ u (Ext.trans (Ext.new hp) (Ext.new hu)) (SqT.of upd_same)
    refine ite2 (fun h1 => ?_) (fun h1 => ?_)
    · have h1' : 0 < e := by
        have := of_decide_eq_true h1
        omega
      walk_at "rd"
      have hlt : e - 1 < ns.length := by omega
      have ge : (ns.map V.int)[e - 1]? = some (V.int ns[e - 1]) := by rw [mapget, List.getElem?_eq_getElem hlt]; rfl
      refine g_ixL hs (v := .int ns[e - 1]) ?_ ?_
      · have := atI_nat ge
        have q : ((e : Int) - 1) = ((e - 1 : Nat) : Int) := by omega
        rw [q]
        exact this
      walk_at "rd"
      refine ite2 (fun h2 => ?_) (fun h2 => ?_)
      · refine g_turn ?_
        walk_at "rd"
        refine ⟨_, _, rfl, rfl, ?_⟩
        refine ⟨⟨rfl, e - 1, ?_, by omega, fun j x g q => ?_⟩, ?_⟩
        · show [some (V.ref a), some (V.int ((e : Int) - 1))] = _
          have q : ((e : Int) - 1) = ((e - 1 : Nat) : Int) := by omega
          rw [q]
        · by_cases hj : j = e - 1
          · subst hj
            rw [List.getElem?_eq_getElem hlt] at q
            cases q
            exact of_decide_eq_true h2
          · exact hz j x (by omega) q
        · show ((e : Int) - 1).toNat < ((e : Int)).toNat
          omega
      · refine fin (.inr ⟨_, List.getElem?_eq_getElem hlt, fun z => h2 (decide_eq_true z)⟩)
    · refine iteF (fin (.inl ?_))
      have : ¬ (0 : Int) < (e : Int) := fun z => h1 (decide_eq_true z)
      omega
/-! ### poly_of -/
def spPolyOf (K : PySem.W.Frag) (C : Addr) (Sq : Hp → Addr → List V → Prop) : Sp := fun vs H Q _ => ∃ (a : Addr) (ns : List Int), vs = [.ref a] ∧ Sq H a (ns.map V.int) ∧ ns.length ≤ 100000 ∧
  ∀ H' p u, Ext H H' → PolyU K C H' p u (trim ns) → Q (.ref p) H'
/-- where __init__ stands -/
structure AtN (K : PySem.W.Frag) (C t0 f : Addr) (fd : FuncData) : Prop where
  F : FnI K t0 f fd
  M : Mk K C f
  b : Binds K fd ["self", "factors"] []
theorem bigN : Big [] := fun n hn => nomatch hn
theorem g_make1 {K : PySem.W.Frag} {C t0 : Addr} {E : XK} {σ : L2.St} {H : Hp} {Q : VK} (h0 : SqT K H t0 []) (k : ∀ H' p dx u, Ext H H' → H p = none → H' p = some (.ins C dx [(("_factors" : Str), .ref u)]) → SqT K H' u [] → Q (.ref p) H') : tMake C (spInit K C) [.ref t0] E tNil σ H Q := by
  intro x dx hx hdx ne
  have e1 : Ext H (upd (upd H dx (.own x)) x (.ins C dx [])) := fun b o q => by
    rw [upd_ne (ne_of_none q hx), upd_ne (ne_of_none q hdx)]
    exact q
  refine ⟨x, dx, t0, [], rfl, upd_same, sqT_ext e1 h0, by decide, bigN, fun H' u e hp hu => ⟨rfl, k H' x dx u (fun b o q => e b o (ne_of_none q hx) (e1 b o q)) hx hp hu⟩⟩
theorem scPolyOf : FnScope ["row", "poly"] ["row"] (defScope sPolyOf) := ⟨rfl, rfl, rfl, by decide +kernel, rfl, by decide +kernel, by decide +kernel⟩
theorem ok_polyOf {Sq : Hp → Addr → List V → Prop} {fC fT C t0 : Addr} {fdC fdT : FuncData} {ds : List Value} (F : Fun K "poly_of" "poly_of" sPolyOf f fd) (T : Txt K mg) (Cl : PC K mg C) (Ni : AtN K C t0 fC fdC)
    (b0 : Binds K fdC ["self", "factors"] ds) (hds : Vals [V.ref t0] ds) (hT0 : ∀ H, SqT K H t0 []) (R : AtT K mg fT fdT) (sq : ∀ H H' a xs, Ext H H' → Sq H a xs → Sq H' a xs)
    (GC : FnOk P w K mg base CX0 4 fC fdC ["self", "factors"] (spInit K C))
    (GT : FnOk P w K mg base CX0 1 fT fdT ["row"] (fun vs H Q _ => ∃ (a : Addr) (ns : List Int), vs = [.ref a] ∧ Sq H a (ns.map V.int) ∧ ns.length ≤ 100000 ∧ ∀ H' u, Ext H H' → SqT K H' u ((trim ns).map V.int) → Q (.ref u) H')) :
    FnOk P w K mg base CX0 6 f fd ["row"] (spPolyOf K C Sq) := by
  refine F.ok scPolyOf (fun vs H Q E h => ?_) (fun cdv A outer s H vs Q E hr h => ?_)
  · obtain ⟨a, ns, rfl, _⟩ := h
    rfl
  · obtain ⟨a, ns, rfl, hs, hl, k⟩ := h
    refine ⟨_, pss_cons (ps_set (i := 1) scPolyOf.nd rfl (Or.inl rfl) (pe_make0 Ni.M GC hr (by rfl) Cl.g b0 hds pass0))
      (pss_cons (ps_fld (pv 1) (pe_call GT (hr.mono (by decide)) (by rfl) R.g R.F.kp R.b .nil pass0 (pa_cons (pv 0) pa_nil)) rfl)
        (pss_one (ps_ret (pv 1)))), ?_⟩
    walk_at "rd"
    refine g_make1 (hT0 _) (fun H1 p dx u e1 hp0 hp hu => ?_)
    walk_at "rd"
    refine ⟨a, ns, rfl, sq _ _ _ _ e1 hs, hl, fun H2 v e2 hv => ?_⟩
    walk_at "rd"
    refine ⟨p, C, dx, _, rfl, e2 _ _ hp, Cl.cl, Cl.noF, by show 1 < 1000; decide, ?_⟩
    walk_at "rd"
    refine k _ p v (fun b o q => ?_) ⟨⟨dx, ?_⟩, ?_, Nat.le_trans (trim_len ns) hl⟩
    · rw [upd_ne (ne_of_none q hp0)]
      exact e2 _ _ (e1 _ _ q)
    · exact upd_same
    · rcases hv with (h | ⟨o, h⟩) | h
      · refine .inl (.inl ?_)
        rw [upd_ne (ne_of h (e2 _ _ hp) (by intro z; cases z))]
        exact h
      · refine .inl (.inr ⟨o, ?_⟩)
        rw [upd_ne (ne_of h (e2 _ _ hp) (by intro z; cases z))]
        exact h
      · exact .inr h
end
end K0

set_option Elab.async false
set_option linter.all false
set_option maxRecDepth 100000
set_option maxHeartbeats 4000000
/-! Rows negated and added. -/
namespace K0
open PySem PySem.Spec PyProof.Rows L2 Gd
local macro_rules | `(tactic| walk_at "rd1") => `(tactic| first | with_reducible refine g_ret ?_ | with_reducible refine g_retN ?_ | with_reducible refine g_seq ?_ | with_reducible refine g_next ?_ | with_reducible refine g_drop ?_ | with_reducible refine g_asg ?_ | with_reducible refine g_name ?_ | with_reducible refine g_ifs ?_ | with_reducible refine g_test ?_ | with_reducible refine g_tb ?_ | with_reducible refine g_and ?_ | with_reducible refine g_or ?_ | with_reducible refine g_not ?_ | with_reducible refine g_andV ?_ | with_reducible refine g_orV ?_ | with_reducible refine g_notV ?_ | with_reducible refine g_if ?_ | with_reducible refine g_op ?_ | with_reducible refine g_un ?_ | with_reducible refine g_cb ?_ | with_reducible refine g_nil ?_ | with_reducible refine g_cons ?_ | with_reducible refine g_call ?_ | with_reducible refine g_callS ?_ | with_reducible refine g_tup ?_ | with_reducible refine g_lst ?_ | with_reducible refine g_isN ?_ | with_reducible refine g_sl ?_ | with_reducible refine g_nopart ?_ | with_reducible refine g_part ?_ | with_reducible refine g_chain ?_ | with_reducible refine g_fld ?_ | with_reducible refine g_prop ?_ | with_reducible refine g_bm ?_ | with_reducible refine g_bm0 ?_ | with_reducible refine g_c ?_ | with_reducible refine g_sub ?_ | with_reducible refine g_int1 ?_ | with_reducible refine g_int2 ?_ | with_reducible refine g_yes ?_ | with_reducible refine g_sfld ?_ | with_reducible refine g_NT ?_ | with_reducible refine g_NF ?_ | with_reducible refine iteT ?_ | with_reducible refine iteF ?_ | ((with_reducible refine' g_aug ?hv ?_); (case hv => exact rfl)) | ((with_reducible refine' g_var ?hv ?_); (case hv => exact rfl)) | with_reducible refine g_I0 ?_ | with_reducible refine g_U ?_ | with_reducible refine g_eqI ?_ | with_reducible refine g_blV ?_ | with_reducible refine g_inV ?_)
local macro_rules | `(tactic| walk_at "rd") => `(tactic| repeat walk_at "rd1")
theorem PI_or {X : Cx} {tg e : Expr} {w1 w2 : TI} (h1 : PI X tg e w1) (h2 : PI X tg e w2) : PI X tg e (fun σ H R => w1 σ H R ∨ w2 σ H R) :=
  ⟨fun pins s σ H R I h => h.elim (h1.run pins s σ H R I) (h2.run pins s σ H R I)⟩
/-- the sum of two rows -/
def addR : List Int → List Int → List Int
  | [], b => b
  | a, [] => a
  | x :: a, y :: b => (x + y) :: addR a b
theorem addR_nil (a : List Int) : addR a [] = a := by cases a <;> rfl
theorem addR_comm : ∀ a b : List Int, addR a b = addR b a
  | [], b => (addR_nil b).symm
  | x :: a, [] => rfl
  | x :: a, y :: b => by
    show (x + y) :: addR a b = (y + x) :: addR b a
    rw [addR_comm a b, Int.add_comm]
theorem addR_zip : ∀ a b : List Int, b.length ≤ a.length → addR a b = List.zipWith (· + ·) a b ++ a.drop b.length
  | a, [], _ => by
    rw [addR_nil]
    simp
  | [], y :: b, h => absurd h (by simp)
  | x :: a, y :: b, h => by
    show (x + y) :: addR a b = _
    rw [addR_zip a b (by simpa using h)]
    rfl
theorem addR_len : ∀ a b : List Int, (addR a b).length = max a.length b.length
  | [], b => by simp [addR]
  | x :: a, [] => by simp [addR]
  | x :: a, y :: b => by
    show (addR a b).length + 1 = max (a.length + 1) (b.length + 1)
    rw [addR_len a b]
    omega
section
variable {P : Program} {w : World} {K : PySem.W.Frag} {mg : Str → Option Value} {base : Heap} {f : Addr} {fd : FuncData}
abbrev sNegated : Stmt := top 20
abbrev sAdded : Stmt := top 19
theorem sqE_ext {l : Bool} {H H' : Hp} {a : Addr} {xs : List V} (e : Ext H H') (h : SqE K l H a xs) : SqE K l H' a xs := by
  cases l with
  | true => exact sqL_ext e h
  | false => exact sqT_ext e h
def spNegated (K : PySem.W.Frag) : Sp := fun vs H Q _ => ∃ (l : Bool) (a : Addr) (ns : List Int), vs = [.ref a] ∧ SqE K l H a (ns.map V.int) ∧ ns.length ≤ 100000 ∧
  ∀ H' u, Ext H H' → H u = none → H' u = some (.lst ((ns.map fun n => -n).map V.int)) → Q (.ref u) H'
theorem scNegated : FnScope ["row", "factor"] ["row"] (defScope sNegated) := ⟨rfl, rfl, rfl, by decide +kernel, rfl, by decide +kernel, by decide +kernel⟩
theorem ok_negated (F : Fun K "negated" "negated" sNegated f fd) : FnOk P w K mg base CX0 1 f fd ["row"] (spNegated K) := by
  refine F.ok scNegated (fun vs H Q E h => ?_) (fun cdv A outer s H vs Q E hr h => ?_)
  · obtain ⟨l, a, ns, rfl, _⟩ := h
    rfl
  · obtain ⟨l, a, ns, rfl, hs, hl, k⟩ := h
    refine ⟨_, pss_one (ps_ret (pe_lc (own := [("factor", 1)]) (g := gName 1) (tt := tYes) rfl scNegated.nd (PI_or (pi_list (pv 0)) (pi_tup (pv 0))) (blkOk_by (N := ["row", "factor"]) (sc := defScope sNegated) (by decide +kernel)) (fun _ _ _ _ _ => pg_name (i := 1) scNegated.nd rfl (Or.inl rfl)) (fun _ _ _ _ _ => pts_nil)
      (fun _ _ _ _ _ => pe_un un_neg (pv 1)))), ?_⟩
    walk_at "rd"
    have hl' : ns.length < sizeLine := by
      rw [sizeLine_eq]
      omega
    have turn : ∀ D, H D = none → ∀ i x H', (ns.map V.int)[i]? = some x → (Ext H H' ∧ H' D = some (.lst (((ns.take i).map fun n => -n).map V.int))) →
        gName 1 x (wipe [some (V.ref a), none] [1]) H' fun σ2 H2 => wipe σ2 [1] = wipe [some (V.ref a), none] [1] ∧ tYes σ2 H2 fun b H3 =>
          if b = true then (tUn (rU fun i => V.int (-i)) (tVar 1)) σ2 H3 fun y H4 => ∃ acc, H4 D = some (.lst acc) ∧ acc.length < sizeLine ∧ (fun j H'' => Ext H H'' ∧ H'' D = some (.lst (((ns.take j).map fun n => -n).map V.int))) (i + 1) (upd H4 D (.lst (acc ++ [y])))
          else (fun j H'' => Ext H H'' ∧ H'' D = some (.lst (((ns.take j).map fun n => -n).map V.int))) (i + 1) H3 := by
      rintro D hD i x H' hi ⟨e, hD'⟩
      rw [mapget] at hi
      obtain ⟨n, hn, rfl⟩ := Option.map_eq_some_iff.mp hi
      have hlt : i < ns.length := (List.getElem?_eq_some_iff.mp hn).1
      refine ⟨rfl, ?_⟩
      walk_at "rd"
      refine ⟨_, hD', ?_, fun b o q => ?_, ?_⟩
      · rw [List.length_map, List.length_map, List.length_take]
        omega
      · rw [upd_ne (ne_of_none q hD)]
        exact e b o q
      · rw [upd_same, take_one hlt, List.map_append, List.map_append]
        have : ns[i] = n := by
          rw [List.getElem?_eq_getElem hlt] at hn
          exact Option.some.inj hn
        rw [this]
        rfl
    have fin : ∀ D, H D = none → ∀ H', Ext H H' ∧ H' D = some (.lst (((ns.take (ns.map V.int).length).map fun n => -n).map V.int)) → Q (.ref D) H' := by
      rintro D hD H' ⟨e, hD'⟩
      refine k _ D e hD ?_
      rw [hD', List.length_map, List.take_length]
    cases l with
    | true => exact .inl ⟨_, rfl, a, rfl, ⟨_, hs⟩, fun D hD => lc_list (xs := ns.map V.int) (fun i H' => Ext H H' ∧ H' D = some (.lst (((ns.take i).map fun n => -n).map V.int))) ⟨Ext.new hD, upd_same⟩ (fun i H' _ q => sqL_ext q.1 hs) (turn D hD) (fin D hD)⟩
    | false => exact .inr ⟨_, rfl, a, rfl, ⟨_, hs⟩, fun D hD => lc_tup (xs := ns.map V.int) (fun i H' => Ext H H' ∧ H' D = some (.lst (((ns.take i).map fun n => -n).map V.int))) ⟨Ext.new hD, upd_same⟩ (fun i H' _ q => sqT_ext q.1 hs) (turn D hD) (fin D hD)⟩
end
end K0

set_option Elab.async false
set_option linter.all false
set_option maxRecDepth 100000
set_option maxHeartbeats 4000000
/-! Rows added. -/
namespace K0
open PySem PySem.Spec PyProof.Rows L2 Gd
local macro_rules | `(tactic| walk_at "rd1") => `(tactic| first | with_reducible refine g_ret ?_ | with_reducible refine g_retN ?_ | with_reducible refine g_seq ?_ | with_reducible refine g_next ?_ | with_reducible refine g_drop ?_ | with_reducible refine g_asg ?_ | with_reducible refine g_name ?_ | with_reducible refine g_ifs ?_ | with_reducible refine g_test ?_ | with_reducible refine g_tb ?_ | with_reducible refine g_and ?_ | with_reducible refine g_or ?_ | with_reducible refine g_not ?_ | with_reducible refine g_andV ?_ | with_reducible refine g_orV ?_ | with_reducible refine g_notV ?_ | with_reducible refine g_if ?_ | with_reducible refine g_op ?_ | with_reducible refine g_un ?_ | with_reducible refine g_cb ?_ | with_reducible refine g_nil ?_ | with_reducible refine g_cons ?_ | with_reducible refine g_call ?_ | with_reducible refine g_callS ?_ | with_reducible refine g_tup ?_ | with_reducible refine g_lst ?_ | with_reducible refine g_isN ?_ | with_reducible refine g_sl ?_ | with_reducible refine g_nopart ?_ | with_reducible refine g_part ?_ | with_reducible refine g_chain ?_ | with_reducible refine g_fld ?_ | with_reducible refine g_prop ?_ | with_reducible refine g_bm ?_ | with_reducible refine g_bm0 ?_ | with_reducible refine g_c ?_ | with_reducible refine g_sub ?_ | with_reducible refine g_int1 ?_ | with_reducible refine g_int2 ?_ | with_reducible refine g_yes ?_ | with_reducible refine g_sfld ?_ | with_reducible refine g_NT ?_ | with_reducible refine g_NF ?_ | with_reducible refine iteT ?_ | with_reducible refine iteF ?_ | ((with_reducible refine' g_aug ?hv ?_); (case hv => exact rfl)) | ((with_reducible refine' g_var ?hv ?_); (case hv => exact rfl)) | with_reducible refine g_I0 ?_ | with_reducible refine g_U ?_ | with_reducible refine g_eqI ?_ | with_reducible refine g_blV ?_ | with_reducible refine g_inV ?_)
local macro_rules | `(tactic| walk_at "rd") => `(tactic| repeat walk_at "rd1")
section
variable {P : Program} {w : World} {K : PySem.W.Frag} {mg : Str → Option Value} {base : Heap} {f : Addr} {fd : FuncData}
def spAdded (K : PySem.W.Frag) : Sp := fun vs H Q _ => ∃ (l1 l2 : Bool) (a b : Addr) (ns ms : List Int), vs = [.ref a, .ref b] ∧ SqE K l1 H a (ns.map V.int) ∧ SqE K l2 H b (ms.map V.int) ∧ ns.length ≤ 100000 ∧ ms.length ≤ 100000 ∧
  ∀ H' u, Ext H H' → H u = none → H' u = some (.lst ((addR ns ms).map V.int)) → Q (.ref u) H'
theorem scAdded : FnScope ["one", "other", "x", "y"] ["one", "other"] (defScope sAdded) := ⟨rfl, rfl, rfl, by decide +kernel, rfl, by decide +kernel, by decide +kernel⟩
theorem sqE_or {l : Bool} {H : Hp} {a : Addr} {xs : List V} (h : SqE K l H a xs) : SqL K H a xs ∨ SqT K H a xs := by
  cases l with
  | true => exact .inl h
  | false => exact .inr h
theorem cut_drop {xs : List V} {m : Nat} (h : m ≤ xs.length) : cutV xs (some (m : Int)) none = xs.drop m := by
  unfold cutV
  have s1 : HT.sIx xs.length 0 (some (m : Int)) = m := by
    rw [HT.sIx_nat]
    omega
  have s2 : HT.sIx xs.length xs.length none = xs.length := rfl
  rw [s1, s2]
  exact List.take_of_length_le (by rw [List.length_drop]; exact Nat.le_refl _)
theorem g_dropE {l : Bool} {H : Hp} {a : Addr} {xs : List V} {m : Nat} {Q : VK} (h : SqE K l H a xs) (hm : m ≤ xs.length) (k : ∀ H' p, Ext H H' → (SqL K H' p (xs.drop m) ∨ SqT K H' p (xs.drop m)) → Q (.ref p) H') :
    rSlL K (.ref a) (some (m : Int)) none H Q ∨ rSlA K (.ref a) (some (m : Int)) none H Q := by
  cases l with
  | true =>
    refine .inl ⟨a, xs, rfl, h, fun p hp => ?_⟩
    rw [cut_drop hm]
    exact k _ p (Ext.new hp) (.inl (SqL.of upd_same))
  | false =>
    refine .inr ⟨a, xs, rfl, h, fun w => ?_, fun w p hp => ?_⟩
    · have z : m = 0 := by
        have := w.1
        rw [HT.sIx_nat] at this
        omega
      refine k H a (fun _ _ q => q) (.inr ?_)
      rw [z]
      exact h
    · rw [cut_drop hm]
      exact k _ p (Ext.new hp) (.inr (SqT.of upd_same))
theorem ok_added (F : Fun K "added" "added" sAdded f fd) (T : Txt K mg) (hz : mg "zip" = none) : FnOk P w K mg base CX0 1 f fd ["one", "other"] (spAdded K) := by
  refine F.ok scAdded (fun vs H Q E h => ?_) (fun cdv A outer s H vs Q E hr h => ?_)
  · obtain ⟨l1, l2, a, b, ns, ms, rfl, _⟩ := h
    rfl
  · obtain ⟨l1, l2, a, b, ns, ms, rfl, ha, hb, h1, h2, k⟩ := h
    refine ⟨_, pss_cons (ps_if (pt_cmpR op_lt (pe_callB call_len_seq (by rfl) T.len PySem.boot_len (pa_cons (pv 0) pa_nil)) (pe_callB call_len_seq (by rfl) T.len PySem.boot_len (pa_cons (pv 1) pa_nil)) (nomark _))
        (pss_one (ps_par (i := 0) (j := 1) rfl scAdded.nd rfl rfl (by decide) rfl rfl (pa_cons (pv 1) (pa_cons (pv 0) pa_nil)) rfl)) pss_nil)
      (pss_one (ps_ret (pe_op op_cat (pe_lc (own := [("x", 2), ("y", 3)]) (g := gTup K 2 (gCons (gName 2) (gCons (gName 3) gNil))) (tt := tYes) rfl scAdded.nd (pi_zipE (by rfl) hz (pa_cons (pv 0) (pa_cons (pv 1) pa_nil)))
            (blkOk_by (N := ["one", "other", "x", "y"]) (sc := defScope sAdded) (by decide +kernel)) (fun _ _ _ _ _ => pg_tup rfl (pgs_cons (pg_name (i := 2) scAdded.nd rfl (Or.inl rfl)) (pgs_cons (pg_name (i := 3) scAdded.nd rfl (Or.inl rfl)) pgs_nil))) (fun _ _ _ _ _ => pts_nil)
            (fun _ _ _ _ _ => pe_op op_add (pv 2) (pv 3)))
          (pe_callTy call_list_of (by rfl) T.list (by decide +kernel) (pa_cons (pe_slice (SlR.or sl_list sl_tupA) (pv 0) (po_some (pe_callB call_len_seq (by rfl) T.len PySem.boot_len (pa_cons (pv 1) pa_nil))) po_none) pa_nil))))), ?_⟩
    refine g_cut (fun σ H' => H' = H ∧ ∃ (l1 l2 : Bool) (a b : Addr) (xs ys : List Int), σ = [some (.ref a), some (.ref b), none, none] ∧ SqE K l1 H a (xs.map V.int) ∧ SqE K l2 H b (ys.map V.int) ∧ ys.length ≤ xs.length ∧ xs.length ≤ 100000 ∧ addR xs ys = addR ns ms) (fun σ' H' hN => ?_) (fun go => ?_)
    rotate_left
    · walk_at "rd"
      refine ⟨a, _, rfl, sqE_or ha, ?_⟩
      walk_at "rd"
      refine ⟨b, _, rfl, sqE_or hb, ?_⟩
      walk_at "rd"
      rw [List.length_map, List.length_map]
      refine ite2 (fun hc => ?_) (fun hc => ?_)
      · have hc' := of_decide_eq_true hc
        refine g_par ?_
        walk_at "rd"
        exact ⟨_, _, rfl, go _ _ ⟨rfl, l2, l1, b, a, ms, ns, rfl, hb, ha, by omega, h2, addR_comm ms ns⟩⟩
      · have hc' : ¬ (ns.length : Int) < (ms.length : Int) := fun z => hc (decide_eq_true z)
        exact go _ _ ⟨rfl, l1, l2, a, b, ns, ms, rfl, ha, hb, by omega, h1, rfl⟩
    · obtain ⟨rfl, l1, l2, a, b, xs, ys, rfl, ha, hb, hle, hx, ex⟩ := hN
      walk_at "rd"
      have hn : ys.length = min (xs.map V.int).length (ys.map V.int).length := by
        rw [List.length_map, List.length_map]
        omega
      have lz : (List.zipWith (· + ·) xs ys).length = ys.length := by
        rw [List.length_zipWith]
        omega
      have sz : (100000 : Nat) < sizeLine := by decide
      refine ⟨_, rfl, _, rfl, l1, l2, a, b, _, _, rfl, ha, hb, fun D hD => lc_it (walk_zipE hn) (fun i H2 => Ext H' H2 ∧ H2 D = some (.lst (((List.zipWith (· + ·) xs ys).take i).map V.int))) ⟨Ext.new hD, upd_same⟩
        (fun i H2 _ q => ⟨sqE_ext q.1 ha, sqE_ext q.1 hb⟩) ?_ ?_⟩
      · rintro i x Ha Hb hi ⟨e, hD'⟩ ⟨T, v, w, rfl, hT, rfl, hv, hw⟩
        have hv : (xs.map V.int)[i]? = some v := hv
        have hw : (ys.map V.int)[i]? = some w := hw
        rw [mapget] at hv hw
        obtain ⟨n, hn1, rfl⟩ := Option.map_eq_some_iff.mp hv
        obtain ⟨m, hm1, rfl⟩ := Option.map_eq_some_iff.mp hw
        have hlt : i < (List.zipWith (· + ·) xs ys).length := by omega
        have eq : (List.zipWith (· + ·) xs ys)[i] = n + m := by
          rw [List.getElem_zipWith]
          obtain ⟨q1, q2⟩ := List.getElem?_eq_some_iff.mp hn1
          obtain ⟨q3, q4⟩ := List.getElem?_eq_some_iff.mp hm1
          rw [q2, q4]
        have eT := Ext.new (o := HO.tup [V.int n, V.int m]) hT
        refine ⟨T, _, rfl, SqT.of upd_same, rfl, _, _, rfl, ?_⟩
        refine ⟨_, _, rfl, rfl, rfl, ?_⟩
        walk_at "rd"
        refine ⟨_, eT _ _ hD', ?_, fun b o q => ?_, ?_⟩
        · rw [List.length_map, List.length_take]
          omega
        · rw [upd_ne (ne_of_none q hD)]
          exact eT _ _ (e _ _ q)
        · rw [upd_same, take_one hlt, List.map_append, eq]
          rfl
      · rintro H2 ⟨e, hD'⟩
        rw [← lz, List.take_length] at hD'
        walk_at "rd"
        refine ⟨b, _, rfl, sqE_or (sqE_ext e hb), ?_⟩
        walk_at "rd"
        rw [List.length_map]
        refine g_dropE (sqE_ext e ha) (by rw [List.length_map]; exact hle) (fun H3 p e3 hp => ?_)
        walk_at "rd"
        refine ⟨p, _, rfl, hp, fun q hq => ?_⟩
        have eq3 := Ext.new (o := HO.lst ((xs.map V.int).drop ys.length)) hq
        refine ⟨D, q, _, _, rfl, rfl, eq3 _ _ (e3 _ _ hD'), upd_same, ?_, fun r hr => ?_⟩
        · rw [List.length_map, lz, List.length_drop, List.length_map]
          omega
        · refine k _ r (Ext.trans e (Ext.trans e3 (Ext.trans eq3 (Ext.new hr)))) ?_ ?_
          · cases z : H' r with
            | none => rfl
            | some o =>
              have := (Ext.trans e (Ext.trans e3 eq3)) _ _ z
              rw [hr] at this
              cases this
          · rw [upd_same, ← ex, addR_zip xs ys hle, List.map_append, List.map_drop]
end
end K0

set_option Elab.async false
set_option linter.all false
set_option maxRecDepth 100000
set_option maxHeartbeats 4000000
/-! Rows multiplied. -/
namespace K0
open PySem PySem.Spec PyProof.Rows L2 Gd
local macro_rules | `(tactic| walk_at "rd1") => `(tactic| first | with_reducible refine g_ret ?_ | with_reducible refine g_retN ?_ | with_reducible refine g_seq ?_ | with_reducible refine g_next ?_ | with_reducible refine g_drop ?_ | with_reducible refine g_asg ?_ | with_reducible refine g_name ?_ | with_reducible refine g_ifs ?_ | with_reducible refine g_test ?_ | with_reducible refine g_tb ?_ | with_reducible refine g_and ?_ | with_reducible refine g_or ?_ | with_reducible refine g_not ?_ | with_reducible refine g_andV ?_ | with_reducible refine g_orV ?_ | with_reducible refine g_notV ?_ | with_reducible refine g_if ?_ | with_reducible refine g_op ?_ | with_reducible refine g_un ?_ | with_reducible refine g_cb ?_ | with_reducible refine g_nil ?_ | with_reducible refine g_cons ?_ | with_reducible refine g_call ?_ | with_reducible refine g_callS ?_ | with_reducible refine g_tup ?_ | with_reducible refine g_lst ?_ | with_reducible refine g_isN ?_ | with_reducible refine g_sl ?_ | with_reducible refine g_nopart ?_ | with_reducible refine g_part ?_ | with_reducible refine g_chain ?_ | with_reducible refine g_fld ?_ | with_reducible refine g_prop ?_ | with_reducible refine g_bm ?_ | with_reducible refine g_bm0 ?_ | with_reducible refine g_c ?_ | with_reducible refine g_sub ?_ | with_reducible refine g_int1 ?_ | with_reducible refine g_int2 ?_ | with_reducible refine g_yes ?_ | with_reducible refine g_sfld ?_ | with_reducible refine g_NT ?_ | with_reducible refine g_NF ?_ | with_reducible refine iteT ?_ | with_reducible refine iteF ?_ | ((with_reducible refine' g_aug ?hv ?_); (case hv => exact rfl)) | ((with_reducible refine' g_var ?hv ?_); (case hv => exact rfl)) | with_reducible refine g_I0 ?_ | with_reducible refine g_U ?_ | with_reducible refine g_eqI ?_ | with_reducible refine g_blV ?_ | with_reducible refine g_inV ?_)
local macro_rules | `(tactic| walk_at "rd") => `(tactic| repeat walk_at "rd1")
/-! ### the mathematics: the factor of p ** k of a product -/
def at0 (b : List Int) (k : Nat) : Int := (b[k]?).getD 0
def co : List Int → List Int → Nat → Int
  | [], _, _ => 0
  | x :: _, b, 0 => x * at0 b 0
  | x :: a, b, k + 1 => x * at0 b (k + 1) + co a b k
/-- what x at the place n gives to that of k -/
def tm (x : Int) (n : Nat) (b : List Int) (k : Nat) : Int := if n ≤ k then x * at0 b (k - n) else 0
theorem co_snoc : ∀ (a : List Int) (x : Int) (b : List Int) (k : Nat), co (a ++ [x]) b k = co a b k + tm x a.length b k
  | [], x, b, 0 => by
    show x * at0 b 0 = 0 + _
    unfold tm
    simp
  | [], x, b, k + 1 => by
    show x * at0 b (k + 1) + 0 = 0 + _
    unfold tm
    simp
  | y :: a, x, b, 0 => by
    show y * at0 b 0 = y * at0 b 0 + tm x (a.length + 1) b 0
    unfold tm
    simp
  | y :: a, x, b, k + 1 => by
    show y * at0 b (k + 1) + co (a ++ [x]) b k = y * at0 b (k + 1) + co a b k + tm x (a.length + 1) b (k + 1)
    rw [co_snoc a x b k]
    have : tm x (a.length + 1) b (k + 1) = tm x a.length b k := by
      unfold tm
      by_cases h : a.length ≤ k
      · rw [if_pos h, if_pos (by omega), Nat.add_sub_add_right]
      · rw [if_neg h, if_neg (by omega)]
    rw [this, Int.add_assoc]
def mulR (a b : List Int) : List Int := (List.range (a.length + b.length)).map (co a b)
theorem mulR_len (a b : List Int) : (mulR a b).length = a.length + b.length := by
  unfold mulR
  rw [List.length_map, List.length_range]
/-- the row behind i items of the one and j of the other -/
def part (a b : List Int) (i j : Nat) (k : Nat) : Int := co (a.take i) b k + (if k < i + j then tm (at0 a i) i b k else 0)
theorem part_0 (a b : List Int) (k : Nat) : part a b 0 0 k = 0 := by
  unfold part
  rw [if_neg (by omega)]
  rfl
theorem part_zero (a b : List Int) (i k : Nat) : part a b i 0 k = co (a.take i) b k := by
  unfold part
  by_cases h : k < i + 0
  · rw [if_pos h]
    unfold tm
    rw [if_neg (by omega)]
    omega
  · rw [if_neg h]
    omega
theorem part_end {a b : List Int} {i : Nat} (hi : i < a.length) (k : Nat) (hk : k < a.length + b.length) : part a b i b.length k = co (a.take (i + 1)) b k := by
  have e : a.take (i + 1) = a.take i ++ [at0 a i] := by
    rw [take_one hi]
    unfold at0
    rw [List.getElem?_eq_getElem hi]
    rfl
  rw [e, co_snoc, List.length_take, Nat.min_eq_left (Nat.le_of_lt hi)]
  unfold part
  by_cases h : k < i + b.length
  · rw [if_pos h]
  · rw [if_neg h]
    unfold tm
    rw [if_pos (by omega)]
    have : at0 b (k - i) = 0 := by
      unfold at0
      rw [List.getElem?_eq_none_iff.mpr (by omega)]
      rfl
    rw [this, Int.mul_zero]
theorem part_same {a b : List Int} {i : Nat} (h : at0 a i = 0) (j k : Nat) : part a b i j k = co (a.take i) b k := by
  unfold part tm
  rw [h]
  split
  · split <;> simp
  · simp
theorem part_step {a b : List Int} {i j : Nat} (k : Nat) : part a b i (j + 1) k = if k = i + j then part a b i j k + at0 a i * at0 b j else part a b i j k := by
  unfold part
  by_cases h : k = i + j
  · subst h
    rw [if_pos rfl, if_pos (by omega), if_neg (by omega)]
    unfold tm
    rw [if_pos (by omega), Nat.add_sub_cancel_left]
    omega
  · rw [if_neg h]
    by_cases g : k < i + j
    · rw [if_pos g, if_pos (by omega)]
    · rw [if_neg g, if_neg (by omega)]
/-- the row as it stands -/
def rowAt (a b : List Int) (i j : Nat) : List Int := (List.range (a.length + b.length)).map (part a b i j)
theorem rowAt_len (a b : List Int) (i j : Nat) : (rowAt a b i j).length = a.length + b.length := by
  unfold rowAt
  rw [List.length_map, List.length_range]
theorem rowAt_get {a b : List Int} {i j k : Nat} (h : k < a.length + b.length) : (rowAt a b i j)[k]? = some (part a b i j k) := by
  unfold rowAt
  rw [List.getElem?_map, List.getElem?_range h]
  rfl
theorem row_ext {r s : List Int} (hl : r.length = s.length) (h : ∀ k, k < r.length → r[k]? = s[k]?) : r = s := by
  apply List.ext_getElem? 
  intro k
  by_cases g : k < r.length
  · exact h k g
  · rw [List.getElem?_eq_none_iff.mpr (by omega), List.getElem?_eq_none_iff.mpr (by omega)]
theorem rowAt_0 (a b : List Int) : rowAt a b 0 0 = List.replicate (a.length + b.length) 0 := by
  refine row_ext (by rw [rowAt_len, List.length_replicate]) fun k hk => ?_
  rw [rowAt_len] at hk
  rw [rowAt_get hk, part_0, List.getElem?_replicate, if_pos hk]
theorem rowAt_next {a b : List Int} {i : Nat} (hi : i < a.length) : rowAt a b i b.length = rowAt a b (i + 1) 0 := by
  refine row_ext (by rw [rowAt_len, rowAt_len]) fun k hk => ?_
  rw [rowAt_len] at hk
  rw [rowAt_get hk, rowAt_get hk, part_end hi k hk, part_zero]
theorem rowAt_skip {a b : List Int} {i : Nat} (hi : i < a.length) (h : at0 a i = 0) : rowAt a b i 0 = rowAt a b (i + 1) 0 := by
  rw [← rowAt_next hi]
  refine row_ext (by rw [rowAt_len, rowAt_len]) fun k hk => ?_
  rw [rowAt_len] at hk
  rw [rowAt_get hk, rowAt_get hk, part_same h, part_same h]
theorem rowAt_end (a b : List Int) : rowAt a b a.length 0 = mulR a b := by
  refine row_ext (by rw [rowAt_len, mulR_len]) fun k hk => ?_
  rw [rowAt_len] at hk
  rw [rowAt_get hk, part_zero, List.take_length]
  unfold mulR
  rw [List.getElem?_map, List.getElem?_range hk]
  rfl
theorem rowAt_set {a b : List Int} {i j : Nat} (h : i + j < a.length + b.length) : (rowAt a b i j).set (i + j) (part a b i j (i + j) + at0 a i * at0 b j) = rowAt a b i (j + 1) := by
  refine row_ext (by rw [List.length_set, rowAt_len, rowAt_len]) fun k hk => ?_
  rw [List.length_set, rowAt_len] at hk
  rw [rowAt_get hk, part_step]
  by_cases e : k = i + j
  · subst e
    rw [if_pos rfl, List.getElem?_set_self (by rw [rowAt_len]; exact hk)]
  · rw [if_neg e, List.getElem?_set_ne (Ne.symm e), rowAt_get hk]
end K0

set_option Elab.async false
set_option linter.all false
set_option maxRecDepth 100000
set_option maxHeartbeats 4000000
/-! The def that multiplies rows. -/
namespace K0
open PySem PySem.Spec PyProof.Rows L2 Gd
local macro_rules | `(tactic| walk_at "rd1") => `(tactic| first | with_reducible refine g_ret ?_ | with_reducible refine g_retN ?_ | with_reducible refine g_seq ?_ | with_reducible refine g_next ?_ | with_reducible refine g_drop ?_ | with_reducible refine g_asg ?_ | with_reducible refine g_name ?_ | with_reducible refine g_ifs ?_ | with_reducible refine g_test ?_ | with_reducible refine g_tb ?_ | with_reducible refine g_and ?_ | with_reducible refine g_or ?_ | with_reducible refine g_not ?_ | with_reducible refine g_andV ?_ | with_reducible refine g_orV ?_ | with_reducible refine g_notV ?_ | with_reducible refine g_if ?_ | with_reducible refine g_op ?_ | with_reducible refine g_un ?_ | with_reducible refine g_cb ?_ | with_reducible refine g_nil ?_ | with_reducible refine g_cons ?_ | with_reducible refine g_call ?_ | with_reducible refine g_callS ?_ | with_reducible refine g_tup ?_ | with_reducible refine g_lst ?_ | with_reducible refine g_isN ?_ | with_reducible refine g_sl ?_ | with_reducible refine g_nopart ?_ | with_reducible refine g_part ?_ | with_reducible refine g_chain ?_ | with_reducible refine g_fld ?_ | with_reducible refine g_prop ?_ | with_reducible refine g_bm ?_ | with_reducible refine g_bm0 ?_ | with_reducible refine g_c ?_ | with_reducible refine g_sub ?_ | with_reducible refine g_int1 ?_ | with_reducible refine g_int2 ?_ | with_reducible refine g_yes ?_ | with_reducible refine g_sfld ?_ | with_reducible refine g_NT ?_ | with_reducible refine g_NF ?_ | with_reducible refine iteT ?_ | with_reducible refine iteF ?_ | ((with_reducible refine' g_aug ?hv ?_); (case hv => exact rfl)) | ((with_reducible refine' g_var ?hv ?_); (case hv => exact rfl)) | with_reducible refine g_I0 ?_ | with_reducible refine g_U ?_ | with_reducible refine g_eqI ?_ | with_reducible refine g_blV ?_ | with_reducible refine g_inV ?_)
local macro_rules | `(tactic| walk_at "rd") => `(tactic| repeat walk_at "rd1")
section
variable {P : Program} {w : World} {K : PySem.W.Frag} {mg : Str → Option Value} {base : Heap} {f : Addr} {fd : FuncData}
abbrev sMultiplied : Stmt := top 21
def Bits (A : Nat) (ns : List Int) : Prop := ∀ n ∈ ns, n.natAbs < 2 ^ A
def spMultiplied (K : PySem.W.Frag) : Sp := fun vs H Q _ => ∃ (a b : Addr) (ns ms : List Int) (A B : Nat), vs = [.ref a, .ref b] ∧ SqT K H a (ns.map V.int) ∧ SqT K H b (ms.map V.int) ∧ ns.length ≤ 50000 ∧ ms.length ≤ 50000 ∧ 0 < A ∧ 0 < B ∧ A + B ≤ 1000000 ∧ Bits A ns ∧ Bits B ms ∧
  ∀ H' u, Ext H H' → H u = none → H' u = some (.lst ((mulR ns ms).map V.int)) → Q (.ref u) H'
theorem scMultiplied : FnScope ["one", "other", "row", "i", "x", "j", "y"] ["one", "other"] (defScope sMultiplied) := ⟨rfl, rfl, rfl, by decide +kernel, rfl, by decide +kernel, by decide +kernel⟩
def PvO (a b l : Addr) (H0 : Hp) (ns ms : List Int) (i : Nat) : L2.St → Hp → Prop := fun σ H' => ∃ x1 x2 x3 x4 : Option V, σ = [some (.ref a), some (.ref b), some (.ref l), x1, x2, x3, x4] ∧ H0 l = none ∧ Ext H0 H' ∧ H' l = some (.lst ((rowAt ns ms i 0).map V.int))
def PvN (a b l : Addr) (H0 : Hp) (ns ms : List Int) (i : Nat) (x : Int) (j : Nat) : L2.St → Hp → Prop := fun σ H' => ∃ x3 x4 : Option V, σ = [some (.ref a), some (.ref b), some (.ref l), some (.int (i : Int)), some (.int x), x3, x4] ∧ H0 l = none ∧ Ext H0 H' ∧ H' l = some (.lst ((rowAt ns ms i j).map V.int))
theorem g_forE {K : PySem.W.Frag} {ta : TA} {g : TG} {tb : TS} {D : Ends} {σ : L2.St} {H : Hp} (k : ta σ H fun vs H1 => ∃ t xs, vs = [.ref t] ∧ SqT K H1 t xs ∧ ∃ W : Nat → Nat → L2.St → Hp → Prop, (∃ m, W 0 m σ H1) ∧ ∀ i m σ H, W i m σ H →
  ((IteT K t).stop i H ∧ D.nx σ H) ∨ ((IteT K t).go i H ∧ ∃ N : L2.St → Hp → Prop, (∀ σ' H', N σ' H' → ∃ m', m' < m ∧ W (i + 1) m' σ' H') ∧ ∀ x H', (IteT K t).yld i H x H' → g x σ H' fun σ2 H2 => tb { D with nx := N, ct := N, bk := D.nx } σ2 H2)) :
    tFor (iEnumT K ta) g tb D σ H := k
theorem flatL_zero (m : Nat) : (List.replicate m [V.int 0]).flatten = (List.replicate m (0 : Int)).map V.int := by
  induction m with
  | zero => rfl
  | succ m ih =>
    rw [List.replicate_succ, List.replicate_succ, List.flatten_cons, List.map_cons, ih]
    rfl
theorem ixN_nat {n i : Nat} (h : i < n) : ixN n (i : Int) = some i := by
  unfold ixN
  simp [h]
theorem ok_multiplied (F : Fun K "multiplied" "multiplied" sMultiplied f fd) (T : Txt K mg) (hen : mg "enumerate" = none) : FnOk P w K mg base CX0 1 f fd ["one", "other"] (spMultiplied K) := by
  refine F.ok scMultiplied (fun vs H Q E h => ?_) (fun cdv A outer s H vs Q E hr h => ?_)
  · obtain ⟨a, b, ns, ms, A, B, rfl, _⟩ := h
    rfl
  · obtain ⟨a, b, ns, ms, A, B, rfl, ha, hb, ln, lm, A0, B0, AB, hA, hB, k⟩ := h
    refine ⟨_, pss_cons (ps_set (i := 2) scMultiplied.nd rfl (Or.inl rfl) (pe_op op_rep (pe_lst (pa_cons pe_int pa_nil)) (pe_op op_add (pe_callB call_len_seq (by rfl) T.len PySem.boot_len (pa_cons (pv 0) pa_nil)) (pe_callB call_len_seq (by rfl) T.len PySem.boot_len (pa_cons (pv 1) pa_nil)))))
      (pss_cons (ps_for PassesOwn.never rfl (pi_enumT (by rfl) hen (pa_cons (pv 0) pa_nil)) (pg_tup rfl (pgs_cons (pg_name (i := 3) scMultiplied.nd rfl (Or.inl rfl)) (pgs_cons (pg_name (i := 4) scMultiplied.nd rfl (Or.inl rfl)) pgs_nil)))
          (pss_one (ps_if (pt_cmpR op_ne (pv 4) pe_int (nomark _))
            (pss_one (ps_for PassesOwn.never rfl (pi_enumT (by rfl) hen (pa_cons (pv 1) pa_nil)) (pg_tup rfl (pgs_cons (pg_name (i := 5) scMultiplied.nd rfl (Or.inl rfl)) (pgs_cons (pg_name (i := 6) scMultiplied.nd rfl (Or.inl rfl)) pgs_nil)))
              (pss_one (ps_asg (pe_op op_add (pe_ix ix_list (pv 2) (pe_op op_add (pv 3) (pv 5)) (fun _ _ => rfl)) (pe_op op_mulW (pv 4) (pv 6))) (pg_sub (pv 2) (pe_op op_add (pv 3) (pv 5)) set_list))))) pss_nil)))
        (pss_one (ps_ret (pv 2)))), ?_⟩
    have sz : (100000 : Nat) < sizeLine := by decide
    walk_at "rd"
    refine ⟨by show 1 ≤ sizeLine; decide, fun z hz => ?_⟩
    have ez := Ext.new (o := HO.lst [V.int 0]) hz
    walk_at "rd"
    refine ⟨a, _, rfl, .inr (sqT_ext ez ha), ?_⟩
    walk_at "rd"
    refine ⟨b, _, rfl, .inr (sqT_ext ez hb), ?_⟩
    walk_at "rd"
    rw [List.length_map, List.length_map]
    refine ⟨z, _, [V.int 0], rfl, rfl, upd_same, by omega, by omega, ?_, fun l hl => ?_⟩
    · show 1 * _ ≤ sizeLine
      omega
    have el := Ext.trans ez (Ext.new (o := HO.lst (List.replicate ((ns.length : Int) + (ms.length : Int)).toNat [V.int 0]).flatten) hl)
    have hl0 : H l = none := by
      cases q : H l with
      | none => rfl
      | some o =>
        have := ez _ _ q
        rw [hl] at this
        cases this
    have hL : upd (upd H z (.lst [V.int 0])) l (.lst (List.replicate ((ns.length : Int) + (ms.length : Int)).toNat [V.int 0]).flatten) l = some (.lst ((rowAt ns ms 0 0).map V.int)) := by
      rw [upd_same, flatL_zero, rowAt_0]
      have : ((ns.length : Int) + (ms.length : Int)).toNat = ns.length + ms.length := by omega
      rw [this]
    generalize upd (upd H z (.lst [V.int 0])) l (.lst (List.replicate ((ns.length : Int) + (ms.length : Int)).toNat [V.int 0]).flatten) = H1 at el hL
    walk_at "rd"
    refine g_forE ?_
    walk_at "rd"
    refine ⟨a, _, rfl, sqT_ext el ha, for_enumT (xs := ns.map V.int) (PvO a b l H ns ms) ⟨_, _, _, _, rfl, hl0, el, hL⟩ (fun i σ H2 _ p => ?_) ?_ ?_⟩
    · obtain ⟨_, _, _, _, _, _, e, _⟩ := p
      exact sqT_ext e ha
    · rintro i v σ H2 T hi ⟨x1, x2, x3, x4, rfl, _, e2, hL2⟩ hT
      rw [mapget] at hi
      obtain ⟨x, hx, rfl⟩ := Option.map_eq_some_iff.mp hi
      have hlt : i < ns.length := (List.getElem?_eq_some_iff.mp hx).1
      have ax : at0 ns i = x := by
        unfold at0
        rw [hx]
        rfl
      have eT := Ext.new (o := HO.tup [V.int (i : Nat), V.int x]) hT
      refine ⟨T, _, rfl, SqT.of upd_same, rfl, _, _, rfl, ?_⟩
      refine ⟨_, _, rfl, rfl, ?_⟩
      have e3 := Ext.trans e2 eT
      have hL3 := eT _ _ hL2
      generalize upd H2 T (.tup [V.int (i : Nat), V.int x]) = H3 at e3 hL3
      walk_at "rd"
      refine g_ne (by rfl) ?_
      walk_at "rd"
      by_cases h0 : x = 0
      · subst h0
        rw [decide_eq_true rfl]
        walk_at "rd"
        exact ⟨_, _, _, _, rfl, hl0, e3, by rw [hL3, rowAt_skip hlt ax]⟩
      · rw [decide_eq_false (by simpa using h0)]
        walk_at "rd"
        refine g_forE ?_
        walk_at "rd"
        refine ⟨b, _, rfl, sqT_ext e3 hb, for_enumT (xs := ms.map V.int) (PvN a b l H ns ms i x) ⟨_, _, rfl, hl0, e3, hL3⟩ (fun j σ H4 _ p => ?_) ?_ ?_⟩
        · obtain ⟨_, _, _, _, e, _⟩ := p
          exact sqT_ext e hb
        · rintro j v σ H4 T2 hj ⟨x3, x4, rfl, _, e4, hL4⟩ hT2
          rw [mapget] at hj
          obtain ⟨y, hy, rfl⟩ := Option.map_eq_some_iff.mp hj
          have hlj : j < ms.length := (List.getElem?_eq_some_iff.mp hy).1
          have ay : at0 ms j = y := by
            unfold at0
            rw [hy]
            rfl
          have eT2 := Ext.new (o := HO.tup [V.int (j : Nat), V.int y]) hT2
          refine ⟨T2, _, rfl, SqT.of upd_same, rfl, _, _, rfl, ?_⟩
          refine ⟨_, _, rfl, rfl, ?_⟩
          have e5 := Ext.trans e4 eT2
          have hL5 := eT2 _ _ hL4
          generalize upd H4 T2 (.tup [V.int (j : Nat), V.int y]) = H5 at e5 hL5
          walk_at "rd"
          have q : ((i : Int) + (j : Int)) = ((i + j : Nat) : Int) := by omega
          have lij : i + j < ns.length + ms.length := by omega
          rw [q]
          refine g_ixL (SqL.of hL5) (v := .int (part ns ms i j (i + j))) (atI_nat (by rw [mapget, rowAt_get lij]; rfl)) ?_
          walk_at "rd"
          refine g_I (wide_mul (hA x (List.mem_of_getElem? hx)) (hB y (List.mem_of_getElem? hy)) A0 B0 AB) ?_
          walk_at "rd"
          rw [q]
          refine ⟨l, _, _, i + j, rfl, rfl, hL5, ?_, ?_⟩
          · exact ixN_nat (by rw [List.length_map, rowAt_len]; exact lij)
          · refine ⟨_, _, rfl, hl0, fun o ob g => ?_, ?_⟩
            · rw [upd_ne (ne_of_none g hl0)]
              exact e5 _ _ g
            · rw [upd_same, ← rowAt_set lij, ax, ay, List.map_set]
        · rintro σ H4 ⟨x3, x4, rfl, _, e4, hL4⟩
          rw [List.length_map, rowAt_next hlt] at hL4
          exact ⟨_, _, _, _, rfl, hl0, e4, hL4⟩
    · rintro σ H2 ⟨x1, x2, x3, x4, rfl, _, e2, hL2⟩
      rw [List.length_map, rowAt_end] at hL2
      walk_at "rd"
      exact k _ l e2 hl0 hL2
end
end K0

set_option Elab.async false
set_option linter.all false
set_option maxRecDepth 100000
set_option maxHeartbeats 4000000
/-! + - * and - of polynomials. -/
namespace K0
open PySem PySem.Spec PyProof.Rows L2 Gd
local macro_rules | `(tactic| walk_at "rd1") => `(tactic| first | with_reducible refine g_ret ?_ | with_reducible refine g_retN ?_ | with_reducible refine g_seq ?_ | with_reducible refine g_next ?_ | with_reducible refine g_drop ?_ | with_reducible refine g_asg ?_ | with_reducible refine g_name ?_ | with_reducible refine g_ifs ?_ | with_reducible refine g_test ?_ | with_reducible refine g_tb ?_ | with_reducible refine g_and ?_ | with_reducible refine g_or ?_ | with_reducible refine g_not ?_ | with_reducible refine g_andV ?_ | with_reducible refine g_orV ?_ | with_reducible refine g_notV ?_ | with_reducible refine g_if ?_ | with_reducible refine g_op ?_ | with_reducible refine g_un ?_ | with_reducible refine g_cb ?_ | with_reducible refine g_nil ?_ | with_reducible refine g_cons ?_ | with_reducible refine g_call ?_ | with_reducible refine g_callS ?_ | with_reducible refine g_tup ?_ | with_reducible refine g_lst ?_ | with_reducible refine g_isN ?_ | with_reducible refine g_sl ?_ | with_reducible refine g_nopart ?_ | with_reducible refine g_part ?_ | with_reducible refine g_chain ?_ | with_reducible refine g_fld ?_ | with_reducible refine g_prop ?_ | with_reducible refine g_bm ?_ | with_reducible refine g_bm0 ?_ | with_reducible refine g_c ?_ | with_reducible refine g_sub ?_ | with_reducible refine g_int1 ?_ | with_reducible refine g_int2 ?_ | with_reducible refine g_yes ?_ | with_reducible refine g_sfld ?_ | with_reducible refine g_NT ?_ | with_reducible refine g_NF ?_ | with_reducible refine iteT ?_ | with_reducible refine iteF ?_ | ((with_reducible refine' g_aug ?hv ?_); (case hv => exact rfl)) | ((with_reducible refine' g_var ?hv ?_); (case hv => exact rfl)) | with_reducible refine g_I0 ?_ | with_reducible refine g_U ?_ | with_reducible refine g_eqI ?_ | with_reducible refine g_blV ?_ | with_reducible refine g_inV ?_)
local macro_rules | `(tactic| walk_at "rd") => `(tactic| repeat walk_at "rd1")
section
variable {P : Program} {w : World} {K : PySem.W.Frag} {mg : Str → Option Value} {base : Heap} {f C : Addr} {fd : FuncData}
abbrev sOperand : Stmt := top 35
/-- where a def stands -/
structure At (K : PySem.W.Frag) (mg : Str → Option Value) (name : Str) (st : Stmt) (ps : List Str) (f : Addr) (fd : FuncData) : Prop where
  F : Fun K name name st f fd
  b : Binds K fd ps []
  g : mg name = some (.ref f)
/-- a right operand with its row: a polynomial or an integer -/
def OpRow (K : PySem.W.Frag) (C : Addr) (H : Hp) (y : V) (ms : List Int) : Prop := (∃ q v, y = .ref q ∧ PolyU K C H q v ms) ∨ ∃ i : Int, y = .int i ∧ ms = [i]
theorem OpRow.ext {H H' : Hp} {y : V} {ms : List Int} (e : Ext H H') (h : OpRow K C H y ms) : OpRow K C H' y ms := by
  rcases h with ⟨q, v, rfl, h⟩ | h
  · exact .inl ⟨q, v, rfl, h.ext e⟩
  · exact .inr h
theorem OpRow.len {H : Hp} {y : V} {ms : List Int} (h : OpRow K C H y ms) : ms.length ≤ 100000 := by
  rcases h with ⟨q, v, rfl, h⟩ | ⟨i, _, rfl⟩
  · exact h.2.2
  · show 1 ≤ 100000
    decide
structure AtP (K : PySem.W.Frag) (C : Addr) (name qual : Str) (j : Nat) (p f : Addr) (fd : FuncData) : Prop where
  F : Fun K name qual (cls j) f fd
  b : Binds K fd ["self"] []
  p : PropOf K C name p f
def spOperand (K : PySem.W.Frag) (C : Addr) : Sp := fun vs H Q _ => ∃ (y : V) (ms : List Int), vs = [y] ∧ OpRow K C H y ms ∧ ∀ H' u, Ext H H' → SqT K H' u (ms.map V.int) → Q (.ref u) H'
theorem scOperand : FnScope ["value"] ["value"] (defScope sOperand) := ⟨rfl, rfl, rfl, by decide +kernel, rfl, by decide +kernel, by decide +kernel⟩
theorem ok_operand {fW pF fF : Addr} {fdW fdF : FuncData} (F : Fun K "operand_row" "operand_row" sOperand f fd) (T : Txt K mg) (Cl : PC K mg C) (W : AtW K mg fW fdW) (PF : AtP K C "factors" "Poly.factors" 2 pF fF fdF)
    (ni : PySem.W.kitOne K (.type "int") (.ref C) = some false) : FnOk P w K mg base CX0 3 f fd ["value"] (spOperand K C) := by
  have GW : FnOk P w K mg base CX0 1 fW fdW ["value"] (spWhole K) := ok_whole W.F T
  have GF : FnOk P w K mg base CX0 1 fF fdF ["self"] (spGet K C fun u _ => .ref u) := ok_factors PF.F Cl
  refine F.ok scOperand (fun vs H Q E h => ?_) (fun cdv A outer s H vs Q E hr h => ?_)
  · obtain ⟨y, ms, rfl, _⟩ := h
    rfl
  · obtain ⟨y, ms, rfl, hy, k⟩ := h
    refine ⟨_, pss_cons (ps_if (pt_val (pe_callB call_isi (by rfl) T.isinstance (by decide +kernel) (pa_cons (pv 0) (pa_cons (pe_glob (v := .ref C) (by rfl) Cl.g rfl) pa_nil)))) (pss_one (ps_ret (pe_prop (pv 0) Cl.cl PF.p GF (hr.mono (by decide)) PF.b .nil pass0 rfl))) pss_nil)
      (pss_one (ps_ret (pe_ifExp (pt_val (pe_call GW (hr.mono (by decide)) (by rfl) W.g W.F.kp W.b .nil pass0 (pa_cons (pv 0) pa_nil))) (pe_tup (pa_cons (pv 0) pa_nil)) pe_non))), ?_⟩
    walk_at "rd"
    rcases hy with ⟨q, v, rfl, hp⟩ | ⟨i, rfl, rfl⟩
    · obtain ⟨⟨dx, hq⟩, hv, hl⟩ := id hp
      refine ⟨_, _, _, _, true, rfl, .own C, Cl.ty hq, Cl.kit, ?_⟩
      walk_at "rd"
      exact ⟨q, dx, _, rfl, hq, q, v, ms, rfl, hp, k _ v (fun _ _ z => z) hv⟩
    · refine ⟨_, _, _, _, false, rfl, .own C, .base (.int i), ni, ?_⟩
      walk_at "rd"
      refine ⟨_, _, rfl, whole_int, ?_⟩
      walk_at "rd"
      refine ⟨by show 1 ≤ sizeLine; decide, fun u hu => ?_⟩
      exact k _ u (Ext.new hu) (SqT.of upd_same)
end
end K0

set_option Elab.async false
set_option linter.all false
set_option maxRecDepth 100000
set_option maxHeartbeats 4000000
/-! The operators of polynomials. -/
namespace K0
open PySem PySem.Spec PyProof.Rows L2 Gd
local macro_rules | `(tactic| walk_at "rd1") => `(tactic| first | with_reducible refine g_ret ?_ | with_reducible refine g_retN ?_ | with_reducible refine g_seq ?_ | with_reducible refine g_next ?_ | with_reducible refine g_drop ?_ | with_reducible refine g_asg ?_ | with_reducible refine g_name ?_ | with_reducible refine g_ifs ?_ | with_reducible refine g_test ?_ | with_reducible refine g_tb ?_ | with_reducible refine g_and ?_ | with_reducible refine g_or ?_ | with_reducible refine g_not ?_ | with_reducible refine g_andV ?_ | with_reducible refine g_orV ?_ | with_reducible refine g_notV ?_ | with_reducible refine g_if ?_ | with_reducible refine g_op ?_ | with_reducible refine g_un ?_ | with_reducible refine g_cb ?_ | with_reducible refine g_nil ?_ | with_reducible refine g_cons ?_ | with_reducible refine g_call ?_ | with_reducible refine g_callS ?_ | with_reducible refine g_tup ?_ | with_reducible refine g_lst ?_ | with_reducible refine g_isN ?_ | with_reducible refine g_sl ?_ | with_reducible refine g_nopart ?_ | with_reducible refine g_part ?_ | with_reducible refine g_chain ?_ | with_reducible refine g_fld ?_ | with_reducible refine g_prop ?_ | with_reducible refine g_bm ?_ | with_reducible refine g_bm0 ?_ | with_reducible refine g_c ?_ | with_reducible refine g_sub ?_ | with_reducible refine g_int1 ?_ | with_reducible refine g_int2 ?_ | with_reducible refine g_yes ?_ | with_reducible refine g_sfld ?_ | with_reducible refine g_NT ?_ | with_reducible refine g_NF ?_ | with_reducible refine iteT ?_ | with_reducible refine iteF ?_ | ((with_reducible refine' g_aug ?hv ?_); (case hv => exact rfl)) | ((with_reducible refine' g_var ?hv ?_); (case hv => exact rfl)) | with_reducible refine g_I0 ?_ | with_reducible refine g_U ?_ | with_reducible refine g_eqI ?_ | with_reducible refine g_blV ?_ | with_reducible refine g_inV ?_)
local macro_rules | `(tactic| walk_at "rd") => `(tactic| repeat walk_at "rd1")
section
variable {P : Program} {w : World} {K : PySem.W.Frag} {mg : Str → Option Value} {base : Heap} {f C : Addr} {fd : FuncData}
def negR (ns : List Int) : List Int := ns.map fun n => -n
theorem negR_len (ns : List Int) : (negR ns).length = ns.length := List.length_map _
/-- what an operator promises: op the rows' operation, B what is asked of both rows -/
def spBin (K : PySem.W.Frag) (C : Addr) (op : List Int → List Int → List Int) (B : List Int → List Int → Prop) : Sp := fun vs H Q _ => ∃ (p u : Addr) (ns ms : List Int) (y : V), vs = [.ref p, y] ∧ PolyU K C H p u ns ∧ OpRow K C H y ms ∧ B ns ms ∧
  ∀ H' q v, Ext H H' → PolyU K C H' q v (trim (op ns ms)) → Q (.ref q) H'
def spNegP (K : PySem.W.Frag) (C : Addr) : Sp := fun vs H Q _ => ∃ (p u : Addr) (ns : List Int), vs = [.ref p] ∧ PolyU K C H p u ns ∧ ∀ H' q v, Ext H H' → PolyU K C H' q v (trim (negR ns)) → Q (.ref q) H'
theorem scB6 : FnScope ["self", "other", "row"] ["self", "other"] (defScope (cls 6)) := ⟨rfl, rfl, rfl, by decide +kernel, rfl, by decide +kernel, by decide +kernel⟩
theorem scB7 : FnScope ["self", "other", "row"] ["self", "other"] (defScope (cls 7)) := ⟨rfl, rfl, rfl, by decide +kernel, rfl, by decide +kernel, by decide +kernel⟩
theorem scB8 : FnScope ["self", "other", "row"] ["self", "other"] (defScope (cls 8)) := ⟨rfl, rfl, rfl, by decide +kernel, rfl, by decide +kernel, by decide +kernel⟩
theorem scB9 : FnScope ["self"] ["self"] (defScope (cls 9)) := ⟨rfl, rfl, rfl, by decide +kernel, rfl, by decide +kernel, by decide +kernel⟩
/-- what the operators lean on -/
structure Ops (P : Program) (w : World) (K : PySem.W.Frag) (mg : Str → Option Value) (base : Heap) (C fO fP fA fN fM : Addr) (fdO fdP fdA fdN fdM : FuncData) : Prop where
  O : At K mg "operand_row" sOperand ["value"] fO fdO
  Po : At K mg "poly_of" sPolyOf ["row"] fP fdP
  A : At K mg "added" sAdded ["one", "other"] fA fdA
  N : At K mg "negated" sNegated ["row"] fN fdN
  M : At K mg "multiplied" sMultiplied ["one", "other"] fM fdM
  GO : FnOk P w K mg base CX0 3 fO fdO ["value"] (spOperand K C)
  GP : FnOk P w K mg base CX0 6 fP fdP ["row"] (spPolyOf K C (SqL K))
  GA : FnOk P w K mg base CX0 1 fA fdA ["one", "other"] (spAdded K)
  GN : FnOk P w K mg base CX0 1 fN fdN ["row"] (spNegated K)
  GM : FnOk P w K mg base CX0 1 fM fdM ["one", "other"] (spMultiplied K)
variable {fO fP fA fN fM : Addr} {fdO fdP fdA fdN fdM : FuncData}
theorem ok_add (F : Fun K "__add__" "Poly.__add__" (cls 6) f fd) (Cl : PC K mg C) (O : Ops P w K mg base C fO fP fA fN fM fdO fdP fdA fdN fdM) :
    FnOk P w K mg base CX0 7 f fd ["self", "other"] (spBin K C addR fun _ _ => True) := by
  refine F.ok scB6 (fun vs H Q E h => ?_) (fun cdv A outer s H vs Q E hr h => ?_)
  · obtain ⟨p, u, ns, ms, y, rfl, _⟩ := h
    rfl
  · obtain ⟨p, u, ns, ms, y, rfl, hp, hy, _, k⟩ := h
    refine ⟨_, pss_cons (ps_set (i := 2) scB6.nd rfl (Or.inl rfl) (pe_call O.GO (hr.mono (by decide)) (by rfl) O.O.g O.O.F.kp O.O.b .nil pass0 (pa_cons (pv 1) pa_nil)))
      (pss_cons (ps_if (pt_cmp (pc_isN (pv 2))) (pss_one ps_never) pss_nil)
        (pss_one (ps_ret (pe_call O.GP hr (by rfl) O.Po.g O.Po.F.kp O.Po.b .nil pass0 (pa_cons (pe_call O.GA (hr.mono (by decide)) (by rfl) O.A.g O.A.F.kp O.A.b .nil pass0 (pa_cons (pe_fld (pv 0) rfl) (pa_cons (pv 2) pa_nil))) pa_nil))))), ?_⟩
    walk_at "rd"
    refine ⟨y, ms, rfl, hy, fun H1 v e1 hv => ?_⟩
    walk_at "rd"
    rw [decide_eq_false (show ¬ V.ref v = .non by intro z; cases z)]
    walk_at "rd"
    obtain ⟨⟨dx, hp1⟩, hu1, hl1⟩ := hp.ext e1
    refine ⟨p, C, dx, _, _, rfl, hp1, Cl.cl, Cl.noF, look1, ?_⟩
    walk_at "rd"
    refine ⟨false, false, u, v, ns, ms, rfl, hu1, hv, hl1, hy.len, fun H2 t e2 _ ht => ?_⟩
    walk_at "rd"
    refine ⟨t, _, rfl, SqL.of ht, ?_, fun H3 q z e3 hq => k H3 q z (Ext.trans e1 (Ext.trans e2 e3)) hq⟩
    have := hy.len
    rw [addR_len]
    omega
theorem ok_sub (F : Fun K "__sub__" "Poly.__sub__" (cls 7) f fd) (Cl : PC K mg C) (O : Ops P w K mg base C fO fP fA fN fM fdO fdP fdA fdN fdM) :
    FnOk P w K mg base CX0 7 f fd ["self", "other"] (spBin K C (fun a b => addR a (negR b)) fun _ _ => True) := by
  refine F.ok scB7 (fun vs H Q E h => ?_) (fun cdv A outer s H vs Q E hr h => ?_)
  · obtain ⟨p, u, ns, ms, y, rfl, _⟩ := h
    rfl
  · obtain ⟨p, u, ns, ms, y, rfl, hp, hy, _, k⟩ := h
    refine ⟨_, pss_cons (ps_set (i := 2) scB7.nd rfl (Or.inl rfl) (pe_call O.GO (hr.mono (by decide)) (by rfl) O.O.g O.O.F.kp O.O.b .nil pass0 (pa_cons (pv 1) pa_nil)))
      (pss_cons (ps_if (pt_cmp (pc_isN (pv 2))) (pss_one ps_never) pss_nil)
        (pss_one (ps_ret (pe_call O.GP hr (by rfl) O.Po.g O.Po.F.kp O.Po.b .nil pass0 (pa_cons (pe_call O.GA (hr.mono (by decide)) (by rfl) O.A.g O.A.F.kp O.A.b .nil pass0 (pa_cons (pe_fld (pv 0) rfl)
          (pa_cons (pe_call O.GN (hr.mono (by decide)) (by rfl) O.N.g O.N.F.kp O.N.b .nil pass0 (pa_cons (pv 2) pa_nil)) pa_nil))) pa_nil))))), ?_⟩
    walk_at "rd"
    refine ⟨y, ms, rfl, hy, fun H1 v e1 hv => ?_⟩
    walk_at "rd"
    rw [decide_eq_false (show ¬ V.ref v = .non by intro z; cases z)]
    walk_at "rd"
    obtain ⟨⟨dx, hp1⟩, hu1, hl1⟩ := hp.ext e1
    refine ⟨p, C, dx, _, _, rfl, hp1, Cl.cl, Cl.noF, look1, ?_⟩
    walk_at "rd"
    refine ⟨false, v, ms, rfl, hv, hy.len, fun H2 n e2 _ hn => ?_⟩
    walk_at "rd"
    refine ⟨false, true, u, n, ns, negR ms, rfl, sqT_ext e2 hu1, SqL.of hn, hl1, by rw [negR_len]; exact hy.len, fun H3 t e3 _ ht => ?_⟩
    walk_at "rd"
    refine ⟨t, _, rfl, SqL.of ht, ?_, fun H4 q z e4 hq => k H4 q z (Ext.trans e1 (Ext.trans e2 (Ext.trans e3 e4))) hq⟩
    have := hy.len
    rw [addR_len, negR_len]
    omega
/-- rows whose product fits -/
def MulB (ns ms : List Int) : Prop := ns.length ≤ 50000 ∧ ms.length ≤ 50000 ∧ ∃ A B, 0 < A ∧ 0 < B ∧ A + B ≤ 1000000 ∧ Bits A ns ∧ Bits B ms
theorem ok_mul (F : Fun K "__mul__" "Poly.__mul__" (cls 8) f fd) (Cl : PC K mg C) (O : Ops P w K mg base C fO fP fA fN fM fdO fdP fdA fdN fdM) :
    FnOk P w K mg base CX0 7 f fd ["self", "other"] (spBin K C mulR MulB) := by
  refine F.ok scB8 (fun vs H Q E h => ?_) (fun cdv A outer s H vs Q E hr h => ?_)
  · obtain ⟨p, u, ns, ms, y, rfl, _⟩ := h
    rfl
  · obtain ⟨p, u, ns, ms, y, rfl, hp, hy, ⟨ln, lm, A1, B1, A0, B0, AB, hA, hB⟩, k⟩ := h
    refine ⟨_, pss_cons (ps_set (i := 2) scB8.nd rfl (Or.inl rfl) (pe_call O.GO (hr.mono (by decide)) (by rfl) O.O.g O.O.F.kp O.O.b .nil pass0 (pa_cons (pv 1) pa_nil)))
      (pss_cons (ps_if (pt_cmp (pc_isN (pv 2))) (pss_one ps_never) pss_nil)
        (pss_one (ps_ret (pe_call O.GP hr (by rfl) O.Po.g O.Po.F.kp O.Po.b .nil pass0 (pa_cons (pe_call O.GM (hr.mono (by decide)) (by rfl) O.M.g O.M.F.kp O.M.b .nil pass0 (pa_cons (pe_fld (pv 0) rfl) (pa_cons (pv 2) pa_nil))) pa_nil))))), ?_⟩
    walk_at "rd"
    refine ⟨y, ms, rfl, hy, fun H1 v e1 hv => ?_⟩
    walk_at "rd"
    rw [decide_eq_false (show ¬ V.ref v = .non by intro z; cases z)]
    walk_at "rd"
    obtain ⟨⟨dx, hp1⟩, hu1, hl1⟩ := hp.ext e1
    refine ⟨p, C, dx, _, _, rfl, hp1, Cl.cl, Cl.noF, look1, ?_⟩
    walk_at "rd"
    refine ⟨u, v, ns, ms, A1, B1, rfl, hu1, hv, ln, lm, A0, B0, AB, hA, hB, fun H2 t e2 _ ht => ?_⟩
    walk_at "rd"
    refine ⟨t, _, rfl, SqL.of ht, ?_, fun H3 q z e3 hq => k H3 q z (Ext.trans e1 (Ext.trans e2 e3)) hq⟩
    rw [mulR_len]
    omega
theorem ok_neg (F : Fun K "__neg__" "Poly.__neg__" (cls 9) f fd) (Cl : PC K mg C) (O : Ops P w K mg base C fO fP fA fN fM fdO fdP fdA fdN fdM) :
    FnOk P w K mg base CX0 7 f fd ["self"] (spNegP K C) := by
  refine F.ok scB9 (fun vs H Q E h => ?_) (fun cdv A outer s H vs Q E hr h => ?_)
  · obtain ⟨p, u, ns, rfl, _⟩ := h
    rfl
  · obtain ⟨p, u, ns, rfl, ⟨⟨dx, hp⟩, hu, hl⟩, k⟩ := h
    refine ⟨_, pss_one (ps_ret (pe_call O.GP hr (by rfl) O.Po.g O.Po.F.kp O.Po.b .nil pass0 (pa_cons (pe_call O.GN (hr.mono (by decide)) (by rfl) O.N.g O.N.F.kp O.N.b .nil pass0 (pa_cons (pe_fld (pv 0) rfl) pa_nil)) pa_nil))), ?_⟩
    walk_at "rd"
    refine ⟨p, C, dx, _, _, rfl, hp, Cl.cl, Cl.noF, look1, ?_⟩
    walk_at "rd"
    refine ⟨false, u, ns, rfl, hu, hl, fun H1 t e1 _ ht => ?_⟩
    walk_at "rd"
    refine ⟨t, negR ns, rfl, SqL.of ht, by rw [negR_len]; exact hl, fun H2 q z e2 hq => k H2 q z (Ext.trans e1 e2) hq⟩
end
end K0

set_option Elab.async false
set_option linter.all false
set_option maxRecDepth 100000
set_option maxHeartbeats 4000000
/-! The law's own product. -/
namespace K0
open PySem PySem.Spec PyProof.Rows L2 Gd
local macro_rules | `(tactic| walk_at "rd1") => `(tactic| first | with_reducible refine g_ret ?_ | with_reducible refine g_retN ?_ | with_reducible refine g_seq ?_ | with_reducible refine g_next ?_ | with_reducible refine g_drop ?_ | with_reducible refine g_asg ?_ | with_reducible refine g_name ?_ | with_reducible refine g_ifs ?_ | with_reducible refine g_test ?_ | with_reducible refine g_tb ?_ | with_reducible refine g_and ?_ | with_reducible refine g_or ?_ | with_reducible refine g_not ?_ | with_reducible refine g_andV ?_ | with_reducible refine g_orV ?_ | with_reducible refine g_notV ?_ | with_reducible refine g_if ?_ | with_reducible refine g_op ?_ | with_reducible refine g_un ?_ | with_reducible refine g_cb ?_ | with_reducible refine g_nil ?_ | with_reducible refine g_cons ?_ | with_reducible refine g_call ?_ | with_reducible refine g_callS ?_ | with_reducible refine g_tup ?_ | with_reducible refine g_lst ?_ | with_reducible refine g_isN ?_ | with_reducible refine g_sl ?_ | with_reducible refine g_nopart ?_ | with_reducible refine g_part ?_ | with_reducible refine g_chain ?_ | with_reducible refine g_fld ?_ | with_reducible refine g_prop ?_ | with_reducible refine g_bm ?_ | with_reducible refine g_bm0 ?_ | with_reducible refine g_c ?_ | with_reducible refine g_sub ?_ | with_reducible refine g_int1 ?_ | with_reducible refine g_int2 ?_ | with_reducible refine g_yes ?_ | with_reducible refine g_sfld ?_ | with_reducible refine g_NT ?_ | with_reducible refine g_NF ?_ | with_reducible refine iteT ?_ | with_reducible refine iteF ?_ | ((with_reducible refine' g_aug ?hv ?_); (case hv => exact rfl)) | ((with_reducible refine' g_var ?hv ?_); (case hv => exact rfl)) | with_reducible refine g_I0 ?_ | with_reducible refine g_U ?_ | with_reducible refine g_eqI ?_ | with_reducible refine g_blV ?_ | with_reducible refine g_inV ?_)
local macro_rules | `(tactic| walk_at "rd") => `(tactic| repeat walk_at "rd1")
section
variable {P : Program} {w : World} {K : PySem.W.Frag} {mg : Str → Option Value} {base : Heap} {f : Addr} {fd : FuncData}
abbrev sTimes : Stmt := top 43
def spTimes (K : PySem.W.Frag) : Sp := fun vs H Q _ => ∃ (a b : Addr) (ns ms : List Int) (A B : Nat), vs = [.ref a, .ref b] ∧ SqT K H a (ns.map V.int) ∧ SqT K H b (ms.map V.int) ∧ ns.length ≤ 50000 ∧ ms.length ≤ 50000 ∧ 0 < A ∧ 0 < B ∧ A + B ≤ 1000000 ∧ Bits A ns ∧ Bits B ms ∧
  ∀ H' u, Ext H H' → SqT K H' u ((trim (mulR ns ms)).map V.int) → Q (.ref u) H'
theorem scTimes : FnScope ["_law_one", "_law_other", "_law_found", "_law_turn", "_law_at", "_law_left", "_law_spot", "_law_right_here"] ["_law_one", "_law_other"] (defScope sTimes) := ⟨rfl, rfl, rfl, by decide +kernel, rfl, by decide +kernel, by decide +kernel⟩
def PvO2 (a b l : Addr) (H0 : Hp) (ns ms : List Int) (i : Nat) : L2.St → Hp → Prop := fun σ H' => ∃ x0 x1 x2 x3 x4 : Option V, σ = [some (.ref a), some (.ref b), some (.ref l), x0, x1, x2, x3, x4] ∧ H0 l = none ∧ Ext H0 H' ∧ H' l = some (.lst ((rowAt ns ms i 0).map V.int))
def PvN2 (a b l : Addr) (H0 : Hp) (ns ms : List Int) (i : Nat) (x : Int) (j : Nat) : L2.St → Hp → Prop := fun σ H' => ∃ x0 x3 x4 : Option V, σ = [some (.ref a), some (.ref b), some (.ref l), x0, some (.int (i : Int)), some (.int x), x3, x4] ∧ H0 l = none ∧ Ext H0 H' ∧ H' l = some (.lst ((rowAt ns ms i j).map V.int))
theorem ok_times {fT : Addr} {fdT : FuncData} (F : Fun K "_law_times" "_law_times" sTimes f fd) (T : Txt K mg) (hen : mg "enumerate" = none) (hrg : mg "range" = none) (LT : At K mg "_law_trimmed" sLTrim ["_law_factors_here"] fT fdT)
    (GT : FnOk P w K mg base CX0 1 fT fdT ["_law_factors_here"] (spLTrim K)) : FnOk P w K mg base CX0 2 f fd ["_law_one", "_law_other"] (spTimes K) := by
  refine F.ok scTimes (fun vs H Q E h => ?_) (fun cdv A outer s H vs Q E hr h => ?_)
  · obtain ⟨a, b, ns, ms, A, B, rfl, _⟩ := h
    rfl
  · obtain ⟨a, b, ns, ms, A, B, rfl, ha, hb, ln, lm, A0, B0, AB, hA, hB, k⟩ := h
    refine ⟨_, pss_cons (ps_setLc (i := 2) (own := [("_law_turn", 3)]) (g := gName 3) (tt := tYes) rfl scTimes.nd rfl rfl (by rfl) (pi_range1 (by rfl) hrg (pa_cons (pe_op op_add (pe_callB call_len_seq (by rfl) T.len PySem.boot_len (pa_cons (pv 0) pa_nil)) (pe_callB call_len_seq (by rfl) T.len PySem.boot_len (pa_cons (pv 1) pa_nil))) pa_nil))
          (blkOk_by (N := ["_law_one", "_law_other", "_law_found", "_law_turn", "_law_at", "_law_left", "_law_spot", "_law_right_here"]) (sc := defScope sTimes) (by decide +kernel)) (fun _ _ _ _ _ => pg_name (i := 3) scTimes.nd rfl (Or.inl rfl)) (fun _ _ _ _ _ => pts_nil) (fun _ _ _ _ _ => pe_int))
      (pss_cons (ps_for PassesOwn.never rfl (pi_enumT (by rfl) hen (pa_cons (pv 0) pa_nil)) (pg_tup rfl (pgs_cons (pg_name (i := 4) scTimes.nd rfl (Or.inl rfl)) (pgs_cons (pg_name (i := 5) scTimes.nd rfl (Or.inl rfl)) pgs_nil)))
          (pss_one (ps_for PassesOwn.never rfl (pi_enumT (by rfl) hen (pa_cons (pv 1) pa_nil)) (pg_tup rfl (pgs_cons (pg_name (i := 6) scTimes.nd rfl (Or.inl rfl)) (pgs_cons (pg_name (i := 7) scTimes.nd rfl (Or.inl rfl)) pgs_nil)))
              (pss_one (ps_asg (pe_op op_add (pe_ix ix_list (pv 2) (pe_op op_add (pv 4) (pv 6)) (fun _ _ => rfl)) (pe_op op_mulW (pv 5) (pv 7))) (pg_sub (pv 2) (pe_op op_add (pv 4) (pv 6)) set_list))))))
        (pss_one (ps_ret (pe_call GT hr (by rfl) LT.g LT.F.kp LT.b .nil pass0 (pa_cons (pv 2) pa_nil))))), ?_⟩
    have sz : (100000 : Nat) < sizeLine := by decide
    refine g_cut (fun σ H' => ∃ l, PvO2 a b l H ns ms 0 σ H') (fun σ' H' hN => ?_) (fun go => ?_)
    rotate_left
    · walk_at "rd"
      refine ⟨_, rfl, a, _, rfl, .inr ha, ?_⟩
      walk_at "rd"
      refine ⟨b, _, rfl, .inr hb, ?_⟩
      walk_at "rd"
      rw [List.length_map, List.length_map]
      refine ⟨by omega, by omega, fun D hD => ?_⟩
      have en : ((ns.length : Int) + (ms.length : Int)).toNat = ns.length + ms.length := by omega
      rw [en]
      refine lc_it walk_range (fun i H' => Ext H H' ∧ H' D = some (.lst ((List.replicate i (0 : Int)).map V.int))) ⟨Ext.new hD, upd_same⟩ (fun _ _ _ _ => trivial) ?_ ?_
      · rintro i x H1 H2 hi ⟨e, hD'⟩ ⟨rfl, rfl⟩
        refine ⟨rfl, ?_⟩
        walk_at "rd"
        refine ⟨_, hD', ?_, fun b o q => ?_, ?_⟩
        · rw [List.length_map, List.length_replicate]
          omega
        · rw [upd_ne (ne_of_none q hD)]
          exact e b o q
        · rw [upd_same, List.replicate_succ', List.map_append]
          rfl
      · rintro H1 ⟨e, hD'⟩
        exact go _ _ ⟨D, _, _, _, _, _, rfl, hD, e, by rw [hD', rowAt_0]⟩
    obtain ⟨l, x0, x1, x2, x3, x4, rfl, hl0, el, hL⟩ := hN
    walk_at "rd"
    refine g_forE ?_
    walk_at "rd"
    refine ⟨a, _, rfl, sqT_ext el ha, for_enumT (xs := ns.map V.int) (PvO2 a b l H ns ms) ⟨_, _, _, _, _, rfl, hl0, el, hL⟩ (fun i σ H2 _ p => ?_) ?_ ?_⟩
    · obtain ⟨_, _, _, _, _, _, _, e, _⟩ := p
      exact sqT_ext e ha
    · rintro i v σ H2 T hi ⟨y0, y1, y2, y3, y4, rfl, _, e2, hL2⟩ hT
      rw [mapget] at hi
      obtain ⟨x, hx, rfl⟩ := Option.map_eq_some_iff.mp hi
      have hlt : i < ns.length := (List.getElem?_eq_some_iff.mp hx).1
      have ax : at0 ns i = x := by
        unfold at0
        rw [hx]
        rfl
      have eT := Ext.new (o := HO.tup [V.int (i : Nat), V.int x]) hT
      refine ⟨T, _, rfl, SqT.of upd_same, rfl, _, _, rfl, ?_⟩
      refine ⟨_, _, rfl, rfl, ?_⟩
      have e3 := Ext.trans e2 eT
      have hL3 := eT _ _ hL2
      generalize upd H2 T (.tup [V.int (i : Nat), V.int x]) = H3 at e3 hL3
      refine g_forE ?_
      walk_at "rd"
      refine ⟨b, _, rfl, sqT_ext e3 hb, for_enumT (xs := ms.map V.int) (PvN2 a b l H ns ms i x) ⟨_, _, _, rfl, hl0, e3, hL3⟩ (fun j σ H4 _ p => ?_) ?_ ?_⟩
      · obtain ⟨_, _, _, _, _, e, _⟩ := p
        exact sqT_ext e hb
      · rintro j v σ H4 T2 hj ⟨z0, z3, z4, rfl, _, e4, hL4⟩ hT2
        rw [mapget] at hj
        obtain ⟨y, hy, rfl⟩ := Option.map_eq_some_iff.mp hj
        have hlj : j < ms.length := (List.getElem?_eq_some_iff.mp hy).1
        have ay : at0 ms j = y := by
          unfold at0
          rw [hy]
          rfl
        have eT2 := Ext.new (o := HO.tup [V.int (j : Nat), V.int y]) hT2
        refine ⟨T2, _, rfl, SqT.of upd_same, rfl, _, _, rfl, ?_⟩
        refine ⟨_, _, rfl, rfl, ?_⟩
        have e5 := Ext.trans e4 eT2
        have hL5 := eT2 _ _ hL4
        generalize upd H4 T2 (.tup [V.int (j : Nat), V.int y]) = H5 at e5 hL5
        walk_at "rd"
        have q : ((i : Int) + (j : Int)) = ((i + j : Nat) : Int) := by omega
        have lij : i + j < ns.length + ms.length := by omega
        rw [q]
        refine g_ixL (SqL.of hL5) (v := .int (part ns ms i j (i + j))) (atI_nat (by rw [mapget, rowAt_get lij]; rfl)) ?_
        walk_at "rd"
        refine g_I (wide_mul (hA x (List.mem_of_getElem? hx)) (hB y (List.mem_of_getElem? hy)) A0 B0 AB) ?_
        walk_at "rd"
        rw [q]
        refine ⟨l, _, _, i + j, rfl, rfl, hL5, ixN_nat (by rw [List.length_map, rowAt_len]; exact lij), ?_⟩
        refine ⟨_, _, _, rfl, hl0, fun o ob g => ?_, ?_⟩
        · rw [upd_ne (ne_of_none g hl0)]
          exact e5 _ _ g
        · rw [upd_same, ← rowAt_set lij, ax, ay, List.map_set]
      · rintro σ H4 ⟨z0, z3, z4, rfl, _, e4, hL4⟩
        rw [List.length_map, rowAt_next hlt] at hL4
        exact ⟨_, _, _, _, _, rfl, hl0, e4, hL4⟩
    · rintro σ H2 ⟨y0, y1, y2, y3, y4, rfl, _, e2, hL2⟩
      rw [List.length_map, rowAt_end] at hL2
      walk_at "rd"
      exact ⟨l, _, rfl, .inl (SqL.of hL2), by rw [mulR_len]; omega, fun H3 u e3 hu => k H3 u (Ext.trans e2 e3) hu⟩
end
end K0

set_option Elab.async false
set_option linter.all false
set_option maxRecDepth 100000
set_option maxHeartbeats 4000000
/-! Rows as what they have at each place; how great they are. -/
namespace K0
open PySem PySem.Spec PyProof.Rows L2 Gd
theorem addR_get : ∀ (a b : List Int) (k : Nat), k < max a.length b.length → (addR a b)[k]? = some (at0 a k + at0 b k)
  | [], [], k, h => absurd h (by simp)
  | [], y :: b, k, h => by
    have e : at0 [] k = 0 := rfl
    have hk : k < (y :: b).length := by
      rw [show ([] : List Int).length = 0 from rfl] at h
      omega
    rw [e, Int.zero_add]
    show (y :: b)[k]? = _
    unfold at0
    rw [List.getElem?_eq_getElem hk]
    rfl
  | x :: a, [], k, h => by
    have e : at0 [] k = 0 := rfl
    have hk : k < (x :: a).length := by
      rw [show ([] : List Int).length = 0 from rfl] at h
      omega
    rw [e, Int.add_zero]
    show (x :: a)[k]? = _
    unfold at0
    rw [List.getElem?_eq_getElem hk]
    rfl
  | x :: a, y :: b, 0, h => rfl
  | x :: a, y :: b, k + 1, h => by
    show (addR a b)[k]? = _
    rw [addR_get a b k (by
      simp only [List.length_cons] at h
      omega)]
    rfl
/-! ### rows as what they have at each place -/
theorem at0_nil (k : Nat) : at0 [] k = 0 := rfl
theorem at0_out {a : List Int} {k : Nat} (h : a.length ≤ k) : at0 a k = 0 := by
  unfold at0
  rw [List.getElem?_eq_none_iff.mpr h]
  rfl
theorem at0_of {a : List Int} {k : Nat} {x : Int} (h : a[k]? = some x) : at0 a k = x := by
  unfold at0
  rw [h]
  rfl
theorem trim_none : ∀ b : List Int, (∀ k, at0 b k = 0) → trim b = []
  | [], _ => rfl
  | y :: b, h => by
    have e := trim_none b fun k => h (k + 1)
    have y0 : y = 0 := h 0
    unfold trim
    rw [e]
    show (if y = 0 then [] else [y]) = []
    rw [if_pos y0]
theorem trim_same : ∀ a b : List Int, (∀ k, at0 a k = at0 b k) → trim a = trim b
  | [], b, h => (trim_none b fun k => (h k).symm).symm
  | x :: a, [], h => trim_none (x :: a) h
  | x :: a, y :: b, h => by
    have e := trim_same a b fun k => h (k + 1)
    have xy : x = y := h 0
    unfold trim
    rw [e, xy]
theorem at0_trim : ∀ (a : List Int) (k : Nat), at0 (trim a) k = at0 a k
  | [], k => rfl
  | x :: a, k => by
    have ih := at0_trim a
    cases e : trim a with
    | nil =>
      rw [e] at ih
      have t : trim (x :: a) = if x = 0 then [] else [x] := by
        conv => lhs; unfold trim
        rw [e]
      rw [t]
      cases k with
      | zero =>
        by_cases hx : x = 0
        · rw [if_pos hx]
          exact hx.symm
        · rw [if_neg hx]
          rfl
      | succ k =>
        have z : at0 (x :: a) (k + 1) = 0 := (ih k).symm
        rw [z]
        by_cases hx : x = 0
        · rw [if_pos hx]
          rfl
        · rw [if_neg hx]
          rfl
    | cons y s =>
      rw [e] at ih
      have t : trim (x :: a) = x :: y :: s := by
        conv => lhs; unfold trim
        rw [e]
      rw [t]
      cases k with
      | zero => rfl
      | succ k => exact ih k
theorem at0_addR (a b : List Int) (k : Nat) : at0 (addR a b) k = at0 a k + at0 b k := by
  by_cases h : k < max a.length b.length
  · exact at0_of (addR_get a b k h)
  · rw [at0_out (by rw [addR_len]; omega), at0_out (a := a) (by omega), at0_out (a := b) (by omega)]
    rfl
theorem at0_negR : ∀ (a : List Int) (k : Nat), at0 (negR a) k = - at0 a k
  | [], k => rfl
  | x :: a, 0 => rfl
  | x :: a, k + 1 => at0_negR a k
/-! ### products -/
def cof : List Int → (Nat → Int) → Nat → Int
  | [], _, _ => 0
  | x :: _, g, 0 => x * g 0
  | x :: a, g, k + 1 => x * g (k + 1) + cof a g k
def sh (g : Nat → Int) : Nat → Int
  | 0 => 0
  | k + 1 => g k
theorem co_cof : ∀ (a b : List Int) (k : Nat), co a b k = cof a (at0 b) k
  | [], b, k => by cases k <;> rfl
  | x :: a, b, 0 => rfl
  | x :: a, b, k + 1 => by
    show x * at0 b (k + 1) + co a b k = x * at0 b (k + 1) + cof a (at0 b) k
    rw [co_cof a b k]
theorem cof_cons (x : Int) (a : List Int) (g : Nat → Int) (k : Nat) : cof (x :: a) g k = x * g k + sh (cof a g) k := by
  cases k with
  | zero =>
    show x * g 0 = x * g 0 + 0
    omega
  | succ k => rfl
theorem cof_same {g h : Nat → Int} (e : ∀ k, g k = h k) : ∀ (a : List Int) (k : Nat), cof a g k = cof a h k := by
  have : g = h := funext e
  rw [this]
  exact fun _ _ => rfl
theorem cof_add (g h : Nat → Int) : ∀ (a : List Int) (k : Nat), cof a (fun k => g k + h k) k = cof a g k + cof a h k
  | [], k => rfl
  | x :: a, 0 => Int.mul_add _ _ _
  | x :: a, k + 1 => by
    show x * (g (k + 1) + h (k + 1)) + cof a (fun k => g k + h k) k = x * g (k + 1) + cof a g k + (x * h (k + 1) + cof a h k)
    rw [cof_add g h a k, Int.mul_add]
    omega
theorem cof_mul (y : Int) (g : Nat → Int) : ∀ (a : List Int) (k : Nat), cof a (fun k => y * g k) k = y * cof a g k
  | [], k => (Int.mul_zero y).symm
  | x :: a, 0 => by
    show x * (y * g 0) = y * (x * g 0)
    rw [← Int.mul_assoc, ← Int.mul_assoc, Int.mul_comm x y]
  | x :: a, k + 1 => by
    show x * (y * g (k + 1)) + cof a (fun k => y * g k) k = y * (x * g (k + 1) + cof a g k)
    rw [cof_mul y g a k, Int.mul_add, ← Int.mul_assoc, ← Int.mul_assoc, Int.mul_comm x y]
theorem cof_sh (g : Nat → Int) : ∀ (a : List Int) (k : Nat), cof a (sh g) k = sh (cof a g) k
  | [], 0 => rfl
  | [], k + 1 => rfl
  | x :: a, 0 => Int.mul_zero x
  | x :: a, k + 1 => by
    show x * g k + cof a (sh g) k = cof (x :: a) g k
    rw [cof_sh g a k, cof_cons]
theorem cof_zero : ∀ (a : List Int) (k : Nat), cof a (fun _ => 0) k = 0
  | [], k => rfl
  | x :: a, 0 => Int.mul_zero x
  | x :: a, k + 1 => by
    show x * 0 + cof a (fun _ => 0) k = 0
    rw [cof_zero a k, Int.mul_zero]
    rfl
def e0 : Nat → Int
  | 0 => 1
  | _ + 1 => 0
theorem cof_e0 : ∀ (a : List Int) (k : Nat), cof a e0 k = at0 a k
  | [], k => rfl
  | x :: a, 0 => Int.mul_one x
  | x :: a, k + 1 => by
    show x * 0 + cof a e0 k = at0 a k
    rw [cof_e0 a k, Int.mul_zero, Int.zero_add]
theorem at0_cons (x : Int) (a : List Int) (k : Nat) : at0 (x :: a) k = x * e0 k + sh (at0 a) k := by
  cases k with
  | zero =>
    show x = x * 1 + 0
    omega
  | succ k =>
    show at0 a k = x * 0 + at0 a k
    rw [Int.mul_zero, Int.zero_add]
theorem cof_comm : ∀ (a b : List Int) (k : Nat), cof a (at0 b) k = cof b (at0 a) k
  | [], b, k => (cof_zero b k).symm
  | x :: a, b, k => by
    rw [cof_cons, cof_same (at0_cons x a) b k, cof_add (fun k => x * e0 k) (sh (at0 a)) b k, cof_mul, cof_e0, cof_sh]
    have : sh (cof a (at0 b)) k = sh (cof b (at0 a)) k := by
      cases k with
      | zero => rfl
      | succ k => exact cof_comm a b k
    rw [this]
theorem cof_swap (g : Nat → Int) (c : List Int) : ∀ (a : List Int) (k : Nat), cof c (cof a g) k = cof a (cof c g) k
  | [], k => cof_zero c k
  | x :: a, k => by
    rw [cof_same (cof_cons x a g) c k, cof_add (fun k => x * g k) (sh (cof a g)) c k, cof_mul, cof_sh, cof_cons]
    have : sh (cof c (cof a g)) k = sh (cof a (cof c g)) k := by
      cases k with
      | zero => rfl
      | succ k => exact cof_swap g c a k
    rw [this]
theorem cof_out {g : Nat → Int} {n : Nat} (hg : ∀ k, n ≤ k → g k = 0) : ∀ (a : List Int) (k : Nat), a.length + n ≤ k → cof a g k = 0
  | [], k, _ => rfl
  | x :: a, k, h => by
    rw [cof_cons, hg k (by simp only [List.length_cons] at h; omega), Int.mul_zero, Int.zero_add]
    cases k with
    | zero => rfl
    | succ k => exact cof_out hg a k (by simp only [List.length_cons] at h; omega)
theorem at0_mulR (a b : List Int) (k : Nat) : at0 (mulR a b) k = cof a (at0 b) k := by
  by_cases h : k < a.length + b.length
  · rw [← co_cof]
    refine at0_of ?_
    unfold mulR
    rw [List.getElem?_map, List.getElem?_range h]
    rfl
  · rw [at0_out (by rw [mulR_len]; omega), cof_out (n := b.length) (fun k hk => at0_out hk) a k (by omega)]
/-! ### the laws -/
theorem mul_comm' (a b : List Int) : trim (mulR a b) = trim (mulR b a) := trim_same _ _ fun k => by rw [at0_mulR, at0_mulR, cof_comm]
theorem mul_trim_left (a b : List Int) : trim (mulR (trim a) b) = trim (mulR a b) := trim_same _ _ fun k => by
  rw [at0_mulR, at0_mulR, cof_comm, cof_comm a b]
  exact cof_same (at0_trim a) b k
theorem mul_trim_right (a b : List Int) : trim (mulR a (trim b)) = trim (mulR a b) := trim_same _ _ fun k => by
  rw [at0_mulR, at0_mulR]
  exact cof_same (at0_trim b) a k
theorem add_trim_left (a b : List Int) : trim (addR (trim a) b) = trim (addR a b) := trim_same _ _ fun k => by rw [at0_addR, at0_addR, at0_trim]
theorem add_trim_right (a b : List Int) : trim (addR a (trim b)) = trim (addR a b) := trim_same _ _ fun k => by rw [at0_addR, at0_addR, at0_trim]
theorem add_assoc' (a b c : List Int) : trim (addR (addR a b) c) = trim (addR a (addR b c)) := trim_same _ _ fun k => by
  rw [at0_addR, at0_addR, at0_addR, at0_addR, Int.add_assoc]
theorem mul_assoc' (a b c : List Int) : trim (mulR (mulR a b) c) = trim (mulR a (mulR b c)) := trim_same _ _ fun k => by
  rw [at0_mulR, at0_mulR, cof_comm, cof_same (at0_mulR a b) c k, cof_same (at0_mulR b c) a k, cof_swap, cof_same (fun k => cof_comm c b k) a k]
theorem mul_add' (a b c : List Int) : trim (mulR a (addR b c)) = trim (addR (mulR a b) (mulR a c)) := trim_same _ _ fun k => by
  rw [at0_mulR, at0_addR, at0_mulR, at0_mulR, cof_same (at0_addR b c) a k, cof_add]
theorem sub_self (a : List Int) : trim (addR a (negR a)) = [] := trim_none _ fun k => by
  rw [at0_addR, at0_negR]
  omega
section
variable {K : PySem.W.Frag}
theorem flat_zero1 (m : Nat) : (List.replicate m [V.int 0]).flatten = (List.replicate m (0 : Int)).map V.int := flatL_zero m
theorem g_cat2 {H : Hp} {Q : VK} {a b : Addr} {xs ys : List V} (ha : SqT K H a xs) (hb : SqT K H b ys) (hz : xs.length + ys.length ≤ sizeLine)
    (k : ∀ H' g, Ext H H' → SqT K H' g (xs ++ ys) → Q (.ref g) H') : rCatA K (.ref a) (.ref b) H Q := by
  refine ⟨a, b, xs, ys, rfl, rfl, ha, hb, hz, fun e => k H b (fun _ _ h => h) (by rw [e]; exact hb), fun _ e => k H a (fun _ _ h => h) (by rw [e, List.append_nil]; exact ha), fun _ _ p hp => k _ p (Ext.new hp) (SqT.of upd_same)⟩
theorem g_rep2 {H : Hp} {Q : VK} {a : Addr} {n : Nat} (ha : SqT K H a [V.int 0]) (h1 : n ≤ 1000) (k : ∀ H' g, Ext H H' → SqT K H' g ((List.replicate n (0 : Int)).map V.int) → Q (.ref g) H') : rRepA K (.ref a) (.int (n : Int)) H Q := by
  refine ⟨a, _, _, rfl, rfl, ha, by simp, by omega, by omega, by show 1 ≤ 1000; decide, fun e => k H a (fun _ _ h => h) ?_, fun _ p hp => k _ p (Ext.new hp) ?_⟩
  · obtain rfl : n = 1 := by omega
    exact ha
  · rw [Int.toNat_natCast, flat_zero1]
    exact SqT.of upd_same
end
theorem trim_trim (ns : List Int) : trim (trim ns) = trim ns := by
  induction ns with
  | nil => rfl
  | cons x r ih =>
    cases e : trim r with
    | nil =>
      by_cases hx : x = 0
      · have h : trim (x :: r) = [] := by
          unfold trim
          rw [e]
          show (if x = 0 then [] else [x]) = []
          rw [if_pos hx]
        rw [h]
        rfl
      · have h : trim (x :: r) = [x] := by
          unfold trim
          rw [e]
          show (if x = 0 then [] else [x]) = [x]
          rw [if_neg hx]
        rw [h]
        show (if x = 0 then [] else [x]) = [x]
        rw [if_neg hx]
    | cons y s =>
      have h : trim (x :: r) = x :: y :: s := by
        unfold trim
        rw [e]
      rw [h]
      rw [e] at ih
      show trim (x :: (y :: s)) = x :: y :: s
      conv => lhs; unfold trim
      rw [ih]
section
theorem log_bits {A : Nat} {n : Int} (h0 : 0 < A) (h : n.natAbs < 2 ^ A) : n.natAbs.log2 < A := by
  by_cases z : n.natAbs = 0
  · rw [z]
    exact h0
  · exact (Nat.log2_lt z).mpr h
theorem shown_bits {A : Nat} {n : Int} (h0 : 0 < A) (h : n.natAbs < 2 ^ A) : (PyData.shown (.int n)).length ≤ A + 1 := by
  show (Str.ofString (toString n)).length ≤ A + 1
  rw [PySem.ofString_length]
  exact int_text_length_le h0 (log_bits h0 h)
theorem row_show {A : Nat} (h0 : 0 < A) (hA : A ≤ 1920) : ∀ ns : List Int, Bits A ns → PyData.showableAll (idata ns) = true
  | [], _ => rfl
  | x :: r, h => by
    show (decide (x.natAbs.log2 < 1920) && PyData.showableAll (idata r)) = true
    rw [row_show h0 hA r fun n hn => h n (List.mem_cons_of_mem _ hn), decide_eq_true (Nat.lt_of_lt_of_le (log_bits h0 (h x List.mem_cons_self)) hA)]
    rfl
theorem row_nodict : ∀ ns : List Int, PyData.hasDictAll (idata ns) = false
  | [] => rfl
  | x :: r => by
    show (false || PyData.hasDictAll (idata r)) = false
    rw [row_nodict r]
    rfl
theorem row_texts {A : Nat} (h0 : 0 < A) : ∀ ns : List Int, Bits A ns → ((PyData.shownAll (idata ns)).map (·.length)).sum ≤ (A + 1) * ns.length ∧ (PyData.shownAll (idata ns)).length = ns.length
  | [], _ => ⟨Nat.le_refl _, rfl⟩
  | x :: r, h => by
    obtain ⟨h1, h2⟩ := row_texts h0 r fun n hn => h n (List.mem_cons_of_mem _ hn)
    have e := shown_bits h0 (h x List.mem_cons_self)
    refine ⟨?_, ?_⟩
    · show (PyData.shown (.int x)).length + ((PyData.shownAll (idata r)).map (·.length)).sum ≤ (A + 1) * (r.length + 1)
      rw [Nat.mul_add, Nat.mul_one]
      omega
    · show (PyData.shownAll (idata r)).length + 1 = r.length + 1
      rw [h2]
theorem tup_text {A : Nat} (h0 : 0 < A) {ns : List Int} (h : Bits A ns) : (PyData.shown (.tuple (idata ns))).length ≤ (A + 3) * ns.length + 3 := by
  obtain ⟨h1, h2⟩ := row_texts h0 ns h
  have e := tupleText_len_le (PyData.shownAll (idata ns))
  show (tupleText (PyData.shownAll (idata ns))).length ≤ _
  rw [h2] at e
  have q : (A + 3) * ns.length = (A + 1) * ns.length + 2 * ns.length := by
    rw [← Nat.add_mul]
  omega
/-- a list of tuples of integers -/
def rows (rs : List (List Int)) : PyData := .list (rs.map fun ns => .tuple (idata ns))
theorem rows_show {A : Nat} (h0 : 0 < A) (hA : A ≤ 1920) : ∀ rs : List (List Int), (∀ ns ∈ rs, Bits A ns) → (rows rs).showable = true
  | [], _ => rfl
  | ns :: rs, h => by
    have ih : PyData.showableAll (rs.map fun ns => PyData.tuple (idata ns)) = true := rows_show h0 hA rs fun ms hm => h ms (List.mem_cons_of_mem _ hm)
    show (PyData.showableAll (idata ns) && PyData.showableAll (rs.map fun ns => PyData.tuple (idata ns))) = true
    rw [row_show h0 hA ns (h ns List.mem_cons_self), ih]
    rfl
theorem rows_nodict : ∀ rs : List (List Int), (rows rs).hasDict = false
  | [] => rfl
  | ns :: rs => by
    have ih : PyData.hasDictAll (rs.map fun ns => PyData.tuple (idata ns)) = false := rows_nodict rs
    show (PyData.hasDictAll (idata ns) || PyData.hasDictAll (rs.map fun ns => PyData.tuple (idata ns))) = false
    rw [row_nodict ns, ih]
    rfl
theorem rows_depth0 : ∀ rs : List (List Int), PyData.depthAll (rs.map fun ns => PyData.tuple (idata ns)) ≤ 1
  | [] => Nat.zero_le _
  | ns :: rs => by
    show max (PyData.depthAll (idata ns) + 1) (PyData.depthAll (rs.map fun ns => PyData.tuple (idata ns))) ≤ 1
    rw [deep_ints]
    exact Nat.max_le.mpr ⟨Nat.le_refl _, rows_depth0 rs⟩
theorem rows_depth (rs : List (List Int)) : (rows rs).depth ≤ 60 := by
  have := rows_depth0 rs
  show PyData.depthAll (rs.map fun ns => PyData.tuple (idata ns)) + 1 ≤ 60
  omega
theorem rows_texts {A L : Nat} (h0 : 0 < A) : ∀ rs : List (List Int), (∀ ns ∈ rs, Bits A ns ∧ ns.length ≤ L) →
    ((PyData.shownAll (rs.map fun ns => PyData.tuple (idata ns))).map (·.length)).sum ≤ ((A + 3) * L + 3) * rs.length ∧ (PyData.shownAll (rs.map fun ns => PyData.tuple (idata ns))).length = rs.length
  | [], _ => ⟨Nat.le_refl _, rfl⟩
  | ns :: rs, h => by
    obtain ⟨h1, h2⟩ := rows_texts h0 rs fun ms hm => h ms (List.mem_cons_of_mem _ hm)
    obtain ⟨b, l⟩ := h ns List.mem_cons_self
    have e := tup_text h0 b
    have m : (A + 3) * ns.length ≤ (A + 3) * L := Nat.mul_le_mul_left _ l
    refine ⟨?_, ?_⟩
    · show (PyData.shown (.tuple (idata ns))).length + ((PyData.shownAll (rs.map fun ns => PyData.tuple (idata ns))).map (·.length)).sum ≤ ((A + 3) * L + 3) * (rs.length + 1)
      rw [Nat.mul_add, Nat.mul_one]
      omega
    · show (PyData.shownAll (rs.map fun ns => PyData.tuple (idata ns))).length + 1 = rs.length + 1
      rw [h2]
theorem rows_size {A L : Nat} (h0 : 0 < A) {rs : List (List Int)} (h : ∀ ns ∈ rs, Bits A ns ∧ ns.length ≤ L) (fit : ((A + 3) * L + 5) * rs.length + 3 ≤ 16777216) : (rows rs).shown.length ≤ sizeLine := by
  obtain ⟨h1, h2⟩ := rows_texts h0 rs h
  have e := listText_len_le (PyData.shownAll (rs.map fun ns => PyData.tuple (idata ns)))
  rw [h2] at e
  rw [sizeLine_eq]
  show (listText (PyData.shownAll (rs.map fun ns => PyData.tuple (idata ns)))).length ≤ _
  have q : ((A + 3) * L + 5) * rs.length = ((A + 3) * L + 3) * rs.length + 2 * rs.length := by
    rw [← Nat.add_mul]
  omega
/-! ### how great the factors of sums and products are -/
theorem bits_at {A : Nat} {a : List Int} (h : Bits A a) (k : Nat) : (at0 a k).natAbs < 2 ^ A := by
  unfold at0
  cases e : a[k]? with
  | none => exact Nat.two_pow_pos A
  | some x => exact h x (List.mem_of_getElem? e)
theorem bits_of {A : Nat} {a : List Int} (h : ∀ k, (at0 a k).natAbs < 2 ^ A) : Bits A a := fun n hn => by
  obtain ⟨k, hk⟩ := List.getElem?_of_mem hn
  have := h k
  rw [at0_of hk] at this
  exact this
theorem bits_trim {A : Nat} {a : List Int} (h : Bits A a) : Bits A (trim a) := fun n hn => h n (trim_mem a n hn)
theorem bits_neg {A : Nat} {a : List Int} (h : Bits A a) : Bits A (negR a) := fun n hn => by
  obtain ⟨m, hm, rfl⟩ := List.mem_map.mp hn
  rw [Int.natAbs_neg]
  exact h m hm
theorem bits_mono {A B : Nat} (hAB : A ≤ B) {a : List Int} (h : Bits A a) : Bits B a := fun n hn => Nat.lt_of_lt_of_le (h n hn) (Nat.pow_le_pow_right (by decide) hAB)
theorem bits_add {A : Nat} {a b : List Int} (ha : Bits A a) (hb : Bits A b) : Bits (A + 1) (addR a b) := bits_of fun k => by
  have x := bits_at ha k
  have y := bits_at hb k
  rw [at0_addR, Nat.pow_succ]
  omega
theorem cof_bits {A B : Nat} {g : Nat → Int} (hg : ∀ k, (g k).natAbs < 2 ^ B) : ∀ (a : List Int), Bits A a → ∀ k, (cof a g k).natAbs ≤ a.length * (2 ^ A * 2 ^ B)
  | [], _, k => Nat.zero_le _
  | x :: a, h, k => by
    have ih := cof_bits hg a fun n hn => h n (List.mem_cons_of_mem _ hn)
    have e : (x * g k).natAbs ≤ 2 ^ A * 2 ^ B := by
      rw [Int.natAbs_mul]
      exact Nat.mul_le_mul (Nat.le_of_lt (h x List.mem_cons_self)) (Nat.le_of_lt (hg k))
    have f : (sh (cof a g) k).natAbs ≤ a.length * (2 ^ A * 2 ^ B) := by
      cases k with
      | zero => exact Nat.zero_le _
      | succ k => exact ih k
    rw [cof_cons]
    show (x * g k + sh (cof a g) k).natAbs ≤ (a.length + 1) * (2 ^ A * 2 ^ B)
    rw [Nat.add_mul, Nat.one_mul]
    have t := Int.natAbs_add_le (x * g k) (sh (cof a g) k)
    omega
theorem bits_mul {A B L : Nat} {a b : List Int} (ha : Bits A a) (hb : Bits B b) (hl : a.length < 2 ^ L) : Bits (L + A + B) (mulR a b) := bits_of fun k => by
  rw [at0_mulR]
  have e := cof_bits (bits_at hb) a ha k
  refine Nat.lt_of_le_of_lt e ?_
  rw [Nat.pow_add, Nat.pow_add, Nat.mul_assoc]
  exact Nat.mul_lt_mul_of_lt_of_le hl (Nat.le_refl _) (Nat.mul_pos (Nat.two_pow_pos _) (Nat.two_pow_pos _))
end
end K0

set_option Elab.async false
set_option linter.all false
set_option maxRecDepth 100000
set_option maxHeartbeats 4000000
/-! The mathematics of long division. -/
namespace K0
open PySem PySem.Spec PyProof.Rows L2 Gd
/-- what stands at k behind j of the subtractions of c times b from the place s on -/
def subK (b : List Int) (c : Int) (s j : Nat) (l : List Int) (k : Nat) : Int := at0 l k - (if s ≤ k ∧ k < s + j then c * at0 b (k - s) else 0)
def subJ (b : List Int) (c : Int) (s j : Nat) (l : List Int) : List Int := (List.range l.length).map (subK b c s j l)
theorem subJ_len (b : List Int) (c : Int) (s j : Nat) (l : List Int) : (subJ b c s j l).length = l.length := by
  unfold subJ
  rw [List.length_map, List.length_range]
theorem subJ_get {b : List Int} {c : Int} {s j k : Nat} {l : List Int} (h : k < l.length) : (subJ b c s j l)[k]? = some (subK b c s j l k) := by
  unfold subJ
  rw [List.getElem?_map, List.getElem?_range h]
  rfl
theorem subJ_0 (b : List Int) (c : Int) (s : Nat) (l : List Int) : subJ b c s 0 l = l := by
  refine row_ext (subJ_len _ _ _ _ _) fun k hk => ?_
  rw [subJ_len] at hk
  rw [subJ_get hk]
  unfold subK at0
  rw [if_neg (by omega), List.getElem?_eq_getElem hk]
  simp
theorem subJ_at {b : List Int} {c : Int} {s j : Nat} {l : List Int} (h : s + j < l.length) : (subJ b c s j l)[s + j]? = some (at0 l (s + j)) := by
  rw [subJ_get h]
  unfold subK
  rw [if_neg (by omega), Int.sub_zero]
theorem subJ_set {b : List Int} {c : Int} {s j : Nat} {l : List Int} (h : s + j < l.length) : (subJ b c s j l).set (s + j) (at0 l (s + j) - c * at0 b j) = subJ b c s (j + 1) l := by
  refine row_ext (by rw [List.length_set, subJ_len, subJ_len]) fun k hk => ?_
  rw [List.length_set, subJ_len] at hk
  rw [subJ_get hk]
  unfold subK
  by_cases e : k = s + j
  · subst e
    rw [List.getElem?_set_self (by rw [subJ_len]; exact hk), if_pos (by omega), Nat.add_sub_cancel_left]
  · rw [List.getElem?_set_ne (Ne.symm e), subJ_get hk]
    unfold subK
    by_cases g : s ≤ k ∧ k < s + j
    · rw [if_pos g, if_pos (by omega)]
    · rw [if_neg g, if_neg (by omega)]
theorem at0_subJ {b : List Int} {c : Int} {s : Nat} {l : List Int} (h : s + b.length ≤ l.length) (k : Nat) : at0 (subJ b c s b.length l) k = at0 l k - (if s ≤ k then c * at0 b (k - s) else 0) := by
  by_cases hk : k < l.length
  · rw [at0_of (subJ_get hk)]
    unfold subK
    by_cases g : s ≤ k ∧ k < s + b.length
    · rw [if_pos g, if_pos g.1]
    · rw [if_neg g]
      by_cases g2 : s ≤ k
      · rw [if_pos g2, at0_out (a := b) (by omega), Int.mul_zero]
      · rw [if_neg g2]
  · rw [at0_out (a := subJ b c s b.length l) (by rw [subJ_len]; omega), at0_out (a := l) (by omega)]
    by_cases g2 : s ≤ k
    · rw [if_pos g2, at0_out (a := b) (by omega), Int.mul_zero]
      rfl
    · rw [if_neg g2]
      rfl
/-- the factor of a step -/
def ldC (b l : List Int) (s : Nat) : Int := (at0 l (s + (b.length - 1))).fdiv (at0 b (b.length - 1))
/-- quotient and rest behind i steps of m -/
def ld (b a : List Int) (m : Nat) : Nat → List Int × List Int
  | 0 => (List.replicate m 0, a)
  | i + 1 => ((ld b a m i).1.set (m - 1 - i) (ldC b (ld b a m i).2 (m - 1 - i)), subJ b (ldC b (ld b a m i).2 (m - 1 - i)) (m - 1 - i) b.length (ld b a m i).2)
theorem ld_len (b a : List Int) (m : Nat) : ∀ i, (ld b a m i).1.length = m ∧ (ld b a m i).2.length = a.length
  | 0 => ⟨List.length_replicate, rfl⟩
  | i + 1 => by
    obtain ⟨h1, h2⟩ := ld_len b a m i
    refine ⟨?_, ?_⟩
    · show (List.set _ _ _).length = m
      rw [List.length_set, h1]
    · show (subJ _ _ _ _ _).length = a.length
      rw [subJ_len, h2]
theorem at0_set (l : List Int) (i : Nat) (x : Int) (h : i < l.length) (k : Nat) : at0 (l.set i x) k = if k = i then x else at0 l k := by
  unfold at0
  by_cases e : k = i
  · subst e
    rw [List.getElem?_set_self h, if_pos rfl]
    rfl
  · rw [List.getElem?_set_ne (Ne.symm e), if_neg e]
theorem ld_zero (b a : List Int) (m : Nat) : ∀ i k, k + i < m → at0 (ld b a m i).1 k = 0
  | 0, k, h => by
    show at0 (List.replicate m 0) k = 0
    unfold at0
    rw [List.getElem?_replicate, if_pos (by omega)]
    rfl
  | i + 1, k, h => by
    show at0 (List.set _ _ _) k = 0
    rw [at0_set _ _ _ (by rw [(ld_len b a m i).1]; omega), if_neg (by omega)]
    exact ld_zero b a m i k (by omega)
/-- what one factor gives -/
theorem cof_set {g : Nat → Int} : ∀ (q : List Int) (s : Nat) (c : Int) (k : Nat), s < q.length → at0 q s = 0 → cof (q.set s c) g k = cof q g k + (if s ≤ k then c * g (k - s) else 0)
  | [], s, c, k, h, _ => absurd h (by simp)
  | x :: q, 0, c, k, _, z => by
    have x0 : x = 0 := z
    subst x0
    show cof (c :: q) g k = cof (0 :: q) g k + _
    rw [cof_cons, cof_cons, if_pos (Nat.zero_le _), Int.zero_mul, Nat.sub_zero]
    omega
  | x :: q, s + 1, c, k, h, z => by
    show cof (x :: q.set s c) g k = _
    rw [cof_cons, cof_cons]
    cases k with
    | zero =>
      rw [if_neg (by omega)]
      show x * g 0 + 0 = x * g 0 + 0 + 0
      omega
    | succ k =>
      have ih := cof_set (g := g) q s c k (by simpa using h) z
      show x * g (k + 1) + cof (q.set s c) g k = x * g (k + 1) + cof q g k + _
      rw [ih, Nat.add_sub_add_right]
      by_cases hk : s ≤ k
      · rw [if_pos hk, if_pos (by omega)]
        omega
      · rw [if_neg hk, if_neg (by omega)]
        omega
/-- the row is the quotient times the divisor, and the rest -/
theorem ld_sum (b a : List Int) {m : Nat} (hm : m + b.length ≤ a.length + 1) (hb : 0 < b.length) : ∀ i, i ≤ m → ∀ k, cof (ld b a m i).1 (at0 b) k + at0 (ld b a m i).2 k = at0 a k
  | 0, _, k => by
    show cof (List.replicate m 0) (at0 b) k + at0 a k = at0 a k
    have e : ∀ (m k : Nat), cof (List.replicate m 0) (at0 b) k = 0 := by
      intro m
      induction m with
      | zero => exact fun k => rfl
      | succ m ih =>
        intro k
        rw [List.replicate_succ, cof_cons, Int.zero_mul]
        cases k with
        | zero => rfl
        | succ k =>
          show 0 + cof (List.replicate m 0) (at0 b) k = 0
          rw [ih k]
          rfl
    rw [e, Int.zero_add]
  | i + 1, h, k => by
    have ih := ld_sum b a hm hb i (by omega) k
    obtain ⟨l1, l2⟩ := ld_len b a m i
    show cof (List.set _ _ _) (at0 b) k + at0 (subJ _ _ _ _ _) k = at0 a k
    rw [cof_set _ _ _ _ (by rw [l1]; omega) (ld_zero b a m i _ (by omega)), at0_subJ (by rw [l2]; omega)]
    omega
theorem fdiv_abs (x : Int) {y : Int} (h : y ≠ 0) : (x.fdiv y).natAbs ≤ x.natAbs := by
  rcases Int.lt_or_gt_of_ne h with hy | hy
  · have e1 := Int.fmod_add_mul_fdiv x y
    have b1 : y < x.fmod y := by
      have e := Int.fmod_nonneg_of_pos (-x) (show (0 : Int) < -y by omega)
      have e2 := Int.fmod_lt_of_pos (-x) (show (0 : Int) < -y by omega)
      have := Int.neg_fmod_neg x y
      omega
    have b2 : x.fmod y ≤ 0 := by
      have e := Int.fmod_nonneg_of_pos (-x) (show (0 : Int) < -y by omega)
      have := Int.neg_fmod_neg x y
      omega
    generalize x.fmod y = r at *
    generalize x.fdiv y = q at *
    rcases (show 0 < q ∨ q ≤ 0 by omega) with hq | hq
    · have : y * q ≤ -q := by
        have := Int.mul_le_mul_of_nonneg_right (show y ≤ -1 by omega) (Int.le_of_lt hq)
        omega
      omega
    · by_cases h0 : q = 0
      · subst h0
        exact Nat.zero_le _
      · have := Int.mul_le_mul_of_nonpos_right (show y ≤ -1 by omega) (show q + 1 ≤ 0 by omega)
        rw [Int.mul_add y q 1, Int.mul_one] at this
        omega
  · have e1 := Int.fmod_add_mul_fdiv x y
    have b1 := Int.fmod_nonneg_of_pos x hy
    have b2 := Int.fmod_lt_of_pos x hy
    generalize x.fmod y = r at *
    generalize x.fdiv y = q at *
    rcases (show q < 0 ∨ 0 ≤ q by omega) with hq | hq
    · have : y * (q + 1) ≤ 1 * (q + 1) := Int.mul_le_mul_of_nonpos_right (by omega) (by omega)
      rw [Int.mul_add y q 1, Int.mul_one] at this
      omega
    · have : 1 * q ≤ y * q := Int.mul_le_mul_of_nonneg_right (by omega) hq
      omega
theorem ld_bits {A B : Nat} {b a : List Int} {m : Nat} (hA : Bits A a) (hB : Bits B b) (hz : at0 b (b.length - 1) ≠ 0) (hm : m + b.length ≤ a.length + 1) (hb : 0 < b.length) : ∀ i, i ≤ m → Bits (A + i * (B + 1)) (ld b a m i).2
  | 0, _ => by
    rw [Nat.zero_mul]
    exact hA
  | i + 1, h => by
    have ih := bits_at (ld_bits hA hB hz hm hb i (by omega))
    refine bits_of fun k => ?_
    obtain ⟨l1, l2⟩ := ld_len b a m i
    show (at0 (subJ _ _ _ _ _) k).natAbs < _
    rw [at0_subJ (by rw [l2]; omega)]
    have h1 := ih k
    have h2 : ((ldC b (ld b a m i).2 (m - 1 - i))).natAbs < 2 ^ (A + i * (B + 1)) := Nat.lt_of_le_of_lt (fdiv_abs _ hz) (ih _)
    have e : A + (i + 1) * (B + 1) = A + i * (B + 1) + B + 1 := by
      rw [Nat.add_mul]
      omega
    rw [e, Nat.pow_succ, Nat.pow_add]
    have p1 : 1 ≤ 2 ^ B := Nat.one_le_two_pow
    generalize 2 ^ (A + i * (B + 1)) = T at *
    have p2 : T * 1 ≤ T * 2 ^ B := Nat.mul_le_mul_left _ p1
    by_cases hk : m - 1 - i ≤ k
    · rw [if_pos hk]
      have h3 := bits_at hB (k - (m - 1 - i))
      have h4 : (ldC b (ld b a m i).2 (m - 1 - i) * at0 b (k - (m - 1 - i))).natAbs ≤ T * 2 ^ B := by
        rw [Int.natAbs_mul]
        exact Nat.mul_le_mul (Nat.le_of_lt h2) (Nat.le_of_lt h3)
      omega
    · rw [if_neg hk]
      omega
end K0

set_option Elab.async false
set_option linter.all false
set_option maxRecDepth 100000
set_option maxHeartbeats 4000000
/-! The def that divides rows. -/
namespace K0
open PySem PySem.Spec PyProof.Rows L2 Gd
local macro_rules | `(tactic| walk_at "rd1") => `(tactic| first | with_reducible refine g_ret ?_ | with_reducible refine g_retN ?_ | with_reducible refine g_seq ?_ | with_reducible refine g_next ?_ | with_reducible refine g_drop ?_ | with_reducible refine g_asg ?_ | with_reducible refine g_name ?_ | with_reducible refine g_ifs ?_ | with_reducible refine g_test ?_ | with_reducible refine g_tb ?_ | with_reducible refine g_and ?_ | with_reducible refine g_or ?_ | with_reducible refine g_not ?_ | with_reducible refine g_andV ?_ | with_reducible refine g_orV ?_ | with_reducible refine g_notV ?_ | with_reducible refine g_if ?_ | with_reducible refine g_op ?_ | with_reducible refine g_un ?_ | with_reducible refine g_cb ?_ | with_reducible refine g_nil ?_ | with_reducible refine g_cons ?_ | with_reducible refine g_call ?_ | with_reducible refine g_callS ?_ | with_reducible refine g_tup ?_ | with_reducible refine g_lst ?_ | with_reducible refine g_isN ?_ | with_reducible refine g_sl ?_ | with_reducible refine g_nopart ?_ | with_reducible refine g_part ?_ | with_reducible refine g_chain ?_ | with_reducible refine g_fld ?_ | with_reducible refine g_prop ?_ | with_reducible refine g_bm ?_ | with_reducible refine g_bm0 ?_ | with_reducible refine g_c ?_ | with_reducible refine g_sub ?_ | with_reducible refine g_int1 ?_ | with_reducible refine g_int2 ?_ | with_reducible refine g_yes ?_ | with_reducible refine g_sfld ?_ | with_reducible refine g_NT ?_ | with_reducible refine g_NF ?_ | with_reducible refine iteT ?_ | with_reducible refine iteF ?_ | ((with_reducible refine' g_aug ?hv ?_); (case hv => exact rfl)) | ((with_reducible refine' g_var ?hv ?_); (case hv => exact rfl)) | with_reducible refine g_I0 ?_ | with_reducible refine g_U ?_ | with_reducible refine g_eqI ?_ | with_reducible refine g_blV ?_ | with_reducible refine g_inV ?_)
local macro_rules | `(tactic| walk_at "rd") => `(tactic| repeat walk_at "rd1")
def CDivB (_i j : Int) : Prop := j ≠ 0 ∧ j.natAbs.log2 < 9000
theorem op_fdivB {X : Cx} : OpR X (binaryOp .FloorDiv) (rI CDivB fun i j => .int (i.fdiv j)) := opI fun _ _ _ _ _ _ _ hc q => floordiv_int hc.1 q (.inl (PyProof.noPylong_of_log2 hc.2))
section
variable {P : Program} {w : World} {K : PySem.W.Frag} {mg : Str → Option Value} {base : Heap} {f : Addr} {fd : FuncData}
abbrev sLongDiv : Stmt := top 22
/-- a divisor's row and a row that it divides: both fit -/
structure DivB (a b : List Int) : Prop where
  la : a.length ≤ 50000
  lb : b.length ≤ 50000
  b0 : 0 < b.length
  bz : at0 b (b.length - 1) ≠ 0
  fit : ∃ A B, 0 < A ∧ 0 < B ∧ B ≤ 9000 ∧ A + (a.length + 2) * (B + 1) ≤ 1000000 ∧ Bits A a ∧ Bits B b
/-- how many factors the quotient has -/
def qN (a b : List Int) : Nat := a.length + 1 - b.length
def quo (a b : List Int) : List Int := (ld b a (qN a b) (qN a b)).1
def rst (a b : List Int) : List Int := (ld b a (qN a b) (qN a b)).2
theorem quo_len (a b : List Int) : (quo a b).length = qN a b := (ld_len b a _ _).1
theorem rst_len (a b : List Int) : (rst a b).length = a.length := (ld_len b a _ _).2
def spLongDiv (K : PySem.W.Frag) : Sp := fun vs H Q _ => ∃ (p u : Addr) (a b : List Int), vs = [.ref p, .ref u] ∧ SqT K H p (a.map V.int) ∧ SqT K H u (b.map V.int) ∧ DivB a b ∧
  ∀ H' t q r, Ext H H' → H' t = some (.tup [.ref q, .ref r]) → H' q = some (.lst ((quo a b).map V.int)) → H' r = some (.lst ((rst a b).map V.int)) → Q (.ref t) H'
theorem scLongDiv : FnScope ["row", "other", "left", "many", "quotient", "shift", "factor", "i", "x"] ["row", "other"] (defScope sLongDiv) := ⟨rfl, rfl, rfl, by decide +kernel, rfl, by decide +kernel, by decide +kernel⟩
def PvD (p u l g : Addr) (H0 : Hp) (a b : List Int) (i : Nat) : L2.St → Hp → Prop := fun σ H' => ∃ (j : Int) (x0 x1 x2 x3 : Option V), σ = [some (.ref p), some (.ref u), some (.ref l), some (.int j), some (.ref g), x0, x1, x2, x3] ∧ H0 l = none ∧ H0 g = none ∧ l ≠ g ∧ Ext H0 H' ∧
  H' l = some (.lst ((ld b a (qN a b) i).2.map V.int)) ∧ H' g = some (.lst ((ld b a (qN a b) i).1.map V.int))
def PvE (p u l g : Addr) (H0 : Hp) (b qs ls : List Int) (s : Nat) (c : Int) (i : Nat) : L2.St → Hp → Prop := fun σ H' => ∃ (j : Int) (x2 x3 : Option V), σ = [some (.ref p), some (.ref u), some (.ref l), some (.int j), some (.ref g), some (.int (s : Int)), some (.int c), x2, x3] ∧ Ext H0 H' ∧
  H' l = some (.lst ((subJ b c s i ls).map V.int)) ∧ H' g = some (.lst (qs.map V.int))
theorem at0_get {l : List Int} {k : Nat} (h : k < l.length) : (l.map V.int)[k]? = some (V.int (at0 l k)) := by
  unfold at0
  rw [List.getElem?_map, List.getElem?_eq_getElem h]
  rfl
theorem atI_neg1 {l : List Int} (h : 0 < l.length) : atI (l.map V.int) (-1) = some (V.int (at0 l (l.length - 1))) := by
  have e : l = l.dropLast ++ [at0 l (l.length - 1)] := by
    have hne : l ≠ [] := by
      intro z
      rw [z] at h
      cases h
    have q := List.dropLast_concat_getLast hne
    have : l.getLast hne = at0 l (l.length - 1) := by
      rw [List.getLast_eq_getElem]
      unfold at0
      rw [List.getElem?_eq_getElem (by omega)]
      rfl
    rw [this] at q
    exact q.symm
  have : l.map V.int = l.dropLast.map V.int ++ [V.int (at0 l (l.length - 1))] := by
    conv => lhs; rw [e]
    rw [List.map_append]
    rfl
  rw [this]
  exact atI_last _ _
theorem g_forC {K : PySem.W.Frag} {ta : TA} {g : TG} {tb : TS} {D : Ends} {σ : L2.St} {H : Hp} (k : ta σ H fun vs H1 => ∃ (i j c : Int) (n : Nat), vs = [.int i, .int j, .int c] ∧ RgC i j c n ∧ ∃ W : Nat → Nat → L2.St → Hp → Prop, (∃ m, W 0 m σ H1) ∧ ∀ i' m σ H, W i' m σ H →
  ((Itc i c n).stop i' H ∧ D.nx σ H) ∨ ((Itc i c n).go i' H ∧ ∃ N : L2.St → Hp → Prop, (∀ σ' H', N σ' H' → ∃ m', m' < m ∧ W (i' + 1) m' σ' H') ∧ ∀ x H', (Itc i c n).yld i' H x H' → g x σ H' fun σ2 H2 => tb { D with nx := N, ct := N, bk := D.nx } σ2 H2)) :
    tFor (iRng3 ta) g tb D σ H := k
theorem none_of {H H' : Hp} {l : Addr} (e : Ext H H') (h : H' l = none) : H l = none := by
  cases q : H l with
  | none => rfl
  | some o =>
    have := e _ _ q
    rw [h] at this
    cases this
theorem ok_longDiv (F : Fun K "long_division" "long_division" sLongDiv f fd) (T : Txt K mg) (hen : mg "enumerate" = none) (hrg : mg "range" = none) : FnOk P w K mg base CX0 1 f fd ["row", "other"] (spLongDiv K) := by
  refine F.ok scLongDiv (fun vs H Q E h => ?_) (fun cdv A outer s H vs Q E hr h => ?_)
  · obtain ⟨p, u, a, b, rfl, _⟩ := h
    rfl
  · obtain ⟨p, u, a, b, rfl, hp, hu, D, k⟩ := h
    refine ⟨_, pss_cons (ps_set (i := 2) scLongDiv.nd rfl (Or.inl rfl) (pe_callTy call_list_of (by rfl) T.list (by decide +kernel) (pa_cons (pv 0) pa_nil)))
      (pss_cons (ps_set (i := 3) scLongDiv.nd rfl (Or.inl rfl) (pe_op op_add (pe_op op_sub (pe_callB call_len_seq (by rfl) T.len PySem.boot_len (pa_cons (pv 0) pa_nil)) (pe_callB call_len_seq (by rfl) T.len PySem.boot_len (pa_cons (pv 1) pa_nil))) pe_int))
      (pss_cons (ps_set (i := 4) scLongDiv.nd rfl (Or.inl rfl) (pe_op op_rep (pe_lst (pa_cons pe_int pa_nil)) (pv 3)))
      (pss_cons (ps_for PassesOwn.never rfl (pi_range3 (by rfl) hrg (pa_cons (pe_op op_sub (pv 3) pe_int) (pa_cons (pe_un un_neg pe_int) (pa_cons (pe_un un_neg pe_int) pa_nil)))) (pg_name (i := 5) scLongDiv.nd rfl (Or.inl rfl))
          (pss_cons (ps_set (i := 6) scLongDiv.nd rfl (Or.inl rfl) (pe_op op_fdivB (pe_ix ix_list (pv 2) (pe_op op_sub (pe_op op_add (pv 5) (pe_callB call_len_seq (by rfl) T.len PySem.boot_len (pa_cons (pv 1) pa_nil))) pe_int) (fun _ _ => rfl)) (pe_ix ix_tup (pv 1) (pe_un un_neg pe_int) (fun _ _ => rfl))))
            (pss_cons (ps_asg (pv 6) (pg_sub (pv 4) (pv 5) set_list))
              (pss_one (ps_for PassesOwn.never rfl (pi_enumT (by rfl) hen (pa_cons (pv 1) pa_nil)) (pg_tup rfl (pgs_cons (pg_name (i := 7) scLongDiv.nd rfl (Or.inl rfl)) (pgs_cons (pg_name (i := 8) scLongDiv.nd rfl (Or.inl rfl)) pgs_nil)))
                (pss_one (ps_asg (pe_op op_sub (pe_ix ix_list (pv 2) (pe_op op_add (pv 5) (pv 7)) (fun _ _ => rfl)) (pe_op op_mulW (pv 6) (pv 8))) (pg_sub (pv 2) (pe_op op_add (pv 5) (pv 7)) set_list))))))))
        (pss_one (ps_ret (pe_tup (pa_cons (pv 4) (pa_cons (pv 2) pa_nil)))))))), ?_⟩
    have sz : (100000 : Nat) < sizeLine := by decide
    obtain ⟨la, lb, b0, bz, A, B, A0, B0, B9, fit, hA, hB⟩ := D
    walk_at "rd"
    refine ⟨p, _, rfl, .inr hp, fun l hl0 => ?_⟩
    have el := Ext.new (o := HO.lst (a.map V.int)) hl0
    have hL : upd H l (.lst (a.map V.int)) l = some (.lst (a.map V.int)) := upd_same
    generalize upd H l (.lst (a.map V.int)) = H1 at el hL
    walk_at "rd"
    refine ⟨p, _, rfl, .inr (sqT_ext el hp), ?_⟩
    walk_at "rd"
    refine ⟨u, _, rfl, .inr (sqT_ext el hu), ?_⟩
    walk_at "rd"
    rw [List.length_map, List.length_map]
    refine ⟨by show 1 ≤ sizeLine; decide, fun z hz => ?_⟩
    have ez := Ext.new (o := HO.lst [V.int 0]) hz
    walk_at "rd"
    refine ⟨z, _, [V.int 0], rfl, rfl, upd_same, by omega, by omega, ?_, fun g hg => ?_⟩
    · show 1 * _ ≤ sizeLine
      omega
    have hg1 : H1 g = none := none_of ez hg
    have eg := Ext.trans ez (Ext.new (o := HO.lst (List.replicate ((a.length : Int) - (b.length : Int) + 1).toNat [V.int 0]).flatten) hg)
    have hG : upd (upd H1 z (.lst [V.int 0])) g (.lst (List.replicate ((a.length : Int) - (b.length : Int) + 1).toNat [V.int 0]).flatten) g = some (.lst ((List.replicate (qN a b) (0 : Int)).map V.int)) := by
      rw [upd_same, flatL_zero]
      have : ((a.length : Int) - (b.length : Int) + 1).toNat = qN a b := by
        unfold qN
        omega
      rw [this]
    generalize upd (upd H1 z (.lst [V.int 0])) g (.lst (List.replicate ((a.length : Int) - (b.length : Int) + 1).toNat [V.int 0]).flatten) = H2 at eg hG
    have hg0 : H g = none := none_of el hg1
    have lg : l ≠ g := by
      intro z
      rw [z] at hL
      rw [hL] at hg1
      cases hg1
    have e02 := Ext.trans el eg
    walk_at "rd"
    refine g_forC (K := K) ?_
    walk_at "rd"
    have hn : (((a.length : Int) - (b.length : Int) + 1 - 1) - (-1)).toNat = qN a b := by
      unfold qN
      omega
    refine ⟨_, _, _, qN a b, rfl, hn ▸ RgC.neg (by omega) (by omega) (by omega) (by omega), for_rangeC (PvD p u l g H a b) ⟨_, _, _, _, _, rfl, hl0, hg0, lg, e02, eg _ _ hL, hG⟩ ?_ ?_⟩
    · rintro i σ H3 hi ⟨j', x0, x1, x2, x3, rfl, _, _, _, e3, hL3, hG3⟩
      have hs : ∃ s : Nat, s = qN a b - 1 - i := ⟨_, rfl⟩
      obtain ⟨s, hs⟩ := hs
      have hmq : qN a b = a.length + 1 - b.length := rfl
      have es : (a.length : Int) - (b.length : Int) + 1 - 1 + (i : Nat) * (-1) = (s : Int) := by omega
      rw [es]
      have lL : (ld b a (qN a b) i).2.length = a.length := (ld_len b a _ _).2
      have lQ : (ld b a (qN a b) i).1.length = qN a b := (ld_len b a _ _).1
      walk_at "rd"
      refine ⟨u, _, rfl, .inr (sqT_ext e3 hu), ?_⟩
      walk_at "rd"
      rw [List.length_map]
      have ei : (s : Int) + (b.length : Int) - 1 = ((s + (b.length - 1) : Nat) : Int) := by omega
      rw [ei]
      refine g_ixL (SqL.of hL3) (v := .int (at0 (ld b a (qN a b) i).2 (s + (b.length - 1)))) (atI_nat (at0_get (by omega))) ?_
      walk_at "rd"
      refine g_ixT (sqT_ext e3 hu) (v := .int (at0 b (b.length - 1))) (atI_neg1 b0) ?_
      walk_at "rd"
      refine g_I ⟨bz, Nat.lt_of_lt_of_le (log_bits B0 (bits_at hB _)) B9⟩ ?_
      walk_at "rd"
      refine ⟨g, _, _, s, rfl, rfl, hG3, ixN_nat (by rw [List.length_map, lQ]; omega), ?_⟩
      have e4 : Ext H (upd H3 g (.lst (((ld b a (qN a b) i).1.map V.int).set s (V.int (ldC b (ld b a (qN a b) i).2 s))))) := fun o ob q => by
        rw [upd_ne (ne_of_none q hg0)]
        exact e3 _ _ q
      have hL4 : upd H3 g (.lst (((ld b a (qN a b) i).1.map V.int).set s (V.int (ldC b (ld b a (qN a b) i).2 s)))) l = some (.lst ((subJ b (ldC b (ld b a (qN a b) i).2 s) s 0 (ld b a (qN a b) i).2).map V.int)) := by
        rw [upd_ne lg, subJ_0]
        exact hL3
      have hG4 : upd H3 g (.lst (((ld b a (qN a b) i).1.map V.int).set s (V.int (ldC b (ld b a (qN a b) i).2 s)))) g = some (.lst (((ld b a (qN a b) i).1.set s (ldC b (ld b a (qN a b) i).2 s)).map V.int)) := by
        rw [upd_same, List.map_set]
      have ec : (at0 (ld b a (qN a b) i).2 (s + (b.length - 1))).fdiv (at0 b (b.length - 1)) = ldC b (ld b a (qN a b) i).2 s := rfl
      rw [ec]
      have hc : (ldC b (ld b a (qN a b) i).2 s).natAbs < 2 ^ (A + i * (B + 1)) := Nat.lt_of_le_of_lt (fdiv_abs _ bz) (bits_at (ld_bits hA hB bz (by omega) b0 i (by omega)) _)
      have hAB : A + i * (B + 1) + B ≤ 1000000 := by
        have := Nat.mul_le_mul_right (B + 1) (show i ≤ a.length by omega)
        rw [Nat.add_mul] at fit
        omega
      have enx : ld b a (qN a b) (i + 1) = ((ld b a (qN a b) i).1.set s (ldC b (ld b a (qN a b) i).2 s), subJ b (ldC b (ld b a (qN a b) i).2 s) s b.length (ld b a (qN a b) i).2) := by
        have : s = qN a b - 1 - i := hs
        rw [this]
        rfl
      generalize ldC b (ld b a (qN a b) i).2 s = c at *
      generalize (ld b a (qN a b) i).2 = L at *
      generalize (ld b a (qN a b) i).1 = qs at *
      generalize upd H3 g (.lst ((qs.map V.int).set s (V.int c))) = H4 at e4 hL4 hG4
      dsimp only
      refine g_forE ?_
      walk_at "rd"
      refine ⟨u, _, rfl, sqT_ext e4 hu, for_enumT (xs := b.map V.int) (PvE p u l g H b (qs.set s c) L s c) ⟨_, _, _, rfl, e4, hL4, hG4⟩ (fun j σ H5 _ q => ?_) ?_ ?_⟩
      · obtain ⟨_, _, _, _, e, _⟩ := q
        exact sqT_ext e hu
      · rintro j v σ H5 T hj ⟨j'', y2, y3, rfl, e5, hL5, hG5⟩ hT
        rw [mapget] at hj
        obtain ⟨x, hx, rfl⟩ := Option.map_eq_some_iff.mp hj
        have hlt : j < b.length := (List.getElem?_eq_some_iff.mp hx).1
        have ax : at0 b j = x := at0_of hx
        have eT := Ext.new (o := HO.tup [V.int (j : Nat), V.int x]) hT
        refine ⟨T, _, rfl, SqT.of upd_same, rfl, _, _, rfl, ?_⟩
        refine ⟨_, _, rfl, rfl, ?_⟩
        have e6 := Ext.trans e5 eT
        have hL6 := eT _ _ hL5
        have hG6 := eT _ _ hG5
        generalize upd H5 T (.tup [V.int (j : Nat), V.int x]) = H6 at e6 hL6 hG6
        walk_at "rd"
        have q : ((s : Int) + (j : Int)) = ((s + j : Nat) : Int) := by omega
        have lsj : s + j < L.length := by omega
        rw [q]
        refine g_ixL (SqL.of hL6) (v := .int (at0 L (s + j))) (atI_nat (by rw [mapget, subJ_at lsj]; rfl)) ?_
        walk_at "rd"
        refine g_I (wide_mul hc (hB x (List.mem_of_getElem? hx)) (by omega) B0 hAB) ?_
        walk_at "rd"
        rw [q]
        refine ⟨l, _, _, s + j, rfl, rfl, hL6, ixN_nat (by rw [List.length_map, subJ_len]; exact lsj), ?_⟩
        refine ⟨_, _, _, rfl, fun o ob g => ?_, ?_, ?_⟩
        · rw [upd_ne (ne_of_none g hl0)]
          exact e6 _ _ g
        · rw [upd_same, ← subJ_set lsj, ax, List.map_set]
        · rw [upd_ne (Ne.symm lg)]
          exact hG6
      · rintro σ H5 ⟨j'', y2, y3, rfl, e5, hL5, hG5⟩
        rw [List.length_map] at hL5
        exact ⟨_, _, _, _, _, rfl, hl0, hg0, lg, e5, by rw [enx]; exact hL5, by rw [enx]; exact hG5⟩
    · rintro σ H3 ⟨j', x0, x1, x2, x3, rfl, _, _, _, e3, hL3, hG3⟩
      walk_at "rd"
      exact ⟨by show 2 ≤ sizeLine; decide, fun t ht => k _ t g l (Ext.trans e3 (Ext.new ht)) upd_same (Ext.new ht _ _ hG3) (Ext.new ht _ _ hL3)⟩
end
end K0

set_option Elab.async false
set_option linter.all false
set_option maxRecDepth 100000
set_option maxHeartbeats 4000000
/-! What a divisor must be; the leading factor. -/
namespace K0
open PySem PySem.Spec PyProof.Rows L2 Gd
local macro_rules | `(tactic| walk_at "rd1") => `(tactic| first | with_reducible refine g_ret ?_ | with_reducible refine g_retN ?_ | with_reducible refine g_seq ?_ | with_reducible refine g_next ?_ | with_reducible refine g_drop ?_ | with_reducible refine g_asg ?_ | with_reducible refine g_name ?_ | with_reducible refine g_ifs ?_ | with_reducible refine g_test ?_ | with_reducible refine g_tb ?_ | with_reducible refine g_and ?_ | with_reducible refine g_or ?_ | with_reducible refine g_not ?_ | with_reducible refine g_andV ?_ | with_reducible refine g_orV ?_ | with_reducible refine g_notV ?_ | with_reducible refine g_if ?_ | with_reducible refine g_op ?_ | with_reducible refine g_un ?_ | with_reducible refine g_cb ?_ | with_reducible refine g_nil ?_ | with_reducible refine g_cons ?_ | with_reducible refine g_call ?_ | with_reducible refine g_callS ?_ | with_reducible refine g_tup ?_ | with_reducible refine g_lst ?_ | with_reducible refine g_isN ?_ | with_reducible refine g_sl ?_ | with_reducible refine g_nopart ?_ | with_reducible refine g_part ?_ | with_reducible refine g_chain ?_ | with_reducible refine g_fld ?_ | with_reducible refine g_prop ?_ | with_reducible refine g_bm ?_ | with_reducible refine g_bm0 ?_ | with_reducible refine g_c ?_ | with_reducible refine g_sub ?_ | with_reducible refine g_int1 ?_ | with_reducible refine g_int2 ?_ | with_reducible refine g_yes ?_ | with_reducible refine g_sfld ?_ | with_reducible refine g_NT ?_ | with_reducible refine g_NF ?_ | with_reducible refine iteT ?_ | with_reducible refine iteF ?_ | ((with_reducible refine' g_aug ?hv ?_); (case hv => exact rfl)) | ((with_reducible refine' g_var ?hv ?_); (case hv => exact rfl)) | with_reducible refine g_I0 ?_ | with_reducible refine g_U ?_ | with_reducible refine g_eqI ?_ | with_reducible refine g_blV ?_ | with_reducible refine g_inV ?_)
local macro_rules | `(tactic| walk_at "rd") => `(tactic| repeat walk_at "rd1")
/-- an own exception class without a field -/
structure OwnX (K : PySem.W.Frag) (mg : Str → Option Value) (x : Str) (C : Addr) : Prop where
  gC : mg x = some (.ref C)
  kC : PySem.W.keepIn K (.ref C) = true
  q : PySem.W.excIn K C [.type "ValueError", .type "Exception", .type "BaseException", .type "object"] "ValueError.__new__" = true
  s1 : PySem.W.subIn K (.ref C) (.type "BaseException") = some true
  t1 : PySem.W.typeIn K (.ref C) = some (.type "type")
  te : PySem.W.exmOne K (.ref C) (.ref C) = some true
theorem ps_raiseOwn {X : Cx} {W : WX} {C : Addr} {x m : Str} {j : Nat} {p p2 pos pos2 : Pos} (hc : X.calm = true) (N : OwnX X.K X.mg x C) (tk : Takes X W) (hg : Gl X x) (hdb : (x == ("__debug__" : Str)) = false := by decide) :
    PS X (.Raise (some (.Call (.Name x p) [.Constant (.str m) j p2] [] pos)) none pos2) (fun _ σ H => W (.ref C) none σ H) :=
  ps_raise hc tk (pmk_own PySem.F.excBase_ValueError N.q N.gC N.kC (raises_own N.s1 N.t1) hg hdb)
section
variable {P : Program} {w : World} {K : PySem.W.Frag} {mg : Str → Option Value} {base : Heap} {f C CP CO CR : Addr} {fd : FuncData}
abbrev sReqPoly : Stmt := top 36
abbrev sReqDiv : Stmt := top 37
/-- where a method of one argument stands -/
structure AtM (K : PySem.W.Frag) (C : Addr) (name qual : Str) (j : Nat) (f : Addr) (fd : FuncData) : Prop where
  F : Fun K name qual (cls j) f fd
  b : Binds K fd ["self"] []
  m : Meth K C name f
/-- no polynomial -/
def NotP (K : PySem.W.Frag) (C : Addr) (H : Hp) (y : V) : Prop := ∃ ty, TyX K H y ty ∧ PySem.W.kitOne K ty (.ref C) = some false
def spReqPoly (K : PySem.W.Frag) (C CP : Addr) : Sp := fun vs H Q E => ∃ y : V, vs = [y] ∧ ((∃ q v ms, y = .ref q ∧ PolyU K C H q v ms ∧ Q .non H) ∨ (NotP K C H y ∧ E (.ref CP) none H))
theorem scReqPoly : FnScope ["value"] ["value"] (defScope sReqPoly) := ⟨rfl, rfl, rfl, by decide +kernel, rfl, by decide +kernel, by decide +kernel⟩
theorem ok_reqPoly (F : Fun K "require_poly" "require_poly" sReqPoly f fd) (T : Txt K mg) (Cl : PC K mg C) (N : OwnX K mg "InvalidPoly" CP) : FnOk P w K mg base (L2.CX P w) 1 f fd ["value"] (spReqPoly K C CP) := by
  refine F.okX scReqPoly (fun vs H Q E h => ?_) (fun cdv A outer s H vs Q E hr h => ?_)
  · obtain ⟨y, rfl, _⟩ := h
    rfl
  · obtain ⟨y, rfl, h⟩ := h
    refine ⟨_, pss_one (ps_if (pt_not (pt_val (pe_callB call_isi (by rfl) T.isinstance (by decide +kernel) (pa_cons (pv 0) (pa_cons (pe_glob (v := .ref C) (by rfl) Cl.g rfl) pa_nil)))))
      (pss_one (ps_raiseOwn rfl N (takes_of rfl rfl rfl rfl) (by rfl))) pss_nil), ?_⟩
    walk_at "rd"
    rcases h with ⟨q, v, ms, rfl, ⟨⟨dx, hq⟩, hv, hl⟩, k⟩ | ⟨⟨ty, ht, hk⟩, k⟩
    · refine ⟨_, _, _, _, true, rfl, .own C, Cl.ty hq, Cl.kit, ?_⟩
      walk_at "rd"
      exact k
    · refine ⟨_, _, _, _, false, rfl, .own C, ht, hk, ?_⟩
      walk_at "rd"
      exact k
def spReqDiv (K : PySem.W.Frag) (C CP CO : Addr) : Sp := fun vs H Q E => ∃ y : V, vs = [y] ∧ ((∃ q v ms, y = .ref q ∧ PolyU K C H q v ms ∧ (ms ≠ [] → Q .non H) ∧ (ms = [] → E (.ref CO) none H)) ∨ (NotP K C H y ∧ E (.ref CP) none H))
theorem scReqDiv : FnScope ["value"] ["value"] (defScope sReqDiv) := ⟨rfl, rfl, rfl, by decide +kernel, rfl, by decide +kernel, by decide +kernel⟩
theorem ok_reqDiv {fQ fN : Addr} {fdQ fdN : FuncData} (F : Fun K "require_divisor" "require_divisor" sReqDiv f fd) (T : Txt K mg) (Cl : PC K mg C) (N : OwnX K mg "InvalidOperation" CO) (MN : AtM K C "__len__" "Poly.__len__" 16 fN fdN)
    (Rq : At K mg "require_poly" sReqPoly ["value"] fQ fdQ) (GQ : FnOk P w K mg base (L2.CX P w) 1 fQ fdQ ["value"] (spReqPoly K C CP)) : FnOk P w K mg base (L2.CX P w) 3 f fd ["value"] (spReqDiv K C CP CO) := by
  have GN : FnOk P w K mg base CX0 1 fN fdN ["self"] (spGet K C fun _ ns => .int (ns.length : Int)) := ok_len MN.F T Cl
  refine F.okX scReqDiv (fun vs H Q E h => ?_) (fun cdv A outer s H vs Q E hr h => ?_)
  · obtain ⟨y, rfl, _⟩ := h
    rfl
  · obtain ⟨y, rfl, h⟩ := h
    refine ⟨_, pss_cons (ps_expr (pe_call GQ (hr.mono (by decide)) (by rfl) Rq.g Rq.F.kp Rq.b .nil (passes_call (takes_of rfl rfl rfl rfl) (fun _ _ _ _ h => h)) (pa_cons (pv 0) pa_nil)))
      (pss_one (ps_if (pt_cmpR op_eq (pe_callB (call_lenO (E := fun _ _ _ => False) MN.m GN hr MN.b (fun _ => quiet0)) (by rfl) T.len PySem.boot_len (pa_cons (pv 0) pa_nil)) pe_int (nomark _))
      (pss_one (ps_raiseOwn rfl N (takes_of rfl rfl rfl rfl) (by rfl))) pss_nil)), ?_⟩
    walk_at "rd"
    rcases h with ⟨q, v, ms, rfl, hP, k1, k2⟩ | ⟨ht, k⟩
    · obtain ⟨⟨dx, hq⟩, hv, hl⟩ := id hP
      refine ⟨_, rfl, .inl ⟨q, v, ms, rfl, hP, ?_⟩⟩
      walk_at "rd"
      refine ⟨q, dx, _, rfl, hq, q, v, ms, rfl, hP, ?_⟩
      have sz : (100000 : Nat) < sizeLine := by decide
      refine ⟨(ms.length : Int), rfl, by omega, by omega, ?_⟩
      walk_at "rd"
      cases ms with
      | nil => exact k2 rfl
      | cons x r => exact k1 (by intro z; cases z)
    · exact ⟨_, rfl, .inr ⟨ht, k⟩⟩
theorem sc4 : FnScope ["self"] ["self"] (defScope (cls 4)) := ⟨rfl, rfl, rfl, by decide +kernel, rfl, by decide +kernel, by decide +kernel⟩
def leadOf (ns : List Int) : Int := at0 ns (ns.length - 1)
theorem ok_lead (F : Fun K "lead" "Poly.lead" (cls 4) f fd) (T : Txt K mg) (Cl : PC K mg C) : FnOk P w K mg base CX0 1 f fd ["self"] (spGet K C fun _ ns => .int (leadOf ns)) := by
  refine F.ok sc4 (fun vs H Q E h => ?_) (fun cdv A outer s H vs Q E hr h => ?_)
  · obtain ⟨p, u, ns, rfl, _⟩ := h
    rfl
  · obtain ⟨p, u, ns, rfl, ⟨⟨dx, hp⟩, hu, hl⟩, k⟩ := h
    refine ⟨_, pss_one (ps_ret (pe_ifExp (pt_cmpR op_gt (pe_callB call_len_seq (by rfl) T.len PySem.boot_len (pa_cons (pe_fld (pv 0) rfl) pa_nil)) pe_int (nomark _)) (pe_ix ix_tup (pe_fld (pv 0) rfl) (pe_un un_neg pe_int) (fun _ _ => rfl)) pe_int)), ?_⟩
    walk_at "rd"
    refine ⟨p, C, dx, _, _, rfl, hp, Cl.cl, Cl.noF, look1 (u := .ref u), ?_⟩
    walk_at "rd"
    refine ⟨u, _, rfl, .inr hu, ?_⟩
    walk_at "rd"
    rw [List.length_map]
    refine ite2 (fun h1 => ?_) (fun h1 => ?_)
    · have h2 := of_decide_eq_true h1
      walk_at "rd"
      refine ⟨p, C, dx, _, _, rfl, hp, Cl.cl, Cl.noF, look1 (u := .ref u), ?_⟩
      walk_at "rd"
      exact g_ixT hu (v := .int (at0 ns (ns.length - 1))) (atI_neg1 (by omega)) k
    · have h2 : ¬ (0 : Int) < (ns.length : Int) := fun z => h1 (decide_eq_true z)
      have : leadOf ns = 0 := at0_out (by omega)
      have k2 : Q (.int (leadOf ns)) H := k
      rw [this] at k2
      exact k2
end
end K0

set_option Elab.async false
set_option linter.all false
set_option maxRecDepth 100000
set_option maxHeartbeats 4000000
/-! divided, over. -/
namespace K0
open PySem PySem.Spec PyProof.Rows L2 Gd
local macro_rules | `(tactic| walk_at "rd1") => `(tactic| first | with_reducible refine g_ret ?_ | with_reducible refine g_retN ?_ | with_reducible refine g_seq ?_ | with_reducible refine g_next ?_ | with_reducible refine g_drop ?_ | with_reducible refine g_asg ?_ | with_reducible refine g_name ?_ | with_reducible refine g_ifs ?_ | with_reducible refine g_test ?_ | with_reducible refine g_tb ?_ | with_reducible refine g_and ?_ | with_reducible refine g_or ?_ | with_reducible refine g_not ?_ | with_reducible refine g_andV ?_ | with_reducible refine g_orV ?_ | with_reducible refine g_notV ?_ | with_reducible refine g_if ?_ | with_reducible refine g_op ?_ | with_reducible refine g_un ?_ | with_reducible refine g_cb ?_ | with_reducible refine g_nil ?_ | with_reducible refine g_cons ?_ | with_reducible refine g_call ?_ | with_reducible refine g_callS ?_ | with_reducible refine g_tup ?_ | with_reducible refine g_lst ?_ | with_reducible refine g_isN ?_ | with_reducible refine g_sl ?_ | with_reducible refine g_nopart ?_ | with_reducible refine g_part ?_ | with_reducible refine g_chain ?_ | with_reducible refine g_fld ?_ | with_reducible refine g_prop ?_ | with_reducible refine g_bm ?_ | with_reducible refine g_bm0 ?_ | with_reducible refine g_c ?_ | with_reducible refine g_sub ?_ | with_reducible refine g_int1 ?_ | with_reducible refine g_int2 ?_ | with_reducible refine g_yes ?_ | with_reducible refine g_sfld ?_ | with_reducible refine g_NT ?_ | with_reducible refine g_NF ?_ | with_reducible refine iteT ?_ | with_reducible refine iteF ?_ | ((with_reducible refine' g_aug ?hv ?_); (case hv => exact rfl)) | ((with_reducible refine' g_var ?hv ?_); (case hv => exact rfl)) | with_reducible refine g_I0 ?_ | with_reducible refine g_U ?_ | with_reducible refine g_eqI ?_ | with_reducible refine g_blV ?_ | with_reducible refine g_inV ?_)
local macro_rules | `(tactic| walk_at "rd") => `(tactic| repeat walk_at "rd1")
section
variable {P : Program} {w : World} {K : PySem.W.Frag} {mg : Str → Option Value} {base : Heap} {f C CP CO CR : Addr} {fd : FuncData}
/-- where a refusal's answer stands -/
def Rsn (CR : Addr) (H : Hp) (E : XK) (xs : List V) : Prop := ∀ H1 t d, Ext H H1 → H1 t = some (.tup xs) → H1 d = none → E (.ref CR) (some d) (upd H1 d (.xd [(("reason" : Str), .ref t)]))
def isOne (x : Int) : Bool := decide (x = 1) || decide (x = -1)
def spDivided (K : PySem.W.Frag) (C CP CO CR : Addr) : Sp := fun vs H Q E => ∃ (p u : Addr) (a : List Int) (y : V), vs = [.ref p, y] ∧ PolyU K C H p u a ∧
  ((∃ q v b, y = .ref q ∧ PolyU K C H q v b ∧ (b = [] → E (.ref CO) none H) ∧ (b ≠ [] → isOne (leadOf b) = false → Rsn CR H E [.str "lead", .int (leadOf b)]) ∧
    (b ≠ [] → isOne (leadOf b) = true → DivB a b ∧ ∀ H' t x xu z zu, Ext H H' → H' t = some (.tup [.ref x, .ref z]) → PolyU K C H' x xu (trim (quo a b)) → PolyU K C H' z zu (trim (rst a b)) → Q (.ref t) H')) ∨
   (NotP K C H y ∧ E (.ref CP) none H))
theorem in_ones (x : Int) : inV (.int x) [.int 1, .int (-1)] = isOne x := by
  unfold inV isOne
  show (decide (1 = x) || (decide (-1 = x) || false)) = _
  rw [Bool.or_false, show decide (1 = x) = decide (x = 1) from decide_eq_decide.mpr ⟨Eq.symm, Eq.symm⟩, show decide (-1 = x) = decide (x = -1) from decide_eq_decide.mpr ⟨Eq.symm, Eq.symm⟩]
theorem sc13 : FnScope ["self", "other", "quotient", "left"] ["self", "other"] (defScope (cls 13)) := ⟨rfl, rfl, rfl, by decide +kernel, rfl, by decide +kernel, by decide +kernel⟩
theorem sc14 : FnScope ["self", "other", "quotient", "left"] ["self", "other"] (defScope (cls 14)) := ⟨rfl, rfl, rfl, by decide +kernel, rfl, by decide +kernel, by decide +kernel⟩
/-- what both divisions lean on -/
structure DivO (P : Program) (w : World) (K : PySem.W.Frag) (mg : Str → Option Value) (base : Heap) (C CP CO : Addr) : Prop where
  D : ∃ fQ fdQ, At K mg "require_divisor" sReqDiv ["value"] fQ fdQ ∧ FnOk P w K mg base (L2.CX P w) 3 fQ fdQ ["value"] (spReqDiv K C CP CO)
  L : ∃ pL fL fdL, AtP K C "lead" "Poly.lead" 4 pL fL fdL ∧ FnOk P w K mg base CX0 1 fL fdL ["self"] (spGet K C fun _ ns => .int (leadOf ns))
  F : ∃ pL fL fdL, AtP K C "factors" "Poly.factors" 2 pL fL fdL ∧ FnOk P w K mg base CX0 1 fL fdL ["self"] (spGet K C fun u _ => .ref u)
  G : ∃ fG fdG, At K mg "long_division" sLongDiv ["row", "other"] fG fdG ∧ FnOk P w K mg base CX0 1 fG fdG ["row", "other"] (spLongDiv K)
  O : ∃ fP fdP, At K mg "poly_of" sPolyOf ["row"] fP fdP ∧ FnOk P w K mg base CX0 6 fP fdP ["row"] (spPolyOf K C (SqL K))
theorem ok_divided {fC : Addr} (F : Fun K "divided" "Poly.divided" (cls 13) f fd) (Cl : PC K mg C) (Dv : DivO P w K mg base C CP CO) (N : PySem.XRefused.RefusedTxt K mg CR fC) : FnOk P w K mg base (L2.CX P w) 7 f fd ["self", "other"] (spDivided K C CP CO CR) := by
  obtain ⟨⟨fQ, fdQ, AQ, GQ⟩, ⟨pL, fL, fdL, AL, GL⟩, ⟨pF, fF, fdF, AF, GF⟩, ⟨fG, fdG, AG, GG⟩, ⟨fP, fdP, AP, GP⟩⟩ := Dv
  refine F.okX sc13 (fun vs H Q E h => ?_) (fun cdv A outer s H vs Q E hr h => ?_)
  · obtain ⟨p, u, a, y, rfl, _⟩ := h
    rfl
  · obtain ⟨p, u, a, y, rfl, hP, h⟩ := h
    obtain ⟨⟨dx, hp⟩, hu, hl⟩ := id hP
    refine ⟨_, pss_cons (ps_expr (pe_call GQ (hr.mono (by decide)) (by rfl) AQ.g AQ.F.kp AQ.b .nil (passes_call (takes_of rfl rfl rfl rfl) (fun _ _ _ _ h => h)) (pa_cons (pv 1) pa_nil)))
      (pss_cons (ps_if (pt_cmpR op_notIn_seq (pe_prop (pv 1) Cl.cl AL.p GL (hr.mono (by decide)) AL.b .nil pass0 rfl) (pe_tup (pa_cons pe_int (pa_cons (pe_un un_neg pe_int) pa_nil))) (by rfl))
          (pss_one (ps_raiseRefused rfl N hr (takes_of rfl rfl rfl rfl) (by exact (pa_cons (pe_tup (pa_cons pe_str (pa_cons (pe_prop (pv 1) Cl.cl AL.p GL (hr.mono (by decide)) AL.b .nil pass0 rfl) pa_nil))) pa_nil)))) pss_nil)
      (pss_cons (ps_asg (pe_call GG (hr.mono (by decide)) (by rfl) AG.g AG.F.kp AG.b .nil pass0 (pa_cons (pe_fld (pv 0) rfl) (pa_cons (pe_prop (pv 1) Cl.cl AF.p GF (hr.mono (by decide)) AF.b .nil pass0 rfl) pa_nil)))
          (pg_tup rfl (pgs_cons (pg_name (i := 2) sc13.nd rfl (Or.inl rfl)) (pgs_cons (pg_name (i := 3) sc13.nd rfl (Or.inl rfl)) pgs_nil))))
      (pss_one (ps_ret (pe_tup (pa_cons (pe_call GP hr (by rfl) AP.g AP.F.kp AP.b .nil pass0 (pa_cons (pv 2) pa_nil)) (pa_cons (pe_call GP hr (by rfl) AP.g AP.F.kp AP.b .nil pass0 (pa_cons (pv 3) pa_nil)) pa_nil))))))), ?_⟩
    have sz : (100000 : Nat) < sizeLine := by decide
    walk_at "rd"
    rcases h with ⟨q, v, b, rfl, hQ, k1, k2, k3⟩ | ⟨ht, k⟩
    · obtain ⟨⟨dy, hq⟩, hv, hlb⟩ := id hQ
      refine ⟨_, rfl, .inl ⟨q, v, b, rfl, hQ, fun hne => ?_, k1⟩⟩
      walk_at "rd"
      refine ⟨q, dy, _, rfl, hq, q, v, b, rfl, hQ, ?_⟩
      walk_at "rd"
      refine ⟨by show 2 ≤ sizeLine; decide, fun z hz => ?_⟩
      have ez := Ext.new (o := HO.tup [V.int 1, V.int (-1)]) hz
      walk_at "rd"
      refine ⟨z, _, rfl, .inr (SqT.of upd_same), rfl, rfl, ?_⟩
      rw [in_ones]
      cases hI : isOne (leadOf b) with
      | false =>
        refine ⟨true, rfl, ?_⟩
        walk_at "rd"
        unfold tRaiseRefused tMkRefused
        walk_at "rd"
        refine ⟨q, dy, _, rfl, ez _ _ hq, q, v, b, rfl, hQ.ext ez, ?_⟩
        walk_at "rd"
        refine ⟨by show 2 ≤ sizeLine; decide, fun t ht => ?_⟩
        exact ⟨_, rfl, fun d hd0 => k2 hne hI _ t d (Ext.trans ez (Ext.new ht)) upd_same hd0⟩
      | true =>
        obtain ⟨hD, k3⟩ := k3 hne hI
        refine ⟨false, rfl, ?_⟩
        walk_at "rd"
        refine ⟨p, C, dx, _, _, rfl, ez _ _ hp, Cl.cl, Cl.noF, look1 (u := .ref u), ?_⟩
        walk_at "rd"
        refine ⟨q, dy, _, rfl, ez _ _ hq, q, v, b, rfl, hQ.ext ez, ?_⟩
        walk_at "rd"
        refine ⟨u, v, a, b, rfl, sqT_ext ez hu, sqT_ext ez hv, hD, fun H1 t q1 r1 e1 ht hq1 hr1 => ?_⟩
        walk_at "rd"
        refine ⟨t, _, rfl, SqT.of ht, rfl, _, _, rfl, ?_⟩
        refine ⟨_, _, rfl, rfl, ?_⟩
        have hm : qN a b ≤ a.length := by
          have := hD.b0
          unfold qN
          omega
        have hla := hD.la
        walk_at "rd"
        refine ⟨q1, _, rfl, SqL.of hq1, by rw [quo_len]; omega, fun H2 x xu e2 hx => ?_⟩
        walk_at "rd"
        refine ⟨r1, _, rfl, SqL.of (e2 _ _ hr1), by rw [rst_len]; omega, fun H3 y yu e3 hy => ?_⟩
        walk_at "rd"
        exact ⟨by show 2 ≤ sizeLine; decide, fun t2 ht2 => k3 _ t2 x xu y yu (Ext.trans ez (Ext.trans e1 (Ext.trans e2 (Ext.trans e3 (Ext.new ht2))))) upd_same (hx.ext (Ext.trans e3 (Ext.new ht2))) (hy.ext (Ext.new ht2))⟩
    · exact ⟨_, rfl, .inr ⟨ht, k⟩⟩
def spOver (K : PySem.W.Frag) (C CP CO CR : Addr) : Sp := fun vs H Q E => ∃ (p u : Addr) (a : List Int) (y : V), vs = [.ref p, y] ∧ PolyU K C H p u a ∧
  ((∃ q v b, y = .ref q ∧ PolyU K C H q v b ∧ (b = [] → E (.ref CO) none H) ∧ (b ≠ [] → DivB a b ∧ (trim (rst a b) ≠ [] → Rsn CR H E [.str "rest"]) ∧
      (trim (rst a b) = [] → ∀ H' x xu, Ext H H' → PolyU K C H' x xu (trim (quo a b)) → Q (.ref x) H'))) ∨
   (NotP K C H y ∧ E (.ref CP) none H))
theorem ok_over {fC fT : Addr} {fdT : FuncData} (F : Fun K "over" "Poly.over" (cls 14) f fd) (T : Txt K mg) (Cl : PC K mg C) (Dv : DivO P w K mg base C CP CO) (N : PySem.XRefused.RefusedTxt K mg CR fC) (R : AtT K mg fT fdT) : FnOk P w K mg base (L2.CX P w) 7 f fd ["self", "other"] (spOver K C CP CO CR) := by
  have GT : FnOk P w K mg base CX0 1 fT fdT ["row"] (spTrimmedL K) := ok_trimmedL R.F T
  obtain ⟨⟨fQ, fdQ, AQ, GQ⟩, ⟨pL, fL, fdL, AL, GL⟩, ⟨pF, fF, fdF, AF, GF⟩, ⟨fG, fdG, AG, GG⟩, ⟨fP, fdP, AP, GP⟩⟩ := Dv
  refine F.okX sc14 (fun vs H Q E h => ?_) (fun cdv A outer s H vs Q E hr h => ?_)
  · obtain ⟨p, u, a, y, rfl, _⟩ := h
    rfl
  · obtain ⟨p, u, a, y, rfl, hP, h⟩ := h
    obtain ⟨⟨dx, hp⟩, hu, hl⟩ := id hP
    refine ⟨_, pss_cons (ps_expr (pe_call GQ (hr.mono (by decide)) (by rfl) AQ.g AQ.F.kp AQ.b .nil (passes_call (takes_of rfl rfl rfl rfl) (fun _ _ _ _ h => h)) (pa_cons (pv 1) pa_nil)))
      (pss_cons (ps_asg (pe_call GG (hr.mono (by decide)) (by rfl) AG.g AG.F.kp AG.b .nil pass0 (pa_cons (pe_fld (pv 0) rfl) (pa_cons (pe_prop (pv 1) Cl.cl AF.p GF (hr.mono (by decide)) AF.b .nil pass0 rfl) pa_nil)))
          (pg_tup rfl (pgs_cons (pg_name (i := 2) sc14.nd rfl (Or.inl rfl)) (pgs_cons (pg_name (i := 3) sc14.nd rfl (Or.inl rfl)) pgs_nil))))
      (pss_cons (ps_if (pt_cmpR op_gt (pe_callB call_len_seq (by rfl) T.len PySem.boot_len (pa_cons (pe_call GT (hr.mono (by decide)) (by rfl) R.g R.F.kp R.b .nil pass0 (pa_cons (pv 3) pa_nil)) pa_nil)) pe_int (nomark _))
          (pss_one (ps_raiseRefused rfl N hr (takes_of rfl rfl rfl rfl) (by exact (pa_cons (pe_tup (pa_cons pe_str pa_nil)) pa_nil)))) pss_nil)
      (pss_one (ps_ret (pe_call GP hr (by rfl) AP.g AP.F.kp AP.b .nil pass0 (pa_cons (pv 2) pa_nil)))))), ?_⟩
    have sz : (100000 : Nat) < sizeLine := by decide
    walk_at "rd"
    rcases h with ⟨q, v, b, rfl, hQ, k1, k2⟩ | ⟨ht, k⟩
    · obtain ⟨⟨dy, hq⟩, hv, hlb⟩ := id hQ
      refine ⟨_, rfl, .inl ⟨q, v, b, rfl, hQ, fun hne => ?_, k1⟩⟩
      obtain ⟨hD, k2, k3⟩ := k2 hne
      walk_at "rd"
      refine ⟨p, C, dx, _, _, rfl, hp, Cl.cl, Cl.noF, look1 (u := .ref u), ?_⟩
      walk_at "rd"
      refine ⟨q, dy, _, rfl, hq, q, v, b, rfl, hQ, ?_⟩
      walk_at "rd"
      refine ⟨u, v, a, b, rfl, hu, hv, hD, fun H1 t q1 r1 e1 ht hq1 hr1 => ?_⟩
      walk_at "rd"
      refine ⟨t, _, rfl, SqT.of ht, rfl, _, _, rfl, ?_⟩
      refine ⟨_, _, rfl, rfl, ?_⟩
      have hm : qN a b ≤ a.length := by
        have := hD.b0
        unfold qN
        omega
      have hla := hD.la
      have hrl := rst_len a b
      walk_at "rd"
      refine ⟨r1, _, rfl, SqL.of hr1, by omega, fun H2 m e2 hm2 => ?_⟩
      walk_at "rd"
      refine ⟨m, _, rfl, .inr hm2, ?_⟩
      walk_at "rd"
      rw [List.length_map]
      by_cases hz : trim (rst a b) = []
      · rw [hz]
        refine iteF ?_
        walk_at "rd"
        exact ⟨q1, _, rfl, SqL.of (e2 _ _ hq1), by rw [quo_len]; omega, fun H3 x xu e3 hx => k3 hz H3 x xu (Ext.trans e1 (Ext.trans e2 e3)) hx⟩
      · have hpos : 0 < (trim (rst a b)).length := by
          cases z : trim (rst a b) with
          | nil => exact absurd z hz
          | cons x r => exact Nat.succ_pos _
        rw [decide_eq_true (show (0 : Int) < ((trim (rst a b)).length : Int) by omega)]
        walk_at "rd"
        unfold tRaiseRefused tMkRefused
        walk_at "rd"
        refine ⟨by show 1 ≤ sizeLine; decide, fun t ht => ?_⟩
        exact ⟨_, rfl, fun d hd0 => k2 hz _ t d (Ext.trans e1 (Ext.trans e2 (Ext.new ht))) upd_same hd0⟩
    · exact ⟨_, rfl, .inr ⟨ht, k⟩⟩
end
end K0

set_option Elab.async false
set_option linter.all false
set_option maxRecDepth 100000
set_option maxHeartbeats 4000000
/-! The law's own division. -/
namespace K0
open PySem PySem.Spec PyProof.Rows L2 Gd
local macro_rules | `(tactic| walk_at "rd1") => `(tactic| first | with_reducible refine g_ret ?_ | with_reducible refine g_retN ?_ | with_reducible refine g_seq ?_ | with_reducible refine g_next ?_ | with_reducible refine g_drop ?_ | with_reducible refine g_asg ?_ | with_reducible refine g_name ?_ | with_reducible refine g_ifs ?_ | with_reducible refine g_test ?_ | with_reducible refine g_tb ?_ | with_reducible refine g_and ?_ | with_reducible refine g_or ?_ | with_reducible refine g_not ?_ | with_reducible refine g_andV ?_ | with_reducible refine g_orV ?_ | with_reducible refine g_notV ?_ | with_reducible refine g_if ?_ | with_reducible refine g_op ?_ | with_reducible refine g_un ?_ | with_reducible refine g_cb ?_ | with_reducible refine g_nil ?_ | with_reducible refine g_cons ?_ | with_reducible refine g_call ?_ | with_reducible refine g_callS ?_ | with_reducible refine g_tup ?_ | with_reducible refine g_lst ?_ | with_reducible refine g_isN ?_ | with_reducible refine g_sl ?_ | with_reducible refine g_nopart ?_ | with_reducible refine g_part ?_ | with_reducible refine g_chain ?_ | with_reducible refine g_fld ?_ | with_reducible refine g_prop ?_ | with_reducible refine g_bm ?_ | with_reducible refine g_bm0 ?_ | with_reducible refine g_c ?_ | with_reducible refine g_sub ?_ | with_reducible refine g_int1 ?_ | with_reducible refine g_int2 ?_ | with_reducible refine g_yes ?_ | with_reducible refine g_sfld ?_ | with_reducible refine g_NT ?_ | with_reducible refine g_NF ?_ | with_reducible refine iteT ?_ | with_reducible refine iteF ?_ | ((with_reducible refine' g_aug ?hv ?_); (case hv => exact rfl)) | ((with_reducible refine' g_var ?hv ?_); (case hv => exact rfl)) | with_reducible refine g_I0 ?_ | with_reducible refine g_U ?_ | with_reducible refine g_eqI ?_ | with_reducible refine g_blV ?_ | with_reducible refine g_inV ?_)
local macro_rules | `(tactic| walk_at "rd") => `(tactic| repeat walk_at "rd1")
section
variable {P : Program} {w : World} {K : PySem.W.Frag} {mg : Str → Option Value} {base : Heap} {f C CP CO CR : Addr} {fd : FuncData}
abbrev sSplit : Stmt := top 45
/-- what stands at the top ahead of step i -/
def ldTop (b a : List Int) (m i : Nat) : Int := at0 (ld b a m i).2 (m - 1 - i + (b.length - 1))
/-- the first i steps leave nothing at their tops -/
def exN (b a : List Int) (m : Nat) : Nat → Bool
  | 0 => true
  | i + 1 => exN b a m i && decide (ldC b (ld b a m i).2 (m - 1 - i) * leadOf b = ldTop b a m i)
def exact2 (a b : List Int) : Bool := exN b a (qN a b) (qN a b)
theorem exN_up {b a : List Int} {m i : Nat} (h : exN b a m i = false) : ∀ j, i ≤ j → exN b a m j = false := by
  intro j hj
  induction j with
  | zero =>
    have : i = 0 := by omega
    rw [← this]
    exact h
  | succ j ih =>
    by_cases e : i = j + 1
    · rw [← e]
      exact h
    · show (exN b a m j && _) = false
      rw [ih (by omega), Bool.false_and]
def spSplit (K : PySem.W.Frag) : Sp := fun vs H Q _ => ∃ (p u : Addr) (a b : List Int), vs = [.ref p, .ref u] ∧ SqT K H p (a.map V.int) ∧ SqT K H u (b.map V.int) ∧ DivB a b ∧
  (exact2 a b = true → ∀ H' l t r, Ext H H' → H' l = some (.lst [.ref t, .ref r]) → SqT K H' t ((trim (quo a b)).map V.int) → SqT K H' r ((trim (rst a b)).map V.int) → Q (.ref l) H') ∧
  (exact2 a b = false → ∀ H', Ext H H' → Q .non H')
theorem scSplit : FnScope ["_law_one", "_law_other", "_law_left", "_law_found", "_law_at", "_law_top", "_law_spot", "_law_factor"] ["_law_one", "_law_other"] (defScope sSplit) := ⟨rfl, rfl, rfl, by decide +kernel, rfl, by decide +kernel, by decide +kernel⟩
def PvG (p u l g : Addr) (H0 : Hp) (a b : List Int) (i : Nat) : L2.St → Hp → Prop := fun σ H' => ∃ (x0 x1 x2 x3 : Option V), σ = [some (.ref p), some (.ref u), some (.ref l), some (.ref g), x0, x1, x2, x3] ∧ H0 l = none ∧ H0 g = none ∧ l ≠ g ∧ Ext H0 H' ∧
  H' l = some (.lst ((ld b a (qN a b) i).2.map V.int)) ∧ H' g = some (.lst ((ld b a (qN a b) i).1.map V.int)) ∧ exN b a (qN a b) i = true
def PvH (p u l g : Addr) (H0 : Hp) (b qs ls : List Int) (s : Nat) (c : Int) (i : Nat) : L2.St → Hp → Prop := fun σ H' => ∃ (x1 x2 x3 : Option V), σ = [some (.ref p), some (.ref u), some (.ref l), some (.ref g), some (.int (s : Int)), x1, x2, x3] ∧ Ext H0 H' ∧
  H' l = some (.lst ((subJ b c s i ls).map V.int)) ∧ H' g = some (.lst (qs.map V.int))
theorem ok_split {fT : Addr} {fdT : FuncData} (F : Fun K "_law_split" "_law_split" sSplit f fd) (T : Txt K mg) (hmx : mg "max" = none) (hen : mg "enumerate" = none) (hrg : mg "range" = none) (LT : At K mg "_law_trimmed" sLTrim ["_law_factors_here"] fT fdT)
    (GT : FnOk P w K mg base CX0 1 fT fdT ["_law_factors_here"] (spLTrim K)) : FnOk P w K mg base CX0 2 f fd ["_law_one", "_law_other"] (spSplit K) := by
  refine F.ok scSplit (fun vs H Q E h => ?_) (fun cdv A outer s H vs Q E hr h => ?_)
  · obtain ⟨p, u, a, b, rfl, _⟩ := h
    rfl
  · obtain ⟨p, u, a, b, rfl, hp, hu, D, k1, k2⟩ := h
    refine ⟨_, pss_cons (ps_par (i := 2) (j := 3) rfl scSplit.nd rfl rfl (by decide) rfl rfl (pa_cons (pe_callTy call_list_of (by rfl) T.list (by decide +kernel) (pa_cons (pv 0) pa_nil))
          (pa_cons (pe_lc (own := [("_law_at", 4)]) (g := gName 4) (tt := tYes) rfl scSplit.nd (pi_range1 (by rfl) hrg (pa_cons (pe_callB (call_max2 rfl) (by rfl) hmx (by decide +kernel) (pa_cons pe_int (pa_cons
              (pe_op op_add (pe_op op_sub (pe_callB call_len_seq (by rfl) T.len PySem.boot_len (pa_cons (pv 0) pa_nil)) (pe_callB call_len_seq (by rfl) T.len PySem.boot_len (pa_cons (pv 1) pa_nil))) pe_int) pa_nil))) pa_nil))
            (blkOk_by (N := ["_law_one", "_law_other", "_law_left", "_law_found", "_law_at", "_law_top", "_law_spot", "_law_factor"]) (sc := defScope sSplit) (by decide +kernel))
            (fun _ _ _ _ _ => pg_name (i := 4) scSplit.nd rfl (Or.inl rfl)) (fun _ _ _ _ _ => pts_nil) (fun _ _ _ _ _ => pe_int)) pa_nil)) rfl)
      (pss_cons (ps_for PassesOwn.never rfl (pi_range3 (by rfl) hrg (pa_cons (pe_op op_sub (pe_callB call_len_seq (by rfl) T.len PySem.boot_len (pa_cons (pv 3) pa_nil)) pe_int) (pa_cons (pe_un un_neg pe_int) (pa_cons (pe_un un_neg pe_int) pa_nil)))) (pg_name (i := 4) scSplit.nd rfl (Or.inl rfl))
          (pss_cons (ps_set (i := 5) scSplit.nd rfl (Or.inl rfl) (pe_ix ix_list (pv 2) (pe_op op_sub (pe_op op_add (pv 4) (pe_callB call_len_seq (by rfl) T.len PySem.boot_len (pa_cons (pv 1) pa_nil))) pe_int) (fun _ _ => rfl)))
            (pss_cons (ps_if (pt_cmpR op_ne (pe_op op_mulW (pe_op op_fdivB (pv 5) (pe_ix ix_tup (pv 1) (pe_un un_neg pe_int) (fun _ _ => rfl))) (pe_ix ix_tup (pv 1) (pe_un un_neg pe_int) (fun _ _ => rfl))) (pv 5) (nomark _)) (pss_one (ps_ret pe_non)) pss_nil)
            (pss_cons (ps_asg (pe_op op_fdivB (pv 5) (pe_ix ix_tup (pv 1) (pe_un un_neg pe_int) (fun _ _ => rfl))) (pg_sub (pv 3) (pv 4) set_list))
              (pss_one (ps_for PassesOwn.never rfl (pi_enumT (by rfl) hen (pa_cons (pv 1) pa_nil)) (pg_tup rfl (pgs_cons (pg_name (i := 6) scSplit.nd rfl (Or.inl rfl)) (pgs_cons (pg_name (i := 7) scSplit.nd rfl (Or.inl rfl)) pgs_nil)))
                (pss_one (ps_asg (pe_op op_sub (pe_ix ix_list (pv 2) (pe_op op_add (pv 4) (pv 6)) (fun _ _ => rfl)) (pe_op op_mulW (pe_ix ix_list (pv 3) (pv 4) (fun _ _ => rfl)) (pv 7))) (pg_sub (pv 2) (pe_op op_add (pv 4) (pv 6)) set_list)))))))))
        (pss_one (ps_ret (pe_lst (pa_cons (pe_call GT hr (by rfl) LT.g LT.F.kp LT.b .nil pass0 (pa_cons (pv 3) pa_nil)) (pa_cons (pe_call GT hr (by rfl) LT.g LT.F.kp LT.b .nil pass0 (pa_cons (pv 2) pa_nil)) pa_nil)))))), ?_⟩
    have sz : (100000 : Nat) < sizeLine := by decide
    obtain ⟨la, lb, b0, bz, A, B, A0, B0, B9, fit, hA, hB⟩ := D
    walk_at "rd"
    refine g_par ?_
    walk_at "rd"
    refine ⟨p, _, rfl, .inr hp, fun l hl0 => ?_⟩
    have el := Ext.new (o := HO.lst (a.map V.int)) hl0
    have hL : upd H l (.lst (a.map V.int)) l = some (.lst (a.map V.int)) := upd_same
    generalize upd H l (.lst (a.map V.int)) = H1 at el hL
    walk_at "rd"
    unfold tLc iRng1
    walk_at "rd"
    refine ⟨p, _, rfl, .inr (sqT_ext el hp), ?_⟩
    walk_at "rd"
    refine ⟨u, _, rfl, .inr (sqT_ext el hu), ?_⟩
    walk_at "rd"
    rw [List.length_map, List.length_map]
    have hmq : qN a b = a.length + 1 - b.length := rfl
    have em : (if (a.length : Int) - (b.length : Int) + 1 > 0 then (a.length : Int) - (b.length : Int) + 1 else 0) = ((qN a b : Nat) : Int) := by
      split <;> omega
    rw [em]
    refine ⟨by omega, by omega, fun g hg => ?_⟩
    rw [Int.toNat_natCast]
    have hg0 : H g = none := none_of el hg
    have lg : l ≠ g := by
      intro z
      rw [z] at hL
      rw [hL] at hg
      cases hg
    refine lc_it walk_range (fun i H' => Ext H1 H' ∧ H' g = some (.lst ((List.replicate i (0 : Int)).map V.int))) ⟨Ext.new hg, upd_same⟩ (fun _ _ _ _ => trivial) ?_ ?_
    · rintro i x H2 H3 hi ⟨e, hD'⟩ ⟨rfl, rfl⟩
      refine ⟨rfl, ?_⟩
      walk_at "rd"
      refine ⟨_, hD', ?_, fun b o q => ?_, ?_⟩
      · rw [List.length_map, List.length_replicate]
        omega
      · rw [upd_ne (ne_of_none q hg)]
        exact e b o q
      · rw [upd_same, List.replicate_succ', List.map_append]
        rfl
    rintro H2 ⟨e12, hG⟩
    have e02 := Ext.trans el e12
    have hL2 := e12 _ _ hL
    walk_at "rd"
    refine ⟨_, _, rfl, ?_⟩
    walk_at "rd"
    refine g_forC (K := K) ?_
    walk_at "rd"
    refine ⟨g, _, rfl, .inl (SqL.of hG), ?_⟩
    walk_at "rd"
    rw [List.length_map, List.length_replicate]
    have hn : ((((qN a b : Nat) : Int) - 1) - (-1)).toNat = qN a b := by omega
    have hRg : RgC (((qN a b : Nat) : Int) - 1) (-1) (-1) (qN a b) := by
      have := RgC.neg (i := ((qN a b : Nat) : Int) - 1) (j := -1) (by omega) (by omega) (by omega) (by omega)
      rw [hn] at this
      exact this
    refine ⟨((qN a b : Nat) : Int) - 1, -1, -1, qN a b, rfl, hRg, for_rangeC (PvG p u l g H a b) ⟨_, _, _, _, rfl, hl0, hg0, lg, e02, hL2, hG, rfl⟩ ?_ ?_⟩
    · rintro i σ H3 hi ⟨x0, x1, x2, x3, rfl, _, _, _, e3, hL3, hG3, hX⟩
      obtain ⟨s, hs⟩ : ∃ s : Nat, s = qN a b - 1 - i := ⟨_, rfl⟩
      have es : ((qN a b : Nat) : Int) - 1 + (i : Nat) * (-1) = (s : Int) := by omega
      rw [es]
      have lL : (ld b a (qN a b) i).2.length = a.length := (ld_len b a _ _).2
      have lQ : (ld b a (qN a b) i).1.length = qN a b := (ld_len b a _ _).1
      walk_at "rd"
      refine ⟨u, _, rfl, .inr (sqT_ext e3 hu), ?_⟩
      walk_at "rd"
      rw [List.length_map]
      have ei : (s : Int) + (b.length : Int) - 1 = ((s + (b.length - 1) : Nat) : Int) := by omega
      rw [ei]
      refine g_ixL (SqL.of hL3) (v := .int (at0 (ld b a (qN a b) i).2 (s + (b.length - 1)))) (atI_nat (at0_get (by omega))) ?_
      walk_at "rd"
      refine g_ixT (sqT_ext e3 hu) (v := .int (at0 b (b.length - 1))) (atI_neg1 b0) ?_
      walk_at "rd"
      have hlast : at0 b (b.length - 1) ≠ 0 ∧ (at0 b (b.length - 1)).natAbs.log2 < 9000 := ⟨bz, Nat.lt_of_lt_of_le (log_bits B0 (bits_at hB _)) B9⟩
      refine g_I hlast ?_
      walk_at "rd"
      refine g_ixT (sqT_ext e3 hu) (v := .int (at0 b (b.length - 1))) (atI_neg1 b0) ?_
      walk_at "rd"
      have hc : (ldC b (ld b a (qN a b) i).2 s).natAbs < 2 ^ (A + i * (B + 1)) := Nat.lt_of_le_of_lt (fdiv_abs _ bz) (bits_at (ld_bits hA hB bz (by omega) b0 i (by omega)) _)
      have hAB : A + i * (B + 1) + B ≤ 1000000 := by
        have := Nat.mul_le_mul_right (B + 1) (show i ≤ a.length by omega)
        rw [Nat.add_mul] at fit
        omega
      have ec : (at0 (ld b a (qN a b) i).2 (s + (b.length - 1))).fdiv (at0 b (b.length - 1)) = ldC b (ld b a (qN a b) i).2 s := rfl
      rw [ec]
      refine g_I (wide_mul hc (bits_at hB _) (by omega) B0 hAB) ?_
      walk_at "rd"
      refine g_ne (by rfl) ?_
      walk_at "rd"
      have hs1 : exN b a (qN a b) (i + 1) = decide (ldC b (ld b a (qN a b) i).2 s * at0 b (b.length - 1) = at0 (ld b a (qN a b) i).2 (s + (b.length - 1))) := by
        show (exN b a (qN a b) i && decide (ldC b (ld b a (qN a b) i).2 (qN a b - 1 - i) * at0 b (b.length - 1) = at0 (ld b a (qN a b) i).2 (qN a b - 1 - i + (b.length - 1)))) = _
        rw [← hs, hX, Bool.true_and]
      by_cases hq : ldC b (ld b a (qN a b) i).2 s * at0 b (b.length - 1) = at0 (ld b a (qN a b) i).2 (s + (b.length - 1))
      · rw [decide_eq_true hq] at hs1
        rw [decide_eq_true (show V.int (ldC b (ld b a (qN a b) i).2 s * at0 b (b.length - 1)) = V.int (at0 (ld b a (qN a b) i).2 (s + (b.length - 1))) by rw [hq])]
        walk_at "rd"
        refine g_ixT (sqT_ext e3 hu) (v := .int (at0 b (b.length - 1))) (atI_neg1 b0) ?_
        walk_at "rd"
        refine g_I hlast ?_
        walk_at "rd"
        rw [ec]
        refine ⟨g, _, _, s, rfl, rfl, hG3, ixN_nat (by rw [List.length_map, lQ]; omega), ?_⟩
        have e4 : Ext H (upd H3 g (.lst (((ld b a (qN a b) i).1.map V.int).set s (V.int (ldC b (ld b a (qN a b) i).2 s))))) := fun o ob q => by
          rw [upd_ne (ne_of_none q hg0)]
          exact e3 _ _ q
        have hL4 : upd H3 g (.lst (((ld b a (qN a b) i).1.map V.int).set s (V.int (ldC b (ld b a (qN a b) i).2 s)))) l = some (.lst ((subJ b (ldC b (ld b a (qN a b) i).2 s) s 0 (ld b a (qN a b) i).2).map V.int)) := by
          rw [upd_ne lg, subJ_0]
          exact hL3
        have hG4 : upd H3 g (.lst (((ld b a (qN a b) i).1.map V.int).set s (V.int (ldC b (ld b a (qN a b) i).2 s)))) g = some (.lst (((ld b a (qN a b) i).1.set s (ldC b (ld b a (qN a b) i).2 s)).map V.int)) := by
          rw [upd_same, List.map_set]
        have enx : ld b a (qN a b) (i + 1) = ((ld b a (qN a b) i).1.set s (ldC b (ld b a (qN a b) i).2 s), subJ b (ldC b (ld b a (qN a b) i).2 s) s b.length (ld b a (qN a b) i).2) := by
          have : s = qN a b - 1 - i := hs
          rw [this]
          rfl
        have hcq : at0 ((ld b a (qN a b) i).1.set s (ldC b (ld b a (qN a b) i).2 s)) s = ldC b (ld b a (qN a b) i).2 s := by
          rw [at0_set _ _ _ (by omega), if_pos rfl]
        have lqs : ((ld b a (qN a b) i).1.set s (ldC b (ld b a (qN a b) i).2 s)).length = qN a b := by
          rw [List.length_set, lQ]
        clear hq ec
        generalize ldC b (ld b a (qN a b) i).2 s = c at *
        generalize (ld b a (qN a b) i).2 = L at *
        generalize (ld b a (qN a b) i).1 = qs at *
        generalize upd H3 g (.lst ((qs.map V.int).set s (V.int c))) = H4 at e4 hL4 hG4
        dsimp only
        refine g_forE ?_
        walk_at "rd"
        refine ⟨u, _, rfl, sqT_ext e4 hu, for_enumT (xs := b.map V.int) (PvH p u l g H b (qs.set s c) L s c) ⟨_, _, _, rfl, e4, hL4, hG4⟩ (fun j σ H5 _ q => ?_) ?_ ?_⟩
        · obtain ⟨_, _, _, _, e, _⟩ := q
          exact sqT_ext e hu
        · rintro j v σ H5 T hj ⟨y1, y2, y3, rfl, e5, hL5, hG5⟩ hT
          rw [mapget] at hj
          obtain ⟨x, hx, rfl⟩ := Option.map_eq_some_iff.mp hj
          have hlt : j < b.length := (List.getElem?_eq_some_iff.mp hx).1
          have ax : at0 b j = x := at0_of hx
          have eT := Ext.new (o := HO.tup [V.int (j : Nat), V.int x]) hT
          refine ⟨T, _, rfl, SqT.of upd_same, rfl, _, _, rfl, ?_⟩
          refine ⟨_, _, rfl, rfl, ?_⟩
          have e6 := Ext.trans e5 eT
          have hL6 := eT _ _ hL5
          have hG6 := eT _ _ hG5
          generalize upd H5 T (.tup [V.int (j : Nat), V.int x]) = H6 at e6 hL6 hG6
          walk_at "rd"
          have q : ((s : Int) + (j : Int)) = ((s + j : Nat) : Int) := by omega
          have lsj : s + j < L.length := by omega
          rw [q]
          refine g_ixL (SqL.of hL6) (v := .int (at0 L (s + j))) (atI_nat (by rw [mapget, subJ_at lsj]; rfl)) ?_
          walk_at "rd"
          refine g_ixL (SqL.of hG6) (v := .int c) (atI_nat (by rw [at0_get (by omega), hcq])) ?_
          walk_at "rd"
          refine g_I (wide_mul hc (hB x (List.mem_of_getElem? hx)) (by omega) B0 hAB) ?_
          walk_at "rd"
          rw [q]
          refine ⟨l, _, _, s + j, rfl, rfl, hL6, ixN_nat (by rw [List.length_map, subJ_len]; exact lsj), ?_⟩
          refine ⟨_, _, _, rfl, fun o ob g => ?_, ?_, ?_⟩
          · rw [upd_ne (ne_of_none g hl0)]
            exact e6 _ _ g
          · rw [upd_same, ← subJ_set lsj, ax, List.map_set]
          · rw [upd_ne (Ne.symm lg)]
            exact hG6
        · rintro σ H5 ⟨y1, y2, y3, rfl, e5, hL5, hG5⟩
          rw [List.length_map] at hL5
          exact ⟨_, _, _, _, rfl, hl0, hg0, lg, e5, by rw [enx]; exact hL5, by rw [enx]; exact hG5, hs1⟩
      · rw [decide_eq_false hq] at hs1
        rw [decide_eq_false (show ¬ V.int (ldC b (ld b a (qN a b) i).2 s * at0 b (b.length - 1)) = V.int (at0 (ld b a (qN a b) i).2 (s + (b.length - 1))) from fun z => hq (V.int.inj z))]
        walk_at "rd"
        exact k2 (exN_up hs1 _ (by omega)) _ e3
    · rintro σ H3 ⟨x0, x1, x2, x3, rfl, _, _, _, e3, hL3, hG3, hX⟩
      walk_at "rd"
      refine ⟨g, quo a b, rfl, .inl (SqL.of hG3), by rw [quo_len]; omega, fun H4 t e4 ht => ?_⟩
      walk_at "rd"
      refine ⟨l, rst a b, rfl, .inl (SqL.of (e4 _ _ hL3)), by rw [rst_len]; omega, fun H5 r e5 hr5 => ?_⟩
      walk_at "rd"
      exact ⟨by show 2 ≤ sizeLine; decide, fun z hz => k1 hX _ z t r (Ext.trans e3 (Ext.trans e4 (Ext.trans e5 (Ext.new hz)))) upd_same (sqT_ext (Ext.trans e5 (Ext.new hz)) ht) (sqT_ext (Ext.new hz) hr5)⟩
end
end K0

set_option Elab.async false
set_option linter.all false
set_option maxRecDepth 100000
set_option maxHeartbeats 4000000
/-! When a division leaves nothing. -/
namespace K0
open PySem PySem.Spec PyProof.Rows L2 Gd
theorem exN_all {b a : List Int} {m : Nat} : ∀ {i : Nat}, exN b a m i = true → ∀ j, j < i → ldC b (ld b a m j).2 (m - 1 - j) * leadOf b = ldTop b a m j
  | 0, _, j, hj => absurd hj (Nat.not_lt_zero _)
  | i + 1, h, j, hj => by
    have h2 : (exN b a m i && decide (ldC b (ld b a m i).2 (m - 1 - i) * leadOf b = ldTop b a m i)) = true := h
    rw [Bool.and_eq_true] at h2
    by_cases e : j = i
    · rw [e]
      exact of_decide_eq_true h2.2
    · exact exN_all h2.1 j (by omega)
theorem exN_some {b a : List Int} {m : Nat} : ∀ {i : Nat}, exN b a m i = false → ∃ j, j < i ∧ ldC b (ld b a m j).2 (m - 1 - j) * leadOf b ≠ ldTop b a m j
  | 0, h => Bool.noConfusion h
  | i + 1, h => by
    have h2 : (exN b a m i && decide (ldC b (ld b a m i).2 (m - 1 - i) * leadOf b = ldTop b a m i)) = false := h
    cases e : exN b a m i with
    | false =>
      obtain ⟨j, hj, q⟩ := exN_some e
      exact ⟨j, by omega, q⟩
    | true =>
      rw [e, Bool.true_and] at h2
      exact ⟨i, Nat.lt_succ_self _, of_decide_eq_false h2⟩
/-- what is left at the top of step j stays -/
theorem ld_keep {b a : List Int} {m : Nat} (hm : m + b.length ≤ a.length + 1) (hb : 0 < b.length) {j : Nat} (hj : j < m) : ∀ i, j < i → i ≤ m → at0 (ld b a m i).2 (m - 1 - j + (b.length - 1)) = ldTop b a m j - ldC b (ld b a m j).2 (m - 1 - j) * leadOf b
  | 0, h, _ => absurd h (Nat.not_lt_zero _)
  | i + 1, h, hi => by
    have l2 := (ld_len b a m i).2
    show at0 (subJ _ _ _ _ _) _ = _
    rw [at0_subJ (by rw [l2]; omega)]
    by_cases e : j = i
    · subst e
      rw [if_pos (by omega), Nat.add_sub_cancel_left]
      rfl
    · rw [ld_keep hm hb hj i (by omega) (by omega), if_pos (by omega), at0_out (a := b) (by omega), Int.mul_zero, Int.sub_zero]
theorem qN_fit {a b : List Int} (hb : 0 < b.length) (h : 0 < qN a b) : qN a b + b.length = a.length + 1 := by
  unfold qN at *
  omega
theorem rst_zero {a b : List Int} (hb : 0 < b.length) (h : exact2 a b = true) (k : Nat) (hk : b.length - 1 ≤ k) : at0 (rst a b) k = 0 := by
  by_cases hl : a.length ≤ k
  · exact at0_out (by rw [rst_len]; exact hl)
  · have hq : 0 < qN a b := by
      unfold qN
      omega
    have hf := qN_fit hb hq
    have e := ld_keep (b := b) (a := a) (m := qN a b) (by omega) hb (j := qN a b - 1 - (k - (b.length - 1))) (by omega) (qN a b) (by omega) (Nat.le_refl _)
    have ek : qN a b - 1 - (qN a b - 1 - (k - (b.length - 1))) + (b.length - 1) = k := by omega
    rw [ek] at e
    have x := exN_all h (qN a b - 1 - (k - (b.length - 1))) (by omega)
    show at0 (ld b a (qN a b) (qN a b)).2 k = 0
    rw [e, x]
    omega
theorem trim_nil {a : List Int} (h : trim a = []) (k : Nat) : at0 a k = 0 := by
  rw [← at0_trim, h]
  rfl
theorem rst_some {a b : List Int} (hb : 0 < b.length) (h : exact2 a b = false) : trim (rst a b) ≠ [] := by
  obtain ⟨j, hj, q⟩ := exN_some h
  intro z
  have hf := qN_fit (a := a) hb (by omega)
  have e := ld_keep (b := b) (a := a) (m := qN a b) (by omega) hb hj (qN a b) hj (Nat.le_refl _)
  have y : at0 (ld b a (qN a b) (qN a b)).2 (qN a b - 1 - j + (b.length - 1)) = 0 := trim_nil z _
  omega
theorem trim_le {a : List Int} {n : Nat} : (∀ k, n ≤ k → at0 a k = 0) → (trim a).length ≤ n := by
  induction a generalizing n with
  | nil => exact fun _ => Nat.zero_le _
  | cons x r ih =>
    intro h
    cases n with
    | zero =>
      rw [trim_none _ fun k => h k (Nat.zero_le _)]
      exact Nat.le_refl _
    | succ n =>
      have e := ih (n := n) fun k hk => h (k + 1) (by omega)
      cases t : trim r with
      | nil =>
        have : trim (x :: r) = if x = 0 then [] else [x] := by
          conv => lhs; unfold trim
          rw [t]
        rw [this]
        split
        · exact Nat.zero_le _
        · show 1 ≤ n + 1
          omega
      | cons y s =>
        have : trim (x :: r) = x :: y :: s := by
          conv => lhs; unfold trim
          rw [t]
        rw [this]
        rw [t] at e
        show (y :: s).length + 1 ≤ n + 1
        omega
theorem trim_last : ∀ {a : List Int}, trim a ≠ [] → leadOf (trim a) ≠ 0
  | [], h => absurd rfl h
  | x :: r, h => by
    cases t : trim r with
    | nil =>
      have e : trim (x :: r) = if x = 0 then [] else [x] := by
        conv => lhs; unfold trim
        rw [t]
      rw [e] at h ⊢
      by_cases hx : x = 0
      · rw [if_pos hx] at h
        exact absurd rfl h
      · rw [if_neg hx]
        exact hx
    | cons y s =>
      have e : trim (x :: r) = x :: y :: s := by
        conv => lhs; unfold trim
        rw [t]
      have ih := trim_last (a := r) (by rw [t]; intro z; cases z)
      rw [t] at ih
      rw [e]
      exact ih
theorem trim_full : ∀ {a : List Int}, leadOf a ≠ 0 → trim a = a
  | [], _ => rfl
  | [x], h => by
    show (if x = 0 then [] else [x]) = [x]
    exact if_neg h
  | x :: y :: r, h => by
    have e : trim (y :: r) = y :: r := trim_full (a := y :: r) h
    conv => lhs; unfold trim
    rw [e]
theorem exact_one {a b : List Int} (h : isOne (leadOf b) = true) : exact2 a b = true := by
  cases e : exact2 a b with
  | true => rfl
  | false =>
    obtain ⟨j, hj, q⟩ := exN_some e
    refine absurd ?_ q
    have hd : (ldTop b a (qN a b) j).fdiv (leadOf b) * leadOf b = ldTop b a (qN a b) j := by
      unfold isOne at h
      rw [Bool.or_eq_true] at h
      rcases h with h | h
      · rw [of_decide_eq_true h, Int.fdiv_one, Int.mul_one]
      · rw [of_decide_eq_true h]
        generalize ldTop b a (qN a b) j = x
        have := Int.fmod_add_mul_fdiv x (-1)
        have e2 : x.fmod (-1) = 0 := by
          have := Int.neg_fmod_neg (-x) 1
          rw [Int.neg_neg] at this
          rw [this, Int.fmod_one]
          rfl
        rw [e2] at this
        omega
    exact hd
/-- quotient times divisor, and the rest -/
theorem div_back {a b : List Int} (hb : 0 < b.length) : trim (addR (trim (mulR (trim (quo a b)) b)) (trim (rst a b))) = trim a := trim_same _ _ fun k => by
  rw [at0_addR, at0_trim, at0_trim, at0_mulR]
  have e1 : cof (trim (quo a b)) (at0 b) k = cof (quo a b) (at0 b) k := by
    rw [cof_comm, cof_same (at0_trim (quo a b)), cof_comm]
  rw [e1]
  by_cases hq : 0 < qN a b
  · exact ld_sum b a (by have := qN_fit (a := a) hb hq; omega) hb _ (Nat.le_refl _) k
  · have e0 : qN a b = 0 := by omega
    have e2 : quo a b = [] := List.eq_nil_of_length_eq_zero (by rw [quo_len, e0])
    have e3 : rst a b = a := by
      unfold rst
      rw [e0]
      rfl
    rw [e2, e3]
    show 0 + at0 a k = at0 a k
    omega
theorem cof_top {g : Nat → Int} {n : Nat} (hg : ∀ k, n < k → g k = 0) : ∀ (a : List Int), a ≠ [] → cof a g (a.length - 1 + n) = leadOf a * g n
  | [], h => absurd rfl h
  | [x], _ => by
    show cof [x] g (0 + n) = x * g n
    rw [cof_cons, Nat.zero_add]
    have : sh (cof [] g) n = 0 := by cases n <;> rfl
    rw [this, Int.add_zero]
  | x :: y :: r, _ => by
    have ih := cof_top hg (y :: r) (by intro z; cases z)
    have e1 : (x :: y :: r).length - 1 + n = (y :: r).length - 1 + n + 1 := by
      simp only [List.length_cons]
      omega
    rw [e1, cof_cons, hg _ (by simp only [List.length_cons]; omega), Int.mul_zero, Int.zero_add]
    exact ih
theorem cof_out1 {g : Nat → Int} {n : Nat} (hg : ∀ k, n ≤ k → g k = 0) : ∀ (a : List Int) (k : Nat), a.length + n ≤ k + 1 → cof a g k = 0
  | [], k, _ => rfl
  | x :: a, k, h => by
    have h' : a.length + 1 + n ≤ k + 1 := h
    rw [cof_cons, hg k (by omega), Int.mul_zero, Int.zero_add]
    cases k with
    | zero => rfl
    | succ k => exact cof_out1 hg a k (by omega)
section
variable {a b s : List Int}
theorem prod_len (hb : leadOf b ≠ 0) (hs : leadOf s ≠ 0) (ha : ∀ k, at0 a k = cof s (at0 b) k) (ht : trim a = a) : a.length + 1 = b.length + s.length := by
  have bl : 0 < b.length := by
    cases b with
    | nil => exact absurd rfl hb
    | cons x r => exact Nat.succ_pos _
  have sl : 0 < s.length := by
    cases s with
    | nil => exact absurd rfl hs
    | cons x r => exact Nat.succ_pos _
  have sn : s ≠ [] := by
    intro z
    rw [z] at sl
    cases sl
  have top := cof_top (g := at0 b) (n := b.length - 1) (fun k hk => at0_out (by omega)) s sn
  rw [← ha] at top
  have nz : at0 a (s.length - 1 + (b.length - 1)) ≠ 0 := by
    rw [top]
    exact Int.mul_ne_zero hs hb
  have lo : s.length - 1 + (b.length - 1) < a.length := by
    rcases Nat.lt_or_ge (s.length - 1 + (b.length - 1)) a.length with h | h
    · exact h
    · exact absurd (at0_out h) nz
  have hi : a.length ≤ s.length + b.length - 1 := by
    rw [← ht]
    refine trim_le fun k hk => ?_
    rw [ha]
    exact cof_out1 (n := b.length) (fun k hk => at0_out hk) s k (by omega)
  omega
theorem take_len {t : Nat} (h : t ≤ s.length) : (s.take t).length = t := by
  rw [List.length_take]
  omega
theorem take_snoc {t : Nat} (h : t < s.length) : s.take (t + 1) = s.take t ++ [at0 s t] := by
  rw [take_one h]
  unfold at0
  rw [List.getElem?_eq_getElem h]
  rfl
/-- a product, divided: behind each step the rest is the product of what is not yet told -/
theorem ld_prod (hb : leadOf b ≠ 0) (ha : ∀ k, at0 a k = cof s (at0 b) k) (hm : s.length + b.length = a.length + 1) : ∀ i, i ≤ s.length →
    (∀ k, at0 (ld b a s.length i).2 k = cof (s.take (s.length - i)) (at0 b) k) ∧ (∀ j, s.length - i ≤ j → at0 (ld b a s.length i).1 j = at0 s j) ∧ exN b a s.length i = true
  | 0, _ => by
    refine ⟨fun k => ?_, fun j hj => ?_, rfl⟩
    · rw [Nat.sub_zero, List.take_length]
      exact ha k
    · rw [at0_out (a := s) (by omega)]
      exact at0_out (by rw [(ld_len b a s.length 0).1]; omega)
  | i + 1, hi => by
    obtain ⟨h1, h2, h3⟩ := ld_prod hb ha hm i (by omega)
    have bl : 0 < b.length := by
      cases b with
      | nil => exact absurd rfl hb
      | cons x r => exact Nat.succ_pos _
    obtain ⟨t, ht⟩ : ∃ t, t = s.length - 1 - i := ⟨_, rfl⟩
    have e1 : s.length - i = t + 1 := by omega
    have e2 : s.length - (i + 1) = t := by omega
    have sn := take_snoc (s := s) (t := t) (by omega)
    have tl := take_len (s := s) (t := t) (by omega)
    rw [e1] at h1 h2
    have lt1 : leadOf (s.take (t + 1)) = at0 s t := by
      unfold leadOf
      rw [sn, List.length_append, tl]
      show at0 (s.take t ++ [at0 s t]) t = at0 s t
      conv => lhs; unfold at0
      rw [List.getElem?_append_right (by omega), tl, Nat.sub_self]
      rfl
    have top : at0 (ld b a s.length i).2 (t + (b.length - 1)) = at0 s t * leadOf b := by
      have l1 : (s.take (t + 1)).length = t + 1 := take_len (by omega)
      have := cof_top (g := at0 b) (n := b.length - 1) (fun k hk => at0_out (by omega)) (s.take (t + 1)) (by
        intro z
        rw [z] at l1
        cases l1)
      rw [l1, lt1] at this
      rw [h1]
      exact this
    have hc : ldC b (ld b a s.length i).2 t = at0 s t := by
      unfold ldC
      rw [top]
      exact Int.mul_fdiv_cancel _ hb
    refine ⟨fun k => ?_, fun j hj => ?_, ?_⟩
    · rw [e2]
      show at0 (subJ _ _ _ _ _) k = _
      rw [at0_subJ (by rw [(ld_len b a s.length i).2]; omega), ← ht, hc, h1, sn, ← co_cof, ← co_cof, co_snoc, tl]
      unfold tm
      omega
    · rw [e2] at hj
      show at0 (List.set _ _ _) j = _
      rw [at0_set _ _ _ (by rw [(ld_len b a s.length i).1]; omega), ← ht, hc]
      by_cases e : j = t
      · rw [if_pos e, e]
      · rw [if_neg e]
        exact h2 j (by omega)
    · show (exN b a s.length i && decide (ldC b (ld b a s.length i).2 (s.length - 1 - i) * leadOf b = ldTop b a s.length i)) = true
      rw [h3, Bool.true_and, ← ht, hc]
      refine decide_eq_true ?_
      unfold ldTop
      rw [← ht, top]
theorem prod_div (hb : leadOf b ≠ 0) (hs : leadOf s ≠ 0) (ha : ∀ k, at0 a k = cof s (at0 b) k) (ht : trim a = a) : exact2 a b = true ∧ trim (rst a b) = [] ∧ quo a b = s := by
  have hl := prod_len hb hs ha ht
  have bl : 0 < b.length := by
    cases b with
    | nil => exact absurd rfl hb
    | cons x r => exact Nat.succ_pos _
  have hq : qN a b = s.length := by
    unfold qN
    omega
  obtain ⟨h1, h2, h3⟩ := ld_prod hb ha (by omega) s.length (Nat.le_refl _)
  rw [Nat.sub_self] at h1 h2
  refine ⟨?_, ?_, ?_⟩
  · unfold exact2
    rw [hq]
    exact h3
  · refine trim_none _ fun k => ?_
    unfold rst
    rw [hq, h1]
    rfl
  · refine row_ext (by rw [quo_len, hq]) fun k hk => ?_
    rw [quo_len, hq] at hk
    have e := h2 k (Nat.zero_le _)
    unfold quo
    rw [hq]
    unfold at0 at e
    rw [List.getElem?_eq_getElem (by rw [(ld_len b a s.length s.length).1]; exact hk), List.getElem?_eq_getElem hk] at e ⊢
    exact congrArg some e
end
end K0

set_option Elab.async false
set_option linter.all false
set_option maxRecDepth 100000
set_option maxHeartbeats 4000000
/-! A lambda handed to the def that catches its refusals. -/
namespace K0
open PySem PySem.Spec PyProof.Rows L2 Gd
open LamX (Tabs TabB ExtN GivesTo CodeO tLam)
local macro_rules | `(tactic| walk_at "rd1") => `(tactic| first | with_reducible refine g_ret ?_ | with_reducible refine g_retN ?_ | with_reducible refine g_seq ?_ | with_reducible refine g_next ?_ | with_reducible refine g_drop ?_ | with_reducible refine g_asg ?_ | with_reducible refine g_name ?_ | with_reducible refine g_ifs ?_ | with_reducible refine g_test ?_ | with_reducible refine g_tb ?_ | with_reducible refine g_and ?_ | with_reducible refine g_or ?_ | with_reducible refine g_not ?_ | with_reducible refine g_andV ?_ | with_reducible refine g_orV ?_ | with_reducible refine g_notV ?_ | with_reducible refine g_if ?_ | with_reducible refine g_op ?_ | with_reducible refine g_un ?_ | with_reducible refine g_cb ?_ | with_reducible refine g_nil ?_ | with_reducible refine g_cons ?_ | with_reducible refine g_call ?_ | with_reducible refine g_callS ?_ | with_reducible refine g_tup ?_ | with_reducible refine g_lst ?_ | with_reducible refine g_isN ?_ | with_reducible refine g_sl ?_ | with_reducible refine g_nopart ?_ | with_reducible refine g_part ?_ | with_reducible refine g_chain ?_ | with_reducible refine g_fld ?_ | with_reducible refine g_prop ?_ | with_reducible refine g_bm ?_ | with_reducible refine g_bm0 ?_ | with_reducible refine g_c ?_ | with_reducible refine g_sub ?_ | with_reducible refine g_int1 ?_ | with_reducible refine g_int2 ?_ | with_reducible refine g_yes ?_ | with_reducible refine g_sfld ?_ | with_reducible refine g_NT ?_ | with_reducible refine g_NF ?_ | with_reducible refine iteT ?_ | with_reducible refine iteF ?_ | ((with_reducible refine' g_aug ?hv ?_); (case hv => exact rfl)) | ((with_reducible refine' g_var ?hv ?_); (case hv => exact rfl)) | with_reducible refine g_I0 ?_ | with_reducible refine g_U ?_ | with_reducible refine g_eqI ?_ | with_reducible refine g_blV ?_ | with_reducible refine g_inV ?_)
local macro_rules | `(tactic| walk_at "rd") => `(tactic| repeat walk_at "rd1")
abbrev sRefused : Stmt := top 46
theorem scRefused : FnScope ["_law_call", "e"] ["_law_call"] (defScope sRefused) := ⟨rfl, rfl, rfl, by decide +kernel, rfl, by decide +kernel, by decide +kernel⟩
/-- told of a call: what it gives, or what it is refused with -/
def TRef (CR CO CP : Addr) : (XK → Hp → VK → Prop) → Hp → VK → Prop := fun tl H Q =>
  tl (fun cls d H' => (cls = .ref CR ∧ ∃ dd r, d = some dd ∧ H' dd = some (.xd [(("reason" : Str), r)]) ∧ Q r H') ∨ (cls = .ref CO ∧ Q (.str "operation") H') ∨ (cls = .ref CP ∧ Q (.str "poly") H')) H Q
theorem takes_len {X : Cx} {W : WX} (t : Takes X W) : Takes X (fun cls d σ H => σ.length = X.N.length → W cls d σ H) := fun u s' ⟨a, B, sI, pins, σ, H, cls, d, e, I, nb, up, sky, na, os, ag, w⟩ =>
  t u s' ⟨a, B, sI, pins, σ, H, cls, d, e, I, nb, up, sky, na, os, ag, w I.len⟩
theorem ref_gives {X : Cx} {CR fR CO CP g : Addr} {cdg : Value} {q : Str} (R : PySem.XRefused.RefusedTxt X.K X.mg CR fR) (NO : OwnX X.K X.mg "InvalidOperation" CO) (NP : OwnX X.K X.mg "InvalidPoly" CP)
    (nOR : PySem.W.exmOne X.K (.ref CO) (.ref CR) = some false) (nPR : PySem.W.exmOne X.K (.ref CP) (.ref CR) = some false) (nPO : PySem.W.exmOne X.K (.ref CP) (.ref CO) = some false) :
    GivesTo X ["_law_call", "e"] "_law_refused" (defScope sRefused) g cdg (defBody sRefused) "_law_call" q (TRef CR CO CP) := by
  intro f c' s H Q tl act hc h
  refine ⟨_, pss_one (ps_try_mix (X := (cxOf C8.CX0 X.prog X.w X.K X.mg X.base ["_law_call", "e"] "_law_refused" (defScope sRefused) g cdg X.A X.stack s H C8.E0).nox) (i := 1)
      (tb := fun W D σ H => ∃ Ech : XK, (∀ cls d σ' H', σ'.length = 2 → Ech cls d H' → W cls d σ' H') ∧ σ[0]? = some (some (.ref f)) ∧ H c' = some (CodeO c' q) ∧ tl Ech H D.rt)
      (Wo := fun _ _ _ _ => False) rfl rfl scRefused.nd rfl rfl L2.takes0 (fun W pn xe tk _ => ?_)
      (MixOk.named (c := .ref CR) ⟨rfl, by decide, Or.inl R.gC⟩ (fun a oe cls d pn hz hf => pss_one (ps_ret (pe_byRefused R hz hf (pv 1))))
        (MixOk.plain (c := .ref CO) ⟨rfl, by decide, Or.inl NO.gC⟩ (fun a oe cls d pn hz hf => pss_one (ps_ret pe_str))
          (MixOk.plain (c := .ref CP) ⟨rfl, by decide, Or.inl NP.gC⟩ (fun a oe cls d pn hz hf => pss_one (ps_ret pe_str)) MixOk.nil)))), ?_⟩
  · constructor
    intro pins s' σ H' D I h'
    obtain ⟨Ech, hW, h1, h2, h3⟩ := h'
    exact (pss_one (ps_ret (act _ pn xe Ech _ _ (takes_len tk) fun cls d σ' H' z l => hW cls d σ' H' l z))).run pins s' σ H' D I ⟨h1, h2, h3⟩
  · refine ⟨_, fun cls d σ' H' l k => ?_, rfl, hc, h⟩
    obtain ⟨x, y, rfl⟩ : ∃ x y, σ' = [x, y] := by
      match σ', l with
      | [x, y], _ => exact ⟨x, y, rfl⟩
    rcases k with ⟨rfl, dd, r, rfl, e, q⟩ | ⟨rfl, q⟩ | ⟨rfl, q⟩
    · refine ⟨true, R.te, fun _ a _ => ?_, fun z => Bool.noConfusion z⟩
      exact ⟨_, rfl, rfl, rfl, dd, r, rfl, e, q⟩
    · exact ⟨false, nOR, fun z => Bool.noConfusion z, fun _ => ⟨true, NO.te, fun _ a _ => q, fun z => Bool.noConfusion z⟩⟩
    · exact ⟨false, nPR, fun z => Bool.noConfusion z, fun _ => ⟨false, nPO, fun z => Bool.noConfusion z, fun _ => ⟨true, NP.te, fun _ a _ => q, fun z => Bool.noConfusion z⟩⟩⟩
end K0

set_option Elab.async false
set_option linter.all false
set_option maxRecDepth 100000
set_option maxHeartbeats 4000000
/-! What the law's defs lean on, in one word each; rows that fit. -/
namespace K0
open PySem PySem.Spec PyProof.Rows L2 Gd
local macro_rules | `(tactic| walk_at "rd1") => `(tactic| first | with_reducible refine g_ret ?_ | with_reducible refine g_retN ?_ | with_reducible refine g_seq ?_ | with_reducible refine g_next ?_ | with_reducible refine g_drop ?_ | with_reducible refine g_asg ?_ | with_reducible refine g_name ?_ | with_reducible refine g_ifs ?_ | with_reducible refine g_test ?_ | with_reducible refine g_tb ?_ | with_reducible refine g_and ?_ | with_reducible refine g_or ?_ | with_reducible refine g_not ?_ | with_reducible refine g_andV ?_ | with_reducible refine g_orV ?_ | with_reducible refine g_notV ?_ | with_reducible refine g_if ?_ | with_reducible refine g_op ?_ | with_reducible refine g_un ?_ | with_reducible refine g_cb ?_ | with_reducible refine g_nil ?_ | with_reducible refine g_cons ?_ | with_reducible refine g_call ?_ | with_reducible refine g_callS ?_ | with_reducible refine g_tup ?_ | with_reducible refine g_lst ?_ | with_reducible refine g_isN ?_ | with_reducible refine g_sl ?_ | with_reducible refine g_nopart ?_ | with_reducible refine g_part ?_ | with_reducible refine g_chain ?_ | with_reducible refine g_fld ?_ | with_reducible refine g_prop ?_ | with_reducible refine g_bm ?_ | with_reducible refine g_bm0 ?_ | with_reducible refine g_c ?_ | with_reducible refine g_sub ?_ | with_reducible refine g_int1 ?_ | with_reducible refine g_int2 ?_ | with_reducible refine g_yes ?_ | with_reducible refine g_sfld ?_ | with_reducible refine g_NT ?_ | with_reducible refine g_NF ?_ | with_reducible refine iteT ?_ | with_reducible refine iteF ?_ | ((with_reducible refine' g_aug ?hv ?_); (case hv => exact rfl)) | ((with_reducible refine' g_var ?hv ?_); (case hv => exact rfl)) | with_reducible refine g_I0 ?_ | with_reducible refine g_U ?_ | with_reducible refine g_eqI ?_ | with_reducible refine g_blV ?_ | with_reducible refine g_inV ?_)
local macro_rules | `(tactic| walk_at "rd") => `(tactic| repeat walk_at "rd1")
/-! ### defs and methods, their places hidden -/
structure Def1 (P : Program) (w : World) (K : PySem.W.Frag) (mg : Str → Option Value) (base : Heap) (CX : CXT) (k : Nat) (name : Str) (ps : List Str) (sp : Sp) : Prop where
  ex : ∃ (f : Addr) (fd : FuncData), mg name = some (.ref f) ∧ PySem.W.keepIn K (.ref f) = true ∧ FnOk P w K mg base CX k f fd ps sp ∧ Binds K fd ps []
structure Def1G (P : Program) (w : World) (K : PySem.W.Frag) (mg : Str → Option Value) (base : Heap) (CX : CXT) (k : Nat) (name : Str) (ps : List Str) (sp : Sp) : Prop where
  ex : ∃ (f : Addr) (fd : FuncData), mg name = some (.ref f) ∧ PySem.W.keepIn K (.ref f) = true ∧ FnG P w K mg base CX k f fd ps sp ∧ Binds K fd ps []
structure Bin1 (P : Program) (w : World) (K : PySem.W.Frag) (mg : Str → Option Value) (base : Heap) (C : Addr) (m r : Str) (sp : Sp) : Prop where
  ex : ∃ (f : Addr) (fd : FuncData), BinC K C m r f ∧ FnOk P w K mg base CX0 7 f fd ["self", "other"] sp ∧ Binds K fd ["self", "other"] []
structure Met1 (P : Program) (w : World) (K : PySem.W.Frag) (mg : Str → Option Value) (base : Heap) (CX : CXT) (k : Nat) (C : Addr) (m : Str) (ps : List Str) (sp : Sp) : Prop where
  ex : ∃ (f : Addr) (fd : FuncData), Meth K C m f ∧ PySem.W.fnIn K f = true ∧ FnOk P w K mg base CX k f fd ps sp ∧ Binds K fd ps []
structure Pro1 (P : Program) (w : World) (K : PySem.W.Frag) (mg : Str → Option Value) (base : Heap) (C : Addr) (x : Str) (sp : Sp) : Prop where
  ex : ∃ (p f : Addr) (fd : FuncData), PropOf K C x p f ∧ FnOk P w K mg base CX0 1 f fd ["self"] sp ∧ Binds K fd ["self"] []
structure Ini1 (P : Program) (w : World) (K : PySem.W.Frag) (mg : Str → Option Value) (base : Heap) (C t0 : Addr) (sp : Sp) : Prop where
  ex : ∃ (f : Addr) (fd : FuncData) (ds : List Value), Mk K C f ∧ FnOk P w K mg base CX0 4 f fd ["self", "factors"] sp ∧ Binds K fd ["self", "factors"] [] ∧ Vals [V.ref t0] ds ∧ Binds K fd ["self", "factors"] ds
abbrev X0 : XK := fun _ _ _ => False
section
variable {X : Cx} {C t0 : Addr} {k j : Nat} {x m r : Str} {ps : List Str} {sp : Sp} {e a : Expr} {es : List Expr} {t : TA} {ta tb : TE} {p pos apos : Pos}
theorem pe_def (D : Def1 X.prog X.w X.K X.mg X.base CX0 k x ps sp) (hr : Room j X.A) (hj : k ≤ j) (hgl : Gl X x) (ha : PA X (e :: es) t) (hdb : (x == ("__debug__" : Str)) = false := by decide)
    (he : starEach (e :: es) X.env = (false, eval e X.env) :: starEach es X.env := by rfl) (hpl : (backTo pos (starEach es X.env)).any (·.1) = false := by rfl) : PE X (.Call (.Name x p) (e :: es) [] pos) (tCall sp [] X0 t) := by
  obtain ⟨f, fd, hm, hk, F, hb⟩ := D.ex
  exact pe_call F (hr.mono hj) hgl hm hk hb .nil pass0 ha hdb he hpl
theorem pe_defG (hg : NoG X.A) (D : Def1G X.prog X.w X.K X.mg X.base CX0 k x ps sp) (hr : Room j X.A) (hj : k ≤ j) (hgl : Gl X x) (ha : PA X (e :: es) t) (hdb : (x == ("__debug__" : Str)) = false := by decide)
    (he : starEach (e :: es) X.env = (false, eval e X.env) :: starEach es X.env := by rfl) (hpl : (backTo pos (starEach es X.env)).any (·.1) = false := by rfl) : PE X (.Call (.Name x p) (e :: es) [] pos) (tCall sp [] X0 t) := by
  obtain ⟨f, fd, hm, hk, F, hb⟩ := D.ex
  exact pe_callG hg F (hr.mono hj) hgl hm hk hb .nil pass0 ha hdb he hpl
theorem op_add1 (D : Bin1 X.prog X.w X.K X.mg X.base C "__add__" "__radd__" sp) (hr : Room j X.A) (hj : 8 ≤ j) : OpR X (binaryOp .Add) (rBinO C sp X0) := by
  obtain ⟨f, fd, B, F, hb⟩ := D.ex
  exact op_addO B F (hr.mono hj) hb (fun _ => quiet0)
theorem op_sub1 (D : Bin1 X.prog X.w X.K X.mg X.base C "__sub__" "__rsub__" sp) (hr : Room j X.A) (hj : 8 ≤ j) : OpR X (binaryOp .Sub) (rBinO C sp X0) := by
  obtain ⟨f, fd, B, F, hb⟩ := D.ex
  exact op_subO B F (hr.mono hj) hb (fun _ => quiet0)
theorem op_mul1 (D : Bin1 X.prog X.w X.K X.mg X.base C "__mul__" "__rmul__" sp) (hr : Room j X.A) (hj : 8 ≤ j) : OpR X (binaryOp .Mult) (rBinO C sp X0) := by
  obtain ⟨f, fd, B, F, hb⟩ := D.ex
  exact op_mulO B F (hr.mono hj) hb (fun _ => quiet0)
theorem un_neg1 (D : Met1 X.prog X.w X.K X.mg X.base CX0 7 C "__neg__" ["self"] sp) (hr : Room j X.A) (hj : 8 ≤ j) : UnR X (unaryOp .USub) (rNegO C sp X0) := by
  obtain ⟨f, fd, M, _, F, hb⟩ := D.ex
  exact un_negO M F (hr.mono hj) hb (fun _ => quiet0)
theorem op_eq1 (D : Met1 X.prog X.w X.K X.mg X.base CX0 1 C "__eq__" ["self", "other"] sp) (hr : Room j X.A) (hj : 2 ≤ j) : OpR X (compareOp .Eq) (rCmpO X.K C sp X0) := by
  obtain ⟨f, fd, M, _, F, hb⟩ := D.ex
  exact op_eqO M F (hr.mono hj) hb (fun _ => quiet0)
theorem op_ne1 (hn : NeC X.K C) (D : Met1 X.prog X.w X.K X.mg X.base CX0 1 C "__eq__" ["self", "other"] sp) (hr : Room j X.A) (hj : 2 ≤ j) : OpR X (compareOp .NotEq) (rNeO X.K C sp X0) := by
  obtain ⟨f, fd, M, _, F, hb⟩ := D.ex
  exact op_neO hn M F (hr.mono hj) hb (fun _ => quiet0)
theorem call_bool1 (D : Met1 X.prog X.w X.K X.mg X.base CX0 1 C "__bool__" ["self"] sp) (hr : Room j X.A) (hj : 3 ≤ j) : CallR X (.type "bool") (rBoolO C sp X0) := by
  obtain ⟨f, fd, M, _, F, hb⟩ := D.ex
  exact call_boolO M F (hr.mono hj) hb (fun _ => quiet0)
theorem pe_pro1 (c : Cls X.K C) (D : Pro1 X.prog X.w X.K X.mg X.base C x sp) (hr : Room j X.A) (hj : 2 ≤ j) (ha : PE X e ta) (hab : attributeBase e x X.env (eval e X.env) = eval e X.env := by rfl) : PE X (.Attribute e x pos) (tProp C sp [] X0 ta) := by
  obtain ⟨p, f, fd, hp, F, hb⟩ := D.ex
  exact pe_prop ha c hp F (hr.mono hj) hb .nil pass0 hab
theorem pe_mk1 (D : Ini1 X.prog X.w X.K X.mg X.base C t0 sp) (hr : Room j X.A) (hj : 5 ≤ j) (hgl : Gl X x) (hm : X.mg x = some (.ref C)) (ha : PA X (e :: es) t) (hdb : (x == ("__debug__" : Str)) = false := by decide)
    (he : starEach (e :: es) X.env = (false, eval e X.env) :: starEach es X.env := by rfl) (hpl : (backTo pos (starEach es X.env)).any (·.1) = false := by rfl) : PE X (.Call (.Name x p) (e :: es) [] pos) (tMake C sp [] X0 t) := by
  obtain ⟨f, fd, ds, M, F, hb, _, _⟩ := D.ex
  exact pe_make M F (hr.mono hj) hgl hm hb .nil pass0 ha hdb he hpl
theorem pe_mk0 (D : Ini1 X.prog X.w X.K X.mg X.base C t0 sp) (hr : Room j X.A) (hj : 5 ≤ j) (hgl : Gl X x) (hm : X.mg x = some (.ref C)) (hdb : (x == ("__debug__" : Str)) = false := by decide) : PE X (.Call (.Name x p) [] [] pos) (tMake C sp [.ref t0] X0 tNil) := by
  obtain ⟨f, fd, ds, M, F, _, hv, hb⟩ := D.ex
  exact pe_make0 M F (hr.mono hj) hgl hm hb hv pass0 hdb
theorem pe_cl1 {fe : Expr} (D : Met1 X.prog X.w X.K X.mg X.base (L2.CX X.prog X.w) k C "__call__" ps sp) (hr : Room j X.A) (hj : k + 1 ≤ j) {W : WX} (tk : Takes X W) (hf : PE X fe ta) (ha : PA X (e :: es) t)
    (he : eval (.Call fe (e :: es) [] pos) X.env = (do callWith pos (← eval fe X.env) [] (backTo pos (starEach (e :: es) X.env)) (backToKw pos (keywordEach [] X.env))) := by rfl)
    (h1 : starEach (e :: es) X.env = (false, eval e X.env) :: starEach es X.env := by rfl) (h2 : (backTo pos (starEach es X.env)).any (·.1) = false := by rfl) :
    PE X (.Call fe (e :: es) [] pos) (tCallO C sp (WE W) ta t) := by
  obtain ⟨f, fd, M, hfn, F, hb⟩ := D.ex
  exact pe_callO M hfn F (hr.mono hj) hb (fun σ => passAt tk σ) hf ha he h1 h2
theorem pe_it1 (D : Met1 X.prog X.w X.K X.mg X.base (L2.CX X.prog X.w) k C "__getitem__" ["self", "index"] sp) (hr : Room j X.A) (hj : k + 1 ≤ j) {W : WX} (tk : Takes X W) (ha : PE X e ta) (hb : PE X a tb)
    (hs : ∀ v u : Value, subscripted a true v u = runValue (.builtin "lifetime.subscript" ⟨[v, u], []⟩) := by intro _ _; with_unfolding_all rfl) : PE X (.Subscript e a pos) (tIxO C sp (WE W) ta tb) := by
  obtain ⟨f, fd, M, hfn, F, hB⟩ := D.ex
  exact pe_ixO M hfn F (hr.mono hj) hB (fun σ => passAt tk σ) ha hb hs
theorem pe_me1 {o : Expr} {pl : Sem Bool} {E : XK} (c : Cls X.K C) (D : Met1 X.prog X.w X.K X.mg X.base (L2.CX X.prog X.w) k C m ps sp) (hr : Room j X.A) (hj : k ≤ j) (hx : Passes (L2.CX X.prog X.w) X E) (ho : PE X o ta) (ha : PA X (e :: es) t)
    (ht : eval (.Call (.Attribute o m apos) (e :: es) [] pos) X.env = (do
      let ov ← eval o X.env
      standAt apos.atName
      let (f, first) ← holding [ov] (getMethod ov m pl)
      callWith pos f first (backTo pos (starEach (e :: es) X.env)) (backToKw pos (keywordEach [] X.env))) := by rfl)
    (hst : starEach (e :: es) X.env = (false, eval e X.env) :: starEach es X.env := by rfl) (hpl : (backTo pos (starEach es X.env)).any (·.1) = false := by rfl) :
    PE X (.Call (.Attribute o m apos) (e :: es) [] pos) (tMeth C m sp [] E ta t) := by
  obtain ⟨f, fd, M, _, F, hb⟩ := D.ex
  exact pe_meth ho c M F (hr.mono hj) hb .nil hx ha hst hpl ht
end
/-! ### making, comparing, adding -/
section
variable {K : PySem.W.Frag} {mg : Str → Option Value} {C : Addr}
theorem made_ext {H : Hp} {x dx : Addr} {o u : HO} (hx : H x = none) (hdx : H dx = none) : Ext H (upd (upd H dx o) x u) := fun b ob q => by
  rw [upd_ne (ne_of_none q hx), upd_ne (ne_of_none q hdx)]
  exact q
theorem g_mkP {H : Hp} {Q : VK} {E : XK} {te : TE} {σ : L2.St} {ns : List Int} (ht : ∀ Q0 : VK, (∀ H1 a, Ext H H1 → SqT K H1 a (ns.map V.int) → Q0 (.ref a) H1) → te σ H Q0) (hl : ns.length ≤ 400) (hB : Big ns)
    (k : ∀ H' p u, Ext H H' → PolyU K C H' p u (trim ns) → Q (.ref p) H') : tMake C (spInit K C) [] E (tCons te tNil) σ H Q :=
  ht _ fun H1 a e hs x dx hx hdx ne => ⟨x, dx, a, ns, rfl, upd_same, sqT_ext (made_ext hx hdx) hs, hl, hB, fun H' u e2 hp hu => ⟨rfl, k H' x u (fun b o q => e2 b o (ne_of_none (e b o q) hx) (made_ext hx hdx b o (e b o q))) ⟨⟨dx, hp⟩, hu, Nat.le_trans (Nat.le_trans (trim_len ns) hl) (by decide)⟩⟩⟩
theorem notFirst_self : PySem.W.notFirst K C (.ref C) = true := by
  unfold PySem.W.notFirst
  simp
theorem g_eqP (Cl : PC K mg C) {H : Hp} {Q : VK} {E : XK} {p u q v : Addr} {ns ms : List Int} (hP : PolyU K C H p u ns) (hQ : PolyU K C H q v ms) (k : Q (.bl (decide (ns = ms))) H) : rCmpO K C (spEqP K C) E (.ref p) (.ref q) H Q := by
  obtain ⟨dx, hp⟩ := id hP.1
  obtain ⟨dy, hq⟩ := id hQ.1
  exact ⟨p, dx, _, _, rfl, hp, Cl.ty hq, notFirst_self, p, u, ns, _, rfl, hP, .inl ⟨q, v, ms, rfl, hQ, ⟨_, rfl⟩, k⟩⟩
theorem g_neP (Cl : PC K mg C) {H : Hp} {Q : VK} {E : XK} {p u q v : Addr} {ns ms : List Int} (hP : PolyU K C H p u ns) (hQ : PolyU K C H q v ms) (k : Q (.bl (!decide (ns = ms))) H) : rNeO K C (spEqP K C) E (.ref p) (.ref q) H Q := by
  obtain ⟨dx, hp⟩ := id hP.1
  obtain ⟨dy, hq⟩ := id hQ.1
  exact ⟨p, dx, _, _, rfl, hp, Cl.ty hq, notFirst_self, p, u, ns, _, rfl, hP, .inl ⟨q, v, ms, rfl, hQ, _, rfl, k⟩⟩
theorem g_binP {op : List Int → List Int → List Int} {B : List Int → List Int → Prop} {H : Hp} {Q : VK} {E : XK} {p u : Addr} {y : V} {ns ms : List Int} (hP : PolyU K C H p u ns) (hy : OpRow K C H y ms) (hB : B ns ms)
    (k : ∀ H' q v, Ext H H' → PolyU K C H' q v (trim (op ns ms)) → Q (.ref q) H') : rBinO C (spBin K C op B) E (.ref p) y H Q := by
  obtain ⟨dx, hp⟩ := id hP.1
  refine ⟨p, dx, _, rfl, hp, ?_, p, u, ns, ms, y, rfl, hP, hy, hB, fun H' q v e hq => ⟨⟨q, rfl⟩, k H' q v e hq⟩⟩
  rcases hy with ⟨q, v, rfl, ⟨⟨dy, hq⟩, _, _⟩⟩ | ⟨i, rfl, _⟩
  · exact .inl ⟨q, dy, _, rfl, hq⟩
  · exact .inr ⟨i, rfl⟩
theorem OpRow.pol {H : Hp} {q v : Addr} {ms : List Int} (h : PolyU K C H q v ms) : OpRow K C H (.ref q) ms := .inl ⟨q, v, rfl, h⟩
theorem OpRow.int {H : Hp} {i : Int} : OpRow K C H (.int i) [i] := .inr ⟨i, rfl, rfl⟩
theorem g_negP {H : Hp} {Q : VK} {E : XK} {p u : Addr} {ns : List Int} (hP : PolyU K C H p u ns) (k : ∀ H' q v, Ext H H' → PolyU K C H' q v (trim (negR ns)) → Q (.ref q) H') : rNegO C (spNegP K C) E (.ref p) H Q := by
  obtain ⟨dx, hp⟩ := id hP.1
  exact ⟨p, dx, _, rfl, hp, p, u, ns, rfl, hP, k⟩
end
/-! ### rows that fit -/
def Fit (A L : Nat) (ns : List Int) : Prop := Bits A ns ∧ ns.length ≤ L
theorem Fit.add {A L : Nat} {a b : List Int} (ha : Fit A L a) (hb : Fit A L b) : Fit (A + 1) L (trim (addR a b)) :=
  ⟨bits_trim (bits_add ha.1 hb.1), Nat.le_trans (trim_len _) (by rw [addR_len]; exact Nat.max_le.mpr ⟨ha.2, hb.2⟩)⟩
theorem Fit.neg {A L : Nat} {a : List Int} (ha : Fit A L a) : Fit A L (negR a) := ⟨bits_neg ha.1, by rw [negR_len]; exact ha.2⟩
theorem Fit.sub {A L : Nat} {a b : List Int} (ha : Fit A L a) (hb : Fit A L b) : Fit (A + 1) L (trim (addR a (negR b))) := ha.add hb.neg
theorem Fit.mul {A B L M : Nat} {a b : List Int} (ha : Fit A L a) (hb : Fit B M b) (hL : L < 65536) : Fit (16 + A + B) (L + M) (trim (mulR a b)) :=
  ⟨bits_trim (bits_mul ha.1 hb.1 (Nat.lt_of_le_of_lt ha.2 hL)), Nat.le_trans (trim_len _) (by rw [mulR_len]; exact Nat.add_le_add ha.2 hb.2)⟩
theorem Fit.mono {A B L M : Nat} {a : List Int} (h : Fit A L a) (hA : A ≤ B) (hL : L ≤ M) : Fit B M a := ⟨bits_mono hA h.1, Nat.le_trans h.2 hL⟩
theorem Fit.trim {A L : Nat} {a : List Int} (h : Fit A L a) : Fit A L (trim a) := ⟨bits_trim h.1, Nat.le_trans (trim_len _) h.2⟩
theorem Fit.mulB {A B L M : Nat} {a b : List Int} (ha : Fit A L a) (hb : Fit B M b) (A0 : 0 < A) (B0 : 0 < B) (AB : A + B ≤ 1000000) (hL : L ≤ 50000) (hM : M ≤ 50000) : MulB a b :=
  ⟨Nat.le_trans ha.2 hL, Nat.le_trans hb.2 hM, A, B, A0, B0, AB, ha.1, hb.1⟩
theorem fit_big {ns : List Int} {L : Nat} (h : Big ns) (hl : ns.length ≤ L) : Fit 200 L ns := ⟨fun n hn => by
  have := h n hn
  have e : (10 : Nat) ^ 60 < 2 ^ 200 := by decide +kernel
  have e2 : n.natAbs < 10 ^ 60 := by omega
  exact Nat.lt_trans e2 e, hl⟩
theorem add_comm' (a b : List Int) : trim (addR a b) = trim (addR b a) := trim_same _ _ fun k => by rw [at0_addR, at0_addR, Int.add_comm]
theorem neg_trim (a : List Int) : negR (trim a) = trim (negR a) := by
  induction a with
  | nil => rfl
  | cons x r ih =>
    have t : negR (x :: r) = (-x) :: negR r := rfl
    rw [t]
    cases e : trim r with
    | nil =>
      have e1 : trim (x :: r) = if x = 0 then [] else [x] := by
        conv => lhs; unfold trim
        rw [e]
      have e2 : trim (negR r) = [] := by rw [← ih, e]; rfl
      have e3 : trim ((-x) :: negR r) = if -x = 0 then [] else [-x] := by
        conv => lhs; unfold trim
        rw [e2]
      rw [e1, e3]
      by_cases hx : x = 0
      · rw [if_pos hx, if_pos (by omega)]
        rfl
      · rw [if_neg hx, if_neg (by omega)]
        rfl
    | cons y s =>
      have e1 : trim (x :: r) = x :: y :: s := by
        conv => lhs; unfold trim
        rw [e]
      have e2 : trim (negR r) = (-y) :: negR s := by rw [← ih, e]; rfl
      have e3 : trim ((-x) :: negR r) = (-x) :: (-y) :: negR s := by
        conv => lhs; unfold trim
        rw [e2]
      rw [e1, e3]
      rfl
end K0

set_option Elab.async false
set_option linter.all false
set_option maxRecDepth 100000
set_option maxHeartbeats 4000000
/-! Lambdas and dice: what stays. -/
namespace K0
open PySem PySem.Spec PyProof.Rows L2 Gd
open LamX (Tabs TabB ExtN GivesTo CodeO tLam)
local macro_rules | `(tactic| walk_at "rd1") => `(tactic| first | with_reducible refine g_ret ?_ | with_reducible refine g_retN ?_ | with_reducible refine g_seq ?_ | with_reducible refine g_next ?_ | with_reducible refine g_drop ?_ | with_reducible refine g_asg ?_ | with_reducible refine g_name ?_ | with_reducible refine g_ifs ?_ | with_reducible refine g_test ?_ | with_reducible refine g_tb ?_ | with_reducible refine g_and ?_ | with_reducible refine g_or ?_ | with_reducible refine g_not ?_ | with_reducible refine g_andV ?_ | with_reducible refine g_orV ?_ | with_reducible refine g_notV ?_ | with_reducible refine g_if ?_ | with_reducible refine g_op ?_ | with_reducible refine g_un ?_ | with_reducible refine g_cb ?_ | with_reducible refine g_nil ?_ | with_reducible refine g_cons ?_ | with_reducible refine g_call ?_ | with_reducible refine g_callS ?_ | with_reducible refine g_tup ?_ | with_reducible refine g_lst ?_ | with_reducible refine g_isN ?_ | with_reducible refine g_sl ?_ | with_reducible refine g_nopart ?_ | with_reducible refine g_part ?_ | with_reducible refine g_chain ?_ | with_reducible refine g_fld ?_ | with_reducible refine g_prop ?_ | with_reducible refine g_bm ?_ | with_reducible refine g_bm0 ?_ | with_reducible refine g_c ?_ | with_reducible refine g_sub ?_ | with_reducible refine g_int1 ?_ | with_reducible refine g_int2 ?_ | with_reducible refine g_yes ?_ | with_reducible refine g_sfld ?_ | with_reducible refine g_NT ?_ | with_reducible refine g_NF ?_ | with_reducible refine iteT ?_ | with_reducible refine iteF ?_ | ((with_reducible refine' g_aug ?hv ?_); (case hv => exact rfl)) | ((with_reducible refine' g_var ?hv ?_); (case hv => exact rfl)) | with_reducible refine g_I0 ?_ | with_reducible refine g_U ?_ | with_reducible refine g_eqI ?_ | with_reducible refine g_blV ?_ | with_reducible refine g_inV ?_)
local macro_rules | `(tactic| walk_at "rd") => `(tactic| repeat walk_at "rd1")
section
variable {P : Program} {w : World} {K : PySem.W.Frag} {mg : Str → Option Value} {base : Heap} {f C CP CO CR t0 : Addr} {fd : FuncData}
/-- all but the dice and the tables stays -/
structure Keep (T : List (Addr × Str)) (d : Addr) (H H' : Hp) : Prop where
  ext : ∀ b o, b ≠ d → H b = some o → (∀ ps, o ≠ .tbl ps) → H' b = some o
  dice : DiceAt H' d
  tabs : Tabs T H'
theorem tabs_but {T : List (Addr × Str)} {H H' : Hp} {d : Addr} (hd : DiceAt H d) (e : ExtBut d H H') (t : Tabs T H) : Tabs T H' := fun p hp => by
  obtain ⟨ps, h1, h2, h3⟩ := t p hp
  refine ⟨ps, e _ _ (dice_ne hd h1 (fun _ => by simp)) h1, h2, fun pos cv hc => ?_⟩
  obtain ⟨c, e1, e2⟩ := h3 pos cv hc
  exact ⟨c, e1, e _ _ (dice_ne hd e2 (fun _ z => by unfold CodeO at z; cases z)) e2⟩
theorem g_meth {m : Str} {sp : Sp} {dvs : List V} {E : XK} {ta : TE} {t : TA} {σ : L2.St} {H : Hp} {Q : VK} (k : ta σ H fun x H1 => ∃ a dx fs, x = .ref a ∧ H1 a = some (.ins C dx fs) ∧ fs.lookup m = none ∧ t σ H1 fun vs H2 => sp (x :: (vs ++ dvs)) H2 Q E) : tMeth C m sp dvs E ta t σ H Q := k
theorem eqv_same (ns : List Int) : PyData.eqv (.tuple (idata ns)) (.tuple (idata ns)) = true := (eqv_ints ns ns).trans (decide_eq_true rfl)
theorem row_depth (ns : List Int) : (PyData.tuple (idata ns)).depth ≤ 60 := by
  show PyData.depthAll (idata ns) + 1 ≤ 60
  rw [deep_ints]
  decide
theorem row_size {A L : Nat} {ns : List Int} (h0 : 0 < A) (h : Fit A L ns) (fit : (A + 3) * L + 3 ≤ 16777216) : (PyData.tuple (idata ns)).shown.length ≤ sizeLine := by
  have e := tup_text h0 h.1
  have m : (A + 3) * ns.length ≤ (A + 3) * L := Nat.mul_le_mul_left _ h.2
  rw [sizeLine_eq]
  omega
theorem PolyU.extN {H H' : Hp} {p u : Addr} {ns : List Int} (e : ExtN H H') (h : PolyU K C H p u ns) : PolyU K C H' p u ns := by
  obtain ⟨⟨dx, h1⟩, h2, h3⟩ := h
  refine ⟨⟨dx, e _ _ h1 (fun _ z => by cases z)⟩, ?_, h3⟩
  rcases h2 with (h | ⟨o, h⟩) | h
  · exact .inl (.inl (e _ _ h (fun _ z => by cases z)))
  · exact .inl (.inr ⟨o, e _ _ h (fun _ z => by cases z)⟩)
  · exact .inr h
theorem sqT_extN {H H' : Hp} {a : Addr} {xs : List V} (e : ExtN H H') (h : SqT K H a xs) : SqT K H' a xs := by
  rcases h with (h | ⟨o, h⟩) | h
  · exact .inl (.inl (e _ _ h (fun _ z => by cases z)))
  · exact .inl (.inr ⟨o, e _ _ h (fun _ z => by cases z)⟩)
  · exact .inr h
theorem DiceAt.extN {H H' : Hp} {d : Addr} (e : ExtN H H') (h : DiceAt H d) : DiceAt H' d := by
  obtain ⟨x, y, z, h1, r⟩ := h
  exact ⟨x, y, z, e _ _ h1 (fun _ z => by cases z), r⟩
theorem keep_of {T : List (Addr × Str)} {d : Addr} {H H1 H2 H3 : Hp} (a : ExtBut d H H1) (hd : DiceAt H1 d) (e : ExtN H1 H2) (t : Tabs T H2) (f : Ext H2 H3) : Keep T d H H3 :=
  ⟨fun b o n h z => f _ _ (e _ _ (a _ _ n h) z), (hd.extN e).ext f, t.ext f⟩
theorem g_got {H : Hp} {Q : VK} {E : XK} {p u : Addr} {ns : List Int} {g : Addr → List Int → V} (hP : PolyU K C H p u ns) (k : Q (g u ns) H) : ∃ a dx fs, V.ref p = V.ref a ∧ H a = some (.ins C dx fs) ∧ spGet K C g [.ref a] H Q E := by
  obtain ⟨dx, hp⟩ := id hP.1
  exact ⟨p, dx, _, rfl, hp, p, u, ns, rfl, hP, k⟩
theorem sqL_extN {H H' : Hp} {a : Addr} {xs : List V} (e : ExtN H H') (h : SqL K H a xs) : SqL K H' a xs := by
  rcases h with (h | ⟨o, h⟩) | h
  · exact .inl (.inl (e _ _ h (fun _ z => by cases z)))
  · exact .inl (.inr ⟨o, e _ _ h (fun _ z => by cases z)⟩)
  · exact .inr h
theorem g_lam {T : List (Addr × Str)} {TT : (XK → Hp → VK → Prop) → Hp → VK → Prop} {t : XK → TE} {σ : L2.St} {H : Hp} {Q : VK} (hT : Tabs T H) (k : ∀ H1, ExtN H H1 → Tabs T H1 → TT (fun E H' Q' => t E σ H' Q') H1 Q) : tLam T TT t σ H Q := ⟨hT, k⟩
theorem big_nil : Big [] := fun n hn => absurd hn (List.not_mem_nil)
theorem g_mk0 {E : XK} {σ : L2.St} {H : Hp} {Q : VK} (h0 : SqT K H t0 []) (k : ∀ H' p u, Ext H H' → PolyU K C H' p u [] → Q (.ref p) H') : tMake C (spInit K C) [.ref t0] E tNil σ H Q :=
  fun x dx hx hdx ne => ⟨x, dx, t0, [], rfl, upd_same, sqT_ext (made_ext hx hdx) h0, Nat.zero_le _, big_nil, fun H' u e2 hp hu => ⟨rfl, k H' x u (fun b o q => e2 b o (ne_of_none q hx) (made_ext hx hdx b o q)) ⟨⟨dx, hp⟩, hu, Nat.zero_le _⟩⟩⟩
/-- the def that catches refusals -/
structure Ref (K : PySem.W.Frag) (mg : Str → Option Value) (CR CO CP : Addr) : Prop where
  at_ : ∃ (f : Addr) (fd : FuncData), At K mg "_law_refused" sRefused ["_law_call"] f fd
  r : ∃ fR, PySem.XRefused.RefusedTxt K mg CR fR
  no : OwnX K mg "InvalidOperation" CO
  np : OwnX K mg "InvalidPoly" CP
  nOR : PySem.W.exmOne K (.ref CO) (.ref CR) = some false
  nPR : PySem.W.exmOne K (.ref CP) (.ref CR) = some false
  nPO : PySem.W.exmOne K (.ref CP) (.ref CO) = some false
/-- _law_refused(lambda: body) -/
theorem pe_ref {X : Cx} {T : List (Addr × Str)} {c Pt : Addr} {params : Arguments} {body : Expr} {scope : Scope} {t : XK → TE} {p lpos pos : Pos} {k : Nat} (hgl : Gl X "_law_refused") (R : Ref X.K X.mg CR CO CP)
    (TB : TabB X.base X.mg c Pt) (hcode : X.env.code = .ref c) (hmT : (Pt, X.env.qual ++ "<lambda>") ∈ T) (hu : ∀ p ∈ T, p.1 = Pt → p.2 = X.env.qual ++ "<lambda>") (hr : Room (k + 3) X.A) (L : LamX.LamS X.env.scope scope) (hdef : defaultsOf params X.env = ([], []))
    (hbind : ∀ (q : Str) (cl : List (Str × Addr)) (pm cv ctv : Value), bindArgs (PySem.W.kla_fn "<lambda>" q params body scope cl pm cv ctv) ⟨[], []⟩ = pure [])
    (hbody : ∀ (A : Around) (outer : List Env) (s : Shared) (H : Hp) (E : XK) (f c' : Addr), Room (k + 1) (A.deeper (LamX.lamEnv X scope s.heap.objs.size f c')) → PE (LamX.lamCx X A outer s H E scope f c') body (t E)) :
    PE X (.Call (.Name "_law_refused" p) [.Lambda params body scope lpos] [] pos) (tLam T (TRef CR CO CP) t) := by
  obtain ⟨g, fdg, Rf⟩ := R.at_
  obtain ⟨fR, RR⟩ := R.r
  have hkp := Rf.F.kp
  have hbi := Rf.b
  obtain ⟨oc, od, kV, doc, pm, an, cdv, ct, osl, rfl, lk, hcd⟩ := Rf.F.ex
  exact LamX.pe_lamcall (k := k + 1) (Ng := ["_law_call", "e"]) hgl Rf.g hkp lk hcd hbi scRefused rfl (Or.inl rfl) (ref_gives RR R.no R.np R.nOR R.nPR R.nPO) TB hcode hmT hu hr L hdef hbind hbody
theorem g_ref {tl : XK → Hp → VK → Prop} {H : Hp} {Q : VK} (k : tl (fun cls d H' => (cls = .ref CR ∧ ∃ dd r, d = some dd ∧ H' dd = some (.xd [(("reason" : Str), r)]) ∧ Q r H') ∨ (cls = .ref CO ∧ Q (.str "operation") H') ∨ (cls = .ref CP ∧ Q (.str "poly") H')) H Q) : TRef CR CO CP tl H Q := k
theorem call_len1 {X : Cx} {j : Nat} {sp : Sp} (D : Met1 X.prog X.w X.K X.mg X.base CX0 1 C "__len__" ["self"] sp) (hr : Room j X.A) (hj : 2 ≤ j) : CallR X (.builtin "len") (rLenO C sp X0) := by
  obtain ⟨f, fd, M, _, F, hb⟩ := D.ex
  exact call_lenO M F (hr.mono hj) hb (fun _ => quiet0)
theorem ExtN.trans2 {H H1 H2 : Hp} (a : ExtN H H1) (b : ExtN H1 H2) : ExtN H H2 := fun x o h z => b x o (a x o h z) z
theorem ExtN.of {H H1 : Hp} (a : Ext H H1) : ExtN H H1 := fun x o h _ => a x o h
end
end K0

set_option Elab.async false
set_option linter.all false
set_option maxRecDepth 100000
set_option maxHeartbeats 4000000
/-! The law's look at a division with a remainder. -/
namespace K0
open PySem PySem.Spec PyProof.Rows L2 Gd
open LamX (Tabs TabB ExtN GivesTo CodeO tLam)
local macro_rules | `(tactic| walk_at "rd1") => `(tactic| first | with_reducible refine g_ret ?_ | with_reducible refine g_retN ?_ | with_reducible refine g_seq ?_ | with_reducible refine g_next ?_ | with_reducible refine g_drop ?_ | with_reducible refine g_asg ?_ | with_reducible refine g_name ?_ | with_reducible refine g_ifs ?_ | with_reducible refine g_test ?_ | with_reducible refine g_tb ?_ | with_reducible refine g_and ?_ | with_reducible refine g_or ?_ | with_reducible refine g_not ?_ | with_reducible refine g_andV ?_ | with_reducible refine g_orV ?_ | with_reducible refine g_notV ?_ | with_reducible refine g_if ?_ | with_reducible refine g_op ?_ | with_reducible refine g_un ?_ | with_reducible refine g_cb ?_ | with_reducible refine g_nil ?_ | with_reducible refine g_cons ?_ | with_reducible refine g_call ?_ | with_reducible refine g_callS ?_ | with_reducible refine g_tup ?_ | with_reducible refine g_lst ?_ | with_reducible refine g_isN ?_ | with_reducible refine g_sl ?_ | with_reducible refine g_nopart ?_ | with_reducible refine g_part ?_ | with_reducible refine g_chain ?_ | with_reducible refine g_fld ?_ | with_reducible refine g_prop ?_ | with_reducible refine g_bm ?_ | with_reducible refine g_bm0 ?_ | with_reducible refine g_c ?_ | with_reducible refine g_sub ?_ | with_reducible refine g_int1 ?_ | with_reducible refine g_int2 ?_ | with_reducible refine g_yes ?_ | with_reducible refine g_sfld ?_ | with_reducible refine g_NT ?_ | with_reducible refine g_NF ?_ | with_reducible refine iteT ?_ | with_reducible refine iteF ?_ | ((with_reducible refine' g_aug ?hv ?_); (case hv => exact rfl)) | ((with_reducible refine' g_var ?hv ?_); (case hv => exact rfl)) | with_reducible refine g_I0 ?_ | with_reducible refine g_U ?_ | with_reducible refine g_eqI ?_ | with_reducible refine g_blV ?_ | with_reducible refine g_inV ?_)
local macro_rules | `(tactic| walk_at "rd") => `(tactic| repeat walk_at "rd1")
theorem lead_shape (l : Int) : SeqAt.shaped (.tuple [.str "lead", .int l]) = true := by
  unfold SeqAt.shaped
  rw [show PyData.canLay0 (.tuple [.str "lead", .int l]) = (PyData.canLay0 (.str "lead") && (PyData.canLay0 (.int l) && true)) from rfl]
  have : PyData.canLay0 (.str "lead") = true := by decide +kernel
  rw [this, show PyData.canLay0 (.int l) = true from rfl]
  rfl
theorem lead_eqv (l : Int) : PyData.eqv (.tuple [.str "lead", .int l]) (.tuple [.str "lead", .int l]) = true := by
  show ((("lead" : Str) == ("lead" : Str)) && ((l == l) && true)) = true
  rw [beq_self_eq_true l]
  rfl
section
variable {P : Program} {w : World} {K : PySem.W.Frag} {mg : Str → Option Value} {base : Heap} {f C CP CO CR t0 : Addr} {fd : FuncData}
abbrev sDivR : Stmt := top 47
abbrev qDivR : Str := "_law_divided_right.<locals>.<lambda>"
/-- what the class and the law's own reckoning promise -/
structure Has (P : Program) (w : World) (K : PySem.W.Frag) (mg : Str → Option Value) (base : Heap) (C CP CO CR t0 : Addr) : Prop where
  add : Bin1 P w K mg base C "__add__" "__radd__" (spBin K C addR fun _ _ => True)
  mul : Bin1 P w K mg base C "__mul__" "__rmul__" (spBin K C mulR MulB)
  eq : Met1 P w K mg base CX0 1 C "__eq__" ["self", "other"] (spEqP K C)
  len : Met1 P w K mg base CX0 1 C "__len__" ["self"] (spGet K C fun _ ns => .int (ns.length : Int))
  fac : Pro1 P w K mg base C "factors" (spGet K C fun u _ => .ref u)
  ini : Ini1 P w K mg base C t0 (spInit K C)
  t0 : ∀ H, SqT K H t0 []
  divided : Met1 P w K mg base (L2.CX P w) 7 C "divided" ["self", "other"] (spDivided K C CP CO CR)
  over : Met1 P w K mg base (L2.CX P w) 7 C "over" ["self", "other"] (spOver K C CP CO CR)
  lsplit : Def1 P w K mg base CX0 2 "_law_split" ["_law_one", "_law_other"] (spSplit K)
/-- a polynomial's row, and a divisor's -/
def RowOk (ns : List Int) : Prop := Big ns ∧ ns.length ≤ 40 ∧ trim ns = ns
theorem RowOk.fit {ns : List Int} (h : RowOk ns) : Fit 200 40 ns := fit_big h.1 h.2.1
theorem lead_pos {ms : List Int} (h : leadOf ms ≠ 0) : 0 < ms.length := by
  cases ms with
  | nil => exact absurd rfl h
  | cons x r => exact Nat.succ_pos _
theorem divB {ns ms : List Int} (h : RowOk ns) (g : RowOk ms) (z : leadOf ms ≠ 0) : DivB ns ms :=
  ⟨Nat.le_trans h.2.1 (by decide), Nat.le_trans g.2.1 (by decide), lead_pos z, z, 200, 200, by decide, by decide, by decide, by
    have := Nat.mul_le_mul_right (200 + 1) (show ns.length + 2 ≤ 42 by have := h.2.1; omega)
    omega, h.fit.1, g.fit.1⟩
theorem ld_bitsQ {A B : Nat} {b a : List Int} {m : Nat} (hA : Bits A a) (hB : Bits B b) (hz : at0 b (b.length - 1) ≠ 0) (hm : m + b.length ≤ a.length + 1) (hb : 0 < b.length) : ∀ i, i ≤ m → Bits (A + i * (B + 1)) (ld b a m i).1
  | 0, _ => bits_of fun k => by
    have : at0 (ld b a m 0).1 k = 0 := by
      by_cases h : k < m
      · exact ld_zero b a m 0 k (by omega)
      · exact at0_out (by rw [(ld_len b a m 0).1]; omega)
    rw [this]
    exact Nat.two_pow_pos _
  | i + 1, h => bits_of fun k => by
    have l1 := (ld_len b a m i).1
    have mono : 2 ^ (A + i * (B + 1)) ≤ 2 ^ (A + (i + 1) * (B + 1)) := Nat.pow_le_pow_right (by decide) (by
      rw [Nat.add_mul]
      omega)
    show (at0 (List.set _ _ _) k).natAbs < _
    rw [at0_set _ _ _ (by omega)]
    by_cases e : k = m - 1 - i
    · rw [if_pos e]
      exact Nat.lt_of_lt_of_le (Nat.lt_of_le_of_lt (fdiv_abs _ hz) (bits_at (ld_bits hA hB hz hm hb i (by omega)) _)) mono
    · rw [if_neg e]
      exact Nat.lt_of_lt_of_le (bits_at (ld_bitsQ hA hB hz hm hb i (by omega)) k) mono
theorem quo_fit {ns ms : List Int} (h : RowOk ns) (g : RowOk ms) (z : leadOf ms ≠ 0) : Fit 8500 41 (trim (quo ns ms)) := by
  have lp := lead_pos z
  have hq : qN ns ms ≤ 41 := by
    have := h.2.1
    unfold qN
    omega
  refine Fit.trim ⟨?_, by rw [quo_len]; exact hq⟩
  by_cases q : 0 < qN ns ms
  · have hf := qN_fit (a := ns) lp q
    have := Nat.mul_le_mul_right (200 + 1) hq
    exact bits_mono (by omega) (ld_bitsQ h.fit.1 g.fit.1 z (by omega) lp (qN ns ms) (Nat.le_refl _))
  · have e2 : quo ns ms = [] := List.eq_nil_of_length_eq_zero (by rw [quo_len]; omega)
    rw [e2]
    exact fun n hn => absurd hn (List.not_mem_nil)
theorem pair_shape (a b : List Int) : SeqAt.shaped (.list [.tuple (idata a), .tuple (idata b)]) = true := by
  unfold SeqAt.shaped
  rw [show PyData.canLay0 (.list [.tuple (idata a), .tuple (idata b)]) = (PyData.canLayAll0 (idata a) && (PyData.canLayAll0 (idata b) && true)) from rfl, lay_ints, lay_ints,
    show PyData.depth (.list [.tuple (idata a), .tuple (idata b)]) = max (PyData.depthAll (idata a) + 1) (max (PyData.depthAll (idata b) + 1) 0) + 1 from rfl, deep_ints, deep_ints]
  rfl
theorem pair_eqv (a b : List Int) : PyData.eqv (.list [.tuple (idata a), .tuple (idata b)]) (.list [.tuple (idata a), .tuple (idata b)]) = true := by
  show (PyData.eqv (.tuple (idata a)) (.tuple (idata a)) && (PyData.eqv (.tuple (idata b)) (.tuple (idata b)) && true)) = true
  rw [eqv_same, eqv_same]
  rfl
def spDivR (K : PySem.W.Frag) (T : List (Addr × Str)) : Sp := fun vs H Q _ => ∃ (a b : Addr) (ns ms : List Int), vs = [.ref a, .ref b] ∧ Tabs T H ∧ SqT K H a (ns.map V.int) ∧ SqT K H b (ms.map V.int) ∧ RowOk ns ∧ RowOk ms ∧ leadOf ms ≠ 0 ∧
  ∀ H', ExtN H H' → Tabs T H' → Q (.bl true) H'
theorem scDivR : FnScope ["_law_one", "_law_other", "_law_told", "_law_due"] ["_law_one", "_law_other"] (defScope sDivR) := ⟨rfl, rfl, rfl, by decide +kernel, rfl, by decide +kernel, by decide +kernel⟩
theorem ok_divR {c Pt : Addr} {T : List (Addr × Str)} (F : Fun K "_law_divided_right" "_law_divided_right" sDivR f fd) (hc : fd.code = .ref c) (TB : TabB base mg c Pt) (hmT : (Pt, qDivR) ∈ T) (hu : ∀ p ∈ T, p.1 = Pt → p.2 = qDivR)
    (Tx : Txt K mg) (Cl : PC K mg C) (A : Has P w K mg base C CP CO CR t0) (R : Ref K mg CR CO CP) :
    FnG P w K mg base CX0 10 f fd ["_law_one", "_law_other"] (spDivR K T) := by
  refine fnGc F hc scDivR (fun vs H Q E h => ?_) (fun Ar outer s H vs Q E hg hr h => ?_)
  · obtain ⟨a, b, ns, ms, rfl, _⟩ := h
    rfl
  · obtain ⟨a, b, ns, ms, rfl, hT, ha, hb, oN, oM, hz, k⟩ := h
    refine ⟨_, PSs.nox (pss_cons (ps_set (i := 2) scDivR.nd rfl (Or.inl rfl) (pe_ref (k := 6) (t := fun E => tMeth C "divided" (spDivided K C CP CO CR) [] E (tMake C (spInit K C) [] X0 (tCons (tVar 0) tNil)) (tCons (tMake C (spInit K C) [] X0 (tCons (tVar 1) tNil)) tNil)) (by rfl) R TB rfl hmT hu (hr.mono (by decide)) (LamX.lamS_by (by show LamX.lamSB (defScope sDivR) _ = true; decide +kernel)) rfl (fun _ _ _ _ _ => by rfl)
              (fun _ _ _ _ E _ _ hr' => pe_me1 Cl.cl A.divided hr' (by decide) (passes_call (takes_of rfl rfl rfl rfl) (fun _ _ _ _ h => h)) (pe_mk1 A.ini hr' (by decide) (by rfl) Cl.g (pa_cons (pv 0) pa_nil)) (pa_cons (pe_mk1 A.ini hr' (by decide) (by rfl) Cl.g (pa_cons (pv 1) pa_nil)) pa_nil))))
      (pss_cons (ps_if (pt_cmpR op_notIn_seq (pe_ix ix_tup (pv 1) (pe_un un_neg pe_int) (fun _ _ => rfl)) (pe_tup (pa_cons pe_int (pa_cons (pe_un un_neg pe_int) pa_nil))) (by rfl))
          (pss_one (ps_ret (pe_cmpR (op_eqD hr.units) (pv 2) (pe_tup (pa_cons pe_str (pa_cons (pe_ix ix_tup (pv 1) (pe_un un_neg pe_int) (fun _ _ => rfl)) pa_nil))) (nomark _)))) pss_nil)
      (pss_cons (ps_if (PW.pt (pw_or (pt_not (pt_val (pe_callB call_isi (by rfl) Tx.isinstance (by decide +kernel) (pa_cons (pv 2) (pa_cons (pe_bltn (v := .ty "tuple") (by rfl) Tx.tuple (by decide +kernel) rfl) pa_nil)))))
          (pw_or (pt_cmpR op_ne (pe_callB call_len_seq (by rfl) Tx.len PySem.boot_len (pa_cons (pv 2) pa_nil)) pe_int (nomark _))
          (pw_or1 (pt_not (pt_val (pe_callB call_isi (by rfl) Tx.isinstance (by decide +kernel) (pa_cons (pe_ix ix_tup (pv 2) pe_int (fun _ _ => rfl)) (pa_cons (pe_glob (v := .ref C) (by rfl) Cl.g rfl) pa_nil))))))))) (pss_one (ps_ret pe_bl)) pss_nil)
      (pss_cons (ps_set (i := 3) scDivR.nd rfl (Or.inl rfl) (pe_def A.lsplit hr (by decide) (by rfl) (pa_cons (pv 0) (pa_cons (pv 1) pa_nil))))
      (pss_cons (ps_if (PW.pt (pw_or (pt_cmpR (op_neD hr.units) (pe_lst (pa_cons (pe_pro1 Cl.cl A.fac hr (by decide) (pe_ix ix_tup (pv 2) pe_int (fun _ _ => rfl))) (pa_cons (pe_pro1 Cl.cl A.fac hr (by decide) (pe_ix ix_tup (pv 2) pe_int (fun _ _ => rfl))) pa_nil))) (pv 3) (nomark _))
          (pw_or1 (pt_cmpR op_ge (pe_callB (call_len1 A.len hr (by decide)) (by rfl) Tx.len PySem.boot_len (pa_cons (pe_ix ix_tup (pv 2) pe_int (fun _ _ => rfl)) pa_nil)) (pe_callB call_len_seq (by rfl) Tx.len PySem.boot_len (pa_cons (pv 1) pa_nil)) (nomark _))))) (pss_one (ps_ret pe_bl)) pss_nil)
        (pss_one (ps_ret (pe_cmpR (op_eq1 A.eq hr (by decide)) (pe_op (op_add1 A.add hr (by decide)) (pe_op (op_mul1 A.mul hr (by decide)) (pe_ix ix_tup (pv 2) pe_int (fun _ _ => rfl)) (pe_mk1 A.ini hr (by decide) (by rfl) Cl.g (pa_cons (pv 1) pa_nil))) (pe_ix ix_tup (pv 2) pe_int (fun _ _ => rfl)))
            (pe_mk1 A.ini hr (by decide) (by rfl) Cl.g (pa_cons (pv 0) pa_nil)) (nomark _))))))))), ?_⟩
    have hD := divB oN oM hz
    obtain ⟨Bn, ln, tn⟩ := id oN
    obtain ⟨Bm, lm, tm⟩ := id oM
    have lp := lead_pos hz
    walk_at "rd"
    refine g_lam hT (fun G1 eN tG => g_ref (g_meth ?_))
    refine g_mkP (ns := ns) (fun Q0 k0 => ⟨_, rfl, k0 _ _ (fun _ _ h => h) (sqT_extN eN ha)⟩) (by omega) Bn (fun H1 p u e1 h1 => ?_)
    rw [tn] at h1
    obtain ⟨dp, ip⟩ := id h1.1
    refine ⟨p, dp, _, rfl, ip, rfl, ?_⟩
    walk_at "rd"
    refine g_mkP (ns := ms) (fun Q0 k0 => ⟨_, rfl, k0 _ _ (fun _ _ h => h) (sqT_ext e1 (sqT_extN eN hb))⟩) (by omega) Bm (fun H2 q v e2 h2 => ?_)
    rw [tm] at h2
    have hne : ms ≠ [] := fun z => by
      rw [z] at lp
      cases lp
    have e12 := Ext.trans e1 e2
    refine ⟨p, u, ns, _, rfl, h1.ext e2, .inl ⟨q, v, ms, rfl, h2, fun z => absurd z hne, fun _ hI => ?_, fun _ hI => ⟨hD, ?_⟩⟩⟩
    · intro H3 t d e3 ht hd0
      refine .inl ⟨rfl, d, .ref t, rfl, upd_same, ?_⟩
      have e13 := Ext.trans e12 (Ext.trans e3 (Ext.new (o := HO.xd [(("reason" : Str), V.ref t)]) hd0))
      have ht := Ext.new (o := HO.xd [(("reason" : Str), V.ref t)]) hd0 _ _ ht
      generalize upd H3 d (.xd [(("reason" : Str), V.ref t)]) = H4 at e13 ht
      have ha := sqT_ext e13 (sqT_extN eN ha)
      have hb := sqT_ext e13 (sqT_extN eN hb)
      have eN := ExtN.trans2 eN (ExtN.of e13)
      have tG := tG.ext e13
      clear h1 h2 ip e1 e2 e12 e3 e13
      walk_at "rd"
      refine g_ixT hb (v := .int (at0 ms (ms.length - 1))) (atI_neg1 lp) ?_
      walk_at "rd"
      refine ⟨by show 2 ≤ sizeLine; decide, fun z hz => ?_⟩
      have ez := Ext.new (o := HO.tup [V.int 1, V.int (-1)]) hz
      walk_at "rd"
      refine ⟨z, _, rfl, .inr (SqT.of upd_same), rfl, rfl, ?_⟩
      rw [in_ones, show isOne (at0 ms (ms.length - 1)) = false from hI]
      refine ⟨true, rfl, ?_⟩
      walk_at "rd"
      refine g_ixT (sqT_ext ez hb) (v := .int (at0 ms (ms.length - 1))) (atI_neg1 lp) ?_
      walk_at "rd"
      refine ⟨by show 2 ≤ sizeLine; decide, fun o ho => ?_⟩
      have eo := Ext.new (o := HO.tup [V.str "lead", V.int (at0 ms (ms.length - 1))]) ho
      refine ⟨.tuple [.str "lead", .int (at0 ms (ms.length - 1))], .tuple [.str "lead", .int (at0 ms (ms.length - 1))], .tup (SqT.of (eo _ _ (ez _ _ ht))) (.cons (.str _) (.cons (.int _) .nil)), .tup (SqT.of upd_same) (.cons (.str _) (.cons (.int _) .nil)), lead_shape _, lead_shape _, ?_⟩
      rw [lead_eqv]
      exact k _ (ExtN.trans2 eN (ExtN.of (Ext.trans ez eo))) (tG.ext (Ext.trans ez eo))
    · intro H3 t x xu y yu e3 ht hx hy
      have e13 := Ext.trans e12 e3
      have ha := sqT_ext e13 (sqT_extN eN ha)
      have hb := sqT_ext e13 (sqT_extN eN hb)
      have eN := ExtN.trans2 eN (ExtN.of e13)
      have tG := tG.ext e13
      clear h1 h2 ip e1 e2 e12 e3 e13
      walk_at "rd"
      refine g_ixT hb (v := .int (at0 ms (ms.length - 1))) (atI_neg1 lp) ?_
      walk_at "rd"
      refine ⟨by show 2 ≤ sizeLine; decide, fun z hz => ?_⟩
      have ez := Ext.new (o := HO.tup [V.int 1, V.int (-1)]) hz
      have hz1 : upd H3 z (.tup [V.int 1, V.int (-1)]) z = some (.tup [V.int 1, V.int (-1)]) := upd_same
      have ha := sqT_ext ez ha
      have hb := sqT_ext ez hb
      have eN := ExtN.trans2 eN (ExtN.of ez)
      have tG := tG.ext ez
      have ht := ez _ _ ht
      have hx := hx.ext ez
      have hy := hy.ext ez
      generalize upd H3 z (.tup [V.int 1, V.int (-1)]) = H4 at ha hb eN tG ht hx hy hz1
      walk_at "rd"
      refine ⟨z, _, rfl, .inr (SqT.of hz1), rfl, rfl, ?_⟩
      rw [in_ones, show isOne (at0 ms (ms.length - 1)) = true from hI]
      refine ⟨false, rfl, ?_⟩
      clear ez hz hz1
      walk_at "rd"
      refine ⟨_, _, _, _, true, rfl, .ty _, tyT (SqT.of ht), by kernel_rfl, ?_⟩
      walk_at "rd"
      refine ⟨t, _, rfl, .inr (SqT.of ht), ?_⟩
      walk_at "rd"
      refine g_ne (by rfl) ?_
      rw [decide_eq_true (show V.int (([V.ref x, V.ref y] : List V).length : Nat) = V.int 2 from rfl)]
      walk_at "rd"
      refine g_ixT (SqT.of ht) (v := .ref x) (by rfl) ?_
      walk_at "rd"
      obtain ⟨dx, ix⟩ := id hx.1
      refine ⟨_, _, _, _, true, rfl, .own C, Cl.ty ix, Cl.kit, ?_⟩
      walk_at "rd"
      refine ⟨a, b, ns, ms, rfl, ha, hb, hD, fun hX H5 l t1 t2 e5 hl ht1 ht2 => ?_, fun hX => absurd (exact_one (a := ns) hI) (by rw [hX]; decide)⟩
      have ha := sqT_ext e5 ha
      have hb := sqT_ext e5 hb
      have eN := ExtN.trans2 eN (ExtN.of e5)
      have tG := tG.ext e5
      have ht := e5 _ _ ht
      have hx := hx.ext e5
      have hy := hy.ext e5
      clear e5 ix
      obtain ⟨dx, ix⟩ := id hx.1
      obtain ⟨dy, iy⟩ := id hy.1
      walk_at "rd"
      refine g_ixT (SqT.of ht) (v := .ref x) (by rfl) ?_
      walk_at "rd"
      refine g_got hx ?_
      walk_at "rd"
      refine g_ixT (SqT.of ht) (v := .ref y) (by rfl) ?_
      walk_at "rd"
      refine g_got hy ?_
      walk_at "rd"
      refine ⟨by show 2 ≤ sizeLine; decide, fun o ho => ?_⟩
      have eo := Ext.new (o := HO.lst [V.ref xu, V.ref yu]) ho
      walk_at "rd"
      refine ⟨.list [.tuple (idata (trim (quo ns ms))), .tuple (idata (trim (rst ns ms)))], .list [.tuple (idata (trim (quo ns ms))), .tuple (idata (trim (rst ns ms)))],
        .lst (SqL.of upd_same) (.cons (dp_tup (sqT_ext eo hx.2.1)) (.cons (dp_tup (sqT_ext eo hy.2.1)) .nil)), .lst (SqL.of (eo _ _ hl)) (.cons (dp_tup (sqT_ext eo ht1)) (.cons (dp_tup (sqT_ext eo ht2)) .nil)), pair_shape _ _, pair_shape _ _, ?_⟩
      rw [pair_eqv]
      have ha := sqT_ext eo ha
      have hb := sqT_ext eo hb
      have eN := ExtN.trans2 eN (ExtN.of eo)
      have tG := tG.ext eo
      have ht := eo _ _ ht
      have hx := hx.ext eo
      have hy := hy.ext eo
      have iy := eo _ _ iy
      generalize upd H5 o (.lst [V.ref xu, V.ref yu]) = H6 at ha hb eN tG ht hx hy iy
      clear eo hl ht1 ht2 ix
      walk_at "rd"
      refine g_ixT (SqT.of ht) (v := .ref y) (by rfl) ?_
      walk_at "rd"
      have hrl : (trim (rst ns ms)).length ≤ ms.length - 1 := trim_le (rst_zero lp hX)
      refine ⟨y, dy, _, rfl, iy, y, yu, _, rfl, hy, ((trim (rst ns ms)).length : Int), rfl, by omega, by omega, ?_⟩
      walk_at "rd"
      refine ⟨b, _, rfl, .inr hb, ?_⟩
      walk_at "rd"
      rw [List.length_map, decide_eq_false (show ¬ ((trim (rst ns ms)).length : Int) ≥ (ms.length : Int) by omega)]
      walk_at "rd"
      refine g_ixT (SqT.of ht) (v := .ref x) (by rfl) ?_
      walk_at "rd"
      refine g_mkP (ns := ms) (fun Q0 k0 => ⟨_, rfl, k0 _ _ (fun _ _ h => h) hb⟩) (by omega) Bm (fun H7 q1 v1 e7 h7 => ?_)
      rw [tm] at h7
      refine g_binP (hx.ext e7) (OpRow.pol h7) ((quo_fit oN oM hz).mulB oM.fit (by decide) (by decide) (by decide) (by decide) (by decide)) (fun H8 q2 v2 e8 h8 => ?_)
      walk_at "rd"
      refine g_ixT (SqT.of (e8 _ _ (e7 _ _ ht))) (v := .ref y) (by rfl) ?_
      walk_at "rd"
      refine g_binP h8 (OpRow.pol (hy.ext (Ext.trans e7 e8))) trivial (fun H9 q3 v3 e9 h9 => ?_)
      walk_at "rd"
      have e79 := Ext.trans e7 (Ext.trans e8 e9)
      refine g_mkP (ns := ns) (fun Q0 k0 => ⟨_, rfl, k0 _ _ (fun _ _ h => h) (sqT_ext e79 ha)⟩) (by omega) Bn (fun HA q4 v4 eA hA => ?_)
      refine g_eqP Cl (h9.ext eA) hA ?_
      rw [decide_eq_true (div_back lp)]
      exact k _ (ExtN.trans2 eN (ExtN.of (Ext.trans e79 eA))) (tG.ext (Ext.trans e79 eA))
end
end K0

set_option Elab.async false
set_option linter.all false
set_option maxRecDepth 100000
set_option maxHeartbeats 4000000
/-! The law's look at a division without a remainder. -/
namespace K0
open PySem PySem.Spec PyProof.Rows L2 Gd
open LamX (Tabs TabB ExtN GivesTo CodeO tLam)
local macro_rules | `(tactic| walk_at "rd1") => `(tactic| first | with_reducible refine g_ret ?_ | with_reducible refine g_retN ?_ | with_reducible refine g_seq ?_ | with_reducible refine g_next ?_ | with_reducible refine g_drop ?_ | with_reducible refine g_asg ?_ | with_reducible refine g_name ?_ | with_reducible refine g_ifs ?_ | with_reducible refine g_test ?_ | with_reducible refine g_tb ?_ | with_reducible refine g_and ?_ | with_reducible refine g_or ?_ | with_reducible refine g_not ?_ | with_reducible refine g_andV ?_ | with_reducible refine g_orV ?_ | with_reducible refine g_notV ?_ | with_reducible refine g_if ?_ | with_reducible refine g_op ?_ | with_reducible refine g_un ?_ | with_reducible refine g_cb ?_ | with_reducible refine g_nil ?_ | with_reducible refine g_cons ?_ | with_reducible refine g_call ?_ | with_reducible refine g_callS ?_ | with_reducible refine g_tup ?_ | with_reducible refine g_lst ?_ | with_reducible refine g_isN ?_ | with_reducible refine g_sl ?_ | with_reducible refine g_nopart ?_ | with_reducible refine g_part ?_ | with_reducible refine g_chain ?_ | with_reducible refine g_fld ?_ | with_reducible refine g_prop ?_ | with_reducible refine g_bm ?_ | with_reducible refine g_bm0 ?_ | with_reducible refine g_c ?_ | with_reducible refine g_sub ?_ | with_reducible refine g_int1 ?_ | with_reducible refine g_int2 ?_ | with_reducible refine g_yes ?_ | with_reducible refine g_sfld ?_ | with_reducible refine g_NT ?_ | with_reducible refine g_NF ?_ | with_reducible refine iteT ?_ | with_reducible refine iteF ?_ | ((with_reducible refine' g_aug ?hv ?_); (case hv => exact rfl)) | ((with_reducible refine' g_var ?hv ?_); (case hv => exact rfl)) | with_reducible refine g_I0 ?_ | with_reducible refine g_U ?_ | with_reducible refine g_eqI ?_ | with_reducible refine g_blV ?_ | with_reducible refine g_inV ?_)
local macro_rules | `(tactic| walk_at "rd") => `(tactic| repeat walk_at "rd1")
section
variable {P : Program} {w : World} {K : PySem.W.Frag} {mg : Str → Option Value} {base : Heap} {f C CP CO CR t0 : Addr} {fd : FuncData}
abbrev sOverR : Stmt := top 48
abbrev qOverR : Str := "_law_over_right.<locals>.<lambda>"
theorem scOverR : FnScope ["_law_one", "_law_other", "_law_due", "_law_told"] ["_law_one", "_law_other"] (defScope sOverR) := ⟨rfl, rfl, rfl, by decide +kernel, rfl, by decide +kernel, by decide +kernel⟩
theorem rest_eqv : PyData.eqv (.tuple [.str "rest"]) (.tuple [.str "rest"]) = true := by decide +kernel
theorem ok_overR {c Pt : Addr} {T : List (Addr × Str)} (F : Fun K "_law_over_right" "_law_over_right" sOverR f fd) (hc : fd.code = .ref c) (TB : TabB base mg c Pt) (hmT : (Pt, qOverR) ∈ T) (hu : ∀ p ∈ T, p.1 = Pt → p.2 = qOverR)
    (Tx : Txt K mg) (Cl : PC K mg C) (A : Has P w K mg base C CP CO CR t0) (R : Ref K mg CR CO CP) :
    FnG P w K mg base CX0 10 f fd ["_law_one", "_law_other"] (spDivR K T) := by
  refine fnGc F hc scOverR (fun vs H Q E h => ?_) (fun Ar outer s H vs Q E hg hr h => ?_)
  · obtain ⟨a, b, ns, ms, rfl, _⟩ := h
    rfl
  · obtain ⟨a, b, ns, ms, rfl, hT, ha, hb, oN, oM, hz, k⟩ := h
    refine ⟨_, PSs.nox (pss_cons (ps_set (i := 2) scOverR.nd rfl (Or.inl rfl) (pe_def A.lsplit hr (by decide) (by rfl) (pa_cons (pv 0) (pa_cons (pv 1) pa_nil))))
      (pss_cons (ps_set (i := 3) scOverR.nd rfl (Or.inl rfl) (pe_ref (k := 6) (t := fun E => tMeth C "over" (spOver K C CP CO CR) [] E (tMake C (spInit K C) [] X0 (tCons (tVar 0) tNil)) (tCons (tMake C (spInit K C) [] X0 (tCons (tVar 1) tNil)) tNil)) (by rfl) R TB rfl hmT hu (hr.mono (by decide)) (LamX.lamS_by (by show LamX.lamSB (defScope sOverR) _ = true; decide +kernel)) rfl (fun _ _ _ _ _ => by rfl)
              (fun _ _ _ _ E _ _ hr' => pe_me1 Cl.cl A.over hr' (by decide) (passes_call (takes_of rfl rfl rfl rfl) (fun _ _ _ _ h => h)) (pe_mk1 A.ini hr' (by decide) (by rfl) Cl.g (pa_cons (pv 0) pa_nil)) (pa_cons (pe_mk1 A.ini hr' (by decide) (by rfl) Cl.g (pa_cons (pv 1) pa_nil)) pa_nil))))
      (pss_cons (ps_if (PW.pt (pw_or (pt_cmp (pc_isN (pv 2))) (pw_or1 (pt_cmpR (op_neD hr.units) (pe_ix ix_list (pv 2) pe_int (fun _ _ => rfl)) (pe_tup pa_nil) (nomark _)))))
          (pss_one (ps_ret (pe_cmpR (op_eqD hr.units) (pv 3) (pe_tup (pa_cons pe_str pa_nil)) (nomark _)))) pss_nil)
        (pss_one (ps_ret (pe_and (pe_callB call_isi (by rfl) Tx.isinstance (by decide +kernel) (pa_cons (pv 3) (pa_cons (pe_glob (v := .ref C) (by rfl) Cl.g rfl) pa_nil)))
          (pe_and (pe_cmpR (op_eqD hr.units) (pe_pro1 Cl.cl A.fac hr (by decide) (pv 3)) (pe_ix ix_list (pv 2) pe_int (fun _ _ => rfl)) (nomark _))
            (pe_one (pe_cmpR (op_eq1 A.eq hr (by decide)) (pe_op (op_mul1 A.mul hr (by decide)) (pv 3) (pe_mk1 A.ini hr (by decide) (by rfl) Cl.g (pa_cons (pv 1) pa_nil))) (pe_mk1 A.ini hr (by decide) (by rfl) Cl.g (pa_cons (pv 0) pa_nil)) (nomark _)))))))))), ?_⟩
    have hD := divB oN oM hz
    obtain ⟨Bn, ln, tn⟩ := id oN
    obtain ⟨Bm, lm, tm⟩ := id oM
    have lp := lead_pos hz
    have hne : ms ≠ [] := fun z => by
      rw [z] at lp
      cases lp
    walk_at "rd"
    refine ⟨a, b, ns, ms, rfl, ha, hb, hD, fun hX H1 l t1 t2 e1 hl ht1 ht2 => ?_, fun hX H1 e1 => ?_⟩
    · have hT := hT.ext e1
      have ha := sqT_ext e1 ha
      have hb := sqT_ext e1 hb
      walk_at "rd"
      refine g_lam hT (fun G1 eN tG => g_ref (g_meth ?_))
      have ha := sqT_extN eN ha
      have hb := sqT_extN eN hb
      have ht1 := sqT_extN eN ht1
      have ht2 := sqT_extN eN ht2
      have hl := eN _ _ hl (fun _ z => by cases z)
      have eN := ExtN.trans2 (ExtN.of e1) eN
      refine g_mkP (ns := ns) (fun Q0 k0 => ⟨_, rfl, k0 _ _ (fun _ _ h => h) ha⟩) (by omega) Bn (fun H1 p u e1 h1 => ?_)
      rw [tn] at h1
      obtain ⟨dp, ip⟩ := id h1.1
      refine ⟨p, dp, _, rfl, ip, rfl, ?_⟩
      walk_at "rd"
      refine g_mkP (ns := ms) (fun Q0 k0 => ⟨_, rfl, k0 _ _ (fun _ _ h => h) (sqT_ext e1 hb)⟩) (by omega) Bm (fun H2 q v e2 h2 => ?_)
      rw [tm] at h2
      have e12 := Ext.trans e1 e2
      refine ⟨p, u, ns, _, rfl, h1.ext e2, .inl ⟨q, v, ms, rfl, h2, fun z => absurd z hne, fun _ => ⟨hD, fun hR H3 t d e3 ht hd0 => ?_, fun hR H3 x xu e3 hx => ?_⟩⟩⟩
      · refine .inl ⟨rfl, d, .ref t, rfl, upd_same, ?_⟩
        have e13 := Ext.trans e12 (Ext.trans e3 (Ext.new (o := HO.xd [(("reason" : Str), V.ref t)]) hd0))
        have ht := Ext.new (o := HO.xd [(("reason" : Str), V.ref t)]) hd0 _ _ ht
        generalize upd H3 d (.xd [(("reason" : Str), V.ref t)]) = H4 at e13 ht
        have hl := e13 _ _ hl
        have ht2 := sqT_ext e13 ht2
        have eN := ExtN.trans2 eN (ExtN.of e13)
        have tG := tG.ext e13
        clear h1 h2 ip e1 e2 e12 e3 e13
        walk_at "rd"
        rw [decide_eq_false (show ¬ V.ref l = .non by intro z; cases z)]
        walk_at "rd"
        refine g_ixL (SqL.of hl) (v := .ref t2) (by rfl) ?_
        walk_at "rd"
        refine ⟨Nat.zero_le _, fun o ho => ?_⟩
        have eo := Ext.new (o := HO.tup []) ho
        refine ⟨.tuple (idata (trim (rst ns ms))), .tuple (idata []), dp_tup (sqT_ext eo ht2), dp_tup (SqT.of upd_same), shaped_tup _, shaped_tup _, ?_⟩
        rw [show PyData.eqv (.tuple (idata (trim (rst ns ms)))) (.tuple (idata [])) = PyData.eqvAll (idata (trim (rst ns ms))) (idata []) from rfl, eqv_ints, decide_eq_false hR]
        walk_at "rd"
        refine ⟨by show 1 ≤ sizeLine; decide, fun o2 ho2 => ?_⟩
        have eo2 := Ext.trans eo (Ext.new (o := HO.tup [V.str "rest"]) ho2)
        refine ⟨.tuple [.str "rest"], .tuple [.str "rest"], .tup (SqT.of (eo2 _ _ ht)) (.cons (.str _) .nil), .tup (SqT.of upd_same) (.cons (.str _) .nil), by decide +kernel, by decide +kernel, ?_⟩
        rw [rest_eqv]
        exact k _ (ExtN.trans2 eN (ExtN.of eo2)) (tG.ext eo2)
      · have e13 := Ext.trans e12 e3
        have ha := sqT_ext e13 ha
        have hb := sqT_ext e13 hb
        have ht1 := sqT_ext e13 ht1
        have ht2 := sqT_ext e13 ht2
        have hl := e13 _ _ hl
        have eN := ExtN.trans2 eN (ExtN.of e13)
        have tG := tG.ext e13
        clear h1 h2 ip e1 e2 e12 e3 e13
        walk_at "rd"
        rw [decide_eq_false (show ¬ V.ref l = .non by intro z; cases z)]
        walk_at "rd"
        refine g_ixL (SqL.of hl) (v := .ref t2) (by rfl) ?_
        walk_at "rd"
        refine ⟨Nat.zero_le _, fun o ho => ?_⟩
        have eo := Ext.new (o := HO.tup []) ho
        refine ⟨.tuple (idata (trim (rst ns ms))), .tuple (idata []), dp_tup (sqT_ext eo ht2), dp_tup (SqT.of upd_same), shaped_tup _, shaped_tup _, ?_⟩
        rw [show PyData.eqv (.tuple (idata (trim (rst ns ms)))) (.tuple (idata [])) = PyData.eqvAll (idata (trim (rst ns ms))) (idata []) from rfl, eqv_ints, decide_eq_true hR]
        have ha := sqT_ext eo ha
        have hb := sqT_ext eo hb
        have ht1 := sqT_ext eo ht1
        have hl := eo _ _ hl
        have hx := hx.ext eo
        have eN := ExtN.trans2 eN (ExtN.of eo)
        have tG := tG.ext eo
        generalize upd H3 o (.tup []) = H4 at ha hb ht1 hl hx eN tG
        clear eo ht2
        obtain ⟨dx, ix⟩ := id hx.1
        walk_at "rd"
        refine ⟨_, _, _, _, true, rfl, .own C, Cl.ty ix, Cl.kit, ?_⟩
        walk_at "rd"
        refine g_got hx ?_
        walk_at "rd"
        refine g_ixL (SqL.of hl) (v := .ref t1) (by rfl) ?_
        refine ⟨.tuple (idata (trim (quo ns ms))), .tuple (idata (trim (quo ns ms))), dp_tup hx.2.1, dp_tup ht1, shaped_tup _, shaped_tup _, ?_⟩
        rw [eqv_same]
        walk_at "rd"
        refine g_mkP (ns := ms) (fun Q0 k0 => ⟨_, rfl, k0 _ _ (fun _ _ h => h) hb⟩) (by omega) Bm (fun H7 q1 v1 e7 h7 => ?_)
        rw [tm] at h7
        refine g_binP (hx.ext e7) (OpRow.pol h7) ((quo_fit oN oM hz).mulB oM.fit (by decide) (by decide) (by decide) (by decide) (by decide)) (fun H8 q2 v2 e8 h8 => ?_)
        walk_at "rd"
        have e78 := Ext.trans e7 e8
        refine g_mkP (ns := ns) (fun Q0 k0 => ⟨_, rfl, k0 _ _ (fun _ _ h => h) (sqT_ext e78 ha)⟩) (by omega) Bn (fun HA q4 v4 eA hA => ?_)
        refine g_eqP Cl (h8.ext eA) hA ?_
        have hb2 := div_back (a := ns) lp
        rw [hR, addR_nil, trim_trim] at hb2
        rw [decide_eq_true hb2]
        exact k _ (ExtN.trans2 eN (ExtN.of (Ext.trans e78 eA))) (tG.ext (Ext.trans e78 eA))
    · have hT := hT.ext e1
      have ha := sqT_ext e1 ha
      have hb := sqT_ext e1 hb
      have hR := rst_some (a := ns) lp hX
      walk_at "rd"
      refine g_lam hT (fun G1 eN tG => g_ref (g_meth ?_))
      have ha := sqT_extN eN ha
      have hb := sqT_extN eN hb
      have eN := ExtN.trans2 (ExtN.of e1) eN
      refine g_mkP (ns := ns) (fun Q0 k0 => ⟨_, rfl, k0 _ _ (fun _ _ h => h) ha⟩) (by omega) Bn (fun H1 p u e1 h1 => ?_)
      rw [tn] at h1
      obtain ⟨dp, ip⟩ := id h1.1
      refine ⟨p, dp, _, rfl, ip, rfl, ?_⟩
      walk_at "rd"
      refine g_mkP (ns := ms) (fun Q0 k0 => ⟨_, rfl, k0 _ _ (fun _ _ h => h) (sqT_ext e1 hb)⟩) (by omega) Bm (fun H2 q v e2 h2 => ?_)
      rw [tm] at h2
      have e12 := Ext.trans e1 e2
      refine ⟨p, u, ns, _, rfl, h1.ext e2, .inl ⟨q, v, ms, rfl, h2, fun z => absurd z hne, fun _ => ⟨hD, fun _ H3 t d e3 ht hd0 => ?_, fun z => absurd z hR⟩⟩⟩
      refine .inl ⟨rfl, d, .ref t, rfl, upd_same, ?_⟩
      have e13 := Ext.trans e12 (Ext.trans e3 (Ext.new (o := HO.xd [(("reason" : Str), V.ref t)]) hd0))
      have ht := Ext.new (o := HO.xd [(("reason" : Str), V.ref t)]) hd0 _ _ ht
      generalize upd H3 d (.xd [(("reason" : Str), V.ref t)]) = H4 at e13 ht
      have eN := ExtN.trans2 eN (ExtN.of e13)
      have tG := tG.ext e13
      clear h1 h2 ip e1 e2 e12 e3 e13
      walk_at "rd"
      rw [decide_eq_true (rfl : V.non = V.non)]
      walk_at "rd"
      refine ⟨by show 1 ≤ sizeLine; decide, fun o2 ho2 => ?_⟩
      have eo2 := Ext.new (o := HO.tup [V.str "rest"]) ho2
      refine ⟨.tuple [.str "rest"], .tuple [.str "rest"], .tup (SqT.of (eo2 _ _ ht)) (.cons (.str _) .nil), .tup (SqT.of upd_same) (.cons (.str _) .nil), by decide +kernel, by decide +kernel, ?_⟩
      rw [rest_eqv]
      exact k _ (ExtN.trans2 eN (ExtN.of eo2)) (tG.ext eo2)
end
end K0

set_option Elab.async false
set_option linter.all false
set_option maxRecDepth 100000
set_option maxHeartbeats 4000000
/-! One place of a script. -/
namespace K0
open PySem PySem.Spec PyProof.Rows L2 Gd
open LamX (Tabs TabB ExtN GivesTo CodeO tLam)
local macro_rules | `(tactic| walk_at "rd1") => `(tactic| first | with_reducible refine g_ret ?_ | with_reducible refine g_retN ?_ | with_reducible refine g_seq ?_ | with_reducible refine g_next ?_ | with_reducible refine g_drop ?_ | with_reducible refine g_asg ?_ | with_reducible refine g_name ?_ | with_reducible refine g_ifs ?_ | with_reducible refine g_test ?_ | with_reducible refine g_tb ?_ | with_reducible refine g_and ?_ | with_reducible refine g_or ?_ | with_reducible refine g_not ?_ | with_reducible refine g_andV ?_ | with_reducible refine g_orV ?_ | with_reducible refine g_notV ?_ | with_reducible refine g_if ?_ | with_reducible refine g_op ?_ | with_reducible refine g_un ?_ | with_reducible refine g_cb ?_ | with_reducible refine g_nil ?_ | with_reducible refine g_cons ?_ | with_reducible refine g_call ?_ | with_reducible refine g_callS ?_ | with_reducible refine g_tup ?_ | with_reducible refine g_lst ?_ | with_reducible refine g_isN ?_ | with_reducible refine g_sl ?_ | with_reducible refine g_nopart ?_ | with_reducible refine g_part ?_ | with_reducible refine g_chain ?_ | with_reducible refine g_fld ?_ | with_reducible refine g_prop ?_ | with_reducible refine g_bm ?_ | with_reducible refine g_bm0 ?_ | with_reducible refine g_c ?_ | with_reducible refine g_sub ?_ | with_reducible refine g_int1 ?_ | with_reducible refine g_int2 ?_ | with_reducible refine g_yes ?_ | with_reducible refine g_sfld ?_ | with_reducible refine g_NT ?_ | with_reducible refine g_NF ?_ | with_reducible refine iteT ?_ | with_reducible refine iteF ?_ | ((with_reducible refine' g_aug ?hv ?_); (case hv => exact rfl)) | ((with_reducible refine' g_var ?hv ?_); (case hv => exact rfl)) | with_reducible refine g_I0 ?_ | with_reducible refine g_U ?_ | with_reducible refine g_eqI ?_ | with_reducible refine g_blV ?_ | with_reducible refine g_inV ?_)
local macro_rules | `(tactic| walk_at "rd") => `(tactic| repeat walk_at "rd1")
section
variable {P : Program} {w : World} {K : PySem.W.Frag} {mg : Str → Option Value} {base : Heap} {f C CP CO CR t0 : Addr} {fd : FuncData}
abbrev sRight : Stmt := top 49
abbrev qRight : Str := "_law_right.<locals>.<lambda>"
/-- the dice, and the looks of the law at one place -/
structure Looks1 (P : Program) (w : World) (K : PySem.W.Frag) (mg : Str → Option Value) (base : Heap) (T : List (Addr × Str)) : Prop where
  roll : Def1 P w K mg base CX0 1 "_law_roll" ["_law_dice_here", "_law_total"] spRoll
  pick : Def1 P w K mg base CX0 2 "_law_pick" ["_law_dice_here", "_law_items"] (spPick K)
  factors : Def1 P w K mg base CX0 2 "_law_factors" ["_law_dice_here", "_law_most", "_law_size"] spFactors
  trim : Def1 P w K mg base CX0 1 "_law_trimmed" ["_law_factors_here"] (spLTrim K)
  times : Def1 P w K mg base CX0 2 "_law_times" ["_law_one", "_law_other"] (spTimes K)
  divR : Def1G P w K mg base CX0 10 "_law_divided_right" ["_law_one", "_law_other"] (spDivR K T)
  overR : Def1G P w K mg base CX0 10 "_law_over_right" ["_law_one", "_law_other"] (spDivR K T)
/-- no polynomials -/
structure Kits (K : PySem.W.Frag) (C : Addr) : Prop where
  n : PySem.W.kitOne K (.type "NoneType") (.ref C) = some false
  i : PySem.W.kitOne K (.type "int") (.ref C) = some false
  t : PySem.W.kitOne K (.type "tuple") (.ref C) = some false
  s : PySem.W.kitOne K (.type "str") (.ref C) = some false
  b : PySem.W.kitOne K (.type "bool") (.ref C) = some false
/-- all but the dice and the tables stays -/
def KeepN (d : Addr) (H H' : Hp) : Prop := ∀ b o, b ≠ d → H b = some o → (∀ ps, o ≠ .tbl ps) → H' b = some o
theorem KeepN.but {d : Addr} {H H1 H2 : Hp} (k : KeepN d H H1) (e : ExtBut d H1 H2) : KeepN d H H2 := fun b o n h z => e b o n (k b o n h z)
theorem KeepN.n {d : Addr} {H H1 H2 : Hp} (k : KeepN d H H1) (e : ExtN H1 H2) : KeepN d H H2 := fun b o n h z => e b o (k b o n h z) z
theorem KeepN.e {d : Addr} {H H1 H2 : Hp} (k : KeepN d H H1) (e : Ext H1 H2) : KeepN d H H2 := fun b o n h z => e b o (k b o n h z)
/-- a place that is new -/
def NewN (d : Addr) (H : Hp) (l : Addr) : Prop := ∀ b o, b ≠ d → H b = some o → (∀ ps, o ≠ .tbl ps) → b ≠ l
theorem KeepN.new {d l : Addr} {H H1 : Hp} (k : KeepN d H H1) (h : H1 l = none) : NewN d H l := fun b o n q z e => by
  have := k b o n q z
  rw [e, h] at this
  cases this
theorem KeepN.set {d l : Addr} {H H1 : Hp} {x : HO} (k : KeepN d H H1) (h : NewN d H l) : KeepN d H (upd H1 l x) := fun b o n q z => by
  rw [upd_ne (h b o n q z)]
  exact k b o n q z
theorem sqT_dice {H H' : Hp} {d l : Addr} {xs : List V} (hd : DiceAt H d) (e : ExtBut d H H') (h : SqT K H l xs) : SqT K H' l xs := by
  rcases h with (h | ⟨o, h⟩) | h
  · exact .inl (.inl (e _ _ (dice_ne hd h (fun _ => by simp)) h))
  · exact .inl (.inr ⟨o, e _ _ (dice_ne hd h (fun _ => by simp)) h⟩)
  · exact .inr h
theorem sqT_tolst {H : Hp} {D r : Addr} {xs zs ys : List V} (hD : H D = some (.lst xs)) (h : SqT K H r ys) : SqT K (upd H D (.lst zs)) r ys := by
  rcases h with (h | ⟨o, h⟩) | h
  · refine .inl (.inl ?_)
    rw [upd_ne (fun z => by rw [z, hD] at h; cases h)]
    exact h
  · refine .inl (.inr ⟨o, ?_⟩)
    rw [upd_ne (fun z => by rw [z, hD] at h; cases h)]
    exact h
  · exact .inr h
theorem tabs_tolst {T : List (Addr × Str)} {H : Hp} {l : Addr} {xs zs : List V} (hl : H l = some (.lst xs)) (t : Tabs T H) : Tabs T (upd H l (.lst zs)) := fun p hp => by
  obtain ⟨ps, h1, h2, h3⟩ := t p hp
  refine ⟨ps, ?_, h2, fun pos cv hc => ?_⟩
  · rw [upd_ne (fun z => by rw [z, hl] at h1; cases h1)]
    exact h1
  · obtain ⟨c, e1, e2⟩ := h3 pos cv hc
    refine ⟨c, e1, ?_⟩
    rw [upd_ne (fun z => by rw [z, hl] at e2; unfold CodeO at e2; cases e2)]
    exact e2
theorem big_bits {A : Nat} {ns : List Int} (hA : A ≤ 199) (h : Bits A ns) : Big ns := fun n hn => by
  have a := h n hn
  have b : 2 ^ A ≤ 2 ^ 199 := Nat.pow_le_pow_right (by decide) hA
  have c : (2 : Nat) ^ 199 < 10 ^ 60 := by decide +kernel
  constructor <;> omega
theorem bits_drawn {z : Int} {ns : List Int} (h0 : z ≤ 10 ^ 25) (h : ∀ n ∈ ns, -z ≤ n ∧ n ≤ z) : Bits 84 ns := fun n hn => by
  have a := h n hn
  have c : (10 : Nat) ^ 25 < 2 ^ 84 := by decide +kernel
  omega
theorem lead_snoc (a : List Int) (y : Int) : leadOf (a ++ [y]) = y := by
  unfold leadOf at0
  rw [List.length_append, List.getElem?_append_right (by simp)]
  simp
theorem g_forT {te : TE} {g : TG} {tb : TS} {D : Ends} {σ : L2.St} {H : Hp} (k : te σ H fun x H1 => ∃ a, x = .ref a ∧ (∃ xs, SqT K H1 a xs) ∧ ∃ W : Nat → Nat → L2.St → Hp → Prop, (∃ m, W 0 m σ H1) ∧ ∀ i m σ H, W i m σ H →
  ((Itt K a).stop i H ∧ D.nx σ H) ∨ ((Itt K a).go i H ∧ ∃ N : L2.St → Hp → Prop, (∀ σ' H', N σ' H' → ∃ m', m' < m ∧ W (i + 1) m' σ' H') ∧ ∀ x H', (Itt K a).yld i H x H' → g x σ H' fun σ2 H2 => tb { D with nx := N, ct := N, bk := D.nx } σ2 H2)) :
    tFor (iTup K te) g tb D σ H := k
/-- what stands while the refusals are told -/
structure SS (K : PySem.W.Frag) (T : List (Addr × Str)) (d : Addr) (H : Hp) (u : Addr) (ns : List Int) (o l : Addr) (xs : List V) (G : Hp) : Prop where
  kn : KeepN d H G
  hd : DiceAt G d
  tb : Tabs T G
  one : SqT K G u (ns.map V.int)
  tup : SqT K G o [V.int 1]
  lst : G l = some (.lst xs)
  nw : NewN d H l
  ld : l ≠ d
theorem SS.n {T : List (Addr × Str)} {d u o l : Addr} {H G G' : Hp} {ns : List Int} {xs : List V} (h : SS K T d H u ns o l xs G) (e : ExtN G G') (t : Tabs T G') : SS K T d H u ns o l xs G' :=
  ⟨h.kn.n e, h.hd.extN e, t, sqT_extN e h.one, sqT_extN e h.tup, e _ _ h.lst (fun _ z => by cases z), h.nw, h.ld⟩
theorem SS.e {T : List (Addr × Str)} {d u o l : Addr} {H G G' : Hp} {ns : List Int} {xs : List V} (h : SS K T d H u ns o l xs G) (e : Ext G G') : SS K T d H u ns o l xs G' := h.n (ExtN.of e) (h.tb.ext e)
theorem SS.app {T : List (Addr × Str)} {d u o l : Addr} {H G : Hp} {ns : List Int} {xs zs : List V} (h : SS K T d H u ns o l xs G) : SS K T d H u ns o l zs (upd G l (.lst zs)) :=
  ⟨h.kn.set h.nw, h.hd.upd h.ld, tabs_tolst h.lst h.tb, sqT_tolst h.lst h.one, sqT_tolst h.lst h.tup, upd_same, h.nw, h.ld⟩
theorem told_eqv : PyData.eqv (.list [.str "poly", .str "poly", .str "operation", .str "operation"]) (.list [.str "poly", .str "poly", .str "operation", .str "operation"]) = true := by decide +kernel
def spRight (T : List (Addr × Str)) : Sp := fun vs H Q _ => ∃ d : Addr, vs = [.ref d] ∧ DiceAt H d ∧ Tabs T H ∧ ∀ H', Keep T d H H' → Q (.bl true) H'
theorem scRight : FnScope ["_law_dice_here", "_law_size", "_law_one", "_law_other", "_law_second", "_law_product", "_law_bent", "_law_at", "_law_row", "_law_wrong", "_law_told"] ["_law_dice_here"] (defScope sRight) := ⟨rfl, rfl, rfl, by decide +kernel, rfl, by decide +kernel, by decide +kernel⟩
theorem ok_right {c Pt : Addr} {T : List (Addr × Str)} (F : Fun K "_law_right" "_law_right" sRight f fd) (hc : fd.code = .ref c) (TB : TabB base mg c Pt) (hmT : (Pt, qRight) ∈ T) (hu : ∀ p ∈ T, p.1 = Pt → p.2 = qRight)
    (Tx : Txt K mg) (T2 : Txt2 mg) (Cl : PC K mg C) (A : Has P w K mg base C CP CO CR t0) (R : Ref K mg CR CO CP) (Lo : Looks1 P w K mg base T) (Ki : Kits K C) :
    FnG P w K mg base CX0 11 f fd ["_law_dice_here"] (spRight T) := by
  refine fnGc F hc scRight (fun vs H Q E h => ?_) (fun Ar outer s H vs Q E hg hr h => ?_)
  · obtain ⟨d, rfl, _⟩ := h
    rfl
  · obtain ⟨d, rfl, hd, hT, k⟩ := h
    refine ⟨_, PSs.nox (pss_cons (ps_set (i := 1) scRight.nd rfl (Or.inl rfl) (pe_def Lo.pick hr (by decide) (by rfl) (pa_cons (pv 0) (pa_cons (pe_lst (pa_cons pe_int (pa_cons pe_int (pa_cons pe_int (pa_cons (pe_op op_pow pe_int pe_int) pa_nil))))) pa_nil))))
      (pss_cons (ps_asg (pe_tup (pa_cons (pe_def Lo.trim hr (by decide) (by rfl) (pa_cons (pe_def Lo.factors hr (by decide) (by rfl) (pa_cons (pv 0) (pa_cons pe_int (pa_cons (pv 1) pa_nil)))) pa_nil)) (pa_cons (pe_def Lo.factors hr (by decide) (by rfl) (pa_cons (pv 0) (pa_cons pe_int (pa_cons (pv 1) pa_nil)))) pa_nil)))
          (pg_tup rfl (pgs_cons (pg_name (i := 2) scRight.nd rfl (Or.inr rfl)) (pgs_cons (pg_name (i := 3) scRight.nd rfl (Or.inl rfl)) pgs_nil))))
      (pss_cons (ps_set (i := 4) scRight.nd rfl (Or.inl rfl) (pe_op op_catA (pv 3) (pe_tup (pa_cons (pe_def Lo.pick hr (by decide) (by rfl) (pa_cons (pv 0) (pa_cons (pe_lst (pa_cons pe_int (pa_cons (pe_un un_neg pe_int) (pa_cons pe_int (pa_cons pe_int (pa_cons (pe_un un_neg pe_int) (pa_cons (pe_op op_pow pe_int pe_int) pa_nil))))))) pa_nil))) pa_nil))))
      (pss_cons (ps_set (i := 5) scRight.nd rfl (Or.inl rfl) (pe_def Lo.times hr (by decide) (by rfl) (pa_cons (pv 2) (pa_cons (pv 4) pa_nil))))
      (pss_cons (ps_set (i := 6) scRight.nd rfl (Or.inl rfl) (pe_op op_cat (pe_callTy call_list_of (by rfl) Tx.list (by decide +kernel) (pa_cons (pv 5) pa_nil)) (pe_lst (pa_cons pe_int pa_nil))))
      (pss_cons (ps_set (i := 7) scRight.nd rfl (Or.inl rfl) (pe_def Lo.roll hr (by decide) (by rfl) (pa_cons (pv 0) (pa_cons (pe_callB call_len_seq (by rfl) Tx.len PySem.boot_len (pa_cons (pv 6) pa_nil)) pa_nil))))
      (pss_cons (ps_asg (pe_op op_add (pe_ix ix_list (pv 6) (pv 7) (fun _ _ => rfl)) (pe_def Lo.pick hr (by decide) (by rfl) (pa_cons (pv 0) (pa_cons (pe_lst (pa_cons pe_int (pa_cons (pe_un un_neg pe_int) (pa_cons pe_int (pa_cons pe_int pa_nil))))) pa_nil)))) (pg_sub (pv 6) (pv 7) set_list))
      (pss_cons (ps_if (PW.pt (pw_or (pt_not (pt_val (pe_defG hg Lo.divR hr (by decide) (by rfl) (pa_cons (pv 2) (pa_cons (pv 4) pa_nil))))) (pw_or1 (pt_not (pt_val (pe_defG hg Lo.divR hr (by decide) (by rfl) (pa_cons (pv 5) (pa_cons (pv 4) pa_nil)))))))) (pss_one (ps_ret pe_bl)) pss_nil)
      (pss_cons (ps_for PassesOwn.never rfl (pi_tup (pe_tup (pa_cons (pv 5) (pa_cons (pe_def Lo.trim hr (by decide) (by rfl) (pa_cons (pv 6) pa_nil)) (pa_cons (pv 2) pa_nil))))) (pg_name (i := 8) scRight.nd rfl (Or.inl rfl))
          (pss_one (ps_if (pt_not (pt_val (pe_defG hg Lo.overR hr (by decide) (by rfl) (pa_cons (pv 8) (pa_cons (pv 4) pa_nil))))) (pss_one (ps_ret pe_bl)) pss_nil)))
      (pss_cons (ps_if (PW.pt (pw_and (pt_cmpR (op_neD hr.units) (pv 2) (pe_tup pa_nil) (nomark _)) (pw_and1 (pt_cmpR (op_neD hr.units) (pe_pro1 Cl.cl A.fac hr (by decide) (pe_me1 Cl.cl A.over hr (by decide) (E := X0) (passes_call L2.takes0 (fun _ _ _ _ h => h)) (pe_mk1 A.ini hr (by decide) (by rfl) Cl.g (pa_cons (pv 5) pa_nil)) (pa_cons (pe_mk1 A.ini hr (by decide) (by rfl) Cl.g (pa_cons (pv 2) pa_nil)) pa_nil))) (pv 4) (nomark _))))) (pss_one (ps_ret pe_bl)) pss_nil)
      (pss_cons (ps_set (i := 9) scRight.nd rfl (Or.inr rfl) (pe_def Lo.pick hr (by decide) (by rfl) (pa_cons (pv 0) (pa_cons (pe_lst (pa_cons pe_non (pa_cons pe_int (pa_cons pe_int (pa_cons (pe_tup (pa_cons pe_int pa_nil)) (pa_cons pe_str (pa_cons pe_bl pa_nil))))))) pa_nil))))
      (pss_cons (ps_set (i := 10) scRight.nd rfl (Or.inl rfl) (pe_lst (pa_cons (pe_ref (k := 6) (t := fun E => tMeth C "divided" (spDivided K C CP CO CR) [] E (tMake C (spInit K C) [] X0 (tCons (tVar 2) tNil)) (tCons (tVar 9) tNil)) (by rfl) R TB rfl hmT hu (hr.mono (by decide)) (LamX.lamS_by (by show LamX.lamSB (defScope sRight) _ = true; decide +kernel)) rfl (fun _ _ _ _ _ => by rfl)
              (fun _ _ _ _ E _ _ hr' => pe_me1 Cl.cl A.divided hr' (by decide) (passes_call (takes_of rfl rfl rfl rfl) (fun _ _ _ _ h => h)) (pe_mk1 A.ini hr' (by decide) (by rfl) Cl.g (pa_cons (pv 2) pa_nil)) (pa_cons (pv 9) pa_nil))) pa_nil)))
      (pss_cons (ps_expr (pe_bm PySem.F.plainAttrs_list PySem.F.slot_list_append PySem.F.type_list_append mt_append (pv 10) (pa_cons (pe_ref (k := 6) (t := fun E => tMeth C "over" (spOver K C CP CO CR) [] E (tMake C (spInit K C) [] X0 (tCons (tVar 2) tNil)) (tCons (tVar 9) tNil)) (by rfl) R TB rfl hmT hu (hr.mono (by decide)) (LamX.lamS_by (by show LamX.lamSB (defScope sRight) _ = true; decide +kernel)) rfl (fun _ _ _ _ _ => by rfl)
              (fun _ _ _ _ E _ _ hr' => pe_me1 Cl.cl A.over hr' (by decide) (passes_call (takes_of rfl rfl rfl rfl) (fun _ _ _ _ h => h)) (pe_mk1 A.ini hr' (by decide) (by rfl) Cl.g (pa_cons (pv 2) pa_nil)) (pa_cons (pv 9) pa_nil))) pa_nil)))
      (pss_cons (ps_expr (pe_bm PySem.F.plainAttrs_list PySem.F.slot_list_append PySem.F.type_list_append mt_append (pv 10) (pa_cons (pe_ref (k := 6) (t := fun E => tMeth C "divided" (spDivided K C CP CO CR) [] E (tMake C (spInit K C) [] X0 (tCons (tVar 2) tNil)) (tCons (tMake C (spInit K C) [.ref t0] X0 tNil) tNil)) (by rfl) R TB rfl hmT hu (hr.mono (by decide)) (LamX.lamS_by (by show LamX.lamSB (defScope sRight) _ = true; decide +kernel)) rfl (fun _ _ _ _ _ => by rfl)
              (fun _ _ _ _ E _ _ hr' => pe_me1 Cl.cl A.divided hr' (by decide) (passes_call (takes_of rfl rfl rfl rfl) (fun _ _ _ _ h => h)) (pe_mk1 A.ini hr' (by decide) (by rfl) Cl.g (pa_cons (pv 2) pa_nil)) (pa_cons (pe_mk0 A.ini hr' (by decide) (by rfl) Cl.g) pa_nil))) pa_nil)))
      (pss_cons (ps_expr (pe_bm PySem.F.plainAttrs_list PySem.F.slot_list_append PySem.F.type_list_append mt_append (pv 10) (pa_cons (pe_ref (k := 6) (t := fun E => tMeth C "over" (spOver K C CP CO CR) [] E (tMake C (spInit K C) [] X0 (tCons (tVar 2) tNil)) (tCons (tMake C (spInit K C) [.ref t0] X0 tNil) tNil)) (by rfl) R TB rfl hmT hu (hr.mono (by decide)) (LamX.lamS_by (by show LamX.lamSB (defScope sRight) _ = true; decide +kernel)) rfl (fun _ _ _ _ _ => by rfl)
              (fun _ _ _ _ E _ _ hr' => pe_me1 Cl.cl A.over hr' (by decide) (passes_call (takes_of rfl rfl rfl rfl) (fun _ _ _ _ h => h)) (pe_mk1 A.ini hr' (by decide) (by rfl) Cl.g (pa_cons (pv 2) pa_nil)) (pa_cons (pe_mk0 A.ini hr' (by decide) (by rfl) Cl.g) pa_nil))) pa_nil)))
        (pss_one (ps_ret (pe_cmpR (op_eqD hr.units) (pv 10) (pe_lst (pa_cons pe_str (pa_cons pe_str (pa_cons pe_str (pa_cons pe_str pa_nil))))) (nomark _))))))))))))))))))), ?_⟩
    have sz : (100000 : Nat) < sizeLine := by decide
    walk_at "rd"
    refine g_I ⟨by decide, by decide, by decide⟩ ?_
    walk_at "rd"
    refine ⟨by show 4 ≤ sizeLine; decide, fun l1 hl1 => ?_⟩
    walk_at "rd"
    refine ⟨d, l1, _, rfl, hd.upd (dice_none hd hl1), SqL.of upd_same, dice_none hd hl1, by show 0 < 4; decide, by show 4 ≤ 1000; decide, fun H1 x1 e1 hd1 hx1 => ?_⟩
    have kn0 : KeepN d H H := fun b o _ h _ => h
    have E1 : ExtBut d H H1 := (ExtBut.of (Ext.new hl1)).trans e1
    obtain ⟨z, rfl, z0, z1⟩ : ∃ z : Int, x1 = .int z ∧ 1 ≤ z ∧ z ≤ 10 ^ 25 := by
      simp only [List.mem_cons, List.not_mem_nil, or_false] at hx1
      rcases hx1 with rfl | rfl | rfl | rfl
      all_goals exact ⟨_, rfl, by decide +kernel, by decide +kernel⟩
    clear e1 hx1
    have hz5 : z < 2 ^ 500 := by
      have : (10 : Int) ^ 25 < 2 ^ 500 := by decide +kernel
      omega
    walk_at "rd"
    refine ⟨d, 10, z, rfl, hd1, by decide, by decide, by omega, hz5, fun H2 f1 na e2 hd2 _ hf1 la ba => ?_⟩
    walk_at "rd"
    refine ⟨f1, na, rfl, .inr (SqT.of hf1), by omega, fun H3 u3 e3 h3 => ?_⟩
    have E3 := (E1.trans e2).trans (ExtBut.of e3)
    have hd3 := hd2.ext e3
    walk_at "rd"
    refine ⟨d, 5, z, rfl, hd3, by decide, by decide, by omega, hz5, fun H4 f4 nb e4 hd4 _ hf4 lb bb => ?_⟩
    have E4 := E3.trans e4
    have h4 := sqT_dice hd3 e4 h3
    walk_at "rd"
    refine ⟨by show 2 ≤ sizeLine; decide, fun tp htp => ?_⟩
    have et := Ext.new (o := HO.tup [V.ref u3, V.ref f4]) htp
    refine ⟨tp, _, rfl, SqT.of upd_same, rfl, _, _, rfl, ?_⟩
    refine ⟨_, _, rfl, rfl, ?_⟩
    have E5 := E4.trans (ExtBut.of et)
    have hd5 := hd4.ext et
    have a5 := sqT_ext et h4
    have b5 := et _ _ hf4
    generalize upd H4 tp (.tup [V.ref u3, V.ref f4]) = H5 at et E5 hd5 a5 b5
    clear E1 E3 E4 e2 e3 e4 h3 h4 hf1 hf4 hd1 hd2 hd3 hd4 et hl1
    walk_at "rd"
    refine g_I ⟨by decide, by decide, by decide⟩ ?_
    walk_at "rd"
    refine ⟨by show 6 ≤ sizeLine; decide, fun l6 hl6 => ?_⟩
    walk_at "rd"
    refine ⟨d, l6, _, rfl, hd5.upd (dice_none hd5 hl6), SqL.of upd_same, dice_none hd5 hl6, by show 0 < 6; decide, by show 6 ≤ 1000; decide, fun H6 x6 e6 hd6 hx6 => ?_⟩
    obtain ⟨y, rfl, y0, y1⟩ : ∃ y : Int, x6 = .int y ∧ y ≠ 0 ∧ y.natAbs ≤ 10 ^ 30 := by
      simp only [List.mem_cons, List.not_mem_nil, or_false] at hx6
      rcases hx6 with rfl | rfl | rfl | rfl | rfl | rfl
      all_goals exact ⟨_, rfl, by decide +kernel, by decide +kernel⟩
    have e56 := (ExtBut.of (Ext.new hl6)).trans e6
    have E6 := E5.trans e56
    have a6 := sqT_dice hd5 e56 a5
    have b6 : SqT K H6 f4 (nb.map V.int) := sqT_dice hd5 e56 (SqT.of b5)
    clear hx6 e6 hl6 e56 a5 b5
    walk_at "rd"
    refine ⟨by show 1 ≤ sizeLine; decide, fun o7 ho7 => ?_⟩
    have e7 := Ext.new (o := HO.tup [V.int y]) ho7
    refine g_cat2 (sqT_ext e7 b6) (SqT.of (xs := [V.int y]) upd_same) (by rw [List.length_map]; show nb.length + 1 ≤ sizeLine; omega) (fun H8 g8 e8 h8 => ?_)
    have e68 := Ext.trans e7 e8
    have a8 := sqT_ext e68 a6
    have hd8 := hd6.ext e68
    have E8 := E6.trans (ExtBut.of e68)
    have h8 : SqT K H8 g8 ((nb ++ [y]).map V.int) := by
      rw [List.map_append]
      exact h8
    clear e68 e7 e8 a6 b6 hd6 E6 E5 hd5
    -- the rows and their bounds
    have Ba := bits_drawn z1 ba
    have Bb := bits_drawn z1 bb
    have B2 : Bits 100 (nb ++ [y]) := fun n hn => by
      rcases List.mem_append.mp hn with q | q
      · exact Nat.lt_of_lt_of_le (Bb n q) (Nat.pow_le_pow_right (by decide) (by decide))
      · rw [List.mem_singleton.mp q]
        have : (10 : Nat) ^ 30 < 2 ^ 100 := by decide +kernel
        omega
    have l2 : (nb ++ [y]).length ≤ 6 := by
      rw [List.length_append]
      show nb.length + 1 ≤ 6
      omega
    have ld2 : leadOf (nb ++ [y]) ≠ 0 := by
      rw [lead_snoc]
      exact y0
    have t2 : trim (nb ++ [y]) = nb ++ [y] := trim_full ld2
    obtain ⟨ms, hms⟩ : ∃ ms, ms = nb ++ [y] := ⟨_, rfl⟩
    rw [← hms] at h8 B2 l2 ld2 t2
    have la' : (trim na).length ≤ 10 := Nat.le_trans (trim_len na) (by omega)
    have Ba' : Bits 84 (trim na) := bits_trim Ba
    have ta : trim (trim na) = trim na := trim_trim na
    obtain ⟨ns, hns⟩ : ∃ ns, ns = trim na := ⟨_, rfl⟩
    rw [← hns] at a8 la' Ba' ta
    clear hms hns Ba Bb ba bb lb la y0 y1 z0 z1 hz5
    have oN : RowOk ns := ⟨big_bits (by decide) Ba', by omega, ta⟩
    have oM : RowOk ms := ⟨big_bits (by decide) B2, by omega, t2⟩
    walk_at "rd"
    refine ⟨u3, g8, ns, ms, 84, 100, rfl, a8, h8, by omega, by omega, by decide, by decide, by decide, Ba', B2, fun H9 u9 e9 h9 => ?_⟩
    have Bp : Bits 188 (trim (mulR ns ms)) := bits_trim (bits_mul (L := 4) Ba' B2 (by show ns.length < 16; omega))
    have lp : (trim (mulR ns ms)).length ≤ 16 := Nat.le_trans (trim_len _) (by rw [mulR_len]; omega)
    have tp' : trim (trim (mulR ns ms)) = trim (mulR ns ms) := trim_trim _
    have pa : ∀ k, at0 (trim (mulR ns ms)) k = cof ms (at0 ns) k := fun k => by rw [at0_trim, at0_mulR, cof_comm]
    obtain ⟨ps, hps⟩ : ∃ ps, ps = trim (mulR ns ms) := ⟨_, rfl⟩
    rw [← hps] at h9 Bp lp tp' pa
    have oP : RowOk ps := ⟨big_bits (by decide) Bp, by omega, tp'⟩
    have a9 := sqT_ext e9 a8
    have m9 := sqT_ext e9 h8
    have hd9 := hd8.ext e9
    have E9 := E8.trans (ExtBut.of e9)
    clear hps a8 h8 hd8 E8 e9
    walk_at "rd"
    refine ⟨u9, _, rfl, .inr h9, fun q1 hq1 => ?_⟩
    have f1 := Ext.new (o := HO.lst (ps.map V.int)) hq1
    walk_at "rd"
    refine ⟨by show 1 ≤ sizeLine; decide, fun q2 hq2 => ?_⟩
    have f2 := Ext.new (o := HO.lst [V.int 0]) hq2
    refine ⟨q1, q2, _, _, rfl, rfl, f2 _ _ upd_same, upd_same, by rw [List.length_map]; show ps.length + 1 ≤ sizeLine; omega, fun l hl => ?_⟩
    have f3 := Ext.new (o := HO.lst (ps.map V.int ++ [V.int 0])) hl
    have nl : NewN d H l := (kn0.but (E9.trans (ExtBut.of (Ext.trans f1 f2)))).new hl
    have f := Ext.trans f1 (Ext.trans f2 f3)
    have nd : l ≠ d := dice_none (hd9.ext (Ext.trans f1 f2)) hl
    have hL : upd (upd (upd H9 q1 (.lst (ps.map V.int))) q2 (.lst [V.int 0])) l (.lst (ps.map V.int ++ [V.int 0])) l = some (.lst ((ps ++ [0]).map V.int)) := by
      rw [upd_same, List.map_append]
      rfl
    generalize upd (upd (upd H9 q1 (.lst (ps.map V.int))) q2 (.lst [V.int 0])) l (.lst (ps.map V.int ++ [V.int 0])) = HA at f hL
    have aA := sqT_ext f a9
    have mA := sqT_ext f m9
    have pA := sqT_ext f h9
    have hdA := hd9.ext f
    have EA := E9.trans (ExtBut.of f)
    clear f1 f2 f3 hl hq1 hq2 a9 m9 h9 hd9 E9 f
    have lw : (ps ++ [0]).length = ps.length + 1 := List.length_append
    have Bw : Bits 188 (ps ++ [0]) := fun n hn => by
      rcases List.mem_append.mp hn with q | q
      · exact Bp n q
      · rw [List.mem_singleton.mp q]
        decide
    obtain ⟨ws, hws⟩ : ∃ ws, ws = ps ++ [0] := ⟨_, rfl⟩
    rw [← hws] at hL lw Bw
    clear hws
    walk_at "rd"
    refine ⟨l, _, rfl, .inl (SqL.of hL), ?_⟩
    walk_at "rd"
    rw [List.length_map]
    have l1000 : ((ws.length : Nat) : Int) < 2 ^ 1000 := by
      have : (17 : Int) < 2 ^ 1000 := by decide +kernel
      omega
    refine ⟨d, _, rfl, hdA, by omega, l1000, fun HB r eB hdB r0 r1 => ?_⟩
    obtain ⟨i, rfl⟩ : ∃ i : Nat, r = (i : Int) := ⟨r.toNat, by omega⟩
    have hi : i < ws.length := by omega
    have aB := sqT_dice hdA eB aA
    have mB := sqT_dice hdA eB mA
    have pB := sqT_dice hdA eB pA
    have LB := eB _ _ nd hL
    have EB := EA.trans eB
    clear aA mA pA hL EA eB hdA r0 r1 l1000
    walk_at "rd"
    refine g_ixL (SqL.of LB) (v := .int (at0 ws i)) (atI_nat (at0_get hi)) ?_
    walk_at "rd"
    refine ⟨by show 4 ≤ sizeLine; decide, fun l4 hl4 => ?_⟩
    walk_at "rd"
    refine ⟨d, l4, _, rfl, hdB.upd (dice_none hdB hl4), SqL.of upd_same, dice_none hdB hl4, by show 0 < 4; decide, by show 4 ≤ 1000; decide, fun HC x4 e4 hdC hx4 => ?_⟩
    obtain ⟨v, rfl, hv⟩ : ∃ v : Int, x4 = .int v ∧ v.natAbs ≤ 6 := by
      simp only [List.mem_cons, List.not_mem_nil, or_false] at hx4
      rcases hx4 with rfl | rfl | rfl | rfl
      all_goals exact ⟨_, rfl, by decide⟩
    have eC := (ExtBut.of (Ext.new hl4)).trans e4
    have aC := sqT_dice hdB eC aB
    have mC := sqT_dice hdB eC mB
    have pC := sqT_dice hdB eC pB
    have LC := eC _ _ nd LB
    have EC := EB.trans eC
    have tC := tabs_but hd EC hT
    have kC := kn0.but EC
    clear hx4 e4 hl4 aB mB pB LB EB eC hdB
    walk_at "rd"
    refine ⟨l, _, _, i, rfl, rfl, LC, ixN_nat (by rw [List.length_map]; exact hi), ?_⟩
    have hset : (ws.map V.int).set i (V.int (at0 ws i + v)) = (ws.set i (at0 ws i + v)).map V.int := by rw [List.map_set]
    rw [hset]
    have Bx : Bits 189 (ws.set i (at0 ws i + v)) := fun n hn => by
      have p1 : (2 : Nat) ^ 189 = 2 ^ 188 + 2 ^ 188 := by decide +kernel
      have p2 : (6 : Nat) < 2 ^ 188 := by decide +kernel
      rcases List.mem_or_eq_of_mem_set hn with q | q
      · have := Bw n q
        omega
      · have := bits_at Bw i
        rw [q]
        omega
    have lx : (ws.set i (at0 ws i + v)).length = ws.length := List.length_set
    generalize ws.set i (at0 ws i + v) = xs at Bx lx
    have oX : RowOk (trim xs) := ⟨big_bits (by decide) (bits_trim Bx), Nat.le_trans (trim_len xs) (by omega), trim_trim xs⟩
    have aD := sqT_tolst (zs := xs.map V.int) LC aC
    have mD := sqT_tolst (zs := xs.map V.int) LC mC
    have pD := sqT_tolst (zs := xs.map V.int) LC pC
    have tD := tabs_tolst (zs := xs.map V.int) LC tC
    have kD : KeepN d H (upd HC l (.lst (xs.map V.int))) := kC.set nl
    have hdD := hdC.upd (o := .lst (xs.map V.int)) nd
    have LD : upd HC l (.lst (xs.map V.int)) l = some (.lst (xs.map V.int)) := upd_same
    generalize upd HC l (.lst (xs.map V.int)) = HD at aD mD pD tD kD hdD LD
    clear aC mC pC LC EC tC kC hdC hset hi Bw
    dsimp only
    refine g_cut (fun σ' H' => σ' = [some (.ref d), some (.int z), some (.ref u3), some (.ref f4), some (.ref g8), some (.ref u9), some (.ref l), some (.int (i : Int)), none, none, none] ∧ ExtN HD H' ∧ Tabs T H') (fun σ' HG hN => ?_) (fun go => ?_)
    rotate_left
    · walk_at "rd"
      refine ⟨u3, g8, ns, ms, rfl, tD, aD, mD, oN, oM, ld2, fun HE eE tE => ?_⟩
      walk_at "rd"
      refine ⟨u9, g8, ps, ms, rfl, tE, sqT_extN eE pD, sqT_extN eE mD, oP, oM, ld2, fun HF eF tF => ?_⟩
      walk_at "rd"
      exact go _ _ ⟨rfl, ExtN.trans2 eE eF, tF⟩
    obtain ⟨rfl, eH, tH⟩ := hN
    have aH := sqT_extN eH aD
    have mH := sqT_extN eH mD
    have pH := sqT_extN eH pD
    have LH := eH _ _ LD (fun _ z => by cases z)
    have kH := kD.n eH
    have hdH := hdD.extN eH
    clear aD mD pD tD kD hdD LD eH
    refine g_cut (fun σ' H' => ∃ x : Option V, σ' = [some (.ref d), some (.int z), some (.ref u3), some (.ref f4), some (.ref g8), some (.ref u9), some (.ref l), some (.int (i : Int)), x, none, none] ∧ ExtN HG H' ∧ Tabs T H') (fun σ' HM hN => ?_) (fun go => ?_)
    rotate_left
    · refine g_forT (K := K) ?_
      walk_at "rd"
      refine ⟨l, xs, rfl, .inl (SqL.of LH), by omega, fun HI t2 eI hI => ?_⟩
      walk_at "rd"
      refine ⟨by show 3 ≤ sizeLine; decide, fun o ho => ?_⟩
      have eo := Ext.trans eI (Ext.new (o := HO.tup [V.ref u9, V.ref t2, V.ref u3]) ho)
      have so : SqT K (upd HI o (.tup [V.ref u9, V.ref t2, V.ref u3])) o [V.ref u9, V.ref t2, V.ref u3] := SqT.of upd_same
      have i2 := sqT_ext (Ext.new (o := HO.tup [V.ref u9, V.ref t2, V.ref u3]) ho) hI
      generalize upd HI o (.tup [V.ref u9, V.ref t2, V.ref u3]) = HJ at eo so i2
      have aJ := sqT_ext eo aH
      have mJ := sqT_ext eo mH
      have pJ := sqT_ext eo pH
      have tJ := tH.ext eo
      refine ⟨o, rfl, ⟨_, so⟩, for_tup (xs := [V.ref u9, V.ref t2, V.ref u3]) (fun _ σ' H' => ∃ x : Option V, σ' = [some (.ref d), some (.int z), some (.ref u3), some (.ref f4), some (.ref g8), some (.ref u9), some (.ref l), some (.int (i : Int)), x, none, none] ∧ ExtN HJ H' ∧ Tabs T H') ⟨_, rfl, ExtN.refl _, tJ⟩ (fun _ σ' H' _ p => ?_) ?_ ?_⟩
      · obtain ⟨_, _, e, _⟩ := p
        exact sqT_extN e so
      · rintro j x σ' HK hj ⟨x0, rfl, eK, tK⟩
        have hrow : ∃ (r : Addr) (rs : List Int), x = .ref r ∧ SqT K HJ r (rs.map V.int) ∧ RowOk rs := by
          have hm := List.mem_of_getElem? hj
          simp only [List.mem_cons, List.not_mem_nil, or_false] at hm
          rcases hm with rfl | rfl | rfl
          · exact ⟨_, _, rfl, pJ, oP⟩
          · exact ⟨_, _, rfl, i2, oX⟩
          · exact ⟨_, _, rfl, aJ, oN⟩
        obtain ⟨r, rs, rfl, hr1, oR⟩ := hrow
        walk_at "rd"
        refine ⟨r, g8, rs, ms, rfl, tK, sqT_extN eK hr1, sqT_extN eK mJ, oR, oM, ld2, fun HL eL tL => ?_⟩
        walk_at "rd"
        exact ⟨_, rfl, ExtN.trans2 eK eL, tL⟩
      · rintro σ' HK ⟨x0, rfl, eK, tK⟩
        exact go _ _ ⟨_, rfl, ExtN.trans2 (ExtN.of eo) eK, tK⟩
    obtain ⟨x8, rfl, eM, tM⟩ := hN
    have aM := sqT_extN eM aH
    have mM := sqT_extN eM mH
    have pM := sqT_extN eM pH
    have kM := kH.n eM
    have hdM := hdH.extN eM
    clear aH mH pH tH kH hdH LH eM oX Bx lx
    obtain ⟨Bn, ln, tn⟩ := id oN
    obtain ⟨Bpp, lpp, tpp⟩ := id oP
    refine g_cut (fun σ' H' => σ' = [some (.ref d), some (.int z), some (.ref u3), some (.ref f4), some (.ref g8), some (.ref u9), some (.ref l), some (.int (i : Int)), x8, none, none] ∧ Ext HM H') (fun σ' H' hN => ?_) (fun go => ?_)
    rotate_left
    · walk_at "rd"
      refine ⟨Nat.zero_le _, fun o ho => ?_⟩
      have eo := Ext.new (o := HO.tup []) ho
      refine ⟨.tuple (idata ns), .tuple (idata []), dp_tup (sqT_ext eo aM), dp_tup (SqT.of upd_same), shaped_tup _, shaped_tup _, ?_⟩
      rw [show PyData.eqv (.tuple (idata ns)) (.tuple (idata [])) = PyData.eqvAll (idata ns) (idata []) from rfl, eqv_ints]
      by_cases hn : ns = []
      · rw [decide_eq_true hn]
        refine ⟨false, rfl, iteF ?_⟩
        first | exact go _ _ ⟨rfl, eo⟩ | exact iteF (go _ _ ⟨rfl, eo⟩)
      · rw [decide_eq_false hn]
        have ln0 : leadOf ns ≠ 0 := by
          have := trim_last (a := ns) (by rw [tn]; exact hn)
          rw [tn] at this
          exact this
        obtain ⟨hX, hR, hQ⟩ := prod_div ln0 ld2 pa tp'
        have a1 := sqT_ext eo aM
        have m1 := sqT_ext eo mM
        have p1 := sqT_ext eo pM
        generalize upd _ o (.tup []) = HN at eo a1 m1 p1
        walk_at "rd"
        refine g_meth ?_
        refine g_mkP (ns := ps) (fun Q0 k0 => ⟨_, rfl, k0 _ _ (fun _ _ h => h) p1⟩) (by omega) Bpp (fun G1 p u e1 h1 => ?_)
        rw [tpp] at h1
        obtain ⟨dp, ip⟩ := id h1.1
        refine ⟨p, dp, _, rfl, ip, rfl, ?_⟩
        walk_at "rd"
        refine g_mkP (ns := ns) (fun Q0 k0 => ⟨_, rfl, k0 _ _ (fun _ _ h => h) (sqT_ext e1 a1)⟩) (by omega) Bn (fun G2 q v e2 h2 => ?_)
        rw [tn] at h2
        refine ⟨p, u, ps, _, rfl, h1.ext e2, .inl ⟨q, v, ns, rfl, h2, fun z => absurd z hn, fun _ => ⟨divB oP oN ln0, fun z => absurd hR z, fun _ G3 x xu e3 hx => ?_⟩⟩⟩
        rw [hQ, t2] at hx
        refine g_got hx ?_
        walk_at "rd"
        have e13 := Ext.trans e1 (Ext.trans e2 e3)
        refine ⟨.tuple (idata ms), .tuple (idata ms), dp_tup hx.2.1, dp_tup (sqT_ext e13 m1), shaped_tup _, shaped_tup _, ?_⟩
        rw [eqv_same]
        refine ⟨false, rfl, iteF ?_⟩
        first | exact go _ _ ⟨rfl, Ext.trans eo e13⟩ | exact iteF (go _ _ ⟨rfl, Ext.trans eo e13⟩)
    obtain ⟨rfl, eN⟩ := hN
    have aN := sqT_ext eN aM
    have tN := tM.ext eN
    have kN := kM.e eN
    have hdN := hdM.ext eN
    clear aM mM pM tM kM hdM eN
    walk_at "rd"
    refine ⟨by show 1 ≤ sizeLine; decide, fun o ho => ?_⟩
    have eo := Ext.new (o := HO.tup [V.int 1]) ho
    walk_at "rd"
    refine ⟨by show 6 ≤ sizeLine; decide, fun l5 hl5 => ?_⟩
    have el := Ext.new (o := HO.lst [V.non, V.int 1, V.int 0, V.ref o, V.str "p", V.bl true]) hl5
    have so := el _ _ (upd_same (H := _) (a := o) (o := HO.tup [V.int 1]))
    have e2 := Ext.trans eo el
    have hd2 := hdN.ext e2
    have a2 := sqT_ext e2 aN
    walk_at "rd"
    refine ⟨d, l5, _, rfl, hd2, SqL.of upd_same, dice_none (hdN.ext eo) hl5, by show 0 < 6; decide, by show 6 ≤ 1000; decide, fun HP x9 e9 hd9 hx9 => ?_⟩
    have hW : ∀ H'', SqT K H'' o [V.int 1] → NotP K C H'' x9 := by
      simp only [List.mem_cons, List.not_mem_nil, or_false] at hx9
      rcases hx9 with rfl | rfl | rfl | rfl | rfl | rfl
      · exact fun _ _ => ⟨_, .base .non, Ki.n⟩
      · exact fun _ _ => ⟨_, .base (.int _), Ki.i⟩
      · exact fun _ _ => ⟨_, .base (.int _), Ki.i⟩
      · exact fun _ h => ⟨_, tyT h, Ki.t⟩
      · exact fun _ _ => ⟨_, .base (.str _), Ki.s⟩
      · exact fun _ _ => ⟨_, .base (.bl _), Ki.b⟩
    have aP := sqT_dice hd2 e9 a2
    have oP2 : SqT K HP o [V.int 1] := sqT_dice hd2 e9 (SqT.of so)
    have tP := tabs_but hd2 e9 (tN.ext e2)
    have kP := (kN.e e2).but e9
    clear hx9 e9 a2 so e2 el eo hl5 ho aN tN kN hdN hd2
    walk_at "rd"
    refine g_lam tP (fun G1 eN1 tG1 => g_ref (g_meth ?_))
    refine g_mkP (ns := ns) (fun Q0 k0 => ⟨_, rfl, k0 _ _ (fun _ _ h => h) (sqT_extN eN1 aP)⟩) (by omega) Bn (fun G2 p u e1 h1 => ?_)
    obtain ⟨dp, ip⟩ := id h1.1
    refine ⟨p, dp, _, rfl, ip, rfl, ?_⟩
    walk_at "rd"
    have eq1 := ExtN.trans2 eN1 (ExtN.of e1)
    have tq1 := tG1.ext e1
    refine ⟨p, u, _, _, rfl, h1, .inr ⟨hW _ (sqT_extN eq1 oP2), .inr (.inr ⟨rfl, ?_⟩)⟩⟩
    have aQ := sqT_extN eq1 aP
    have oQ := sqT_extN eq1 oP2
    have kQ := kP.n eq1
    have hdQ := hd9.extN eq1
    clear h1 ip e1 eN1 tG1 eq1 aP oP2 tP kP hd9
    walk_at "rd"
    refine ⟨by show 1 ≤ sizeLine; decide, fun lt hlt => ?_⟩
    have et := Ext.new (o := HO.lst [V.str "poly"]) hlt
    have S1 : SS K T d H u3 ns o lt [V.str "poly"] (upd G2 lt (.lst [V.str "poly"])) :=
      ⟨kQ.e et, hdQ.ext et, tq1.ext et, sqT_ext et aQ, sqT_ext et oQ, upd_same, kQ.new hlt, dice_none hdQ hlt⟩
    generalize upd G2 lt (.lst [V.str "poly"]) = G3 at S1
    clear et aQ oQ kQ hdQ hlt tq1
    walk_at "rd"
    refine ⟨.inl ⟨rfl, _, SqL.of S1.lst⟩, ?_⟩
    walk_at "rd"
    refine g_lam S1.tb (fun G4 eN4 tG4 => g_ref (g_meth ?_))
    have S1 := S1.n eN4 tG4
    refine g_mkP (ns := ns) (fun Q0 k0 => ⟨_, rfl, k0 _ _ (fun _ _ h => h) S1.one⟩) (by omega) Bn (fun G5 p u e1 h1 => ?_)
    have S1 := S1.e e1
    obtain ⟨dp, ip⟩ := id h1.1
    refine ⟨p, dp, _, rfl, ip, rfl, ?_⟩
    walk_at "rd"
    refine ⟨p, u, _, _, rfl, h1, .inr ⟨hW _ S1.tup, .inr (.inr ⟨rfl, ?_⟩)⟩⟩
    clear h1 ip e1
    walk_at "rd"
    refine ⟨lt, _, _, rfl, rfl, S1.lst, by show 1 < sizeLine; decide, ?_⟩
    have S2 := S1.app (zs := [V.str "poly"] ++ [V.str "poly"])
    generalize upd G5 lt (.lst ([V.str "poly"] ++ [V.str "poly"])) = G6 at S2
    clear S1
    walk_at "rd"
    refine ⟨.inl ⟨rfl, _, SqL.of S2.lst⟩, ?_⟩
    walk_at "rd"
    refine g_lam S2.tb (fun G7 eN7 tG7 => g_ref (g_meth ?_))
    have S2 := S2.n eN7 tG7
    refine g_mkP (ns := ns) (fun Q0 k0 => ⟨_, rfl, k0 _ _ (fun _ _ h => h) S2.one⟩) (by omega) Bn (fun G8 p u e1 h1 => ?_)
    have S2 := S2.e e1
    obtain ⟨dp, ip⟩ := id h1.1
    refine ⟨p, dp, _, rfl, ip, rfl, ?_⟩
    walk_at "rd"
    refine g_mk0 (A.t0 _) (fun G9 q v e2 h2 => ?_)
    have S2 := S2.e e2
    refine ⟨p, u, _, _, rfl, h1.ext e2, .inl ⟨q, v, [], rfl, h2, fun _ => .inr (.inl ⟨rfl, ?_⟩), fun z => absurd rfl z, fun z => absurd rfl z⟩⟩
    clear h1 h2 ip e1 e2
    walk_at "rd"
    refine ⟨lt, _, _, rfl, rfl, S2.lst, by show 2 < sizeLine; decide, ?_⟩
    have S3 := S2.app (zs := [V.str "poly"] ++ [V.str "poly"] ++ [V.str "operation"])
    generalize upd G9 lt (.lst ([V.str "poly"] ++ [V.str "poly"] ++ [V.str "operation"])) = GA at S3
    clear S2
    walk_at "rd"
    refine ⟨.inl ⟨rfl, _, SqL.of S3.lst⟩, ?_⟩
    walk_at "rd"
    refine g_lam S3.tb (fun GB eNB tGB => g_ref (g_meth ?_))
    have S3 := S3.n eNB tGB
    refine g_mkP (ns := ns) (fun Q0 k0 => ⟨_, rfl, k0 _ _ (fun _ _ h => h) S3.one⟩) (by omega) Bn (fun GC p u e1 h1 => ?_)
    have S3 := S3.e e1
    obtain ⟨dp, ip⟩ := id h1.1
    refine ⟨p, dp, _, rfl, ip, rfl, ?_⟩
    walk_at "rd"
    refine g_mk0 (A.t0 _) (fun GD q v e2 h2 => ?_)
    have S3 := S3.e e2
    refine ⟨p, u, _, _, rfl, h1.ext e2, .inl ⟨q, v, [], rfl, h2, fun _ => .inr (.inl ⟨rfl, ?_⟩), fun z => absurd rfl z⟩⟩
    clear h1 h2 ip e1 e2
    walk_at "rd"
    refine ⟨lt, _, _, rfl, rfl, S3.lst, by show 3 < sizeLine; decide, ?_⟩
    have S4 := S3.app (zs := [V.str "poly"] ++ [V.str "poly"] ++ [V.str "operation"] ++ [V.str "operation"])
    generalize upd GD lt (.lst ([V.str "poly"] ++ [V.str "poly"] ++ [V.str "operation"] ++ [V.str "operation"])) = GE at S4
    clear S3
    walk_at "rd"
    refine ⟨by show 4 ≤ sizeLine; decide, fun lz hlz => ?_⟩
    have ez := Ext.new (o := HO.lst [V.str "poly", V.str "poly", V.str "operation", V.str "operation"]) hlz
    have S4 := S4.e ez
    refine ⟨.list [.str "poly", .str "poly", .str "operation", .str "operation"], .list [.str "poly", .str "poly", .str "operation", .str "operation"],
      .lst (SqL.of S4.lst) (.cons (.str _) (.cons (.str _) (.cons (.str _) (.cons (.str _) .nil)))), .lst (SqL.of upd_same) (.cons (.str _) (.cons (.str _) (.cons (.str _) (.cons (.str _) .nil)))), by decide +kernel, by decide +kernel, ?_⟩
    rw [told_eqv]
    exact k _ ⟨S4.kn, S4.hd, S4.tb⟩
end
end K0

set_option Elab.async false
set_option linter.all false
set_option maxRecDepth 100000
set_option maxHeartbeats 4000000
/-! The law. -/
namespace K0
open PySem PySem.Spec PyProof.Rows L2 Gd
open LamX (Tabs TabB ExtN GivesTo CodeO tLam)
local macro_rules | `(tactic| walk_at "rd1") => `(tactic| first | with_reducible refine g_ret ?_ | with_reducible refine g_retN ?_ | with_reducible refine g_seq ?_ | with_reducible refine g_next ?_ | with_reducible refine g_drop ?_ | with_reducible refine g_asg ?_ | with_reducible refine g_name ?_ | with_reducible refine g_ifs ?_ | with_reducible refine g_test ?_ | with_reducible refine g_tb ?_ | with_reducible refine g_and ?_ | with_reducible refine g_or ?_ | with_reducible refine g_not ?_ | with_reducible refine g_andV ?_ | with_reducible refine g_orV ?_ | with_reducible refine g_notV ?_ | with_reducible refine g_if ?_ | with_reducible refine g_op ?_ | with_reducible refine g_un ?_ | with_reducible refine g_cb ?_ | with_reducible refine g_nil ?_ | with_reducible refine g_cons ?_ | with_reducible refine g_call ?_ | with_reducible refine g_callS ?_ | with_reducible refine g_tup ?_ | with_reducible refine g_lst ?_ | with_reducible refine g_isN ?_ | with_reducible refine g_sl ?_ | with_reducible refine g_nopart ?_ | with_reducible refine g_part ?_ | with_reducible refine g_chain ?_ | with_reducible refine g_fld ?_ | with_reducible refine g_prop ?_ | with_reducible refine g_bm ?_ | with_reducible refine g_bm0 ?_ | with_reducible refine g_c ?_ | with_reducible refine g_sub ?_ | with_reducible refine g_int1 ?_ | with_reducible refine g_int2 ?_ | with_reducible refine g_yes ?_ | with_reducible refine g_sfld ?_ | with_reducible refine g_NT ?_ | with_reducible refine g_NF ?_ | with_reducible refine iteT ?_ | with_reducible refine iteF ?_ | ((with_reducible refine' g_aug ?hv ?_); (case hv => exact rfl)) | ((with_reducible refine' g_var ?hv ?_); (case hv => exact rfl)) | with_reducible refine g_I0 ?_ | with_reducible refine g_U ?_ | with_reducible refine g_eqI ?_ | with_reducible refine g_blV ?_ | with_reducible refine g_inV ?_)
local macro_rules | `(tactic| walk_at "rd") => `(tactic| repeat walk_at "rd1")
section
variable {P : Program} {w : World} {K : PySem.W.Frag} {mg : Str → Option Value} {base : Heap} {f C CP CO CR t0 : Addr} {fd : FuncData}
abbrev sLaw : Stmt := top 50
abbrev qLaw : Str := "law.<locals>.<lambda>"
structure Top1 (P : Program) (w : World) (K : PySem.W.Frag) (mg : Str → Option Value) (base : Heap) (T : List (Addr × Str)) : Prop where
  dice : Def1 P w K mg base CX0 1 "_law_dice" ["_law_script", "_law_spot"] (spDice K)
  right : Def1G P w K mg base CX0 11 "_law_right" ["_law_dice_here"] (spRight T)
def spLaw (K : PySem.W.Frag) (T : List (Addr × Str)) : Sp := fun vs H Q _ => ∃ (a : Addr) (ns : List Int), vs = [.ref a] ∧ SqL K H a (ns.map V.int) ∧ ns.length ≤ 63 ∧ Tabs T H ∧ ∀ H', Q (.bl true) H'
theorem scLaw : FnScope ["_law_script", "_law_spot"] ["_law_script"] (defScope sLaw) := ⟨rfl, rfl, rfl, by decide +kernel, rfl, by decide +kernel, by decide +kernel⟩
/-- two polynomials with the same factors -/
def SameP (K : PySem.W.Frag) (C : Addr) (a b : Addr) (H : Hp) : Prop := ∃ u v ns, PolyU K C H a u ns ∧ PolyU K C H b v ns
theorem same_mon : Mon (DIns C (SameP K C)) := mon_ins fun a b H H' e ⟨u, v, ns, h1, h2⟩ => ⟨u, v, ns, h1.ext e, h2.ext e⟩
theorem same_eq {X : Cx} (D : Met1 X.prog X.w X.K X.mg X.base CX0 1 C "__eq__" ["self", "other"] (spEqP X.K C)) : EqG X 1 (DIns C (SameP X.K C)) := by
  obtain ⟨g, gd, M, _, F, hb⟩ := D.ex
  refine eqG_ins (E := X0) (F.imp fun vs H Q E h => ?_) M.at_ M.fn hb pass0
  obtain ⟨a, b, rfl, ⟨u, v, ns, h1, h2⟩, k⟩ := h
  refine ⟨a, u, ns, _, rfl, h1, .inl ⟨b, v, ns, rfl, h2, ?_⟩⟩
  rw [decide_eq_true rfl]
  exact k H (fun _ _ z => z)
theorem divS {a b : List Int} {n : Nat} (la : a.length ≤ 3) (lb : b.length ≤ 3) (hz : leadOf b ≠ 0) (hA : ∀ n ∈ a, n.natAbs < 2 ^ 4) (hB : ∀ n ∈ b, n.natAbs < 2 ^ 4) : DivB a b :=
  ⟨by omega, by omega, lead_pos hz, hz, 4, 4, by decide, by decide, by decide, by omega, hA, hB⟩
theorem small_big {a : List Int} (h : ∀ n ∈ a, n.natAbs < 2 ^ 4) : Big a := fun n hn => by
  have := h n hn
  constructor <;> omega
theorem ok_law {c Pt : Addr} {T : List (Addr × Str)} (F : Fun K "law" "law" sLaw f fd) (hc : fd.code = .ref c) (TB : TabB base mg c Pt) (hmT : (Pt, qLaw) ∈ T) (hu : ∀ p ∈ T, p.1 = Pt → p.2 = qLaw)
    (Tx : Txt K mg) (T2 : Txt2 mg) (Cl : PC K mg C) (A : Has P w K mg base C CP CO CR t0) (R : Ref K mg CR CO CP) (To : Top1 P w K mg base T) :
    FnG P w K mg base CX0 12 f fd ["_law_script"] (spLaw K T) := by
  refine fnGc F hc scLaw (fun vs H Q E h => ?_) (fun Ar outer s H vs Q E hg hr h => ?_)
  · obtain ⟨a, ns, rfl, _⟩ := h
    rfl
  · obtain ⟨a, ns, rfl, hs, hl, hT, k⟩ := h
    refine ⟨_, PSs.nox (pss_cons (ps_for PassesOwn.never rfl (pi_range1 (by rfl) T2.range (pa_cons (pe_callB (call_max2 rfl) (by rfl) T2.max (by decide +kernel) (pa_cons pe_int (pa_cons (pe_callB (call_min2 rfl) (by rfl) T2.min (by decide +kernel) (pa_cons pe_int (pa_cons (pe_callB call_len_seq (by rfl) Tx.len PySem.boot_len (pa_cons (pv 0) pa_nil)) pa_nil))) pa_nil))) pa_nil)) (pg_name (i := 1) scLaw.nd rfl (Or.inl rfl))
          (pss_one (ps_if (pt_not (pt_val (pe_defG hg To.right hr (by decide) (by rfl) (pa_cons (pe_def To.dice hr (by decide) (by rfl) (pa_cons (pv 0) (pa_cons (pv 1) pa_nil))) pa_nil)))) (pss_one (ps_ret pe_bl)) pss_nil)))
      (pss_cons (ps_if (PW.pt (pw_or (pt_cmpR (op_neT same_mon (same_eq A.eq) (hr.mono (by decide))) (pe_me1 Cl.cl A.divided hr (by decide) (E := X0) (passes_call L2.takes0 (fun _ _ _ _ h => h)) (pe_mk0 A.ini hr (by decide) (by rfl) Cl.g) (pa_cons (pe_mk1 A.ini hr (by decide) (by rfl) Cl.g (pa_cons (pe_tup (pa_cons pe_int (pa_cons pe_int pa_nil))) pa_nil)) pa_nil))
            (pe_tup (pa_cons (pe_mk0 A.ini hr (by decide) (by rfl) Cl.g) (pa_cons (pe_mk0 A.ini hr (by decide) (by rfl) Cl.g) pa_nil))) (nomark _))
          (pw_or1 (pt_cmpR (op_ne1 Cl.ne A.eq hr (by decide)) (pe_me1 Cl.cl A.over hr (by decide) (E := X0) (passes_call L2.takes0 (fun _ _ _ _ h => h)) (pe_mk0 A.ini hr (by decide) (by rfl) Cl.g) (pa_cons (pe_mk1 A.ini hr (by decide) (by rfl) Cl.g (pa_cons (pe_tup (pa_cons pe_int (pa_cons pe_int pa_nil))) pa_nil)) pa_nil)) (pe_mk0 A.ini hr (by decide) (by rfl) Cl.g) (nomark _))))) (pss_one (ps_ret pe_bl)) pss_nil)
        (pss_one (ps_ret (pe_cmpR (op_eqD hr.units) (pe_lst (pa_cons (pe_ref (k := 6) (t := fun E => tMeth C "over" (spOver K C CP CO CR) [] E (tMake C (spInit K C) [] X0 (tCons (tTup (tCons (tC (.int 1)) (tCons (tC (.int 2)) tNil))) tNil)) (tCons (tMake C (spInit K C) [] X0 (tCons (tTup (tCons (tC (.int 2)) tNil)) tNil)) tNil)) (by rfl) R TB rfl hmT hu (hr.mono (by decide)) (LamX.lamS_by (by show LamX.lamSB (defScope sLaw) _ = true; decide +kernel)) rfl (fun _ _ _ _ _ => by rfl)
              (fun _ _ _ _ E _ _ hr' => pe_me1 Cl.cl A.over hr' (by decide) (passes_call (takes_of rfl rfl rfl rfl) (fun _ _ _ _ h => h)) (pe_mk1 A.ini hr' (by decide) (by rfl) Cl.g (pa_cons (pe_tup (pa_cons pe_int (pa_cons pe_int pa_nil))) pa_nil)) (pa_cons (pe_mk1 A.ini hr' (by decide) (by rfl) Cl.g (pa_cons (pe_tup (pa_cons pe_int pa_nil)) pa_nil)) pa_nil)))
            (pa_cons (pe_pro1 Cl.cl A.fac hr (by decide) (pe_me1 Cl.cl A.over hr (by decide) (E := X0) (passes_call L2.takes0 (fun _ _ _ _ h => h)) (pe_mk1 A.ini hr (by decide) (by rfl) Cl.g (pa_cons (pe_tup (pa_cons pe_int (pa_cons pe_int pa_nil))) pa_nil)) (pa_cons (pe_mk1 A.ini hr (by decide) (by rfl) Cl.g (pa_cons (pe_tup (pa_cons pe_int pa_nil)) pa_nil)) pa_nil))) pa_nil)))
            (pe_lst (pa_cons (pe_tup (pa_cons pe_str pa_nil)) (pa_cons (pe_tup (pa_cons pe_int (pa_cons pe_int pa_nil))) pa_nil))) (nomark _)))))), ?_⟩
    refine g_cut (fun σ H' => ∃ x : Option V, σ = [some (.ref a), x] ∧ Tabs T H') (fun σ' H' hN => ?_) (fun go => ?_)
    rotate_left
    · refine g_forR ?_
      walk_at "rd"
      refine ⟨a, _, rfl, .inl hs, ?_⟩
      walk_at "rd"
      rw [List.length_map]
      refine ⟨by split <;> omega, by split <;> omega, ?_⟩
      refine for_range (fun i σ H' => ∃ x : Option V, σ = [some (.ref a), x] ∧ ExtN H H' ∧ Tabs T H') ⟨_, rfl, ExtN.refl H, hT⟩ ?_ ?_
      · rintro i σ H2 hi ⟨x, rfl, e, hT2⟩
        have hi63 : i ≤ 63 := by
          revert hi
          split <;> (try split) <;> intro hi <;> omega
        walk_at "rd"
        have hi0 : (0 : Int) + (i : Int) = (i : Int) := by omega
        rw [hi0]
        refine ⟨a, ns, i, rfl, sqL_extN e hs, hi63, fun H3 d e3 hd0 hd => ?_⟩
        walk_at "rd"
        refine ⟨d, rfl, hd, hT2.ext e3, fun H4 K4 => ?_⟩
        walk_at "rd"
        exact ⟨_, rfl, fun b o q n => K4.ext b o (ne_of_none (e b o q n) hd0) (e3 b o (e b o q n)) n, K4.tabs⟩
      · rintro σ H2 ⟨x, rfl, _, hT2⟩
        exact go _ _ ⟨_, rfl, hT2⟩
    obtain ⟨x0, rfl, hT1⟩ := hN
    clear hs hT
    walk_at "rd"
    refine g_meth ?_
    refine g_mk0 (A.t0 _) (fun H1 p u e1 h1 => ?_)
    obtain ⟨dp, ip⟩ := id h1.1
    refine ⟨p, dp, _, rfl, ip, rfl, ?_⟩
    walk_at "rd"
    refine g_mkP (ns := [3, 1]) (fun Q0 k0 => ⟨by show 2 ≤ sizeLine; decide, fun t ht => k0 _ _ (Ext.new ht) (SqT.of upd_same)⟩) (by decide) (small_big (by decide)) (fun H2 q v e2 h2 => ?_)
    rw [show trim [3, 1] = [3, 1] from by decide] at h2
    refine ⟨p, u, [], _, rfl, h1.ext e2, .inl ⟨q, v, [3, 1], rfl, h2, fun z => (nomatch z), fun _ z => absurd z (by decide), fun _ _ => ⟨divS (n := 0) (by decide) (by decide) (by decide) (by decide) (by decide), fun H3 t x xu y yu e3 ht hx hy => ?_⟩⟩⟩
    rw [show trim (quo [] [3, 1]) = [] from by decide] at hx
    rw [show trim (rst [] [3, 1]) = [] from by decide] at hy
    have t3 := hT1.ext (Ext.trans e1 (Ext.trans e2 e3))
    clear hT1 h1 h2 ip e1 e2 e3
    walk_at "rd"
    refine g_mk0 (A.t0 _) (fun H4 p4 u4 e4 h4 => ?_)
    walk_at "rd"
    refine g_mk0 (A.t0 _) (fun H5 p5 u5 e5 h5 => ?_)
    walk_at "rd"
    refine ⟨by show 2 ≤ sizeLine; decide, fun o ho => ?_⟩
    have eo := Ext.new (o := HO.tup [V.ref p4, V.ref p5]) ho
    have e45 := Ext.trans e4 (Ext.trans e5 eo)
    have hx := hx.ext e45
    have hy := hy.ext e45
    have h4 := h4.ext (Ext.trans e5 eo)
    have h5 := h5.ext eo
    have ht := e45 _ _ ht
    have t5 := t3.ext e45
    obtain ⟨dx, ix⟩ := id hx.1
    obtain ⟨dy, iy⟩ := id hy.1
    obtain ⟨d4, i4⟩ := id h4.1
    obtain ⟨d5, i5⟩ := id h5.1
    refine ⟨⟨t, o, _, _, rfl, rfl, SqT.of ht, SqT.of upd_same, Prs.cons ⟨x, p4, dx, d4, _, _, rfl, rfl, ix, i4, xu, u4, [], hx, h4⟩ (Prs.cons ⟨y, p5, dy, d5, _, _, rfl, rfl, iy, i5, yu, u5, [], hy, h5⟩ Prs.nil)⟩, fun H6 e6 => ?_⟩
    have t6 := t5.ext e6
    clear hx hy h4 h5 ht t5 t3 ix iy i4 i5 eo e45 e4 e5 ho e6
    walk_at "rd"
    refine g_meth ?_
    refine g_mk0 (A.t0 _) (fun H1 p u e1 h1 => ?_)
    obtain ⟨dp, ip⟩ := id h1.1
    refine ⟨p, dp, _, rfl, ip, rfl, ?_⟩
    walk_at "rd"
    refine g_mkP (ns := [0, 5]) (fun Q0 k0 => ⟨by show 2 ≤ sizeLine; decide, fun t ht => k0 _ _ (Ext.new ht) (SqT.of upd_same)⟩) (by decide) (small_big (by decide)) (fun H2 q v e2 h2 => ?_)
    rw [show trim [0, 5] = [0, 5] from by decide] at h2
    refine ⟨p, u, [], _, rfl, h1.ext e2, .inl ⟨q, v, [0, 5], rfl, h2, fun z => (nomatch z), fun _ => ⟨divS (n := 0) (by decide) (by decide) (by decide) (by decide) (by decide), fun z => absurd (by decide) z, fun _ H3 x xu e3 hx => ?_⟩⟩⟩
    rw [show trim (quo [] [0, 5]) = [] from by decide] at hx
    have t7 := t6.ext (Ext.trans e1 (Ext.trans e2 e3))
    clear t6 h1 h2 ip e1 e2 e3
    walk_at "rd"
    refine g_mk0 (A.t0 _) (fun H4 p4 u4 e4 h4 => ?_)
    refine g_neP Cl (hx.ext e4) h4 ?_
    have t8 := t7.ext e4
    clear hx h4 t7 e4
    rw [decide_eq_true (rfl : ([] : List Int) = [])]
    walk_at "rd"
    refine g_lam t8 (fun G1 eN tG => g_ref (g_meth ?_))
    refine g_mkP (ns := [1, 2]) (fun Q0 k0 => ⟨by show 2 ≤ sizeLine; decide, fun t ht => k0 _ _ (Ext.new ht) (SqT.of upd_same)⟩) (by decide) (small_big (by decide)) (fun G2 p u e1 h1 => ?_)
    rw [show trim [1, 2] = [1, 2] from by decide] at h1
    obtain ⟨dp, ip⟩ := id h1.1
    refine ⟨p, dp, _, rfl, ip, rfl, ?_⟩
    walk_at "rd"
    refine g_mkP (ns := [2]) (fun Q0 k0 => ⟨by show 1 ≤ sizeLine; decide, fun t ht => k0 _ _ (Ext.new ht) (SqT.of upd_same)⟩) (by decide) (small_big (by decide)) (fun G3 q v e2 h2 => ?_)
    rw [show trim [2] = [2] from by decide] at h2
    refine ⟨p, u, [1, 2], _, rfl, h1.ext e2, .inl ⟨q, v, [2], rfl, h2, fun z => (nomatch z), fun _ => ⟨divS (n := 0) (by decide) (by decide) (by decide) (by decide) (by decide), fun _ G4 t d e3 ht hd0 => ?_, fun z => absurd z (by decide)⟩⟩⟩
    refine .inl ⟨rfl, d, .ref t, rfl, upd_same, ?_⟩
    have ht := Ext.new (o := HO.xd [(("reason" : Str), V.ref t)]) hd0 _ _ ht
    generalize upd G4 d (.xd [(("reason" : Str), V.ref t)]) = G5 at ht
    clear h1 h2 ip e1 e2 e3 tG t8 eN hd0
    walk_at "rd"
    refine g_meth ?_
    refine g_mkP (ns := [4, 2]) (fun Q0 k0 => ⟨by show 2 ≤ sizeLine; decide, fun t ht => k0 _ _ (Ext.new ht) (SqT.of upd_same)⟩) (by decide) (small_big (by decide)) (fun G6 p u e1 h1 => ?_)
    rw [show trim [4, 2] = [4, 2] from by decide] at h1
    obtain ⟨dp, ip⟩ := id h1.1
    refine ⟨p, dp, _, rfl, ip, rfl, ?_⟩
    walk_at "rd"
    refine g_mkP (ns := [2]) (fun Q0 k0 => ⟨by show 1 ≤ sizeLine; decide, fun t ht => k0 _ _ (Ext.new ht) (SqT.of upd_same)⟩) (by decide) (small_big (by decide)) (fun G7 q v e2 h2 => ?_)
    rw [show trim [2] = [2] from by decide] at h2
    refine ⟨p, u, [4, 2], _, rfl, h1.ext e2, .inl ⟨q, v, [2], rfl, h2, fun z => (nomatch z), fun _ => ⟨divS (n := 0) (by decide) (by decide) (by decide) (by decide) (by decide), fun z => absurd (by decide) z, fun _ G8 x xu e3 hx => ?_⟩⟩⟩
    rw [show trim (quo [4, 2] [2]) = [2, 1] from by decide] at hx
    refine g_got hx ?_
    have ht := (Ext.trans e1 (Ext.trans e2 e3)) _ _ ht
    have hx2 := hx.2.1
    clear h1 h2 ip e1 e2 e3 hx
    walk_at "rd"
    refine ⟨by show 2 ≤ sizeLine; decide, fun o1 ho1 => ?_⟩
    have f1 := Ext.new (o := HO.lst [V.ref t, V.ref xu]) ho1
    walk_at "rd"
    refine ⟨by show 1 ≤ sizeLine; decide, fun o2 ho2 => ?_⟩
    have f2 := Ext.new (o := HO.tup [V.str "rest"]) ho2
    walk_at "rd"
    refine ⟨by show 2 ≤ sizeLine; decide, fun o3 ho3 => ?_⟩
    have f3 := Ext.new (o := HO.tup [V.int 2, V.int 1]) ho3
    walk_at "rd"
    refine ⟨by show 2 ≤ sizeLine; decide, fun o4 ho4 => ?_⟩
    have f4 := Ext.new (o := HO.lst [V.ref o2, V.ref o3]) ho4
    have f234 := Ext.trans f2 (Ext.trans f3 f4)
    refine ⟨.list [.tuple [.str "rest"], .tuple (idata [2, 1])], .list [.tuple [.str "rest"], .tuple (idata [2, 1])],
      .lst (SqL.of (f234 _ _ upd_same)) (.cons (.tup (SqT.of (f234 _ _ (f1 _ _ ht))) (.cons (.str _) .nil)) (.cons (dp_tup (sqT_ext (Ext.trans f1 f234) hx2)) .nil)),
      .lst (SqL.of upd_same) (.cons (.tup (SqT.of (f4 _ _ (f3 _ _ upd_same))) (.cons (.str _) .nil)) (.cons (dp_tup (SqT.of (f4 _ _ upd_same))) .nil)), by decide +kernel, by decide +kernel, ?_⟩
    rw [show PyData.eqv (.list [.tuple [.str "rest"], .tuple (idata [2, 1])]) (.list [.tuple [.str "rest"], .tuple (idata [2, 1])]) = true from by decide +kernel]
    exact k _
end
end K0

set_option Elab.async false
set_option linter.all false
set_option maxRecDepth 100000
set_option maxHeartbeats 8000000
/-! What the top has written. -/
namespace K0
open PySem PySem.Spec PyProof.Rows L2 Gd
open LamX (Tabs TabB TabS ExtN)
/-- an error of the class at S, an except clause that names U -/
theorem exm_one {K : PySem.W.Frag} {S U : Addr} {b : Bool} (h1 : PySem.W.subIn K (.ref U) (.type "BaseException") = some true) (h2 : PySem.W.isClsIn K U = true) (h3 : PySem.W.typeIn K (.ref U) = some (.type "type")) (h4 : PySem.W.subIn K (.ref S) (.ref U) = some b) :
    PySem.W.exmOne K (.ref S) (.ref U) = some b := by
  have h2' : (PySem.W.clsIn K U).isSome = true := h2
  simp [PySem.W.exmOne, PySem.W.kitCls, h1, h2', h3, h4]
theorem kit_self {K : PySem.W.Frag} {C : Addr} : PySem.W.kitOne K (.ref C) (.ref C) = some true := by
  unfold PySem.W.kitOne
  simp
theorem kit_not {K : PySem.W.Frag} {C : Addr} {T : String} (h : PySem.W.isClsIn K C = true) (ht : PySem.W.typeIn K (.ref C) = some (.type "type")) (hs : PySem.W.subIn K (.type T) (.ref C) = some false) : PySem.W.kitOne K (.type T) (.ref C) = some false := by
  have h' : (PySem.W.clsIn K C).isSome = true := h
  have e : (Value.type T == Value.ref C) = false := rfl
  simp [PySem.W.kitOne, PySem.W.kitCls, e, h', ht, hs]
local macro_rules | `(tactic| walk_at "rd1") => `(tactic| first | with_reducible refine g_ret ?_ | with_reducible refine g_retN ?_ | with_reducible refine g_seq ?_ | with_reducible refine g_next ?_ | with_reducible refine g_drop ?_ | with_reducible refine g_asg ?_ | with_reducible refine g_name ?_ | with_reducible refine g_ifs ?_ | with_reducible refine g_test ?_ | with_reducible refine g_tb ?_ | with_reducible refine g_and ?_ | with_reducible refine g_or ?_ | with_reducible refine g_not ?_ | with_reducible refine g_andV ?_ | with_reducible refine g_orV ?_ | with_reducible refine g_notV ?_ | with_reducible refine g_if ?_ | with_reducible refine g_op ?_ | with_reducible refine g_un ?_ | with_reducible refine g_cb ?_ | with_reducible refine g_nil ?_ | with_reducible refine g_cons ?_ | with_reducible refine g_call ?_ | with_reducible refine g_callS ?_ | with_reducible refine g_tup ?_ | with_reducible refine g_lst ?_ | with_reducible refine g_isN ?_ | with_reducible refine g_sl ?_ | with_reducible refine g_nopart ?_ | with_reducible refine g_part ?_ | with_reducible refine g_chain ?_ | with_reducible refine g_fld ?_ | with_reducible refine g_prop ?_ | with_reducible refine g_bm ?_ | with_reducible refine g_bm0 ?_ | with_reducible refine g_c ?_ | with_reducible refine g_sub ?_ | with_reducible refine g_int1 ?_ | with_reducible refine g_int2 ?_ | with_reducible refine g_yes ?_ | with_reducible refine g_sfld ?_ | with_reducible refine g_NT ?_ | with_reducible refine g_NF ?_ | with_reducible refine iteT ?_ | with_reducible refine iteF ?_ | ((with_reducible refine' g_aug ?hv ?_); (case hv => exact rfl)) | ((with_reducible refine' g_var ?hv ?_); (case hv => exact rfl)) | with_reducible refine g_I0 ?_ | with_reducible refine g_U ?_ | with_reducible refine g_eqI ?_ | with_reducible refine g_blV ?_ | with_reducible refine g_inV ?_)
local macro_rules | `(tactic| walk_at "rd") => `(tactic| repeat walk_at "rd1")
theorem all_mk {l : PySem.W.OpenLaw} {w : World} {K : PySem.W.Frag} {h : Heap} {mg : Str → Option Value} {fa fWh fIn fTr fAd fNg fMu fPo fOp fRp fRd fLg fDi fRo fPi fLt fLm fLf fSp fRe fDr cDr tDr fOr cOr tOr fRi cRi tRi fLa cLa tLa C fI0 T0 t0 fPa fPm fDv fOv fLn fEq fFa pFa fLe pLe CRx fRx qRx COx CPx : Addr} (X : K.In h) (G : h.Ns mainGlobals mg) (hfa : mg "law" = some (.ref fa))
    {odWh anWh : Option Addr} {slWh : Array (Option Value)} {ocWh kVWh dcWh pmWh cdWh ctWh : Value}
    {odIn anIn : Option Addr} {slIn : Array (Option Value)} {ocIn kVIn dcIn pmIn cdIn ctIn : Value}
    {odTr anTr : Option Addr} {slTr : Array (Option Value)} {ocTr kVTr dcTr pmTr cdTr ctTr : Value}
    {odAd anAd : Option Addr} {slAd : Array (Option Value)} {ocAd kVAd dcAd pmAd cdAd ctAd : Value}
    {odNg anNg : Option Addr} {slNg : Array (Option Value)} {ocNg kVNg dcNg pmNg cdNg ctNg : Value}
    {odMu anMu : Option Addr} {slMu : Array (Option Value)} {ocMu kVMu dcMu pmMu cdMu ctMu : Value}
    {odPo anPo : Option Addr} {slPo : Array (Option Value)} {ocPo kVPo dcPo pmPo cdPo ctPo : Value}
    {odOp anOp : Option Addr} {slOp : Array (Option Value)} {ocOp kVOp dcOp pmOp cdOp ctOp : Value}
    {odRp anRp : Option Addr} {slRp : Array (Option Value)} {ocRp kVRp dcRp pmRp cdRp ctRp : Value}
    {odRd anRd : Option Addr} {slRd : Array (Option Value)} {ocRd kVRd dcRd pmRd cdRd ctRd : Value}
    {odLg anLg : Option Addr} {slLg : Array (Option Value)} {ocLg kVLg dcLg pmLg cdLg ctLg : Value}
    {odDi anDi : Option Addr} {slDi : Array (Option Value)} {ocDi kVDi dcDi pmDi cdDi ctDi : Value}
    {odRo anRo : Option Addr} {slRo : Array (Option Value)} {ocRo kVRo dcRo pmRo cdRo ctRo : Value}
    {odPi anPi : Option Addr} {slPi : Array (Option Value)} {ocPi kVPi dcPi pmPi cdPi ctPi : Value}
    {odLt anLt : Option Addr} {slLt : Array (Option Value)} {ocLt kVLt dcLt pmLt cdLt ctLt : Value}
    {odLm anLm : Option Addr} {slLm : Array (Option Value)} {ocLm kVLm dcLm pmLm cdLm ctLm : Value}
    {odLf anLf : Option Addr} {slLf : Array (Option Value)} {ocLf kVLf dcLf pmLf cdLf ctLf : Value}
    {odSp anSp : Option Addr} {slSp : Array (Option Value)} {ocSp kVSp dcSp pmSp cdSp ctSp : Value}
    {odRe anRe : Option Addr} {slRe : Array (Option Value)} {ocRe kVRe dcRe pmRe cdRe ctRe : Value}
    {odDr anDr : Option Addr} {slDr : Array (Option Value)} {ocDr kVDr dcDr pmDr ctDr : Value}
    {koDr : Value} {kdDr : Option Addr} {vsDr : Array Value} {ksDr : Array (Option Value)}
    {odOr anOr : Option Addr} {slOr : Array (Option Value)} {ocOr kVOr dcOr pmOr ctOr : Value}
    {koOr : Value} {kdOr : Option Addr} {vsOr : Array Value} {ksOr : Array (Option Value)}
    {odRi anRi : Option Addr} {slRi : Array (Option Value)} {ocRi kVRi dcRi pmRi ctRi : Value}
    {koRi : Value} {kdRi : Option Addr} {vsRi : Array Value} {ksRi : Array (Option Value)}
    {odLa anLa : Option Addr} {slLa : Array (Option Value)} {ocLa kVLa dcLa pmLa ctLa : Value}
    {koLa : Value} {kdLa : Option Addr} {vsLa : Array Value} {ksLa : Array (Option Value)}
    {odI0 anI0 : Option Addr} {slI0 : Array (Option Value)} {ocI0 kVI0 dcI0 pmI0 cdI0 ctI0 : Value}
    {ocT : Value} {odT : Option Addr} {nT : Nat} {slT : Array (Option Value)} {odt : Option Addr} {nt : Nat} {slt : Array (Option Value)}
    {odPa anPa : Option Addr} {slPa : Array (Option Value)} {ocPa kVPa dcPa pmPa cdPa ctPa : Value}
    {odPm anPm : Option Addr} {slPm : Array (Option Value)} {ocPm kVPm dcPm pmPm cdPm ctPm : Value}
    {odDv anDv : Option Addr} {slDv : Array (Option Value)} {ocDv kVDv dcDv pmDv cdDv ctDv : Value}
    {odOv anOv : Option Addr} {slOv : Array (Option Value)} {ocOv kVOv dcOv pmOv cdOv ctOv : Value}
    {odLn anLn : Option Addr} {slLn : Array (Option Value)} {ocLn kVLn dcLn pmLn cdLn ctLn : Value}
    {odEq anEq : Option Addr} {slEq : Array (Option Value)} {ocEq kVEq dcEq pmEq cdEq ctEq : Value}
    {restFa : List Value}
    {odFa anFa : Option Addr} {slFa : Array (Option Value)} {ocFa kVFa dcFa pmFa cdFa ctFa : Value}
    {restLe : List Value}
    {odLe anLe : Option Addr} {slLe : Array (Option Value)} {ocLe kVLe dcLe pmLe cdLe ctLe : Value}
    {tb tm : Tok}
    {nmR qR : Str} {bsR : List Value} {snR : List Str} {subR : List Value} {abR : Bool} {colR : Option Bool} {ddR : Option Addr} {m0R m1R m2R m3R m5R : Option Value} {odxR anxR : Option Addr} {slxR : Array (Option Value)} {ocxR dcxR pmxR cdxR ctxR : Value} {q1R q2R q3R q4R q5R q6R : Pos}
    (aWh : PySem.W.nsIn K mainGlobals "is_whole" = some (some (.ref fWh)))
    (lWh : K.lookup fWh = some ⟨ocWh, odWh, .func (PySem.W.fnOf "is_whole" "is_whole" (defArgs (sWhole)) (defBody (sWhole)) (defScope (sWhole)) .none kVWh dcWh pmWh anWh cdWh ctWh), slWh⟩)
    (cWh_ : PySem.W.codeIn K cdWh "is_whole" = true)
    (kWh : PySem.W.keepIn K (.ref fWh) = true)
    (aIn : PySem.W.nsIn K mainGlobals "is_integer" = some (some (.ref fIn)))
    (lIn : K.lookup fIn = some ⟨ocIn, odIn, .func (PySem.W.fnOf "is_integer" "is_integer" (defArgs (sInteger)) (defBody (sInteger)) (defScope (sInteger)) .none kVIn dcIn pmIn anIn cdIn ctIn), slIn⟩)
    (cIn_ : PySem.W.codeIn K cdIn "is_integer" = true)
    (kIn : PySem.W.keepIn K (.ref fIn) = true)
    (aTr : PySem.W.nsIn K mainGlobals "trimmed" = some (some (.ref fTr)))
    (lTr : K.lookup fTr = some ⟨ocTr, odTr, .func (PySem.W.fnOf "trimmed" "trimmed" (defArgs (sTrimmed)) (defBody (sTrimmed)) (defScope (sTrimmed)) .none kVTr dcTr pmTr anTr cdTr ctTr), slTr⟩)
    (cTr_ : PySem.W.codeIn K cdTr "trimmed" = true)
    (kTr : PySem.W.keepIn K (.ref fTr) = true)
    (aAd : PySem.W.nsIn K mainGlobals "added" = some (some (.ref fAd)))
    (lAd : K.lookup fAd = some ⟨ocAd, odAd, .func (PySem.W.fnOf "added" "added" (defArgs (sAdded)) (defBody (sAdded)) (defScope (sAdded)) .none kVAd dcAd pmAd anAd cdAd ctAd), slAd⟩)
    (cAd_ : PySem.W.codeIn K cdAd "added" = true)
    (kAd : PySem.W.keepIn K (.ref fAd) = true)
    (aNg : PySem.W.nsIn K mainGlobals "negated" = some (some (.ref fNg)))
    (lNg : K.lookup fNg = some ⟨ocNg, odNg, .func (PySem.W.fnOf "negated" "negated" (defArgs (sNegated)) (defBody (sNegated)) (defScope (sNegated)) .none kVNg dcNg pmNg anNg cdNg ctNg), slNg⟩)
    (cNg_ : PySem.W.codeIn K cdNg "negated" = true)
    (kNg : PySem.W.keepIn K (.ref fNg) = true)
    (aMu : PySem.W.nsIn K mainGlobals "multiplied" = some (some (.ref fMu)))
    (lMu : K.lookup fMu = some ⟨ocMu, odMu, .func (PySem.W.fnOf "multiplied" "multiplied" (defArgs (sMultiplied)) (defBody (sMultiplied)) (defScope (sMultiplied)) .none kVMu dcMu pmMu anMu cdMu ctMu), slMu⟩)
    (cMu_ : PySem.W.codeIn K cdMu "multiplied" = true)
    (kMu : PySem.W.keepIn K (.ref fMu) = true)
    (aPo : PySem.W.nsIn K mainGlobals "poly_of" = some (some (.ref fPo)))
    (lPo : K.lookup fPo = some ⟨ocPo, odPo, .func (PySem.W.fnOf "poly_of" "poly_of" (defArgs (sPolyOf)) (defBody (sPolyOf)) (defScope (sPolyOf)) .none kVPo dcPo pmPo anPo cdPo ctPo), slPo⟩)
    (cPo_ : PySem.W.codeIn K cdPo "poly_of" = true)
    (kPo : PySem.W.keepIn K (.ref fPo) = true)
    (aOp : PySem.W.nsIn K mainGlobals "operand_row" = some (some (.ref fOp)))
    (lOp : K.lookup fOp = some ⟨ocOp, odOp, .func (PySem.W.fnOf "operand_row" "operand_row" (defArgs (sOperand)) (defBody (sOperand)) (defScope (sOperand)) .none kVOp dcOp pmOp anOp cdOp ctOp), slOp⟩)
    (cOp_ : PySem.W.codeIn K cdOp "operand_row" = true)
    (kOp : PySem.W.keepIn K (.ref fOp) = true)
    (aRp : PySem.W.nsIn K mainGlobals "require_poly" = some (some (.ref fRp)))
    (lRp : K.lookup fRp = some ⟨ocRp, odRp, .func (PySem.W.fnOf "require_poly" "require_poly" (defArgs (sReqPoly)) (defBody (sReqPoly)) (defScope (sReqPoly)) .none kVRp dcRp pmRp anRp cdRp ctRp), slRp⟩)
    (cRp_ : PySem.W.codeIn K cdRp "require_poly" = true)
    (kRp : PySem.W.keepIn K (.ref fRp) = true)
    (aRd : PySem.W.nsIn K mainGlobals "require_divisor" = some (some (.ref fRd)))
    (lRd : K.lookup fRd = some ⟨ocRd, odRd, .func (PySem.W.fnOf "require_divisor" "require_divisor" (defArgs (sReqDiv)) (defBody (sReqDiv)) (defScope (sReqDiv)) .none kVRd dcRd pmRd anRd cdRd ctRd), slRd⟩)
    (cRd_ : PySem.W.codeIn K cdRd "require_divisor" = true)
    (kRd : PySem.W.keepIn K (.ref fRd) = true)
    (aLg : PySem.W.nsIn K mainGlobals "long_division" = some (some (.ref fLg)))
    (lLg : K.lookup fLg = some ⟨ocLg, odLg, .func (PySem.W.fnOf "long_division" "long_division" (defArgs (sLongDiv)) (defBody (sLongDiv)) (defScope (sLongDiv)) .none kVLg dcLg pmLg anLg cdLg ctLg), slLg⟩)
    (cLg_ : PySem.W.codeIn K cdLg "long_division" = true)
    (kLg : PySem.W.keepIn K (.ref fLg) = true)
    (aDi : PySem.W.nsIn K mainGlobals "_law_dice" = some (some (.ref fDi)))
    (lDi : K.lookup fDi = some ⟨ocDi, odDi, .func (PySem.W.fnOf "_law_dice" "_law_dice" (defArgs (sDice)) (defBody (sDice)) (defScope (sDice)) .none kVDi dcDi pmDi anDi cdDi ctDi), slDi⟩)
    (cDi_ : PySem.W.codeIn K cdDi "_law_dice" = true)
    (kDi : PySem.W.keepIn K (.ref fDi) = true)
    (aRo : PySem.W.nsIn K mainGlobals "_law_roll" = some (some (.ref fRo)))
    (lRo : K.lookup fRo = some ⟨ocRo, odRo, .func (PySem.W.fnOf "_law_roll" "_law_roll" (defArgs (sRoll)) (defBody (sRoll)) (defScope (sRoll)) .none kVRo dcRo pmRo anRo cdRo ctRo), slRo⟩)
    (cRo_ : PySem.W.codeIn K cdRo "_law_roll" = true)
    (kRo : PySem.W.keepIn K (.ref fRo) = true)
    (aPi : PySem.W.nsIn K mainGlobals "_law_pick" = some (some (.ref fPi)))
    (lPi : K.lookup fPi = some ⟨ocPi, odPi, .func (PySem.W.fnOf "_law_pick" "_law_pick" (defArgs (sPick)) (defBody (sPick)) (defScope (sPick)) .none kVPi dcPi pmPi anPi cdPi ctPi), slPi⟩)
    (cPi_ : PySem.W.codeIn K cdPi "_law_pick" = true)
    (kPi : PySem.W.keepIn K (.ref fPi) = true)
    (aLt : PySem.W.nsIn K mainGlobals "_law_trimmed" = some (some (.ref fLt)))
    (lLt : K.lookup fLt = some ⟨ocLt, odLt, .func (PySem.W.fnOf "_law_trimmed" "_law_trimmed" (defArgs (sLTrim)) (defBody (sLTrim)) (defScope (sLTrim)) .none kVLt dcLt pmLt anLt cdLt ctLt), slLt⟩)
    (cLt_ : PySem.W.codeIn K cdLt "_law_trimmed" = true)
    (kLt : PySem.W.keepIn K (.ref fLt) = true)
    (aLm : PySem.W.nsIn K mainGlobals "_law_times" = some (some (.ref fLm)))
    (lLm : K.lookup fLm = some ⟨ocLm, odLm, .func (PySem.W.fnOf "_law_times" "_law_times" (defArgs (sTimes)) (defBody (sTimes)) (defScope (sTimes)) .none kVLm dcLm pmLm anLm cdLm ctLm), slLm⟩)
    (cLm_ : PySem.W.codeIn K cdLm "_law_times" = true)
    (kLm : PySem.W.keepIn K (.ref fLm) = true)
    (aLf : PySem.W.nsIn K mainGlobals "_law_factors" = some (some (.ref fLf)))
    (lLf : K.lookup fLf = some ⟨ocLf, odLf, .func (PySem.W.fnOf "_law_factors" "_law_factors" (defArgs (sFactors)) (defBody (sFactors)) (defScope (sFactors)) .none kVLf dcLf pmLf anLf cdLf ctLf), slLf⟩)
    (cLf_ : PySem.W.codeIn K cdLf "_law_factors" = true)
    (kLf : PySem.W.keepIn K (.ref fLf) = true)
    (aSp : PySem.W.nsIn K mainGlobals "_law_split" = some (some (.ref fSp)))
    (lSp : K.lookup fSp = some ⟨ocSp, odSp, .func (PySem.W.fnOf "_law_split" "_law_split" (defArgs (sSplit)) (defBody (sSplit)) (defScope (sSplit)) .none kVSp dcSp pmSp anSp cdSp ctSp), slSp⟩)
    (cSp_ : PySem.W.codeIn K cdSp "_law_split" = true)
    (kSp : PySem.W.keepIn K (.ref fSp) = true)
    (aRe : PySem.W.nsIn K mainGlobals "_law_refused" = some (some (.ref fRe)))
    (lRe : K.lookup fRe = some ⟨ocRe, odRe, .func (PySem.W.fnOf "_law_refused" "_law_refused" (defArgs (sRefused)) (defBody (sRefused)) (defScope (sRefused)) .none kVRe dcRe pmRe anRe cdRe ctRe), slRe⟩)
    (cRe_ : PySem.W.codeIn K cdRe "_law_refused" = true)
    (kRe : PySem.W.keepIn K (.ref fRe) = true)
    (aDr : PySem.W.nsIn K mainGlobals "_law_divided_right" = some (some (.ref fDr)))
    (lDr : K.lookup fDr = some ⟨ocDr, odDr, .func (PySem.W.fnOf "_law_divided_right" "_law_divided_right" (defArgs (sDivR)) (defBody (sDivR)) (defScope (sDivR)) .none kVDr dcDr pmDr anDr (.ref cDr) ctDr), slDr⟩)
    (cDr_ : PySem.W.codeIn K (.ref cDr) "_law_divided_right" = true)
    (kDr : PySem.W.keepIn K (.ref fDr) = true)
    (qDr : K.lookup cDr = some ⟨koDr, kdDr, .fields vsDr, ksDr⟩)
    (vDr : (vsDr[11]? : Option Value) = some (.ref tDr))
    (dDr : PySem.W.codeHdIn K cDr tDr = true)
    (nDr : K.lookup tDr = none)
    (eDr : h.get? tDr = some { cls := .none, data := .fields #[] })
    (aOr : PySem.W.nsIn K mainGlobals "_law_over_right" = some (some (.ref fOr)))
    (lOr : K.lookup fOr = some ⟨ocOr, odOr, .func (PySem.W.fnOf "_law_over_right" "_law_over_right" (defArgs (sOverR)) (defBody (sOverR)) (defScope (sOverR)) .none kVOr dcOr pmOr anOr (.ref cOr) ctOr), slOr⟩)
    (cOr_ : PySem.W.codeIn K (.ref cOr) "_law_over_right" = true)
    (kOr : PySem.W.keepIn K (.ref fOr) = true)
    (qOr : K.lookup cOr = some ⟨koOr, kdOr, .fields vsOr, ksOr⟩)
    (vOr : (vsOr[11]? : Option Value) = some (.ref tOr))
    (dOr : PySem.W.codeHdIn K cOr tOr = true)
    (nOr : K.lookup tOr = none)
    (eOr : h.get? tOr = some { cls := .none, data := .fields #[] })
    (aRi : PySem.W.nsIn K mainGlobals "_law_right" = some (some (.ref fRi)))
    (lRi : K.lookup fRi = some ⟨ocRi, odRi, .func (PySem.W.fnOf "_law_right" "_law_right" (defArgs (sRight)) (defBody (sRight)) (defScope (sRight)) .none kVRi dcRi pmRi anRi (.ref cRi) ctRi), slRi⟩)
    (cRi_ : PySem.W.codeIn K (.ref cRi) "_law_right" = true)
    (kRi : PySem.W.keepIn K (.ref fRi) = true)
    (qRi : K.lookup cRi = some ⟨koRi, kdRi, .fields vsRi, ksRi⟩)
    (vRi : (vsRi[11]? : Option Value) = some (.ref tRi))
    (dRi : PySem.W.codeHdIn K cRi tRi = true)
    (nRi : K.lookup tRi = none)
    (eRi : h.get? tRi = some { cls := .none, data := .fields #[] })
    (aLa : PySem.W.nsIn K mainGlobals "law" = some (some (.ref fLa)))
    (lLa : K.lookup fLa = some ⟨ocLa, odLa, .func (PySem.W.fnOf "law" "law" (defArgs (sLaw)) (defBody (sLaw)) (defScope (sLaw)) .none kVLa dcLa pmLa anLa (.ref cLa) ctLa), slLa⟩)
    (cLa_ : PySem.W.codeIn K (.ref cLa) "law" = true)
    (kLa : PySem.W.keepIn K (.ref fLa) = true)
    (qLa : K.lookup cLa = some ⟨koLa, kdLa, .fields vsLa, ksLa⟩)
    (vLa : (vsLa[11]? : Option Value) = some (.ref tLa))
    (dLa : PySem.W.codeHdIn K cLa tLa = true)
    (nLa : K.lookup tLa = none)
    (eLa : h.get? tLa = some { cls := .none, data := .fields #[] })
    (neDrOr : tDr ≠ tOr)
    (neDrRi : tDr ≠ tRi)
    (neDrLa : tDr ≠ tLa)
    (neOrRi : tOr ≠ tRi)
    (neOrLa : tOr ≠ tLa)
    (neRiLa : tRi ≠ tLa)
    (aC : PySem.W.nsIn K mainGlobals "Poly" = some (some (.ref C)))
    (aI0 : PySem.W.findIn K (.ref C) "__init__" = some (some (.ref fI0)))
    (lI0 : K.lookup fI0 = some ⟨ocI0, odI0, .func (PySem.W.fnOf "__init__" "Poly.__init__" (defArgs (cls 0)) (defBody (cls 0)) (defScope (cls 0)) (.ref T0) kVI0 dcI0 pmI0 anI0 cdI0 ctI0), slI0⟩)
    (cI0_ : PySem.W.codeIn K cdI0 "Poly.__init__" = true)
    (kI0 : PySem.W.keepIn K (.ref fI0) = true)
    (iI0 : PySem.W.isFn K (.ref fI0) = true)
    (lT : K.lookup T0 = some ⟨ocT, odT, .seq #[.ref t0] nT, slT⟩)
    (lt : K.lookup t0 = some ⟨.type "tuple", odt, .seq #[] nt, slt⟩)
    (aPa : PySem.W.findIn K (.ref C) "__add__" = some (some (.ref fPa)))
    (lPa : K.lookup fPa = some ⟨ocPa, odPa, .func (PySem.W.fnOf "__add__" "Poly.__add__" (defArgs (cls 6)) (defBody (cls 6)) (defScope (cls 6)) .none kVPa dcPa pmPa anPa cdPa ctPa), slPa⟩)
    (cPa_ : PySem.W.codeIn K cdPa "Poly.__add__" = true)
    (kPa : PySem.W.keepIn K (.ref fPa) = true)
    (iPa : PySem.W.isFn K (.ref fPa) = true)
    (jPa : PySem.W.fnIn K fPa = true)
    (aPm : PySem.W.findIn K (.ref C) "__mul__" = some (some (.ref fPm)))
    (lPm : K.lookup fPm = some ⟨ocPm, odPm, .func (PySem.W.fnOf "__mul__" "Poly.__mul__" (defArgs (cls 8)) (defBody (cls 8)) (defScope (cls 8)) .none kVPm dcPm pmPm anPm cdPm ctPm), slPm⟩)
    (cPm_ : PySem.W.codeIn K cdPm "Poly.__mul__" = true)
    (kPm : PySem.W.keepIn K (.ref fPm) = true)
    (iPm : PySem.W.isFn K (.ref fPm) = true)
    (jPm : PySem.W.fnIn K fPm = true)
    (aDv : PySem.W.findIn K (.ref C) "divided" = some (some (.ref fDv)))
    (lDv : K.lookup fDv = some ⟨ocDv, odDv, .func (PySem.W.fnOf "divided" "Poly.divided" (defArgs (cls 13)) (defBody (cls 13)) (defScope (cls 13)) .none kVDv dcDv pmDv anDv cdDv ctDv), slDv⟩)
    (cDv_ : PySem.W.codeIn K cdDv "Poly.divided" = true)
    (kDv : PySem.W.keepIn K (.ref fDv) = true)
    (iDv : PySem.W.isFn K (.ref fDv) = true)
    (jDv : PySem.W.fnIn K fDv = true)
    (aOv : PySem.W.findIn K (.ref C) "over" = some (some (.ref fOv)))
    (lOv : K.lookup fOv = some ⟨ocOv, odOv, .func (PySem.W.fnOf "over" "Poly.over" (defArgs (cls 14)) (defBody (cls 14)) (defScope (cls 14)) .none kVOv dcOv pmOv anOv cdOv ctOv), slOv⟩)
    (cOv_ : PySem.W.codeIn K cdOv "Poly.over" = true)
    (kOv : PySem.W.keepIn K (.ref fOv) = true)
    (iOv : PySem.W.isFn K (.ref fOv) = true)
    (jOv : PySem.W.fnIn K fOv = true)
    (aLn : PySem.W.findIn K (.ref C) "__len__" = some (some (.ref fLn)))
    (lLn : K.lookup fLn = some ⟨ocLn, odLn, .func (PySem.W.fnOf "__len__" "Poly.__len__" (defArgs (cls 16)) (defBody (cls 16)) (defScope (cls 16)) .none kVLn dcLn pmLn anLn cdLn ctLn), slLn⟩)
    (cLn_ : PySem.W.codeIn K cdLn "Poly.__len__" = true)
    (kLn : PySem.W.keepIn K (.ref fLn) = true)
    (iLn : PySem.W.isFn K (.ref fLn) = true)
    (jLn : PySem.W.fnIn K fLn = true)
    (aEq : PySem.W.findIn K (.ref C) "__eq__" = some (some (.ref fEq)))
    (lEq : K.lookup fEq = some ⟨ocEq, odEq, .func (PySem.W.fnOf "__eq__" "Poly.__eq__" (defArgs (cls 19)) (defBody (cls 19)) (defScope (cls 19)) .none kVEq dcEq pmEq anEq cdEq ctEq), slEq⟩)
    (cEq_ : PySem.W.codeIn K cdEq "Poly.__eq__" = true)
    (kEq : PySem.W.keepIn K (.ref fEq) = true)
    (iEq : PySem.W.isFn K (.ref fEq) = true)
    (jEq : PySem.W.fnIn K fEq = true)
    (aFa : PySem.W.findIn K (.ref C) "factors" = some (some (.ref pFa)))
    (gFa : PySem.W.specialIn K (.ref pFa) "__get__" = some (some (.builtin "property.__get__")))
    (tFa_ : PySem.W.takesIn K (.ref pFa) = some true)
    (rFa : PySem.W.recIn K pFa "property" = some (.ref fFa :: restFa))
    (lFa : K.lookup fFa = some ⟨ocFa, odFa, .func (PySem.W.fnOf "factors" "Poly.factors" (defArgs (cls 2)) (defBody (cls 2)) (defScope (cls 2)) .none kVFa dcFa pmFa anFa cdFa ctFa), slFa⟩)
    (cFa_ : PySem.W.codeIn K cdFa "Poly.factors" = true)
    (kFa : PySem.W.keepIn K (.ref fFa) = true)
    (aLe : PySem.W.findIn K (.ref C) "lead" = some (some (.ref pLe)))
    (gLe : PySem.W.specialIn K (.ref pLe) "__get__" = some (some (.builtin "property.__get__")))
    (tLe_ : PySem.W.takesIn K (.ref pLe) = some true)
    (rLe : PySem.W.recIn K pLe "property" = some (.ref fLe :: restLe))
    (lLe : K.lookup fLe = some ⟨ocLe, odLe, .func (PySem.W.fnOf "lead" "Poly.lead" (defArgs (cls 4)) (defBody (cls 4)) (defScope (cls 4)) .none kVLe dcLe pmLe anLe cdLe ctLe), slLe⟩)
    (cLe_ : PySem.W.codeIn K cdLe "Poly.lead" = true)
    (kLe : PySem.W.keepIn K (.ref fLe) = true)
    (pg : PySem.W.plainGet K C Str.empty = true)
    (hd : PySem.W.hasDictIn K C = true)
    (po : PySem.W.plainOver K C = true)
    (sa : PySem.W.findIn K (.ref C) "__setattr__" = some (some (.builtin "object.__setattr__")))
    (mk : PySem.W.makesIn K C = true)
    (kc : PySem.W.keepIn K (.ref C) = true)
    (noF : PySem.W.findIn K (.ref C) "_factors" = some none)
    (ha : PySem.W.findIn K (.ref C) "__class__" = some (some (.builtin "object.__class__")))
    (hn : PySem.W.specialIn K (.builtin "object.__class__") "__get__" = some (some (.builtin "getset_descriptor.__get__")))
    (htk : PySem.W.takesIn K (.builtin "object.__class__") = some true)
    (hm : PySem.W.mroIn K C (.type "object") = some true)
    (ci : PySem.W.isClsIn K C = true)
    (ct : PySem.W.typeIn K (.ref C) = some (.type "type"))
    (ne : PySem.W.findIn K (.ref C) "__ne__" = some (some (.builtin "object.__ne__")))
    (sf : PySem.W.selfFirst K C = true)
    (rA : PySem.W.findIn K (.ref C) "__radd__" = some none)
    (rM : PySem.W.findIn K (.ref C) "__rmul__" = some none)
    (siC : PySem.W.subIn K (.type "int") (.ref C) = some false)
    (snC : PySem.W.subIn K (.type "NoneType") (.ref C) = some false)
    (stC : PySem.W.subIn K (.type "tuple") (.ref C) = some false)
    (ssC : PySem.W.subIn K (.type "str") (.ref C) = some false)
    (sbC : PySem.W.subIn K (.type "bool") (.ref C) = some false)
    (z0 : PySem.W.nsIn K mainGlobals "isinstance" = some none)
    (z1 : PySem.W.nsIn K mainGlobals "int" = some none)
    (z2 : PySem.W.nsIn K mainGlobals "bool" = some none)
    (z3 : PySem.W.nsIn K mainGlobals "tuple" = some none)
    (z4 : PySem.W.nsIn K mainGlobals "list" = some none)
    (z5 : PySem.W.nsIn K mainGlobals "len" = some none)
    (z6 : PySem.W.nsIn K mainGlobals "all" = some none)
    (z7 : PySem.W.nsIn K mainGlobals "iter" = some none)
    (z8 : PySem.W.nsIn K mainGlobals "max" = some none)
    (z9 : PySem.W.nsIn K mainGlobals "min" = some none)
    (z10 : PySem.W.nsIn K mainGlobals "abs" = some none)
    (z11 : PySem.W.nsIn K mainGlobals "range" = some none)
    (z12 : PySem.W.nsIn K mainGlobals "repr" = some none)
    (z13 : PySem.W.nsIn K mainGlobals "enumerate" = some none)
    (z14 : PySem.W.nsIn K mainGlobals "zip" = some none)
    (vB : PySem.W.nsIn K mainGlobals "BOUND" = some (some (.int (10 ^ 60) tb)))
    (vM : PySem.W.nsIn K mainGlobals "MAX_FACTORS" = some (some (.int 400 tm)))
    (xCR : PySem.W.nsIn K mainGlobals "Refused" = some (some (.ref CRx)))
    (xLR : K.lookup CRx = some (excClassObj nmR qR CRx qRx bsR [.type "ArithmeticError", .type "Exception", .type "BaseException", .type "object"] true snR subR abR colR ddR m0R m1R m2R m3R m5R "ArithmeticError.__new__"))
    (xsaR : PySem.W.findIn K (.ref CRx) "__setattr__" = some (some (.builtin "object.__setattr__")))
    (xgaR : PySem.W.findIn K (.ref CRx) "__getattribute__" = some (some (.builtin "BaseException.__getattribute__")))
    (xggR : PySem.W.findIn K (.ref CRx) "__getattr__" = some none)
    (xnbR : PySem.W.findIn K (.ref CRx) "reason" = some none)
    (xaR : PySem.W.findIn K (.ref CRx) "__init__" = some (some (.ref fRx)))
    (xtR : PySem.W.typeIn K (.ref fRx) = some (.type "function"))
    (xlR : K.lookup fRx = some ⟨ocxR, odxR, .func (PySem.W.fnOf "__init__" "Refused.__init__" (PySem.XRefused.iA q1R q2R) (PySem.XRefused.iB q3R q4R q5R q6R) PySem.XRefused.iS .none .none dcxR pmxR anxR cdxR ctxR), slxR⟩)
    (xcR : PySem.W.codeIn K cdxR "Refused.__init__" = true)
    (xkR : PySem.W.keepIn K (.ref CRx) = true)
    (xeR : PySem.W.subIn K (.ref CRx) (.type "BaseException") = some true)
    (xTR : PySem.W.typeIn K (.ref CRx) = some (.type "type"))
    (xhR : PySem.W.hasDictIn K CRx = true)
    (xiR : PySem.W.isClsIn K CRx = true)
    (xsR : PySem.W.subIn K (.ref CRx) (.ref CRx) = some true)
    (xCO : PySem.W.nsIn K mainGlobals "InvalidOperation" = some (some (.ref COx)))
    (xkO : PySem.W.keepIn K (.ref COx) = true)
    (xqO : PySem.W.excIn K COx [.type "ValueError", .type "Exception", .type "BaseException", .type "object"] "ValueError.__new__" = true)
    (xeO : PySem.W.subIn K (.ref COx) (.type "BaseException") = some true)
    (xTO : PySem.W.typeIn K (.ref COx) = some (.type "type"))
    (xiO : PySem.W.isClsIn K COx = true)
    (xsO : PySem.W.subIn K (.ref COx) (.ref COx) = some true)
    (xCP : PySem.W.nsIn K mainGlobals "InvalidPoly" = some (some (.ref CPx)))
    (xkP : PySem.W.keepIn K (.ref CPx) = true)
    (xqP : PySem.W.excIn K CPx [.type "ValueError", .type "Exception", .type "BaseException", .type "object"] "ValueError.__new__" = true)
    (xeP : PySem.W.subIn K (.ref CPx) (.type "BaseException") = some true)
    (xTP : PySem.W.typeIn K (.ref CPx) = some (.type "type"))
    (xiP : PySem.W.isClsIn K CPx = true)
    (xsP : PySem.W.subIn K (.ref CPx) (.ref CPx) = some true)
    (nOR : PySem.W.subIn K (.ref COx) (.ref CRx) = some false)
    (nPR : PySem.W.subIn K (.ref CPx) (.ref CRx) = some false)
    (nPO : PySem.W.subIn K (.ref CPx) (.ref COx) = some false)
    : LawG l w K CX0 12 63 "_law_script" mg fa h := by
  have e := hfa.symm.trans (PySem.W.mg_of X G aLa)
  cases e
  have T : Txt K mg := ⟨PySem.W.mg_none_of X G z0, PySem.W.mg_none_of X G z1, PySem.W.mg_none_of X G z2, PySem.W.mg_none_of X G z3, PySem.W.mg_none_of X G z4, PySem.W.mg_none_of X G z5, PySem.W.mg_none_of X G z6, PySem.W.mg_none_of X G z7, ⟨tb, PySem.W.mg_of X G vB⟩, ⟨tm, PySem.W.mg_of X G vM⟩⟩
  have T2 : Txt2 mg := ⟨PySem.W.mg_none_of X G z8, PySem.W.mg_none_of X G z9, PySem.W.mg_none_of X G z10, PySem.W.mg_none_of X G z11, PySem.W.mg_none_of X G z12⟩
  have zEn := PySem.W.mg_none_of X G z13
  have zZi := PySem.W.mg_none_of X G z14
  have Cl : PC K mg C := { cl := ⟨pg, hd, po, sa⟩, noF := noF, g := PySem.W.mg_of X G aC, kp := kc, ha := ha, hn := hn, htk := htk, hm := hm, kit := kit_self, ne := ⟨ne, hm⟩ }
  have ER : PySem.XRefused.RefusedTxt K mg CRx fRx :=
    { gC := PySem.W.mg_of X G xCR, cls := ⟨nmR, qR, qRx, bsR, snR, subR, abR, colR, ddR, m0R, m1R, m2R, m3R, m5R, xLR⟩, sa := xsaR, ga := xgaR, gg := xggR, noN := xnbR, iC := xaR, tC := xtR, kC := xkR, exC := xeR, tyC := xTR, hdC := xhR, te := exm_one xeR xiR xTR xsR,
      fn := ⟨_, _, _, _, _, _, _, _, _, _, _, _, _, _, xlR, xcR⟩ }
  have FWh := fun_mk (st := sWhole) lWh cWh_ kWh
  have bWh := FWh.binds (ps := ["value"]) fun _ _ _ _ _ _ us hl => match us, hl with | [_], _ => rfl
  have gWh_ := PySem.W.mg_of X G aWh
  have FIn := fun_mk (st := sInteger) lIn cIn_ kIn
  have bIn := FIn.binds (ps := ["value"]) fun _ _ _ _ _ _ us hl => match us, hl with | [_], _ => rfl
  have gIn_ := PySem.W.mg_of X G aIn
  have FTr := fun_mk (st := sTrimmed) lTr cTr_ kTr
  have bTr := FTr.binds (ps := ["row"]) fun _ _ _ _ _ _ us hl => match us, hl with | [_], _ => rfl
  have gTr_ := PySem.W.mg_of X G aTr
  have FAd := fun_mk (st := sAdded) lAd cAd_ kAd
  have bAd := FAd.binds (ps := ["one", "other"]) fun _ _ _ _ _ _ us hl => match us, hl with | [_, _], _ => rfl
  have gAd_ := PySem.W.mg_of X G aAd
  have FNg := fun_mk (st := sNegated) lNg cNg_ kNg
  have bNg := FNg.binds (ps := ["row"]) fun _ _ _ _ _ _ us hl => match us, hl with | [_], _ => rfl
  have gNg_ := PySem.W.mg_of X G aNg
  have FMu := fun_mk (st := sMultiplied) lMu cMu_ kMu
  have bMu := FMu.binds (ps := ["one", "other"]) fun _ _ _ _ _ _ us hl => match us, hl with | [_, _], _ => rfl
  have gMu_ := PySem.W.mg_of X G aMu
  have FPo := fun_mk (st := sPolyOf) lPo cPo_ kPo
  have bPo := FPo.binds (ps := ["row"]) fun _ _ _ _ _ _ us hl => match us, hl with | [_], _ => rfl
  have gPo_ := PySem.W.mg_of X G aPo
  have FOp := fun_mk (st := sOperand) lOp cOp_ kOp
  have bOp := FOp.binds (ps := ["value"]) fun _ _ _ _ _ _ us hl => match us, hl with | [_], _ => rfl
  have gOp_ := PySem.W.mg_of X G aOp
  have FRp := fun_mk (st := sReqPoly) lRp cRp_ kRp
  have bRp := FRp.binds (ps := ["value"]) fun _ _ _ _ _ _ us hl => match us, hl with | [_], _ => rfl
  have gRp_ := PySem.W.mg_of X G aRp
  have FRd := fun_mk (st := sReqDiv) lRd cRd_ kRd
  have bRd := FRd.binds (ps := ["value"]) fun _ _ _ _ _ _ us hl => match us, hl with | [_], _ => rfl
  have gRd_ := PySem.W.mg_of X G aRd
  have FLg := fun_mk (st := sLongDiv) lLg cLg_ kLg
  have bLg := FLg.binds (ps := ["row", "other"]) fun _ _ _ _ _ _ us hl => match us, hl with | [_, _], _ => rfl
  have gLg_ := PySem.W.mg_of X G aLg
  have FDi := fun_mk (st := sDice) lDi cDi_ kDi
  have bDi := FDi.binds (ps := ["_law_script", "_law_spot"]) fun _ _ _ _ _ _ us hl => match us, hl with | [_, _], _ => rfl
  have gDi_ := PySem.W.mg_of X G aDi
  have FRo := fun_mk (st := sRoll) lRo cRo_ kRo
  have bRo := FRo.binds (ps := ["_law_dice_here", "_law_total"]) fun _ _ _ _ _ _ us hl => match us, hl with | [_, _], _ => rfl
  have gRo_ := PySem.W.mg_of X G aRo
  have FPi := fun_mk (st := sPick) lPi cPi_ kPi
  have bPi := FPi.binds (ps := ["_law_dice_here", "_law_items"]) fun _ _ _ _ _ _ us hl => match us, hl with | [_, _], _ => rfl
  have gPi_ := PySem.W.mg_of X G aPi
  have FLt := fun_mk (st := sLTrim) lLt cLt_ kLt
  have bLt := FLt.binds (ps := ["_law_factors_here"]) fun _ _ _ _ _ _ us hl => match us, hl with | [_], _ => rfl
  have gLt_ := PySem.W.mg_of X G aLt
  have FLm := fun_mk (st := sTimes) lLm cLm_ kLm
  have bLm := FLm.binds (ps := ["_law_one", "_law_other"]) fun _ _ _ _ _ _ us hl => match us, hl with | [_, _], _ => rfl
  have gLm_ := PySem.W.mg_of X G aLm
  have FLf := fun_mk (st := sFactors) lLf cLf_ kLf
  have bLf := FLf.binds (ps := ["_law_dice_here", "_law_most", "_law_size"]) fun _ _ _ _ _ _ us hl => match us, hl with | [_, _, _], _ => rfl
  have gLf_ := PySem.W.mg_of X G aLf
  have FSp := fun_mk (st := sSplit) lSp cSp_ kSp
  have bSp := FSp.binds (ps := ["_law_one", "_law_other"]) fun _ _ _ _ _ _ us hl => match us, hl with | [_, _], _ => rfl
  have gSp_ := PySem.W.mg_of X G aSp
  have FRe := fun_mk (st := sRefused) lRe cRe_ kRe
  have bRe := FRe.binds (ps := ["_law_call"]) fun _ _ _ _ _ _ us hl => match us, hl with | [_], _ => rfl
  have gRe_ := PySem.W.mg_of X G aRe
  have FDr := fun_mk (st := sDivR) lDr cDr_ kDr
  have bDr := FDr.binds (ps := ["_law_one", "_law_other"]) fun _ _ _ _ _ _ us hl => match us, hl with | [_, _], _ => rfl
  have gDr_ := PySem.W.mg_of X G aDr
  have FOr := fun_mk (st := sOverR) lOr cOr_ kOr
  have bOr := FOr.binds (ps := ["_law_one", "_law_other"]) fun _ _ _ _ _ _ us hl => match us, hl with | [_, _], _ => rfl
  have gOr_ := PySem.W.mg_of X G aOr
  have FRi := fun_mk (st := sRight) lRi cRi_ kRi
  have bRi := FRi.binds (ps := ["_law_dice_here"]) fun _ _ _ _ _ _ us hl => match us, hl with | [_], _ => rfl
  have gRi_ := PySem.W.mg_of X G aRi
  have FLa := fun_mk (st := sLaw) lLa cLa_ kLa
  have FPa := fun_mk (st := cls 6) lPa cPa_ kPa
  have bPa := FPa.binds (ps := ["self", "other"]) fun _ _ _ _ _ _ us hl => match us, hl with | [_, _], _ => rfl
  have FPm := fun_mk (st := cls 8) lPm cPm_ kPm
  have bPm := FPm.binds (ps := ["self", "other"]) fun _ _ _ _ _ _ us hl => match us, hl with | [_, _], _ => rfl
  have FDv := fun_mk (st := cls 13) lDv cDv_ kDv
  have bDv := FDv.binds (ps := ["self", "other"]) fun _ _ _ _ _ _ us hl => match us, hl with | [_, _], _ => rfl
  have FOv := fun_mk (st := cls 14) lOv cOv_ kOv
  have bOv := FOv.binds (ps := ["self", "other"]) fun _ _ _ _ _ _ us hl => match us, hl with | [_, _], _ => rfl
  have FLn := fun_mk (st := cls 16) lLn cLn_ kLn
  have bLn := FLn.binds (ps := ["self"]) fun _ _ _ _ _ _ us hl => match us, hl with | [_], _ => rfl
  have FEq := fun_mk (st := cls 19) lEq cEq_ kEq
  have bEq := FEq.binds (ps := ["self", "other"]) fun _ _ _ _ _ _ us hl => match us, hl with | [_, _], _ => rfl
  have FFa := fun_mk (st := cls 2) lFa cFa_ kFa
  have bFa := FFa.binds (ps := ["self"]) fun _ _ _ _ _ _ us hl => match us, hl with | [_], _ => rfl
  have FLe := fun_mk (st := cls 4) lLe cLe_ kLe
  have bLe := FLe.binds (ps := ["self"]) fun _ _ _ _ _ _ us hl => match us, hl with | [_], _ => rfl
  have FI : FnI K t0 fI0 (PySem.W.fnOf "__init__" "Poly.__init__" (defArgs (cls 0)) (defBody (cls 0)) (defScope (cls 0)) (.ref T0) kVI0 dcI0 pmI0 anI0 cdI0 ctI0) := ⟨⟨ocI0, odI0, .ref T0, kVI0, dcI0, pmI0, anI0, cdI0, ctI0, slI0, rfl, lI0, cI0_, .inr ⟨by simp, T0, _, [.ref t0], nT, rfl, lT, rfl, .cons rfl .nil⟩, .inl rfl⟩, kI0⟩
  obtain ⟨ds, hds, b0⟩ : ∃ ds, Vals ([V.ref t0].drop 0) ds ∧ Binds K (PySem.W.fnOf "__init__" "Poly.__init__" (defArgs (cls 0)) (defBody (cls 0)) (defScope (cls 0)) (.ref T0) kVI0 dcI0 pmI0 anI0 cdI0 ctI0) ["self", "factors"] ds := FI.binds1 1 0 (by simp) rfl fun T kV doc pm an cdv ct us its h1 h2 => match us, its, h1, h2 with | [_], [_], _, _ => ⟨_, rfl, rfl⟩
  have bI : Binds K (PySem.W.fnOf "__init__" "Poly.__init__" (defArgs (cls 0)) (defBody (cls 0)) (defScope (cls 0)) (.ref T0) kVI0 dcI0 pmI0 anI0 cdI0 ctI0) ["self", "factors"] [] := by
    obtain ⟨ds, h1, h2⟩ : ∃ ds, Vals ([V.ref t0].drop 1) ds ∧ Binds K (PySem.W.fnOf "__init__" "Poly.__init__" (defArgs (cls 0)) (defBody (cls 0)) (defScope (cls 0)) (.ref T0) kVI0 dcI0 pmI0 anI0 cdI0 ctI0) ["self", "factors"] ds := FI.binds1 2 1 (by simp) rfl fun T kV doc pm an cdv ct us its h1 h2 => match us, its, h1, h2 with | [_, _], [_], _, _ => ⟨_, rfl, rfl⟩
    cases h1
    exact h2
  have hT0 : ∀ H : Hp, SqT K H t0 [] := fun H => .inr ⟨_, #[], nt, lt, rfl, rfl, Nat.zero_le _, .nil⟩
  have AW : AtW K mg fWh _ := ⟨FWh, bWh, gWh_⟩
  have AI : AtI K mg fIn _ := ⟨FIn, bIn, gIn_⟩
  have AT : AtT K mg fTr _ := ⟨FTr, bTr, gTr_⟩
  have AR : AtR K mg fRo _ := ⟨FRo, bRo, gRo_⟩
  have AN : AtN K C t0 fI0 _ := ⟨FI, ⟨mk, aI0, iI0, kc⟩, bI⟩
  have PF : AtP K C "factors" "Poly.factors" 2 pFa fFa _ := ⟨FFa, bFa, ⟨aFa, gFa, tFa_, _, rFa⟩⟩
  have PL : AtP K C "lead" "Poly.lead" 4 pLe fLe _ := ⟨FLe, bLe, ⟨aLe, gLe, tLe_, _, rLe⟩⟩
  have LTr : At K mg "_law_trimmed" sLTrim ["_law_factors_here"] fLt _ := ⟨FLt, bLt, gLt_⟩
  have NO : OwnX K mg "InvalidOperation" COx := ⟨PySem.W.mg_of X G xCO, xkO, xqO, xeO, xTO, exm_one xeO xiO xTO xsO⟩
  have NP : OwnX K mg "InvalidPoly" CPx := ⟨PySem.W.mg_of X G xCP, xkP, xqP, xeP, xTP, exm_one xeP xiP xTP xsP⟩
  have Rf : Ref K mg CRx COx CPx := ⟨⟨fRe, _, ⟨FRe, bRe, gRe_⟩⟩, ⟨_, ER⟩, NO, NP, exm_one xeR xiR xTR nOR, exm_one xeR xiR xTR nPR, exm_one xeO xiO xTO nPO⟩
  have Ki : Kits K C := ⟨kit_not ci ct snC, kit_not ci ct siC, kit_not ci ct stC, kit_not ci ct ssC, kit_not ci ct sbC⟩
  refine ⟨PySem.W.fnOf "law" "law" (defArgs sLaw) (defBody sLaw) (defScope sLaw) .none kVLa dcLa pmLa anLa (.ref cLa) ctLa, [(cDr, tDr), (cOr, tOr), (cRi, tRi), (cLa, tLa)], spLaw K [(tDr, qDivR), (tOr, qOverR), (tRi, qRight), (tLa, qLaw)], ?_, ?_, ?_, fun s v => .of_eq rfl, ?_, fun base hKb hGb TB => ?_⟩
  · intro p hp
    simp only [List.mem_cons, List.not_mem_nil, or_false] at hp
    rcases hp with rfl | rfl | rfl | rfl
    · exact eDr
    · exact eOr
    · exact eRi
    · exact eLa
  · intro p hp
    simp only [List.mem_cons, List.not_mem_nil, or_false] at hp
    rcases hp with rfl | rfl | rfl | rfl
    · exact nDr
    · exact nOr
    · exact nRi
    · exact nLa
  · intro p hp
    simp only [List.mem_cons, List.not_mem_nil, or_false] at hp
    rcases hp with rfl | rfl | rfl | rfl
    · exact PySem.W.codeHd_of_K X dDr
    · exact PySem.W.codeHd_of_K X dOr
    · exact PySem.W.codeHd_of_K X dRi
    · exact PySem.W.codeHd_of_K X dLa
  · intro H a ns hl _ hH _ hS
    refine ⟨a, ns, rfl, hS, hl, fun p hp => ?_, fun _ => rfl⟩
    simp only [List.mem_cons, List.not_mem_nil, or_false] at hp
    rcases hp with rfl | rfl | rfl | rfl
    · exact TabS.nil (hH (cDr, tDr) (by simp))
    · exact TabS.nil (hH (cOr, tOr) (by simp))
    · exact TabS.nil (hH (cRi, tRi) (by simp))
    · exact TabS.nil (hH (cLa, tLa) (by simp))
  have TBDr := TB (cDr, tDr) (by simp)
  have TBOr := TB (cOr, tOr) (by simp)
  have TBRi := TB (cRi, tRi) (by simp)
  have TBLa := TB (cLa, tLa) (by simp)
  have huDr : ∀ p ∈ [(tDr, qDivR), (tOr, qOverR), (tRi, qRight), (tLa, qLaw)], p.1 = tDr → p.2 = qDivR := fun p hp e => by
    simp only [List.mem_cons, List.not_mem_nil, or_false] at hp
    rcases hp with rfl | rfl | rfl | rfl
    · rfl
    · exact absurd e.symm neDrOr
    · exact absurd e.symm neDrRi
    · exact absurd e.symm neDrLa
  have huOr : ∀ p ∈ [(tDr, qDivR), (tOr, qOverR), (tRi, qRight), (tLa, qLaw)], p.1 = tOr → p.2 = qOverR := fun p hp e => by
    simp only [List.mem_cons, List.not_mem_nil, or_false] at hp
    rcases hp with rfl | rfl | rfl | rfl
    · exact absurd e neDrOr
    · rfl
    · exact absurd e.symm neOrRi
    · exact absurd e.symm neOrLa
  have huRi : ∀ p ∈ [(tDr, qDivR), (tOr, qOverR), (tRi, qRight), (tLa, qLaw)], p.1 = tRi → p.2 = qRight := fun p hp e => by
    simp only [List.mem_cons, List.not_mem_nil, or_false] at hp
    rcases hp with rfl | rfl | rfl | rfl
    · exact absurd e neDrRi
    · exact absurd e neOrRi
    · rfl
    · exact absurd e.symm neRiLa
  have huLa : ∀ p ∈ [(tDr, qDivR), (tOr, qOverR), (tRi, qRight), (tLa, qLaw)], p.1 = tLa → p.2 = qLaw := fun p hp e => by
    simp only [List.mem_cons, List.not_mem_nil, or_false] at hp
    rcases hp with rfl | rfl | rfl | rfl
    · exact absurd e neDrLa
    · exact absurd e neOrLa
    · exact absurd e neRiLa
    · rfl
  have GC := ok_init (P := l.prog) (w := w) (base := base) FI T Cl AW AI AT
  have GTL := ok_trimmedL (P := l.prog) (w := w) (K := K) (mg := mg) (base := base) FTr T
  have GPL : FnOk l.prog w K mg base CX0 6 fPo _ ["row"] (spPolyOf K C (SqL K)) := ok_polyOf (P := l.prog) (w := w) (base := base) (Sq := SqL K) FPo T Cl AN b0 hds hT0 AT (fun H H' a xs e q => sqL_ext e q) GC GTL
  have O : Ops l.prog w K mg base C fOp fPo fAd fNg fMu _ _ _ _ _ := ⟨⟨FOp, bOp, gOp_⟩, ⟨FPo, bPo, gPo_⟩, ⟨FAd, bAd, gAd_⟩, ⟨FNg, bNg, gNg_⟩, ⟨FMu, bMu, gMu_⟩, ok_operand FOp T Cl AW PF (kit_not ci ct siC), GPL, ok_added FAd T zZi, ok_negated FNg, ok_multiplied FMu T zEn⟩
  have GT := ok_ltrim (P := l.prog) (w := w) (base := base) FLt T
  have MN : AtM K C "__len__" "Poly.__len__" 16 fLn _ := ⟨FLn, bLn, ⟨aLn, iLn, kLn⟩⟩
  have GQ : FnOk l.prog w K mg base (L2.CX l.prog w) 1 fRp _ ["value"] (spReqPoly K C CPx) := ok_reqPoly FRp T Cl NP
  have Dv : DivO l.prog w K mg base C CPx COx := {
    D := ⟨_, _, ⟨FRd, bRd, gRd_⟩, ok_reqDiv FRd T Cl NO MN ⟨FRp, bRp, gRp_⟩ GQ⟩
    L := ⟨_, _, _, PL, ok_lead FLe T Cl⟩
    F := ⟨_, _, _, PF, ok_factors FFa Cl⟩
    G := ⟨_, _, ⟨FLg, bLg, gLg_⟩, ok_longDiv FLg T zEn T2.range⟩
    O := ⟨_, _, ⟨FPo, bPo, gPo_⟩, GPL⟩ }
  have A : Has l.prog w K mg base C CPx COx CRx t0 := {
    add := ⟨_, _, ⟨sf, ⟨aPa, iPa, kPa⟩, rA⟩, ok_add FPa Cl O, bPa⟩
    mul := ⟨_, _, ⟨sf, ⟨aPm, iPm, kPm⟩, rM⟩, ok_mul FPm Cl O, bPm⟩
    eq := ⟨_, _, ⟨aEq, iEq, kEq⟩, jEq, ok_eq FEq T Cl, bEq⟩
    len := ⟨_, _, ⟨aLn, iLn, kLn⟩, jLn, ok_len FLn T Cl, bLn⟩
    fac := ⟨_, _, _, PF.p, ok_factors FFa Cl, bFa⟩
    ini := ⟨_, _, ds, AN.M, GC, bI, hds, b0⟩
    t0 := hT0
    divided := ⟨_, _, ⟨aDv, iDv, kDv⟩, jDv, ok_divided FDv Cl Dv ER, bDv⟩
    over := ⟨_, _, ⟨aOv, iOv, kOv⟩, jOv, ok_over FOv T Cl Dv ER AT, bOv⟩
    lsplit := ⟨_, _, gSp_, kSp, ok_split FSp T T2.max zEn T2.range LTr GT, bSp⟩ }
  have Lo : Looks1 l.prog w K mg base [(tDr, qDivR), (tOr, qOverR), (tRi, qRight), (tLa, qLaw)] := {
    roll := ⟨_, _, gRo_, kRo, ok_roll FRo T, bRo⟩
    pick := ⟨_, _, gPi_, kPi, ok_pick FPi T AR, bPi⟩
    factors := ⟨_, _, gLf_, kLf, ok_lfactors FLf T T2 AR, bLf⟩
    trim := ⟨_, _, gLt_, kLt, GT, bLt⟩
    times := ⟨_, _, gLm_, kLm, ok_times FLm T zEn T2.range LTr GT, bLm⟩
    divR := ⟨_, _, gDr_, kDr, ok_divR FDr rfl TBDr (by simp) huDr T Cl A Rf, bDr⟩
    overR := ⟨_, _, gOr_, kOr, ok_overR FOr rfl TBOr (by simp) huOr T Cl A Rf, bOr⟩ }
  have To : Top1 l.prog w K mg base [(tDr, qDivR), (tOr, qOverR), (tRi, qRight), (tLa, qLaw)] := {
    dice := ⟨_, _, gDi_, kDi, ok_dice FDi T T2, bDi⟩
    right := ⟨_, _, gRi_, kRi, ok_right FRi rfl TBRi (by simp) huRi T T2 Cl A Rf Lo Ki, bRi⟩ }
  exact ok_law FLa rfl TBLa (by simp) huLa T T2 Cl A Rf To
end K0

set_option Elab.async false
set_option maxRecDepth 100000
open PySem PySem.W PyProof.Rows in
set_option maxRecDepth 100000 in
set_option maxHeartbeats 0 in
theorem PySem.Challenge.cw_primekinds_k02_whole_divisions_holds : PySem.Challenge.rw_primekinds_k02_whole_divisions.Holds := by
  w_on; o_law; k_head; (case hw => w_witness2)
  k_fill
  refine Gd.walkGT (n := 63) (k := 12) (x := "_law_script") (CX := fun _ => L2.CX0) (l := PySem.Challenge.rw_primekinds_k02_whole_divisions) rfl (by decide) rfl ⟨rfl, by decide, by decide⟩ (fun w h Y => PySem.W.km_in_of Y) ?F (fun _ _ _ _ _ z => z)
  case F =>
    intro w mg fa h Y KX G hmg
    have hT8 := PySem.W.km_tabs_of Y
    refine' K0.all_mk KX G hmg ?aWh ?lWh ?cWh_ ?kWh ?aIn ?lIn ?cIn_ ?kIn ?aTr ?lTr ?cTr_ ?kTr ?aAd ?lAd ?cAd_ ?kAd ?aNg ?lNg ?cNg_ ?kNg ?aMu ?lMu ?cMu_ ?kMu ?aPo ?lPo ?cPo_ ?kPo ?aOp ?lOp ?cOp_ ?kOp ?aRp ?lRp ?cRp_ ?kRp ?aRd ?lRd ?cRd_ ?kRd ?aLg ?lLg ?cLg_ ?kLg ?aDi ?lDi ?cDi_ ?kDi ?aRo ?lRo ?cRo_ ?kRo ?aPi ?lPi ?cPi_ ?kPi ?aLt ?lLt ?cLt_ ?kLt ?aLm ?lLm ?cLm_ ?kLm ?aLf ?lLf ?cLf_ ?kLf ?aSp ?lSp ?cSp_ ?kSp ?aRe ?lRe ?cRe_ ?kRe ?aDr ?lDr ?cDr_ ?kDr ?qDr ?vDr ?dDr ?nDr ?eDr ?aOr ?lOr ?cOr_ ?kOr ?qOr ?vOr ?dOr ?nOr ?eOr ?aRi ?lRi ?cRi_ ?kRi ?qRi ?vRi ?dRi ?nRi ?eRi ?aLa ?lLa ?cLa_ ?kLa ?qLa ?vLa ?dLa ?nLa ?eLa ?neDrOr ?neDrRi ?neDrLa ?neOrRi ?neOrLa ?neRiLa ?aC ?aI0 ?lI0 ?cI0_ ?kI0 ?iI0 ?lT ?lt ?aPa ?lPa ?cPa_ ?kPa ?iPa ?jPa ?aPm ?lPm ?cPm_ ?kPm ?iPm ?jPm ?aDv ?lDv ?cDv_ ?kDv ?iDv ?jDv ?aOv ?lOv ?cOv_ ?kOv ?iOv ?jOv ?aLn ?lLn ?cLn_ ?kLn ?iLn ?jLn ?aEq ?lEq ?cEq_ ?kEq ?iEq ?jEq ?aFa ?gFa ?tFa_ ?rFa ?lFa ?cFa_ ?kFa ?aLe ?gLe ?tLe_ ?rLe ?lLe ?cLe_ ?kLe ?pg ?hd ?po ?sa ?mk ?kc ?noF ?ha ?hn ?htk ?hm ?ci ?ct ?ne ?sf ?rA ?rM ?siC ?snC ?stC ?ssC ?sbC ?z0 ?z1 ?z2 ?z3 ?z4 ?z5 ?z6 ?z7 ?z8 ?z9 ?z10 ?z11 ?z12 ?z13 ?z14 ?vB ?vM ?xCR ?xLR ?xsaR ?xgaR ?xggR ?xnbR ?xaR ?xtR ?xlR ?xcR ?xkR ?xeR ?xTR ?xhR ?xiR ?xsR ?xCO ?xkO ?xqO ?xeO ?xTO ?xiO ?xsO ?xCP ?xkP ?xqP ?xeP ?xTP ?xiP ?xsP ?nOR ?nPR ?nPO
    (case aWh => k_is)
    (case lWh => k_is)
    (case cWh_ => k_is)
    (case kWh => k_is)
    (case aIn => k_is)
    (case lIn => k_is)
    (case cIn_ => k_is)
    (case kIn => k_is)
    (case aTr => k_is)
    (case lTr => k_is)
    (case cTr_ => k_is)
    (case kTr => k_is)
    (case aAd => k_is)
    (case lAd => k_is)
    (case cAd_ => k_is)
    (case kAd => k_is)
    (case aNg => k_is)
    (case lNg => k_is)
    (case cNg_ => k_is)
    (case kNg => k_is)
    (case aMu => k_is)
    (case lMu => k_is)
    (case cMu_ => k_is)
    (case kMu => k_is)
    (case aPo => k_is)
    (case lPo => k_is)
    (case cPo_ => k_is)
    (case kPo => k_is)
    (case aOp => k_is)
    (case lOp => k_is)
    (case cOp_ => k_is)
    (case kOp => k_is)
    (case aRp => k_is)
    (case lRp => k_is)
    (case cRp_ => k_is)
    (case kRp => k_is)
    (case aRd => k_is)
    (case lRd => k_is)
    (case cRd_ => k_is)
    (case kRd => k_is)
    (case aLg => k_is)
    (case lLg => k_is)
    (case cLg_ => k_is)
    (case kLg => k_is)
    (case aDi => k_is)
    (case lDi => k_is)
    (case cDi_ => k_is)
    (case kDi => k_is)
    (case aRo => k_is)
    (case lRo => k_is)
    (case cRo_ => k_is)
    (case kRo => k_is)
    (case aPi => k_is)
    (case lPi => k_is)
    (case cPi_ => k_is)
    (case kPi => k_is)
    (case aLt => k_is)
    (case lLt => k_is)
    (case cLt_ => k_is)
    (case kLt => k_is)
    (case aLm => k_is)
    (case lLm => k_is)
    (case cLm_ => k_is)
    (case kLm => k_is)
    (case aLf => k_is)
    (case lLf => k_is)
    (case cLf_ => k_is)
    (case kLf => k_is)
    (case aSp => k_is)
    (case lSp => k_is)
    (case cSp_ => k_is)
    (case kSp => k_is)
    (case aRe => k_is)
    (case lRe => k_is)
    (case cRe_ => k_is)
    (case kRe => k_is)
    (case aDr => k_is)
    (case lDr => k_is)
    (case cDr_ => k_is)
    (case kDr => k_is)
    (case qDr => k_is)
    (case vDr => rfl)
    (case dDr => kernel_rfl)
    (case nDr => kernel_rfl)
    (case eDr => exact hT8 _ (by simp))
    (case aOr => k_is)
    (case lOr => k_is)
    (case cOr_ => k_is)
    (case kOr => k_is)
    (case qOr => k_is)
    (case vOr => rfl)
    (case dOr => kernel_rfl)
    (case nOr => kernel_rfl)
    (case eOr => exact hT8 _ (by simp))
    (case aRi => k_is)
    (case lRi => k_is)
    (case cRi_ => k_is)
    (case kRi => k_is)
    (case qRi => k_is)
    (case vRi => rfl)
    (case dRi => kernel_rfl)
    (case nRi => kernel_rfl)
    (case eRi => exact hT8 _ (by simp))
    (case aLa => k_is)
    (case lLa => k_is)
    (case cLa_ => k_is)
    (case kLa => k_is)
    (case qLa => k_is)
    (case vLa => rfl)
    (case dLa => kernel_rfl)
    (case nLa => kernel_rfl)
    (case eLa => exact hT8 _ (by simp))
    (case neDrOr => decide)
    (case neDrRi => decide)
    (case neDrLa => decide)
    (case neOrRi => decide)
    (case neOrLa => decide)
    (case neRiLa => decide)
    (case aC => k_is)
    (case aI0 => k_is)
    (case lI0 => k_is)
    (case cI0_ => k_is)
    (case kI0 => k_is)
    (case iI0 => k_is)
    (case lT => k_is)
    (case lt => k_is)
    (case aPa => k_is)
    (case lPa => k_is)
    (case cPa_ => k_is)
    (case kPa => k_is)
    (case iPa => k_is)
    (case jPa => k_is)
    (case aPm => k_is)
    (case lPm => k_is)
    (case cPm_ => k_is)
    (case kPm => k_is)
    (case iPm => k_is)
    (case jPm => k_is)
    (case aDv => k_is)
    (case lDv => k_is)
    (case cDv_ => k_is)
    (case kDv => k_is)
    (case iDv => k_is)
    (case jDv => k_is)
    (case aOv => k_is)
    (case lOv => k_is)
    (case cOv_ => k_is)
    (case kOv => k_is)
    (case iOv => k_is)
    (case jOv => k_is)
    (case aLn => k_is)
    (case lLn => k_is)
    (case cLn_ => k_is)
    (case kLn => k_is)
    (case iLn => k_is)
    (case jLn => k_is)
    (case aEq => k_is)
    (case lEq => k_is)
    (case cEq_ => k_is)
    (case kEq => k_is)
    (case iEq => k_is)
    (case jEq => k_is)
    (case aFa => k_is)
    (case gFa => k_is)
    (case tFa_ => k_is)
    (case rFa => k_is)
    (case lFa => k_is)
    (case cFa_ => k_is)
    (case kFa => k_is)
    (case aLe => k_is)
    (case gLe => k_is)
    (case tLe_ => k_is)
    (case rLe => k_is)
    (case lLe => k_is)
    (case cLe_ => k_is)
    (case kLe => k_is)
    (case pg => k_is)
    (case hd => k_is)
    (case po => k_is)
    (case sa => k_is)
    (case mk => k_is)
    (case kc => k_is)
    (case noF => k_is)
    (case ha => k_is)
    (case hn => k_is)
    (case htk => k_is)
    (case hm => k_is)
    (case ci => k_is)
    (case ct => k_is)
    (case ne => k_is)
    (case sf => k_is)
    (case rA => k_is)
    (case rM => k_is)
    (case siC => k_is)
    (case snC => k_is)
    (case stC => k_is)
    (case ssC => k_is)
    (case sbC => k_is)
    (case z0 => k_is)
    (case z1 => k_is)
    (case z2 => k_is)
    (case z3 => k_is)
    (case z4 => k_is)
    (case z5 => k_is)
    (case z6 => k_is)
    (case z7 => k_is)
    (case z8 => k_is)
    (case z9 => k_is)
    (case z10 => k_is)
    (case z11 => k_is)
    (case z12 => k_is)
    (case z13 => k_is)
    (case z14 => k_is)
    (case vB => k_is)
    (case vM => k_is)
    (case xCR => k_is)
    (case xLR => k_is)
    (case xsaR => k_is)
    (case xgaR => k_is)
    (case xggR => k_is)
    (case xnbR => k_is)
    (case xaR => k_is)
    (case xtR => k_is)
    (case xlR => k_is)
    (case xcR => k_is)
    (case xkR => k_is)
    (case xeR => k_is)
    (case xTR => k_is)
    (case xhR => k_is)
    (case xiR => k_is)
    (case xsR => k_is)
    (case xCO => k_is)
    (case xkO => k_is)
    (case xqO => first | k_exc | k_is | kernel_rfl)
    (case xeO => k_is)
    (case xTO => k_is)
    (case xiO => k_is)
    (case xsO => k_is)
    (case xCP => k_is)
    (case xkP => k_is)
    (case xqP => first | k_exc | k_is | kernel_rfl)
    (case xeP => k_is)
    (case xTP => k_is)
    (case xiP => k_is)
    (case xsP => k_is)
    (case nOR => k_is)
    (case nPR => k_is)
    (case nPO => k_is)
