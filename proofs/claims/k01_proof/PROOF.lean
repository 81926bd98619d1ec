import PyProof.Rows.All
import Wide.All
import OpenK.AllK
import Wide.FinOn
import HandS.ForMost
import HandS.ForExc
import KE.KExcInit
import HandS.IsInst
import HandS.IterNext
import HandS.OwnIter
import KE.KOwnIter
import PyProof.Rows.Range3
import PyProof.Conv_bool
import HandS.TupMul
import HandS.TupAny
import KE.GoesMore
import KE.GoesEnum
import KE.GoesZip
import HandS.Walk
import HandS.Style
import PyProof.FactsInt
import PyProof.FactsInt2
import PyProof.Rows.FactsB_mul
import KE.KCallOwn
import HandS.Wide
import HandS.Property
import HandS.TryMany
import HandS.Lambda
import HandS.EndBits
import HandS.EndTab
import PySem.Challenge.RW_primekinds_k01_whole_sums_and_products
import HandS.Defaults
import HandS.RaiseMore
import PyProof.ReprLen
import HandS.TryOnly
import KE.KNestM
set_option Elab.async false
set_option linter.all false
set_option maxRecDepth 100000
set_option maxHeartbeats 4000000
/-! Promises of defs that are called where no container is being shown (the guards of the stack are known to be empty): repr of containers needs this. -/
namespace Gd
open PySem PySem.Spec PyProof.Rows L2

/-- no container is being shown -/
abbrev NoG (A : Around) : Prop := A.guards = some []

/-- the promise of a def, kept wherever no container is being shown -/
structure FnG (P : Program) (w : World) (K : PySem.W.Frag) (mg : Str → Option Value) (base : Heap) (CX : CXT) (k : Nat)
    (f : Addr) (fd : FuncData) (ps : List Str) (sp : Sp) : Prop where
  many : ∀ vs H Q E, sp vs H Q E → vs.length = ps.length
  go : ∀ (A : Around) (out : List Env) (s : Shared) (H : Hp) (ar : Args) (us : List Value) (vs : List V) (Q : VK) (E : XK),
    NoG A → Room k A → Env0 P w K mg base A out s H → BindsTo s fd ar (ps.zip us) → Vals vs us → sp vs H Q E →
      codeAny (model P w) A (.call (.ref f) ar) (CR CX out P w H s Q E) s

section
variable {P : Program} {w : World} {K : PySem.W.Frag} {mg : Str → Option Value} {base : Heap} {CX : CXT} {k : Nat}
  {f : Addr} {fd : FuncData} {ps : List Str} {sp : Sp}
theorem FnG.of (F : FnOk P w K mg base CX k f fd ps sp) : FnG P w K mg base CX k f fd ps sp :=
  ⟨F.len, fun A out s H ar us vs Q E _ => F.run A out s H ar us vs Q E⟩

/-- a def by its body, where no container is being shown -/
theorem fnG {x qual : Str} {st : Stmt} {N : List Str} (F : Fun K x qual st f fd) (S : FnScope N ps (defScope st))
    (many : ∀ vs H Q E, sp vs H Q E → vs.length = ps.length)
    (body : ∀ (cdv : Value) (A : Around) (out : List Env) (s : Shared) (H : Hp) (vs : List V) (Q : VK) (E : XK),
      NoG A → Room k (A.deeper (envOfC qual (defScope st) s.heap.objs.size f cdv)) → sp vs H Q E →
      ∃ t, PSs (cxOf CX P w K mg base N qual (defScope st) f cdv A out s H E) (defBody st) t ∧
        t { nx := fun _ H' => Q .non H', rt := Q } (start N vs) H) :
    FnG P w K mg base CX (k + 1) f fd ps sp := by
  obtain ⟨oc, od, kV, doc, pm, an, cdv, ct, osl, rfl, lk, hcd⟩ := F.ex
  refine ⟨many, ?_⟩
  intro A out s H ar us vs Q E hg hr e0 hb r hsp
  have hl := many vs H Q E hsp
  have KX : K.In s.heap := e0.mod.kin.keeps (fun b o e => (e0.bs b o e).1)
  have lim : s.heap.NoLimit := e0.mod.nolimit.keeps (fun b o e => (e0.bs b o e).1)
  have kinds : ∀ y ∈ ps.zip us, (defScope st).names.lookup y.1 = some .local ∨
      ((defScope st).names.lookup y.1 = some .cell ∧ ((cellsFrom (s.heap.objs.size + 1) (defScope st).names []).lookup y.1).isSome = true) := by
    rintro ⟨n, v⟩ hy
    rcases S.par n (List.of_mem_zip hy).1 with q | q
    · exact Or.inl q
    · exact Or.inr ⟨q, PySem.W.cellsFrom_some _ _ _ (Or.inl q)⟩
  refine codeAny_call_function hr.depth (KX _ _ lk) rfl S.co S.gen rfl
    (PySem.W.codeRec_of KX hcd) (hb _ _ _ _ ?_)
  refine wpAny_newFunctionEnv_cells S.kind kinds ?_
  intro env he s1 x
  cases he
  refine ⟨lim.keeps x.toInCall.keep, codeAny_func ?_⟩
  obtain ⟨t, ht, hq⟩ := body cdv A out s H vs Q E hg (hr.deeper _) hsp
  have I := inv_start (CX := CX) (E := E) S hr.hd e0 hl r x
  refine wpAny_mono (ht.run [] s1 (start N vs) H _ I hq) ?_ (fun e s' hs => hs)
  intro fl s' hs
  have fin : ∀ {σ' : L2.St} {H' : Hp} {v : V} {u : Value},
      Inv (cxOf CX P w K mg base N qual (defScope st) f cdv A out s H E) [] σ' H' s' →
      RelV v u → Q v H' → CE out P w H s Q u s' := by
    intro σ' H' v u J rv q
    exact ⟨v, H', J.os, J.bare, J.base, J.hok, rv, q⟩
  cases fl with
  | ret u =>
    obtain ⟨v, σ', H', J, rv, q⟩ := hs
    exact fin J rv q
  | next =>
    obtain ⟨σ', H', J, q⟩ := hs
    exact fin (v := V.non) (u := Value.none) J rfl q
  | brk =>
    obtain ⟨σ', H', J, q⟩ := hs
    exact False.elim q
  | cont =>
    obtain ⟨σ', H', J, q⟩ := hs
    exact False.elim q
end

section
variable {X : Cx} {CX : CXT} {k : Nat} {f C : Addr} {fd : FuncData} {ps : List Str} {sp : Sp} {dvs : List V} {ds : List Value} {E : XK}
  {x : Str} {p pos : Pos} {e : Expr} {es : List Expr} {t : TA}
/-- the call of such a def -/
theorem goG {pins : List (Addr × Obj)} {σ : L2.St} {H : Hp} {s : Shared} {Q : VK} {us : List Value} {vs : List V}
    (hg : NoG X.A) (F : FnG X.prog X.w X.K X.mg X.base CX k f fd ps sp) (hr : Room k X.A) (hb : Binds X.K fd ps ds)
    (hd : Vals dvs ds) (hx : Passes CX X E) (I : Inv X pins σ H s) (r : Vals vs us) (h : sp (vs ++ dvs) H Q E) :
    wpAny (model X.prog X.w) X.A (call (.ref f) us) (EP X pins σ Q) X.xe s := by
  have r2 := Vals.append r hd
  have hl : (us ++ ds).length = ps.length := by
    rw [← r2.length]
    exact F.many _ H Q E h
  have run := F.go X.A X.stack s H ⟨us, []⟩ (us ++ ds) _ Q E hg hr I.env0 (hb s us I.kIn hl) r2 h
  refine wpAny_call (codeAny_mono run ?_)
  intro r s' hq
  match r, hq with
  | .error e, hq => exact hx pins σ H s e s' I hq
  | .ok (.ret u), hq => exact I.after hq
  | .ok .next, hq => exact False.elim hq
  | .ok .brk, hq => exact False.elim hq
  | .ok .cont, hq => exact False.elim hq

theorem pe_callG (hg : NoG X.A) (F : FnG X.prog X.w X.K X.mg X.base CX k f fd ps sp) (hr : Room k X.A) (hgl : Gl X x)
    (hm : X.mg x = some (.ref f)) (hk : PySem.W.keepIn X.K (.ref f) = true) (hb : Binds X.K fd ps ds) (hd : Vals dvs ds)
    (hx : Passes CX X E) (ha : PA X (e :: es) t) (hdb : (x == ("__debug__" : Str)) = false := by decide)
    (he : starEach (e :: es) X.env = (false, eval e X.env) :: starEach es X.env := by rfl)
    (hpl : (backTo pos (starEach es X.env)).any (·.1) = false := by rfl) :
    PE X (.Call (.Name x p) (e :: es) [] pos) (tCall sp dvs E t) := by
  constructor
  intro pins s σ H Q I h
  refine wpAny_Call_Name_kw (ld_glob I hgl hm ?_ hdb)
  have go := thn (ha.run pos pins s σ H _ I h) (fun us s1 ⟨vs, H1, I1, r, q⟩ =>
    (⟨I1.kIn, goG hg F hr hb hd hx I1 r q⟩ : X.K.In s1.heap ∧ wpAny (model X.prog X.w) X.A (call (.ref f) us) (EP X pins σ Q) X.xe s1))
  exact PySem.W.callWith_K (h₀ := X.base) I.ok.mod.kin hk go he hpl
end

section
variable {P : Program} {w : World} {K : PySem.W.Frag} {mg mb : Str → Option Value} {CX : CXT} {k : Nat} {fa a : Addr}
  {fd : FuncData} {x : Str} {sp : Sp} {s₁ : Shared} {vs : List Value} {ns : List Int}
/-- the call of the law, from a heap H of which nothing but the script is tracked -/
theorem coreG (KX : K.In s₁.heap) (hns : s₁.heap.Ns mainGlobals mg) (hb : s₁.heap.Ns builtinsNs mb)
    (hbb : ∀ x : Str, x ≠ "__name__" → mb x = bootBuiltins x) (hlim : s₁.heap.NoLimit) (hg : s₁.gens = #[])
    (ha : s₁.heap.get? a = some { cls := .type "list", data := .seq vs.toArray }) (hr : Room k callerA)
    (F : ∀ base : Heap, K.In base → base.Ns mainGlobals mg → FnG P w K mg base CX k fa fd [x] sp)
    (hbind : ∀ (s : Shared) (u : Value), BindsTo s fd ⟨[u], []⟩ [(x, u)])
    (hCX : ∀ H e s', CX [] H s₁ (fun _ _ _ => False) e s' → False)
    (H : Hp) (hO : Only H) (hsp : sp [.ref a] H (fun v _ => v = .bl true) fun _ _ _ => False)
    (hok : HOk P w H s₁.heap) (hA : ∀ b, H b ≠ none → b = a) (hK : H a ≠ none → K.lookup a = none) :
    codeAny (model P w) callerA (.call (.ref fa) ⟨[.ref a], []⟩)
      (fun r s' => r = .ok (.ret (.bool true)) ∧ OldK s₁.heap s'.heap ∧ s'.os = s₁.os ∧ AllBare s'.gens) s₁ := by
  have at_a : ∀ {b : Addr}, H b ≠ none → b = a := fun {b} z => hA b z
  have keepB : ∀ {b : Addr} {o : Obj}, s₁.heap.get? b = some o → H b = none → (hidT s₁.heap H).get? b = some o := by
    intro b o e n
    exact hidT_get e n
  have noDict : ∀ {b : Addr} {o : Obj} {es : Array DictEntry} {ep : Nat},
      s₁.heap.get? b = some o → o.data = .dict es ep → H b = none := by
    intro b o es ep e d
    cases q : H b with
    | none => rfl
    | some u =>
      obtain rfl : b = a := at_a (by rw [q]; simp)
      rw [ha] at e
      cases e
      cases d
  have nsOf : ∀ {b : Addr} {m : Str → Option Value}, s₁.heap.Ns b m → (hidT s₁.heap H).Ns b m := by
    rintro b m ⟨o, es, ep, e, d, r⟩
    exact ⟨o, es, ep, keepB e (noDict e d), d, r⟩
  have inB : K.In (hidT s₁.heap H) := by
    intro b o e
    refine keepB (KX b o e) ?_
    cases q : H b with
    | none => rfl
    | some u =>
      obtain rfl : b = a := at_a (by rw [q]; simp)
      rw [hK (by rw [q]; simp)] at e
      cases e
  obtain ⟨mc, l1, l2⟩ := hlim
  have hM : Mod K mg (hidT s₁.heap H) := ⟨inB, nsOf hns, ⟨mb, nsOf hb, hbb⟩, ⟨mc, nsOf l1, l2⟩⟩
  have e0 : Env0 P w K mg (hidT s₁.heap H) callerA [] s₁ H := by
    refine ⟨rfl, hM, ?_, Nat.le_of_eq (hidT_size _ _), trivial, ?_, hok, .of_eq hg⟩
    · intro b o e
      exact of_hidT e
    · intro b z
      exact absurd (show b ∈ ([] : List Addr) from z) (by simp)
  have run := (F _ inB (nsOf hns)).go callerA [] s₁ H ⟨[.ref a], []⟩ [.ref a] [.ref a] _ _ rfl hr e0 (hbind s₁ (.ref a)) (.cons rfl .nil) hsp
  refine codeAny_mono run ?_
  intro r s' h
  match r, h with
  | .error e, h => exact (hCX H e s' h).elim
  | .ok .next, h => exact False.elim h
  | .ok .brk, h => exact False.elim h
  | .ok .cont, h => exact False.elim h
  | .ok (.ret u), h =>
    obtain ⟨v, H', os, bare, un, hok', rv, q⟩ := h
    obtain rfl : v = .bl true := q
    obtain rfl : u = Value.bool true := rv
    refine ⟨rfl, OldK.of_keep ?_, os, bare⟩
    intro b o e
    cases q : H b with
    | none => exact un.keep b o e q (fun z => absurd (show b ∈ ([] : List Addr) from z) (by simp)) (by simp)
    | some u =>
      rcases hO b with z | ⟨ob, xs, z⟩
      · rw [q] at z
        cases z
      · obtain ⟨e1, _⟩ := hok b _ z
        obtain ⟨e2, _⟩ := hok' b _ (un.frzs b ob _ z)
        rw [e] at e1
        cases e1
        exact e2

theorem law_callG (KX : K.In s₁.heap) (hns : s₁.heap.Ns mainGlobals mg) (hb : s₁.heap.Ns builtinsNs mb)
    (hbb : ∀ x : Str, x ≠ "__name__" → mb x = bootBuiltins x) (hlim : s₁.heap.NoLimit) (hg : s₁.gens = #[])
    (ha : s₁.heap.get? a = some { cls := .type "list", data := .seq vs.toArray }) (hi : IntsAre vs ns) (hl : ns.length ≤ sizeLine)
    (hr : Room k callerA) (F : ∀ base : Heap, K.In base → base.Ns mainGlobals mg → FnG P w K mg base CX k fa fd [x] sp)
    (hbind : ∀ (s : Shared) (u : Value), BindsTo s fd ⟨[u], []⟩ [(x, u)])
    (hsp : ∀ H : Hp, Only H → SqL K H a (ns.map V.int) → sp [.ref a] H (fun v _ => v = .bl true) fun _ _ _ => False)
    (hCX : ∀ H e s', CX [] H s₁ (fun _ _ _ => False) e s' → False) :
    codeAny (model P w) callerA (.call (.ref fa) ⟨[.ref a], []⟩)
      (fun r s' => r = .ok (.ret (.bool true)) ∧ OldK s₁.heap s'.heap ∧ s'.os = s₁.os ∧ AllBare s'.gens) s₁ := by
  have rv := vals_ints hi
  have lenV := hi.length
  cases hk : K.lookup a with
  | some o =>
    have e := KX a o hk
    rw [ha] at e
    cases e
    have none' : ∀ b : Addr, (fun _ : Addr => (none : Option HO)) b = none := fun _ => rfl
    refine coreG KX hns hb hbb hlim hg ha hr F hbind hCX (fun _ => none) (fun _ => .inl rfl) (hsp _ (fun _ => .inl rfl) ?_) ?_ (fun b z => absurd (none' b) z) (fun z => absurd (none' a) z)
    · exact .inr ⟨_, vs.toArray, _, hk, rfl, rfl, rfl, by rw [List.size_toArray, lenV]; exact hl, by simpa using rv⟩
    · intro b u z
      cases z
  | none =>
    have hpos : ∀ b, (fun b => if b = a then some (HO.frz { cls := .type "list", data := .seq vs.toArray } (.lst (ns.map V.int))) else none) b ≠ none → b = a := by
      intro b z
      by_cases q : b = a
      · exact q
      · exact absurd (if_neg q) z
    have hO : Only (fun b => if b = a then some (HO.frz { cls := .type "list", data := .seq vs.toArray } (.lst (ns.map V.int))) else none) := by
      intro b
      by_cases q : b = a
      · exact .inr ⟨_, _, if_pos q⟩
      · exact .inl (if_neg q)
    refine coreG KX hns hb hbb hlim hg ha hr F hbind hCX _ hO (hsp _ hO ?_) ?_ hpos (fun _ => hk)
    · exact .inl (.inr ⟨{ cls := .type "list", data := .seq vs.toArray }, if_pos rfl⟩)
    · intro b u z
      have q : b = a := hpos b (by rw [z]; simp)
      subst q
      have z' := (if_pos rfl).symm.trans z
      cases z'
      exact ⟨ha, by rw [List.length_map]; exact hl, vs, _, rv, ha⟩
end

/-- the end of a law -/
theorem walkG {l : PySem.W.OpenLaw} {n k : Nat} {q : Program} {loose : List Str} {XP : (Str → Option Value) → Heap → Prop} {YP : World → Heap → Prop} {d : DefRec} {K : Params → PySem.W.Frag} {CX : World → CXT} {sp : World → Sp} {x : Str}
    (hn : l.most = some n) (hn2 : n ≤ sizeLine) (hdf : d.params.defaults = []) (hr : Room k callerA)
    (hY : ∀ (w : World) (h : Heap), YP w h → (K w.params).In h)
    (F : ∀ (w : World) (mg : Str → Option Value) (fa : Addr) (h : Heap), (K w.params).In h → h.Ns mainGlobals mg → mg d.name = some (.ref fa) →
      ∃ fd : FuncData, (∀ (s : Shared) (u : Value), BindsTo s fd ⟨[u], []⟩ [(x, u)]) ∧
        ∀ base : Heap, (K w.params).In base → base.Ns mainGlobals mg → FnG l.prog w (K w.params) mg base (CX w) k fa fd [x] (sp w))
    (hsp : ∀ (w : World) (H : Hp) (a : Addr) (ns : List Int), ns.length ≤ n → Only H → SqL (K w.params) H a (ns.map V.int) → sp w [.ref a] H (fun v _ => v = .bl true) fun _ _ _ => False)
    (hCX : ∀ (w : World) (H : Hp) (s : Shared) (e : Value) (s' : Shared), CX w [] H s (fun _ _ _ => False) e s' → False) :
    PySem.W.WalkO q loose XP YP l.row.toRowW d [] (fun f vs => PySem.call f vs) := by
  refine Att.attach_call hn hdf ?_
  intro w s₀ s₁ mg mb fa o pm cd doc a vs ns G Y ho hd hcd hmg hobj hints hlen hg
  obtain ⟨fd, hb, hF⟩ := F w mg fa _ (hY w _ Y) G.T.g hmg
  exact law_callG (hY w _ Y) G.T.g G.T.b G.T.builtins G.T.nolimit hg hobj hints (Nat.le_trans hlen hn2) hr hF hb (fun H hO hS => hsp w H a ns hlen hO hS) fun H e s' => hCX w H s₁ e s'
end Gd

set_option Elab.async false
set_option linter.all false
set_option maxRecDepth 100000
set_option maxHeartbeats 4000000
/-! The first field of an exception of an own class that stands directly below a builtin one. -/
namespace GdX
open PySem PySem.Calls PyProof.Rows PySem.HandSPX Builtin Builtin.ObjectAttr
section
variable {prog : Program} {w : World} {A : Around} {R : Result → Shared → Prop} {hp : Heap} {g : Array GenState} {d : Drawn} {t : Nat} {os : OsState}
theorem osaG {B : String} {bmB : List Value} (SF : StoreFacts B bmB "object.__setattr__" "object") {K : W.Frag} {name : Str} {tk : Tok} {v : Value} {x C : Addr} {fv : Array Value} {cd : ClassData}
    (X : K.In hp) (hx : hp.get? x = some { cls := .ref C, data := .fields fv }) (hcd : W.clsIn K C = some cd)
    (hm : cd.mro = .ref C :: bmB) (hh : cd.hasDict = true) (ha : W.findIn K (.ref C) name = some none)
    (hq : ∀ h' tk' dx, (∀ b o, b ≠ x → hp.get? b = some o → h'.get? b = some o) → hp.objs.size ≤ dx → dx ≠ x →
      h'.get? x = some { cls := .ref C, dict := some dx, data := .fields fv } →
      h'.Ns1 dx (fun y => if y = name then some v else none) → R (.ok (.ret .none)) ⟨h', g, d, tk', os⟩) :
    codeAny (model prog w) A (.call (.builtin "object.__setattr__") ⟨[.ref x, .str name tk, v], []⟩) R ⟨hp, g, d, t, os⟩ := by
  have I : W.InstAt hp x { cls := .ref C, data := .fields fv } C none := ⟨hx, rfl, rfl, trivial⟩
  have ne : cd.mro.isEmpty = false := by rw [hm]; rfl
  have hob : cd.mro.contains (.type "object") = true := by
    rw [hm, List.contains_cons, SF.hasOwner, Bool.or_true]
  have hxs : x ≠ hp.objs.size := Nat.ne_of_lt (Heap.lt_size hx)
  have sub : W.Looks (model prog w) hp (isInstance (.ref x) (.type "object")) true := by
    refine I.type.andThen (W.looks_mroIn X ?_)
    unfold W.mroIn
    rw [hcd, Option.bind_some, if_neg (by rw [ne]; decide), hob]
  refine codeAny_call_builtin SF.slot.plain SF.entry (@W.check_slot (model prog w) _ _ ⟨hp, g, d, t, os⟩ "object.__setattr__" "object" "__setattr__" (.ref x) [.str name tk, v] [] _
    SF.kind SF.split sub (SF.args (.ref x) (.str name tk) v) ?_)
  have hmr : W.Looks (model prog w) hp (mroOf (.ref C)) cd.mro := (W.looks_clsIn X hcd).andThen .now
  have L3 : W.Looks (model prog w) hp (storeTaker? none) none := .now
  have hcls : W.Looks (model prog w) hp (classData C) cd := W.looks_clsIn X hcd
  rw [W.osa_eq, refuse_eq]
  refine wpAny_bind (wpAny_bind (I.type.at (wpAny_bind (hmr.at ?_))))
  rw [hm, refuseLoop_ref, SF.passes]
  refine wpAny_pure (wpAny_bind (I.type.at (wpAny_bind ((W.looks_findIn X ha).at (wpAny_bind (L3.at ?_))))))
  show wpAny _ _ (storeInOwnDict (.ref x) (.ref C) (.str name tk) name v false) _ _ _
  clear hmr hob ne sub hm
  obtain ⟨nm, bs, mro, ns, qn, hd, sn, sb, ab, col, del⟩ := cd
  have hh' : hd = true := hh
  subst hh'
  unfold storeInOwnDict ownDictForStores
  repeat (first
    | with_reducible refine store_in_new ?_ ?_
    | with_reducible refine wpAny_loadPart_at hx ?_
    | with_reducible refine hcls.at ?_
    | wp_step)
  · exact ⟨_, #[], _, (Heap.get?_update_ne _ _ _ _ hxs.symm).trans (Heap.get?_push_at rfl rfl), rfl, fun e he => absurd he (by simp), fun _ => rfl⟩
  · intro h' tk' hn' hs
    have hx₁ : (hp.push { cls := .type "dict", data := .dict #[] }).get? x = some { cls := .ref C, data := .fields fv } := Heap.get?_push_of_some _ hx
    refine hq h' tk' hp.objs.size (fun b o hb ho => ?_) (Nat.le_refl _) hxs.symm ?_ hn'
    · have far : b ≠ hp.objs.size := Nat.ne_of_lt (Heap.lt_size ho)
      exact (hs.2 b far).trans ((Heap.get?_update_ne _ _ _ _ hb).trans (Heap.get?_push_of_some _ ho))
    · exact (hs.2 x hxs).trans (Heap.get?_update_self _ hx₁ rfl)
end
end GdX

set_option Elab.async false
set_option linter.all false
set_option maxRecDepth 100000
set_option maxHeartbeats 4000000
namespace PySem
namespace XInvalidNumber
open PySem.W PySem.Calls PyProof.Rows PySem.HandSPX
/-! ### the text of __init__ -/
def iA (p1 p2 : Pos) : Arguments := { posonlyargs := [], args := [{ arg := "self", annotation := none, pos := p1 }, { arg := "value", annotation := none, pos := p2 }], vararg := none, kwonlyargs := [], kw_defaults := [], kwarg := none, defaults := [] }
def iB (q1 q2 q3 q4 : Pos) : List Stmt := [.Assign [.Attribute (.Name "self" q1) "value" q2] (.Name "value" q3) q4]
def iS : Scope := { kind := .function, names := [(PySem.Str.ofString "self", .local), (PySem.Str.ofString "value", .local)], isGenerator := false, isCoroutine := false, more := [] }
/-- what the written part says of Low, at C, and of its __init__, at fI -/
structure InvalidNumberTxt (K : Frag) (mg : Str → Option Value) (C fI : Addr) : Prop where
  gC : mg "InvalidNumber" = some (.ref C)
  cls : ∃ nm q N bs sn sub ab col dd k0 k1 k2 k3 k5, K.lookup C = some (excClassObj nm q C N bs [.type "IndexError", .type "LookupError", .type "Exception", .type "BaseException", .type "object"] true sn sub ab col dd k0 k1 k2 k3 k5 "IndexError.__new__")
  sa : findIn K (.ref C) "__setattr__" = some (some (.builtin "object.__setattr__"))
  ga : findIn K (.ref C) "__getattribute__" = some (some (.builtin "BaseException.__getattribute__"))
  gg : findIn K (.ref C) "__getattr__" = some none
  noN : findIn K (.ref C) "value" = some none
  iC : findIn K (.ref C) "__init__" = some (some (.ref fI))
  tC : typeIn K (.ref fI) = some (.type "function")
  kC : keepIn K (.ref C) = true
  exC : subIn K (.ref C) (.type "BaseException") = some true
  tyC : typeIn K (.ref C) = some (.type "type")
  hdC : hasDictIn K C = true
  te : exmOne K (.ref C) (.ref C) = some true
  fn : ∃ (oc : Value) (od : Option Addr) (doc pm : Value) (an : Option Addr) (cdv ct : Value) (osl : Array (Option Value)) (p1 p2 q1 q2 q3 q4 : Pos),
    K.lookup fI = some ⟨oc, od, .func (fnOf "__init__" "InvalidNumber.__init__" (iA p1 p2) (iB q1 q2 q3 q4) iS .none .none doc pm an cdv ct), osl⟩ ∧ codeIn K cdv "InvalidNumber.__init__" = true
theorem one_size (v : Value) : [v].length ≤ sizeLine := by
  rw [sizeLine_eq]
  exact (by decide : 1 ≤ 16777216)
theorem kept_but {K : Frag} {h h' : Heap} {x : Addr} (X : K.In h) (hx : K.lookup x = none) (k : ∀ b o, b ≠ x → h.get? b = some o → h'.get? b = some o) : K.In h' := fun a o e =>
  k a o (fun z => by rw [z, hx] at e; cases e) (X a o e)
theorem ldC {M : Model} {s : Shared} {name : Str} {scope : Scope} {L a : Addr} {cd : Value} {m : Str → Option Value} {x : Str} {pos : Pos} {v : Value} {Q : Value → Shared → Prop} {A : Around} {E : Value → Shared → Prop} (hn : s.heap.Ns L m) (hv : m x = some v) (h : Q v s)
    (hk : scope.kind = .function := by rfl) (hl : (envOfC name scope L a cd).kindOf x = some .local := by rfl) (hd : (x == ("__debug__" : Str)) = false := by decide) :
    wpAny M A (eval (.Name x pos) (envOfC name scope L a cd)) Q E s := wpAny_Name (wpAny_loadName_local hk hl hn hv h) hd
/-- what __init__ leaves of a fresh exception at x -/
structure InitEnd (h h' : Heap) (x C dx t1 : Addr) (v : Value) : Prop where
  keep : ∀ b o, b ≠ x → h.get? b = some o → h'.get? b = some o
  obj : h'.get? x = some { cls := .ref C, dict := some dx, data := .fields #[.ref t1, .none, .none, .none, .bool false, .none] }
  dbig : h.objs.size ≤ dx
  dne : dx ≠ x
  ns : h'.Ns1 dx (fun y => if y = "value" then some v else none)
/-- a made Low -/
structure OwnMade (h h' : Heap) (e C d : Addr) (v : Value) : Prop where
  keep : ∀ b o, h.get? b = some o → h'.get? b = some o
  new : h.objs.size ≤ e
  obj : ∃ oe vs, h'.get? e = some oe ∧ oe.cls = .ref C ∧ oe.dict = some d ∧ oe.data = .fields vs ∧ vs[1]? = some .none
  dbig : h.objs.size ≤ d
  dne : d ≠ e
  ns : h'.Ns1 d (fun y => if y = "value" then some v else none)
section
variable {prog : Program} {w : World} {A : Around} {E : Value → Shared → Prop} {R : Result → Shared → Prop} {s : Shared} {K : Frag} {mg : Str → Option Value} {C fI : Addr}
theorem low_init (T : InvalidNumberTxt K mg C fI) {x t0 : Addr} {v : Value} (X : K.In s.heap) (hlim : s.heap.NoLimit) (hx : s.heap.get? x = some (excO C t0)) (hnx : K.lookup x = none) (hroom : A.depth < recursionLimit)
    (hq : ∀ h' tk dx, InitEnd s.heap h' x C dx t0 v → R (.ok (.ret .none)) { s with heap := h', toks := tk }) :
    codeAny (model prog w) A (.call (.ref fI) ⟨[.ref x, v], []⟩) R s := by
  obtain ⟨oc, od, doc, pm, an, cdv, ct, osl, p1, p2, q1, q2, q3, q4, ho, hcd⟩ := T.fn
  obtain ⟨nm, q, N, bs, sn, sub, ab, col, dd, k0, k1, k2, k3, k5, hC⟩ := T.cls
  have hcl : clsIn K C = some { name := nm, bases := bs, mro := .ref C :: [.type "IndexError", .type "LookupError", .type "Exception", .type "BaseException", .type "object"], ns := N, qualname := q, hasDict := true, slotNames := sn, subclasses := sub, abstract := ab, collection := col, hasDel := false } := by unfold clsIn; rw [hC] <;> rfl
  refine Att.call_fn (binds := [("self", .ref x), ("value", v)]) X hlim ho hcd hroom (BindsTo.of_eq (by first | rfl | with_unfolding_all rfl)) (by first | rfl | decide | with_unfolding_all rfl) (fun s₁ IC => ?_) rfl rfl rfl
  obtain ⟨h₁, tk₁, rfl⟩ := IC.toInCall.same
  have k : ∀ b o, s.heap.get? b = some o → h₁.get? b = some o := IC.toInCall.keep
  have hn := IC.toInCall.ns
  have hxL : s.heap.objs.size ≠ x := Nat.ne_of_gt (Heap.lt_size hx)
  have X₁ : K.In h₁ := X.keeps k
  have hx₁ := k _ _ hx
  -- self.by = by
  show wpAny _ _ (execs _ _) _ _ _
  refine wpAny_execs_cons (plainObj_wpAny_Assign_Attribute ?_)
  refine ldC (v := v) hn (by first | rfl | with_unfolding_all rfl | kernel_rfl) (ldC (v := .ref x) hn (by first | rfl | with_unfolding_all rfl | kernel_rfl) ?_)
  refine set_plain X₁ (ox := excO C t0) (od := none) ⟨hx₁, rfl, rfl, trivial⟩ T.sa ?_
  refine GdX.osaG F.store_IndexError X₁ hx₁ hcl rfl rfl T.noN (fun h₃ tk₃ dx k₃ dn dne hx₃ hn₃ => ?_)
  show wpAny _ _ (execs _ _) _ _ _
  have z : s.heap.objs.size < h₁.objs.size := hn.lt
  exact wpAny_execs_nil (hq h₃ tk₃ dx ⟨fun b o hb e => k₃ b o hb (k b o e), hx₃, Nat.le_of_lt (Nat.lt_of_lt_of_le z dn), dne, hn₃⟩)
theorem low_made (T : InvalidNumberTxt K mg C fI) {v : Value} (X : K.In s.heap) (hlim : s.heap.NoLimit) (hroom : A.depth + 1 < recursionLimit)
    (hq : ∀ h' tk e d, OwnMade s.heap h' e C d v → R (.ok (.ret (.ref e))) { s with heap := h', toks := tk }) :
    codeAny (model prog w) A (.call (.ref C) ⟨[v], []⟩) R s := by
  obtain ⟨nm, q, N, bs, sn, sub, ab, col, dd, k0, k1, k2, k3, k5, hC⟩ := T.cls
  obtain ⟨hp, g, dr, tk, os⟩ := s
  have k : ∀ b o, hp.get? b = some o → ((hp.push (kdv_tup [v])).push (excO C hp.objs.size)).get? b = some o := fun b o e => Heap.get?_push_of_some _ (Heap.get?_push_of_some _ e)
  have hget : ((hp.push (kdv_tup [v])).push (excO C hp.objs.size)).get? (hp.objs.size + 1) = some (excO C hp.objs.size) := by heap_get
  have hnx : K.lookup (hp.objs.size + 1) = none := by
    cases e : K.lookup (hp.objs.size + 1) with
    | none => rfl
    | some o =>
      have z : hp.get? (hp.objs.size + 1) = some o := X _ _ e
      exact absurd (Nat.lt_of_succ_lt (Heap.lt_size z)) (Nat.lt_irrefl _)
  refine call_own F.excBase_IndexError (fun _ => rfl) (X _ _ hC) (looks_findIn X T.iC) (fun self => bind_fn X self T.tC) (one_size v) ?_
  refine low_init (s := ⟨(hp.push (kdv_tup [v])).push (excO C hp.objs.size), g, dr, tk, os⟩) T (X.keeps k) (hlim.keeps k) hget hnx ?_ fun h' tk' dx ⟨k', hx, dn, dne, hns⟩ => ?_
  · show A.depth + 1 < recursionLimit
    exact hroom
  · have old : ∀ b o, hp.get? b = some o → h'.get? b = some o := fun b o e => k' b o (Nat.ne_of_lt (Nat.lt_succ_of_lt (Heap.lt_size e))) (k b o e)
    have z : hp.objs.size + 1 + 1 ≤ dx := by
      first
        | (simpa only [Heap.size_push] using dn)
        | exact dn
        | (have q := dn; rw [Heap.size_push, Heap.size_push] at q; exact q)
    exact ⟨rfl, hq h' tk' (hp.objs.size + 1) dx ⟨old, Nat.le_succ _, ⟨_, _, hx, rfl, rfl, rfl, rfl⟩, Nat.le_trans (Nat.le_trans (Nat.le_succ _) (Nat.le_succ _)) z, dne, hns⟩⟩
end
end XInvalidNumber
end PySem
namespace L2
open PySem PySem.Spec PyProof.Rows
theorem relO_InvalidNumber {v : V} {v' : Value} (r : RelV v v') (f : Str) : RelO (List.lookup f [(("value" : Str), v)]) (if f = "value" then some v' else none) := by
  by_cases hw : f = "value"
  · subst hw
    rw [if_pos rfl]
    have q : List.lookup ("value" : Str) [(("value" : Str), v)] = some v := by simp [List.lookup]
    rw [q]
    exact r
  · rw [if_neg hw]
    have qw : (f == ("value" : Str)) = false := by simpa using hw
    have q2 : List.lookup f [(("value" : Str), v)] = none := by simp [List.lookup, qw]
    rw [q2]
    trivial
section
variable {X : Cx} {C fI : Addr}
/-- Low(e) -/
def tMkInvalidNumber (C : Addr) (ta : TA) : St → Hp → XK → Prop := fun σ H Q => ta σ H fun vs H1 => ∃ v, vs = [v] ∧ ∀ d, H1 d = none → Q (.ref C) (some d) (upd H1 d (.xd [(("value" : Str), v)]))
theorem pmk_InvalidNumber {a : Expr} {ta : TA} {p pos : Pos} {k : Nat} (T : PySem.XInvalidNumber.InvalidNumberTxt X.K X.mg C fI) (hr : Room k X.A) (ha : PA X [a] ta) (hg : Gl X "InvalidNumber" := by rfl)
    (he : starEach (a :: []) X.env = (false, eval a X.env) :: starEach [] X.env := by rfl) (hpl : (backTo pos (starEach [] X.env)).any (·.1) = false := by rfl) :
    PMk X (.Call (.Name "InvalidNumber" p) [a] [] pos) (tMkInvalidNumber C ta) := by
  intro pins s σ H Q I h
  refine wpAny_Call_Name_kw (ld_glob I hg T.gC ?_)
  refine PySem.W.callWith_K (h₀ := X.base) I.ok.mod.kin T.kC (thn (ha.run pos pins s σ H _ I h) fun us s1 hh => ?_) he hpl
  obtain ⟨vs, H1, I1, r1, v, ev, q1⟩ := hh
  subst ev
  refine ⟨I1.kIn, ?_⟩
  cases r1 with
  | cons rv rn =>
    rename_i v' us'
    cases rn
    show wpAny _ _ (call (.ref C) [v']) _ _ _
    have hlim := I1.nolimit
    obtain ⟨hp, g, dr, tk, os⟩ := s1
    refine wpAny_call (PySem.XInvalidNumber.low_made T I1.kIn hlim (by have := hr.dp; omega) fun h' tk' e d M => ?_)
    show MkP X pins σ Q (.ref e) ⟨h', g, dr, tk', os⟩
    obtain ⟨oe, fv, hoe, hc, hd, hdat, h1⟩ := M.obj
    have hns := M.ns
    obtain ⟨G', g1, g2⟩ := restrict h' fun b => decide (b ≠ e)
    have gk : ∀ b, b ≠ e → G'.get? b = h'.get? b := fun b hb => g1 b (decide_eq_true hb)
    have ge : G'.get? e = none := g2 e (by simp)
    have old : ∀ b o, hp.get? b = some o → G'.get? b = some o := fun b o q => (gk b (Nat.ne_of_lt (Nat.lt_of_lt_of_le (Heap.lt_size q) M.new))).trans (M.keep b o q)
    have ob : ObjOk X.prog X.w (upd H1 d (.xd [(("value" : Str), v)])) G' d (.xd [(("value" : Str), v)]) :=
      ⟨_, hns.at (fun o q => (gk d M.dne).trans q), fun f => relO_InvalidNumber rv f⟩
    have J : Inv X pins σ (upd H1 d (.xd [(("value" : Str), v)])) ⟨G', g, dr, tk', os⟩ := I1.laid (t' := tk') old M.dbig ob
    refine ⟨e, oe, fv, ⟨G', g, dr, tk', os⟩, _, .ref C, some d, rfl, J, fun b o q => ?_, ge, hoe, ⟨hc, hd⟩, hdat, h1, ?_, rfl, I1.bare, raises_own T.exC T.tyC, q1 d (I1.hok.fresh M.dbig)⟩
    · by_cases hb : b = e
      · have q' : G'.get? b = some o := q
        rw [hb, ge] at q'; cases q'
      · exact (gk b hb).symm.trans q
    · rw [upd_ne (Ne.symm M.dne)]
      exact I1.hok.fresh M.new
/-- raise Low(e) -/
def tRaiseInvalidNumber (C : Addr) (W : WX) (ta : TA) : TS := fun _ σ H => tMkInvalidNumber C ta σ H fun cls d H' => W cls d σ H'
theorem ps_raiseInvalidNumber {a : Expr} {ta : TA} {W : WX} {p pos pos2 : Pos} {k : Nat} (hc : X.calm = true) (T : PySem.XInvalidNumber.InvalidNumberTxt X.K X.mg C fI) (hr : Room k X.A) (tk : Takes X W) (ha : PA X [a] ta) (hg : Gl X "InvalidNumber" := by rfl)
    (he : starEach (a :: []) X.env = (false, eval a X.env) :: starEach [] X.env := by rfl) (hpl : (backTo pos (starEach [] X.env)).any (·.1) = false := by rfl) :
    PS X (.Raise (some (.Call (.Name "InvalidNumber" p) [a] [] pos)) none pos2) (tRaiseInvalidNumber C W ta) := ps_raise hc tk (pmk_InvalidNumber T hr ha hg he hpl)
/-- low.by, low the exception that the suite holds (at a; its class cls, its dict d) -/
def tByInvalidNumber (C : Addr) (a : Addr) (cls : Value) (d : Option Addr) (te : TE) : TE := fun σ H Q => te σ H fun x H1 => x = .ref a ∧ cls = .ref C ∧ ∃ (dd : Addr) (v : V), d = some dd ∧ H1 dd = some (.xd [(("value" : Str), v)]) ∧ Q v H1
theorem pe_byInvalidNumber {a : Addr} {oe : Obj} {cls : Value} {d : Option Addr} {pn : List (Addr × Obj)} {e : Expr} {te : TE} {pos : Pos} (T : PySem.XInvalidNumber.InvalidNumberTxt X.K X.mg C fI) (hz : Zc cls d oe) (hf : ∃ vs, oe.data = .fields vs) (he : PE (X.suite a ((a, oe) :: pn)) e te)
    (hb : attributeBase e "value" X.env (eval e X.env) = eval e X.env := by rfl) :
    PE (X.suite a ((a, oe) :: pn)) (.Attribute e "value" pos) (tByInvalidNumber C a cls d te) := by
  refine ⟨fun pins s σ H Q I h => ?_⟩
  refine attr_of hb (thn (he.run pins s σ H _ I h) fun u s1 hh => ?_)
  obtain ⟨x, H1, I1, rx, ex, ec, dd, v, ed, ea, q⟩ := hh
  subst ex
  obtain rfl : u = Value.ref a := rx
  subst ec
  subst ed
  obtain ⟨ha, _⟩ := I1.pin (a, oe) (List.mem_append_left _ List.mem_cons_self)
  obtain ⟨vs, hd⟩ := hf
  have hx : ObjOk X.prog X.w H1 s1.heap dd (.xd [(("value" : Str), v)]) := I1.hok dd _ ea
  obtain ⟨mA, hns, hr⟩ := hx
  obtain ⟨od, ho, hl⟩ := lookIn_ns hns
  have l : List.lookup ("value" : Str) [(("value" : Str), v)] = some v := by simp [List.lookup]
  obtain ⟨u, hu, ru⟩ := RelO.some_of (v := v) (o := mA "value") (by rw [← l]; exact hr "value")
  have J : PySem.W.InstAt s1.heap a oe C (some od) := ⟨ha, hz.1, by unfold PySem.W.notCls; rw [hd] <;> rfl, by rw [hz.2]; exact ho⟩
  exact HandSPX.exc_get I1.kIn J T.ga T.gg T.exC (PySem.W.findObj_own T.hdC T.noN rfl (by rw [hl, hu])) (handed_of ru) ⟨v, H1, I1.tok _, ru, q⟩
end
end L2

set_option Elab.async false
set_option linter.all false
set_option maxRecDepth 100000
set_option maxHeartbeats 4000000
namespace PySem
namespace XTooMany
open PySem.W PySem.Calls PyProof.Rows PySem.HandSPX
/-! ### the text of __init__ -/
def iA (p1 p2 : Pos) : Arguments := { posonlyargs := [], args := [{ arg := "self", annotation := none, pos := p1 }, { arg := "limit", annotation := none, pos := p2 }], vararg := none, kwonlyargs := [], kw_defaults := [], kwarg := none, defaults := [] }
def iB (q1 q2 q3 q4 : Pos) : List Stmt := [.Assign [.Attribute (.Name "self" q1) "limit" q2] (.Name "limit" q3) q4]
def iS : Scope := { kind := .function, names := [(PySem.Str.ofString "self", .local), (PySem.Str.ofString "limit", .local)], isGenerator := false, isCoroutine := false, more := [] }
/-- what the written part says of Low, at C, and of its __init__, at fI -/
structure TooManyTxt (K : Frag) (mg : Str → Option Value) (C fI : Addr) : Prop where
  gC : mg "TooMany" = some (.ref C)
  cls : ∃ nm q N bs sn sub ab col dd k0 k1 k2 k3 k5, K.lookup C = some (excClassObj nm q C N bs [.type "OverflowError", .type "ArithmeticError", .type "Exception", .type "BaseException", .type "object"] true sn sub ab col dd k0 k1 k2 k3 k5 "OverflowError.__new__")
  sa : findIn K (.ref C) "__setattr__" = some (some (.builtin "object.__setattr__"))
  ga : findIn K (.ref C) "__getattribute__" = some (some (.builtin "BaseException.__getattribute__"))
  gg : findIn K (.ref C) "__getattr__" = some none
  noN : findIn K (.ref C) "limit" = some none
  iC : findIn K (.ref C) "__init__" = some (some (.ref fI))
  tC : typeIn K (.ref fI) = some (.type "function")
  kC : keepIn K (.ref C) = true
  exC : subIn K (.ref C) (.type "BaseException") = some true
  tyC : typeIn K (.ref C) = some (.type "type")
  hdC : hasDictIn K C = true
  te : exmOne K (.ref C) (.ref C) = some true
  fn : ∃ (oc : Value) (od : Option Addr) (doc pm : Value) (an : Option Addr) (cdv ct : Value) (osl : Array (Option Value)) (p1 p2 q1 q2 q3 q4 : Pos),
    K.lookup fI = some ⟨oc, od, .func (fnOf "__init__" "TooMany.__init__" (iA p1 p2) (iB q1 q2 q3 q4) iS .none .none doc pm an cdv ct), osl⟩ ∧ codeIn K cdv "TooMany.__init__" = true
theorem one_size (v : Value) : [v].length ≤ sizeLine := by
  rw [sizeLine_eq]
  exact (by decide : 1 ≤ 16777216)
theorem kept_but {K : Frag} {h h' : Heap} {x : Addr} (X : K.In h) (hx : K.lookup x = none) (k : ∀ b o, b ≠ x → h.get? b = some o → h'.get? b = some o) : K.In h' := fun a o e =>
  k a o (fun z => by rw [z, hx] at e; cases e) (X a o e)
theorem ldC {M : Model} {s : Shared} {name : Str} {scope : Scope} {L a : Addr} {cd : Value} {m : Str → Option Value} {x : Str} {pos : Pos} {v : Value} {Q : Value → Shared → Prop} {A : Around} {E : Value → Shared → Prop} (hn : s.heap.Ns L m) (hv : m x = some v) (h : Q v s)
    (hk : scope.kind = .function := by rfl) (hl : (envOfC name scope L a cd).kindOf x = some .local := by rfl) (hd : (x == ("__debug__" : Str)) = false := by decide) :
    wpAny M A (eval (.Name x pos) (envOfC name scope L a cd)) Q E s := wpAny_Name (wpAny_loadName_local hk hl hn hv h) hd
/-- what __init__ leaves of a fresh exception at x -/
structure InitEnd (h h' : Heap) (x C dx t1 : Addr) (v : Value) : Prop where
  keep : ∀ b o, b ≠ x → h.get? b = some o → h'.get? b = some o
  obj : h'.get? x = some { cls := .ref C, dict := some dx, data := .fields #[.ref t1, .none, .none, .none, .bool false, .none] }
  dbig : h.objs.size ≤ dx
  dne : dx ≠ x
  ns : h'.Ns1 dx (fun y => if y = "limit" then some v else none)
/-- a made Low -/
structure OwnMade (h h' : Heap) (e C d : Addr) (v : Value) : Prop where
  keep : ∀ b o, h.get? b = some o → h'.get? b = some o
  new : h.objs.size ≤ e
  obj : ∃ oe vs, h'.get? e = some oe ∧ oe.cls = .ref C ∧ oe.dict = some d ∧ oe.data = .fields vs ∧ vs[1]? = some .none
  dbig : h.objs.size ≤ d
  dne : d ≠ e
  ns : h'.Ns1 d (fun y => if y = "limit" then some v else none)
section
variable {prog : Program} {w : World} {A : Around} {E : Value → Shared → Prop} {R : Result → Shared → Prop} {s : Shared} {K : Frag} {mg : Str → Option Value} {C fI : Addr}
theorem low_init (T : TooManyTxt K mg C fI) {x t0 : Addr} {v : Value} (X : K.In s.heap) (hlim : s.heap.NoLimit) (hx : s.heap.get? x = some (excO C t0)) (hnx : K.lookup x = none) (hroom : A.depth < recursionLimit)
    (hq : ∀ h' tk dx, InitEnd s.heap h' x C dx t0 v → R (.ok (.ret .none)) { s with heap := h', toks := tk }) :
    codeAny (model prog w) A (.call (.ref fI) ⟨[.ref x, v], []⟩) R s := by
  obtain ⟨oc, od, doc, pm, an, cdv, ct, osl, p1, p2, q1, q2, q3, q4, ho, hcd⟩ := T.fn
  obtain ⟨nm, q, N, bs, sn, sub, ab, col, dd, k0, k1, k2, k3, k5, hC⟩ := T.cls
  have hcl : clsIn K C = some { name := nm, bases := bs, mro := .ref C :: [.type "OverflowError", .type "ArithmeticError", .type "Exception", .type "BaseException", .type "object"], ns := N, qualname := q, hasDict := true, slotNames := sn, subclasses := sub, abstract := ab, collection := col, hasDel := false } := by unfold clsIn; rw [hC] <;> rfl
  refine Att.call_fn (binds := [("self", .ref x), ("limit", v)]) X hlim ho hcd hroom (BindsTo.of_eq (by first | rfl | with_unfolding_all rfl)) (by first | rfl | decide | with_unfolding_all rfl) (fun s₁ IC => ?_) rfl rfl rfl
  obtain ⟨h₁, tk₁, rfl⟩ := IC.toInCall.same
  have k : ∀ b o, s.heap.get? b = some o → h₁.get? b = some o := IC.toInCall.keep
  have hn := IC.toInCall.ns
  have hxL : s.heap.objs.size ≠ x := Nat.ne_of_gt (Heap.lt_size hx)
  have X₁ : K.In h₁ := X.keeps k
  have hx₁ := k _ _ hx
  -- self.by = by
  show wpAny _ _ (execs _ _) _ _ _
  refine wpAny_execs_cons (plainObj_wpAny_Assign_Attribute ?_)
  refine ldC (v := v) hn (by first | rfl | with_unfolding_all rfl | kernel_rfl) (ldC (v := .ref x) hn (by first | rfl | with_unfolding_all rfl | kernel_rfl) ?_)
  refine set_plain X₁ (ox := excO C t0) (od := none) ⟨hx₁, rfl, rfl, trivial⟩ T.sa ?_
  refine GdX.osaG F.store_OverflowError X₁ hx₁ hcl rfl rfl T.noN (fun h₃ tk₃ dx k₃ dn dne hx₃ hn₃ => ?_)
  show wpAny _ _ (execs _ _) _ _ _
  have z : s.heap.objs.size < h₁.objs.size := hn.lt
  exact wpAny_execs_nil (hq h₃ tk₃ dx ⟨fun b o hb e => k₃ b o hb (k b o e), hx₃, Nat.le_of_lt (Nat.lt_of_lt_of_le z dn), dne, hn₃⟩)
theorem low_made (T : TooManyTxt K mg C fI) {v : Value} (X : K.In s.heap) (hlim : s.heap.NoLimit) (hroom : A.depth + 1 < recursionLimit)
    (hq : ∀ h' tk e d, OwnMade s.heap h' e C d v → R (.ok (.ret (.ref e))) { s with heap := h', toks := tk }) :
    codeAny (model prog w) A (.call (.ref C) ⟨[v], []⟩) R s := by
  obtain ⟨nm, q, N, bs, sn, sub, ab, col, dd, k0, k1, k2, k3, k5, hC⟩ := T.cls
  obtain ⟨hp, g, dr, tk, os⟩ := s
  have k : ∀ b o, hp.get? b = some o → ((hp.push (kdv_tup [v])).push (excO C hp.objs.size)).get? b = some o := fun b o e => Heap.get?_push_of_some _ (Heap.get?_push_of_some _ e)
  have hget : ((hp.push (kdv_tup [v])).push (excO C hp.objs.size)).get? (hp.objs.size + 1) = some (excO C hp.objs.size) := by heap_get
  have hnx : K.lookup (hp.objs.size + 1) = none := by
    cases e : K.lookup (hp.objs.size + 1) with
    | none => rfl
    | some o =>
      have z : hp.get? (hp.objs.size + 1) = some o := X _ _ e
      exact absurd (Nat.lt_of_succ_lt (Heap.lt_size z)) (Nat.lt_irrefl _)
  refine call_own F.excBase_OverflowError (fun _ => rfl) (X _ _ hC) (looks_findIn X T.iC) (fun self => bind_fn X self T.tC) (one_size v) ?_
  refine low_init (s := ⟨(hp.push (kdv_tup [v])).push (excO C hp.objs.size), g, dr, tk, os⟩) T (X.keeps k) (hlim.keeps k) hget hnx ?_ fun h' tk' dx ⟨k', hx, dn, dne, hns⟩ => ?_
  · show A.depth + 1 < recursionLimit
    exact hroom
  · have old : ∀ b o, hp.get? b = some o → h'.get? b = some o := fun b o e => k' b o (Nat.ne_of_lt (Nat.lt_succ_of_lt (Heap.lt_size e))) (k b o e)
    have z : hp.objs.size + 1 + 1 ≤ dx := by
      first
        | (simpa only [Heap.size_push] using dn)
        | exact dn
        | (have q := dn; rw [Heap.size_push, Heap.size_push] at q; exact q)
    exact ⟨rfl, hq h' tk' (hp.objs.size + 1) dx ⟨old, Nat.le_succ _, ⟨_, _, hx, rfl, rfl, rfl, rfl⟩, Nat.le_trans (Nat.le_trans (Nat.le_succ _) (Nat.le_succ _)) z, dne, hns⟩⟩
end
end XTooMany
end PySem
namespace L2
open PySem PySem.Spec PyProof.Rows
theorem relO_TooMany {v : V} {v' : Value} (r : RelV v v') (f : Str) : RelO (List.lookup f [(("limit" : Str), v)]) (if f = "limit" then some v' else none) := by
  by_cases hw : f = "limit"
  · subst hw
    rw [if_pos rfl]
    have q : List.lookup ("limit" : Str) [(("limit" : Str), v)] = some v := by simp [List.lookup]
    rw [q]
    exact r
  · rw [if_neg hw]
    have qw : (f == ("limit" : Str)) = false := by simpa using hw
    have q2 : List.lookup f [(("limit" : Str), v)] = none := by simp [List.lookup, qw]
    rw [q2]
    trivial
section
variable {X : Cx} {C fI : Addr}
/-- Low(e) -/
def tMkTooMany (C : Addr) (ta : TA) : St → Hp → XK → Prop := fun σ H Q => ta σ H fun vs H1 => ∃ v, vs = [v] ∧ ∀ d, H1 d = none → Q (.ref C) (some d) (upd H1 d (.xd [(("limit" : Str), v)]))
theorem pmk_TooMany {a : Expr} {ta : TA} {p pos : Pos} {k : Nat} (T : PySem.XTooMany.TooManyTxt X.K X.mg C fI) (hr : Room k X.A) (ha : PA X [a] ta) (hg : Gl X "TooMany" := by rfl)
    (he : starEach (a :: []) X.env = (false, eval a X.env) :: starEach [] X.env := by rfl) (hpl : (backTo pos (starEach [] X.env)).any (·.1) = false := by rfl) :
    PMk X (.Call (.Name "TooMany" p) [a] [] pos) (tMkTooMany C ta) := by
  intro pins s σ H Q I h
  refine wpAny_Call_Name_kw (ld_glob I hg T.gC ?_)
  refine PySem.W.callWith_K (h₀ := X.base) I.ok.mod.kin T.kC (thn (ha.run pos pins s σ H _ I h) fun us s1 hh => ?_) he hpl
  obtain ⟨vs, H1, I1, r1, v, ev, q1⟩ := hh
  subst ev
  refine ⟨I1.kIn, ?_⟩
  cases r1 with
  | cons rv rn =>
    rename_i v' us'
    cases rn
    show wpAny _ _ (call (.ref C) [v']) _ _ _
    have hlim := I1.nolimit
    obtain ⟨hp, g, dr, tk, os⟩ := s1
    refine wpAny_call (PySem.XTooMany.low_made T I1.kIn hlim (by have := hr.dp; omega) fun h' tk' e d M => ?_)
    show MkP X pins σ Q (.ref e) ⟨h', g, dr, tk', os⟩
    obtain ⟨oe, fv, hoe, hc, hd, hdat, h1⟩ := M.obj
    have hns := M.ns
    obtain ⟨G', g1, g2⟩ := restrict h' fun b => decide (b ≠ e)
    have gk : ∀ b, b ≠ e → G'.get? b = h'.get? b := fun b hb => g1 b (decide_eq_true hb)
    have ge : G'.get? e = none := g2 e (by simp)
    have old : ∀ b o, hp.get? b = some o → G'.get? b = some o := fun b o q => (gk b (Nat.ne_of_lt (Nat.lt_of_lt_of_le (Heap.lt_size q) M.new))).trans (M.keep b o q)
    have ob : ObjOk X.prog X.w (upd H1 d (.xd [(("limit" : Str), v)])) G' d (.xd [(("limit" : Str), v)]) :=
      ⟨_, hns.at (fun o q => (gk d M.dne).trans q), fun f => relO_TooMany rv f⟩
    have J : Inv X pins σ (upd H1 d (.xd [(("limit" : Str), v)])) ⟨G', g, dr, tk', os⟩ := I1.laid (t' := tk') old M.dbig ob
    refine ⟨e, oe, fv, ⟨G', g, dr, tk', os⟩, _, .ref C, some d, rfl, J, fun b o q => ?_, ge, hoe, ⟨hc, hd⟩, hdat, h1, ?_, rfl, I1.bare, raises_own T.exC T.tyC, q1 d (I1.hok.fresh M.dbig)⟩
    · by_cases hb : b = e
      · have q' : G'.get? b = some o := q
        rw [hb, ge] at q'; cases q'
      · exact (gk b hb).symm.trans q
    · rw [upd_ne (Ne.symm M.dne)]
      exact I1.hok.fresh M.new
/-- raise Low(e) -/
def tRaiseTooMany (C : Addr) (W : WX) (ta : TA) : TS := fun _ σ H => tMkTooMany C ta σ H fun cls d H' => W cls d σ H'
theorem ps_raiseTooMany {a : Expr} {ta : TA} {W : WX} {p pos pos2 : Pos} {k : Nat} (hc : X.calm = true) (T : PySem.XTooMany.TooManyTxt X.K X.mg C fI) (hr : Room k X.A) (tk : Takes X W) (ha : PA X [a] ta) (hg : Gl X "TooMany" := by rfl)
    (he : starEach (a :: []) X.env = (false, eval a X.env) :: starEach [] X.env := by rfl) (hpl : (backTo pos (starEach [] X.env)).any (·.1) = false := by rfl) :
    PS X (.Raise (some (.Call (.Name "TooMany" p) [a] [] pos)) none pos2) (tRaiseTooMany C W ta) := ps_raise hc tk (pmk_TooMany T hr ha hg he hpl)
/-- low.by, low the exception that the suite holds (at a; its class cls, its dict d) -/
def tByTooMany (C : Addr) (a : Addr) (cls : Value) (d : Option Addr) (te : TE) : TE := fun σ H Q => te σ H fun x H1 => x = .ref a ∧ cls = .ref C ∧ ∃ (dd : Addr) (v : V), d = some dd ∧ H1 dd = some (.xd [(("limit" : Str), v)]) ∧ Q v H1
theorem pe_byTooMany {a : Addr} {oe : Obj} {cls : Value} {d : Option Addr} {pn : List (Addr × Obj)} {e : Expr} {te : TE} {pos : Pos} (T : PySem.XTooMany.TooManyTxt X.K X.mg C fI) (hz : Zc cls d oe) (hf : ∃ vs, oe.data = .fields vs) (he : PE (X.suite a ((a, oe) :: pn)) e te)
    (hb : attributeBase e "limit" X.env (eval e X.env) = eval e X.env := by rfl) :
    PE (X.suite a ((a, oe) :: pn)) (.Attribute e "limit" pos) (tByTooMany C a cls d te) := by
  refine ⟨fun pins s σ H Q I h => ?_⟩
  refine attr_of hb (thn (he.run pins s σ H _ I h) fun u s1 hh => ?_)
  obtain ⟨x, H1, I1, rx, ex, ec, dd, v, ed, ea, q⟩ := hh
  subst ex
  obtain rfl : u = Value.ref a := rx
  subst ec
  subst ed
  obtain ⟨ha, _⟩ := I1.pin (a, oe) (List.mem_append_left _ List.mem_cons_self)
  obtain ⟨vs, hd⟩ := hf
  have hx : ObjOk X.prog X.w H1 s1.heap dd (.xd [(("limit" : Str), v)]) := I1.hok dd _ ea
  obtain ⟨mA, hns, hr⟩ := hx
  obtain ⟨od, ho, hl⟩ := lookIn_ns hns
  have l : List.lookup ("limit" : Str) [(("limit" : Str), v)] = some v := by simp [List.lookup]
  obtain ⟨u, hu, ru⟩ := RelO.some_of (v := v) (o := mA "limit") (by rw [← l]; exact hr "limit")
  have J : PySem.W.InstAt s1.heap a oe C (some od) := ⟨ha, hz.1, by unfold PySem.W.notCls; rw [hd] <;> rfl, by rw [hz.2]; exact ho⟩
  exact HandSPX.exc_get I1.kIn J T.ga T.gg T.exC (PySem.W.findObj_own T.hdC T.noN rfl (by rw [hl, hu])) (handed_of ru) ⟨v, H1, I1.tok _, ru, q⟩
end
end L2

set_option Elab.async false
set_option linter.all false
set_option maxRecDepth 100000
set_option maxHeartbeats 4000000
namespace PySem
namespace XRefused
open PySem.W PySem.Calls PyProof.Rows PySem.HandSPX
/-! ### the text of __init__ -/
def iA (p1 p2 : Pos) : Arguments := { posonlyargs := [], args := [{ arg := "self", annotation := none, pos := p1 }, { arg := "reason", annotation := none, pos := p2 }], vararg := none, kwonlyargs := [], kw_defaults := [], kwarg := none, defaults := [] }
def iB (q1 q2 q3 q4 : Pos) : List Stmt := [.Assign [.Attribute (.Name "self" q1) "reason" q2] (.Name "reason" q3) q4]
def iS : Scope := { kind := .function, names := [(PySem.Str.ofString "self", .local), (PySem.Str.ofString "reason", .local)], isGenerator := false, isCoroutine := false, more := [] }
/-- what the written part says of Low, at C, and of its __init__, at fI -/
structure RefusedTxt (K : Frag) (mg : Str → Option Value) (C fI : Addr) : Prop where
  gC : mg "Refused" = some (.ref C)
  cls : ∃ nm q N bs sn sub ab col dd k0 k1 k2 k3 k5, K.lookup C = some (excClassObj nm q C N bs [.type "ArithmeticError", .type "Exception", .type "BaseException", .type "object"] true sn sub ab col dd k0 k1 k2 k3 k5 "ArithmeticError.__new__")
  sa : findIn K (.ref C) "__setattr__" = some (some (.builtin "object.__setattr__"))
  ga : findIn K (.ref C) "__getattribute__" = some (some (.builtin "BaseException.__getattribute__"))
  gg : findIn K (.ref C) "__getattr__" = some none
  noN : findIn K (.ref C) "reason" = some none
  iC : findIn K (.ref C) "__init__" = some (some (.ref fI))
  tC : typeIn K (.ref fI) = some (.type "function")
  kC : keepIn K (.ref C) = true
  exC : subIn K (.ref C) (.type "BaseException") = some true
  tyC : typeIn K (.ref C) = some (.type "type")
  hdC : hasDictIn K C = true
  te : exmOne K (.ref C) (.ref C) = some true
  fn : ∃ (oc : Value) (od : Option Addr) (doc pm : Value) (an : Option Addr) (cdv ct : Value) (osl : Array (Option Value)) (p1 p2 q1 q2 q3 q4 : Pos),
    K.lookup fI = some ⟨oc, od, .func (fnOf "__init__" "Refused.__init__" (iA p1 p2) (iB q1 q2 q3 q4) iS .none .none doc pm an cdv ct), osl⟩ ∧ codeIn K cdv "Refused.__init__" = true
theorem one_size (v : Value) : [v].length ≤ sizeLine := by
  rw [sizeLine_eq]
  exact (by decide : 1 ≤ 16777216)
theorem kept_but {K : Frag} {h h' : Heap} {x : Addr} (X : K.In h) (hx : K.lookup x = none) (k : ∀ b o, b ≠ x → h.get? b = some o → h'.get? b = some o) : K.In h' := fun a o e =>
  k a o (fun z => by rw [z, hx] at e; cases e) (X a o e)
theorem ldC {M : Model} {s : Shared} {name : Str} {scope : Scope} {L a : Addr} {cd : Value} {m : Str → Option Value} {x : Str} {pos : Pos} {v : Value} {Q : Value → Shared → Prop} {A : Around} {E : Value → Shared → Prop} (hn : s.heap.Ns L m) (hv : m x = some v) (h : Q v s)
    (hk : scope.kind = .function := by rfl) (hl : (envOfC name scope L a cd).kindOf x = some .local := by rfl) (hd : (x == ("__debug__" : Str)) = false := by decide) :
    wpAny M A (eval (.Name x pos) (envOfC name scope L a cd)) Q E s := wpAny_Name (wpAny_loadName_local hk hl hn hv h) hd
/-- what __init__ leaves of a fresh exception at x -/
structure InitEnd (h h' : Heap) (x C dx t1 : Addr) (v : Value) : Prop where
  keep : ∀ b o, b ≠ x → h.get? b = some o → h'.get? b = some o
  obj : h'.get? x = some { cls := .ref C, dict := some dx, data := .fields #[.ref t1, .none, .none, .none, .bool false, .none] }
  dbig : h.objs.size ≤ dx
  dne : dx ≠ x
  ns : h'.Ns1 dx (fun y => if y = "reason" then some v else none)
/-- a made Low -/
structure OwnMade (h h' : Heap) (e C d : Addr) (v : Value) : Prop where
  keep : ∀ b o, h.get? b = some o → h'.get? b = some o
  new : h.objs.size ≤ e
  obj : ∃ oe vs, h'.get? e = some oe ∧ oe.cls = .ref C ∧ oe.dict = some d ∧ oe.data = .fields vs ∧ vs[1]? = some .none
  dbig : h.objs.size ≤ d
  dne : d ≠ e
  ns : h'.Ns1 d (fun y => if y = "reason" then some v else none)
section
variable {prog : Program} {w : World} {A : Around} {E : Value → Shared → Prop} {R : Result → Shared → Prop} {s : Shared} {K : Frag} {mg : Str → Option Value} {C fI : Addr}
theorem low_init (T : RefusedTxt K mg C fI) {x t0 : Addr} {v : Value} (X : K.In s.heap) (hlim : s.heap.NoLimit) (hx : s.heap.get? x = some (excO C t0)) (hnx : K.lookup x = none) (hroom : A.depth < recursionLimit)
    (hq : ∀ h' tk dx, InitEnd s.heap h' x C dx t0 v → R (.ok (.ret .none)) { s with heap := h', toks := tk }) :
    codeAny (model prog w) A (.call (.ref fI) ⟨[.ref x, v], []⟩) R s := by
  obtain ⟨oc, od, doc, pm, an, cdv, ct, osl, p1, p2, q1, q2, q3, q4, ho, hcd⟩ := T.fn
  obtain ⟨nm, q, N, bs, sn, sub, ab, col, dd, k0, k1, k2, k3, k5, hC⟩ := T.cls
  have hcl : clsIn K C = some { name := nm, bases := bs, mro := .ref C :: [.type "ArithmeticError", .type "Exception", .type "BaseException", .type "object"], ns := N, qualname := q, hasDict := true, slotNames := sn, subclasses := sub, abstract := ab, collection := col, hasDel := false } := by unfold clsIn; rw [hC] <;> rfl
  refine Att.call_fn (binds := [("self", .ref x), ("reason", v)]) X hlim ho hcd hroom (BindsTo.of_eq (by first | rfl | with_unfolding_all rfl)) (by first | rfl | decide | with_unfolding_all rfl) (fun s₁ IC => ?_) rfl rfl rfl
  obtain ⟨h₁, tk₁, rfl⟩ := IC.toInCall.same
  have k : ∀ b o, s.heap.get? b = some o → h₁.get? b = some o := IC.toInCall.keep
  have hn := IC.toInCall.ns
  have hxL : s.heap.objs.size ≠ x := Nat.ne_of_gt (Heap.lt_size hx)
  have X₁ : K.In h₁ := X.keeps k
  have hx₁ := k _ _ hx
  -- self.by = by
  show wpAny _ _ (execs _ _) _ _ _
  refine wpAny_execs_cons (plainObj_wpAny_Assign_Attribute ?_)
  refine ldC (v := v) hn (by first | rfl | with_unfolding_all rfl | kernel_rfl) (ldC (v := .ref x) hn (by first | rfl | with_unfolding_all rfl | kernel_rfl) ?_)
  refine set_plain X₁ (ox := excO C t0) (od := none) ⟨hx₁, rfl, rfl, trivial⟩ T.sa ?_
  refine GdX.osaG F.store_ArithmeticError X₁ hx₁ hcl rfl rfl T.noN (fun h₃ tk₃ dx k₃ dn dne hx₃ hn₃ => ?_)
  show wpAny _ _ (execs _ _) _ _ _
  have z : s.heap.objs.size < h₁.objs.size := hn.lt
  exact wpAny_execs_nil (hq h₃ tk₃ dx ⟨fun b o hb e => k₃ b o hb (k b o e), hx₃, Nat.le_of_lt (Nat.lt_of_lt_of_le z dn), dne, hn₃⟩)
theorem low_made (T : RefusedTxt K mg C fI) {v : Value} (X : K.In s.heap) (hlim : s.heap.NoLimit) (hroom : A.depth + 1 < recursionLimit)
    (hq : ∀ h' tk e d, OwnMade s.heap h' e C d v → R (.ok (.ret (.ref e))) { s with heap := h', toks := tk }) :
    codeAny (model prog w) A (.call (.ref C) ⟨[v], []⟩) R s := by
  obtain ⟨nm, q, N, bs, sn, sub, ab, col, dd, k0, k1, k2, k3, k5, hC⟩ := T.cls
  obtain ⟨hp, g, dr, tk, os⟩ := s
  have k : ∀ b o, hp.get? b = some o → ((hp.push (kdv_tup [v])).push (excO C hp.objs.size)).get? b = some o := fun b o e => Heap.get?_push_of_some _ (Heap.get?_push_of_some _ e)
  have hget : ((hp.push (kdv_tup [v])).push (excO C hp.objs.size)).get? (hp.objs.size + 1) = some (excO C hp.objs.size) := by heap_get
  have hnx : K.lookup (hp.objs.size + 1) = none := by
    cases e : K.lookup (hp.objs.size + 1) with
    | none => rfl
    | some o =>
      have z : hp.get? (hp.objs.size + 1) = some o := X _ _ e
      exact absurd (Nat.lt_of_succ_lt (Heap.lt_size z)) (Nat.lt_irrefl _)
  refine call_own F.excBase_ArithmeticError (fun _ => rfl) (X _ _ hC) (looks_findIn X T.iC) (fun self => bind_fn X self T.tC) (one_size v) ?_
  refine low_init (s := ⟨(hp.push (kdv_tup [v])).push (excO C hp.objs.size), g, dr, tk, os⟩) T (X.keeps k) (hlim.keeps k) hget hnx ?_ fun h' tk' dx ⟨k', hx, dn, dne, hns⟩ => ?_
  · show A.depth + 1 < recursionLimit
    exact hroom
  · have old : ∀ b o, hp.get? b = some o → h'.get? b = some o := fun b o e => k' b o (Nat.ne_of_lt (Nat.lt_succ_of_lt (Heap.lt_size e))) (k b o e)
    have z : hp.objs.size + 1 + 1 ≤ dx := by
      first
        | (simpa only [Heap.size_push] using dn)
        | exact dn
        | (have q := dn; rw [Heap.size_push, Heap.size_push] at q; exact q)
    exact ⟨rfl, hq h' tk' (hp.objs.size + 1) dx ⟨old, Nat.le_succ _, ⟨_, _, hx, rfl, rfl, rfl, rfl⟩, Nat.le_trans (Nat.le_trans (Nat.le_succ _) (Nat.le_succ _)) z, dne, hns⟩⟩
end
end XRefused
end PySem
namespace L2
open PySem PySem.Spec PyProof.Rows
theorem relO_Refused {v : V} {v' : Value} (r : RelV v v') (f : Str) : RelO (List.lookup f [(("reason" : Str), v)]) (if f = "reason" then some v' else none) := by
  by_cases hw : f = "reason"
  · subst hw
    rw [if_pos rfl]
    have q : List.lookup ("reason" : Str) [(("reason" : Str), v)] = some v := by simp [List.lookup]
    rw [q]
    exact r
  · rw [if_neg hw]
    have qw : (f == ("reason" : Str)) = false := by simpa using hw
    have q2 : List.lookup f [(("reason" : Str), v)] = none := by simp [List.lookup, qw]
    rw [q2]
    trivial
section
variable {X : Cx} {C fI : Addr}
/-- Low(e) -/
def tMkRefused (C : Addr) (ta : TA) : St → Hp → XK → Prop := fun σ H Q => ta σ H fun vs H1 => ∃ v, vs = [v] ∧ ∀ d, H1 d = none → Q (.ref C) (some d) (upd H1 d (.xd [(("reason" : Str), v)]))
theorem pmk_Refused {a : Expr} {ta : TA} {p pos : Pos} {k : Nat} (T : PySem.XRefused.RefusedTxt X.K X.mg C fI) (hr : Room k X.A) (ha : PA X [a] ta) (hg : Gl X "Refused" := by rfl)
    (he : starEach (a :: []) X.env = (false, eval a X.env) :: starEach [] X.env := by rfl) (hpl : (backTo pos (starEach [] X.env)).any (·.1) = false := by rfl) :
    PMk X (.Call (.Name "Refused" p) [a] [] pos) (tMkRefused C ta) := by
  intro pins s σ H Q I h
  refine wpAny_Call_Name_kw (ld_glob I hg T.gC ?_)
  refine PySem.W.callWith_K (h₀ := X.base) I.ok.mod.kin T.kC (thn (ha.run pos pins s σ H _ I h) fun us s1 hh => ?_) he hpl
  obtain ⟨vs, H1, I1, r1, v, ev, q1⟩ := hh
  subst ev
  refine ⟨I1.kIn, ?_⟩
  cases r1 with
  | cons rv rn =>
    rename_i v' us'
    cases rn
    show wpAny _ _ (call (.ref C) [v']) _ _ _
    have hlim := I1.nolimit
    obtain ⟨hp, g, dr, tk, os⟩ := s1
    refine wpAny_call (PySem.XRefused.low_made T I1.kIn hlim (by have := hr.dp; omega) fun h' tk' e d M => ?_)
    show MkP X pins σ Q (.ref e) ⟨h', g, dr, tk', os⟩
    obtain ⟨oe, fv, hoe, hc, hd, hdat, h1⟩ := M.obj
    have hns := M.ns
    obtain ⟨G', g1, g2⟩ := restrict h' fun b => decide (b ≠ e)
    have gk : ∀ b, b ≠ e → G'.get? b = h'.get? b := fun b hb => g1 b (decide_eq_true hb)
    have ge : G'.get? e = none := g2 e (by simp)
    have old : ∀ b o, hp.get? b = some o → G'.get? b = some o := fun b o q => (gk b (Nat.ne_of_lt (Nat.lt_of_lt_of_le (Heap.lt_size q) M.new))).trans (M.keep b o q)
    have ob : ObjOk X.prog X.w (upd H1 d (.xd [(("reason" : Str), v)])) G' d (.xd [(("reason" : Str), v)]) :=
      ⟨_, hns.at (fun o q => (gk d M.dne).trans q), fun f => relO_Refused rv f⟩
    have J : Inv X pins σ (upd H1 d (.xd [(("reason" : Str), v)])) ⟨G', g, dr, tk', os⟩ := I1.laid (t' := tk') old M.dbig ob
    refine ⟨e, oe, fv, ⟨G', g, dr, tk', os⟩, _, .ref C, some d, rfl, J, fun b o q => ?_, ge, hoe, ⟨hc, hd⟩, hdat, h1, ?_, rfl, I1.bare, raises_own T.exC T.tyC, q1 d (I1.hok.fresh M.dbig)⟩
    · by_cases hb : b = e
      · have q' : G'.get? b = some o := q
        rw [hb, ge] at q'; cases q'
      · exact (gk b hb).symm.trans q
    · rw [upd_ne (Ne.symm M.dne)]
      exact I1.hok.fresh M.new
/-- raise Low(e) -/
def tRaiseRefused (C : Addr) (W : WX) (ta : TA) : TS := fun _ σ H => tMkRefused C ta σ H fun cls d H' => W cls d σ H'
theorem ps_raiseRefused {a : Expr} {ta : TA} {W : WX} {p pos pos2 : Pos} {k : Nat} (hc : X.calm = true) (T : PySem.XRefused.RefusedTxt X.K X.mg C fI) (hr : Room k X.A) (tk : Takes X W) (ha : PA X [a] ta) (hg : Gl X "Refused" := by rfl)
    (he : starEach (a :: []) X.env = (false, eval a X.env) :: starEach [] X.env := by rfl) (hpl : (backTo pos (starEach [] X.env)).any (·.1) = false := by rfl) :
    PS X (.Raise (some (.Call (.Name "Refused" p) [a] [] pos)) none pos2) (tRaiseRefused C W ta) := ps_raise hc tk (pmk_Refused T hr ha hg he hpl)
/-- low.by, low the exception that the suite holds (at a; its class cls, its dict d) -/
def tByRefused (C : Addr) (a : Addr) (cls : Value) (d : Option Addr) (te : TE) : TE := fun σ H Q => te σ H fun x H1 => x = .ref a ∧ cls = .ref C ∧ ∃ (dd : Addr) (v : V), d = some dd ∧ H1 dd = some (.xd [(("reason" : Str), v)]) ∧ Q v H1
theorem pe_byRefused {a : Addr} {oe : Obj} {cls : Value} {d : Option Addr} {pn : List (Addr × Obj)} {e : Expr} {te : TE} {pos : Pos} (T : PySem.XRefused.RefusedTxt X.K X.mg C fI) (hz : Zc cls d oe) (hf : ∃ vs, oe.data = .fields vs) (he : PE (X.suite a ((a, oe) :: pn)) e te)
    (hb : attributeBase e "reason" X.env (eval e X.env) = eval e X.env := by rfl) :
    PE (X.suite a ((a, oe) :: pn)) (.Attribute e "reason" pos) (tByRefused C a cls d te) := by
  refine ⟨fun pins s σ H Q I h => ?_⟩
  refine attr_of hb (thn (he.run pins s σ H _ I h) fun u s1 hh => ?_)
  obtain ⟨x, H1, I1, rx, ex, ec, dd, v, ed, ea, q⟩ := hh
  subst ex
  obtain rfl : u = Value.ref a := rx
  subst ec
  subst ed
  obtain ⟨ha, _⟩ := I1.pin (a, oe) (List.mem_append_left _ List.mem_cons_self)
  obtain ⟨vs, hd⟩ := hf
  have hx : ObjOk X.prog X.w H1 s1.heap dd (.xd [(("reason" : Str), v)]) := I1.hok dd _ ea
  obtain ⟨mA, hns, hr⟩ := hx
  obtain ⟨od, ho, hl⟩ := lookIn_ns hns
  have l : List.lookup ("reason" : Str) [(("reason" : Str), v)] = some v := by simp [List.lookup]
  obtain ⟨u, hu, ru⟩ := RelO.some_of (v := v) (o := mA "reason") (by rw [← l]; exact hr "reason")
  have J : PySem.W.InstAt s1.heap a oe C (some od) := ⟨ha, hz.1, by unfold PySem.W.notCls; rw [hd] <;> rfl, by rw [hz.2]; exact ho⟩
  exact HandSPX.exc_get I1.kIn J T.ga T.gg T.exC (PySem.W.findObj_own T.hdC T.noN rfl (by rw [hl, hu])) (handed_of ru) ⟨v, H1, I1.tok _, ru, q⟩
end
end L2

set_option Elab.async false
set_option linter.all false
set_option maxRecDepth 100000
set_option maxHeartbeats 4000000
/-! Operators of own classes, and repr of data, as rules of the hand layer. -/
namespace Gd
open PySem PySem.Spec PyProof.Rows L2

/-! ### repr of data -/
def rRepr (K : PySem.W.Frag) : List V → Hp → VK → Prop := fun xs H Q =>
  ∃ a d, xs = [.ref a] ∧ Dp K H (.ref a) d ∧ d.showable = true ∧ d.hasDict = false ∧ d.depth ≤ 60 ∧ d.shown.length ≤ sizeLine ∧ Q (.str d.shown) H
theorem call_repr {X : Cx} (hg : NoG X.A) (hu : X.A.units + 64 < cLine) : CallR X (.builtin "repr") (rRepr X.K) := by
  intro pins s σ H xs us Q I r h
  obtain ⟨a, d, rfl, hd, h1, h2, h3, h4, q⟩ := h
  obtain ⟨u, rfl, hu1⟩ := vals1 r
  cases hu1
  obtain ⟨as, rd⟩ := Dp.reads I d (.ref a) (.ref a) hd rfl
  refine repr_of_reads' rd h1 (PyData.noDict_hsm h2) hg (by omega) (fun _ _ e => e) ?_ h4
  intro h' u tk hk
  exact ⟨.str d.shown, H, I.kept hk, ⟨u, rfl⟩, q⟩

section
variable {X : Cx} {CX : CXT} {k : Nat} {f C : Addr} {fd : FuncData} {ps : List Str} {sp : Sp} {dvs : List V} {ds : List Value}
  {pos : Pos} {a b : Expr} {ta tb : TE}

/-- the callee runs, from the body or from a builtin that the body calls -/
theorem runAt {E : XK} {A : Around} (hA : A = X.A ∨ A = X.A.in1) {pins : List (Addr × Obj)} {σ : L2.St} {H : Hp} {s : Shared} {Q : VK} {us : List Value} {vs : List V}
    (F : FnOk X.prog X.w X.K X.mg X.base CX k f fd ps sp) (hr : Room (k + 1) X.A) (hb : Binds X.K fd ps ds) (hd : Vals dvs ds)
    (hx : PassesAt CX X σ E) (I : Inv X pins σ H s) (r : Vals vs us) (h : sp (vs ++ dvs) H Q E) :
    wpAny (model X.prog X.w) A (call (.ref f) us) (EP X pins σ Q) X.xe s := by
  have r2 := Vals.append r hd
  have hl : (us ++ ds).length = ps.length := by
    rw [← r2.length]
    exact F.len _ H Q E h
  have room : Room k A := by
    rcases hA with rfl | rfl
    · exact hr.mono (Nat.le_succ _)
    · exact hr.in1
  have env : Env0 X.prog X.w X.K X.mg X.base A X.stack s H := by
    rcases hA with rfl | rfl
    · exact I.env0
    · exact I.env0.in1
  refine wpAny_call (codeAny_mono (F.run A X.stack s H ⟨us, []⟩ (us ++ ds) _ Q E room env (hb s us I.kIn hl) r2 h) ?_)
  intro r s' hq
  match r, hq with
  | .error e, hq => exact hx pins H s e s' I hq
  | .ok (.ret u), hq => exact I.after hq
  | .ok .next, hq => exact False.elim hq
  | .ok .brk, hq => exact False.elim hq
  | .ok .cont, hq => exact False.elim hq
theorem quiet0 {σ : L2.St} {E : XK} : PassesAt CX0 X σ E := fun _ _ _ _ _ _ h => h.elim

/-- the instance at a, as the library sees it -/
theorem seen {pins : List (Addr × Obj)} {σ : L2.St} {H : Hp} {s : Shared} {p dx : Addr} {fs : List (Str × V)} (I : Inv X pins σ H s)
    (e : H p = some (.ins C dx fs)) : ∃ od, PySem.W.InstAt s.heap p (PySem.W.instObj C dx) C (some od) := by
  obtain ⟨mA, J, _⟩ := ins_get I.hok e
  obtain ⟨od, J, _⟩ := J.look
  exact ⟨od, J⟩

/-! ### comparisons -/
/-- x OP y by the own method of x's class, whose answer is a truth value -/
def rCmpO (K : PySem.W.Frag) (C : Addr) (sp : Sp) (E : XK) : R2 := fun x y H Q => ∃ p dx fs t, x = .ref p ∧ H p = some (.ins C dx fs) ∧
  TyX K H y t ∧ PySem.W.notFirst K C t = true ∧ sp [x, y] H (fun v H' => (∃ c, v = .bl c) ∧ Q v H') E
theorem cmpO {op : CmpOp} {E : XK} (hm : Meth X.K C (cmpInfo op).2.1 f) (F : FnOk X.prog X.w X.K X.mg X.base CX k f fd ps sp) (hr : Room (k + 1) X.A)
    (hb : Binds X.K fd ps []) (hx : ∀ σ, PassesAt CX X σ E)
    {pins : List (Addr × Obj)} {s : Shared} {σ : L2.St} {H : Hp} {x y : V} {v u : Value} {Q : VK} (I : Inv X pins σ H s) (rx : RelV x v) (ry : RelV y u)
    (h : rCmpO X.K C sp E x y H Q) : wpAny (model X.prog X.w) X.A (richCompare op v u) (EP X pins σ Q) X.xe s := by
  obtain ⟨p, dx, fs, t, rfl, ep, ty, hn, hsp⟩ := h
  cases rx
  obtain ⟨od, J⟩ := seen I ep
  obtain ⟨P, Z, hP, _⟩ := kit_of I ry ty
  obtain ⟨m, hF⟩ := I.fr
  refine PySem.W.cmp_K (op := op) (tb := t) hr.units0 hF I.ok.mod.kin J (Z.ty _ _ I.kIn hP) hn hm.at_ hm.fn ?_
  refine wpAny_mono (runAt (.inl rfl) F hr hb .nil (hx σ) I (.cons (show RelV (V.ref p) (Value.ref p) from rfl) (.cons ry .nil)) hsp) ?_ (fun _ _ z => z)
  rintro w s' ⟨z, H', I', rz, ⟨c, rfl⟩, q⟩
  cases rz
  exact ⟨.bl c, H', I', rfl, q⟩
theorem op_eqO {E : XK} (hm : Meth X.K C "__eq__" f) (F : FnOk X.prog X.w X.K X.mg X.base CX k f fd ps sp) (hr : Room (k + 1) X.A)
    (hb : Binds X.K fd ps []) (hx : ∀ σ, PassesAt CX X σ E) : OpR X (compareOp .Eq) (rCmpO X.K C sp E) := by
  intro pins s σ H x y v u Q I rx ry h
  exact cmpO (op := .Eq) hm F hr hb hx I rx ry h
theorem op_ltO {E : XK} (hm : Meth X.K C "__lt__" f) (F : FnOk X.prog X.w X.K X.mg X.base CX k f fd ps sp) (hr : Room (k + 1) X.A)
    (hb : Binds X.K fd ps []) (hx : ∀ σ, PassesAt CX X σ E) : OpR X (compareOp .Lt) (rCmpO X.K C sp E) := by
  intro pins s σ H x y v u Q I rx ry h
  exact cmpO (op := .Lt) hm F hr hb hx I rx ry h

/-! ### len, truth, items -/
def rLenO (C : Addr) (sp : Sp) (E : XK) : List V → Hp → VK → Prop := fun xs H Q => ∃ p dx fs, xs = [.ref p] ∧ H p = some (.ins C dx fs) ∧
  sp [.ref p] H (fun v H' => ∃ n : Int, v = .int n ∧ 0 ≤ n ∧ n < 2 ^ 63 ∧ Q (.int n) H') E
theorem call_lenO {E : XK} (hm : Meth X.K C "__len__" f) (F : FnOk X.prog X.w X.K X.mg X.base CX k f fd ps sp) (hr : Room (k + 1) X.A)
    (hb : Binds X.K fd ps []) (hx : ∀ σ, PassesAt CX X σ E) : CallR X (.builtin "len") (rLenO C sp E) := by
  intro pins s σ H xs us Q I r h
  obtain ⟨p, dx, fs, rfl, ep, hsp⟩ := h
  obtain ⟨u, rfl, hu1⟩ := vals1 r
  cases hu1
  obtain ⟨od, J⟩ := seen I ep
  obtain ⟨m, hF⟩ := I.fr
  refine PySem.W.len_K hF I.ok.mod.kin J hm.at_ hm.fn ?_
  refine wpAny_mono (runAt (.inr rfl) F hr hb .nil (hx σ) I (.cons (show RelV (V.ref p) (Value.ref p) from rfl) .nil) hsp) ?_ (fun _ _ z => z)
  rintro w s' ⟨z, H', I', rz, n, rfl, h0, h1, q⟩
  obtain ⟨t, rfl⟩ := rz
  exact ⟨⟨h0, h1⟩, .int n, H', I'.tok _, ⟨_, rfl⟩, q⟩
def rTruO (C : Addr) (sp : Sp) (E : XK) : V → Hp → (Bool → Hp → Prop) → Prop := fun x H Q => ∃ p dx fs, x = .ref p ∧ H p = some (.ins C dx fs) ∧
  sp [.ref p] H (fun v H' => ∃ c, v = .bl c ∧ Q c H') E
theorem tru_O {E : XK} (hm : Meth X.K C "__bool__" f) (F : FnOk X.prog X.w X.K X.mg X.base CX k f fd ps sp) (hr : Room (k + 1) X.A)
    (hb : Binds X.K fd ps []) (hx : ∀ σ, PassesAt CX X σ E) : TruR X (rTruO C sp E) := by
  intro pins s σ H x v Q I rx h
  obtain ⟨p, dx, fs, rfl, ep, hsp⟩ := h
  cases rx
  obtain ⟨od, J⟩ := seen I ep
  obtain ⟨m, hF⟩ := I.fr
  refine PySem.W.truthy_K hF I.ok.mod.kin J hm.at_ hm.fn ?_
  refine wpAny_mono (runAt (.inl rfl) F hr hb .nil (hx σ) I (.cons (show RelV (V.ref p) (Value.ref p) from rfl) .nil) hsp) ?_ (fun _ _ z => z)
  rintro w s' ⟨z, H', I', rz, c, rfl, q⟩
  cases rz
  exact ⟨H', I', q⟩
/-- o[i] by the own method, which may raise -/
def tIxO (C : Addr) (sp : Sp) (E : L2.St → XK) (ta tb : TE) : TE := fun σ H Q => ta σ H fun x H1 => tb σ H1 fun y H2 =>
  ∃ p dx fs, x = .ref p ∧ H2 p = some (.ins C dx fs) ∧ sp [x, y] H2 Q (E σ)
theorem pe_ixO {E : L2.St → XK} (hm : Meth X.K C "__getitem__" f) (hfn : PySem.W.fnIn X.K f = true) (F : FnOk X.prog X.w X.K X.mg X.base CX k f fd ps sp)
    (hr : Room (k + 1) X.A) (hb : Binds X.K fd ps []) (hx : ∀ σ, PassesAt CX X σ (E σ)) (ha : PE X a ta) (hb' : PE X b tb)
    (hs : ∀ v u : Value, subscripted b true v u = runValue (.builtin "lifetime.subscript" ⟨[v, u], []⟩) := by intro _ _; with_unfolding_all rfl) :
    PE X (.Subscript a b pos) (tIxO C sp E ta tb) := by
  refine ⟨fun pins s σ H Q I h => ?_⟩
  refine Subscript_ (binT ha hb' I h fun v u s2 x y H2 I2 rx ry q => ?_)
  obtain ⟨p, dx, fs, rfl, ep, hsp⟩ := q
  cases rx
  obtain ⟨od, J⟩ := seen I2 ep
  obtain ⟨m, hF⟩ := I2.fr
  refine PySem.W.sub_K hF I2.ok.mod.kin J hm.at_ hfn hm.fn ?_ (hs _ _)
  exact runAt (.inr rfl) F hr hb .nil (hx σ) I2 (.cons (show RelV (V.ref p) (Value.ref p) from rfl) (.cons ry .nil)) hsp
end
end Gd

set_option Elab.async false
set_option linter.all false
set_option maxRecDepth 100000
set_option maxHeartbeats 4000000
/-! iter(a tuple), and list(o) of an own class that hands on such an iterator and has a length. -/
namespace PySem
section
variable {prog : Program} {w : World} {A : Around} {E : Value → Shared → Prop} {s : Shared}
/-- the end of a tuple's iterator, which stays an object -/
theorem tuple_next_end {it t : Addr} {i : Nat} {items : Array Value} {Q : Option Value → Shared → Prop} (hh : A.handled = none)
    (hit : s.heap.IsTupleIter it t i) (ht : s.heap.IsTuple t items) (hx : items[i]? = none)
    (hQ : ∀ h', (∀ b o, b ≠ it → s.heap.get? b = some o → h'.get? b = some o) → (∃ o, h'.get? it = some o) → Q none { s with heap := h' }) :
    wpAny (model prog w) A (pyNext (.ref it)) Q E s := by
  obtain ⟨o, ho, hc, hd⟩ := id hit
  obtain ⟨ol, hol, _, nl, hdl⟩ := ht
  have self := Heap.get?_update_self (Obj.mapFields (·.setIfInBounds 0 Value.none)) ho (Obj.isFreed_of_fields (Obj.data_mapFields hd _))
  unfold pyNext
  refine wpAny_bind (wpAny_attempt (wpAny_callSpecial?_slot (name := Str.ofString "__next__") hit.typeIs F.slot_tuple_iterator_next (wpAny_call_entry
    F.slot_tuple_iterator_next hit.typeIs F.entry_tuple_iterator_next ?_ (F.args_tuple_iterator_next_1 _))))
  show wpAny _ _ (field (.ref it) 0 >>= _) _ _ s
  refine wpAny_bind (wpAny_field ho hd (x := .ref t) rfl ?_)
  have nn : ¬ ((Value.ref t == Value.none) = true) := Bool.false_ne_true
  show wpAny _ _ (if (Value.ref t == Value.none) = true then _ else _) _ _ s
  rw [if_neg nn]
  show wpAny _ _ (field (.ref it) 1 >>= _) _ _ s
  refine wpAny_bind (wpAny_field ho hd (x := .int i 0) rfl ?_)
  show wpAny _ _ (seqItems? (.ref t) >>= _) _ _ s
  refine wpAny_bind (wpAny_seqItems hol hdl ?_)
  simp only [Int.toNat_natCast, hx]
  refine wpAny_bind (wpAny_rule (wpAny_bind (wpAny_setField ho hd (by simp) ?_)))
  show wpAny _ _ (newExc (.type "StopIteration") [] >>= _) _ _ _
  refine wpAny_bind ?_
  simp only [newExc, newTuple]
  refine wpAny_bind (wpAny_newObj_type ?_ (by size_fits))
  refine wpAny_bind (m := firstArgMember _ _) (wpAny_of_eq (a := Value.none) (by first | rfl | (simp only [firstArgMember]; rfl)) ?_)
  refine wpAny_newObj_type ?_ (by size_fits)
  simp only [raiseNew]
  refine wpAny_bind (wpAny_handled ?_)
  first | rw [show A.in1.handled = none from hh] | rw [hh]
  refine wpAny_bind (wpAny_pure (wpAny_throw ?_))
  refine wpAny_bind (wpAny_isInstance (T := "StopIteration") (b := true) ⟨_, Heap.get?_push_size _ rfl, rfl⟩ isSubtype_stop ?_)
  refine wpAny_pure (hQ _ (fun b o hb e => ?_) ⟨_, Heap.get?_push_of_some _ (Heap.get?_push_of_some _ self)⟩)
  exact Heap.get?_push_of_some _ (Heap.get?_push_of_some _ ((Heap.get?_update_other _ _ (Ne.symm hb)).trans e))
end
end PySem

namespace Gd
open PySem PySem.Spec PyProof.Rows L2
/-- at it: an iterator over the tuple at t, behind i items; | whatever it is -/
def TitO (t it : Addr) (i : Nat) : HO := .ext fun h => h.IsTupleIter it t i
def OddO (it : Addr) : HO := .ext fun h => ∃ o, h.get? it = some o
section
variable {P : Program} {w : World} {H : Hp} {h : Heap} {t it : Addr} {i : Nat}
theorem tit_ok (e : h.IsTupleIter it t i) : ObjOk P w H h it (TitO t it i) := by
  obtain ⟨o, ho, r⟩ := e
  exact ⟨⟨o, ho, r⟩, ⟨o, ho⟩, fun h1 h2 ⟨o', q, r'⟩ k => ⟨o', k _ q, r'⟩⟩
theorem odd_ok (e : ∃ o, h.get? it = some o) : ObjOk P w H h it (OddO it) := ⟨e, e, fun h1 h2 ⟨o', q⟩ k => ⟨o', k _ q⟩⟩
end
section
variable {X : Cx} {pins : List (Addr × Obj)} {σ : L2.St} {H : Hp} {s : Shared} {t it q a : Addr} {i : Nat} {ys : List V}
/-- iter(t), t a tuple -/
def rIterT (K : PySem.W.Frag) : List V → Hp → VK → Prop := fun xs H Q => ∃ (t : Addr) (ys : List V), xs = [.ref t] ∧ SqT K H t ys ∧ ∀ it, H it = none → Q (.ref it) (upd H it (TitO t it 0))
theorem isTuple_of {h : Heap} {a : Addr} {items : Array Value} (x : IsTup h a items) : h.IsTuple a items := by
  obtain ⟨o, h1, h2, h3⟩ := x
  exact ⟨o, h1, h2, by first | exact h3 | exact h3.2⟩
theorem call_iterT : CallR X (.builtin "iter") (rIterT X.K) := by
  intro pins s σ H xs us Q I r h
  obtain ⟨t, ys, rfl, hq, q⟩ := h
  obtain rfl := Vals.ref1 r
  obtain ⟨its, rv, pl, hz⟩ := I.tuple hq
  refine Calls.call_function_entry (by decide +kernel) (by decide +kernel) PySem.W.kdk_entry_iter (PySem.W.kdk_args_iter _) ?_
  unfold Builtin.«iter»
  refine wpAny_bind (m := someArgs "iter" 1 2 _) (wpAny_of_eq (a := [Value.ref t]) (by first | rfl | kernel_rfl!) ?_)
  show wpAny _ _ (pyIter (.ref t) >>= _) _ _ _
  refine wpAny_bind (wpAny_pyIter_tuple (isTuple_of pl) ?_)
  refine wpAny_pure ⟨_, rfl, ?_⟩
  have nw : H s.heap.objs.size = none := I.hok.fresh (Nat.le_refl _)
  refine ⟨.ref s.heap.objs.size, _, I.laid (t' := s.toks) (fun b u e => Heap.get?_push_of_some _ e) (Nat.le_refl _) (tit_ok ⟨_, Heap.get?_push_size _ rfl, rfl, rfl⟩), rfl, q _ nw⟩

theorem take_one {α : Type} : ∀ {l : List α} {i : Nat} (h : i < l.length), l.take (i + 1) = l.take i ++ [l[i]]
  | a :: l, 0, _ => rfl
  | a :: l, i + 1, h => by
    have h' : i < l.length := Nat.lt_of_succ_lt_succ h
    have ih := take_one (l := l) (i := i) h'
    show a :: l.take (i + 1) = (a :: l.take i) ++ [l[i]'h']
    rw [ih]
    rfl
/-- what is known stays known, but for the iterator and the list -/
def But (q it : Addr) (H H' : Hp) : Prop := ∀ b o, b ≠ q → b ≠ it → H b = some o → H' b = some o
theorem drain {A1 : Around} {Rs : Result → Shared → Prop} (hh : A1.in1.handled = none) (hqi : q ≠ it) (hqt : q ≠ t) (hti : t ≠ it) (H0 : Hp)
    (hys : ys.length < sizeLine) (ht0 : SqT X.K H0 t ys)
    (hdone : ∀ H' s', Inv X pins σ H' s' → But q it H0 H' → H' q = some (.lst ys) → H' it = some (OddO it) → Rs (.ok (.ret .none)) s') :
    ∀ (m i : Nat) (H : Hp) (s : Shared), m + i = ys.length → Inv X pins σ H s → But q it H0 H → H it = some (TitO t it i) → H q = some (.lst (ys.take i)) →
      codeAny (model X.prog X.w) A1 (.builtin "list.extend.loop" ⟨[.ref q, .ref it, .none], []⟩) Rs s := by
  intro m
  induction m with
  | zero =>
    intro i H s hi I hB hit hq
    have ht : SqT X.K H t ys := by
      rcases ht0 with (z | ⟨o, z⟩) | z
      · exact .inl (.inl (hB _ _ hqt.symm hti z))
      · exact .inl (.inr ⟨o, hB _ _ hqt.symm hti z⟩)
      · exact .inr z
    obtain ⟨its, rv, pl, hz⟩ := I.tuple ht
    refine codeAny_builtin PySem.F.entry_extend_loop ?_
    rw [Around.under_plainId PySem.F.plain_extend_loop _]
    show wpAny _ A1.in1 (pyNext (.ref it) >>= _) _ _ s
    have hx : its.toArray[i]? = none := by
      have e := rv.length
      rw [List.getElem?_toArray, List.getElem?_eq_none_iff]
      omega
    have T : s.heap.IsTupleIter it t i := (I.hok it _ hit).1
    refine wpAny_bind (PySem.tuple_next_end (items := its.toArray) hh T (isTuple_of pl) hx ?_)
    intro h' keep ex
    have J : Inv X pins σ (upd H it (OddO it)) { s with heap := h' } := by
      refine I.write (t' := s.toks) (x := it) (e := it) (by rw [hit]; exact True.intro) (.inl rfl) (fun b u hb hu => keep b u hb hu) ex (odd_ok ex)
    refine wpAny_pure (hdone _ _ J ?_ ?_ upd_same)
    · intro b o h1 h2 e
      rw [upd_ne h2]
      exact hB b o h1 h2 e
    · rw [upd_ne hqi, hq, List.take_of_length_le (by omega)]
  | succ m ih =>
    intro i H s hi I hB hit hq
    have ht : SqT X.K H t ys := by
      rcases ht0 with (z | ⟨o, z⟩) | z
      · exact .inl (.inl (hB _ _ hqt.symm hti z))
      · exact .inl (.inr ⟨o, hB _ _ hqt.symm hti z⟩)
      · exact .inr z
    obtain ⟨its, rv, pl, hz⟩ := I.tuple ht
    have hlt : i < ys.length := by omega
    obtain ⟨u, hu, ru⟩ := rv.get (List.getElem?_eq_getElem hlt)
    refine codeAny_builtin PySem.F.entry_extend_loop ?_
    rw [Around.under_plainId PySem.F.plain_extend_loop _]
    show wpAny _ A1.in1 (pyNext (.ref it) >>= _) _ _ s
    have T : s.heap.IsTupleIter it t i := (I.hok it _ hit).1
    refine wpAny_bind (wpAny_pyNext_tuple_item (items := its.toArray) T (isTuple_of pl) (by rw [List.getElem?_toArray]; exact hu) ?_)
    intro h' T' same
    have ex : ∃ o, h'.get? it = some o := by
      obtain ⟨o, ho, _⟩ := T'
      exact ⟨o, ho⟩
    have J : Inv X pins σ (upd H it (TitO t it (i + 1))) { s with heap := h' } :=
      I.write (t' := s.toks) (x := it) (e := it) (by rw [hit]; exact True.intro) (.inl rfl) (fun b u hb hu => (same.2 b hb).trans hu) ex (tit_ok T')
    have hq' : upd H it (TitO t it (i + 1)) q = some (.lst (ys.take i)) := by rw [upd_ne hqi]; exact hq
    obtain ⟨z, its2, n2, r2, hl2, e2⟩ := J.lstM hq'
    have l2 : its2.length ≤ i := by rw [← hl2, List.length_take]; omega
    show wpAny _ A1.in1 (updateSeq q (·.push u) >>= _) _ _ _
    refine wpAny_bind (wpAny_updateSeq e2 rfl (wpAny_pure ⟨plainId_quiet PySem.F.plain_extend_loop _, ?_⟩) (by rw [List.size_toArray]; omega) (by show (its2.toArray.push u).size ≤ sizeLine + 1; rw [Array.size_push, List.size_toArray]; omega))
    have tk : ys.take (i + 1) = ys.take i ++ [ys[i]] := take_one hlt
    have J2 := J.lset (f := (·.push u)) (its' := its2 ++ [u]) (ys := ys.take i ++ [ys[i]]) (t' := s.toks) hq' e2 (List.push_toArray its2 u) (r2.append (.cons ru .nil)) (by rw [List.length_append, List.length_singleton, List.length_take]; omega)
    refine ih (i + 1) _ _ (by omega) J2 ?_ ?_ (by rw [tk, upd_same])
    · intro b o h1 h2 e
      rw [upd_ne h1, upd_ne h2]
      exact hB b o h1 h2 e
    · rw [upd_ne hqi.symm, upd_same]

/-- the list's room is made -/
theorem touched {q : Addr} {A : Around} {R : Unit → Shared → Prop} {E : Value → Shared → Prop} (I : Inv X pins σ H s) (hq : H q = some (.lst []))
    (h : ∀ s', Inv X pins σ H s' → R () s') : wpAny (model X.prog X.w) A (Builtin.List.listTouch (.ref q)) R E s := by
  obtain ⟨z, its, k, r3, hl3, e3⟩ := I.lstM hq
  cases r3
  show wpAny _ _ (updateSeq q (·.push .none) >>= fun _ => updateSeq q (·.pop)) _ _ _
  refine wpAny_bind (wpAny_updateSeq e3 rfl ?_)
  have I2 := I.lset (f := (·.push Value.none)) (its' := [Value.none]) (ys := [.non]) (t' := s.toks) hq e3 (by simp) (.cons rfl .nil) (by rw [List.length_singleton, sizeLine_eq]; decide)
  obtain ⟨z4, its4, k4, r4, hl4, e4⟩ := I2.lstM upd_same
  obtain ⟨u4, rfl, ru4⟩ := r4.one
  refine wpAny_updateSeq e4 rfl ?_ (by show 1 ≤ sizeLine; rw [sizeLine_eq]; decide) (by show 0 ≤ sizeLine + 1; exact Nat.zero_le _)
  have I3 := I2.lset (f := (·.pop)) (its := [u4]) (its' := []) (ys := []) (t' := s.toks) upd_same e4 (by rfl) .nil (Nat.zero_le _)
  rw [upd_upd] at I3
  have hH : upd H q (.lst []) = H := by
    funext b
    by_cases hb : b = q
    · rw [hb, upd_same, hq]
    · rw [upd_ne hb]
  rw [hH] at I3
  exact h _ I3

/-- a class whose instances hand on a tuple's iterator, and have a length -/
structure ItT (K : PySem.W.Frag) (C fi fl : Addr) : Prop where
  it : Meth K C "__iter__" fi
  ln : Meth K C "__len__" fl
/-- what its __iter__ promises: an iterator of the tuple that R tells; what its __len__ promises -/
def spIt (K : PySem.W.Frag) (R : Addr → Addr → List V → Hp → Prop) : Sp := fun vs H Q _ => ∃ a t ys, vs = [.ref a] ∧ R a t ys H ∧ SqT K H t ys ∧ ∀ it, H it = none → Q (.ref it) (upd H it (TitO t it 0))
def spLn (R : Addr → Addr → List V → Hp → Prop) : Sp := fun vs H Q _ => ∃ a t ys, vs = [.ref a] ∧ R a t ys H ∧ Q (.int (ys.length : Int)) H
/-- list(o) -/
def rListO (K : PySem.W.Frag) (C : Addr) (R : Addr → Addr → List V → Hp → Prop) : List V → Hp → VK → Prop := fun xs H Q =>
  ∃ a dx fs t ys, xs = [.ref a] ∧ H a = some (.ins C dx fs) ∧ (∀ H', (∀ b o, H b = some o → H' b = some o) → R a t ys H') ∧ SqT K H t ys ∧ ys.length < sizeLine ∧
    ∀ q H', (∀ b o, H b = some o → H' b = some o) → H q = none → H' q = some (.lst ys) → Q (.ref q) H'
theorem call_listO {C fi fl : Addr} {k : Nat} {fdI fdL : FuncData} {psI psL : List Str} {R : Addr → Addr → List V → Hp → Prop} (hc : ItT X.K C fi fl)
    (FI : FnOk X.prog X.w X.K X.mg X.base CX0 k fi fdI psI (spIt X.K R)) (bI : Binds X.K fdI psI []) (FL : FnOk X.prog X.w X.K X.mg X.base CX0 k fl fdL psL (spLn R)) (bL : Binds X.K fdL psL [])
    (hr : Room (k + 5) X.A) : CallR X (.type "list") (rListO X.K C R) := by
  intro pins s σ H xs us Q I rv h
  obtain ⟨a, dx, fs, t, ys, rfl, ha, hR, ht, hlen, hq⟩ := h
  obtain ⟨u, rfl, ru⟩ := rv.one
  cases ru
  have rm2 : Room (k + 3) X.A.in1.in1 := (hr.in1).in1
  have sb : Sub X (k + 3) X.A.in1.in1 := Sub.in1 (Sub.in1 (⟨hr, rfl⟩ : Sub X (k + 5) X.A))
  refine callType_codes (Q₁ := fun obj s₁ => obj = .ref s.heap.objs.size ∧ s₁ = { s with heap := s.heap.push { cls := .type "list", data := .seq #[] } }) PySem.F.called_list (PySem.F.typeCall_list_1 _) PySem.F.entry_list_init
    (code_list_new _ ⟨rfl, rfl⟩) ?_
  intro obj s₁ h₁
  obtain ⟨rfl, rfl⟩ := h₁
  have hS : (s.heap.push { cls := .type "list", data := .seq #[] }).get? s.heap.objs.size = some { cls := .type "list", data := .seq #[] } := Heap.get?_push_size _ rfl
  refine ⟨⟨_, hS, rfl⟩, PySem.F.args_list_init_2 _ _, ?_⟩
  have fr : H s.heap.objs.size = none := I.hok.fresh (Nat.le_refl _)
  have I1 : Inv X pins σ (upd H s.heap.objs.size (.lst [])) { s with heap := s.heap.push { cls := .type "list", data := .seq #[] } } := I.lnew (its := []) (t' := s.toks) .nil (Nat.zero_le _)
  generalize hqq : s.heap.objs.size = q at *
  show wpAny _ _ (do let old ← Builtin.List.listItems (.ref q); Builtin.List.listUpdate (.ref q) (fun _ => #[]); letGo old.toList.reverse; Builtin.List.listExtendWith (.ref q) (.ref a) .none) _ _ _
  refine wpAny_bind ?_
  unfold Builtin.List.listItems
  refine wpAny_bind (wpAny_seqItems hS rfl (wpAny_pure ?_))
  show wpAny _ _ (updateSeq q (fun _ => #[]) >>= fun _ => letGo (#[] : Array Value).toList.reverse >>= fun _ => Builtin.List.listExtendWith (.ref q) (.ref a) .none) _ _ _
  refine wpAny_bind (wpAny_updateSeq hS rfl ?_)
  have I2 := I1.lset (f := fun _ => #[]) (its := []) (its' := []) (ys := []) (t' := s.toks) upd_same hS rfl .nil (Nat.zero_le _)
  rw [upd_upd] at I2
  refine wpAny_bind (wpAny_letGo ?_)
  have H2ext : ∀ b o, H b = some o → upd H q (.lst []) b = some o := fun b o e => by
    rw [upd_ne (ne_of_none e fr)]
    exact e
  have ha2 := H2ext _ _ ha
  have hq2 : upd H q (.lst []) q = some (.lst []) := upd_same
  have ht2 : SqT X.K (upd H q (.lst [])) t ys := ht.ext H2ext
  generalize hH2 : upd H q (.lst []) = H2 at *
  have hne : q ≠ a := ne_of hq2 ha2 (fun z => nomatch z)
  obtain ⟨od, J⟩ := seen I2 ha2
  obtain ⟨m0, hF⟩ := I2.fr
  unfold Builtin.List.listExtendWith
  refine wpAny_bind (J.type.here ?_)
  have h1 : Builtin.List.listSameRef (.ref q) (.ref a) = false := by simp [Builtin.List.listSameRef, hne]
  have h2 : (Value.ref C == Value.type "list") = false := rfl
  have h3 : (Value.ref C == Value.type "tuple") = false := rfl
  simp only [h1, h2, h3, Bool.or_false, Bool.false_eq_true, if_false]
  refine wpAny_bind (PySem.W.owit_iter hF I2.ok.mod.kin J hc.it.at_ hc.it.fn ?_)
  have e0 : Env0 X.prog X.w X.K X.mg X.base X.A.in1.in1 X.stack _ H2 := I2.env0.in1.in1
  have room : Room k X.A.in1.in1 := rm2.mono (by omega)
  have hspI : spIt X.K R [.ref a] H2 (fun v H' => ∃ it, v = .ref it ∧ H2 it = none ∧ H' = upd H2 it (TitO t it 0)) E0 := ⟨a, t, ys, rfl, hR _ H2ext, ht2, fun it n => ⟨it, rfl, n, rfl⟩⟩
  have hl := FI.len _ _ _ _ hspI
  have r2 : Vals [V.ref a] [Value.ref a] := .cons rfl .nil
  refine wpAny_call (codeAny_mono (FI.run X.A.in1.in1 X.stack _ H2 ⟨[.ref a], []⟩ [.ref a] [.ref a] _ E0 room e0 (by
    have := bI _ [.ref a] I2.kIn (by simpa using hl)
    simpa using this) r2 hspI) ?_)
  intro r s' hq'
  match r, hq' with
  | .error e, hq' => exact hq'.elim
  | .ok .next, hq' => exact False.elim hq'
  | .ok .brk, hq' => exact False.elim hq'
  | .ok .cont, hq' => exact False.elim hq'
  | .ok (.ret u), hq' =>
    obtain ⟨v, H3, I3, rv3, it, rfl, itn, rfl⟩ := I2.after hq'
    cases rv3
    have hit : upd H2 it (TitO t it 0) it = some (TitO t it 0) := upd_same
    have T : s'.heap.IsTupleIter it t 0 := (I3.hok it _ hit).1
    have E3 : ∀ b o, H b = some o → upd H2 it (TitO t it 0) b = some o := fun b o e => by
      rw [upd_ne (ne_of_none (H2ext _ _ e) itn)]
      exact H2ext _ _ e
    have ha3 := E3 _ _ ha
    have hqi : q ≠ it := ne_of_none hq2 itn
    have hq3 : upd H2 it (TitO t it 0) q = some (.lst []) := by
      rw [upd_ne hqi]
      exact hq2
    have ht3 : SqT X.K (upd H2 it (TitO t it 0)) t ys := ht.ext E3
    have hqt : q ≠ t := by
      intro z
      subst z
      rcases ht with (z | ⟨o, z⟩) | ⟨o, its, n, z, hcls, _⟩
      · rw [fr] at z
        cases z
      · rw [fr] at z
        cases z
      · obtain ⟨_, its2, n2, _, _, e2⟩ := I2.lstM hq2
        have e3 := I2.kIn _ _ z
        rw [e2] at e3
        cases (Option.some.inj e3)
        exact absurd (Value.type.inj hcls) (by decide)
    have hti : t ≠ it := by
      intro z
      subst z
      rcases ht2 with (z | ⟨o, z⟩) | ⟨o, its, n, z, hcls, _⟩
      · rw [itn] at z
        cases z
      · rw [itn] at z
        cases z
      · obtain ⟨o2, e2, c2, _⟩ := T
        have e3 := I3.kIn _ _ z
        rw [e2] at e3
        cases (Option.some.inj e3)
        rw [c2] at hcls
        exact absurd (Value.type.inj hcls) (by decide)
    refine wpAny_specialOf (Heap.IsTupleIter.typeIs T) PySem.F.slot_tuple_iterator_next.lookup ?_
    have loop : ∀ s4, Inv X pins σ (upd H2 it (TitO t it 0)) s4 → codeAny (model X.prog X.w) X.A.in1 (.builtin "list.extend.loop" ⟨[.ref q, .ref it, .none], []⟩)
        (wants (fun r s₂ => r = Value.none ∧ EP X pins σ Q (Value.ref q) s₂) X.xe) s4 := by
      intro s4 I4
      refine drain (A1 := X.A.in1) rm2.hd hqi hqt hti (upd H2 it (TitO t it 0)) hlen ht3 ?_ ys.length 0 _ s4 rfl I4 (fun b o _ _ e => e) hit (by rw [List.take_zero]; exact hq3)
      intro H' s5 I5 hB5 hq5 _
      refine ⟨rfl, .ref q, H', I5, rfl, hq q H' ?_ fr hq5⟩
      intro b o e
      have nq : b ≠ q := ne_of_none e fr
      have ni : b ≠ it := ne_of_none (H2ext _ _ e) itn
      exact hB5 b o nq ni (E3 _ _ e)
    have fin : ∀ s4, Inv X pins σ (upd H2 it (TitO t it 0)) s4 → wpAny (model X.prog X.w) X.A.in1.in1 (again (.builtin "list.extend.loop" ⟨[.ref q, .ref it, .none], []⟩))
        (fun fin s' => match fin with | .done f => wants (fun r s₂ => r = Value.none ∧ EP X pins σ Q (Value.ref q) s₂) X.xe (.ok f) s' | .again c' => c'.quiet = true ∧ codeAny (model X.prog X.w) X.A.in1 c' (wants (fun r s₂ => r = Value.none ∧ EP X pins σ Q (Value.ref q) s₂) X.xe) s')
        (fun e s' => wants (fun r s₂ => r = Value.none ∧ EP X pins σ Q (Value.ref q) s₂) X.xe (.error e) s') s4 := by
      intro s4 I4
      exact wpAny_pure ⟨plainId_quiet PySem.F.plain_extend_loop _, loop s4 I4⟩
    refine wpAny_bind (wpAny_holding ?_)
    obtain ⟨od3, J3⟩ := seen I3 ha3
    obtain ⟨m3, hF3⟩ := I3.fr
    unfold Builtin.List.listLengthHint
    refine wpAny_bind (wpAny_bind (J3.type.here ((PySem.W.looks_findIn I3.kIn hc.ln.at_).here ?_)))
    refine PySem.W.KFB.if_not rfl ?_
    refine PySem.W.KFB.if_so rfl ?_
    refine wpAny_bind (wpAny_rule ?_)
    refine wpAny_bind (m := (call (.builtin "len") [Value.ref a]).attempt) (wpAny_attempt ?_)
    refine PySem.W.len_K hF3 I3.ok.mod.kin J3 hc.ln.at_ hc.ln.fn ?_
    have hspL : spLn R [.ref a] (upd H2 it (TitO t it 0)) (fun v H' => v = .int (ys.length : Int) ∧ H' = upd H2 it (TitO t it 0)) E0 := ⟨a, t, ys, rfl, hR _ E3, rfl, rfl⟩
    have hlL := FL.len _ _ _ _ hspL
    refine wpAny_call (codeAny_mono (FL.run X.A.in1.in1.in1 X.stack _ _ ⟨[.ref a], []⟩ [.ref a] [.ref a] _ E0 (rm2.in1.mono (by omega)) I3.env0.in1.in1.in1 (by
      have := bL _ [.ref a] I3.kIn (by simpa using hlL)
      simpa using this) r2 hspL) ?_)
    intro r4 s4 hq4
    match r4, hq4 with
    | .error e, hq4 => exact hq4.elim
    | .ok .next, hq4 => exact False.elim hq4
    | .ok .brk, hq4 => exact False.elim hq4
    | .ok .cont, hq4 => exact False.elim hq4
    | .ok (.ret u4), hq4 =>
      obtain ⟨v4, H4, I4, rv4, rfl, rfl⟩ := I3.after hq4
      obtain ⟨tk4, rfl⟩ := rv4
      have l63 := line63
      refine ⟨⟨Int.natCast_nonneg _, by omega⟩, ?_⟩
      show wpAny _ _ (asInt? (Value.int (ys.length : Int) s4.toks) >>= _) _ _ _
      refine wpAny_bind (wpAny_pure ?_)
      show wpAny _ _ (if Builtin.List.listTooLong (ys.length : Int).toNat = true then _ else _) _ _ _
      rw [if_neg (by rw [Int.toNat_natCast, notLongL (Nat.le_of_lt hlen)]; exact Bool.false_ne_true)]
      refine wpAny_pure ?_
      have I5 := I4.tok (s4.toks + 1)
      refine wpAny_ite_split (fun _ => ?_) (fun _ => fin _ I5)
      exact wpAny_bind (wpAny_rule (wpAny_bind (touched I5 hq3 fin)))
end
end Gd

set_option Elab.async false
set_option linter.all false
set_option maxRecDepth 100000
set_option maxHeartbeats 4000000
/-! bool(o) and != of own classes. -/
namespace PySem
section
variable {prog : Program} {w : World} {A : Around} {E : Value → Shared → Prop} {s : Shared}
theorem bool_new_any (x : Value) : MeetsIn prog w (Builtin.«bool.__new__» ⟨[.type "bool", x], []⟩) (fun A R s =>
    wpAny (model prog w) A.in1 (truthy x) (fun b s' => R (.ok (.ret (.bool b))) s') (fun e s' => R (.error e) s') s) := by
  intro A R s h
  have f1 := F.conv_sub_bool
  unfold Builtin.«bool.__new__»
  refine wpAny_bind (wpAny_of_eq (a := true) (by first | rfl | kernel_rfl) ?_)
  refine PySem.W.KFB.if_not rfl ?_
  refine wpAny_bind (wpAny_of_eq f1 ?_)
  refine PySem.W.KFB.if_not rfl ?_
  refine wpAny_bind (m := someArgs "bool" 0 1 _) (wpAny_of_eq (a := [x]) (by first | rfl | kernel_rfl!) ?_)
  refine wpAny_bind (wpAny_mono h (fun b s' q => ?_) fun _ _ z => z)
  exact wpAny_pure q
theorem call_bool_any {x : Value} {Q : Value → Shared → Prop}
    (h : wpAny (model prog w) A.in1.in1 (truthy x) (fun b s' => Q (.bool b) s') E s) : wpAny (model prog w) A (call (.type "bool") [x]) Q E s := by
  refine callType_newIn F.called_bool F.newNe_bool (F.typeCall_bool_1 x) (F.newCall_bool_1 x) (fun obj => F.args_object_init_2 obj x) F.entry_bool_new (bool_new_any x) ?_
  exact wpAny_mono h (fun b s' q => ⟨rfl, q⟩) fun _ _ z => z
end
end PySem

namespace HN2
open PySem PySem.Spec PyProof.Rows PySem.SeqAt
section
variable {prog : Program} {w : World} {A : Around} {E : Value → Shared → Prop} {s : Shared} {K : PySem.W.Frag} {x C f : Addr} {ox : Obj} {od : Option Obj} {y : Value}
theorem ne_entry (hu : A.units < cLine) (X : K.In s.heap) (I : PySem.W.InstAt s.heap x ox C od) (hs : PySem.W.findIn K (.ref C) "__eq__" = some (some (.ref f))) (hf : PySem.W.isFn K (.ref f) = true) {Q : Fin → Shared → Prop}
    (h : wpAny (model prog w) A (call (.ref f) [.ref x, y]) (fun v s' => ∃ b, v = .bool b ∧ Q (.done (.ret (.bool (!b)))) s') E s) :
    wpAny (model prog w) A (Builtin.«object.__ne__» ⟨[.ref x, y], []⟩) Q E s := by
  unfold Builtin.«object.__ne__»
  refine wpAny_bind (m := slotArgs "__ne__" 1 _) (wpAny_of_eq (a := (Value.ref x, [y])) (by first | rfl | kernel_rfl!) ?_)
  refine wpAny_bind (wpAny_cRoomFor hu ?_)
  refine wpAny_bind (m := callSpecialIfBound? (.ref x) (Str.ofString "__eq__") [y]) (PySem.W.ifBound_K X I hs hf (wpAny_mono h (fun v s' z => ?_) fun _ _ z => z))
  obtain ⟨b, rfl, q⟩ := z
  exact wpAny_bind (wpAny_truthy_bool (wpAny_pure q))
theorem ifBound_ne {M : Model} {args : List Value} {Q : Option Value → Shared → Prop} (X : K.In s.heap) (I : PySem.W.InstAt s.heap x ox C od) (hs : PySem.W.findIn K (.ref C) "__ne__" = some (some (.builtin "object.__ne__")))
    (h : wpAny M A (call (.builtin "object.__ne__") (.ref x :: args)) (fun v => Q (some v)) E s) : wpAny M A (callSpecialIfBound? (.ref x) "__ne__" args) Q E s := by
  simp only [callSpecialIfBound?, bindSpecialIfBound?]
  refine wpAny_holding (wpAny_bind (wpAny_bind (wpAny_bind (I.type.here ((PySem.W.looks_findIn X hs).here ?_)))))
  refine wpAny_bind (wpAny_askSetting (wpAny_ite ?_))
  have last : wpAny M A (call (.builtin "object.__ne__") ([.ref x] ++ args) >>= fun v => pure (some v)) Q E s :=
    wpAny_bind (wpAny_mono h (fun v s' h' => wpAny_pure h') fun _ _ h' => h')
  split
  · exact wpAny_bind (wpAny_of_eq (F.cmp_object.ne.bind _) (wpAny_pure (by exact last)))
  · exact wpAny_tryCatch (wpAny_bind (wpAny_of_eq (F.cmp_object.ne.bind _) (wpAny_pure (by exact last))))
theorem rich_ne {tb : Value} {Q : Value → Shared → Prop} (hu : A.units + 1 < cLine) (X : K.In s.heap) (I : PySem.W.InstAt s.heap x ox C od) (hb : PySem.W.Looks (model prog w) s.heap (typeOf y) tb)
    (hn : PySem.W.notFirst K C tb = true) (hne : PySem.W.findIn K (.ref C) "__ne__" = some (some (.builtin "object.__ne__"))) (ho : PySem.W.mroIn K C (.type "object") = some true)
    (hs : PySem.W.findIn K (.ref C) "__eq__" = some (some (.ref f))) (hf : PySem.W.isFn K (.ref f) = true)
    (h : wpAny (model prog w) A.in1 (call (.ref f) [.ref x, y]) (fun v s' => ∃ b, v = .bool b ∧ Q (.bool (!b)) s') E s) :
    wpAny (model prog w) A (richCompare .NotEq (.ref x) y) Q E s := by
  have one : wpAny (model prog w) A (tryCompare (.ref x) "__ne__" y) (fun r s' => ∃ v, r = some v ∧ Q v s') E s := by
    unfold tryCompare
    refine wpAny_bind (ifBound_ne X I hne (wpAny_call (codeAny_call_builtin F.cmp_object.ne.plain F.cmpEntry_ne (PySem.W.check_slot F.cmpKind_ne F.cmpSplit_ne (I.type.andThen (PySem.W.looks_mroIn X ho)) (F.cmpArgs_ne _ _)
      (ne_entry (A := A.in1) (by show A.units + 1 < cLine; exact hu) X I hs hf (wpAny_mono h (fun v s' z => ?_) fun _ _ z => z))))))
    obtain ⟨b, rfl, q⟩ := z
    exact ⟨b, rfl, wpAny_pure ⟨_, rfl, q⟩⟩
  unfold richCompare
  simp only [oneThing_ref]
  refine wpAny_holding (wpAny_bind (wpAny_cRoomFor (Nat.lt_of_succ_lt hu) ?_))
  rw [cmpInfo_NotEq]
  dsimp only
  refine wpAny_bind (I.type.here (wpAny_bind (hb.here ?_)))
  split
  · rename_i q
    have e : PySem.W.subIn K tb (.ref C) = some false := by
      rcases Bool.or_eq_true_iff.mp hn with e | e
      · rw [beq_iff_eq.mp e] at q
        simp at q
      · exact beq_iff_eq.mp e
    refine wpAny_bind ((PySem.W.looks_subIn X e).here ?_)
    simp only [Bool.false_eq_true, if_false]
    refine wpAny_bind (m := tryCompare (.ref x) _ y) (wpAny_mono one (fun r s' z => ?_) fun _ _ e => e)
    obtain ⟨v, rfl, hq⟩ := z
    exact wpAny_pure hq
  · refine wpAny_bind (wpAny_pure ?_)
    simp only [Bool.false_eq_true, if_false]
    refine wpAny_bind (m := tryCompare (.ref x) _ y) (wpAny_mono one (fun r s' z => ?_) fun _ _ e => e)
    obtain ⟨v, rfl, hq⟩ := z
    exact wpAny_pure hq
end
end HN2

namespace Gd
open PySem PySem.Spec PyProof.Rows L2
section
variable {X : Cx} {CX : CXT} {k : Nat} {f C : Addr} {fd : FuncData} {ps : List Str} {sp : Sp}
/-- what != of a class with an own == asks of the class -/
structure NeC (K : PySem.W.Frag) (C : Addr) : Prop where
  ne : PySem.W.findIn K (.ref C) "__ne__" = some (some (.builtin "object.__ne__"))
  ob : PySem.W.mroIn K C (.type "object") = some true
def rNeO (K : PySem.W.Frag) (C : Addr) (sp : Sp) (E : XK) : R2 := fun x y H Q => ∃ p dx fs t, x = .ref p ∧ H p = some (.ins C dx fs) ∧
  TyX K H y t ∧ PySem.W.notFirst K C t = true ∧ sp [x, y] H (fun v H' => ∃ c, v = .bl c ∧ Q (.bl (!c)) H') E
theorem op_neO {E : XK} (hn : NeC X.K C) (hm : Meth X.K C "__eq__" f) (F : FnOk X.prog X.w X.K X.mg X.base CX k f fd ps sp) (hr : Room (k + 1) X.A)
    (hb : Binds X.K fd ps []) (hx : ∀ σ, PassesAt CX X σ E) : OpR X (compareOp .NotEq) (rNeO X.K C sp E) := by
  intro pins s σ H x y v u Q I rx ry h
  obtain ⟨p, dx, fs, t, rfl, ep, ty, hnf, hsp⟩ := h
  cases rx
  obtain ⟨od, J⟩ := seen I ep
  obtain ⟨P, Z, hP, _⟩ := kit_of I ry ty
  show wpAny _ _ (richCompare .NotEq _ _) _ _ _
  refine HN2.rich_ne (hu_of hr) I.kIn J (Z.ty _ _ I.kIn hP) hnf hn.ne hn.ob hm.at_ hm.fn ?_
  refine wpAny_mono (runAt (.inr rfl) F hr hb .nil (hx σ) I (.cons (show RelV (V.ref p) (Value.ref p) from rfl) (.cons ry .nil)) hsp) ?_ (fun _ _ z => z)
  rintro w s' ⟨z, H', I', rz, c, rfl, q⟩
  cases rz
  exact ⟨c, rfl, .bl (!c), H', I', rfl, q⟩
/-- bool(o) -/
def rBoolO (C : Addr) (sp : Sp) (E : XK) : List V → Hp → VK → Prop := fun xs H Q => ∃ p dx fs, xs = [.ref p] ∧ H p = some (.ins C dx fs) ∧
  sp [.ref p] H (fun v H' => ∃ c, v = .bl c ∧ Q (.bl c) H') E
theorem call_boolO {E : XK} (hm : Meth X.K C "__bool__" f) (F : FnOk X.prog X.w X.K X.mg X.base CX k f fd ps sp) (hr : Room (k + 2) X.A)
    (hb : Binds X.K fd ps []) (hx : ∀ σ, PassesAt CX X σ E) : CallR X (.type "bool") (rBoolO C sp E) := by
  intro pins s σ H xs us Q I r h
  obtain ⟨p, dx, fs, rfl, ep, hsp⟩ := h
  obtain ⟨u, rfl, hu1⟩ := vals1 r
  cases hu1
  obtain ⟨od, J⟩ := seen I ep
  obtain ⟨m, hF⟩ := I.fr
  refine call_bool_any (PySem.W.truthy_K hF I.ok.mod.kin J hm.at_ hm.fn ?_)
  have hl := F.len _ _ _ _ hsp
  refine wpAny_call (codeAny_mono (F.run X.A.in1.in1 X.stack s H ⟨[.ref p], []⟩ [.ref p] [.ref p] _ E hr.in1.in1 I.env0.in1.in1 (by
    have := hb s [.ref p] I.kIn (by simpa using hl)
    simpa using this) (.cons (show RelV (V.ref p) (Value.ref p) from rfl) .nil) hsp) ?_)
  intro r s' hq
  match r, hq with
  | .error e, hq => exact hx σ pins H s e s' I hq
  | .ok .next, hq => exact False.elim hq
  | .ok .brk, hq => exact False.elim hq
  | .ok .cont, hq => exact False.elim hq
  | .ok (.ret u), hq =>
    obtain ⟨v, H', I', rv, c, rfl, q⟩ := I.after hq
    cases rv
    exact ⟨.bl c, H', I', rfl, q⟩
end
end Gd

set_option Elab.async false
set_option linter.all false
set_option maxRecDepth 100000
set_option maxHeartbeats 4000000
/-! A tuple times 0 or 1. -/
namespace Gd
open PySem PySem.Spec PyProof.Rows L2
theorem tuple_mul1 (l : Addr) (items : Array Value) (n : Nat) (dd : Option Addr) (sl : Array (Option Value)) (u : Tok) :
    Meets (Builtin.«tuple.__mul__» ⟨[.ref l, .int 1 u], []⟩) (fun _ R s => s.heap.get? l = some { cls := .type "tuple", dict := dd, data := .seq items n, slots := sl } ∧
      R (.ok (.ret (Value.ref l))) s) :=
  .of_wp fun prog w A R s h => by
    obtain ⟨hp, g, d, tk, os⟩ := s
    obtain ⟨hl, h⟩ := h
    have f1 := AutoSeq1.idx_int
    have c1 : (items.isEmpty || (1 : Int) == 1) = true := by simp
    wp_walk using wpAny_loadPart' hl
    repeat (first
      | (refine wpAny_ite_true (decide_eq_true c1) ?_; wp_walk using wpAny_loadPart' hl))
    exact ⟨_, rfl, h⟩

theorem tuple_mul0 (l : Addr) (items : Array Value) (n : Nat) (dd : Option Addr) (sl : Array (Option Value)) (u : Tok) (ne : items.isEmpty = false) :
    Meets (Builtin.«tuple.__mul__» ⟨[.ref l, .int 0 u], []⟩) (fun _ R s => s.heap.get? l = some { cls := .type "tuple", dict := dd, data := .seq items n, slots := sl } ∧
      R (.ok (.ret (Value.ref s.heap.objs.size))) { s with heap := s.heap.push { cls := Value.type "tuple", data := Data.seq #[] }, toks := s.toks }) :=
  .of_wp fun prog w A R s h => by
    obtain ⟨hp, g, d, tk, os⟩ := s
    obtain ⟨hl, h⟩ := h
    have f1 := AutoSeq1.idx_int
    have c1 : ¬ (items.isEmpty || (0 : Int) == 1) = true := by rw [ne]; decide
    have c2 : (decide ((0 : Int) ≤ 0) || items.isEmpty) = true := by simp
    wp_walk using wpAny_loadPart' hl
    repeat (first
      | (refine wpAny_ite_false (decide_eq_false c1) ?_; wp_walk using wpAny_loadPart' hl)
      | (refine wpAny_ite_true (decide_eq_true c2) ?_; wp_walk using wpAny_loadPart' hl))
    exact ⟨_, rfl, h⟩
def rRepA (K : PySem.W.Frag) : R2 := fun x y H Q => ∃ l k xs, x = .ref l ∧ y = .int k ∧ SqT K H l xs ∧ xs ≠ [] ∧ 0 ≤ k ∧ k ≤ 1000 ∧ xs.length ≤ 1000 ∧
  (k = 1 → Q (.ref l) H) ∧ (k ≠ 1 → ∀ p, H p = none → Q (.ref p) (upd H p (.tup (List.replicate k.toNat xs).flatten)))
section
variable {X : Cx}
theorem op_repA : OpR X (binaryOp .Mult) (rRepA X.K) := by
  intro pins s σ H x y v u Q I rx ry h
  obtain ⟨l, k, xs, rfl, rfl, hT, hne, h1, h2, hz, q1, q2⟩ := h
  by_cases big : 2 ≤ k
  · exact op_repT pins s σ H _ _ v u Q I rx ry ⟨l, k, xs, rfl, rfl, hT, hne, big, h2, hz, q2 (by omega)⟩
  cases rx
  obtain ⟨t, rfl⟩ := ry
  obtain ⟨its, r, ⟨⟨cls, dd, data, sl⟩, ho, hc, n, hd⟩, hs⟩ := I.tuple hT
  simp only at hc hd
  subst hc hd
  have hle : its.length = xs.length := r.length.symm
  have hi : its.toArray.isEmpty = false := by
    cases its with
    | nil => exact absurd (List.eq_nil_of_length_eq_zero hle.symm) hne
    | cons a b => rfl
  have hk : k = 0 ∨ k = 1 := by omega
  rcases hk with rfl | rfl
  · refine wpAny_binaryOp_repeat_ref (T := "tuple") (U := "int") (by decide) ⟨_, ho, rfl⟩ (fun s' => typeIs_int s' 0 t) noFill_tuple_mul F.fills_int_mul F.slot_int_rmul repeat_tuple F.slot_int_index.lookup
      (call_meets F.slot_int_rmul (typeIs_int s 0 t) F.entry_int_rmul (F.args_int_rmul_2 _ _) (int_rmul_tuple 0 t l its.toArray n dd sl)
        ⟨ho, rfl, ⟨_, ho, rfl⟩, call_meets F.slot_tuple_mul ⟨_, ho, rfl⟩ F.entry_tuple_mul (F.args_tuple_mul_2 _ _) (tuple_mul0 l its.toArray n dd sl t hi) ⟨ho, ?_⟩⟩)
    have q := q2 (by decide) _ (I.hok.fresh (Nat.le_refl _))
    refine ⟨.ref s.heap.objs.size, _, I.laid (t' := s.toks) (o := .tup (List.replicate (0 : Int).toNat xs).flatten) (fun b ob q => Heap.get?_push_of_some _ q) (Nat.le_refl _) ?_, rfl, q⟩
    exact ⟨Nat.zero_le _, [], .nil, IsTup.new _ _⟩
  · refine wpAny_binaryOp_repeat_ref (T := "tuple") (U := "int") (by decide) ⟨_, ho, rfl⟩ (fun s' => typeIs_int s' 1 t) noFill_tuple_mul F.fills_int_mul F.slot_int_rmul repeat_tuple F.slot_int_index.lookup
      (call_meets F.slot_int_rmul (typeIs_int s 1 t) F.entry_int_rmul (F.args_int_rmul_2 _ _) (int_rmul_tuple 1 t l its.toArray n dd sl)
        ⟨ho, rfl, ⟨_, ho, rfl⟩, call_meets F.slot_tuple_mul ⟨_, ho, rfl⟩ F.entry_tuple_mul (F.args_tuple_mul_2 _ _) (tuple_mul1 l its.toArray n dd sl t) ⟨ho, ?_⟩⟩)
    exact ⟨.ref l, H, I, rfl, q1 rfl⟩
end
end Gd

set_option Elab.async false
set_option linter.all false
set_option maxRecDepth 100000
set_option maxHeartbeats 4000000
/-! A tuple many times. -/
namespace Gd
open PySem PySem.Spec PyProof.Rows L2
/-- t * k, t not empty, few values in all -/
def rRepB (K : PySem.W.Frag) : R2 := fun x y H Q => ∃ l k xs, x = .ref l ∧ y = .int k ∧ SqT K H l xs ∧ xs ≠ [] ∧ 0 ≤ k ∧ k ≤ 100000 ∧ xs.length ≤ 10 ∧
  (k = 1 → Q (.ref l) H) ∧ (k ≠ 1 → ∀ p, H p = none → Q (.ref p) (upd H p (.tup (List.replicate k.toNat xs).flatten)))
section
variable {X : Cx}
theorem op_repB : OpR X (binaryOp .Mult) (rRepB X.K) := by
  intro pins s σ H x y v u Q I rx ry h
  obtain ⟨l, k, xs, rfl, rfl, hT, hne, h1, h2, hz, q1, q2⟩ := h
  by_cases few : k ≤ 1
  · exact op_repA pins s σ H _ _ v u Q I rx ry ⟨l, k, xs, rfl, rfl, hT, hne, h1, by omega, by omega, q1, q2⟩
  have two : 2 ≤ k := by omega
  have q := q2 (by omega)
  clear q1 q2
  cases rx
  obtain ⟨t, rfl⟩ := ry
  obtain ⟨its, r, ⟨⟨cls, dd, data, sl⟩, ho, hc, n, hd⟩, hs⟩ := I.tuple hT
  simp only at hc hd
  subst hc hd
  have len : its.length = xs.length := r.length.symm
  have some_ : its.toArray.isEmpty = false := by
    cases its with
    | nil => exact absurd (List.eq_nil_of_length_eq_zero len.symm) hne
    | cons a b => rfl
  have sz : its.toArray.size = xs.length := by rw [List.size_toArray, len]
  have all_ : ((its.toArray.size : Nat) : Int) * k ≤ 1000000 := by
    rw [sz]
    have a1 : ((xs.length : Nat) : Int) * k ≤ 10 * k := Int.mul_le_mul_of_nonneg_right (by omega) (by omega)
    omega
  have many : k.toNat * xs.length ≤ 100000 * 10 := Nat.mul_le_mul (by omega) hz
  have flat_ : (List.replicate k.toNat its).flatten.length ≤ sizeLine := by
    rw [PyProof.Rows.lm_len_rep_flat, len, sizeLine_eq]
    omega
  have d0 : (decide (k < -(2 ^ 63)) || decide (k ≥ 2 ^ 63)) = false := by
    rw [decide_eq_false (by omega), decide_eq_false (by omega)]
    rfl
  have d1 : (its.toArray.isEmpty || k == 1) = false := by
    rw [some_, Bool.false_or]
    exact beq_eq_false_iff_ne.mpr (by omega)
  have d2 : (decide (k ≤ 0) || its.toArray.isEmpty) = false := by
    rw [some_, Bool.or_false]
    exact decide_eq_false (by omega)
  have d4 : Builtin.Tuple.tupleTooMany (((its.toArray.size : Nat) : Int) * k) = false := by
    unfold Builtin.Tuple.tupleTooMany
    rw [sizeLine_eq]
    exact decide_eq_false (by omega)
  have met := tuple_mulW l its.toArray n dd sl k t d0 d1 d2 (by omega) d4 (by rw [size_rep, List.size_toArray]; exact flat_)
  refine wpAny_binaryOp_repeat_ref (T := "tuple") (U := "int") (by decide) ⟨_, ho, rfl⟩ (fun s' => typeIs_int s' k t) noFill_tuple_mul F.fills_int_mul F.slot_int_rmul repeat_tuple F.slot_int_index.lookup
    (call_meets F.slot_int_rmul (typeIs_int s k t) F.entry_int_rmul (F.args_int_rmul_2 _ _) (int_rmul_tuple k t l its.toArray n dd sl)
      ⟨ho, rfl, ⟨_, ho, rfl⟩, call_meets F.slot_tuple_mul ⟨_, ho, rfl⟩ F.entry_tuple_mul (F.args_tuple_mul_2 _ _) met ⟨ho, ?_⟩⟩)
  rw [size_rep]
  refine ⟨.ref s.heap.objs.size, _, I.laid (t' := s.toks) (o := .tup (List.replicate k.toNat xs).flatten) (fun b ob q => Heap.get?_push_of_some _ q) (Nat.le_refl _) ?_, rfl, q _ (I.hok.fresh (Nat.le_refl _))⟩
  exact ⟨by rw [PyProof.Rows.lm_len_rep_flat, sizeLine_eq]; omega, _, r.rep k.toNat, IsTup.new _ _⟩
end
end Gd

set_option Elab.async false
set_option linter.all false
set_option maxRecDepth 100000
set_option maxHeartbeats 4000000
/-! enumerate(a tuple). -/
namespace HN4
open PySem PySem.Spec PyProof.Rows PySem.SeqAt
theorem meets_enum1 {v : Value} {o : Obj} {G : Heap → Prop} (B : Begins v o G) : Meets (Builtin.«enumerate.__new__» ⟨[.type "enumerate", v], []⟩) (fun _ R s => G s.heap ∧
    R (.ok (.ret (.ref (s.heap.push o).objs.size))) { s with heap := (s.heap.push o).push { cls := .type "enumerate", data := .fields #[.none, .bool false, .ref s.heap.objs.size, rawInt 0, .none, .none] } }) := by
  refine .of_wp fun prog w A R ⟨hp, g, d, tk, os⟩ hh => ?_
  obtain ⟨h1, h⟩ := hh
  have sb := sub_enumerate
  have it : ∀ {A' : Around} {E : Value → Shared → Prop} {Q : Value → Shared → Prop}, Q (.ref hp.objs.size) ⟨hp.push o, g, d, tk, os⟩ → wpAny (model prog w) A' (pyIter v) Q E ⟨hp, g, d, tk, os⟩ := fun q => B.iter prog w _ _ ⟨hp, g, d, tk, os⟩ _ h1 q
  wp_walk using it
  refine wpAny_stack_any fun st => wpAny_pure ?_
  split
  · rename_i c _ _ _ _ _
    cases (c == Value.type "enumerate") <;> (wp_walk using it; exact ⟨_, rfl, h⟩)
  · wp_walk using it
    exact ⟨_, rfl, h⟩
theorem begins_tup (t : Addr) (items : Array Value) : Begins (.ref t) { cls := .type "tuple_iterator", data := .fields #[.ref t, .int 0 0] } (fun h => h.IsTuple t items) where
  iter := fun prog w A E s Q ht hq => wpAny_pyIter_tuple ht hq
  keeps := fun h h' ht k => ht.at fun o e => k _ _ e
  free := rfl
section
variable {prog : Program} {w : World} {A : Around} {E : Value → Shared → Prop} {s : Shared}
theorem call_enumT {t : Addr} {items : Array Value} {Q : Value → Shared → Prop} (ht : s.heap.IsTuple t items)
    (h : ∀ h', IsEnum h' (s.heap.objs.size + 1) s.heap.objs.size 0 .none → h'.IsTupleIter s.heap.objs.size t 0 → (∀ b o, s.heap.get? b = some o → h'.get? b = some o) → Q (.ref (s.heap.objs.size + 1)) { s with heap := h' }) :
    wpAny (model prog w) A (call (.type "enumerate") [.ref t]) Q E s := by
  let o1 : Obj := { cls := .type "tuple_iterator", data := .fields #[.ref t, .int 0 0] }
  let o2 : Obj := { cls := .type "enumerate", data := .fields #[.none, .bool false, .ref s.heap.objs.size, rawInt 0, .none, .none] }
  have e1 : (s.heap.push o1).objs.size = s.heap.objs.size + 1 := Heap.size_push ..
  have e2 : ((s.heap.push o1).push o2).get? (s.heap.objs.size + 1) = some o2 := by
    have q := Heap.get?_push_size (s.heap.push o1) (o := o2) rfl
    rw [e1] at q
    exact q
  refine callType_new F.called_enumerate (by decide) (F.typeCall_enumerate_1 _) (F.newCall_enumerate_1 _) (fun obj => F.args_object_init_2 obj _) F.entry_enumerate_new (meets_enum1 (begins_tup t items)) ⟨ht, ?_⟩
  show _ ∧ _
  rw [e1]
  exact ⟨⟨_, e2, rfl⟩, h _ e2 ⟨_, Heap.get?_push_of_some _ (Heap.get?_push_size _ rfl), rfl, rfl⟩ fun b ob x => Heap.get?_push_of_some _ (Heap.get?_push_of_some _ x)⟩
end
end HN4
namespace Gd
open PySem PySem.Spec PyProof.Rows L2
/-- a tuple walked with its places: at each turn a new pair -/
def IteT (K : PySem.W.Frag) (t : Addr) : It where
  go := fun i H => ∃ (xs : List V) (x : V), SqT K H t xs ∧ xs[i]? = some x
  yld := fun i H v H' => ∃ T x, v = .ref T ∧ H T = none ∧ H' = upd H T (.tup [.int (i : Nat), x]) ∧ ∀ xs, SqT K H t xs → xs[i]? = some x
  stop := fun i H => ∃ xs : List V, SqT K H t xs ∧ xs.length = i
theorem tit_apart {h : Heap} {t it : Addr} {i : Nat} {items : Array Value} (a : h.IsTupleIter it t i) (b : h.IsTuple t items) : t ≠ it := by
  intro z
  subst z
  obtain ⟨o1, g1, c1, _⟩ := a
  obtain ⟨o2, g2, c2, _⟩ := b
  rw [g1] at g2
  cases g2
  rw [c1] at c2
  exact absurd c2 (by decide)
theorem enum_apart {h : Heap} {e it t : Addr} {k : Int} {old : Value} {items : Array Value} (a : IsEnum h e it k old) (b : h.IsTuple t items) : e ≠ t := by
  intro z
  subst z
  obtain ⟨o2, g2, c2, _⟩ := b
  have g1 : h.get? e = some _ := a
  rw [g1] at g2
  cases g2
  exact absurd c2 (by simp)
theorem turn_enumT {P : Program} {w : World} {K : PySem.W.Frag} {elts : List Expr} {kk : Nat} {tpos : Pos} (t e it : Addr) :
    Turn P w K (.Tuple elts kk tpos) (IteT K t) [e, it] e (fun i h => (∃ old, IsEnum h e it ((i : Nat) : Int) old) ∧ h.IsTupleIter it t i ∧ e ≠ it) where
  mem := List.mem_cons_self
  obj := by
    rintro i h ⟨⟨old, he⟩, ⟨o, ho, hc, hd⟩, _⟩ b hb
    rcases List.mem_cons.mp hb with rfl | hb
    · exact ⟨_, he, fun v q => nomatch q⟩
    · rw [List.mem_singleton.mp hb]
      refine ⟨o, ho, fun v q => ?_⟩
      rw [hd] at q
      cases q
  keep := by
    rintro i h h' ⟨⟨old, he⟩, hi, ne⟩ k
    exact ⟨⟨old, k e List.mem_cons_self _ he⟩, hi.at fun o q => k it (List.mem_cons_of_mem _ List.mem_cons_self) o q, ne⟩
  item := by
    intro X hP hw hK hc i pins s σ H E I hf st hg
    subst hP hw hK
    obtain ⟨⟨old, he⟩, hit, ne⟩ := st
    obtain ⟨xs, x, hq, hx⟩ := hg
    obtain ⟨its, rv, p, hz⟩ := I.tuple hq
    have pt := isTuple_of p
    obtain ⟨u, hu, ru⟩ := rv.get hx
    have a1 := tit_apart hit pt
    have a2 := enum_apart he pt
    have le : e < s.heap.objs.size := Heap.lt_size he
    have li : it < s.heap.objs.size := by
      obtain ⟨_, q, _⟩ := hit
      exact Heap.lt_size q
    have hlt : i < its.toArray.size := by
      rcases Nat.lt_or_ge i its.toArray.size with z | z
      · exact z
      · rw [List.getElem?_eq_none_iff.mpr (by simpa using z)] at hu
        cases hu
    refine wpAny_pyNext_enum_itemD (Draws.tuple (show X.A.in1.handled = none from I.ok.hd hc) it t a1 its.toArray) he ⟨hit, pt⟩ hlt ne (by simp [ne, a2]) fun y h1 tk hy ho st1 hT hsz hk => ?_
    obtain rfl : y = u := by
      rw [List.getElem?_toArray, hu] at hy
      exact (Option.some.inj hy).symm
    refine ⟨_, rfl, wpAny_letOwnedTupleGo_enum (s := { s with heap := h1, toks := tk + 1 }) ho fun h2 he2 sb => ?_⟩
    have hT2 : h2.get? s.heap.objs.size = some { cls := .type "tuple", data := .seq #[.int i tk, y] } := (sb.2 _ (Nat.ne_of_gt le)).trans hT
    have new : ObjOk X.prog X.w (upd H s.heap.objs.size (.tup [.int (i : Nat), x])) h2 s.heap.objs.size (.tup [.int (i : Nat), x]) :=
      ⟨by show 2 ≤ sizeLine; decide, [.int i tk, y], .cons ⟨_, rfl⟩ (.cons ru .nil), ⟨_, hT2, rfl, _, rfl⟩⟩
    have I1 : Inv X pins σ (upd H s.heap.objs.size (.tup [.int (i : Nat), x])) { s with heap := h2, toks := tk + 1 } :=
      I.turnedNew (ch := [e, it]) (fun b ob hb q => (sb.2 b (fun z => hb (by simp [z]))).trans (hk b ob (fun z => hb (by simp [z])) (fun z => hb (by simp [z])) q)) hf (Nat.le_refl _) new
    refine ⟨.ref s.heap.objs.size, _, I1, rfl, ⟨_, x, rfl, I.hok.fresh (Nat.le_refl _), rfl, fun ys hy => ?_⟩, ⟨⟨y, ?_⟩, st1.1.at fun o q => (sb.2 it (Ne.symm ne)).trans q, ne⟩, fun b hb => ?_⟩
    · rw [I.tuple_inj hy hq]
      exact hx
    · rw [show ((i + 1 : Nat) : Int) = (i : Int) + 1 by omega]
      exact he2
    · have lb : b < s.heap.objs.size := by
        rcases List.mem_cons.mp hb with rfl | hb
        · exact le
        · rw [List.mem_singleton.mp hb]
          exact li
      rw [upd_ne (Nat.ne_of_lt lb)]
      exact (hf b hb).1
  done := by
    intro X hP hw hK hc i pins s σ H E I hf st hg
    subst hP hw hK
    obtain ⟨⟨old, he⟩, hit, ne⟩ := st
    obtain ⟨xs, hq, hx⟩ := hg
    obtain ⟨its, rv, p, hz⟩ := I.tuple hq
    have pt := isTuple_of p
    obtain ⟨f0, f1, f2, f3, f4, f5⟩ := hf it (by simp)
    have n : i = its.toArray.size := by
      rw [List.size_toArray, ← rv.length]
      exact hx.symm
    subst n
    exact wpAny_pyNext_enum_endD (Draws.tuple (show X.A.in1.handled = none from I.ok.hd hc) it t (tit_apart hit pt) its.toArray) he ⟨hit, pt⟩ fun h1 eb => ⟨rfl, I.turned (t' := s.toks) (fun b o hb q => eb b o hb q) f0 f1 f3 f4 f5⟩
  self := fun A i s Q E st h => let ⟨⟨_, he⟩, _⟩ := st; wpAny_pyIter_enum he h
theorem call_of_enum {X : Cx} {elts : List Expr} {kk : Nat} {tpos : Pos} {pins : List (Addr × Obj)} {σ : L2.St} {H : Hp} {s : Shared} {R : It → Hp → Prop} {t : Addr} {items : Array Value} (I : Inv X pins σ H s) (pl : IsTup s.heap t items) (q : R (IteT X.K t) H) :
    wpAny (model X.prog X.w) X.A (call (.type "enumerate") [.ref t]) (fun v s2 => wpAny (model X.prog X.w) X.A (pyIter v) (PIE X pins σ (.Tuple elts kk tpos) R) X.xe s2) X.xe s := by
  refine HN4.call_enumT (isTuple_of pl) fun h1 he hit hk => wpAny_pyIter_enum he ?_
  refine ⟨s.heap.objs.size + 1, [s.heap.objs.size + 1, s.heap.objs.size], _, _, H, rfl, I.kept (t' := s.toks) hk, turn_enumT t _ _, ⟨⟨.none, he⟩, hit, Nat.succ_ne_self _⟩, fun b hb => ?_, q⟩
  have hle : s.heap.objs.size ≤ b := by
    rcases List.mem_cons.mp hb with rfl | hb
    · exact Nat.le_add_right _ _
    · rw [List.mem_singleton.mp hb]
      exact Nat.le_refl _
  exact I.fpOk hle (I.hok.fresh hle)
def iEnumT (K : PySem.W.Frag) (ta : TA) : TI := fun σ H R => ta σ H fun vs H1 => ∃ t xs, vs = [.ref t] ∧ SqT K H1 t xs ∧ R (IteT K t) H1
theorem pi_enumT {X : Cx} {e : Expr} {ta : TA} {p pos tpos : Pos} {elts : List Expr} {kk : Nat} (hg : Gl X "enumerate") (hm : X.mg "enumerate" = none) (ha : PA X [e] ta) (hs : starEach [e] X.env = [(false, eval e X.env)] := by rfl) :
    PI X (.Tuple elts kk tpos) (.Call (.Name "enumerate" p) [e] [] pos) (iEnumT X.K ta) := by
  constructor
  intro pins s σ H R I h
  refine Call_ (ld_blt I hg hm boot_enumerate (PyProof.Rows.callWith_type1 (thn (ha.run pos pins s σ H _ I h) fun us s1 ⟨vs, H1, I1, r1, t, xs, ex, hq, q⟩ => ?_) hs rfl))
  subst ex
  obtain rfl := Vals.ref1 r1
  obtain ⟨its, rv, pl, hz⟩ := I1.tuple hq
  refine call_of_enum I1 pl q
/-- a loop over the pairs of a tuple -/
theorem for_enumT {K : PySem.W.Frag} {t : Addr} {xs : List V} {g : TG} {tb : TS} {D : Ends} {σ : L2.St} {H : Hp} (Pv : Nat → L2.St → Hp → Prop) (h0 : Pv 0 σ H) (hl : ∀ i σ H, i ≤ xs.length → Pv i σ H → SqT K H t xs)
    (hs : ∀ i x σ H T, xs[i]? = some x → Pv i σ H → H T = none → g (.ref T) σ (upd H T (.tup [.int (i : Nat), x])) fun σ2 H2 => tb { D with nx := Pv (i + 1), ct := Pv (i + 1), bk := D.nx } σ2 H2) (hd : ∀ σ H, Pv xs.length σ H → D.nx σ H) :
    ∃ W : Nat → Nat → L2.St → Hp → Prop, (∃ m, W 0 m σ H) ∧ ∀ i m σ H, W i m σ H →
      ((IteT K t).stop i H ∧ D.nx σ H) ∨ ((IteT K t).go i H ∧ ∃ N : L2.St → Hp → Prop, (∀ σ' H', N σ' H' → ∃ m', m' < m ∧ W (i + 1) m' σ' H') ∧ ∀ x H', (IteT K t).yld i H x H' → g x σ H' fun σ2 H2 => tb { D with nx := N, ct := N, bk := D.nx } σ2 H2) := by
  refine ⟨fun i m σ H => m = xs.length - i ∧ i ≤ xs.length ∧ Pv i σ H, ⟨xs.length, rfl, Nat.zero_le _, h0⟩, ?_⟩
  rintro i m σ H ⟨rfl, hi, p⟩
  have q := hl i σ H hi p
  rcases Nat.lt_or_ge i xs.length with hlt | hge
  · refine .inr ⟨⟨xs, xs[i], q, List.getElem?_eq_getElem hlt⟩, Pv (i + 1), fun σ' H' p' => ⟨xs.length - (i + 1), by omega, rfl, hlt, p'⟩, ?_⟩
    rintro y H' ⟨T, x, rfl, hT, rfl, hx⟩
    exact hs i x σ H T (hx xs q) p hT
  · have e : i = xs.length := Nat.le_antisymm hi hge
    subst e
    exact .inl ⟨⟨xs, q, rfl⟩, hd σ H p⟩
end Gd

set_option Elab.async false
set_option linter.all false
set_option maxRecDepth 100000
set_option maxHeartbeats 4000000
/-! zip of two sequences, each a list or a tuple. -/
namespace Gd
open PySem PySem.Spec PyProof.Rows L2
/-- a list (true) or a tuple (false) -/
def SqE (K : PySem.W.Frag) (l : Bool) (H : Hp) (a : Addr) (xs : List V) : Prop := match l with
  | true => SqL K H a xs
  | false => SqT K H a xs
def HpE (l : Bool) (h : Heap) (a : Addr) (items : Array Value) : Prop := match l with
  | true => h.IsList a items
  | false => h.IsTuple a items
def ItE (l : Bool) (h : Heap) (it a : Addr) (i : Nat) : Prop := match l with
  | true => h.IsListIter it a i
  | false => h.IsTupleIter it a i
def objE (l : Bool) (a : Addr) : Obj := match l with
  | true => { cls := .type "list_iterator", data := .fields #[.ref a, .int 0 0] }
  | false => { cls := .type "tuple_iterator", data := .fields #[.ref a, .int 0 0] }
section
variable {l : Bool} {h h' : Heap} {a it : Addr} {i : Nat} {items : Array Value}
theorem ItE.at (x : ItE l h it a i) (k : ∀ o, h.get? it = some o → h'.get? it = some o) : ItE l h' it a i := by
  cases l with
  | true => exact Heap.IsListIter.at (show h.IsListIter it a i from x) k
  | false => exact Heap.IsTupleIter.at (show h.IsTupleIter it a i from x) k
theorem ItE.there (x : ItE l h it a i) : ∃ o, h.get? it = some o ∧ ∀ v, o.data ≠ .cell v := by
  cases l with
  | true =>
    obtain ⟨o, g, _, d⟩ := (show h.IsListIter it a i from x)
    exact ⟨o, g, fun v q => by rw [d] at q; cases q⟩
  | false =>
    obtain ⟨o, g, _, d⟩ := (show h.IsTupleIter it a i from x)
    exact ⟨o, g, fun v q => by rw [d] at q; cases q⟩
theorem ItE.apart (x : ItE l h it a i) (y : HpE l h a items) : a ≠ it := by
  intro z
  subst z
  cases l with
  | true =>
    obtain ⟨o1, g1, c1, _⟩ := (show h.IsListIter a a i from x)
    obtain ⟨o2, g2, c2, _⟩ := (show h.IsList a items from y)
    rw [g1] at g2
    cases g2
    rw [c1] at c2
    exact absurd c2 (by simp)
  | false => exact tit_apart (show h.IsTupleIter a a i from x) (show h.IsTuple a items from y) rfl
theorem drawsE {prog : Program} {w : World} {A : Around} (hh : A.handled = none) (ne : a ≠ it) : Draws prog w A it [it, a] items.size (fun i v => items[i]? = some v) (fun i h => ItE l h it a i ∧ HpE l h a items) := by
  cases l with
  | true => exact Draws.list hh it a ne items
  | false => exact Draws.tuple hh it a ne items
theorem beginsE : Begins (.ref a) (objE l a) (fun h => HpE l h a items) := by
  cases l with
  | true => exact begins_list a items
  | false => exact begins_tuple a items
theorem ItE.new (g : h.get? it = some (objE l a)) : ItE l h it a 0 := by
  cases l with
  | true => exact ⟨_, g, rfl, rfl⟩
  | false => exact ⟨_, g, rfl, rfl⟩
end
section
variable {X : Cx} {pins : List (Addr × Obj)} {σ : L2.St} {H : Hp} {s : Shared} {l : Bool} {a : Addr} {xs ys : List V}
theorem seqE (I : Inv X pins σ H s) (h : SqE X.K l H a xs) : ∃ its : List Value, Vals xs its ∧ HpE l s.heap a its.toArray := by
  cases l with
  | true =>
    obtain ⟨its, rv, p, _⟩ := I.list (show SqL X.K H a xs from h)
    exact ⟨its, rv, p.isList⟩
  | false =>
    obtain ⟨its, rv, p, _⟩ := I.tuple (show SqT X.K H a xs from h)
    exact ⟨its, rv, isTuple_of p⟩
theorem injE (I : Inv X pins σ H s) (h1 : SqE X.K l H a xs) (h2 : SqE X.K l H a ys) : xs = ys := by
  cases l with
  | true => exact I.list_inj h1 h2
  | false => exact I.tuple_inj h1 h2
end
/-- both walked together: at each turn a new pair -/
def ItzE (K : PySem.W.Frag) (l1 l2 : Bool) (a b : Addr) : It where
  go := fun i H => ∃ (xs ys : List V) (x y : V), SqE K l1 H a xs ∧ SqE K l2 H b ys ∧ xs[i]? = some x ∧ ys[i]? = some y
  yld := fun i H v H' => ∃ T x y, v = .ref T ∧ H T = none ∧ H' = upd H T (.tup [x, y]) ∧ (∀ xs, SqE K l1 H a xs → xs[i]? = some x) ∧ ∀ ys, SqE K l2 H b ys → ys[i]? = some y
  stop := fun i H => ∃ xs ys : List V, SqE K l1 H a xs ∧ SqE K l2 H b ys ∧ i = min xs.length ys.length
theorem lt_of_get {its : List Value} {i : Nat} {u : Value} (h : its[i]? = some u) : i < its.toArray.size := by
  rw [List.size_toArray]
  exact (List.getElem?_eq_some_iff.mp h).1
theorem turn_zipE {P : Program} {w : World} {K : PySem.W.Frag} {elts : List Expr} {kk : Nat} {tpos : Pos} {l1 l2 : Bool} {a b z TI TO i1 i2 : Addr} (S : ZipSep2 z TI TO i1 i2 [i1, a] [i2, b]) :
    Turn P w K (.Tuple elts kk tpos) (ItzE K l1 l2 a b) [z, TI, TO, i1, i2] z (fun i h => IsZip h z TI TO .none ∧ IsTupOf2 h TI (.ref i1) (.ref i2) ∧ (∃ x y, IsTupOf2 h TO x y) ∧ ItE l1 h i1 a i ∧ ItE l2 h i2 b i) where
  mem := List.mem_cons_self
  obj := by
    rintro i h ⟨hz, hTI, ⟨x, y, hTO⟩, h1, h2⟩ c hc
    simp only [List.mem_cons, List.not_mem_nil, or_false] at hc
    rcases hc with rfl | rfl | rfl | rfl | rfl
    · exact ⟨_, hz, fun v q => nomatch q⟩
    · exact ⟨_, hTI, fun v q => nomatch q⟩
    · exact ⟨_, hTO, fun v q => nomatch q⟩
    · exact h1.there
    · exact h2.there
  keep := by
    rintro i h h' ⟨hz, hTI, ⟨x, y, hTO⟩, h1, h2⟩ k
    exact ⟨k _ (by simp) _ hz, k _ (by simp) _ hTI, ⟨x, y, k _ (by simp) _ hTO⟩, h1.at fun o q => k _ (by simp) o q, h2.at fun o q => k _ (by simp) o q⟩
  item := by
    intro X hP hw hK hc i pins s σ H E I hf st hg
    subst hP hw hK
    obtain ⟨hz, hTI, ⟨x0, y0, hTO⟩, h1, h2⟩ := st
    obtain ⟨xs, ys, x, y, hqx, hqy, hx, hy⟩ := hg
    obtain ⟨its, rv, p⟩ := seqE I hqx
    obtain ⟨its2, rv2, p2⟩ := seqE I hqy
    obtain ⟨u, hu, ru⟩ := rv.get hx
    obtain ⟨u2, hu2, ru2⟩ := rv2.get hy
    have hd : X.A.in1.handled = none := I.ok.hd hc
    have zl : z < s.heap.objs.size := Heap.lt_size hz
    refine wpAny_pyNext_zipD2_item S (drawsE hd (h1.apart p)) (drawsE hd (h2.apart p2)) hz hTI hTO ⟨h1, p⟩ ⟨h2, p2⟩ (lt_of_get hu) (lt_of_get hu2) fun v1 v2 h3 tk e1 e2 z3 TO3 s1 s2 hT hsz hk => ?_
    obtain rfl : v1 = u := by
      rw [List.getElem?_toArray, hu] at e1
      exact (Option.some.inj e1).symm
    obtain rfl : v2 = u2 := by
      rw [List.getElem?_toArray, hu2] at e2
      exact (Option.some.inj e2).symm
    refine ⟨_, rfl, wpAny_letOwnedTupleGo_zip (s := { s with heap := h3, toks := tk }) z3 fun h4 z4 sb => ?_⟩
    have hT4 : h4.get? s.heap.objs.size = some { cls := .type "tuple", data := .seq #[v1, v2] } := (sb.2 _ (Nat.ne_of_gt zl)).trans hT
    have new : ObjOk X.prog X.w (upd H s.heap.objs.size (.tup [x, y])) h4 s.heap.objs.size (.tup [x, y]) := ⟨by show 2 ≤ sizeLine; decide, [v1, v2], .cons ru (.cons ru2 .nil), ⟨_, hT4, rfl, _, rfl⟩⟩
    have kp : ∀ c o, c ∉ [z, TI, TO, i1, i2] → s.heap.get? c = some o → h4.get? c = some o := fun c o hb q => by
      simp only [List.mem_cons, List.not_mem_nil, or_false, not_or] at hb
      exact (sb.2 c hb.1).trans (hk c o hb.1 hb.2.2.1 hb.2.2.2.1 hb.2.2.2.2 q)
    have J : Inv X pins σ (upd H s.heap.objs.size (.tup [x, y])) { s with heap := h4, toks := tk } := I.turnedNew (t' := tk) kp hf (Nat.le_refl _) new
    refine ⟨.ref s.heap.objs.size, _, J, rfl, ⟨_, x, y, rfl, I.hok.fresh (Nat.le_refl _), rfl, fun m hm => ?_, fun m hm => ?_⟩, ⟨z4, ?_, ⟨v1, v2, ?_⟩, ?_, ?_⟩, fun c hcm => ?_⟩
    · rw [injE I hm hqx]
      exact hx
    · rw [injE I hm hqy]
      exact hy
    · exact (sb.2 _ S.TIz).trans (hk _ _ S.TIz S.TITO S.TIi1 S.TIi2 hTI)
    · exact (sb.2 _ S.TOz).trans TO3
    · exact s1.1.at fun o q => (sb.2 _ S.zi1.symm).trans q
    · exact s2.1.at fun o q => (sb.2 _ S.zi2.symm).trans q
    · have lt : c < s.heap.objs.size := by
        obtain ⟨_, g1, _⟩ := h1.there
        obtain ⟨_, g2, _⟩ := h2.there
        have hm := hcm
        simp only [List.mem_cons, List.not_mem_nil, or_false] at hm
        rcases hm with rfl | rfl | rfl | rfl | rfl
        · exact zl
        · exact Heap.lt_size hTI
        · exact Heap.lt_size hTO
        · exact Heap.lt_size g1
        · exact Heap.lt_size g2
      rw [upd_ne (Nat.ne_of_lt lt)]
      exact (hf c hcm).1
  done := by
    intro X hP hw hK hc i pins s σ H E I hf st hg
    subst hP hw hK
    obtain ⟨hz, hTI, ⟨x0, y0, hTO⟩, h1, h2⟩ := st
    obtain ⟨xs, ys, hqx, hqy, hend⟩ := hg
    obtain ⟨its, rv, p⟩ := seqE I hqx
    obtain ⟨its2, rv2, p2⟩ := seqE I hqy
    have n1 : its.toArray.size = xs.length := by rw [List.size_toArray, rv.length]
    have n2 : its2.toArray.size = ys.length := by rw [List.size_toArray, rv2.length]
    have hd : X.A.in1.handled = none := I.ok.hd hc
    refine wpAny_pyNext_zipD2_end S (drawsE hd (h1.apart p)) (drawsE hd (h2.apart p2)) hz hTI hTO ⟨h1, p⟩ ⟨h2, p2⟩ (by omega) (by omega) (by omega) fun h3 tk hk => ⟨rfl, I.turnedL (t' := tk) (fun c o hb q => ?_) hf⟩
    simp only [List.mem_cons, List.not_mem_nil, or_false, not_or] at hb
    exact hk c o hb.1 hb.2.2.1 hb.2.2.2.1 hb.2.2.2.2 q
  self := fun A i s Q E st h => wpAny_pyIter_zip st.1 h
def iZipE (K : PySem.W.Frag) (ta : TA) : TI := fun σ H R => ta σ H fun vs H1 => ∃ l1 l2 a b xs ys, vs = [.ref a, .ref b] ∧ SqE K l1 H1 a xs ∧ SqE K l2 H1 b ys ∧ R (ItzE K l1 l2 a b) H1
theorem HpE.lt {l : Bool} {h : Heap} {a : Addr} {items : Array Value} (x : HpE l h a items) : a < h.objs.size := by
  cases l with
  | true =>
    obtain ⟨o, g, _⟩ := (show h.IsList a items from x)
    exact Heap.lt_size g
  | false =>
    obtain ⟨o, g, _⟩ := (show h.IsTuple a items from x)
    exact Heap.lt_size g
theorem call_of_zip {X : Cx} {elts : List Expr} {kk : Nat} {tpos : Pos} {pins : List (Addr × Obj)} {σ : L2.St} {H : Hp} {s : Shared} {R : It → Hp → Prop} {l1 l2 : Bool} {a b : Addr} {i1 i2 : Array Value} (I : Inv X pins σ H s)
    (p1 : HpE l1 s.heap a i1) (p2 : HpE l2 s.heap b i2) (q : R (ItzE X.K l1 l2 a b) H) :
    wpAny (model X.prog X.w) X.A (call (.type "zip") [.ref a, .ref b]) (fun v s2 => wpAny (model X.prog X.w) X.A (pyIter v) (PIE X pins σ (.Tuple elts kk tpos) R) X.xe s2) X.xe s := by
  refine zip_begins2 beginsE beginsE p1 p2 fun h1 hz hTI hTO g1 g2 _ hk => wpAny_pyIter_zip hz ?_
  have sep : ZipSep2 (s.heap.objs.size + 4) (s.heap.objs.size + 2) (s.heap.objs.size + 3) s.heap.objs.size (s.heap.objs.size + 1) [s.heap.objs.size, a] [s.heap.objs.size + 1, b] :=
    zip_sep2 (fun c hc => by rw [List.mem_singleton.mp hc]; exact p1.lt) (fun c hc => by rw [List.mem_singleton.mp hc]; exact p2.lt)
  refine ⟨s.heap.objs.size + 4, [s.heap.objs.size + 4, s.heap.objs.size + 2, s.heap.objs.size + 3, s.heap.objs.size, s.heap.objs.size + 1], _, _, H, rfl, I.kept (t' := s.toks) hk, turn_zipE sep, ⟨hz, hTI, ⟨_, _, hTO⟩, .new g1, .new g2⟩, fun c hc => ?_, q⟩
  have le : s.heap.objs.size ≤ c := by
    simp only [List.mem_cons, List.not_mem_nil, or_false] at hc
    rcases hc with rfl | rfl | rfl | rfl | rfl
    all_goals first | exact Nat.le_refl _ | exact Nat.le_add_right _ _
  exact I.fpOk le (I.hok.fresh le)
theorem pi_zipE {X : Cx} {e e2 : Expr} {ta : TA} {p pos tpos : Pos} {elts : List Expr} {kk : Nat} (hg : Gl X "zip") (hm : X.mg "zip" = none) (ha : PA X [e, e2] ta)
    (hs : starEach [e, e2] X.env = (false, eval e X.env) :: starEach [e2] X.env := by rfl) (hpl : (backTo pos (starEach [e2] X.env)).any (·.1) = false := by rfl) :
    PI X (.Tuple elts kk tpos) (.Call (.Name "zip" p) [e, e2] [] pos) (iZipE X.K ta) := by
  constructor
  intro pins s σ H R I h
  refine Call_ (ld_blt I hg hm PyProof.Rows.boot_zip (PyProof.Rows.callWith_type1 (thn (ha.run pos pins s σ H _ I h) fun us s1 ⟨vs, H1, I1, r1, l1, l2, a, b, xs, ys, ex, hx, hy, q⟩ => ?_) hs hpl))
  subst ex
  obtain ⟨u1, u2, rfl, r1, r2⟩ := vals2 r1
  cases r1
  cases r2
  obtain ⟨i1, _, p1⟩ := seqE I1 hx
  obtain ⟨i2, _, p2⟩ := seqE I1 hy
  exact call_of_zip I1 p1 p2 q
theorem walk_zipE {K : PySem.W.Frag} {l1 l2 : Bool} {a b : Addr} {xs ys : List V} {n : Nat} (hn : n = min xs.length ys.length) :
    Walk (ItzE K l1 l2 a b) n (fun H => SqE K l1 H a xs ∧ SqE K l2 H b ys) (YPair (fun i => xs[i]?) (fun i => ys[i]?)) where
  goes := fun i H hi q => by
    have h1 : i < xs.length := by omega
    have h2 : i < ys.length := by omega
    exact ⟨xs, ys, xs[i], ys[i], q.1, q.2, List.getElem?_eq_getElem h1, List.getElem?_eq_getElem h2⟩
  stops := fun H q => ⟨xs, ys, q.1, q.2, hn⟩
  yields := by
    rintro i H v H' _ q ⟨T, x, z, h1, h2, h3, h4, h5⟩
    exact ⟨T, x, z, h1, h2, h3, h4 xs q.1, h5 ys q.2⟩
theorem walk_enumT {K : PySem.W.Frag} {a : Addr} {xs : List V} : Walk (IteT K a) xs.length (fun H => SqT K H a xs) (YPair (fun i => some (.int (i : Nat))) (fun i => xs[i]?)) where
  goes := fun i H hi q => ⟨xs, xs[i], q, List.getElem?_eq_getElem hi⟩
  stops := fun H q => ⟨xs, q, rfl⟩
  yields := by
    rintro i H v H' _ q ⟨T, x, h1, h2, h3, h4⟩
    exact ⟨T, _, x, h1, h2, h3, rfl, h4 xs q⟩
end Gd

set_option Elab.async false
set_option linter.all false
set_option maxRecDepth 100000
set_option maxHeartbeats 4000000
/-! t[::-1], t a tuple. -/
namespace HN5
open PySem PySem.Spec PyProof.Rows PySem.SeqAt
section
variable {prog : Program} {w : World} {A : Around} {E : Value → Shared → Prop} {s : Shared}
theorem slice_rev {sl : Addr} {vl vu vs : Value} {n : Nat} {Q : Int × Int × Nat → Shared → Prop} (hs : s.heap.IsSliceOf sl vl vu vs) (pl : IsPart vl none) (pu : IsPart vu none) (ps : IsPart vs (some (-1)))
    (h : Q ((n : Int) - 1, -1, n) s) : wpAny (model prog w) A (Builtin.Slice.sliceApplied (.ref sl) (pure (n : Int))) Q E s := by
  obtain ⟨os, hos, hcs, hds⟩ := id hs
  cases pl
  cases pu
  cases ps with
  | int i t =>
  unfold Builtin.Slice.sliceApplied Builtin.Slice.sliceFields
  refine wpAny_bind (wpAny_bind (wpAny_field hos hds (x := .none) rfl (wpAny_bind (wpAny_field hos hds (x := .none) rfl (wpAny_bind (wpAny_field hos hds (x := .int (-1) t) rfl (wpAny_pure ?_)))))))
  refine wpAny_bind (HT.slicePart_ (.int (-1) t) ?_)
  show wpAny _ _ (if (((-1) : Int) == 0) = true then _ else _) _ _ s
  rw [if_neg (by decide)]
  refine wpAny_bind (HT.slicePart_ .none (wpAny_bind (HT.slicePart_ .none (wpAny_bind (wpAny_pure ?_)))))
  show wpAny _ _ (pure ((n : Int) - 1, (-1 : Int), Builtin.Slice.slicePlaces ((n : Int) - 1) (-1) (-1))) _ _ s
  have e : Builtin.Slice.slicePlaces ((n : Int) - 1) (-1) (-1) = n := by
    unfold Builtin.Slice.slicePlaces
    rw [if_neg (by decide)]
    by_cases z : n = 0
    · subst z
      rfl
    · rw [if_pos (by omega)]
      simp
  rw [e]
  exact wpAny_pure h
theorem pick_rev (items : Array Value) : ((List.range items.size).filterMap fun (m : Nat) => items[((items.size : Int) - 1 + (m : Int) * (-1)).toNat]?).toArray = items.toList.reverse.toArray := by
  congr 1
  have e : ∀ m, m < items.size → items[((items.size : Int) - 1 + (m : Int) * (-1)).toNat]? = items.toList.reverse[m]? := fun m hm => by
    rw [List.getElem?_reverse (by rw [Array.length_toList]; exact hm), Array.length_toList, Array.getElem?_toList]
    congr 1
    omega
  have f : ∀ l : List Nat, (∀ m ∈ l, m < items.size) → l.filterMap (fun (m : Nat) => items[((items.size : Int) - 1 + (m : Int) * (-1)).toNat]?) = l.filterMap (fun m => items.toList.reverse[m]?) := by
    intro l hl
    induction l with
    | nil => rfl
    | cons a r ih => rw [List.filterMap_cons, List.filterMap_cons, e a (hl a List.mem_cons_self), ih fun m hm => hl m (List.mem_cons_of_mem _ hm)]
  rw [f _ fun m hm => List.mem_range.mp hm]
  have g : ∀ (xs : List Value), (List.range xs.length).filterMap (fun m => xs[m]?) = xs := by
    intro xs
    induction xs with
    | nil => rfl
    | cons a r ih =>
      rw [List.length_cons, List.range_succ_eq_map, List.filterMap_cons, List.filterMap_map]
      show a :: List.filterMap (fun m => r[m]?) (List.range r.length) = a :: r
      rw [ih]
  have := g items.toList.reverse
  rw [List.length_reverse, Array.length_toList] at this
  exact this
theorem rev_tup {t sl : Addr} {items : Array Value} {vl vu vs : Value} {Q : Value → Shared → Prop} (ht : IsTup s.heap t items) (hs : s.heap.IsSliceOf sl vl vu vs) (pl : IsPart vl none) (pu : IsPart vu none) (ps : IsPart vs (some (-1)))
    (h : Q (.ref s.heap.objs.size) { s with heap := s.heap.push { cls := .type "tuple", data := .seq items.toList.reverse.toArray } }) (hsz : items.size ≤ sizeLine) : wpAny (model prog w) A (getItem (.ref t) (.ref sl)) Q E s := by
  have small : sizeOk (.seq items.toList.reverse.toArray) := by
    show items.toList.reverse.toArray.size ≤ sizeLine
    rw [List.size_toArray, List.length_reverse, Array.length_toList]
    exact hsz
  obtain ⟨os, hos, hcs, hds⟩ := id hs
  have isl : s.TypeIs (.ref sl) "slice" := ⟨os, hos, hcs⟩
  unfold getItem
  try with_reducible refine wpAny_holding ?_
  first | refine wpAny_bind (wpAny_pure ?_) | skip
  refine wpAny_bind (wpAny_sequenceKey ht.typeIs (by decide) (wpAny_bind (wpAny_callSpecial?_slot (name := Str.ofString "__getitem__") ht.typeIs PyProof.Rows.slot_tuple_getitem (wpAny_call_entry PyProof.Rows.slot_tuple_getitem ht.typeIs entry_tuple_getitem ?_ (args_tuple_getitem _ _)))))
  show wpAny _ _ (Builtin.Tuple.tupleItemsOf (.ref t) >>= _) _ _ s
  refine wpAny_bind (PyProof.Rows.tupleItemsOf_ ht (wpAny_bind (wpAny_typeOf isl ?_)))
  rw [if_pos (by decide)]
  refine wpAny_bind (slice_rev hs pl pu ps ?_)
  show wpAny _ _ (if ((((items.size : Int) - 1) == 0 && (-1 : Int) == 1 && items.size == items.size)) = true then _ else _) _ _ s
  rw [if_neg (by simp), pick_rev]
  first
    | exact wpAny_bind (m := Builtin.Tuple.tupleExact _) (wpAny_newObj_type (wpAny_pure ⟨_, rfl, wpAny_pure h⟩) small)
    | exact wpAny_bind (wpAny_bind (m := Builtin.Tuple.tupleExact _) (wpAny_newObj_type (wpAny_pure (wpAny_pure ⟨_, rfl, wpAny_pure h⟩)) small))
    | exact wpAny_bind (m := Builtin.Tuple.tupleExact _) (wpAny_newObj_type (wpAny_bind (wpAny_pure (wpAny_pure ⟨_, rfl, wpAny_pure h⟩))) small)
    | exact wpAny_bind (wpAny_bind (m := Builtin.Tuple.tupleExact _) (wpAny_newObj_type (wpAny_pure ⟨_, rfl, wpAny_pure h⟩) small))
end
end HN5
namespace Gd
open PySem PySem.Spec PyProof.Rows L2
section
variable {X : Cx}
def tRevT (K : PySem.W.Frag) (te : TE) : TE := fun σ H Q => te σ H fun x H1 => ∃ a xs, x = .ref a ∧ SqT K H1 a xs ∧ ∀ p, H1 p = none → Q (.ref p) (upd H1 p (.tup xs.reverse))
theorem pe_revT {e : Expr} {te : TE} {k : Nat} {p1 p2 p3 pos : Pos} (he : PE X e te) : PE X (.Subscript e (.Slice none none (some (.UnaryOp .USub (.Constant (.int 1) k p1) p2)) p3) pos) (tRevT X.K te) := by
  constructor
  intro pins s σ H Q I h
  refine Subscript_ (thn (he.run pins s σ H _ I h) fun v s1 ⟨x, H1, I1, r1, a, xs, ex, hx, q⟩ => ?_)
  subst ex
  cases r1
  have step : PO X (some (.UnaryOp .USub (.Constant (.int 1) k p1) p2)) (tPart (tUn (rU fun i => .int (-i)) (tC (.int 1)))) := po_some (pe_un un_neg pe_int)
  refine wpAny_Slice (thn (po_none.run pins s1 σ H1 (fun o G => o = none ∧ G = H1) I1 ⟨rfl, rfl⟩) fun vl s2 ⟨l, G, I2, pl, el, eG⟩ => ?_)
  subst el eG
  refine thn (po_none.run pins s2 σ G (fun o G2 => o = none ∧ G2 = G) I2 ⟨rfl, rfl⟩) fun vu s3 ⟨u, G2, I3, pu, eu, eG2⟩ => ?_
  subst eu eG2
  refine thn (step.run pins s3 σ G2 (fun o G3 => o = some (-1) ∧ G3 = G2) I3 ⟨1, rfl, -1, rfl, rfl, rfl⟩) fun vs s4 ⟨o, G3, I4, ps, eo, eG3⟩ => ?_
  subst eo eG3
  let sh : Shared := { s4 with heap := s4.heap.push { cls := .type "slice", data := .fields #[vl, vu, vs] } }
  have J : Inv X pins σ G3 sh := I4.kept (t' := s4.toks) fun b ob z => Heap.get?_push_of_some _ z
  obtain ⟨its, r, ht, hz⟩ := J.tuple hx
  have hlen := r.length
  show wpAny (model X.prog X.w) X.A (subscriptTail e (.Slice none none (some (.UnaryOp .USub (.Constant (.int 1) k p1) p2)) p3) (.ref a) (.ref s4.heap.objs.size)) (EP X pins σ Q) X.xe sh
  refine tail_any (ops := [.ref a, .ref s4.heap.objs.size]) ht.typeIs (PyProof.Rows.slot_tuple_getitem.lookup) ?_ (by with_unfolding_all rfl)
  refine HN5.rev_tup ht (Heap.IsSliceOf.new _ vl vu vs) pl pu ps ?_ (by rw [List.size_toArray]; omega)
  refine ⟨.ref _, _, J.laid (t' := s4.toks) (o := .tup xs.reverse) (fun b ob z => Heap.get?_push_of_some _ z) (Nat.le_refl _) ?_, rfl, q _ (J.hok.fresh (Nat.le_refl _))⟩
  exact ⟨by rw [List.length_reverse]; exact hz, _, r.reverse, ⟨_, Heap.get?_push_size _ rfl, rfl, _, rfl⟩⟩
end
end Gd

set_option Elab.async false
set_option linter.all false
set_option maxRecDepth 100000
set_option maxHeartbeats 4000000
/-! + - * of own classes, with an own object or an integer at the right; - of one. -/
namespace HN3
open PySem PySem.Spec PyProof.Rows PySem.SeqAt
section
variable {prog : Program} {w : World} {A : Around} {E : Value → Shared → Prop} {s : Shared} {K : PySem.W.Frag} {x C f : Addr} {ox : Obj} {od : Option Obj}
theorem name_there {M : Model} {h : Heap} {nm : String} (X : K.In h) (hs : PySem.W.findIn K (.ref C) (PySem.dunder nm) = some (some (.ref f))) (hr : PySem.W.findIn K (.ref C) (PySem.dunderR nm) = some none) :
    PySem.W.Looks M h (numberSlotInPython (.ref C) nm) true := by
  intro A Q E s k q
  unfold numberSlotInPython
  refine wpAny_bind (PySem.W.looks_findIn X hs A _ E s k ?_)
  refine wpAny_bind (wpAny_pure ?_)
  refine wpAny_bind (PySem.W.looks_findIn X hr A _ E s k ?_)
  refine wpAny_bind (wpAny_pure ?_)
  exact wpAny_pure q
theorem binop1_int {nm : String} {n : Int} {t : Tok} {z : Value} {Q : Value → Shared → Prop} (X : K.In s.heap) (I : PySem.W.InstAt s.heap x ox C od) (hc : PySem.W.selfFirst K C = true)
    (hs : PySem.W.findIn K (.ref C) (PySem.dunder nm) = some (some (.ref f))) (hrn : PySem.W.findIn K (.ref C) (PySem.dunderR nm) = some none) (hf : PySem.W.isFn K (.ref f) = true)
    (fi : fillsNumberSlot (.type "int") nm = pure true) (hsub : PySem.W.subIn K (.type "int") (.ref C) = some false) (hz : typeLookup (.type "int") (PySem.dunderR nm) = pure (some z))
    (h : wpAny (model prog w) A (call (.ref f) [.ref x, .int n t]) (PySem.W.CmpBack Q) E s) : wpAny (model prog w) A (binaryOp1 nm (.ref x) (.int n t)) (fun r s' => ∃ v, r = some v ∧ Q v s') E s := by
  obtain ⟨cd, hcd, hm⟩ := PySem.W.any_some hc
  obtain ⟨rest, hm⟩ : ∃ rest, cd.mro = .ref C :: rest := by
    cases q : cd.mro with
    | nil => rw [q] at hm; cases hm
    | cons a r => rw [q] at hm; exact ⟨r, by rw [List.head?_cons] at hm; cases (beq_iff_eq.mp hm); rfl⟩
  unfold binaryOp1
  refine wpAny_bind (I.type.here ?_)
  refine wpAny_bind (wpAny_of_eq (a := Value.type "int") rfl ?_)
  refine wpAny_bind ((PySem.W.fills_K X hcd hm hs).here ?_)
  have e : (Value.ref C == Value.type "int") = false := rfl
  rw [e]
  simp only [Bool.false_eq_true, if_false]
  refine wpAny_bind (wpAny_of_eq fi ?_)
  simp only [Bool.and_self, if_true]
  refine wpAny_bind ((PySem.W.looks_subIn X hsub).here ?_)
  simp only [Bool.false_eq_true, if_false]
  refine wpAny_bind ((name_there X hs hrn).here ?_)
  simp only [if_true]
  refine wpAny_bind (wpAny_of_eq (a := false) rfl ?_)
  simp only [Bool.not_false, if_true]
  refine wpAny_bind (wpAny_of_eq hz ?_)
  refine wpAny_bind (m := tryMethod (.ref x) _ (.int n t)) ?_
  unfold tryMethod
  refine wpAny_bind (PySem.W.special_fn X I hs (beq_iff_eq.mp hf) (wpAny_mono h (fun v s' hv => ?_) fun _ _ e => e))
  cases v <;> first | exact hv.elim | exact wpAny_pure (wpAny_pure ⟨_, rfl, hv⟩)
theorem binop_int {op : Operator} {n : Int} {t : Tok} {z : Value} {Q : Value → Shared → Prop} (X : K.In s.heap) (I : PySem.W.InstAt s.heap x ox C od) (hc : PySem.W.selfFirst K C = true)
    (hs : PySem.W.findIn K (.ref C) (PySem.dunder op.info.2) = some (some (.ref f))) (hrn : PySem.W.findIn K (.ref C) (PySem.dunderR op.info.2) = some none) (hf : PySem.W.isFn K (.ref f) = true)
    (fi : fillsNumberSlot (.type "int") op.info.2 = pure true) (hsub : PySem.W.subIn K (.type "int") (.ref C) = some false) (hz : typeLookup (.type "int") (PySem.dunderR op.info.2) = pure (some z))
    (h : wpAny (model prog w) A (call (.ref f) [.ref x, .int n t]) (PySem.W.CmpBack Q) E s) : wpAny (model prog w) A (binaryOp op (.ref x) (.int n t)) Q E s := by
  unfold binaryOp
  refine wpAny_holding (wpAny_bind (wpAny_mono (binop1_int X I hc hs hrn hf fi hsub hz h) (fun r s' hr => ?_) fun _ _ e => e))
  obtain ⟨v, rfl, q⟩ := hr
  exact wpAny_pure q
theorem neg_own {Q : Value → Shared → Prop} (X : K.In s.heap) (I : PySem.W.InstAt s.heap x ox C od)
    (hs : PySem.W.findIn K (.ref C) "__neg__" = some (some (.ref f))) (hf : PySem.W.isFn K (.ref f) = true)
    (h : wpAny (model prog w) A (call (.ref f) [.ref x]) Q E s) : wpAny (model prog w) A (unaryOp .USub (.ref x)) Q E s := by
  unfold unaryOp
  refine wpAny_holding ?_
  dsimp only
  rw [if_neg (by decide)]
  exact wpAny_bind (PySem.W.special_fn X I hs (beq_iff_eq.mp hf) (wpAny_mono h (fun v s' hv => wpAny_pure hv) fun _ _ e => e))
end
end HN3

namespace Gd
open PySem PySem.Spec PyProof.Rows L2
section
variable {X : Cx} {CX : CXT} {k : Nat} {f C : Addr} {fd : FuncData} {ps : List Str} {sp : Sp}
/-- what an operator of an own class asks of the class: m its method, r the name of the turned one, which nobody has -/
structure BinC (K : PySem.W.Frag) (C : Addr) (m r : Str) (f : Addr) : Prop where
  sf : PySem.W.selfFirst K C = true
  at_ : Meth K C m f
  rn : PySem.W.findIn K (.ref C) r = some none
/-- x OP y by the own method of x's class, y of that class or an integer; what it gives is an object -/
def rBinO (C : Addr) (sp : Sp) (E : XK) : R2 := fun x y H Q => ∃ p dx fs, x = .ref p ∧ H p = some (.ins C dx fs) ∧
  ((∃ q dy gs, y = .ref q ∧ H q = some (.ins C dy gs)) ∨ ∃ n, y = .int n) ∧ sp [x, y] H (fun v H' => (∃ q, v = .ref q) ∧ Q v H') E
theorem op_binO {op : Operator} {m r : Str} {z : Value} {E : XK} (e1 : PySem.dunder op.info.2 = m) (e2 : PySem.dunderR op.info.2 = r) (fi : fillsNumberSlot (.type "int") op.info.2 = pure true) (hz : typeLookup (.type "int") r = pure (some z))
    (B : BinC X.K C m r f) (F : FnOk X.prog X.w X.K X.mg X.base CX k f fd ps sp) (hr : Room (k + 1) X.A) (hb : Binds X.K fd ps []) (hx : ∀ σ, PassesAt CX X σ E) : OpR X (binaryOp op) (rBinO C sp E) := by
  subst e1 e2
  intro pins s σ H x y v u Q I rx ry h
  obtain ⟨p, dx, fs, rfl, ep, hy, hsp⟩ := h
  cases rx
  obtain ⟨od, J⟩ := seen I ep
  obtain ⟨m, hF⟩ := I.fr
  have run := wpAny_mono (runAt (.inl rfl) F hr hb .nil (hx σ) I (.cons (show RelV (V.ref p) (Value.ref p) from rfl) (.cons ry .nil)) hsp) (Q' := PySem.W.CmpBack (EP X pins σ Q)) (fun w s' hw => by
    obtain ⟨z, H', I', rz, ⟨q, rfl⟩, hq⟩ := hw
    cases rz
    exact ⟨.ref q, H', I', rfl, hq⟩) (fun _ _ z => z)
  rcases hy with ⟨q, dy, gs, rfl, eq⟩ | ⟨n, rfl⟩
  · cases ry
    obtain ⟨od2, J2⟩ := seen I eq
    exact PySem.W.binop_K hF I.ok.mod.kin J J2.type B.sf B.at_.at_ B.at_.fn run
  · obtain ⟨t, rfl⟩ := ry
    exact HN3.binop_int I.kIn J B.sf B.at_.at_ B.rn B.at_.fn fi (by kernel_rfl) hz run
theorem op_addO {E : XK} (B : BinC X.K C "__add__" "__radd__" f) (F : FnOk X.prog X.w X.K X.mg X.base CX k f fd ps sp) (hr : Room (k + 1) X.A) (hb : Binds X.K fd ps []) (hx : ∀ σ, PassesAt CX X σ E) : OpR X (binaryOp .Add) (rBinO C sp E) :=
  op_binO (op := .Add) (z := .builtin "int.__radd__") (by kernel_rfl) (by kernel_rfl) PySem.F.fills_int_add (by rw [typeLookup_type, builtinLookup_eq_fast]; kernel_rfl) B F hr hb hx
theorem op_subO {E : XK} (B : BinC X.K C "__sub__" "__rsub__" f) (F : FnOk X.prog X.w X.K X.mg X.base CX k f fd ps sp) (hr : Room (k + 1) X.A) (hb : Binds X.K fd ps []) (hx : ∀ σ, PassesAt CX X σ E) : OpR X (binaryOp .Sub) (rBinO C sp E) :=
  op_binO (op := .Sub) (z := .builtin "int.__rsub__") (by kernel_rfl) (by kernel_rfl) PySem.F.fills_int_sub (by rw [typeLookup_type, builtinLookup_eq_fast]; kernel_rfl) B F hr hb hx
theorem op_mulO {E : XK} (B : BinC X.K C "__mul__" "__rmul__" f) (F : FnOk X.prog X.w X.K X.mg X.base CX k f fd ps sp) (hr : Room (k + 1) X.A) (hb : Binds X.K fd ps []) (hx : ∀ σ, PassesAt CX X σ E) : OpR X (binaryOp .Mult) (rBinO C sp E) :=
  op_binO (op := .Mult) (z := .builtin "int.__rmul__") (by kernel_rfl) (by kernel_rfl) PySem.F.fills_int_mul (by rw [typeLookup_type, builtinLookup_eq_fast]; kernel_rfl) B F hr hb hx
/-- -x by the own method -/
def rNegO (C : Addr) (sp : Sp) (E : XK) : V → Hp → VK → Prop := fun x H Q => ∃ p dx fs, x = .ref p ∧ H p = some (.ins C dx fs) ∧ sp [x] H Q E
theorem un_negO {E : XK} (M : Meth X.K C "__neg__" f) (F : FnOk X.prog X.w X.K X.mg X.base CX k f fd ps sp) (hr : Room (k + 1) X.A) (hb : Binds X.K fd ps []) (hx : ∀ σ, PassesAt CX X σ E) : UnR X (unaryOp .USub) (rNegO C sp E) := by
  intro pins s σ H x v Q I rx h
  obtain ⟨p, dx, fs, rfl, ep, hsp⟩ := h
  cases rx
  obtain ⟨od, J⟩ := seen I ep
  exact HN3.neg_own I.kIn J M.at_ M.fn (runAt (.inl rfl) F hr hb .nil (hx σ) I (.cons (show RelV (V.ref p) (Value.ref p) from rfl) .nil) hsp)
end
end Gd

set_option Elab.async false
set_option linter.all false
set_option maxRecDepth 100000
set_option maxHeartbeats 4000000
/-! o(x), o of an own class with a __call__. -/
namespace HN6
open PySem PySem.Spec PyProof.Rows PySem.SeqAt
section
variable {M : Model} {A : Around} {E : Value → Shared → Prop} {s : Shared} {env : Env} {pos : Pos} {x : Addr} {Q : Value → Shared → Prop}
/-- the callee is an object with a dict of its own, wherever the arguments lead -/
theorem callWith_obj {e : Expr} {rest : List Expr} (h : wpAny M A (spliced (backTo pos (starEach (e :: rest) env))) (fun vs s1 => (∃ C ox od, PySem.W.InstAt s1.heap x ox C od ∧ ox.data = .plain) ∧ wpAny M A (call (.ref x) vs) Q E s1) E s)
    (he : starEach (e :: rest) env = (false, eval e env) :: starEach rest env := by rfl) (hplain : (backTo pos (starEach rest env)).any (·.1) = false := by rfl) :
    wpAny M A (callWith pos (.ref x) [] (backTo pos (starEach (e :: rest) env)) []) Q E s := by
  rw [he] at h ⊢
  have none' : ((backTo pos ((false, eval e env) :: starEach rest env)).any (·.1) || ([] : List (Option Str × Sem Value)).any (·.1.isNone)) = false := by
    show ((false || (backTo pos (starEach rest env)).any (·.1)) || false) = false
    rw [hplain]
    rfl
  have args := PySem.Calls.evalArgs_plain (f := .ref x) (Q := fun a s1 => (∃ C ox od, PySem.W.InstAt s1.heap x ox C od ∧ ox.data = .plain) ∧ wpAny M A (call (.ref x) ([] ++ a.pos) a.kw) Q E s1) h
  unfold callWith
  refine wpAny_bind (wpAny_holding (wpAny_mono args (fun a s1 ha => wpAny_bind (wpAny_standAt ?_)) fun _ _ z => z))
  obtain ⟨⟨C, ox, od, I, hd⟩, go⟩ := ha
  simp only [none']
  refine wpAny_bind ((PySem.W.kco_keeper (M := M) I hd).here (wpAny_bind (wpAny_operateT ?_)))
  exact wpAny_mono go (fun r s2 hr => wpAny_bind (wpAny_holding (wpAny_point (wpAny_pure hr)))) fun _ _ z => z
end
end HN6
namespace Gd
open PySem PySem.Spec PyProof.Rows L2
section
variable {X : Cx} {CX : CXT} {k : Nat} {f C : Addr} {fd : FuncData} {ps : List Str} {sp : Sp} {E : L2.St → XK} {e fe : Expr} {es : List Expr} {t : TA} {tf : TE} {pos : Pos}
def tCallO (C : Addr) (sp : Sp) (E : L2.St → XK) (tf : TE) (t : TA) : TE := fun σ H Q => tf σ H fun x H1 => ∃ p, x = .ref p ∧ t σ H1 fun vs H2 => ∃ dx fs, H2 p = some (.ins C dx fs) ∧ sp (.ref p :: vs) H2 Q (E σ)
theorem pe_callO (hm : Meth X.K C "__call__" f) (hfn : PySem.W.fnIn X.K f = true) (F : FnOk X.prog X.w X.K X.mg X.base CX k f fd ps sp) (hr : Room (k + 1) X.A) (hb : Binds X.K fd ps []) (hx : ∀ σ, PassesAt CX X σ (E σ)) (hf : PE X fe tf) (ha : PA X (e :: es) t)
    (he : eval (.Call fe (e :: es) [] pos) X.env = (do callWith pos (← eval fe X.env) [] (backTo pos (starEach (e :: es) X.env)) (backToKw pos (keywordEach [] X.env))) := by rfl)
    (h1 : starEach (e :: es) X.env = (false, eval e X.env) :: starEach es X.env := by rfl) (h2 : (backTo pos (starEach es X.env)).any (·.1) = false := by rfl) :
    PE X (.Call fe (e :: es) [] pos) (tCallO C sp E tf t) := by
  constructor
  intro pins s σ H Q I h
  refine Call_ (thn (hf.run pins s σ H _ I h) fun u s1 ⟨x, H1, I1, rx, p, ex, q1⟩ => ?_) he
  subst ex
  cases rx
  refine HN6.callWith_obj (thn (ha.run pos pins s1 σ H1 _ I1 q1) fun us s2 ⟨vs, H2, I2, r, dx, fs, ep, hsp⟩ => ?_) h1 h2
  obtain ⟨od, J⟩ := seen I2 ep
  refine ⟨⟨C, _, _, J, rfl⟩, ?_⟩
  have rv : Vals (V.ref p :: vs) (Value.ref p :: us) := .cons rfl r
  have hl : (Value.ref p :: us).length = ps.length := by
    rw [← rv.length]
    exact F.len _ H2 Q (E σ) hsp
  refine wpAny_call (PySem.W.kco_code (a := ⟨us, []⟩) I2.kIn J rfl hm.at_ hm.fn hfn (codeAny_mono (F.run X.A X.stack s2 H2 ⟨.ref p :: us, []⟩ (.ref p :: us) _ Q (E σ) (hr.mono (Nat.le_succ _)) I2.env0 (by
    have q := hb s2 (.ref p :: us) I2.kIn (by simpa using hl)
    simpa using q) rv hsp) fun z s3 hz => ?_))
  match z, hz with
  | .error er, hz => exact hx σ pins H2 s2 er s3 I2 hz
  | .ok .next, hz => exact False.elim hz
  | .ok .brk, hz => exact False.elim hz
  | .ok .cont, hz => exact False.elim hz
  | .ok (.ret v), hz => exact I2.after hz
end
end Gd

set_option Elab.async false
set_option linter.all false
set_option maxRecDepth 100000
set_option maxHeartbeats 4000000
/-! Readings, step by step: one lemma a word of the readings, and a tactic that goes as far as nothing is asked. -/
namespace Gd
open PySem PySem.Spec PyProof.Rows L2
section
variable {σ : L2.St} {H : Hp} {Q : VK} {QA : List V → Hp → Prop} {QT : Bool → Hp → Prop} {D : Ends} {te ta tb tc to : TE} {t u : TT} {tr : TA} {s1 s2 : TS} {v : V} {i : Nat} {K : PySem.W.Frag}
theorem g_var (h : σ[i]? = some (some v)) (k : Q v H) : tVar i σ H Q := ⟨v, h, k⟩
theorem g_c (k : Q v H) : tC v σ H Q := k
theorem g_ret (k : te σ H D.rt) : tRet te D σ H := k
theorem g_retN (k : D.rt .non H) : tRetN D σ H := k
theorem g_seq (k : s1 { D with nx := s2 D } σ H) : tSeq s1 s2 D σ H := k
theorem g_next (k : D.nx σ H) : tNext D σ H := k
theorem g_drop (k : te σ H fun _ H1 => D.nx σ H1) : tDrop te D σ H := k
theorem g_asg {g : TG} (k : te σ H fun x H1 => g x σ H1 D.nx) : tAsg te g D σ H := k
theorem g_name {Qs : L2.St → Hp → Prop} (k : Qs (σ.set i (some v)) H) : gName i v σ H Qs := k
theorem g_ifs (k : t σ H fun b H1 => if b = true then s1 D σ H1 else s2 D σ H1) : tIfS t s1 s2 D σ H := k
theorem g_test (k : te σ H fun x H' => ∃ c, x = .bl c ∧ QT c H') : tTest te σ H QT := k
theorem g_tb (k : te σ H fun x H' => ∃ c, x = .bl c ∧ QT c H') : tB te σ H QT := k
theorem g_and (k : t σ H fun c H1 => if c = true then u σ H1 QT else QT false H1) : tAnd t u σ H QT := k
theorem g_or (k : t σ H fun c H1 => if c = true then QT true H1 else u σ H1 QT) : tOr t u σ H QT := k
theorem g_not (k : t σ H fun c H1 => QT (!c) H1) : tNot t σ H QT := k
theorem g_andV (k : ta σ H fun x H1 => ∃ c, x = .bl c ∧ if c = true then tb σ H1 Q else Q (.bl false) H1) : tAndV ta tb σ H Q := k
theorem g_orV (k : ta σ H fun x H1 => ∃ c, x = .bl c ∧ if c = true then Q (.bl true) H1 else tb σ H1 Q) : tOrV ta tb σ H Q := k
theorem g_notV (k : ta σ H fun x H1 => ∃ c, x = .bl c ∧ Q (.bl (!c)) H1) : tNotV ta σ H Q := k
theorem g_if (k : t σ H fun c H1 => if c = true then ta σ H1 Q else tb σ H1 Q) : tIf t ta tb σ H Q := k
theorem g_op {r : R2} (k : ta σ H fun x H1 => tb σ H1 fun y H2 => r x y H2 Q) : tOp r ta tb σ H Q := k
theorem g_un {r : V → Hp → VK → Prop} (k : ta σ H fun x H1 => r x H1 Q) : tUn r ta σ H Q := k
theorem g_cb {r : List V → Hp → VK → Prop} (k : tr σ H fun vs H1 => r vs H1 Q) : tCB r tr σ H Q := k
theorem g_nil (k : QA [] H) : tNil σ H QA := k
theorem g_cons (k : ta σ H fun x H1 => tr σ H1 fun xs H2 => QA (x :: xs) H2) : tCons ta tr σ H QA := k
theorem g_call {sp : Sp} {dvs : List V} {E : XK} (k : tr σ H fun vs H1 => sp (vs ++ dvs) H1 Q E) : tCall sp dvs E tr σ H Q := k
theorem g_callS {sp : Sp} {E : L2.St → XK} (k : tr σ H fun vs H1 => sp vs H1 Q (E σ)) : tCallS sp E tr σ H Q := k
theorem g_tup (k : tr σ H fun xs H1 => xs.length ≤ sizeLine ∧ ∀ p, H1 p = none → Q (.ref p) (upd H1 p (.tup xs))) : tTup tr σ H Q := k
theorem g_lst (k : tr σ H fun xs H1 => xs.length ≤ sizeLine ∧ ∀ p, H1 p = none → Q (.ref p) (upd H1 p (.lst xs))) : tLst tr σ H Q := k
theorem g_isN (k : ta σ H fun x H1 => Q (.bl (decide (x = .non))) H1) : tIsN ta σ H Q := k
theorem g_sl {r : V → Option Int → Option Int → Hp → VK → Prop} {tl th : TO} (k : te σ H fun x H1 => tl σ H1 fun l H2 => th σ H2 fun u H3 => r x l u H3 Q) : tSl r te tl th σ H Q := k
theorem g_nopart {Qo : Option Int → Hp → Prop} (k : Qo none H) : tNoPart σ H Qo := k
theorem g_part {Qo : Option Int → Hp → Prop} (k : te σ H fun x H1 => ∃ i, x = .int i ∧ Qo (some i) H1) : tPart te σ H Qo := k
theorem g_chain {r r' : R2} (k : ta σ H fun x H1 => tb σ H1 fun y H2 => r x y H2 fun z H3 => ∃ c, z = .bl c ∧
    if c = true then tc σ H3 fun w H4 => r' y w H4 Q else Q (.bl false) H3) : tChain r r' ta tb tc σ H Q := by
  exact k
theorem g_fld {f : Str} (k : ta σ H fun x H1 => ∃ a C dx fs v, x = .ref a ∧ H1 a = some (.ins C dx fs) ∧ Cls K C ∧ NoAttr K C f ∧ fs.lookup f = some v ∧ Q v H1) : tFld K ta f σ H Q := k
theorem g_prop {C : Addr} {sp : Sp} {dvs : List V} {E : XK} (k : ta σ H fun x H1 => ∃ a dx fs, x = .ref a ∧ H1 a = some (.ins C dx fs) ∧ sp (.ref a :: dvs) H1 Q E) : tProp C sp dvs E ta σ H Q := k
theorem g_bm {T : String} {r : V → List V → Hp → VK → Prop} (k : to σ H fun x H1 => tyV K T x H1 ∧ tr σ H1 fun xs H2 => r x xs H2 Q) : tBM K T r to tr σ H Q := k
theorem g_bm0 {T : String} {r : V → List V → Hp → VK → Prop} (k : to σ H fun x H1 => tyV K T x H1 ∧ r x [] H1 Q) : tBM0 K T r to σ H Q := k
theorem g_tru {r : V → Hp → (Bool → Hp → Prop) → Prop} (k : te σ H fun x H' => r x H' QT) : (fun (σ : L2.St) (H : Hp) (Q : Bool → Hp → Prop) => te σ H fun x H' => r x H' Q) σ H QT := k
-- values
theorem g_I0 {g : Int → Int → V} {a b : Int} (k : Q (g a b) H) : rI0 g (.int a) (.int b) H Q := ⟨a, b, rfl, rfl, k⟩
theorem g_I {C : Int → Int → Prop} {g : Int → Int → V} {a b : Int} (c : C a b) (k : Q (g a b) H) : rI C g (.int a) (.int b) H Q := ⟨a, b, rfl, rfl, c, k⟩
theorem g_U {g : Int → V} {a : Int} (k : Q (g a) H) : rU g (.int a) H Q := ⟨a, rfl, k⟩
theorem g_eqI {a b : Int} (k : Q (.bl (decide (a = b))) H) : rEq (.int a) (.int b) H Q := by
  refine ⟨rfl, ?_⟩
  have e : (V.int a = V.int b) = (a = b) := by simp
  simpa [e] using k
theorem g_eq {x y : V} (s : scal x y = true) (k : Q (.bl (decide (x = y))) H) : rEq x y H Q := ⟨s, k⟩
theorem g_ne {x y : V} (s : scal x y = true) (k : Q (.bl (!decide (x = y))) H) : rNe x y H Q := ⟨s, k⟩
theorem g_bl {b : Bool} (k : QT b H) : ∃ c, (V.bl b) = .bl c ∧ QT c H := ⟨b, rfl, k⟩
theorem g_blV {b : Bool} {A : Bool → Prop} (k : A b) : ∃ c, (V.bl b) = .bl c ∧ A c := ⟨b, rfl, k⟩
theorem g_inV {a : Int} {A : Int → Prop} (k : A a) : ∃ c, (V.int a) = .int c ∧ A c := ⟨a, rfl, k⟩
theorem g_ixT {p : Addr} {xs : List V} {a : Int} (h : SqT K H p xs) (e : atI xs a = some v) (k : Q v H) : rIxT K (.ref p) (.int a) H Q := ⟨p, xs, a, v, rfl, rfl, h, e, k⟩
theorem g_ixL {p : Addr} {xs : List V} {a : Int} (h : SqL K H p xs) (e : atI xs a = some v) (k : Q v H) : rIxL K (.ref p) (.int a) H Q := ⟨p, xs, a, v, rfl, rfl, h, e, k⟩
end

/-- the turn's end: the invariant again, the measure less -/
abbrev Turn (Pv : L2.St → Hp → Prop) (μ : L2.St → Hp → Nat) (m : Nat) : L2.St → Hp → Prop := fun σ' H' => Pv σ' H' ∧ μ σ' H' < m
theorem g_while {c : TT} {tb : TS} {D : Ends} {σ : L2.St} {H : Hp} (Pv : L2.St → Hp → Prop) (μ : L2.St → Hp → Nat) (h0 : Pv σ H)
    (hs : ∀ σ H, Pv σ H → c σ H fun b H1 => if b = true then ∃ N : L2.St → Hp → Prop, (∀ σ' H', N σ' H' → ∃ m', m' < μ σ H ∧ m' = μ σ' H' ∧ Pv σ' H') ∧
      tb { D with nx := N, ct := N, bk := D.nx } σ H1 else D.nx σ H1) : tWhile c tb D σ H := by
  refine ⟨fun m σ H => m = μ σ H ∧ Pv σ H, ⟨_, rfl, h0⟩, ?_⟩
  rintro m σ H ⟨rfl, p⟩
  exact hs σ H p
theorem g_turn {tb : TS} {D : Ends} {σ : L2.St} {H H1 : Hp} {Pv : L2.St → Hp → Prop} {μ : L2.St → Hp → Nat}
    (h : tb { D with nx := Turn Pv μ (μ σ H), ct := Turn Pv μ (μ σ H), bk := D.nx } σ H1) :
    ∃ N : L2.St → Hp → Prop, (∀ σ' H', N σ' H' → ∃ m', m' < μ σ H ∧ m' = μ σ' H' ∧ Pv σ' H') ∧ tb { D with nx := N, ct := N, bk := D.nx } σ H1 :=
  ⟨Turn Pv μ (μ σ H), fun σ' H' n => ⟨_, n.2, rfl, n.1⟩, h⟩
theorem g_aug {σ : L2.St} {H : Hp} {D : Ends} {i : Nat} {te : TE} {ti : TIp} {x : V} (h : σ[i]? = some (some x)) (k : te σ H fun y H1 => ti x y H1 fun z H2 => D.nx (σ.set i (some z)) H2) : tAug i te ti D σ H := ⟨x, h, k⟩
theorem tyT {K : PySem.W.Frag} {H : Hp} {a : Addr} {xs : List V} (h : SqT K H a xs) : TyX K H (.ref a) (.type "tuple") := by
  rcases h with (h | ⟨o, h⟩) | ⟨o, its, n, h, c, _⟩
  · exact .base (.tup h)
  · exact .fTuple h
  · exact .kTuple h c
theorem tyL {K : PySem.W.Frag} {H : Hp} {a : Addr} {xs : List V} (h : SqL K H a xs) : TyX K H (.ref a) (.type "list") ∨ ∃ o, K.lookup a = some o := by
  rcases h with (h | ⟨o, h⟩) | ⟨o, its, n, h, c, _⟩
  · exact .inl (.base (.lst h))
  · exact .inl (.base (.frz h))
  · exact .inr ⟨o, h⟩

theorem g_yes {σ : L2.St} {H : Hp} {Q : Bool → Hp → Prop} (k : Q true H) : tYes σ H Q := k
theorem g_sfld {σ : L2.St} {H : Hp} {D : Ends} {K : PySem.W.Frag} {ta te : TE} {f : Str} (k : te σ H fun y H1 => ta σ H1 fun x H2 => ∃ a C dx fs, x = .ref a ∧ H2 a = some (.ins C dx fs) ∧ Cls K C ∧ NoAttr K C f ∧
    fs.length < 1000 ∧ D.nx σ (upd H2 a (.ins C dx (putF f y fs)))) : sFld K ta te f D σ H := k
theorem g_int1 {a : Int} {A : Int → Prop} (k : A a) : ∃ i, [V.int a] = [V.int i] ∧ A i := ⟨a, rfl, k⟩
theorem g_int2 {a b : Int} {A : Int → Int → Prop} (k : A a b) : ∃ i j, [V.int a, V.int b] = [V.int i, V.int j] ∧ A i j := ⟨a, b, rfl, k⟩
theorem g_sub {σ : L2.St} {H : Hp} {Qs : L2.St → Hp → Prop} {to ti : TE} {t : TSet} {v : V} (k : to σ H fun o H1 => ti σ H1 fun i H2 => t o i v H2 fun H3 => Qs σ H3) : gSub to ti t v σ H Qs := k
theorem g_NT {A B : Prop} (h : B) : if (!true) = true then A else B := h
theorem g_NF {A B : Prop} (h : A) : if (!false) = true then A else B := h
end Gd

set_option Elab.async false
set_option linter.all false
set_option maxRecDepth 100000
set_option maxHeartbeats 4000000
/-! More readings. -/
namespace Gd
open PySem PySem.Spec PyProof.Rows L2
theorem g_forR {ta : TA} {g : TG} {tb : TS} {D : Ends} {σ : L2.St} {H : Hp} (k : ta σ H fun vs H1 => ∃ j : Int, vs = [.int j] ∧ -(2 ^ 62) ≤ j ∧ j < 2 ^ 62 ∧ ∃ W : Nat → Nat → L2.St → Hp → Prop, (∃ m, W 0 m σ H1) ∧ ∀ i m σ H, W i m σ H →
  ((Itr 0 j.toNat).stop i H ∧ D.nx σ H) ∨ ((Itr 0 j.toNat).go i H ∧ ∃ N : L2.St → Hp → Prop, (∀ σ' H', N σ' H' → ∃ m', m' < m ∧ W (i + 1) m' σ' H') ∧ ∀ x H', (Itr 0 j.toNat).yld i H x H' → g x σ H' fun σ2 H2 => tb { D with nx := N, ct := N, bk := D.nx } σ2 H2)) :
    tFor (iRng1 ta) g tb D σ H := k
theorem g_ifV {c : Bool} {ta tb : TE} {σ : L2.St} {H : Hp} {Q : VK} (v : V) (ha : c = true → ∀ Q' : VK, Q' v H → ta σ H Q') (hb : c = false → ∀ Q' : VK, Q' v H → tb σ H Q') (k : Q v H) : if c = true then ta σ H Q else tb σ H Q := by
  cases c with
  | true => exact ha rfl Q k
  | false => exact hb rfl Q k
theorem g_neS {x : Str} {H : Hp} {Q : VK} (k : Q (.bl false) H) : rNe (.str x) (.str x) H Q := ⟨rfl, by simpa using k⟩
theorem g_ixO {C : Addr} {sp : Sp} {E : L2.St → XK} {ta tb : TE} {σ : L2.St} {H : Hp} {Q : VK} (k : ta σ H fun x H1 => tb σ H1 fun y H2 => ∃ p dx fs, x = .ref p ∧ H2 p = some (.ins C dx fs) ∧ sp [x, y] H2 Q (E σ)) : tIxO C sp E ta tb σ H Q := k
/-- a place that is reached from more than one side -/
theorem g_cut {s1 s2 : TS} {D : Ends} {σ : L2.St} {H : Hp} (N : L2.St → Hp → Prop) (hN : ∀ σ' H', N σ' H' → s2 D σ' H') (k : (∀ σ' H', N σ' H' → s2 D σ' H') → s1 { D with nx := s2 D } σ H) : tSeq s1 s2 D σ H := k hN
theorem g_eqS {x : Str} {H : Hp} {Q : VK} (k : Q (.bl true) H) : rEq (.str x) (.str x) H Q := ⟨rfl, by simpa using k⟩
theorem g_par {i j : Nat} {ta : TA} {D : Ends} {σ : L2.St} {H : Hp} (k : ta σ H fun vs H1 => ∃ v w, vs = [v, w] ∧ D.nx ((σ.set i (some v)).set j (some w)) H1) : tPar i j ta D σ H := k
theorem g_make {C : Addr} {sp : Sp} {dvs : List V} {E : XK} {t : TA} {σ : L2.St} {H : Hp} {Q : VK} (k : t σ H fun vs H1 => ∀ x dx, H1 x = none → H1 dx = none → dx ≠ x →
  sp (.ref x :: (vs ++ dvs)) (upd (upd H1 dx (.own x)) x (.ins C dx [])) (fun v H2 => v = .non ∧ Q (.ref x) H2) E) : tMake C sp dvs E t σ H Q := k
end Gd

set_option Elab.async false
set_option linter.all false
set_option maxRecDepth 100000
set_option maxHeartbeats 4000000
/-! try with several clauses «except x as n» of one name n. -/
namespace Gd
open PySem PySem.Spec PyProof.Rows L2
abbrev Clause := Value × (Addr → Value → Option Addr → TS)
/-- what the clauses wish, one after the other; slot i is the name's -/
def wAsAll (K : PySem.W.Frag) (i : Nat) (Wo : WX) (D : Ends) : List Clause → WX
  | [] => Wo
  | (c, ts) :: r => wAs K c i ts (wAsAll K i Wo D r) D
inductive AsOk (X : Cx) (n : Str) : List ExceptHandler → List Clause → Prop
  | nil : AsOk X n [] []
  | cons {x : Str} {c : Value} {ts : Addr → Value → Option Addr → TS} {b₀ : Stmt} {rows : List Stmt} {np po : Pos} {hds : List ExceptHandler} {l : List Clause} (hc : Names X x c)
      (hsu : ∀ (a : Addr) (oe : Obj) (k : Value) (d : Option Addr) (pn : List (Addr × Obj)), Zc k d oe → (∃ us, oe.data = .fields us) → PSs (X.suite a ((a, oe) :: pn)) (b₀ :: rows) (ts a k d)) (more : AsOk X n hds l) :
      AsOk X n (.ExceptHandler (some (.Name x np)) (some n) (b₀ :: rows) po :: hds) ((c, ts) :: l)
section
variable {X : Cx} {n : Str} {i : Nat} {body : List Stmt} {h₀ : ExceptHandler} {hds : List ExceptHandler} {l : List Clause} {pos : Pos} {tb : WX → TS} {Wo : WX}
theorem ps_try_asAll (hst : X.stack = X.env :: X.outer) (hfr0 : X.env.frame = some X.env.locals) (hN : X.N.Nodup) (hi : X.N[i]? = some n) (hl : X.env.kindOf n = some .local) (tk : Takes X Wo)
    (hb : ∀ (W : WX) (pn : List (Addr × Obj)) (xe : Value → Shared → Prop), Takes (X.tr pn xe) W → PassesOwn (model X.prog X.w) X.A X.env xe → PSs (X.tr pn xe) body (tb W))
    (hh : AsOk X n (h₀ :: hds) l) : PS X (.Try body (h₀ :: hds) [] [] pos) (fun D σ H => tb (wAsAll X.K i Wo D l) D σ H) := by
  constructor
  intro pins s0 σ0 H0 D I h
  have okX := I.ok
  have hfr : X.A.frames = some (X.env :: X.outer) := by rw [okX.frames, hst]
  have hloc : Loc X.env.scope n := .inl hl
  refine wpAny_Try_except ?_
  have go := hb (wAsAll X.K i Wo D l) (X.pn ++ pins) (fun e t₁ => wpAny (model X.prog X.w) X.A (noteFrame e X.env) (fun _ t₂ => wpAny (model X.prog X.w) X.A (setFlight e none) (fun _ t₃ =>
    wpAny (model X.prog X.w) X.A (handleBy e X.env (h₀ :: hds)) (SP X pins D) X.xe t₃) X.xe t₂) X.xe t₁) (fun u t' caught => ?_) PassesOwn.looking
  · refine wpAny_mono (go.run [] s0 σ0 H0 D (I.toTry _) h) (fun f t1 done => ?_) (fun e t1 z => z)
    match f, done with
    | .next, ⟨σ1, H1, J, q⟩ => exact wpAny_execs_nil ⟨σ1, H1, J.ofTry okX, q⟩
    | .brk, ⟨σ1, H1, J, q⟩ => exact ⟨σ1, H1, J.ofTry okX, q⟩
    | .cont, ⟨σ1, H1, J, q⟩ => exact ⟨σ1, H1, J.ofTry okX, q⟩
    | .ret u, ⟨v, σ1, H1, J, r, q⟩ => exact ⟨v, σ1, H1, J.ofTry okX, r, q⟩
  obtain ⟨a, B, sI, pins2, σ2, H2, cls, d, rfl, J0, nb, up, sky, na, os, ag, wish⟩ := caught
  have J : Inv X pins σ2 H2 sI := J0.ofTry okX
  have sky2 : Sky B (X.env :: X.outer) a (Zc cls d) X.env.locals t'.heap := by rw [← hst]; exact sky
  show wpAny (model X.prog X.w) X.A (noteFrame (.ref a) X.env) _ _ _
  refine Sky.land Zc.steady hfr hfr0 sky2 ?_
  intro h3 fl3 up3
  have J3 : Inv X pins σ2 H2 { t' with heap := h3 } := J.landed nb fl3.1 (up.trans up3) os ag
  obtain ⟨o3, vs3, at3, z3, d3⟩ := fl3.there
  have off : a ∉ frs (X.env :: X.outer) := by
    intro hm
    obtain ⟨_, o', e', hnf⟩ := fl3.2.2.1.mem hm
    rw [at3] at e'
    cases e'
    exact hnf _ d3
  have nL : a ≠ X.env.locals := by
    intro z
    exact off (List.mem_filterMap.mpr ⟨X.env, List.mem_cons_self, by rw [hfr0, z]⟩)
  have nF : a ∉ X.fs := by
    intro hm
    obtain ⟨e, he, q⟩ := List.mem_filterMap.mp hm
    exact off (List.mem_filterMap.mpr ⟨e, List.mem_cons_of_mem _ he, q⟩)
  have S3 := J3.suite at3 d3 na nL nF
  have clauses : ∀ (hs2 : List ExceptHandler) (l2 : List Clause), AsOk X n hs2 l2 → wAsAll X.K i Wo D l2 cls d σ2 H2 →
      wpAny (model X.prog X.w) X.A (handleBy (.ref a) X.env hs2) (SP X pins D) X.xe { t' with heap := h3 } := by
    intro hs2 l2 ok2
    induction ok2 with
    | nil =>
      intro wo
      refine wpAny_handleBy_nil ?_
      obtain ⟨_, _, _, oe, us, T, oT, ts2, at_, hz, hd, hT, hr⟩ := id fl3
      unfold PySem.passOn
      refine wpAny_bind (wpAny_field at_ hd hT ?_)
      rw [if_neg (show ¬ ((Value.ref T == Value.none) = true) by simp)]
      have out : wpAny (model X.prog X.w) X.A (setFlight (.ref a) X.env.frame) (fun _ t4 => wpAny (model X.prog X.w) X.A (throw (.ref a) : Sem Flow) (SP X pins D) X.xe t4) X.xe { t' with heap := h3 } := by
        rw [hfr0]
        refine HandSPX.setFlight_upZ fl3 ?_
        intro h4 hh4 up4
        refine wpAny_throw (tk _ _ ⟨a, B, sI, pins, σ2, H2, cls, d, rfl, J, nb, (up.trans up3).trans up4, .inr (.inr ?_), na, os, ag, wo⟩)
        rw [hst]
        exact hh4
      first
        | exact wpAny_bind (wpAny_pure (wpAny_bind out))
        | exact wpAny_bind out
    | @cons x c ts b₀ rows np po hds2 l3 hc hsu more ih =>
      rintro ⟨b, hb1, yes, no⟩
      refine wpAny_handleBy_cons (codeAny_handlers_test ?_) (by intro q; cases q)
      have LT : PySem.W.Looks (model X.prog X.w) h3 (typeOf (.ref a)) cls := by
        intro A Q E s k q
        exact wpAny_typeOf_ref (k _ _ at3) (by rw [z3.1]; exact q)
      have LM := PySem.W.exm_one (M := model X.prog X.w) J3.kIn LT hb1
      have named : ∀ {Q : Value → Shared → Prop} {E : Value → Shared → Prop}, Q c { t' with heap := h3 } → wpAny (model X.prog X.w) (X.A.mark (some (.ref a))) (eval (.Name x np) X.env) Q E { t' with heap := h3 } := by
        intro Q E q
        obtain ⟨hg, hdb, hm | ⟨hm, hv, hnn⟩⟩ := hc
        · exact ld_glob (X := X.suite a ((a, o3) :: (X.pn ++ pins))) S3 hg hm q hdb
        · exact ld_blt (X := X.suite a ((a, o3) :: (X.pn ++ pins))) S3 hg hm hv q hnn hdb
      refine named (LM.here ?_)
      cases b with
      | false =>
        show wpAny _ X.A (handleBy (.ref a) X.env hds2) _ _ _
        exact ih (no rfl)
      | true =>
        refine codeAny_handlers_suite_as ?_
        refine HandSPX.lands_againZ fl3 ?_
        intro h4 fl4 up4
        have J4 : Inv X pins σ2 H2 { t' with heap := h4 } := J.landed nb fl4.1 ((up.trans up3).trans up4) os ag
        obtain ⟨o4, vs4, at4, z4, d4⟩ := fl4.there
        refine store_ok (X := X.suite a ((a, o4) :: (X.pn ++ pins))) (v := .ref a) (J4.suite at4 d4 na nL nF) hN hi hloc rfl (fun t5 S5 => ?_) (.inr hl)
        refine wpAny_mono ((hsu a o4 cls d (X.pn ++ pins) z4 ⟨_, d4⟩).run [] t5 _ H2 _ S5 (yes rfl a na)) (fun f t6 done => ?_) (fun _ _ z => z.elim)
        have gone : ∀ {σ6 : L2.St} {H6 : Hp} {Q : Shared → Prop}, Inv (X.suite a ((a, o4) :: (X.pn ++ pins))) [] σ6 H6 t6 → (∀ t7, Inv X pins (σ6.set i none) H6 t7 → Q t7) →
            wpAny (model X.prog X.w) X.A (do bindName X.env n .none; unbindBehindTheSuite X.env n po) (fun _ t7 => Q t7) X.xe t6 := by
          intro σ6 H6 Q S6 hq
          exact gone_ok (S6.unsuite okX) hN hi hl hq
        match f, done with
        | .next, ⟨σ6, H6, S6, q6⟩ => exact gone S6 fun t7 J7 => ⟨_, _, J7, q6⟩
        | .brk, ⟨σ6, H6, S6, q6⟩ => exact gone S6 fun t7 J7 => ⟨_, _, J7, q6⟩
        | .cont, ⟨σ6, H6, S6, q6⟩ => exact gone S6 fun t7 J7 => ⟨_, _, J7, q6⟩
        | .ret u, ⟨v6, σ6, H6, S6, r6, q6⟩ => exact gone S6 fun t7 J7 => ⟨_, _, _, J7, r6, q6⟩
  exact clauses _ _ hh wish
end
end Gd

set_option Elab.async false
set_option linter.all false
set_option maxRecDepth 100000
set_option maxHeartbeats 4000000
/-! A def whose code object is known. -/
namespace Gd
open PySem PySem.Spec PyProof.Rows L2
section
variable {P : Program} {w : World} {K : PySem.W.Frag} {mg : Str → Option Value} {base : Heap} {CX : CXT} {k : Nat}
  {f c : Addr} {fd : FuncData} {ps : List Str} {sp : Sp}
theorem fnGc {x qual : Str} {st : Stmt} {N : List Str} (F : Fun K x qual st f fd) (hc : fd.code = .ref c) (S : FnScope N ps (defScope st))
    (many : ∀ vs H Q E, sp vs H Q E → vs.length = ps.length)
    (body : ∀ (A : Around) (out : List Env) (s : Shared) (H : Hp) (vs : List V) (Q : VK) (E : XK),
      NoG A → Room k (A.deeper (envOfC qual (defScope st) s.heap.objs.size f (.ref c))) → sp vs H Q E →
      ∃ t, PSs (cxOf CX P w K mg base N qual (defScope st) f (.ref c) A out s H E) (defBody st) t ∧
        t { nx := fun _ H' => Q .non H', rt := Q } (start N vs) H) :
    FnG P w K mg base CX (k + 1) f fd ps sp := by
  obtain ⟨oc, od, kV, doc, pm, an, cdv, ct, osl, rfl, lk, hcd⟩ := F.ex
  obtain rfl : cdv = .ref c := hc
  refine ⟨many, ?_⟩
  intro A out s H ar us vs Q E hg hr e0 hb r hsp
  have hl := many vs H Q E hsp
  have KX : K.In s.heap := e0.mod.kin.keeps (fun b o e => (e0.bs b o e).1)
  have lim : s.heap.NoLimit := e0.mod.nolimit.keeps (fun b o e => (e0.bs b o e).1)
  have kinds : ∀ y ∈ ps.zip us, (defScope st).names.lookup y.1 = some .local ∨
      ((defScope st).names.lookup y.1 = some .cell ∧ ((cellsFrom (s.heap.objs.size + 1) (defScope st).names []).lookup y.1).isSome = true) := by
    rintro ⟨n, v⟩ hy
    rcases S.par n (List.of_mem_zip hy).1 with q | q
    · exact Or.inl q
    · exact Or.inr ⟨q, PySem.W.cellsFrom_some _ _ _ (Or.inl q)⟩
  refine codeAny_call_function hr.depth (KX _ _ lk) rfl S.co S.gen rfl
    (PySem.W.codeRec_of KX hcd) (hb _ _ _ _ ?_)
  refine wpAny_newFunctionEnv_cells S.kind kinds ?_
  intro env he s1 x
  cases he
  refine ⟨lim.keeps x.toInCall.keep, codeAny_func ?_⟩
  obtain ⟨t, ht, hq⟩ := body A out s H vs Q E hg (hr.deeper _) hsp
  have I := inv_start (CX := CX) (E := E) S hr.hd e0 hl r x
  refine wpAny_mono (ht.run [] s1 (start N vs) H _ I hq) ?_ (fun e s' hs => hs)
  intro fl s' hs
  have fin : ∀ {σ' : L2.St} {H' : Hp} {v : V} {u : Value},
      Inv (cxOf CX P w K mg base N qual (defScope st) f (.ref c) A out s H E) [] σ' H' s' →
      RelV v u → Q v H' → CE out P w H s Q u s' := by
    intro σ' H' v u J rv q
    exact ⟨v, H', J.os, J.bare, J.base, J.hok, rv, q⟩
  cases fl with
  | ret u =>
    obtain ⟨v, σ', H', J, rv, q⟩ := hs
    exact fin J rv q
  | next =>
    obtain ⟨σ', H', J, q⟩ := hs
    exact fin (v := V.non) (u := Value.none) J rfl q
  | brk =>
    obtain ⟨σ', H', J, q⟩ := hs
    exact False.elim q
  | cont =>
    obtain ⟨σ', H', J, q⟩ := hs
    exact False.elim q
end
end Gd

set_option Elab.async false
set_option linter.all false
set_option maxRecDepth 100000
set_option maxHeartbeats 4000000
/-! The end of a law with tables of code objects, whose promise is kept where no container is being shown. -/
namespace Gd
open PySem PySem.Spec PyProof.Rows L2 LamX
section
variable {P : Program} {w : World} {K : PySem.W.Frag} {mg mb : Str → Option Value} {CX : CXT} {k : Nat} {fa a : Addr} {cs : List (Addr × Addr)}
  {fd : FuncData} {x : Str} {sp : Sp} {s₁ : Shared} {vs : List Value} {ns : List Int}
/-- an object that is neither a sequence nor an empty record is not tracked where only the script and the tables are -/
theorem untracked {H : Hp} {h : Heap} {b : Addr} {o : Obj} (ha : h.get? a = some { cls := .type "list", data := .seq vs.toArray }) (isT : ∀ b : Addr, b ∈ cs.map (·.2) → h.get? b = some { cls := .none, data := .fields #[] })
    (hA : ∀ b, H b ≠ none → b = a ∨ b ∈ cs.map (·.2)) (e : h.get? b = some o) (h1 : ∀ us n, o.data ≠ .seq us n) (h2 : o.data ≠ .fields #[]) : H b = none := by
  cases q : H b with
  | none => rfl
  | some u =>
    exfalso
    rcases hA b (by rw [q]; simp) with z | z
    · rw [z, ha] at e
      cases e
      exact h1 _ _ rfl
    · rw [isT b z] at e
      cases e
      exact h2 rfl
theorem coreGT (KX : K.In s₁.heap) (hns : s₁.heap.Ns mainGlobals mg) (hb : s₁.heap.Ns builtinsNs mb) (hbb : ∀ x : Str, x ≠ "__name__" → mb x = bootBuiltins x) (hlim : s₁.heap.NoLimit) (hg : s₁.gens = #[])
    (hT : ∀ p ∈ cs, s₁.heap.get? p.2 = some { cls := .none, data := .fields #[] }) (nT : ∀ p ∈ cs, K.lookup p.2 = none) (C : ∀ p ∈ cs, PySem.W.CodeHd s₁.heap p.1 p.2)
    (hbm : ∃ (bm : Addr) (ob : Obj), mg "__builtins__" = some (.ref bm) ∧ bm ≠ builtinsNs ∧ s₁.heap.get? bm = some ob ∧ ob.cls = .type "module" ∧ ob.dict = some builtinsNs ∧ ob.data = .plain)
    (ha : s₁.heap.get? a = some { cls := .type "list", data := .seq vs.toArray }) (hr : Room k callerA)
    (F : ∀ base : Heap, K.In base → base.Ns mainGlobals mg → (∀ p ∈ cs, TabB base mg p.1 p.2) → FnG P w K mg base CX k fa fd [x] sp) (hbind : ∀ (s : Shared) (u : Value), BindsTo s fd ⟨[u], []⟩ [(x, u)])
    (hCX : ∀ H e s', CX [] H s₁ (fun _ _ _ => False) e s' → False)
    (H : Hp) (hH : ∀ p ∈ cs, H p.2 = some (.tbl #[])) (hO : ∀ b, H b = none ∨ b ∈ cs.map (·.2) ∨ ∃ o xs, H b = some (.frz o (.lst xs))) (hsp : sp [.ref a] H (fun v _ => v = .bl true) fun _ _ _ => False)
    (hok : HOk P w H s₁.heap) (hA : ∀ b, H b ≠ none → b = a ∨ b ∈ cs.map (·.2)) (hK : H a ≠ none → K.lookup a = none) :
    codeAny (model P w) callerA (.call (.ref fa) ⟨[.ref a], []⟩) (fun r s' => r = .ok (.ret (.bool true)) ∧ OldK s₁.heap s'.heap ∧ s'.os = s₁.os ∧ AllBare s'.gens) s₁ := by
  have isT : ∀ b : Addr, b ∈ cs.map (·.2) → s₁.heap.get? b = some { cls := .none, data := .fields #[] } := by
    intro b m
    obtain ⟨p, hp, rfl⟩ := List.mem_map.mp m
    exact hT p hp
  have old : ∀ {b : Addr} {o : Obj}, s₁.heap.get? b = some o → H b = none → (hidT s₁.heap H).get? b = some o := by
    intro b o e n
    exact hidT_get e n
  have un0 : ∀ {b : Addr} {o : Obj}, s₁.heap.get? b = some o → (∀ us n, o.data ≠ .seq us n) → o.data ≠ .fields #[] → H b = none := by
    intro b o e h1 h2
    exact untracked ha isT hA e h1 h2
  have nsOf : ∀ {b : Addr} {m : Str → Option Value}, s₁.heap.Ns b m → (hidT s₁.heap H).Ns b m := by
    rintro b m ⟨o, es, ep, e, d, r⟩
    refine ⟨o, es, ep, old e (un0 e ?_ ?_), d, r⟩
    · intro us n z
      rw [d] at z
      cases z
    · intro z
      rw [d] at z
      cases z
  have inB : K.In (hidT s₁.heap H) := by
    intro b o e
    refine old (KX b o e) ?_
    cases q : H b with
    | none => rfl
    | some u =>
      exfalso
      rcases hA b (by rw [q]; simp) with z | z
      · subst z
        rw [hK (by rw [q]; simp)] at e
        cases e
      · obtain ⟨p, hp, ep⟩ := List.mem_map.mp z
        rw [← ep, nT p hp] at e
        cases e
  obtain ⟨mc, l1, l2⟩ := hlim
  have hM : Mod K mg (hidT s₁.heap H) := ⟨inB, nsOf hns, ⟨mb, nsOf hb, hbb⟩, ⟨mc, nsOf l1, l2⟩⟩
  have TB : ∀ p ∈ cs, TabB (hidT s₁.heap H) mg p.1 p.2 := by
    intro p hp
    have at_ := hT p hp
    refine ⟨?_, ?_, ?_⟩
    · obtain ⟨o, us, file, tf, flags, tg, inF, text, tt, e1, r1, r2, r3, rest⟩ := C p hp
      refine ⟨o, us, file, tf, flags, tg, inF, text, tt, old e1 (un0 e1 ?_ ?_), r1, r2, r3, rest⟩
      · intro us n z
        rw [r2] at z
        cases z
      · intro z
        rw [r2] at z
        cases z
        simp at r3
    · obtain ⟨bm, ob, b1, b2, b3, b4, b5, b6⟩ := hbm
      refine ⟨bm, ob, b1, b2, ?_, ?_, old b3 (un0 b3 ?_ ?_), b4, b5, b6⟩
      · intro z
        obtain ⟨o, es, ep, e, d, _⟩ := hns
        subst z
        rw [e] at b3
        cases b3
        rw [d] at b6
        cases b6
      · intro z
        subst z
        rw [at_] at b3
        cases b3
        cases b6
      · intro us n z
        rw [b6] at z
        cases z
      · intro z
        rw [b6] at z
        cases z
    · intro z
      obtain ⟨o, es, ep, e, d, _⟩ := hns
      rw [z, at_] at e
      cases e
      cases d
  have e0 : Env0 P w K mg (hidT s₁.heap H) callerA [] s₁ H := by
    refine ⟨rfl, hM, ?_, Nat.le_of_eq (hidT_size _ _), trivial, ?_, hok, .of_eq hg⟩
    · intro b o e
      exact of_hidT e
    · intro b z
      exact absurd (show b ∈ ([] : List Addr) from z) (by simp)
  have run := (F _ inB (nsOf hns) TB).go callerA [] s₁ H ⟨[.ref a], []⟩ [.ref a] [.ref a] _ _ rfl hr e0 (hbind s₁ (.ref a)) (.cons rfl .nil) hsp
  refine codeAny_mono run ?_
  intro r s' h
  match r, h with
  | .error e, h => exact (hCX H e s' h).elim
  | .ok .next, h => exact False.elim h
  | .ok .brk, h => exact False.elim h
  | .ok .cont, h => exact False.elim h
  | .ok (.ret u), h =>
    obtain ⟨v, H', os, bare, un, hok', rv, q⟩ := h
    obtain rfl : v = .bl true := q
    obtain rfl : u = Value.bool true := rv
    have stays : ∀ b o, b ∉ cs.map (·.2) → s₁.heap.get? b = some o → s'.heap.get? b = some o := by
      intro b o nb e
      cases q : H b with
      | none => exact un.keep b o e q (fun z => absurd (show b ∈ ([] : List Addr) from z) (by simp)) (by simp)
      | some u =>
        rcases hO b with z | z | ⟨ob, xs, z⟩
        · rw [q] at z
          cases z
        · exact absurd z nb
        · obtain ⟨e1, _⟩ := hok b _ z
          obtain ⟨e2, _⟩ := hok' b _ (un.frzs b ob _ z)
          rw [e] at e1
          cases e1
          exact e2
    have more_ : ∀ p ∈ cs, ∃ more : Array Value, s'.heap.get? p.2 = some { cls := .none, data := .fields more } := by
      intro p hp
      obtain ⟨more, z⟩ := un.tbls p.2 #[] (hH p hp)
      exact ⟨_, hok' p.2 _ z⟩
    refine ⟨rfl, ⟨?_, ?_⟩, os, bare⟩
    · intro b o e
      by_cases m : b ∈ cs.map (·.2)
      · obtain ⟨p, hp, ep⟩ := List.mem_map.mp m
        subst ep
        obtain ⟨more, g⟩ := more_ p hp
        rw [hT p hp] at e
        cases e
        exact .inr (.inl ⟨((C p hp).tab (hT p hp)).isCodeTable, rfl, #[], more, rfl, by rw [Array.empty_append]; exact g⟩)
      · exact .inl (stays b o m e)
    · intro b o e
      by_cases m : b ∈ cs.map (·.2)
      · obtain ⟨p, hp, ep⟩ := List.mem_map.mp m
        subst ep
        obtain ⟨more, g⟩ := more_ p hp
        exact ⟨_, g⟩
      · exact ⟨o, stays b o m e⟩
theorem law_callGT (KX : K.In s₁.heap) (hns : s₁.heap.Ns mainGlobals mg) (hb : s₁.heap.Ns builtinsNs mb) (hbb : ∀ x : Str, x ≠ "__name__" → mb x = bootBuiltins x) (hlim : s₁.heap.NoLimit) (hg : s₁.gens = #[])
    (hT : ∀ p ∈ cs, s₁.heap.get? p.2 = some { cls := .none, data := .fields #[] }) (nT : ∀ p ∈ cs, K.lookup p.2 = none) (C : ∀ p ∈ cs, PySem.W.CodeHd s₁.heap p.1 p.2)
    (hbm : ∃ (bm : Addr) (ob : Obj), mg "__builtins__" = some (.ref bm) ∧ bm ≠ builtinsNs ∧ s₁.heap.get? bm = some ob ∧ ob.cls = .type "module" ∧ ob.dict = some builtinsNs ∧ ob.data = .plain)
    (ha : s₁.heap.get? a = some { cls := .type "list", data := .seq vs.toArray }) (hi : IntsAre vs ns) (hl : ns.length ≤ sizeLine) (hr : Room k callerA)
    (F : ∀ base : Heap, K.In base → base.Ns mainGlobals mg → (∀ p ∈ cs, TabB base mg p.1 p.2) → FnG P w K mg base CX k fa fd [x] sp) (hbind : ∀ (s : Shared) (u : Value), BindsTo s fd ⟨[u], []⟩ [(x, u)])
    (hsp : ∀ H : Hp, (∀ p ∈ cs, H p.2 = some (.tbl #[])) → (∀ b, H b = none ∨ b ∈ cs.map (·.2) ∨ ∃ o xs, H b = some (.frz o (.lst xs))) → SqL K H a (ns.map V.int) → sp [.ref a] H (fun v _ => v = .bl true) fun _ _ _ => False)
    (hCX : ∀ H e s', CX [] H s₁ (fun _ _ _ => False) e s' → False) :
    codeAny (model P w) callerA (.call (.ref fa) ⟨[.ref a], []⟩) (fun r s' => r = .ok (.ret (.bool true)) ∧ OldK s₁.heap s'.heap ∧ s'.os = s₁.os ∧ AllBare s'.gens) s₁ := by
  have rv := vals_ints hi
  have lenV := hi.length
  have isT : ∀ b : Addr, b ∈ cs.map (·.2) → s₁.heap.get? b = some { cls := .none, data := .fields #[] } := by
    intro b m
    obtain ⟨p, hp, rfl⟩ := List.mem_map.mp m
    exact hT p hp
  have aT : a ∉ cs.map (·.2) := by
    intro z
    have q := isT a z
    rw [ha] at q
    cases (congrArg Obj.data (Option.some.inj q) : Data.seq vs.toArray _ = Data.fields #[])
  have inT : ∀ p ∈ cs, p.2 ∈ cs.map (·.2) := by
    intro p hp
    exact List.mem_map.mpr ⟨p, hp, rfl⟩
  cases hk : K.lookup a with
  | some o =>
    have e := KX a o hk
    rw [ha] at e
    cases e
    obtain ⟨H, eH⟩ : ∃ H : Hp, H = fun b => if b ∈ cs.map (·.2) then some (.tbl #[]) else none := ⟨_, rfl⟩
    have yes : ∀ b, b ∈ cs.map (·.2) → H b = some (.tbl #[]) := fun b m => by rw [eH]; exact if_pos m
    have no : ∀ b, b ∉ cs.map (·.2) → H b = none := fun b m => by rw [eH]; exact if_neg m
    clear eH
    have hO : ∀ b, H b = none ∨ b ∈ cs.map (·.2) ∨ ∃ o xs, H b = some (.frz o (.lst xs)) := fun b => by
      by_cases m : b ∈ cs.map (·.2)
      · exact .inr (.inl m)
      · exact .inl (no b m)
    refine coreGT KX hns hb hbb hlim hg hT nT C hbm ha hr F hbind hCX H (fun p hp => yes _ (inT p hp)) hO (hsp H (fun p hp => yes _ (inT p hp)) hO ?_) ?_ ?_ (fun z => absurd (no a aT) z)
    · exact .inr ⟨_, vs.toArray, _, hk, rfl, rfl, rfl, by rw [List.size_toArray, lenV]; exact hl, by simpa using rv⟩
    · intro b u z
      by_cases m : b ∈ cs.map (·.2)
      · rw [yes b m] at z
        cases z
        exact isT b m
      · rw [no b m] at z
        cases z
    · intro b z
      by_cases m : b ∈ cs.map (·.2)
      · exact .inr m
      · exact absurd (no b m) z
  | none =>
    obtain ⟨H, eH⟩ : ∃ H : Hp, H = fun b => if b = a then some (.frz { cls := .type "list", data := .seq vs.toArray } (.lst (ns.map V.int))) else if b ∈ cs.map (·.2) then some (.tbl #[]) else none := ⟨_, rfl⟩
    have own : H a = some (.frz { cls := .type "list", data := .seq vs.toArray } (.lst (ns.map V.int))) := by rw [eH]; exact if_pos rfl
    have yes : ∀ b, b ∈ cs.map (·.2) → H b = some (.tbl #[]) := fun b m => by
      rw [eH]
      exact (if_neg (fun z : b = a => aT (by rw [← z]; exact m))).trans (if_pos m)
    have no : ∀ b, b ≠ a → b ∉ cs.map (·.2) → H b = none := fun b n m => by
      rw [eH]
      exact (if_neg n).trans (if_neg m)
    clear eH
    have hO : ∀ b, H b = none ∨ b ∈ cs.map (·.2) ∨ ∃ o xs, H b = some (.frz o (.lst xs)) := fun b => by
      by_cases n : b = a
      · subst n
        exact .inr (.inr ⟨_, _, own⟩)
      · by_cases m : b ∈ cs.map (·.2)
        · exact .inr (.inl m)
        · exact .inl (no b n m)
    refine coreGT KX hns hb hbb hlim hg hT nT C hbm ha hr F hbind hCX H (fun p hp => yes _ (inT p hp)) hO (hsp H (fun p hp => yes _ (inT p hp)) hO ?_) ?_ ?_ (fun _ => hk)
    · exact .inl (.inr ⟨{ cls := .type "list", data := .seq vs.toArray }, own⟩)
    · intro b u z
      by_cases n : b = a
      · subst n
        rw [own] at z
        cases z
        exact ⟨ha, by rw [List.length_map]; exact hl, vs, _, rv, ha⟩
      · by_cases m : b ∈ cs.map (·.2)
        · rw [yes b m] at z
          cases z
          exact isT b m
        · rw [no b n m] at z
          cases z
    · intro b z
      by_cases n : b = a
      · exact .inl n
      · by_cases m : b ∈ cs.map (·.2)
        · exact .inr m
        · exact absurd (no b n m) z
end
/-- what is known of the law's promise at the head's heap -/
def LawG (l : PySem.W.OpenLaw) (w : World) (K : PySem.W.Frag) (CX : CXT) (k n : Nat) (x : Str) (mg : Str → Option Value) (fa : Addr) (h : Heap) : Prop :=
  ∃ (fd : FuncData) (cs : List (Addr × Addr)) (sp : Sp), (∀ p ∈ cs, h.get? p.2 = some { cls := .none, data := .fields #[] }) ∧ (∀ p ∈ cs, K.lookup p.2 = none) ∧ (∀ p ∈ cs, PySem.W.CodeHd h p.1 p.2) ∧
    (∀ (s : Shared) (u : Value), BindsTo s fd ⟨[u], []⟩ [(x, u)]) ∧
    (∀ (H : Hp) (a : Addr) (ns : List Int), ns.length ≤ n → (∀ z ∈ ns, Builtin.Int.intBits z ≤ 1048576) → (∀ p ∈ cs, H p.2 = some (.tbl #[])) → (∀ b, H b = none ∨ b ∈ cs.map (·.2) ∨ ∃ o xs, H b = some (.frz o (.lst xs))) → SqL K H a (ns.map V.int) →
      sp [.ref a] H (fun v _ => v = .bl true) fun _ _ _ => False) ∧
    ∀ base : Heap, K.In base → base.Ns mainGlobals mg → (∀ p ∈ cs, TabB base mg p.1 p.2) → FnG l.prog w K mg base CX k fa fd [x] sp
theorem walkGT {l : PySem.W.OpenLaw} {n k : Nat} {q : Program} {loose : List Str} {XP : (Str → Option Value) → Heap → Prop} {YP : World → Heap → Prop} {d : DefRec} {K : Params → PySem.W.Frag} {CX : World → CXT} {x : Str}
    (hn : l.most = some n) (hn2 : n ≤ sizeLine) (hdf : d.params.defaults = []) (hr : Room k callerA) (hY : ∀ (w : World) (h : Heap), YP w h → (K w.params).In h)
    (F : ∀ (w : World) (mg : Str → Option Value) (fa : Addr) (h : Heap), YP w h → (K w.params).In h → h.Ns mainGlobals mg → mg d.name = some (.ref fa) → LawG l w (K w.params) (CX w) k n x mg fa h)
    (hCX : ∀ (w : World) (H : Hp) (s : Shared) (e : Value) (s' : Shared), CX w [] H s (fun _ _ _ => False) e s' → False) :
    PySem.W.WalkO q loose XP YP l.row.toRowW d [] (fun f vs => PySem.call f vs) := by
  refine Att.attach_callB hn hdf ?_
  intro w s₀ s₁ mg mb fa o pm cd doc a vs ns G Y ho hd hcd hmg hobj hints hlen hbits hg
  obtain ⟨fd, cs, sp, hT, nT, C, hb, hsp, hF⟩ := F w mg fa _ Y (hY w _ Y) G.T.g hmg
  exact law_callGT (hY w _ Y) G.T.g G.T.b G.T.builtins G.T.nolimit hg hT nT C G.T.bmain hobj hints (Nat.le_trans hlen hn2) hr hF hb (fun H hH hO hS => hsp H a ns hlen hbits hH hO hS) fun H e s' => hCX w H s₁ e s'
end Gd

set_option Elab.async false
set_option linter.all false
set_option maxRecDepth 100000
set_option maxHeartbeats 4000000
/-! The text by places, and integers. -/
namespace K0
open PySem PySem.Spec PyProof.Rows L2 Gd
local macro_rules | `(tactic| walk_at "rd1") => `(tactic| first | with_reducible refine g_ret ?_ | with_reducible refine g_retN ?_ | with_reducible refine g_seq ?_ | with_reducible refine g_next ?_ | with_reducible refine g_drop ?_ | with_reducible refine g_asg ?_ | with_reducible refine g_name ?_ | with_reducible refine g_ifs ?_ | with_reducible refine g_test ?_ | with_reducible refine g_tb ?_ | with_reducible refine g_and ?_ | with_reducible refine g_or ?_ | with_reducible refine g_not ?_ | with_reducible refine g_andV ?_ | with_reducible refine g_orV ?_ | with_reducible refine g_notV ?_ | with_reducible refine g_if ?_ | with_reducible refine g_op ?_ | with_reducible refine g_un ?_ | with_reducible refine g_cb ?_ | with_reducible refine g_nil ?_ | with_reducible refine g_cons ?_ | with_reducible refine g_call ?_ | with_reducible refine g_callS ?_ | with_reducible refine g_tup ?_ | with_reducible refine g_lst ?_ | with_reducible refine g_isN ?_ | with_reducible refine g_sl ?_ | with_reducible refine g_nopart ?_ | with_reducible refine g_part ?_ | with_reducible refine g_chain ?_ | with_reducible refine g_fld ?_ | with_reducible refine g_prop ?_ | with_reducible refine g_bm ?_ | with_reducible refine g_bm0 ?_ | with_reducible refine g_c ?_ | with_reducible refine g_sub ?_ | with_reducible refine g_int1 ?_ | with_reducible refine g_int2 ?_ | with_reducible refine g_yes ?_ | with_reducible refine g_sfld ?_ | with_reducible refine g_NT ?_ | with_reducible refine g_NF ?_ | with_reducible refine iteT ?_ | with_reducible refine iteF ?_ | ((with_reducible refine' g_aug ?hv ?_); (case hv => exact rfl)) | ((with_reducible refine' g_var ?hv ?_); (case hv => exact rfl)) | with_reducible refine g_I0 ?_ | with_reducible refine g_U ?_ | with_reducible refine g_eqI ?_ | with_reducible refine g_blV ?_ | with_reducible refine g_inV ?_)
local macro_rules | `(tactic| walk_at "rd") => `(tactic| repeat walk_at "rd1")
def top (i : Nat) : Stmt := PySem.Challenge.pw_primekinds_k01_whole_sums_and_products.main.body.getD i (.Pass ⟨0, 0, 0, 0⟩)
abbrev sWhole : Stmt := top 11
abbrev sInteger : Stmt := top 12
abbrev sIndex : Stmt := top 15
abbrev sTrimmed : Stmt := top 17
def cls (j : Nat) : Stmt := inClass (top 32) j

/-- what is known of the module's names -/
structure Txt (K : PySem.W.Frag) (mg : Str → Option Value) : Prop where
  isinstance : mg "isinstance" = none
  int : mg "int" = none
  bool : mg "bool" = none
  tuple : mg "tuple" = none
  list : mg "list" = none
  len : mg "len" = none
  all : mg "all" = none
  iter : mg "iter" = none
  bound : ∃ t, mg "BOUND" = some (.int (10 ^ 60) t)
  most : ∃ t, mg "MAX_FACTORS" = some (.int 400 t)

section
variable {P : Program} {w : World} {K : PySem.W.Frag} {mg : Str → Option Value} {base : Heap}

theorem dec_l {p q : Prop} [Decidable p] [Decidable q] (h : p) : decide (p ∧ q) = decide q := by simp [h]
theorem dec_n {p q : Prop} [Decidable p] [Decidable q] (h : ¬ p) : decide (p ∧ q) = false := by simp [h]
/-! ### is_whole -/
/-- whether a value is an integer other than True and False -/
def WholeB (K : PySem.W.Frag) (H : Hp) (x : V) (b : Bool) : Prop := ∃ t b1 b2, TyX K H x t ∧ PySem.W.kitOne K t (.type "int") = some b1 ∧
  PySem.W.kitOne K t (.type "bool") = some b2 ∧ b = (b1 && !b2)
theorem whole_int {H : Hp} {i : Int} : WholeB K H (.int i) true := ⟨_, true, false, .base (.int i), by kernel_rfl, by kernel_rfl, rfl⟩
theorem whole_bl {H : Hp} {b : Bool} : WholeB K H (.bl b) false := ⟨_, true, true, .base (.bl b), by kernel_rfl, by kernel_rfl, rfl⟩
theorem whole_non {H : Hp} : WholeB K H .non false := ⟨_, false, false, .base .non, by kernel_rfl, by kernel_rfl, rfl⟩
theorem whole_str {H : Hp} {x : Str} : WholeB K H (.str x) false := ⟨_, false, false, .base (.str x), by kernel_rfl, by kernel_rfl, rfl⟩
theorem whole_tup {H : Hp} {a : Addr} {xs : List V} (h : H a = some (.tup xs)) : WholeB K H (.ref a) false := ⟨_, false, false, .base (.tup h), by kernel_rfl, by kernel_rfl, rfl⟩
def spWhole (K : PySem.W.Frag) : Sp := fun vs H Q _ => ∃ x b, vs = [x] ∧ WholeB K H x b ∧ Q (.bl b) H
theorem scWhole : FnScope ["value"] ["value"] (defScope sWhole) := ⟨rfl, rfl, rfl, by decide +kernel, rfl, by decide +kernel, by decide +kernel⟩
theorem ok_whole {f : Addr} {fd : FuncData} (F : Fun K "is_whole" "is_whole" sWhole f fd) (T : Txt K mg) : FnOk P w K mg base CX0 1 f fd ["value"] (spWhole K) := by
  refine F.ok scWhole (fun vs H Q E h => ?_) (fun cdv A outer s H vs Q E hr h => ?_)
  · obtain ⟨x, b, rfl, _⟩ := h
    rfl
  · obtain ⟨x, b, rfl, ⟨t, b1, b2, ty, k1, k2, rfl⟩, k⟩ := h
    refine ⟨_, pss_one (ps_ret (pe_and (pe_callB call_isi (by rfl) T.isinstance (by decide +kernel) (pa_cons (pv 0) (pa_cons (pe_bltn (v := .ty "int") (by rfl) T.int (by decide +kernel) rfl) pa_nil)))
      (pe_one (pe_not (pe_callB call_isi (by rfl) T.isinstance (by decide +kernel) (pa_cons (pv 0) (pa_cons (pe_bltn (v := .ty "bool") (by rfl) T.bool (by decide +kernel) rfl) pa_nil))))))), ?_⟩
    walk_at "rd"
    refine ⟨_, _, _, _, _, rfl, .ty _, ty, k1, ?_⟩
    walk_at "rd"
    refine ite2 (fun h1 => ?_) (fun h1 => ?_)
    · walk_at "rd"
      refine ⟨_, _, _, _, _, rfl, .ty _, ty, k2, ?_⟩
      walk_at "rd"
      rw [h1] at k
      exact k
    · rw [Bool.not_eq_true] at h1
      rw [h1] at k
      exact k

/-! ### is_integer -/
def IntB (K : PySem.W.Frag) (H : Hp) (x : V) (b : Bool) : Prop := (∃ i : Int, x = .int i ∧ b = decide (-(10 ^ 60) < i ∧ i < 10 ^ 60)) ∨ (WholeB K H x false ∧ b = false)
def spInteger (K : PySem.W.Frag) : Sp := fun vs H Q _ => ∃ x b, vs = [x] ∧ IntB K H x b ∧ Q (.bl b) H
theorem scInteger : FnScope ["value"] ["value"] (defScope sInteger) := ⟨rfl, rfl, rfl, by decide +kernel, rfl, by decide +kernel, by decide +kernel⟩
/-- where is_whole stands -/
structure AtW (K : PySem.W.Frag) (mg : Str → Option Value) (f : Addr) (fd : FuncData) : Prop where
  F : Fun K "is_whole" "is_whole" sWhole f fd
  b : Binds K fd ["value"] []
  g : mg "is_whole" = some (.ref f)
theorem ok_integer {f fW : Addr} {fd fdW : FuncData} (F : Fun K "is_integer" "is_integer" sInteger f fd) (T : Txt K mg) (W : AtW K mg fW fdW) : FnOk P w K mg base CX0 2 f fd ["value"] (spInteger K) := by
  have GW : FnOk P w K mg base CX0 1 fW fdW ["value"] (spWhole K) := ok_whole W.F T
  obtain ⟨tB, gB⟩ := T.bound
  refine F.ok scInteger (fun vs H Q E h => ?_) (fun cdv A outer s H vs Q E hr h => ?_)
  · obtain ⟨x, b, rfl, _⟩ := h
    rfl
  · obtain ⟨x, b, rfl, hx, k⟩ := h
    refine ⟨_, pss_one (ps_ret (pe_and (pe_call GW hr (by rfl) W.g W.F.kp W.b .nil pass0 (pa_cons (pv 0) pa_nil))
      (pe_one (pe_chain op_lt op_lt (pe_un un_neg (pe_glob (v := .int (10 ^ 60)) (by rfl) gB ⟨_, rfl⟩)) (pv 0) (pe_glob (v := .int (10 ^ 60)) (by rfl) gB ⟨_, rfl⟩))))), ?_⟩
    walk_at "rd"
    rcases hx with ⟨i, rfl, rfl⟩ | ⟨hx, rfl⟩
    · refine ⟨_, true, rfl, whole_int, ?_⟩
      walk_at "rd"
      try refine iteT ?_
      walk_at "rd"
      refine ite2 (fun h1 => ?_) (fun h1 => ?_)
      · walk_at "rd"
        have e : decide (-(10 ^ 60) < i ∧ i < 10 ^ 60) = decide (i < 10 ^ 60) := dec_l (of_decide_eq_true h1)
        rw [e] at k
        exact k
      · have h2 : ¬ (-(10 ^ 60) : Int) < i := fun z => h1 (decide_eq_true z)
        have e : decide (-(10 ^ 60) < i ∧ i < 10 ^ 60) = false := dec_n h2
        rw [e] at k
        exact k
    · refine ⟨_, false, rfl, hx, ?_⟩
      walk_at "rd"
      first | exact k | exact iteF k

/-! ### require_index -/
def IndexOk (K : PySem.W.Frag) (H : Hp) (x : V) (b : Bool) : Prop := (∃ i : Int, x = .int i ∧ b = decide (0 ≤ i ∧ i < 10 ^ 60)) ∨ (WholeB K H x false ∧ b = false)
def spIndex (K : PySem.W.Frag) (C : Addr) : Sp := fun vs H Q E => ∃ x b, vs = [x] ∧ IndexOk K H x b ∧ (b = true → Q .non H) ∧
  (b = false → ∀ d, H d = none → E (.ref C) (some d) (upd H d (.xd [(("value" : Str), x)])))
structure AtI (K : PySem.W.Frag) (mg : Str → Option Value) (f : Addr) (fd : FuncData) : Prop where
  F : Fun K "is_integer" "is_integer" sInteger f fd
  b : Binds K fd ["value"] []
  g : mg "is_integer" = some (.ref f)
theorem scIndex : FnScope ["value"] ["value"] (defScope sIndex) := ⟨rfl, rfl, rfl, by decide +kernel, rfl, by decide +kernel, by decide +kernel⟩
theorem ok_index {f fW fI C fC : Addr} {fd fdW fdI : FuncData} (F : Fun K "require_index" "require_index" sIndex f fd) (T : Txt K mg) (W : AtW K mg fW fdW) (I : AtI K mg fI fdI) (N : PySem.XInvalidNumber.InvalidNumberTxt K mg C fC) :
    FnOk P w K mg base (L2.CX P w) 4 f fd ["value"] (spIndex K C) := by
  have GI : FnOk P w K mg base CX0 2 fI fdI ["value"] (spInteger K) := ok_integer I.F T W
  refine F.okX scIndex (fun vs H Q E h => ?_) (fun cdv A outer s H vs Q E hr h => ?_)
  · obtain ⟨x, b, rfl, _⟩ := h
    rfl
  · obtain ⟨x, b, rfl, hx, k1, k2⟩ := h
    refine ⟨_, pss_one (ps_if (PW.pt (pw_or (pt_not (pt_val (pe_call GI (hr.mono (by decide)) (by rfl) I.g I.F.kp I.b .nil pass0 (pa_cons (pv 0) pa_nil)))) (pw_or1 (pt_cmpR op_lt (pv 0) pe_int (nomark _)))))
      (pss_one (ps_raiseInvalidNumber rfl N hr (takes_of rfl rfl rfl rfl) (by exact (pa_cons (pv 0) pa_nil)))) pss_nil), ?_⟩
    walk_at "rd"
    rcases hx with ⟨i, rfl, rfl⟩ | ⟨hx, rfl⟩
    · refine ⟨_, _, rfl, .inl ⟨i, rfl, rfl⟩, ?_⟩
      walk_at "rd"
      by_cases h1 : -(10 ^ 60) < i ∧ i < 10 ^ 60
      · rw [decide_eq_true h1]
        try refine iteF ?_
        walk_at "rd"
        by_cases h2 : i < 0
        · rw [decide_eq_true h2]
          try refine iteT ?_
          refine ⟨_, rfl, _, rfl, ?_⟩
          exact k2 (decide_eq_false (by omega))
        · rw [decide_eq_false h2]
          try refine iteF ?_
          exact k1 (decide_eq_true (by omega))
      · rw [decide_eq_false h1]
        iterate 2 (try refine iteT ?_)
        refine ⟨_, rfl, _, rfl, ?_⟩
        exact k2 (decide_eq_false (by omega))
    · refine ⟨_, _, rfl, .inr ⟨hx, rfl⟩, ?_⟩
      walk_at "rd"
      iterate 2 (try refine iteT ?_)
      refine ⟨_, rfl, _, rfl, ?_⟩
      exact k2 rfl
end
end K0

set_option Elab.async false
set_option linter.all false
set_option maxRecDepth 100000
set_option maxHeartbeats 4000000
/-! Rows without zeros at their end. -/
namespace K0
open PySem PySem.Spec PyProof.Rows L2 Gd
local macro_rules | `(tactic| walk_at "rd1") => `(tactic| first | with_reducible refine g_ret ?_ | with_reducible refine g_retN ?_ | with_reducible refine g_seq ?_ | with_reducible refine g_next ?_ | with_reducible refine g_drop ?_ | with_reducible refine g_asg ?_ | with_reducible refine g_name ?_ | with_reducible refine g_ifs ?_ | with_reducible refine g_test ?_ | with_reducible refine g_tb ?_ | with_reducible refine g_and ?_ | with_reducible refine g_or ?_ | with_reducible refine g_not ?_ | with_reducible refine g_andV ?_ | with_reducible refine g_orV ?_ | with_reducible refine g_notV ?_ | with_reducible refine g_if ?_ | with_reducible refine g_op ?_ | with_reducible refine g_un ?_ | with_reducible refine g_cb ?_ | with_reducible refine g_nil ?_ | with_reducible refine g_cons ?_ | with_reducible refine g_call ?_ | with_reducible refine g_callS ?_ | with_reducible refine g_tup ?_ | with_reducible refine g_lst ?_ | with_reducible refine g_isN ?_ | with_reducible refine g_sl ?_ | with_reducible refine g_nopart ?_ | with_reducible refine g_part ?_ | with_reducible refine g_chain ?_ | with_reducible refine g_fld ?_ | with_reducible refine g_prop ?_ | with_reducible refine g_bm ?_ | with_reducible refine g_bm0 ?_ | with_reducible refine g_c ?_ | with_reducible refine g_sub ?_ | with_reducible refine g_int1 ?_ | with_reducible refine g_int2 ?_ | with_reducible refine g_yes ?_ | with_reducible refine g_sfld ?_ | with_reducible refine g_NT ?_ | with_reducible refine g_NF ?_ | with_reducible refine iteT ?_ | with_reducible refine iteF ?_ | ((with_reducible refine' g_aug ?hv ?_); (case hv => exact rfl)) | ((with_reducible refine' g_var ?hv ?_); (case hv => exact rfl)) | with_reducible refine g_I0 ?_ | with_reducible refine g_U ?_ | with_reducible refine g_eqI ?_ | with_reducible refine g_blV ?_ | with_reducible refine g_inV ?_)
local macro_rules | `(tactic| walk_at "rd") => `(tactic| repeat walk_at "rd1")
/-! ### the mathematics -/
def trim : List Int → List Int
  | [] => []
  | x :: r => match trim r with
    | [] => if x = 0 then [] else [x]
    | y :: s => x :: y :: s
theorem trim_take : ∀ (ns : List Int) (e : Nat), e ≤ ns.length → (∀ j x, e ≤ j → ns[j]? = some x → x = 0) →
    (e = 0 ∨ ∃ x, ns[e - 1]? = some x ∧ x ≠ 0) → trim ns = ns.take e
  | [], e, h, _, _ => by
    have : e = 0 := Nat.le_zero.mp h
    subst this
    rfl
  | x :: r, 0, _, hz, _ => by
    have ih := trim_take r 0 (Nat.zero_le _) (fun j y _ e => hz (j + 1) y (Nat.zero_le _) e) (.inl rfl)
    have hx : x = 0 := hz 0 x (Nat.le_refl _) rfl
    unfold trim
    rw [ih]
    show (if x = 0 then [] else [x]) = []
    rw [if_pos hx]
  | x :: r, 1, _, hz, hl => by
    have ih := trim_take r 0 (Nat.zero_le _) (fun j y _ e => hz (j + 1) y (by omega) e) (.inl rfl)
    have hx : x ≠ 0 := by
      rcases hl with hl | ⟨y, e, hy⟩
      · cases hl
      · cases e
        exact hy
    unfold trim
    rw [ih]
    show (if x = 0 then [] else [x]) = [x]
    rw [if_neg hx]
  | x :: r, e + 2, h, hz, hl => by
    have hl' : e + 1 ≤ r.length := by simpa using h
    have ih := trim_take r (e + 1) hl' (fun j y g q => hz (j + 1) y (by omega) q) (.inr (by
      rcases hl with hl | ⟨y, q, hy⟩
      · cases hl
      · exact ⟨y, q, hy⟩))
    unfold trim
    rw [ih]
    cases r with
    | nil => simp at hl'
    | cons y s => rfl
theorem trim_len (ns : List Int) : (trim ns).length ≤ ns.length := by
  induction ns with
  | nil => exact Nat.le_refl _
  | cons x r ih =>
    unfold trim
    split
    · split <;> simp
    · rename_i y s e
      rw [e] at ih
      simp only [List.length_cons] at ih ⊢
      omega
theorem trim_mem (ns : List Int) : ∀ x ∈ trim ns, x ∈ ns := by
  induction ns with
  | nil => intro x h; exact h
  | cons y r ih =>
    intro x h
    unfold trim at h
    split at h
    · split at h
      · cases h
      · rcases List.mem_cons.mp h with rfl | h
        · exact List.mem_cons_self
        · cases h
    · rename_i z s e
      rw [e] at ih
      rcases List.mem_cons.mp h with rfl | h
      · exact List.mem_cons_self
      · exact List.mem_cons_of_mem _ (ih x h)

/-! ### trimmed -/
section
variable {P : Program} {w : World} {K : PySem.W.Frag} {mg : Str → Option Value} {base : Heap}
/-- the same things, all that was known is known still -/
def Ext (H H' : Hp) : Prop := ∀ b o, H b = some o → H' b = some o
theorem Ext.rfl' {H : Hp} : Ext H H := fun _ _ h => h
theorem Ext.new {H : Hp} {p : Addr} {o : HO} (h : H p = none) : Ext H (upd H p o) := fun b u e => by
  rw [upd_ne (ne_of_none e h)]
  exact e
theorem Ext.trans {H H1 H2 : Hp} (a : Ext H H1) (b : Ext H1 H2) : Ext H H2 := fun c o h => b c o (a c o h)
theorem mapget {ns : List Int} {i : Nat} : (ns.map V.int)[i]? = (ns[i]?).map V.int := List.getElem?_map
def spTrimmed (K : PySem.W.Frag) : Sp := fun vs H Q _ => ∃ (a : Addr) (ns : List Int), vs = [.ref a] ∧ SqT K H a (ns.map V.int) ∧ ns.length ≤ 100000 ∧
  ∀ H' u, Ext H H' → SqT K H' u ((trim ns).map V.int) → Q (.ref u) H'
/-- the measure: the int in a slot -/
def muI (i : Nat) : L2.St → Hp → Nat := fun σ _ => match σ[i]? with | some (some (.int e)) => e.toNat | _ => 0
def PvT (a : Addr) (H0 : Hp) (ns : List Int) : L2.St → Hp → Prop := fun σ H' => H' = H0 ∧ ∃ e : Nat, σ = [some (.ref a), some (.int (e : Int))] ∧ e ≤ ns.length ∧ ∀ j x, e ≤ j → ns[j]? = some x → x = 0
theorem scTrimmed : FnScope ["row", "end"] ["row"] (defScope sTrimmed) := ⟨rfl, rfl, rfl, by decide +kernel, rfl, by decide +kernel, by decide +kernel⟩
theorem ok_trimmed {f : Addr} {fd : FuncData} (F : Fun K "trimmed" "trimmed" sTrimmed f fd) (T : Txt K mg) : FnOk P w K mg base CX0 1 f fd ["row"] (spTrimmed K) := by
  refine F.ok scTrimmed (fun vs H Q E h => ?_) (fun cdv A outer s H vs Q E hr h => ?_)
  · obtain ⟨x, b, rfl, _⟩ := h
    rfl
  · obtain ⟨a, ns, rfl, hs, hl, k⟩ := h
    refine ⟨_, pss_cons (ps_set (i := 1) scTrimmed.nd rfl (Or.inl rfl) (pe_callB call_len_seq (by rfl) T.len PySem.boot_len (pa_cons (pv 0) pa_nil)))
      (pss_cons (ps_while PassesOwn.never (PW.pt (pw_and (pt_cmpR op_gt (pv 1) pe_int (nomark _)) (pw_and1 (pt_cmpR op_eq (pe_ix ix_tup (pv 0) (pe_op op_sub (pv 1) pe_int) (fun _ _ => rfl)) pe_int (nomark _)))))
          (pss_one (ps_aug (i := 1) scTrimmed.nd rfl (Or.inl rfl) pe_int ip_sub)))
        (pss_one (ps_ret (pe_callTy call_tupleT (by rfl) T.tuple (by decide +kernel) (pa_cons (pe_slice sl_tupA (pv 0) po_none (po_some (pv 1))) pa_nil))))), ?_⟩
    walk_at "rd"
    refine ⟨a, _, rfl, .inr hs, ?_⟩
    walk_at "rd"
    refine g_while (PvT a H ns) (muI 1) ⟨rfl, ns.length, by rw [List.length_map]; rfl, Nat.le_refl _, fun j x g e => by
        rw [List.getElem?_eq_none_iff.mpr g] at e
        cases e⟩ ?_
    rintro σ H' ⟨rfl, e, rfl, he, hz⟩
    walk_at "rd"
    have fin : (e = 0 ∨ ∃ x, ns[e - 1]? = some x ∧ x ≠ 0) → tRet (tCB (fun xs H Q => ∃ a ys, xs = [V.ref a] ∧ SqT K H a ys ∧ Q (V.ref a) H) (tCons (tSl (rSlA K) (tVar 0) tNoPart (tPart (tVar 1))) tNil))
        { nx := fun x H' => Q V.non H', rt := Q } [some (V.ref a), some (V.int (e : Int))] H' := by
      intro hl'
      have et := trim_take ns e he hz hl'
      walk_at "rd"
      have s1 : HT.sIx (ns.map V.int).length 0 none = 0 := rfl
      have s2 : HT.sIx (ns.map V.int).length (ns.map V.int).length (some (e : Int)) = e := by
        rw [HT.sIx_nat, List.length_map]
        omega
      refine ⟨a, _, rfl, hs, fun q => ?_, fun q p hp => ?_⟩
      · rw [s1, s2] at q
        have : trim ns = ns := by rw [et, List.take_of_length_le (by have := q.2; rw [List.length_map] at this; omega)]
        refine ⟨_, _, rfl, hs, k _ a Ext.rfl' ?_⟩
        rw [this]
        exact hs
      · refine ⟨_, _, rfl, SqT.of upd_same, k _ p (Ext.new hp) ?_⟩
        have ec : cutV (ns.map V.int) none (some (e : Int)) = (trim ns).map V.int := by
          unfold cutV
          rw [s1, s2, et, List.drop_zero, Nat.sub_zero, List.map_take]
        rw [← ec]
        exact SqT.of upd_same
    refine ite2 (fun h1 => ?_) (fun h1 => ?_)
    · have h1' : 0 < e := by
        have := of_decide_eq_true h1
        omega
      walk_at "rd"
      have hlt : e - 1 < ns.length := by omega
      have ge : (ns.map V.int)[e - 1]? = some (V.int ns[e - 1]) := by rw [mapget, List.getElem?_eq_getElem hlt]; rfl
      refine g_ixT hs (v := .int ns[e - 1]) ?_ ?_
      · have := atI_nat ge
        have q : ((e : Int) - 1) = ((e - 1 : Nat) : Int) := by omega
        rw [q]
        exact this
      walk_at "rd"
      refine ite2 (fun h2 => ?_) (fun h2 => ?_)
      · refine g_turn ?_
        walk_at "rd"
        refine ⟨_, _, rfl, rfl, ?_⟩
        refine ⟨⟨rfl, e - 1, ?_, by omega, fun j x g q => ?_⟩, ?_⟩
        · show [some (V.ref a), some (V.int ((e : Int) - 1))] = _
          have q : ((e : Int) - 1) = ((e - 1 : Nat) : Int) := by omega
          rw [q]
        · by_cases hj : j = e - 1
          · subst hj
            rw [List.getElem?_eq_getElem hlt] at q
            cases q
            exact of_decide_eq_true h2
          · exact hz j x (by omega) q
        · show ((e : Int) - 1).toNat < ((e : Int)).toNat
          omega
      · refine fin (.inr ⟨_, List.getElem?_eq_getElem hlt, fun z => h2 (decide_eq_true z)⟩)
    · refine iteF (fin (.inl ?_))
      have : ¬ (0 : Int) < (e : Int) := fun z => h1 (decide_eq_true z)
      omega
end
end K0

set_option Elab.async false
set_option linter.all false
set_option maxRecDepth 100000
set_option maxHeartbeats 4000000
/-! The class Poly. -/
namespace K0
open PySem PySem.Spec PyProof.Rows L2 Gd
local macro_rules | `(tactic| walk_at "rd1") => `(tactic| first | with_reducible refine g_ret ?_ | with_reducible refine g_retN ?_ | with_reducible refine g_seq ?_ | with_reducible refine g_next ?_ | with_reducible refine g_drop ?_ | with_reducible refine g_asg ?_ | with_reducible refine g_name ?_ | with_reducible refine g_ifs ?_ | with_reducible refine g_test ?_ | with_reducible refine g_tb ?_ | with_reducible refine g_and ?_ | with_reducible refine g_or ?_ | with_reducible refine g_not ?_ | with_reducible refine g_andV ?_ | with_reducible refine g_orV ?_ | with_reducible refine g_notV ?_ | with_reducible refine g_if ?_ | with_reducible refine g_op ?_ | with_reducible refine g_un ?_ | with_reducible refine g_cb ?_ | with_reducible refine g_nil ?_ | with_reducible refine g_cons ?_ | with_reducible refine g_call ?_ | with_reducible refine g_callS ?_ | with_reducible refine g_tup ?_ | with_reducible refine g_lst ?_ | with_reducible refine g_isN ?_ | with_reducible refine g_sl ?_ | with_reducible refine g_nopart ?_ | with_reducible refine g_part ?_ | with_reducible refine g_chain ?_ | with_reducible refine g_fld ?_ | with_reducible refine g_prop ?_ | with_reducible refine g_bm ?_ | with_reducible refine g_bm0 ?_ | with_reducible refine g_c ?_ | with_reducible refine g_sub ?_ | with_reducible refine g_int1 ?_ | with_reducible refine g_int2 ?_ | with_reducible refine g_yes ?_ | with_reducible refine g_sfld ?_ | with_reducible refine g_NT ?_ | with_reducible refine g_NF ?_ | with_reducible refine iteT ?_ | with_reducible refine iteF ?_ | ((with_reducible refine' g_aug ?hv ?_); (case hv => exact rfl)) | ((with_reducible refine' g_var ?hv ?_); (case hv => exact rfl)) | with_reducible refine g_I0 ?_ | with_reducible refine g_U ?_ | with_reducible refine g_eqI ?_ | with_reducible refine g_blV ?_ | with_reducible refine g_inV ?_)
local macro_rules | `(tactic| walk_at "rd") => `(tactic| repeat walk_at "rd1")
section
variable {P : Program} {w : World} {K : PySem.W.Frag} {mg : Str → Option Value} {base : Heap}
/-- the class at C -/
structure PC (K : PySem.W.Frag) (mg : Str → Option Value) (C : Addr) : Prop where
  cl : Cls K C
  noF : NoAttr K C "_factors"
  g : mg "Poly" = some (.ref C)
  kp : PySem.W.keepIn K (.ref C) = true
  ha : PySem.W.findIn K (.ref C) "__class__" = some (some (.builtin "object.__class__"))
  hn : PySem.W.specialIn K (.builtin "object.__class__") "__get__" = some (some (.builtin "getset_descriptor.__get__"))
  htk : PySem.W.takesIn K (.builtin "object.__class__") = some true
  hm : PySem.W.mroIn K C (.type "object") = some true
  kit : PySem.W.kitOne K (.ref C) (.ref C) = some true
  ne : NeC K C
theorem PC.ty {C : Addr} (T : PC K mg C) {H : Hp} {p dx : Addr} {fs : List (Str × V)} (h : H p = some (.ins C dx fs)) : TyX K H (.ref p) (.ref C) := .base (.ins h T.cl T.ha T.hn T.htk T.hm)
/-- a polynomial at p: its tuple at u has the factors ns -/
def PolyU (K : PySem.W.Frag) (C : Addr) (H : Hp) (p u : Addr) (ns : List Int) : Prop := (∃ dx, H p = some (.ins C dx [(("_factors" : Str), .ref u)])) ∧ SqT K H u (ns.map V.int) ∧ ns.length ≤ 100000
theorem sqT_ext {H H' : Hp} {a : Addr} {xs : List V} (e : Ext H H') (h : SqT K H a xs) : SqT K H' a xs := by
  rcases h with (h | ⟨o, h⟩) | h
  · exact .inl (.inl (e _ _ h))
  · exact .inl (.inr ⟨o, e _ _ h⟩)
  · exact .inr h
theorem sqL_ext {H H' : Hp} {a : Addr} {xs : List V} (e : Ext H H') (h : SqL K H a xs) : SqL K H' a xs := by
  rcases h with (h | ⟨o, h⟩) | h
  · exact .inl (.inl (e _ _ h))
  · exact .inl (.inr ⟨o, e _ _ h⟩)
  · exact .inr h
theorem PolyU.ext {C p u : Addr} {H H' : Hp} {ns : List Int} (e : Ext H H') (h : PolyU K C H p u ns) : PolyU K C H' p u ns := by
  obtain ⟨⟨dx, h1⟩, h2, h3⟩ := h
  exact ⟨⟨dx, e _ _ h1⟩, sqT_ext e h2, h3⟩
/-! ### __init__ -/
abbrev sInit : Stmt := cls 0
def ExtBut (p : Addr) (H H' : Hp) : Prop := ∀ b o, b ≠ p → H b = some o → H' b = some o
def Big (ns : List Int) : Prop := ∀ n ∈ ns, -(10 ^ 60) < n ∧ n < 10 ^ 60
def spInit (K : PySem.W.Frag) (C : Addr) : Sp := fun vs H Q _ => ∃ (p dx a : Addr) (ns : List Int), vs = [.ref p, .ref a] ∧ H p = some (.ins C dx []) ∧ SqT K H a (ns.map V.int) ∧ ns.length ≤ 400 ∧ Big ns ∧
  ∀ H' u, ExtBut p H H' → H' p = some (.ins C dx [(("_factors" : Str), .ref u)]) → SqT K H' u ((trim ns).map V.int) → Q .non H'
theorem scInit : FnScope ["self", "factors", "factor"] ["self", "factors"] (defScope sInit) := ⟨rfl, rfl, rfl, by decide +kernel, rfl, by decide +kernel, by decide +kernel⟩
structure AtT (K : PySem.W.Frag) (mg : Str → Option Value) (f : Addr) (fd : FuncData) : Prop where
  F : Fun K "trimmed" "trimmed" sTrimmed f fd
  b : Binds K fd ["row"] []
  g : mg "trimmed" = some (.ref f)
abbrev FnI (K : PySem.W.Frag) (t0 f : Addr) (fd : FuncData) : Prop := FunD K "__init__" "Poly.__init__" (defArgs sInit) (defBody sInit) (defScope sInit) [.ref t0] [] f fd
theorem ok_init {f fW fI fT C t0 : Addr} {fd fdW fdI fdT : FuncData} (F : FnI K t0 f fd) (T : Txt K mg) (Cl : PC K mg C) (W : AtW K mg fW fdW) (I : AtI K mg fI fdI) (R : AtT K mg fT fdT) :
    FnOk P w K mg base CX0 4 f fd ["self", "factors"] (spInit K C) := by
  have GI : FnOk P w K mg base CX0 2 fI fdI ["value"] (spInteger K) := ok_integer I.F T W
  have GT : FnOk P w K mg base CX0 1 fT fdT ["row"] (spTrimmed K) := ok_trimmed R.F T
  obtain ⟨tM, gM⟩ := T.most
  refine F.ok scInit (fun vs H Q E h => ?_) (fun cdv A outer s H vs Q E hr h => ?_)
  · obtain ⟨p, dx, a, ns, rfl, _⟩ := h
    rfl
  · obtain ⟨p, dx, a, ns, rfl, hp, hs, hl, hB, k⟩ := h
    refine ⟨_, PSs.nox (pss_cons (ps_if (PW.pt (pw_or (pt_not (pt_val (pe_callB call_isi (by rfl) T.isinstance (by decide +kernel) (pa_cons (pv 1) (pa_cons (pe_bltn (v := .ty "tuple") (by rfl) T.tuple (by decide +kernel) rfl) pa_nil)))))
        (pw_or1 (pt_cmpR op_gt (pe_callB call_len_seq (by rfl) T.len PySem.boot_len (pa_cons (pv 1) pa_nil)) (pe_glob (v := .int 400) (by rfl) gM ⟨_, rfl⟩) (nomark _))))) (pss_one ps_never) pss_nil)
      (pss_cons (ps_if (pt_not (pt_val (pe_callB (cr_all rfl) (by rfl) T.all (by decide +kernel) (pa_cons
          (pe_lc (own := [("factor", 2)]) (g := gName 2) (tt := tYes) rfl scInit.nd (pi_tup (pv 1)) (blkOk_by (N := ["self", "factors", "factor"]) (sc := defScope sInit) (by decide +kernel)) (fun _ _ _ _ _ => pg_name (i := 2) scInit.nd rfl (Or.inl rfl)) (fun _ _ _ _ _ => pts_nil)
            (fun _ _ _ _ _ => pe_call GI (hr.mono (by decide)) (by rfl) I.g I.F.kp I.b .nil pass0 (pa_cons (pv 2) pa_nil))) pa_nil)))) (pss_one ps_never) pss_nil)
        (pss_one (ps_fld (pv 0) (pe_call GT (hr.mono (by decide)) (by rfl) R.g R.F.kp R.b .nil pass0 (pa_cons (pv 1) pa_nil)) rfl)))), ?_⟩
    walk_at "rd"
    refine ⟨_, _, _, _, true, rfl, .ty _, tyT hs, by kernel_rfl, ?_⟩
    walk_at "rd"
    refine ⟨a, _, rfl, .inr hs, ?_⟩
    walk_at "rd"
    rw [decide_eq_false (by rw [List.length_map]; omega)]
    walk_at "rd"
    refine ⟨_, rfl, a, rfl, ⟨_, hs⟩, fun D hD => lc_tup (xs := ns.map V.int) (fun i H' => Ext H H' ∧ H' D = some (.lst ((ns.take i).map fun _ => V.bl true)))
      ⟨Ext.new hD, upd_same⟩ (fun i H' _ q => sqT_ext q.1 hs) ?_ ?_⟩
    · rintro i x H' hi ⟨e, hD'⟩
      rw [mapget] at hi
      obtain ⟨n, hn, rfl⟩ := Option.map_eq_some_iff.mp hi
      have hlt : i < ns.length := (List.getElem?_eq_some_iff.mp hn).1
      refine ⟨rfl, ?_⟩
      walk_at "rd"
      refine ⟨_, true, rfl, .inl ⟨n, rfl, (decide_eq_true (hB n (List.mem_of_getElem? hn))).symm⟩, _, hD', ?_, ?_, ?_⟩
      · rw [List.length_map, List.length_take, sizeLine_eq]
        omega
      · intro b o q
        rw [upd_ne (ne_of_none q hD)]
        exact e b o q
      · rw [upd_same, take_one hlt, List.map_append]
        rfl
    · rintro H' ⟨e, hD'⟩
      walk_at "rd"
      refine ⟨D, ns.map fun _ => true, rfl, SqL.of ?_, ?_⟩
      · rw [hD', List.length_map, List.take_length, List.map_map]
        rfl
      have all : (ns.map fun _ => true).all id = true := by simp
      rw [all]
      walk_at "rd"
      refine ⟨a, ns, rfl, sqT_ext e hs, by omega, ?_⟩
      intro H2 u e2 hu
      have hp2 : H2 p = some (.ins C dx []) := e2 _ _ (e _ _ hp)
      walk_at "rd"
      refine ⟨p, C, dx, [], rfl, hp2, Cl.cl, Cl.noF, by decide, ?_⟩
      refine k _ u ?_ upd_same ?_
      · intro b o hb q
        rw [upd_ne hb]
        exact e2 _ _ (e _ _ q)
      · rcases hu with (h | ⟨o, h⟩) | h
        · refine .inl (.inl ?_)
          rw [upd_ne (ne_of h hp2 (by intro z; cases z))]
          exact h
        · refine .inl (.inr ⟨o, ?_⟩)
          rw [upd_ne (ne_of h hp2 (by intro z; cases z))]
          exact h
        · exact .inr h
end
end K0

set_option Elab.async false
set_option linter.all false
set_option maxRecDepth 100000
set_option maxHeartbeats 4000000
/-! What a polynomial shows. -/
namespace K0
open PySem PySem.Spec PyProof.Rows L2 Gd
local macro_rules | `(tactic| walk_at "rd1") => `(tactic| first | with_reducible refine g_ret ?_ | with_reducible refine g_retN ?_ | with_reducible refine g_seq ?_ | with_reducible refine g_next ?_ | with_reducible refine g_drop ?_ | with_reducible refine g_asg ?_ | with_reducible refine g_name ?_ | with_reducible refine g_ifs ?_ | with_reducible refine g_test ?_ | with_reducible refine g_tb ?_ | with_reducible refine g_and ?_ | with_reducible refine g_or ?_ | with_reducible refine g_not ?_ | with_reducible refine g_andV ?_ | with_reducible refine g_orV ?_ | with_reducible refine g_notV ?_ | with_reducible refine g_if ?_ | with_reducible refine g_op ?_ | with_reducible refine g_un ?_ | with_reducible refine g_cb ?_ | with_reducible refine g_nil ?_ | with_reducible refine g_cons ?_ | with_reducible refine g_call ?_ | with_reducible refine g_callS ?_ | with_reducible refine g_tup ?_ | with_reducible refine g_lst ?_ | with_reducible refine g_isN ?_ | with_reducible refine g_sl ?_ | with_reducible refine g_nopart ?_ | with_reducible refine g_part ?_ | with_reducible refine g_chain ?_ | with_reducible refine g_fld ?_ | with_reducible refine g_prop ?_ | with_reducible refine g_bm ?_ | with_reducible refine g_bm0 ?_ | with_reducible refine g_c ?_ | with_reducible refine g_sub ?_ | with_reducible refine g_int1 ?_ | with_reducible refine g_int2 ?_ | with_reducible refine g_yes ?_ | with_reducible refine g_sfld ?_ | with_reducible refine g_NT ?_ | with_reducible refine g_NF ?_ | with_reducible refine iteT ?_ | with_reducible refine iteF ?_ | ((with_reducible refine' g_aug ?hv ?_); (case hv => exact rfl)) | ((with_reducible refine' g_var ?hv ?_); (case hv => exact rfl)) | with_reducible refine g_I0 ?_ | with_reducible refine g_U ?_ | with_reducible refine g_eqI ?_ | with_reducible refine g_blV ?_ | with_reducible refine g_inV ?_)
local macro_rules | `(tactic| walk_at "rd") => `(tactic| repeat walk_at "rd1")
section
variable {P : Program} {w : World} {K : PySem.W.Frag} {mg : Str → Option Value} {base : Heap}
theorem look1 {u : V} : ([(("_factors" : Str), u)] : List (Str × V)).lookup ("_factors" : Str) = some u := by simp [List.lookup]
/-! ### data -/
def idata (ns : List Int) : List PyData := ns.map PyData.int
theorem eqv_ints : ∀ (ns ms : List Int), PyData.eqvAll (idata ns) (idata ms) = decide (ns = ms)
  | [], [] => rfl
  | [], y :: s => by simp [idata, PyData.eqvAll]
  | x :: r, [] => by simp [idata, PyData.eqvAll]
  | x :: r, y :: s => by
    have ih := eqv_ints r s
    show (PyData.eqv (.int x) (.int y) && PyData.eqvAll (idata r) (idata s)) = _
    rw [ih]
    show ((x == y) && decide (r = s)) = _
    by_cases h : x = y
    · subst h
      by_cases g : r = s
      · subst g
        simp
      · simp [g]
    · simp [h]
theorem lay_ints : ∀ ns : List Int, PyData.canLayAll0 (idata ns) = true
  | [] => rfl
  | x :: r => by
    show (PyData.canLay0 (.int x) && PyData.canLayAll0 (idata r)) = true
    rw [lay_ints r]
    rfl
theorem deep_ints : ∀ ns : List Int, PyData.depthAll (idata ns) = 0
  | [] => rfl
  | x :: r => by
    show max (PyData.depth (.int x)) (PyData.depthAll (idata r)) = 0
    rw [deep_ints r]
    rfl
theorem dp_ints {H : Hp} : ∀ ns : List Int, DpAll K H (ns.map V.int) (idata ns)
  | [] => .nil
  | x :: r => .cons (.int x) (dp_ints r)
theorem dp_tup {H : Hp} {a : Addr} {ns : List Int} (h : SqT K H a (ns.map V.int)) : Dp K H (.ref a) (.tuple (idata ns)) := .tup h (dp_ints ns)
theorem shaped_tup (ns : List Int) : SeqAt.shaped (.tuple (idata ns)) = true := by
  unfold SeqAt.shaped
  rw [show PyData.canLay0 (.tuple (idata ns)) = PyData.canLayAll0 (idata ns) from rfl, lay_ints, show PyData.depth (.tuple (idata ns)) = PyData.depthAll (idata ns) + 1 from rfl, deep_ints]
  rfl
/-- a promise of a method without arguments: from the polynomial at p, its tuple at u, its factors ns, the answer v and nothing changed -/
def spGet (K : PySem.W.Frag) (C : Addr) (v : Addr → List Int → V) : Sp := fun vs H Q _ => ∃ (p u : Addr) (ns : List Int), vs = [.ref p] ∧ PolyU K C H p u ns ∧ Q (v u ns) H
theorem scS {j : Nat} (h : defScope (cls j) = defScope (cls 2)) : FnScope ["self"] ["self"] (defScope (cls j)) := by
  rw [h]
  exact ⟨rfl, rfl, rfl, by decide +kernel, rfl, by decide +kernel, by decide +kernel⟩
theorem sc2 : FnScope ["self"] ["self"] (defScope (cls 2)) := ⟨rfl, rfl, rfl, by decide +kernel, rfl, by decide +kernel, by decide +kernel⟩
theorem sc3 : FnScope ["self"] ["self"] (defScope (cls 3)) := ⟨rfl, rfl, rfl, by decide +kernel, rfl, by decide +kernel, by decide +kernel⟩
theorem sc15 : FnScope ["self", "index"] ["self", "index"] (defScope (cls 15)) := ⟨rfl, rfl, rfl, by decide +kernel, rfl, by decide +kernel, by decide +kernel⟩
theorem sc16 : FnScope ["self"] ["self"] (defScope (cls 16)) := ⟨rfl, rfl, rfl, by decide +kernel, rfl, by decide +kernel, by decide +kernel⟩
theorem sc17 : FnScope ["self"] ["self"] (defScope (cls 17)) := ⟨rfl, rfl, rfl, by decide +kernel, rfl, by decide +kernel, by decide +kernel⟩
theorem sc18 : FnScope ["self"] ["self"] (defScope (cls 18)) := ⟨rfl, rfl, rfl, by decide +kernel, rfl, by decide +kernel, by decide +kernel⟩
theorem sc19 : FnScope ["self", "other"] ["self", "other"] (defScope (cls 19)) := ⟨rfl, rfl, rfl, by decide +kernel, rfl, by decide +kernel, by decide +kernel⟩
variable {f C : Addr} {fd : FuncData}
theorem ok_factors (F : Fun K "factors" "Poly.factors" (cls 2) f fd) (Cl : PC K mg C) : FnOk P w K mg base CX0 1 f fd ["self"] (spGet K C fun u _ => .ref u) := by
  refine F.ok sc2 (fun vs H Q E h => ?_) (fun cdv A outer s H vs Q E hr h => ?_)
  · obtain ⟨p, u, ns, rfl, _⟩ := h
    rfl
  · obtain ⟨p, u, ns, rfl, ⟨⟨dx, hp⟩, hu, hl⟩, k⟩ := h
    refine ⟨_, pss_one (ps_ret (pe_fld (pv 0) rfl)), ?_⟩
    walk_at "rd"
    exact ⟨p, C, dx, _, _, rfl, hp, Cl.cl, Cl.noF, look1, k⟩
theorem ok_degree (F : Fun K "degree" "Poly.degree" (cls 3) f fd) (T : Txt K mg) (Cl : PC K mg C) : FnOk P w K mg base CX0 1 f fd ["self"] (spGet K C fun _ ns => .int ((ns.length : Int) - 1)) := by
  refine F.ok sc3 (fun vs H Q E h => ?_) (fun cdv A outer s H vs Q E hr h => ?_)
  · obtain ⟨p, u, ns, rfl, _⟩ := h
    rfl
  · obtain ⟨p, u, ns, rfl, ⟨⟨dx, hp⟩, hu, hl⟩, k⟩ := h
    refine ⟨_, pss_one (ps_ret (pe_op op_sub (pe_callB call_len_seq (by rfl) T.len PySem.boot_len (pa_cons (pe_fld (pv 0) rfl) pa_nil)) pe_int)), ?_⟩
    walk_at "rd"
    refine ⟨p, C, dx, _, _, rfl, hp, Cl.cl, Cl.noF, look1, ?_⟩
    walk_at "rd"
    refine ⟨u, _, rfl, .inr hu, ?_⟩
    walk_at "rd"
    rw [List.length_map]
    exact k
theorem ok_len (F : Fun K "__len__" "Poly.__len__" (cls 16) f fd) (T : Txt K mg) (Cl : PC K mg C) : FnOk P w K mg base CX0 1 f fd ["self"] (spGet K C fun _ ns => .int (ns.length : Int)) := by
  refine F.ok sc16 (fun vs H Q E h => ?_) (fun cdv A outer s H vs Q E hr h => ?_)
  · obtain ⟨p, u, ns, rfl, _⟩ := h
    rfl
  · obtain ⟨p, u, ns, rfl, ⟨⟨dx, hp⟩, hu, hl⟩, k⟩ := h
    refine ⟨_, pss_one (ps_ret (pe_callB call_len_seq (by rfl) T.len PySem.boot_len (pa_cons (pe_fld (pv 0) rfl) pa_nil))), ?_⟩
    walk_at "rd"
    refine ⟨p, C, dx, _, _, rfl, hp, Cl.cl, Cl.noF, look1, ?_⟩
    walk_at "rd"
    refine ⟨u, _, rfl, .inr hu, ?_⟩
    rw [List.length_map]
    exact k
theorem ok_bool (F : Fun K "__bool__" "Poly.__bool__" (cls 17) f fd) (T : Txt K mg) (Cl : PC K mg C) : FnOk P w K mg base CX0 1 f fd ["self"] (spGet K C fun _ ns => .bl (decide (0 < (ns.length : Int)))) := by
  refine F.ok sc17 (fun vs H Q E h => ?_) (fun cdv A outer s H vs Q E hr h => ?_)
  · obtain ⟨p, u, ns, rfl, _⟩ := h
    rfl
  · obtain ⟨p, u, ns, rfl, ⟨⟨dx, hp⟩, hu, hl⟩, k⟩ := h
    refine ⟨_, pss_one (ps_ret (pe_cmpR op_gt (pe_callB call_len_seq (by rfl) T.len PySem.boot_len (pa_cons (pe_fld (pv 0) rfl) pa_nil)) pe_int (nomark _))), ?_⟩
    walk_at "rd"
    refine ⟨p, C, dx, _, _, rfl, hp, Cl.cl, Cl.noF, look1, ?_⟩
    walk_at "rd"
    refine ⟨u, _, rfl, .inr hu, ?_⟩
    walk_at "rd"
    rw [List.length_map]
    exact k
/-- what list(o) asks -/
def PolyR (K : PySem.W.Frag) (C : Addr) (p u : Addr) (ys : List V) (H : Hp) : Prop := ∃ ns : List Int, ys = ns.map V.int ∧ PolyU K C H p u ns
theorem ok_iter (F : Fun K "__iter__" "Poly.__iter__" (cls 18) f fd) (T : Txt K mg) (Cl : PC K mg C) : FnOk P w K mg base CX0 1 f fd ["self"] (spIt K (PolyR K C)) := by
  refine F.ok sc18 (fun vs H Q E h => ?_) (fun cdv A outer s H vs Q E hr h => ?_)
  · obtain ⟨p, u, ns, rfl, _⟩ := h
    rfl
  · obtain ⟨p, u, ys, rfl, ⟨ns, rfl, ⟨dx, hp⟩, hu, hl⟩, _, k⟩ := h
    refine ⟨_, pss_one (ps_ret (pe_callB call_iterT (by rfl) T.iter (by decide +kernel) (pa_cons (pe_fld (pv 0) rfl) pa_nil))), ?_⟩
    walk_at "rd"
    refine ⟨p, C, dx, _, _, rfl, hp, Cl.cl, Cl.noF, look1, ?_⟩
    walk_at "rd"
    exact ⟨u, _, rfl, hu, k⟩
theorem len_ln : ∀ vs H Q E, spLn (PolyR K C) vs H Q E → spGet K C (fun _ ns => .int (ns.length : Int)) vs H Q E := by
  rintro vs H Q E ⟨p, u, ys, rfl, ⟨ns, rfl, h⟩, k⟩
  rw [List.length_map] at k
  exact ⟨p, u, ns, rfl, h, k⟩
/-- == : from two polynomials, or something else that is no polynomial -/
def spEqP (K : PySem.W.Frag) (C : Addr) : Sp := fun vs H Q _ => ∃ (p u : Addr) (ns : List Int) (y : V), vs = [.ref p, y] ∧ PolyU K C H p u ns ∧
  ((∃ (q v : Addr) (ms : List Int), y = .ref q ∧ PolyU K C H q v ms ∧ Q (.bl (decide (ns = ms))) H) ∨ (∃ t, TyX K H y t ∧ PySem.W.kitOne K t (.ref C) = some false ∧ Q (.bl false) H))
theorem ok_eq (F : Fun K "__eq__" "Poly.__eq__" (cls 19) f fd) (T : Txt K mg) (Cl : PC K mg C) : FnOk P w K mg base CX0 1 f fd ["self", "other"] (spEqP K C) := by
  refine F.ok sc19 (fun vs H Q E h => ?_) (fun cdv A outer s H vs Q E hr h => ?_)
  · obtain ⟨p, u, ns, y, rfl, _⟩ := h
    rfl
  · obtain ⟨p, u, ns, y, rfl, ⟨⟨dx, hp⟩, hu, hl⟩, h⟩ := h
    refine ⟨_, pss_one (ps_ret (pe_and (pe_callB call_isi (by rfl) T.isinstance (by decide +kernel) (pa_cons (pv 1) (pa_cons (pe_glob (v := .ref C) (by rfl) Cl.g rfl) pa_nil)))
      (pe_one (pe_cmpR (op_eqD hr.units) (pe_fld (pv 0) rfl) (pe_fld (pv 1) rfl) (nomark _))))), ?_⟩
    walk_at "rd"
    rcases h with ⟨q, v, ms, rfl, ⟨⟨dy, hq⟩, hv, hm⟩, k⟩ | ⟨t, ty, kt, k⟩
    · refine ⟨_, _, _, _, true, rfl, .own C, Cl.ty hq, Cl.kit, ?_⟩
      walk_at "rd"
      refine ⟨p, C, dx, _, _, rfl, hp, Cl.cl, Cl.noF, look1, ?_⟩
      walk_at "rd"
      refine ⟨q, C, dy, _, _, rfl, hq, Cl.cl, Cl.noF, look1, ?_⟩
      refine ⟨_, _, dp_tup hu, dp_tup hv, shaped_tup _, shaped_tup _, ?_⟩
      show Q (.bl (PyData.eqvAll (idata ns) (idata ms))) H
      rw [eqv_ints]
      exact k
    · refine ⟨_, _, _, _, false, rfl, .own C, ty, kt, ?_⟩
      walk_at "rd"
      exact k
end
end K0

set_option Elab.async false
set_option linter.all false
set_option maxRecDepth 100000
set_option maxHeartbeats 4000000
/-! poly[index]. -/
namespace K0
open PySem PySem.Spec PyProof.Rows L2 Gd
local macro_rules | `(tactic| walk_at "rd1") => `(tactic| first | with_reducible refine g_ret ?_ | with_reducible refine g_retN ?_ | with_reducible refine g_seq ?_ | with_reducible refine g_next ?_ | with_reducible refine g_drop ?_ | with_reducible refine g_asg ?_ | with_reducible refine g_name ?_ | with_reducible refine g_ifs ?_ | with_reducible refine g_test ?_ | with_reducible refine g_tb ?_ | with_reducible refine g_and ?_ | with_reducible refine g_or ?_ | with_reducible refine g_not ?_ | with_reducible refine g_andV ?_ | with_reducible refine g_orV ?_ | with_reducible refine g_notV ?_ | with_reducible refine g_if ?_ | with_reducible refine g_op ?_ | with_reducible refine g_un ?_ | with_reducible refine g_cb ?_ | with_reducible refine g_nil ?_ | with_reducible refine g_cons ?_ | with_reducible refine g_call ?_ | with_reducible refine g_callS ?_ | with_reducible refine g_tup ?_ | with_reducible refine g_lst ?_ | with_reducible refine g_isN ?_ | with_reducible refine g_sl ?_ | with_reducible refine g_nopart ?_ | with_reducible refine g_part ?_ | with_reducible refine g_chain ?_ | with_reducible refine g_fld ?_ | with_reducible refine g_prop ?_ | with_reducible refine g_bm ?_ | with_reducible refine g_bm0 ?_ | with_reducible refine g_c ?_ | with_reducible refine g_sub ?_ | with_reducible refine g_int1 ?_ | with_reducible refine g_int2 ?_ | with_reducible refine g_yes ?_ | with_reducible refine g_sfld ?_ | with_reducible refine g_NT ?_ | with_reducible refine g_NF ?_ | with_reducible refine iteT ?_ | with_reducible refine iteF ?_ | ((with_reducible refine' g_aug ?hv ?_); (case hv => exact rfl)) | ((with_reducible refine' g_var ?hv ?_); (case hv => exact rfl)) | with_reducible refine g_I0 ?_ | with_reducible refine g_U ?_ | with_reducible refine g_eqI ?_ | with_reducible refine g_blV ?_ | with_reducible refine g_inV ?_)
local macro_rules | `(tactic| walk_at "rd") => `(tactic| repeat walk_at "rd1")
section
variable {P : Program} {w : World} {K : PySem.W.Frag} {mg : Str → Option Value} {base : Heap} {f C : Addr} {fd : FuncData}
structure AtX (K : PySem.W.Frag) (mg : Str → Option Value) (f : Addr) (fd : FuncData) : Prop where
  F : Fun K "require_index" "require_index" sIndex f fd
  b : Binds K fd ["value"] []
  g : mg "require_index" = some (.ref f)
def spItem (K : PySem.W.Frag) (C CN : Addr) : Sp := fun vs H Q E => ∃ (p u : Addr) (ns : List Int) (y : V) (b : Bool), vs = [.ref p, y] ∧ PolyU K C H p u ns ∧ IndexOk K H y b ∧
  (b = true → ∀ i, y = .int i → Q (.int ((ns[i.toNat]?).getD 0)) H) ∧
  (b = false → ∀ d, H d = none → E (.ref CN) (some d) (upd H d (.xd [(("value" : Str), y)])))
theorem ok_item {fW fI fX CN fC : Addr} {fdW fdI fdX : FuncData} (F : Fun K "__getitem__" "Poly.__getitem__" (cls 15) f fd) (T : Txt K mg) (Cl : PC K mg C) (W : AtW K mg fW fdW) (I : AtI K mg fI fdI) (X : AtX K mg fX fdX)
    (N : PySem.XInvalidNumber.InvalidNumberTxt K mg CN fC) : FnOk P w K mg base (L2.CX P w) 5 f fd ["self", "index"] (spItem K C CN) := by
  have GX : FnOk P w K mg base (L2.CX P w) 4 fX fdX ["value"] (spIndex K CN) := ok_index X.F T W I N
  refine F.okX sc15 (fun vs H Q E h => ?_) (fun cdv A outer s H vs Q E hr h => ?_)
  · obtain ⟨p, u, ns, y, b, rfl, _⟩ := h
    rfl
  · obtain ⟨p, u, ns, y, b, rfl, ⟨⟨dx, hp⟩, hu, hl⟩, hi, k1, k2⟩ := h
    refine ⟨_, pss_cons (ps_expr (pe_call GX hr (by rfl) X.g X.F.kp X.b .nil (passes_call (takes_of rfl rfl rfl rfl) (fun _ _ _ _ h => h)) (pa_cons (pv 1) pa_nil)))
      (pss_one (ps_ret (pe_ifExp (pt_cmpR op_lt (pv 1) (pe_callB call_len_seq (by rfl) T.len PySem.boot_len (pa_cons (pe_fld (pv 0) rfl) pa_nil)) (nomark _))
        (pe_ix ix_tup (pe_fld (pv 0) rfl) (pv 1) (fun _ _ => rfl)) pe_int))), ?_⟩
    walk_at "rd"
    refine ⟨y, b, rfl, hi, fun hb => ?_, fun hb d hd => k2 hb d hd⟩
    walk_at "rd"
    subst hb
    rcases hi with ⟨i, rfl, hb⟩ | ⟨_, hb⟩
    · have hb' := of_decide_eq_true hb.symm
      refine ⟨p, C, dx, _, _, rfl, hp, Cl.cl, Cl.noF, look1 (u := .ref u), ?_⟩
      walk_at "rd"
      refine ⟨u, _, rfl, .inr hu, ?_⟩
      walk_at "rd"
      rw [List.length_map]
      have k := k1 rfl i rfl
      refine ite2 (fun h1 => ?_) (fun h1 => ?_)
      · have h2 := of_decide_eq_true h1
        walk_at "rd"
        refine ⟨p, C, dx, _, _, rfl, hp, Cl.cl, Cl.noF, look1 (u := .ref u), ?_⟩
        walk_at "rd"
        have hlt : i.toNat < ns.length := by omega
        refine g_ixT hu (v := .int ((ns[i.toNat]?).getD 0)) ?_ k
        have e : i = (i.toNat : Int) := by omega
        have ge : (ns.map V.int)[i.toNat]? = some (V.int ((ns[i.toNat]?).getD 0)) := by
          rw [mapget, List.getElem?_eq_getElem hlt]
          rfl
        rw [e]
        exact atI_nat ge
      · have h2 : ¬ i < (ns.length : Int) := fun z => h1 (decide_eq_true z)
        have hz : (ns[i.toNat]?).getD 0 = 0 := by
          rw [List.getElem?_eq_none_iff.mpr (by omega)]
          rfl
        rw [hz] at k
        exact k
    · cases hb
end
end K0

set_option Elab.async false
set_option linter.all false
set_option maxRecDepth 100000
set_option maxHeartbeats 4000000
/-! The dice of a law: numbers for one place. -/
namespace K0
open PySem PySem.Spec PyProof.Rows L2 Gd
local macro_rules | `(tactic| walk_at "rd1") => `(tactic| first | with_reducible refine g_ret ?_ | with_reducible refine g_retN ?_ | with_reducible refine g_seq ?_ | with_reducible refine g_next ?_ | with_reducible refine g_drop ?_ | with_reducible refine g_asg ?_ | with_reducible refine g_name ?_ | with_reducible refine g_ifs ?_ | with_reducible refine g_test ?_ | with_reducible refine g_tb ?_ | with_reducible refine g_and ?_ | with_reducible refine g_or ?_ | with_reducible refine g_not ?_ | with_reducible refine g_andV ?_ | with_reducible refine g_orV ?_ | with_reducible refine g_notV ?_ | with_reducible refine g_if ?_ | with_reducible refine g_op ?_ | with_reducible refine g_un ?_ | with_reducible refine g_cb ?_ | with_reducible refine g_nil ?_ | with_reducible refine g_cons ?_ | with_reducible refine g_call ?_ | with_reducible refine g_callS ?_ | with_reducible refine g_tup ?_ | with_reducible refine g_lst ?_ | with_reducible refine g_isN ?_ | with_reducible refine g_sl ?_ | with_reducible refine g_nopart ?_ | with_reducible refine g_part ?_ | with_reducible refine g_chain ?_ | with_reducible refine g_fld ?_ | with_reducible refine g_prop ?_ | with_reducible refine g_bm ?_ | with_reducible refine g_bm0 ?_ | with_reducible refine g_c ?_ | with_reducible refine g_sub ?_ | with_reducible refine g_int1 ?_ | with_reducible refine g_int2 ?_ | with_reducible refine g_yes ?_ | with_reducible refine g_sfld ?_ | with_reducible refine g_NT ?_ | with_reducible refine g_NF ?_ | with_reducible refine iteT ?_ | with_reducible refine iteF ?_ | ((with_reducible refine' g_aug ?hv ?_); (case hv => exact rfl)) | ((with_reducible refine' g_var ?hv ?_); (case hv => exact rfl)) | with_reducible refine g_I0 ?_ | with_reducible refine g_U ?_ | with_reducible refine g_eqI ?_ | with_reducible refine g_blV ?_ | with_reducible refine g_inV ?_)
local macro_rules | `(tactic| walk_at "rd") => `(tactic| repeat walk_at "rd1")
section
variable {P : Program} {w : World} {K : PySem.W.Frag} {mg : Str → Option Value} {base : Heap} {f : Addr} {fd : FuncData}
abbrev sDice : Stmt := top 36
abbrev sRoll : Stmt := top 37
abbrev sPick : Stmt := top 38
/-- more names -/
structure Txt2 (mg : Str → Option Value) : Prop where
  max : mg "max" = none
  min : mg "min" = none
  abs : mg "abs" = none
  range : mg "range" = none
  repr : mg "repr" = none
/-- the dice at d -/
def DiceAt (H : Hp) (d : Addr) : Prop := ∃ a b c : Int, H d = some (.lst [.int a, .int b, .int c]) ∧ 0 ≤ a ∧ a < 10 ^ 120 ∧ 0 ≤ b ∧ b < 2 ^ 80 ∧ 0 ≤ c
theorem fmod_lo {a n : Int} (h : 0 < n) : 0 ≤ a.fmod n := by
  rw [Int.fmod_eq_emod_of_nonneg _ (Int.le_of_lt h)]
  exact Int.emod_nonneg _ (Int.ne_of_gt h)
theorem fmod_hi {a n : Int} (h : 0 < n) : a.fmod n < n := by
  rw [Int.fmod_eq_emod_of_nonneg _ (Int.le_of_lt h)]
  exact Int.emod_lt_of_pos _ h
theorem g_fmod {H : Hp} {Q : VK} {a n : Int} (hn : 0 < n) (k : ∀ r, 0 ≤ r → r < n → Q (.int r) H) : rI (fun _ j => j ≠ 0) (fun i j => .int (i.fmod j)) (.int a) (.int n) H Q :=
  ⟨a, n, rfl, rfl, Int.ne_of_gt hn, k _ (fmod_lo hn) (fmod_hi hn)⟩
def spDice (K : PySem.W.Frag) : Sp := fun vs H Q _ => ∃ (a : Addr) (ns : List Int) (i : Nat), vs = [.ref a, .int (i : Int)] ∧ SqL K H a (ns.map V.int) ∧ i ≤ 63 ∧
  ∀ H' d, Ext H H' → H d = none → DiceAt H' d → Q (.ref d) H'
theorem scDice : FnScope ["_law_script", "_law_spot", "_law_cell", "_law_left"] ["_law_script", "_law_spot"] (defScope sDice) := ⟨rfl, rfl, rfl, by decide +kernel, rfl, by decide +kernel, by decide +kernel⟩
theorem ok_dice (F : Fun K "_law_dice" "_law_dice" sDice f fd) (T : Txt K mg) (T2 : Txt2 mg) : FnOk P w K mg base CX0 1 f fd ["_law_script", "_law_spot"] (spDice K) := by
  refine F.ok scDice (fun vs H Q E h => ?_) (fun cdv A outer s H vs Q E hr h => ?_)
  · obtain ⟨a, ns, i, rfl, _⟩ := h
    rfl
  · obtain ⟨a, ns, i, rfl, hs, hi, k⟩ := h
    refine ⟨_, pss_cons (ps_set (i := 2) scDice.nd rfl (Or.inl rfl) (pe_ifExp (pt_cmpR op_lt (pv 1) (pe_callB call_len_seq (by rfl) T.len PySem.boot_len (pa_cons (pv 0) pa_nil)) (nomark _))
          (pe_callTy call_int1 (by rfl) T.int (by decide +kernel) (pa_cons (pe_ix ix_list (pv 0) (pv 1) (fun _ _ => rfl)) pa_nil)) (pe_op op_add (pe_op op_mul pe_int (pv 1)) pe_int)))
      (pss_cons (ps_set (i := 3) scDice.nd rfl (Or.inl rfl) (pe_op op_modN (pe_callB (call_max2 rfl) (by rfl) T2.max (by decide +kernel) (pa_cons pe_int (pa_cons (pe_op op_sub (pe_callB call_abs (by rfl) T2.abs (by decide +kernel) (pa_cons (pv 2) pa_nil)) (pe_op op_pow pe_int pe_int)) pa_nil)))
          (pe_op op_mulW (pe_op op_pow pe_int pe_int) (pe_op op_pow pe_int pe_int))))
        (pss_one (ps_ret (pe_lst (pa_cons (pv 3) (pa_cons (pe_op op_add (pe_op op_add (pe_op op_add (pe_op op_mul (pe_op op_modN (pe_callB call_abs (by rfl) T2.abs (by decide +kernel) (pa_cons (pv 2) pa_nil)) pe_int) pe_int) (pe_op op_mul pe_int (pv 1)))
          (pe_op op_mul pe_int (pe_callTy call_int1 (by rfl) T.int (by decide +kernel) (pa_cons (pe_cmpR op_lt (pv 2) pe_int (nomark _)) pa_nil)))) pe_int) (pa_cons pe_int pa_nil))))))), ?_⟩
    walk_at "rd"
    refine ⟨a, _, rfl, .inl hs, ?_⟩
    walk_at "rd"
    refine ite2 (fun h1 => ?_) (fun h1 => ?_)
    have h2 := of_decide_eq_true h1
    rw [List.length_map] at h2
    have hlt : i < ns.length := by omega
    walk_at "rd"
    refine g_ixL hs (v := .int ns[i]) (atI_nat (by rw [mapget, List.getElem?_eq_getElem hlt]; rfl)) ?_
    walk_at "rd"
    refine .inl ⟨_, rfl, ?_⟩
    generalize ns[i] = c
    walk_at "rd"
    rotate_left
    walk_at "rd"
    refine g_I (.inr ⟨by omega, by omega⟩) ?_
    walk_at "rd"
    generalize (83 * (i : Int) + 61) = c
    walk_at "rd"
    all_goals
      refine g_I ⟨by decide, by decide, by decide⟩ ?_
      walk_at "rd"
      refine g_I ⟨by decide, by decide, by decide⟩ ?_
      walk_at "rd"
      refine g_I ⟨by decide, by decide, by decide⟩ ?_
      walk_at "rd"
      refine g_I (wide_mul (a := 200) (b := 200) (by decide +kernel) (by decide +kernel) (by decide) (by decide) (by decide)) ?_
      walk_at "rd"
      refine g_fmod (by decide +kernel) (fun l l0 l1 => ?_)
      walk_at "rd"
      refine g_fmod (by decide +kernel) (fun r r0 r1 => ?_)
      walk_at "rd"
      refine g_I (.inr ⟨by decide, by decide⟩) ?_
      walk_at "rd"
      refine g_I (.inl ⟨by decide, by decide⟩) ?_
      walk_at "rd"
      refine .inr ⟨_, rfl, ?_⟩
      refine g_I (.inl ⟨by decide, by decide⟩) ?_
      walk_at "rd"
      refine ⟨by show 3 ≤ sizeLine; decide, fun d hd => ?_⟩
      have l1' : l < 10 ^ 120 := Int.lt_of_lt_of_le l1 (by decide +kernel)
      refine k _ d (Ext.new hd) hd ⟨l, _, 0, upd_same, l0, l1', ?_, ?_, Int.le_refl _⟩
      · split <;> omega
      · split <;> omega

/-! ### a roll -/
def spRoll : Sp := fun vs H Q _ => ∃ (d : Addr) (n : Int), vs = [.ref d, .int n] ∧ DiceAt H d ∧ 0 < n ∧ n < 2 ^ 1000 ∧
  ∀ H' r, ExtBut d H H' → DiceAt H' d → 0 ≤ r → r < n → Q (.int r) H'
theorem scRoll : FnScope ["_law_dice_here", "_law_total", "_law_found", "_law_one", "_law_two"] ["_law_dice_here", "_law_total"] (defScope sRoll) := ⟨rfl, rfl, rfl, by decide +kernel, rfl, by decide +kernel, by decide +kernel⟩
theorem ok_roll (F : Fun K "_law_roll" "_law_roll" sRoll f fd) (T : Txt K mg) : FnOk P w K mg base CX0 1 f fd ["_law_dice_here", "_law_total"] spRoll := by
  refine F.ok scRoll (fun vs H Q E h => ?_) (fun cdv A outer s H vs Q E hr h => ?_)
  · obtain ⟨d, n, rfl, _⟩ := h
    rfl
  · obtain ⟨d, n, rfl, ⟨a, b, c, hd, a0, a1, b0, b1, c0⟩, n0, n1, k⟩ := h
    refine ⟨_, pss_cons (ps_if (pt_cmpR op_gt (pe_ix ix_list (pv 0) pe_int (fun _ _ => rfl)) pe_int (nomark _))
        (pss_cons (ps_set (i := 2) scRoll.nd rfl (Or.inl rfl) (pe_op op_modN (pe_callTy call_int1 (by rfl) T.int (by decide +kernel) (pa_cons (pe_ix ix_list (pv 0) pe_int (fun _ _ => rfl)) pa_nil)) (pv 1)))
          (pss_cons (ps_asg (pe_op op_fdivW (pe_ix ix_list (pv 0) pe_int (fun _ _ => rfl)) (pv 1)) (pg_sub (pv 0) pe_int set_list)) (pss_one (ps_ret (pv 2))))) pss_nil)
      (pss_cons (ps_asg (pe_op op_add (pe_ix ix_list (pv 0) pe_int (fun _ _ => rfl)) pe_int) (pg_sub (pv 0) pe_int set_list))
        (pss_cons (ps_set (i := 3) scRoll.nd rfl (Or.inl rfl) (pe_op op_modN (pe_callTy call_int1 (by rfl) T.int (by decide +kernel) (pa_cons (pe_op op_add (pe_ix ix_list (pv 0) pe_int (fun _ _ => rfl)) (pe_op op_mul pe_int (pe_ix ix_list (pv 0) pe_int (fun _ _ => rfl)))) pa_nil)) pe_int))
          (pss_cons (ps_set (i := 4) scRoll.nd rfl (Or.inl rfl) (pe_op op_add (pe_op op_mul (pe_op op_modN (pe_callTy call_int1 (by rfl) T.int (by decide +kernel)
              (pa_cons (pe_op op_add (pe_op op_mul (pv 3) (pv 3)) (pe_op op_mul pe_int (pe_ix ix_list (pv 0) pe_int (fun _ _ => rfl)))) pa_nil)) pe_int) pe_int) (pv 3)))
            (pss_one (ps_ret (pe_op op_modN (pe_callTy call_int1 (by rfl) T.int (by decide +kernel) (pa_cons (pe_op op_fdiv (pv 4) pe_int) pa_nil)) (pv 1))))))), ?_⟩
    walk_at "rd"
    refine g_ixL (SqL.of hd) (v := .int a) rfl ?_
    walk_at "rd"
    refine ite2 (fun h1 => ?_) (fun h1 => ?_)
    · walk_at "rd"
      refine g_ixL (SqL.of hd) (v := .int a) rfl ?_
      walk_at "rd"
      refine .inl ⟨_, rfl, ?_⟩
      walk_at "rd"
      refine g_fmod n0 (fun r r0 r1 => ?_)
      walk_at "rd"
      refine g_ixL (SqL.of hd) (v := .int a) rfl ?_
      walk_at "rd"
      refine g_I (wide_div (b := 1000) n0 (by omega) (by decide) (by decide)) ?_
      walk_at "rd"
      refine ⟨d, _, _, 0, rfl, rfl, hd, rfl, ?_⟩
      walk_at "rd"
      refine k _ r (fun x o hx q => by rw [upd_ne hx]; exact q) ⟨a / n, b, c, upd_same, Int.ediv_nonneg a0 (Int.le_of_lt n0), Int.lt_of_le_of_lt (Int.ediv_le_self _ a0) a1, b0, b1, c0⟩ r0 r1
    · walk_at "rd"
      refine g_ixL (SqL.of hd) (v := .int c) rfl ?_
      walk_at "rd"
      refine ⟨d, _, _, 2, rfl, rfl, hd, rfl, ?_⟩
      walk_at "rd"
      have hd2 : upd H d (.lst (List.set [V.int a, V.int b, V.int c] 2 (V.int (c + 1)))) d = some (.lst [.int a, .int b, .int (c + 1)]) := upd_same
      generalize hH2 : upd H d (.lst (List.set [V.int a, V.int b, V.int c] 2 (V.int (c + 1)))) = H2 at hd2 ⊢
      have e2 : ExtBut d H H2 := fun x o hx q => by rw [← hH2, upd_ne hx]; exact q
      refine g_ixL (SqL.of hd2) (v := .int b) rfl ?_
      walk_at "rd"
      refine g_ixL (SqL.of hd2) (v := .int (c + 1)) rfl ?_
      refine g_I (.inl ⟨by decide, by decide⟩) ?_
      walk_at "rd"
      refine .inl ⟨_, rfl, ?_⟩
      walk_at "rd"
      refine g_fmod (by decide) (fun r r0 r1 => ?_)
      walk_at "rd"
      refine g_I (.inl ⟨by omega, by omega⟩) ?_
      walk_at "rd"
      refine g_ixL (SqL.of hd2) (v := .int (c + 1)) rfl ?_
      refine g_I (.inl ⟨by decide, by decide⟩) ?_
      walk_at "rd"
      refine .inl ⟨_, rfl, ?_⟩
      walk_at "rd"
      refine g_fmod (by decide) (fun t t0 t1 => ?_)
      walk_at "rd"
      refine g_I (.inr ⟨by decide, by decide⟩) ?_
      walk_at "rd"
      refine g_I ⟨by decide, by decide⟩ ?_
      walk_at "rd"
      refine .inl ⟨_, rfl, ?_⟩
      walk_at "rd"
      refine g_fmod n0 (fun z z0 z1 => ?_)
      exact k _ z e2 ⟨a, b, c + 1, hd2, a0, a1, b0, b1, by omega⟩ z0 z1
end
end K0

set_option Elab.async false
set_option linter.all false
set_option maxRecDepth 100000
set_option maxHeartbeats 4000000
/-! Picks, and drawn factors. -/
namespace K0
open PySem PySem.Spec PyProof.Rows L2 Gd
local macro_rules | `(tactic| walk_at "rd1") => `(tactic| first | with_reducible refine g_ret ?_ | with_reducible refine g_retN ?_ | with_reducible refine g_seq ?_ | with_reducible refine g_next ?_ | with_reducible refine g_drop ?_ | with_reducible refine g_asg ?_ | with_reducible refine g_name ?_ | with_reducible refine g_ifs ?_ | with_reducible refine g_test ?_ | with_reducible refine g_tb ?_ | with_reducible refine g_and ?_ | with_reducible refine g_or ?_ | with_reducible refine g_not ?_ | with_reducible refine g_andV ?_ | with_reducible refine g_orV ?_ | with_reducible refine g_notV ?_ | with_reducible refine g_if ?_ | with_reducible refine g_op ?_ | with_reducible refine g_un ?_ | with_reducible refine g_cb ?_ | with_reducible refine g_nil ?_ | with_reducible refine g_cons ?_ | with_reducible refine g_call ?_ | with_reducible refine g_callS ?_ | with_reducible refine g_tup ?_ | with_reducible refine g_lst ?_ | with_reducible refine g_isN ?_ | with_reducible refine g_sl ?_ | with_reducible refine g_nopart ?_ | with_reducible refine g_part ?_ | with_reducible refine g_chain ?_ | with_reducible refine g_fld ?_ | with_reducible refine g_prop ?_ | with_reducible refine g_bm ?_ | with_reducible refine g_bm0 ?_ | with_reducible refine g_c ?_ | with_reducible refine g_sub ?_ | with_reducible refine g_int1 ?_ | with_reducible refine g_int2 ?_ | with_reducible refine g_yes ?_ | with_reducible refine g_sfld ?_ | with_reducible refine g_NT ?_ | with_reducible refine g_NF ?_ | with_reducible refine iteT ?_ | with_reducible refine iteF ?_ | ((with_reducible refine' g_aug ?hv ?_); (case hv => exact rfl)) | ((with_reducible refine' g_var ?hv ?_); (case hv => exact rfl)) | with_reducible refine g_I0 ?_ | with_reducible refine g_U ?_ | with_reducible refine g_eqI ?_ | with_reducible refine g_blV ?_ | with_reducible refine g_inV ?_)
local macro_rules | `(tactic| walk_at "rd") => `(tactic| repeat walk_at "rd1")
section
variable {P : Program} {w : World} {K : PySem.W.Frag} {mg : Str → Option Value} {base : Heap} {f : Addr} {fd : FuncData}
structure AtR (K : PySem.W.Frag) (mg : Str → Option Value) (f : Addr) (fd : FuncData) : Prop where
  F : Fun K "_law_roll" "_law_roll" sRoll f fd
  b : Binds K fd ["_law_dice_here", "_law_total"] []
  g : mg "_law_roll" = some (.ref f)
theorem sqL_but {H H' : Hp} {d l : Addr} {xs : List V} (e : ExtBut d H H') (n : l ≠ d) (h : SqL K H l xs) : SqL K H' l xs := by
  rcases h with (h | ⟨o, h⟩) | h
  · exact .inl (.inl (e _ _ n h))
  · exact .inl (.inr ⟨o, e _ _ n h⟩)
  · exact .inr h
theorem sqT_but {H H' : Hp} {d l : Addr} {xs : List V} (e : ExtBut d H H') (n : l ≠ d) (h : SqT K H l xs) : SqT K H' l xs := by
  rcases h with (h | ⟨o, h⟩) | h
  · exact .inl (.inl (e _ _ n h))
  · exact .inl (.inr ⟨o, e _ _ n h⟩)
  · exact .inr h
theorem ExtBut.trans {d : Addr} {H H1 H2 : Hp} (a : ExtBut d H H1) (b : ExtBut d H1 H2) : ExtBut d H H2 := fun x o n h => b x o n (a x o n h)
theorem ExtBut.of {d : Addr} {H H1 : Hp} (a : Ext H H1) : ExtBut d H H1 := fun x o _ h => a x o h
theorem DiceAt.ext {d : Addr} {H H1 : Hp} (e : Ext H H1) (h : DiceAt H d) : DiceAt H1 d := by
  obtain ⟨a, b, c, h, r⟩ := h
  exact ⟨a, b, c, e _ _ h, r⟩
/-! ### pick -/
def spPick (K : PySem.W.Frag) : Sp := fun vs H Q _ => ∃ (d l : Addr) (xs : List V), vs = [.ref d, .ref l] ∧ DiceAt H d ∧ SqL K H l xs ∧ l ≠ d ∧ 0 < xs.length ∧ xs.length ≤ 1000 ∧
  ∀ H' x, ExtBut d H H' → DiceAt H' d → x ∈ xs → Q x H'
theorem scPick : FnScope ["_law_dice_here", "_law_items"] ["_law_dice_here", "_law_items"] (defScope sPick) := ⟨rfl, rfl, rfl, by decide +kernel, rfl, by decide +kernel, by decide +kernel⟩
theorem ok_pick {fR : Addr} {fdR : FuncData} (F : Fun K "_law_pick" "_law_pick" sPick f fd) (T : Txt K mg) (R : AtR K mg fR fdR) : FnOk P w K mg base CX0 2 f fd ["_law_dice_here", "_law_items"] (spPick K) := by
  have GR : FnOk P w K mg base CX0 1 fR fdR ["_law_dice_here", "_law_total"] spRoll := ok_roll R.F T
  refine F.ok scPick (fun vs H Q E h => ?_) (fun cdv A outer s H vs Q E hr h => ?_)
  · obtain ⟨d, l, xs, rfl, _⟩ := h
    rfl
  · obtain ⟨d, l, xs, rfl, hd, hl, ne, l0, l1, k⟩ := h
    refine ⟨_, pss_one (ps_ret (pe_ix ix_list (pv 1) (pe_call GR hr (by rfl) R.g R.F.kp R.b .nil pass0 (pa_cons (pv 0) (pa_cons (pe_callB call_len_seq (by rfl) T.len PySem.boot_len (pa_cons (pv 1) pa_nil)) pa_nil))) (fun _ _ => rfl))), ?_⟩
    walk_at "rd"
    refine ⟨l, xs, rfl, .inl hl, ?_⟩
    walk_at "rd"
    refine ⟨d, _, rfl, hd, by omega, by omega, ?_⟩
    intro H' r e hd' r0 r1
    have hlt : r.toNat < xs.length := by omega
    have er : r = (r.toNat : Int) := by omega
    rw [er]
    exact g_ixL (sqL_but e ne hl) (atI_nat (List.getElem?_eq_getElem hlt)) (k _ _ e hd' (List.getElem_mem hlt))
/-! ### the law's own trimming -/
abbrev sLTrim : Stmt := top 39
def spLTrim (K : PySem.W.Frag) : Sp := fun vs H Q _ => ∃ (a : Addr) (ns : List Int), vs = [.ref a] ∧ (SqL K H a (ns.map V.int) ∨ SqT K H a (ns.map V.int)) ∧ ns.length ≤ 100000 ∧
  ∀ H' u, Ext H H' → SqT K H' u ((trim ns).map V.int) → Q (.ref u) H'
def muL (i : Nat) : L2.St → Hp → Nat := fun σ H => match σ[i]? with | some (some (.ref l)) => (match H l with | some (.lst xs) => xs.length | _ => 0) | _ => 0
def PvL (a : Addr) (H0 : Hp) (ns : List Int) : L2.St → Hp → Prop := fun σ H' => ∃ (l : Addr) (e : Nat), σ = [some (.ref a), some (.ref l)] ∧ H0 l = none ∧ Ext H0 H' ∧ H' l = some (.lst ((ns.take e).map V.int)) ∧
  e ≤ ns.length ∧ ∀ j x, e ≤ j → ns[j]? = some x → x = 0
theorem scLTrim : FnScope ["_law_factors_here", "_law_found"] ["_law_factors_here"] (defScope sLTrim) := ⟨rfl, rfl, rfl, by decide +kernel, rfl, by decide +kernel, by decide +kernel⟩
theorem shaped_lst (ns : List Int) : SeqAt.shaped (.list (idata ns)) = true := by
  unfold SeqAt.shaped
  rw [show PyData.canLay0 (.list (idata ns)) = PyData.canLayAll0 (idata ns) from rfl, lay_ints, show PyData.depth (.list (idata ns)) = PyData.depthAll (idata ns) + 1 from rfl, deep_ints]
  rfl
theorem ok_ltrim (F : Fun K "_law_trimmed" "_law_trimmed" sLTrim f fd) (T : Txt K mg) : FnOk P w K mg base CX0 1 f fd ["_law_factors_here"] (spLTrim K) := by
  refine F.ok scLTrim (fun vs H Q E h => ?_) (fun cdv A outer s H vs Q E hr h => ?_)
  · obtain ⟨a, ns, rfl, _⟩ := h
    rfl
  · obtain ⟨a, ns, rfl, hs, hl, k⟩ := h
    refine ⟨_, pss_cons (ps_set (i := 1) scLTrim.nd rfl (Or.inl rfl) (pe_callTy call_list_of (by rfl) T.list (by decide +kernel) (pa_cons (pv 0) pa_nil)))
      (pss_cons (ps_while PassesOwn.never (PW.pt (pw_and (pt_cmpR (op_neD hr.units) (pv 1) (pe_lst pa_nil) (nomark _)) (pw_and1 (pt_cmpR op_eq (pe_ix ix_list (pv 1) (pe_un un_neg pe_int) (fun _ _ => rfl)) pe_int (nomark _)))))
          (pss_one (ps_expr (pe_bm0 PySem.F.plainAttrs_list PySem.F.slot_list_pop PySem.F.type_list_pop mt_pop (pv 1)))))
        (pss_one (ps_ret (pe_callTy call_tuple_of (by rfl) T.tuple (by decide +kernel) (pa_cons (pv 1) pa_nil))))), ?_⟩
    walk_at "rd"
    refine ⟨a, _, rfl, hs, fun l hl0 => ?_⟩
    walk_at "rd"
    refine g_while (PvL a H ns) (muL 1) ⟨l, ns.length, rfl, hl0, Ext.new hl0, by rw [List.take_length]; exact upd_same, Nat.le_refl _, fun j x g e => by
        rw [List.getElem?_eq_none_iff.mpr g] at e
        cases e⟩ ?_
    rintro σ H1 ⟨l, e, rfl, hl0, e1, hL, he, hz⟩
    walk_at "rd"
    refine ⟨Nat.zero_le _, fun p hp => ?_⟩
    have e2 : Ext H1 (upd H1 p (.lst [])) := Ext.new hp
    have hL2 := e2 _ _ hL
    have npl : l ≠ p := ne_of_none hL hp
    refine ⟨.list (idata (ns.take e)), .list [], .lst (SqL.of hL2) (dp_ints _), .lst (SqL.of upd_same) .nil, shaped_lst _, by rfl, ?_⟩
    have ev : PyData.eqv (.list (idata (ns.take e))) (.list []) = decide (ns.take e = []) := eqv_ints (ns.take e) []
    rw [ev]
    generalize upd H1 p (.lst []) = H2 at e2 hL2
    have fin : (e = 0 ∨ ∃ x, ns[e - 1]? = some x ∧ x ≠ 0) → tRet (tCB (fun xs H Q => ∃ p ys, xs = [.ref p] ∧ ((SqL K H p ys ∧ ∀ l, H l = none → Q (.ref l) (upd H l (.tup ys))) ∨ (SqT K H p ys ∧ Q (.ref p) H))) (tCons (tVar 1) tNil))
        { nx := fun x H' => Q V.non H', rt := Q } [some (V.ref a), some (V.ref l)] H2 := by
      intro hl'
      have et := trim_take ns e he hz hl'
      walk_at "rd"
      refine ⟨l, _, rfl, .inl ⟨SqL.of hL2, fun u hu => ?_⟩⟩
      refine k _ u (Ext.trans e1 (Ext.trans e2 (Ext.new hu))) ?_
      rw [et]
      exact SqT.of upd_same
    walk_at "rd"
    refine ite2 (fun h1 => ?_) (fun h1 => ?_)
    · have ne0 : ns.take e ≠ [] := by
        intro z
        rw [z] at h1
        exact absurd h1 (by decide)
      have e0 : 0 < e := by
        rcases Nat.eq_zero_or_pos e with z | z
        · rw [z] at ne0
          exact absurd rfl ne0
        · exact z
      have hlt : e - 1 < ns.length := by omega
      have tk : ns.take e = ns.take (e - 1) ++ [ns[e - 1]] := by
        have := take_one (l := ns) (i := e - 1) hlt
        rw [show e - 1 + 1 = e by omega] at this
        exact this
      walk_at "rd"
      refine g_ixL (SqL.of hL2) (v := .int ns[e - 1]) ?_ ?_
      · rw [tk, List.map_append]
        exact atI_last _ _
      walk_at "rd"
      refine ite2 (fun h2 => ?_) (fun h2 => ?_)
      · refine g_turn ?_
        walk_at "rd"
        refine ⟨.inl ⟨rfl, _, SqL.of hL2⟩, ?_⟩
        refine ⟨l, _, .int ns[e - 1], rfl, rfl, hL2, ?_, ?_⟩
        · rw [tk, List.map_append]
          simp
        · have dl : ((ns.take e).map V.int).dropLast = (ns.take (e - 1)).map V.int := by
            rw [tk, List.map_append]
            exact List.dropLast_concat
          rw [dl]
          refine ⟨⟨l, e - 1, rfl, hl0, fun b o q => ?_, upd_same, by omega, fun j x g q => ?_⟩, ?_⟩
          · rw [upd_ne (ne_of_none q hl0)]
            exact e2 _ _ (e1 _ _ q)
          · by_cases hj : j = e - 1
            · subst hj
              rw [List.getElem?_eq_getElem hlt] at q
              cases q
              exact of_decide_eq_true h2
            · exact hz j x (by omega) q
          · show muL 1 [some (.ref a), some (.ref l)] _ < muL 1 [some (.ref a), some (.ref l)] H1
            unfold muL
            simp only [List.getElem?_cons_succ, List.getElem?_cons_zero, upd_same, hL, List.length_map, List.length_take]
            omega
      · exact fin (.inr ⟨_, List.getElem?_eq_getElem hlt, fun z => h2 (decide_eq_true z)⟩)
    · refine iteF (fin (.inl ?_))
      have z : ns.take e = [] := by
        by_cases z : ns.take e = []
        · exact z
        · rw [decide_eq_false z] at h1
          exact absurd rfl h1
      rcases List.take_eq_nil_iff.mp z with z | z
      · exact z
      · subst z
        simpa using he
end
end K0

set_option Elab.async false
set_option linter.all false
set_option maxRecDepth 100000
set_option maxHeartbeats 4000000
/-! Drawn factors. -/
namespace K0
open PySem PySem.Spec PyProof.Rows L2 Gd
local macro_rules | `(tactic| walk_at "rd1") => `(tactic| first | with_reducible refine g_ret ?_ | with_reducible refine g_retN ?_ | with_reducible refine g_seq ?_ | with_reducible refine g_next ?_ | with_reducible refine g_drop ?_ | with_reducible refine g_asg ?_ | with_reducible refine g_name ?_ | with_reducible refine g_ifs ?_ | with_reducible refine g_test ?_ | with_reducible refine g_tb ?_ | with_reducible refine g_and ?_ | with_reducible refine g_or ?_ | with_reducible refine g_not ?_ | with_reducible refine g_andV ?_ | with_reducible refine g_orV ?_ | with_reducible refine g_notV ?_ | with_reducible refine g_if ?_ | with_reducible refine g_op ?_ | with_reducible refine g_un ?_ | with_reducible refine g_cb ?_ | with_reducible refine g_nil ?_ | with_reducible refine g_cons ?_ | with_reducible refine g_call ?_ | with_reducible refine g_callS ?_ | with_reducible refine g_tup ?_ | with_reducible refine g_lst ?_ | with_reducible refine g_isN ?_ | with_reducible refine g_sl ?_ | with_reducible refine g_nopart ?_ | with_reducible refine g_part ?_ | with_reducible refine g_chain ?_ | with_reducible refine g_fld ?_ | with_reducible refine g_prop ?_ | with_reducible refine g_bm ?_ | with_reducible refine g_bm0 ?_ | with_reducible refine g_c ?_ | with_reducible refine g_sub ?_ | with_reducible refine g_int1 ?_ | with_reducible refine g_int2 ?_ | with_reducible refine g_yes ?_ | with_reducible refine g_sfld ?_ | with_reducible refine g_NT ?_ | with_reducible refine g_NF ?_ | with_reducible refine iteT ?_ | with_reducible refine iteF ?_ | ((with_reducible refine' g_aug ?hv ?_); (case hv => exact rfl)) | ((with_reducible refine' g_var ?hv ?_); (case hv => exact rfl)) | with_reducible refine g_I0 ?_ | with_reducible refine g_U ?_ | with_reducible refine g_eqI ?_ | with_reducible refine g_blV ?_ | with_reducible refine g_inV ?_)
local macro_rules | `(tactic| walk_at "rd") => `(tactic| repeat walk_at "rd1")
section
variable {P : Program} {w : World} {K : PySem.W.Frag} {mg : Str → Option Value} {base : Heap} {f : Addr} {fd : FuncData}
abbrev sFactors : Stmt := top 44
theorem dice_ne {H : Hp} {d l : Addr} {o : HO} (h : DiceAt H d) (e : H l = some o) (n : ∀ xs, o ≠ .lst xs) : l ≠ d := by
  obtain ⟨a, b, c, h, _⟩ := h
  intro z
  subst z
  rw [e] at h
  cases h
  exact n _ rfl
theorem dice_none {H : Hp} {d l : Addr} (h : DiceAt H d) (e : H l = none) : l ≠ d := by
  obtain ⟨a, b, c, h, _⟩ := h
  intro z
  subst z
  rw [e] at h
  cases h
theorem DiceAt.upd {H : Hp} {d l : Addr} {o : HO} (h : DiceAt H d) (n : l ≠ d) : DiceAt (upd H l o) d := by
  obtain ⟨a, b, c, h, r⟩ := h
  exact ⟨a, b, c, by rw [upd_ne (Ne.symm n)]; exact h, r⟩
def spFactors : Sp := fun vs H Q _ => ∃ (d : Addr) (m z : Int), vs = [.ref d, .int m, .int z] ∧ DiceAt H d ∧ 0 ≤ m ∧ m ≤ 1000 ∧ 0 ≤ z ∧ z < 2 ^ 500 ∧
  ∀ H' u (ns : List Int), ExtBut d H H' → DiceAt H' d → H u = none → H' u = some (.tup (ns.map V.int)) → (ns.length : Int) ≤ m → (∀ n ∈ ns, -z ≤ n ∧ n ≤ z) → Q (.ref u) H'
def PvF (d l : Addr) (m z : Int) (H0 : Hp) (i : Nat) : L2.St → Hp → Prop := fun σ H' => ∃ (t : Option V) (ns : List Int), σ = [some (.ref d), some (.int m), some (.int z), some (.ref l), t] ∧ H0 l = none ∧ ExtBut d H0 H' ∧ DiceAt H' d ∧
  H' l = some (.lst (ns.map V.int)) ∧ ns.length = i ∧ ∀ n ∈ ns, -z ≤ n ∧ n ≤ z
theorem scFactors : FnScope ["_law_dice_here", "_law_most", "_law_size", "_law_found", "_law_turn"] ["_law_dice_here", "_law_most", "_law_size"] (defScope sFactors) := ⟨rfl, rfl, rfl, by decide +kernel, rfl, by decide +kernel, by decide +kernel⟩
theorem ok_lfactors {fR : Addr} {fdR : FuncData} (F : Fun K "_law_factors" "_law_factors" sFactors f fd) (T : Txt K mg) (T2 : Txt2 mg) (R : AtR K mg fR fdR) : FnOk P w K mg base CX0 2 f fd ["_law_dice_here", "_law_most", "_law_size"] spFactors := by
  have GR : FnOk P w K mg base CX0 1 fR fdR ["_law_dice_here", "_law_total"] spRoll := ok_roll R.F T
  refine F.ok scFactors (fun vs H Q E h => ?_) (fun cdv A outer s H vs Q E hr h => ?_)
  · obtain ⟨d, m, z, rfl, _⟩ := h
    rfl
  · obtain ⟨d, m, z, rfl, hd, m0, m1, z0, z1, k⟩ := h
    refine ⟨_, pss_cons (ps_set (i := 3) scFactors.nd rfl (Or.inl rfl) (pe_lst pa_nil))
      (pss_cons (ps_for PassesOwn.never rfl (pi_range1 (by rfl) T2.range (pa_cons (pe_call GR hr (by rfl) R.g R.F.kp R.b .nil pass0 (pa_cons (pv 0) (pa_cons (pe_op op_add (pv 1) pe_int) pa_nil))) pa_nil)) (pg_name (i := 4) scFactors.nd rfl (Or.inl rfl))
          (pss_one (ps_expr (pe_bm PySem.F.plainAttrs_list PySem.F.slot_list_append PySem.F.type_list_append mt_append (pv 3)
            (pa_cons (pe_ifExp (pt_cmpR op_eq (pe_call GR hr (by rfl) R.g R.F.kp R.b .nil pass0 (pa_cons (pv 0) (pa_cons pe_int pa_nil))) pe_int (nomark _)) pe_int
              (pe_op op_sub (pe_call GR hr (by rfl) R.g R.F.kp R.b .nil pass0 (pa_cons (pv 0) (pa_cons (pe_op op_add (pe_op op_mul pe_int (pv 2)) pe_int) pa_nil))) (pv 2))) pa_nil)))))
        (pss_one (ps_ret (pe_callTy call_tuple_of (by rfl) T.tuple (by decide +kernel) (pa_cons (pv 3) pa_nil))))), ?_⟩
    walk_at "rd"
    refine ⟨Nat.zero_le _, fun l hl => ?_⟩
    walk_at "rd"
    have ld : l ≠ d := dice_none hd hl
    refine g_forR ?_
    walk_at "rd"
    refine ⟨d, _, rfl, hd.upd ld, by omega, by omega, fun H1 r e1 hd1 r0 r1 => ?_⟩
    walk_at "rd"
    refine ⟨by omega, by omega, ?_⟩
    have hl1 := e1 _ _ ld (upd_same (H := H) (o := HO.lst []))
    refine for_range (PvF d l m z H) ⟨_, [], rfl, hl, ExtBut.trans (ExtBut.of (Ext.new hl)) e1, hd1, hl1, rfl, fun n hn => nomatch hn⟩ ?_ ?_
    · rintro i σ H2 hi ⟨t, ns, rfl, _, e2, hd2, hl2, hlen, hb⟩
      walk_at "rd"
      refine ⟨.inl ⟨rfl, _, SqL.of hl2⟩, ?_⟩
      walk_at "rd"
      have go : ∀ (H3 : Hp) (x : Int), ExtBut d H2 H3 → DiceAt H3 d → -z ≤ x → x ≤ z → rAppend (.ref l) [.int x] H3 fun _ H' => PvF d l m z H (i + 1) [some (.ref d), some (.int m), some (.int z), some (.ref l), some (.int (0 + (i : Int)))] H' := by
        intro H3 x e3 hd3 x0 x1
        have hl3 := e3 _ _ ld hl2
        refine ⟨l, _, _, rfl, rfl, hl3, ?_, ?_⟩
        · rw [List.length_map, hlen]
          show i < sizeLine
          have : (1000 : Nat) < sizeLine := by decide
          omega
        · refine ⟨_, ns ++ [x], rfl, hl, fun y o hy q => ?_, hd3.upd ld, ?_, ?_, ?_⟩
          · by_cases hyl : y = l
            · subst hyl
              rw [hl] at q
              cases q
            · rw [upd_ne hyl]
              exact e3 _ _ hy (e2 _ _ hy q)
          · rw [List.map_append]
            exact upd_same
          · rw [List.length_append, hlen]
            rfl
          · intro n hn
            rcases List.mem_append.mp hn with hn | hn
            · exact hb n hn
            · rw [List.mem_singleton] at hn
              subst hn
              exact ⟨x0, x1⟩
      refine ⟨d, _, rfl, hd2, by decide, by decide, fun H3 r3 e3 hd3 r30 r31 => ?_⟩
      walk_at "rd"
      refine ite2 (fun h1 => ?_) (fun h1 => ?_)
      · walk_at "rd"
        exact go H3 0 e3 hd3 (by omega) z0
      · walk_at "rd"
        refine g_I (.inl ⟨by decide, by decide⟩) ?_
        walk_at "rd"
        refine ⟨d, _, rfl, hd3, by omega, by omega, fun H4 r4 e4 hd4 r40 r41 => ?_⟩
        walk_at "rd"
        exact go H4 (r4 - z) (e3.trans e4) hd4 (by omega) (by omega)
    · rintro σ H2 ⟨t, ns, rfl, _, e2, hd2, hl2, hlen, hb⟩
      walk_at "rd"
      refine ⟨l, _, rfl, .inl ⟨SqL.of hl2, fun u hu => ?_⟩⟩
      have ud : u ≠ d := dice_none hd2 hu
      refine k _ u ns (ExtBut.trans e2 (ExtBut.of (Ext.new hu))) (hd2.upd ud) ?_ upd_same (by omega) hb
      cases q : H u with
      | none => rfl
      | some o => 
        have := e2 _ _ ud q
        rw [hu] at this
        cases this
end
end K0

set_option Elab.async false
set_option linter.all false
set_option maxRecDepth 100000
set_option maxHeartbeats 4000000
/-! Integers between bounds. -/
namespace K0
open PySem PySem.Spec PyProof.Rows L2 Gd
local macro_rules | `(tactic| walk_at "rd1") => `(tactic| first | with_reducible refine g_ret ?_ | with_reducible refine g_retN ?_ | with_reducible refine g_seq ?_ | with_reducible refine g_next ?_ | with_reducible refine g_drop ?_ | with_reducible refine g_asg ?_ | with_reducible refine g_name ?_ | with_reducible refine g_ifs ?_ | with_reducible refine g_test ?_ | with_reducible refine g_tb ?_ | with_reducible refine g_and ?_ | with_reducible refine g_or ?_ | with_reducible refine g_not ?_ | with_reducible refine g_andV ?_ | with_reducible refine g_orV ?_ | with_reducible refine g_notV ?_ | with_reducible refine g_if ?_ | with_reducible refine g_op ?_ | with_reducible refine g_un ?_ | with_reducible refine g_cb ?_ | with_reducible refine g_nil ?_ | with_reducible refine g_cons ?_ | with_reducible refine g_call ?_ | with_reducible refine g_callS ?_ | with_reducible refine g_tup ?_ | with_reducible refine g_lst ?_ | with_reducible refine g_isN ?_ | with_reducible refine g_sl ?_ | with_reducible refine g_nopart ?_ | with_reducible refine g_part ?_ | with_reducible refine g_chain ?_ | with_reducible refine g_fld ?_ | with_reducible refine g_prop ?_ | with_reducible refine g_bm ?_ | with_reducible refine g_bm0 ?_ | with_reducible refine g_c ?_ | with_reducible refine g_sub ?_ | with_reducible refine g_int1 ?_ | with_reducible refine g_int2 ?_ | with_reducible refine g_yes ?_ | with_reducible refine g_sfld ?_ | with_reducible refine g_NT ?_ | with_reducible refine g_NF ?_ | with_reducible refine iteT ?_ | with_reducible refine iteF ?_ | ((with_reducible refine' g_aug ?hv ?_); (case hv => exact rfl)) | ((with_reducible refine' g_var ?hv ?_); (case hv => exact rfl)) | with_reducible refine g_I0 ?_ | with_reducible refine g_U ?_ | with_reducible refine g_eqI ?_ | with_reducible refine g_blV ?_ | with_reducible refine g_inV ?_)
local macro_rules | `(tactic| walk_at "rd") => `(tactic| repeat walk_at "rd1")
section
variable {P : Program} {w : World} {K : PySem.W.Frag} {mg : Str → Option Value} {base : Heap} {f : Addr} {fd : FuncData}
abbrev sIsWithin : Stmt := top 13
abbrev sWithin : Stmt := top 14
/-- whether a value is an integer from lo to hi (the bounds have at most sixty digits) -/
def WithB (K : PySem.W.Frag) (H : Hp) (x : V) (lo hi : Int) (b : Bool) : Prop := (∃ i : Int, x = .int i ∧ b = decide (lo ≤ i ∧ i ≤ hi)) ∨ (WholeB K H x false ∧ b = false)
def spIsWithin (K : PySem.W.Frag) : Sp := fun vs H Q _ => ∃ (x : V) (lo hi : Int) (b : Bool), vs = [x, .int lo, .int hi] ∧ -(10 ^ 60) < lo ∧ hi < 10 ^ 60 ∧ WithB K H x lo hi b ∧ Q (.bl b) H
theorem scIsWithin : FnScope ["value", "low", "high"] ["value", "low", "high"] (defScope sIsWithin) := ⟨rfl, rfl, rfl, by decide +kernel, rfl, by decide +kernel, by decide +kernel⟩
theorem ok_isWithin {fW fI : Addr} {fdW fdI : FuncData} (F : Fun K "is_within" "is_within" sIsWithin f fd) (T : Txt K mg) (W : AtW K mg fW fdW) (I : AtI K mg fI fdI) : FnOk P w K mg base CX0 3 f fd ["value", "low", "high"] (spIsWithin K) := by
  have GI : FnOk P w K mg base CX0 2 fI fdI ["value"] (spInteger K) := ok_integer I.F T W
  refine F.ok scIsWithin (fun vs H Q E h => ?_) (fun cdv A outer s H vs Q E hr h => ?_)
  · obtain ⟨x, lo, hi, b, rfl, _⟩ := h
    rfl
  · obtain ⟨x, lo, hi, b, rfl, hlo, hhi, hx, k⟩ := h
    refine ⟨_, pss_one (ps_ret (pe_and (pe_call GI hr (by rfl) I.g I.F.kp I.b .nil pass0 (pa_cons (pv 0) pa_nil))
      (pe_one (pe_chain op_le op_le (pv 1) (pv 0) (pv 2))))), ?_⟩
    walk_at "rd"
    rcases hx with ⟨i, rfl, rfl⟩ | ⟨hx, rfl⟩
    · refine ⟨_, _, rfl, .inl ⟨i, rfl, rfl⟩, ?_⟩
      walk_at "rd"
      refine ite2 (fun h0 => ?_) (fun h0 => ?_)
      · walk_at "rd"
        refine ite2 (fun h1 => ?_) (fun h1 => ?_)
        · walk_at "rd"
          have e : decide (lo ≤ i ∧ i ≤ hi) = decide (i ≤ hi) := dec_l (of_decide_eq_true h1)
          rw [e] at k
          exact k
        · have h2 : ¬ lo ≤ i := fun z => h1 (decide_eq_true z)
          have e : decide (lo ≤ i ∧ i ≤ hi) = false := dec_n h2
          rw [e] at k
          exact k
      · have h2 : ¬ (-(10 ^ 60) < i ∧ i < 10 ^ 60) := fun z => h0 (decide_eq_true z)
        have e : decide (lo ≤ i ∧ i ≤ hi) = false := decide_eq_false (by omega)
        rw [e] at k
        exact k
    · refine ⟨_, _, rfl, .inr ⟨hx, rfl⟩, ?_⟩
      walk_at "rd"
      first | exact k | exact iteF k
structure AtV (K : PySem.W.Frag) (mg : Str → Option Value) (f : Addr) (fd : FuncData) : Prop where
  F : Fun K "is_within" "is_within" sIsWithin f fd
  b : Binds K fd ["value", "low", "high"] []
  g : mg "is_within" = some (.ref f)
def spWithin (K : PySem.W.Frag) (C : Addr) : Sp := fun vs H Q E => ∃ (x : V) (lo hi : Int) (b : Bool), vs = [x, .int lo, .int hi] ∧ -(10 ^ 60) < lo ∧ hi < 10 ^ 60 ∧ WithB K H x lo hi b ∧ (b = true → Q .non H) ∧
  (b = false → ∀ d, H d = none → E (.ref C) (some d) (upd H d (.xd [(("value" : Str), x)])))
theorem scWithin : FnScope ["value", "low", "high"] ["value", "low", "high"] (defScope sWithin) := ⟨rfl, rfl, rfl, by decide +kernel, rfl, by decide +kernel, by decide +kernel⟩
theorem ok_within {fW fI fV C fC : Addr} {fdW fdI fdV : FuncData} (F : Fun K "require_within" "require_within" sWithin f fd) (T : Txt K mg) (W : AtW K mg fW fdW) (I : AtI K mg fI fdI) (V : AtV K mg fV fdV) (N : PySem.XInvalidNumber.InvalidNumberTxt K mg C fC) :
    FnOk P w K mg base (L2.CX P w) 5 f fd ["value", "low", "high"] (spWithin K C) := by
  have GV : FnOk P w K mg base CX0 3 fV fdV ["value", "low", "high"] (spIsWithin K) := ok_isWithin V.F T W I
  refine F.okX scWithin (fun vs H Q E h => ?_) (fun cdv A outer s H vs Q E hr h => ?_)
  · obtain ⟨x, lo, hi, b, rfl, _⟩ := h
    rfl
  · obtain ⟨x, lo, hi, b, rfl, hlo, hhi, hx, k1, k2⟩ := h
    refine ⟨_, pss_one (ps_if (pt_not (pt_val (pe_call GV (hr.mono (by decide)) (by rfl) V.g V.F.kp V.b .nil pass0 (pa_cons (pv 0) (pa_cons (pv 1) (pa_cons (pv 2) pa_nil))))))
      (pss_one (ps_raiseInvalidNumber rfl N hr (takes_of rfl rfl rfl rfl) (by exact (pa_cons (pv 0) pa_nil)))) pss_nil), ?_⟩
    walk_at "rd"
    refine ⟨x, lo, hi, b, rfl, hlo, hhi, hx, ?_⟩
    walk_at "rd"
    cases b with
    | true => exact iteF (k1 rfl)
    | false =>
      refine iteT ?_
      refine ⟨_, rfl, _, rfl, ?_⟩
      exact k2 rfl
end
end K0

set_option Elab.async false
set_option linter.all false
set_option maxRecDepth 100000
set_option maxHeartbeats 4000000
/-! Lists without zeros at their end; reckoned polynomials. -/
namespace K0
open PySem PySem.Spec PyProof.Rows L2 Gd
local macro_rules | `(tactic| walk_at "rd1") => `(tactic| first | with_reducible refine g_ret ?_ | with_reducible refine g_retN ?_ | with_reducible refine g_seq ?_ | with_reducible refine g_next ?_ | with_reducible refine g_drop ?_ | with_reducible refine g_asg ?_ | with_reducible refine g_name ?_ | with_reducible refine g_ifs ?_ | with_reducible refine g_test ?_ | with_reducible refine g_tb ?_ | with_reducible refine g_and ?_ | with_reducible refine g_or ?_ | with_reducible refine g_not ?_ | with_reducible refine g_andV ?_ | with_reducible refine g_orV ?_ | with_reducible refine g_notV ?_ | with_reducible refine g_if ?_ | with_reducible refine g_op ?_ | with_reducible refine g_un ?_ | with_reducible refine g_cb ?_ | with_reducible refine g_nil ?_ | with_reducible refine g_cons ?_ | with_reducible refine g_call ?_ | with_reducible refine g_callS ?_ | with_reducible refine g_tup ?_ | with_reducible refine g_lst ?_ | with_reducible refine g_isN ?_ | with_reducible refine g_sl ?_ | with_reducible refine g_nopart ?_ | with_reducible refine g_part ?_ | with_reducible refine g_chain ?_ | with_reducible refine g_fld ?_ | with_reducible refine g_prop ?_ | with_reducible refine g_bm ?_ | with_reducible refine g_bm0 ?_ | with_reducible refine g_c ?_ | with_reducible refine g_sub ?_ | with_reducible refine g_int1 ?_ | with_reducible refine g_int2 ?_ | with_reducible refine g_yes ?_ | with_reducible refine g_sfld ?_ | with_reducible refine g_NT ?_ | with_reducible refine g_NF ?_ | with_reducible refine iteT ?_ | with_reducible refine iteF ?_ | ((with_reducible refine' g_aug ?hv ?_); (case hv => exact rfl)) | ((with_reducible refine' g_var ?hv ?_); (case hv => exact rfl)) | with_reducible refine g_I0 ?_ | with_reducible refine g_U ?_ | with_reducible refine g_eqI ?_ | with_reducible refine g_blV ?_ | with_reducible refine g_inV ?_)
local macro_rules | `(tactic| walk_at "rd") => `(tactic| repeat walk_at "rd1")
section
variable {P : Program} {w : World} {K : PySem.W.Frag} {mg : Str → Option Value} {base : Heap} {f : Addr} {fd : FuncData}
abbrev sPolyOf : Stmt := top 33
def spTrimmedL (K : PySem.W.Frag) : Sp := fun vs H Q _ => ∃ (a : Addr) (ns : List Int), vs = [.ref a] ∧ SqL K H a (ns.map V.int) ∧ ns.length ≤ 100000 ∧
  ∀ H' u, Ext H H' → SqT K H' u ((trim ns).map V.int) → Q (.ref u) H'
theorem ok_trimmedL (F : Fun K "trimmed" "trimmed" sTrimmed f fd) (T : Txt K mg) : FnOk P w K mg base CX0 1 f fd ["row"] (spTrimmedL K) := by
  refine F.ok scTrimmed (fun vs H Q E h => ?_) (fun cdv A outer s H vs Q E hr h => ?_)
  · obtain ⟨x, b, rfl, _⟩ := h
    rfl
  · obtain ⟨a, ns, rfl, hs, hl, k⟩ := h
    refine ⟨_, pss_cons (ps_set (i := 1) scTrimmed.nd rfl (Or.inl rfl) (pe_callB call_len_seq (by rfl) T.len PySem.boot_len (pa_cons (pv 0) pa_nil)))
      (pss_cons (ps_while PassesOwn.never (PW.pt (pw_and (pt_cmpR op_gt (pv 1) pe_int (nomark _)) (pw_and1 (pt_cmpR op_eq (pe_ix ix_list (pv 0) (pe_op op_sub (pv 1) pe_int) (fun _ _ => rfl)) pe_int (nomark _)))))
          (pss_one (ps_aug (i := 1) scTrimmed.nd rfl (Or.inl rfl) pe_int ip_sub)))
        (pss_one (ps_ret (pe_callTy call_tuple_of (by rfl) T.tuple (by decide +kernel) (pa_cons (pe_slice sl_list (pv 0) po_none (po_some (pv 1))) pa_nil))))), ?_⟩
    walk_at "rd"
    refine ⟨a, _, rfl, .inl hs, ?_⟩
    walk_at "rd"
    refine g_while (PvT a H ns) (muI 1) ⟨rfl, ns.length, by rw [List.length_map]; rfl, Nat.le_refl _, fun j x g e => by
        rw [List.getElem?_eq_none_iff.mpr g] at e
        cases e⟩ ?_
    rintro σ H' ⟨rfl, e, rfl, he, hz⟩
    walk_at "rd"
    have fin : (e = 0 ∨ ∃ x, ns[e - 1]? = some x ∧ x ≠ 0) → tRet (tCB (fun xs H Q => ∃ p ys, xs = [V.ref p] ∧ ((SqL K H p ys ∧ ∀ l, H l = none → Q (V.ref l) (upd H l (HO.tup ys))) ∨ (SqT K H p ys ∧ Q (V.ref p) H))) (tCons (tSl (rSlL K) (tVar 0) tNoPart (tPart (tVar 1))) tNil))
        { nx := fun x H' => Q V.non H', rt := Q } [some (V.ref a), some (V.int (e : Int))] H' := by
      intro hl'
      have et := trim_take ns e he hz hl'
      walk_at "rd"
      have s1 : HT.sIx (ns.map V.int).length 0 none = 0 := rfl
      have s2 : HT.sIx (ns.map V.int).length (ns.map V.int).length (some (e : Int)) = e := by
        rw [HT.sIx_nat, List.length_map]
        omega
      have ec : cutV (ns.map V.int) none (some (e : Int)) = (trim ns).map V.int := by
        unfold cutV
        rw [s1, s2, et, List.drop_zero, Nat.sub_zero, List.map_take]
      refine ⟨a, _, rfl, hs, fun p hp => ?_⟩
      rw [ec]
      walk_at "rd"
      refine ⟨p, _, rfl, .inl ⟨SqL.of upd_same, fun u hu => ?_⟩⟩
      exact k _ u (Ext.trans (Ext.new hp) (Ext.new hu)) (SqT.of upd_same)
    refine ite2 (fun h1 => ?_) (fun h1 => ?_)
    · have h1' : 0 < e := by
        have := of_decide_eq_true h1
        omega
      walk_at "rd"
      have hlt : e - 1 < ns.length := by omega
      have ge : (ns.map V.int)[e - 1]? = some (V.int ns[e - 1]) := by rw [mapget, List.getElem?_eq_getElem hlt]; rfl
      refine g_ixL hs (v := .int ns[e - 1]) ?_ ?_
      · have := atI_nat ge
        have q : ((e : Int) - 1) = ((e - 1 : Nat) : Int) := by omega
        rw [q]
        exact this
      walk_at "rd"
      refine ite2 (fun h2 => ?_) (fun h2 => ?_)
      · refine g_turn ?_
        walk_at "rd"
        refine ⟨_, _, rfl, rfl, ?_⟩
        refine ⟨⟨rfl, e - 1, ?_, by omega, fun j x g q => ?_⟩, ?_⟩
        · show [some (V.ref a), some (V.int ((e : Int) - 1))] = _
          have q : ((e : Int) - 1) = ((e - 1 : Nat) : Int) := by omega
          rw [q]
        · by_cases hj : j = e - 1
          · subst hj
            rw [List.getElem?_eq_getElem hlt] at q
            cases q
            exact of_decide_eq_true h2
          · exact hz j x (by omega) q
        · show ((e : Int) - 1).toNat < ((e : Int)).toNat
          omega
      · refine fin (.inr ⟨_, List.getElem?_eq_getElem hlt, fun z => h2 (decide_eq_true z)⟩)
    · refine iteF (fin (.inl ?_))
      have : ¬ (0 : Int) < (e : Int) := fun z => h1 (decide_eq_true z)
      omega
/-! ### poly_of -/
def spPolyOf (K : PySem.W.Frag) (C : Addr) (Sq : Hp → Addr → List V → Prop) : Sp := fun vs H Q _ => ∃ (a : Addr) (ns : List Int), vs = [.ref a] ∧ Sq H a (ns.map V.int) ∧ ns.length ≤ 100000 ∧
  ∀ H' p u, Ext H H' → PolyU K C H' p u (trim ns) → Q (.ref p) H'
/-- where __init__ stands -/
structure AtN (K : PySem.W.Frag) (C t0 f : Addr) (fd : FuncData) : Prop where
  F : FnI K t0 f fd
  M : Mk K C f
  b : Binds K fd ["self", "factors"] []
theorem bigN : Big [] := fun n hn => nomatch hn
theorem g_make1 {K : PySem.W.Frag} {C t0 : Addr} {E : XK} {σ : L2.St} {H : Hp} {Q : VK} (h0 : SqT K H t0 []) (k : ∀ H' p dx u, Ext H H' → H p = none → H' p = some (.ins C dx [(("_factors" : Str), .ref u)]) → SqT K H' u [] → Q (.ref p) H') : tMake C (spInit K C) [.ref t0] E tNil σ H Q := by
  intro x dx hx hdx ne
  have e1 : Ext H (upd (upd H dx (.own x)) x (.ins C dx [])) := fun b o q => by
    rw [upd_ne (ne_of_none q hx), upd_ne (ne_of_none q hdx)]
    exact q
  refine ⟨x, dx, t0, [], rfl, upd_same, sqT_ext e1 h0, by decide, bigN, fun H' u e hp hu => ⟨rfl, k H' x dx u (fun b o q => e b o (ne_of_none q hx) (e1 b o q)) hx hp hu⟩⟩
theorem scPolyOf : FnScope ["row", "poly"] ["row"] (defScope sPolyOf) := ⟨rfl, rfl, rfl, by decide +kernel, rfl, by decide +kernel, by decide +kernel⟩
theorem ok_polyOf {Sq : Hp → Addr → List V → Prop} {fC fT C t0 : Addr} {fdC fdT : FuncData} {ds : List Value} (F : Fun K "poly_of" "poly_of" sPolyOf f fd) (T : Txt K mg) (Cl : PC K mg C) (Ni : AtN K C t0 fC fdC)
    (b0 : Binds K fdC ["self", "factors"] ds) (hds : Vals [V.ref t0] ds) (hT0 : ∀ H, SqT K H t0 []) (R : AtT K mg fT fdT) (sq : ∀ H H' a xs, Ext H H' → Sq H a xs → Sq H' a xs)
    (GC : FnOk P w K mg base CX0 4 fC fdC ["self", "factors"] (spInit K C))
    (GT : FnOk P w K mg base CX0 1 fT fdT ["row"] (fun vs H Q _ => ∃ (a : Addr) (ns : List Int), vs = [.ref a] ∧ Sq H a (ns.map V.int) ∧ ns.length ≤ 100000 ∧ ∀ H' u, Ext H H' → SqT K H' u ((trim ns).map V.int) → Q (.ref u) H')) :
    FnOk P w K mg base CX0 6 f fd ["row"] (spPolyOf K C Sq) := by
  refine F.ok scPolyOf (fun vs H Q E h => ?_) (fun cdv A outer s H vs Q E hr h => ?_)
  · obtain ⟨a, ns, rfl, _⟩ := h
    rfl
  · obtain ⟨a, ns, rfl, hs, hl, k⟩ := h
    refine ⟨_, pss_cons (ps_set (i := 1) scPolyOf.nd rfl (Or.inl rfl) (pe_make0 Ni.M GC hr (by rfl) Cl.g b0 hds pass0))
      (pss_cons (ps_fld (pv 1) (pe_call GT (hr.mono (by decide)) (by rfl) R.g R.F.kp R.b .nil pass0 (pa_cons (pv 0) pa_nil)) rfl)
        (pss_one (ps_ret (pv 1)))), ?_⟩
    walk_at "rd"
    refine g_make1 (hT0 _) (fun H1 p dx u e1 hp0 hp hu => ?_)
    walk_at "rd"
    refine ⟨a, ns, rfl, sq _ _ _ _ e1 hs, hl, fun H2 v e2 hv => ?_⟩
    walk_at "rd"
    refine ⟨p, C, dx, _, rfl, e2 _ _ hp, Cl.cl, Cl.noF, by show 1 < 1000; decide, ?_⟩
    walk_at "rd"
    refine k _ p v (fun b o q => ?_) ⟨⟨dx, ?_⟩, ?_, Nat.le_trans (trim_len ns) hl⟩
    · rw [upd_ne (ne_of_none q hp0)]
      exact e2 _ _ (e1 _ _ q)
    · exact upd_same
    · rcases hv with (h | ⟨o, h⟩) | h
      · refine .inl (.inl ?_)
        rw [upd_ne (ne_of h (e2 _ _ hp) (by intro z; cases z))]
        exact h
      · refine .inl (.inr ⟨o, ?_⟩)
        rw [upd_ne (ne_of h (e2 _ _ hp) (by intro z; cases z))]
        exact h
      · exact .inr h
end
end K0

set_option Elab.async false
set_option linter.all false
set_option maxRecDepth 100000
set_option maxHeartbeats 4000000
/-! Rows negated and added. -/
namespace K0
open PySem PySem.Spec PyProof.Rows L2 Gd
local macro_rules | `(tactic| walk_at "rd1") => `(tactic| first | with_reducible refine g_ret ?_ | with_reducible refine g_retN ?_ | with_reducible refine g_seq ?_ | with_reducible refine g_next ?_ | with_reducible refine g_drop ?_ | with_reducible refine g_asg ?_ | with_reducible refine g_name ?_ | with_reducible refine g_ifs ?_ | with_reducible refine g_test ?_ | with_reducible refine g_tb ?_ | with_reducible refine g_and ?_ | with_reducible refine g_or ?_ | with_reducible refine g_not ?_ | with_reducible refine g_andV ?_ | with_reducible refine g_orV ?_ | with_reducible refine g_notV ?_ | with_reducible refine g_if ?_ | with_reducible refine g_op ?_ | with_reducible refine g_un ?_ | with_reducible refine g_cb ?_ | with_reducible refine g_nil ?_ | with_reducible refine g_cons ?_ | with_reducible refine g_call ?_ | with_reducible refine g_callS ?_ | with_reducible refine g_tup ?_ | with_reducible refine g_lst ?_ | with_reducible refine g_isN ?_ | with_reducible refine g_sl ?_ | with_reducible refine g_nopart ?_ | with_reducible refine g_part ?_ | with_reducible refine g_chain ?_ | with_reducible refine g_fld ?_ | with_reducible refine g_prop ?_ | with_reducible refine g_bm ?_ | with_reducible refine g_bm0 ?_ | with_reducible refine g_c ?_ | with_reducible refine g_sub ?_ | with_reducible refine g_int1 ?_ | with_reducible refine g_int2 ?_ | with_reducible refine g_yes ?_ | with_reducible refine g_sfld ?_ | with_reducible refine g_NT ?_ | with_reducible refine g_NF ?_ | with_reducible refine iteT ?_ | with_reducible refine iteF ?_ | ((with_reducible refine' g_aug ?hv ?_); (case hv => exact rfl)) | ((with_reducible refine' g_var ?hv ?_); (case hv => exact rfl)) | with_reducible refine g_I0 ?_ | with_reducible refine g_U ?_ | with_reducible refine g_eqI ?_ | with_reducible refine g_blV ?_ | with_reducible refine g_inV ?_)
local macro_rules | `(tactic| walk_at "rd") => `(tactic| repeat walk_at "rd1")
theorem PI_or {X : Cx} {tg e : Expr} {w1 w2 : TI} (h1 : PI X tg e w1) (h2 : PI X tg e w2) : PI X tg e (fun σ H R => w1 σ H R ∨ w2 σ H R) :=
  ⟨fun pins s σ H R I h => h.elim (h1.run pins s σ H R I) (h2.run pins s σ H R I)⟩
/-- the sum of two rows -/
def addR : List Int → List Int → List Int
  | [], b => b
  | a, [] => a
  | x :: a, y :: b => (x + y) :: addR a b
theorem addR_nil (a : List Int) : addR a [] = a := by cases a <;> rfl
theorem addR_comm : ∀ a b : List Int, addR a b = addR b a
  | [], b => (addR_nil b).symm
  | x :: a, [] => rfl
  | x :: a, y :: b => by
    show (x + y) :: addR a b = (y + x) :: addR b a
    rw [addR_comm a b, Int.add_comm]
theorem addR_zip : ∀ a b : List Int, b.length ≤ a.length → addR a b = List.zipWith (· + ·) a b ++ a.drop b.length
  | a, [], _ => by
    rw [addR_nil]
    simp
  | [], y :: b, h => absurd h (by simp)
  | x :: a, y :: b, h => by
    show (x + y) :: addR a b = _
    rw [addR_zip a b (by simpa using h)]
    rfl
theorem addR_len : ∀ a b : List Int, (addR a b).length = max a.length b.length
  | [], b => by simp [addR]
  | x :: a, [] => by simp [addR]
  | x :: a, y :: b => by
    show (addR a b).length + 1 = max (a.length + 1) (b.length + 1)
    rw [addR_len a b]
    omega
section
variable {P : Program} {w : World} {K : PySem.W.Frag} {mg : Str → Option Value} {base : Heap} {f : Addr} {fd : FuncData}
abbrev sNegated : Stmt := top 19
abbrev sAdded : Stmt := top 18
theorem sqE_ext {l : Bool} {H H' : Hp} {a : Addr} {xs : List V} (e : Ext H H') (h : SqE K l H a xs) : SqE K l H' a xs := by
  cases l with
  | true => exact sqL_ext e h
  | false => exact sqT_ext e h
def spNegated (K : PySem.W.Frag) : Sp := fun vs H Q _ => ∃ (l : Bool) (a : Addr) (ns : List Int), vs = [.ref a] ∧ SqE K l H a (ns.map V.int) ∧ ns.length ≤ 100000 ∧
  ∀ H' u, Ext H H' → H u = none → H' u = some (.lst ((ns.map fun n => -n).map V.int)) → Q (.ref u) H'
theorem scNegated : FnScope ["row", "factor"] ["row"] (defScope sNegated) := ⟨rfl, rfl, rfl, by decide +kernel, rfl, by decide +kernel, by decide +kernel⟩
theorem ok_negated (F : Fun K "negated" "negated" sNegated f fd) : FnOk P w K mg base CX0 1 f fd ["row"] (spNegated K) := by
  refine F.ok scNegated (fun vs H Q E h => ?_) (fun cdv A outer s H vs Q E hr h => ?_)
  · obtain ⟨l, a, ns, rfl, _⟩ := h
    rfl
  · obtain ⟨l, a, ns, rfl, hs, hl, k⟩ := h
    refine ⟨_, pss_one (ps_ret (pe_lc (own := [("factor", 1)]) (g := gName 1) (tt := tYes) rfl scNegated.nd (PI_or (pi_list (pv 0)) (pi_tup (pv 0))) (blkOk_by (N := ["row", "factor"]) (sc := defScope sNegated) (by decide +kernel)) (fun _ _ _ _ _ => pg_name (i := 1) scNegated.nd rfl (Or.inl rfl)) (fun _ _ _ _ _ => pts_nil)
      (fun _ _ _ _ _ => pe_un un_neg (pv 1)))), ?_⟩
    walk_at "rd"
    have hl' : ns.length < sizeLine := by
      rw [sizeLine_eq]
      omega
    have turn : ∀ D, H D = none → ∀ i x H', (ns.map V.int)[i]? = some x → (Ext H H' ∧ H' D = some (.lst (((ns.take i).map fun n => -n).map V.int))) →
        gName 1 x (wipe [some (V.ref a), none] [1]) H' fun σ2 H2 => wipe σ2 [1] = wipe [some (V.ref a), none] [1] ∧ tYes σ2 H2 fun b H3 =>
          if b = true then (tUn (rU fun i => V.int (-i)) (tVar 1)) σ2 H3 fun y H4 => ∃ acc, H4 D = some (.lst acc) ∧ acc.length < sizeLine ∧ (fun j H'' => Ext H H'' ∧ H'' D = some (.lst (((ns.take j).map fun n => -n).map V.int))) (i + 1) (upd H4 D (.lst (acc ++ [y])))
          else (fun j H'' => Ext H H'' ∧ H'' D = some (.lst (((ns.take j).map fun n => -n).map V.int))) (i + 1) H3 := by
      rintro D hD i x H' hi ⟨e, hD'⟩
      rw [mapget] at hi
      obtain ⟨n, hn, rfl⟩ := Option.map_eq_some_iff.mp hi
      have hlt : i < ns.length := (List.getElem?_eq_some_iff.mp hn).1
      refine ⟨rfl, ?_⟩
      walk_at "rd"
      refine ⟨_, hD', ?_, fun b o q => ?_, ?_⟩
      · rw [List.length_map, List.length_map, List.length_take]
        omega
      · rw [upd_ne (ne_of_none q hD)]
        exact e b o q
      · rw [upd_same, take_one hlt, List.map_append, List.map_append]
        have : ns[i] = n := by
          rw [List.getElem?_eq_getElem hlt] at hn
          exact Option.some.inj hn
        rw [this]
        rfl
    have fin : ∀ D, H D = none → ∀ H', Ext H H' ∧ H' D = some (.lst (((ns.take (ns.map V.int).length).map fun n => -n).map V.int)) → Q (.ref D) H' := by
      rintro D hD H' ⟨e, hD'⟩
      refine k _ D e hD ?_
      rw [hD', List.length_map, List.take_length]
    cases l with
    | true => exact .inl ⟨_, rfl, a, rfl, ⟨_, hs⟩, fun D hD => lc_list (xs := ns.map V.int) (fun i H' => Ext H H' ∧ H' D = some (.lst (((ns.take i).map fun n => -n).map V.int))) ⟨Ext.new hD, upd_same⟩ (fun i H' _ q => sqL_ext q.1 hs) (turn D hD) (fin D hD)⟩
    | false => exact .inr ⟨_, rfl, a, rfl, ⟨_, hs⟩, fun D hD => lc_tup (xs := ns.map V.int) (fun i H' => Ext H H' ∧ H' D = some (.lst (((ns.take i).map fun n => -n).map V.int))) ⟨Ext.new hD, upd_same⟩ (fun i H' _ q => sqT_ext q.1 hs) (turn D hD) (fin D hD)⟩
end
end K0

set_option Elab.async false
set_option linter.all false
set_option maxRecDepth 100000
set_option maxHeartbeats 4000000
/-! Rows added. -/
namespace K0
open PySem PySem.Spec PyProof.Rows L2 Gd
local macro_rules | `(tactic| walk_at "rd1") => `(tactic| first | with_reducible refine g_ret ?_ | with_reducible refine g_retN ?_ | with_reducible refine g_seq ?_ | with_reducible refine g_next ?_ | with_reducible refine g_drop ?_ | with_reducible refine g_asg ?_ | with_reducible refine g_name ?_ | with_reducible refine g_ifs ?_ | with_reducible refine g_test ?_ | with_reducible refine g_tb ?_ | with_reducible refine g_and ?_ | with_reducible refine g_or ?_ | with_reducible refine g_not ?_ | with_reducible refine g_andV ?_ | with_reducible refine g_orV ?_ | with_reducible refine g_notV ?_ | with_reducible refine g_if ?_ | with_reducible refine g_op ?_ | with_reducible refine g_un ?_ | with_reducible refine g_cb ?_ | with_reducible refine g_nil ?_ | with_reducible refine g_cons ?_ | with_reducible refine g_call ?_ | with_reducible refine g_callS ?_ | with_reducible refine g_tup ?_ | with_reducible refine g_lst ?_ | with_reducible refine g_isN ?_ | with_reducible refine g_sl ?_ | with_reducible refine g_nopart ?_ | with_reducible refine g_part ?_ | with_reducible refine g_chain ?_ | with_reducible refine g_fld ?_ | with_reducible refine g_prop ?_ | with_reducible refine g_bm ?_ | with_reducible refine g_bm0 ?_ | with_reducible refine g_c ?_ | with_reducible refine g_sub ?_ | with_reducible refine g_int1 ?_ | with_reducible refine g_int2 ?_ | with_reducible refine g_yes ?_ | with_reducible refine g_sfld ?_ | with_reducible refine g_NT ?_ | with_reducible refine g_NF ?_ | with_reducible refine iteT ?_ | with_reducible refine iteF ?_ | ((with_reducible refine' g_aug ?hv ?_); (case hv => exact rfl)) | ((with_reducible refine' g_var ?hv ?_); (case hv => exact rfl)) | with_reducible refine g_I0 ?_ | with_reducible refine g_U ?_ | with_reducible refine g_eqI ?_ | with_reducible refine g_blV ?_ | with_reducible refine g_inV ?_)
local macro_rules | `(tactic| walk_at "rd") => `(tactic| repeat walk_at "rd1")
section
variable {P : Program} {w : World} {K : PySem.W.Frag} {mg : Str → Option Value} {base : Heap} {f : Addr} {fd : FuncData}
def spAdded (K : PySem.W.Frag) : Sp := fun vs H Q _ => ∃ (l1 l2 : Bool) (a b : Addr) (ns ms : List Int), vs = [.ref a, .ref b] ∧ SqE K l1 H a (ns.map V.int) ∧ SqE K l2 H b (ms.map V.int) ∧ ns.length ≤ 100000 ∧ ms.length ≤ 100000 ∧
  ∀ H' u, Ext H H' → H u = none → H' u = some (.lst ((addR ns ms).map V.int)) → Q (.ref u) H'
theorem scAdded : FnScope ["one", "other", "x", "y"] ["one", "other"] (defScope sAdded) := ⟨rfl, rfl, rfl, by decide +kernel, rfl, by decide +kernel, by decide +kernel⟩
theorem sqE_or {l : Bool} {H : Hp} {a : Addr} {xs : List V} (h : SqE K l H a xs) : SqL K H a xs ∨ SqT K H a xs := by
  cases l with
  | true => exact .inl h
  | false => exact .inr h
theorem cut_drop {xs : List V} {m : Nat} (h : m ≤ xs.length) : cutV xs (some (m : Int)) none = xs.drop m := by
  unfold cutV
  have s1 : HT.sIx xs.length 0 (some (m : Int)) = m := by
    rw [HT.sIx_nat]
    omega
  have s2 : HT.sIx xs.length xs.length none = xs.length := rfl
  rw [s1, s2]
  exact List.take_of_length_le (by rw [List.length_drop]; exact Nat.le_refl _)
theorem g_dropE {l : Bool} {H : Hp} {a : Addr} {xs : List V} {m : Nat} {Q : VK} (h : SqE K l H a xs) (hm : m ≤ xs.length) (k : ∀ H' p, Ext H H' → (SqL K H' p (xs.drop m) ∨ SqT K H' p (xs.drop m)) → Q (.ref p) H') :
    rSlL K (.ref a) (some (m : Int)) none H Q ∨ rSlA K (.ref a) (some (m : Int)) none H Q := by
  cases l with
  | true =>
    refine .inl ⟨a, xs, rfl, h, fun p hp => ?_⟩
    rw [cut_drop hm]
    exact k _ p (Ext.new hp) (.inl (SqL.of upd_same))
  | false =>
    refine .inr ⟨a, xs, rfl, h, fun w => ?_, fun w p hp => ?_⟩
    · have z : m = 0 := by
        have := w.1
        rw [HT.sIx_nat] at this
        omega
      refine k H a (fun _ _ q => q) (.inr ?_)
      rw [z]
      exact h
    · rw [cut_drop hm]
      exact k _ p (Ext.new hp) (.inr (SqT.of upd_same))
theorem ok_added (F : Fun K "added" "added" sAdded f fd) (T : Txt K mg) (hz : mg "zip" = none) : FnOk P w K mg base CX0 1 f fd ["one", "other"] (spAdded K) := by
  refine F.ok scAdded (fun vs H Q E h => ?_) (fun cdv A outer s H vs Q E hr h => ?_)
  · obtain ⟨l1, l2, a, b, ns, ms, rfl, _⟩ := h
    rfl
  · obtain ⟨l1, l2, a, b, ns, ms, rfl, ha, hb, h1, h2, k⟩ := h
    refine ⟨_, pss_cons (ps_if (pt_cmpR op_lt (pe_callB call_len_seq (by rfl) T.len PySem.boot_len (pa_cons (pv 0) pa_nil)) (pe_callB call_len_seq (by rfl) T.len PySem.boot_len (pa_cons (pv 1) pa_nil)) (nomark _))
        (pss_one (ps_par (i := 0) (j := 1) rfl scAdded.nd rfl rfl (by decide) rfl rfl (pa_cons (pv 1) (pa_cons (pv 0) pa_nil)) rfl)) pss_nil)
      (pss_one (ps_ret (pe_op op_cat (pe_lc (own := [("x", 2), ("y", 3)]) (g := gTup K 2 (gCons (gName 2) (gCons (gName 3) gNil))) (tt := tYes) rfl scAdded.nd (pi_zipE (by rfl) hz (pa_cons (pv 0) (pa_cons (pv 1) pa_nil)))
            (blkOk_by (N := ["one", "other", "x", "y"]) (sc := defScope sAdded) (by decide +kernel)) (fun _ _ _ _ _ => pg_tup rfl (pgs_cons (pg_name (i := 2) scAdded.nd rfl (Or.inl rfl)) (pgs_cons (pg_name (i := 3) scAdded.nd rfl (Or.inl rfl)) pgs_nil))) (fun _ _ _ _ _ => pts_nil)
            (fun _ _ _ _ _ => pe_op op_add (pv 2) (pv 3)))
          (pe_callTy call_list_of (by rfl) T.list (by decide +kernel) (pa_cons (pe_slice (SlR.or sl_list sl_tupA) (pv 0) (po_some (pe_callB call_len_seq (by rfl) T.len PySem.boot_len (pa_cons (pv 1) pa_nil))) po_none) pa_nil))))), ?_⟩
    refine g_cut (fun σ H' => H' = H ∧ ∃ (l1 l2 : Bool) (a b : Addr) (xs ys : List Int), σ = [some (.ref a), some (.ref b), none, none] ∧ SqE K l1 H a (xs.map V.int) ∧ SqE K l2 H b (ys.map V.int) ∧ ys.length ≤ xs.length ∧ xs.length ≤ 100000 ∧ addR xs ys = addR ns ms) (fun σ' H' hN => ?_) (fun go => ?_)
    rotate_left
    · walk_at "rd"
      refine ⟨a, _, rfl, sqE_or ha, ?_⟩
      walk_at "rd"
      refine ⟨b, _, rfl, sqE_or hb, ?_⟩
      walk_at "rd"
      rw [List.length_map, List.length_map]
      refine ite2 (fun hc => ?_) (fun hc => ?_)
      · have hc' := of_decide_eq_true hc
        refine g_par ?_
        walk_at "rd"
        exact ⟨_, _, rfl, go _ _ ⟨rfl, l2, l1, b, a, ms, ns, rfl, hb, ha, by omega, h2, addR_comm ms ns⟩⟩
      · have hc' : ¬ (ns.length : Int) < (ms.length : Int) := fun z => hc (decide_eq_true z)
        exact go _ _ ⟨rfl, l1, l2, a, b, ns, ms, rfl, ha, hb, by omega, h1, rfl⟩
    · obtain ⟨rfl, l1, l2, a, b, xs, ys, rfl, ha, hb, hle, hx, ex⟩ := hN
      walk_at "rd"
      have hn : ys.length = min (xs.map V.int).length (ys.map V.int).length := by
        rw [List.length_map, List.length_map]
        omega
      have lz : (List.zipWith (· + ·) xs ys).length = ys.length := by
        rw [List.length_zipWith]
        omega
      have sz : (100000 : Nat) < sizeLine := by decide
      refine ⟨_, rfl, _, rfl, l1, l2, a, b, _, _, rfl, ha, hb, fun D hD => lc_it (walk_zipE hn) (fun i H2 => Ext H' H2 ∧ H2 D = some (.lst (((List.zipWith (· + ·) xs ys).take i).map V.int))) ⟨Ext.new hD, upd_same⟩
        (fun i H2 _ q => ⟨sqE_ext q.1 ha, sqE_ext q.1 hb⟩) ?_ ?_⟩
      · rintro i x Ha Hb hi ⟨e, hD'⟩ ⟨T, v, w, rfl, hT, rfl, hv, hw⟩
        have hv : (xs.map V.int)[i]? = some v := hv
        have hw : (ys.map V.int)[i]? = some w := hw
        rw [mapget] at hv hw
        obtain ⟨n, hn1, rfl⟩ := Option.map_eq_some_iff.mp hv
        obtain ⟨m, hm1, rfl⟩ := Option.map_eq_some_iff.mp hw
        have hlt : i < (List.zipWith (· + ·) xs ys).length := by omega
        have eq : (List.zipWith (· + ·) xs ys)[i] = n + m := by
          rw [List.getElem_zipWith]
          obtain ⟨q1, q2⟩ := List.getElem?_eq_some_iff.mp hn1
          obtain ⟨q3, q4⟩ := List.getElem?_eq_some_iff.mp hm1
          rw [q2, q4]
        have eT := Ext.new (o := HO.tup [V.int n, V.int m]) hT
        refine ⟨T, _, rfl, SqT.of upd_same, rfl, _, _, rfl, ?_⟩
        refine ⟨_, _, rfl, rfl, rfl, ?_⟩
        walk_at "rd"
        refine ⟨_, eT _ _ hD', ?_, fun b o q => ?_, ?_⟩
        · rw [List.length_map, List.length_take]
          omega
        · rw [upd_ne (ne_of_none q hD)]
          exact eT _ _ (e _ _ q)
        · rw [upd_same, take_one hlt, List.map_append, eq]
          rfl
      · rintro H2 ⟨e, hD'⟩
        rw [← lz, List.take_length] at hD'
        walk_at "rd"
        refine ⟨b, _, rfl, sqE_or (sqE_ext e hb), ?_⟩
        walk_at "rd"
        rw [List.length_map]
        refine g_dropE (sqE_ext e ha) (by rw [List.length_map]; exact hle) (fun H3 p e3 hp => ?_)
        walk_at "rd"
        refine ⟨p, _, rfl, hp, fun q hq => ?_⟩
        have eq3 := Ext.new (o := HO.lst ((xs.map V.int).drop ys.length)) hq
        refine ⟨D, q, _, _, rfl, rfl, eq3 _ _ (e3 _ _ hD'), upd_same, ?_, fun r hr => ?_⟩
        · rw [List.length_map, lz, List.length_drop, List.length_map]
          omega
        · refine k _ r (Ext.trans e (Ext.trans e3 (Ext.trans eq3 (Ext.new hr)))) ?_ ?_
          · cases z : H' r with
            | none => rfl
            | some o =>
              have := (Ext.trans e (Ext.trans e3 eq3)) _ _ z
              rw [hr] at this
              cases this
          · rw [upd_same, ← ex, addR_zip xs ys hle, List.map_append, List.map_drop]
end
end K0

set_option Elab.async false
set_option linter.all false
set_option maxRecDepth 100000
set_option maxHeartbeats 4000000
/-! Rows multiplied. -/
namespace K0
open PySem PySem.Spec PyProof.Rows L2 Gd
local macro_rules | `(tactic| walk_at "rd1") => `(tactic| first | with_reducible refine g_ret ?_ | with_reducible refine g_retN ?_ | with_reducible refine g_seq ?_ | with_reducible refine g_next ?_ | with_reducible refine g_drop ?_ | with_reducible refine g_asg ?_ | with_reducible refine g_name ?_ | with_reducible refine g_ifs ?_ | with_reducible refine g_test ?_ | with_reducible refine g_tb ?_ | with_reducible refine g_and ?_ | with_reducible refine g_or ?_ | with_reducible refine g_not ?_ | with_reducible refine g_andV ?_ | with_reducible refine g_orV ?_ | with_reducible refine g_notV ?_ | with_reducible refine g_if ?_ | with_reducible refine g_op ?_ | with_reducible refine g_un ?_ | with_reducible refine g_cb ?_ | with_reducible refine g_nil ?_ | with_reducible refine g_cons ?_ | with_reducible refine g_call ?_ | with_reducible refine g_callS ?_ | with_reducible refine g_tup ?_ | with_reducible refine g_lst ?_ | with_reducible refine g_isN ?_ | with_reducible refine g_sl ?_ | with_reducible refine g_nopart ?_ | with_reducible refine g_part ?_ | with_reducible refine g_chain ?_ | with_reducible refine g_fld ?_ | with_reducible refine g_prop ?_ | with_reducible refine g_bm ?_ | with_reducible refine g_bm0 ?_ | with_reducible refine g_c ?_ | with_reducible refine g_sub ?_ | with_reducible refine g_int1 ?_ | with_reducible refine g_int2 ?_ | with_reducible refine g_yes ?_ | with_reducible refine g_sfld ?_ | with_reducible refine g_NT ?_ | with_reducible refine g_NF ?_ | with_reducible refine iteT ?_ | with_reducible refine iteF ?_ | ((with_reducible refine' g_aug ?hv ?_); (case hv => exact rfl)) | ((with_reducible refine' g_var ?hv ?_); (case hv => exact rfl)) | with_reducible refine g_I0 ?_ | with_reducible refine g_U ?_ | with_reducible refine g_eqI ?_ | with_reducible refine g_blV ?_ | with_reducible refine g_inV ?_)
local macro_rules | `(tactic| walk_at "rd") => `(tactic| repeat walk_at "rd1")
/-! ### the mathematics: the factor of p ** k of a product -/
def at0 (b : List Int) (k : Nat) : Int := (b[k]?).getD 0
def co : List Int → List Int → Nat → Int
  | [], _, _ => 0
  | x :: _, b, 0 => x * at0 b 0
  | x :: a, b, k + 1 => x * at0 b (k + 1) + co a b k
/-- what x at the place n gives to that of k -/
def tm (x : Int) (n : Nat) (b : List Int) (k : Nat) : Int := if n ≤ k then x * at0 b (k - n) else 0
theorem co_snoc : ∀ (a : List Int) (x : Int) (b : List Int) (k : Nat), co (a ++ [x]) b k = co a b k + tm x a.length b k
  | [], x, b, 0 => by
    show x * at0 b 0 = 0 + _
    unfold tm
    simp
  | [], x, b, k + 1 => by
    show x * at0 b (k + 1) + 0 = 0 + _
    unfold tm
    simp
  | y :: a, x, b, 0 => by
    show y * at0 b 0 = y * at0 b 0 + tm x (a.length + 1) b 0
    unfold tm
    simp
  | y :: a, x, b, k + 1 => by
    show y * at0 b (k + 1) + co (a ++ [x]) b k = y * at0 b (k + 1) + co a b k + tm x (a.length + 1) b (k + 1)
    rw [co_snoc a x b k]
    have : tm x (a.length + 1) b (k + 1) = tm x a.length b k := by
      unfold tm
      by_cases h : a.length ≤ k
      · rw [if_pos h, if_pos (by omega), Nat.add_sub_add_right]
      · rw [if_neg h, if_neg (by omega)]
    rw [this, Int.add_assoc]
def mulR (a b : List Int) : List Int := (List.range (a.length + b.length)).map (co a b)
theorem mulR_len (a b : List Int) : (mulR a b).length = a.length + b.length := by
  unfold mulR
  rw [List.length_map, List.length_range]
/-- the row behind i items of the one and j of the other -/
def part (a b : List Int) (i j : Nat) (k : Nat) : Int := co (a.take i) b k + (if k < i + j then tm (at0 a i) i b k else 0)
theorem part_0 (a b : List Int) (k : Nat) : part a b 0 0 k = 0 := by
  unfold part
  rw [if_neg (by omega)]
  rfl
theorem part_zero (a b : List Int) (i k : Nat) : part a b i 0 k = co (a.take i) b k := by
  unfold part
  by_cases h : k < i + 0
  · rw [if_pos h]
    unfold tm
    rw [if_neg (by omega)]
    omega
  · rw [if_neg h]
    omega
theorem part_end {a b : List Int} {i : Nat} (hi : i < a.length) (k : Nat) (hk : k < a.length + b.length) : part a b i b.length k = co (a.take (i + 1)) b k := by
  have e : a.take (i + 1) = a.take i ++ [at0 a i] := by
    rw [take_one hi]
    unfold at0
    rw [List.getElem?_eq_getElem hi]
    rfl
  rw [e, co_snoc, List.length_take, Nat.min_eq_left (Nat.le_of_lt hi)]
  unfold part
  by_cases h : k < i + b.length
  · rw [if_pos h]
  · rw [if_neg h]
    unfold tm
    rw [if_pos (by omega)]
    have : at0 b (k - i) = 0 := by
      unfold at0
      rw [List.getElem?_eq_none_iff.mpr (by omega)]
      rfl
    rw [this, Int.mul_zero]
theorem part_same {a b : List Int} {i : Nat} (h : at0 a i = 0) (j k : Nat) : part a b i j k = co (a.take i) b k := by
  unfold part tm
  rw [h]
  split
  · split <;> simp
  · simp
theorem part_step {a b : List Int} {i j : Nat} (k : Nat) : part a b i (j + 1) k = if k = i + j then part a b i j k + at0 a i * at0 b j else part a b i j k := by
  unfold part
  by_cases h : k = i + j
  · subst h
    rw [if_pos rfl, if_pos (by omega), if_neg (by omega)]
    unfold tm
    rw [if_pos (by omega), Nat.add_sub_cancel_left]
    omega
  · rw [if_neg h]
    by_cases g : k < i + j
    · rw [if_pos g, if_pos (by omega)]
    · rw [if_neg g, if_neg (by omega)]
/-- the row as it stands -/
def rowAt (a b : List Int) (i j : Nat) : List Int := (List.range (a.length + b.length)).map (part a b i j)
theorem rowAt_len (a b : List Int) (i j : Nat) : (rowAt a b i j).length = a.length + b.length := by
  unfold rowAt
  rw [List.length_map, List.length_range]
theorem rowAt_get {a b : List Int} {i j k : Nat} (h : k < a.length + b.length) : (rowAt a b i j)[k]? = some (part a b i j k) := by
  unfold rowAt
  rw [List.getElem?_map, List.getElem?_range h]
  rfl
theorem row_ext {r s : List Int} (hl : r.length = s.length) (h : ∀ k, k < r.length → r[k]? = s[k]?) : r = s := by
  apply List.ext_getElem? 
  intro k
  by_cases g : k < r.length
  · exact h k g
  · rw [List.getElem?_eq_none_iff.mpr (by omega), List.getElem?_eq_none_iff.mpr (by omega)]
theorem rowAt_0 (a b : List Int) : rowAt a b 0 0 = List.replicate (a.length + b.length) 0 := by
  refine row_ext (by rw [rowAt_len, List.length_replicate]) fun k hk => ?_
  rw [rowAt_len] at hk
  rw [rowAt_get hk, part_0, List.getElem?_replicate, if_pos hk]
theorem rowAt_next {a b : List Int} {i : Nat} (hi : i < a.length) : rowAt a b i b.length = rowAt a b (i + 1) 0 := by
  refine row_ext (by rw [rowAt_len, rowAt_len]) fun k hk => ?_
  rw [rowAt_len] at hk
  rw [rowAt_get hk, rowAt_get hk, part_end hi k hk, part_zero]
theorem rowAt_skip {a b : List Int} {i : Nat} (hi : i < a.length) (h : at0 a i = 0) : rowAt a b i 0 = rowAt a b (i + 1) 0 := by
  rw [← rowAt_next hi]
  refine row_ext (by rw [rowAt_len, rowAt_len]) fun k hk => ?_
  rw [rowAt_len] at hk
  rw [rowAt_get hk, rowAt_get hk, part_same h, part_same h]
theorem rowAt_end (a b : List Int) : rowAt a b a.length 0 = mulR a b := by
  refine row_ext (by rw [rowAt_len, mulR_len]) fun k hk => ?_
  rw [rowAt_len] at hk
  rw [rowAt_get hk, part_zero, List.take_length]
  unfold mulR
  rw [List.getElem?_map, List.getElem?_range hk]
  rfl
theorem rowAt_set {a b : List Int} {i j : Nat} (h : i + j < a.length + b.length) : (rowAt a b i j).set (i + j) (part a b i j (i + j) + at0 a i * at0 b j) = rowAt a b i (j + 1) := by
  refine row_ext (by rw [List.length_set, rowAt_len, rowAt_len]) fun k hk => ?_
  rw [List.length_set, rowAt_len] at hk
  rw [rowAt_get hk, part_step]
  by_cases e : k = i + j
  · subst e
    rw [if_pos rfl, List.getElem?_set_self (by rw [rowAt_len]; exact hk)]
  · rw [if_neg e, List.getElem?_set_ne (Ne.symm e), rowAt_get hk]
end K0

set_option Elab.async false
set_option linter.all false
set_option maxRecDepth 100000
set_option maxHeartbeats 4000000
/-! The def that multiplies rows. -/
namespace K0
open PySem PySem.Spec PyProof.Rows L2 Gd
local macro_rules | `(tactic| walk_at "rd1") => `(tactic| first | with_reducible refine g_ret ?_ | with_reducible refine g_retN ?_ | with_reducible refine g_seq ?_ | with_reducible refine g_next ?_ | with_reducible refine g_drop ?_ | with_reducible refine g_asg ?_ | with_reducible refine g_name ?_ | with_reducible refine g_ifs ?_ | with_reducible refine g_test ?_ | with_reducible refine g_tb ?_ | with_reducible refine g_and ?_ | with_reducible refine g_or ?_ | with_reducible refine g_not ?_ | with_reducible refine g_andV ?_ | with_reducible refine g_orV ?_ | with_reducible refine g_notV ?_ | with_reducible refine g_if ?_ | with_reducible refine g_op ?_ | with_reducible refine g_un ?_ | with_reducible refine g_cb ?_ | with_reducible refine g_nil ?_ | with_reducible refine g_cons ?_ | with_reducible refine g_call ?_ | with_reducible refine g_callS ?_ | with_reducible refine g_tup ?_ | with_reducible refine g_lst ?_ | with_reducible refine g_isN ?_ | with_reducible refine g_sl ?_ | with_reducible refine g_nopart ?_ | with_reducible refine g_part ?_ | with_reducible refine g_chain ?_ | with_reducible refine g_fld ?_ | with_reducible refine g_prop ?_ | with_reducible refine g_bm ?_ | with_reducible refine g_bm0 ?_ | with_reducible refine g_c ?_ | with_reducible refine g_sub ?_ | with_reducible refine g_int1 ?_ | with_reducible refine g_int2 ?_ | with_reducible refine g_yes ?_ | with_reducible refine g_sfld ?_ | with_reducible refine g_NT ?_ | with_reducible refine g_NF ?_ | with_reducible refine iteT ?_ | with_reducible refine iteF ?_ | ((with_reducible refine' g_aug ?hv ?_); (case hv => exact rfl)) | ((with_reducible refine' g_var ?hv ?_); (case hv => exact rfl)) | with_reducible refine g_I0 ?_ | with_reducible refine g_U ?_ | with_reducible refine g_eqI ?_ | with_reducible refine g_blV ?_ | with_reducible refine g_inV ?_)
local macro_rules | `(tactic| walk_at "rd") => `(tactic| repeat walk_at "rd1")
section
variable {P : Program} {w : World} {K : PySem.W.Frag} {mg : Str → Option Value} {base : Heap} {f : Addr} {fd : FuncData}
abbrev sMultiplied : Stmt := top 20
def Bits (A : Nat) (ns : List Int) : Prop := ∀ n ∈ ns, n.natAbs < 2 ^ A
def spMultiplied (K : PySem.W.Frag) : Sp := fun vs H Q _ => ∃ (a b : Addr) (ns ms : List Int) (A B : Nat), vs = [.ref a, .ref b] ∧ SqT K H a (ns.map V.int) ∧ SqT K H b (ms.map V.int) ∧ ns.length ≤ 50000 ∧ ms.length ≤ 50000 ∧ 0 < A ∧ 0 < B ∧ A + B ≤ 1000000 ∧ Bits A ns ∧ Bits B ms ∧
  ∀ H' u, Ext H H' → H u = none → H' u = some (.lst ((mulR ns ms).map V.int)) → Q (.ref u) H'
theorem scMultiplied : FnScope ["one", "other", "row", "i", "x", "j", "y"] ["one", "other"] (defScope sMultiplied) := ⟨rfl, rfl, rfl, by decide +kernel, rfl, by decide +kernel, by decide +kernel⟩
def PvO (a b l : Addr) (H0 : Hp) (ns ms : List Int) (i : Nat) : L2.St → Hp → Prop := fun σ H' => ∃ x1 x2 x3 x4 : Option V, σ = [some (.ref a), some (.ref b), some (.ref l), x1, x2, x3, x4] ∧ H0 l = none ∧ Ext H0 H' ∧ H' l = some (.lst ((rowAt ns ms i 0).map V.int))
def PvN (a b l : Addr) (H0 : Hp) (ns ms : List Int) (i : Nat) (x : Int) (j : Nat) : L2.St → Hp → Prop := fun σ H' => ∃ x3 x4 : Option V, σ = [some (.ref a), some (.ref b), some (.ref l), some (.int (i : Int)), some (.int x), x3, x4] ∧ H0 l = none ∧ Ext H0 H' ∧ H' l = some (.lst ((rowAt ns ms i j).map V.int))
theorem g_forE {K : PySem.W.Frag} {ta : TA} {g : TG} {tb : TS} {D : Ends} {σ : L2.St} {H : Hp} (k : ta σ H fun vs H1 => ∃ t xs, vs = [.ref t] ∧ SqT K H1 t xs ∧ ∃ W : Nat → Nat → L2.St → Hp → Prop, (∃ m, W 0 m σ H1) ∧ ∀ i m σ H, W i m σ H →
  ((IteT K t).stop i H ∧ D.nx σ H) ∨ ((IteT K t).go i H ∧ ∃ N : L2.St → Hp → Prop, (∀ σ' H', N σ' H' → ∃ m', m' < m ∧ W (i + 1) m' σ' H') ∧ ∀ x H', (IteT K t).yld i H x H' → g x σ H' fun σ2 H2 => tb { D with nx := N, ct := N, bk := D.nx } σ2 H2)) :
    tFor (iEnumT K ta) g tb D σ H := k
theorem flatL_zero (m : Nat) : (List.replicate m [V.int 0]).flatten = (List.replicate m (0 : Int)).map V.int := by
  induction m with
  | zero => rfl
  | succ m ih =>
    rw [List.replicate_succ, List.replicate_succ, List.flatten_cons, List.map_cons, ih]
    rfl
theorem ixN_nat {n i : Nat} (h : i < n) : ixN n (i : Int) = some i := by
  unfold ixN
  simp [h]
theorem ok_multiplied (F : Fun K "multiplied" "multiplied" sMultiplied f fd) (T : Txt K mg) (hen : mg "enumerate" = none) : FnOk P w K mg base CX0 1 f fd ["one", "other"] (spMultiplied K) := by
  refine F.ok scMultiplied (fun vs H Q E h => ?_) (fun cdv A outer s H vs Q E hr h => ?_)
  · obtain ⟨a, b, ns, ms, A, B, rfl, _⟩ := h
    rfl
  · obtain ⟨a, b, ns, ms, A, B, rfl, ha, hb, ln, lm, A0, B0, AB, hA, hB, k⟩ := h
    refine ⟨_, pss_cons (ps_set (i := 2) scMultiplied.nd rfl (Or.inl rfl) (pe_op op_rep (pe_lst (pa_cons pe_int pa_nil)) (pe_op op_add (pe_callB call_len_seq (by rfl) T.len PySem.boot_len (pa_cons (pv 0) pa_nil)) (pe_callB call_len_seq (by rfl) T.len PySem.boot_len (pa_cons (pv 1) pa_nil)))))
      (pss_cons (ps_for PassesOwn.never rfl (pi_enumT (by rfl) hen (pa_cons (pv 0) pa_nil)) (pg_tup rfl (pgs_cons (pg_name (i := 3) scMultiplied.nd rfl (Or.inl rfl)) (pgs_cons (pg_name (i := 4) scMultiplied.nd rfl (Or.inl rfl)) pgs_nil)))
          (pss_one (ps_if (pt_cmpR op_ne (pv 4) pe_int (nomark _))
            (pss_one (ps_for PassesOwn.never rfl (pi_enumT (by rfl) hen (pa_cons (pv 1) pa_nil)) (pg_tup rfl (pgs_cons (pg_name (i := 5) scMultiplied.nd rfl (Or.inl rfl)) (pgs_cons (pg_name (i := 6) scMultiplied.nd rfl (Or.inl rfl)) pgs_nil)))
              (pss_one (ps_asg (pe_op op_add (pe_ix ix_list (pv 2) (pe_op op_add (pv 3) (pv 5)) (fun _ _ => rfl)) (pe_op op_mulW (pv 4) (pv 6))) (pg_sub (pv 2) (pe_op op_add (pv 3) (pv 5)) set_list))))) pss_nil)))
        (pss_one (ps_ret (pv 2)))), ?_⟩
    have sz : (100000 : Nat) < sizeLine := by decide
    walk_at "rd"
    refine ⟨by show 1 ≤ sizeLine; decide, fun z hz => ?_⟩
    have ez := Ext.new (o := HO.lst [V.int 0]) hz
    walk_at "rd"
    refine ⟨a, _, rfl, .inr (sqT_ext ez ha), ?_⟩
    walk_at "rd"
    refine ⟨b, _, rfl, .inr (sqT_ext ez hb), ?_⟩
    walk_at "rd"
    rw [List.length_map, List.length_map]
    refine ⟨z, _, [V.int 0], rfl, rfl, upd_same, by omega, by omega, ?_, fun l hl => ?_⟩
    · show 1 * _ ≤ sizeLine
      omega
    have el := Ext.trans ez (Ext.new (o := HO.lst (List.replicate ((ns.length : Int) + (ms.length : Int)).toNat [V.int 0]).flatten) hl)
    have hl0 : H l = none := by
      cases q : H l with
      | none => rfl
      | some o =>
        have := ez _ _ q
        rw [hl] at this
        cases this
    have hL : upd (upd H z (.lst [V.int 0])) l (.lst (List.replicate ((ns.length : Int) + (ms.length : Int)).toNat [V.int 0]).flatten) l = some (.lst ((rowAt ns ms 0 0).map V.int)) := by
      rw [upd_same, flatL_zero, rowAt_0]
      have : ((ns.length : Int) + (ms.length : Int)).toNat = ns.length + ms.length := by omega
      rw [this]
    generalize upd (upd H z (.lst [V.int 0])) l (.lst (List.replicate ((ns.length : Int) + (ms.length : Int)).toNat [V.int 0]).flatten) = H1 at el hL
    walk_at "rd"
    refine g_forE ?_
    walk_at "rd"
    refine ⟨a, _, rfl, sqT_ext el ha, for_enumT (xs := ns.map V.int) (PvO a b l H ns ms) ⟨_, _, _, _, rfl, hl0, el, hL⟩ (fun i σ H2 _ p => ?_) ?_ ?_⟩
    · obtain ⟨_, _, _, _, _, _, e, _⟩ := p
      exact sqT_ext e ha
    · rintro i v σ H2 T hi ⟨x1, x2, x3, x4, rfl, _, e2, hL2⟩ hT
      rw [mapget] at hi
      obtain ⟨x, hx, rfl⟩ := Option.map_eq_some_iff.mp hi
      have hlt : i < ns.length := (List.getElem?_eq_some_iff.mp hx).1
      have ax : at0 ns i = x := by
        unfold at0
        rw [hx]
        rfl
      have eT := Ext.new (o := HO.tup [V.int (i : Nat), V.int x]) hT
      refine ⟨T, _, rfl, SqT.of upd_same, rfl, _, _, rfl, ?_⟩
      refine ⟨_, _, rfl, rfl, ?_⟩
      have e3 := Ext.trans e2 eT
      have hL3 := eT _ _ hL2
      generalize upd H2 T (.tup [V.int (i : Nat), V.int x]) = H3 at e3 hL3
      walk_at "rd"
      refine g_ne (by rfl) ?_
      walk_at "rd"
      by_cases h0 : x = 0
      · subst h0
        rw [decide_eq_true rfl]
        walk_at "rd"
        exact ⟨_, _, _, _, rfl, hl0, e3, by rw [hL3, rowAt_skip hlt ax]⟩
      · rw [decide_eq_false (by simpa using h0)]
        walk_at "rd"
        refine g_forE ?_
        walk_at "rd"
        refine ⟨b, _, rfl, sqT_ext e3 hb, for_enumT (xs := ms.map V.int) (PvN a b l H ns ms i x) ⟨_, _, rfl, hl0, e3, hL3⟩ (fun j σ H4 _ p => ?_) ?_ ?_⟩
        · obtain ⟨_, _, _, _, e, _⟩ := p
          exact sqT_ext e hb
        · rintro j v σ H4 T2 hj ⟨x3, x4, rfl, _, e4, hL4⟩ hT2
          rw [mapget] at hj
          obtain ⟨y, hy, rfl⟩ := Option.map_eq_some_iff.mp hj
          have hlj : j < ms.length := (List.getElem?_eq_some_iff.mp hy).1
          have ay : at0 ms j = y := by
            unfold at0
            rw [hy]
            rfl
          have eT2 := Ext.new (o := HO.tup [V.int (j : Nat), V.int y]) hT2
          refine ⟨T2, _, rfl, SqT.of upd_same, rfl, _, _, rfl, ?_⟩
          refine ⟨_, _, rfl, rfl, ?_⟩
          have e5 := Ext.trans e4 eT2
          have hL5 := eT2 _ _ hL4
          generalize upd H4 T2 (.tup [V.int (j : Nat), V.int y]) = H5 at e5 hL5
          walk_at "rd"
          have q : ((i : Int) + (j : Int)) = ((i + j : Nat) : Int) := by omega
          have lij : i + j < ns.length + ms.length := by omega
          rw [q]
          refine g_ixL (SqL.of hL5) (v := .int (part ns ms i j (i + j))) (atI_nat (by rw [mapget, rowAt_get lij]; rfl)) ?_
          walk_at "rd"
          refine g_I (wide_mul (hA x (List.mem_of_getElem? hx)) (hB y (List.mem_of_getElem? hy)) A0 B0 AB) ?_
          walk_at "rd"
          rw [q]
          refine ⟨l, _, _, i + j, rfl, rfl, hL5, ?_, ?_⟩
          · exact ixN_nat (by rw [List.length_map, rowAt_len]; exact lij)
          · refine ⟨_, _, rfl, hl0, fun o ob g => ?_, ?_⟩
            · rw [upd_ne (ne_of_none g hl0)]
              exact e5 _ _ g
            · rw [upd_same, ← rowAt_set lij, ax, ay, List.map_set]
        · rintro σ H4 ⟨x3, x4, rfl, _, e4, hL4⟩
          rw [List.length_map, rowAt_next hlt] at hL4
          exact ⟨_, _, _, _, rfl, hl0, e4, hL4⟩
    · rintro σ H2 ⟨x1, x2, x3, x4, rfl, _, e2, hL2⟩
      rw [List.length_map, rowAt_end] at hL2
      walk_at "rd"
      exact k _ l e2 hl0 hL2
end
end K0

set_option Elab.async false
set_option linter.all false
set_option maxRecDepth 100000
set_option maxHeartbeats 4000000
/-! + - * and - of polynomials. -/
namespace K0
open PySem PySem.Spec PyProof.Rows L2 Gd
local macro_rules | `(tactic| walk_at "rd1") => `(tactic| first | with_reducible refine g_ret ?_ | with_reducible refine g_retN ?_ | with_reducible refine g_seq ?_ | with_reducible refine g_next ?_ | with_reducible refine g_drop ?_ | with_reducible refine g_asg ?_ | with_reducible refine g_name ?_ | with_reducible refine g_ifs ?_ | with_reducible refine g_test ?_ | with_reducible refine g_tb ?_ | with_reducible refine g_and ?_ | with_reducible refine g_or ?_ | with_reducible refine g_not ?_ | with_reducible refine g_andV ?_ | with_reducible refine g_orV ?_ | with_reducible refine g_notV ?_ | with_reducible refine g_if ?_ | with_reducible refine g_op ?_ | with_reducible refine g_un ?_ | with_reducible refine g_cb ?_ | with_reducible refine g_nil ?_ | with_reducible refine g_cons ?_ | with_reducible refine g_call ?_ | with_reducible refine g_callS ?_ | with_reducible refine g_tup ?_ | with_reducible refine g_lst ?_ | with_reducible refine g_isN ?_ | with_reducible refine g_sl ?_ | with_reducible refine g_nopart ?_ | with_reducible refine g_part ?_ | with_reducible refine g_chain ?_ | with_reducible refine g_fld ?_ | with_reducible refine g_prop ?_ | with_reducible refine g_bm ?_ | with_reducible refine g_bm0 ?_ | with_reducible refine g_c ?_ | with_reducible refine g_sub ?_ | with_reducible refine g_int1 ?_ | with_reducible refine g_int2 ?_ | with_reducible refine g_yes ?_ | with_reducible refine g_sfld ?_ | with_reducible refine g_NT ?_ | with_reducible refine g_NF ?_ | with_reducible refine iteT ?_ | with_reducible refine iteF ?_ | ((with_reducible refine' g_aug ?hv ?_); (case hv => exact rfl)) | ((with_reducible refine' g_var ?hv ?_); (case hv => exact rfl)) | with_reducible refine g_I0 ?_ | with_reducible refine g_U ?_ | with_reducible refine g_eqI ?_ | with_reducible refine g_blV ?_ | with_reducible refine g_inV ?_)
local macro_rules | `(tactic| walk_at "rd") => `(tactic| repeat walk_at "rd1")
section
variable {P : Program} {w : World} {K : PySem.W.Frag} {mg : Str → Option Value} {base : Heap} {f C : Addr} {fd : FuncData}
abbrev sOperand : Stmt := top 34
/-- where a def stands -/
structure At (K : PySem.W.Frag) (mg : Str → Option Value) (name : Str) (st : Stmt) (ps : List Str) (f : Addr) (fd : FuncData) : Prop where
  F : Fun K name name st f fd
  b : Binds K fd ps []
  g : mg name = some (.ref f)
/-- a right operand with its row: a polynomial or an integer -/
def OpRow (K : PySem.W.Frag) (C : Addr) (H : Hp) (y : V) (ms : List Int) : Prop := (∃ q v, y = .ref q ∧ PolyU K C H q v ms) ∨ ∃ i : Int, y = .int i ∧ ms = [i]
theorem OpRow.ext {H H' : Hp} {y : V} {ms : List Int} (e : Ext H H') (h : OpRow K C H y ms) : OpRow K C H' y ms := by
  rcases h with ⟨q, v, rfl, h⟩ | h
  · exact .inl ⟨q, v, rfl, h.ext e⟩
  · exact .inr h
theorem OpRow.len {H : Hp} {y : V} {ms : List Int} (h : OpRow K C H y ms) : ms.length ≤ 100000 := by
  rcases h with ⟨q, v, rfl, h⟩ | ⟨i, _, rfl⟩
  · exact h.2.2
  · show 1 ≤ 100000
    decide
structure AtP (K : PySem.W.Frag) (C : Addr) (name qual : Str) (j : Nat) (p f : Addr) (fd : FuncData) : Prop where
  F : Fun K name qual (cls j) f fd
  b : Binds K fd ["self"] []
  p : PropOf K C name p f
def spOperand (K : PySem.W.Frag) (C : Addr) : Sp := fun vs H Q _ => ∃ (y : V) (ms : List Int), vs = [y] ∧ OpRow K C H y ms ∧ ∀ H' u, Ext H H' → SqT K H' u (ms.map V.int) → Q (.ref u) H'
theorem scOperand : FnScope ["value"] ["value"] (defScope sOperand) := ⟨rfl, rfl, rfl, by decide +kernel, rfl, by decide +kernel, by decide +kernel⟩
theorem ok_operand {fW pF fF : Addr} {fdW fdF : FuncData} (F : Fun K "operand_row" "operand_row" sOperand f fd) (T : Txt K mg) (Cl : PC K mg C) (W : AtW K mg fW fdW) (PF : AtP K C "factors" "Poly.factors" 2 pF fF fdF)
    (ni : PySem.W.kitOne K (.type "int") (.ref C) = some false) : FnOk P w K mg base CX0 3 f fd ["value"] (spOperand K C) := by
  have GW : FnOk P w K mg base CX0 1 fW fdW ["value"] (spWhole K) := ok_whole W.F T
  have GF : FnOk P w K mg base CX0 1 fF fdF ["self"] (spGet K C fun u _ => .ref u) := ok_factors PF.F Cl
  refine F.ok scOperand (fun vs H Q E h => ?_) (fun cdv A outer s H vs Q E hr h => ?_)
  · obtain ⟨y, ms, rfl, _⟩ := h
    rfl
  · obtain ⟨y, ms, rfl, hy, k⟩ := h
    refine ⟨_, pss_cons (ps_if (pt_val (pe_callB call_isi (by rfl) T.isinstance (by decide +kernel) (pa_cons (pv 0) (pa_cons (pe_glob (v := .ref C) (by rfl) Cl.g rfl) pa_nil)))) (pss_one (ps_ret (pe_prop (pv 0) Cl.cl PF.p GF (hr.mono (by decide)) PF.b .nil pass0 rfl))) pss_nil)
      (pss_one (ps_ret (pe_ifExp (pt_val (pe_call GW (hr.mono (by decide)) (by rfl) W.g W.F.kp W.b .nil pass0 (pa_cons (pv 0) pa_nil))) (pe_tup (pa_cons (pv 0) pa_nil)) pe_non))), ?_⟩
    walk_at "rd"
    rcases hy with ⟨q, v, rfl, hp⟩ | ⟨i, rfl, rfl⟩
    · obtain ⟨⟨dx, hq⟩, hv, hl⟩ := id hp
      refine ⟨_, _, _, _, true, rfl, .own C, Cl.ty hq, Cl.kit, ?_⟩
      walk_at "rd"
      exact ⟨q, dx, _, rfl, hq, q, v, ms, rfl, hp, k _ v (fun _ _ z => z) hv⟩
    · refine ⟨_, _, _, _, false, rfl, .own C, .base (.int i), ni, ?_⟩
      walk_at "rd"
      refine ⟨_, _, rfl, whole_int, ?_⟩
      walk_at "rd"
      refine ⟨by show 1 ≤ sizeLine; decide, fun u hu => ?_⟩
      exact k _ u (Ext.new hu) (SqT.of upd_same)
end
end K0

set_option Elab.async false
set_option linter.all false
set_option maxRecDepth 100000
set_option maxHeartbeats 4000000
/-! The operators of polynomials. -/
namespace K0
open PySem PySem.Spec PyProof.Rows L2 Gd
local macro_rules | `(tactic| walk_at "rd1") => `(tactic| first | with_reducible refine g_ret ?_ | with_reducible refine g_retN ?_ | with_reducible refine g_seq ?_ | with_reducible refine g_next ?_ | with_reducible refine g_drop ?_ | with_reducible refine g_asg ?_ | with_reducible refine g_name ?_ | with_reducible refine g_ifs ?_ | with_reducible refine g_test ?_ | with_reducible refine g_tb ?_ | with_reducible refine g_and ?_ | with_reducible refine g_or ?_ | with_reducible refine g_not ?_ | with_reducible refine g_andV ?_ | with_reducible refine g_orV ?_ | with_reducible refine g_notV ?_ | with_reducible refine g_if ?_ | with_reducible refine g_op ?_ | with_reducible refine g_un ?_ | with_reducible refine g_cb ?_ | with_reducible refine g_nil ?_ | with_reducible refine g_cons ?_ | with_reducible refine g_call ?_ | with_reducible refine g_callS ?_ | with_reducible refine g_tup ?_ | with_reducible refine g_lst ?_ | with_reducible refine g_isN ?_ | with_reducible refine g_sl ?_ | with_reducible refine g_nopart ?_ | with_reducible refine g_part ?_ | with_reducible refine g_chain ?_ | with_reducible refine g_fld ?_ | with_reducible refine g_prop ?_ | with_reducible refine g_bm ?_ | with_reducible refine g_bm0 ?_ | with_reducible refine g_c ?_ | with_reducible refine g_sub ?_ | with_reducible refine g_int1 ?_ | with_reducible refine g_int2 ?_ | with_reducible refine g_yes ?_ | with_reducible refine g_sfld ?_ | with_reducible refine g_NT ?_ | with_reducible refine g_NF ?_ | with_reducible refine iteT ?_ | with_reducible refine iteF ?_ | ((with_reducible refine' g_aug ?hv ?_); (case hv => exact rfl)) | ((with_reducible refine' g_var ?hv ?_); (case hv => exact rfl)) | with_reducible refine g_I0 ?_ | with_reducible refine g_U ?_ | with_reducible refine g_eqI ?_ | with_reducible refine g_blV ?_ | with_reducible refine g_inV ?_)
local macro_rules | `(tactic| walk_at "rd") => `(tactic| repeat walk_at "rd1")
section
variable {P : Program} {w : World} {K : PySem.W.Frag} {mg : Str → Option Value} {base : Heap} {f C : Addr} {fd : FuncData}
def negR (ns : List Int) : List Int := ns.map fun n => -n
theorem negR_len (ns : List Int) : (negR ns).length = ns.length := List.length_map _
/-- what an operator promises: op the rows' operation, B what is asked of both rows -/
def spBin (K : PySem.W.Frag) (C : Addr) (op : List Int → List Int → List Int) (B : List Int → List Int → Prop) : Sp := fun vs H Q _ => ∃ (p u : Addr) (ns ms : List Int) (y : V), vs = [.ref p, y] ∧ PolyU K C H p u ns ∧ OpRow K C H y ms ∧ B ns ms ∧
  ∀ H' q v, Ext H H' → PolyU K C H' q v (trim (op ns ms)) → Q (.ref q) H'
def spNegP (K : PySem.W.Frag) (C : Addr) : Sp := fun vs H Q _ => ∃ (p u : Addr) (ns : List Int), vs = [.ref p] ∧ PolyU K C H p u ns ∧ ∀ H' q v, Ext H H' → PolyU K C H' q v (trim (negR ns)) → Q (.ref q) H'
theorem scB6 : FnScope ["self", "other", "row"] ["self", "other"] (defScope (cls 6)) := ⟨rfl, rfl, rfl, by decide +kernel, rfl, by decide +kernel, by decide +kernel⟩
theorem scB7 : FnScope ["self", "other", "row"] ["self", "other"] (defScope (cls 7)) := ⟨rfl, rfl, rfl, by decide +kernel, rfl, by decide +kernel, by decide +kernel⟩
theorem scB8 : FnScope ["self", "other", "row"] ["self", "other"] (defScope (cls 8)) := ⟨rfl, rfl, rfl, by decide +kernel, rfl, by decide +kernel, by decide +kernel⟩
theorem scB9 : FnScope ["self"] ["self"] (defScope (cls 9)) := ⟨rfl, rfl, rfl, by decide +kernel, rfl, by decide +kernel, by decide +kernel⟩
/-- what the operators lean on -/
structure Ops (P : Program) (w : World) (K : PySem.W.Frag) (mg : Str → Option Value) (base : Heap) (C fO fP fA fN fM : Addr) (fdO fdP fdA fdN fdM : FuncData) : Prop where
  O : At K mg "operand_row" sOperand ["value"] fO fdO
  Po : At K mg "poly_of" sPolyOf ["row"] fP fdP
  A : At K mg "added" sAdded ["one", "other"] fA fdA
  N : At K mg "negated" sNegated ["row"] fN fdN
  M : At K mg "multiplied" sMultiplied ["one", "other"] fM fdM
  GO : FnOk P w K mg base CX0 3 fO fdO ["value"] (spOperand K C)
  GP : FnOk P w K mg base CX0 6 fP fdP ["row"] (spPolyOf K C (SqL K))
  GA : FnOk P w K mg base CX0 1 fA fdA ["one", "other"] (spAdded K)
  GN : FnOk P w K mg base CX0 1 fN fdN ["row"] (spNegated K)
  GM : FnOk P w K mg base CX0 1 fM fdM ["one", "other"] (spMultiplied K)
variable {fO fP fA fN fM : Addr} {fdO fdP fdA fdN fdM : FuncData}
theorem ok_add (F : Fun K "__add__" "Poly.__add__" (cls 6) f fd) (Cl : PC K mg C) (O : Ops P w K mg base C fO fP fA fN fM fdO fdP fdA fdN fdM) :
    FnOk P w K mg base CX0 7 f fd ["self", "other"] (spBin K C addR fun _ _ => True) := by
  refine F.ok scB6 (fun vs H Q E h => ?_) (fun cdv A outer s H vs Q E hr h => ?_)
  · obtain ⟨p, u, ns, ms, y, rfl, _⟩ := h
    rfl
  · obtain ⟨p, u, ns, ms, y, rfl, hp, hy, _, k⟩ := h
    refine ⟨_, pss_cons (ps_set (i := 2) scB6.nd rfl (Or.inl rfl) (pe_call O.GO (hr.mono (by decide)) (by rfl) O.O.g O.O.F.kp O.O.b .nil pass0 (pa_cons (pv 1) pa_nil)))
      (pss_cons (ps_if (pt_cmp (pc_isN (pv 2))) (pss_one ps_never) pss_nil)
        (pss_one (ps_ret (pe_call O.GP hr (by rfl) O.Po.g O.Po.F.kp O.Po.b .nil pass0 (pa_cons (pe_call O.GA (hr.mono (by decide)) (by rfl) O.A.g O.A.F.kp O.A.b .nil pass0 (pa_cons (pe_fld (pv 0) rfl) (pa_cons (pv 2) pa_nil))) pa_nil))))), ?_⟩
    walk_at "rd"
    refine ⟨y, ms, rfl, hy, fun H1 v e1 hv => ?_⟩
    walk_at "rd"
    rw [decide_eq_false (show ¬ V.ref v = .non by intro z; cases z)]
    walk_at "rd"
    obtain ⟨⟨dx, hp1⟩, hu1, hl1⟩ := hp.ext e1
    refine ⟨p, C, dx, _, _, rfl, hp1, Cl.cl, Cl.noF, look1, ?_⟩
    walk_at "rd"
    refine ⟨false, false, u, v, ns, ms, rfl, hu1, hv, hl1, hy.len, fun H2 t e2 _ ht => ?_⟩
    walk_at "rd"
    refine ⟨t, _, rfl, SqL.of ht, ?_, fun H3 q z e3 hq => k H3 q z (Ext.trans e1 (Ext.trans e2 e3)) hq⟩
    have := hy.len
    rw [addR_len]
    omega
theorem ok_sub (F : Fun K "__sub__" "Poly.__sub__" (cls 7) f fd) (Cl : PC K mg C) (O : Ops P w K mg base C fO fP fA fN fM fdO fdP fdA fdN fdM) :
    FnOk P w K mg base CX0 7 f fd ["self", "other"] (spBin K C (fun a b => addR a (negR b)) fun _ _ => True) := by
  refine F.ok scB7 (fun vs H Q E h => ?_) (fun cdv A outer s H vs Q E hr h => ?_)
  · obtain ⟨p, u, ns, ms, y, rfl, _⟩ := h
    rfl
  · obtain ⟨p, u, ns, ms, y, rfl, hp, hy, _, k⟩ := h
    refine ⟨_, pss_cons (ps_set (i := 2) scB7.nd rfl (Or.inl rfl) (pe_call O.GO (hr.mono (by decide)) (by rfl) O.O.g O.O.F.kp O.O.b .nil pass0 (pa_cons (pv 1) pa_nil)))
      (pss_cons (ps_if (pt_cmp (pc_isN (pv 2))) (pss_one ps_never) pss_nil)
        (pss_one (ps_ret (pe_call O.GP hr (by rfl) O.Po.g O.Po.F.kp O.Po.b .nil pass0 (pa_cons (pe_call O.GA (hr.mono (by decide)) (by rfl) O.A.g O.A.F.kp O.A.b .nil pass0 (pa_cons (pe_fld (pv 0) rfl)
          (pa_cons (pe_call O.GN (hr.mono (by decide)) (by rfl) O.N.g O.N.F.kp O.N.b .nil pass0 (pa_cons (pv 2) pa_nil)) pa_nil))) pa_nil))))), ?_⟩
    walk_at "rd"
    refine ⟨y, ms, rfl, hy, fun H1 v e1 hv => ?_⟩
    walk_at "rd"
    rw [decide_eq_false (show ¬ V.ref v = .non by intro z; cases z)]
    walk_at "rd"
    obtain ⟨⟨dx, hp1⟩, hu1, hl1⟩ := hp.ext e1
    refine ⟨p, C, dx, _, _, rfl, hp1, Cl.cl, Cl.noF, look1, ?_⟩
    walk_at "rd"
    refine ⟨false, v, ms, rfl, hv, hy.len, fun H2 n e2 _ hn => ?_⟩
    walk_at "rd"
    refine ⟨false, true, u, n, ns, negR ms, rfl, sqT_ext e2 hu1, SqL.of hn, hl1, by rw [negR_len]; exact hy.len, fun H3 t e3 _ ht => ?_⟩
    walk_at "rd"
    refine ⟨t, _, rfl, SqL.of ht, ?_, fun H4 q z e4 hq => k H4 q z (Ext.trans e1 (Ext.trans e2 (Ext.trans e3 e4))) hq⟩
    have := hy.len
    rw [addR_len, negR_len]
    omega
/-- rows whose product fits -/
def MulB (ns ms : List Int) : Prop := ns.length ≤ 50000 ∧ ms.length ≤ 50000 ∧ ∃ A B, 0 < A ∧ 0 < B ∧ A + B ≤ 1000000 ∧ Bits A ns ∧ Bits B ms
theorem ok_mul (F : Fun K "__mul__" "Poly.__mul__" (cls 8) f fd) (Cl : PC K mg C) (O : Ops P w K mg base C fO fP fA fN fM fdO fdP fdA fdN fdM) :
    FnOk P w K mg base CX0 7 f fd ["self", "other"] (spBin K C mulR MulB) := by
  refine F.ok scB8 (fun vs H Q E h => ?_) (fun cdv A outer s H vs Q E hr h => ?_)
  · obtain ⟨p, u, ns, ms, y, rfl, _⟩ := h
    rfl
  · obtain ⟨p, u, ns, ms, y, rfl, hp, hy, ⟨ln, lm, A1, B1, A0, B0, AB, hA, hB⟩, k⟩ := h
    refine ⟨_, pss_cons (ps_set (i := 2) scB8.nd rfl (Or.inl rfl) (pe_call O.GO (hr.mono (by decide)) (by rfl) O.O.g O.O.F.kp O.O.b .nil pass0 (pa_cons (pv 1) pa_nil)))
      (pss_cons (ps_if (pt_cmp (pc_isN (pv 2))) (pss_one ps_never) pss_nil)
        (pss_one (ps_ret (pe_call O.GP hr (by rfl) O.Po.g O.Po.F.kp O.Po.b .nil pass0 (pa_cons (pe_call O.GM (hr.mono (by decide)) (by rfl) O.M.g O.M.F.kp O.M.b .nil pass0 (pa_cons (pe_fld (pv 0) rfl) (pa_cons (pv 2) pa_nil))) pa_nil))))), ?_⟩
    walk_at "rd"
    refine ⟨y, ms, rfl, hy, fun H1 v e1 hv => ?_⟩
    walk_at "rd"
    rw [decide_eq_false (show ¬ V.ref v = .non by intro z; cases z)]
    walk_at "rd"
    obtain ⟨⟨dx, hp1⟩, hu1, hl1⟩ := hp.ext e1
    refine ⟨p, C, dx, _, _, rfl, hp1, Cl.cl, Cl.noF, look1, ?_⟩
    walk_at "rd"
    refine ⟨u, v, ns, ms, A1, B1, rfl, hu1, hv, ln, lm, A0, B0, AB, hA, hB, fun H2 t e2 _ ht => ?_⟩
    walk_at "rd"
    refine ⟨t, _, rfl, SqL.of ht, ?_, fun H3 q z e3 hq => k H3 q z (Ext.trans e1 (Ext.trans e2 e3)) hq⟩
    rw [mulR_len]
    omega
theorem ok_neg (F : Fun K "__neg__" "Poly.__neg__" (cls 9) f fd) (Cl : PC K mg C) (O : Ops P w K mg base C fO fP fA fN fM fdO fdP fdA fdN fdM) :
    FnOk P w K mg base CX0 7 f fd ["self"] (spNegP K C) := by
  refine F.ok scB9 (fun vs H Q E h => ?_) (fun cdv A outer s H vs Q E hr h => ?_)
  · obtain ⟨p, u, ns, rfl, _⟩ := h
    rfl
  · obtain ⟨p, u, ns, rfl, ⟨⟨dx, hp⟩, hu, hl⟩, k⟩ := h
    refine ⟨_, pss_one (ps_ret (pe_call O.GP hr (by rfl) O.Po.g O.Po.F.kp O.Po.b .nil pass0 (pa_cons (pe_call O.GN (hr.mono (by decide)) (by rfl) O.N.g O.N.F.kp O.N.b .nil pass0 (pa_cons (pe_fld (pv 0) rfl) pa_nil)) pa_nil))), ?_⟩
    walk_at "rd"
    refine ⟨p, C, dx, _, _, rfl, hp, Cl.cl, Cl.noF, look1, ?_⟩
    walk_at "rd"
    refine ⟨false, u, ns, rfl, hu, hl, fun H1 t e1 _ ht => ?_⟩
    walk_at "rd"
    refine ⟨t, negR ns, rfl, SqL.of ht, by rw [negR_len]; exact hl, fun H2 q z e2 hq => k H2 q z (Ext.trans e1 e2) hq⟩
end
end K0

set_option Elab.async false
set_option linter.all false
set_option maxRecDepth 100000
set_option maxHeartbeats 4000000
/-! raised, power. -/
namespace K0
open PySem PySem.Spec PyProof.Rows L2 Gd
local macro_rules | `(tactic| walk_at "rd1") => `(tactic| first | with_reducible refine g_ret ?_ | with_reducible refine g_retN ?_ | with_reducible refine g_seq ?_ | with_reducible refine g_next ?_ | with_reducible refine g_drop ?_ | with_reducible refine g_asg ?_ | with_reducible refine g_name ?_ | with_reducible refine g_ifs ?_ | with_reducible refine g_test ?_ | with_reducible refine g_tb ?_ | with_reducible refine g_and ?_ | with_reducible refine g_or ?_ | with_reducible refine g_not ?_ | with_reducible refine g_andV ?_ | with_reducible refine g_orV ?_ | with_reducible refine g_notV ?_ | with_reducible refine g_if ?_ | with_reducible refine g_op ?_ | with_reducible refine g_un ?_ | with_reducible refine g_cb ?_ | with_reducible refine g_nil ?_ | with_reducible refine g_cons ?_ | with_reducible refine g_call ?_ | with_reducible refine g_callS ?_ | with_reducible refine g_tup ?_ | with_reducible refine g_lst ?_ | with_reducible refine g_isN ?_ | with_reducible refine g_sl ?_ | with_reducible refine g_nopart ?_ | with_reducible refine g_part ?_ | with_reducible refine g_chain ?_ | with_reducible refine g_fld ?_ | with_reducible refine g_prop ?_ | with_reducible refine g_bm ?_ | with_reducible refine g_bm0 ?_ | with_reducible refine g_c ?_ | with_reducible refine g_sub ?_ | with_reducible refine g_int1 ?_ | with_reducible refine g_int2 ?_ | with_reducible refine g_yes ?_ | with_reducible refine g_sfld ?_ | with_reducible refine g_NT ?_ | with_reducible refine g_NF ?_ | with_reducible refine iteT ?_ | with_reducible refine iteF ?_ | ((with_reducible refine' g_aug ?hv ?_); (case hv => exact rfl)) | ((with_reducible refine' g_var ?hv ?_); (case hv => exact rfl)) | with_reducible refine g_I0 ?_ | with_reducible refine g_U ?_ | with_reducible refine g_eqI ?_ | with_reducible refine g_blV ?_ | with_reducible refine g_inV ?_)
local macro_rules | `(tactic| walk_at "rd") => `(tactic| repeat walk_at "rd1")
section
variable {P : Program} {w : World} {K : PySem.W.Frag} {mg : Str → Option Value} {base : Heap} {f C CN fC : Addr} {fd : FuncData}
variable {fO fP fA fN fM : Addr} {fdO fdP fdA fdN fdM : FuncData}
/-! ### raised -/
def spRaised (K : PySem.W.Frag) (C CN : Addr) : Sp := fun vs H Q E => ∃ (p u : Addr) (ns : List Int) (y : V) (b : Bool), vs = [.ref p, y] ∧ PolyU K C H p u ns ∧ ns.length ≤ 50000 ∧ WithB K H y 0 400 b ∧
  (b = true → ∀ (i : Nat), y = .int (i : Int) → i ≤ 400 → ∀ H' q v, Ext H H' → PolyU K C H' q v (trim (List.replicate i 0 ++ ns)) → Q (.ref q) H') ∧
  (b = false → ∀ d, H d = none → E (.ref CN) (some d) (upd H d (.xd [(("value" : Str), y)])))
theorem sc11 : FnScope ["self", "many"] ["self", "many"] (defScope (cls 11)) := ⟨rfl, rfl, rfl, by decide +kernel, rfl, by decide +kernel, by decide +kernel⟩
theorem ok_raised {fT : Addr} {fdT : FuncData} (F : Fun K "raised" "Poly.raised" (cls 11) f fd) (T : Txt K mg) (gX : ∃ t, mg "MAX_RAISED" = some (.int 400 t)) (Cl : PC K mg C) (O : Ops P w K mg base C fO fP fA fN fM fdO fdP fdA fdN fdM)
    (W : At K mg "require_within" sWithin ["value", "low", "high"] fT fdT) (GW : FnOk P w K mg base (L2.CX P w) 5 fT fdT ["value", "low", "high"] (spWithin K CN)) :
    FnOk P w K mg base (L2.CX P w) 7 f fd ["self", "many"] (spRaised K C CN) := by
  obtain ⟨tX, gX⟩ := gX
  refine F.okX sc11 (fun vs H Q E h => ?_) (fun cdv A outer s H vs Q E hr h => ?_)
  · obtain ⟨p, u, ns, y, b, rfl, _⟩ := h
    rfl
  · obtain ⟨p, u, ns, y, b, rfl, ⟨⟨dx, hp⟩, hu, hl⟩, ln, hy, k1, k2⟩ := h
    refine ⟨_, pss_cons (ps_expr (pe_call GW (hr.mono (by decide)) (by rfl) W.g W.F.kp W.b .nil (passes_call (takes_of rfl rfl rfl rfl) (fun _ _ _ _ h => h)) (pa_cons (pv 1) (pa_cons pe_int (pa_cons (pe_glob (v := .int 400) (by rfl) gX ⟨_, rfl⟩) pa_nil)))))
      (pss_one (ps_ret (pe_call O.GP hr (by rfl) O.Po.g O.Po.F.kp O.Po.b .nil pass0 (pa_cons (pe_op op_cat (pe_op op_rep (pe_lst (pa_cons pe_int pa_nil)) (pv 1)) (pe_callTy call_list_of (by rfl) T.list (by decide +kernel) (pa_cons (pe_fld (pv 0) rfl) pa_nil))) pa_nil)))), ?_⟩
    walk_at "rd"
    refine ⟨y, 0, 400, b, rfl, by decide +kernel, by decide +kernel, hy, fun hb => ?_, fun hb d hd => k2 hb d hd⟩
    walk_at "rd"
    subst hb
    rcases hy with ⟨i0, rfl, hb⟩ | ⟨_, hb⟩
    · have hb' := of_decide_eq_true hb.symm
      obtain ⟨i, rfl⟩ : ∃ i : Nat, i0 = (i : Int) := ⟨i0.toNat, by omega⟩
      have hi : i ≤ 400 := by omega
      have sz : (100000 : Nat) < sizeLine := by decide
      refine ⟨by show 1 ≤ sizeLine; decide, fun z hz => ?_⟩
      have ez := Ext.new (o := HO.lst [V.int 0]) hz
      walk_at "rd"
      refine ⟨z, _, [V.int 0], rfl, rfl, upd_same, by omega, by omega, ?_, fun l hl0 => ?_⟩
      · show 1 * _ ≤ sizeLine
        omega
      have el := Ext.trans ez (Ext.new (o := HO.lst (List.replicate ((i : Int)).toNat [V.int 0]).flatten) hl0)
      have hL : upd (upd H z (.lst [V.int 0])) l (.lst (List.replicate ((i : Int)).toNat [V.int 0]).flatten) l = some (.lst ((List.replicate i (0 : Int)).map V.int)) := by
        rw [upd_same, flatL_zero, Int.toNat_natCast]
      generalize upd (upd H z (.lst [V.int 0])) l (.lst (List.replicate ((i : Int)).toNat [V.int 0]).flatten) = H1 at el hL
      walk_at "rd"
      refine ⟨p, C, dx, _, _, rfl, el _ _ hp, Cl.cl, Cl.noF, look1 (u := .ref u), ?_⟩
      walk_at "rd"
      refine ⟨u, _, rfl, .inr (sqT_ext el hu), fun l2 hl2 => ?_⟩
      have e2 := Ext.new (o := HO.lst (ns.map V.int)) hl2
      refine ⟨l, l2, _, _, rfl, rfl, e2 _ _ hL, upd_same, ?_, fun r hr0 => ?_⟩
      · rw [List.length_map, List.length_replicate, List.length_map]
        omega
      walk_at "rd"
      have e3 := Ext.trans el (Ext.trans e2 (Ext.new (o := HO.lst ((List.replicate i (0 : Int)).map V.int ++ ns.map V.int)) hr0))
      refine ⟨r, List.replicate i 0 ++ ns, rfl, SqL.of (by rw [upd_same, List.map_append]), ?_, fun H' q v e hq => k1 rfl i rfl hi H' q v (Ext.trans e3 e) hq⟩
      rw [List.length_append, List.length_replicate]
      omega
    · cases hb
end
end K0

set_option Elab.async false
set_option linter.all false
set_option maxRecDepth 100000
set_option maxHeartbeats 4000000
/-! power. -/
namespace K0
open PySem PySem.Spec PyProof.Rows L2 Gd
local macro_rules | `(tactic| walk_at "rd1") => `(tactic| first | with_reducible refine g_ret ?_ | with_reducible refine g_retN ?_ | with_reducible refine g_seq ?_ | with_reducible refine g_next ?_ | with_reducible refine g_drop ?_ | with_reducible refine g_asg ?_ | with_reducible refine g_name ?_ | with_reducible refine g_ifs ?_ | with_reducible refine g_test ?_ | with_reducible refine g_tb ?_ | with_reducible refine g_and ?_ | with_reducible refine g_or ?_ | with_reducible refine g_not ?_ | with_reducible refine g_andV ?_ | with_reducible refine g_orV ?_ | with_reducible refine g_notV ?_ | with_reducible refine g_if ?_ | with_reducible refine g_op ?_ | with_reducible refine g_un ?_ | with_reducible refine g_cb ?_ | with_reducible refine g_nil ?_ | with_reducible refine g_cons ?_ | with_reducible refine g_call ?_ | with_reducible refine g_callS ?_ | with_reducible refine g_tup ?_ | with_reducible refine g_lst ?_ | with_reducible refine g_isN ?_ | with_reducible refine g_sl ?_ | with_reducible refine g_nopart ?_ | with_reducible refine g_part ?_ | with_reducible refine g_chain ?_ | with_reducible refine g_fld ?_ | with_reducible refine g_prop ?_ | with_reducible refine g_bm ?_ | with_reducible refine g_bm0 ?_ | with_reducible refine g_c ?_ | with_reducible refine g_sub ?_ | with_reducible refine g_int1 ?_ | with_reducible refine g_int2 ?_ | with_reducible refine g_yes ?_ | with_reducible refine g_sfld ?_ | with_reducible refine g_NT ?_ | with_reducible refine g_NF ?_ | with_reducible refine iteT ?_ | with_reducible refine iteF ?_ | ((with_reducible refine' g_aug ?hv ?_); (case hv => exact rfl)) | ((with_reducible refine' g_var ?hv ?_); (case hv => exact rfl)) | with_reducible refine g_I0 ?_ | with_reducible refine g_U ?_ | with_reducible refine g_eqI ?_ | with_reducible refine g_blV ?_ | with_reducible refine g_inV ?_)
local macro_rules | `(tactic| walk_at "rd") => `(tactic| repeat walk_at "rd1")
section
variable {P : Program} {w : World} {K : PySem.W.Frag} {mg : Str → Option Value} {base : Heap} {f C CN fC : Addr} {fd : FuncData}
variable {fO fP fA fN fM : Addr} {fdO fdP fdA fdN fdM : FuncData}
def powR (ns : List Int) : Nat → List Int
  | 0 => [1]
  | k + 1 => trim (mulR ns (powR ns k))
/-- the products on the way fit -/
def PowB (ns : List Int) (m : Nat) : Prop := ∀ j, j < m → MulB ns (powR ns j)
def spPower (K : PySem.W.Frag) (C CN CT : Addr) : Sp := fun vs H Q E => ∃ (p u : Addr) (ns : List Int) (y : V) (b : Bool), vs = [.ref p, y] ∧ PolyU K C H p u ns ∧ WithB K H y 0 40 b ∧
  (b = true → ∀ m : Nat, y = .int (m : Int) → m ≤ 40 →
    (((ns.length : Int) - 1) * (m : Int) ≤ 2000 → PowB ns m ∧ (powR ns m).length ≤ 100000 ∧ ∀ H' q v, Ext H H' → PolyU K C H' q v (trim (powR ns m)) → Q (.ref q) H') ∧
    (¬ ((ns.length : Int) - 1) * (m : Int) ≤ 2000 → ∀ d, H d = none → E (.ref CT) (some d) (upd H d (.xd [(("limit" : Str), .int 2000)])))) ∧
  (b = false → ∀ d, H d = none → E (.ref CN) (some d) (upd H d (.xd [(("value" : Str), y)])))
theorem sc10 : FnScope ["self", "many", "row", "_"] ["self", "many"] (defScope (cls 10)) := ⟨rfl, rfl, rfl, by decide +kernel, rfl, by decide +kernel, by decide +kernel⟩
def PvW (p u : Addr) (C : Addr) (K : PySem.W.Frag) (m : Nat) (H : Hp) (ns : List Int) (i : Nat) : L2.St → Hp → Prop := fun σ H' => ∃ (r : Addr) (x : Option V), σ = [some (.ref p), some (.int (m : Int)), some (.ref r), x] ∧ Ext H H' ∧ SqT K H' r ((powR ns i).map V.int)
theorem ok_power {fT fW2 pD fD CT fCT : Addr} {fdT fdW2 fdD : FuncData} (F : Fun K "power" "Poly.power" (cls 10) f fd) (T : Txt K mg) (hrg : mg "range" = none) (gX : ∃ t, mg "MAX_POWER" = some (.int 40 t)) (gD : ∃ t, mg "MAX_DEGREE" = some (.int 2000 t)) (Cl : PC K mg C)
    (O : Ops P w K mg base C fO fP fA fN fM fdO fdP fdA fdN fdM) (GP2 : FnOk P w K mg base CX0 6 fP fdP ["row"] (spPolyOf K C (SqT K))) (N : PySem.XTooMany.TooManyTxt K mg CT fCT)
    (W : At K mg "require_within" sWithin ["value", "low", "high"] fW2 fdW2) (GW : FnOk P w K mg base (L2.CX P w) 5 fW2 fdW2 ["value", "low", "high"] (spWithin K CN)) (R : AtT K mg fT fdT) (PD : AtP K C "degree" "Poly.degree" 3 pD fD fdD) :
    FnOk P w K mg base (L2.CX P w) 7 f fd ["self", "many"] (spPower K C CN CT) := by
  have GT : FnOk P w K mg base CX0 1 fT fdT ["row"] (spTrimmedL K) := ok_trimmedL R.F T
  have GD : FnOk P w K mg base CX0 1 fD fdD ["self"] (spGet K C fun _ ns => .int ((ns.length : Int) - 1)) := ok_degree PD.F T Cl
  obtain ⟨tX, gX⟩ := gX
  obtain ⟨tD, gD⟩ := gD
  refine F.okX sc10 (fun vs H Q E h => ?_) (fun cdv A outer s H vs Q E hr h => ?_)
  · obtain ⟨p, u, ns, y, b, rfl, _⟩ := h
    rfl
  · obtain ⟨p, u, ns, y, b, rfl, hP, hy, k1, k2⟩ := h
    obtain ⟨⟨dx, hp⟩, hu, hl⟩ := id hP
    refine ⟨_, pss_cons (ps_expr (pe_call GW (hr.mono (by decide)) (by rfl) W.g W.F.kp W.b .nil (passes_call (takes_of rfl rfl rfl rfl) (fun _ _ _ _ h => h)) (pa_cons (pv 1) (pa_cons pe_int (pa_cons (pe_glob (v := .int 40) (by rfl) gX ⟨_, rfl⟩) pa_nil)))))
      (pss_cons (ps_if (pt_cmpR op_gt (pe_op op_mul (pe_prop (pv 0) Cl.cl PD.p GD (hr.mono (by decide)) PD.b .nil pass0 rfl) (pv 1)) (pe_glob (v := .int 2000) (by rfl) gD ⟨_, rfl⟩) (nomark _))
          (pss_one (ps_raiseTooMany rfl N hr (takes_of rfl rfl rfl rfl) (by exact (pa_cons (pe_glob (v := .int 2000) (by rfl) gD ⟨_, rfl⟩) pa_nil)))) pss_nil)
      (pss_cons (ps_set (i := 2) sc10.nd rfl (Or.inl rfl) (pe_tup (pa_cons pe_int pa_nil)))
      (pss_cons (ps_for (passes_of rfl) rfl (pi_range1 (by rfl) hrg (pa_cons (pv 1) pa_nil)) (pg_name (i := 3) sc10.nd rfl (Or.inl rfl))
          (pss_one (ps_set (i := 2) sc10.nd rfl (Or.inl rfl) (pe_call GT (hr.mono (by decide)) (by rfl) R.g R.F.kp R.b .nil pass0 (pa_cons (pe_call O.GM (hr.mono (by decide)) (by rfl) O.M.g O.M.F.kp O.M.b .nil pass0 (pa_cons (pe_fld (pv 0) rfl) (pa_cons (pv 2) pa_nil))) pa_nil)))))
        (pss_one (ps_ret (pe_call GP2 hr (by rfl) O.Po.g O.Po.F.kp O.Po.b .nil pass0 (pa_cons (pv 2) pa_nil))))))), ?_⟩
    walk_at "rd"
    refine ⟨y, 0, 40, b, rfl, by decide +kernel, by decide +kernel, hy, fun hb => ?_, fun hb d hd => k2 hb d hd⟩
    walk_at "rd"
    subst hb
    rcases hy with ⟨i0, rfl, hb⟩ | ⟨_, hb⟩
    · have hb' := of_decide_eq_true hb.symm
      obtain ⟨m, rfl⟩ : ∃ m : Nat, i0 = (m : Int) := ⟨i0.toNat, by omega⟩
      have hm : m ≤ 40 := by omega
      obtain ⟨kf, km⟩ := k1 rfl m rfl hm
      refine ⟨p, dx, _, rfl, hp, p, u, ns, rfl, hP, ?_⟩
      walk_at "rd"
      refine g_I (.inl ⟨by omega, by omega⟩) ?_
      walk_at "rd"
      by_cases hd : ((ns.length : Int) - 1) * (m : Int) ≤ 2000
      · obtain ⟨kB, kl, kq⟩ := kf hd
        rw [decide_eq_false (show ¬ (2000 : Int) < ((ns.length : Int) - 1) * (m : Int) from Int.not_lt.mpr hd)]
        walk_at "rd"
        refine ⟨by show 1 ≤ sizeLine; decide, fun r0 hr0 => ?_⟩
        have e0 := Ext.new (o := HO.tup [V.int 1]) hr0
        walk_at "rd"
        refine g_forR ?_
        walk_at "rd"
        refine ⟨by omega, by omega, ?_⟩
        rw [Int.toNat_natCast]
        refine for_range (PvW p u C K m H ns) ⟨r0, _, rfl, e0, SqT.of upd_same⟩ ?_ ?_
        · rintro i σ H2 hi ⟨r, x, rfl, e2, hr2⟩
          walk_at "rd"
          refine ⟨p, C, dx, _, _, rfl, e2 _ _ hp, Cl.cl, Cl.noF, look1 (u := .ref u), ?_⟩
          walk_at "rd"
          obtain ⟨ln, lm, A1, B1, A0, B0, AB, hA, hB⟩ := kB i hi
          refine ⟨u, r, ns, powR ns i, A1, B1, rfl, sqT_ext e2 hu, hr2, ln, lm, A0, B0, AB, hA, hB, fun H3 t e3 _ ht => ?_⟩
          walk_at "rd"
          refine ⟨t, _, rfl, SqL.of ht, by rw [mulR_len]; omega, fun H4 v e4 hv => ?_⟩
          walk_at "rd"
          exact ⟨v, _, rfl, Ext.trans e2 (Ext.trans e3 e4), hv⟩
        · rintro σ H2 ⟨r, x, rfl, e2, hr2⟩
          walk_at "rd"
          exact ⟨r, powR ns m, rfl, hr2, kl, fun H3 q v e3 hq => kq H3 q v (Ext.trans e2 e3) hq⟩
      · rw [decide_eq_true (show (2000 : Int) < ((ns.length : Int) - 1) * (m : Int) from Int.not_le.mp hd)]
        walk_at "rd"
        exact ⟨_, rfl, fun d hd0 => km hd d hd0⟩
    · cases hb
end
end K0

set_option Elab.async false
set_option linter.all false
set_option maxRecDepth 100000
set_option maxHeartbeats 4000000
/-! turned_round, and the value at a number. -/
namespace K0
open PySem PySem.Spec PyProof.Rows L2 Gd
local macro_rules | `(tactic| walk_at "rd1") => `(tactic| first | with_reducible refine g_ret ?_ | with_reducible refine g_retN ?_ | with_reducible refine g_seq ?_ | with_reducible refine g_next ?_ | with_reducible refine g_drop ?_ | with_reducible refine g_asg ?_ | with_reducible refine g_name ?_ | with_reducible refine g_ifs ?_ | with_reducible refine g_test ?_ | with_reducible refine g_tb ?_ | with_reducible refine g_and ?_ | with_reducible refine g_or ?_ | with_reducible refine g_not ?_ | with_reducible refine g_andV ?_ | with_reducible refine g_orV ?_ | with_reducible refine g_notV ?_ | with_reducible refine g_if ?_ | with_reducible refine g_op ?_ | with_reducible refine g_un ?_ | with_reducible refine g_cb ?_ | with_reducible refine g_nil ?_ | with_reducible refine g_cons ?_ | with_reducible refine g_call ?_ | with_reducible refine g_callS ?_ | with_reducible refine g_tup ?_ | with_reducible refine g_lst ?_ | with_reducible refine g_isN ?_ | with_reducible refine g_sl ?_ | with_reducible refine g_nopart ?_ | with_reducible refine g_part ?_ | with_reducible refine g_chain ?_ | with_reducible refine g_fld ?_ | with_reducible refine g_prop ?_ | with_reducible refine g_bm ?_ | with_reducible refine g_bm0 ?_ | with_reducible refine g_c ?_ | with_reducible refine g_sub ?_ | with_reducible refine g_int1 ?_ | with_reducible refine g_int2 ?_ | with_reducible refine g_yes ?_ | with_reducible refine g_sfld ?_ | with_reducible refine g_NT ?_ | with_reducible refine g_NF ?_ | with_reducible refine iteT ?_ | with_reducible refine iteF ?_ | ((with_reducible refine' g_aug ?hv ?_); (case hv => exact rfl)) | ((with_reducible refine' g_var ?hv ?_); (case hv => exact rfl)) | with_reducible refine g_I0 ?_ | with_reducible refine g_U ?_ | with_reducible refine g_eqI ?_ | with_reducible refine g_blV ?_ | with_reducible refine g_inV ?_)
local macro_rules | `(tactic| walk_at "rd") => `(tactic| repeat walk_at "rd1")
section
variable {P : Program} {w : World} {K : PySem.W.Frag} {mg : Str → Option Value} {base : Heap} {f C CN fC : Addr} {fd : FuncData}
variable {fO fP fA fN fM : Addr} {fdO fdP fdA fdN fdM : FuncData}
/-! ### turned_round -/
def turnR (ns : List Int) (m : Nat) : List Int := List.replicate (m + 1 - ns.length) 0 ++ ns.reverse
def spTurned (K : PySem.W.Frag) (C CN CR : Addr) : Sp := fun vs H Q E => ∃ (p u : Addr) (ns : List Int) (y : V) (b : Bool), vs = [.ref p, y] ∧ PolyU K C H p u ns ∧ ns.length ≤ 50000 ∧ WithB K H y 0 2000 b ∧
  (b = true → ∀ m : Nat, y = .int (m : Int) → m ≤ 2000 →
    (ns.length ≤ m + 1 → ∀ H' q v, Ext H H' → PolyU K C H' q v (trim (turnR ns m)) → Q (.ref q) H') ∧
    (¬ ns.length ≤ m + 1 → ∀ H1 t d, Ext H H1 → H1 t = some (.tup [.str "degree", .int ((ns.length : Int) - 1)]) → H1 d = none → E (.ref CR) (some d) (upd H1 d (.xd [(("reason" : Str), .ref t)])))) ∧
  (b = false → ∀ d, H d = none → E (.ref CN) (some d) (upd H d (.xd [(("value" : Str), y)])))
theorem sc12 : FnScope ["self", "many"] ["self", "many"] (defScope (cls 12)) := ⟨rfl, rfl, rfl, by decide +kernel, rfl, by decide +kernel, by decide +kernel⟩
theorem ok_turned {fW2 pD fD CR fCR : Addr} {fdW2 fdD : FuncData} (F : Fun K "turned_round" "Poly.turned_round" (cls 12) f fd) (T : Txt K mg) (gD : ∃ t, mg "MAX_DEGREE" = some (.int 2000 t)) (Cl : PC K mg C)
    (O : Ops P w K mg base C fO fP fA fN fM fdO fdP fdA fdN fdM) (N : PySem.XRefused.RefusedTxt K mg CR fCR)
    (W : At K mg "require_within" sWithin ["value", "low", "high"] fW2 fdW2) (GW : FnOk P w K mg base (L2.CX P w) 5 fW2 fdW2 ["value", "low", "high"] (spWithin K CN)) (PD : AtP K C "degree" "Poly.degree" 3 pD fD fdD) :
    FnOk P w K mg base (L2.CX P w) 7 f fd ["self", "many"] (spTurned K C CN CR) := by
  have GD : FnOk P w K mg base CX0 1 fD fdD ["self"] (spGet K C fun _ ns => .int ((ns.length : Int) - 1)) := ok_degree PD.F T Cl
  obtain ⟨tD, gD⟩ := gD
  refine F.okX sc12 (fun vs H Q E h => ?_) (fun cdv A outer s H vs Q E hr h => ?_)
  · obtain ⟨p, u, ns, y, b, rfl, _⟩ := h
    rfl
  · obtain ⟨p, u, ns, y, b, rfl, hP, ln, hy, k1, k2⟩ := h
    obtain ⟨⟨dx, hp⟩, hu, hl⟩ := id hP
    refine ⟨_, pss_cons (ps_expr (pe_call GW (hr.mono (by decide)) (by rfl) W.g W.F.kp W.b .nil (passes_call (takes_of rfl rfl rfl rfl) (fun _ _ _ _ h => h)) (pa_cons (pv 1) (pa_cons pe_int (pa_cons (pe_glob (v := .int 2000) (by rfl) gD ⟨_, rfl⟩) pa_nil)))))
      (pss_cons (ps_if (pt_cmpR op_gt (pe_prop (pv 0) Cl.cl PD.p GD (hr.mono (by decide)) PD.b .nil pass0 rfl) (pv 1) (nomark _))
          (pss_one (ps_raiseRefused rfl N hr (takes_of rfl rfl rfl rfl) (by exact (pa_cons (pe_tup (pa_cons pe_str (pa_cons (pe_prop (pv 0) Cl.cl PD.p GD (hr.mono (by decide)) PD.b .nil pass0 rfl) pa_nil))) pa_nil)))) pss_nil)
      (pss_one (ps_ret (pe_call O.GP hr (by rfl) O.Po.g O.Po.F.kp O.Po.b .nil pass0 (pa_cons (pe_op op_cat (pe_op op_rep (pe_lst (pa_cons pe_int pa_nil)) (pe_op op_sub (pv 1) (pe_prop (pv 0) Cl.cl PD.p GD (hr.mono (by decide)) PD.b .nil pass0 rfl)))
        (pe_callTy call_list_of (by rfl) T.list (by decide +kernel) (pa_cons (pe_revT (pe_fld (pv 0) rfl)) pa_nil))) pa_nil))))), ?_⟩
    walk_at "rd"
    refine ⟨y, 0, 2000, b, rfl, by decide +kernel, by decide +kernel, hy, fun hb => ?_, fun hb d hd => k2 hb d hd⟩
    walk_at "rd"
    subst hb
    rcases hy with ⟨i0, rfl, hb⟩ | ⟨_, hb⟩
    · have hb' := of_decide_eq_true hb.symm
      obtain ⟨m, rfl⟩ : ∃ m : Nat, i0 = (m : Int) := ⟨i0.toNat, by omega⟩
      have hm : m ≤ 2000 := by omega
      obtain ⟨kf, km⟩ := k1 rfl m rfl hm
      have sz : (100000 : Nat) < sizeLine := by decide
      refine ⟨p, dx, _, rfl, hp, p, u, ns, rfl, hP, ?_⟩
      walk_at "rd"
      by_cases hd : ns.length ≤ m + 1
      · rw [decide_eq_false (show ¬ (m : Int) < (ns.length : Int) - 1 by omega)]
        walk_at "rd"
        refine ⟨by show 1 ≤ sizeLine; decide, fun z hz => ?_⟩
        have ez := Ext.new (o := HO.lst [V.int 0]) hz
        walk_at "rd"
        refine ⟨p, dx, _, rfl, ez _ _ hp, p, u, ns, rfl, hP.ext ez, ?_⟩
        walk_at "rd"
        have eq : ((m : Int) - ((ns.length : Int) - 1)) = ((m + 1 - ns.length : Nat) : Int) := by omega
        rw [eq]
        refine ⟨z, _, [V.int 0], rfl, rfl, upd_same, by omega, by omega, ?_, fun l hl0 => ?_⟩
        · show 1 * _ ≤ sizeLine
          omega
        have el := Ext.trans ez (Ext.new (o := HO.lst (List.replicate (((m + 1 - ns.length : Nat) : Int)).toNat [V.int 0]).flatten) hl0)
        have hL : upd (upd H z (.lst [V.int 0])) l (.lst (List.replicate (((m + 1 - ns.length : Nat) : Int)).toNat [V.int 0]).flatten) l = some (.lst ((List.replicate (m + 1 - ns.length) (0 : Int)).map V.int)) := by
          rw [upd_same, flatL_zero, Int.toNat_natCast]
        generalize upd (upd H z (.lst [V.int 0])) l (.lst (List.replicate (((m + 1 - ns.length : Nat) : Int)).toNat [V.int 0]).flatten) = H1 at el hL
        walk_at "rd"
        refine ⟨_, rfl, p, C, dx, _, _, rfl, el _ _ hp, Cl.cl, Cl.noF, look1 (u := .ref u), u, _, rfl, sqT_ext el hu, fun r hr0 => ?_⟩
        have er := Ext.new (o := HO.tup (ns.map V.int).reverse) hr0
        walk_at "rd"
        refine ⟨r, _, rfl, .inr (SqT.of upd_same), fun l2 hl2 => ?_⟩
        have e2 := Ext.new (o := HO.lst (ns.map V.int).reverse) hl2
        refine ⟨l, l2, _, _, rfl, rfl, e2 _ _ (er _ _ hL), upd_same, ?_, fun o ho => ?_⟩
        · rw [List.length_map, List.length_replicate, List.length_reverse, List.length_map]
          omega
        walk_at "rd"
        have e3 := Ext.trans el (Ext.trans er (Ext.trans e2 (Ext.new (o := HO.lst ((List.replicate (m + 1 - ns.length) (0 : Int)).map V.int ++ (ns.map V.int).reverse)) ho)))
        refine ⟨o, turnR ns m, rfl, SqL.of (by rw [upd_same]; unfold turnR; rw [List.map_append, List.map_reverse]), ?_, fun H' q v e hq => kf hd H' q v (Ext.trans e3 e) hq⟩
        unfold turnR
        rw [List.length_append, List.length_replicate, List.length_reverse]
        omega
      · rw [decide_eq_true (show (m : Int) < (ns.length : Int) - 1 by omega)]
        walk_at "rd"
        unfold tRaiseRefused tMkRefused
        walk_at "rd"
        refine ⟨p, dx, _, rfl, hp, p, u, ns, rfl, hP, ?_⟩
        walk_at "rd"
        refine ⟨by show 2 ≤ sizeLine; decide, fun t ht => ?_⟩
        exact ⟨_, rfl, fun d hd0 => km hd _ t d (Ext.new ht) upd_same hd0⟩
    · cases hb
end
end K0

set_option Elab.async false
set_option linter.all false
set_option maxRecDepth 100000
set_option maxHeartbeats 4000000
/-! The law's own product, negative and raised row. -/
namespace K0
open PySem PySem.Spec PyProof.Rows L2 Gd
local macro_rules | `(tactic| walk_at "rd1") => `(tactic| first | with_reducible refine g_ret ?_ | with_reducible refine g_retN ?_ | with_reducible refine g_seq ?_ | with_reducible refine g_next ?_ | with_reducible refine g_drop ?_ | with_reducible refine g_asg ?_ | with_reducible refine g_name ?_ | with_reducible refine g_ifs ?_ | with_reducible refine g_test ?_ | with_reducible refine g_tb ?_ | with_reducible refine g_and ?_ | with_reducible refine g_or ?_ | with_reducible refine g_not ?_ | with_reducible refine g_andV ?_ | with_reducible refine g_orV ?_ | with_reducible refine g_notV ?_ | with_reducible refine g_if ?_ | with_reducible refine g_op ?_ | with_reducible refine g_un ?_ | with_reducible refine g_cb ?_ | with_reducible refine g_nil ?_ | with_reducible refine g_cons ?_ | with_reducible refine g_call ?_ | with_reducible refine g_callS ?_ | with_reducible refine g_tup ?_ | with_reducible refine g_lst ?_ | with_reducible refine g_isN ?_ | with_reducible refine g_sl ?_ | with_reducible refine g_nopart ?_ | with_reducible refine g_part ?_ | with_reducible refine g_chain ?_ | with_reducible refine g_fld ?_ | with_reducible refine g_prop ?_ | with_reducible refine g_bm ?_ | with_reducible refine g_bm0 ?_ | with_reducible refine g_c ?_ | with_reducible refine g_sub ?_ | with_reducible refine g_int1 ?_ | with_reducible refine g_int2 ?_ | with_reducible refine g_yes ?_ | with_reducible refine g_sfld ?_ | with_reducible refine g_NT ?_ | with_reducible refine g_NF ?_ | with_reducible refine iteT ?_ | with_reducible refine iteF ?_ | ((with_reducible refine' g_aug ?hv ?_); (case hv => exact rfl)) | ((with_reducible refine' g_var ?hv ?_); (case hv => exact rfl)) | with_reducible refine g_I0 ?_ | with_reducible refine g_U ?_ | with_reducible refine g_eqI ?_ | with_reducible refine g_blV ?_ | with_reducible refine g_inV ?_)
local macro_rules | `(tactic| walk_at "rd") => `(tactic| repeat walk_at "rd1")
section
variable {P : Program} {w : World} {K : PySem.W.Frag} {mg : Str → Option Value} {base : Heap} {f : Addr} {fd : FuncData}
abbrev sTimes : Stmt := top 41
abbrev sMinus : Stmt := top 45
def spTimes (K : PySem.W.Frag) : Sp := fun vs H Q _ => ∃ (a b : Addr) (ns ms : List Int) (A B : Nat), vs = [.ref a, .ref b] ∧ SqT K H a (ns.map V.int) ∧ SqT K H b (ms.map V.int) ∧ ns.length ≤ 50000 ∧ ms.length ≤ 50000 ∧ 0 < A ∧ 0 < B ∧ A + B ≤ 1000000 ∧ Bits A ns ∧ Bits B ms ∧
  ∀ H' u, Ext H H' → SqT K H' u ((trim (mulR ns ms)).map V.int) → Q (.ref u) H'
theorem scTimes : FnScope ["_law_one", "_law_other", "_law_found", "_law_turn", "_law_at_here", "_law_left", "_law_spot", "_law_right_here"] ["_law_one", "_law_other"] (defScope sTimes) := ⟨rfl, rfl, rfl, by decide +kernel, rfl, by decide +kernel, by decide +kernel⟩
def PvO2 (a b l : Addr) (H0 : Hp) (ns ms : List Int) (i : Nat) : L2.St → Hp → Prop := fun σ H' => ∃ x0 x1 x2 x3 x4 : Option V, σ = [some (.ref a), some (.ref b), some (.ref l), x0, x1, x2, x3, x4] ∧ H0 l = none ∧ Ext H0 H' ∧ H' l = some (.lst ((rowAt ns ms i 0).map V.int))
def PvN2 (a b l : Addr) (H0 : Hp) (ns ms : List Int) (i : Nat) (x : Int) (j : Nat) : L2.St → Hp → Prop := fun σ H' => ∃ x0 x3 x4 : Option V, σ = [some (.ref a), some (.ref b), some (.ref l), x0, some (.int (i : Int)), some (.int x), x3, x4] ∧ H0 l = none ∧ Ext H0 H' ∧ H' l = some (.lst ((rowAt ns ms i j).map V.int))
theorem ok_times {fT : Addr} {fdT : FuncData} (F : Fun K "_law_times" "_law_times" sTimes f fd) (T : Txt K mg) (hen : mg "enumerate" = none) (hrg : mg "range" = none) (LT : At K mg "_law_trimmed" sLTrim ["_law_factors_here"] fT fdT)
    (GT : FnOk P w K mg base CX0 1 fT fdT ["_law_factors_here"] (spLTrim K)) : FnOk P w K mg base CX0 2 f fd ["_law_one", "_law_other"] (spTimes K) := by
  refine F.ok scTimes (fun vs H Q E h => ?_) (fun cdv A outer s H vs Q E hr h => ?_)
  · obtain ⟨a, b, ns, ms, A, B, rfl, _⟩ := h
    rfl
  · obtain ⟨a, b, ns, ms, A, B, rfl, ha, hb, ln, lm, A0, B0, AB, hA, hB, k⟩ := h
    refine ⟨_, pss_cons (ps_setLc (i := 2) (own := [("_law_turn", 3)]) (g := gName 3) (tt := tYes) rfl scTimes.nd rfl rfl (by rfl) (pi_range1 (by rfl) hrg (pa_cons (pe_op op_add (pe_callB call_len_seq (by rfl) T.len PySem.boot_len (pa_cons (pv 0) pa_nil)) (pe_callB call_len_seq (by rfl) T.len PySem.boot_len (pa_cons (pv 1) pa_nil))) pa_nil))
          (blkOk_by (N := ["_law_one", "_law_other", "_law_found", "_law_turn", "_law_at_here", "_law_left", "_law_spot", "_law_right_here"]) (sc := defScope sTimes) (by decide +kernel)) (fun _ _ _ _ _ => pg_name (i := 3) scTimes.nd rfl (Or.inl rfl)) (fun _ _ _ _ _ => pts_nil) (fun _ _ _ _ _ => pe_int))
      (pss_cons (ps_for PassesOwn.never rfl (pi_enumT (by rfl) hen (pa_cons (pv 0) pa_nil)) (pg_tup rfl (pgs_cons (pg_name (i := 4) scTimes.nd rfl (Or.inl rfl)) (pgs_cons (pg_name (i := 5) scTimes.nd rfl (Or.inl rfl)) pgs_nil)))
          (pss_one (ps_for PassesOwn.never rfl (pi_enumT (by rfl) hen (pa_cons (pv 1) pa_nil)) (pg_tup rfl (pgs_cons (pg_name (i := 6) scTimes.nd rfl (Or.inl rfl)) (pgs_cons (pg_name (i := 7) scTimes.nd rfl (Or.inl rfl)) pgs_nil)))
              (pss_one (ps_asg (pe_op op_add (pe_ix ix_list (pv 2) (pe_op op_add (pv 4) (pv 6)) (fun _ _ => rfl)) (pe_op op_mulW (pv 5) (pv 7))) (pg_sub (pv 2) (pe_op op_add (pv 4) (pv 6)) set_list))))))
        (pss_one (ps_ret (pe_call GT hr (by rfl) LT.g LT.F.kp LT.b .nil pass0 (pa_cons (pv 2) pa_nil))))), ?_⟩
    have sz : (100000 : Nat) < sizeLine := by decide
    refine g_cut (fun σ H' => ∃ l, PvO2 a b l H ns ms 0 σ H') (fun σ' H' hN => ?_) (fun go => ?_)
    rotate_left
    · walk_at "rd"
      refine ⟨_, rfl, a, _, rfl, .inr ha, ?_⟩
      walk_at "rd"
      refine ⟨b, _, rfl, .inr hb, ?_⟩
      walk_at "rd"
      rw [List.length_map, List.length_map]
      refine ⟨by omega, by omega, fun D hD => ?_⟩
      have en : ((ns.length : Int) + (ms.length : Int)).toNat = ns.length + ms.length := by omega
      rw [en]
      refine lc_it walk_range (fun i H' => Ext H H' ∧ H' D = some (.lst ((List.replicate i (0 : Int)).map V.int))) ⟨Ext.new hD, upd_same⟩ (fun _ _ _ _ => trivial) ?_ ?_
      · rintro i x H1 H2 hi ⟨e, hD'⟩ ⟨rfl, rfl⟩
        refine ⟨rfl, ?_⟩
        walk_at "rd"
        refine ⟨_, hD', ?_, fun b o q => ?_, ?_⟩
        · rw [List.length_map, List.length_replicate]
          omega
        · rw [upd_ne (ne_of_none q hD)]
          exact e b o q
        · rw [upd_same, List.replicate_succ', List.map_append]
          rfl
      · rintro H1 ⟨e, hD'⟩
        exact go _ _ ⟨D, _, _, _, _, _, rfl, hD, e, by rw [hD', rowAt_0]⟩
    obtain ⟨l, x0, x1, x2, x3, x4, rfl, hl0, el, hL⟩ := hN
    walk_at "rd"
    refine g_forE ?_
    walk_at "rd"
    refine ⟨a, _, rfl, sqT_ext el ha, for_enumT (xs := ns.map V.int) (PvO2 a b l H ns ms) ⟨_, _, _, _, _, rfl, hl0, el, hL⟩ (fun i σ H2 _ p => ?_) ?_ ?_⟩
    · obtain ⟨_, _, _, _, _, _, _, e, _⟩ := p
      exact sqT_ext e ha
    · rintro i v σ H2 T hi ⟨y0, y1, y2, y3, y4, rfl, _, e2, hL2⟩ hT
      rw [mapget] at hi
      obtain ⟨x, hx, rfl⟩ := Option.map_eq_some_iff.mp hi
      have hlt : i < ns.length := (List.getElem?_eq_some_iff.mp hx).1
      have ax : at0 ns i = x := by
        unfold at0
        rw [hx]
        rfl
      have eT := Ext.new (o := HO.tup [V.int (i : Nat), V.int x]) hT
      refine ⟨T, _, rfl, SqT.of upd_same, rfl, _, _, rfl, ?_⟩
      refine ⟨_, _, rfl, rfl, ?_⟩
      have e3 := Ext.trans e2 eT
      have hL3 := eT _ _ hL2
      generalize upd H2 T (.tup [V.int (i : Nat), V.int x]) = H3 at e3 hL3
      refine g_forE ?_
      walk_at "rd"
      refine ⟨b, _, rfl, sqT_ext e3 hb, for_enumT (xs := ms.map V.int) (PvN2 a b l H ns ms i x) ⟨_, _, _, rfl, hl0, e3, hL3⟩ (fun j σ H4 _ p => ?_) ?_ ?_⟩
      · obtain ⟨_, _, _, _, _, e, _⟩ := p
        exact sqT_ext e hb
      · rintro j v σ H4 T2 hj ⟨z0, z3, z4, rfl, _, e4, hL4⟩ hT2
        rw [mapget] at hj
        obtain ⟨y, hy, rfl⟩ := Option.map_eq_some_iff.mp hj
        have hlj : j < ms.length := (List.getElem?_eq_some_iff.mp hy).1
        have ay : at0 ms j = y := by
          unfold at0
          rw [hy]
          rfl
        have eT2 := Ext.new (o := HO.tup [V.int (j : Nat), V.int y]) hT2
        refine ⟨T2, _, rfl, SqT.of upd_same, rfl, _, _, rfl, ?_⟩
        refine ⟨_, _, rfl, rfl, ?_⟩
        have e5 := Ext.trans e4 eT2
        have hL5 := eT2 _ _ hL4
        generalize upd H4 T2 (.tup [V.int (j : Nat), V.int y]) = H5 at e5 hL5
        walk_at "rd"
        have q : ((i : Int) + (j : Int)) = ((i + j : Nat) : Int) := by omega
        have lij : i + j < ns.length + ms.length := by omega
        rw [q]
        refine g_ixL (SqL.of hL5) (v := .int (part ns ms i j (i + j))) (atI_nat (by rw [mapget, rowAt_get lij]; rfl)) ?_
        walk_at "rd"
        refine g_I (wide_mul (hA x (List.mem_of_getElem? hx)) (hB y (List.mem_of_getElem? hy)) A0 B0 AB) ?_
        walk_at "rd"
        rw [q]
        refine ⟨l, _, _, i + j, rfl, rfl, hL5, ixN_nat (by rw [List.length_map, rowAt_len]; exact lij), ?_⟩
        refine ⟨_, _, _, rfl, hl0, fun o ob g => ?_, ?_⟩
        · rw [upd_ne (ne_of_none g hl0)]
          exact e5 _ _ g
        · rw [upd_same, ← rowAt_set lij, ax, ay, List.map_set]
      · rintro σ H4 ⟨z0, z3, z4, rfl, _, e4, hL4⟩
        rw [List.length_map, rowAt_next hlt] at hL4
        exact ⟨_, _, _, _, _, rfl, hl0, e4, hL4⟩
    · rintro σ H2 ⟨y0, y1, y2, y3, y4, rfl, _, e2, hL2⟩
      rw [List.length_map, rowAt_end] at hL2
      walk_at "rd"
      exact ⟨l, _, rfl, .inl (SqL.of hL2), by rw [mulR_len]; omega, fun H3 u e3 hu => k H3 u (Ext.trans e2 e3) hu⟩
end
end K0

set_option Elab.async false
set_option linter.all false
set_option maxRecDepth 100000
set_option maxHeartbeats 4000000
/-! The law's own negative and sum. -/
namespace K0
open PySem PySem.Spec PyProof.Rows L2 Gd
local macro_rules | `(tactic| walk_at "rd1") => `(tactic| first | with_reducible refine g_ret ?_ | with_reducible refine g_retN ?_ | with_reducible refine g_seq ?_ | with_reducible refine g_next ?_ | with_reducible refine g_drop ?_ | with_reducible refine g_asg ?_ | with_reducible refine g_name ?_ | with_reducible refine g_ifs ?_ | with_reducible refine g_test ?_ | with_reducible refine g_tb ?_ | with_reducible refine g_and ?_ | with_reducible refine g_or ?_ | with_reducible refine g_not ?_ | with_reducible refine g_andV ?_ | with_reducible refine g_orV ?_ | with_reducible refine g_notV ?_ | with_reducible refine g_if ?_ | with_reducible refine g_op ?_ | with_reducible refine g_un ?_ | with_reducible refine g_cb ?_ | with_reducible refine g_nil ?_ | with_reducible refine g_cons ?_ | with_reducible refine g_call ?_ | with_reducible refine g_callS ?_ | with_reducible refine g_tup ?_ | with_reducible refine g_lst ?_ | with_reducible refine g_isN ?_ | with_reducible refine g_sl ?_ | with_reducible refine g_nopart ?_ | with_reducible refine g_part ?_ | with_reducible refine g_chain ?_ | with_reducible refine g_fld ?_ | with_reducible refine g_prop ?_ | with_reducible refine g_bm ?_ | with_reducible refine g_bm0 ?_ | with_reducible refine g_c ?_ | with_reducible refine g_sub ?_ | with_reducible refine g_int1 ?_ | with_reducible refine g_int2 ?_ | with_reducible refine g_yes ?_ | with_reducible refine g_sfld ?_ | with_reducible refine g_NT ?_ | with_reducible refine g_NF ?_ | with_reducible refine iteT ?_ | with_reducible refine iteF ?_ | ((with_reducible refine' g_aug ?hv ?_); (case hv => exact rfl)) | ((with_reducible refine' g_var ?hv ?_); (case hv => exact rfl)) | with_reducible refine g_I0 ?_ | with_reducible refine g_U ?_ | with_reducible refine g_eqI ?_ | with_reducible refine g_blV ?_ | with_reducible refine g_inV ?_)
local macro_rules | `(tactic| walk_at "rd") => `(tactic| repeat walk_at "rd1")
theorem addR_get : ∀ (a b : List Int) (k : Nat), k < max a.length b.length → (addR a b)[k]? = some (at0 a k + at0 b k)
  | [], [], k, h => absurd h (by simp)
  | [], y :: b, k, h => by
    have e : at0 [] k = 0 := rfl
    have hk : k < (y :: b).length := by
      rw [show ([] : List Int).length = 0 from rfl] at h
      omega
    rw [e, Int.zero_add]
    show (y :: b)[k]? = _
    unfold at0
    rw [List.getElem?_eq_getElem hk]
    rfl
  | x :: a, [], k, h => by
    have e : at0 [] k = 0 := rfl
    have hk : k < (x :: a).length := by
      rw [show ([] : List Int).length = 0 from rfl] at h
      omega
    rw [e, Int.add_zero]
    show (x :: a)[k]? = _
    unfold at0
    rw [List.getElem?_eq_getElem hk]
    rfl
  | x :: a, y :: b, 0, h => rfl
  | x :: a, y :: b, k + 1, h => by
    show (addR a b)[k]? = _
    rw [addR_get a b k (by
      simp only [List.length_cons] at h
      omega)]
    rfl
def pad (a : List Int) (n : Nat) : List Int := a ++ List.replicate (n - a.length) 0
theorem pad_len {a : List Int} {n : Nat} (h : a.length ≤ n) : (pad a n).length = n := by
  unfold pad
  rw [List.length_append, List.length_replicate]
  omega
theorem pad_get {a : List Int} {n k : Nat} (h : k < n) : (pad a n)[k]? = some (at0 a k) := by
  unfold pad at0
  by_cases g : k < a.length
  · rw [List.getElem?_append_left g, List.getElem?_eq_getElem g]
    rfl
  · rw [List.getElem?_append_right (by omega), List.getElem?_replicate, if_pos (by omega), List.getElem?_eq_none_iff.mpr (by omega)]
    rfl
theorem pad_add (a b : List Int) : List.zipWith (· + ·) (pad a (max a.length b.length)) (pad b (max a.length b.length)) = addR a b := by
  have l1 := pad_len (a := a) (n := max a.length b.length) (by omega)
  have l2 := pad_len (a := b) (n := max a.length b.length) (by omega)
  refine row_ext (by rw [List.length_zipWith, l1, l2, addR_len, Nat.min_self]) fun k hk => ?_
  rw [List.length_zipWith, l1, l2, Nat.min_self] at hk
  rw [List.getElem?_zipWith, pad_get hk, pad_get hk, addR_get a b k hk]
section
variable {P : Program} {w : World} {K : PySem.W.Frag} {mg : Str → Option Value} {base : Heap} {f : Addr} {fd : FuncData}
abbrev sPlus : Stmt := top 40
def spPlus (K : PySem.W.Frag) : Sp := fun vs H Q _ => ∃ (a b : Addr) (ns ms : List Int), vs = [.ref a, .ref b] ∧ SqT K H a (ns.map V.int) ∧ SqT K H b (ms.map V.int) ∧ ns.length ≤ 50000 ∧ ms.length ≤ 50000 ∧
  ∀ H' u, Ext H H' → SqT K H' u ((trim (addR ns ms)).map V.int) → Q (.ref u) H'
theorem scPlus : FnScope ["_law_one", "_law_other", "_law_wide", "_law_rows", "_law_turn", "_law_row", "_law_left", "_law_right_here"] ["_law_one", "_law_other"] (defScope sPlus) := ⟨rfl, rfl, rfl, by decide +kernel, rfl, by decide +kernel, by decide +kernel⟩
/-- the rows made so far -/
def PvR (H1 : Hp) (D : Addr) (ns ms : List Int) (W : Nat) (i : Nat) : Hp → Prop := fun H' => Ext H1 H' ∧ ∃ rs : List Addr, H' D = some (.lst (rs.map V.ref)) ∧ rs.length = i ∧ ∀ j r, rs[j]? = some r → r ≠ D ∧ H' r = some (.lst ((pad (if j = 0 then ns else ms) W).map V.int))
def scIn : Scope := { kind := .function, names := [((".0" : Str), .local), ("_law_row", .local), ("list", .globalImplicit), ("range", .globalImplicit), ("len", .globalImplicit), ("_law_wide", .cell)], isGenerator := false, isCoroutine := false, more := [] }
theorem ok_plus {fT : Addr} {fdT : FuncData} (F : Fun K "_law_plus" "_law_plus" sPlus f fd) (T : Txt K mg) (hmx : mg "max" = none) (hrg : mg "range" = none) (hz : mg "zip" = none) (LT : At K mg "_law_trimmed" sLTrim ["_law_factors_here"] fT fdT)
    (GT : FnOk P w K mg base CX0 1 fT fdT ["_law_factors_here"] (spLTrim K)) : FnOk P w K mg base CX0 2 f fd ["_law_one", "_law_other"] (spPlus K) := by
  refine F.ok scPlus (fun vs H Q E h => ?_) (fun cdv A outer s H vs Q E hr h => ?_)
  · obtain ⟨a, b, ns, ms, rfl, _⟩ := h
    rfl
  · obtain ⟨a, b, ns, ms, rfl, ha, hb, ln, lm, k⟩ := h
    refine ⟨_, pss_cons (ps_set (i := 2) scPlus.nd rfl (Or.inr rfl) (pe_callB (call_max2 rfl) (by rfl) hmx (by decide +kernel) (pa_cons (pe_callB call_len_seq (by rfl) T.len PySem.boot_len (pa_cons (pv 0) pa_nil)) (pa_cons (pe_callB call_len_seq (by rfl) T.len PySem.boot_len (pa_cons (pv 1) pa_nil)) pa_nil))))
      (pss_cons (ps_setLc (i := 3) (own := [("_law_row", 5)]) (g := gName 5) (tt := tYes) rfl scPlus.nd rfl rfl (by rfl) (pi_tup (pe_tup (pa_cons (pv 0) (pa_cons (pv 1) pa_nil)))) (blkOk_by (N := ["_law_one", "_law_other", "_law_wide", "_law_rows", "_law_turn", "_law_row", "_law_left", "_law_right_here"]) (sc := defScope sPlus) (by decide +kernel))
          (fun _ _ _ _ _ => pg_name (i := 5) scPlus.nd rfl (Or.inl rfl)) (fun _ _ _ _ _ => pts_nil)
          (fun _ _ _ _ _ => pe_op op_cat (pe_callTy (T := "list") (r := fun xs H Q => ∃ p ys, xs = [.ref p] ∧ (SqL K H p ys ∨ SqT K H p ys) ∧ ∀ l, H l = none → Q (.ref l) (upd H l (.lst ys))) call_list_of (by rfl) T.list (by decide +kernel) (pa_cons (pv 5) pa_nil))
            (pe_lc (own := [("_law_turn", 4)]) (g := gName 4) (tt := tYes) rfl scPlus.nd (pi_range1 (by rfl) hrg (pa_cons (pe_op op_sub (pv 2) (pe_callB (r := fun xs H Q => ∃ p ys, xs = [.ref p] ∧ (SqL K H p ys ∨ SqT K H p ys) ∧ Q (.int (ys.length : Int)) H) call_len_seq (by rfl) T.len PySem.boot_len (pa_cons (pv 5) pa_nil))) pa_nil)) (blkOk_by (N := ["_law_one", "_law_other", "_law_wide", "_law_rows", "_law_turn", "_law_row", "_law_left", "_law_right_here"]) (sc := scIn) (by decide +kernel))
              (fun _ _ _ _ _ => pg_name (i := 4) scPlus.nd rfl (Or.inl rfl)) (fun _ _ _ _ _ => pts_nil) (fun _ _ _ _ _ => pe_int))))
        (pss_one (ps_ret (pe_call GT hr (by rfl) LT.g LT.F.kp LT.b .nil pass0 (pa_cons (pe_lc (own := [("_law_left", 6), ("_law_right_here", 7)]) (g := gTup K 2 (gCons (gName 6) (gCons (gName 7) gNil))) (tt := tYes) rfl scPlus.nd
            (pi_zipE (by rfl) hz (pa_cons (pe_ix ix_list (pv 3) pe_int (fun _ _ => rfl)) (pa_cons (pe_ix ix_list (pv 3) pe_int (fun _ _ => rfl)) pa_nil))) (blkOk_by (N := ["_law_one", "_law_other", "_law_wide", "_law_rows", "_law_turn", "_law_row", "_law_left", "_law_right_here"]) (sc := defScope sPlus) (by decide +kernel))
            (fun _ _ _ _ _ => pg_tup rfl (pgs_cons (pg_name (i := 6) scPlus.nd rfl (Or.inl rfl)) (pgs_cons (pg_name (i := 7) scPlus.nd rfl (Or.inl rfl)) pgs_nil))) (fun _ _ _ _ _ => pts_nil) (fun _ _ _ _ _ => pe_op op_add (pv 6) (pv 7))) pa_nil))))), ?_⟩
    walk_at "rd"
    have sz : (100000 : Nat) < sizeLine := by decide
    refine ⟨a, _, rfl, .inr ha, ?_⟩
    walk_at "rd"
    refine ⟨b, _, rfl, .inr hb, ?_⟩
    walk_at "rd"
    rw [List.length_map, List.length_map]
    have ew : (if ((ms.length : Int)) > (ns.length : Int) then (ms.length : Int) else (ns.length : Int)) = ((max ns.length ms.length : Nat) : Int) := by
      split <;> omega
    rw [ew]
    obtain ⟨W, hW⟩ : ∃ W, W = max ns.length ms.length := ⟨_, rfl⟩
    rw [← hW]
    show iTup K (tTup (tCons (tVar 0) (tCons (tVar 1) tNil))) _ _ _
    unfold iTup
    walk_at "rd"
    refine ⟨by show 2 ≤ sizeLine; decide, fun t ht => ?_⟩
    have et := Ext.new (o := HO.tup [V.ref a, V.ref b]) ht
    have hT : SqT K (upd H t (.tup [V.ref a, V.ref b])) t [V.ref a, V.ref b] := SqT.of upd_same
    generalize upd H t (.tup [V.ref a, V.ref b]) = H1 at et hT
    refine ⟨t, rfl, ⟨_, hT⟩, fun D hD => lc_tup (xs := [V.ref a, V.ref b]) (PvR H1 D ns ms W) ⟨Ext.new hD, [], upd_same, rfl, fun j r q => nomatch q⟩ (fun i H' _ p => sqT_ext p.1 hT) ?_ ?_⟩
    · rintro i x H2 hi ⟨e2, rs, hrs, lrs, hr⟩
      obtain ⟨z, ds, rfl, hz, lz, hds⟩ : ∃ z ds, x = V.ref z ∧ SqT K H2 z (ds.map V.int) ∧ ds.length ≤ W ∧ ds = (if i = 0 then ns else ms) := by
        match i, hi with
        | 0, hi =>
          cases hi
          exact ⟨a, ns, rfl, sqT_ext (Ext.trans et e2) ha, by omega, rfl⟩
        | 1, hi =>
          cases hi
          exact ⟨b, ms, rfl, sqT_ext (Ext.trans et e2) hb, by omega, rfl⟩
      refine ⟨rfl, ?_⟩
      walk_at "rd"
      refine ⟨z, _, rfl, .inr hz, fun l hl => ?_⟩
      have e3 := Ext.new (o := HO.lst (ds.map V.int)) hl
      have hl3 : upd H2 l (.lst (ds.map V.int)) l = some (.lst (ds.map V.int)) := upd_same
      generalize upd H2 l (.lst (ds.map V.int)) = H3 at e3 hl3
      show iRng1 _ _ _ _
      unfold iRng1
      walk_at "rd"
      refine ⟨z, _, rfl, .inr (sqT_ext e3 hz), ?_⟩
      walk_at "rd"
      rw [List.length_map]
      refine ⟨by omega, by omega, fun D2 hD2 => ?_⟩
      have en : ((W : Int) - (ds.length : Int)).toNat = W - ds.length := by omega
      rw [en]
      refine lc_it walk_range (fun i H' => Ext H3 H' ∧ H' D2 = some (.lst ((List.replicate i (0 : Int)).map V.int))) ⟨Ext.new hD2, upd_same⟩ (fun _ _ _ _ => trivial) ?_ ?_
      · rintro i x Ha Hb hi ⟨e, hD'⟩ ⟨rfl, rfl⟩
        refine ⟨rfl, ?_⟩
        walk_at "rd"
        refine ⟨_, hD', ?_, fun b o q => ?_, ?_⟩
        · rw [List.length_map, List.length_replicate]
          omega
        · rw [upd_ne (ne_of_none q hD2)]
          exact e b o q
        · rw [upd_same, List.replicate_succ', List.map_append]
          rfl
      · rintro H4 ⟨e4, hD4⟩
        refine ⟨l, D2, _, _, rfl, rfl, e4 _ _ hl3, hD4, ?_, fun p hp => ?_⟩
        · rw [List.length_map, List.length_map, List.length_replicate]
          omega
        have e5 := Ext.new (o := HO.lst (ds.map V.int ++ (List.replicate (W - ds.length) (0 : Int)).map V.int)) hp
        have e25 := Ext.trans e3 (Ext.trans e4 e5)
        refine ⟨_, e25 _ _ hrs, ?_, ?_⟩
        · rw [List.length_map, lrs]
          have : i < 2 := (List.getElem?_eq_some_iff.mp hi).1
          omega
        · have pD : p ≠ D := by
            intro q
            subst q
            have := (Ext.trans e3 e4) _ _ hrs
            rw [hp] at this
            cases this
          refine ⟨fun o ob g => ?_, rs ++ [p], ?_, by rw [List.length_append, lrs]; rfl, fun j r hj => ?_⟩
          · rw [upd_ne (ne_of_none g hD)]
            exact e25 _ _ (e2 _ _ g)
          · rw [upd_same, List.map_append]
            rfl
          · by_cases hjl : j < rs.length
            · rw [List.getElem?_append_left hjl] at hj
              obtain ⟨n1, n2⟩ := hr j r hj
              refine ⟨n1, ?_⟩
              rw [upd_ne n1]
              exact e25 _ _ n2
            · rw [List.getElem?_append_right (by omega)] at hj
              have ej : j = i := by
                have := (List.getElem?_eq_some_iff.mp hj).1
                simp at this
                omega
              subst ej
              rw [lrs, Nat.sub_self] at hj
              obtain rfl : p = r := Option.some.inj hj
              refine ⟨pD, ?_⟩
              rw [upd_ne pD, upd_same, ← hds]
              unfold pad
              rw [List.map_append]
    · rintro H2 ⟨e2, rs, hrs, lrs, hr⟩
      obtain ⟨r1, r2, rfl⟩ : ∃ r1 r2, rs = [r1, r2] := by
        match rs, lrs with
        | [r1, r2], _ => exact ⟨r1, r2, rfl⟩
      have h1 : H2 r1 = some (.lst ((pad ns W).map V.int)) := (hr 0 r1 rfl).2
      have h2 : H2 r2 = some (.lst ((pad ms W).map V.int)) := (hr 1 r2 rfl).2
      have p1 : (pad ns W).length = W := pad_len (by omega)
      have p2 : (pad ms W).length = W := pad_len (by omega)
      have eH := Ext.trans et e2
      walk_at "rd"
      show iZipE K _ _ _ _
      unfold iZipE
      walk_at "rd"
      refine g_ixL (SqL.of hrs) (v := .ref r1) (by rfl) ?_
      walk_at "rd"
      refine g_ixL (SqL.of hrs) (v := .ref r2) (by rfl) ?_
      walk_at "rd"
      have hn : W = min ((pad ns W).map V.int).length ((pad ms W).map V.int).length := by
        rw [List.length_map, List.length_map]
        omega
      have lz : (List.zipWith (· + ·) (pad ns W) (pad ms W)).length = W := by
        rw [List.length_zipWith]
        omega
      refine ⟨true, true, r1, r2, _, _, rfl, SqL.of h1, SqL.of h2, fun D3 hD3 => lc_it (walk_zipE hn) (fun i H' => Ext H2 H' ∧ H' D3 = some (.lst (((List.zipWith (· + ·) (pad ns W) (pad ms W)).take i).map V.int))) ⟨Ext.new hD3, upd_same⟩
        (fun i H' _ q => ⟨SqL.of (q.1 _ _ h1), SqL.of (q.1 _ _ h2)⟩) ?_ ?_⟩
      · rintro i x Ha Hb hi ⟨e, hD'⟩ ⟨T2, v, w, rfl, hT2, rfl, hv, hw⟩
        have hv : ((pad ns W).map V.int)[i]? = some v := hv
        have hw : ((pad ms W).map V.int)[i]? = some w := hw
        rw [mapget] at hv hw
        obtain ⟨n, hn1, rfl⟩ := Option.map_eq_some_iff.mp hv
        obtain ⟨m, hm1, rfl⟩ := Option.map_eq_some_iff.mp hw
        have hlt : i < (List.zipWith (· + ·) (pad ns W) (pad ms W)).length := by omega
        have eq : (List.zipWith (· + ·) (pad ns W) (pad ms W))[i] = n + m := by
          rw [List.getElem_zipWith]
          obtain ⟨q1, q2⟩ := List.getElem?_eq_some_iff.mp hn1
          obtain ⟨q3, q4⟩ := List.getElem?_eq_some_iff.mp hm1
          rw [q2, q4]
        have eT := Ext.new (o := HO.tup [V.int n, V.int m]) hT2
        refine ⟨T2, _, rfl, SqT.of upd_same, rfl, _, _, rfl, ?_⟩
        refine ⟨_, _, rfl, rfl, rfl, ?_⟩
        walk_at "rd"
        refine ⟨_, eT _ _ hD', ?_, fun b o q => ?_, ?_⟩
        · rw [List.length_map, List.length_take]
          omega
        · rw [upd_ne (ne_of_none q hD3)]
          exact eT _ _ (e _ _ q)
        · rw [upd_same, take_one hlt, List.map_append, eq]
          rfl
      · rintro H3 ⟨e, hD'⟩
        have hz3 : H3 D3 = some (.lst ((addR ns ms).map V.int)) := by
          have q := hD'
          rw [List.take_of_length_le (by rw [lz]; exact Nat.le_refl _), hW, pad_add] at q
          exact q
        walk_at "rd"
        refine ⟨D3, _, rfl, .inl (SqL.of hz3), ?_, fun H4 u e4 hu => k H4 u (Ext.trans eH (Ext.trans e e4)) hu⟩
        rw [addR_len]
        omega
end
end K0

set_option Elab.async false
set_option linter.all false
set_option maxRecDepth 100000
set_option maxHeartbeats 4000000
/-! The law's own negative and raised row, its value at a number. -/
namespace K0
open PySem PySem.Spec PyProof.Rows L2 Gd
local macro_rules | `(tactic| walk_at "rd1") => `(tactic| first | with_reducible refine g_ret ?_ | with_reducible refine g_retN ?_ | with_reducible refine g_seq ?_ | with_reducible refine g_next ?_ | with_reducible refine g_drop ?_ | with_reducible refine g_asg ?_ | with_reducible refine g_name ?_ | with_reducible refine g_ifs ?_ | with_reducible refine g_test ?_ | with_reducible refine g_tb ?_ | with_reducible refine g_and ?_ | with_reducible refine g_or ?_ | with_reducible refine g_not ?_ | with_reducible refine g_andV ?_ | with_reducible refine g_orV ?_ | with_reducible refine g_notV ?_ | with_reducible refine g_if ?_ | with_reducible refine g_op ?_ | with_reducible refine g_un ?_ | with_reducible refine g_cb ?_ | with_reducible refine g_nil ?_ | with_reducible refine g_cons ?_ | with_reducible refine g_call ?_ | with_reducible refine g_callS ?_ | with_reducible refine g_tup ?_ | with_reducible refine g_lst ?_ | with_reducible refine g_isN ?_ | with_reducible refine g_sl ?_ | with_reducible refine g_nopart ?_ | with_reducible refine g_part ?_ | with_reducible refine g_chain ?_ | with_reducible refine g_fld ?_ | with_reducible refine g_prop ?_ | with_reducible refine g_bm ?_ | with_reducible refine g_bm0 ?_ | with_reducible refine g_c ?_ | with_reducible refine g_sub ?_ | with_reducible refine g_int1 ?_ | with_reducible refine g_int2 ?_ | with_reducible refine g_yes ?_ | with_reducible refine g_sfld ?_ | with_reducible refine g_NT ?_ | with_reducible refine g_NF ?_ | with_reducible refine iteT ?_ | with_reducible refine iteF ?_ | ((with_reducible refine' g_aug ?hv ?_); (case hv => exact rfl)) | ((with_reducible refine' g_var ?hv ?_); (case hv => exact rfl)) | with_reducible refine g_I0 ?_ | with_reducible refine g_U ?_ | with_reducible refine g_eqI ?_ | with_reducible refine g_blV ?_ | with_reducible refine g_inV ?_)
local macro_rules | `(tactic| walk_at "rd") => `(tactic| repeat walk_at "rd1")
section
variable {P : Program} {w : World} {K : PySem.W.Frag} {mg : Str → Option Value} {base : Heap} {f : Addr} {fd : FuncData}
abbrev sLRaised : Stmt := top 43
abbrev sLAt : Stmt := top 42
def spMinus (K : PySem.W.Frag) : Sp := fun vs H Q _ => ∃ (a : Addr) (ns : List Int), vs = [.ref a] ∧ SqT K H a (ns.map V.int) ∧ ns.length ≤ 50000 ∧ ∀ H' u, Ext H H' → SqT K H' u ((negR ns).map V.int) → Q (.ref u) H'
theorem scMinus : FnScope ["_law_factors_here", "_law_factor"] ["_law_factors_here"] (defScope sMinus) := ⟨rfl, rfl, rfl, by decide +kernel, rfl, by decide +kernel, by decide +kernel⟩
theorem ok_minus (F : Fun K "_law_minus" "_law_minus" sMinus f fd) (T : Txt K mg) : FnOk P w K mg base CX0 1 f fd ["_law_factors_here"] (spMinus K) := by
  refine F.ok scMinus (fun vs H Q E h => ?_) (fun cdv A outer s H vs Q E hr h => ?_)
  · obtain ⟨a, ns, rfl, _⟩ := h
    rfl
  · obtain ⟨a, ns, rfl, hs, hl, k⟩ := h
    refine ⟨_, pss_one (ps_ret (pe_callTy call_tuple_of (by rfl) T.tuple (by decide +kernel) (pa_cons (pe_lc (own := [("_law_factor", 1)]) (g := gName 1) (tt := tYes) rfl scMinus.nd (pi_tup (pv 0)) (blkOk_by (N := ["_law_factors_here", "_law_factor"]) (sc := defScope sMinus) (by decide +kernel))
      (fun _ _ _ _ _ => pg_name (i := 1) scMinus.nd rfl (Or.inl rfl)) (fun _ _ _ _ _ => pts_nil) (fun _ _ _ _ _ => pe_op op_sub pe_int (pv 1))) pa_nil))), ?_⟩
    have sz : (100000 : Nat) < sizeLine := by decide
    walk_at "rd"
    refine ⟨_, rfl, a, rfl, ⟨_, hs⟩, fun D hD => lc_tup (xs := ns.map V.int) (fun i H' => Ext H H' ∧ H' D = some (.lst ((negR (ns.take i)).map V.int))) ⟨Ext.new hD, upd_same⟩ (fun i H' _ q => sqT_ext q.1 hs) ?_ ?_⟩
    · rintro i x H' hi ⟨e, hD'⟩
      rw [mapget] at hi
      obtain ⟨n, hn, rfl⟩ := Option.map_eq_some_iff.mp hi
      have hlt : i < ns.length := (List.getElem?_eq_some_iff.mp hn).1
      refine ⟨rfl, ?_⟩
      walk_at "rd"
      refine ⟨_, hD', ?_, fun b o q => ?_, ?_⟩
      · rw [List.length_map, negR_len, List.length_take]
        omega
      · rw [upd_ne (ne_of_none q hD)]
        exact e b o q
      · have en : ns[i] = n := by
          rw [List.getElem?_eq_getElem hlt] at hn
          exact Option.some.inj hn
        rw [upd_same, take_one hlt, en]
        unfold negR
        rw [List.map_append, List.map_append]
        show _ = some (HO.lst (_ ++ [V.int (-n)]))
        rw [Int.zero_sub]
    · rintro H' ⟨e, hD'⟩
      rw [List.length_map, List.take_length] at hD'
      walk_at "rd"
      refine ⟨D, _, rfl, .inl ⟨SqL.of hD', fun u hu => k _ u (Ext.trans e (Ext.new hu)) (SqT.of upd_same)⟩⟩
def raisedR (ns : List Int) (m : Nat) : List Int := if ns = [] then [] else List.replicate m 0 ++ ns
def spLRaised (K : PySem.W.Frag) : Sp := fun vs H Q _ => ∃ (a : Addr) (ns : List Int) (m : Nat), vs = [.ref a, .int (m : Int)] ∧ SqT K H a (ns.map V.int) ∧ ns.length ≤ 50000 ∧ m ≤ 1000 ∧ ∀ H' u, Ext H H' → SqT K H' u ((raisedR ns m).map V.int) → Q (.ref u) H'
theorem scLRaised : FnScope ["_law_factors_here", "_law_many"] ["_law_factors_here", "_law_many"] (defScope sLRaised) := ⟨rfl, rfl, rfl, by decide +kernel, rfl, by decide +kernel, by decide +kernel⟩
theorem flat_zero1 (m : Nat) : (List.replicate m [V.int 0]).flatten = (List.replicate m (0 : Int)).map V.int := flatL_zero m
theorem g_cat2 {H : Hp} {Q : VK} {a b : Addr} {xs ys : List V} (ha : SqT K H a xs) (hb : SqT K H b ys) (hz : xs.length + ys.length ≤ sizeLine)
    (k : ∀ H' g, Ext H H' → SqT K H' g (xs ++ ys) → Q (.ref g) H') : rCatA K (.ref a) (.ref b) H Q := by
  refine ⟨a, b, xs, ys, rfl, rfl, ha, hb, hz, fun e => k H b (fun _ _ h => h) (by rw [e]; exact hb), fun _ e => k H a (fun _ _ h => h) (by rw [e, List.append_nil]; exact ha), fun _ _ p hp => k _ p (Ext.new hp) (SqT.of upd_same)⟩
theorem g_rep2 {H : Hp} {Q : VK} {a : Addr} {n : Nat} (ha : SqT K H a [V.int 0]) (h1 : n ≤ 1000) (k : ∀ H' g, Ext H H' → SqT K H' g ((List.replicate n (0 : Int)).map V.int) → Q (.ref g) H') : rRepA K (.ref a) (.int (n : Int)) H Q := by
  refine ⟨a, _, _, rfl, rfl, ha, by simp, by omega, by omega, by show 1 ≤ 1000; decide, fun e => k H a (fun _ _ h => h) ?_, fun _ p hp => k _ p (Ext.new hp) ?_⟩
  · obtain rfl : n = 1 := by omega
    exact ha
  · rw [Int.toNat_natCast, flat_zero1]
    exact SqT.of upd_same
theorem ok_lraised (F : Fun K "_law_raised" "_law_raised" sLRaised f fd) (T : Txt K mg) : FnOk P w K mg base CX0 1 f fd ["_law_factors_here", "_law_many"] (spLRaised K) := by
  refine F.ok scLRaised (fun vs H Q E h => ?_) (fun cdv A outer s H vs Q E hr h => ?_)
  · obtain ⟨a, ns, m, rfl, _⟩ := h
    rfl
  · obtain ⟨a, ns, m, rfl, hs, hl, hm, k⟩ := h
    refine ⟨_, pss_one (ps_ret (pe_ifExp (pt_cmpR (op_neD hr.units) (pv 0) (pe_tup pa_nil) (nomark _)) (pe_op op_catA (pe_op op_repA (pe_tup (pa_cons pe_int pa_nil)) (pv 1)) (pe_callTy call_tuple_of (by rfl) T.tuple (by decide +kernel) (pa_cons (pv 0) pa_nil))) (pe_tup pa_nil))), ?_⟩
    have sz : (100000 : Nat) < sizeLine := by decide
    have ev : PyData.eqv (.tuple (idata ns)) (.tuple []) = decide (ns = []) := eqv_ints ns []
    walk_at "rd"
    refine ⟨Nat.zero_le _, fun o ho => ?_⟩
    have e1 := Ext.new (o := HO.tup []) ho
    refine ⟨.tuple (idata ns), .tuple [], .tup (sqT_ext e1 hs) (dp_ints _), .tup (SqT.of upd_same) .nil, shaped_tup _, by rfl, ?_⟩
    rw [ev]
    generalize upd H o (.tup []) = H1 at e1
    walk_at "rd"
    by_cases hz : ns = []
    · rw [decide_eq_true hz]
      walk_at "rd"
      refine ⟨Nat.zero_le _, fun u hu => k _ u (Ext.trans e1 (Ext.new hu)) ?_⟩
      unfold raisedR
      rw [if_pos hz]
      exact SqT.of upd_same
    · rw [decide_eq_false hz]
      walk_at "rd"
      refine ⟨by show 1 ≤ sizeLine; decide, fun z hz0 => ?_⟩
      walk_at "rd"
      refine g_rep2 (SqT.of upd_same) hm (fun H2 g e2 hg => ?_)
      have e12 := Ext.trans e1 (Ext.trans (Ext.new hz0) e2)
      walk_at "rd"
      refine ⟨a, _, rfl, .inr ⟨sqT_ext e12 hs, ?_⟩⟩
      refine g_cat2 hg (sqT_ext e12 hs) (by rw [List.length_map, List.length_map, List.length_replicate]; omega) (fun H3 u e3 hu => k H3 u (Ext.trans e12 e3) ?_)
      unfold raisedR
      rw [if_neg hz, List.map_append]
      exact hu
end
end K0

set_option Elab.async false
set_option linter.all false
set_option maxRecDepth 100000
set_option maxHeartbeats 4000000
/-! Values at a number. -/
namespace K0
open PySem PySem.Spec PyProof.Rows L2 Gd
local macro_rules | `(tactic| walk_at "rd1") => `(tactic| first | with_reducible refine g_ret ?_ | with_reducible refine g_retN ?_ | with_reducible refine g_seq ?_ | with_reducible refine g_next ?_ | with_reducible refine g_drop ?_ | with_reducible refine g_asg ?_ | with_reducible refine g_name ?_ | with_reducible refine g_ifs ?_ | with_reducible refine g_test ?_ | with_reducible refine g_tb ?_ | with_reducible refine g_and ?_ | with_reducible refine g_or ?_ | with_reducible refine g_not ?_ | with_reducible refine g_andV ?_ | with_reducible refine g_orV ?_ | with_reducible refine g_notV ?_ | with_reducible refine g_if ?_ | with_reducible refine g_op ?_ | with_reducible refine g_un ?_ | with_reducible refine g_cb ?_ | with_reducible refine g_nil ?_ | with_reducible refine g_cons ?_ | with_reducible refine g_call ?_ | with_reducible refine g_callS ?_ | with_reducible refine g_tup ?_ | with_reducible refine g_lst ?_ | with_reducible refine g_isN ?_ | with_reducible refine g_sl ?_ | with_reducible refine g_nopart ?_ | with_reducible refine g_part ?_ | with_reducible refine g_chain ?_ | with_reducible refine g_fld ?_ | with_reducible refine g_prop ?_ | with_reducible refine g_bm ?_ | with_reducible refine g_bm0 ?_ | with_reducible refine g_c ?_ | with_reducible refine g_sub ?_ | with_reducible refine g_int1 ?_ | with_reducible refine g_int2 ?_ | with_reducible refine g_yes ?_ | with_reducible refine g_sfld ?_ | with_reducible refine g_NT ?_ | with_reducible refine g_NF ?_ | with_reducible refine iteT ?_ | with_reducible refine iteF ?_ | ((with_reducible refine' g_aug ?hv ?_); (case hv => exact rfl)) | ((with_reducible refine' g_var ?hv ?_); (case hv => exact rfl)) | with_reducible refine g_I0 ?_ | with_reducible refine g_U ?_ | with_reducible refine g_eqI ?_ | with_reducible refine g_blV ?_ | with_reducible refine g_inV ?_)
local macro_rules | `(tactic| walk_at "rd") => `(tactic| repeat walk_at "rd1")
def valR (x : Int) : List Int → Int
  | [] => 0
  | a :: r => valR x r * x + a
/-- the products on the way fit -/
def ValB (ns : List Int) (x : Int) : Prop := ∀ j, CMulW (valR x (ns.drop j)) x
theorem val_step {ns : List Int} {x : Int} {i : Nat} (h : i < ns.length) : valR x (ns.drop (ns.length - (i + 1))) = valR x (ns.drop (ns.length - i)) * x + at0 ns (ns.length - 1 - i) := by
  have e : ns.length - (i + 1) < ns.length := by omega
  rw [List.drop_eq_getElem_cons e]
  show valR x (ns.drop (ns.length - (i + 1) + 1)) * x + ns[ns.length - (i + 1)] = _
  have q : ns.length - (i + 1) + 1 = ns.length - i := by omega
  have a : at0 ns (ns.length - 1 - i) = ns[ns.length - (i + 1)] := by
    unfold at0
    have : ns.length - 1 - i = ns.length - (i + 1) := by omega
    rw [this, List.getElem?_eq_getElem e]
    rfl
  rw [q, a]
theorem rev_get {ns : List Int} {i : Nat} {v : V} (h : ((ns.map V.int).reverse)[i]? = some v) : i < ns.length ∧ v = .int (at0 ns (ns.length - 1 - i)) := by
  have hi : i < ns.length := by
    have := (List.getElem?_eq_some_iff.mp h).1
    rw [List.length_reverse, List.length_map] at this
    exact this
  refine ⟨hi, ?_⟩
  rw [List.getElem?_reverse (by rw [List.length_map]; exact hi), List.length_map, mapget] at h
  obtain ⟨n, hn, rfl⟩ := Option.map_eq_some_iff.mp h
  unfold at0
  rw [hn]
  rfl
section
variable {P : Program} {w : World} {K : PySem.W.Frag} {mg : Str → Option Value} {base : Heap} {f C CN : Addr} {fd : FuncData}
def spLAt (K : PySem.W.Frag) : Sp := fun vs H Q _ => ∃ (a : Addr) (ns : List Int) (x : Int), vs = [.ref a, .int x] ∧ SqT K H a (ns.map V.int) ∧ ValB ns x ∧ ∀ H', Ext H H' → Q (.int (valR x ns)) H'
theorem scLAt : FnScope ["_law_factors_here", "_law_number", "_law_found", "_law_factor"] ["_law_factors_here", "_law_number"] (defScope sLAt) := ⟨rfl, rfl, rfl, by decide +kernel, rfl, by decide +kernel, by decide +kernel⟩
def PvV (a : Addr) (x : Int) (H1 : Hp) (ns : List Int) (i : Nat) : L2.St → Hp → Prop := fun σ H' => H' = H1 ∧ ∃ y : Option V, σ = [some (.ref a), some (.int x), some (.int (valR x (ns.drop (ns.length - i)))), y]
theorem ok_lat (F : Fun K "_law_at" "_law_at" sLAt f fd) (T : Txt K mg) : FnOk P w K mg base CX0 1 f fd ["_law_factors_here", "_law_number"] (spLAt K) := by
  refine F.ok scLAt (fun vs H Q E h => ?_) (fun cdv A outer s H vs Q E hr h => ?_)
  · obtain ⟨a, ns, x, rfl, _⟩ := h
    rfl
  · obtain ⟨a, ns, x, rfl, hs, hB, k⟩ := h
    refine ⟨_, pss_cons (ps_set (i := 2) scLAt.nd rfl (Or.inl rfl) pe_int)
      (pss_cons (ps_for PassesOwn.never rfl (pi_list (pe_revL (pe_callTy call_list_of (by rfl) T.list (by decide +kernel) (pa_cons (pv 0) pa_nil)))) (pg_name (i := 3) scLAt.nd rfl (Or.inl rfl))
          (pss_one (ps_set (i := 2) scLAt.nd rfl (Or.inl rfl) (pe_op op_add (pe_op op_mulW (pv 2) (pv 1)) (pv 3)))))
        (pss_one (ps_ret (pv 2)))), ?_⟩
    walk_at "rd"
    show iList K (tRevL K _) _ _ _
    unfold iList tRevL
    walk_at "rd"
    refine ⟨a, _, rfl, .inr hs, fun l hl => ?_⟩
    have e1 := Ext.new (o := HO.lst (ns.map V.int)) hl
    refine ⟨l, _, rfl, SqL.of upd_same, fun r hr0 => ?_⟩
    have e2 := Ext.trans e1 (Ext.new (o := HO.lst (ns.map V.int).reverse) hr0)
    have hR : upd (upd H l (.lst (ns.map V.int))) r (.lst (ns.map V.int).reverse) r = some (.lst (ns.map V.int).reverse) := upd_same
    generalize upd (upd H l (.lst (ns.map V.int))) r (.lst (ns.map V.int).reverse) = H1 at e2 hR
    refine ⟨r, rfl, ⟨_, SqL.of hR⟩, for_list (xs := (ns.map V.int).reverse) (PvV a x H1 ns) ⟨rfl, _, by rw [Nat.sub_zero, List.drop_length]; rfl⟩ (fun i σ H' _ p => by rw [p.1]; exact SqL.of hR) ?_ ?_⟩
    · rintro i v σ H' hv ⟨rfl, y, rfl⟩
      obtain ⟨hi, rfl⟩ := rev_get hv
      refine g_name ?_
      walk_at "rd"
      refine g_I (hB _) ?_
      walk_at "rd"
      exact ⟨rfl, _, by rw [val_step hi]; rfl⟩
    · rintro σ H' ⟨rfl, y, rfl⟩
      rw [List.length_reverse, List.length_map, Nat.sub_self, List.drop_zero]
      walk_at "rd"
      exact k _ e2
/-! ### the program's own -/
def spValue (K : PySem.W.Frag) (C CN : Addr) : Sp := fun vs H Q E => ∃ (p u : Addr) (ns : List Int) (y : V) (b : Bool), vs = [.ref p, y] ∧ PolyU K C H p u ns ∧ IntB K H y b ∧
  (b = true → ∀ x, y = .int x → ValB ns x ∧ ∀ H', Ext H H' → Q (.int (valR x ns)) H') ∧
  (b = false → ∀ d, H d = none → E (.ref CN) (some d) (upd H d (.xd [(("value" : Str), y)])))
theorem sc5 : FnScope ["self", "number", "value", "factor"] ["self", "number"] (defScope (cls 5)) := ⟨rfl, rfl, rfl, by decide +kernel, rfl, by decide +kernel, by decide +kernel⟩
def PvC (p : Addr) (x : Int) (H1 : Hp) (ns : List Int) (i : Nat) : L2.St → Hp → Prop := fun σ H' => H' = H1 ∧ ∃ y : Option V, σ = [some (.ref p), some (.int x), some (.int (valR x (ns.drop (ns.length - i)))), y]
theorem ok_value {fW fI fC : Addr} {fdW fdI : FuncData} (F : Fun K "__call__" "Poly.__call__" (cls 5) f fd) (T : Txt K mg) (Cl : PC K mg C) (W : AtW K mg fW fdW) (I : AtI K mg fI fdI) (N : PySem.XInvalidNumber.InvalidNumberTxt K mg CN fC) :
    FnOk P w K mg base (L2.CX P w) 4 f fd ["self", "number"] (spValue K C CN) := by
  have GI : FnOk P w K mg base CX0 2 fI fdI ["value"] (spInteger K) := ok_integer I.F T W
  refine F.okX sc5 (fun vs H Q E h => ?_) (fun cdv A outer s H vs Q E hr h => ?_)
  · obtain ⟨p, u, ns, y, b, rfl, _⟩ := h
    rfl
  · obtain ⟨p, u, ns, y, b, rfl, ⟨⟨dx, hp⟩, hu, hl⟩, hy, k1, k2⟩ := h
    refine ⟨_, pss_cons (ps_if (pt_not (pt_val (pe_call GI (hr.mono (by decide)) (by rfl) I.g I.F.kp I.b .nil pass0 (pa_cons (pv 1) pa_nil)))) (pss_one (ps_raiseInvalidNumber rfl N hr (takes_of rfl rfl rfl rfl) (by exact (pa_cons (pv 1) pa_nil)))) pss_nil)
      (pss_cons (ps_set (i := 2) sc5.nd rfl (Or.inl rfl) pe_int)
      (pss_cons (ps_for (passes_of rfl) rfl (pi_tup (pe_revT (pe_fld (pv 0) rfl))) (pg_name (i := 3) sc5.nd rfl (Or.inl rfl))
          (pss_one (ps_set (i := 2) sc5.nd rfl (Or.inl rfl) (pe_op op_add (pe_op op_mulW (pv 2) (pv 1)) (pv 3)))))
        (pss_one (ps_ret (pv 2))))), ?_⟩
    walk_at "rd"
    refine ⟨y, b, rfl, hy, ?_⟩
    walk_at "rd"
    cases b with
    | false =>
      walk_at "rd"
      refine ⟨_, rfl, _, rfl, ?_⟩
      exact k2 rfl
    | true =>
      rcases hy with ⟨x, rfl, _⟩ | ⟨_, hb⟩
      · obtain ⟨hB, kq⟩ := k1 rfl x rfl
        walk_at "rd"
        show iTup K (tRevT K _) _ _ _
        unfold iTup tRevT
        walk_at "rd"
        refine ⟨p, C, dx, _, _, rfl, hp, Cl.cl, Cl.noF, look1 (u := .ref u), u, _, rfl, hu, fun r hr0 => ?_⟩
        have e2 := Ext.new (o := HO.tup (ns.map V.int).reverse) hr0
        have hR : upd H r (.tup (ns.map V.int).reverse) r = some (.tup (ns.map V.int).reverse) := upd_same
        generalize upd H r (.tup (ns.map V.int).reverse) = H1 at e2 hR
        refine ⟨r, rfl, ⟨_, SqT.of hR⟩, for_tup (xs := (ns.map V.int).reverse) (PvC p x H1 ns) ⟨rfl, _, by rw [Nat.sub_zero, List.drop_length]; rfl⟩ (fun i σ H' _ q => by rw [q.1]; exact SqT.of hR) ?_ ?_⟩
        · rintro i v σ H' hv ⟨rfl, y, rfl⟩
          obtain ⟨hi, rfl⟩ := rev_get hv
          refine g_name ?_
          walk_at "rd"
          refine g_I (hB _) ?_
          walk_at "rd"
          exact ⟨rfl, _, by rw [val_step hi]; rfl⟩
        · rintro σ H' ⟨rfl, y, rfl⟩
          rw [List.length_reverse, List.length_map, Nat.sub_self, List.drop_zero]
          walk_at "rd"
          exact kq _ e2
      · cases hb
end
end K0

set_option Elab.async false
set_option linter.all false
set_option maxRecDepth 100000
set_option maxHeartbeats 4000000
/-! Sums and products of rows: order, grouping, values. -/
namespace K0
/-! ### rows as what they have at each place -/
theorem at0_nil (k : Nat) : at0 [] k = 0 := rfl
theorem at0_out {a : List Int} {k : Nat} (h : a.length ≤ k) : at0 a k = 0 := by
  unfold at0
  rw [List.getElem?_eq_none_iff.mpr h]
  rfl
theorem at0_of {a : List Int} {k : Nat} {x : Int} (h : a[k]? = some x) : at0 a k = x := by
  unfold at0
  rw [h]
  rfl
theorem trim_none : ∀ b : List Int, (∀ k, at0 b k = 0) → trim b = []
  | [], _ => rfl
  | y :: b, h => by
    have e := trim_none b fun k => h (k + 1)
    have y0 : y = 0 := h 0
    unfold trim
    rw [e]
    show (if y = 0 then [] else [y]) = []
    rw [if_pos y0]
theorem trim_same : ∀ a b : List Int, (∀ k, at0 a k = at0 b k) → trim a = trim b
  | [], b, h => (trim_none b fun k => (h k).symm).symm
  | x :: a, [], h => trim_none (x :: a) h
  | x :: a, y :: b, h => by
    have e := trim_same a b fun k => h (k + 1)
    have xy : x = y := h 0
    unfold trim
    rw [e, xy]
theorem at0_trim : ∀ (a : List Int) (k : Nat), at0 (trim a) k = at0 a k
  | [], k => rfl
  | x :: a, k => by
    have ih := at0_trim a
    cases e : trim a with
    | nil =>
      rw [e] at ih
      have t : trim (x :: a) = if x = 0 then [] else [x] := by
        conv => lhs; unfold trim
        rw [e]
      rw [t]
      cases k with
      | zero =>
        by_cases hx : x = 0
        · rw [if_pos hx]
          exact hx.symm
        · rw [if_neg hx]
          rfl
      | succ k =>
        have z : at0 (x :: a) (k + 1) = 0 := (ih k).symm
        rw [z]
        by_cases hx : x = 0
        · rw [if_pos hx]
          rfl
        · rw [if_neg hx]
          rfl
    | cons y s =>
      rw [e] at ih
      have t : trim (x :: a) = x :: y :: s := by
        conv => lhs; unfold trim
        rw [e]
      rw [t]
      cases k with
      | zero => rfl
      | succ k => exact ih k
theorem at0_addR (a b : List Int) (k : Nat) : at0 (addR a b) k = at0 a k + at0 b k := by
  by_cases h : k < max a.length b.length
  · exact at0_of (addR_get a b k h)
  · rw [at0_out (by rw [addR_len]; omega), at0_out (a := a) (by omega), at0_out (a := b) (by omega)]
    rfl
theorem at0_negR : ∀ (a : List Int) (k : Nat), at0 (negR a) k = - at0 a k
  | [], k => rfl
  | x :: a, 0 => rfl
  | x :: a, k + 1 => at0_negR a k
/-! ### products -/
def cof : List Int → (Nat → Int) → Nat → Int
  | [], _, _ => 0
  | x :: _, g, 0 => x * g 0
  | x :: a, g, k + 1 => x * g (k + 1) + cof a g k
def sh (g : Nat → Int) : Nat → Int
  | 0 => 0
  | k + 1 => g k
theorem co_cof : ∀ (a b : List Int) (k : Nat), co a b k = cof a (at0 b) k
  | [], b, k => by cases k <;> rfl
  | x :: a, b, 0 => rfl
  | x :: a, b, k + 1 => by
    show x * at0 b (k + 1) + co a b k = x * at0 b (k + 1) + cof a (at0 b) k
    rw [co_cof a b k]
theorem cof_cons (x : Int) (a : List Int) (g : Nat → Int) (k : Nat) : cof (x :: a) g k = x * g k + sh (cof a g) k := by
  cases k with
  | zero =>
    show x * g 0 = x * g 0 + 0
    omega
  | succ k => rfl
theorem cof_same {g h : Nat → Int} (e : ∀ k, g k = h k) : ∀ (a : List Int) (k : Nat), cof a g k = cof a h k := by
  have : g = h := funext e
  rw [this]
  exact fun _ _ => rfl
theorem cof_add (g h : Nat → Int) : ∀ (a : List Int) (k : Nat), cof a (fun k => g k + h k) k = cof a g k + cof a h k
  | [], k => rfl
  | x :: a, 0 => Int.mul_add _ _ _
  | x :: a, k + 1 => by
    show x * (g (k + 1) + h (k + 1)) + cof a (fun k => g k + h k) k = x * g (k + 1) + cof a g k + (x * h (k + 1) + cof a h k)
    rw [cof_add g h a k, Int.mul_add]
    omega
theorem cof_mul (y : Int) (g : Nat → Int) : ∀ (a : List Int) (k : Nat), cof a (fun k => y * g k) k = y * cof a g k
  | [], k => (Int.mul_zero y).symm
  | x :: a, 0 => by
    show x * (y * g 0) = y * (x * g 0)
    rw [← Int.mul_assoc, ← Int.mul_assoc, Int.mul_comm x y]
  | x :: a, k + 1 => by
    show x * (y * g (k + 1)) + cof a (fun k => y * g k) k = y * (x * g (k + 1) + cof a g k)
    rw [cof_mul y g a k, Int.mul_add, ← Int.mul_assoc, ← Int.mul_assoc, Int.mul_comm x y]
theorem cof_sh (g : Nat → Int) : ∀ (a : List Int) (k : Nat), cof a (sh g) k = sh (cof a g) k
  | [], 0 => rfl
  | [], k + 1 => rfl
  | x :: a, 0 => Int.mul_zero x
  | x :: a, k + 1 => by
    show x * g k + cof a (sh g) k = cof (x :: a) g k
    rw [cof_sh g a k, cof_cons]
theorem cof_zero : ∀ (a : List Int) (k : Nat), cof a (fun _ => 0) k = 0
  | [], k => rfl
  | x :: a, 0 => Int.mul_zero x
  | x :: a, k + 1 => by
    show x * 0 + cof a (fun _ => 0) k = 0
    rw [cof_zero a k, Int.mul_zero]
    rfl
def e0 : Nat → Int
  | 0 => 1
  | _ + 1 => 0
theorem cof_e0 : ∀ (a : List Int) (k : Nat), cof a e0 k = at0 a k
  | [], k => rfl
  | x :: a, 0 => Int.mul_one x
  | x :: a, k + 1 => by
    show x * 0 + cof a e0 k = at0 a k
    rw [cof_e0 a k, Int.mul_zero, Int.zero_add]
theorem at0_cons (x : Int) (a : List Int) (k : Nat) : at0 (x :: a) k = x * e0 k + sh (at0 a) k := by
  cases k with
  | zero =>
    show x = x * 1 + 0
    omega
  | succ k =>
    show at0 a k = x * 0 + at0 a k
    rw [Int.mul_zero, Int.zero_add]
theorem cof_comm : ∀ (a b : List Int) (k : Nat), cof a (at0 b) k = cof b (at0 a) k
  | [], b, k => (cof_zero b k).symm
  | x :: a, b, k => by
    rw [cof_cons, cof_same (at0_cons x a) b k, cof_add (fun k => x * e0 k) (sh (at0 a)) b k, cof_mul, cof_e0, cof_sh]
    have : sh (cof a (at0 b)) k = sh (cof b (at0 a)) k := by
      cases k with
      | zero => rfl
      | succ k => exact cof_comm a b k
    rw [this]
theorem cof_swap (g : Nat → Int) (c : List Int) : ∀ (a : List Int) (k : Nat), cof c (cof a g) k = cof a (cof c g) k
  | [], k => cof_zero c k
  | x :: a, k => by
    rw [cof_same (cof_cons x a g) c k, cof_add (fun k => x * g k) (sh (cof a g)) c k, cof_mul, cof_sh, cof_cons]
    have : sh (cof c (cof a g)) k = sh (cof a (cof c g)) k := by
      cases k with
      | zero => rfl
      | succ k => exact cof_swap g c a k
    rw [this]
theorem cof_out {g : Nat → Int} {n : Nat} (hg : ∀ k, n ≤ k → g k = 0) : ∀ (a : List Int) (k : Nat), a.length + n ≤ k → cof a g k = 0
  | [], k, _ => rfl
  | x :: a, k, h => by
    rw [cof_cons, hg k (by simp only [List.length_cons] at h; omega), Int.mul_zero, Int.zero_add]
    cases k with
    | zero => rfl
    | succ k => exact cof_out hg a k (by simp only [List.length_cons] at h; omega)
theorem at0_mulR (a b : List Int) (k : Nat) : at0 (mulR a b) k = cof a (at0 b) k := by
  by_cases h : k < a.length + b.length
  · rw [← co_cof]
    refine at0_of ?_
    unfold mulR
    rw [List.getElem?_map, List.getElem?_range h]
    rfl
  · rw [at0_out (by rw [mulR_len]; omega), cof_out (n := b.length) (fun k hk => at0_out hk) a k (by omega)]
/-! ### the laws -/
theorem mul_comm' (a b : List Int) : trim (mulR a b) = trim (mulR b a) := trim_same _ _ fun k => by rw [at0_mulR, at0_mulR, cof_comm]
theorem mul_trim_left (a b : List Int) : trim (mulR (trim a) b) = trim (mulR a b) := trim_same _ _ fun k => by
  rw [at0_mulR, at0_mulR, cof_comm, cof_comm a b]
  exact cof_same (at0_trim a) b k
theorem mul_trim_right (a b : List Int) : trim (mulR a (trim b)) = trim (mulR a b) := trim_same _ _ fun k => by
  rw [at0_mulR, at0_mulR]
  exact cof_same (at0_trim b) a k
theorem add_trim_left (a b : List Int) : trim (addR (trim a) b) = trim (addR a b) := trim_same _ _ fun k => by rw [at0_addR, at0_addR, at0_trim]
theorem add_trim_right (a b : List Int) : trim (addR a (trim b)) = trim (addR a b) := trim_same _ _ fun k => by rw [at0_addR, at0_addR, at0_trim]
theorem add_assoc' (a b c : List Int) : trim (addR (addR a b) c) = trim (addR a (addR b c)) := trim_same _ _ fun k => by
  rw [at0_addR, at0_addR, at0_addR, at0_addR, Int.add_assoc]
theorem mul_assoc' (a b c : List Int) : trim (mulR (mulR a b) c) = trim (mulR a (mulR b c)) := trim_same _ _ fun k => by
  rw [at0_mulR, at0_mulR, cof_comm, cof_same (at0_mulR a b) c k, cof_same (at0_mulR b c) a k, cof_swap, cof_same (fun k => cof_comm c b k) a k]
theorem mul_add' (a b c : List Int) : trim (mulR a (addR b c)) = trim (addR (mulR a b) (mulR a c)) := trim_same _ _ fun k => by
  rw [at0_mulR, at0_addR, at0_mulR, at0_mulR, cof_same (at0_addR b c) a k, cof_add]
theorem sub_self (a : List Int) : trim (addR a (negR a)) = [] := trim_none _ fun k => by
  rw [at0_addR, at0_negR]
  omega
/-! ### values -/
theorem val_none (x : Int) : ∀ b : List Int, (∀ k, at0 b k = 0) → valR x b = 0
  | [], _ => rfl
  | y :: b, h => by
    have y0 : y = 0 := h 0
    show valR x b * x + y = 0
    rw [val_none x b fun k => h (k + 1), y0, Int.zero_mul]
    rfl
theorem val_same (x : Int) : ∀ a b : List Int, (∀ k, at0 a k = at0 b k) → valR x a = valR x b
  | [], b, h => (val_none x b fun k => (h k).symm).symm
  | y :: a, [], h => val_none x (y :: a) h
  | y :: a, z :: b, h => by
    have yz : y = z := h 0
    show valR x a * x + y = valR x b * x + z
    rw [val_same x a b fun k => h (k + 1), yz]
theorem val_trim (x : Int) (a : List Int) : valR x (trim a) = valR x a := val_same x _ _ (at0_trim a)
theorem val_add (x : Int) : ∀ a b : List Int, valR x (addR a b) = valR x a + valR x b
  | [], b => (Int.zero_add _).symm
  | y :: a, [] => (Int.add_zero _).symm
  | y :: a, z :: b => by
    show valR x (addR a b) * x + (y + z) = valR x a * x + y + (valR x b * x + z)
    rw [val_add x a b, Int.add_mul]
    omega
theorem val_scale (x y : Int) : ∀ b : List Int, valR x (b.map fun z => y * z) = y * valR x b
  | [] => (Int.mul_zero y).symm
  | z :: b => by
    show valR x (b.map fun z => y * z) * x + y * z = y * (valR x b * x + z)
    rw [val_scale x y b, Int.mul_add, Int.mul_assoc]
theorem at0_scale (y : Int) : ∀ (b : List Int) (k : Nat), at0 (b.map fun z => y * z) k = y * at0 b k
  | [], k => (Int.mul_zero y).symm
  | z :: b, 0 => rfl
  | z :: b, k + 1 => at0_scale y b k
theorem val_mul (x : Int) : ∀ a b : List Int, valR x (mulR a b) = valR x a * valR x b
  | [], b => by
    rw [val_none x (mulR [] b) fun k => at0_mulR [] b k]
    exact (Int.zero_mul _).symm
  | y :: a, b => by
    have e : valR x (mulR (y :: a) b) = valR x (addR (b.map fun z => y * z) (0 :: mulR a b)) := val_same x _ _ fun k => by
      rw [at0_mulR, cof_cons, at0_addR, at0_scale]
      congr 1
      cases k with
      | zero => rfl
      | succ k => exact (at0_mulR a b k).symm
    rw [e, val_add, val_scale]
    show y * valR x b + (valR x (mulR a b) * x + 0) = (valR x a * x + y) * valR x b
    rw [val_mul x a b, Int.add_mul, Int.add_zero, Int.mul_right_comm]
    omega
end K0

set_option Elab.async false
set_option linter.all false
set_option maxRecDepth 100000
set_option maxHeartbeats 4000000
/-! How long the text of some rows is. -/
namespace K0
open PySem PySem.Spec PyProof.Rows L2 Gd
section
theorem log_bits {A : Nat} {n : Int} (h0 : 0 < A) (h : n.natAbs < 2 ^ A) : n.natAbs.log2 < A := by
  by_cases z : n.natAbs = 0
  · rw [z]
    exact h0
  · exact (Nat.log2_lt z).mpr h
theorem shown_bits {A : Nat} {n : Int} (h0 : 0 < A) (h : n.natAbs < 2 ^ A) : (PyData.shown (.int n)).length ≤ A + 1 := by
  show (Str.ofString (toString n)).length ≤ A + 1
  rw [PySem.ofString_length]
  exact int_text_length_le h0 (log_bits h0 h)
theorem row_show {A : Nat} (h0 : 0 < A) (hA : A ≤ 1920) : ∀ ns : List Int, Bits A ns → PyData.showableAll (idata ns) = true
  | [], _ => rfl
  | x :: r, h => by
    show (decide (x.natAbs.log2 < 1920) && PyData.showableAll (idata r)) = true
    rw [row_show h0 hA r fun n hn => h n (List.mem_cons_of_mem _ hn), decide_eq_true (Nat.lt_of_lt_of_le (log_bits h0 (h x List.mem_cons_self)) hA)]
    rfl
theorem row_nodict : ∀ ns : List Int, PyData.hasDictAll (idata ns) = false
  | [] => rfl
  | x :: r => by
    show (false || PyData.hasDictAll (idata r)) = false
    rw [row_nodict r]
    rfl
theorem row_texts {A : Nat} (h0 : 0 < A) : ∀ ns : List Int, Bits A ns → ((PyData.shownAll (idata ns)).map (·.length)).sum ≤ (A + 1) * ns.length ∧ (PyData.shownAll (idata ns)).length = ns.length
  | [], _ => ⟨Nat.le_refl _, rfl⟩
  | x :: r, h => by
    obtain ⟨h1, h2⟩ := row_texts h0 r fun n hn => h n (List.mem_cons_of_mem _ hn)
    have e := shown_bits h0 (h x List.mem_cons_self)
    refine ⟨?_, ?_⟩
    · show (PyData.shown (.int x)).length + ((PyData.shownAll (idata r)).map (·.length)).sum ≤ (A + 1) * (r.length + 1)
      rw [Nat.mul_add, Nat.mul_one]
      omega
    · show (PyData.shownAll (idata r)).length + 1 = r.length + 1
      rw [h2]
theorem tup_text {A : Nat} (h0 : 0 < A) {ns : List Int} (h : Bits A ns) : (PyData.shown (.tuple (idata ns))).length ≤ (A + 3) * ns.length + 3 := by
  obtain ⟨h1, h2⟩ := row_texts h0 ns h
  have e := tupleText_len_le (PyData.shownAll (idata ns))
  show (tupleText (PyData.shownAll (idata ns))).length ≤ _
  rw [h2] at e
  have q : (A + 3) * ns.length = (A + 1) * ns.length + 2 * ns.length := by
    rw [← Nat.add_mul]
  omega
/-- a list of tuples of integers -/
def rows (rs : List (List Int)) : PyData := .list (rs.map fun ns => .tuple (idata ns))
theorem rows_show {A : Nat} (h0 : 0 < A) (hA : A ≤ 1920) : ∀ rs : List (List Int), (∀ ns ∈ rs, Bits A ns) → (rows rs).showable = true
  | [], _ => rfl
  | ns :: rs, h => by
    have ih : PyData.showableAll (rs.map fun ns => PyData.tuple (idata ns)) = true := rows_show h0 hA rs fun ms hm => h ms (List.mem_cons_of_mem _ hm)
    show (PyData.showableAll (idata ns) && PyData.showableAll (rs.map fun ns => PyData.tuple (idata ns))) = true
    rw [row_show h0 hA ns (h ns List.mem_cons_self), ih]
    rfl
theorem rows_nodict : ∀ rs : List (List Int), (rows rs).hasDict = false
  | [] => rfl
  | ns :: rs => by
    have ih : PyData.hasDictAll (rs.map fun ns => PyData.tuple (idata ns)) = false := rows_nodict rs
    show (PyData.hasDictAll (idata ns) || PyData.hasDictAll (rs.map fun ns => PyData.tuple (idata ns))) = false
    rw [row_nodict ns, ih]
    rfl
theorem rows_depth0 : ∀ rs : List (List Int), PyData.depthAll (rs.map fun ns => PyData.tuple (idata ns)) ≤ 1
  | [] => Nat.zero_le _
  | ns :: rs => by
    show max (PyData.depthAll (idata ns) + 1) (PyData.depthAll (rs.map fun ns => PyData.tuple (idata ns))) ≤ 1
    rw [deep_ints]
    exact Nat.max_le.mpr ⟨Nat.le_refl _, rows_depth0 rs⟩
theorem rows_depth (rs : List (List Int)) : (rows rs).depth ≤ 60 := by
  have := rows_depth0 rs
  show PyData.depthAll (rs.map fun ns => PyData.tuple (idata ns)) + 1 ≤ 60
  omega
theorem rows_texts {A L : Nat} (h0 : 0 < A) : ∀ rs : List (List Int), (∀ ns ∈ rs, Bits A ns ∧ ns.length ≤ L) →
    ((PyData.shownAll (rs.map fun ns => PyData.tuple (idata ns))).map (·.length)).sum ≤ ((A + 3) * L + 3) * rs.length ∧ (PyData.shownAll (rs.map fun ns => PyData.tuple (idata ns))).length = rs.length
  | [], _ => ⟨Nat.le_refl _, rfl⟩
  | ns :: rs, h => by
    obtain ⟨h1, h2⟩ := rows_texts h0 rs fun ms hm => h ms (List.mem_cons_of_mem _ hm)
    obtain ⟨b, l⟩ := h ns List.mem_cons_self
    have e := tup_text h0 b
    have m : (A + 3) * ns.length ≤ (A + 3) * L := Nat.mul_le_mul_left _ l
    refine ⟨?_, ?_⟩
    · show (PyData.shown (.tuple (idata ns))).length + ((PyData.shownAll (rs.map fun ns => PyData.tuple (idata ns))).map (·.length)).sum ≤ ((A + 3) * L + 3) * (rs.length + 1)
      rw [Nat.mul_add, Nat.mul_one]
      omega
    · show (PyData.shownAll (rs.map fun ns => PyData.tuple (idata ns))).length + 1 = rs.length + 1
      rw [h2]
theorem rows_size {A L : Nat} (h0 : 0 < A) {rs : List (List Int)} (h : ∀ ns ∈ rs, Bits A ns ∧ ns.length ≤ L) (fit : ((A + 3) * L + 5) * rs.length + 3 ≤ 16777216) : (rows rs).shown.length ≤ sizeLine := by
  obtain ⟨h1, h2⟩ := rows_texts h0 rs h
  have e := listText_len_le (PyData.shownAll (rs.map fun ns => PyData.tuple (idata ns)))
  rw [h2] at e
  rw [sizeLine_eq]
  show (listText (PyData.shownAll (rs.map fun ns => PyData.tuple (idata ns)))).length ≤ _
  have q : ((A + 3) * L + 5) * rs.length = ((A + 3) * L + 3) * rs.length + 2 * rs.length := by
    rw [← Nat.add_mul]
  omega
/-! ### how great the factors of sums and products are -/
theorem bits_at {A : Nat} {a : List Int} (h : Bits A a) (k : Nat) : (at0 a k).natAbs < 2 ^ A := by
  unfold at0
  cases e : a[k]? with
  | none => exact Nat.two_pow_pos A
  | some x => exact h x (List.mem_of_getElem? e)
theorem bits_of {A : Nat} {a : List Int} (h : ∀ k, (at0 a k).natAbs < 2 ^ A) : Bits A a := fun n hn => by
  obtain ⟨k, hk⟩ := List.getElem?_of_mem hn
  have := h k
  rw [at0_of hk] at this
  exact this
theorem bits_trim {A : Nat} {a : List Int} (h : Bits A a) : Bits A (trim a) := fun n hn => h n (trim_mem a n hn)
theorem bits_neg {A : Nat} {a : List Int} (h : Bits A a) : Bits A (negR a) := fun n hn => by
  obtain ⟨m, hm, rfl⟩ := List.mem_map.mp hn
  rw [Int.natAbs_neg]
  exact h m hm
theorem bits_mono {A B : Nat} (hAB : A ≤ B) {a : List Int} (h : Bits A a) : Bits B a := fun n hn => Nat.lt_of_lt_of_le (h n hn) (Nat.pow_le_pow_right (by decide) hAB)
theorem bits_add {A : Nat} {a b : List Int} (ha : Bits A a) (hb : Bits A b) : Bits (A + 1) (addR a b) := bits_of fun k => by
  have x := bits_at ha k
  have y := bits_at hb k
  rw [at0_addR, Nat.pow_succ]
  omega
theorem cof_bits {A B : Nat} {g : Nat → Int} (hg : ∀ k, (g k).natAbs < 2 ^ B) : ∀ (a : List Int), Bits A a → ∀ k, (cof a g k).natAbs ≤ a.length * (2 ^ A * 2 ^ B)
  | [], _, k => Nat.zero_le _
  | x :: a, h, k => by
    have ih := cof_bits hg a fun n hn => h n (List.mem_cons_of_mem _ hn)
    have e : (x * g k).natAbs ≤ 2 ^ A * 2 ^ B := by
      rw [Int.natAbs_mul]
      exact Nat.mul_le_mul (Nat.le_of_lt (h x List.mem_cons_self)) (Nat.le_of_lt (hg k))
    have f : (sh (cof a g) k).natAbs ≤ a.length * (2 ^ A * 2 ^ B) := by
      cases k with
      | zero => exact Nat.zero_le _
      | succ k => exact ih k
    rw [cof_cons]
    show (x * g k + sh (cof a g) k).natAbs ≤ (a.length + 1) * (2 ^ A * 2 ^ B)
    rw [Nat.add_mul, Nat.one_mul]
    have t := Int.natAbs_add_le (x * g k) (sh (cof a g) k)
    omega
theorem bits_mul {A B L : Nat} {a b : List Int} (ha : Bits A a) (hb : Bits B b) (hl : a.length < 2 ^ L) : Bits (L + A + B) (mulR a b) := bits_of fun k => by
  rw [at0_mulR]
  have e := cof_bits (bits_at hb) a ha k
  refine Nat.lt_of_le_of_lt e ?_
  rw [Nat.pow_add, Nat.pow_add, Nat.mul_assoc]
  exact Nat.mul_lt_mul_of_lt_of_le hl (Nat.le_refl _) (Nat.mul_pos (Nat.two_pow_pos _) (Nat.two_pow_pos _))
end
end K0

set_option Elab.async false
set_option linter.all false
set_option maxRecDepth 100000
set_option maxHeartbeats 4000000
/-! A lambda handed to the def that catches its refusals. -/
namespace K0
open PySem PySem.Spec PyProof.Rows L2 Gd
open LamX (Tabs TabB ExtN GivesTo CodeO tLam)
local macro_rules | `(tactic| walk_at "rd1") => `(tactic| first | with_reducible refine g_ret ?_ | with_reducible refine g_retN ?_ | with_reducible refine g_seq ?_ | with_reducible refine g_next ?_ | with_reducible refine g_drop ?_ | with_reducible refine g_asg ?_ | with_reducible refine g_name ?_ | with_reducible refine g_ifs ?_ | with_reducible refine g_test ?_ | with_reducible refine g_tb ?_ | with_reducible refine g_and ?_ | with_reducible refine g_or ?_ | with_reducible refine g_not ?_ | with_reducible refine g_andV ?_ | with_reducible refine g_orV ?_ | with_reducible refine g_notV ?_ | with_reducible refine g_if ?_ | with_reducible refine g_op ?_ | with_reducible refine g_un ?_ | with_reducible refine g_cb ?_ | with_reducible refine g_nil ?_ | with_reducible refine g_cons ?_ | with_reducible refine g_call ?_ | with_reducible refine g_callS ?_ | with_reducible refine g_tup ?_ | with_reducible refine g_lst ?_ | with_reducible refine g_isN ?_ | with_reducible refine g_sl ?_ | with_reducible refine g_nopart ?_ | with_reducible refine g_part ?_ | with_reducible refine g_chain ?_ | with_reducible refine g_fld ?_ | with_reducible refine g_prop ?_ | with_reducible refine g_bm ?_ | with_reducible refine g_bm0 ?_ | with_reducible refine g_c ?_ | with_reducible refine g_sub ?_ | with_reducible refine g_int1 ?_ | with_reducible refine g_int2 ?_ | with_reducible refine g_yes ?_ | with_reducible refine g_sfld ?_ | with_reducible refine g_NT ?_ | with_reducible refine g_NF ?_ | with_reducible refine iteT ?_ | with_reducible refine iteF ?_ | ((with_reducible refine' g_aug ?hv ?_); (case hv => exact rfl)) | ((with_reducible refine' g_var ?hv ?_); (case hv => exact rfl)) | with_reducible refine g_I0 ?_ | with_reducible refine g_U ?_ | with_reducible refine g_eqI ?_ | with_reducible refine g_blV ?_ | with_reducible refine g_inV ?_)
local macro_rules | `(tactic| walk_at "rd") => `(tactic| repeat walk_at "rd1")
abbrev sRefused : Stmt := top 46
theorem scRefused : FnScope ["_law_call", "e"] ["_law_call"] (defScope sRefused) := ⟨rfl, rfl, rfl, by decide +kernel, rfl, by decide +kernel, by decide +kernel⟩
/-- told of a call: the factors of what it gives, or what it is refused with -/
def TRef (K : PySem.W.Frag) (C CR CT : Addr) : (XK → Hp → VK → Prop) → Hp → VK → Prop := fun tl H Q =>
  tl (fun cls d H' => (cls = .ref CR ∧ ∃ dd r, d = some dd ∧ H' dd = some (.xd [(("reason" : Str), r)]) ∧ Q r H') ∨
      (cls = .ref CT ∧ ∃ dd i, d = some dd ∧ H' dd = some (.xd [(("limit" : Str), .int i)]) ∧ ∀ t, H' t = none → Q (.ref t) (upd H' t (.tup [.str "many", .int i]))))
    H (fun x H1 => ∃ a dx fs, x = V.ref a ∧ H1 a = some (.ins C dx fs) ∧ spGet K C (fun u _ => .ref u) [.ref a] H1 Q fun _ _ _ => False)
theorem takes_len {X : Cx} {W : WX} (t : Takes X W) : Takes X (fun cls d σ H => σ.length = X.N.length → W cls d σ H) := fun u s' ⟨a, B, sI, pins, σ, H, cls, d, e, I, nb, up, sky, na, os, ag, w⟩ =>
  t u s' ⟨a, B, sI, pins, σ, H, cls, d, e, I, nb, up, sky, na, os, ag, w I.len⟩
theorem ref_gives {X : Cx} {C CR fR CT fT pF fF g : Addr} {fdF : FuncData} {cdg : Value} {q : Str} (Cl : PC X.K X.mg C) (PF : AtP X.K C "factors" "Poly.factors" 2 pF fF fdF)
    (R : PySem.XRefused.RefusedTxt X.K X.mg CR fR) (M : PySem.XTooMany.TooManyTxt X.K X.mg CT fT) (nRT : PySem.W.exmOne X.K (.ref CT) (.ref CR) = some false) (hr : Room 3 X.A) :
    GivesTo X ["_law_call", "e"] "_law_refused" (defScope sRefused) g cdg (defBody sRefused) "_law_call" q (TRef X.K C CR CT) := by
  have GF : FnOk X.prog X.w X.K X.mg X.base CX0 1 fF fdF ["self"] (spGet X.K C fun u _ => .ref u) := ok_factors PF.F Cl
  intro f c' s H Q tl act hc h
  have hr2 : Room 2 (X.A.deeper (envOfC "_law_refused" (defScope sRefused) s.heap.objs.size g cdg)) := hr.deeper _
  refine ⟨_, pss_one (ps_try_asAll (X := (cxOf C8.CX0 X.prog X.w X.K X.mg X.base ["_law_call", "e"] "_law_refused" (defScope sRefused) g cdg X.A X.stack s H C8.E0).nox) (i := 1)
      (tb := fun W D σ H => ∃ Ech : XK, (∀ cls d σ' H', σ'.length = 2 → Ech cls d H' → W cls d σ' H') ∧ σ[0]? = some (some (.ref f)) ∧ H c' = some (CodeO c' q) ∧
        tl Ech H fun x H1 => ∃ a dx fs, x = V.ref a ∧ H1 a = some (.ins C dx fs) ∧ spGet X.K C (fun u _ => .ref u) [.ref a] H1 D.rt (fun _ _ _ => False))
      (Wo := fun _ _ _ _ => False) rfl rfl scRefused.nd rfl rfl L2.takes0 (fun W pn xe tk _ => ?_)
      (AsOk.cons (c := .ref CR) ⟨rfl, by decide, Or.inl R.gC⟩ (fun a oe cls d pn hz hf => pss_one (ps_ret (pe_byRefused R hz hf (pv 1))))
        (AsOk.cons (c := .ref CT) ⟨rfl, by decide, Or.inl M.gC⟩ (fun a oe cls d pn hz hf => pss_one (ps_ret (pe_tup (pa_cons pe_str (pa_cons (pe_byTooMany M hz hf (pv 1)) pa_nil))))) AsOk.nil))), ?_⟩
  · constructor
    intro pins s' σ H' D I h'
    obtain ⟨Ech, hW, h1, h2, h3⟩ := h'
    exact (pss_one (ps_ret (pe_prop (act _ pn xe Ech _ _ (takes_len tk) fun cls d σ' H' z l => hW cls d σ' H' l z) Cl.cl PF.p GF hr2 PF.b .nil pass0 rfl))).run pins s' σ H' D I ⟨h1, h2, h3⟩
  · refine ⟨_, fun cls d σ' H' l k => ?_, rfl, hc, h⟩
    obtain ⟨x, y, rfl⟩ : ∃ x y, σ' = [x, y] := by
      match σ', l with
      | [x, y], _ => exact ⟨x, y, rfl⟩
    rcases k with ⟨rfl, dd, r, rfl, e, q⟩ | ⟨rfl, dd, i, rfl, e, q⟩
    · refine ⟨true, R.te, fun _ a _ => ?_, fun z => Bool.noConfusion z⟩
      exact ⟨_, rfl, rfl, rfl, dd, r, rfl, e, q⟩
    · refine ⟨false, nRT, fun z => Bool.noConfusion z, fun _ => ⟨true, M.te, fun _ a _ => ?_, fun z => Bool.noConfusion z⟩⟩
      exact ⟨_, rfl, rfl, rfl, dd, _, rfl, e, by show 2 ≤ sizeLine; decide, fun t ht => q t ht⟩
end K0

set_option Elab.async false
set_option linter.all false
set_option maxRecDepth 100000
set_option maxHeartbeats 4000000
/-! What the law's defs lean on, in one word each; rows that fit. -/
namespace K0
open PySem PySem.Spec PyProof.Rows L2 Gd
local macro_rules | `(tactic| walk_at "rd1") => `(tactic| first | with_reducible refine g_ret ?_ | with_reducible refine g_retN ?_ | with_reducible refine g_seq ?_ | with_reducible refine g_next ?_ | with_reducible refine g_drop ?_ | with_reducible refine g_asg ?_ | with_reducible refine g_name ?_ | with_reducible refine g_ifs ?_ | with_reducible refine g_test ?_ | with_reducible refine g_tb ?_ | with_reducible refine g_and ?_ | with_reducible refine g_or ?_ | with_reducible refine g_not ?_ | with_reducible refine g_andV ?_ | with_reducible refine g_orV ?_ | with_reducible refine g_notV ?_ | with_reducible refine g_if ?_ | with_reducible refine g_op ?_ | with_reducible refine g_un ?_ | with_reducible refine g_cb ?_ | with_reducible refine g_nil ?_ | with_reducible refine g_cons ?_ | with_reducible refine g_call ?_ | with_reducible refine g_callS ?_ | with_reducible refine g_tup ?_ | with_reducible refine g_lst ?_ | with_reducible refine g_isN ?_ | with_reducible refine g_sl ?_ | with_reducible refine g_nopart ?_ | with_reducible refine g_part ?_ | with_reducible refine g_chain ?_ | with_reducible refine g_fld ?_ | with_reducible refine g_prop ?_ | with_reducible refine g_bm ?_ | with_reducible refine g_bm0 ?_ | with_reducible refine g_c ?_ | with_reducible refine g_sub ?_ | with_reducible refine g_int1 ?_ | with_reducible refine g_int2 ?_ | with_reducible refine g_yes ?_ | with_reducible refine g_sfld ?_ | with_reducible refine g_NT ?_ | with_reducible refine g_NF ?_ | with_reducible refine iteT ?_ | with_reducible refine iteF ?_ | ((with_reducible refine' g_aug ?hv ?_); (case hv => exact rfl)) | ((with_reducible refine' g_var ?hv ?_); (case hv => exact rfl)) | with_reducible refine g_I0 ?_ | with_reducible refine g_U ?_ | with_reducible refine g_eqI ?_ | with_reducible refine g_blV ?_ | with_reducible refine g_inV ?_)
local macro_rules | `(tactic| walk_at "rd") => `(tactic| repeat walk_at "rd1")
/-! ### defs and methods, their places hidden -/
structure Def1 (P : Program) (w : World) (K : PySem.W.Frag) (mg : Str → Option Value) (base : Heap) (CX : CXT) (k : Nat) (name : Str) (ps : List Str) (sp : Sp) : Prop where
  ex : ∃ (f : Addr) (fd : FuncData), mg name = some (.ref f) ∧ PySem.W.keepIn K (.ref f) = true ∧ FnOk P w K mg base CX k f fd ps sp ∧ Binds K fd ps []
structure Def1G (P : Program) (w : World) (K : PySem.W.Frag) (mg : Str → Option Value) (base : Heap) (CX : CXT) (k : Nat) (name : Str) (ps : List Str) (sp : Sp) : Prop where
  ex : ∃ (f : Addr) (fd : FuncData), mg name = some (.ref f) ∧ PySem.W.keepIn K (.ref f) = true ∧ FnG P w K mg base CX k f fd ps sp ∧ Binds K fd ps []
structure Bin1 (P : Program) (w : World) (K : PySem.W.Frag) (mg : Str → Option Value) (base : Heap) (C : Addr) (m r : Str) (sp : Sp) : Prop where
  ex : ∃ (f : Addr) (fd : FuncData), BinC K C m r f ∧ FnOk P w K mg base CX0 7 f fd ["self", "other"] sp ∧ Binds K fd ["self", "other"] []
structure Met1 (P : Program) (w : World) (K : PySem.W.Frag) (mg : Str → Option Value) (base : Heap) (CX : CXT) (k : Nat) (C : Addr) (m : Str) (ps : List Str) (sp : Sp) : Prop where
  ex : ∃ (f : Addr) (fd : FuncData), Meth K C m f ∧ PySem.W.fnIn K f = true ∧ FnOk P w K mg base CX k f fd ps sp ∧ Binds K fd ps []
structure Pro1 (P : Program) (w : World) (K : PySem.W.Frag) (mg : Str → Option Value) (base : Heap) (C : Addr) (x : Str) (sp : Sp) : Prop where
  ex : ∃ (p f : Addr) (fd : FuncData), PropOf K C x p f ∧ FnOk P w K mg base CX0 1 f fd ["self"] sp ∧ Binds K fd ["self"] []
structure Ini1 (P : Program) (w : World) (K : PySem.W.Frag) (mg : Str → Option Value) (base : Heap) (C t0 : Addr) (sp : Sp) : Prop where
  ex : ∃ (f : Addr) (fd : FuncData) (ds : List Value), Mk K C f ∧ FnOk P w K mg base CX0 4 f fd ["self", "factors"] sp ∧ Binds K fd ["self", "factors"] [] ∧ Vals [V.ref t0] ds ∧ Binds K fd ["self", "factors"] ds
abbrev X0 : XK := fun _ _ _ => False
section
variable {X : Cx} {C t0 : Addr} {k j : Nat} {x m r : Str} {ps : List Str} {sp : Sp} {e a : Expr} {es : List Expr} {t : TA} {ta tb : TE} {p pos apos : Pos}
theorem pe_def (D : Def1 X.prog X.w X.K X.mg X.base CX0 k x ps sp) (hr : Room j X.A) (hj : k ≤ j) (hgl : Gl X x) (ha : PA X (e :: es) t) (hdb : (x == ("__debug__" : Str)) = false := by decide)
    (he : starEach (e :: es) X.env = (false, eval e X.env) :: starEach es X.env := by rfl) (hpl : (backTo pos (starEach es X.env)).any (·.1) = false := by rfl) : PE X (.Call (.Name x p) (e :: es) [] pos) (tCall sp [] X0 t) := by
  obtain ⟨f, fd, hm, hk, F, hb⟩ := D.ex
  exact pe_call F (hr.mono hj) hgl hm hk hb .nil pass0 ha hdb he hpl
theorem pe_defG (hg : NoG X.A) (D : Def1G X.prog X.w X.K X.mg X.base CX0 k x ps sp) (hr : Room j X.A) (hj : k ≤ j) (hgl : Gl X x) (ha : PA X (e :: es) t) (hdb : (x == ("__debug__" : Str)) = false := by decide)
    (he : starEach (e :: es) X.env = (false, eval e X.env) :: starEach es X.env := by rfl) (hpl : (backTo pos (starEach es X.env)).any (·.1) = false := by rfl) : PE X (.Call (.Name x p) (e :: es) [] pos) (tCall sp [] X0 t) := by
  obtain ⟨f, fd, hm, hk, F, hb⟩ := D.ex
  exact pe_callG hg F (hr.mono hj) hgl hm hk hb .nil pass0 ha hdb he hpl
theorem op_add1 (D : Bin1 X.prog X.w X.K X.mg X.base C "__add__" "__radd__" sp) (hr : Room j X.A) (hj : 8 ≤ j) : OpR X (binaryOp .Add) (rBinO C sp X0) := by
  obtain ⟨f, fd, B, F, hb⟩ := D.ex
  exact op_addO B F (hr.mono hj) hb (fun _ => quiet0)
theorem op_sub1 (D : Bin1 X.prog X.w X.K X.mg X.base C "__sub__" "__rsub__" sp) (hr : Room j X.A) (hj : 8 ≤ j) : OpR X (binaryOp .Sub) (rBinO C sp X0) := by
  obtain ⟨f, fd, B, F, hb⟩ := D.ex
  exact op_subO B F (hr.mono hj) hb (fun _ => quiet0)
theorem op_mul1 (D : Bin1 X.prog X.w X.K X.mg X.base C "__mul__" "__rmul__" sp) (hr : Room j X.A) (hj : 8 ≤ j) : OpR X (binaryOp .Mult) (rBinO C sp X0) := by
  obtain ⟨f, fd, B, F, hb⟩ := D.ex
  exact op_mulO B F (hr.mono hj) hb (fun _ => quiet0)
theorem un_neg1 (D : Met1 X.prog X.w X.K X.mg X.base CX0 7 C "__neg__" ["self"] sp) (hr : Room j X.A) (hj : 8 ≤ j) : UnR X (unaryOp .USub) (rNegO C sp X0) := by
  obtain ⟨f, fd, M, _, F, hb⟩ := D.ex
  exact un_negO M F (hr.mono hj) hb (fun _ => quiet0)
theorem op_eq1 (D : Met1 X.prog X.w X.K X.mg X.base CX0 1 C "__eq__" ["self", "other"] sp) (hr : Room j X.A) (hj : 2 ≤ j) : OpR X (compareOp .Eq) (rCmpO X.K C sp X0) := by
  obtain ⟨f, fd, M, _, F, hb⟩ := D.ex
  exact op_eqO M F (hr.mono hj) hb (fun _ => quiet0)
theorem op_ne1 (hn : NeC X.K C) (D : Met1 X.prog X.w X.K X.mg X.base CX0 1 C "__eq__" ["self", "other"] sp) (hr : Room j X.A) (hj : 2 ≤ j) : OpR X (compareOp .NotEq) (rNeO X.K C sp X0) := by
  obtain ⟨f, fd, M, _, F, hb⟩ := D.ex
  exact op_neO hn M F (hr.mono hj) hb (fun _ => quiet0)
theorem call_bool1 (D : Met1 X.prog X.w X.K X.mg X.base CX0 1 C "__bool__" ["self"] sp) (hr : Room j X.A) (hj : 3 ≤ j) : CallR X (.type "bool") (rBoolO C sp X0) := by
  obtain ⟨f, fd, M, _, F, hb⟩ := D.ex
  exact call_boolO M F (hr.mono hj) hb (fun _ => quiet0)
theorem pe_pro1 (c : Cls X.K C) (D : Pro1 X.prog X.w X.K X.mg X.base C x sp) (hr : Room j X.A) (hj : 2 ≤ j) (ha : PE X e ta) (hab : attributeBase e x X.env (eval e X.env) = eval e X.env := by rfl) : PE X (.Attribute e x pos) (tProp C sp [] X0 ta) := by
  obtain ⟨p, f, fd, hp, F, hb⟩ := D.ex
  exact pe_prop ha c hp F (hr.mono hj) hb .nil pass0 hab
theorem pe_mk1 (D : Ini1 X.prog X.w X.K X.mg X.base C t0 sp) (hr : Room j X.A) (hj : 5 ≤ j) (hgl : Gl X x) (hm : X.mg x = some (.ref C)) (ha : PA X (e :: es) t) (hdb : (x == ("__debug__" : Str)) = false := by decide)
    (he : starEach (e :: es) X.env = (false, eval e X.env) :: starEach es X.env := by rfl) (hpl : (backTo pos (starEach es X.env)).any (·.1) = false := by rfl) : PE X (.Call (.Name x p) (e :: es) [] pos) (tMake C sp [] X0 t) := by
  obtain ⟨f, fd, ds, M, F, hb, _, _⟩ := D.ex
  exact pe_make M F (hr.mono hj) hgl hm hb .nil pass0 ha hdb he hpl
theorem pe_mk0 (D : Ini1 X.prog X.w X.K X.mg X.base C t0 sp) (hr : Room j X.A) (hj : 5 ≤ j) (hgl : Gl X x) (hm : X.mg x = some (.ref C)) (hdb : (x == ("__debug__" : Str)) = false := by decide) : PE X (.Call (.Name x p) [] [] pos) (tMake C sp [.ref t0] X0 tNil) := by
  obtain ⟨f, fd, ds, M, F, _, hv, hb⟩ := D.ex
  exact pe_make0 M F (hr.mono hj) hgl hm hb hv pass0 hdb
theorem pe_cl1 {fe : Expr} (D : Met1 X.prog X.w X.K X.mg X.base (L2.CX X.prog X.w) k C "__call__" ps sp) (hr : Room j X.A) (hj : k + 1 ≤ j) {W : WX} (tk : Takes X W) (hf : PE X fe ta) (ha : PA X (e :: es) t)
    (he : eval (.Call fe (e :: es) [] pos) X.env = (do callWith pos (← eval fe X.env) [] (backTo pos (starEach (e :: es) X.env)) (backToKw pos (keywordEach [] X.env))) := by rfl)
    (h1 : starEach (e :: es) X.env = (false, eval e X.env) :: starEach es X.env := by rfl) (h2 : (backTo pos (starEach es X.env)).any (·.1) = false := by rfl) :
    PE X (.Call fe (e :: es) [] pos) (tCallO C sp (WE W) ta t) := by
  obtain ⟨f, fd, M, hfn, F, hb⟩ := D.ex
  exact pe_callO M hfn F (hr.mono hj) hb (fun σ => passAt tk σ) hf ha he h1 h2
theorem pe_it1 (D : Met1 X.prog X.w X.K X.mg X.base (L2.CX X.prog X.w) k C "__getitem__" ["self", "index"] sp) (hr : Room j X.A) (hj : k + 1 ≤ j) {W : WX} (tk : Takes X W) (ha : PE X e ta) (hb : PE X a tb)
    (hs : ∀ v u : Value, subscripted a true v u = runValue (.builtin "lifetime.subscript" ⟨[v, u], []⟩) := by intro _ _; with_unfolding_all rfl) : PE X (.Subscript e a pos) (tIxO C sp (WE W) ta tb) := by
  obtain ⟨f, fd, M, hfn, F, hB⟩ := D.ex
  exact pe_ixO M hfn F (hr.mono hj) hB (fun σ => passAt tk σ) ha hb hs
theorem pe_me1 {o : Expr} {pl : Sem Bool} {E : XK} (c : Cls X.K C) (D : Met1 X.prog X.w X.K X.mg X.base (L2.CX X.prog X.w) k C m ps sp) (hr : Room j X.A) (hj : k ≤ j) (hx : Passes (L2.CX X.prog X.w) X E) (ho : PE X o ta) (ha : PA X (e :: es) t)
    (ht : eval (.Call (.Attribute o m apos) (e :: es) [] pos) X.env = (do
      let ov ← eval o X.env
      standAt apos.atName
      let (f, first) ← holding [ov] (getMethod ov m pl)
      callWith pos f first (backTo pos (starEach (e :: es) X.env)) (backToKw pos (keywordEach [] X.env))) := by rfl)
    (hst : starEach (e :: es) X.env = (false, eval e X.env) :: starEach es X.env := by rfl) (hpl : (backTo pos (starEach es X.env)).any (·.1) = false := by rfl) :
    PE X (.Call (.Attribute o m apos) (e :: es) [] pos) (tMeth C m sp [] E ta t) := by
  obtain ⟨f, fd, M, _, F, hb⟩ := D.ex
  exact pe_meth ho c M F (hr.mono hj) hb .nil hx ha hst hpl ht
end
/-! ### making, comparing, adding -/
section
variable {K : PySem.W.Frag} {mg : Str → Option Value} {C : Addr}
theorem made_ext {H : Hp} {x dx : Addr} {o u : HO} (hx : H x = none) (hdx : H dx = none) : Ext H (upd (upd H dx o) x u) := fun b ob q => by
  rw [upd_ne (ne_of_none q hx), upd_ne (ne_of_none q hdx)]
  exact q
theorem g_mkP {H : Hp} {Q : VK} {E : XK} {te : TE} {σ : L2.St} {ns : List Int} (ht : ∀ Q0 : VK, (∀ H1 a, Ext H H1 → SqT K H1 a (ns.map V.int) → Q0 (.ref a) H1) → te σ H Q0) (hl : ns.length ≤ 400) (hB : Big ns)
    (k : ∀ H' p u, Ext H H' → PolyU K C H' p u (trim ns) → Q (.ref p) H') : tMake C (spInit K C) [] E (tCons te tNil) σ H Q :=
  ht _ fun H1 a e hs x dx hx hdx ne => ⟨x, dx, a, ns, rfl, upd_same, sqT_ext (made_ext hx hdx) hs, hl, hB, fun H' u e2 hp hu => ⟨rfl, k H' x u (fun b o q => e2 b o (ne_of_none (e b o q) hx) (made_ext hx hdx b o (e b o q))) ⟨⟨dx, hp⟩, hu, Nat.le_trans (Nat.le_trans (trim_len ns) hl) (by decide)⟩⟩⟩
theorem notFirst_self : PySem.W.notFirst K C (.ref C) = true := by
  unfold PySem.W.notFirst
  simp
theorem g_eqP (Cl : PC K mg C) {H : Hp} {Q : VK} {E : XK} {p u q v : Addr} {ns ms : List Int} (hP : PolyU K C H p u ns) (hQ : PolyU K C H q v ms) (k : Q (.bl (decide (ns = ms))) H) : rCmpO K C (spEqP K C) E (.ref p) (.ref q) H Q := by
  obtain ⟨dx, hp⟩ := id hP.1
  obtain ⟨dy, hq⟩ := id hQ.1
  exact ⟨p, dx, _, _, rfl, hp, Cl.ty hq, notFirst_self, p, u, ns, _, rfl, hP, .inl ⟨q, v, ms, rfl, hQ, ⟨_, rfl⟩, k⟩⟩
theorem g_neP (Cl : PC K mg C) {H : Hp} {Q : VK} {E : XK} {p u q v : Addr} {ns ms : List Int} (hP : PolyU K C H p u ns) (hQ : PolyU K C H q v ms) (k : Q (.bl (!decide (ns = ms))) H) : rNeO K C (spEqP K C) E (.ref p) (.ref q) H Q := by
  obtain ⟨dx, hp⟩ := id hP.1
  obtain ⟨dy, hq⟩ := id hQ.1
  exact ⟨p, dx, _, _, rfl, hp, Cl.ty hq, notFirst_self, p, u, ns, _, rfl, hP, .inl ⟨q, v, ms, rfl, hQ, _, rfl, k⟩⟩
theorem g_binP {op : List Int → List Int → List Int} {B : List Int → List Int → Prop} {H : Hp} {Q : VK} {E : XK} {p u : Addr} {y : V} {ns ms : List Int} (hP : PolyU K C H p u ns) (hy : OpRow K C H y ms) (hB : B ns ms)
    (k : ∀ H' q v, Ext H H' → PolyU K C H' q v (trim (op ns ms)) → Q (.ref q) H') : rBinO C (spBin K C op B) E (.ref p) y H Q := by
  obtain ⟨dx, hp⟩ := id hP.1
  refine ⟨p, dx, _, rfl, hp, ?_, p, u, ns, ms, y, rfl, hP, hy, hB, fun H' q v e hq => ⟨⟨q, rfl⟩, k H' q v e hq⟩⟩
  rcases hy with ⟨q, v, rfl, ⟨⟨dy, hq⟩, _, _⟩⟩ | ⟨i, rfl, _⟩
  · exact .inl ⟨q, dy, _, rfl, hq⟩
  · exact .inr ⟨i, rfl⟩
theorem OpRow.pol {H : Hp} {q v : Addr} {ms : List Int} (h : PolyU K C H q v ms) : OpRow K C H (.ref q) ms := .inl ⟨q, v, rfl, h⟩
theorem OpRow.int {H : Hp} {i : Int} : OpRow K C H (.int i) [i] := .inr ⟨i, rfl, rfl⟩
theorem g_negP {H : Hp} {Q : VK} {E : XK} {p u : Addr} {ns : List Int} (hP : PolyU K C H p u ns) (k : ∀ H' q v, Ext H H' → PolyU K C H' q v (trim (negR ns)) → Q (.ref q) H') : rNegO C (spNegP K C) E (.ref p) H Q := by
  obtain ⟨dx, hp⟩ := id hP.1
  exact ⟨p, dx, _, rfl, hp, p, u, ns, rfl, hP, k⟩
end
/-! ### rows that fit -/
def Fit (A L : Nat) (ns : List Int) : Prop := Bits A ns ∧ ns.length ≤ L
theorem Fit.add {A L : Nat} {a b : List Int} (ha : Fit A L a) (hb : Fit A L b) : Fit (A + 1) L (trim (addR a b)) :=
  ⟨bits_trim (bits_add ha.1 hb.1), Nat.le_trans (trim_len _) (by rw [addR_len]; exact Nat.max_le.mpr ⟨ha.2, hb.2⟩)⟩
theorem Fit.neg {A L : Nat} {a : List Int} (ha : Fit A L a) : Fit A L (negR a) := ⟨bits_neg ha.1, by rw [negR_len]; exact ha.2⟩
theorem Fit.sub {A L : Nat} {a b : List Int} (ha : Fit A L a) (hb : Fit A L b) : Fit (A + 1) L (trim (addR a (negR b))) := ha.add hb.neg
theorem Fit.mul {A B L M : Nat} {a b : List Int} (ha : Fit A L a) (hb : Fit B M b) (hL : L < 65536) : Fit (16 + A + B) (L + M) (trim (mulR a b)) :=
  ⟨bits_trim (bits_mul ha.1 hb.1 (Nat.lt_of_le_of_lt ha.2 hL)), Nat.le_trans (trim_len _) (by rw [mulR_len]; exact Nat.add_le_add ha.2 hb.2)⟩
theorem Fit.mono {A B L M : Nat} {a : List Int} (h : Fit A L a) (hA : A ≤ B) (hL : L ≤ M) : Fit B M a := ⟨bits_mono hA h.1, Nat.le_trans h.2 hL⟩
theorem Fit.trim {A L : Nat} {a : List Int} (h : Fit A L a) : Fit A L (trim a) := ⟨bits_trim h.1, Nat.le_trans (trim_len _) h.2⟩
theorem Fit.mulB {A B L M : Nat} {a b : List Int} (ha : Fit A L a) (hb : Fit B M b) (A0 : 0 < A) (B0 : 0 < B) (AB : A + B ≤ 1000000) (hL : L ≤ 50000) (hM : M ≤ 50000) : MulB a b :=
  ⟨Nat.le_trans ha.2 hL, Nat.le_trans hb.2 hM, A, B, A0, B0, AB, ha.1, hb.1⟩
theorem fit_big {ns : List Int} {L : Nat} (h : Big ns) (hl : ns.length ≤ L) : Fit 200 L ns := ⟨fun n hn => by
  have := h n hn
  have e : (10 : Nat) ^ 60 < 2 ^ 200 := by decide +kernel
  have e2 : n.natAbs < 10 ^ 60 := by omega
  exact Nat.lt_trans e2 e, hl⟩
theorem add_comm' (a b : List Int) : trim (addR a b) = trim (addR b a) := trim_same _ _ fun k => by rw [at0_addR, at0_addR, Int.add_comm]
theorem neg_trim (a : List Int) : negR (trim a) = trim (negR a) := by
  induction a with
  | nil => rfl
  | cons x r ih =>
    have t : negR (x :: r) = (-x) :: negR r := rfl
    rw [t]
    cases e : trim r with
    | nil =>
      have e1 : trim (x :: r) = if x = 0 then [] else [x] := by
        conv => lhs; unfold trim
        rw [e]
      have e2 : trim (negR r) = [] := by rw [← ih, e]; rfl
      have e3 : trim ((-x) :: negR r) = if -x = 0 then [] else [-x] := by
        conv => lhs; unfold trim
        rw [e2]
      rw [e1, e3]
      by_cases hx : x = 0
      · rw [if_pos hx, if_pos (by omega)]
        rfl
      · rw [if_neg hx, if_neg (by omega)]
        rfl
    | cons y s =>
      have e1 : trim (x :: r) = x :: y :: s := by
        conv => lhs; unfold trim
        rw [e]
      have e2 : trim (negR r) = (-y) :: negR s := by rw [← ih, e]; rfl
      have e3 : trim ((-x) :: negR r) = (-x) :: (-y) :: negR s := by
        conv => lhs; unfold trim
        rw [e2]
      rw [e1, e3]
      rfl
end K0

set_option Elab.async false
set_option linter.all false
set_option maxRecDepth 100000
set_option maxHeartbeats 4000000
/-! The law's look at sums and products. -/
namespace K0
open PySem PySem.Spec PyProof.Rows L2 Gd
local macro_rules | `(tactic| walk_at "rd1") => `(tactic| first | with_reducible refine g_ret ?_ | with_reducible refine g_retN ?_ | with_reducible refine g_seq ?_ | with_reducible refine g_next ?_ | with_reducible refine g_drop ?_ | with_reducible refine g_asg ?_ | with_reducible refine g_name ?_ | with_reducible refine g_ifs ?_ | with_reducible refine g_test ?_ | with_reducible refine g_tb ?_ | with_reducible refine g_and ?_ | with_reducible refine g_or ?_ | with_reducible refine g_not ?_ | with_reducible refine g_andV ?_ | with_reducible refine g_orV ?_ | with_reducible refine g_notV ?_ | with_reducible refine g_if ?_ | with_reducible refine g_op ?_ | with_reducible refine g_un ?_ | with_reducible refine g_cb ?_ | with_reducible refine g_nil ?_ | with_reducible refine g_cons ?_ | with_reducible refine g_call ?_ | with_reducible refine g_callS ?_ | with_reducible refine g_tup ?_ | with_reducible refine g_lst ?_ | with_reducible refine g_isN ?_ | with_reducible refine g_sl ?_ | with_reducible refine g_nopart ?_ | with_reducible refine g_part ?_ | with_reducible refine g_chain ?_ | with_reducible refine g_fld ?_ | with_reducible refine g_prop ?_ | with_reducible refine g_bm ?_ | with_reducible refine g_bm0 ?_ | with_reducible refine g_c ?_ | with_reducible refine g_sub ?_ | with_reducible refine g_int1 ?_ | with_reducible refine g_int2 ?_ | with_reducible refine g_yes ?_ | with_reducible refine g_sfld ?_ | with_reducible refine g_NT ?_ | with_reducible refine g_NF ?_ | with_reducible refine iteT ?_ | with_reducible refine iteF ?_ | ((with_reducible refine' g_aug ?hv ?_); (case hv => exact rfl)) | ((with_reducible refine' g_var ?hv ?_); (case hv => exact rfl)) | with_reducible refine g_I0 ?_ | with_reducible refine g_U ?_ | with_reducible refine g_eqI ?_ | with_reducible refine g_blV ?_ | with_reducible refine g_inV ?_)
local macro_rules | `(tactic| walk_at "rd") => `(tactic| repeat walk_at "rd1")
section
variable {P : Program} {w : World} {K : PySem.W.Frag} {mg : Str → Option Value} {base : Heap} {f C t0 : Addr} {fd : FuncData}
abbrev sBasics : Stmt := top 47
/-- what the class and the law's own reckoning promise -/
structure Has (P : Program) (w : World) (K : PySem.W.Frag) (mg : Str → Option Value) (base : Heap) (C t0 : Addr) : Prop where
  add : Bin1 P w K mg base C "__add__" "__radd__" (spBin K C addR fun _ _ => True)
  sub : Bin1 P w K mg base C "__sub__" "__rsub__" (spBin K C (fun a b => addR a (negR b)) fun _ _ => True)
  mul : Bin1 P w K mg base C "__mul__" "__rmul__" (spBin K C mulR MulB)
  neg : Met1 P w K mg base CX0 7 C "__neg__" ["self"] (spNegP K C)
  eq : Met1 P w K mg base CX0 1 C "__eq__" ["self", "other"] (spEqP K C)
  bool : Met1 P w K mg base CX0 1 C "__bool__" ["self"] (spGet K C fun _ ns => .bl (decide (0 < (ns.length : Int))))
  fac : Pro1 P w K mg base C "factors" (spGet K C fun u _ => .ref u)
  deg : Pro1 P w K mg base C "degree" (spGet K C fun _ ns => .int ((ns.length : Int) - 1))
  ini : Ini1 P w K mg base C t0 (spInit K C)
  t0 : ∀ H, SqT K H t0 []
  lplus : Def1 P w K mg base CX0 2 "_law_plus" ["_law_one", "_law_other"] (spPlus K)
  ltimes : Def1 P w K mg base CX0 2 "_law_times" ["_law_one", "_law_other"] (spTimes K)
  lminus : Def1 P w K mg base CX0 1 "_law_minus" ["_law_factors_here"] (spMinus K)
  ltrim : Def1 P w K mg base CX0 1 "_law_trimmed" ["_law_factors_here"] (spLTrim K)
def spBasics (K : PySem.W.Frag) : Sp := fun vs H Q _ => ∃ (a b c : Addr) (ns ms ks : List Int), vs = [.ref a, .ref b, .ref c] ∧ SqT K H a (ns.map V.int) ∧ SqT K H b (ms.map V.int) ∧ SqT K H c (ks.map V.int) ∧
  (Big ns ∧ ns.length ≤ 40 ∧ trim ns = ns) ∧ (Big ms ∧ ms.length ≤ 40 ∧ trim ms = ms) ∧ (Big ks ∧ ks.length ≤ 40 ∧ trim ks = ks) ∧ ∀ H', Ext H H' → Q (.bl true) H'
theorem scBasics : FnScope ["_law_one", "_law_other", "_law_third", "_law_left", "_law_right_here", "_law_last", "_law_told", "_law_due"] ["_law_one", "_law_other", "_law_third"] (defScope sBasics) := ⟨rfl, rfl, rfl, by decide +kernel, rfl, by decide +kernel, by decide +kernel⟩
theorem g_par3 {i j l : Nat} {ta : TA} {D : Ends} {σ : L2.St} {H : Hp} (k : ta σ H fun vs H1 => ∃ u v w, vs = [u, v, w] ∧ D.nx (((σ.set i (some u)).set j (some v)).set l (some w)) H1) : tPar3 i j l ta D σ H := k
theorem g_got {H : Hp} {Q : VK} {E : XK} {p u : Addr} {ns : List Int} {g : Addr → List Int → V} (hP : PolyU K C H p u ns) (k : Q (g u ns) H) : ∃ a dx fs, V.ref p = V.ref a ∧ H a = some (.ins C dx fs) ∧ spGet K C g [.ref a] H Q E := by
  obtain ⟨dx, hp⟩ := id hP.1
  exact ⟨p, dx, _, rfl, hp, p, u, ns, rfl, hP, k⟩
theorem rows4 {a b c d : List Int} {A L : Nat} (ha : Fit A L a) (hb : Fit A L b) (hc : Fit A L c) (hd : Fit A L d) : ∀ r ∈ [a, b, c, d], Bits A r ∧ r.length ≤ L := fun r h => by
  simp only [List.mem_cons, List.not_mem_nil, or_false] at h
  rcases h with rfl | rfl | rfl | rfl
  all_goals assumption
theorem ok_basics (F : Fun K "_law_basics_right" "_law_basics_right" sBasics f fd) (T : Txt K mg) (hrp : mg "repr" = none) (Cl : PC K mg C) (A : Has P w K mg base C t0) :
    FnG P w K mg base CX0 9 f fd ["_law_one", "_law_other", "_law_third"] (spBasics K) := by
  refine fnG F scBasics (fun vs H Q E h => ?_) (fun cdv Ar outer s H vs Q E hg hr h => ?_)
  · obtain ⟨a, b, c, ns, ms, ks, rfl, _⟩ := h
    rfl
  · obtain ⟨a, b, c, ns, ms, ks, rfl, ha, hb, hc, ⟨Bn, ln, tn⟩, ⟨Bm, lm, tm⟩, ⟨Bk, lk, tk⟩, k⟩ := h
    refine ⟨_, PSs.nox (pss_cons (ps_par3 (i := 3) (j := 4) (l := 5) rfl scBasics.nd rfl rfl rfl (by decide) (by decide) (by decide) rfl rfl rfl
        (pa_cons (pe_mk1 A.ini hr (by decide) (by rfl) Cl.g (pa_cons (pv 0) pa_nil)) (pa_cons (pe_mk1 A.ini hr (by decide) (by rfl) Cl.g (pa_cons (pv 1) pa_nil)) (pa_cons (pe_mk1 A.ini hr (by decide) (by rfl) Cl.g (pa_cons (pv 2) pa_nil)) pa_nil))) rfl)
      (pss_cons (ps_set (i := 6) scBasics.nd rfl (Or.inl rfl) (pe_lst (pa_cons (pe_pro1 Cl.cl A.fac hr (by decide) (pe_op (op_add1 A.add hr (by decide)) (pv 3) (pv 4)))
          (pa_cons (pe_pro1 Cl.cl A.fac hr (by decide) (pe_op (op_sub1 A.sub hr (by decide)) (pv 3) (pv 4))) (pa_cons (pe_pro1 Cl.cl A.fac hr (by decide) (pe_op (op_mul1 A.mul hr (by decide)) (pv 3) (pv 4)))
          (pa_cons (pe_pro1 Cl.cl A.fac hr (by decide) (pe_un (un_neg1 A.neg hr (by decide)) (pv 3))) pa_nil))))))
      (pss_cons (ps_set (i := 7) scBasics.nd rfl (Or.inl rfl) (pe_lst (pa_cons (pe_def A.lplus hr (by decide) (by rfl) (pa_cons (pv 0) (pa_cons (pv 1) pa_nil)))
          (pa_cons (pe_def A.lplus hr (by decide) (by rfl) (pa_cons (pv 0) (pa_cons (pe_def A.lminus hr (by decide) (by rfl) (pa_cons (pv 1) pa_nil)) pa_nil)))
          (pa_cons (pe_def A.ltimes hr (by decide) (by rfl) (pa_cons (pv 0) (pa_cons (pv 1) pa_nil))) (pa_cons (pe_def A.ltrim hr (by decide) (by rfl) (pa_cons (pe_def A.lminus hr (by decide) (by rfl) (pa_cons (pv 0) pa_nil)) pa_nil)) pa_nil))))))
      (pss_cons (ps_if (PW.pt (pw_or (pt_cmpR op_ne (pe_callB (call_repr hg hr.units) (by rfl) hrp (by decide +kernel) (pa_cons (pv 6) pa_nil)) (pe_callB (call_repr hg hr.units) (by rfl) hrp (by decide +kernel) (pa_cons (pv 7) pa_nil)) (nomark _))
          (pw_or (pt_cmpR (op_ne1 Cl.ne A.eq hr (by decide)) (pe_op (op_add1 A.add hr (by decide)) (pv 3) (pv 4)) (pe_op (op_add1 A.add hr (by decide)) (pv 4) (pv 3)) (nomark _))
          (pw_or1 (pt_cmpR (op_ne1 Cl.ne A.eq hr (by decide)) (pe_op (op_mul1 A.mul hr (by decide)) (pv 3) (pv 4)) (pe_op (op_mul1 A.mul hr (by decide)) (pv 4) (pv 3)) (nomark _)))))) (pss_one (ps_ret pe_bl)) pss_nil)
      (pss_cons (ps_if (PW.pt (pw_or (pt_cmpR (op_ne1 Cl.ne A.eq hr (by decide)) (pe_op (op_add1 A.add hr (by decide)) (pe_op (op_add1 A.add hr (by decide)) (pv 3) (pv 4)) (pv 5)) (pe_op (op_add1 A.add hr (by decide)) (pv 3) (pe_op (op_add1 A.add hr (by decide)) (pv 4) (pv 5))) (nomark _))
          (pw_or1 (pt_cmpR (op_ne1 Cl.ne A.eq hr (by decide)) (pe_op (op_mul1 A.mul hr (by decide)) (pe_op (op_mul1 A.mul hr (by decide)) (pv 3) (pv 4)) (pv 5)) (pe_op (op_mul1 A.mul hr (by decide)) (pv 3) (pe_op (op_mul1 A.mul hr (by decide)) (pv 4) (pv 5))) (nomark _))))) (pss_one (ps_ret pe_bl)) pss_nil)
        (pss_one (ps_ret (pe_and (pe_cmpR (op_eq1 A.eq hr (by decide)) (pe_op (op_mul1 A.mul hr (by decide)) (pv 3) (pe_op (op_add1 A.add hr (by decide)) (pv 4) (pv 5)))
            (pe_op (op_add1 A.add hr (by decide)) (pe_op (op_mul1 A.mul hr (by decide)) (pv 3) (pv 4)) (pe_op (op_mul1 A.mul hr (by decide)) (pv 3) (pv 5))) (nomark _))
          (pe_one (pe_cmpR op_isBl (pe_callTy (call_bool1 A.bool hr (by decide)) (by rfl) T.bool (by decide +kernel) (pa_cons (pe_op (op_sub1 A.sub hr (by decide)) (pv 3) (pv 3)) pa_nil)) pe_bl (nomark _))))))))))), ?_⟩
    have Fn := fit_big Bn ln
    have Fm := fit_big Bm lm
    have Fk := fit_big Bk lk
    refine g_seq (g_par3 ?_)
    walk_at "rd"
    refine g_mkP (ns := ns) (fun Q0 k0 => ⟨_, rfl, k0 _ _ (fun _ _ h => h) ha⟩) (by omega) Bn (fun H1 p1 u1 e1 h1 => ?_)
    rw [tn] at h1
    walk_at "rd"
    refine g_mkP (ns := ms) (fun Q0 k0 => ⟨_, rfl, k0 _ _ (fun _ _ h => h) (sqT_ext e1 hb)⟩) (by omega) Bm (fun H2 p2 u2 e2 h2 => ?_)
    rw [tm] at h2
    walk_at "rd"
    have e02 := Ext.trans e1 e2
    refine g_mkP (ns := ks) (fun Q0 k0 => ⟨_, rfl, k0 _ _ (fun _ _ h => h) (sqT_ext e02 hc)⟩) (by omega) Bk (fun H3 p3 u3 e3 h3 => ?_)
    rw [tk] at h3
    have e03 := Ext.trans e02 e3
    have h1 := h1.ext (Ext.trans e2 e3)
    have h2 := h2.ext e3
    walk_at "rd"
    refine ⟨_, _, _, rfl, ?_⟩
    clear e1 e2 e3 e02
    walk_at "rd"
    refine g_binP h1 (OpRow.pol h2) trivial (fun H4 q4 v4 e4 h4 => g_got h4 ?_)
    walk_at "rd"
    refine g_binP (h1.ext e4) (OpRow.pol (h2.ext e4)) trivial (fun H5 q5 v5 e5 h5 => g_got h5 ?_)
    walk_at "rd"
    have e45 := Ext.trans e4 e5
    refine g_binP (h1.ext e45) (OpRow.pol (h2.ext e45)) (Fn.mulB Fm (by decide) (by decide) (by decide) (by decide) (by decide)) (fun H6 q6 v6 e6 h6 => g_got h6 ?_)
    walk_at "rd"
    have e46 := Ext.trans e45 e6
    refine g_negP (h1.ext e46) (fun H7 q7 v7 e7 h7 => g_got h7 ?_)
    walk_at "rd"
    refine ⟨by show 4 ≤ sizeLine; decide, fun l hl => ?_⟩
    have el := Ext.new (o := HO.lst [V.ref v4, .ref v5, .ref v6, .ref v7]) hl
    have e38 := Ext.trans (Ext.trans e46 e7) el
    have s4 := sqT_ext (Ext.trans e5 (Ext.trans e6 (Ext.trans e7 el))) h4.2.1
    have s5 := sqT_ext (Ext.trans e6 (Ext.trans e7 el)) h5.2.1
    have s6 := sqT_ext (Ext.trans e7 el) h6.2.1
    have s7 := sqT_ext el h7.2.1
    have l8 : upd H7 l (.lst [.ref v4, .ref v5, .ref v6, .ref v7]) l = some (.lst [.ref v4, .ref v5, .ref v6, .ref v7]) := upd_same
    generalize upd H7 l (.lst [.ref v4, .ref v5, .ref v6, .ref v7]) = H8 at el e38 s4 s5 s6 s7 l8
    clear h4 h5 h6 h7 e4 e5 e6 e7 e45 e46 el
    have h1 := h1.ext e38
    have h2 := h2.ext e38
    have h3 := h3.ext e38
    have e08 := Ext.trans e03 e38
    clear e38 e03
    have a8 := sqT_ext e08 ha
    have b8 := sqT_ext e08 hb
    walk_at "rd"
    refine ⟨a, b, ns, ms, rfl, a8, b8, by omega, by omega, fun H9 w9 e9 s9 => ?_⟩
    walk_at "rd"
    refine ⟨b, ms, rfl, sqT_ext e9 b8, by omega, fun H10 w10 e10 s10 => ?_⟩
    have f10 := Ext.trans e9 e10
    walk_at "rd"
    refine ⟨a, w10, ns, negR ms, rfl, sqT_ext f10 a8, s10, by omega, by rw [negR_len]; omega, fun H11 w11 e11 s11 => ?_⟩
    have f11 := Ext.trans f10 e11
    walk_at "rd"
    refine ⟨a, b, ns, ms, 200, 200, rfl, sqT_ext f11 a8, sqT_ext f11 b8, by omega, by omega, by decide, by decide, by decide, Fn.1, Fm.1, fun H12 w12 e12 s12 => ?_⟩
    have f12 := Ext.trans f11 e12
    walk_at "rd"
    refine ⟨a, ns, rfl, sqT_ext f12 a8, by omega, fun H13 w13 e13 s13 => ?_⟩
    have f13 := Ext.trans f12 e13
    walk_at "rd"
    refine ⟨w13, negR ns, rfl, .inr s13, by rw [negR_len]; omega, fun H14 w14 e14 s14 => ?_⟩
    have f14 := Ext.trans f13 e14
    walk_at "rd"
    refine ⟨by show 4 ≤ sizeLine; decide, fun m hm => ?_⟩
    have em := Ext.new (o := HO.lst [V.ref w9, .ref w11, .ref w12, .ref w14]) hm
    have s9 := sqT_ext (Ext.trans e10 (Ext.trans e11 (Ext.trans e12 (Ext.trans e13 (Ext.trans e14 em))))) s9
    have s11 := sqT_ext (Ext.trans e12 (Ext.trans e13 (Ext.trans e14 em))) s11
    have s12 := sqT_ext (Ext.trans e13 (Ext.trans e14 em)) s12
    have s14 := sqT_ext em s14
    have m15 : upd H14 m (.lst [.ref w9, .ref w11, .ref w12, .ref w14]) m = some (.lst [.ref w9, .ref w11, .ref w12, .ref w14]) := upd_same
    have f15 := Ext.trans f14 em
    generalize upd H14 m (.lst [.ref w9, .ref w11, .ref w12, .ref w14]) = H15 at em f15 s9 s11 s12 s14 m15
    have h1 := h1.ext f15
    have h2 := h2.ext f15
    have h3 := h3.ext f15
    have D1 : Dp K H15 (.ref l) (rows [trim (addR ns ms), trim (addR ns (negR ms)), trim (mulR ns ms), trim (negR ns)]) := .lst (SqL.of (f15 _ _ l8)) (.cons (.tup (sqT_ext f15 s4) (dp_ints _)) (.cons (.tup (sqT_ext f15 s5) (dp_ints _)) (.cons (.tup (sqT_ext f15 s6) (dp_ints _)) (.cons (.tup (sqT_ext f15 s7) (dp_ints _)) .nil))))
    have D2 : Dp K H15 (.ref m) (rows [trim (addR ns ms), trim (addR ns (negR ms)), trim (mulR ns ms), trim (negR ns)]) := .lst (SqL.of m15) (.cons (.tup s9 (dp_ints _)) (.cons (.tup s11 (dp_ints _)) (.cons (.tup s12 (dp_ints _)) (.cons (.tup s14 (dp_ints _)) .nil))))
    have R : ∀ r ∈ [trim (addR ns ms), trim (addR ns (negR ms)), trim (mulR ns ms), trim (negR ns)], Bits 500 r ∧ r.length ≤ 100 :=
      rows4 ((Fn.add Fm).mono (by decide) (by decide)) ((Fn.sub Fm).mono (by decide) (by decide)) ((Fn.mul Fm (by decide)).mono (by decide) (by decide)) (Fn.neg.trim.mono (by decide) (by decide))
    have e015 := Ext.trans e08 f15
    clear s4 s5 s6 s7 l8 m15 s9 s10 s11 s12 s13 s14 e9 e10 e11 e12 e13 e14 em f10 f11 f12 f13 f14 f15 a8 b8 e08
    walk_at "rd"
    refine ⟨l, _, rfl, D1, rows_show (by decide) (by decide) _ (fun r hr => (R r hr).1), rows_nodict _, rows_depth _, rows_size (by decide) R (by show ((500 + 3) * 100 + 5) * 4 + 3 ≤ 16777216; decide), ?_⟩
    walk_at "rd"
    refine ⟨m, _, rfl, D2, rows_show (by decide) (by decide) _ (fun r hr => (R r hr).1), rows_nodict _, rows_depth _, rows_size (by decide) R (by show ((500 + 3) * 100 + 5) * 4 + 3 ≤ 16777216; decide), ?_⟩
    refine g_neS ?_
    walk_at "rd"
    have mnm : MulB ns ms := Fn.mulB Fm (by decide) (by decide) (by decide) (by decide) (by decide)
    have mmn : MulB ms ns := Fm.mulB Fn (by decide) (by decide) (by decide) (by decide) (by decide)
    have mnk : MulB ns ks := Fn.mulB Fk (by decide) (by decide) (by decide) (by decide) (by decide)
    have mmk : MulB ms ks := Fm.mulB Fk (by decide) (by decide) (by decide) (by decide) (by decide)
    have m1 : MulB (trim (mulR ns ms)) ks := (Fn.mul Fm (by decide)).mulB Fk (by decide) (by decide) (by decide) (by decide) (by decide)
    have m2 : MulB ns (trim (mulR ms ks)) := Fn.mulB (Fm.mul Fk (by decide)) (by decide) (by decide) (by decide) (by decide) (by decide)
    have m3 : MulB ns (trim (addR ms ks)) := Fn.mulB (Fm.add Fk) (by decide) (by decide) (by decide) (by decide) (by decide)
    refine g_binP h1 (OpRow.pol h2) trivial (fun G1 q1 z1 e1 g1 => ?_)
    walk_at "rd"
    refine g_binP (h2.ext e1) (OpRow.pol (h1.ext e1)) trivial (fun G2 q2 z2 e2 g2 => ?_)
    have x2 := Ext.trans e1 e2
    refine g_neP Cl (g1.ext e2) g2 ?_
    rw [decide_eq_true (add_comm' ns ms)]
    walk_at "rd"
    refine g_binP (h1.ext x2) (OpRow.pol (h2.ext x2)) mnm (fun G3 q3 z3 e3 g3 => ?_)
    have x3 := Ext.trans x2 e3
    walk_at "rd"
    refine g_binP (h2.ext x3) (OpRow.pol (h1.ext x3)) mmn (fun G4 q4 z4 e4 g4 => ?_)
    have x4 := Ext.trans x3 e4
    refine g_neP Cl (g3.ext e4) g4 ?_
    rw [decide_eq_true (mul_comm' ns ms)]
    walk_at "rd"
    have h1 := h1.ext x4
    have h2 := h2.ext x4
    have h3 := h3.ext x4
    have e0 := Ext.trans e015 x4
    clear g1 g2 g3 g4 e1 e2 e3 e4 x2 x3 x4 D1 D2 R e015
    refine g_binP h1 (OpRow.pol h2) trivial (fun G1 q1 z1 e1 g1 => ?_)
    walk_at "rd"
    refine g_binP g1 (OpRow.pol (h3.ext e1)) trivial (fun G2 q2 z2 e2 g2 => ?_)
    have x2 := Ext.trans e1 e2
    walk_at "rd"
    refine g_binP (h2.ext x2) (OpRow.pol (h3.ext x2)) trivial (fun G3 q3 z3 e3 g3 => ?_)
    have x3 := Ext.trans x2 e3
    refine g_binP (h1.ext x3) (OpRow.pol g3) trivial (fun G4 q4 z4 e4 g4 => ?_)
    have x4 := Ext.trans x3 e4
    refine g_neP Cl (g2.ext (Ext.trans e3 e4)) g4 ?_
    rw [decide_eq_true (show trim (addR (trim (addR ns ms)) ks) = trim (addR ns (trim (addR ms ks))) by rw [add_trim_left, add_trim_right, add_assoc'])]
    walk_at "rd"
    have h1 := h1.ext x4
    have h2 := h2.ext x4
    have h3 := h3.ext x4
    have e0 := Ext.trans e0 x4
    clear g1 g2 g3 g4 e1 e2 e3 e4 x2 x3 x4
    refine g_binP h1 (OpRow.pol h2) mnm (fun G1 q1 z1 e1 g1 => ?_)
    walk_at "rd"
    refine g_binP g1 (OpRow.pol (h3.ext e1)) m1 (fun G2 q2 z2 e2 g2 => ?_)
    have x2 := Ext.trans e1 e2
    walk_at "rd"
    refine g_binP (h2.ext x2) (OpRow.pol (h3.ext x2)) mmk (fun G3 q3 z3 e3 g3 => ?_)
    have x3 := Ext.trans x2 e3
    refine g_binP (h1.ext x3) (OpRow.pol g3) m2 (fun G4 q4 z4 e4 g4 => ?_)
    have x4 := Ext.trans x3 e4
    refine g_neP Cl (g2.ext (Ext.trans e3 e4)) g4 ?_
    rw [decide_eq_true (show trim (mulR (trim (mulR ns ms)) ks) = trim (mulR ns (trim (mulR ms ks))) by rw [mul_trim_left, mul_trim_right, mul_assoc'])]
    walk_at "rd"
    have h1 := h1.ext x4
    have h2 := h2.ext x4
    have h3 := h3.ext x4
    have e0 := Ext.trans e0 x4
    clear g1 g2 g3 g4 e1 e2 e3 e4 x2 x3 x4
    refine g_binP h2 (OpRow.pol h3) trivial (fun G1 q1 z1 e1 g1 => ?_)
    refine g_binP (h1.ext e1) (OpRow.pol g1) m3 (fun G2 q2 z2 e2 g2 => ?_)
    have x2 := Ext.trans e1 e2
    walk_at "rd"
    refine g_binP (h1.ext x2) (OpRow.pol (h2.ext x2)) mnm (fun G3 q3 z3 e3 g3 => ?_)
    have x3 := Ext.trans x2 e3
    walk_at "rd"
    refine g_binP (h1.ext x3) (OpRow.pol (h3.ext x3)) mnk (fun G4 q4 z4 e4 g4 => ?_)
    have x4 := Ext.trans x3 e4
    refine g_binP (g3.ext e4) (OpRow.pol g4) trivial (fun G5 q5 z5 e5 g5 => ?_)
    have x5 := Ext.trans x4 e5
    refine g_eqP Cl (g2.ext (Ext.trans e3 (Ext.trans e4 e5))) g5 ?_
    rw [decide_eq_true (show trim (mulR ns (trim (addR ms ks))) = trim (addR (trim (mulR ns ms)) (trim (mulR ns ks))) by rw [mul_trim_right, add_trim_left, add_trim_right, mul_add'])]
    walk_at "rd"
    refine g_binP (h1.ext x5) (OpRow.pol (h1.ext x5)) trivial (fun G6 q6 z6 e6 g6 => ?_)
    obtain ⟨d6, i6⟩ := id g6.1
    rw [sub_self] at g6
    walk_at "rd"
    refine ⟨q6, d6, _, rfl, i6, q6, z6, [], rfl, g6, _, rfl, ?_⟩
    rw [decide_eq_false (show ¬ (0 : Int) < (([] : List Int).length : Int) by decide)]
    walk_at "rd"
    refine ⟨false, false, rfl, rfl, ?_⟩
    rw [decide_eq_true rfl]
    exact k _ (Ext.trans e0 (Ext.trans x5 e6))
end
end K0

set_option Elab.async false
set_option linter.all false
set_option maxRecDepth 100000
set_option maxHeartbeats 4000000
/-! The law's look at integers as right operands. -/
namespace K0
open PySem PySem.Spec PyProof.Rows L2 Gd
local macro_rules | `(tactic| walk_at "rd1") => `(tactic| first | with_reducible refine g_ret ?_ | with_reducible refine g_retN ?_ | with_reducible refine g_seq ?_ | with_reducible refine g_next ?_ | with_reducible refine g_drop ?_ | with_reducible refine g_asg ?_ | with_reducible refine g_name ?_ | with_reducible refine g_ifs ?_ | with_reducible refine g_test ?_ | with_reducible refine g_tb ?_ | with_reducible refine g_and ?_ | with_reducible refine g_or ?_ | with_reducible refine g_not ?_ | with_reducible refine g_andV ?_ | with_reducible refine g_orV ?_ | with_reducible refine g_notV ?_ | with_reducible refine g_if ?_ | with_reducible refine g_op ?_ | with_reducible refine g_un ?_ | with_reducible refine g_cb ?_ | with_reducible refine g_nil ?_ | with_reducible refine g_cons ?_ | with_reducible refine g_call ?_ | with_reducible refine g_callS ?_ | with_reducible refine g_tup ?_ | with_reducible refine g_lst ?_ | with_reducible refine g_isN ?_ | with_reducible refine g_sl ?_ | with_reducible refine g_nopart ?_ | with_reducible refine g_part ?_ | with_reducible refine g_chain ?_ | with_reducible refine g_fld ?_ | with_reducible refine g_prop ?_ | with_reducible refine g_bm ?_ | with_reducible refine g_bm0 ?_ | with_reducible refine g_c ?_ | with_reducible refine g_sub ?_ | with_reducible refine g_int1 ?_ | with_reducible refine g_int2 ?_ | with_reducible refine g_yes ?_ | with_reducible refine g_sfld ?_ | with_reducible refine g_NT ?_ | with_reducible refine g_NF ?_ | with_reducible refine iteT ?_ | with_reducible refine iteF ?_ | ((with_reducible refine' g_aug ?hv ?_); (case hv => exact rfl)) | ((with_reducible refine' g_var ?hv ?_); (case hv => exact rfl)) | with_reducible refine g_I0 ?_ | with_reducible refine g_U ?_ | with_reducible refine g_eqI ?_ | with_reducible refine g_blV ?_ | with_reducible refine g_inV ?_)
local macro_rules | `(tactic| walk_at "rd") => `(tactic| repeat walk_at "rd1")
section
variable {P : Program} {w : World} {K : PySem.W.Frag} {mg : Str → Option Value} {base : Heap} {f C t0 : Addr} {fd : FuncData}
theorem sqT_dice {H H' : Hp} {d l : Addr} {xs : List V} (hd : DiceAt H d) (e : ExtBut d H H') (h : SqT K H l xs) : SqT K H' l xs := by
  rcases h with (h | ⟨o, h⟩) | h
  · exact .inl (.inl (e _ _ (dice_ne hd h (fun _ => by simp)) h))
  · exact .inl (.inr ⟨o, e _ _ (dice_ne hd h (fun _ => by simp)) h⟩)
  · exact .inr h
theorem PolyU.dice {H H' : Hp} {d p u : Addr} {ns : List Int} (hd : DiceAt H d) (e : ExtBut d H H') (h : PolyU K C H p u ns) : PolyU K C H' p u ns := by
  obtain ⟨⟨dx, h1⟩, h2, h3⟩ := h
  exact ⟨⟨dx, e _ _ (dice_ne hd h1 (fun _ => by simp)) h1⟩, sqT_dice hd e h2, h3⟩
/-- the dice and its words -/
structure Dic (P : Program) (w : World) (K : PySem.W.Frag) (mg : Str → Option Value) (base : Heap) : Prop where
  roll : Def1 P w K mg base CX0 1 "_law_roll" ["_law_dice_here", "_law_total"] spRoll
  pick : Def1 P w K mg base CX0 2 "_law_pick" ["_law_dice_here", "_law_items"] (spPick K)
abbrev sInts : Stmt := top 48
def spInts (K : PySem.W.Frag) : Sp := fun vs H Q _ => ∃ (d a : Addr) (ns : List Int), vs = [.ref d, .ref a] ∧ DiceAt H d ∧ SqT K H a (ns.map V.int) ∧ (Big ns ∧ ns.length ≤ 40 ∧ trim ns = ns) ∧ ∀ H', ExtBut d H H' → DiceAt H' d → Q (.bl true) H'
theorem scInts : FnScope ["_law_dice_here", "_law_one", "_law_number", "_law_poly", "_law_constant", "_law_told", "_law_due"] ["_law_dice_here", "_law_one"] (defScope sInts) := ⟨rfl, rfl, rfl, by decide +kernel, rfl, by decide +kernel, by decide +kernel⟩
theorem rows3 {a b c : List Int} {A L : Nat} (ha : Fit A L a) (hb : Fit A L b) (hc : Fit A L c) : ∀ r ∈ [a, b, c], Bits A r ∧ r.length ≤ L := fun r h => by
  simp only [List.mem_cons, List.not_mem_nil, or_false] at h
  rcases h with rfl | rfl | rfl
  all_goals assumption
theorem fit_one {A : Nat} {i : Int} (h : i.natAbs < 2 ^ A) : Fit A 1 [i] := ⟨fun n hn => by rw [List.mem_singleton.mp hn]; exact h, Nat.le_refl _⟩
theorem ok_ints (F : Fun K "_law_integers_right" "_law_integers_right" sInts f fd) (T : Txt K mg) (hrp : mg "repr" = none) (Cl : PC K mg C) (A : Has P w K mg base C t0) (Di : Dic P w K mg base) :
    FnG P w K mg base CX0 9 f fd ["_law_dice_here", "_law_one"] (spInts K) := by
  refine fnG F scInts (fun vs H Q E h => ?_) (fun cdv Ar outer s H vs Q E hg hr h => ?_)
  · obtain ⟨d, a, ns, rfl, _⟩ := h
    rfl
  · obtain ⟨d, a, ns, rfl, hd, ha, ⟨Bn, ln, tn⟩, k⟩ := h
    refine ⟨_, PSs.nox (pss_cons (ps_set (i := 2) scInts.nd rfl (Or.inl rfl) (pe_def Di.pick hr (by decide) (by rfl) (pa_cons (pv 0) (pa_cons (pe_lst (pa_cons pe_int (pa_cons pe_int (pa_cons (pe_un un_neg pe_int) (pa_cons pe_int (pa_cons (pe_op op_pow pe_int pe_int)
          (pa_cons (pe_op op_mulW (pe_op op_pow pe_int pe_int) (pe_op op_pow pe_int pe_int)) (pa_cons (pe_op op_sub pe_int (pe_op op_mulW (pe_op op_pow pe_int pe_int) (pe_op op_pow pe_int pe_int))) pa_nil)))))))) pa_nil))))
      (pss_cons (ps_par (i := 3) (j := 4) rfl scInts.nd rfl rfl (by decide) rfl rfl (pa_cons (pe_mk1 A.ini hr (by decide) (by rfl) Cl.g (pa_cons (pv 1) pa_nil)) (pa_cons (pe_def A.ltrim hr (by decide) (by rfl) (pa_cons (pe_tup (pa_cons (pv 2) pa_nil)) pa_nil)) pa_nil)) rfl)
      (pss_cons (ps_set (i := 5) scInts.nd rfl (Or.inl rfl) (pe_lst (pa_cons (pe_pro1 Cl.cl A.fac hr (by decide) (pe_op (op_add1 A.add hr (by decide)) (pv 3) (pv 2)))
          (pa_cons (pe_pro1 Cl.cl A.fac hr (by decide) (pe_op (op_sub1 A.sub hr (by decide)) (pv 3) (pv 2))) (pa_cons (pe_pro1 Cl.cl A.fac hr (by decide) (pe_op (op_mul1 A.mul hr (by decide)) (pv 3) (pv 2))) pa_nil)))))
      (pss_cons (ps_set (i := 6) scInts.nd rfl (Or.inl rfl) (pe_lst (pa_cons (pe_def A.lplus hr (by decide) (by rfl) (pa_cons (pv 1) (pa_cons (pv 4) pa_nil)))
          (pa_cons (pe_def A.lplus hr (by decide) (by rfl) (pa_cons (pv 1) (pa_cons (pe_def A.lminus hr (by decide) (by rfl) (pa_cons (pv 4) pa_nil)) pa_nil)))
          (pa_cons (pe_def A.ltimes hr (by decide) (by rfl) (pa_cons (pv 1) (pa_cons (pv 4) pa_nil))) pa_nil)))))
        (pss_one (ps_ret (pe_cmpR op_eq (pe_callB (call_repr hg hr.units) (by rfl) hrp (by decide +kernel) (pa_cons (pv 5) pa_nil)) (pe_callB (call_repr hg hr.units) (by rfl) hrp (by decide +kernel) (pa_cons (pv 6) pa_nil)) (nomark _)))))))), ?_⟩
    have Fn := fit_big Bn ln
    walk_at "rd"
    refine g_I ⟨by decide, by decide, by decide⟩ ?_
    walk_at "rd"
    refine g_I ⟨by decide, by decide, by decide⟩ ?_
    walk_at "rd"
    refine g_I ⟨by decide, by decide, by decide⟩ ?_
    refine g_I (wide_mul (a := 200) (b := 200) (by decide +kernel) (by decide +kernel) (by decide) (by decide) (by decide)) ?_
    walk_at "rd"
    refine g_I ⟨by decide, by decide, by decide⟩ ?_
    walk_at "rd"
    refine g_I ⟨by decide, by decide, by decide⟩ ?_
    refine g_I (wide_mul (a := 200) (b := 200) (by decide +kernel) (by decide +kernel) (by decide) (by decide) (by decide)) ?_
    walk_at "rd"
    refine ⟨by show 7 ≤ sizeLine; decide, fun l1 hl1 => ?_⟩
    walk_at "rd"
    refine ⟨d, l1, _, rfl, hd.upd (dice_none hd hl1), SqL.of upd_same, dice_none hd hl1, by decide, by decide, fun H1 x1 e1 hd1 hx1 => ?_⟩
    have E1 : ExtBut d H H1 := (ExtBut.of (Ext.new hl1)).trans e1
    obtain ⟨i, rfl, hi⟩ : ∃ i : Int, x1 = .int i ∧ i.natAbs < 2 ^ 400 := by
      simp only [List.mem_cons, List.not_mem_nil, or_false] at hx1
      rcases hx1 with rfl | rfl | rfl | rfl | rfl | rfl | rfl
      all_goals exact ⟨_, rfl, by decide +kernel⟩
    clear e1 hx1
    have a1 := sqT_dice hd E1 ha
    walk_at "rd"
    refine g_par ?_
    walk_at "rd"
    refine g_mkP (ns := ns) (fun Q0 k0 => ⟨_, rfl, k0 _ _ (fun _ _ h => h) a1⟩) (by omega) Bn (fun H2 p u e2 h2 => ?_)
    rw [tn] at h2
    walk_at "rd"
    refine ⟨by show 1 ≤ sizeLine; decide, fun o ho => ?_⟩
    have eo := Ext.new (o := HO.tup [V.int i]) ho
    refine ⟨o, [i], rfl, .inr (SqT.of upd_same), by show 1 ≤ _; omega, fun H3 c e3 hc => ?_⟩
    have e23 := Ext.trans eo e3
    have e13 := Ext.trans e2 e23
    walk_at "rd"
    refine ⟨_, _, rfl, ?_⟩
    have h3 := h2.ext e23
    clear h2 eo e3 e23
    have Fi := fit_one hi
    walk_at "rd"
    refine g_binP h3 OpRow.int trivial (fun H4 q4 v4 e4 h4 => g_got h4 ?_)
    walk_at "rd"
    refine g_binP (h3.ext e4) OpRow.int trivial (fun H5 q5 v5 e5 h5 => g_got h5 ?_)
    walk_at "rd"
    have e45 := Ext.trans e4 e5
    refine g_binP (h3.ext e45) OpRow.int (Fn.mulB Fi (by decide) (by decide) (by decide) (by decide) (by decide)) (fun H6 q6 v6 e6 h6 => g_got h6 ?_)
    walk_at "rd"
    refine ⟨by show 3 ≤ sizeLine; decide, fun l hl => ?_⟩
    have el := Ext.new (o := HO.lst [V.ref v4, .ref v5, .ref v6]) hl
    have s4 := sqT_ext (Ext.trans e5 (Ext.trans e6 el)) h4.2.1
    have s5 := sqT_ext (Ext.trans e6 el) h5.2.1
    have s6 := sqT_ext el h6.2.1
    have e37 := Ext.trans e45 (Ext.trans e6 el)
    have l7 : upd H6 l (.lst [.ref v4, .ref v5, .ref v6]) l = some (.lst [.ref v4, .ref v5, .ref v6]) := upd_same
    generalize upd H6 l (.lst [.ref v4, .ref v5, .ref v6]) = H7 at el e37 s4 s5 s6 l7
    have e17 := Ext.trans e13 e37
    have a7 := sqT_ext e17 a1
    have c7 := sqT_ext e37 hc
    clear h4 h5 h6 e4 e5 e6 e45 el
    have lt : (trim [i]).length ≤ 1 := trim_len [i]
    walk_at "rd"
    refine ⟨a, c, ns, trim [i], rfl, a7, c7, by omega, by omega, fun H9 w9 e9 s9 => ?_⟩
    walk_at "rd"
    refine ⟨c, trim [i], rfl, sqT_ext e9 c7, by omega, fun H10 w10 e10 s10 => ?_⟩
    have f10 := Ext.trans e9 e10
    walk_at "rd"
    refine ⟨a, w10, ns, negR (trim [i]), rfl, sqT_ext f10 a7, s10, by omega, by rw [negR_len]; omega, fun H11 w11 e11 s11 => ?_⟩
    have f11 := Ext.trans f10 e11
    walk_at "rd"
    refine ⟨a, c, ns, trim [i], 200, 400, rfl, sqT_ext f11 a7, sqT_ext f11 c7, by omega, by omega, by decide, by decide, by decide, Fn.1, Fi.trim.1, fun H12 w12 e12 s12 => ?_⟩
    have f12 := Ext.trans f11 e12
    walk_at "rd"
    refine ⟨by show 3 ≤ sizeLine; decide, fun m hm => ?_⟩
    have em := Ext.new (o := HO.lst [V.ref w9, .ref w11, .ref w12]) hm
    have s9 := sqT_ext (Ext.trans e10 (Ext.trans e11 (Ext.trans e12 em))) s9
    have s11 := sqT_ext (Ext.trans e12 em) s11
    have s12 := sqT_ext em s12
    have m15 : upd H12 m (.lst [.ref w9, .ref w11, .ref w12]) m = some (.lst [.ref w9, .ref w11, .ref w12]) := upd_same
    have f15 := Ext.trans f12 em
    generalize upd H12 m (.lst [.ref w9, .ref w11, .ref w12]) = H15 at em f15 s9 s11 s12 m15
    rw [add_trim_right] at s9
    rw [neg_trim, add_trim_right] at s11
    rw [mul_trim_right] at s12
    have D1 : Dp K H15 (.ref l) (rows [trim (addR ns [i]), trim (addR ns (negR [i])), trim (mulR ns [i])]) := .lst (SqL.of (f15 _ _ l7)) (.cons (.tup (sqT_ext f15 s4) (dp_ints _)) (.cons (.tup (sqT_ext f15 s5) (dp_ints _)) (.cons (.tup (sqT_ext f15 s6) (dp_ints _)) .nil)))
    have D2 : Dp K H15 (.ref m) (rows [trim (addR ns [i]), trim (addR ns (negR [i])), trim (mulR ns [i])]) := .lst (SqL.of m15) (.cons (.tup s9 (dp_ints _)) (.cons (.tup s11 (dp_ints _)) (.cons (.tup s12 (dp_ints _)) .nil)))
    have Fi4 : Fit 400 40 [i] := Fi.mono (by decide) (by decide)
    have Fn4 : Fit 400 40 ns := Fn.mono (by decide) (by decide)
    have R : ∀ r ∈ [trim (addR ns [i]), trim (addR ns (negR [i])), trim (mulR ns [i])], Bits 900 r ∧ r.length ≤ 100 :=
      rows3 ((Fn4.add Fi4).mono (by decide) (by decide)) ((Fn4.sub Fi4).mono (by decide) (by decide)) ((Fn4.mul Fi4 (by decide)).mono (by decide) (by decide))
    have E15 : ExtBut d H H15 := E1.trans (ExtBut.of (Ext.trans e17 f15))
    have d15 := hd1.ext (Ext.trans e17 f15)
    walk_at "rd"
    refine ⟨l, _, rfl, D1, rows_show (by decide) (by decide) _ (fun r hr => (R r hr).1), rows_nodict _, rows_depth _, rows_size (by decide) R (by show ((900 + 3) * 100 + 5) * 3 + 3 ≤ 16777216; decide), ?_⟩
    walk_at "rd"
    refine ⟨m, _, rfl, D2, rows_show (by decide) (by decide) _ (fun r hr => (R r hr).1), rows_nodict _, rows_depth _, rows_size (by decide) R (by show ((900 + 3) * 100 + 5) * 3 + 3 ≤ 16777216; decide), ?_⟩
    refine g_eqS ?_
    exact k _ E15 d15
end
end K0

set_option Elab.async false
set_option linter.all false
set_option maxRecDepth 100000
set_option maxHeartbeats 4000000
/-! The law's look at values. -/
namespace K0
open PySem PySem.Spec PyProof.Rows L2 Gd
local macro_rules | `(tactic| walk_at "rd1") => `(tactic| first | with_reducible refine g_ret ?_ | with_reducible refine g_retN ?_ | with_reducible refine g_seq ?_ | with_reducible refine g_next ?_ | with_reducible refine g_drop ?_ | with_reducible refine g_asg ?_ | with_reducible refine g_name ?_ | with_reducible refine g_ifs ?_ | with_reducible refine g_test ?_ | with_reducible refine g_tb ?_ | with_reducible refine g_and ?_ | with_reducible refine g_or ?_ | with_reducible refine g_not ?_ | with_reducible refine g_andV ?_ | with_reducible refine g_orV ?_ | with_reducible refine g_notV ?_ | with_reducible refine g_if ?_ | with_reducible refine g_op ?_ | with_reducible refine g_un ?_ | with_reducible refine g_cb ?_ | with_reducible refine g_nil ?_ | with_reducible refine g_cons ?_ | with_reducible refine g_call ?_ | with_reducible refine g_callS ?_ | with_reducible refine g_tup ?_ | with_reducible refine g_lst ?_ | with_reducible refine g_isN ?_ | with_reducible refine g_sl ?_ | with_reducible refine g_nopart ?_ | with_reducible refine g_part ?_ | with_reducible refine g_chain ?_ | with_reducible refine g_fld ?_ | with_reducible refine g_prop ?_ | with_reducible refine g_bm ?_ | with_reducible refine g_bm0 ?_ | with_reducible refine g_c ?_ | with_reducible refine g_sub ?_ | with_reducible refine g_int1 ?_ | with_reducible refine g_int2 ?_ | with_reducible refine g_yes ?_ | with_reducible refine g_sfld ?_ | with_reducible refine g_NT ?_ | with_reducible refine g_NF ?_ | with_reducible refine iteT ?_ | with_reducible refine iteF ?_ | ((with_reducible refine' g_aug ?hv ?_); (case hv => exact rfl)) | ((with_reducible refine' g_var ?hv ?_); (case hv => exact rfl)) | with_reducible refine g_I0 ?_ | with_reducible refine g_U ?_ | with_reducible refine g_eqI ?_ | with_reducible refine g_blV ?_ | with_reducible refine g_inV ?_)
local macro_rules | `(tactic| walk_at "rd") => `(tactic| repeat walk_at "rd1")
theorem g_callO {C : Addr} {sp : Sp} {E : L2.St → XK} {tf : TE} {t : TA} {σ : L2.St} {H : Hp} {Q : VK} (k : tf σ H fun x H1 => ∃ p, x = .ref p ∧ t σ H1 fun vs H2 => ∃ dx fs, H2 p = some (.ins C dx fs) ∧ sp (.ref p :: vs) H2 Q (E σ)) : tCallO C sp E tf t σ H Q := k
/-! ### how great values are -/
theorem val_bits {A B : Nat} {x : Int} (hx : x.natAbs < 2 ^ B) : ∀ ns : List Int, Bits A ns → (valR x ns).natAbs < 2 ^ (A + (B + 1) * ns.length)
  | [], _ => by
    show 0 < 2 ^ _
    exact Nat.two_pow_pos _
  | a :: r, h => by
    have ih := val_bits hx r fun n hn => h n (List.mem_cons_of_mem _ hn)
    have ha := h a List.mem_cons_self
    have e : A + (B + 1) * (a :: r).length = (A + (B + 1) * r.length) + B + 1 := by
      rw [List.length_cons, Nat.mul_add, Nat.mul_one]
      omega
    have l : 2 ^ A ≤ 2 ^ (A + (B + 1) * r.length + B) := Nat.pow_le_pow_right (by decide) (by omega)
    have m : (valR x r).natAbs * x.natAbs ≤ 2 ^ (A + (B + 1) * r.length) * 2 ^ B := Nat.mul_le_mul (Nat.le_of_lt ih) (Nat.le_of_lt hx)
    rw [← Nat.pow_add] at m
    have t := Int.natAbs_add_le (valR x r * x) a
    rw [Int.natAbs_mul] at t
    show (valR x r * x + a).natAbs < _
    rw [e, Nat.pow_succ]
    omega
theorem val_fit {A B L : Nat} {x : Int} {ns : List Int} (hx : x.natAbs < 2 ^ B) (h : Fit A L ns) : (valR x ns).natAbs < 2 ^ (A + (B + 1) * L) :=
  Nat.lt_of_lt_of_le (val_bits hx ns h.1) (Nat.pow_le_pow_right (by decide) (Nat.add_le_add_left (Nat.mul_le_mul_left _ h.2) _))
theorem valB_of {A B L : Nat} {x : Int} {ns : List Int} (hx : x.natAbs < 2 ^ B) (h : Fit A L ns) (A0 : 0 < A) (B0 : 0 < B) (fit : A + (B + 1) * L + B ≤ 1000000) : ValB ns x := fun j =>
  wide_mul (val_fit hx ⟨fun n hn => h.1 n (List.mem_of_mem_drop hn), by rw [List.length_drop]; exact Nat.le_trans (Nat.sub_le _ _) h.2⟩) hx (by omega) B0 fit
theorem val_zero : ∀ ns : List Int, valR 0 ns = (ns[0]?).getD 0
  | [] => rfl
  | a :: r => by
    show valR 0 r * 0 + a = a
    omega
theorem val_one : ∀ ns : List Int, valR 1 ns = ns.sum
  | [] => rfl
  | a :: r => by
    show valR 1 r * 1 + a = (a :: r).sum
    rw [val_one r, List.sum_cons]
    omega
section
variable {P : Program} {w : World} {K : PySem.W.Frag} {mg : Str → Option Value} {base : Heap} {f C CN t0 : Addr} {fd : FuncData}
structure Has2 (P : Program) (w : World) (K : PySem.W.Frag) (mg : Str → Option Value) (base : Heap) (C CN : Addr) : Prop where
  call : Met1 P w K mg base (L2.CX P w) 4 C "__call__" ["self", "number"] (spValue K C CN)
  item : Met1 P w K mg base (L2.CX P w) 5 C "__getitem__" ["self", "index"] (spItem K C CN)
  iter : Met1 P w K mg base CX0 1 C "__iter__" ["self"] (spIt K (PolyR K C))
  len : Met1 P w K mg base CX0 1 C "__len__" ["self"] (spLn (PolyR K C))
  lat : Def1 P w K mg base CX0 1 "_law_at" ["_law_factors_here", "_law_number"] (spLAt K)
theorem call_list1 {X : Cx} {j : Nat} (A : Has2 X.prog X.w X.K X.mg X.base C CN) (hr : Room j X.A) (hj : 6 ≤ j) : CallR X (.type "list") (rListO X.K C (PolyR X.K C)) := by
  obtain ⟨fi, fdI, MI, _, FI, bI⟩ := A.iter.ex
  obtain ⟨fl, fdL, ML, _, FL, bL⟩ := A.len.ex
  exact call_listO ⟨MI, ML⟩ FI bI FL bL (hr.mono hj)
abbrev sValues : Stmt := top 50
def spValues (K : PySem.W.Frag) : Sp := fun vs H Q _ => ∃ (d a b : Addr) (ns ms : List Int), vs = [.ref d, .ref a, .ref b] ∧ DiceAt H d ∧ SqT K H a (ns.map V.int) ∧ SqT K H b (ms.map V.int) ∧ (Big ns ∧ ns.length ≤ 12 ∧ trim ns = ns) ∧ (Big ms ∧ ms.length ≤ 12 ∧ trim ms = ms) ∧
  ∀ H', ExtBut d H H' → DiceAt H' d → Q (.bl true) H'
theorem scValues : FnScope ["_law_dice_here", "_law_one", "_law_other", "_law_number", "_law_left", "_law_right_here"] ["_law_dice_here", "_law_one", "_law_other"] (defScope sValues) := ⟨rfl, rfl, rfl, by decide +kernel, rfl, by decide +kernel, by decide +kernel⟩
/-- the value of a polynomial at a number that is let -/
theorem g_val {H : Hp} {Q : VK} {E : XK} {p u : Addr} {ns : List Int} {x : Int} (hP : PolyU K C H p u ns) (hx : x.natAbs < 2 ^ 100) (hB : ValB ns x) (k : ∀ H', Ext H H' → Q (.int (valR x ns)) H') :
    ∃ dx fs, H p = some (.ins C dx fs) ∧ spValue K C CN [.ref p, .int x] H Q E := by
  obtain ⟨dx, hp⟩ := id hP.1
  have e : (2 : Nat) ^ 100 < 10 ^ 60 := by decide +kernel
  refine ⟨dx, _, hp, p, u, ns, .int x, true, rfl, hP, .inl ⟨x, rfl, (decide_eq_true ⟨by omega, by omega⟩).symm⟩, fun _ y hy => ?_, fun z => Bool.noConfusion z⟩
  cases hy
  exact ⟨hB, k⟩
theorem ok_values (F : Fun K "_law_values_right" "_law_values_right" sValues f fd) (T : Txt K mg) (hrp : mg "repr" = none) (hsm : mg "sum" = none) (Cl : PC K mg C) (A : Has P w K mg base C t0) (B : Has2 P w K mg base C CN) (Di : Dic P w K mg base) :
    FnG P w K mg base CX0 9 f fd ["_law_dice_here", "_law_one", "_law_other"] (spValues K) := by
  refine fnG F scValues (fun vs H Q E h => ?_) (fun cdv Ar outer s H vs Q E hg hr h => ?_)
  · obtain ⟨d, a, b, ns, ms, rfl, _⟩ := h
    rfl
  · obtain ⟨d, a, b, ns, ms, rfl, hd, ha, hb, ⟨Bn, ln, tn⟩, ⟨Bm, lm, tm⟩, k⟩ := h
    refine ⟨_, PSs.nox (pss_cons (ps_set (i := 3) scValues.nd rfl (Or.inl rfl) (pe_def Di.pick hr (by decide) (by rfl) (pa_cons (pv 0) (pa_cons (pe_lst (pa_cons pe_int (pa_cons pe_int (pa_cons (pe_un un_neg pe_int) (pa_cons pe_int (pa_cons pe_int (pa_cons (pe_op op_pow pe_int pe_int)
          (pa_cons (pe_op op_sub pe_int (pe_op op_pow pe_int pe_int)) pa_nil)))))))) pa_nil))))
      (pss_cons (ps_par (i := 4) (j := 5) rfl scValues.nd rfl rfl (by decide) rfl rfl (pa_cons (pe_mk1 A.ini hr (by decide) (by rfl) Cl.g (pa_cons (pv 1) pa_nil)) (pa_cons (pe_mk1 A.ini hr (by decide) (by rfl) Cl.g (pa_cons (pv 2) pa_nil)) pa_nil)) rfl)
      (pss_cons (ps_if (PW.pt (pw_or (pt_cmpR op_ne (pe_callB SkE.call_repr_int (by rfl) hrp (by decide +kernel) (pa_cons (pe_cl1 B.call hr (by decide) L2.takes0 (pv 4) (pa_cons (pv 3) pa_nil)) pa_nil))
            (pe_callB SkE.call_repr_int (by rfl) hrp (by decide +kernel) (pa_cons (pe_def B.lat hr (by decide) (by rfl) (pa_cons (pv 1) (pa_cons (pv 3) pa_nil))) pa_nil)) (nomark _))
          (pw_or1 (pt_cmpR op_ne (pe_cl1 B.call hr (by decide) L2.takes0 (pe_op (op_add1 A.add hr (by decide)) (pv 4) (pv 5)) (pa_cons (pv 3) pa_nil))
            (pe_op op_add (pe_cl1 B.call hr (by decide) L2.takes0 (pv 4) (pa_cons (pv 3) pa_nil)) (pe_cl1 B.call hr (by decide) L2.takes0 (pv 5) (pa_cons (pv 3) pa_nil))) (nomark _))))) (pss_one (ps_ret pe_bl)) pss_nil)
        (pss_one (ps_ret (pe_and (pe_cmpR op_eq (pe_cl1 B.call hr (by decide) L2.takes0 (pe_op (op_mul1 A.mul hr (by decide)) (pv 4) (pv 5)) (pa_cons (pv 3) pa_nil))
              (pe_op op_mulW (pe_cl1 B.call hr (by decide) L2.takes0 (pv 4) (pa_cons (pv 3) pa_nil)) (pe_cl1 B.call hr (by decide) L2.takes0 (pv 5) (pa_cons (pv 3) pa_nil))) (nomark _))
            (pe_and (pe_cmpR op_eq (pe_cl1 B.call hr (by decide) L2.takes0 (pv 4) (pa_cons pe_int pa_nil)) (pe_it1 B.item hr (by decide) L2.takes0 (pv 4) pe_int) (nomark _))
              (pe_one (pe_cmpR op_eq (pe_cl1 B.call hr (by decide) L2.takes0 (pv 4) (pa_cons pe_int pa_nil)) (pe_callB (cr_sum rfl) (by rfl) hsm (by decide +kernel) (pa_cons (pe_callTy (call_list1 B hr (by decide)) (by rfl) T.list (by decide +kernel) (pa_cons (pv 4) pa_nil)) pa_nil)) (nomark _)))))))))), ?_⟩
    have Fn : Fit 200 12 ns := fit_big Bn ln
    have Fm : Fit 200 12 ms := fit_big Bm lm
    walk_at "rd"
    refine g_I ⟨by decide, by decide, by decide⟩ ?_
    walk_at "rd"
    refine g_I ⟨by decide, by decide, by decide⟩ ?_
    walk_at "rd"
    refine ⟨by show 7 ≤ sizeLine; decide, fun l1 hl1 => ?_⟩
    walk_at "rd"
    refine ⟨d, l1, _, rfl, hd.upd (dice_none hd hl1), SqL.of upd_same, dice_none hd hl1, by decide, by decide, fun H1 x1 e1 hd1 hx1 => ?_⟩
    have E1 : ExtBut d H H1 := (ExtBut.of (Ext.new hl1)).trans e1
    obtain ⟨i, rfl, hi⟩ : ∃ i : Int, x1 = .int i ∧ i.natAbs < 2 ^ 67 := by
      simp only [List.mem_cons, List.not_mem_nil, or_false] at hx1
      rcases hx1 with rfl | rfl | rfl | rfl | rfl | rfl | rfl
      all_goals exact ⟨_, rfl, by decide +kernel⟩
    clear e1 hx1
    have a1 := sqT_dice hd E1 ha
    have b1 := sqT_dice hd E1 hb
    walk_at "rd"
    refine g_par ?_
    walk_at "rd"
    refine g_mkP (ns := ns) (fun Q0 k0 => ⟨_, rfl, k0 _ _ (fun _ _ h => h) a1⟩) (by omega) Bn (fun H2 p u e2 h2 => ?_)
    rw [tn] at h2
    walk_at "rd"
    refine g_mkP (ns := ms) (fun Q0 k0 => ⟨_, rfl, k0 _ _ (fun _ _ h => h) (sqT_ext e2 b1)⟩) (by omega) Bm (fun H3 q v e3 h3 => ?_)
    rw [tm] at h3
    walk_at "rd"
    refine ⟨_, _, rfl, ?_⟩
    have h2 := h2.ext e3
    have e13 := Ext.trans e2 e3
    have a3 := sqT_ext e13 a1
    clear e2 e3
    have hi' : i.natAbs < 2 ^ 100 := Nat.lt_of_lt_of_le hi (by decide +kernel)
    have vn : ValB ns i := valB_of hi Fn (by decide) (by decide) (by decide)
    have vm : ValB ms i := valB_of hi Fm (by decide) (by decide) (by decide)
    have va : ValB (trim (addR ns ms)) i := valB_of hi (Fn.add Fm) (by decide) (by decide) (by decide)
    have mnm : MulB ns ms := Fn.mulB Fm (by decide) (by decide) (by decide) (by decide) (by decide)
    have vp : ValB (trim (mulR ns ms)) i := valB_of hi (Fn.mul Fm (by decide)) (by decide) (by decide) (by decide)
    have bn : (valR i ns).natAbs < 2 ^ (200 + (67 + 1) * 12) := val_fit hi Fn
    have bm : (valR i ms).natAbs < 2 ^ (200 + (67 + 1) * 12) := val_fit hi Fm
    have lg : (valR i ns).natAbs.log2 < 1920 := Nat.lt_of_lt_of_le (log_bits (by decide) bn) (by decide)
    walk_at "rd"
    refine g_callO ?_
    walk_at "rd"
    refine ⟨p, rfl, ?_⟩
    walk_at "rd"
    refine g_val h2 hi' vn (fun H4 e4 => ?_)
    walk_at "rd"
    refine ⟨lg, ?_⟩
    walk_at "rd"
    refine ⟨a, ns, i, rfl, sqT_ext e4 a3, vn, fun H5 e5 => ?_⟩
    walk_at "rd"
    refine ⟨lg, g_neS ?_⟩
    walk_at "rd"
    have e35 := Ext.trans e4 e5
    refine g_callO ?_
    walk_at "rd"
    refine g_binP (h2.ext e35) (OpRow.pol (h3.ext e35)) trivial (fun G1 q1 z1 f1 g1 => ⟨q1, rfl, ?_⟩)
    walk_at "rd"
    refine g_val g1 hi' va (fun G2 f2 => ?_)
    walk_at "rd"
    have e3G2 := Ext.trans e35 (Ext.trans f1 f2)
    refine g_callO ?_
    walk_at "rd"
    refine ⟨p, rfl, ?_⟩
    walk_at "rd"
    refine g_val (h2.ext e3G2) hi' vn (fun G3 f3 => ?_)
    walk_at "rd"
    refine g_callO ?_
    walk_at "rd"
    refine ⟨q, rfl, ?_⟩
    walk_at "rd"
    refine g_val (h3.ext (Ext.trans e3G2 f3)) hi' vm (fun G4 f4 => ?_)
    walk_at "rd"
    refine g_ne rfl ?_
    rw [decide_eq_true (show V.int (valR i (trim (addR ns ms))) = V.int (valR i ns + valR i ms) by rw [val_trim, val_add])]
    have e34 := Ext.trans e3G2 (Ext.trans f3 f4)
    clear g1 f1 f2 f3 f4 e3G2 e35 e4 e5
    walk_at "rd"
    refine g_callO ?_
    walk_at "rd"
    refine g_binP (h2.ext e34) (OpRow.pol (h3.ext e34)) mnm (fun G1 q1 z1 f1 g1 => ⟨q1, rfl, ?_⟩)
    walk_at "rd"
    refine g_val g1 hi' vp (fun G2 f2 => ?_)
    walk_at "rd"
    have e3G2 := Ext.trans e34 (Ext.trans f1 f2)
    refine g_callO ?_
    walk_at "rd"
    refine ⟨p, rfl, ?_⟩
    walk_at "rd"
    refine g_val (h2.ext e3G2) hi' vn (fun G3 f3 => ?_)
    walk_at "rd"
    refine g_callO ?_
    walk_at "rd"
    refine ⟨q, rfl, ?_⟩
    walk_at "rd"
    refine g_val (h3.ext (Ext.trans e3G2 f3)) hi' vm (fun G4' f4 => ?_)
    refine g_I (wide_mul bn bm (by decide) (by decide) (by decide)) ?_
    walk_at "rd"
    rw [decide_eq_true (show valR i (trim (mulR ns ms)) = valR i ns * valR i ms by rw [val_trim, val_mul])]
    have e35 := Ext.trans e3G2 (Ext.trans f3 f4)
    clear g1 f1 f2 f3 f4 e3G2 e34
    walk_at "rd"
    refine g_callO ?_
    walk_at "rd"
    refine ⟨p, rfl, ?_⟩
    walk_at "rd"
    refine g_val (h2.ext e35) (by decide) (valB_of (B := 1) (by decide) Fn (by decide) (by decide) (by decide)) (fun G5 f5 => ?_)
    walk_at "rd"
    have e36 := Ext.trans e35 f5
    have h6 := h2.ext e36
    obtain ⟨d6, i6⟩ := id h6.1
    refine g_ixO ?_
    walk_at "rd"
    refine ⟨p, d6, _, rfl, i6, p, u, ns, _, true, rfl, h6, .inl ⟨_, rfl, (decide_eq_true (by decide)).symm⟩, fun _ j hj => ?_, fun z => Bool.noConfusion z⟩
    cases hj
    walk_at "rd"
    rw [decide_eq_true (show valR 0 ns = (ns[(0 : Int).toNat]?).getD 0 from val_zero ns)]
    walk_at "rd"
    refine g_callO ?_
    walk_at "rd"
    refine ⟨p, rfl, ?_⟩
    walk_at "rd"
    refine g_val h6 (by decide) (valB_of (B := 1) (by decide) Fn (by decide) (by decide) (by decide)) (fun G7 f7 => ?_)
    walk_at "rd"
    have h7 := h6.ext f7
    refine ⟨p, d6, _, u, _, rfl, f7 _ _ i6, fun H' e => ⟨ns, rfl, h7.ext e⟩, h7.2.1, by rw [List.length_map, sizeLine_eq]; omega, fun l G8 f8 hl8 hl => ?_⟩
    walk_at "rd"
    refine ⟨l, ns, rfl, SqL.of hl, ?_⟩
    walk_at "rd"
    rw [decide_eq_true (val_one ns)]
    have fin := Ext.trans e13 (Ext.trans e36 (Ext.trans f7 f8))
    exact k _ (E1.trans (ExtBut.of fin)) (hd1.ext fin)
end
end K0

set_option Elab.async false
set_option linter.all false
set_option maxRecDepth 100000
set_option maxHeartbeats 4000000
/-! The law's look at powers, raised and turned rows. -/
namespace K0
open PySem PySem.Spec PyProof.Rows L2 Gd
open LamX (Tabs TabB ExtN GivesTo CodeO tLam)
local macro_rules | `(tactic| walk_at "rd1") => `(tactic| first | with_reducible refine g_ret ?_ | with_reducible refine g_retN ?_ | with_reducible refine g_seq ?_ | with_reducible refine g_next ?_ | with_reducible refine g_drop ?_ | with_reducible refine g_asg ?_ | with_reducible refine g_name ?_ | with_reducible refine g_ifs ?_ | with_reducible refine g_test ?_ | with_reducible refine g_tb ?_ | with_reducible refine g_and ?_ | with_reducible refine g_or ?_ | with_reducible refine g_not ?_ | with_reducible refine g_andV ?_ | with_reducible refine g_orV ?_ | with_reducible refine g_notV ?_ | with_reducible refine g_if ?_ | with_reducible refine g_op ?_ | with_reducible refine g_un ?_ | with_reducible refine g_cb ?_ | with_reducible refine g_nil ?_ | with_reducible refine g_cons ?_ | with_reducible refine g_call ?_ | with_reducible refine g_callS ?_ | with_reducible refine g_tup ?_ | with_reducible refine g_lst ?_ | with_reducible refine g_isN ?_ | with_reducible refine g_sl ?_ | with_reducible refine g_nopart ?_ | with_reducible refine g_part ?_ | with_reducible refine g_chain ?_ | with_reducible refine g_fld ?_ | with_reducible refine g_prop ?_ | with_reducible refine g_bm ?_ | with_reducible refine g_bm0 ?_ | with_reducible refine g_c ?_ | with_reducible refine g_sub ?_ | with_reducible refine g_int1 ?_ | with_reducible refine g_int2 ?_ | with_reducible refine g_yes ?_ | with_reducible refine g_sfld ?_ | with_reducible refine g_NT ?_ | with_reducible refine g_NF ?_ | with_reducible refine iteT ?_ | with_reducible refine iteF ?_ | ((with_reducible refine' g_aug ?hv ?_); (case hv => exact rfl)) | ((with_reducible refine' g_var ?hv ?_); (case hv => exact rfl)) | with_reducible refine g_I0 ?_ | with_reducible refine g_U ?_ | with_reducible refine g_eqI ?_ | with_reducible refine g_blV ?_ | with_reducible refine g_inV ?_)
local macro_rules | `(tactic| walk_at "rd") => `(tactic| repeat walk_at "rd1")
section
variable {P : Program} {w : World} {K : PySem.W.Frag} {mg : Str → Option Value} {base : Heap} {f C CN CT CR t0 : Addr} {fd : FuncData}
abbrev sPowers : Stmt := top 49
abbrev qPowers : Str := "_law_powers_right.<locals>.<lambda>"
/-- all but the dice and the tables stays -/
structure Keep (T : List (Addr × Str)) (d : Addr) (H H' : Hp) : Prop where
  ext : ∀ b o, b ≠ d → H b = some o → (∀ ps, o ≠ .tbl ps) → H' b = some o
  dice : DiceAt H' d
  tabs : Tabs T H'
structure Has3 (P : Program) (w : World) (K : PySem.W.Frag) (mg : Str → Option Value) (base : Heap) (C CN CT CR : Addr) : Prop where
  power : Met1 P w K mg base (L2.CX P w) 7 C "power" ["self", "many"] (spPower K C CN CT)
  raised : Met1 P w K mg base (L2.CX P w) 7 C "raised" ["self", "many"] (spRaised K C CN)
  turned : Met1 P w K mg base (L2.CX P w) 7 C "turned_round" ["self", "many"] (spTurned K C CN CR)
  lraised : Def1 P w K mg base CX0 1 "_law_raised" ["_law_factors_here", "_law_many"] (spLRaised K)
/-- the def that catches refusals -/
structure Ref (K : PySem.W.Frag) (mg : Str → Option Value) (C CR CT : Addr) : Prop where
  at_ : ∃ (f : Addr) (fd : FuncData), At K mg "_law_refused" sRefused ["_law_call"] f fd
  fac : ∃ (p f : Addr) (fd : FuncData), AtP K C "factors" "Poly.factors" 2 p f fd
  r : ∃ fR, PySem.XRefused.RefusedTxt K mg CR fR
  m : ∃ fT, PySem.XTooMany.TooManyTxt K mg CT fT
  no : PySem.W.exmOne K (.ref CT) (.ref CR) = some false
/-- _law_refused(lambda: body) -/
theorem pe_ref {X : Cx} {T : List (Addr × Str)} {c Pt : Addr} {params : Arguments} {body : Expr} {scope : Scope} {t : XK → TE} {p lpos pos : Pos} {k : Nat} (hgl : Gl X "_law_refused") (Cl : PC X.K X.mg C) (R : Ref X.K X.mg C CR CT)
    (TB : TabB X.base X.mg c Pt) (hcode : X.env.code = .ref c) (hmT : (Pt, X.env.qual ++ "<lambda>") ∈ T) (hu : ∀ p ∈ T, p.1 = Pt → p.2 = X.env.qual ++ "<lambda>") (hr : Room (k + 3) X.A) (L : LamX.LamS X.env.scope scope) (hdef : defaultsOf params X.env = ([], []))
    (hbind : ∀ (q : Str) (cl : List (Str × Addr)) (pm cv ctv : Value), bindArgs (PySem.W.kla_fn "<lambda>" q params body scope cl pm cv ctv) ⟨[], []⟩ = pure [])
    (hbody : ∀ (A : Around) (outer : List Env) (s : Shared) (H : Hp) (E : XK) (f c' : Addr), Room (k + 1) (A.deeper (LamX.lamEnv X scope s.heap.objs.size f c')) → PE (LamX.lamCx X A outer s H E scope f c') body (t E)) :
    PE X (.Call (.Name "_law_refused" p) [.Lambda params body scope lpos] [] pos) (tLam T (TRef X.K C CR CT) t) := by
  obtain ⟨g, fdg, Rf⟩ := R.at_
  obtain ⟨pF, fF, fdF, PF⟩ := R.fac
  obtain ⟨fR, RR⟩ := R.r
  obtain ⟨fT, RM⟩ := R.m
  have hkp := Rf.F.kp
  have hbi := Rf.b
  obtain ⟨oc, od, kV, doc, pm, an, cdv, ct, osl, rfl, lk, hcd⟩ := Rf.F.ex
  exact LamX.pe_lamcall (k := k + 1) (Ng := ["_law_call", "e"]) hgl Rf.g hkp lk hcd hbi scRefused rfl (Or.inl rfl) (ref_gives Cl PF RR RM R.no (hr.mono (by omega))) TB hcode hmT hu hr L hdef hbind hbody
/-! ### the mathematics -/
theorem pow_fit {t : List Int} (h : Fit 4 4 t) : ∀ j, Fit (1 + 20 * j) (1 + 4 * j) (powR t j)
  | 0 => ⟨fun n hn => by rw [List.mem_singleton.mp hn]; decide, Nat.le_refl _⟩
  | j + 1 => (h.mul (pow_fit h j) (by decide)).mono (by omega) (by omega)
theorem pow_B {t : List Int} (h : Fit 4 4 t) {m : Nat} (hm : m ≤ 40) : PowB t m := fun j hj => h.mulB (pow_fit h j) (by decide) (by omega) (by omega) (by decide) (by omega)
theorem trim_trim (ns : List Int) : trim (trim ns) = trim ns := by
  induction ns with
  | nil => rfl
  | cons x r ih =>
    cases e : trim r with
    | nil =>
      by_cases hx : x = 0
      · have h : trim (x :: r) = [] := by
          unfold trim
          rw [e]
          show (if x = 0 then [] else [x]) = []
          rw [if_pos hx]
        rw [h]
        rfl
      · have h : trim (x :: r) = [x] := by
          unfold trim
          rw [e]
          show (if x = 0 then [] else [x]) = [x]
          rw [if_neg hx]
        rw [h]
        show (if x = 0 then [] else [x]) = [x]
        rw [if_neg hx]
    | cons y s =>
      have h : trim (x :: r) = x :: y :: s := by
        unfold trim
        rw [e]
      rw [h]
      rw [e] at ih
      show trim (x :: (y :: s)) = x :: y :: s
      conv => lhs; unfold trim
      rw [ih]
theorem pow_trim (t : List Int) : ∀ m, trim (powR t m) = powR t m
  | 0 => rfl
  | m + 1 => trim_trim _
theorem pow_turn (t : List Int) (j : Nat) : trim (mulR (powR t j) t) = powR t (j + 1) := mul_comm' _ _
theorem trim_front : ∀ (a b : List Int), trim b ≠ [] → trim (a ++ b) = a ++ trim b
  | [], b, _ => rfl
  | x :: a, b, h => by
    have ih := trim_front a b h
    show trim (x :: (a ++ b)) = x :: (a ++ trim b)
    have ne : a ++ trim b ≠ [] := by
      intro z
      exact h (List.append_eq_nil_iff.mp z).2
    conv => lhs; unfold trim
    rw [ih]
    cases e : a ++ trim b with
    | nil => exact absurd e ne
    | cons y s => rfl
theorem raise_eq {t : List Int} (ht : trim t = t) (i : Nat) : trim (List.replicate i 0 ++ t) = raisedR t i := by
  unfold raisedR
  by_cases z : t = []
  · rw [if_pos z, z, List.append_nil]
    exact trim_none _ fun k => by
      unfold at0
      rw [List.getElem?_replicate]
      split <;> rfl
  · rw [if_neg z, trim_front _ _ (by rw [ht]; exact z), ht]
theorem turn_len {ns : List Int} {m : Nat} (h : ns.length ≤ m + 1) : (turnR ns m).length = m + 1 := by
  unfold turnR
  rw [List.length_append, List.length_replicate, List.length_reverse]
  omega
theorem at0_turn {ns : List Int} {m : Nat} (h : ns.length ≤ m + 1) (k : Nat) : at0 (turnR ns m) k = if k ≤ m then at0 ns (m - k) else 0 := by
  by_cases hk : k ≤ m
  · rw [if_pos hk]
    unfold turnR at0
    by_cases g : k < m + 1 - ns.length
    · rw [List.getElem?_append_left (by rw [List.length_replicate]; exact g), List.getElem?_replicate, if_pos g, List.getElem?_eq_none_iff.mpr (by omega)]
      rfl
    · rw [List.getElem?_append_right (by rw [List.length_replicate]; omega), List.length_replicate, List.getElem?_reverse (by omega)]
      congr 2
      omega
  · rw [if_neg hk]
    exact at0_out (by rw [turn_len h]; omega)
theorem turn_twice {ns : List Int} {m : Nat} (t : trim ns = ns) (h : ns.length ≤ m + 1) : trim (turnR (trim (turnR ns m)) m) = ns := by
  have l : (trim (turnR ns m)).length ≤ m + 1 := by
    have := trim_len (turnR ns m)
    rw [turn_len h] at this
    exact this
  have e : trim (turnR (trim (turnR ns m)) m) = trim ns := trim_same _ _ fun k => by
    rw [at0_turn l]
    by_cases hk : k ≤ m
    · rw [if_pos hk, at0_trim, at0_turn h, if_pos (by omega)]
      congr 1
      omega
    · rw [if_neg hk, at0_out (by omega)]
  rw [e, t]
theorem tabs_but {T : List (Addr × Str)} {H H' : Hp} {d : Addr} (hd : DiceAt H d) (e : ExtBut d H H') (t : Tabs T H) : Tabs T H' := fun p hp => by
  obtain ⟨ps, h1, h2, h3⟩ := t p hp
  refine ⟨ps, e _ _ (dice_ne hd h1 (fun _ => by simp)) h1, h2, fun pos cv hc => ?_⟩
  obtain ⟨c, e1, e2⟩ := h3 pos cv hc
  exact ⟨c, e1, e _ _ (dice_ne hd e2 (fun _ z => by unfold CodeO at z; cases z)) e2⟩
theorem g_meth {m : Str} {sp : Sp} {dvs : List V} {E : XK} {ta : TE} {t : TA} {σ : L2.St} {H : Hp} {Q : VK} (k : ta σ H fun x H1 => ∃ a dx fs, x = .ref a ∧ H1 a = some (.ins C dx fs) ∧ fs.lookup m = none ∧ t σ H1 fun vs H2 => sp (x :: (vs ++ dvs)) H2 Q E) : tMeth C m sp dvs E ta t σ H Q := k
theorem g_cutA {H : Hp} {Q : VK} {a : Addr} {ns : List Int} {j : Nat} (hs : SqT K H a (ns.map V.int)) (k : ∀ H' g, Ext H H' → SqT K H' g ((ns.take j).map V.int) → Q (.ref g) H') : rSlA K (.ref a) none (some (j : Int)) H Q := by
  have s1 : HT.sIx (ns.map V.int).length 0 none = 0 := rfl
  have s2 : HT.sIx (ns.map V.int).length (ns.map V.int).length (some (j : Int)) = min j ns.length := by rw [HT.sIx_nat, List.length_map]
  refine ⟨a, _, rfl, hs, fun q => ?_, fun q p hp => ?_⟩
  · rw [s2, List.length_map] at q
    refine k _ a (fun _ _ h => h) ?_
    rw [List.take_of_length_le (by omega)]
    exact hs
  · refine k _ p (Ext.new hp) ?_
    have ec : cutV (ns.map V.int) none (some (j : Int)) = (ns.take j).map V.int := by
      unfold cutV
      rw [s1, s2, List.drop_zero, Nat.sub_zero, List.map_take]
      by_cases g : j ≤ ns.length
      · rw [Nat.min_eq_left g]
      · rw [Nat.min_eq_right (by omega), List.take_of_length_le (by rw [List.length_map]; exact Nat.le_refl _), List.take_of_length_le (by rw [List.length_map]; omega)]
    rw [← ec]
    exact SqT.of upd_same
def PvD (K : PySem.W.Frag) (d a p few : Addr) (m : Nat) (t : List Int) (H5 : Hp) (i : Nat) : L2.St → Hp → Prop := fun σ H' => ∃ (due : Addr) (x : Option V), σ = [some (.ref d), some (.ref a), some (.ref p), some (.int (m : Int)), some (.ref few), some (.ref due), x, none, none, none, none] ∧ Ext H5 H' ∧ SqT K H' due ((powR t i).map V.int)
theorem eqv_same (ns : List Int) : PyData.eqv (.tuple (idata ns)) (.tuple (idata ns)) = true := (eqv_ints ns ns).trans (decide_eq_true rfl)
theorem g_revT {te : TE} {σ : L2.St} {H : Hp} {Q : VK} (k : te σ H fun x H1 => ∃ a xs, x = .ref a ∧ SqT K H1 a xs ∧ ∀ p, H1 p = none → Q (.ref p) (upd H1 p (.tup xs.reverse))) : tRevT K te σ H Q := k
theorem g_repB {H : Hp} {Q : VK} {a : Addr} {n : Nat} (ha : SqT K H a [V.int 0]) (h1 : n ≤ 100000) (k : ∀ H' g, Ext H H' → SqT K H' g ((List.replicate n (0 : Int)).map V.int) → Q (.ref g) H') : rRepB K (.ref a) (.int (n : Int)) H Q := by
  refine ⟨a, _, _, rfl, rfl, ha, by simp, by omega, by omega, by show 1 ≤ 10; decide, fun e => k H a (fun _ _ h => h) ?_, fun _ p hp => k _ p (Ext.new hp) ?_⟩
  · obtain rfl : n = 1 := by omega
    exact ha
  · rw [Int.toNat_natCast, flat_zero1]
    exact SqT.of upd_same
theorem row_depth (ns : List Int) : (PyData.tuple (idata ns)).depth ≤ 60 := by
  show PyData.depthAll (idata ns) + 1 ≤ 60
  rw [deep_ints]
  decide
theorem row_size {A L : Nat} {ns : List Int} (h0 : 0 < A) (h : Fit A L ns) (fit : (A + 3) * L + 3 ≤ 16777216) : (PyData.tuple (idata ns)).shown.length ≤ sizeLine := by
  have e := tup_text h0 h.1
  have m : (A + 3) * ns.length ≤ (A + 3) * L := Nat.mul_le_mul_left _ h.2
  rw [sizeLine_eq]
  omega
theorem deg_data {z : Int} (h0 : 0 ≤ z) (h1 : z ≤ 6) : (PyData.tuple [.str "degree", .int z]).showable = true ∧ (PyData.tuple [.str "degree", .int z]).hasDict = false ∧ (PyData.tuple [.str "degree", .int z]).depth ≤ 60 ∧ (PyData.tuple [.str "degree", .int z]).shown.length ≤ sizeLine := by
  have : z = 0 ∨ z = 1 ∨ z = 2 ∨ z = 3 ∨ z = 4 ∨ z = 5 ∨ z = 6 := by omega
  rcases this with rfl | rfl | rfl | rfl | rfl | rfl | rfl
  all_goals exact ⟨by decide +kernel, by decide +kernel, by decide +kernel, by decide +kernel⟩
theorem turn_fit {A L m : Nat} {ns : List Int} (h : Fit A L ns) (hl : ns.length ≤ m + 1) : Fit A (m + 1) (turnR ns m) := by
  refine ⟨fun n hn => ?_, Nat.le_of_eq (turn_len hl)⟩
  unfold turnR at hn
  rcases List.mem_append.mp hn with q | q
  · rw [List.eq_of_mem_replicate q]
    exact Nat.two_pow_pos _
  · exact h.1 n (List.mem_reverse.mp q)
theorem PolyU.extN {H H' : Hp} {p u : Addr} {ns : List Int} (e : ExtN H H') (h : PolyU K C H p u ns) : PolyU K C H' p u ns := by
  obtain ⟨⟨dx, h1⟩, h2, h3⟩ := h
  refine ⟨⟨dx, e _ _ h1 (fun _ z => by cases z)⟩, ?_, h3⟩
  rcases h2 with (h | ⟨o, h⟩) | h
  · exact .inl (.inl (e _ _ h (fun _ z => by cases z)))
  · exact .inl (.inr ⟨o, e _ _ h (fun _ z => by cases z)⟩)
  · exact .inr h
theorem sqT_extN {H H' : Hp} {a : Addr} {xs : List V} (e : ExtN H H') (h : SqT K H a xs) : SqT K H' a xs := by
  rcases h with (h | ⟨o, h⟩) | h
  · exact .inl (.inl (e _ _ h (fun _ z => by cases z)))
  · exact .inl (.inr ⟨o, e _ _ h (fun _ z => by cases z)⟩)
  · exact .inr h
theorem DiceAt.extN {H H' : Hp} {d : Addr} (e : ExtN H H') (h : DiceAt H d) : DiceAt H' d := by
  obtain ⟨x, y, z, h1, r⟩ := h
  exact ⟨x, y, z, e _ _ h1 (fun _ z => by cases z), r⟩
theorem keep_of {T : List (Addr × Str)} {d : Addr} {H H1 H2 H3 : Hp} (a : ExtBut d H H1) (hd : DiceAt H1 d) (e : ExtN H1 H2) (t : Tabs T H2) (f : Ext H2 H3) : Keep T d H H3 :=
  ⟨fun b o n h z => f _ _ (e _ _ (a _ _ n h) z), (hd.extN e).ext f, t.ext f⟩
def spPowers (K : PySem.W.Frag) (T : List (Addr × Str)) : Sp := fun vs H Q _ => ∃ (d a : Addr) (ns : List Int), vs = [.ref d, .ref a] ∧ DiceAt H d ∧ Tabs T H ∧ SqT K H a (ns.map V.int) ∧ ns.length ≤ 6 ∧ (∀ n ∈ ns, -9 ≤ n ∧ n ≤ 9) ∧ ∀ H', Keep T d H H' → Q (.bl true) H'
theorem scPowers : FnScope ["_law_dice_here", "_law_one", "_law_poly", "_law_many", "_law_few", "_law_due", "_law_turn", "_law_lift", "_law_size", "_law_wide", "_law_turned"] ["_law_dice_here", "_law_one"] (defScope sPowers) := ⟨rfl, rfl, rfl, by decide +kernel, rfl, by decide +kernel, by decide +kernel⟩
theorem ok_powers {c Pt : Addr} {T : List (Addr × Str)} (F : Fun K "_law_powers_right" "_law_powers_right" sPowers f fd) (hc : fd.code = .ref c) (TB : TabB base mg c Pt) (hmT : (Pt, qPowers) ∈ T) (hu : ∀ p ∈ T, p.1 = Pt → p.2 = qPowers)
    (Tx : Txt K mg) (T2 : Txt2 mg) (Cl : PC K mg C) (A : Has P w K mg base C t0) (A3 : Has3 P w K mg base C CN CT CR) (R : Ref K mg C CR CT) (Di : Dic P w K mg base) :
    FnG P w K mg base CX0 10 f fd ["_law_dice_here", "_law_one"] (spPowers K T) := by
  refine fnGc F hc scPowers (fun vs H Q E h => ?_) (fun Ar outer s H vs Q E hg hr h => ?_)
  · obtain ⟨d, a, ns, rfl, _⟩ := h
    rfl
  · obtain ⟨d, a, ns, rfl, hd, hT, ha, ln, Bn, k⟩ := h
    refine ⟨_, PSs.nox (pss_cons (ps_asg (pe_tup (pa_cons (pe_mk1 A.ini hr (by decide) (by rfl) Cl.g (pa_cons (pv 1) pa_nil)) (pa_cons (pe_def Di.pick hr (by decide) (by rfl) (pa_cons (pv 0) (pa_cons (pe_lst (pa_cons pe_int (pa_cons pe_int (pa_cons pe_int (pa_cons pe_int (pa_cons pe_int
            (pa_cons (pe_def Di.roll hr (by decide) (by rfl) (pa_cons (pv 0) (pa_cons pe_int pa_nil))) pa_nil))))))) pa_nil))) pa_nil))) (pg_tup rfl (pgs_cons (pg_name (i := 2) scPowers.nd rfl (Or.inr rfl)) (pgs_cons (pg_name (i := 3) scPowers.nd rfl (Or.inl rfl)) pgs_nil))))
      (pss_cons (ps_par (i := 4) (j := 5) rfl scPowers.nd rfl rfl (by decide) rfl rfl (pa_cons (pe_slice sl_tupA (pv 1) po_none (po_some pe_int)) (pa_cons (pe_tup (pa_cons pe_int pa_nil)) pa_nil)) rfl)
      (pss_cons (ps_for PassesOwn.never rfl (pi_range1 (by rfl) T2.range (pa_cons (pv 3) pa_nil)) (pg_name (i := 6) scPowers.nd rfl (Or.inl rfl))
          (pss_one (ps_set (i := 5) scPowers.nd rfl (Or.inl rfl) (pe_def A.ltimes hr (by decide) (by rfl) (pa_cons (pv 5) (pa_cons (pe_def A.ltrim hr (by decide) (by rfl) (pa_cons (pv 4) pa_nil)) pa_nil))))))
      (pss_cons (ps_if (pt_cmpR (op_neD hr.units) (pe_pro1 Cl.cl A.fac hr (by decide) (pe_me1 Cl.cl A3.power hr (by decide) (E := X0) (passes_call L2.takes0 (fun _ _ _ _ h => h)) (pe_mk1 A.ini hr (by decide) (by rfl) Cl.g (pa_cons (pv 4) pa_nil)) (pa_cons (pv 3) pa_nil))) (pv 5) (nomark _)) (pss_one (ps_ret pe_bl)) pss_nil)
      (pss_cons (ps_set (i := 7) scPowers.nd rfl (Or.inl rfl) (pe_def Di.pick hr (by decide) (by rfl) (pa_cons (pv 0) (pa_cons (pe_lst (pa_cons pe_int (pa_cons pe_int (pa_cons pe_int (pa_cons pe_int
            (pa_cons (pe_def Di.roll hr (by decide) (by rfl) (pa_cons (pv 0) (pa_cons pe_int pa_nil))) pa_nil)))))) pa_nil))))
      (pss_cons (ps_if (pt_cmpR (op_neD hr.units) (pe_pro1 Cl.cl A.fac hr (by decide) (pe_me1 Cl.cl A3.raised hr (by decide) (E := X0) (passes_call L2.takes0 (fun _ _ _ _ h => h)) (pv 2) (pa_cons (pv 7) pa_nil)))
            (pe_def A3.lraised hr (by decide) (by rfl) (pa_cons (pe_def A.ltrim hr (by decide) (by rfl) (pa_cons (pv 1) pa_nil)) (pa_cons (pv 7) pa_nil))) (nomark _)) (pss_one (ps_ret pe_bl)) pss_nil)
      (pss_cons (ps_set (i := 8) scPowers.nd rfl (Or.inl rfl) (pe_callB call_len_seq (by rfl) Tx.len PySem.boot_len (pa_cons (pe_def A.ltrim hr (by decide) (by rfl) (pa_cons (pv 1) pa_nil)) pa_nil)))
      (pss_cons (ps_set (i := 9) scPowers.nd rfl (Or.inr rfl) (pe_def Di.pick hr (by decide) (by rfl) (pa_cons (pv 0) (pa_cons (pe_lst (pa_cons (pe_op op_sub (pv 8) pe_int) (pa_cons (pv 8) (pa_cons (pe_op op_add (pv 8) pe_int) (pa_cons pe_int
            (pa_cons (pe_callB (call_max2 rfl) (by rfl) T2.max (by decide +kernel) (pa_cons pe_int (pa_cons (pe_op op_sub (pv 8) pe_int) pa_nil))) pa_nil)))))) pa_nil))))
      (pss_cons (ps_set (i := 9) scPowers.nd rfl (Or.inr rfl) (pe_callB (call_max2 rfl) (by rfl) T2.max (by decide +kernel) (pa_cons pe_int (pa_cons (pv 9) pa_nil))))
      (pss_cons (ps_set (i := 10) scPowers.nd rfl (Or.inl rfl) (pe_ifExp (pt_cmpR op_le (pe_op op_sub (pv 8) pe_int) (pv 9) (nomark _))
            (pe_def A.ltrim hr (by decide) (by rfl) (pa_cons (pe_op op_catA (pe_op op_repB (pe_tup (pa_cons pe_int pa_nil)) (pe_op op_sub (pe_op op_add (pv 9) pe_int) (pv 8))) (pe_revT (pe_def A.ltrim hr (by decide) (by rfl) (pa_cons (pv 1) pa_nil)))) pa_nil))
            (pe_tup (pa_cons pe_str (pa_cons (pe_op op_sub (pv 8) pe_int) pa_nil)))))
      (pss_cons (ps_if (pt_cmpR op_ne (pe_callB (call_repr hg hr.units) (by rfl) T2.repr (by decide +kernel) (pa_cons (pe_ref (k := 6) (t := fun E => tMeth C "turned_round" (spTurned K C CN CR) [] E (tVar 2) (tCons (tVar 9) tNil)) (by rfl) Cl R TB rfl hmT hu hr (LamX.lamS_by (by show LamX.lamSB (defScope sPowers) _ = true; decide +kernel)) rfl (fun _ _ _ _ _ => by rfl)
              (fun _ _ _ _ E _ _ hr' => pe_me1 Cl.cl A3.turned hr' (by decide) (passes_call (takes_of rfl rfl rfl rfl) (fun _ _ _ _ h => h)) (pv 2) (pa_cons (pv 9) pa_nil))) pa_nil))
            (pe_callB (call_repr hg hr.units) (by rfl) T2.repr (by decide +kernel) (pa_cons (pv 10) pa_nil)) (nomark _)) (pss_one (ps_ret pe_bl)) pss_nil)
        (pss_one (ps_ret (pe_or (pe_cmpR op_gt (pe_op op_sub (pv 8) pe_int) (pv 9) (nomark _)) (pe_one (pe_cmpR (op_eq1 A.eq hr (by decide)) (pe_me1 Cl.cl A3.turned hr (by decide) (E := X0) (passes_call L2.takes0 (fun _ _ _ _ h => h)) (pe_me1 Cl.cl A3.turned hr (by decide) (E := X0) (passes_call L2.takes0 (fun _ _ _ _ h => h)) (pv 2) (pa_cons (pv 9) pa_nil)) (pa_cons (pv 9) pa_nil)) (pv 2) (nomark _))))))))))))))))), ?_⟩
    have B9 : Big ns := fun n hn => ⟨by have := (Bn n hn).1; omega, by have := (Bn n hn).2; omega⟩
    walk_at "rd"
    refine g_mkP (ns := ns) (fun Q0 k0 => ⟨_, rfl, k0 _ _ (fun _ _ h => h) ha⟩) (by omega) B9 (fun H1 p u e1 h1 => ?_)
    walk_at "rd"
    refine ⟨d, 41, rfl, hd.ext e1, by decide, by decide, fun H2 r e2 hd2 r0 r1 => ?_⟩
    have E2 := (ExtBut.of e1).trans e2
    have h2 := h1.dice (hd.ext e1) e2
    walk_at "rd"
    refine ⟨by show 6 ≤ sizeLine; decide, fun l1 hl1 => ?_⟩
    walk_at "rd"
    refine ⟨d, l1, _, rfl, hd2.upd (dice_none hd2 hl1), SqL.of upd_same, dice_none hd2 hl1, by show 0 < 6; decide, by show 6 ≤ 1000; decide, fun H3 x1 e3 hd3 hx1 => ?_⟩
    have e23 := (ExtBut.of (Ext.new hl1)).trans e3
    have E3 := E2.trans e23
    have h3 := h2.dice hd2 e23
    obtain ⟨m, rfl, hm⟩ : ∃ m : Nat, x1 = .int (m : Int) ∧ m ≤ 40 := by
      simp only [List.mem_cons, List.not_mem_nil, or_false] at hx1
      rcases hx1 with rfl | rfl | rfl | rfl | rfl | rfl
      · exact ⟨0, rfl, by decide⟩
      · exact ⟨1, rfl, by decide⟩
      · exact ⟨2, rfl, by decide⟩
      · exact ⟨3, rfl, by decide⟩
      · exact ⟨5, rfl, by decide⟩
      · obtain ⟨z, rfl⟩ : ∃ z : Nat, r = (z : Int) := ⟨r.toNat, by omega⟩
        exact ⟨z, rfl, by omega⟩
    clear hx1 e3 e2 h1 h2 E2 hd2 e23
    walk_at "rd"
    refine ⟨by show 2 ≤ sizeLine; decide, fun tp htp => ?_⟩
    have et := Ext.new (o := HO.tup [V.ref p, V.int (m : Int)]) htp
    refine ⟨tp, _, rfl, SqT.of upd_same, rfl, _, _, rfl, ?_⟩
    refine ⟨_, _, rfl, rfl, ?_⟩
    have E4 := E3.trans (ExtBut.of et)
    have h4 := h3.ext et
    have hd4 := hd3.ext et
    generalize upd H3 tp (.tup [V.ref p, V.int (m : Int)]) = H4 at et E4 h4 hd4
    clear h3 hd3 E3
    walk_at "rd"
    have a4 : SqT K H4 a (ns.map V.int) := sqT_dice hd E4 ha
    refine g_par ?_
    walk_at "rd"
    show rSlA K (.ref a) none (some ((4 : Nat) : Int)) _ _
    refine g_cutA a4 (fun H5 few e5 hf => ?_)
    walk_at "rd"
    refine ⟨by show 1 ≤ sizeLine; decide, fun o1 ho1 => ?_⟩
    have eo := Ext.new (o := HO.tup [V.int 1]) ho1
    walk_at "rd"
    refine ⟨_, _, rfl, ?_⟩
    have o6 : SqT K (upd H5 o1 (.tup [V.int 1])) o1 ([(1 : Int)].map V.int) := SqT.of upd_same
    have e46 := Ext.trans e5 eo
    have f6 := sqT_ext eo hf
    generalize upd H5 o1 (.tup [V.int 1]) = H6 at eo o6 e46 f6
    have Fw : Fit 4 4 (ns.take 4) := ⟨fun n hn => by have := Bn n (List.mem_of_mem_take hn); omega, by rw [List.length_take]; omega⟩
    have Bw : Big (ns.take 4) := fun n hn => B9 n (List.mem_of_mem_take hn)
    have Ft : Fit 4 4 (trim (ns.take 4)) := Fw.trim
    have lw : (ns.take 4).length ≤ 4 := Fw.2
    obtain ⟨fw, efw⟩ : ∃ fw, fw = ns.take 4 := ⟨_, rfl⟩
    rw [← efw] at Fw Bw Ft lw f6
    obtain ⟨t, et⟩ : ∃ t, t = trim fw := ⟨_, rfl⟩
    rw [← et] at Ft
    have h6 := h4.ext e46
    have hd6 := hd4.ext e46
    have E6 := E4.trans (ExtBut.of e46)
    clear h4 hd4 E4 e46 e5 eo hf efw a4
    walk_at "rd"
    refine g_forR ?_
    walk_at "rd"
    refine ⟨by omega, by omega, ?_⟩
    rw [Int.toNat_natCast]
    refine for_range (PvD K d a p few m t H6) ⟨o1, _, rfl, fun _ _ h => h, o6⟩ ?_ ?_
    · rintro i σ H7 hi ⟨due, x, rfl, e7, s7⟩
      walk_at "rd"
      refine ⟨few, fw, rfl, .inr (sqT_ext e7 f6), by omega, fun H8 u8 e8 s8 => ?_⟩
      rw [← et] at s8
      walk_at "rd"
      have pf := pow_fit Ft i
      have l1 := pf.2
      have l2 := Ft.2
      refine ⟨due, u8, powR t i, t, 1 + 20 * i, 4, rfl, sqT_ext e8 s7, s8, by omega, by omega, by omega, by decide, by omega, pf.1, Ft.1, fun H9 w e9 s9 => ?_⟩
      rw [pow_turn] at s9
      walk_at "rd"
      exact ⟨w, _, rfl, Ext.trans e7 (Ext.trans e8 e9), s9⟩
    · rintro σ H7 ⟨due, x, rfl, e7, s7⟩
      walk_at "rd"
      refine g_meth ?_
      walk_at "rd"
      refine g_mkP (ns := fw) (fun Q0 k0 => ⟨_, rfl, k0 _ _ (fun _ _ h => h) (sqT_ext e7 f6)⟩) (by omega) Bw (fun H8 p8 u8 e8 h8 => ?_)
      rw [← et] at h8
      obtain ⟨d8, i8⟩ := id h8.1
      refine ⟨p8, d8, _, rfl, i8, rfl, ?_⟩
      walk_at "rd"
      have lt := Ft.2
      refine ⟨p8, u8, t, _, true, rfl, h8, .inl ⟨_, rfl, (decide_eq_true (by omega)).symm⟩, fun _ m' em _ => ?_, fun z => Bool.noConfusion z⟩
      obtain rfl : m = m' := by
        injection em with em
        omega
      have small : ((t.length : Int) - 1) * (m : Int) ≤ 2000 := by
        have : ((t.length : Int) - 1) * (m : Int) ≤ 3 * (m : Int) := Int.mul_le_mul_of_nonneg_right (by omega) (by omega)
        omega
      refine ⟨fun _ => ⟨pow_B Ft hm, by have := (pow_fit Ft m).2; omega, fun H9 q9 v9 e9 h9 => ?_⟩, fun z => absurd small z⟩
      rw [pow_trim] at h9
      refine g_got h9 ?_
      walk_at "rd"
      refine ⟨.tuple (idata (powR t m)), .tuple (idata (powR t m)), .tup h9.2.1 (dp_ints _), .tup (sqT_ext (Ext.trans e8 e9) s7) (dp_ints _), shaped_tup _, shaped_tup _, ?_⟩
      rw [eqv_same]
      have e69 := Ext.trans e7 (Ext.trans e8 e9)
      have h9 := h6.ext e69
      have hd9 := hd6.ext e69
      have E9 := E6.trans (ExtBut.of e69)
      clear h6 hd6 E6 e7 e8 e9 e69 s7 h8 i8 f6 o6
      walk_at "rd"
      refine ⟨d, 401, rfl, hd9, by decide, by decide, fun H10 r2 e10 hd10 q0 q1 => ?_⟩
      walk_at "rd"
      refine ⟨by show 5 ≤ sizeLine; decide, fun l2 hl2 => ?_⟩
      walk_at "rd"
      refine ⟨d, l2, _, rfl, hd10.upd (dice_none hd10 hl2), SqL.of upd_same, dice_none hd10 hl2, by show 0 < 5; decide, by show 5 ≤ 1000; decide, fun H11 x2 e11 hd11 hx2 => ?_⟩
      have g11 := e10.trans ((ExtBut.of (Ext.new hl2)).trans e11)
      have h11 := h9.dice hd9 g11
      have E11 := E9.trans g11
      obtain ⟨j, rfl, hj⟩ : ∃ j : Nat, x2 = .int (j : Int) ∧ j ≤ 400 := by
        simp only [List.mem_cons, List.not_mem_nil, or_false] at hx2
        rcases hx2 with rfl | rfl | rfl | rfl | rfl
        · exact ⟨0, rfl, by decide⟩
        · exact ⟨1, rfl, by decide⟩
        · exact ⟨7, rfl, by decide⟩
        · exact ⟨400, rfl, by decide⟩
        · obtain ⟨z, rfl⟩ : ∃ z : Nat, r2 = (z : Int) := ⟨r2.toNat, by omega⟩
          exact ⟨z, rfl, by omega⟩
      clear hx2 e10 e11 g11 h9 hd9 hd10 E9
      have lt : (trim ns).length ≤ 6 := Nat.le_trans (trim_len ns) ln
      have a11 : SqT K H11 a (ns.map V.int) := sqT_dice hd E11 ha
      obtain ⟨d11, i11⟩ := id h11.1
      walk_at "rd"
      refine g_meth ?_
      walk_at "rd"
      refine ⟨p, d11, _, rfl, i11, rfl, ?_⟩
      walk_at "rd"
      refine ⟨p, u, trim ns, _, true, rfl, h11, by omega, .inl ⟨_, rfl, (decide_eq_true (by omega)).symm⟩, fun _ j' ej _ H12 q12 v12 e12 h12 => ?_, fun z => Bool.noConfusion z⟩
      obtain rfl : j = j' := by
        injection ej with ej
        omega
      rw [raise_eq (trim_trim ns)] at h12
      refine g_got h12 ?_
      walk_at "rd"
      refine ⟨a, ns, rfl, .inr (sqT_ext e12 a11), by omega, fun H13 u13 e13 s13 => ?_⟩
      walk_at "rd"
      refine ⟨u13, trim ns, j, rfl, s13, by omega, by omega, fun H14 u14 e14 s14 => ?_⟩
      refine ⟨.tuple (idata (raisedR (trim ns) j)), .tuple (idata (raisedR (trim ns) j)), .tup (sqT_ext (Ext.trans e13 e14) h12.2.1) (dp_ints _), .tup s14 (dp_ints _), shaped_tup _, shaped_tup _, ?_⟩
      rw [eqv_same]
      have e1114 := Ext.trans e12 (Ext.trans e13 e14)
      walk_at "rd"
      refine ⟨a, ns, rfl, .inr (sqT_ext e1114 a11), by omega, fun H15 u15 e15 s15 => ?_⟩
      walk_at "rd"
      refine ⟨u15, _, rfl, .inr s15, ?_⟩
      walk_at "rd"
      rw [List.length_map]
      have e1115 := Ext.trans e1114 e15
      have h15 := h11.ext e1115
      have hd15 := hd11.ext e1115
      have E15 := E11.trans (ExtBut.of e1115)
      clear h12 s13 s14 s15 e12 e13 e14 e15 e1114 e1115 h11 hd11 E11 a11 i11
      walk_at "rd"
      refine ⟨by show 5 ≤ sizeLine; decide, fun l3 hl3 => ?_⟩
      walk_at "rd"
      refine ⟨d, l3, _, rfl, hd15.upd (dice_none hd15 hl3), SqL.of upd_same, dice_none hd15 hl3, by show 0 < 5; decide, by show 5 ≤ 1000; decide, fun H16 x3 e16 hd16 hx3 => ?_⟩
      have g16 := (ExtBut.of (Ext.new hl3)).trans e16
      have h16 := h15.dice hd15 g16
      have E16 := E15.trans g16
      obtain ⟨z, rfl, hz⟩ : ∃ z : Int, x3 = .int z ∧ z ≤ 2000 := by
        simp only [List.mem_cons, List.not_mem_nil, or_false] at hx3
        rcases hx3 with rfl | rfl | rfl | rfl | rfl
        · exact ⟨_, rfl, by omega⟩
        · exact ⟨_, rfl, by omega⟩
        · exact ⟨_, rfl, by omega⟩
        · exact ⟨_, rfl, by omega⟩
        · exact ⟨_, rfl, by split <;> omega⟩
      clear hx3 e16 g16 h15 hd15 E15
      walk_at "rd"
      obtain ⟨wd, ewd, hwd⟩ : ∃ wd : Nat, (if z > (0 : Int) then z else 0) = (wd : Int) ∧ wd ≤ 2000 := by
        by_cases q : z > 0
        · exact ⟨z.toNat, by rw [if_pos q]; omega, by omega⟩
        · exact ⟨0, by rw [if_neg q]; rfl, by decide⟩
      rw [ewd]
      have hT16 : Tabs T H16 := tabs_but hd E16 hT
      have a16 : SqT K H16 a (ns.map V.int) := sqT_dice hd E16 ha
      walk_at "rd"
      have ft : Fit 4 6 (trim ns) := ⟨fun n hn => by have := Bn n (trim_mem ns n hn); omega, lt⟩
      have tt : trim (trim ns) = trim ns := trim_trim ns
      obtain ⟨t2, et2⟩ : ∃ t2, t2 = trim ns := ⟨_, rfl⟩
      rw [← et2] at lt h16 ft tt ⊢
      by_cases hle : t2.length ≤ wd + 1
      · rw [decide_eq_true (show (t2.length : Int) - 1 ≤ (wd : Int) by omega)]
        walk_at "rd"
        refine ⟨by show 1 ≤ sizeLine; decide, fun o3 ho3 => ?_⟩
        have eo := Ext.new (o := HO.tup [V.int 0]) ho3
        walk_at "rd"
        have ew : ((wd : Int) + 1 - (t2.length : Int)) = ((wd + 1 - t2.length : Nat) : Int) := by omega
        rw [ew]
        refine g_repB (SqT.of upd_same) (by omega) (fun H17 g17 e17 s17 => ?_)
        have e1617 := Ext.trans eo e17
        refine g_revT ?_
        walk_at "rd"
        refine ⟨a, ns, rfl, .inr (sqT_ext e1617 a16), by omega, fun H18 u18 e18 s18 => ?_⟩
        rw [← et2] at s18
        refine ⟨u18, _, rfl, s18, fun r18 hr18 => ?_⟩
        have er := Ext.new (o := HO.tup (t2.map V.int).reverse) hr18
        refine g_cat2 (sqT_ext (Ext.trans e18 er) s17) (SqT.of upd_same) (by rw [List.length_reverse, List.length_map, List.length_map, List.length_replicate, sizeLine_eq]; omega) (fun H19 g19 e19 s19 => ?_)
        walk_at "rd"
        have s19 : SqT K H19 g19 ((turnR t2 wd).map V.int) := by
          unfold turnR
          rw [List.map_append, List.map_reverse]
          exact s19
        have tl := turn_len hle
        refine ⟨g19, turnR t2 wd, rfl, .inr s19, by omega, fun H20 u20 e20 s20 => ?_⟩
        have e1620 := Ext.trans e1617 (Ext.trans e18 (Ext.trans er (Ext.trans e19 e20)))
        have h20 := h16.ext e1620
        have hd20 := hd16.ext e1620
        have E20 := E16.trans (ExtBut.of e1620)
        have hT20 := hT16.ext e1620
        clear s17 s18 s19 e17 e18 e19 e20 er eo e1617 e1620 h16 hd16 E16 hT16 a16
        have Fz : Fit 4 2001 (trim (turnR t2 wd)) := (turn_fit ft hle).trim.mono (by decide) (by omega)
        walk_at "rd"
        refine ⟨hT20, fun G1 eN tG => ?_⟩
        unfold TRef
        refine g_meth ?_
        walk_at "rd"
        have g1 := h20.extN eN
        obtain ⟨dg, ig⟩ := id g1.1
        refine ⟨p, dg, _, rfl, ig, rfl, ?_⟩
        walk_at "rd"
        refine ⟨p, u, t2, _, true, rfl, g1, by omega, .inl ⟨_, rfl, (decide_eq_true (by omega)).symm⟩, fun _ m' em' _ => ⟨fun _ G2 q2 v2 f2 g2 => ?_, fun z => ?_⟩, fun z => Bool.noConfusion z⟩
        rotate_left
        · injection em' with em'
          omega
        obtain rfl : wd = m' := by
          injection em' with em'
          omega
        refine g_got g2 ?_
        walk_at "rd"
        refine ⟨v2, _, rfl, .tup g2.2.1 (dp_ints _), row_show (by decide) (by decide) _ Fz.1, row_nodict _, row_depth _, row_size (by decide) Fz (by decide), ?_⟩
        walk_at "rd"
        refine ⟨u20, _, rfl, .tup (sqT_ext f2 (sqT_extN eN s20)) (dp_ints _), row_show (by decide) (by decide) _ Fz.1, row_nodict _, row_depth _, row_size (by decide) Fz (by decide), ?_⟩
        refine g_neS ?_
        walk_at "rd"
        rw [decide_eq_false (show ¬ (wd : Int) < (t2.length : Int) - 1 by omega)]
        walk_at "rd"
        refine g_meth ?_
        refine g_meth ?_
        walk_at "rd"
        have g3 := g1.ext f2
        refine ⟨p, dg, _, rfl, f2 _ _ ig, rfl, ?_⟩
        walk_at "rd"
        refine ⟨p, u, t2, _, true, rfl, g3, by omega, .inl ⟨_, rfl, (decide_eq_true (by omega)).symm⟩, fun _ m' em' _ => ⟨fun _ G4 q4 v4 f4 g4 => ?_, fun z => ?_⟩, fun z => Bool.noConfusion z⟩
        rotate_left
        · injection em' with em'
          omega
        obtain rfl : wd = m' := by
          injection em' with em'
          omega
        obtain ⟨d4, i4⟩ := id g4.1
        refine ⟨q4, d4, _, rfl, i4, rfl, ?_⟩
        walk_at "rd"
        have l4 : (trim (turnR t2 wd)).length ≤ wd + 1 := Nat.le_trans (trim_len _) (by omega)
        refine ⟨q4, v4, _, _, true, rfl, g4, by omega, .inl ⟨_, rfl, (decide_eq_true (by omega)).symm⟩, fun _ m' em' _ => ⟨fun _ G5 q5 v5 f5 g5 => ?_, fun z => ?_⟩, fun z => Bool.noConfusion z⟩
        rotate_left
        · injection em' with em'
          omega
        obtain rfl : wd = m' := by
          injection em' with em'
          omega
        rw [turn_twice tt hle] at g5
        walk_at "rd"
        refine g_eqP Cl g5 (g3.ext (Ext.trans f4 f5)) ?_
        rw [decide_eq_true rfl]
        exact k _ (keep_of E20 hd20 eN tG (Ext.trans f2 (Ext.trans f4 f5)))
      · rw [decide_eq_false (show ¬ (t2.length : Int) - 1 ≤ (wd : Int) by omega)]
        walk_at "rd"
        refine ⟨by show 2 ≤ sizeLine; decide, fun tu htu => ?_⟩
        have eu := Ext.new (o := HO.tup [V.str "degree", .int ((t2.length : Int) - 1)]) htu
        have stu : upd H16 tu (.tup [V.str "degree", .int ((t2.length : Int) - 1)]) tu = some (.tup [V.str "degree", .int ((t2.length : Int) - 1)]) := upd_same
        generalize upd H16 tu (.tup [V.str "degree", .int ((t2.length : Int) - 1)]) = H17 at eu stu
        have h17 := h16.ext eu
        have hd17 := hd16.ext eu
        have E17 := E16.trans (ExtBut.of eu)
        have hT17 := hT16.ext eu
        obtain ⟨s1, s2, s3, s4⟩ := deg_data (z := (t2.length : Int) - 1) (by omega) (by omega)
        walk_at "rd"
        refine ⟨hT17, fun G1 eN tG => ?_⟩
        unfold TRef
        refine g_meth ?_
        walk_at "rd"
        have g1 := h17.extN eN
        obtain ⟨dg, ig⟩ := id g1.1
        refine ⟨p, dg, _, rfl, ig, rfl, ?_⟩
        walk_at "rd"
        refine ⟨p, u, t2, _, true, rfl, g1, by omega, .inl ⟨_, rfl, (decide_eq_true (by omega)).symm⟩, fun _ m' em' _ => ⟨fun z => ?_, fun _ G2 tr dd f2 hr2 hdd => ?_⟩, fun z => Bool.noConfusion z⟩
        · injection em' with em'
          omega
        have f3 := Ext.new (o := HO.xd [(("reason" : Str), V.ref tr)]) hdd
        refine .inl ⟨rfl, _, _, rfl, upd_same, ?_⟩
        walk_at "rd"
        refine ⟨tr, _, rfl, .tup (SqT.of (f3 _ _ hr2)) (.cons (.str _) (.cons (.int _) .nil)), s1, s2, s3, s4, ?_⟩
        walk_at "rd"
        refine ⟨tu, _, rfl, .tup (sqT_ext (Ext.trans f2 f3) (sqT_extN eN (SqT.of stu))) (.cons (.str _) (.cons (.int _) .nil)), s1, s2, s3, s4, ?_⟩
        refine g_neS ?_
        walk_at "rd"
        rw [decide_eq_true (show (wd : Int) < (t2.length : Int) - 1 by omega)]
        walk_at "rd"
        exact k _ (keep_of E17 hd17 eN tG (Ext.trans f2 f3))
end
end K0

set_option Elab.async false
set_option linter.all false
set_option maxRecDepth 100000
set_option maxHeartbeats 4000000
/-! One place of a script. -/
namespace K0
open PySem PySem.Spec PyProof.Rows L2 Gd
open LamX (Tabs TabB ExtN GivesTo CodeO tLam)
local macro_rules | `(tactic| walk_at "rd1") => `(tactic| first | with_reducible refine g_ret ?_ | with_reducible refine g_retN ?_ | with_reducible refine g_seq ?_ | with_reducible refine g_next ?_ | with_reducible refine g_drop ?_ | with_reducible refine g_asg ?_ | with_reducible refine g_name ?_ | with_reducible refine g_ifs ?_ | with_reducible refine g_test ?_ | with_reducible refine g_tb ?_ | with_reducible refine g_and ?_ | with_reducible refine g_or ?_ | with_reducible refine g_not ?_ | with_reducible refine g_andV ?_ | with_reducible refine g_orV ?_ | with_reducible refine g_notV ?_ | with_reducible refine g_if ?_ | with_reducible refine g_op ?_ | with_reducible refine g_un ?_ | with_reducible refine g_cb ?_ | with_reducible refine g_nil ?_ | with_reducible refine g_cons ?_ | with_reducible refine g_call ?_ | with_reducible refine g_callS ?_ | with_reducible refine g_tup ?_ | with_reducible refine g_lst ?_ | with_reducible refine g_isN ?_ | with_reducible refine g_sl ?_ | with_reducible refine g_nopart ?_ | with_reducible refine g_part ?_ | with_reducible refine g_chain ?_ | with_reducible refine g_fld ?_ | with_reducible refine g_prop ?_ | with_reducible refine g_bm ?_ | with_reducible refine g_bm0 ?_ | with_reducible refine g_c ?_ | with_reducible refine g_sub ?_ | with_reducible refine g_int1 ?_ | with_reducible refine g_int2 ?_ | with_reducible refine g_yes ?_ | with_reducible refine g_sfld ?_ | with_reducible refine g_NT ?_ | with_reducible refine g_NF ?_ | with_reducible refine iteT ?_ | with_reducible refine iteF ?_ | ((with_reducible refine' g_aug ?hv ?_); (case hv => exact rfl)) | ((with_reducible refine' g_var ?hv ?_); (case hv => exact rfl)) | with_reducible refine g_I0 ?_ | with_reducible refine g_U ?_ | with_reducible refine g_eqI ?_ | with_reducible refine g_blV ?_ | with_reducible refine g_inV ?_)
local macro_rules | `(tactic| walk_at "rd") => `(tactic| repeat walk_at "rd1")
section
variable {P : Program} {w : World} {K : PySem.W.Frag} {mg : Str → Option Value} {base : Heap} {f C CN CT CR t0 : Addr} {fd : FuncData}
abbrev sRight : Stmt := top 51
/-- the looks of the law at one place -/
structure Looks1 (P : Program) (w : World) (K : PySem.W.Frag) (mg : Str → Option Value) (base : Heap) (T : List (Addr × Str)) : Prop where
  factors : Def1 P w K mg base CX0 2 "_law_factors" ["_law_dice_here", "_law_most", "_law_size"] spFactors
  basics : Def1G P w K mg base CX0 9 "_law_basics_right" ["_law_one", "_law_other", "_law_third"] (spBasics K)
  whole_ : Def1G P w K mg base CX0 9 "_law_integers_right" ["_law_dice_here", "_law_one"] (spInts K)
  powers : Def1G P w K mg base CX0 10 "_law_powers_right" ["_law_dice_here", "_law_one"] (spPowers K T)
  values : Def1G P w K mg base CX0 9 "_law_values_right" ["_law_dice_here", "_law_one", "_law_other"] (spValues K)
theorem g_lst3 {t : TGs} {v : V} {σ : L2.St} {H : Hp} {Q : L2.St → Hp → Prop} {n : Nat} (k : ∃ a xs, v = .ref a ∧ SqL K H a xs ∧ xs.length = n ∧ t xs σ H Q) : gLst K n t v σ H Q := k
theorem sqT_tolst {H : Hp} {D r : Addr} {xs zs ys : List V} (hD : H D = some (.lst xs)) (h : SqT K H r ys) : SqT K (upd H D (.lst zs)) r ys := by
  rcases h with (h | ⟨o, h⟩) | h
  · refine .inl (.inl ?_)
    rw [upd_ne (fun z => by rw [z, hD] at h; cases h)]
    exact h
  · refine .inl (.inr ⟨o, ?_⟩)
    rw [upd_ne (fun z => by rw [z, hD] at h; cases h)]
    exact h
  · exact .inr h
theorem sqT_keep {T : List (Addr × Str)} {H H' : Hp} {d a : Addr} {xs : List V} (hd : DiceAt H d) (e : Keep T d H H') (h : SqT K H a xs) : SqT K H' a xs := by
  rcases h with (h | ⟨o, h⟩) | h
  · exact .inl (.inl (e.ext _ _ (dice_ne hd h (fun _ => by simp)) h (fun _ z => by cases z)))
  · exact .inl (.inr ⟨o, e.ext _ _ (dice_ne hd h (fun _ => by simp)) h (fun _ z => by cases z)⟩)
  · exact .inr h
/-- a drawn row -/
def Row (K : PySem.W.Frag) (H : Hp) (r : Addr) : Prop := ∃ ns : List Int, SqT K H r (ns.map V.int) ∧ Big ns ∧ ns.length ≤ 12 ∧ trim ns = ns
theorem row_but {H H' : Hp} {d r : Addr} (hd : DiceAt H d) (e : ExtBut d H H') (h : Row K H r) : Row K H' r := by
  obtain ⟨ns, h1, h2⟩ := h
  exact ⟨ns, sqT_dice hd e h1, h2⟩
/-- the rows drawn so far -/
def PvR3 (K : PySem.W.Frag) (d D : Addr) (H1 : Hp) (i : Nat) : Hp → Prop := fun H' => ExtBut d H1 H' ∧ DiceAt H' d ∧ ∃ rs : List Addr, H' D = some (.lst (rs.map V.ref)) ∧ rs.length = i ∧ ∀ r ∈ rs, Row K H' r
def spRight (T : List (Addr × Str)) : Sp := fun vs H Q _ => ∃ d : Addr, vs = [.ref d] ∧ DiceAt H d ∧ Tabs T H ∧ ∀ H', Keep T d H H' → Q (.bl true) H'
theorem scRight : FnScope ["_law_dice_here", "_law_size", "_law_one", "_law_other", "_law_third", "_law_turn", "_law_small"] ["_law_dice_here"] (defScope sRight) := ⟨rfl, rfl, rfl, by decide +kernel, rfl, by decide +kernel, by decide +kernel⟩
theorem ok_right {T : List (Addr × Str)} (F : Fun K "_law_right" "_law_right" sRight f fd) (Tx : Txt K mg) (T2 : Txt2 mg) (A : Has P w K mg base C t0) (Di : Dic P w K mg base) (Lo : Looks1 P w K mg base T) :
    FnG P w K mg base CX0 11 f fd ["_law_dice_here"] (spRight T) := by
  refine fnG F scRight (fun vs H Q E h => ?_) (fun cdv Ar outer s H vs Q E hg hr h => ?_)
  · obtain ⟨d, rfl, _⟩ := h
    rfl
  · obtain ⟨d, rfl, hd, hT, k⟩ := h
    refine ⟨_, PSs.nox (pss_cons (ps_set (i := 1) scRight.nd rfl (Or.inr rfl) (pe_def Di.pick hr (by decide) (by rfl) (pa_cons (pv 0) (pa_cons (pe_lst (pa_cons pe_int (pa_cons pe_int (pa_cons (pe_op op_pow pe_int pe_int) (pa_cons (pe_op op_sub (pe_op op_pow pe_int pe_int) pe_int) pa_nil))))) pa_nil))))
      (pss_cons (ps_asg (pe_lc (own := [("_law_turn", 5)]) (g := gName 5) (tt := tYes) rfl scRight.nd (pi_range1 (by rfl) T2.range (pa_cons pe_int pa_nil)) (blkOk_by (N := ["_law_dice_here", "_law_size", "_law_one", "_law_other", "_law_third", "_law_turn", "_law_small"]) (sc := defScope sRight) (by decide +kernel))
            (fun _ _ _ _ _ => pg_name (i := 5) scRight.nd rfl (Or.inl rfl)) (fun _ _ _ _ _ => pts_nil) (fun _ _ _ _ _ => pe_def A.ltrim hr (by decide) (by rfl) (pa_cons (pe_def Lo.factors hr (by decide) (by rfl) (pa_cons (pv 0) (pa_cons pe_int (pa_cons (pv 1) pa_nil)))) pa_nil)))
          (pg_lst rfl (pgs_cons (pg_name (i := 2) scRight.nd rfl (Or.inl rfl)) (pgs_cons (pg_name (i := 3) scRight.nd rfl (Or.inl rfl)) (pgs_cons (pg_name (i := 4) scRight.nd rfl (Or.inl rfl)) pgs_nil)))))
      (pss_cons (ps_if (PW.pt (pw_or (pt_not (pt_val (pe_defG hg Lo.basics hr (by decide) (by rfl) (pa_cons (pv 2) (pa_cons (pv 3) (pa_cons (pv 4) pa_nil))))))
          (pw_or1 (pt_not (pt_val (pe_defG hg Lo.whole_ hr (by decide) (by rfl) (pa_cons (pv 0) (pa_cons (pv 2) pa_nil)))))))) (pss_one (ps_ret pe_bl)) pss_nil)
      (pss_cons (ps_set (i := 6) scRight.nd rfl (Or.inl rfl) (pe_def Lo.factors hr (by decide) (by rfl) (pa_cons (pv 0) (pa_cons pe_int (pa_cons pe_int pa_nil)))))
        (pss_one (ps_ret (pe_and (pe_defG hg Lo.powers hr (by decide) (by rfl) (pa_cons (pv 0) (pa_cons (pv 6) pa_nil))) (pe_one (pe_defG hg Lo.values hr (by decide) (by rfl) (pa_cons (pv 0) (pa_cons (pv 2) (pa_cons (pv 3) pa_nil)))))))))))), ?_⟩
    walk_at "rd"
    refine g_I ⟨by decide, by decide, by decide⟩ ?_
    walk_at "rd"
    refine g_I ⟨by decide, by decide, by decide⟩ ?_
    walk_at "rd"
    refine ⟨by show 4 ≤ sizeLine; decide, fun l1 hl1 => ?_⟩
    walk_at "rd"
    refine ⟨d, l1, _, rfl, hd.upd (dice_none hd hl1), SqL.of upd_same, dice_none hd hl1, by decide, by decide, fun H1 x1 e1 hd1 hx1 => ?_⟩
    have E1 : ExtBut d H H1 := (ExtBut.of (Ext.new hl1)).trans e1
    obtain ⟨z, rfl, z0, z1⟩ : ∃ z : Int, x1 = .int z ∧ 1 ≤ z ∧ z < 10 ^ 60 := by
      simp only [List.mem_cons, List.not_mem_nil, or_false] at hx1
      rcases hx1 with rfl | rfl | rfl | rfl
      all_goals exact ⟨_, rfl, by decide +kernel, by decide +kernel⟩
    clear e1 hx1
    walk_at "rd"
    show iRng1 _ _ _ _
    unfold iRng1
    walk_at "rd"
    refine ⟨by decide, by decide, fun D hD => ?_⟩
    have nD : D ≠ d := dice_none hd1 hD
    refine lc_it walk_range (PvR3 K d D H1) ⟨ExtBut.of (Ext.new hD), hd1.upd nD, [], upd_same, rfl, fun r hr => nomatch hr⟩ (fun _ _ _ _ => trivial) ?_ ?_
    · rintro i x H2 H3 hi ⟨e2, hd2, rs, hDs, lrs, hrs⟩ ⟨rfl, rfl⟩
      refine ⟨rfl, ?_⟩
      walk_at "rd"
      refine ⟨d, 12, z, rfl, hd2, by decide, by decide, by omega, by omega, fun H4 fh ns e4 hd4 _ hfh hlen hb => ?_⟩
      walk_at "rd"
      have lns : ns.length ≤ 12 := by omega
      have Bns : Big ns := fun n hn => ⟨by have := (hb n hn).1; omega, by have := (hb n hn).2; omega⟩
      refine ⟨fh, ns, rfl, .inr (SqT.of hfh), by omega, fun H5 u e5 hu => ?_⟩
      have e25 : ExtBut d _ H5 := e4.trans (ExtBut.of e5)
      have hD5 := e25 _ _ nD hDs
      have hd5 := hd4.ext e5
      have ru : Row K H5 u := ⟨trim ns, hu, fun n hn => Bns n (trim_mem ns n hn), Nat.le_trans (trim_len ns) lns, trim_trim ns⟩
      refine ⟨_, hD5, ?_, ?_, ?_, rs ++ [u], ?_, ?_, ?_⟩
      · rw [List.length_map, lrs]
        have : i < 3 := hi
        rw [sizeLine_eq]
        omega
      · intro b o n q
        have nb : b ≠ D := ne_of_none q hD
        rw [upd_ne nb]
        exact e25 b o n (e2 b o n q)
      · exact hd5.upd nD
      · rw [upd_same, List.map_append]
        rfl
      · rw [List.length_append, lrs]
        rfl
      · intro r hr
        have r5 : Row K H5 r := by
          rcases List.mem_append.mp hr with q | q
          · exact row_but hd2 e25 (hrs r q)
          · rw [List.mem_singleton.mp q]
            exact ru
        obtain ⟨ms, q1, q2⟩ := r5
        exact ⟨ms, sqT_tolst hD5 q1, q2⟩
    · rintro H2 ⟨e2, hd2, rs, hDs, lrs, hrs⟩
      obtain ⟨ra, rb, rc, rfl⟩ : ∃ ra rb rc, rs = [ra, rb, rc] := by
        match rs, lrs with
        | [ra, rb, rc], _ => exact ⟨ra, rb, rc, rfl⟩
      obtain ⟨na, a2, pa⟩ := hrs ra (by simp)
      obtain ⟨nb, b2, pb⟩ := hrs rb (by simp)
      obtain ⟨nc, c2, pc⟩ := hrs rc (by simp)
      refine g_lst3 ⟨D, _, rfl, SqL.of hDs, rfl, ?_⟩
      clear hDs hrs lrs
      refine ⟨_, _, rfl, ?_⟩
      have E2 := E1.trans e2
      refine ⟨_, _, rfl, ?_⟩
      refine ⟨_, _, rfl, rfl, ?_⟩
      have ka : Big na ∧ na.length ≤ 40 ∧ trim na = na := ⟨pa.1, by have := pa.2.1; omega, pa.2.2⟩
      have kb : Big nb ∧ nb.length ≤ 40 ∧ trim nb = nb := ⟨pb.1, by have := pb.2.1; omega, pb.2.2⟩
      have kc : Big nc ∧ nc.length ≤ 40 ∧ trim nc = nc := ⟨pc.1, by have := pc.2.1; omega, pc.2.2⟩
      have hT2 : Tabs T H2 := tabs_but hd E2 hT
      clear e2 E1 hd1 hD
      walk_at "rd"
      refine ⟨ra, rb, rc, na, nb, nc, rfl, a2, b2, c2, ka, kb, kc, fun H3 e3 => ?_⟩
      walk_at "rd"
      have a3 := sqT_ext e3 a2
      have b3 := sqT_ext e3 b2
      have hd3 := hd2.ext e3
      have hT3 := hT2.ext e3
      have E3 := E2.trans (ExtBut.of e3)
      refine ⟨d, ra, na, rfl, hd3, a3, ka, fun H4 e4 hd4 => ?_⟩
      have a4 := sqT_dice hd3 e4 a3
      have b4 := sqT_dice hd3 e4 b3
      have hT4 := tabs_but hd3 e4 hT3
      have E4 := E3.trans e4
      walk_at "rd"
      refine ⟨d, 6, 9, rfl, hd4, by decide, by decide, by decide, by decide, fun H5 fh ns e5 hd5 _ hfh hlen hb => ?_⟩
      have a5 := sqT_dice hd4 e5 a4
      have b5 := sqT_dice hd4 e5 b4
      have hT5 := tabs_but hd4 e5 hT4
      have E5 := E4.trans e5
      walk_at "rd"
      refine ⟨d, fh, ns, rfl, hd5, hT5, SqT.of hfh, by omega, hb, fun H6 K6 => ?_⟩
      walk_at "rd"
      refine ⟨d, ra, rb, na, nb, rfl, K6.dice, sqT_keep hd5 K6 a5, sqT_keep hd5 K6 b5, pa, pb, fun H7 e7 hd7 => ?_⟩
      exact k _ ⟨fun b o n h t => e7 _ _ n (K6.ext _ _ n (E5 _ _ n h) t), hd7, tabs_but K6.dice e7 K6.tabs⟩
end
end K0

set_option Elab.async false
set_option linter.all false
set_option maxRecDepth 100000
set_option maxHeartbeats 4000000
/-! The law. -/
namespace K0
open PySem PySem.Spec PyProof.Rows L2 Gd
open LamX (Tabs TabB ExtN GivesTo CodeO tLam)
local macro_rules | `(tactic| walk_at "rd1") => `(tactic| first | with_reducible refine g_ret ?_ | with_reducible refine g_retN ?_ | with_reducible refine g_seq ?_ | with_reducible refine g_next ?_ | with_reducible refine g_drop ?_ | with_reducible refine g_asg ?_ | with_reducible refine g_name ?_ | with_reducible refine g_ifs ?_ | with_reducible refine g_test ?_ | with_reducible refine g_tb ?_ | with_reducible refine g_and ?_ | with_reducible refine g_or ?_ | with_reducible refine g_not ?_ | with_reducible refine g_andV ?_ | with_reducible refine g_orV ?_ | with_reducible refine g_notV ?_ | with_reducible refine g_if ?_ | with_reducible refine g_op ?_ | with_reducible refine g_un ?_ | with_reducible refine g_cb ?_ | with_reducible refine g_nil ?_ | with_reducible refine g_cons ?_ | with_reducible refine g_call ?_ | with_reducible refine g_callS ?_ | with_reducible refine g_tup ?_ | with_reducible refine g_lst ?_ | with_reducible refine g_isN ?_ | with_reducible refine g_sl ?_ | with_reducible refine g_nopart ?_ | with_reducible refine g_part ?_ | with_reducible refine g_chain ?_ | with_reducible refine g_fld ?_ | with_reducible refine g_prop ?_ | with_reducible refine g_bm ?_ | with_reducible refine g_bm0 ?_ | with_reducible refine g_c ?_ | with_reducible refine g_sub ?_ | with_reducible refine g_int1 ?_ | with_reducible refine g_int2 ?_ | with_reducible refine g_yes ?_ | with_reducible refine g_sfld ?_ | with_reducible refine g_NT ?_ | with_reducible refine g_NF ?_ | with_reducible refine iteT ?_ | with_reducible refine iteF ?_ | ((with_reducible refine' g_aug ?hv ?_); (case hv => exact rfl)) | ((with_reducible refine' g_var ?hv ?_); (case hv => exact rfl)) | with_reducible refine g_I0 ?_ | with_reducible refine g_U ?_ | with_reducible refine g_eqI ?_ | with_reducible refine g_blV ?_ | with_reducible refine g_inV ?_)
local macro_rules | `(tactic| walk_at "rd") => `(tactic| repeat walk_at "rd1")
/-! ### powers of p -/
def mono (j : Nat) : List Int := List.replicate j 0 ++ [1]
theorem mono_len (j : Nat) : (mono j).length = j + 1 := by
  unfold mono
  rw [List.length_append, List.length_replicate]
  rfl
theorem mono_fit (j : Nat) : Fit 1 (j + 1) (mono j) := by
  refine ⟨fun n hn => ?_, Nat.le_of_eq (mono_len j)⟩
  unfold mono at hn
  rcases List.mem_append.mp hn with q | q
  · rw [List.eq_of_mem_replicate q]
    decide
  · rw [List.mem_singleton.mp q]
    decide
theorem mono_succ (j : Nat) : mono (j + 1) = 0 :: mono j := by
  unfold mono
  rw [List.replicate_succ]
  rfl
theorem trim_mono (j : Nat) : trim (mono j) = mono j := by
  unfold mono
  rw [trim_front _ _ (by decide)]
  rfl
theorem mono_front (i j : Nat) : List.replicate i 0 ++ mono j = mono (i + j) := by
  unfold mono
  rw [← List.append_assoc, List.replicate_append_replicate]
theorem cof_mono (g : Nat → Int) (j : Nat) : ∀ i k, cof (mono i) g k = cof (List.replicate i 0 ++ [1]) g k := fun _ _ => rfl
theorem mul_mono : ∀ (i j k : Nat), cof (mono i) (at0 (mono j)) k = at0 (mono (i + j)) k
  | 0, j, k => by
    have e : mono 0 = [1] := rfl
    rw [e, cof_cons, Nat.zero_add, Int.one_mul]
    cases k with
    | zero =>
      show _ + 0 = _
      omega
    | succ k =>
      show _ + cof [] (at0 (mono j)) k = _
      show _ + (0 : Int) = _
      omega
  | i + 1, j, k => by
    rw [mono_succ, cof_cons, Int.zero_mul, Int.zero_add, show i + 1 + j = (i + j) + 1 by omega, mono_succ]
    cases k with
    | zero => rfl
    | succ k => exact mul_mono i j k
theorem mul_mono' (i j : Nat) : trim (mulR (mono i) (mono j)) = mono (i + j) := by
  rw [← trim_mono (i + j)]
  exact trim_same _ _ fun k => by rw [at0_mulR, mul_mono]
theorem pow_mono (j : Nat) : powR (mono j) 1 = mono j := mul_mono' j 0
theorem pow_none : powR [] 40 = [] := trim_none _ fun k => by
  rw [at0_mulR]
  rfl
section
variable {P : Program} {w : World} {K : PySem.W.Frag} {mg : Str → Option Value} {base : Heap} {f C CN CT CR t0 : Addr} {fd : FuncData}
abbrev sLaw : Stmt := top 52
abbrev qLaw : Str := "law.<locals>.<lambda>"
structure Top1 (P : Program) (w : World) (K : PySem.W.Frag) (mg : Str → Option Value) (base : Heap) (T : List (Addr × Str)) : Prop where
  dice : Def1 P w K mg base CX0 1 "_law_dice" ["_law_script", "_law_spot"] (spDice K)
  right : Def1G P w K mg base CX0 11 "_law_right" ["_law_dice_here"] (spRight T)
def spLaw (K : PySem.W.Frag) (T : List (Addr × Str)) : Sp := fun vs H Q _ => ∃ (a : Addr) (ns : List Int), vs = [.ref a] ∧ SqL K H a (ns.map V.int) ∧ ns.length ≤ 63 ∧ Tabs T H ∧ ∀ H', Q (.bl true) H'
theorem scLaw : FnScope ["_law_script", "_law_spot", "_law_wide", "_law_high", "_law_turn", "_law_told"] ["_law_script"] (defScope sLaw) := ⟨rfl, rfl, rfl, by decide +kernel, rfl, by decide +kernel, by decide +kernel⟩
theorem sqL_extN {H H' : Hp} {a : Addr} {xs : List V} (e : ExtN H H') (h : SqL K H a xs) : SqL K H' a xs := by
  rcases h with (h | ⟨o, h⟩) | h
  · exact .inl (.inl (e _ _ h (fun _ z => by cases z)))
  · exact .inl (.inr ⟨o, e _ _ h (fun _ z => by cases z)⟩)
  · exact .inr h
theorem mono_big (j : Nat) : Big (mono j) := fun n hn => by
  have h := (mono_fit j).1 n hn
  exact ⟨by omega, by omega⟩
theorem g_mono {σ : L2.St} {H : Hp} {Q : VK} (k : ∀ H' a, Ext H H' → SqT K H' a ((mono 399).map V.int) → Q (.ref a) H') :
    tOp (rCatA K) (tOp (rRepB K) (tTup (tCons (tC (.int 0)) tNil)) (tC (.int 399))) (tTup (tCons (tC (.int 1)) tNil)) σ H Q := by
  walk_at "rd"
  refine ⟨by show 1 ≤ sizeLine; decide, fun o1 ho1 => ?_⟩
  walk_at "rd"
  show rRepB K (.ref o1) (.int ((399 : Nat) : Int)) _ _
  refine g_repB (SqT.of upd_same) (by decide) (fun H2 g2 e2 hg2 => ?_)
  walk_at "rd"
  refine ⟨by show 1 ≤ sizeLine; decide, fun o2 ho2 => ?_⟩
  refine g_cat2 (sqT_ext (Ext.new ho2) hg2) (SqT.of (xs := [V.int 1]) upd_same) (by rw [List.length_map, List.length_replicate, sizeLine_eq]; decide) (fun H3 g3 e3 hg3 => ?_)
  refine k H3 g3 (Ext.trans (Ext.new ho1) (Ext.trans e2 (Ext.trans (Ext.new ho2) e3))) ?_
  unfold mono
  rw [List.map_append]
  exact hg3
theorem poly_tolst {H : Hp} {l p u : Addr} {xs zs : List V} {ns : List Int} (hl : H l = some (.lst xs)) (h : PolyU K C H p u ns) : PolyU K C (upd H l (.lst zs)) p u ns := by
  obtain ⟨⟨dx, h1⟩, h2, h3⟩ := h
  refine ⟨⟨dx, ?_⟩, sqT_tolst hl h2, h3⟩
  rw [upd_ne (fun z => by rw [z, hl] at h1; cases h1)]
  exact h1
theorem g_lam {T : List (Addr × Str)} {TT : (XK → Hp → VK → Prop) → Hp → VK → Prop} {t : XK → TE} {σ : L2.St} {H : Hp} {Q : VK} (hT : Tabs T H) (k : ∀ H1, ExtN H H1 → Tabs T H1 → TT (fun E H' Q' => t E σ H' Q') H1 Q) : tLam T TT t σ H Q := ⟨hT, k⟩
theorem g_ref {tl : XK → Hp → VK → Prop} {H : Hp} {Q : VK} (k : tl (fun cls d H' => (cls = .ref CR ∧ ∃ dd r, d = some dd ∧ H' dd = some (.xd [(("reason" : Str), r)]) ∧ Q r H') ∨
      (cls = .ref CT ∧ ∃ dd i, d = some dd ∧ H' dd = some (.xd [(("limit" : Str), .int i)]) ∧ ∀ t, H' t = none → Q (.ref t) (upd H' t (.tup [.str "many", .int i]))))
    H (fun x H1 => ∃ a dx fs, x = V.ref a ∧ H1 a = some (.ins C dx fs) ∧ spGet K C (fun u _ => .ref u) [.ref a] H1 Q fun _ _ _ => False)) : TRef K C CR CT tl H Q := k
theorem big_nil : Big [] := fun n hn => absurd hn (List.not_mem_nil)
theorem g_mk0 {E : XK} {σ : L2.St} {H : Hp} {Q : VK} (h0 : SqT K H t0 []) (k : ∀ H' p u, Ext H H' → PolyU K C H' p u [] → Q (.ref p) H') : tMake C (spInit K C) [.ref t0] E tNil σ H Q :=
  fun x dx hx hdx ne => ⟨x, dx, t0, [], rfl, upd_same, sqT_ext (made_ext hx hdx) h0, Nat.zero_le _, big_nil, fun H' u e2 hp hu => ⟨rfl, k H' x u (fun b o q => e2 b o (ne_of_none q hx) (made_ext hx hdx b o q)) ⟨⟨dx, hp⟩, hu, Nat.zero_le _⟩⟩⟩
def PvH (K : PySem.W.Frag) (C : Addr) (T : List (Addr × Str)) (pw uw : Addr) (i : Nat) : L2.St → Hp → Prop := fun σ H' => ∃ (p u : Addr) (x y z : Option V), σ = [x, y, some (.ref pw), some (.ref p), z, none] ∧ PolyU K C H' pw uw (mono 399) ∧ PolyU K C H' p u (mono (400 * i)) ∧ Tabs T H'
theorem ok_law {c Pt : Addr} {T : List (Addr × Str)} (F : Fun K "law" "law" sLaw f fd) (hc : fd.code = .ref c) (TB : TabB base mg c Pt) (hmT : (Pt, qLaw) ∈ T) (hu : ∀ p ∈ T, p.1 = Pt → p.2 = qLaw)
    (Tx : Txt K mg) (T2 : Txt2 mg) (Cl : PC K mg C) (A : Has P w K mg base C t0) (A3 : Has3 P w K mg base C CN CT CR) (R : Ref K mg C CR CT) (To : Top1 P w K mg base T) :
    FnG P w K mg base CX0 12 f fd ["_law_script"] (spLaw K T) := by
  refine fnGc F hc scLaw (fun vs H Q E h => ?_) (fun Ar outer s H vs Q E hg hr h => ?_)
  · obtain ⟨a, ns, rfl, _⟩ := h
    rfl
  · obtain ⟨a, ns, rfl, hs, hl, hT, k⟩ := h
    refine ⟨_, PSs.nox (pss_cons (ps_for PassesOwn.never rfl (pi_range1 (by rfl) T2.range (pa_cons (pe_callB (call_max2 rfl) (by rfl) T2.max (by decide +kernel) (pa_cons pe_int (pa_cons (pe_callB (call_min2 rfl) (by rfl) T2.min (by decide +kernel) (pa_cons pe_int (pa_cons (pe_callB call_len_seq (by rfl) Tx.len PySem.boot_len (pa_cons (pv 0) pa_nil)) pa_nil))) pa_nil))) pa_nil)) (pg_name (i := 1) scLaw.nd rfl (Or.inl rfl))
          (pss_one (ps_if (pt_not (pt_val (pe_defG hg To.right hr (by decide) (by rfl) (pa_cons (pe_def To.dice hr (by decide) (by rfl) (pa_cons (pv 0) (pa_cons (pv 1) pa_nil))) pa_nil)))) (pss_one (ps_ret pe_bl)) pss_nil)))
      (pss_cons (ps_set (i := 2) scLaw.nd rfl (Or.inr rfl) (pe_mk1 A.ini hr (by decide) (by rfl) Cl.g (pa_cons (pe_op op_catA (pe_op op_repB (pe_tup (pa_cons pe_int pa_nil)) pe_int) (pe_tup (pa_cons pe_int pa_nil))) pa_nil)))
      (pss_cons (ps_set (i := 3) scLaw.nd rfl (Or.inr rfl) (pe_mk1 A.ini hr (by decide) (by rfl) Cl.g (pa_cons (pe_tup (pa_cons pe_int pa_nil)) pa_nil)))
      (pss_cons (ps_for PassesOwn.never rfl (pi_range1 (by rfl) T2.range (pa_cons pe_int pa_nil)) (pg_name (i := 4) scLaw.nd rfl (Or.inl rfl))
          (pss_one (ps_set (i := 3) scLaw.nd rfl (Or.inr rfl) (pe_me1 Cl.cl A3.raised hr (by decide) (E := X0) (passes_call L2.takes0 (fun _ _ _ _ h => h)) (pv 3) (pa_cons pe_int pa_nil)))))
      (pss_cons (ps_set (i := 5) scLaw.nd rfl (Or.inl rfl) (pe_lst (pa_cons (pe_ref (k := 6) (t := fun E => tMeth C "power" (spPower K C CN CT) [] E (tVar 2) (tCons (tC (.int 6)) tNil)) (by rfl) Cl R TB rfl hmT hu (hr.mono (by decide)) (LamX.lamS_by (by show LamX.lamSB (defScope sLaw) _ = true; decide +kernel)) rfl (fun _ _ _ _ _ => by rfl)
              (fun _ _ _ _ E _ _ hr' => pe_me1 Cl.cl A3.power hr' (by decide) (passes_call (takes_of rfl rfl rfl rfl) (fun _ _ _ _ h => h)) (pv 2) (pa_cons pe_int pa_nil))) pa_nil)))
      (pss_cons (ps_expr (pe_bm PySem.F.plainAttrs_list PySem.F.slot_list_append PySem.F.type_list_append mt_append (pv 5) (pa_cons (pe_ref (k := 6) (t := fun E => tMeth C "power" (spPower K C CN CT) [] E (tMeth C "raised" (spRaised K C CN) [] E (tVar 3) (tCons (tC (.int 1)) tNil)) (tCons (tC (.int 1)) tNil)) (by rfl) Cl R TB rfl hmT hu (hr.mono (by decide)) (LamX.lamS_by (by show LamX.lamSB (defScope sLaw) _ = true; decide +kernel)) rfl (fun _ _ _ _ _ => by rfl)
              (fun _ _ _ _ E _ _ hr' => pe_me1 Cl.cl A3.power hr' (by decide) (passes_call (takes_of rfl rfl rfl rfl) (fun _ _ _ _ h => h)) (pe_me1 Cl.cl A3.raised hr' (by decide) (passes_call (takes_of rfl rfl rfl rfl) (fun _ _ _ _ h => h)) (pv 3) (pa_cons pe_int pa_nil)) (pa_cons pe_int pa_nil))) pa_nil)))
      (pss_cons (ps_if (PW.pt (pw_or (pt_cmpR (op_neD hr.units) (pv 5) (pe_op op_rep (pe_lst (pa_cons (pe_tup (pa_cons pe_str (pa_cons pe_int pa_nil))) pa_nil)) pe_int) (nomark _))
          (pw_or1 (pt_cmpR (op_neD hr.units) (pe_lst (pa_cons (pe_pro1 Cl.cl A.deg hr (by decide) (pe_me1 Cl.cl A3.power hr (by decide) (E := X0) (passes_call L2.takes0 (fun _ _ _ _ h => h)) (pv 3) (pa_cons pe_int pa_nil)))
              (pa_cons (pe_pro1 Cl.cl A.deg hr (by decide) (pe_me1 Cl.cl A3.raised hr (by decide) (E := X0) (passes_call L2.takes0 (fun _ _ _ _ h => h)) (pv 2) (pa_cons pe_int pa_nil)))
              (pa_cons (pe_pro1 Cl.cl A.deg hr (by decide) (pe_op (op_mul1 A.mul hr (by decide)) (pv 2) (pv 2))) pa_nil)))) (pe_lst (pa_cons pe_int (pa_cons pe_int (pa_cons pe_int pa_nil)))) (nomark _))))) (pss_one (ps_ret pe_bl)) pss_nil)
        (pss_one (ps_ret (pe_and (pe_cmpR (op_eq1 A.eq hr (by decide)) (pe_me1 Cl.cl A3.power hr (by decide) (E := X0) (passes_call L2.takes0 (fun _ _ _ _ h => h)) (pe_me1 Cl.cl A3.raised hr (by decide) (E := X0) (passes_call L2.takes0 (fun _ _ _ _ h => h)) (pv 3) (pa_cons pe_int pa_nil)) (pa_cons pe_int pa_nil))
              (pe_mk1 A.ini hr (by decide) (by rfl) Cl.g (pa_cons (pe_tup (pa_cons pe_int pa_nil)) pa_nil)) (nomark _))
          (pe_and (pe_cmpR (op_eq1 A.eq hr (by decide)) (pe_me1 Cl.cl A3.power hr (by decide) (E := X0) (passes_call L2.takes0 (fun _ _ _ _ h => h)) (pe_mk0 A.ini hr (by decide) (by rfl) Cl.g) (pa_cons pe_int pa_nil))
              (pe_mk1 A.ini hr (by decide) (by rfl) Cl.g (pa_cons (pe_tup (pa_cons pe_int pa_nil)) pa_nil)) (nomark _))
            (pe_one (pe_cmpR (op_eq1 A.eq hr (by decide)) (pe_me1 Cl.cl A3.power hr (by decide) (E := X0) (passes_call L2.takes0 (fun _ _ _ _ h => h)) (pe_mk0 A.ini hr (by decide) (by rfl) Cl.g) (pa_cons pe_int pa_nil)) (pe_mk0 A.ini hr (by decide) (by rfl) Cl.g) (nomark _)))))))))))))), ?_⟩
    refine g_cut (fun σ H' => ∃ x y : Option V, σ = [x, y, none, none, none, none] ∧ Tabs T H') (fun σ' H' hN => ?_) (fun go => ?_)
    rotate_left
    · refine g_forR ?_
      walk_at "rd"
      refine ⟨a, _, rfl, .inl hs, ?_⟩
      walk_at "rd"
      rw [List.length_map]
      refine ⟨by split <;> omega, by split <;> omega, ?_⟩
      refine for_range (fun i σ H' => ∃ x : Option V, σ = [some (.ref a), x, none, none, none, none] ∧ ExtN H H' ∧ Tabs T H') ⟨_, rfl, ExtN.refl H, hT⟩ ?_ ?_
      · rintro i σ H2 hi ⟨x, rfl, e, hT2⟩
        have hi63 : i ≤ 63 := by
          revert hi
          split <;> (try split) <;> intro hi <;> omega
        walk_at "rd"
        have hi0 : (0 : Int) + (i : Int) = (i : Int) := by omega
        rw [hi0]
        refine ⟨a, ns, i, rfl, sqL_extN e hs, hi63, fun H3 d e3 hd0 hd => ?_⟩
        walk_at "rd"
        refine ⟨d, rfl, hd, hT2.ext e3, fun H4 K4 => ?_⟩
        walk_at "rd"
        exact ⟨_, rfl, fun b o q n => K4.ext b o (ne_of_none (e b o q n) hd0) (e3 b o (e b o q n)) n, K4.tabs⟩
      · rintro σ H2 ⟨x, rfl, _, hT2⟩
        exact go _ _ ⟨_, _, rfl, hT2⟩
    obtain ⟨x0, y0, rfl, hT1⟩ := hN
    clear hs hT
    walk_at "rd"
    refine g_mkP (ns := mono 399) (fun Q0 k0 => g_mono k0) (by rw [mono_len]; decide) (mono_big 399) (fun H1 pw uw e1 h1 => ?_)
    rw [trim_mono] at h1
    walk_at "rd"
    refine g_mkP (ns := [1]) (fun Q0 k0 => ⟨by show 1 ≤ sizeLine; decide, fun t ht => k0 _ _ (Ext.new ht) (SqT.of upd_same)⟩) (by decide) (mono_big 0) (fun H2 p0 u0 e2 h2 => ?_)
    have h1 := h1.ext e2
    have hT2 := hT1.ext (Ext.trans e1 e2)
    clear hT1 e1 e2
    walk_at "rd"
    refine g_forR ?_
    walk_at "rd"
    refine ⟨by decide, by decide, ?_⟩
    refine for_range (PvH K C T pw uw) ⟨p0, u0, _, _, _, rfl, h1, h2, hT2⟩ ?_ ?_
    · rintro i σ H3 hi ⟨p, u, x, y, z, rfl, hw, hp, hT3⟩
      have i5 : i < 5 := hi
      obtain ⟨dp, ip⟩ := id hp.1
      walk_at "rd"
      refine g_meth ?_
      walk_at "rd"
      refine ⟨p, dp, _, rfl, ip, rfl, ?_⟩
      walk_at "rd"
      refine ⟨p, u, _, _, true, rfl, hp, by rw [mono_len]; omega, .inl ⟨_, rfl, (decide_eq_true (by decide)).symm⟩, fun _ j ej _ H4 q v e4 h4 => ?_, fun z => Bool.noConfusion z⟩
      obtain rfl : 400 = j := by
        injection ej with ej
        omega
      rw [mono_front, trim_mono] at h4
      walk_at "rd"
      refine ⟨q, v, _, _, _, rfl, hw.ext e4, ?_, hT3.ext e4⟩
      have ei : 400 + 400 * i = 400 * (i + 1) := by omega
      rw [ei] at h4
      exact h4
    rintro σ H3 ⟨p, u, x, y, z, rfl, hw, hp, hT3⟩
    have e5 : 400 * (5 : Int).toNat = 2000 := by decide
    rw [e5] at hp
    obtain ⟨dw, iw⟩ := id hw.1
    obtain ⟨dp, ip⟩ := id hp.1
    walk_at "rd"
    refine g_lam hT3 (fun G1 eN tG => g_ref (g_meth ?_))
    walk_at "rd"
    have gw := hw.extN eN
    have gp := hp.extN eN
    have jw := eN _ _ iw (fun _ z => by cases z)
    refine ⟨pw, dw, _, rfl, jw, rfl, ?_⟩
    walk_at "rd"
    refine ⟨pw, uw, _, _, true, rfl, gw, .inl ⟨_, rfl, (decide_eq_true (by decide)).symm⟩, fun _ m em _ => ?_, fun z => Bool.noConfusion z⟩
    obtain rfl : 6 = m := by
      injection em with em
      omega
    refine ⟨fun z => absurd z (by rw [mono_len]; decide), fun _ dd hdd => .inr ⟨rfl, _, _, rfl, upd_same, fun t ht => ?_⟩⟩
    have et := Ext.trans (Ext.new hdd) (Ext.new (o := HO.tup [V.str "many", .int 2000]) ht)
    have st : upd (upd G1 dd (.xd [(("limit" : Str), .int 2000)])) t (.tup [V.str "many", .int 2000]) t = some (.tup [V.str "many", .int 2000]) := upd_same
    generalize upd (upd G1 dd (.xd [(("limit" : Str), .int 2000)])) t (.tup [V.str "many", .int 2000]) = G2 at et st
    have gw := gw.ext et
    have gp := gp.ext et
    have tG := tG.ext et
    clear jw et hw hp hT3 ip iw
    walk_at "rd"
    refine ⟨by show 1 ≤ sizeLine; decide, fun l hl => ?_⟩
    have el := Ext.new (o := HO.lst [V.ref t]) hl
    have sl : upd G2 l (.lst [V.ref t]) l = some (.lst [V.ref t]) := upd_same
    have st := el _ _ st
    have gw := gw.ext el
    have gp := gp.ext el
    have tG := tG.ext el
    generalize upd G2 l (.lst [V.ref t]) = G3 at el sl st gw gp tG
    walk_at "rd"
    refine ⟨.inl ⟨rfl, _, SqL.of sl⟩, ?_⟩
    walk_at "rd"
    refine g_lam tG (fun G4 eN4 tG4 => g_ref (g_meth (g_meth ?_)))
    walk_at "rd"
    have gw := gw.extN eN4
    have gp := gp.extN eN4
    have sl := eN4 _ _ sl (fun _ z => by cases z)
    have st := eN4 _ _ st (fun _ z => by cases z)
    obtain ⟨dp, ip⟩ := id gp.1
    refine ⟨p, dp, _, rfl, ip, rfl, ?_⟩
    walk_at "rd"
    refine ⟨p, u, _, _, true, rfl, gp, by rw [mono_len]; decide, .inl ⟨_, rfl, (decide_eq_true (by decide)).symm⟩, fun _ j ej _ G5 q5 v5 e5 g5 => ?_, fun z => Bool.noConfusion z⟩
    obtain rfl : 1 = j := by
      injection ej with ej
      omega
    rw [mono_front, trim_mono] at g5
    obtain ⟨d5, i5⟩ := id g5.1
    refine ⟨q5, d5, _, rfl, i5, rfl, ?_⟩
    walk_at "rd"
    refine ⟨q5, v5, _, _, true, rfl, g5, .inl ⟨_, rfl, (decide_eq_true (by decide)).symm⟩, fun _ m em _ => ?_, fun z => Bool.noConfusion z⟩
    obtain rfl : 1 = m := by
      injection em with em
      omega
    refine ⟨fun z => absurd z (by rw [mono_len]; decide), fun _ dd hdd => .inr ⟨rfl, _, _, rfl, upd_same, fun t2 ht2 => ?_⟩⟩
    have et := Ext.trans e5 (Ext.trans (Ext.new hdd) (Ext.new (o := HO.tup [V.str "many", .int 2000]) ht2))
    have st2 : upd (upd G5 dd (.xd [(("limit" : Str), .int 2000)])) t2 (.tup [V.str "many", .int 2000]) t2 = some (.tup [V.str "many", .int 2000]) := upd_same
    generalize upd (upd G5 dd (.xd [(("limit" : Str), .int 2000)])) t2 (.tup [V.str "many", .int 2000]) = G6 at et st2
    have gw := gw.ext et
    have gp := gp.ext et
    have sl := et _ _ sl
    have st := et _ _ st
    clear g5 i5 e5 et
    walk_at "rd"
    refine ⟨l, _, _, rfl, rfl, sl, by show 1 < sizeLine; decide, ?_⟩
    have gw := poly_tolst (zs := [V.ref t] ++ [V.ref t2]) sl gw
    have gp := poly_tolst (zs := [V.ref t] ++ [V.ref t2]) sl gp
    have nt : t ≠ l := fun z => by rw [z, sl] at st; cases st
    have nt2 : t2 ≠ l := fun z => by rw [z, sl] at st2; cases st2
    have st : upd G6 l (.lst ([V.ref t] ++ [V.ref t2])) t = some (.tup [V.str "many", .int 2000]) := by
      rw [upd_ne nt]
      exact st
    have st2 : upd G6 l (.lst ([V.ref t] ++ [V.ref t2])) t2 = some (.tup [V.str "many", .int 2000]) := by
      rw [upd_ne nt2]
      exact st2
    have sl : upd G6 l (.lst ([V.ref t] ++ [V.ref t2])) l = some (.lst [V.ref t, V.ref t2]) := upd_same
    generalize upd G6 l (.lst ([V.ref t] ++ [V.ref t2])) = G7 at gw gp st st2 sl
    walk_at "rd"
    refine ⟨by show 2 ≤ sizeLine; decide, fun o8 ho8 => ?_⟩
    have e8 := Ext.new (o := HO.tup [V.str "many", .int 2000]) ho8
    walk_at "rd"
    refine ⟨by show 1 ≤ sizeLine; decide, fun o9 ho9 => ?_⟩
    have e9 := Ext.new (o := HO.lst [V.ref o8]) ho9
    walk_at "rd"
    refine ⟨o9, _, [V.ref o8], rfl, rfl, upd_same, by decide, by decide, by show 1 * 2 ≤ sizeLine; decide, fun oA hoA => ?_⟩
    have eA := Ext.new (o := HO.lst (List.replicate (2 : Int).toNat [V.ref o8]).flatten) hoA
    have e7A := Ext.trans e8 (Ext.trans e9 eA)
    have s8 := eA _ _ (e9 _ _ (upd_same (H := G7) (a := o8) (o := HO.tup [V.str "many", .int 2000])))
    have sA : upd (upd (upd G7 o8 (.tup [V.str "many", .int 2000])) o9 (.lst [V.ref o8])) oA (.lst (List.replicate (2 : Int).toNat [V.ref o8]).flatten) oA = some (.lst [V.ref o8, V.ref o8]) := upd_same
    generalize upd (upd (upd G7 o8 (.tup [V.str "many", .int 2000])) o9 (.lst [V.ref o8])) oA (.lst (List.replicate (2 : Int).toNat [V.ref o8]).flatten) = G8 at e7A s8 sA
    have gw := gw.ext e7A
    have gp := gp.ext e7A
    refine ⟨.list [.tuple [.str "many", .int 2000], .tuple [.str "many", .int 2000]], .list [.tuple [.str "many", .int 2000], .tuple [.str "many", .int 2000]],
      .lst (SqL.of (e7A _ _ sl)) (.cons (.tup (SqT.of (e7A _ _ st)) (.cons (.str _) (.cons (.int _) .nil))) (.cons (.tup (SqT.of (e7A _ _ st2)) (.cons (.str _) (.cons (.int _) .nil))) .nil)),
      .lst (SqL.of sA) (.cons (.tup (SqT.of s8) (.cons (.str _) (.cons (.int _) .nil))) (.cons (.tup (SqT.of s8) (.cons (.str _) (.cons (.int _) .nil))) .nil)), by decide +kernel, by decide +kernel, ?_⟩
    rw [show PyData.eqv (.list [.tuple [.str "many", .int 2000], .tuple [.str "many", .int 2000]]) (.list [.tuple [.str "many", .int 2000], .tuple [.str "many", .int 2000]]) = true from by decide +kernel]
    clear e7A sl st st2 s8 sA eA e8 e9
    walk_at "rd"
    obtain ⟨dp, ip⟩ := id gp.1
    obtain ⟨dw, iw⟩ := id gw.1
    refine g_meth ?_
    walk_at "rd"
    refine ⟨p, dp, _, rfl, ip, rfl, ?_⟩
    walk_at "rd"
    refine ⟨p, u, _, _, true, rfl, gp, .inl ⟨_, rfl, (decide_eq_true (by decide)).symm⟩, fun _ m em _ => ?_, fun z => Bool.noConfusion z⟩
    obtain rfl : 1 = m := by
      injection em with em
      omega
    have PB : PowB (mono 2000) 1 := fun j hj => by
      obtain rfl : j = 0 := by omega
      exact (mono_fit 2000).mulB (mono_fit 0) (by decide) (by decide) (by decide) (by decide) (by decide)
    refine ⟨fun _ => ⟨PB, by rw [pow_mono, mono_len]; decide, fun K1 q1 v1 e1 k1 => ?_⟩, fun z => absurd (show (((mono 2000).length : Int) - 1) * ((1 : Nat) : Int) ≤ 2000 by rw [mono_len]; decide) z⟩
    rw [pow_mono, trim_mono] at k1
    refine g_got k1 ?_
    rw [mono_len]
    walk_at "rd"
    refine g_meth ?_
    walk_at "rd"
    refine ⟨pw, dw, _, rfl, e1 _ _ iw, rfl, ?_⟩
    walk_at "rd"
    refine ⟨pw, uw, _, _, true, rfl, gw.ext e1, by rw [mono_len]; decide, .inl ⟨_, rfl, (decide_eq_true (by decide)).symm⟩, fun _ j ej _ K2 q2 v2 e2 k2 => ?_, fun z => Bool.noConfusion z⟩
    obtain rfl : 400 = j := by
      injection ej with ej
      omega
    rw [mono_front, trim_mono] at k2
    refine g_got k2 ?_
    rw [mono_len]
    walk_at "rd"
    have e12 := Ext.trans e1 e2
    refine g_binP (gw.ext e12) (OpRow.pol (gw.ext e12)) ((mono_fit 399).mulB (mono_fit 399) (by decide) (by decide) (by decide) (by decide) (by decide)) (fun K3 q3 v3 e3 k3 => ?_)
    rw [mul_mono'] at k3
    refine g_got k3 ?_
    rw [mono_len]
    walk_at "rd"
    refine ⟨by show 3 ≤ sizeLine; decide, fun l4 hl4 => ?_⟩
    have e4 := Ext.new (o := HO.lst [V.int (((2000 + 1 : Nat) : Int) - 1), .int (((400 + 399 + 1 : Nat) : Int) - 1), .int (((399 + 399 + 1 : Nat) : Int) - 1)]) hl4
    walk_at "rd"
    refine ⟨by show 3 ≤ sizeLine; decide, fun l5 hl5 => ?_⟩
    have e5 := Ext.new (o := HO.lst [V.int 2000, .int 799, .int 798]) hl5
    have eK := Ext.trans e12 (Ext.trans e3 (Ext.trans e4 e5))
    refine ⟨.list [.int (((2000 + 1 : Nat) : Int) - 1), .int (((400 + 399 + 1 : Nat) : Int) - 1), .int (((399 + 399 + 1 : Nat) : Int) - 1)], .list [.int 2000, .int 799, .int 798],
      .lst (SqL.of (e5 _ _ upd_same)) (.cons (.int _) (.cons (.int _) (.cons (.int _) .nil))), .lst (SqL.of upd_same) (.cons (.int _) (.cons (.int _) (.cons (.int _) .nil))), by decide +kernel, by decide +kernel, ?_⟩
    rw [show PyData.eqv (.list [.int (((2000 + 1 : Nat) : Int) - 1), .int (((400 + 399 + 1 : Nat) : Int) - 1), .int (((399 + 399 + 1 : Nat) : Int) - 1)]) (.list [.int 2000, .int 799, .int 798]) = true from by decide +kernel]
    have gp := gp.ext eK
    have ip := eK _ _ ip
    generalize upd (upd K3 l4 (.lst [V.int (((2000 + 1 : Nat) : Int) - 1), .int (((400 + 399 + 1 : Nat) : Int) - 1), .int (((399 + 399 + 1 : Nat) : Int) - 1)])) l5 (.lst [V.int 2000, .int 799, .int 798]) = K5 at gp ip
    clear gw iw k1 k2 k3 e1 e2 e3 e4 e5 e12 eK
    walk_at "rd"
    refine g_meth (g_meth ?_)
    walk_at "rd"
    refine ⟨p, dp, _, rfl, ip, rfl, ?_⟩
    walk_at "rd"
    refine ⟨p, u, _, _, true, rfl, gp, by rw [mono_len]; decide, .inl ⟨_, rfl, (decide_eq_true (by decide)).symm⟩, fun _ j ej _ M1 q1 v1 e1 k1 => ?_, fun z => Bool.noConfusion z⟩
    obtain ⟨d1, i1⟩ := id k1.1
    refine ⟨q1, d1, _, rfl, i1, rfl, ?_⟩
    walk_at "rd"
    refine ⟨q1, v1, _, _, true, rfl, k1, .inl ⟨_, rfl, (decide_eq_true (by decide)).symm⟩, fun _ m em _ => ?_, fun z => Bool.noConfusion z⟩
    obtain rfl : 0 = m := by
      injection em with em
      omega
    refine ⟨fun _ => ⟨fun j hj => absurd hj (Nat.not_lt_zero j), (show 1 ≤ 100000 by decide), fun M2 q2 v2 e2 k2 => ?_⟩, fun z => absurd (by rw [Int.natCast_zero, Int.mul_zero]; decide) z⟩
    walk_at "rd"
    refine g_mkP (ns := [1]) (fun Q0 k0 => ⟨by show 1 ≤ sizeLine; decide, fun t ht => k0 _ _ (Ext.new ht) (SqT.of upd_same)⟩) (by decide) (mono_big 0) (fun M3 q3 v3 e3 k3 => ?_)
    refine g_eqP Cl (k2.ext e3) k3 ?_
    rw [decide_eq_true (show trim (powR _ 0) = trim [1] from rfl)]
    walk_at "rd"
    refine g_meth ?_
    refine g_mk0 (A.t0 _) (fun M4 q4 v4 e4 k4 => ?_)
    obtain ⟨d4, i4⟩ := id k4.1
    refine ⟨q4, d4, _, rfl, i4, rfl, ?_⟩
    walk_at "rd"
    refine ⟨q4, v4, _, _, true, rfl, k4, .inl ⟨_, rfl, (decide_eq_true (by decide)).symm⟩, fun _ m em _ => ?_, fun z => Bool.noConfusion z⟩
    obtain rfl : 0 = m := by
      injection em with em
      omega
    refine ⟨fun _ => ⟨fun j hj => absurd hj (Nat.not_lt_zero j), (show 1 ≤ 100000 by decide), fun M5 q5 v5 e5 k5 => ?_⟩, fun z => absurd (show (([] : List Int).length - 1 : Int) * ((0 : Nat) : Int) ≤ 2000 by decide) z⟩
    walk_at "rd"
    refine g_mkP (ns := [1]) (fun Q0 k0 => ⟨by show 1 ≤ sizeLine; decide, fun t ht => k0 _ _ (Ext.new ht) (SqT.of upd_same)⟩) (by decide) (mono_big 0) (fun M6 q6 v6 e6 k6 => ?_)
    refine g_eqP Cl (k5.ext e6) k6 ?_
    rw [decide_eq_true (show trim (powR _ 0) = trim [1] from rfl)]
    walk_at "rd"
    refine g_meth ?_
    refine g_mk0 (A.t0 _) (fun M7 q7 v7 e7 k7 => ?_)
    obtain ⟨d7, i7⟩ := id k7.1
    refine ⟨q7, d7, _, rfl, i7, rfl, ?_⟩
    walk_at "rd"
    refine ⟨q7, v7, _, _, true, rfl, k7, .inl ⟨_, rfl, (decide_eq_true (by decide)).symm⟩, fun _ m em _ => ?_, fun z => Bool.noConfusion z⟩
    obtain rfl : 40 = m := by
      injection em with em
      omega
    refine ⟨fun _ => ⟨pow_B ⟨fun n hn => absurd hn (List.not_mem_nil), Nat.zero_le _⟩ (by decide), by rw [pow_none]; exact Nat.zero_le _, fun M8 q8 v8 e8 k8 => ?_⟩, fun z => absurd (show (([] : List Int).length - 1 : Int) * ((40 : Nat) : Int) ≤ 2000 by decide) z⟩
    rw [pow_none] at k8
    walk_at "rd"
    refine g_mk0 (A.t0 _) (fun M9 q9 v9 e9 k9 => ?_)
    refine g_eqP Cl (k8.ext e9) k9 ?_
    rw [decide_eq_true (show trim ([] : List Int) = [] from rfl)]
    exact k _
end
end K0

set_option Elab.async false
set_option linter.all false
set_option maxRecDepth 100000
set_option maxHeartbeats 8000000
/-! What the top has written. -/
namespace K0
open PySem PySem.Spec PyProof.Rows L2 Gd
open LamX (Tabs TabB TabS ExtN)
/-- an error of the class at S, an except clause that names U -/
theorem exm_one {K : PySem.W.Frag} {S U : Addr} {b : Bool} (h1 : PySem.W.subIn K (.ref U) (.type "BaseException") = some true) (h2 : PySem.W.isClsIn K U = true) (h3 : PySem.W.typeIn K (.ref U) = some (.type "type")) (h4 : PySem.W.subIn K (.ref S) (.ref U) = some b) :
    PySem.W.exmOne K (.ref S) (.ref U) = some b := by
  have h2' : (PySem.W.clsIn K U).isSome = true := h2
  simp [PySem.W.exmOne, PySem.W.kitCls, h1, h2', h3, h4]
theorem kit_self {K : PySem.W.Frag} {C : Addr} : PySem.W.kitOne K (.ref C) (.ref C) = some true := by
  unfold PySem.W.kitOne
  simp
theorem kit_not {K : PySem.W.Frag} {C : Addr} {T : String} (h : PySem.W.isClsIn K C = true) (ht : PySem.W.typeIn K (.ref C) = some (.type "type")) (hs : PySem.W.subIn K (.type T) (.ref C) = some false) : PySem.W.kitOne K (.type T) (.ref C) = some false := by
  have h' : (PySem.W.clsIn K C).isSome = true := h
  have e : (Value.type T == Value.ref C) = false := rfl
  simp [PySem.W.kitOne, PySem.W.kitCls, e, h', ht, hs]
local macro_rules | `(tactic| walk_at "rd1") => `(tactic| first | with_reducible refine g_ret ?_ | with_reducible refine g_retN ?_ | with_reducible refine g_seq ?_ | with_reducible refine g_next ?_ | with_reducible refine g_drop ?_ | with_reducible refine g_asg ?_ | with_reducible refine g_name ?_ | with_reducible refine g_ifs ?_ | with_reducible refine g_test ?_ | with_reducible refine g_tb ?_ | with_reducible refine g_and ?_ | with_reducible refine g_or ?_ | with_reducible refine g_not ?_ | with_reducible refine g_andV ?_ | with_reducible refine g_orV ?_ | with_reducible refine g_notV ?_ | with_reducible refine g_if ?_ | with_reducible refine g_op ?_ | with_reducible refine g_un ?_ | with_reducible refine g_cb ?_ | with_reducible refine g_nil ?_ | with_reducible refine g_cons ?_ | with_reducible refine g_call ?_ | with_reducible refine g_callS ?_ | with_reducible refine g_tup ?_ | with_reducible refine g_lst ?_ | with_reducible refine g_isN ?_ | with_reducible refine g_sl ?_ | with_reducible refine g_nopart ?_ | with_reducible refine g_part ?_ | with_reducible refine g_chain ?_ | with_reducible refine g_fld ?_ | with_reducible refine g_prop ?_ | with_reducible refine g_bm ?_ | with_reducible refine g_bm0 ?_ | with_reducible refine g_c ?_ | with_reducible refine g_sub ?_ | with_reducible refine g_int1 ?_ | with_reducible refine g_int2 ?_ | with_reducible refine g_yes ?_ | with_reducible refine g_sfld ?_ | with_reducible refine g_NT ?_ | with_reducible refine g_NF ?_ | with_reducible refine iteT ?_ | with_reducible refine iteF ?_ | ((with_reducible refine' g_aug ?hv ?_); (case hv => exact rfl)) | ((with_reducible refine' g_var ?hv ?_); (case hv => exact rfl)) | with_reducible refine g_I0 ?_ | with_reducible refine g_U ?_ | with_reducible refine g_eqI ?_ | with_reducible refine g_blV ?_ | with_reducible refine g_inV ?_)
local macro_rules | `(tactic| walk_at "rd") => `(tactic| repeat walk_at "rd1")
theorem all_mk {l : PySem.W.OpenLaw} {w : World} {K : PySem.W.Frag} {h : Heap} {mg : Str → Option Value} {fa fWh fIn fIw fRw fRq fTr fAd fNg fMu fPo fOp fDi fRo fPi fLt fLp fLm fLa_ fLr fLf fLn_ fRe fBa fIt_ fPw cPw tPw fVa fRi fLa cLa tLa C fI0 T0 t0 fCa fPa fPs fPm fPn fPp fPr fPt fGi fLn fBo fIt fEq fFa pFa fDe pDe CNx fNx qNx CMx fMx qMx CRx fRx qRx : Addr} (X : K.In h) (G : h.Ns mainGlobals mg) (hfa : mg "law" = some (.ref fa))
    {odWh anWh : Option Addr} {slWh : Array (Option Value)} {ocWh kVWh dcWh pmWh cdWh ctWh : Value}
    {odIn anIn : Option Addr} {slIn : Array (Option Value)} {ocIn kVIn dcIn pmIn cdIn ctIn : Value}
    {odIw anIw : Option Addr} {slIw : Array (Option Value)} {ocIw kVIw dcIw pmIw cdIw ctIw : Value}
    {odRw anRw : Option Addr} {slRw : Array (Option Value)} {ocRw kVRw dcRw pmRw cdRw ctRw : Value}
    {odRq anRq : Option Addr} {slRq : Array (Option Value)} {ocRq kVRq dcRq pmRq cdRq ctRq : Value}
    {odTr anTr : Option Addr} {slTr : Array (Option Value)} {ocTr kVTr dcTr pmTr cdTr ctTr : Value}
    {odAd anAd : Option Addr} {slAd : Array (Option Value)} {ocAd kVAd dcAd pmAd cdAd ctAd : Value}
    {odNg anNg : Option Addr} {slNg : Array (Option Value)} {ocNg kVNg dcNg pmNg cdNg ctNg : Value}
    {odMu anMu : Option Addr} {slMu : Array (Option Value)} {ocMu kVMu dcMu pmMu cdMu ctMu : Value}
    {odPo anPo : Option Addr} {slPo : Array (Option Value)} {ocPo kVPo dcPo pmPo cdPo ctPo : Value}
    {odOp anOp : Option Addr} {slOp : Array (Option Value)} {ocOp kVOp dcOp pmOp cdOp ctOp : Value}
    {odDi anDi : Option Addr} {slDi : Array (Option Value)} {ocDi kVDi dcDi pmDi cdDi ctDi : Value}
    {odRo anRo : Option Addr} {slRo : Array (Option Value)} {ocRo kVRo dcRo pmRo cdRo ctRo : Value}
    {odPi anPi : Option Addr} {slPi : Array (Option Value)} {ocPi kVPi dcPi pmPi cdPi ctPi : Value}
    {odLt anLt : Option Addr} {slLt : Array (Option Value)} {ocLt kVLt dcLt pmLt cdLt ctLt : Value}
    {odLp anLp : Option Addr} {slLp : Array (Option Value)} {ocLp kVLp dcLp pmLp cdLp ctLp : Value}
    {odLm anLm : Option Addr} {slLm : Array (Option Value)} {ocLm kVLm dcLm pmLm cdLm ctLm : Value}
    {odLa_ anLa_ : Option Addr} {slLa_ : Array (Option Value)} {ocLa_ kVLa_ dcLa_ pmLa_ cdLa_ ctLa_ : Value}
    {odLr anLr : Option Addr} {slLr : Array (Option Value)} {ocLr kVLr dcLr pmLr cdLr ctLr : Value}
    {odLf anLf : Option Addr} {slLf : Array (Option Value)} {ocLf kVLf dcLf pmLf cdLf ctLf : Value}
    {odLn_ anLn_ : Option Addr} {slLn_ : Array (Option Value)} {ocLn_ kVLn_ dcLn_ pmLn_ cdLn_ ctLn_ : Value}
    {odRe anRe : Option Addr} {slRe : Array (Option Value)} {ocRe kVRe dcRe pmRe cdRe ctRe : Value}
    {odBa anBa : Option Addr} {slBa : Array (Option Value)} {ocBa kVBa dcBa pmBa cdBa ctBa : Value}
    {odIt_ anIt_ : Option Addr} {slIt_ : Array (Option Value)} {ocIt_ kVIt_ dcIt_ pmIt_ cdIt_ ctIt_ : Value}
    {odPw anPw : Option Addr} {slPw : Array (Option Value)} {ocPw kVPw dcPw pmPw ctPw : Value}
    {koPw : Value} {kdPw : Option Addr} {vsPw : Array Value} {ksPw : Array (Option Value)}
    {odVa anVa : Option Addr} {slVa : Array (Option Value)} {ocVa kVVa dcVa pmVa cdVa ctVa : Value}
    {odRi anRi : Option Addr} {slRi : Array (Option Value)} {ocRi kVRi dcRi pmRi cdRi ctRi : Value}
    {odLa anLa : Option Addr} {slLa : Array (Option Value)} {ocLa kVLa dcLa pmLa ctLa : Value}
    {koLa : Value} {kdLa : Option Addr} {vsLa : Array Value} {ksLa : Array (Option Value)}
    {odI0 anI0 : Option Addr} {slI0 : Array (Option Value)} {ocI0 kVI0 dcI0 pmI0 cdI0 ctI0 : Value}
    {ocT : Value} {odT : Option Addr} {nT : Nat} {slT : Array (Option Value)} {odt : Option Addr} {nt : Nat} {slt : Array (Option Value)}
    {odCa anCa : Option Addr} {slCa : Array (Option Value)} {ocCa kVCa dcCa pmCa cdCa ctCa : Value}
    {odPa anPa : Option Addr} {slPa : Array (Option Value)} {ocPa kVPa dcPa pmPa cdPa ctPa : Value}
    {odPs anPs : Option Addr} {slPs : Array (Option Value)} {ocPs kVPs dcPs pmPs cdPs ctPs : Value}
    {odPm anPm : Option Addr} {slPm : Array (Option Value)} {ocPm kVPm dcPm pmPm cdPm ctPm : Value}
    {odPn anPn : Option Addr} {slPn : Array (Option Value)} {ocPn kVPn dcPn pmPn cdPn ctPn : Value}
    {odPp anPp : Option Addr} {slPp : Array (Option Value)} {ocPp kVPp dcPp pmPp cdPp ctPp : Value}
    {odPr anPr : Option Addr} {slPr : Array (Option Value)} {ocPr kVPr dcPr pmPr cdPr ctPr : Value}
    {odPt anPt : Option Addr} {slPt : Array (Option Value)} {ocPt kVPt dcPt pmPt cdPt ctPt : Value}
    {odGi anGi : Option Addr} {slGi : Array (Option Value)} {ocGi kVGi dcGi pmGi cdGi ctGi : Value}
    {odLn anLn : Option Addr} {slLn : Array (Option Value)} {ocLn kVLn dcLn pmLn cdLn ctLn : Value}
    {odBo anBo : Option Addr} {slBo : Array (Option Value)} {ocBo kVBo dcBo pmBo cdBo ctBo : Value}
    {odIt anIt : Option Addr} {slIt : Array (Option Value)} {ocIt kVIt dcIt pmIt cdIt ctIt : Value}
    {odEq anEq : Option Addr} {slEq : Array (Option Value)} {ocEq kVEq dcEq pmEq cdEq ctEq : Value}
    {restFa : List Value}
    {odFa anFa : Option Addr} {slFa : Array (Option Value)} {ocFa kVFa dcFa pmFa cdFa ctFa : Value}
    {restDe : List Value}
    {odDe anDe : Option Addr} {slDe : Array (Option Value)} {ocDe kVDe dcDe pmDe cdDe ctDe : Value}
    {tb tm tx tr tp : Tok}
    {nmN qN : Str} {bsN : List Value} {snN : List Str} {subN : List Value} {abN : Bool} {colN : Option Bool} {ddN : Option Addr} {m0N m1N m2N m3N m5N : Option Value} {odxN anxN : Option Addr} {slxN : Array (Option Value)} {ocxN dcxN pmxN cdxN ctxN : Value} {q1N q2N q3N q4N q5N q6N : Pos}
    {nmM qM : Str} {bsM : List Value} {snM : List Str} {subM : List Value} {abM : Bool} {colM : Option Bool} {ddM : Option Addr} {m0M m1M m2M m3M m5M : Option Value} {odxM anxM : Option Addr} {slxM : Array (Option Value)} {ocxM dcxM pmxM cdxM ctxM : Value} {q1M q2M q3M q4M q5M q6M : Pos}
    {nmR qR : Str} {bsR : List Value} {snR : List Str} {subR : List Value} {abR : Bool} {colR : Option Bool} {ddR : Option Addr} {m0R m1R m2R m3R m5R : Option Value} {odxR anxR : Option Addr} {slxR : Array (Option Value)} {ocxR dcxR pmxR cdxR ctxR : Value} {q1R q2R q3R q4R q5R q6R : Pos}
    (aWh : PySem.W.nsIn K mainGlobals "is_whole" = some (some (.ref fWh)))
    (lWh : K.lookup fWh = some ⟨ocWh, odWh, .func (PySem.W.fnOf "is_whole" "is_whole" (defArgs (sWhole)) (defBody (sWhole)) (defScope (sWhole)) .none kVWh dcWh pmWh anWh cdWh ctWh), slWh⟩)
    (cWh_ : PySem.W.codeIn K cdWh "is_whole" = true)
    (kWh : PySem.W.keepIn K (.ref fWh) = true)
    (aIn : PySem.W.nsIn K mainGlobals "is_integer" = some (some (.ref fIn)))
    (lIn : K.lookup fIn = some ⟨ocIn, odIn, .func (PySem.W.fnOf "is_integer" "is_integer" (defArgs (sInteger)) (defBody (sInteger)) (defScope (sInteger)) .none kVIn dcIn pmIn anIn cdIn ctIn), slIn⟩)
    (cIn_ : PySem.W.codeIn K cdIn "is_integer" = true)
    (kIn : PySem.W.keepIn K (.ref fIn) = true)
    (aIw : PySem.W.nsIn K mainGlobals "is_within" = some (some (.ref fIw)))
    (lIw : K.lookup fIw = some ⟨ocIw, odIw, .func (PySem.W.fnOf "is_within" "is_within" (defArgs (sIsWithin)) (defBody (sIsWithin)) (defScope (sIsWithin)) .none kVIw dcIw pmIw anIw cdIw ctIw), slIw⟩)
    (cIw_ : PySem.W.codeIn K cdIw "is_within" = true)
    (kIw : PySem.W.keepIn K (.ref fIw) = true)
    (aRw : PySem.W.nsIn K mainGlobals "require_within" = some (some (.ref fRw)))
    (lRw : K.lookup fRw = some ⟨ocRw, odRw, .func (PySem.W.fnOf "require_within" "require_within" (defArgs (sWithin)) (defBody (sWithin)) (defScope (sWithin)) .none kVRw dcRw pmRw anRw cdRw ctRw), slRw⟩)
    (cRw_ : PySem.W.codeIn K cdRw "require_within" = true)
    (kRw : PySem.W.keepIn K (.ref fRw) = true)
    (aRq : PySem.W.nsIn K mainGlobals "require_index" = some (some (.ref fRq)))
    (lRq : K.lookup fRq = some ⟨ocRq, odRq, .func (PySem.W.fnOf "require_index" "require_index" (defArgs (sIndex)) (defBody (sIndex)) (defScope (sIndex)) .none kVRq dcRq pmRq anRq cdRq ctRq), slRq⟩)
    (cRq_ : PySem.W.codeIn K cdRq "require_index" = true)
    (kRq : PySem.W.keepIn K (.ref fRq) = true)
    (aTr : PySem.W.nsIn K mainGlobals "trimmed" = some (some (.ref fTr)))
    (lTr : K.lookup fTr = some ⟨ocTr, odTr, .func (PySem.W.fnOf "trimmed" "trimmed" (defArgs (sTrimmed)) (defBody (sTrimmed)) (defScope (sTrimmed)) .none kVTr dcTr pmTr anTr cdTr ctTr), slTr⟩)
    (cTr_ : PySem.W.codeIn K cdTr "trimmed" = true)
    (kTr : PySem.W.keepIn K (.ref fTr) = true)
    (aAd : PySem.W.nsIn K mainGlobals "added" = some (some (.ref fAd)))
    (lAd : K.lookup fAd = some ⟨ocAd, odAd, .func (PySem.W.fnOf "added" "added" (defArgs (sAdded)) (defBody (sAdded)) (defScope (sAdded)) .none kVAd dcAd pmAd anAd cdAd ctAd), slAd⟩)
    (cAd_ : PySem.W.codeIn K cdAd "added" = true)
    (kAd : PySem.W.keepIn K (.ref fAd) = true)
    (aNg : PySem.W.nsIn K mainGlobals "negated" = some (some (.ref fNg)))
    (lNg : K.lookup fNg = some ⟨ocNg, odNg, .func (PySem.W.fnOf "negated" "negated" (defArgs (sNegated)) (defBody (sNegated)) (defScope (sNegated)) .none kVNg dcNg pmNg anNg cdNg ctNg), slNg⟩)
    (cNg_ : PySem.W.codeIn K cdNg "negated" = true)
    (kNg : PySem.W.keepIn K (.ref fNg) = true)
    (aMu : PySem.W.nsIn K mainGlobals "multiplied" = some (some (.ref fMu)))
    (lMu : K.lookup fMu = some ⟨ocMu, odMu, .func (PySem.W.fnOf "multiplied" "multiplied" (defArgs (sMultiplied)) (defBody (sMultiplied)) (defScope (sMultiplied)) .none kVMu dcMu pmMu anMu cdMu ctMu), slMu⟩)
    (cMu_ : PySem.W.codeIn K cdMu "multiplied" = true)
    (kMu : PySem.W.keepIn K (.ref fMu) = true)
    (aPo : PySem.W.nsIn K mainGlobals "poly_of" = some (some (.ref fPo)))
    (lPo : K.lookup fPo = some ⟨ocPo, odPo, .func (PySem.W.fnOf "poly_of" "poly_of" (defArgs (sPolyOf)) (defBody (sPolyOf)) (defScope (sPolyOf)) .none kVPo dcPo pmPo anPo cdPo ctPo), slPo⟩)
    (cPo_ : PySem.W.codeIn K cdPo "poly_of" = true)
    (kPo : PySem.W.keepIn K (.ref fPo) = true)
    (aOp : PySem.W.nsIn K mainGlobals "operand_row" = some (some (.ref fOp)))
    (lOp : K.lookup fOp = some ⟨ocOp, odOp, .func (PySem.W.fnOf "operand_row" "operand_row" (defArgs (sOperand)) (defBody (sOperand)) (defScope (sOperand)) .none kVOp dcOp pmOp anOp cdOp ctOp), slOp⟩)
    (cOp_ : PySem.W.codeIn K cdOp "operand_row" = true)
    (kOp : PySem.W.keepIn K (.ref fOp) = true)
    (aDi : PySem.W.nsIn K mainGlobals "_law_dice" = some (some (.ref fDi)))
    (lDi : K.lookup fDi = some ⟨ocDi, odDi, .func (PySem.W.fnOf "_law_dice" "_law_dice" (defArgs (sDice)) (defBody (sDice)) (defScope (sDice)) .none kVDi dcDi pmDi anDi cdDi ctDi), slDi⟩)
    (cDi_ : PySem.W.codeIn K cdDi "_law_dice" = true)
    (kDi : PySem.W.keepIn K (.ref fDi) = true)
    (aRo : PySem.W.nsIn K mainGlobals "_law_roll" = some (some (.ref fRo)))
    (lRo : K.lookup fRo = some ⟨ocRo, odRo, .func (PySem.W.fnOf "_law_roll" "_law_roll" (defArgs (sRoll)) (defBody (sRoll)) (defScope (sRoll)) .none kVRo dcRo pmRo anRo cdRo ctRo), slRo⟩)
    (cRo_ : PySem.W.codeIn K cdRo "_law_roll" = true)
    (kRo : PySem.W.keepIn K (.ref fRo) = true)
    (aPi : PySem.W.nsIn K mainGlobals "_law_pick" = some (some (.ref fPi)))
    (lPi : K.lookup fPi = some ⟨ocPi, odPi, .func (PySem.W.fnOf "_law_pick" "_law_pick" (defArgs (sPick)) (defBody (sPick)) (defScope (sPick)) .none kVPi dcPi pmPi anPi cdPi ctPi), slPi⟩)
    (cPi_ : PySem.W.codeIn K cdPi "_law_pick" = true)
    (kPi : PySem.W.keepIn K (.ref fPi) = true)
    (aLt : PySem.W.nsIn K mainGlobals "_law_trimmed" = some (some (.ref fLt)))
    (lLt : K.lookup fLt = some ⟨ocLt, odLt, .func (PySem.W.fnOf "_law_trimmed" "_law_trimmed" (defArgs (sLTrim)) (defBody (sLTrim)) (defScope (sLTrim)) .none kVLt dcLt pmLt anLt cdLt ctLt), slLt⟩)
    (cLt_ : PySem.W.codeIn K cdLt "_law_trimmed" = true)
    (kLt : PySem.W.keepIn K (.ref fLt) = true)
    (aLp : PySem.W.nsIn K mainGlobals "_law_plus" = some (some (.ref fLp)))
    (lLp : K.lookup fLp = some ⟨ocLp, odLp, .func (PySem.W.fnOf "_law_plus" "_law_plus" (defArgs (sPlus)) (defBody (sPlus)) (defScope (sPlus)) .none kVLp dcLp pmLp anLp cdLp ctLp), slLp⟩)
    (cLp_ : PySem.W.codeIn K cdLp "_law_plus" = true)
    (kLp : PySem.W.keepIn K (.ref fLp) = true)
    (aLm : PySem.W.nsIn K mainGlobals "_law_times" = some (some (.ref fLm)))
    (lLm : K.lookup fLm = some ⟨ocLm, odLm, .func (PySem.W.fnOf "_law_times" "_law_times" (defArgs (sTimes)) (defBody (sTimes)) (defScope (sTimes)) .none kVLm dcLm pmLm anLm cdLm ctLm), slLm⟩)
    (cLm_ : PySem.W.codeIn K cdLm "_law_times" = true)
    (kLm : PySem.W.keepIn K (.ref fLm) = true)
    (aLa_ : PySem.W.nsIn K mainGlobals "_law_at" = some (some (.ref fLa_)))
    (lLa_ : K.lookup fLa_ = some ⟨ocLa_, odLa_, .func (PySem.W.fnOf "_law_at" "_law_at" (defArgs (sLAt)) (defBody (sLAt)) (defScope (sLAt)) .none kVLa_ dcLa_ pmLa_ anLa_ cdLa_ ctLa_), slLa_⟩)
    (cLa__ : PySem.W.codeIn K cdLa_ "_law_at" = true)
    (kLa_ : PySem.W.keepIn K (.ref fLa_) = true)
    (aLr : PySem.W.nsIn K mainGlobals "_law_raised" = some (some (.ref fLr)))
    (lLr : K.lookup fLr = some ⟨ocLr, odLr, .func (PySem.W.fnOf "_law_raised" "_law_raised" (defArgs (sLRaised)) (defBody (sLRaised)) (defScope (sLRaised)) .none kVLr dcLr pmLr anLr cdLr ctLr), slLr⟩)
    (cLr_ : PySem.W.codeIn K cdLr "_law_raised" = true)
    (kLr : PySem.W.keepIn K (.ref fLr) = true)
    (aLf : PySem.W.nsIn K mainGlobals "_law_factors" = some (some (.ref fLf)))
    (lLf : K.lookup fLf = some ⟨ocLf, odLf, .func (PySem.W.fnOf "_law_factors" "_law_factors" (defArgs (sFactors)) (defBody (sFactors)) (defScope (sFactors)) .none kVLf dcLf pmLf anLf cdLf ctLf), slLf⟩)
    (cLf_ : PySem.W.codeIn K cdLf "_law_factors" = true)
    (kLf : PySem.W.keepIn K (.ref fLf) = true)
    (aLn_ : PySem.W.nsIn K mainGlobals "_law_minus" = some (some (.ref fLn_)))
    (lLn_ : K.lookup fLn_ = some ⟨ocLn_, odLn_, .func (PySem.W.fnOf "_law_minus" "_law_minus" (defArgs (sMinus)) (defBody (sMinus)) (defScope (sMinus)) .none kVLn_ dcLn_ pmLn_ anLn_ cdLn_ ctLn_), slLn_⟩)
    (cLn__ : PySem.W.codeIn K cdLn_ "_law_minus" = true)
    (kLn_ : PySem.W.keepIn K (.ref fLn_) = true)
    (aRe : PySem.W.nsIn K mainGlobals "_law_refused" = some (some (.ref fRe)))
    (lRe : K.lookup fRe = some ⟨ocRe, odRe, .func (PySem.W.fnOf "_law_refused" "_law_refused" (defArgs (sRefused)) (defBody (sRefused)) (defScope (sRefused)) .none kVRe dcRe pmRe anRe cdRe ctRe), slRe⟩)
    (cRe_ : PySem.W.codeIn K cdRe "_law_refused" = true)
    (kRe : PySem.W.keepIn K (.ref fRe) = true)
    (aBa : PySem.W.nsIn K mainGlobals "_law_basics_right" = some (some (.ref fBa)))
    (lBa : K.lookup fBa = some ⟨ocBa, odBa, .func (PySem.W.fnOf "_law_basics_right" "_law_basics_right" (defArgs (sBasics)) (defBody (sBasics)) (defScope (sBasics)) .none kVBa dcBa pmBa anBa cdBa ctBa), slBa⟩)
    (cBa_ : PySem.W.codeIn K cdBa "_law_basics_right" = true)
    (kBa : PySem.W.keepIn K (.ref fBa) = true)
    (aIt_ : PySem.W.nsIn K mainGlobals "_law_integers_right" = some (some (.ref fIt_)))
    (lIt_ : K.lookup fIt_ = some ⟨ocIt_, odIt_, .func (PySem.W.fnOf "_law_integers_right" "_law_integers_right" (defArgs (sInts)) (defBody (sInts)) (defScope (sInts)) .none kVIt_ dcIt_ pmIt_ anIt_ cdIt_ ctIt_), slIt_⟩)
    (cIt__ : PySem.W.codeIn K cdIt_ "_law_integers_right" = true)
    (kIt_ : PySem.W.keepIn K (.ref fIt_) = true)
    (aPw : PySem.W.nsIn K mainGlobals "_law_powers_right" = some (some (.ref fPw)))
    (lPw : K.lookup fPw = some ⟨ocPw, odPw, .func (PySem.W.fnOf "_law_powers_right" "_law_powers_right" (defArgs (sPowers)) (defBody (sPowers)) (defScope (sPowers)) .none kVPw dcPw pmPw anPw (.ref cPw) ctPw), slPw⟩)
    (cPw_ : PySem.W.codeIn K (.ref cPw) "_law_powers_right" = true)
    (kPw : PySem.W.keepIn K (.ref fPw) = true)
    (qPw : K.lookup cPw = some ⟨koPw, kdPw, .fields vsPw, ksPw⟩)
    (vPw : (vsPw[11]? : Option Value) = some (.ref tPw))
    (dPw : PySem.W.codeHdIn K cPw tPw = true)
    (nPw : K.lookup tPw = none)
    (ePw : h.get? tPw = some { cls := .none, data := .fields #[] })
    (aVa : PySem.W.nsIn K mainGlobals "_law_values_right" = some (some (.ref fVa)))
    (lVa : K.lookup fVa = some ⟨ocVa, odVa, .func (PySem.W.fnOf "_law_values_right" "_law_values_right" (defArgs (sValues)) (defBody (sValues)) (defScope (sValues)) .none kVVa dcVa pmVa anVa cdVa ctVa), slVa⟩)
    (cVa_ : PySem.W.codeIn K cdVa "_law_values_right" = true)
    (kVa : PySem.W.keepIn K (.ref fVa) = true)
    (aRi : PySem.W.nsIn K mainGlobals "_law_right" = some (some (.ref fRi)))
    (lRi : K.lookup fRi = some ⟨ocRi, odRi, .func (PySem.W.fnOf "_law_right" "_law_right" (defArgs (sRight)) (defBody (sRight)) (defScope (sRight)) .none kVRi dcRi pmRi anRi cdRi ctRi), slRi⟩)
    (cRi_ : PySem.W.codeIn K cdRi "_law_right" = true)
    (kRi : PySem.W.keepIn K (.ref fRi) = true)
    (aLa : PySem.W.nsIn K mainGlobals "law" = some (some (.ref fLa)))
    (lLa : K.lookup fLa = some ⟨ocLa, odLa, .func (PySem.W.fnOf "law" "law" (defArgs (sLaw)) (defBody (sLaw)) (defScope (sLaw)) .none kVLa dcLa pmLa anLa (.ref cLa) ctLa), slLa⟩)
    (cLa_ : PySem.W.codeIn K (.ref cLa) "law" = true)
    (kLa : PySem.W.keepIn K (.ref fLa) = true)
    (qLa : K.lookup cLa = some ⟨koLa, kdLa, .fields vsLa, ksLa⟩)
    (vLa : (vsLa[11]? : Option Value) = some (.ref tLa))
    (dLa : PySem.W.codeHdIn K cLa tLa = true)
    (nLa : K.lookup tLa = none)
    (eLa : h.get? tLa = some { cls := .none, data := .fields #[] })
    (neT : tPw ≠ tLa)
    (aC : PySem.W.nsIn K mainGlobals "Poly" = some (some (.ref C)))
    (aI0 : PySem.W.findIn K (.ref C) "__init__" = some (some (.ref fI0)))
    (lI0 : K.lookup fI0 = some ⟨ocI0, odI0, .func (PySem.W.fnOf "__init__" "Poly.__init__" (defArgs (cls 0)) (defBody (cls 0)) (defScope (cls 0)) (.ref T0) kVI0 dcI0 pmI0 anI0 cdI0 ctI0), slI0⟩)
    (cI0_ : PySem.W.codeIn K cdI0 "Poly.__init__" = true)
    (kI0 : PySem.W.keepIn K (.ref fI0) = true)
    (iI0 : PySem.W.isFn K (.ref fI0) = true)
    (lT : K.lookup T0 = some ⟨ocT, odT, .seq #[.ref t0] nT, slT⟩)
    (lt : K.lookup t0 = some ⟨.type "tuple", odt, .seq #[] nt, slt⟩)
    (aCa : PySem.W.findIn K (.ref C) "__call__" = some (some (.ref fCa)))
    (lCa : K.lookup fCa = some ⟨ocCa, odCa, .func (PySem.W.fnOf "__call__" "Poly.__call__" (defArgs (cls 5)) (defBody (cls 5)) (defScope (cls 5)) .none kVCa dcCa pmCa anCa cdCa ctCa), slCa⟩)
    (cCa_ : PySem.W.codeIn K cdCa "Poly.__call__" = true)
    (kCa : PySem.W.keepIn K (.ref fCa) = true)
    (iCa : PySem.W.isFn K (.ref fCa) = true)
    (jCa : PySem.W.fnIn K fCa = true)
    (aPa : PySem.W.findIn K (.ref C) "__add__" = some (some (.ref fPa)))
    (lPa : K.lookup fPa = some ⟨ocPa, odPa, .func (PySem.W.fnOf "__add__" "Poly.__add__" (defArgs (cls 6)) (defBody (cls 6)) (defScope (cls 6)) .none kVPa dcPa pmPa anPa cdPa ctPa), slPa⟩)
    (cPa_ : PySem.W.codeIn K cdPa "Poly.__add__" = true)
    (kPa : PySem.W.keepIn K (.ref fPa) = true)
    (iPa : PySem.W.isFn K (.ref fPa) = true)
    (jPa : PySem.W.fnIn K fPa = true)
    (aPs : PySem.W.findIn K (.ref C) "__sub__" = some (some (.ref fPs)))
    (lPs : K.lookup fPs = some ⟨ocPs, odPs, .func (PySem.W.fnOf "__sub__" "Poly.__sub__" (defArgs (cls 7)) (defBody (cls 7)) (defScope (cls 7)) .none kVPs dcPs pmPs anPs cdPs ctPs), slPs⟩)
    (cPs_ : PySem.W.codeIn K cdPs "Poly.__sub__" = true)
    (kPs : PySem.W.keepIn K (.ref fPs) = true)
    (iPs : PySem.W.isFn K (.ref fPs) = true)
    (jPs : PySem.W.fnIn K fPs = true)
    (aPm : PySem.W.findIn K (.ref C) "__mul__" = some (some (.ref fPm)))
    (lPm : K.lookup fPm = some ⟨ocPm, odPm, .func (PySem.W.fnOf "__mul__" "Poly.__mul__" (defArgs (cls 8)) (defBody (cls 8)) (defScope (cls 8)) .none kVPm dcPm pmPm anPm cdPm ctPm), slPm⟩)
    (cPm_ : PySem.W.codeIn K cdPm "Poly.__mul__" = true)
    (kPm : PySem.W.keepIn K (.ref fPm) = true)
    (iPm : PySem.W.isFn K (.ref fPm) = true)
    (jPm : PySem.W.fnIn K fPm = true)
    (aPn : PySem.W.findIn K (.ref C) "__neg__" = some (some (.ref fPn)))
    (lPn : K.lookup fPn = some ⟨ocPn, odPn, .func (PySem.W.fnOf "__neg__" "Poly.__neg__" (defArgs (cls 9)) (defBody (cls 9)) (defScope (cls 9)) .none kVPn dcPn pmPn anPn cdPn ctPn), slPn⟩)
    (cPn_ : PySem.W.codeIn K cdPn "Poly.__neg__" = true)
    (kPn : PySem.W.keepIn K (.ref fPn) = true)
    (iPn : PySem.W.isFn K (.ref fPn) = true)
    (jPn : PySem.W.fnIn K fPn = true)
    (aPp : PySem.W.findIn K (.ref C) "power" = some (some (.ref fPp)))
    (lPp : K.lookup fPp = some ⟨ocPp, odPp, .func (PySem.W.fnOf "power" "Poly.power" (defArgs (cls 10)) (defBody (cls 10)) (defScope (cls 10)) .none kVPp dcPp pmPp anPp cdPp ctPp), slPp⟩)
    (cPp_ : PySem.W.codeIn K cdPp "Poly.power" = true)
    (kPp : PySem.W.keepIn K (.ref fPp) = true)
    (iPp : PySem.W.isFn K (.ref fPp) = true)
    (jPp : PySem.W.fnIn K fPp = true)
    (aPr : PySem.W.findIn K (.ref C) "raised" = some (some (.ref fPr)))
    (lPr : K.lookup fPr = some ⟨ocPr, odPr, .func (PySem.W.fnOf "raised" "Poly.raised" (defArgs (cls 11)) (defBody (cls 11)) (defScope (cls 11)) .none kVPr dcPr pmPr anPr cdPr ctPr), slPr⟩)
    (cPr_ : PySem.W.codeIn K cdPr "Poly.raised" = true)
    (kPr : PySem.W.keepIn K (.ref fPr) = true)
    (iPr : PySem.W.isFn K (.ref fPr) = true)
    (jPr : PySem.W.fnIn K fPr = true)
    (aPt : PySem.W.findIn K (.ref C) "turned_round" = some (some (.ref fPt)))
    (lPt : K.lookup fPt = some ⟨ocPt, odPt, .func (PySem.W.fnOf "turned_round" "Poly.turned_round" (defArgs (cls 12)) (defBody (cls 12)) (defScope (cls 12)) .none kVPt dcPt pmPt anPt cdPt ctPt), slPt⟩)
    (cPt_ : PySem.W.codeIn K cdPt "Poly.turned_round" = true)
    (kPt : PySem.W.keepIn K (.ref fPt) = true)
    (iPt : PySem.W.isFn K (.ref fPt) = true)
    (jPt : PySem.W.fnIn K fPt = true)
    (aGi : PySem.W.findIn K (.ref C) "__getitem__" = some (some (.ref fGi)))
    (lGi : K.lookup fGi = some ⟨ocGi, odGi, .func (PySem.W.fnOf "__getitem__" "Poly.__getitem__" (defArgs (cls 15)) (defBody (cls 15)) (defScope (cls 15)) .none kVGi dcGi pmGi anGi cdGi ctGi), slGi⟩)
    (cGi_ : PySem.W.codeIn K cdGi "Poly.__getitem__" = true)
    (kGi : PySem.W.keepIn K (.ref fGi) = true)
    (iGi : PySem.W.isFn K (.ref fGi) = true)
    (jGi : PySem.W.fnIn K fGi = true)
    (aLn : PySem.W.findIn K (.ref C) "__len__" = some (some (.ref fLn)))
    (lLn : K.lookup fLn = some ⟨ocLn, odLn, .func (PySem.W.fnOf "__len__" "Poly.__len__" (defArgs (cls 16)) (defBody (cls 16)) (defScope (cls 16)) .none kVLn dcLn pmLn anLn cdLn ctLn), slLn⟩)
    (cLn_ : PySem.W.codeIn K cdLn "Poly.__len__" = true)
    (kLn : PySem.W.keepIn K (.ref fLn) = true)
    (iLn : PySem.W.isFn K (.ref fLn) = true)
    (jLn : PySem.W.fnIn K fLn = true)
    (aBo : PySem.W.findIn K (.ref C) "__bool__" = some (some (.ref fBo)))
    (lBo : K.lookup fBo = some ⟨ocBo, odBo, .func (PySem.W.fnOf "__bool__" "Poly.__bool__" (defArgs (cls 17)) (defBody (cls 17)) (defScope (cls 17)) .none kVBo dcBo pmBo anBo cdBo ctBo), slBo⟩)
    (cBo_ : PySem.W.codeIn K cdBo "Poly.__bool__" = true)
    (kBo : PySem.W.keepIn K (.ref fBo) = true)
    (iBo : PySem.W.isFn K (.ref fBo) = true)
    (jBo : PySem.W.fnIn K fBo = true)
    (aIt : PySem.W.findIn K (.ref C) "__iter__" = some (some (.ref fIt)))
    (lIt : K.lookup fIt = some ⟨ocIt, odIt, .func (PySem.W.fnOf "__iter__" "Poly.__iter__" (defArgs (cls 18)) (defBody (cls 18)) (defScope (cls 18)) .none kVIt dcIt pmIt anIt cdIt ctIt), slIt⟩)
    (cIt_ : PySem.W.codeIn K cdIt "Poly.__iter__" = true)
    (kIt : PySem.W.keepIn K (.ref fIt) = true)
    (iIt : PySem.W.isFn K (.ref fIt) = true)
    (jIt : PySem.W.fnIn K fIt = true)
    (aEq : PySem.W.findIn K (.ref C) "__eq__" = some (some (.ref fEq)))
    (lEq : K.lookup fEq = some ⟨ocEq, odEq, .func (PySem.W.fnOf "__eq__" "Poly.__eq__" (defArgs (cls 19)) (defBody (cls 19)) (defScope (cls 19)) .none kVEq dcEq pmEq anEq cdEq ctEq), slEq⟩)
    (cEq_ : PySem.W.codeIn K cdEq "Poly.__eq__" = true)
    (kEq : PySem.W.keepIn K (.ref fEq) = true)
    (iEq : PySem.W.isFn K (.ref fEq) = true)
    (jEq : PySem.W.fnIn K fEq = true)
    (aFa : PySem.W.findIn K (.ref C) "factors" = some (some (.ref pFa)))
    (gFa : PySem.W.specialIn K (.ref pFa) "__get__" = some (some (.builtin "property.__get__")))
    (tFa_ : PySem.W.takesIn K (.ref pFa) = some true)
    (rFa : PySem.W.recIn K pFa "property" = some (.ref fFa :: restFa))
    (lFa : K.lookup fFa = some ⟨ocFa, odFa, .func (PySem.W.fnOf "factors" "Poly.factors" (defArgs (cls 2)) (defBody (cls 2)) (defScope (cls 2)) .none kVFa dcFa pmFa anFa cdFa ctFa), slFa⟩)
    (cFa_ : PySem.W.codeIn K cdFa "Poly.factors" = true)
    (kFa : PySem.W.keepIn K (.ref fFa) = true)
    (aDe : PySem.W.findIn K (.ref C) "degree" = some (some (.ref pDe)))
    (gDe : PySem.W.specialIn K (.ref pDe) "__get__" = some (some (.builtin "property.__get__")))
    (tDe_ : PySem.W.takesIn K (.ref pDe) = some true)
    (rDe : PySem.W.recIn K pDe "property" = some (.ref fDe :: restDe))
    (lDe : K.lookup fDe = some ⟨ocDe, odDe, .func (PySem.W.fnOf "degree" "Poly.degree" (defArgs (cls 3)) (defBody (cls 3)) (defScope (cls 3)) .none kVDe dcDe pmDe anDe cdDe ctDe), slDe⟩)
    (cDe_ : PySem.W.codeIn K cdDe "Poly.degree" = true)
    (kDe : PySem.W.keepIn K (.ref fDe) = true)
    (pg : PySem.W.plainGet K C Str.empty = true)
    (hd : PySem.W.hasDictIn K C = true)
    (po : PySem.W.plainOver K C = true)
    (sa : PySem.W.findIn K (.ref C) "__setattr__" = some (some (.builtin "object.__setattr__")))
    (mk : PySem.W.makesIn K C = true)
    (kc : PySem.W.keepIn K (.ref C) = true)
    (noF : PySem.W.findIn K (.ref C) "_factors" = some none)
    (ha : PySem.W.findIn K (.ref C) "__class__" = some (some (.builtin "object.__class__")))
    (hn : PySem.W.specialIn K (.builtin "object.__class__") "__get__" = some (some (.builtin "getset_descriptor.__get__")))
    (htk : PySem.W.takesIn K (.builtin "object.__class__") = some true)
    (hm : PySem.W.mroIn K C (.type "object") = some true)
    (ci : PySem.W.isClsIn K C = true)
    (ct : PySem.W.typeIn K (.ref C) = some (.type "type"))
    (ne : PySem.W.findIn K (.ref C) "__ne__" = some (some (.builtin "object.__ne__")))
    (sf : PySem.W.selfFirst K C = true)
    (rA : PySem.W.findIn K (.ref C) "__radd__" = some none)
    (rS : PySem.W.findIn K (.ref C) "__rsub__" = some none)
    (rM : PySem.W.findIn K (.ref C) "__rmul__" = some none)
    (siC : PySem.W.subIn K (.type "int") (.ref C) = some false)
    (z0 : PySem.W.nsIn K mainGlobals "isinstance" = some none)
    (z1 : PySem.W.nsIn K mainGlobals "int" = some none)
    (z2 : PySem.W.nsIn K mainGlobals "bool" = some none)
    (z3 : PySem.W.nsIn K mainGlobals "tuple" = some none)
    (z4 : PySem.W.nsIn K mainGlobals "list" = some none)
    (z5 : PySem.W.nsIn K mainGlobals "len" = some none)
    (z6 : PySem.W.nsIn K mainGlobals "all" = some none)
    (z7 : PySem.W.nsIn K mainGlobals "iter" = some none)
    (z8 : PySem.W.nsIn K mainGlobals "max" = some none)
    (z9 : PySem.W.nsIn K mainGlobals "min" = some none)
    (z10 : PySem.W.nsIn K mainGlobals "abs" = some none)
    (z11 : PySem.W.nsIn K mainGlobals "range" = some none)
    (z12 : PySem.W.nsIn K mainGlobals "repr" = some none)
    (z13 : PySem.W.nsIn K mainGlobals "enumerate" = some none)
    (z14 : PySem.W.nsIn K mainGlobals "zip" = some none)
    (z15 : PySem.W.nsIn K mainGlobals "sum" = some none)
    (vB : PySem.W.nsIn K mainGlobals "BOUND" = some (some (.int (10 ^ 60) tb)))
    (vM : PySem.W.nsIn K mainGlobals "MAX_FACTORS" = some (some (.int 400 tm)))
    (vX : PySem.W.nsIn K mainGlobals "MAX_DEGREE" = some (some (.int 2000 tx)))
    (vR : PySem.W.nsIn K mainGlobals "MAX_RAISED" = some (some (.int 400 tr)))
    (vP : PySem.W.nsIn K mainGlobals "MAX_POWER" = some (some (.int 40 tp)))
    (xCN : PySem.W.nsIn K mainGlobals "InvalidNumber" = some (some (.ref CNx)))
    (xLN : K.lookup CNx = some (excClassObj nmN qN CNx qNx bsN [.type "IndexError", .type "LookupError", .type "Exception", .type "BaseException", .type "object"] true snN subN abN colN ddN m0N m1N m2N m3N m5N "IndexError.__new__"))
    (xsaN : PySem.W.findIn K (.ref CNx) "__setattr__" = some (some (.builtin "object.__setattr__")))
    (xgaN : PySem.W.findIn K (.ref CNx) "__getattribute__" = some (some (.builtin "BaseException.__getattribute__")))
    (xggN : PySem.W.findIn K (.ref CNx) "__getattr__" = some none)
    (xnbN : PySem.W.findIn K (.ref CNx) "value" = some none)
    (xaN : PySem.W.findIn K (.ref CNx) "__init__" = some (some (.ref fNx)))
    (xtN : PySem.W.typeIn K (.ref fNx) = some (.type "function"))
    (xlN : K.lookup fNx = some ⟨ocxN, odxN, .func (PySem.W.fnOf "__init__" "InvalidNumber.__init__" (PySem.XInvalidNumber.iA q1N q2N) (PySem.XInvalidNumber.iB q3N q4N q5N q6N) PySem.XInvalidNumber.iS .none .none dcxN pmxN anxN cdxN ctxN), slxN⟩)
    (xcN : PySem.W.codeIn K cdxN "InvalidNumber.__init__" = true)
    (xkN : PySem.W.keepIn K (.ref CNx) = true)
    (xeN : PySem.W.subIn K (.ref CNx) (.type "BaseException") = some true)
    (xTN : PySem.W.typeIn K (.ref CNx) = some (.type "type"))
    (xhN : PySem.W.hasDictIn K CNx = true)
    (xiN : PySem.W.isClsIn K CNx = true)
    (xsN : PySem.W.subIn K (.ref CNx) (.ref CNx) = some true)
    (xCM : PySem.W.nsIn K mainGlobals "TooMany" = some (some (.ref CMx)))
    (xLM : K.lookup CMx = some (excClassObj nmM qM CMx qMx bsM [.type "OverflowError", .type "ArithmeticError", .type "Exception", .type "BaseException", .type "object"] true snM subM abM colM ddM m0M m1M m2M m3M m5M "OverflowError.__new__"))
    (xsaM : PySem.W.findIn K (.ref CMx) "__setattr__" = some (some (.builtin "object.__setattr__")))
    (xgaM : PySem.W.findIn K (.ref CMx) "__getattribute__" = some (some (.builtin "BaseException.__getattribute__")))
    (xggM : PySem.W.findIn K (.ref CMx) "__getattr__" = some none)
    (xnbM : PySem.W.findIn K (.ref CMx) "limit" = some none)
    (xaM : PySem.W.findIn K (.ref CMx) "__init__" = some (some (.ref fMx)))
    (xtM : PySem.W.typeIn K (.ref fMx) = some (.type "function"))
    (xlM : K.lookup fMx = some ⟨ocxM, odxM, .func (PySem.W.fnOf "__init__" "TooMany.__init__" (PySem.XTooMany.iA q1M q2M) (PySem.XTooMany.iB q3M q4M q5M q6M) PySem.XTooMany.iS .none .none dcxM pmxM anxM cdxM ctxM), slxM⟩)
    (xcM : PySem.W.codeIn K cdxM "TooMany.__init__" = true)
    (xkM : PySem.W.keepIn K (.ref CMx) = true)
    (xeM : PySem.W.subIn K (.ref CMx) (.type "BaseException") = some true)
    (xTM : PySem.W.typeIn K (.ref CMx) = some (.type "type"))
    (xhM : PySem.W.hasDictIn K CMx = true)
    (xiM : PySem.W.isClsIn K CMx = true)
    (xsM : PySem.W.subIn K (.ref CMx) (.ref CMx) = some true)
    (xCR : PySem.W.nsIn K mainGlobals "Refused" = some (some (.ref CRx)))
    (xLR : K.lookup CRx = some (excClassObj nmR qR CRx qRx bsR [.type "ArithmeticError", .type "Exception", .type "BaseException", .type "object"] true snR subR abR colR ddR m0R m1R m2R m3R m5R "ArithmeticError.__new__"))
    (xsaR : PySem.W.findIn K (.ref CRx) "__setattr__" = some (some (.builtin "object.__setattr__")))
    (xgaR : PySem.W.findIn K (.ref CRx) "__getattribute__" = some (some (.builtin "BaseException.__getattribute__")))
    (xggR : PySem.W.findIn K (.ref CRx) "__getattr__" = some none)
    (xnbR : PySem.W.findIn K (.ref CRx) "reason" = some none)
    (xaR : PySem.W.findIn K (.ref CRx) "__init__" = some (some (.ref fRx)))
    (xtR : PySem.W.typeIn K (.ref fRx) = some (.type "function"))
    (xlR : K.lookup fRx = some ⟨ocxR, odxR, .func (PySem.W.fnOf "__init__" "Refused.__init__" (PySem.XRefused.iA q1R q2R) (PySem.XRefused.iB q3R q4R q5R q6R) PySem.XRefused.iS .none .none dcxR pmxR anxR cdxR ctxR), slxR⟩)
    (xcR : PySem.W.codeIn K cdxR "Refused.__init__" = true)
    (xkR : PySem.W.keepIn K (.ref CRx) = true)
    (xeR : PySem.W.subIn K (.ref CRx) (.type "BaseException") = some true)
    (xTR : PySem.W.typeIn K (.ref CRx) = some (.type "type"))
    (xhR : PySem.W.hasDictIn K CRx = true)
    (xiR : PySem.W.isClsIn K CRx = true)
    (xsR : PySem.W.subIn K (.ref CRx) (.ref CRx) = some true)
    (xno : PySem.W.subIn K (.ref CMx) (.ref CRx) = some false)
    : LawG l w K CX0 12 63 "_law_script" mg fa h := by
  have e := hfa.symm.trans (PySem.W.mg_of X G aLa)
  cases e
  have T : Txt K mg := ⟨PySem.W.mg_none_of X G z0, PySem.W.mg_none_of X G z1, PySem.W.mg_none_of X G z2, PySem.W.mg_none_of X G z3, PySem.W.mg_none_of X G z4, PySem.W.mg_none_of X G z5, PySem.W.mg_none_of X G z6, PySem.W.mg_none_of X G z7, ⟨tb, PySem.W.mg_of X G vB⟩, ⟨tm, PySem.W.mg_of X G vM⟩⟩
  have T2 : Txt2 mg := ⟨PySem.W.mg_none_of X G z8, PySem.W.mg_none_of X G z9, PySem.W.mg_none_of X G z10, PySem.W.mg_none_of X G z11, PySem.W.mg_none_of X G z12⟩
  have zEn := PySem.W.mg_none_of X G z13
  have zZi := PySem.W.mg_none_of X G z14
  have zSu := PySem.W.mg_none_of X G z15
  have Cl : PC K mg C := { cl := ⟨pg, hd, po, sa⟩, noF := noF, g := PySem.W.mg_of X G aC, kp := kc, ha := ha, hn := hn, htk := htk, hm := hm, kit := kit_self, ne := ⟨ne, hm⟩ }
  have EN : PySem.XInvalidNumber.InvalidNumberTxt K mg CNx fNx :=
    { gC := PySem.W.mg_of X G xCN, cls := ⟨nmN, qN, qNx, bsN, snN, subN, abN, colN, ddN, m0N, m1N, m2N, m3N, m5N, xLN⟩, sa := xsaN, ga := xgaN, gg := xggN, noN := xnbN, iC := xaN, tC := xtN, kC := xkN, exC := xeN, tyC := xTN, hdC := xhN, te := exm_one xeN xiN xTN xsN,
      fn := ⟨_, _, _, _, _, _, _, _, _, _, _, _, _, _, xlN, xcN⟩ }
  have EM : PySem.XTooMany.TooManyTxt K mg CMx fMx :=
    { gC := PySem.W.mg_of X G xCM, cls := ⟨nmM, qM, qMx, bsM, snM, subM, abM, colM, ddM, m0M, m1M, m2M, m3M, m5M, xLM⟩, sa := xsaM, ga := xgaM, gg := xggM, noN := xnbM, iC := xaM, tC := xtM, kC := xkM, exC := xeM, tyC := xTM, hdC := xhM, te := exm_one xeM xiM xTM xsM,
      fn := ⟨_, _, _, _, _, _, _, _, _, _, _, _, _, _, xlM, xcM⟩ }
  have ER : PySem.XRefused.RefusedTxt K mg CRx fRx :=
    { gC := PySem.W.mg_of X G xCR, cls := ⟨nmR, qR, qRx, bsR, snR, subR, abR, colR, ddR, m0R, m1R, m2R, m3R, m5R, xLR⟩, sa := xsaR, ga := xgaR, gg := xggR, noN := xnbR, iC := xaR, tC := xtR, kC := xkR, exC := xeR, tyC := xTR, hdC := xhR, te := exm_one xeR xiR xTR xsR,
      fn := ⟨_, _, _, _, _, _, _, _, _, _, _, _, _, _, xlR, xcR⟩ }
  have FWh := fun_mk (st := sWhole) lWh cWh_ kWh
  have bWh := FWh.binds (ps := ["value"]) fun _ _ _ _ _ _ us hl => match us, hl with | [_], _ => rfl
  have gWh_ := PySem.W.mg_of X G aWh
  have FIn := fun_mk (st := sInteger) lIn cIn_ kIn
  have bIn := FIn.binds (ps := ["value"]) fun _ _ _ _ _ _ us hl => match us, hl with | [_], _ => rfl
  have gIn_ := PySem.W.mg_of X G aIn
  have FIw := fun_mk (st := sIsWithin) lIw cIw_ kIw
  have bIw := FIw.binds (ps := ["value", "low", "high"]) fun _ _ _ _ _ _ us hl => match us, hl with | [_, _, _], _ => rfl
  have gIw_ := PySem.W.mg_of X G aIw
  have FRw := fun_mk (st := sWithin) lRw cRw_ kRw
  have bRw := FRw.binds (ps := ["value", "low", "high"]) fun _ _ _ _ _ _ us hl => match us, hl with | [_, _, _], _ => rfl
  have gRw_ := PySem.W.mg_of X G aRw
  have FRq := fun_mk (st := sIndex) lRq cRq_ kRq
  have bRq := FRq.binds (ps := ["value"]) fun _ _ _ _ _ _ us hl => match us, hl with | [_], _ => rfl
  have gRq_ := PySem.W.mg_of X G aRq
  have FTr := fun_mk (st := sTrimmed) lTr cTr_ kTr
  have bTr := FTr.binds (ps := ["row"]) fun _ _ _ _ _ _ us hl => match us, hl with | [_], _ => rfl
  have gTr_ := PySem.W.mg_of X G aTr
  have FAd := fun_mk (st := sAdded) lAd cAd_ kAd
  have bAd := FAd.binds (ps := ["one", "other"]) fun _ _ _ _ _ _ us hl => match us, hl with | [_, _], _ => rfl
  have gAd_ := PySem.W.mg_of X G aAd
  have FNg := fun_mk (st := sNegated) lNg cNg_ kNg
  have bNg := FNg.binds (ps := ["row"]) fun _ _ _ _ _ _ us hl => match us, hl with | [_], _ => rfl
  have gNg_ := PySem.W.mg_of X G aNg
  have FMu := fun_mk (st := sMultiplied) lMu cMu_ kMu
  have bMu := FMu.binds (ps := ["one", "other"]) fun _ _ _ _ _ _ us hl => match us, hl with | [_, _], _ => rfl
  have gMu_ := PySem.W.mg_of X G aMu
  have FPo := fun_mk (st := sPolyOf) lPo cPo_ kPo
  have bPo := FPo.binds (ps := ["row"]) fun _ _ _ _ _ _ us hl => match us, hl with | [_], _ => rfl
  have gPo_ := PySem.W.mg_of X G aPo
  have FOp := fun_mk (st := sOperand) lOp cOp_ kOp
  have bOp := FOp.binds (ps := ["value"]) fun _ _ _ _ _ _ us hl => match us, hl with | [_], _ => rfl
  have gOp_ := PySem.W.mg_of X G aOp
  have FDi := fun_mk (st := sDice) lDi cDi_ kDi
  have bDi := FDi.binds (ps := ["_law_script", "_law_spot"]) fun _ _ _ _ _ _ us hl => match us, hl with | [_, _], _ => rfl
  have gDi_ := PySem.W.mg_of X G aDi
  have FRo := fun_mk (st := sRoll) lRo cRo_ kRo
  have bRo := FRo.binds (ps := ["_law_dice_here", "_law_total"]) fun _ _ _ _ _ _ us hl => match us, hl with | [_, _], _ => rfl
  have gRo_ := PySem.W.mg_of X G aRo
  have FPi := fun_mk (st := sPick) lPi cPi_ kPi
  have bPi := FPi.binds (ps := ["_law_dice_here", "_law_items"]) fun _ _ _ _ _ _ us hl => match us, hl with | [_, _], _ => rfl
  have gPi_ := PySem.W.mg_of X G aPi
  have FLt := fun_mk (st := sLTrim) lLt cLt_ kLt
  have bLt := FLt.binds (ps := ["_law_factors_here"]) fun _ _ _ _ _ _ us hl => match us, hl with | [_], _ => rfl
  have gLt_ := PySem.W.mg_of X G aLt
  have FLp := fun_mk (st := sPlus) lLp cLp_ kLp
  have bLp := FLp.binds (ps := ["_law_one", "_law_other"]) fun _ _ _ _ _ _ us hl => match us, hl with | [_, _], _ => rfl
  have gLp_ := PySem.W.mg_of X G aLp
  have FLm := fun_mk (st := sTimes) lLm cLm_ kLm
  have bLm := FLm.binds (ps := ["_law_one", "_law_other"]) fun _ _ _ _ _ _ us hl => match us, hl with | [_, _], _ => rfl
  have gLm_ := PySem.W.mg_of X G aLm
  have FLa_ := fun_mk (st := sLAt) lLa_ cLa__ kLa_
  have bLa_ := FLa_.binds (ps := ["_law_factors_here", "_law_number"]) fun _ _ _ _ _ _ us hl => match us, hl with | [_, _], _ => rfl
  have gLa__ := PySem.W.mg_of X G aLa_
  have FLr := fun_mk (st := sLRaised) lLr cLr_ kLr
  have bLr := FLr.binds (ps := ["_law_factors_here", "_law_many"]) fun _ _ _ _ _ _ us hl => match us, hl with | [_, _], _ => rfl
  have gLr_ := PySem.W.mg_of X G aLr
  have FLf := fun_mk (st := sFactors) lLf cLf_ kLf
  have bLf := FLf.binds (ps := ["_law_dice_here", "_law_most", "_law_size"]) fun _ _ _ _ _ _ us hl => match us, hl with | [_, _, _], _ => rfl
  have gLf_ := PySem.W.mg_of X G aLf
  have FLn_ := fun_mk (st := sMinus) lLn_ cLn__ kLn_
  have bLn_ := FLn_.binds (ps := ["_law_factors_here"]) fun _ _ _ _ _ _ us hl => match us, hl with | [_], _ => rfl
  have gLn__ := PySem.W.mg_of X G aLn_
  have FRe := fun_mk (st := sRefused) lRe cRe_ kRe
  have bRe := FRe.binds (ps := ["_law_call"]) fun _ _ _ _ _ _ us hl => match us, hl with | [_], _ => rfl
  have gRe_ := PySem.W.mg_of X G aRe
  have FBa := fun_mk (st := sBasics) lBa cBa_ kBa
  have bBa := FBa.binds (ps := ["_law_one", "_law_other", "_law_third"]) fun _ _ _ _ _ _ us hl => match us, hl with | [_, _, _], _ => rfl
  have gBa_ := PySem.W.mg_of X G aBa
  have FIt_ := fun_mk (st := sInts) lIt_ cIt__ kIt_
  have bIt_ := FIt_.binds (ps := ["_law_dice_here", "_law_one"]) fun _ _ _ _ _ _ us hl => match us, hl with | [_, _], _ => rfl
  have gIt__ := PySem.W.mg_of X G aIt_
  have FPw := fun_mk (st := sPowers) lPw cPw_ kPw
  have bPw := FPw.binds (ps := ["_law_dice_here", "_law_one"]) fun _ _ _ _ _ _ us hl => match us, hl with | [_, _], _ => rfl
  have gPw_ := PySem.W.mg_of X G aPw
  have FVa := fun_mk (st := sValues) lVa cVa_ kVa
  have bVa := FVa.binds (ps := ["_law_dice_here", "_law_one", "_law_other"]) fun _ _ _ _ _ _ us hl => match us, hl with | [_, _, _], _ => rfl
  have gVa_ := PySem.W.mg_of X G aVa
  have FRi := fun_mk (st := sRight) lRi cRi_ kRi
  have bRi := FRi.binds (ps := ["_law_dice_here"]) fun _ _ _ _ _ _ us hl => match us, hl with | [_], _ => rfl
  have gRi_ := PySem.W.mg_of X G aRi
  have FLa := fun_mk (st := sLaw) lLa cLa_ kLa
  have FCa := fun_mk (st := cls 5) lCa cCa_ kCa
  have bCa := FCa.binds (ps := ["self", "number"]) fun _ _ _ _ _ _ us hl => match us, hl with | [_, _], _ => rfl
  have FPa := fun_mk (st := cls 6) lPa cPa_ kPa
  have bPa := FPa.binds (ps := ["self", "other"]) fun _ _ _ _ _ _ us hl => match us, hl with | [_, _], _ => rfl
  have FPs := fun_mk (st := cls 7) lPs cPs_ kPs
  have bPs := FPs.binds (ps := ["self", "other"]) fun _ _ _ _ _ _ us hl => match us, hl with | [_, _], _ => rfl
  have FPm := fun_mk (st := cls 8) lPm cPm_ kPm
  have bPm := FPm.binds (ps := ["self", "other"]) fun _ _ _ _ _ _ us hl => match us, hl with | [_, _], _ => rfl
  have FPn := fun_mk (st := cls 9) lPn cPn_ kPn
  have bPn := FPn.binds (ps := ["self"]) fun _ _ _ _ _ _ us hl => match us, hl with | [_], _ => rfl
  have FPp := fun_mk (st := cls 10) lPp cPp_ kPp
  have bPp := FPp.binds (ps := ["self", "many"]) fun _ _ _ _ _ _ us hl => match us, hl with | [_, _], _ => rfl
  have FPr := fun_mk (st := cls 11) lPr cPr_ kPr
  have bPr := FPr.binds (ps := ["self", "many"]) fun _ _ _ _ _ _ us hl => match us, hl with | [_, _], _ => rfl
  have FPt := fun_mk (st := cls 12) lPt cPt_ kPt
  have bPt := FPt.binds (ps := ["self", "many"]) fun _ _ _ _ _ _ us hl => match us, hl with | [_, _], _ => rfl
  have FGi := fun_mk (st := cls 15) lGi cGi_ kGi
  have bGi := FGi.binds (ps := ["self", "index"]) fun _ _ _ _ _ _ us hl => match us, hl with | [_, _], _ => rfl
  have FLn := fun_mk (st := cls 16) lLn cLn_ kLn
  have bLn := FLn.binds (ps := ["self"]) fun _ _ _ _ _ _ us hl => match us, hl with | [_], _ => rfl
  have FBo := fun_mk (st := cls 17) lBo cBo_ kBo
  have bBo := FBo.binds (ps := ["self"]) fun _ _ _ _ _ _ us hl => match us, hl with | [_], _ => rfl
  have FIt := fun_mk (st := cls 18) lIt cIt_ kIt
  have bIt := FIt.binds (ps := ["self"]) fun _ _ _ _ _ _ us hl => match us, hl with | [_], _ => rfl
  have FEq := fun_mk (st := cls 19) lEq cEq_ kEq
  have bEq := FEq.binds (ps := ["self", "other"]) fun _ _ _ _ _ _ us hl => match us, hl with | [_, _], _ => rfl
  have FFa := fun_mk (st := cls 2) lFa cFa_ kFa
  have bFa := FFa.binds (ps := ["self"]) fun _ _ _ _ _ _ us hl => match us, hl with | [_], _ => rfl
  have FDe := fun_mk (st := cls 3) lDe cDe_ kDe
  have bDe := FDe.binds (ps := ["self"]) fun _ _ _ _ _ _ us hl => match us, hl with | [_], _ => rfl
  have FI : FnI K t0 fI0 (PySem.W.fnOf "__init__" "Poly.__init__" (defArgs (cls 0)) (defBody (cls 0)) (defScope (cls 0)) (.ref T0) kVI0 dcI0 pmI0 anI0 cdI0 ctI0) := ⟨⟨ocI0, odI0, .ref T0, kVI0, dcI0, pmI0, anI0, cdI0, ctI0, slI0, rfl, lI0, cI0_, .inr ⟨by simp, T0, _, [.ref t0], nT, rfl, lT, rfl, .cons rfl .nil⟩, .inl rfl⟩, kI0⟩
  obtain ⟨ds, hds, b0⟩ : ∃ ds, Vals ([V.ref t0].drop 0) ds ∧ Binds K (PySem.W.fnOf "__init__" "Poly.__init__" (defArgs (cls 0)) (defBody (cls 0)) (defScope (cls 0)) (.ref T0) kVI0 dcI0 pmI0 anI0 cdI0 ctI0) ["self", "factors"] ds := FI.binds1 1 0 (by simp) rfl fun T kV doc pm an cdv ct us its h1 h2 => match us, its, h1, h2 with | [_], [_], _, _ => ⟨_, rfl, rfl⟩
  have bI : Binds K (PySem.W.fnOf "__init__" "Poly.__init__" (defArgs (cls 0)) (defBody (cls 0)) (defScope (cls 0)) (.ref T0) kVI0 dcI0 pmI0 anI0 cdI0 ctI0) ["self", "factors"] [] := by
    obtain ⟨ds, h1, h2⟩ : ∃ ds, Vals ([V.ref t0].drop 1) ds ∧ Binds K (PySem.W.fnOf "__init__" "Poly.__init__" (defArgs (cls 0)) (defBody (cls 0)) (defScope (cls 0)) (.ref T0) kVI0 dcI0 pmI0 anI0 cdI0 ctI0) ["self", "factors"] ds := FI.binds1 2 1 (by simp) rfl fun T kV doc pm an cdv ct us its h1 h2 => match us, its, h1, h2 with | [_, _], [_], _, _ => ⟨_, rfl, rfl⟩
    cases h1
    exact h2
  have hT0 : ∀ H : Hp, SqT K H t0 [] := fun H => .inr ⟨_, #[], nt, lt, rfl, rfl, Nat.zero_le _, .nil⟩
  have AW : AtW K mg fWh _ := ⟨FWh, bWh, gWh_⟩
  have AI : AtI K mg fIn _ := ⟨FIn, bIn, gIn_⟩
  have AV : AtV K mg fIw _ := ⟨FIw, bIw, gIw_⟩
  have AX : AtX K mg fRq _ := ⟨FRq, bRq, gRq_⟩
  have AT : AtT K mg fTr _ := ⟨FTr, bTr, gTr_⟩
  have AR : AtR K mg fRo _ := ⟨FRo, bRo, gRo_⟩
  have AN : AtN K C t0 fI0 _ := ⟨FI, ⟨mk, aI0, iI0, kc⟩, bI⟩
  have PF : AtP K C "factors" "Poly.factors" 2 pFa fFa _ := ⟨FFa, bFa, ⟨aFa, gFa, tFa_, _, rFa⟩⟩
  have PD : AtP K C "degree" "Poly.degree" 3 pDe fDe _ := ⟨FDe, bDe, ⟨aDe, gDe, tDe_, _, rDe⟩⟩
  have W2 : At K mg "require_within" sWithin ["value", "low", "high"] fRw _ := ⟨FRw, bRw, gRw_⟩
  have LTr : At K mg "_law_trimmed" sLTrim ["_law_factors_here"] fLt _ := ⟨FLt, bLt, gLt_⟩
  have Rf : Ref K mg C CRx CMx := ⟨⟨fRe, _, ⟨FRe, bRe, gRe_⟩⟩, ⟨pFa, fFa, _, PF⟩, ⟨_, ER⟩, ⟨_, EM⟩, exm_one xeR xiR xTR xno⟩
  refine ⟨PySem.W.fnOf "law" "law" (defArgs sLaw) (defBody sLaw) (defScope sLaw) .none kVLa dcLa pmLa anLa (.ref cLa) ctLa, [(cPw, tPw), (cLa, tLa)], spLaw K [(tPw, qPowers), (tLa, qLaw)], ?_, ?_, ?_, fun s v => .of_eq rfl, ?_, fun base hKb hGb TB => ?_⟩
  · intro p hp
    simp only [List.mem_cons, List.not_mem_nil, or_false] at hp
    rcases hp with rfl | rfl
    · exact ePw
    · exact eLa
  · intro p hp
    simp only [List.mem_cons, List.not_mem_nil, or_false] at hp
    rcases hp with rfl | rfl
    · exact nPw
    · exact nLa
  · intro p hp
    simp only [List.mem_cons, List.not_mem_nil, or_false] at hp
    rcases hp with rfl | rfl
    · exact PySem.W.codeHd_of_K X dPw
    · exact PySem.W.codeHd_of_K X dLa
  · intro H a ns hl _ hH _ hS
    refine ⟨a, ns, rfl, hS, hl, fun p hp => ?_, fun _ => rfl⟩
    simp only [List.mem_cons, List.not_mem_nil, or_false] at hp
    rcases hp with rfl | rfl
    · exact TabS.nil (hH (cPw, tPw) (by simp))
    · exact TabS.nil (hH (cLa, tLa) (by simp))
  have TBp := TB (cPw, tPw) (by simp)
  have TBl := TB (cLa, tLa) (by simp)
  have hup : ∀ p ∈ [(tPw, qPowers), (tLa, qLaw)], p.1 = tPw → p.2 = qPowers := fun p hp e => by
    simp only [List.mem_cons, List.not_mem_nil, or_false] at hp
    rcases hp with rfl | rfl
    · rfl
    · exact absurd e.symm neT
  have hul : ∀ p ∈ [(tPw, qPowers), (tLa, qLaw)], p.1 = tLa → p.2 = qLaw := fun p hp e => by
    simp only [List.mem_cons, List.not_mem_nil, or_false] at hp
    rcases hp with rfl | rfl
    · exact absurd e neT
    · rfl
  have GC := ok_init (P := l.prog) (w := w) (base := base) FI T Cl AW AI AT
  have GTL := ok_trimmedL (P := l.prog) (w := w) (K := K) (mg := mg) (base := base) FTr T
  have GTT := ok_trimmed (P := l.prog) (w := w) (K := K) (mg := mg) (base := base) FTr T
  have GPL : FnOk l.prog w K mg base CX0 6 fPo _ ["row"] (spPolyOf K C (SqL K)) := ok_polyOf (P := l.prog) (w := w) (base := base) (Sq := SqL K) FPo T Cl AN b0 hds hT0 AT (fun H H' a xs e q => sqL_ext e q) GC GTL
  have GPT : FnOk l.prog w K mg base CX0 6 fPo _ ["row"] (spPolyOf K C (SqT K)) := ok_polyOf (P := l.prog) (w := w) (base := base) (Sq := SqT K) FPo T Cl AN b0 hds hT0 AT (fun H H' a xs e q => sqT_ext e q) GC GTT
  have GW := ok_within (P := l.prog) (w := w) (base := base) FRw T AW AI AV EN
  have O : Ops l.prog w K mg base C fOp fPo fAd fNg fMu _ _ _ _ _ := ⟨⟨FOp, bOp, gOp_⟩, ⟨FPo, bPo, gPo_⟩, ⟨FAd, bAd, gAd_⟩, ⟨FNg, bNg, gNg_⟩, ⟨FMu, bMu, gMu_⟩, ok_operand FOp T Cl AW PF (kit_not ci ct siC), GPL, ok_added FAd T zZi, ok_negated FNg, ok_multiplied FMu T zEn⟩
  have GT := ok_ltrim (P := l.prog) (w := w) (base := base) FLt T
  have A : Has l.prog w K mg base C t0 := {
    add := ⟨_, _, ⟨sf, ⟨aPa, iPa, kPa⟩, rA⟩, ok_add FPa Cl O, bPa⟩
    sub := ⟨_, _, ⟨sf, ⟨aPs, iPs, kPs⟩, rS⟩, ok_sub FPs Cl O, bPs⟩
    mul := ⟨_, _, ⟨sf, ⟨aPm, iPm, kPm⟩, rM⟩, ok_mul FPm Cl O, bPm⟩
    neg := ⟨_, _, ⟨aPn, iPn, kPn⟩, jPn, ok_neg FPn Cl O, bPn⟩
    eq := ⟨_, _, ⟨aEq, iEq, kEq⟩, jEq, ok_eq FEq T Cl, bEq⟩
    bool := ⟨_, _, ⟨aBo, iBo, kBo⟩, jBo, ok_bool FBo T Cl, bBo⟩
    fac := ⟨_, _, _, PF.p, ok_factors FFa Cl, bFa⟩
    deg := ⟨_, _, _, PD.p, ok_degree FDe T Cl, bDe⟩
    ini := ⟨_, _, ds, AN.M, GC, bI, hds, b0⟩
    t0 := hT0
    lplus := ⟨_, _, gLp_, kLp, ok_plus FLp T T2.max T2.range zZi LTr GT, bLp⟩
    ltimes := ⟨_, _, gLm_, kLm, ok_times FLm T zEn T2.range LTr GT, bLm⟩
    lminus := ⟨_, _, gLn__, kLn_, ok_minus FLn_ T, bLn_⟩
    ltrim := ⟨_, _, gLt_, kLt, GT, bLt⟩ }
  have B : Has2 l.prog w K mg base C CNx := {
    call := ⟨_, _, ⟨aCa, iCa, kCa⟩, jCa, ok_value FCa T Cl AW AI EN, bCa⟩
    item := ⟨_, _, ⟨aGi, iGi, kGi⟩, jGi, ok_item FGi T Cl AW AI AX EN, bGi⟩
    iter := ⟨_, _, ⟨aIt, iIt, kIt⟩, jIt, ok_iter FIt T Cl, bIt⟩
    len := ⟨_, _, ⟨aLn, iLn, kLn⟩, jLn, (ok_len FLn T Cl).imp len_ln, bLn⟩
    lat := ⟨_, _, gLa__, kLa_, ok_lat FLa_ T, bLa_⟩ }
  have A3 : Has3 l.prog w K mg base C CNx CMx CRx := {
    power := ⟨_, _, ⟨aPp, iPp, kPp⟩, jPp, ok_power FPp T T2.range ⟨tp, PySem.W.mg_of X G vP⟩ ⟨tx, PySem.W.mg_of X G vX⟩ Cl O GPT EM W2 GW AT PD, bPp⟩
    raised := ⟨_, _, ⟨aPr, iPr, kPr⟩, jPr, ok_raised FPr T ⟨tr, PySem.W.mg_of X G vR⟩ Cl O W2 GW, bPr⟩
    turned := ⟨_, _, ⟨aPt, iPt, kPt⟩, jPt, ok_turned FPt T ⟨tx, PySem.W.mg_of X G vX⟩ Cl O ER W2 GW PD, bPt⟩
    lraised := ⟨_, _, gLr_, kLr, ok_lraised FLr T, bLr⟩ }
  have Dd : Dic l.prog w K mg base := {
    roll := ⟨_, _, gRo_, kRo, ok_roll FRo T, bRo⟩
    pick := ⟨_, _, gPi_, kPi, ok_pick FPi T AR, bPi⟩ }
  have Lo : Looks1 l.prog w K mg base [(tPw, qPowers), (tLa, qLaw)] := {
    factors := ⟨_, _, gLf_, kLf, ok_lfactors FLf T T2 AR, bLf⟩
    basics := ⟨_, _, gBa_, kBa, ok_basics FBa T T2.repr Cl A, bBa⟩
    whole_ := ⟨_, _, gIt__, kIt_, ok_ints FIt_ T T2.repr Cl A Dd, bIt_⟩
    powers := ⟨_, _, gPw_, kPw, ok_powers FPw rfl TBp (by simp) hup T T2 Cl A A3 Rf Dd, bPw⟩
    values := ⟨_, _, gVa_, kVa, ok_values FVa T T2.repr zSu Cl A B Dd, bVa⟩ }
  have To : Top1 l.prog w K mg base [(tPw, qPowers), (tLa, qLaw)] := {
    dice := ⟨_, _, gDi_, kDi, ok_dice FDi T T2, bDi⟩
    right := ⟨_, _, gRi_, kRi, ok_right FRi T T2 A Dd Lo, bRi⟩ }
  exact ok_law FLa rfl TBl (by simp) hul T T2 Cl A A3 Rf To
end K0

set_option Elab.async false
set_option maxRecDepth 100000
open PySem PySem.W PyProof.Rows in
set_option maxRecDepth 100000 in
set_option maxHeartbeats 0 in
theorem PySem.Challenge.cw_primekinds_k01_whole_sums_and_products_holds : PySem.Challenge.rw_primekinds_k01_whole_sums_and_products.Holds := by
  w_on; o_law; k_head; (case hw => w_witness2)
  k_fill
  refine Gd.walkGT (n := 63) (k := 12) (x := "_law_script") (CX := fun _ => L2.CX0) (l := PySem.Challenge.rw_primekinds_k01_whole_sums_and_products) rfl (by decide) rfl ⟨rfl, by decide, by decide⟩ (fun w h Y => PySem.W.km_in_of Y) ?F (fun _ _ _ _ _ z => z)
  case F =>
    intro w mg fa h Y KX G hmg
    have hT8 := PySem.W.km_tabs_of Y
    refine' K0.all_mk KX G hmg ?aWh ?lWh ?cWh_ ?kWh ?aIn ?lIn ?cIn_ ?kIn ?aIw ?lIw ?cIw_ ?kIw ?aRw ?lRw ?cRw_ ?kRw ?aRq ?lRq ?cRq_ ?kRq ?aTr ?lTr ?cTr_ ?kTr ?aAd ?lAd ?cAd_ ?kAd ?aNg ?lNg ?cNg_ ?kNg ?aMu ?lMu ?cMu_ ?kMu ?aPo ?lPo ?cPo_ ?kPo ?aOp ?lOp ?cOp_ ?kOp ?aDi ?lDi ?cDi_ ?kDi ?aRo ?lRo ?cRo_ ?kRo ?aPi ?lPi ?cPi_ ?kPi ?aLt ?lLt ?cLt_ ?kLt ?aLp ?lLp ?cLp_ ?kLp ?aLm ?lLm ?cLm_ ?kLm ?aLa_ ?lLa_ ?cLa__ ?kLa_ ?aLr ?lLr ?cLr_ ?kLr ?aLf ?lLf ?cLf_ ?kLf ?aLn_ ?lLn_ ?cLn__ ?kLn_ ?aRe ?lRe ?cRe_ ?kRe ?aBa ?lBa ?cBa_ ?kBa ?aIt_ ?lIt_ ?cIt__ ?kIt_ ?aPw ?lPw ?cPw_ ?kPw ?qPw ?vPw ?dPw ?nPw ?ePw ?aVa ?lVa ?cVa_ ?kVa ?aRi ?lRi ?cRi_ ?kRi ?aLa ?lLa ?cLa_ ?kLa ?qLa ?vLa ?dLa ?nLa ?eLa ?neT ?aC ?aI0 ?lI0 ?cI0_ ?kI0 ?iI0 ?lT ?lt ?aCa ?lCa ?cCa_ ?kCa ?iCa ?jCa ?aPa ?lPa ?cPa_ ?kPa ?iPa ?jPa ?aPs ?lPs ?cPs_ ?kPs ?iPs ?jPs ?aPm ?lPm ?cPm_ ?kPm ?iPm ?jPm ?aPn ?lPn ?cPn_ ?kPn ?iPn ?jPn ?aPp ?lPp ?cPp_ ?kPp ?iPp ?jPp ?aPr ?lPr ?cPr_ ?kPr ?iPr ?jPr ?aPt ?lPt ?cPt_ ?kPt ?iPt ?jPt ?aGi ?lGi ?cGi_ ?kGi ?iGi ?jGi ?aLn ?lLn ?cLn_ ?kLn ?iLn ?jLn ?aBo ?lBo ?cBo_ ?kBo ?iBo ?jBo ?aIt ?lIt ?cIt_ ?kIt ?iIt ?jIt ?aEq ?lEq ?cEq_ ?kEq ?iEq ?jEq ?aFa ?gFa ?tFa_ ?rFa ?lFa ?cFa_ ?kFa ?aDe ?gDe ?tDe_ ?rDe ?lDe ?cDe_ ?kDe ?pg ?hd ?po ?sa ?mk ?kc ?noF ?ha ?hn ?htk ?hm ?ci ?ct ?ne ?sf ?rA ?rS ?rM ?siC ?z0 ?z1 ?z2 ?z3 ?z4 ?z5 ?z6 ?z7 ?z8 ?z9 ?z10 ?z11 ?z12 ?z13 ?z14 ?z15 ?vB ?vM ?vX ?vR ?vP ?xCN ?xLN ?xsaN ?xgaN ?xggN ?xnbN ?xaN ?xtN ?xlN ?xcN ?xkN ?xeN ?xTN ?xhN ?xiN ?xsN ?xCM ?xLM ?xsaM ?xgaM ?xggM ?xnbM ?xaM ?xtM ?xlM ?xcM ?xkM ?xeM ?xTM ?xhM ?xiM ?xsM ?xCR ?xLR ?xsaR ?xgaR ?xggR ?xnbR ?xaR ?xtR ?xlR ?xcR ?xkR ?xeR ?xTR ?xhR ?xiR ?xsR ?xno
    (case aWh => k_is)
    (case lWh => k_is)
    (case cWh_ => k_is)
    (case kWh => k_is)
    (case aIn => k_is)
    (case lIn => k_is)
    (case cIn_ => k_is)
    (case kIn => k_is)
    (case aIw => k_is)
    (case lIw => k_is)
    (case cIw_ => k_is)
    (case kIw => k_is)
    (case aRw => k_is)
    (case lRw => k_is)
    (case cRw_ => k_is)
    (case kRw => k_is)
    (case aRq => k_is)
    (case lRq => k_is)
    (case cRq_ => k_is)
    (case kRq => k_is)
    (case aTr => k_is)
    (case lTr => k_is)
    (case cTr_ => k_is)
    (case kTr => k_is)
    (case aAd => k_is)
    (case lAd => k_is)
    (case cAd_ => k_is)
    (case kAd => k_is)
    (case aNg => k_is)
    (case lNg => k_is)
    (case cNg_ => k_is)
    (case kNg => k_is)
    (case aMu => k_is)
    (case lMu => k_is)
    (case cMu_ => k_is)
    (case kMu => k_is)
    (case aPo => k_is)
    (case lPo => k_is)
    (case cPo_ => k_is)
    (case kPo => k_is)
    (case aOp => k_is)
    (case lOp => k_is)
    (case cOp_ => k_is)
    (case kOp => k_is)
    (case aDi => k_is)
    (case lDi => k_is)
    (case cDi_ => k_is)
    (case kDi => k_is)
    (case aRo => k_is)
    (case lRo => k_is)
    (case cRo_ => k_is)
    (case kRo => k_is)
    (case aPi => k_is)
    (case lPi => k_is)
    (case cPi_ => k_is)
    (case kPi => k_is)
    (case aLt => k_is)
    (case lLt => k_is)
    (case cLt_ => k_is)
    (case kLt => k_is)
    (case aLp => k_is)
    (case lLp => k_is)
    (case cLp_ => k_is)
    (case kLp => k_is)
    (case aLm => k_is)
    (case lLm => k_is)
    (case cLm_ => k_is)
    (case kLm => k_is)
    (case aLa_ => k_is)
    (case lLa_ => k_is)
    (case cLa__ => k_is)
    (case kLa_ => k_is)
    (case aLr => k_is)
    (case lLr => k_is)
    (case cLr_ => k_is)
    (case kLr => k_is)
    (case aLf => k_is)
    (case lLf => k_is)
    (case cLf_ => k_is)
    (case kLf => k_is)
    (case aLn_ => k_is)
    (case lLn_ => k_is)
    (case cLn__ => k_is)
    (case kLn_ => k_is)
    (case aRe => k_is)
    (case lRe => k_is)
    (case cRe_ => k_is)
    (case kRe => k_is)
    (case aBa => k_is)
    (case lBa => k_is)
    (case cBa_ => k_is)
    (case kBa => k_is)
    (case aIt_ => k_is)
    (case lIt_ => k_is)
    (case cIt__ => k_is)
    (case kIt_ => k_is)
    (case aPw => k_is)
    (case lPw => k_is)
    (case cPw_ => k_is)
    (case kPw => k_is)
    (case qPw => k_is)
    (case vPw => rfl)
    (case dPw => kernel_rfl)
    (case nPw => kernel_rfl)
    (case ePw => exact hT8 _ (by simp))
    (case aVa => k_is)
    (case lVa => k_is)
    (case cVa_ => k_is)
    (case kVa => k_is)
    (case aRi => k_is)
    (case lRi => k_is)
    (case cRi_ => k_is)
    (case kRi => k_is)
    (case aLa => k_is)
    (case lLa => k_is)
    (case cLa_ => k_is)
    (case kLa => k_is)
    (case qLa => k_is)
    (case vLa => rfl)
    (case dLa => kernel_rfl)
    (case nLa => kernel_rfl)
    (case eLa => exact hT8 _ (by simp))
    (case neT => decide)
    (case aC => k_is)
    (case aI0 => k_is)
    (case lI0 => k_is)
    (case cI0_ => k_is)
    (case kI0 => k_is)
    (case iI0 => k_is)
    (case lT => k_is)
    (case lt => k_is)
    (case aCa => k_is)
    (case lCa => k_is)
    (case cCa_ => k_is)
    (case kCa => k_is)
    (case iCa => k_is)
    (case jCa => k_is)
    (case aPa => k_is)
    (case lPa => k_is)
    (case cPa_ => k_is)
    (case kPa => k_is)
    (case iPa => k_is)
    (case jPa => k_is)
    (case aPs => k_is)
    (case lPs => k_is)
    (case cPs_ => k_is)
    (case kPs => k_is)
    (case iPs => k_is)
    (case jPs => k_is)
    (case aPm => k_is)
    (case lPm => k_is)
    (case cPm_ => k_is)
    (case kPm => k_is)
    (case iPm => k_is)
    (case jPm => k_is)
    (case aPn => k_is)
    (case lPn => k_is)
    (case cPn_ => k_is)
    (case kPn => k_is)
    (case iPn => k_is)
    (case jPn => k_is)
    (case aPp => k_is)
    (case lPp => k_is)
    (case cPp_ => k_is)
    (case kPp => k_is)
    (case iPp => k_is)
    (case jPp => k_is)
    (case aPr => k_is)
    (case lPr => k_is)
    (case cPr_ => k_is)
    (case kPr => k_is)
    (case iPr => k_is)
    (case jPr => k_is)
    (case aPt => k_is)
    (case lPt => k_is)
    (case cPt_ => k_is)
    (case kPt => k_is)
    (case iPt => k_is)
    (case jPt => k_is)
    (case aGi => k_is)
    (case lGi => k_is)
    (case cGi_ => k_is)
    (case kGi => k_is)
    (case iGi => k_is)
    (case jGi => k_is)
    (case aLn => k_is)
    (case lLn => k_is)
    (case cLn_ => k_is)
    (case kLn => k_is)
    (case iLn => k_is)
    (case jLn => k_is)
    (case aBo => k_is)
    (case lBo => k_is)
    (case cBo_ => k_is)
    (case kBo => k_is)
    (case iBo => k_is)
    (case jBo => k_is)
    (case aIt => k_is)
    (case lIt => k_is)
    (case cIt_ => k_is)
    (case kIt => k_is)
    (case iIt => k_is)
    (case jIt => k_is)
    (case aEq => k_is)
    (case lEq => k_is)
    (case cEq_ => k_is)
    (case kEq => k_is)
    (case iEq => k_is)
    (case jEq => k_is)
    (case aFa => k_is)
    (case gFa => k_is)
    (case tFa_ => k_is)
    (case rFa => k_is)
    (case lFa => k_is)
    (case cFa_ => k_is)
    (case kFa => k_is)
    (case aDe => k_is)
    (case gDe => k_is)
    (case tDe_ => k_is)
    (case rDe => k_is)
    (case lDe => k_is)
    (case cDe_ => k_is)
    (case kDe => k_is)
    (case pg => k_is)
    (case hd => k_is)
    (case po => k_is)
    (case sa => k_is)
    (case mk => k_is)
    (case kc => k_is)
    (case noF => k_is)
    (case ha => k_is)
    (case hn => k_is)
    (case htk => k_is)
    (case hm => k_is)
    (case ci => k_is)
    (case ct => k_is)
    (case ne => k_is)
    (case sf => k_is)
    (case rA => k_is)
    (case rS => k_is)
    (case rM => k_is)
    (case siC => k_is)
    (case z0 => k_is)
    (case z1 => k_is)
    (case z2 => k_is)
    (case z3 => k_is)
    (case z4 => k_is)
    (case z5 => k_is)
    (case z6 => k_is)
    (case z7 => k_is)
    (case z8 => k_is)
    (case z9 => k_is)
    (case z10 => k_is)
    (case z11 => k_is)
    (case z12 => k_is)
    (case z13 => k_is)
    (case z14 => k_is)
    (case z15 => k_is)
    (case vB => k_is)
    (case vM => k_is)
    (case vX => k_is)
    (case vR => k_is)
    (case vP => k_is)
    (case xCN => k_is)
    (case xLN => k_is)
    (case xsaN => k_is)
    (case xgaN => k_is)
    (case xggN => k_is)
    (case xnbN => k_is)
    (case xaN => k_is)
    (case xtN => k_is)
    (case xlN => k_is)
    (case xcN => k_is)
    (case xkN => k_is)
    (case xeN => k_is)
    (case xTN => k_is)
    (case xhN => k_is)
    (case xiN => k_is)
    (case xsN => k_is)
    (case xCM => k_is)
    (case xLM => k_is)
    (case xsaM => k_is)
    (case xgaM => k_is)
    (case xggM => k_is)
    (case xnbM => k_is)
    (case xaM => k_is)
    (case xtM => k_is)
    (case xlM => k_is)
    (case xcM => k_is)
    (case xkM => k_is)
    (case xeM => k_is)
    (case xTM => k_is)
    (case xhM => k_is)
    (case xiM => k_is)
    (case xsM => k_is)
    (case xCR => k_is)
    (case xLR => k_is)
    (case xsaR => k_is)
    (case xgaR => k_is)
    (case xggR => k_is)
    (case xnbR => k_is)
    (case xaR => k_is)
    (case xtR => k_is)
    (case xlR => k_is)
    (case xcR => k_is)
    (case xkR => k_is)
    (case xeR => k_is)
    (case xTR => k_is)
    (case xhR => k_is)
    (case xiR => k_is)
    (case xsR => k_is)
    (case xno => k_is)
