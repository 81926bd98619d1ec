import PyProof.Rows.All
import Wide.All
import OpenK.AllK
import Wide.FinOn
import HandS.ForMost
import HandS.ForExc
import KE.KExcInit
import HandS.IsInst
import HandS.IterNext
import HandS.OwnIter
import KE.KOwnIter
import PyProof.Rows.Range3
import PyProof.Conv_bool
import HandS.TupMul
import HandS.TupAny
import HandS.Wide
import HandS.Property
import PySem.Challenge.RW_primekinds_k00_polynomials_told
import HandS.Defaults
import HandS.RaiseMore
import PyProof.ReprLen
set_option Elab.async false
set_option linter.all false
set_option maxRecDepth 100000
set_option maxHeartbeats 4000000
/-! Promises of defs that are called where no container is being shown (the guards of the stack are known to be empty): repr of containers needs this. -/
namespace Gd
open PySem PySem.Spec PyProof.Rows L2

/-- no container is being shown -/
abbrev NoG (A : Around) : Prop := A.guards = some []

/-- the promise of a def, kept wherever no container is being shown -/
structure FnG (P : Program) (w : World) (K : PySem.W.Frag) (mg : Str → Option Value) (base : Heap) (CX : CXT) (k : Nat)
    (f : Addr) (fd : FuncData) (ps : List Str) (sp : Sp) : Prop where
  many : ∀ vs H Q E, sp vs H Q E → vs.length = ps.length
  go : ∀ (A : Around) (out : List Env) (s : Shared) (H : Hp) (ar : Args) (us : List Value) (vs : List V) (Q : VK) (E : XK),
    NoG A → Room k A → Env0 P w K mg base A out s H → BindsTo s fd ar (ps.zip us) → Vals vs us → sp vs H Q E →
      codeAny (model P w) A (.call (.ref f) ar) (CR CX out P w H s Q E) s

section
variable {P : Program} {w : World} {K : PySem.W.Frag} {mg : Str → Option Value} {base : Heap} {CX : CXT} {k : Nat}
  {f : Addr} {fd : FuncData} {ps : List Str} {sp : Sp}
theorem FnG.of (F : FnOk P w K mg base CX k f fd ps sp) : FnG P w K mg base CX k f fd ps sp :=
  ⟨F.len, fun A out s H ar us vs Q E _ => F.run A out s H ar us vs Q E⟩

/-- a def by its body, where no container is being shown -/
theorem fnG {x qual : Str} {st : Stmt} {N : List Str} (F : Fun K x qual st f fd) (S : FnScope N ps (defScope st))
    (many : ∀ vs H Q E, sp vs H Q E → vs.length = ps.length)
    (body : ∀ (cdv : Value) (A : Around) (out : List Env) (s : Shared) (H : Hp) (vs : List V) (Q : VK) (E : XK),
      NoG A → Room k (A.deeper (envOfC qual (defScope st) s.heap.objs.size f cdv)) → sp vs H Q E →
      ∃ t, PSs (cxOf CX P w K mg base N qual (defScope st) f cdv A out s H E) (defBody st) t ∧
        t { nx := fun _ H' => Q .non H', rt := Q } (start N vs) H) :
    FnG P w K mg base CX (k + 1) f fd ps sp := by
  obtain ⟨oc, od, kV, doc, pm, an, cdv, ct, osl, rfl, lk, hcd⟩ := F.ex
  refine ⟨many, ?_⟩
  intro A out s H ar us vs Q E hg hr e0 hb r hsp
  have hl := many vs H Q E hsp
  have KX : K.In s.heap := e0.mod.kin.keeps (fun b o e => (e0.bs b o e).1)
  have lim : s.heap.NoLimit := e0.mod.nolimit.keeps (fun b o e => (e0.bs b o e).1)
  have kinds : ∀ y ∈ ps.zip us, (defScope st).names.lookup y.1 = some .local ∨
      ((defScope st).names.lookup y.1 = some .cell ∧ ((cellsFrom (s.heap.objs.size + 1) (defScope st).names []).lookup y.1).isSome = true) := by
    rintro ⟨n, v⟩ hy
    rcases S.par n (List.of_mem_zip hy).1 with q | q
    · exact Or.inl q
    · exact Or.inr ⟨q, PySem.W.cellsFrom_some _ _ _ (Or.inl q)⟩
  refine codeAny_call_function hr.depth (KX _ _ lk) rfl S.co S.gen rfl
    (PySem.W.codeRec_of KX hcd) (hb _ _ _ _ ?_)
  refine wpAny_newFunctionEnv_cells S.kind kinds ?_
  intro env he s1 x
  cases he
  refine ⟨lim.keeps x.toInCall.keep, codeAny_func ?_⟩
  obtain ⟨t, ht, hq⟩ := body cdv A out s H vs Q E hg (hr.deeper _) hsp
  have I := inv_start (CX := CX) (E := E) S hr.hd e0 hl r x
  refine wpAny_mono (ht.run [] s1 (start N vs) H _ I hq) ?_ (fun e s' hs => hs)
  intro fl s' hs
  have fin : ∀ {σ' : L2.St} {H' : Hp} {v : V} {u : Value},
      Inv (cxOf CX P w K mg base N qual (defScope st) f cdv A out s H E) [] σ' H' s' →
      RelV v u → Q v H' → CE out P w H s Q u s' := by
    intro σ' H' v u J rv q
    exact ⟨v, H', J.os, J.bare, J.base, J.hok, rv, q⟩
  cases fl with
  | ret u =>
    obtain ⟨v, σ', H', J, rv, q⟩ := hs
    exact fin J rv q
  | next =>
    obtain ⟨σ', H', J, q⟩ := hs
    exact fin (v := V.non) (u := Value.none) J rfl q
  | brk =>
    obtain ⟨σ', H', J, q⟩ := hs
    exact False.elim q
  | cont =>
    obtain ⟨σ', H', J, q⟩ := hs
    exact False.elim q
end

section
variable {X : Cx} {CX : CXT} {k : Nat} {f C : Addr} {fd : FuncData} {ps : List Str} {sp : Sp} {dvs : List V} {ds : List Value} {E : XK}
  {x : Str} {p pos : Pos} {e : Expr} {es : List Expr} {t : TA}
/-- the call of such a def -/
theorem goG {pins : List (Addr × Obj)} {σ : L2.St} {H : Hp} {s : Shared} {Q : VK} {us : List Value} {vs : List V}
    (hg : NoG X.A) (F : FnG X.prog X.w X.K X.mg X.base CX k f fd ps sp) (hr : Room k X.A) (hb : Binds X.K fd ps ds)
    (hd : Vals dvs ds) (hx : Passes CX X E) (I : Inv X pins σ H s) (r : Vals vs us) (h : sp (vs ++ dvs) H Q E) :
    wpAny (model X.prog X.w) X.A (call (.ref f) us) (EP X pins σ Q) X.xe s := by
  have r2 := Vals.append r hd
  have hl : (us ++ ds).length = ps.length := by
    rw [← r2.length]
    exact F.many _ H Q E h
  have run := F.go X.A X.stack s H ⟨us, []⟩ (us ++ ds) _ Q E hg hr I.env0 (hb s us I.kIn hl) r2 h
  refine wpAny_call (codeAny_mono run ?_)
  intro r s' hq
  match r, hq with
  | .error e, hq => exact hx pins σ H s e s' I hq
  | .ok (.ret u), hq => exact I.after hq
  | .ok .next, hq => exact False.elim hq
  | .ok .brk, hq => exact False.elim hq
  | .ok .cont, hq => exact False.elim hq

theorem pe_callG (hg : NoG X.A) (F : FnG X.prog X.w X.K X.mg X.base CX k f fd ps sp) (hr : Room k X.A) (hgl : Gl X x)
    (hm : X.mg x = some (.ref f)) (hk : PySem.W.keepIn X.K (.ref f) = true) (hb : Binds X.K fd ps ds) (hd : Vals dvs ds)
    (hx : Passes CX X E) (ha : PA X (e :: es) t) (hdb : (x == ("__debug__" : Str)) = false := by decide)
    (he : starEach (e :: es) X.env = (false, eval e X.env) :: starEach es X.env := by rfl)
    (hpl : (backTo pos (starEach es X.env)).any (·.1) = false := by rfl) :
    PE X (.Call (.Name x p) (e :: es) [] pos) (tCall sp dvs E t) := by
  constructor
  intro pins s σ H Q I h
  refine wpAny_Call_Name_kw (ld_glob I hgl hm ?_ hdb)
  have go := thn (ha.run pos pins s σ H _ I h) (fun us s1 ⟨vs, H1, I1, r, q⟩ =>
    (⟨I1.kIn, goG hg F hr hb hd hx I1 r q⟩ : X.K.In s1.heap ∧ wpAny (model X.prog X.w) X.A (call (.ref f) us) (EP X pins σ Q) X.xe s1))
  exact PySem.W.callWith_K (h₀ := X.base) I.ok.mod.kin hk go he hpl
end

section
variable {P : Program} {w : World} {K : PySem.W.Frag} {mg mb : Str → Option Value} {CX : CXT} {k : Nat} {fa a : Addr}
  {fd : FuncData} {x : Str} {sp : Sp} {s₁ : Shared} {vs : List Value} {ns : List Int}
/-- the call of the law, from a heap H of which nothing but the script is tracked -/
theorem coreG (KX : K.In s₁.heap) (hns : s₁.heap.Ns mainGlobals mg) (hb : s₁.heap.Ns builtinsNs mb)
    (hbb : ∀ x : Str, x ≠ "__name__" → mb x = bootBuiltins x) (hlim : s₁.heap.NoLimit) (hg : s₁.gens = #[])
    (ha : s₁.heap.get? a = some { cls := .type "list", data := .seq vs.toArray }) (hr : Room k callerA)
    (F : ∀ base : Heap, K.In base → base.Ns mainGlobals mg → FnG P w K mg base CX k fa fd [x] sp)
    (hbind : ∀ (s : Shared) (u : Value), BindsTo s fd ⟨[u], []⟩ [(x, u)])
    (hCX : ∀ H e s', CX [] H s₁ (fun _ _ _ => False) e s' → False)
    (H : Hp) (hO : Only H) (hsp : sp [.ref a] H (fun v _ => v = .bl true) fun _ _ _ => False)
    (hok : HOk P w H s₁.heap) (hA : ∀ b, H b ≠ none → b = a) (hK : H a ≠ none → K.lookup a = none) :
    codeAny (model P w) callerA (.call (.ref fa) ⟨[.ref a], []⟩)
      (fun r s' => r = .ok (.ret (.bool true)) ∧ OldK s₁.heap s'.heap ∧ s'.os = s₁.os ∧ AllBare s'.gens) s₁ := by
  have at_a : ∀ {b : Addr}, H b ≠ none → b = a := fun {b} z => hA b z
  have keepB : ∀ {b : Addr} {o : Obj}, s₁.heap.get? b = some o → H b = none → (hidT s₁.heap H).get? b = some o := by
    intro b o e n
    exact hidT_get e n
  have noDict : ∀ {b : Addr} {o : Obj} {es : Array DictEntry} {ep : Nat},
      s₁.heap.get? b = some o → o.data = .dict es ep → H b = none := by
    intro b o es ep e d
    cases q : H b with
    | none => rfl
    | some u =>
      obtain rfl : b = a := at_a (by rw [q]; simp)
      rw [ha] at e
      cases e
      cases d
  have nsOf : ∀ {b : Addr} {m : Str → Option Value}, s₁.heap.Ns b m → (hidT s₁.heap H).Ns b m := by
    rintro b m ⟨o, es, ep, e, d, r⟩
    exact ⟨o, es, ep, keepB e (noDict e d), d, r⟩
  have inB : K.In (hidT s₁.heap H) := by
    intro b o e
    refine keepB (KX b o e) ?_
    cases q : H b with
    | none => rfl
    | some u =>
      obtain rfl : b = a := at_a (by rw [q]; simp)
      rw [hK (by rw [q]; simp)] at e
      cases e
  obtain ⟨mc, l1, l2⟩ := hlim
  have hM : Mod K mg (hidT s₁.heap H) := ⟨inB, nsOf hns, ⟨mb, nsOf hb, hbb⟩, ⟨mc, nsOf l1, l2⟩⟩
  have e0 : Env0 P w K mg (hidT s₁.heap H) callerA [] s₁ H := by
    refine ⟨rfl, hM, ?_, Nat.le_of_eq (hidT_size _ _), trivial, ?_, hok, .of_eq hg⟩
    · intro b o e
      exact of_hidT e
    · intro b z
      exact absurd (show b ∈ ([] : List Addr) from z) (by simp)
  have run := (F _ inB (nsOf hns)).go callerA [] s₁ H ⟨[.ref a], []⟩ [.ref a] [.ref a] _ _ rfl hr e0 (hbind s₁ (.ref a)) (.cons rfl .nil) hsp
  refine codeAny_mono run ?_
  intro r s' h
  match r, h with
  | .error e, h => exact (hCX H e s' h).elim
  | .ok .next, h => exact False.elim h
  | .ok .brk, h => exact False.elim h
  | .ok .cont, h => exact False.elim h
  | .ok (.ret u), h =>
    obtain ⟨v, H', os, bare, un, hok', rv, q⟩ := h
    obtain rfl : v = .bl true := q
    obtain rfl : u = Value.bool true := rv
    refine ⟨rfl, OldK.of_keep ?_, os, bare⟩
    intro b o e
    cases q : H b with
    | none => exact un.keep b o e q (fun z => absurd (show b ∈ ([] : List Addr) from z) (by simp)) (by simp)
    | some u =>
      rcases hO b with z | ⟨ob, xs, z⟩
      · rw [q] at z
        cases z
      · obtain ⟨e1, _⟩ := hok b _ z
        obtain ⟨e2, _⟩ := hok' b _ (un.frzs b ob _ z)
        rw [e] at e1
        cases e1
        exact e2

theorem law_callG (KX : K.In s₁.heap) (hns : s₁.heap.Ns mainGlobals mg) (hb : s₁.heap.Ns builtinsNs mb)
    (hbb : ∀ x : Str, x ≠ "__name__" → mb x = bootBuiltins x) (hlim : s₁.heap.NoLimit) (hg : s₁.gens = #[])
    (ha : s₁.heap.get? a = some { cls := .type "list", data := .seq vs.toArray }) (hi : IntsAre vs ns) (hl : ns.length ≤ sizeLine)
    (hr : Room k callerA) (F : ∀ base : Heap, K.In base → base.Ns mainGlobals mg → FnG P w K mg base CX k fa fd [x] sp)
    (hbind : ∀ (s : Shared) (u : Value), BindsTo s fd ⟨[u], []⟩ [(x, u)])
    (hsp : ∀ H : Hp, Only H → SqL K H a (ns.map V.int) → sp [.ref a] H (fun v _ => v = .bl true) fun _ _ _ => False)
    (hCX : ∀ H e s', CX [] H s₁ (fun _ _ _ => False) e s' → False) :
    codeAny (model P w) callerA (.call (.ref fa) ⟨[.ref a], []⟩)
      (fun r s' => r = .ok (.ret (.bool true)) ∧ OldK s₁.heap s'.heap ∧ s'.os = s₁.os ∧ AllBare s'.gens) s₁ := by
  have rv := vals_ints hi
  have lenV := hi.length
  cases hk : K.lookup a with
  | some o =>
    have e := KX a o hk
    rw [ha] at e
    cases e
    have none' : ∀ b : Addr, (fun _ : Addr => (none : Option HO)) b = none := fun _ => rfl
    refine coreG KX hns hb hbb hlim hg ha hr F hbind hCX (fun _ => none) (fun _ => .inl rfl) (hsp _ (fun _ => .inl rfl) ?_) ?_ (fun b z => absurd (none' b) z) (fun z => absurd (none' a) z)
    · exact .inr ⟨_, vs.toArray, _, hk, rfl, rfl, rfl, by rw [List.size_toArray, lenV]; exact hl, by simpa using rv⟩
    · intro b u z
      cases z
  | none =>
    have hpos : ∀ b, (fun b => if b = a then some (HO.frz { cls := .type "list", data := .seq vs.toArray } (.lst (ns.map V.int))) else none) b ≠ none → b = a := by
      intro b z
      by_cases q : b = a
      · exact q
      · exact absurd (if_neg q) z
    have hO : Only (fun b => if b = a then some (HO.frz { cls := .type "list", data := .seq vs.toArray } (.lst (ns.map V.int))) else none) := by
      intro b
      by_cases q : b = a
      · exact .inr ⟨_, _, if_pos q⟩
      · exact .inl (if_neg q)
    refine coreG KX hns hb hbb hlim hg ha hr F hbind hCX _ hO (hsp _ hO ?_) ?_ hpos (fun _ => hk)
    · exact .inl (.inr ⟨{ cls := .type "list", data := .seq vs.toArray }, if_pos rfl⟩)
    · intro b u z
      have q : b = a := hpos b (by rw [z]; simp)
      subst q
      have z' := (if_pos rfl).symm.trans z
      cases z'
      exact ⟨ha, by rw [List.length_map]; exact hl, vs, _, rv, ha⟩
end

/-- the end of a law -/
theorem walkG {l : PySem.W.OpenLaw} {n k : Nat} {q : Program} {loose : List Str} {XP : (Str → Option Value) → Heap → Prop} {YP : World → Heap → Prop} {d : DefRec} {K : Params → PySem.W.Frag} {CX : World → CXT} {sp : World → Sp} {x : Str}
    (hn : l.most = some n) (hn2 : n ≤ sizeLine) (hdf : d.params.defaults = []) (hr : Room k callerA)
    (hY : ∀ (w : World) (h : Heap), YP w h → (K w.params).In h)
    (F : ∀ (w : World) (mg : Str → Option Value) (fa : Addr) (h : Heap), (K w.params).In h → h.Ns mainGlobals mg → mg d.name = some (.ref fa) →
      ∃ fd : FuncData, (∀ (s : Shared) (u : Value), BindsTo s fd ⟨[u], []⟩ [(x, u)]) ∧
        ∀ base : Heap, (K w.params).In base → base.Ns mainGlobals mg → FnG l.prog w (K w.params) mg base (CX w) k fa fd [x] (sp w))
    (hsp : ∀ (w : World) (H : Hp) (a : Addr) (ns : List Int), ns.length ≤ n → Only H → SqL (K w.params) H a (ns.map V.int) → sp w [.ref a] H (fun v _ => v = .bl true) fun _ _ _ => False)
    (hCX : ∀ (w : World) (H : Hp) (s : Shared) (e : Value) (s' : Shared), CX w [] H s (fun _ _ _ => False) e s' → False) :
    PySem.W.WalkO q loose XP YP l.row.toRowW d [] (fun f vs => PySem.call f vs) := by
  refine Att.attach_call hn hdf ?_
  intro w s₀ s₁ mg mb fa o pm cd doc a vs ns G Y ho hd hcd hmg hobj hints hlen hg
  obtain ⟨fd, hb, hF⟩ := F w mg fa _ (hY w _ Y) G.T.g hmg
  exact law_callG (hY w _ Y) G.T.g G.T.b G.T.builtins G.T.nolimit hg hobj hints (Nat.le_trans hlen hn2) hr hF hb (fun H hO hS => hsp w H a ns hlen hO hS) fun H e s' => hCX w H s₁ e s'
end Gd

set_option Elab.async false
set_option linter.all false
set_option maxRecDepth 100000
set_option maxHeartbeats 4000000
/-! The first field of an exception of an own class that stands directly below a builtin one. -/
namespace GdX
open PySem PySem.Calls PyProof.Rows PySem.HandSPX Builtin Builtin.ObjectAttr
section
variable {prog : Program} {w : World} {A : Around} {R : Result → Shared → Prop} {hp : Heap} {g : Array GenState} {d : Drawn} {t : Nat} {os : OsState}
theorem osaG {B : String} {bmB : List Value} (SF : StoreFacts B bmB "object.__setattr__" "object") {K : W.Frag} {name : Str} {tk : Tok} {v : Value} {x C : Addr} {fv : Array Value} {cd : ClassData}
    (X : K.In hp) (hx : hp.get? x = some { cls := .ref C, data := .fields fv }) (hcd : W.clsIn K C = some cd)
    (hm : cd.mro = .ref C :: bmB) (hh : cd.hasDict = true) (ha : W.findIn K (.ref C) name = some none)
    (hq : ∀ h' tk' dx, (∀ b o, b ≠ x → hp.get? b = some o → h'.get? b = some o) → hp.objs.size ≤ dx → dx ≠ x →
      h'.get? x = some { cls := .ref C, dict := some dx, data := .fields fv } →
      h'.Ns1 dx (fun y => if y = name then some v else none) → R (.ok (.ret .none)) ⟨h', g, d, tk', os⟩) :
    codeAny (model prog w) A (.call (.builtin "object.__setattr__") ⟨[.ref x, .str name tk, v], []⟩) R ⟨hp, g, d, t, os⟩ := by
  have I : W.InstAt hp x { cls := .ref C, data := .fields fv } C none := ⟨hx, rfl, rfl, trivial⟩
  have ne : cd.mro.isEmpty = false := by rw [hm]; rfl
  have hob : cd.mro.contains (.type "object") = true := by
    rw [hm, List.contains_cons, SF.hasOwner, Bool.or_true]
  have hxs : x ≠ hp.objs.size := Nat.ne_of_lt (Heap.lt_size hx)
  have sub : W.Looks (model prog w) hp (isInstance (.ref x) (.type "object")) true := by
    refine I.type.andThen (W.looks_mroIn X ?_)
    unfold W.mroIn
    rw [hcd, Option.bind_some, if_neg (by rw [ne]; decide), hob]
  refine codeAny_call_builtin SF.slot.plain SF.entry (@W.check_slot (model prog w) _ _ ⟨hp, g, d, t, os⟩ "object.__setattr__" "object" "__setattr__" (.ref x) [.str name tk, v] [] _
    SF.kind SF.split sub (SF.args (.ref x) (.str name tk) v) ?_)
  have hmr : W.Looks (model prog w) hp (mroOf (.ref C)) cd.mro := (W.looks_clsIn X hcd).andThen .now
  have L3 : W.Looks (model prog w) hp (storeTaker? none) none := .now
  have hcls : W.Looks (model prog w) hp (classData C) cd := W.looks_clsIn X hcd
  rw [W.osa_eq, refuse_eq]
  refine wpAny_bind (wpAny_bind (I.type.at (wpAny_bind (hmr.at ?_))))
  rw [hm, refuseLoop_ref, SF.passes]
  refine wpAny_pure (wpAny_bind (I.type.at (wpAny_bind ((W.looks_findIn X ha).at (wpAny_bind (L3.at ?_))))))
  show wpAny _ _ (storeInOwnDict (.ref x) (.ref C) (.str name tk) name v false) _ _ _
  clear hmr hob ne sub hm
  obtain ⟨nm, bs, mro, ns, qn, hd, sn, sb, ab, col, del⟩ := cd
  have hh' : hd = true := hh
  subst hh'
  unfold storeInOwnDict ownDictForStores
  repeat (first
    | with_reducible refine store_in_new ?_ ?_
    | with_reducible refine wpAny_loadPart_at hx ?_
    | with_reducible refine hcls.at ?_
    | wp_step)
  · exact ⟨_, #[], _, (Heap.get?_update_ne _ _ _ _ hxs.symm).trans (Heap.get?_push_at rfl rfl), rfl, fun e he => absurd he (by simp), fun _ => rfl⟩
  · intro h' tk' hn' hs
    have hx₁ : (hp.push { cls := .type "dict", data := .dict #[] }).get? x = some { cls := .ref C, data := .fields fv } := Heap.get?_push_of_some _ hx
    refine hq h' tk' hp.objs.size (fun b o hb ho => ?_) (Nat.le_refl _) hxs.symm ?_ hn'
    · have far : b ≠ hp.objs.size := Nat.ne_of_lt (Heap.lt_size ho)
      exact (hs.2 b far).trans ((Heap.get?_update_ne _ _ _ _ hb).trans (Heap.get?_push_of_some _ ho))
    · exact (hs.2 x hxs).trans (Heap.get?_update_self _ hx₁ rfl)
end
end GdX

set_option Elab.async false
set_option linter.all false
set_option maxRecDepth 100000
set_option maxHeartbeats 4000000
namespace PySem
namespace XInvalidNumber
open PySem.W PySem.Calls PyProof.Rows PySem.HandSPX
/-! ### the text of __init__ -/
def iA (p1 p2 : Pos) : Arguments := { posonlyargs := [], args := [{ arg := "self", annotation := none, pos := p1 }, { arg := "value", annotation := none, pos := p2 }], vararg := none, kwonlyargs := [], kw_defaults := [], kwarg := none, defaults := [] }
def iB (q1 q2 q3 q4 : Pos) : List Stmt := [.Assign [.Attribute (.Name "self" q1) "value" q2] (.Name "value" q3) q4]
def iS : Scope := { kind := .function, names := [(PySem.Str.ofString "self", .local), (PySem.Str.ofString "value", .local)], isGenerator := false, isCoroutine := false, more := [] }
/-- what the written part says of Low, at C, and of its __init__, at fI -/
structure InvalidNumberTxt (K : Frag) (mg : Str → Option Value) (C fI : Addr) : Prop where
  gC : mg "InvalidNumber" = some (.ref C)
  cls : ∃ nm q N bs sn sub ab col dd k0 k1 k2 k3 k5, K.lookup C = some (excClassObj nm q C N bs [.type "IndexError", .type "LookupError", .type "Exception", .type "BaseException", .type "object"] true sn sub ab col dd k0 k1 k2 k3 k5 "IndexError.__new__")
  sa : findIn K (.ref C) "__setattr__" = some (some (.builtin "object.__setattr__"))
  ga : findIn K (.ref C) "__getattribute__" = some (some (.builtin "BaseException.__getattribute__"))
  gg : findIn K (.ref C) "__getattr__" = some none
  noN : findIn K (.ref C) "value" = some none
  iC : findIn K (.ref C) "__init__" = some (some (.ref fI))
  tC : typeIn K (.ref fI) = some (.type "function")
  kC : keepIn K (.ref C) = true
  exC : subIn K (.ref C) (.type "BaseException") = some true
  tyC : typeIn K (.ref C) = some (.type "type")
  hdC : hasDictIn K C = true
  te : exmOne K (.ref C) (.ref C) = some true
  fn : ∃ (oc : Value) (od : Option Addr) (doc pm : Value) (an : Option Addr) (cdv ct : Value) (osl : Array (Option Value)) (p1 p2 q1 q2 q3 q4 : Pos),
    K.lookup fI = some ⟨oc, od, .func (fnOf "__init__" "InvalidNumber.__init__" (iA p1 p2) (iB q1 q2 q3 q4) iS .none .none doc pm an cdv ct), osl⟩ ∧ codeIn K cdv "InvalidNumber.__init__" = true
theorem one_size (v : Value) : [v].length ≤ sizeLine := by
  rw [sizeLine_eq]
  exact (by decide : 1 ≤ 16777216)
theorem kept_but {K : Frag} {h h' : Heap} {x : Addr} (X : K.In h) (hx : K.lookup x = none) (k : ∀ b o, b ≠ x → h.get? b = some o → h'.get? b = some o) : K.In h' := fun a o e =>
  k a o (fun z => by rw [z, hx] at e; cases e) (X a o e)
theorem ldC {M : Model} {s : Shared} {name : Str} {scope : Scope} {L a : Addr} {cd : Value} {m : Str → Option Value} {x : Str} {pos : Pos} {v : Value} {Q : Value → Shared → Prop} {A : Around} {E : Value → Shared → Prop} (hn : s.heap.Ns L m) (hv : m x = some v) (h : Q v s)
    (hk : scope.kind = .function := by rfl) (hl : (envOfC name scope L a cd).kindOf x = some .local := by rfl) (hd : (x == ("__debug__" : Str)) = false := by decide) :
    wpAny M A (eval (.Name x pos) (envOfC name scope L a cd)) Q E s := wpAny_Name (wpAny_loadName_local hk hl hn hv h) hd
/-- what __init__ leaves of a fresh exception at x -/
structure InitEnd (h h' : Heap) (x C dx t1 : Addr) (v : Value) : Prop where
  keep : ∀ b o, b ≠ x → h.get? b = some o → h'.get? b = some o
  obj : h'.get? x = some { cls := .ref C, dict := some dx, data := .fields #[.ref t1, .none, .none, .none, .bool false, .none] }
  dbig : h.objs.size ≤ dx
  dne : dx ≠ x
  ns : h'.Ns1 dx (fun y => if y = "value" then some v else none)
/-- a made Low -/
structure OwnMade (h h' : Heap) (e C d : Addr) (v : Value) : Prop where
  keep : ∀ b o, h.get? b = some o → h'.get? b = some o
  new : h.objs.size ≤ e
  obj : ∃ oe vs, h'.get? e = some oe ∧ oe.cls = .ref C ∧ oe.dict = some d ∧ oe.data = .fields vs ∧ vs[1]? = some .none
  dbig : h.objs.size ≤ d
  dne : d ≠ e
  ns : h'.Ns1 d (fun y => if y = "value" then some v else none)
section
variable {prog : Program} {w : World} {A : Around} {E : Value → Shared → Prop} {R : Result → Shared → Prop} {s : Shared} {K : Frag} {mg : Str → Option Value} {C fI : Addr}
theorem low_init (T : InvalidNumberTxt K mg C fI) {x t0 : Addr} {v : Value} (X : K.In s.heap) (hlim : s.heap.NoLimit) (hx : s.heap.get? x = some (excO C t0)) (hnx : K.lookup x = none) (hroom : A.depth < recursionLimit)
    (hq : ∀ h' tk dx, InitEnd s.heap h' x C dx t0 v → R (.ok (.ret .none)) { s with heap := h', toks := tk }) :
    codeAny (model prog w) A (.call (.ref fI) ⟨[.ref x, v], []⟩) R s := by
  obtain ⟨oc, od, doc, pm, an, cdv, ct, osl, p1, p2, q1, q2, q3, q4, ho, hcd⟩ := T.fn
  obtain ⟨nm, q, N, bs, sn, sub, ab, col, dd, k0, k1, k2, k3, k5, hC⟩ := T.cls
  have hcl : clsIn K C = some { name := nm, bases := bs, mro := .ref C :: [.type "IndexError", .type "LookupError", .type "Exception", .type "BaseException", .type "object"], ns := N, qualname := q, hasDict := true, slotNames := sn, subclasses := sub, abstract := ab, collection := col, hasDel := false } := by unfold clsIn; rw [hC] <;> rfl
  refine Att.call_fn (binds := [("self", .ref x), ("value", v)]) X hlim ho hcd hroom (BindsTo.of_eq (by first | rfl | with_unfolding_all rfl)) (by first | rfl | decide | with_unfolding_all rfl) (fun s₁ IC => ?_) rfl rfl rfl
  obtain ⟨h₁, tk₁, rfl⟩ := IC.toInCall.same
  have k : ∀ b o, s.heap.get? b = some o → h₁.get? b = some o := IC.toInCall.keep
  have hn := IC.toInCall.ns
  have hxL : s.heap.objs.size ≠ x := Nat.ne_of_gt (Heap.lt_size hx)
  have X₁ : K.In h₁ := X.keeps k
  have hx₁ := k _ _ hx
  -- self.by = by
  show wpAny _ _ (execs _ _) _ _ _
  refine wpAny_execs_cons (plainObj_wpAny_Assign_Attribute ?_)
  refine ldC (v := v) hn (by first | rfl | with_unfolding_all rfl | kernel_rfl) (ldC (v := .ref x) hn (by first | rfl | with_unfolding_all rfl | kernel_rfl) ?_)
  refine set_plain X₁ (ox := excO C t0) (od := none) ⟨hx₁, rfl, rfl, trivial⟩ T.sa ?_
  refine GdX.osaG F.store_IndexError X₁ hx₁ hcl rfl rfl T.noN (fun h₃ tk₃ dx k₃ dn dne hx₃ hn₃ => ?_)
  show wpAny _ _ (execs _ _) _ _ _
  have z : s.heap.objs.size < h₁.objs.size := hn.lt
  exact wpAny_execs_nil (hq h₃ tk₃ dx ⟨fun b o hb e => k₃ b o hb (k b o e), hx₃, Nat.le_of_lt (Nat.lt_of_lt_of_le z dn), dne, hn₃⟩)
theorem low_made (T : InvalidNumberTxt K mg C fI) {v : Value} (X : K.In s.heap) (hlim : s.heap.NoLimit) (hroom : A.depth + 1 < recursionLimit)
    (hq : ∀ h' tk e d, OwnMade s.heap h' e C d v → R (.ok (.ret (.ref e))) { s with heap := h', toks := tk }) :
    codeAny (model prog w) A (.call (.ref C) ⟨[v], []⟩) R s := by
  obtain ⟨nm, q, N, bs, sn, sub, ab, col, dd, k0, k1, k2, k3, k5, hC⟩ := T.cls
  obtain ⟨hp, g, dr, tk, os⟩ := s
  have k : ∀ b o, hp.get? b = some o → ((hp.push (kdv_tup [v])).push (excO C hp.objs.size)).get? b = some o := fun b o e => Heap.get?_push_of_some _ (Heap.get?_push_of_some _ e)
  have hget : ((hp.push (kdv_tup [v])).push (excO C hp.objs.size)).get? (hp.objs.size + 1) = some (excO C hp.objs.size) := by heap_get
  have hnx : K.lookup (hp.objs.size + 1) = none := by
    cases e : K.lookup (hp.objs.size + 1) with
    | none => rfl
    | some o =>
      have z : hp.get? (hp.objs.size + 1) = some o := X _ _ e
      exact absurd (Nat.lt_of_succ_lt (Heap.lt_size z)) (Nat.lt_irrefl _)
  refine call_own F.excBase_IndexError (fun _ => rfl) (X _ _ hC) (looks_findIn X T.iC) (fun self => bind_fn X self T.tC) (one_size v) ?_
  refine low_init (s := ⟨(hp.push (kdv_tup [v])).push (excO C hp.objs.size), g, dr, tk, os⟩) T (X.keeps k) (hlim.keeps k) hget hnx ?_ fun h' tk' dx ⟨k', hx, dn, dne, hns⟩ => ?_
  · show A.depth + 1 < recursionLimit
    exact hroom
  · have old : ∀ b o, hp.get? b = some o → h'.get? b = some o := fun b o e => k' b o (Nat.ne_of_lt (Nat.lt_succ_of_lt (Heap.lt_size e))) (k b o e)
    have z : hp.objs.size + 1 + 1 ≤ dx := by
      first
        | (simpa only [Heap.size_push] using dn)
        | exact dn
        | (have q := dn; rw [Heap.size_push, Heap.size_push] at q; exact q)
    exact ⟨rfl, hq h' tk' (hp.objs.size + 1) dx ⟨old, Nat.le_succ _, ⟨_, _, hx, rfl, rfl, rfl, rfl⟩, Nat.le_trans (Nat.le_trans (Nat.le_succ _) (Nat.le_succ _)) z, dne, hns⟩⟩
end
end XInvalidNumber
end PySem
namespace L2
open PySem PySem.Spec PyProof.Rows
theorem relO_InvalidNumber {v : V} {v' : Value} (r : RelV v v') (f : Str) : RelO (List.lookup f [(("value" : Str), v)]) (if f = "value" then some v' else none) := by
  by_cases hw : f = "value"
  · subst hw
    rw [if_pos rfl]
    have q : List.lookup ("value" : Str) [(("value" : Str), v)] = some v := by simp [List.lookup]
    rw [q]
    exact r
  · rw [if_neg hw]
    have qw : (f == ("value" : Str)) = false := by simpa using hw
    have q2 : List.lookup f [(("value" : Str), v)] = none := by simp [List.lookup, qw]
    rw [q2]
    trivial
section
variable {X : Cx} {C fI : Addr}
/-- Low(e) -/
def tMkInvalidNumber (C : Addr) (ta : TA) : St → Hp → XK → Prop := fun σ H Q => ta σ H fun vs H1 => ∃ v, vs = [v] ∧ ∀ d, H1 d = none → Q (.ref C) (some d) (upd H1 d (.xd [(("value" : Str), v)]))
theorem pmk_InvalidNumber {a : Expr} {ta : TA} {p pos : Pos} {k : Nat} (T : PySem.XInvalidNumber.InvalidNumberTxt X.K X.mg C fI) (hr : Room k X.A) (ha : PA X [a] ta) (hg : Gl X "InvalidNumber" := by rfl)
    (he : starEach (a :: []) X.env = (false, eval a X.env) :: starEach [] X.env := by rfl) (hpl : (backTo pos (starEach [] X.env)).any (·.1) = false := by rfl) :
    PMk X (.Call (.Name "InvalidNumber" p) [a] [] pos) (tMkInvalidNumber C ta) := by
  intro pins s σ H Q I h
  refine wpAny_Call_Name_kw (ld_glob I hg T.gC ?_)
  refine PySem.W.callWith_K (h₀ := X.base) I.ok.mod.kin T.kC (thn (ha.run pos pins s σ H _ I h) fun us s1 hh => ?_) he hpl
  obtain ⟨vs, H1, I1, r1, v, ev, q1⟩ := hh
  subst ev
  refine ⟨I1.kIn, ?_⟩
  cases r1 with
  | cons rv rn =>
    rename_i v' us'
    cases rn
    show wpAny _ _ (call (.ref C) [v']) _ _ _
    have hlim := I1.nolimit
    obtain ⟨hp, g, dr, tk, os⟩ := s1
    refine wpAny_call (PySem.XInvalidNumber.low_made T I1.kIn hlim (by have := hr.dp; omega) fun h' tk' e d M => ?_)
    show MkP X pins σ Q (.ref e) ⟨h', g, dr, tk', os⟩
    obtain ⟨oe, fv, hoe, hc, hd, hdat, h1⟩ := M.obj
    have hns := M.ns
    obtain ⟨G', g1, g2⟩ := restrict h' fun b => decide (b ≠ e)
    have gk : ∀ b, b ≠ e → G'.get? b = h'.get? b := fun b hb => g1 b (decide_eq_true hb)
    have ge : G'.get? e = none := g2 e (by simp)
    have old : ∀ b o, hp.get? b = some o → G'.get? b = some o := fun b o q => (gk b (Nat.ne_of_lt (Nat.lt_of_lt_of_le (Heap.lt_size q) M.new))).trans (M.keep b o q)
    have ob : ObjOk X.prog X.w (upd H1 d (.xd [(("value" : Str), v)])) G' d (.xd [(("value" : Str), v)]) :=
      ⟨_, hns.at (fun o q => (gk d M.dne).trans q), fun f => relO_InvalidNumber rv f⟩
    have J : Inv X pins σ (upd H1 d (.xd [(("value" : Str), v)])) ⟨G', g, dr, tk', os⟩ := I1.laid (t' := tk') old M.dbig ob
    refine ⟨e, oe, fv, ⟨G', g, dr, tk', os⟩, _, .ref C, some d, rfl, J, fun b o q => ?_, ge, hoe, ⟨hc, hd⟩, hdat, h1, ?_, rfl, I1.bare, raises_own T.exC T.tyC, q1 d (I1.hok.fresh M.dbig)⟩
    · by_cases hb : b = e
      · have q' : G'.get? b = some o := q
        rw [hb, ge] at q'; cases q'
      · exact (gk b hb).symm.trans q
    · rw [upd_ne (Ne.symm M.dne)]
      exact I1.hok.fresh M.new
/-- raise Low(e) -/
def tRaiseInvalidNumber (C : Addr) (W : WX) (ta : TA) : TS := fun _ σ H => tMkInvalidNumber C ta σ H fun cls d H' => W cls d σ H'
theorem ps_raiseInvalidNumber {a : Expr} {ta : TA} {W : WX} {p pos pos2 : Pos} {k : Nat} (hc : X.calm = true) (T : PySem.XInvalidNumber.InvalidNumberTxt X.K X.mg C fI) (hr : Room k X.A) (tk : Takes X W) (ha : PA X [a] ta) (hg : Gl X "InvalidNumber" := by rfl)
    (he : starEach (a :: []) X.env = (false, eval a X.env) :: starEach [] X.env := by rfl) (hpl : (backTo pos (starEach [] X.env)).any (·.1) = false := by rfl) :
    PS X (.Raise (some (.Call (.Name "InvalidNumber" p) [a] [] pos)) none pos2) (tRaiseInvalidNumber C W ta) := ps_raise hc tk (pmk_InvalidNumber T hr ha hg he hpl)
/-- low.by, low the exception that the suite holds (at a; its class cls, its dict d) -/
def tByInvalidNumber (C : Addr) (a : Addr) (cls : Value) (d : Option Addr) (te : TE) : TE := fun σ H Q => te σ H fun x H1 => x = .ref a ∧ cls = .ref C ∧ ∃ (dd : Addr) (v : V), d = some dd ∧ H1 dd = some (.xd [(("value" : Str), v)]) ∧ Q v H1
theorem pe_byInvalidNumber {a : Addr} {oe : Obj} {cls : Value} {d : Option Addr} {pn : List (Addr × Obj)} {e : Expr} {te : TE} {pos : Pos} (T : PySem.XInvalidNumber.InvalidNumberTxt X.K X.mg C fI) (hz : Zc cls d oe) (hf : ∃ vs, oe.data = .fields vs) (he : PE (X.suite a ((a, oe) :: pn)) e te)
    (hb : attributeBase e "value" X.env (eval e X.env) = eval e X.env := by rfl) :
    PE (X.suite a ((a, oe) :: pn)) (.Attribute e "value" pos) (tByInvalidNumber C a cls d te) := by
  refine ⟨fun pins s σ H Q I h => ?_⟩
  refine attr_of hb (thn (he.run pins s σ H _ I h) fun u s1 hh => ?_)
  obtain ⟨x, H1, I1, rx, ex, ec, dd, v, ed, ea, q⟩ := hh
  subst ex
  obtain rfl : u = Value.ref a := rx
  subst ec
  subst ed
  obtain ⟨ha, _⟩ := I1.pin (a, oe) (List.mem_append_left _ List.mem_cons_self)
  obtain ⟨vs, hd⟩ := hf
  have hx : ObjOk X.prog X.w H1 s1.heap dd (.xd [(("value" : Str), v)]) := I1.hok dd _ ea
  obtain ⟨mA, hns, hr⟩ := hx
  obtain ⟨od, ho, hl⟩ := lookIn_ns hns
  have l : List.lookup ("value" : Str) [(("value" : Str), v)] = some v := by simp [List.lookup]
  obtain ⟨u, hu, ru⟩ := RelO.some_of (v := v) (o := mA "value") (by rw [← l]; exact hr "value")
  have J : PySem.W.InstAt s1.heap a oe C (some od) := ⟨ha, hz.1, by unfold PySem.W.notCls; rw [hd] <;> rfl, by rw [hz.2]; exact ho⟩
  exact HandSPX.exc_get I1.kIn J T.ga T.gg T.exC (PySem.W.findObj_own T.hdC T.noN rfl (by rw [hl, hu])) (handed_of ru) ⟨v, H1, I1.tok _, ru, q⟩
end
end L2

set_option Elab.async false
set_option linter.all false
set_option maxRecDepth 100000
set_option maxHeartbeats 4000000
/-! Operators of own classes, and repr of data, as rules of the hand layer. -/
namespace Gd
open PySem PySem.Spec PyProof.Rows L2

/-! ### repr of data -/
def rRepr (K : PySem.W.Frag) : List V → Hp → VK → Prop := fun xs H Q =>
  ∃ a d, xs = [.ref a] ∧ Dp K H (.ref a) d ∧ d.showable = true ∧ d.hasDict = false ∧ d.depth ≤ 60 ∧ d.shown.length ≤ sizeLine ∧ Q (.str d.shown) H
theorem call_repr {X : Cx} (hg : NoG X.A) (hu : X.A.units + 64 < cLine) : CallR X (.builtin "repr") (rRepr X.K) := by
  intro pins s σ H xs us Q I r h
  obtain ⟨a, d, rfl, hd, h1, h2, h3, h4, q⟩ := h
  obtain ⟨u, rfl, hu1⟩ := vals1 r
  cases hu1
  obtain ⟨as, rd⟩ := Dp.reads I d (.ref a) (.ref a) hd rfl
  refine repr_of_reads' rd h1 (PyData.noDict_hsm h2) hg (by omega) (fun _ _ e => e) ?_ h4
  intro h' u tk hk
  exact ⟨.str d.shown, H, I.kept hk, ⟨u, rfl⟩, q⟩

section
variable {X : Cx} {CX : CXT} {k : Nat} {f C : Addr} {fd : FuncData} {ps : List Str} {sp : Sp} {dvs : List V} {ds : List Value}
  {pos : Pos} {a b : Expr} {ta tb : TE}

/-- the callee runs, from the body or from a builtin that the body calls -/
theorem runAt {E : XK} {A : Around} (hA : A = X.A ∨ A = X.A.in1) {pins : List (Addr × Obj)} {σ : L2.St} {H : Hp} {s : Shared} {Q : VK} {us : List Value} {vs : List V}
    (F : FnOk X.prog X.w X.K X.mg X.base CX k f fd ps sp) (hr : Room (k + 1) X.A) (hb : Binds X.K fd ps ds) (hd : Vals dvs ds)
    (hx : PassesAt CX X σ E) (I : Inv X pins σ H s) (r : Vals vs us) (h : sp (vs ++ dvs) H Q E) :
    wpAny (model X.prog X.w) A (call (.ref f) us) (EP X pins σ Q) X.xe s := by
  have r2 := Vals.append r hd
  have hl : (us ++ ds).length = ps.length := by
    rw [← r2.length]
    exact F.len _ H Q E h
  have room : Room k A := by
    rcases hA with rfl | rfl
    · exact hr.mono (Nat.le_succ _)
    · exact hr.in1
  have env : Env0 X.prog X.w X.K X.mg X.base A X.stack s H := by
    rcases hA with rfl | rfl
    · exact I.env0
    · exact I.env0.in1
  refine wpAny_call (codeAny_mono (F.run A X.stack s H ⟨us, []⟩ (us ++ ds) _ Q E room env (hb s us I.kIn hl) r2 h) ?_)
  intro r s' hq
  match r, hq with
  | .error e, hq => exact hx pins H s e s' I hq
  | .ok (.ret u), hq => exact I.after hq
  | .ok .next, hq => exact False.elim hq
  | .ok .brk, hq => exact False.elim hq
  | .ok .cont, hq => exact False.elim hq
theorem quiet0 {σ : L2.St} {E : XK} : PassesAt CX0 X σ E := fun _ _ _ _ _ _ h => h.elim

/-- the instance at a, as the library sees it -/
theorem seen {pins : List (Addr × Obj)} {σ : L2.St} {H : Hp} {s : Shared} {p dx : Addr} {fs : List (Str × V)} (I : Inv X pins σ H s)
    (e : H p = some (.ins C dx fs)) : ∃ od, PySem.W.InstAt s.heap p (PySem.W.instObj C dx) C (some od) := by
  obtain ⟨mA, J, _⟩ := ins_get I.hok e
  obtain ⟨od, J, _⟩ := J.look
  exact ⟨od, J⟩

/-! ### comparisons -/
/-- x OP y by the own method of x's class, whose answer is a truth value -/
def rCmpO (K : PySem.W.Frag) (C : Addr) (sp : Sp) (E : XK) : R2 := fun x y H Q => ∃ p dx fs t, x = .ref p ∧ H p = some (.ins C dx fs) ∧
  TyX K H y t ∧ PySem.W.notFirst K C t = true ∧ sp [x, y] H (fun v H' => (∃ c, v = .bl c) ∧ Q v H') E
theorem cmpO {op : CmpOp} {E : XK} (hm : Meth X.K C (cmpInfo op).2.1 f) (F : FnOk X.prog X.w X.K X.mg X.base CX k f fd ps sp) (hr : Room (k + 1) X.A)
    (hb : Binds X.K fd ps []) (hx : ∀ σ, PassesAt CX X σ E)
    {pins : List (Addr × Obj)} {s : Shared} {σ : L2.St} {H : Hp} {x y : V} {v u : Value} {Q : VK} (I : Inv X pins σ H s) (rx : RelV x v) (ry : RelV y u)
    (h : rCmpO X.K C sp E x y H Q) : wpAny (model X.prog X.w) X.A (richCompare op v u) (EP X pins σ Q) X.xe s := by
  obtain ⟨p, dx, fs, t, rfl, ep, ty, hn, hsp⟩ := h
  cases rx
  obtain ⟨od, J⟩ := seen I ep
  obtain ⟨P, Z, hP, _⟩ := kit_of I ry ty
  obtain ⟨m, hF⟩ := I.fr
  refine PySem.W.cmp_K (op := op) (tb := t) hr.units0 hF I.ok.mod.kin J (Z.ty _ _ I.kIn hP) hn hm.at_ hm.fn ?_
  refine wpAny_mono (runAt (.inl rfl) F hr hb .nil (hx σ) I (.cons (show RelV (V.ref p) (Value.ref p) from rfl) (.cons ry .nil)) hsp) ?_ (fun _ _ z => z)
  rintro w s' ⟨z, H', I', rz, ⟨c, rfl⟩, q⟩
  cases rz
  exact ⟨.bl c, H', I', rfl, q⟩
theorem op_eqO {E : XK} (hm : Meth X.K C "__eq__" f) (F : FnOk X.prog X.w X.K X.mg X.base CX k f fd ps sp) (hr : Room (k + 1) X.A)
    (hb : Binds X.K fd ps []) (hx : ∀ σ, PassesAt CX X σ E) : OpR X (compareOp .Eq) (rCmpO X.K C sp E) := by
  intro pins s σ H x y v u Q I rx ry h
  exact cmpO (op := .Eq) hm F hr hb hx I rx ry h
theorem op_ltO {E : XK} (hm : Meth X.K C "__lt__" f) (F : FnOk X.prog X.w X.K X.mg X.base CX k f fd ps sp) (hr : Room (k + 1) X.A)
    (hb : Binds X.K fd ps []) (hx : ∀ σ, PassesAt CX X σ E) : OpR X (compareOp .Lt) (rCmpO X.K C sp E) := by
  intro pins s σ H x y v u Q I rx ry h
  exact cmpO (op := .Lt) hm F hr hb hx I rx ry h

/-! ### len, truth, items -/
def rLenO (C : Addr) (sp : Sp) (E : XK) : List V → Hp → VK → Prop := fun xs H Q => ∃ p dx fs, xs = [.ref p] ∧ H p = some (.ins C dx fs) ∧
  sp [.ref p] H (fun v H' => ∃ n : Int, v = .int n ∧ 0 ≤ n ∧ n < 2 ^ 63 ∧ Q (.int n) H') E
theorem call_lenO {E : XK} (hm : Meth X.K C "__len__" f) (F : FnOk X.prog X.w X.K X.mg X.base CX k f fd ps sp) (hr : Room (k + 1) X.A)
    (hb : Binds X.K fd ps []) (hx : ∀ σ, PassesAt CX X σ E) : CallR X (.builtin "len") (rLenO C sp E) := by
  intro pins s σ H xs us Q I r h
  obtain ⟨p, dx, fs, rfl, ep, hsp⟩ := h
  obtain ⟨u, rfl, hu1⟩ := vals1 r
  cases hu1
  obtain ⟨od, J⟩ := seen I ep
  obtain ⟨m, hF⟩ := I.fr
  refine PySem.W.len_K hF I.ok.mod.kin J hm.at_ hm.fn ?_
  refine wpAny_mono (runAt (.inr rfl) F hr hb .nil (hx σ) I (.cons (show RelV (V.ref p) (Value.ref p) from rfl) .nil) hsp) ?_ (fun _ _ z => z)
  rintro w s' ⟨z, H', I', rz, n, rfl, h0, h1, q⟩
  obtain ⟨t, rfl⟩ := rz
  exact ⟨⟨h0, h1⟩, .int n, H', I'.tok _, ⟨_, rfl⟩, q⟩
def rTruO (C : Addr) (sp : Sp) (E : XK) : V → Hp → (Bool → Hp → Prop) → Prop := fun x H Q => ∃ p dx fs, x = .ref p ∧ H p = some (.ins C dx fs) ∧
  sp [.ref p] H (fun v H' => ∃ c, v = .bl c ∧ Q c H') E
theorem tru_O {E : XK} (hm : Meth X.K C "__bool__" f) (F : FnOk X.prog X.w X.K X.mg X.base CX k f fd ps sp) (hr : Room (k + 1) X.A)
    (hb : Binds X.K fd ps []) (hx : ∀ σ, PassesAt CX X σ E) : TruR X (rTruO C sp E) := by
  intro pins s σ H x v Q I rx h
  obtain ⟨p, dx, fs, rfl, ep, hsp⟩ := h
  cases rx
  obtain ⟨od, J⟩ := seen I ep
  obtain ⟨m, hF⟩ := I.fr
  refine PySem.W.truthy_K hF I.ok.mod.kin J hm.at_ hm.fn ?_
  refine wpAny_mono (runAt (.inl rfl) F hr hb .nil (hx σ) I (.cons (show RelV (V.ref p) (Value.ref p) from rfl) .nil) hsp) ?_ (fun _ _ z => z)
  rintro w s' ⟨z, H', I', rz, c, rfl, q⟩
  cases rz
  exact ⟨H', I', q⟩
/-- o[i] by the own method, which may raise -/
def tIxO (C : Addr) (sp : Sp) (E : L2.St → XK) (ta tb : TE) : TE := fun σ H Q => ta σ H fun x H1 => tb σ H1 fun y H2 =>
  ∃ p dx fs, x = .ref p ∧ H2 p = some (.ins C dx fs) ∧ sp [x, y] H2 Q (E σ)
theorem pe_ixO {E : L2.St → XK} (hm : Meth X.K C "__getitem__" f) (hfn : PySem.W.fnIn X.K f = true) (F : FnOk X.prog X.w X.K X.mg X.base CX k f fd ps sp)
    (hr : Room (k + 1) X.A) (hb : Binds X.K fd ps []) (hx : ∀ σ, PassesAt CX X σ (E σ)) (ha : PE X a ta) (hb' : PE X b tb)
    (hs : ∀ v u : Value, subscripted b true v u = runValue (.builtin "lifetime.subscript" ⟨[v, u], []⟩) := by intro _ _; with_unfolding_all rfl) :
    PE X (.Subscript a b pos) (tIxO C sp E ta tb) := by
  refine ⟨fun pins s σ H Q I h => ?_⟩
  refine Subscript_ (binT ha hb' I h fun v u s2 x y H2 I2 rx ry q => ?_)
  obtain ⟨p, dx, fs, rfl, ep, hsp⟩ := q
  cases rx
  obtain ⟨od, J⟩ := seen I2 ep
  obtain ⟨m, hF⟩ := I2.fr
  refine PySem.W.sub_K hF I2.ok.mod.kin J hm.at_ hfn hm.fn ?_ (hs _ _)
  exact runAt (.inr rfl) F hr hb .nil (hx σ) I2 (.cons (show RelV (V.ref p) (Value.ref p) from rfl) (.cons ry .nil)) hsp
end
end Gd

set_option Elab.async false
set_option linter.all false
set_option maxRecDepth 100000
set_option maxHeartbeats 4000000
/-! iter(a tuple), and list(o) of an own class that hands on such an iterator and has a length. -/
namespace PySem
section
variable {prog : Program} {w : World} {A : Around} {E : Value → Shared → Prop} {s : Shared}
/-- the end of a tuple's iterator, which stays an object -/
theorem tuple_next_end {it t : Addr} {i : Nat} {items : Array Value} {Q : Option Value → Shared → Prop} (hh : A.handled = none)
    (hit : s.heap.IsTupleIter it t i) (ht : s.heap.IsTuple t items) (hx : items[i]? = none)
    (hQ : ∀ h', (∀ b o, b ≠ it → s.heap.get? b = some o → h'.get? b = some o) → (∃ o, h'.get? it = some o) → Q none { s with heap := h' }) :
    wpAny (model prog w) A (pyNext (.ref it)) Q E s := by
  obtain ⟨o, ho, hc, hd⟩ := id hit
  obtain ⟨ol, hol, _, nl, hdl⟩ := ht
  have self := Heap.get?_update_self (Obj.mapFields (·.setIfInBounds 0 Value.none)) ho (Obj.isFreed_of_fields (Obj.data_mapFields hd _))
  unfold pyNext
  refine wpAny_bind (wpAny_attempt (wpAny_callSpecial?_slot (name := Str.ofString "__next__") hit.typeIs F.slot_tuple_iterator_next (wpAny_call_entry
    F.slot_tuple_iterator_next hit.typeIs F.entry_tuple_iterator_next ?_ (F.args_tuple_iterator_next_1 _))))
  show wpAny _ _ (field (.ref it) 0 >>= _) _ _ s
  refine wpAny_bind (wpAny_field ho hd (x := .ref t) rfl ?_)
  have nn : ¬ ((Value.ref t == Value.none) = true) := Bool.false_ne_true
  show wpAny _ _ (if (Value.ref t == Value.none) = true then _ else _) _ _ s
  rw [if_neg nn]
  show wpAny _ _ (field (.ref it) 1 >>= _) _ _ s
  refine wpAny_bind (wpAny_field ho hd (x := .int i 0) rfl ?_)
  show wpAny _ _ (seqItems? (.ref t) >>= _) _ _ s
  refine wpAny_bind (wpAny_seqItems hol hdl ?_)
  simp only [Int.toNat_natCast, hx]
  refine wpAny_bind (wpAny_rule (wpAny_bind (wpAny_setField ho hd (by simp) ?_)))
  show wpAny _ _ (newExc (.type "StopIteration") [] >>= _) _ _ _
  refine wpAny_bind ?_
  simp only [newExc, newTuple]
  refine wpAny_bind (wpAny_newObj_type ?_ (by size_fits))
  refine wpAny_bind (m := firstArgMember _ _) (wpAny_of_eq (a := Value.none) (by first | rfl | (simp only [firstArgMember]; rfl)) ?_)
  refine wpAny_newObj_type ?_ (by size_fits)
  simp only [raiseNew]
  refine wpAny_bind (wpAny_handled ?_)
  first | rw [show A.in1.handled = none from hh] | rw [hh]
  refine wpAny_bind (wpAny_pure (wpAny_throw ?_))
  refine wpAny_bind (wpAny_isInstance (T := "StopIteration") (b := true) ⟨_, Heap.get?_push_size _ rfl, rfl⟩ isSubtype_stop ?_)
  refine wpAny_pure (hQ _ (fun b o hb e => ?_) ⟨_, Heap.get?_push_of_some _ (Heap.get?_push_of_some _ self)⟩)
  exact Heap.get?_push_of_some _ (Heap.get?_push_of_some _ ((Heap.get?_update_other _ _ (Ne.symm hb)).trans e))
end
end PySem

namespace Gd
open PySem PySem.Spec PyProof.Rows L2
/-- at it: an iterator over the tuple at t, behind i items; | whatever it is -/
def TitO (t it : Addr) (i : Nat) : HO := .ext fun h => h.IsTupleIter it t i
def OddO (it : Addr) : HO := .ext fun h => ∃ o, h.get? it = some o
section
variable {P : Program} {w : World} {H : Hp} {h : Heap} {t it : Addr} {i : Nat}
theorem tit_ok (e : h.IsTupleIter it t i) : ObjOk P w H h it (TitO t it i) := by
  obtain ⟨o, ho, r⟩ := e
  exact ⟨⟨o, ho, r⟩, ⟨o, ho⟩, fun h1 h2 ⟨o', q, r'⟩ k => ⟨o', k _ q, r'⟩⟩
theorem odd_ok (e : ∃ o, h.get? it = some o) : ObjOk P w H h it (OddO it) := ⟨e, e, fun h1 h2 ⟨o', q⟩ k => ⟨o', k _ q⟩⟩
end
section
variable {X : Cx} {pins : List (Addr × Obj)} {σ : L2.St} {H : Hp} {s : Shared} {t it q a : Addr} {i : Nat} {ys : List V}
/-- iter(t), t a tuple -/
def rIterT (K : PySem.W.Frag) : List V → Hp → VK → Prop := fun xs H Q => ∃ (t : Addr) (ys : List V), xs = [.ref t] ∧ SqT K H t ys ∧ ∀ it, H it = none → Q (.ref it) (upd H it (TitO t it 0))
theorem isTuple_of {h : Heap} {a : Addr} {items : Array Value} (x : IsTup h a items) : h.IsTuple a items := by
  obtain ⟨o, h1, h2, h3⟩ := x
  exact ⟨o, h1, h2, by first | exact h3 | exact h3.2⟩
theorem call_iterT : CallR X (.builtin "iter") (rIterT X.K) := by
  intro pins s σ H xs us Q I r h
  obtain ⟨t, ys, rfl, hq, q⟩ := h
  obtain rfl := Vals.ref1 r
  obtain ⟨its, rv, pl, hz⟩ := I.tuple hq
  refine Calls.call_function_entry (by decide +kernel) (by decide +kernel) PySem.W.kdk_entry_iter (PySem.W.kdk_args_iter _) ?_
  unfold Builtin.«iter»
  refine wpAny_bind (m := someArgs "iter" 1 2 _) (wpAny_of_eq (a := [Value.ref t]) (by first | rfl | kernel_rfl!) ?_)
  show wpAny _ _ (pyIter (.ref t) >>= _) _ _ _
  refine wpAny_bind (wpAny_pyIter_tuple (isTuple_of pl) ?_)
  refine wpAny_pure ⟨_, rfl, ?_⟩
  have nw : H s.heap.objs.size = none := I.hok.fresh (Nat.le_refl _)
  refine ⟨.ref s.heap.objs.size, _, I.laid (t' := s.toks) (fun b u e => Heap.get?_push_of_some _ e) (Nat.le_refl _) (tit_ok ⟨_, Heap.get?_push_size _ rfl, rfl, rfl⟩), rfl, q _ nw⟩

theorem take_one {α : Type} : ∀ {l : List α} {i : Nat} (h : i < l.length), l.take (i + 1) = l.take i ++ [l[i]]
  | a :: l, 0, _ => rfl
  | a :: l, i + 1, h => by
    have h' : i < l.length := Nat.lt_of_succ_lt_succ h
    have ih := take_one (l := l) (i := i) h'
    show a :: l.take (i + 1) = (a :: l.take i) ++ [l[i]'h']
    rw [ih]
    rfl
/-- what is known stays known, but for the iterator and the list -/
def But (q it : Addr) (H H' : Hp) : Prop := ∀ b o, b ≠ q → b ≠ it → H b = some o → H' b = some o
theorem drain {A1 : Around} {Rs : Result → Shared → Prop} (hh : A1.in1.handled = none) (hqi : q ≠ it) (hqt : q ≠ t) (hti : t ≠ it) (H0 : Hp)
    (hys : ys.length < sizeLine) (ht0 : SqT X.K H0 t ys)
    (hdone : ∀ H' s', Inv X pins σ H' s' → But q it H0 H' → H' q = some (.lst ys) → H' it = some (OddO it) → Rs (.ok (.ret .none)) s') :
    ∀ (m i : Nat) (H : Hp) (s : Shared), m + i = ys.length → Inv X pins σ H s → But q it H0 H → H it = some (TitO t it i) → H q = some (.lst (ys.take i)) →
      codeAny (model X.prog X.w) A1 (.builtin "list.extend.loop" ⟨[.ref q, .ref it, .none], []⟩) Rs s := by
  intro m
  induction m with
  | zero =>
    intro i H s hi I hB hit hq
    have ht : SqT X.K H t ys := by
      rcases ht0 with (z | ⟨o, z⟩) | z
      · exact .inl (.inl (hB _ _ hqt.symm hti z))
      · exact .inl (.inr ⟨o, hB _ _ hqt.symm hti z⟩)
      · exact .inr z
    obtain ⟨its, rv, pl, hz⟩ := I.tuple ht
    refine codeAny_builtin PySem.F.entry_extend_loop ?_
    rw [Around.under_plainId PySem.F.plain_extend_loop _]
    show wpAny _ A1.in1 (pyNext (.ref it) >>= _) _ _ s
    have hx : its.toArray[i]? = none := by
      have e := rv.length
      rw [List.getElem?_toArray, List.getElem?_eq_none_iff]
      omega
    have T : s.heap.IsTupleIter it t i := (I.hok it _ hit).1
    refine wpAny_bind (PySem.tuple_next_end (items := its.toArray) hh T (isTuple_of pl) hx ?_)
    intro h' keep ex
    have J : Inv X pins σ (upd H it (OddO it)) { s with heap := h' } := by
      refine I.write (t' := s.toks) (x := it) (e := it) (by rw [hit]; exact True.intro) (.inl rfl) (fun b u hb hu => keep b u hb hu) ex (odd_ok ex)
    refine wpAny_pure (hdone _ _ J ?_ ?_ upd_same)
    · intro b o h1 h2 e
      rw [upd_ne h2]
      exact hB b o h1 h2 e
    · rw [upd_ne hqi, hq, List.take_of_length_le (by omega)]
  | succ m ih =>
    intro i H s hi I hB hit hq
    have ht : SqT X.K H t ys := by
      rcases ht0 with (z | ⟨o, z⟩) | z
      · exact .inl (.inl (hB _ _ hqt.symm hti z))
      · exact .inl (.inr ⟨o, hB _ _ hqt.symm hti z⟩)
      · exact .inr z
    obtain ⟨its, rv, pl, hz⟩ := I.tuple ht
    have hlt : i < ys.length := by omega
    obtain ⟨u, hu, ru⟩ := rv.get (List.getElem?_eq_getElem hlt)
    refine codeAny_builtin PySem.F.entry_extend_loop ?_
    rw [Around.under_plainId PySem.F.plain_extend_loop _]
    show wpAny _ A1.in1 (pyNext (.ref it) >>= _) _ _ s
    have T : s.heap.IsTupleIter it t i := (I.hok it _ hit).1
    refine wpAny_bind (wpAny_pyNext_tuple_item (items := its.toArray) T (isTuple_of pl) (by rw [List.getElem?_toArray]; exact hu) ?_)
    intro h' T' same
    have ex : ∃ o, h'.get? it = some o := by
      obtain ⟨o, ho, _⟩ := T'
      exact ⟨o, ho⟩
    have J : Inv X pins σ (upd H it (TitO t it (i + 1))) { s with heap := h' } :=
      I.write (t' := s.toks) (x := it) (e := it) (by rw [hit]; exact True.intro) (.inl rfl) (fun b u hb hu => (same.2 b hb).trans hu) ex (tit_ok T')
    have hq' : upd H it (TitO t it (i + 1)) q = some (.lst (ys.take i)) := by rw [upd_ne hqi]; exact hq
    obtain ⟨z, its2, n2, r2, hl2, e2⟩ := J.lstM hq'
    have l2 : its2.length ≤ i := by rw [← hl2, List.length_take]; omega
    show wpAny _ A1.in1 (updateSeq q (·.push u) >>= _) _ _ _
    refine wpAny_bind (wpAny_updateSeq e2 rfl (wpAny_pure ⟨plainId_quiet PySem.F.plain_extend_loop _, ?_⟩) (by rw [List.size_toArray]; omega) (by show (its2.toArray.push u).size ≤ sizeLine + 1; rw [Array.size_push, List.size_toArray]; omega))
    have tk : ys.take (i + 1) = ys.take i ++ [ys[i]] := take_one hlt
    have J2 := J.lset (f := (·.push u)) (its' := its2 ++ [u]) (ys := ys.take i ++ [ys[i]]) (t' := s.toks) hq' e2 (List.push_toArray its2 u) (r2.append (.cons ru .nil)) (by rw [List.length_append, List.length_singleton, List.length_take]; omega)
    refine ih (i + 1) _ _ (by omega) J2 ?_ ?_ (by rw [tk, upd_same])
    · intro b o h1 h2 e
      rw [upd_ne h1, upd_ne h2]
      exact hB b o h1 h2 e
    · rw [upd_ne hqi.symm, upd_same]

/-- the list's room is made -/
theorem touched {q : Addr} {A : Around} {R : Unit → Shared → Prop} {E : Value → Shared → Prop} (I : Inv X pins σ H s) (hq : H q = some (.lst []))
    (h : ∀ s', Inv X pins σ H s' → R () s') : wpAny (model X.prog X.w) A (Builtin.List.listTouch (.ref q)) R E s := by
  obtain ⟨z, its, k, r3, hl3, e3⟩ := I.lstM hq
  cases r3
  show wpAny _ _ (updateSeq q (·.push .none) >>= fun _ => updateSeq q (·.pop)) _ _ _
  refine wpAny_bind (wpAny_updateSeq e3 rfl ?_)
  have I2 := I.lset (f := (·.push Value.none)) (its' := [Value.none]) (ys := [.non]) (t' := s.toks) hq e3 (by simp) (.cons rfl .nil) (by rw [List.length_singleton, sizeLine_eq]; decide)
  obtain ⟨z4, its4, k4, r4, hl4, e4⟩ := I2.lstM upd_same
  obtain ⟨u4, rfl, ru4⟩ := r4.one
  refine wpAny_updateSeq e4 rfl ?_ (by show 1 ≤ sizeLine; rw [sizeLine_eq]; decide) (by show 0 ≤ sizeLine + 1; exact Nat.zero_le _)
  have I3 := I2.lset (f := (·.pop)) (its := [u4]) (its' := []) (ys := []) (t' := s.toks) upd_same e4 (by rfl) .nil (Nat.zero_le _)
  rw [upd_upd] at I3
  have hH : upd H q (.lst []) = H := by
    funext b
    by_cases hb : b = q
    · rw [hb, upd_same, hq]
    · rw [upd_ne hb]
  rw [hH] at I3
  exact h _ I3

/-- a class whose instances hand on a tuple's iterator, and have a length -/
structure ItT (K : PySem.W.Frag) (C fi fl : Addr) : Prop where
  it : Meth K C "__iter__" fi
  ln : Meth K C "__len__" fl
/-- what its __iter__ promises: an iterator of the tuple that R tells; what its __len__ promises -/
def spIt (K : PySem.W.Frag) (R : Addr → Addr → List V → Hp → Prop) : Sp := fun vs H Q _ => ∃ a t ys, vs = [.ref a] ∧ R a t ys H ∧ SqT K H t ys ∧ ∀ it, H it = none → Q (.ref it) (upd H it (TitO t it 0))
def spLn (R : Addr → Addr → List V → Hp → Prop) : Sp := fun vs H Q _ => ∃ a t ys, vs = [.ref a] ∧ R a t ys H ∧ Q (.int (ys.length : Int)) H
/-- list(o) -/
def rListO (K : PySem.W.Frag) (C : Addr) (R : Addr → Addr → List V → Hp → Prop) : List V → Hp → VK → Prop := fun xs H Q =>
  ∃ a dx fs t ys, xs = [.ref a] ∧ H a = some (.ins C dx fs) ∧ (∀ H', (∀ b o, H b = some o → H' b = some o) → R a t ys H') ∧ SqT K H t ys ∧ ys.length < sizeLine ∧
    ∀ q H', (∀ b o, H b = some o → H' b = some o) → H q = none → H' q = some (.lst ys) → Q (.ref q) H'
theorem call_listO {C fi fl : Addr} {k : Nat} {fdI fdL : FuncData} {psI psL : List Str} {R : Addr → Addr → List V → Hp → Prop} (hc : ItT X.K C fi fl)
    (FI : FnOk X.prog X.w X.K X.mg X.base CX0 k fi fdI psI (spIt X.K R)) (bI : Binds X.K fdI psI []) (FL : FnOk X.prog X.w X.K X.mg X.base CX0 k fl fdL psL (spLn R)) (bL : Binds X.K fdL psL [])
    (hr : Room (k + 5) X.A) : CallR X (.type "list") (rListO X.K C R) := by
  intro pins s σ H xs us Q I rv h
  obtain ⟨a, dx, fs, t, ys, rfl, ha, hR, ht, hlen, hq⟩ := h
  obtain ⟨u, rfl, ru⟩ := rv.one
  cases ru
  have rm2 : Room (k + 3) X.A.in1.in1 := (hr.in1).in1
  have sb : Sub X (k + 3) X.A.in1.in1 := Sub.in1 (Sub.in1 (⟨hr, rfl⟩ : Sub X (k + 5) X.A))
  refine callType_codes (Q₁ := fun obj s₁ => obj = .ref s.heap.objs.size ∧ s₁ = { s with heap := s.heap.push { cls := .type "list", data := .seq #[] } }) PySem.F.called_list (PySem.F.typeCall_list_1 _) PySem.F.entry_list_init
    (code_list_new _ ⟨rfl, rfl⟩) ?_
  intro obj s₁ h₁
  obtain ⟨rfl, rfl⟩ := h₁
  have hS : (s.heap.push { cls := .type "list", data := .seq #[] }).get? s.heap.objs.size = some { cls := .type "list", data := .seq #[] } := Heap.get?_push_size _ rfl
  refine ⟨⟨_, hS, rfl⟩, PySem.F.args_list_init_2 _ _, ?_⟩
  have fr : H s.heap.objs.size = none := I.hok.fresh (Nat.le_refl _)
  have I1 : Inv X pins σ (upd H s.heap.objs.size (.lst [])) { s with heap := s.heap.push { cls := .type "list", data := .seq #[] } } := I.lnew (its := []) (t' := s.toks) .nil (Nat.zero_le _)
  generalize hqq : s.heap.objs.size = q at *
  show wpAny _ _ (do let old ← Builtin.List.listItems (.ref q); Builtin.List.listUpdate (.ref q) (fun _ => #[]); letGo old.toList.reverse; Builtin.List.listExtendWith (.ref q) (.ref a) .none) _ _ _
  refine wpAny_bind ?_
  unfold Builtin.List.listItems
  refine wpAny_bind (wpAny_seqItems hS rfl (wpAny_pure ?_))
  show wpAny _ _ (updateSeq q (fun _ => #[]) >>= fun _ => letGo (#[] : Array Value).toList.reverse >>= fun _ => Builtin.List.listExtendWith (.ref q) (.ref a) .none) _ _ _
  refine wpAny_bind (wpAny_updateSeq hS rfl ?_)
  have I2 := I1.lset (f := fun _ => #[]) (its := []) (its' := []) (ys := []) (t' := s.toks) upd_same hS rfl .nil (Nat.zero_le _)
  rw [upd_upd] at I2
  refine wpAny_bind (wpAny_letGo ?_)
  have H2ext : ∀ b o, H b = some o → upd H q (.lst []) b = some o := fun b o e => by
    rw [upd_ne (ne_of_none e fr)]
    exact e
  have ha2 := H2ext _ _ ha
  have hq2 : upd H q (.lst []) q = some (.lst []) := upd_same
  have ht2 : SqT X.K (upd H q (.lst [])) t ys := ht.ext H2ext
  generalize hH2 : upd H q (.lst []) = H2 at *
  have hne : q ≠ a := ne_of hq2 ha2 (fun z => nomatch z)
  obtain ⟨od, J⟩ := seen I2 ha2
  obtain ⟨m0, hF⟩ := I2.fr
  unfold Builtin.List.listExtendWith
  refine wpAny_bind (J.type.here ?_)
  have h1 : Builtin.List.listSameRef (.ref q) (.ref a) = false := by simp [Builtin.List.listSameRef, hne]
  have h2 : (Value.ref C == Value.type "list") = false := rfl
  have h3 : (Value.ref C == Value.type "tuple") = false := rfl
  simp only [h1, h2, h3, Bool.or_false, Bool.false_eq_true, if_false]
  refine wpAny_bind (PySem.W.owit_iter hF I2.ok.mod.kin J hc.it.at_ hc.it.fn ?_)
  have e0 : Env0 X.prog X.w X.K X.mg X.base X.A.in1.in1 X.stack _ H2 := I2.env0.in1.in1
  have room : Room k X.A.in1.in1 := rm2.mono (by omega)
  have hspI : spIt X.K R [.ref a] H2 (fun v H' => ∃ it, v = .ref it ∧ H2 it = none ∧ H' = upd H2 it (TitO t it 0)) E0 := ⟨a, t, ys, rfl, hR _ H2ext, ht2, fun it n => ⟨it, rfl, n, rfl⟩⟩
  have hl := FI.len _ _ _ _ hspI
  have r2 : Vals [V.ref a] [Value.ref a] := .cons rfl .nil
  refine wpAny_call (codeAny_mono (FI.run X.A.in1.in1 X.stack _ H2 ⟨[.ref a], []⟩ [.ref a] [.ref a] _ E0 room e0 (by
    have := bI _ [.ref a] I2.kIn (by simpa using hl)
    simpa using this) r2 hspI) ?_)
  intro r s' hq'
  match r, hq' with
  | .error e, hq' => exact hq'.elim
  | .ok .next, hq' => exact False.elim hq'
  | .ok .brk, hq' => exact False.elim hq'
  | .ok .cont, hq' => exact False.elim hq'
  | .ok (.ret u), hq' =>
    obtain ⟨v, H3, I3, rv3, it, rfl, itn, rfl⟩ := I2.after hq'
    cases rv3
    have hit : upd H2 it (TitO t it 0) it = some (TitO t it 0) := upd_same
    have T : s'.heap.IsTupleIter it t 0 := (I3.hok it _ hit).1
    have E3 : ∀ b o, H b = some o → upd H2 it (TitO t it 0) b = some o := fun b o e => by
      rw [upd_ne (ne_of_none (H2ext _ _ e) itn)]
      exact H2ext _ _ e
    have ha3 := E3 _ _ ha
    have hqi : q ≠ it := ne_of_none hq2 itn
    have hq3 : upd H2 it (TitO t it 0) q = some (.lst []) := by
      rw [upd_ne hqi]
      exact hq2
    have ht3 : SqT X.K (upd H2 it (TitO t it 0)) t ys := ht.ext E3
    have hqt : q ≠ t := by
      intro z
      subst z
      rcases ht with (z | ⟨o, z⟩) | ⟨o, its, n, z, hcls, _⟩
      · rw [fr] at z
        cases z
      · rw [fr] at z
        cases z
      · obtain ⟨_, its2, n2, _, _, e2⟩ := I2.lstM hq2
        have e3 := I2.kIn _ _ z
        rw [e2] at e3
        cases (Option.some.inj e3)
        exact absurd (Value.type.inj hcls) (by decide)
    have hti : t ≠ it := by
      intro z
      subst z
      rcases ht2 with (z | ⟨o, z⟩) | ⟨o, its, n, z, hcls, _⟩
      · rw [itn] at z
        cases z
      · rw [itn] at z
        cases z
      · obtain ⟨o2, e2, c2, _⟩ := T
        have e3 := I3.kIn _ _ z
        rw [e2] at e3
        cases (Option.some.inj e3)
        rw [c2] at hcls
        exact absurd (Value.type.inj hcls) (by decide)
    refine wpAny_specialOf (Heap.IsTupleIter.typeIs T) PySem.F.slot_tuple_iterator_next.lookup ?_
    have loop : ∀ s4, Inv X pins σ (upd H2 it (TitO t it 0)) s4 → codeAny (model X.prog X.w) X.A.in1 (.builtin "list.extend.loop" ⟨[.ref q, .ref it, .none], []⟩)
        (wants (fun r s₂ => r = Value.none ∧ EP X pins σ Q (Value.ref q) s₂) X.xe) s4 := by
      intro s4 I4
      refine drain (A1 := X.A.in1) rm2.hd hqi hqt hti (upd H2 it (TitO t it 0)) hlen ht3 ?_ ys.length 0 _ s4 rfl I4 (fun b o _ _ e => e) hit (by rw [List.take_zero]; exact hq3)
      intro H' s5 I5 hB5 hq5 _
      refine ⟨rfl, .ref q, H', I5, rfl, hq q H' ?_ fr hq5⟩
      intro b o e
      have nq : b ≠ q := ne_of_none e fr
      have ni : b ≠ it := ne_of_none (H2ext _ _ e) itn
      exact hB5 b o nq ni (E3 _ _ e)
    have fin : ∀ s4, Inv X pins σ (upd H2 it (TitO t it 0)) s4 → wpAny (model X.prog X.w) X.A.in1.in1 (again (.builtin "list.extend.loop" ⟨[.ref q, .ref it, .none], []⟩))
        (fun fin s' => match fin with | .done f => wants (fun r s₂ => r = Value.none ∧ EP X pins σ Q (Value.ref q) s₂) X.xe (.ok f) s' | .again c' => c'.quiet = true ∧ codeAny (model X.prog X.w) X.A.in1 c' (wants (fun r s₂ => r = Value.none ∧ EP X pins σ Q (Value.ref q) s₂) X.xe) s')
        (fun e s' => wants (fun r s₂ => r = Value.none ∧ EP X pins σ Q (Value.ref q) s₂) X.xe (.error e) s') s4 := by
      intro s4 I4
      exact wpAny_pure ⟨plainId_quiet PySem.F.plain_extend_loop _, loop s4 I4⟩
    refine wpAny_bind (wpAny_holding ?_)
    obtain ⟨od3, J3⟩ := seen I3 ha3
    obtain ⟨m3, hF3⟩ := I3.fr
    unfold Builtin.List.listLengthHint
    refine wpAny_bind (wpAny_bind (J3.type.here ((PySem.W.looks_findIn I3.kIn hc.ln.at_).here ?_)))
    refine PySem.W.KFB.if_not rfl ?_
    refine PySem.W.KFB.if_so rfl ?_
    refine wpAny_bind (wpAny_rule ?_)
    refine wpAny_bind (m := (call (.builtin "len") [Value.ref a]).attempt) (wpAny_attempt ?_)
    refine PySem.W.len_K hF3 I3.ok.mod.kin J3 hc.ln.at_ hc.ln.fn ?_
    have hspL : spLn R [.ref a] (upd H2 it (TitO t it 0)) (fun v H' => v = .int (ys.length : Int) ∧ H' = upd H2 it (TitO t it 0)) E0 := ⟨a, t, ys, rfl, hR _ E3, rfl, rfl⟩
    have hlL := FL.len _ _ _ _ hspL
    refine wpAny_call (codeAny_mono (FL.run X.A.in1.in1.in1 X.stack _ _ ⟨[.ref a], []⟩ [.ref a] [.ref a] _ E0 (rm2.in1.mono (by omega)) I3.env0.in1.in1.in1 (by
      have := bL _ [.ref a] I3.kIn (by simpa using hlL)
      simpa using this) r2 hspL) ?_)
    intro r4 s4 hq4
    match r4, hq4 with
    | .error e, hq4 => exact hq4.elim
    | .ok .next, hq4 => exact False.elim hq4
    | .ok .brk, hq4 => exact False.elim hq4
    | .ok .cont, hq4 => exact False.elim hq4
    | .ok (.ret u4), hq4 =>
      obtain ⟨v4, H4, I4, rv4, rfl, rfl⟩ := I3.after hq4
      obtain ⟨tk4, rfl⟩ := rv4
      have l63 := line63
      refine ⟨⟨Int.natCast_nonneg _, by omega⟩, ?_⟩
      show wpAny _ _ (asInt? (Value.int (ys.length : Int) s4.toks) >>= _) _ _ _
      refine wpAny_bind (wpAny_pure ?_)
      show wpAny _ _ (if Builtin.List.listTooLong (ys.length : Int).toNat = true then _ else _) _ _ _
      rw [if_neg (by rw [Int.toNat_natCast, notLongL (Nat.le_of_lt hlen)]; exact Bool.false_ne_true)]
      refine wpAny_pure ?_
      have I5 := I4.tok (s4.toks + 1)
      refine wpAny_ite_split (fun _ => ?_) (fun _ => fin _ I5)
      exact wpAny_bind (wpAny_rule (wpAny_bind (touched I5 hq3 fin)))
end
end Gd

set_option Elab.async false
set_option linter.all false
set_option maxRecDepth 100000
set_option maxHeartbeats 4000000
/-! bool(o) and != of own classes. -/
namespace PySem
section
variable {prog : Program} {w : World} {A : Around} {E : Value → Shared → Prop} {s : Shared}
theorem bool_new_any (x : Value) : MeetsIn prog w (Builtin.«bool.__new__» ⟨[.type "bool", x], []⟩) (fun A R s =>
    wpAny (model prog w) A.in1 (truthy x) (fun b s' => R (.ok (.ret (.bool b))) s') (fun e s' => R (.error e) s') s) := by
  intro A R s h
  have f1 := F.conv_sub_bool
  unfold Builtin.«bool.__new__»
  refine wpAny_bind (wpAny_of_eq (a := true) (by first | rfl | kernel_rfl) ?_)
  refine PySem.W.KFB.if_not rfl ?_
  refine wpAny_bind (wpAny_of_eq f1 ?_)
  refine PySem.W.KFB.if_not rfl ?_
  refine wpAny_bind (m := someArgs "bool" 0 1 _) (wpAny_of_eq (a := [x]) (by first | rfl | kernel_rfl!) ?_)
  refine wpAny_bind (wpAny_mono h (fun b s' q => ?_) fun _ _ z => z)
  exact wpAny_pure q
theorem call_bool_any {x : Value} {Q : Value → Shared → Prop}
    (h : wpAny (model prog w) A.in1.in1 (truthy x) (fun b s' => Q (.bool b) s') E s) : wpAny (model prog w) A (call (.type "bool") [x]) Q E s := by
  refine callType_newIn F.called_bool F.newNe_bool (F.typeCall_bool_1 x) (F.newCall_bool_1 x) (fun obj => F.args_object_init_2 obj x) F.entry_bool_new (bool_new_any x) ?_
  exact wpAny_mono h (fun b s' q => ⟨rfl, q⟩) fun _ _ z => z
end
end PySem

namespace HN2
open PySem PySem.Spec PyProof.Rows PySem.SeqAt
section
variable {prog : Program} {w : World} {A : Around} {E : Value → Shared → Prop} {s : Shared} {K : PySem.W.Frag} {x C f : Addr} {ox : Obj} {od : Option Obj} {y : Value}
theorem ne_entry (hu : A.units < cLine) (X : K.In s.heap) (I : PySem.W.InstAt s.heap x ox C od) (hs : PySem.W.findIn K (.ref C) "__eq__" = some (some (.ref f))) (hf : PySem.W.isFn K (.ref f) = true) {Q : Fin → Shared → Prop}
    (h : wpAny (model prog w) A (call (.ref f) [.ref x, y]) (fun v s' => ∃ b, v = .bool b ∧ Q (.done (.ret (.bool (!b)))) s') E s) :
    wpAny (model prog w) A (Builtin.«object.__ne__» ⟨[.ref x, y], []⟩) Q E s := by
  unfold Builtin.«object.__ne__»
  refine wpAny_bind (m := slotArgs "__ne__" 1 _) (wpAny_of_eq (a := (Value.ref x, [y])) (by first | rfl | kernel_rfl!) ?_)
  refine wpAny_bind (wpAny_cRoomFor hu ?_)
  refine wpAny_bind (m := callSpecialIfBound? (.ref x) (Str.ofString "__eq__") [y]) (PySem.W.ifBound_K X I hs hf (wpAny_mono h (fun v s' z => ?_) fun _ _ z => z))
  obtain ⟨b, rfl, q⟩ := z
  exact wpAny_bind (wpAny_truthy_bool (wpAny_pure q))
theorem ifBound_ne {M : Model} {args : List Value} {Q : Option Value → Shared → Prop} (X : K.In s.heap) (I : PySem.W.InstAt s.heap x ox C od) (hs : PySem.W.findIn K (.ref C) "__ne__" = some (some (.builtin "object.__ne__")))
    (h : wpAny M A (call (.builtin "object.__ne__") (.ref x :: args)) (fun v => Q (some v)) E s) : wpAny M A (callSpecialIfBound? (.ref x) "__ne__" args) Q E s := by
  simp only [callSpecialIfBound?, bindSpecialIfBound?]
  refine wpAny_holding (wpAny_bind (wpAny_bind (wpAny_bind (I.type.here ((PySem.W.looks_findIn X hs).here ?_)))))
  refine wpAny_bind (wpAny_askSetting (wpAny_ite ?_))
  have last : wpAny M A (call (.builtin "object.__ne__") ([.ref x] ++ args) >>= fun v => pure (some v)) Q E s :=
    wpAny_bind (wpAny_mono h (fun v s' h' => wpAny_pure h') fun _ _ h' => h')
  split
  · exact wpAny_bind (wpAny_of_eq (F.cmp_object.ne.bind _) (wpAny_pure (by exact last)))
  · exact wpAny_tryCatch (wpAny_bind (wpAny_of_eq (F.cmp_object.ne.bind _) (wpAny_pure (by exact last))))
theorem rich_ne {tb : Value} {Q : Value → Shared → Prop} (hu : A.units + 1 < cLine) (X : K.In s.heap) (I : PySem.W.InstAt s.heap x ox C od) (hb : PySem.W.Looks (model prog w) s.heap (typeOf y) tb)
    (hn : PySem.W.notFirst K C tb = true) (hne : PySem.W.findIn K (.ref C) "__ne__" = some (some (.builtin "object.__ne__"))) (ho : PySem.W.mroIn K C (.type "object") = some true)
    (hs : PySem.W.findIn K (.ref C) "__eq__" = some (some (.ref f))) (hf : PySem.W.isFn K (.ref f) = true)
    (h : wpAny (model prog w) A.in1 (call (.ref f) [.ref x, y]) (fun v s' => ∃ b, v = .bool b ∧ Q (.bool (!b)) s') E s) :
    wpAny (model prog w) A (richCompare .NotEq (.ref x) y) Q E s := by
  have one : wpAny (model prog w) A (tryCompare (.ref x) "__ne__" y) (fun r s' => ∃ v, r = some v ∧ Q v s') E s := by
    unfold tryCompare
    refine wpAny_bind (ifBound_ne X I hne (wpAny_call (codeAny_call_builtin F.cmp_object.ne.plain F.cmpEntry_ne (PySem.W.check_slot F.cmpKind_ne F.cmpSplit_ne (I.type.andThen (PySem.W.looks_mroIn X ho)) (F.cmpArgs_ne _ _)
      (ne_entry (A := A.in1) (by show A.units + 1 < cLine; exact hu) X I hs hf (wpAny_mono h (fun v s' z => ?_) fun _ _ z => z))))))
    obtain ⟨b, rfl, q⟩ := z
    exact ⟨b, rfl, wpAny_pure ⟨_, rfl, q⟩⟩
  unfold richCompare
  simp only [oneThing_ref]
  refine wpAny_holding (wpAny_bind (wpAny_cRoomFor (Nat.lt_of_succ_lt hu) ?_))
  rw [cmpInfo_NotEq]
  dsimp only
  refine wpAny_bind (I.type.here (wpAny_bind (hb.here ?_)))
  split
  · rename_i q
    have e : PySem.W.subIn K tb (.ref C) = some false := by
      rcases Bool.or_eq_true_iff.mp hn with e | e
      · rw [beq_iff_eq.mp e] at q
        simp at q
      · exact beq_iff_eq.mp e
    refine wpAny_bind ((PySem.W.looks_subIn X e).here ?_)
    simp only [Bool.false_eq_true, if_false]
    refine wpAny_bind (m := tryCompare (.ref x) _ y) (wpAny_mono one (fun r s' z => ?_) fun _ _ e => e)
    obtain ⟨v, rfl, hq⟩ := z
    exact wpAny_pure hq
  · refine wpAny_bind (wpAny_pure ?_)
    simp only [Bool.false_eq_true, if_false]
    refine wpAny_bind (m := tryCompare (.ref x) _ y) (wpAny_mono one (fun r s' z => ?_) fun _ _ e => e)
    obtain ⟨v, rfl, hq⟩ := z
    exact wpAny_pure hq
end
end HN2

namespace Gd
open PySem PySem.Spec PyProof.Rows L2
section
variable {X : Cx} {CX : CXT} {k : Nat} {f C : Addr} {fd : FuncData} {ps : List Str} {sp : Sp}
/-- what != of a class with an own == asks of the class -/
structure NeC (K : PySem.W.Frag) (C : Addr) : Prop where
  ne : PySem.W.findIn K (.ref C) "__ne__" = some (some (.builtin "object.__ne__"))
  ob : PySem.W.mroIn K C (.type "object") = some true
def rNeO (K : PySem.W.Frag) (C : Addr) (sp : Sp) (E : XK) : R2 := fun x y H Q => ∃ p dx fs t, x = .ref p ∧ H p = some (.ins C dx fs) ∧
  TyX K H y t ∧ PySem.W.notFirst K C t = true ∧ sp [x, y] H (fun v H' => ∃ c, v = .bl c ∧ Q (.bl (!c)) H') E
theorem op_neO {E : XK} (hn : NeC X.K C) (hm : Meth X.K C "__eq__" f) (F : FnOk X.prog X.w X.K X.mg X.base CX k f fd ps sp) (hr : Room (k + 1) X.A)
    (hb : Binds X.K fd ps []) (hx : ∀ σ, PassesAt CX X σ E) : OpR X (compareOp .NotEq) (rNeO X.K C sp E) := by
  intro pins s σ H x y v u Q I rx ry h
  obtain ⟨p, dx, fs, t, rfl, ep, ty, hnf, hsp⟩ := h
  cases rx
  obtain ⟨od, J⟩ := seen I ep
  obtain ⟨P, Z, hP, _⟩ := kit_of I ry ty
  show wpAny _ _ (richCompare .NotEq _ _) _ _ _
  refine HN2.rich_ne (hu_of hr) I.kIn J (Z.ty _ _ I.kIn hP) hnf hn.ne hn.ob hm.at_ hm.fn ?_
  refine wpAny_mono (runAt (.inr rfl) F hr hb .nil (hx σ) I (.cons (show RelV (V.ref p) (Value.ref p) from rfl) (.cons ry .nil)) hsp) ?_ (fun _ _ z => z)
  rintro w s' ⟨z, H', I', rz, c, rfl, q⟩
  cases rz
  exact ⟨c, rfl, .bl (!c), H', I', rfl, q⟩
/-- bool(o) -/
def rBoolO (C : Addr) (sp : Sp) (E : XK) : List V → Hp → VK → Prop := fun xs H Q => ∃ p dx fs, xs = [.ref p] ∧ H p = some (.ins C dx fs) ∧
  sp [.ref p] H (fun v H' => ∃ c, v = .bl c ∧ Q (.bl c) H') E
theorem call_boolO {E : XK} (hm : Meth X.K C "__bool__" f) (F : FnOk X.prog X.w X.K X.mg X.base CX k f fd ps sp) (hr : Room (k + 2) X.A)
    (hb : Binds X.K fd ps []) (hx : ∀ σ, PassesAt CX X σ E) : CallR X (.type "bool") (rBoolO C sp E) := by
  intro pins s σ H xs us Q I r h
  obtain ⟨p, dx, fs, rfl, ep, hsp⟩ := h
  obtain ⟨u, rfl, hu1⟩ := vals1 r
  cases hu1
  obtain ⟨od, J⟩ := seen I ep
  obtain ⟨m, hF⟩ := I.fr
  refine call_bool_any (PySem.W.truthy_K hF I.ok.mod.kin J hm.at_ hm.fn ?_)
  have hl := F.len _ _ _ _ hsp
  refine wpAny_call (codeAny_mono (F.run X.A.in1.in1 X.stack s H ⟨[.ref p], []⟩ [.ref p] [.ref p] _ E hr.in1.in1 I.env0.in1.in1 (by
    have := hb s [.ref p] I.kIn (by simpa using hl)
    simpa using this) (.cons (show RelV (V.ref p) (Value.ref p) from rfl) .nil) hsp) ?_)
  intro r s' hq
  match r, hq with
  | .error e, hq => exact hx σ pins H s e s' I hq
  | .ok .next, hq => exact False.elim hq
  | .ok .brk, hq => exact False.elim hq
  | .ok .cont, hq => exact False.elim hq
  | .ok (.ret u), hq =>
    obtain ⟨v, H', I', rv, c, rfl, q⟩ := I.after hq
    cases rv
    exact ⟨.bl c, H', I', rfl, q⟩
end
end Gd

set_option Elab.async false
set_option linter.all false
set_option maxRecDepth 100000
set_option maxHeartbeats 4000000
/-! A tuple times 0 or 1. -/
namespace Gd
open PySem PySem.Spec PyProof.Rows L2
theorem tuple_mul1 (l : Addr) (items : Array Value) (n : Nat) (dd : Option Addr) (sl : Array (Option Value)) (u : Tok) :
    Meets (Builtin.«tuple.__mul__» ⟨[.ref l, .int 1 u], []⟩) (fun _ R s => s.heap.get? l = some { cls := .type "tuple", dict := dd, data := .seq items n, slots := sl } ∧
      R (.ok (.ret (Value.ref l))) s) :=
  .of_wp fun prog w A R s h => by
    obtain ⟨hp, g, d, tk, os⟩ := s
    obtain ⟨hl, h⟩ := h
    have f1 := AutoSeq1.idx_int
    have c1 : (items.isEmpty || (1 : Int) == 1) = true := by simp
    wp_walk using wpAny_loadPart' hl
    repeat (first
      | (refine wpAny_ite_true (decide_eq_true c1) ?_; wp_walk using wpAny_loadPart' hl))
    exact ⟨_, rfl, h⟩

theorem tuple_mul0 (l : Addr) (items : Array Value) (n : Nat) (dd : Option Addr) (sl : Array (Option Value)) (u : Tok) (ne : items.isEmpty = false) :
    Meets (Builtin.«tuple.__mul__» ⟨[.ref l, .int 0 u], []⟩) (fun _ R s => s.heap.get? l = some { cls := .type "tuple", dict := dd, data := .seq items n, slots := sl } ∧
      R (.ok (.ret (Value.ref s.heap.objs.size))) { s with heap := s.heap.push { cls := Value.type "tuple", data := Data.seq #[] }, toks := s.toks }) :=
  .of_wp fun prog w A R s h => by
    obtain ⟨hp, g, d, tk, os⟩ := s
    obtain ⟨hl, h⟩ := h
    have f1 := AutoSeq1.idx_int
    have c1 : ¬ (items.isEmpty || (0 : Int) == 1) = true := by rw [ne]; decide
    have c2 : (decide ((0 : Int) ≤ 0) || items.isEmpty) = true := by simp
    wp_walk using wpAny_loadPart' hl
    repeat (first
      | (refine wpAny_ite_false (decide_eq_false c1) ?_; wp_walk using wpAny_loadPart' hl)
      | (refine wpAny_ite_true (decide_eq_true c2) ?_; wp_walk using wpAny_loadPart' hl))
    exact ⟨_, rfl, h⟩
def rRepA (K : PySem.W.Frag) : R2 := fun x y H Q => ∃ l k xs, x = .ref l ∧ y = .int k ∧ SqT K H l xs ∧ xs ≠ [] ∧ 0 ≤ k ∧ k ≤ 1000 ∧ xs.length ≤ 1000 ∧
  (k = 1 → Q (.ref l) H) ∧ (k ≠ 1 → ∀ p, H p = none → Q (.ref p) (upd H p (.tup (List.replicate k.toNat xs).flatten)))
section
variable {X : Cx}
theorem op_repA : OpR X (binaryOp .Mult) (rRepA X.K) := by
  intro pins s σ H x y v u Q I rx ry h
  obtain ⟨l, k, xs, rfl, rfl, hT, hne, h1, h2, hz, q1, q2⟩ := h
  by_cases big : 2 ≤ k
  · exact op_repT pins s σ H _ _ v u Q I rx ry ⟨l, k, xs, rfl, rfl, hT, hne, big, h2, hz, q2 (by omega)⟩
  cases rx
  obtain ⟨t, rfl⟩ := ry
  obtain ⟨its, r, ⟨⟨cls, dd, data, sl⟩, ho, hc, n, hd⟩, hs⟩ := I.tuple hT
  simp only at hc hd
  subst hc hd
  have hle : its.length = xs.length := r.length.symm
  have hi : its.toArray.isEmpty = false := by
    cases its with
    | nil => exact absurd (List.eq_nil_of_length_eq_zero hle.symm) hne
    | cons a b => rfl
  have hk : k = 0 ∨ k = 1 := by omega
  rcases hk with rfl | rfl
  · refine wpAny_binaryOp_repeat_ref (T := "tuple") (U := "int") (by decide) ⟨_, ho, rfl⟩ (fun s' => typeIs_int s' 0 t) noFill_tuple_mul F.fills_int_mul F.slot_int_rmul repeat_tuple F.slot_int_index.lookup
      (call_meets F.slot_int_rmul (typeIs_int s 0 t) F.entry_int_rmul (F.args_int_rmul_2 _ _) (int_rmul_tuple 0 t l its.toArray n dd sl)
        ⟨ho, rfl, ⟨_, ho, rfl⟩, call_meets F.slot_tuple_mul ⟨_, ho, rfl⟩ F.entry_tuple_mul (F.args_tuple_mul_2 _ _) (tuple_mul0 l its.toArray n dd sl t hi) ⟨ho, ?_⟩⟩)
    have q := q2 (by decide) _ (I.hok.fresh (Nat.le_refl _))
    refine ⟨.ref s.heap.objs.size, _, I.laid (t' := s.toks) (o := .tup (List.replicate (0 : Int).toNat xs).flatten) (fun b ob q => Heap.get?_push_of_some _ q) (Nat.le_refl _) ?_, rfl, q⟩
    exact ⟨Nat.zero_le _, [], .nil, IsTup.new _ _⟩
  · refine wpAny_binaryOp_repeat_ref (T := "tuple") (U := "int") (by decide) ⟨_, ho, rfl⟩ (fun s' => typeIs_int s' 1 t) noFill_tuple_mul F.fills_int_mul F.slot_int_rmul repeat_tuple F.slot_int_index.lookup
      (call_meets F.slot_int_rmul (typeIs_int s 1 t) F.entry_int_rmul (F.args_int_rmul_2 _ _) (int_rmul_tuple 1 t l its.toArray n dd sl)
        ⟨ho, rfl, ⟨_, ho, rfl⟩, call_meets F.slot_tuple_mul ⟨_, ho, rfl⟩ F.entry_tuple_mul (F.args_tuple_mul_2 _ _) (tuple_mul1 l its.toArray n dd sl t) ⟨ho, ?_⟩⟩)
    exact ⟨.ref l, H, I, rfl, q1 rfl⟩
end
end Gd

set_option Elab.async false
set_option linter.all false
set_option maxRecDepth 100000
set_option maxHeartbeats 4000000
/-! Readings, step by step: one lemma a word of the readings, and a tactic that goes as far as nothing is asked. -/
namespace Gd
open PySem PySem.Spec PyProof.Rows L2
section
variable {σ : L2.St} {H : Hp} {Q : VK} {QA : List V → Hp → Prop} {QT : Bool → Hp → Prop} {D : Ends} {te ta tb tc to : TE} {t u : TT} {tr : TA} {s1 s2 : TS} {v : V} {i : Nat} {K : PySem.W.Frag}
theorem g_var (h : σ[i]? = some (some v)) (k : Q v H) : tVar i σ H Q := ⟨v, h, k⟩
theorem g_c (k : Q v H) : tC v σ H Q := k
theorem g_ret (k : te σ H D.rt) : tRet te D σ H := k
theorem g_retN (k : D.rt .non H) : tRetN D σ H := k
theorem g_seq (k : s1 { D with nx := s2 D } σ H) : tSeq s1 s2 D σ H := k
theorem g_next (k : D.nx σ H) : tNext D σ H := k
theorem g_drop (k : te σ H fun _ H1 => D.nx σ H1) : tDrop te D σ H := k
theorem g_asg {g : TG} (k : te σ H fun x H1 => g x σ H1 D.nx) : tAsg te g D σ H := k
theorem g_name {Qs : L2.St → Hp → Prop} (k : Qs (σ.set i (some v)) H) : gName i v σ H Qs := k
theorem g_ifs (k : t σ H fun b H1 => if b = true then s1 D σ H1 else s2 D σ H1) : tIfS t s1 s2 D σ H := k
theorem g_test (k : te σ H fun x H' => ∃ c, x = .bl c ∧ QT c H') : tTest te σ H QT := k
theorem g_tb (k : te σ H fun x H' => ∃ c, x = .bl c ∧ QT c H') : tB te σ H QT := k
theorem g_and (k : t σ H fun c H1 => if c = true then u σ H1 QT else QT false H1) : tAnd t u σ H QT := k
theorem g_or (k : t σ H fun c H1 => if c = true then QT true H1 else u σ H1 QT) : tOr t u σ H QT := k
theorem g_not (k : t σ H fun c H1 => QT (!c) H1) : tNot t σ H QT := k
theorem g_andV (k : ta σ H fun x H1 => ∃ c, x = .bl c ∧ if c = true then tb σ H1 Q else Q (.bl false) H1) : tAndV ta tb σ H Q := k
theorem g_orV (k : ta σ H fun x H1 => ∃ c, x = .bl c ∧ if c = true then Q (.bl true) H1 else tb σ H1 Q) : tOrV ta tb σ H Q := k
theorem g_notV (k : ta σ H fun x H1 => ∃ c, x = .bl c ∧ Q (.bl (!c)) H1) : tNotV ta σ H Q := k
theorem g_if (k : t σ H fun c H1 => if c = true then ta σ H1 Q else tb σ H1 Q) : tIf t ta tb σ H Q := k
theorem g_op {r : R2} (k : ta σ H fun x H1 => tb σ H1 fun y H2 => r x y H2 Q) : tOp r ta tb σ H Q := k
theorem g_un {r : V → Hp → VK → Prop} (k : ta σ H fun x H1 => r x H1 Q) : tUn r ta σ H Q := k
theorem g_cb {r : List V → Hp → VK → Prop} (k : tr σ H fun vs H1 => r vs H1 Q) : tCB r tr σ H Q := k
theorem g_nil (k : QA [] H) : tNil σ H QA := k
theorem g_cons (k : ta σ H fun x H1 => tr σ H1 fun xs H2 => QA (x :: xs) H2) : tCons ta tr σ H QA := k
theorem g_call {sp : Sp} {dvs : List V} {E : XK} (k : tr σ H fun vs H1 => sp (vs ++ dvs) H1 Q E) : tCall sp dvs E tr σ H Q := k
theorem g_callS {sp : Sp} {E : L2.St → XK} (k : tr σ H fun vs H1 => sp vs H1 Q (E σ)) : tCallS sp E tr σ H Q := k
theorem g_tup (k : tr σ H fun xs H1 => xs.length ≤ sizeLine ∧ ∀ p, H1 p = none → Q (.ref p) (upd H1 p (.tup xs))) : tTup tr σ H Q := k
theorem g_lst (k : tr σ H fun xs H1 => xs.length ≤ sizeLine ∧ ∀ p, H1 p = none → Q (.ref p) (upd H1 p (.lst xs))) : tLst tr σ H Q := k
theorem g_isN (k : ta σ H fun x H1 => Q (.bl (decide (x = .non))) H1) : tIsN ta σ H Q := k
theorem g_sl {r : V → Option Int → Option Int → Hp → VK → Prop} {tl th : TO} (k : te σ H fun x H1 => tl σ H1 fun l H2 => th σ H2 fun u H3 => r x l u H3 Q) : tSl r te tl th σ H Q := k
theorem g_nopart {Qo : Option Int → Hp → Prop} (k : Qo none H) : tNoPart σ H Qo := k
theorem g_part {Qo : Option Int → Hp → Prop} (k : te σ H fun x H1 => ∃ i, x = .int i ∧ Qo (some i) H1) : tPart te σ H Qo := k
theorem g_chain {r r' : R2} (k : ta σ H fun x H1 => tb σ H1 fun y H2 => r x y H2 fun z H3 => ∃ c, z = .bl c ∧
    if c = true then tc σ H3 fun w H4 => r' y w H4 Q else Q (.bl false) H3) : tChain r r' ta tb tc σ H Q := by
  exact k
theorem g_fld {f : Str} (k : ta σ H fun x H1 => ∃ a C dx fs v, x = .ref a ∧ H1 a = some (.ins C dx fs) ∧ Cls K C ∧ NoAttr K C f ∧ fs.lookup f = some v ∧ Q v H1) : tFld K ta f σ H Q := k
theorem g_prop {C : Addr} {sp : Sp} {dvs : List V} {E : XK} (k : ta σ H fun x H1 => ∃ a dx fs, x = .ref a ∧ H1 a = some (.ins C dx fs) ∧ sp (.ref a :: dvs) H1 Q E) : tProp C sp dvs E ta σ H Q := k
theorem g_bm {T : String} {r : V → List V → Hp → VK → Prop} (k : to σ H fun x H1 => tyV K T x H1 ∧ tr σ H1 fun xs H2 => r x xs H2 Q) : tBM K T r to tr σ H Q := k
theorem g_bm0 {T : String} {r : V → List V → Hp → VK → Prop} (k : to σ H fun x H1 => tyV K T x H1 ∧ r x [] H1 Q) : tBM0 K T r to σ H Q := k
theorem g_tru {r : V → Hp → (Bool → Hp → Prop) → Prop} (k : te σ H fun x H' => r x H' QT) : (fun (σ : L2.St) (H : Hp) (Q : Bool → Hp → Prop) => te σ H fun x H' => r x H' Q) σ H QT := k
-- values
theorem g_I0 {g : Int → Int → V} {a b : Int} (k : Q (g a b) H) : rI0 g (.int a) (.int b) H Q := ⟨a, b, rfl, rfl, k⟩
theorem g_I {C : Int → Int → Prop} {g : Int → Int → V} {a b : Int} (c : C a b) (k : Q (g a b) H) : rI C g (.int a) (.int b) H Q := ⟨a, b, rfl, rfl, c, k⟩
theorem g_U {g : Int → V} {a : Int} (k : Q (g a) H) : rU g (.int a) H Q := ⟨a, rfl, k⟩
theorem g_eqI {a b : Int} (k : Q (.bl (decide (a = b))) H) : rEq (.int a) (.int b) H Q := by
  refine ⟨rfl, ?_⟩
  have e : (V.int a = V.int b) = (a = b) := by simp
  simpa [e] using k
theorem g_eq {x y : V} (s : scal x y = true) (k : Q (.bl (decide (x = y))) H) : rEq x y H Q := ⟨s, k⟩
theorem g_ne {x y : V} (s : scal x y = true) (k : Q (.bl (!decide (x = y))) H) : rNe x y H Q := ⟨s, k⟩
theorem g_bl {b : Bool} (k : QT b H) : ∃ c, (V.bl b) = .bl c ∧ QT c H := ⟨b, rfl, k⟩
theorem g_blV {b : Bool} {A : Bool → Prop} (k : A b) : ∃ c, (V.bl b) = .bl c ∧ A c := ⟨b, rfl, k⟩
theorem g_inV {a : Int} {A : Int → Prop} (k : A a) : ∃ c, (V.int a) = .int c ∧ A c := ⟨a, rfl, k⟩
theorem g_ixT {p : Addr} {xs : List V} {a : Int} (h : SqT K H p xs) (e : atI xs a = some v) (k : Q v H) : rIxT K (.ref p) (.int a) H Q := ⟨p, xs, a, v, rfl, rfl, h, e, k⟩
theorem g_ixL {p : Addr} {xs : List V} {a : Int} (h : SqL K H p xs) (e : atI xs a = some v) (k : Q v H) : rIxL K (.ref p) (.int a) H Q := ⟨p, xs, a, v, rfl, rfl, h, e, k⟩
end

/-- the turn's end: the invariant again, the measure less -/
abbrev Turn (Pv : L2.St → Hp → Prop) (μ : L2.St → Hp → Nat) (m : Nat) : L2.St → Hp → Prop := fun σ' H' => Pv σ' H' ∧ μ σ' H' < m
theorem g_while {c : TT} {tb : TS} {D : Ends} {σ : L2.St} {H : Hp} (Pv : L2.St → Hp → Prop) (μ : L2.St → Hp → Nat) (h0 : Pv σ H)
    (hs : ∀ σ H, Pv σ H → c σ H fun b H1 => if b = true then ∃ N : L2.St → Hp → Prop, (∀ σ' H', N σ' H' → ∃ m', m' < μ σ H ∧ m' = μ σ' H' ∧ Pv σ' H') ∧
      tb { D with nx := N, ct := N, bk := D.nx } σ H1 else D.nx σ H1) : tWhile c tb D σ H := by
  refine ⟨fun m σ H => m = μ σ H ∧ Pv σ H, ⟨_, rfl, h0⟩, ?_⟩
  rintro m σ H ⟨rfl, p⟩
  exact hs σ H p
theorem g_turn {tb : TS} {D : Ends} {σ : L2.St} {H H1 : Hp} {Pv : L2.St → Hp → Prop} {μ : L2.St → Hp → Nat}
    (h : tb { D with nx := Turn Pv μ (μ σ H), ct := Turn Pv μ (μ σ H), bk := D.nx } σ H1) :
    ∃ N : L2.St → Hp → Prop, (∀ σ' H', N σ' H' → ∃ m', m' < μ σ H ∧ m' = μ σ' H' ∧ Pv σ' H') ∧ tb { D with nx := N, ct := N, bk := D.nx } σ H1 :=
  ⟨Turn Pv μ (μ σ H), fun σ' H' n => ⟨_, n.2, rfl, n.1⟩, h⟩
theorem g_aug {σ : L2.St} {H : Hp} {D : Ends} {i : Nat} {te : TE} {ti : TIp} {x : V} (h : σ[i]? = some (some x)) (k : te σ H fun y H1 => ti x y H1 fun z H2 => D.nx (σ.set i (some z)) H2) : tAug i te ti D σ H := ⟨x, h, k⟩
theorem tyT {K : PySem.W.Frag} {H : Hp} {a : Addr} {xs : List V} (h : SqT K H a xs) : TyX K H (.ref a) (.type "tuple") := by
  rcases h with (h | ⟨o, h⟩) | ⟨o, its, n, h, c, _⟩
  · exact .base (.tup h)
  · exact .fTuple h
  · exact .kTuple h c
theorem tyL {K : PySem.W.Frag} {H : Hp} {a : Addr} {xs : List V} (h : SqL K H a xs) : TyX K H (.ref a) (.type "list") ∨ ∃ o, K.lookup a = some o := by
  rcases h with (h | ⟨o, h⟩) | ⟨o, its, n, h, c, _⟩
  · exact .inl (.base (.lst h))
  · exact .inl (.base (.frz h))
  · exact .inr ⟨o, h⟩

theorem g_yes {σ : L2.St} {H : Hp} {Q : Bool → Hp → Prop} (k : Q true H) : tYes σ H Q := k
theorem g_sfld {σ : L2.St} {H : Hp} {D : Ends} {K : PySem.W.Frag} {ta te : TE} {f : Str} (k : te σ H fun y H1 => ta σ H1 fun x H2 => ∃ a C dx fs, x = .ref a ∧ H2 a = some (.ins C dx fs) ∧ Cls K C ∧ NoAttr K C f ∧
    fs.length < 1000 ∧ D.nx σ (upd H2 a (.ins C dx (putF f y fs)))) : sFld K ta te f D σ H := k
theorem g_int1 {a : Int} {A : Int → Prop} (k : A a) : ∃ i, [V.int a] = [V.int i] ∧ A i := ⟨a, rfl, k⟩
theorem g_int2 {a b : Int} {A : Int → Int → Prop} (k : A a b) : ∃ i j, [V.int a, V.int b] = [V.int i, V.int j] ∧ A i j := ⟨a, b, rfl, k⟩
theorem g_sub {σ : L2.St} {H : Hp} {Qs : L2.St → Hp → Prop} {to ti : TE} {t : TSet} {v : V} (k : to σ H fun o H1 => ti σ H1 fun i H2 => t o i v H2 fun H3 => Qs σ H3) : gSub to ti t v σ H Qs := k
theorem g_NT {A B : Prop} (h : B) : if (!true) = true then A else B := h
theorem g_NF {A B : Prop} (h : A) : if (!false) = true then A else B := h
end Gd

set_option Elab.async false
set_option linter.all false
set_option maxRecDepth 100000
set_option maxHeartbeats 4000000
/-! More readings. -/
namespace Gd
open PySem PySem.Spec PyProof.Rows L2
theorem g_forR {ta : TA} {g : TG} {tb : TS} {D : Ends} {σ : L2.St} {H : Hp} (k : ta σ H fun vs H1 => ∃ j : Int, vs = [.int j] ∧ -(2 ^ 62) ≤ j ∧ j < 2 ^ 62 ∧ ∃ W : Nat → Nat → L2.St → Hp → Prop, (∃ m, W 0 m σ H1) ∧ ∀ i m σ H, W i m σ H →
  ((Itr 0 j.toNat).stop i H ∧ D.nx σ H) ∨ ((Itr 0 j.toNat).go i H ∧ ∃ N : L2.St → Hp → Prop, (∀ σ' H', N σ' H' → ∃ m', m' < m ∧ W (i + 1) m' σ' H') ∧ ∀ x H', (Itr 0 j.toNat).yld i H x H' → g x σ H' fun σ2 H2 => tb { D with nx := N, ct := N, bk := D.nx } σ2 H2)) :
    tFor (iRng1 ta) g tb D σ H := k
theorem g_ifV {c : Bool} {ta tb : TE} {σ : L2.St} {H : Hp} {Q : VK} (v : V) (ha : c = true → ∀ Q' : VK, Q' v H → ta σ H Q') (hb : c = false → ∀ Q' : VK, Q' v H → tb σ H Q') (k : Q v H) : if c = true then ta σ H Q else tb σ H Q := by
  cases c with
  | true => exact ha rfl Q k
  | false => exact hb rfl Q k
theorem g_neS {x : Str} {H : Hp} {Q : VK} (k : Q (.bl false) H) : rNe (.str x) (.str x) H Q := ⟨rfl, by simpa using k⟩
theorem g_ixO {C : Addr} {sp : Sp} {E : L2.St → XK} {ta tb : TE} {σ : L2.St} {H : Hp} {Q : VK} (k : ta σ H fun x H1 => tb σ H1 fun y H2 => ∃ p dx fs, x = .ref p ∧ H2 p = some (.ins C dx fs) ∧ sp [x, y] H2 Q (E σ)) : tIxO C sp E ta tb σ H Q := k
/-- a place that is reached from more than one side -/
theorem g_cut {s1 s2 : TS} {D : Ends} {σ : L2.St} {H : Hp} (N : L2.St → Hp → Prop) (hN : ∀ σ' H', N σ' H' → s2 D σ' H') (k : (∀ σ' H', N σ' H' → s2 D σ' H') → s1 { D with nx := s2 D } σ H) : tSeq s1 s2 D σ H := k hN
theorem g_eqS {x : Str} {H : Hp} {Q : VK} (k : Q (.bl true) H) : rEq (.str x) (.str x) H Q := ⟨rfl, by simpa using k⟩
theorem g_par {i j : Nat} {ta : TA} {D : Ends} {σ : L2.St} {H : Hp} (k : ta σ H fun vs H1 => ∃ v w, vs = [v, w] ∧ D.nx ((σ.set i (some v)).set j (some w)) H1) : tPar i j ta D σ H := k
theorem g_make {C : Addr} {sp : Sp} {dvs : List V} {E : XK} {t : TA} {σ : L2.St} {H : Hp} {Q : VK} (k : t σ H fun vs H1 => ∀ x dx, H1 x = none → H1 dx = none → dx ≠ x →
  sp (.ref x :: (vs ++ dvs)) (upd (upd H1 dx (.own x)) x (.ins C dx [])) (fun v H2 => v = .non ∧ Q (.ref x) H2) E) : tMake C sp dvs E t σ H Q := k
end Gd

set_option Elab.async false
set_option linter.all false
set_option maxRecDepth 100000
set_option maxHeartbeats 4000000
/-! The text by places, and integers. -/
namespace K0
open PySem PySem.Spec PyProof.Rows L2 Gd
local macro_rules | `(tactic| walk_at "rd1") => `(tactic| first | with_reducible refine g_ret ?_ | with_reducible refine g_retN ?_ | with_reducible refine g_seq ?_ | with_reducible refine g_next ?_ | with_reducible refine g_drop ?_ | with_reducible refine g_asg ?_ | with_reducible refine g_name ?_ | with_reducible refine g_ifs ?_ | with_reducible refine g_test ?_ | with_reducible refine g_tb ?_ | with_reducible refine g_and ?_ | with_reducible refine g_or ?_ | with_reducible refine g_not ?_ | with_reducible refine g_andV ?_ | with_reducible refine g_orV ?_ | with_reducible refine g_notV ?_ | with_reducible refine g_if ?_ | with_reducible refine g_op ?_ | with_reducible refine g_un ?_ | with_reducible refine g_cb ?_ | with_reducible refine g_nil ?_ | with_reducible refine g_cons ?_ | with_reducible refine g_call ?_ | with_reducible refine g_callS ?_ | with_reducible refine g_tup ?_ | with_reducible refine g_lst ?_ | with_reducible refine g_isN ?_ | with_reducible refine g_sl ?_ | with_reducible refine g_nopart ?_ | with_reducible refine g_part ?_ | with_reducible refine g_chain ?_ | with_reducible refine g_fld ?_ | with_reducible refine g_prop ?_ | with_reducible refine g_bm ?_ | with_reducible refine g_bm0 ?_ | with_reducible refine g_c ?_ | with_reducible refine g_sub ?_ | with_reducible refine g_int1 ?_ | with_reducible refine g_int2 ?_ | with_reducible refine g_yes ?_ | with_reducible refine g_sfld ?_ | with_reducible refine g_NT ?_ | with_reducible refine g_NF ?_ | with_reducible refine iteT ?_ | with_reducible refine iteF ?_ | ((with_reducible refine' g_aug ?hv ?_); (case hv => exact rfl)) | ((with_reducible refine' g_var ?hv ?_); (case hv => exact rfl)) | with_reducible refine g_I0 ?_ | with_reducible refine g_U ?_ | with_reducible refine g_eqI ?_ | with_reducible refine g_blV ?_ | with_reducible refine g_inV ?_)
local macro_rules | `(tactic| walk_at "rd") => `(tactic| repeat walk_at "rd1")
def top (i : Nat) : Stmt := PySem.Challenge.pw_primekinds_k00_polynomials_told.main.body.getD i (.Pass ⟨0, 0, 0, 0⟩)
abbrev sWhole : Stmt := top 10
abbrev sInteger : Stmt := top 11
abbrev sIndex : Stmt := top 14
abbrev sTrimmed : Stmt := top 16
def cls (j : Nat) : Stmt := inClass (top 30) j

/-- what is known of the module's names -/
structure Txt (K : PySem.W.Frag) (mg : Str → Option Value) : Prop where
  isinstance : mg "isinstance" = none
  int : mg "int" = none
  bool : mg "bool" = none
  tuple : mg "tuple" = none
  list : mg "list" = none
  len : mg "len" = none
  all : mg "all" = none
  iter : mg "iter" = none
  bound : ∃ t, mg "BOUND" = some (.int (10 ^ 60) t)
  most : ∃ t, mg "MAX_FACTORS" = some (.int 400 t)

section
variable {P : Program} {w : World} {K : PySem.W.Frag} {mg : Str → Option Value} {base : Heap}

theorem dec_l {p q : Prop} [Decidable p] [Decidable q] (h : p) : decide (p ∧ q) = decide q := by simp [h]
theorem dec_n {p q : Prop} [Decidable p] [Decidable q] (h : ¬ p) : decide (p ∧ q) = false := by simp [h]
/-! ### is_whole -/
/-- whether a value is an integer other than True and False -/
def WholeB (K : PySem.W.Frag) (H : Hp) (x : V) (b : Bool) : Prop := ∃ t b1 b2, TyX K H x t ∧ PySem.W.kitOne K t (.type "int") = some b1 ∧
  PySem.W.kitOne K t (.type "bool") = some b2 ∧ b = (b1 && !b2)
theorem whole_int {H : Hp} {i : Int} : WholeB K H (.int i) true := ⟨_, true, false, .base (.int i), by kernel_rfl, by kernel_rfl, rfl⟩
theorem whole_bl {H : Hp} {b : Bool} : WholeB K H (.bl b) false := ⟨_, true, true, .base (.bl b), by kernel_rfl, by kernel_rfl, rfl⟩
theorem whole_non {H : Hp} : WholeB K H .non false := ⟨_, false, false, .base .non, by kernel_rfl, by kernel_rfl, rfl⟩
theorem whole_str {H : Hp} {x : Str} : WholeB K H (.str x) false := ⟨_, false, false, .base (.str x), by kernel_rfl, by kernel_rfl, rfl⟩
theorem whole_tup {H : Hp} {a : Addr} {xs : List V} (h : H a = some (.tup xs)) : WholeB K H (.ref a) false := ⟨_, false, false, .base (.tup h), by kernel_rfl, by kernel_rfl, rfl⟩
def spWhole (K : PySem.W.Frag) : Sp := fun vs H Q _ => ∃ x b, vs = [x] ∧ WholeB K H x b ∧ Q (.bl b) H
theorem scWhole : FnScope ["value"] ["value"] (defScope sWhole) := ⟨rfl, rfl, rfl, by decide +kernel, rfl, by decide +kernel, by decide +kernel⟩
theorem ok_whole {f : Addr} {fd : FuncData} (F : Fun K "is_whole" "is_whole" sWhole f fd) (T : Txt K mg) : FnOk P w K mg base CX0 1 f fd ["value"] (spWhole K) := by
  refine F.ok scWhole (fun vs H Q E h => ?_) (fun cdv A outer s H vs Q E hr h => ?_)
  · obtain ⟨x, b, rfl, _⟩ := h
    rfl
  · obtain ⟨x, b, rfl, ⟨t, b1, b2, ty, k1, k2, rfl⟩, k⟩ := h
    refine ⟨_, pss_one (ps_ret (pe_and (pe_callB call_isi (by rfl) T.isinstance (by decide +kernel) (pa_cons (pv 0) (pa_cons (pe_bltn (v := .ty "int") (by rfl) T.int (by decide +kernel) rfl) pa_nil)))
      (pe_one (pe_not (pe_callB call_isi (by rfl) T.isinstance (by decide +kernel) (pa_cons (pv 0) (pa_cons (pe_bltn (v := .ty "bool") (by rfl) T.bool (by decide +kernel) rfl) pa_nil))))))), ?_⟩
    walk_at "rd"
    refine ⟨_, _, _, _, _, rfl, .ty _, ty, k1, ?_⟩
    walk_at "rd"
    refine ite2 (fun h1 => ?_) (fun h1 => ?_)
    · walk_at "rd"
      refine ⟨_, _, _, _, _, rfl, .ty _, ty, k2, ?_⟩
      walk_at "rd"
      rw [h1] at k
      exact k
    · rw [Bool.not_eq_true] at h1
      rw [h1] at k
      exact k

/-! ### is_integer -/
def IntB (K : PySem.W.Frag) (H : Hp) (x : V) (b : Bool) : Prop := (∃ i : Int, x = .int i ∧ b = decide (-(10 ^ 60) < i ∧ i < 10 ^ 60)) ∨ (WholeB K H x false ∧ b = false)
def spInteger (K : PySem.W.Frag) : Sp := fun vs H Q _ => ∃ x b, vs = [x] ∧ IntB K H x b ∧ Q (.bl b) H
theorem scInteger : FnScope ["value"] ["value"] (defScope sInteger) := ⟨rfl, rfl, rfl, by decide +kernel, rfl, by decide +kernel, by decide +kernel⟩
/-- where is_whole stands -/
structure AtW (K : PySem.W.Frag) (mg : Str → Option Value) (f : Addr) (fd : FuncData) : Prop where
  F : Fun K "is_whole" "is_whole" sWhole f fd
  b : Binds K fd ["value"] []
  g : mg "is_whole" = some (.ref f)
theorem ok_integer {f fW : Addr} {fd fdW : FuncData} (F : Fun K "is_integer" "is_integer" sInteger f fd) (T : Txt K mg) (W : AtW K mg fW fdW) : FnOk P w K mg base CX0 2 f fd ["value"] (spInteger K) := by
  have GW : FnOk P w K mg base CX0 1 fW fdW ["value"] (spWhole K) := ok_whole W.F T
  obtain ⟨tB, gB⟩ := T.bound
  refine F.ok scInteger (fun vs H Q E h => ?_) (fun cdv A outer s H vs Q E hr h => ?_)
  · obtain ⟨x, b, rfl, _⟩ := h
    rfl
  · obtain ⟨x, b, rfl, hx, k⟩ := h
    refine ⟨_, pss_one (ps_ret (pe_and (pe_call GW hr (by rfl) W.g W.F.kp W.b .nil pass0 (pa_cons (pv 0) pa_nil))
      (pe_one (pe_chain op_lt op_lt (pe_un un_neg (pe_glob (v := .int (10 ^ 60)) (by rfl) gB ⟨_, rfl⟩)) (pv 0) (pe_glob (v := .int (10 ^ 60)) (by rfl) gB ⟨_, rfl⟩))))), ?_⟩
    walk_at "rd"
    rcases hx with ⟨i, rfl, rfl⟩ | ⟨hx, rfl⟩
    · refine ⟨_, true, rfl, whole_int, ?_⟩
      walk_at "rd"
      try refine iteT ?_
      walk_at "rd"
      refine ite2 (fun h1 => ?_) (fun h1 => ?_)
      · walk_at "rd"
        have e : decide (-(10 ^ 60) < i ∧ i < 10 ^ 60) = decide (i < 10 ^ 60) := dec_l (of_decide_eq_true h1)
        rw [e] at k
        exact k
      · have h2 : ¬ (-(10 ^ 60) : Int) < i := fun z => h1 (decide_eq_true z)
        have e : decide (-(10 ^ 60) < i ∧ i < 10 ^ 60) = false := dec_n h2
        rw [e] at k
        exact k
    · refine ⟨_, false, rfl, hx, ?_⟩
      walk_at "rd"
      first | exact k | exact iteF k

/-! ### require_index -/
def IndexOk (K : PySem.W.Frag) (H : Hp) (x : V) (b : Bool) : Prop := (∃ i : Int, x = .int i ∧ b = decide (0 ≤ i ∧ i < 10 ^ 60)) ∨ (WholeB K H x false ∧ b = false)
def spIndex (K : PySem.W.Frag) (C : Addr) : Sp := fun vs H Q E => ∃ x b, vs = [x] ∧ IndexOk K H x b ∧ (b = true → Q .non H) ∧
  (b = false → ∀ d, H d = none → E (.ref C) (some d) (upd H d (.xd [(("value" : Str), x)])))
structure AtI (K : PySem.W.Frag) (mg : Str → Option Value) (f : Addr) (fd : FuncData) : Prop where
  F : Fun K "is_integer" "is_integer" sInteger f fd
  b : Binds K fd ["value"] []
  g : mg "is_integer" = some (.ref f)
theorem scIndex : FnScope ["value"] ["value"] (defScope sIndex) := ⟨rfl, rfl, rfl, by decide +kernel, rfl, by decide +kernel, by decide +kernel⟩
theorem ok_index {f fW fI C fC : Addr} {fd fdW fdI : FuncData} (F : Fun K "require_index" "require_index" sIndex f fd) (T : Txt K mg) (W : AtW K mg fW fdW) (I : AtI K mg fI fdI) (N : PySem.XInvalidNumber.InvalidNumberTxt K mg C fC) :
    FnOk P w K mg base (L2.CX P w) 4 f fd ["value"] (spIndex K C) := by
  have GI : FnOk P w K mg base CX0 2 fI fdI ["value"] (spInteger K) := ok_integer I.F T W
  refine F.okX scIndex (fun vs H Q E h => ?_) (fun cdv A outer s H vs Q E hr h => ?_)
  · obtain ⟨x, b, rfl, _⟩ := h
    rfl
  · obtain ⟨x, b, rfl, hx, k1, k2⟩ := h
    refine ⟨_, pss_one (ps_if (PW.pt (pw_or (pt_not (pt_val (pe_call GI (hr.mono (by decide)) (by rfl) I.g I.F.kp I.b .nil pass0 (pa_cons (pv 0) pa_nil)))) (pw_or1 (pt_cmpR op_lt (pv 0) pe_int (nomark _)))))
      (pss_one (ps_raiseInvalidNumber rfl N hr (takes_of rfl rfl rfl rfl) (by exact (pa_cons (pv 0) pa_nil)))) pss_nil), ?_⟩
    walk_at "rd"
    rcases hx with ⟨i, rfl, rfl⟩ | ⟨hx, rfl⟩
    · refine ⟨_, _, rfl, .inl ⟨i, rfl, rfl⟩, ?_⟩
      walk_at "rd"
      by_cases h1 : -(10 ^ 60) < i ∧ i < 10 ^ 60
      · rw [decide_eq_true h1]
        try refine iteF ?_
        walk_at "rd"
        by_cases h2 : i < 0
        · rw [decide_eq_true h2]
          try refine iteT ?_
          refine ⟨_, rfl, _, rfl, ?_⟩
          exact k2 (decide_eq_false (by omega))
        · rw [decide_eq_false h2]
          try refine iteF ?_
          exact k1 (decide_eq_true (by omega))
      · rw [decide_eq_false h1]
        iterate 2 (try refine iteT ?_)
        refine ⟨_, rfl, _, rfl, ?_⟩
        exact k2 (decide_eq_false (by omega))
    · refine ⟨_, _, rfl, .inr ⟨hx, rfl⟩, ?_⟩
      walk_at "rd"
      iterate 2 (try refine iteT ?_)
      refine ⟨_, rfl, _, rfl, ?_⟩
      exact k2 rfl
end
end K0

set_option Elab.async false
set_option linter.all false
set_option maxRecDepth 100000
set_option maxHeartbeats 4000000
/-! Rows without zeros at their end. -/
namespace K0
open PySem PySem.Spec PyProof.Rows L2 Gd
local macro_rules | `(tactic| walk_at "rd1") => `(tactic| first | with_reducible refine g_ret ?_ | with_reducible refine g_retN ?_ | with_reducible refine g_seq ?_ | with_reducible refine g_next ?_ | with_reducible refine g_drop ?_ | with_reducible refine g_asg ?_ | with_reducible refine g_name ?_ | with_reducible refine g_ifs ?_ | with_reducible refine g_test ?_ | with_reducible refine g_tb ?_ | with_reducible refine g_and ?_ | with_reducible refine g_or ?_ | with_reducible refine g_not ?_ | with_reducible refine g_andV ?_ | with_reducible refine g_orV ?_ | with_reducible refine g_notV ?_ | with_reducible refine g_if ?_ | with_reducible refine g_op ?_ | with_reducible refine g_un ?_ | with_reducible refine g_cb ?_ | with_reducible refine g_nil ?_ | with_reducible refine g_cons ?_ | with_reducible refine g_call ?_ | with_reducible refine g_callS ?_ | with_reducible refine g_tup ?_ | with_reducible refine g_lst ?_ | with_reducible refine g_isN ?_ | with_reducible refine g_sl ?_ | with_reducible refine g_nopart ?_ | with_reducible refine g_part ?_ | with_reducible refine g_chain ?_ | with_reducible refine g_fld ?_ | with_reducible refine g_prop ?_ | with_reducible refine g_bm ?_ | with_reducible refine g_bm0 ?_ | with_reducible refine g_c ?_ | with_reducible refine g_sub ?_ | with_reducible refine g_int1 ?_ | with_reducible refine g_int2 ?_ | with_reducible refine g_yes ?_ | with_reducible refine g_sfld ?_ | with_reducible refine g_NT ?_ | with_reducible refine g_NF ?_ | with_reducible refine iteT ?_ | with_reducible refine iteF ?_ | ((with_reducible refine' g_aug ?hv ?_); (case hv => exact rfl)) | ((with_reducible refine' g_var ?hv ?_); (case hv => exact rfl)) | with_reducible refine g_I0 ?_ | with_reducible refine g_U ?_ | with_reducible refine g_eqI ?_ | with_reducible refine g_blV ?_ | with_reducible refine g_inV ?_)
local macro_rules | `(tactic| walk_at "rd") => `(tactic| repeat walk_at "rd1")
/-! ### the mathematics -/
def trim : List Int → List Int
  | [] => []
  | x :: r => match trim r with
    | [] => if x = 0 then [] else [x]
    | y :: s => x :: y :: s
theorem trim_take : ∀ (ns : List Int) (e : Nat), e ≤ ns.length → (∀ j x, e ≤ j → ns[j]? = some x → x = 0) →
    (e = 0 ∨ ∃ x, ns[e - 1]? = some x ∧ x ≠ 0) → trim ns = ns.take e
  | [], e, h, _, _ => by
    have : e = 0 := Nat.le_zero.mp h
    subst this
    rfl
  | x :: r, 0, _, hz, _ => by
    have ih := trim_take r 0 (Nat.zero_le _) (fun j y _ e => hz (j + 1) y (Nat.zero_le _) e) (.inl rfl)
    have hx : x = 0 := hz 0 x (Nat.le_refl _) rfl
    unfold trim
    rw [ih]
    show (if x = 0 then [] else [x]) = []
    rw [if_pos hx]
  | x :: r, 1, _, hz, hl => by
    have ih := trim_take r 0 (Nat.zero_le _) (fun j y _ e => hz (j + 1) y (by omega) e) (.inl rfl)
    have hx : x ≠ 0 := by
      rcases hl with hl | ⟨y, e, hy⟩
      · cases hl
      · cases e
        exact hy
    unfold trim
    rw [ih]
    show (if x = 0 then [] else [x]) = [x]
    rw [if_neg hx]
  | x :: r, e + 2, h, hz, hl => by
    have hl' : e + 1 ≤ r.length := by simpa using h
    have ih := trim_take r (e + 1) hl' (fun j y g q => hz (j + 1) y (by omega) q) (.inr (by
      rcases hl with hl | ⟨y, q, hy⟩
      · cases hl
      · exact ⟨y, q, hy⟩))
    unfold trim
    rw [ih]
    cases r with
    | nil => simp at hl'
    | cons y s => rfl
theorem trim_len (ns : List Int) : (trim ns).length ≤ ns.length := by
  induction ns with
  | nil => exact Nat.le_refl _
  | cons x r ih =>
    unfold trim
    split
    · split <;> simp
    · rename_i y s e
      rw [e] at ih
      simp only [List.length_cons] at ih ⊢
      omega
theorem trim_mem (ns : List Int) : ∀ x ∈ trim ns, x ∈ ns := by
  induction ns with
  | nil => intro x h; exact h
  | cons y r ih =>
    intro x h
    unfold trim at h
    split at h
    · split at h
      · cases h
      · rcases List.mem_cons.mp h with rfl | h
        · exact List.mem_cons_self
        · cases h
    · rename_i z s e
      rw [e] at ih
      rcases List.mem_cons.mp h with rfl | h
      · exact List.mem_cons_self
      · exact List.mem_cons_of_mem _ (ih x h)

/-! ### trimmed -/
section
variable {P : Program} {w : World} {K : PySem.W.Frag} {mg : Str → Option Value} {base : Heap}
/-- the same things, all that was known is known still -/
def Ext (H H' : Hp) : Prop := ∀ b o, H b = some o → H' b = some o
theorem Ext.rfl' {H : Hp} : Ext H H := fun _ _ h => h
theorem Ext.new {H : Hp} {p : Addr} {o : HO} (h : H p = none) : Ext H (upd H p o) := fun b u e => by
  rw [upd_ne (ne_of_none e h)]
  exact e
theorem Ext.trans {H H1 H2 : Hp} (a : Ext H H1) (b : Ext H1 H2) : Ext H H2 := fun c o h => b c o (a c o h)
theorem mapget {ns : List Int} {i : Nat} : (ns.map V.int)[i]? = (ns[i]?).map V.int := List.getElem?_map
def spTrimmed (K : PySem.W.Frag) : Sp := fun vs H Q _ => ∃ (a : Addr) (ns : List Int), vs = [.ref a] ∧ SqT K H a (ns.map V.int) ∧ ns.length ≤ 100000 ∧
  ∀ H' u, Ext H H' → SqT K H' u ((trim ns).map V.int) → Q (.ref u) H'
/-- the measure: the int in a slot -/
def muI (i : Nat) : L2.St → Hp → Nat := fun σ _ => match σ[i]? with | some (some (.int e)) => e.toNat | _ => 0
def PvT (a : Addr) (H0 : Hp) (ns : List Int) : L2.St → Hp → Prop := fun σ H' => H' = H0 ∧ ∃ e : Nat, σ = [some (.ref a), some (.int (e : Int))] ∧ e ≤ ns.length ∧ ∀ j x, e ≤ j → ns[j]? = some x → x = 0
theorem scTrimmed : FnScope ["row", "end"] ["row"] (defScope sTrimmed) := ⟨rfl, rfl, rfl, by decide +kernel, rfl, by decide +kernel, by decide +kernel⟩
theorem ok_trimmed {f : Addr} {fd : FuncData} (F : Fun K "trimmed" "trimmed" sTrimmed f fd) (T : Txt K mg) : FnOk P w K mg base CX0 1 f fd ["row"] (spTrimmed K) := by
  refine F.ok scTrimmed (fun vs H Q E h => ?_) (fun cdv A outer s H vs Q E hr h => ?_)
  · obtain ⟨x, b, rfl, _⟩ := h
    rfl
  · obtain ⟨a, ns, rfl, hs, hl, k⟩ := h
    refine ⟨_, pss_cons (ps_set (i := 1) scTrimmed.nd rfl (Or.inl rfl) (pe_callB call_len_seq (by rfl) T.len PySem.boot_len (pa_cons (pv 0) pa_nil)))
      (pss_cons (ps_while PassesOwn.never (PW.pt (pw_and (pt_cmpR op_gt (pv 1) pe_int (nomark _)) (pw_and1 (pt_cmpR op_eq (pe_ix ix_tup (pv 0) (pe_op op_sub (pv 1) pe_int) (fun _ _ => rfl)) pe_int (nomark _)))))
          (pss_one (ps_aug (i := 1) scTrimmed.nd rfl (Or.inl rfl) pe_int ip_sub)))
        (pss_one (ps_ret (pe_callTy call_tupleT (by rfl) T.tuple (by decide +kernel) (pa_cons (pe_slice sl_tupA (pv 0) po_none (po_some (pv 1))) pa_nil))))), ?_⟩
    walk_at "rd"
    refine ⟨a, _, rfl, .inr hs, ?_⟩
    walk_at "rd"
    refine g_while (PvT a H ns) (muI 1) ⟨rfl, ns.length, by rw [List.length_map]; rfl, Nat.le_refl _, fun j x g e => by
        rw [List.getElem?_eq_none_iff.mpr g] at e
        cases e⟩ ?_
    rintro σ H' ⟨rfl, e, rfl, he, hz⟩
    walk_at "rd"
    have fin : (e = 0 ∨ ∃ x, ns[e - 1]? = some x ∧ x ≠ 0) → tRet (tCB (fun xs H Q => ∃ a ys, xs = [V.ref a] ∧ SqT K H a ys ∧ Q (V.ref a) H) (tCons (tSl (rSlA K) (tVar 0) tNoPart (tPart (tVar 1))) tNil))
        { nx := fun x H' => Q V.non H', rt := Q } [some (V.ref a), some (V.int (e : Int))] H' := by
      intro hl'
      have et := trim_take ns e he hz hl'
      walk_at "rd"
      have s1 : HT.sIx (ns.map V.int).length 0 none = 0 := rfl
      have s2 : HT.sIx (ns.map V.int).length (ns.map V.int).length (some (e : Int)) = e := by
        rw [HT.sIx_nat, List.length_map]
        omega
      refine ⟨a, _, rfl, hs, fun q => ?_, fun q p hp => ?_⟩
      · rw [s1, s2] at q
        have : trim ns = ns := by rw [et, List.take_of_length_le (by have := q.2; rw [List.length_map] at this; omega)]
        refine ⟨_, _, rfl, hs, k _ a Ext.rfl' ?_⟩
        rw [this]
        exact hs
      · refine ⟨_, _, rfl, SqT.of upd_same, k _ p (Ext.new hp) ?_⟩
        have ec : cutV (ns.map V.int) none (some (e : Int)) = (trim ns).map V.int := by
          unfold cutV
          rw [s1, s2, et, List.drop_zero, Nat.sub_zero, List.map_take]
        rw [← ec]
        exact SqT.of upd_same
    refine ite2 (fun h1 => ?_) (fun h1 => ?_)
    · have h1' : 0 < e := by
        have := of_decide_eq_true h1
        omega
      walk_at "rd"
      have hlt : e - 1 < ns.length := by omega
      have ge : (ns.map V.int)[e - 1]? = some (V.int ns[e - 1]) := by rw [mapget, List.getElem?_eq_getElem hlt]; rfl
      refine g_ixT hs (v := .int ns[e - 1]) ?_ ?_
      · have := atI_nat ge
        have q : ((e : Int) - 1) = ((e - 1 : Nat) : Int) := by omega
        rw [q]
        exact this
      walk_at "rd"
      refine ite2 (fun h2 => ?_) (fun h2 => ?_)
      · refine g_turn ?_
        walk_at "rd"
        refine ⟨_, _, rfl, rfl, ?_⟩
        refine ⟨⟨rfl, e - 1, ?_, by omega, fun j x g q => ?_⟩, ?_⟩
        · show [some (V.ref a), some (V.int ((e : Int) - 1))] = _
          have q : ((e : Int) - 1) = ((e - 1 : Nat) : Int) := by omega
          rw [q]
        · by_cases hj : j = e - 1
          · subst hj
            rw [List.getElem?_eq_getElem hlt] at q
            cases q
            exact of_decide_eq_true h2
          · exact hz j x (by omega) q
        · show ((e : Int) - 1).toNat < ((e : Int)).toNat
          omega
      · refine fin (.inr ⟨_, List.getElem?_eq_getElem hlt, fun z => h2 (decide_eq_true z)⟩)
    · refine iteF (fin (.inl ?_))
      have : ¬ (0 : Int) < (e : Int) := fun z => h1 (decide_eq_true z)
      omega
end
end K0

set_option Elab.async false
set_option linter.all false
set_option maxRecDepth 100000
set_option maxHeartbeats 4000000
/-! The class Poly. -/
namespace K0
open PySem PySem.Spec PyProof.Rows L2 Gd
local macro_rules | `(tactic| walk_at "rd1") => `(tactic| first | with_reducible refine g_ret ?_ | with_reducible refine g_retN ?_ | with_reducible refine g_seq ?_ | with_reducible refine g_next ?_ | with_reducible refine g_drop ?_ | with_reducible refine g_asg ?_ | with_reducible refine g_name ?_ | with_reducible refine g_ifs ?_ | with_reducible refine g_test ?_ | with_reducible refine g_tb ?_ | with_reducible refine g_and ?_ | with_reducible refine g_or ?_ | with_reducible refine g_not ?_ | with_reducible refine g_andV ?_ | with_reducible refine g_orV ?_ | with_reducible refine g_notV ?_ | with_reducible refine g_if ?_ | with_reducible refine g_op ?_ | with_reducible refine g_un ?_ | with_reducible refine g_cb ?_ | with_reducible refine g_nil ?_ | with_reducible refine g_cons ?_ | with_reducible refine g_call ?_ | with_reducible refine g_callS ?_ | with_reducible refine g_tup ?_ | with_reducible refine g_lst ?_ | with_reducible refine g_isN ?_ | with_reducible refine g_sl ?_ | with_reducible refine g_nopart ?_ | with_reducible refine g_part ?_ | with_reducible refine g_chain ?_ | with_reducible refine g_fld ?_ | with_reducible refine g_prop ?_ | with_reducible refine g_bm ?_ | with_reducible refine g_bm0 ?_ | with_reducible refine g_c ?_ | with_reducible refine g_sub ?_ | with_reducible refine g_int1 ?_ | with_reducible refine g_int2 ?_ | with_reducible refine g_yes ?_ | with_reducible refine g_sfld ?_ | with_reducible refine g_NT ?_ | with_reducible refine g_NF ?_ | with_reducible refine iteT ?_ | with_reducible refine iteF ?_ | ((with_reducible refine' g_aug ?hv ?_); (case hv => exact rfl)) | ((with_reducible refine' g_var ?hv ?_); (case hv => exact rfl)) | with_reducible refine g_I0 ?_ | with_reducible refine g_U ?_ | with_reducible refine g_eqI ?_ | with_reducible refine g_blV ?_ | with_reducible refine g_inV ?_)
local macro_rules | `(tactic| walk_at "rd") => `(tactic| repeat walk_at "rd1")
section
variable {P : Program} {w : World} {K : PySem.W.Frag} {mg : Str → Option Value} {base : Heap}
/-- the class at C -/
structure PC (K : PySem.W.Frag) (mg : Str → Option Value) (C : Addr) : Prop where
  cl : Cls K C
  noF : NoAttr K C "_factors"
  g : mg "Poly" = some (.ref C)
  kp : PySem.W.keepIn K (.ref C) = true
  ha : PySem.W.findIn K (.ref C) "__class__" = some (some (.builtin "object.__class__"))
  hn : PySem.W.specialIn K (.builtin "object.__class__") "__get__" = some (some (.builtin "getset_descriptor.__get__"))
  htk : PySem.W.takesIn K (.builtin "object.__class__") = some true
  hm : PySem.W.mroIn K C (.type "object") = some true
  kit : PySem.W.kitOne K (.ref C) (.ref C) = some true
  ne : NeC K C
theorem PC.ty {C : Addr} (T : PC K mg C) {H : Hp} {p dx : Addr} {fs : List (Str × V)} (h : H p = some (.ins C dx fs)) : TyX K H (.ref p) (.ref C) := .base (.ins h T.cl T.ha T.hn T.htk T.hm)
/-- a polynomial at p: its tuple at u has the factors ns -/
def PolyU (K : PySem.W.Frag) (C : Addr) (H : Hp) (p u : Addr) (ns : List Int) : Prop := (∃ dx, H p = some (.ins C dx [(("_factors" : Str), .ref u)])) ∧ SqT K H u (ns.map V.int) ∧ ns.length ≤ 100000
theorem sqT_ext {H H' : Hp} {a : Addr} {xs : List V} (e : Ext H H') (h : SqT K H a xs) : SqT K H' a xs := by
  rcases h with (h | ⟨o, h⟩) | h
  · exact .inl (.inl (e _ _ h))
  · exact .inl (.inr ⟨o, e _ _ h⟩)
  · exact .inr h
theorem sqL_ext {H H' : Hp} {a : Addr} {xs : List V} (e : Ext H H') (h : SqL K H a xs) : SqL K H' a xs := by
  rcases h with (h | ⟨o, h⟩) | h
  · exact .inl (.inl (e _ _ h))
  · exact .inl (.inr ⟨o, e _ _ h⟩)
  · exact .inr h
theorem PolyU.ext {C p u : Addr} {H H' : Hp} {ns : List Int} (e : Ext H H') (h : PolyU K C H p u ns) : PolyU K C H' p u ns := by
  obtain ⟨⟨dx, h1⟩, h2, h3⟩ := h
  exact ⟨⟨dx, e _ _ h1⟩, sqT_ext e h2, h3⟩
/-! ### __init__ -/
abbrev sInit : Stmt := cls 0
def ExtBut (p : Addr) (H H' : Hp) : Prop := ∀ b o, b ≠ p → H b = some o → H' b = some o
def Big (ns : List Int) : Prop := ∀ n ∈ ns, -(10 ^ 60) < n ∧ n < 10 ^ 60
def spInit (K : PySem.W.Frag) (C : Addr) : Sp := fun vs H Q _ => ∃ (p dx a : Addr) (ns : List Int), vs = [.ref p, .ref a] ∧ H p = some (.ins C dx []) ∧ SqT K H a (ns.map V.int) ∧ ns.length ≤ 400 ∧ Big ns ∧
  ∀ H' u, ExtBut p H H' → H' p = some (.ins C dx [(("_factors" : Str), .ref u)]) → SqT K H' u ((trim ns).map V.int) → Q .non H'
theorem scInit : FnScope ["self", "factors", "factor"] ["self", "factors"] (defScope sInit) := ⟨rfl, rfl, rfl, by decide +kernel, rfl, by decide +kernel, by decide +kernel⟩
structure AtT (K : PySem.W.Frag) (mg : Str → Option Value) (f : Addr) (fd : FuncData) : Prop where
  F : Fun K "trimmed" "trimmed" sTrimmed f fd
  b : Binds K fd ["row"] []
  g : mg "trimmed" = some (.ref f)
abbrev FnI (K : PySem.W.Frag) (t0 f : Addr) (fd : FuncData) : Prop := FunD K "__init__" "Poly.__init__" (defArgs sInit) (defBody sInit) (defScope sInit) [.ref t0] [] f fd
theorem ok_init {f fW fI fT C t0 : Addr} {fd fdW fdI fdT : FuncData} (F : FnI K t0 f fd) (T : Txt K mg) (Cl : PC K mg C) (W : AtW K mg fW fdW) (I : AtI K mg fI fdI) (R : AtT K mg fT fdT) :
    FnOk P w K mg base CX0 4 f fd ["self", "factors"] (spInit K C) := by
  have GI : FnOk P w K mg base CX0 2 fI fdI ["value"] (spInteger K) := ok_integer I.F T W
  have GT : FnOk P w K mg base CX0 1 fT fdT ["row"] (spTrimmed K) := ok_trimmed R.F T
  obtain ⟨tM, gM⟩ := T.most
  refine F.ok scInit (fun vs H Q E h => ?_) (fun cdv A outer s H vs Q E hr h => ?_)
  · obtain ⟨p, dx, a, ns, rfl, _⟩ := h
    rfl
  · obtain ⟨p, dx, a, ns, rfl, hp, hs, hl, hB, k⟩ := h
    refine ⟨_, PSs.nox (pss_cons (ps_if (PW.pt (pw_or (pt_not (pt_val (pe_callB call_isi (by rfl) T.isinstance (by decide +kernel) (pa_cons (pv 1) (pa_cons (pe_bltn (v := .ty "tuple") (by rfl) T.tuple (by decide +kernel) rfl) pa_nil)))))
        (pw_or1 (pt_cmpR op_gt (pe_callB call_len_seq (by rfl) T.len PySem.boot_len (pa_cons (pv 1) pa_nil)) (pe_glob (v := .int 400) (by rfl) gM ⟨_, rfl⟩) (nomark _))))) (pss_one ps_never) pss_nil)
      (pss_cons (ps_if (pt_not (pt_val (pe_callB (cr_all rfl) (by rfl) T.all (by decide +kernel) (pa_cons
          (pe_lc (own := [("factor", 2)]) (g := gName 2) (tt := tYes) rfl scInit.nd (pi_tup (pv 1)) (blkOk_by (N := ["self", "factors", "factor"]) (sc := defScope sInit) (by decide +kernel)) (fun _ _ _ _ _ => pg_name (i := 2) scInit.nd rfl (Or.inl rfl)) (fun _ _ _ _ _ => pts_nil)
            (fun _ _ _ _ _ => pe_call GI (hr.mono (by decide)) (by rfl) I.g I.F.kp I.b .nil pass0 (pa_cons (pv 2) pa_nil))) pa_nil)))) (pss_one ps_never) pss_nil)
        (pss_one (ps_fld (pv 0) (pe_call GT (hr.mono (by decide)) (by rfl) R.g R.F.kp R.b .nil pass0 (pa_cons (pv 1) pa_nil)) rfl)))), ?_⟩
    walk_at "rd"
    refine ⟨_, _, _, _, true, rfl, .ty _, tyT hs, by kernel_rfl, ?_⟩
    walk_at "rd"
    refine ⟨a, _, rfl, .inr hs, ?_⟩
    walk_at "rd"
    rw [decide_eq_false (by rw [List.length_map]; omega)]
    walk_at "rd"
    refine ⟨_, rfl, a, rfl, ⟨_, hs⟩, fun D hD => lc_tup (xs := ns.map V.int) (fun i H' => Ext H H' ∧ H' D = some (.lst ((ns.take i).map fun _ => V.bl true)))
      ⟨Ext.new hD, upd_same⟩ (fun i H' _ q => sqT_ext q.1 hs) ?_ ?_⟩
    · rintro i x H' hi ⟨e, hD'⟩
      rw [mapget] at hi
      obtain ⟨n, hn, rfl⟩ := Option.map_eq_some_iff.mp hi
      have hlt : i < ns.length := (List.getElem?_eq_some_iff.mp hn).1
      refine ⟨rfl, ?_⟩
      walk_at "rd"
      refine ⟨_, true, rfl, .inl ⟨n, rfl, (decide_eq_true (hB n (List.mem_of_getElem? hn))).symm⟩, _, hD', ?_, ?_, ?_⟩
      · rw [List.length_map, List.length_take, sizeLine_eq]
        omega
      · intro b o q
        rw [upd_ne (ne_of_none q hD)]
        exact e b o q
      · rw [upd_same, take_one hlt, List.map_append]
        rfl
    · rintro H' ⟨e, hD'⟩
      walk_at "rd"
      refine ⟨D, ns.map fun _ => true, rfl, SqL.of ?_, ?_⟩
      · rw [hD', List.length_map, List.take_length, List.map_map]
        rfl
      have all : (ns.map fun _ => true).all id = true := by simp
      rw [all]
      walk_at "rd"
      refine ⟨a, ns, rfl, sqT_ext e hs, by omega, ?_⟩
      intro H2 u e2 hu
      have hp2 : H2 p = some (.ins C dx []) := e2 _ _ (e _ _ hp)
      walk_at "rd"
      refine ⟨p, C, dx, [], rfl, hp2, Cl.cl, Cl.noF, by decide, ?_⟩
      refine k _ u ?_ upd_same ?_
      · intro b o hb q
        rw [upd_ne hb]
        exact e2 _ _ (e _ _ q)
      · rcases hu with (h | ⟨o, h⟩) | h
        · refine .inl (.inl ?_)
          rw [upd_ne (ne_of h hp2 (by intro z; cases z))]
          exact h
        · refine .inl (.inr ⟨o, ?_⟩)
          rw [upd_ne (ne_of h hp2 (by intro z; cases z))]
          exact h
        · exact .inr h
end
end K0

set_option Elab.async false
set_option linter.all false
set_option maxRecDepth 100000
set_option maxHeartbeats 4000000
/-! What a polynomial shows. -/
namespace K0
open PySem PySem.Spec PyProof.Rows L2 Gd
local macro_rules | `(tactic| walk_at "rd1") => `(tactic| first | with_reducible refine g_ret ?_ | with_reducible refine g_retN ?_ | with_reducible refine g_seq ?_ | with_reducible refine g_next ?_ | with_reducible refine g_drop ?_ | with_reducible refine g_asg ?_ | with_reducible refine g_name ?_ | with_reducible refine g_ifs ?_ | with_reducible refine g_test ?_ | with_reducible refine g_tb ?_ | with_reducible refine g_and ?_ | with_reducible refine g_or ?_ | with_reducible refine g_not ?_ | with_reducible refine g_andV ?_ | with_reducible refine g_orV ?_ | with_reducible refine g_notV ?_ | with_reducible refine g_if ?_ | with_reducible refine g_op ?_ | with_reducible refine g_un ?_ | with_reducible refine g_cb ?_ | with_reducible refine g_nil ?_ | with_reducible refine g_cons ?_ | with_reducible refine g_call ?_ | with_reducible refine g_callS ?_ | with_reducible refine g_tup ?_ | with_reducible refine g_lst ?_ | with_reducible refine g_isN ?_ | with_reducible refine g_sl ?_ | with_reducible refine g_nopart ?_ | with_reducible refine g_part ?_ | with_reducible refine g_chain ?_ | with_reducible refine g_fld ?_ | with_reducible refine g_prop ?_ | with_reducible refine g_bm ?_ | with_reducible refine g_bm0 ?_ | with_reducible refine g_c ?_ | with_reducible refine g_sub ?_ | with_reducible refine g_int1 ?_ | with_reducible refine g_int2 ?_ | with_reducible refine g_yes ?_ | with_reducible refine g_sfld ?_ | with_reducible refine g_NT ?_ | with_reducible refine g_NF ?_ | with_reducible refine iteT ?_ | with_reducible refine iteF ?_ | ((with_reducible refine' g_aug ?hv ?_); (case hv => exact rfl)) | ((with_reducible refine' g_var ?hv ?_); (case hv => exact rfl)) | with_reducible refine g_I0 ?_ | with_reducible refine g_U ?_ | with_reducible refine g_eqI ?_ | with_reducible refine g_blV ?_ | with_reducible refine g_inV ?_)
local macro_rules | `(tactic| walk_at "rd") => `(tactic| repeat walk_at "rd1")
section
variable {P : Program} {w : World} {K : PySem.W.Frag} {mg : Str → Option Value} {base : Heap}
theorem look1 {u : V} : ([(("_factors" : Str), u)] : List (Str × V)).lookup ("_factors" : Str) = some u := by simp [List.lookup]
/-! ### data -/
def idata (ns : List Int) : List PyData := ns.map PyData.int
theorem eqv_ints : ∀ (ns ms : List Int), PyData.eqvAll (idata ns) (idata ms) = decide (ns = ms)
  | [], [] => rfl
  | [], y :: s => by simp [idata, PyData.eqvAll]
  | x :: r, [] => by simp [idata, PyData.eqvAll]
  | x :: r, y :: s => by
    have ih := eqv_ints r s
    show (PyData.eqv (.int x) (.int y) && PyData.eqvAll (idata r) (idata s)) = _
    rw [ih]
    show ((x == y) && decide (r = s)) = _
    by_cases h : x = y
    · subst h
      by_cases g : r = s
      · subst g
        simp
      · simp [g]
    · simp [h]
theorem lay_ints : ∀ ns : List Int, PyData.canLayAll0 (idata ns) = true
  | [] => rfl
  | x :: r => by
    show (PyData.canLay0 (.int x) && PyData.canLayAll0 (idata r)) = true
    rw [lay_ints r]
    rfl
theorem deep_ints : ∀ ns : List Int, PyData.depthAll (idata ns) = 0
  | [] => rfl
  | x :: r => by
    show max (PyData.depth (.int x)) (PyData.depthAll (idata r)) = 0
    rw [deep_ints r]
    rfl
theorem dp_ints {H : Hp} : ∀ ns : List Int, DpAll K H (ns.map V.int) (idata ns)
  | [] => .nil
  | x :: r => .cons (.int x) (dp_ints r)
theorem dp_tup {H : Hp} {a : Addr} {ns : List Int} (h : SqT K H a (ns.map V.int)) : Dp K H (.ref a) (.tuple (idata ns)) := .tup h (dp_ints ns)
theorem shaped_tup (ns : List Int) : SeqAt.shaped (.tuple (idata ns)) = true := by
  unfold SeqAt.shaped
  rw [show PyData.canLay0 (.tuple (idata ns)) = PyData.canLayAll0 (idata ns) from rfl, lay_ints, show PyData.depth (.tuple (idata ns)) = PyData.depthAll (idata ns) + 1 from rfl, deep_ints]
  rfl
/-- a promise of a method without arguments: from the polynomial at p, its tuple at u, its factors ns, the answer v and nothing changed -/
def spGet (K : PySem.W.Frag) (C : Addr) (v : Addr → List Int → V) : Sp := fun vs H Q _ => ∃ (p u : Addr) (ns : List Int), vs = [.ref p] ∧ PolyU K C H p u ns ∧ Q (v u ns) H
theorem scS {j : Nat} (h : defScope (cls j) = defScope (cls 2)) : FnScope ["self"] ["self"] (defScope (cls j)) := by
  rw [h]
  exact ⟨rfl, rfl, rfl, by decide +kernel, rfl, by decide +kernel, by decide +kernel⟩
theorem sc2 : FnScope ["self"] ["self"] (defScope (cls 2)) := ⟨rfl, rfl, rfl, by decide +kernel, rfl, by decide +kernel, by decide +kernel⟩
theorem sc3 : FnScope ["self"] ["self"] (defScope (cls 3)) := ⟨rfl, rfl, rfl, by decide +kernel, rfl, by decide +kernel, by decide +kernel⟩
theorem sc15 : FnScope ["self", "index"] ["self", "index"] (defScope (cls 15)) := ⟨rfl, rfl, rfl, by decide +kernel, rfl, by decide +kernel, by decide +kernel⟩
theorem sc16 : FnScope ["self"] ["self"] (defScope (cls 16)) := ⟨rfl, rfl, rfl, by decide +kernel, rfl, by decide +kernel, by decide +kernel⟩
theorem sc17 : FnScope ["self"] ["self"] (defScope (cls 17)) := ⟨rfl, rfl, rfl, by decide +kernel, rfl, by decide +kernel, by decide +kernel⟩
theorem sc18 : FnScope ["self"] ["self"] (defScope (cls 18)) := ⟨rfl, rfl, rfl, by decide +kernel, rfl, by decide +kernel, by decide +kernel⟩
theorem sc19 : FnScope ["self", "other"] ["self", "other"] (defScope (cls 19)) := ⟨rfl, rfl, rfl, by decide +kernel, rfl, by decide +kernel, by decide +kernel⟩
variable {f C : Addr} {fd : FuncData}
theorem ok_factors (F : Fun K "factors" "Poly.factors" (cls 2) f fd) (Cl : PC K mg C) : FnOk P w K mg base CX0 1 f fd ["self"] (spGet K C fun u _ => .ref u) := by
  refine F.ok sc2 (fun vs H Q E h => ?_) (fun cdv A outer s H vs Q E hr h => ?_)
  · obtain ⟨p, u, ns, rfl, _⟩ := h
    rfl
  · obtain ⟨p, u, ns, rfl, ⟨⟨dx, hp⟩, hu, hl⟩, k⟩ := h
    refine ⟨_, pss_one (ps_ret (pe_fld (pv 0) rfl)), ?_⟩
    walk_at "rd"
    exact ⟨p, C, dx, _, _, rfl, hp, Cl.cl, Cl.noF, look1, k⟩
theorem ok_degree (F : Fun K "degree" "Poly.degree" (cls 3) f fd) (T : Txt K mg) (Cl : PC K mg C) : FnOk P w K mg base CX0 1 f fd ["self"] (spGet K C fun _ ns => .int ((ns.length : Int) - 1)) := by
  refine F.ok sc3 (fun vs H Q E h => ?_) (fun cdv A outer s H vs Q E hr h => ?_)
  · obtain ⟨p, u, ns, rfl, _⟩ := h
    rfl
  · obtain ⟨p, u, ns, rfl, ⟨⟨dx, hp⟩, hu, hl⟩, k⟩ := h
    refine ⟨_, pss_one (ps_ret (pe_op op_sub (pe_callB call_len_seq (by rfl) T.len PySem.boot_len (pa_cons (pe_fld (pv 0) rfl) pa_nil)) pe_int)), ?_⟩
    walk_at "rd"
    refine ⟨p, C, dx, _, _, rfl, hp, Cl.cl, Cl.noF, look1, ?_⟩
    walk_at "rd"
    refine ⟨u, _, rfl, .inr hu, ?_⟩
    walk_at "rd"
    rw [List.length_map]
    exact k
theorem ok_len (F : Fun K "__len__" "Poly.__len__" (cls 16) f fd) (T : Txt K mg) (Cl : PC K mg C) : FnOk P w K mg base CX0 1 f fd ["self"] (spGet K C fun _ ns => .int (ns.length : Int)) := by
  refine F.ok sc16 (fun vs H Q E h => ?_) (fun cdv A outer s H vs Q E hr h => ?_)
  · obtain ⟨p, u, ns, rfl, _⟩ := h
    rfl
  · obtain ⟨p, u, ns, rfl, ⟨⟨dx, hp⟩, hu, hl⟩, k⟩ := h
    refine ⟨_, pss_one (ps_ret (pe_callB call_len_seq (by rfl) T.len PySem.boot_len (pa_cons (pe_fld (pv 0) rfl) pa_nil))), ?_⟩
    walk_at "rd"
    refine ⟨p, C, dx, _, _, rfl, hp, Cl.cl, Cl.noF, look1, ?_⟩
    walk_at "rd"
    refine ⟨u, _, rfl, .inr hu, ?_⟩
    rw [List.length_map]
    exact k
theorem ok_bool (F : Fun K "__bool__" "Poly.__bool__" (cls 17) f fd) (T : Txt K mg) (Cl : PC K mg C) : FnOk P w K mg base CX0 1 f fd ["self"] (spGet K C fun _ ns => .bl (decide (0 < (ns.length : Int)))) := by
  refine F.ok sc17 (fun vs H Q E h => ?_) (fun cdv A outer s H vs Q E hr h => ?_)
  · obtain ⟨p, u, ns, rfl, _⟩ := h
    rfl
  · obtain ⟨p, u, ns, rfl, ⟨⟨dx, hp⟩, hu, hl⟩, k⟩ := h
    refine ⟨_, pss_one (ps_ret (pe_cmpR op_gt (pe_callB call_len_seq (by rfl) T.len PySem.boot_len (pa_cons (pe_fld (pv 0) rfl) pa_nil)) pe_int (nomark _))), ?_⟩
    walk_at "rd"
    refine ⟨p, C, dx, _, _, rfl, hp, Cl.cl, Cl.noF, look1, ?_⟩
    walk_at "rd"
    refine ⟨u, _, rfl, .inr hu, ?_⟩
    walk_at "rd"
    rw [List.length_map]
    exact k
/-- what list(o) asks -/
def PolyR (K : PySem.W.Frag) (C : Addr) (p u : Addr) (ys : List V) (H : Hp) : Prop := ∃ ns : List Int, ys = ns.map V.int ∧ PolyU K C H p u ns
theorem ok_iter (F : Fun K "__iter__" "Poly.__iter__" (cls 18) f fd) (T : Txt K mg) (Cl : PC K mg C) : FnOk P w K mg base CX0 1 f fd ["self"] (spIt K (PolyR K C)) := by
  refine F.ok sc18 (fun vs H Q E h => ?_) (fun cdv A outer s H vs Q E hr h => ?_)
  · obtain ⟨p, u, ns, rfl, _⟩ := h
    rfl
  · obtain ⟨p, u, ys, rfl, ⟨ns, rfl, ⟨dx, hp⟩, hu, hl⟩, _, k⟩ := h
    refine ⟨_, pss_one (ps_ret (pe_callB call_iterT (by rfl) T.iter (by decide +kernel) (pa_cons (pe_fld (pv 0) rfl) pa_nil))), ?_⟩
    walk_at "rd"
    refine ⟨p, C, dx, _, _, rfl, hp, Cl.cl, Cl.noF, look1, ?_⟩
    walk_at "rd"
    exact ⟨u, _, rfl, hu, k⟩
theorem len_ln : ∀ vs H Q E, spLn (PolyR K C) vs H Q E → spGet K C (fun _ ns => .int (ns.length : Int)) vs H Q E := by
  rintro vs H Q E ⟨p, u, ys, rfl, ⟨ns, rfl, h⟩, k⟩
  rw [List.length_map] at k
  exact ⟨p, u, ns, rfl, h, k⟩
/-- == : from two polynomials, or something else that is no polynomial -/
def spEqP (K : PySem.W.Frag) (C : Addr) : Sp := fun vs H Q _ => ∃ (p u : Addr) (ns : List Int) (y : V), vs = [.ref p, y] ∧ PolyU K C H p u ns ∧
  ((∃ (q v : Addr) (ms : List Int), y = .ref q ∧ PolyU K C H q v ms ∧ Q (.bl (decide (ns = ms))) H) ∨ (∃ t, TyX K H y t ∧ PySem.W.kitOne K t (.ref C) = some false ∧ Q (.bl false) H))
theorem ok_eq (F : Fun K "__eq__" "Poly.__eq__" (cls 19) f fd) (T : Txt K mg) (Cl : PC K mg C) : FnOk P w K mg base CX0 1 f fd ["self", "other"] (spEqP K C) := by
  refine F.ok sc19 (fun vs H Q E h => ?_) (fun cdv A outer s H vs Q E hr h => ?_)
  · obtain ⟨p, u, ns, y, rfl, _⟩ := h
    rfl
  · obtain ⟨p, u, ns, y, rfl, ⟨⟨dx, hp⟩, hu, hl⟩, h⟩ := h
    refine ⟨_, pss_one (ps_ret (pe_and (pe_callB call_isi (by rfl) T.isinstance (by decide +kernel) (pa_cons (pv 1) (pa_cons (pe_glob (v := .ref C) (by rfl) Cl.g rfl) pa_nil)))
      (pe_one (pe_cmpR (op_eqD hr.units) (pe_fld (pv 0) rfl) (pe_fld (pv 1) rfl) (nomark _))))), ?_⟩
    walk_at "rd"
    rcases h with ⟨q, v, ms, rfl, ⟨⟨dy, hq⟩, hv, hm⟩, k⟩ | ⟨t, ty, kt, k⟩
    · refine ⟨_, _, _, _, true, rfl, .own C, Cl.ty hq, Cl.kit, ?_⟩
      walk_at "rd"
      refine ⟨p, C, dx, _, _, rfl, hp, Cl.cl, Cl.noF, look1, ?_⟩
      walk_at "rd"
      refine ⟨q, C, dy, _, _, rfl, hq, Cl.cl, Cl.noF, look1, ?_⟩
      refine ⟨_, _, dp_tup hu, dp_tup hv, shaped_tup _, shaped_tup _, ?_⟩
      show Q (.bl (PyData.eqvAll (idata ns) (idata ms))) H
      rw [eqv_ints]
      exact k
    · refine ⟨_, _, _, _, false, rfl, .own C, ty, kt, ?_⟩
      walk_at "rd"
      exact k
end
end K0

set_option Elab.async false
set_option linter.all false
set_option maxRecDepth 100000
set_option maxHeartbeats 4000000
/-! The last factor that a polynomial shows. -/
namespace K0
open PySem PySem.Spec PyProof.Rows L2 Gd
local macro_rules | `(tactic| walk_at "rd1") => `(tactic| first | with_reducible refine g_ret ?_ | with_reducible refine g_retN ?_ | with_reducible refine g_seq ?_ | with_reducible refine g_next ?_ | with_reducible refine g_drop ?_ | with_reducible refine g_asg ?_ | with_reducible refine g_name ?_ | with_reducible refine g_ifs ?_ | with_reducible refine g_test ?_ | with_reducible refine g_tb ?_ | with_reducible refine g_and ?_ | with_reducible refine g_or ?_ | with_reducible refine g_not ?_ | with_reducible refine g_andV ?_ | with_reducible refine g_orV ?_ | with_reducible refine g_notV ?_ | with_reducible refine g_if ?_ | with_reducible refine g_op ?_ | with_reducible refine g_un ?_ | with_reducible refine g_cb ?_ | with_reducible refine g_nil ?_ | with_reducible refine g_cons ?_ | with_reducible refine g_call ?_ | with_reducible refine g_callS ?_ | with_reducible refine g_tup ?_ | with_reducible refine g_lst ?_ | with_reducible refine g_isN ?_ | with_reducible refine g_sl ?_ | with_reducible refine g_nopart ?_ | with_reducible refine g_part ?_ | with_reducible refine g_chain ?_ | with_reducible refine g_fld ?_ | with_reducible refine g_prop ?_ | with_reducible refine g_bm ?_ | with_reducible refine g_bm0 ?_ | with_reducible refine g_c ?_ | with_reducible refine g_sub ?_ | with_reducible refine g_int1 ?_ | with_reducible refine g_int2 ?_ | with_reducible refine g_yes ?_ | with_reducible refine g_sfld ?_ | with_reducible refine g_NT ?_ | with_reducible refine g_NF ?_ | with_reducible refine iteT ?_ | with_reducible refine iteF ?_ | ((with_reducible refine' g_aug ?hv ?_); (case hv => exact rfl)) | ((with_reducible refine' g_var ?hv ?_); (case hv => exact rfl)) | with_reducible refine g_I0 ?_ | with_reducible refine g_U ?_ | with_reducible refine g_eqI ?_ | with_reducible refine g_blV ?_ | with_reducible refine g_inV ?_)
local macro_rules | `(tactic| walk_at "rd") => `(tactic| repeat walk_at "rd1")
section
variable {P : Program} {w : World} {K : PySem.W.Frag} {mg : Str → Option Value} {base : Heap} {f C : Addr} {fd : FuncData}
theorem sc4 : FnScope ["self"] ["self"] (defScope (cls 4)) := ⟨rfl, rfl, rfl, by decide +kernel, rfl, by decide +kernel, by decide +kernel⟩
theorem ok_lead (F : Fun K "lead" "Poly.lead" (cls 4) f fd) (T : Txt K mg) (Cl : PC K mg C) : FnOk P w K mg base CX0 1 f fd ["self"] (spGet K C fun _ ns => .int ((ns.getLast?).getD 0)) := by
  refine F.ok sc4 (fun vs H Q E h => ?_) (fun cdv A outer s H vs Q E hr h => ?_)
  · obtain ⟨p, u, ns, rfl, _⟩ := h
    rfl
  · obtain ⟨p, u, ns, rfl, ⟨⟨dx, hp⟩, hu, hl⟩, k⟩ := h
    refine ⟨_, pss_one (ps_ret (pe_ifExp (pt_cmpR op_gt (pe_callB call_len_seq (by rfl) T.len PySem.boot_len (pa_cons (pe_fld (pv 0) rfl) pa_nil)) pe_int (nomark _)) (pe_ix ix_tup (pe_fld (pv 0) rfl) (pe_un un_neg pe_int) (fun _ _ => rfl)) pe_int)), ?_⟩
    walk_at "rd"
    refine ⟨p, C, dx, _, _, rfl, hp, Cl.cl, Cl.noF, look1, ?_⟩
    walk_at "rd"
    refine ⟨u, _, rfl, .inr hu, ?_⟩
    walk_at "rd"
    rw [List.length_map]
    cases ns with
    | nil =>
      rw [show decide ((0 : Int) < (([] : List Int).length : Int)) = false from rfl]
      walk_at "rd"
      exact k
    | cons x r =>
      rw [decide_eq_true (by simp)]
      walk_at "rd"
      refine ⟨p, C, dx, _, _, rfl, hp, Cl.cl, Cl.noF, look1, ?_⟩
      walk_at "rd"
      refine g_ixT hu (v := .int (((x :: r).getLast?).getD 0)) ?_ k
      show atI ((x :: r).map V.int) (-1) = _
      have e : (x :: r) = (x :: r).dropLast ++ [((x :: r).getLast?).getD 0] := by
        rw [List.getLast?_eq_some_getLast (l := x :: r) (by simp)]
        exact (List.dropLast_concat_getLast (by simp)).symm
      rw [e, List.map_append]
      rw [← e]
      exact atI_last _ _
end
end K0

set_option Elab.async false
set_option linter.all false
set_option maxRecDepth 100000
set_option maxHeartbeats 4000000
/-! poly[index]. -/
namespace K0
open PySem PySem.Spec PyProof.Rows L2 Gd
local macro_rules | `(tactic| walk_at "rd1") => `(tactic| first | with_reducible refine g_ret ?_ | with_reducible refine g_retN ?_ | with_reducible refine g_seq ?_ | with_reducible refine g_next ?_ | with_reducible refine g_drop ?_ | with_reducible refine g_asg ?_ | with_reducible refine g_name ?_ | with_reducible refine g_ifs ?_ | with_reducible refine g_test ?_ | with_reducible refine g_tb ?_ | with_reducible refine g_and ?_ | with_reducible refine g_or ?_ | with_reducible refine g_not ?_ | with_reducible refine g_andV ?_ | with_reducible refine g_orV ?_ | with_reducible refine g_notV ?_ | with_reducible refine g_if ?_ | with_reducible refine g_op ?_ | with_reducible refine g_un ?_ | with_reducible refine g_cb ?_ | with_reducible refine g_nil ?_ | with_reducible refine g_cons ?_ | with_reducible refine g_call ?_ | with_reducible refine g_callS ?_ | with_reducible refine g_tup ?_ | with_reducible refine g_lst ?_ | with_reducible refine g_isN ?_ | with_reducible refine g_sl ?_ | with_reducible refine g_nopart ?_ | with_reducible refine g_part ?_ | with_reducible refine g_chain ?_ | with_reducible refine g_fld ?_ | with_reducible refine g_prop ?_ | with_reducible refine g_bm ?_ | with_reducible refine g_bm0 ?_ | with_reducible refine g_c ?_ | with_reducible refine g_sub ?_ | with_reducible refine g_int1 ?_ | with_reducible refine g_int2 ?_ | with_reducible refine g_yes ?_ | with_reducible refine g_sfld ?_ | with_reducible refine g_NT ?_ | with_reducible refine g_NF ?_ | with_reducible refine iteT ?_ | with_reducible refine iteF ?_ | ((with_reducible refine' g_aug ?hv ?_); (case hv => exact rfl)) | ((with_reducible refine' g_var ?hv ?_); (case hv => exact rfl)) | with_reducible refine g_I0 ?_ | with_reducible refine g_U ?_ | with_reducible refine g_eqI ?_ | with_reducible refine g_blV ?_ | with_reducible refine g_inV ?_)
local macro_rules | `(tactic| walk_at "rd") => `(tactic| repeat walk_at "rd1")
section
variable {P : Program} {w : World} {K : PySem.W.Frag} {mg : Str → Option Value} {base : Heap} {f C : Addr} {fd : FuncData}
structure AtX (K : PySem.W.Frag) (mg : Str → Option Value) (f : Addr) (fd : FuncData) : Prop where
  F : Fun K "require_index" "require_index" sIndex f fd
  b : Binds K fd ["value"] []
  g : mg "require_index" = some (.ref f)
def spItem (K : PySem.W.Frag) (C CN : Addr) : Sp := fun vs H Q E => ∃ (p u : Addr) (ns : List Int) (y : V) (b : Bool), vs = [.ref p, y] ∧ PolyU K C H p u ns ∧ IndexOk K H y b ∧
  (b = true → ∀ i, y = .int i → Q (.int ((ns[i.toNat]?).getD 0)) H) ∧
  (b = false → ∀ d, H d = none → E (.ref CN) (some d) (upd H d (.xd [(("value" : Str), y)])))
theorem ok_item {fW fI fX CN fC : Addr} {fdW fdI fdX : FuncData} (F : Fun K "__getitem__" "Poly.__getitem__" (cls 15) f fd) (T : Txt K mg) (Cl : PC K mg C) (W : AtW K mg fW fdW) (I : AtI K mg fI fdI) (X : AtX K mg fX fdX)
    (N : PySem.XInvalidNumber.InvalidNumberTxt K mg CN fC) : FnOk P w K mg base (L2.CX P w) 5 f fd ["self", "index"] (spItem K C CN) := by
  have GX : FnOk P w K mg base (L2.CX P w) 4 fX fdX ["value"] (spIndex K CN) := ok_index X.F T W I N
  refine F.okX sc15 (fun vs H Q E h => ?_) (fun cdv A outer s H vs Q E hr h => ?_)
  · obtain ⟨p, u, ns, y, b, rfl, _⟩ := h
    rfl
  · obtain ⟨p, u, ns, y, b, rfl, ⟨⟨dx, hp⟩, hu, hl⟩, hi, k1, k2⟩ := h
    refine ⟨_, pss_cons (ps_expr (pe_call GX hr (by rfl) X.g X.F.kp X.b .nil (passes_call (takes_of rfl rfl rfl rfl) (fun _ _ _ _ h => h)) (pa_cons (pv 1) pa_nil)))
      (pss_one (ps_ret (pe_ifExp (pt_cmpR op_lt (pv 1) (pe_callB call_len_seq (by rfl) T.len PySem.boot_len (pa_cons (pe_fld (pv 0) rfl) pa_nil)) (nomark _))
        (pe_ix ix_tup (pe_fld (pv 0) rfl) (pv 1) (fun _ _ => rfl)) pe_int))), ?_⟩
    walk_at "rd"
    refine ⟨y, b, rfl, hi, fun hb => ?_, fun hb d hd => k2 hb d hd⟩
    walk_at "rd"
    subst hb
    rcases hi with ⟨i, rfl, hb⟩ | ⟨_, hb⟩
    · have hb' := of_decide_eq_true hb.symm
      refine ⟨p, C, dx, _, _, rfl, hp, Cl.cl, Cl.noF, look1 (u := .ref u), ?_⟩
      walk_at "rd"
      refine ⟨u, _, rfl, .inr hu, ?_⟩
      walk_at "rd"
      rw [List.length_map]
      have k := k1 rfl i rfl
      refine ite2 (fun h1 => ?_) (fun h1 => ?_)
      · have h2 := of_decide_eq_true h1
        walk_at "rd"
        refine ⟨p, C, dx, _, _, rfl, hp, Cl.cl, Cl.noF, look1 (u := .ref u), ?_⟩
        walk_at "rd"
        have hlt : i.toNat < ns.length := by omega
        refine g_ixT hu (v := .int ((ns[i.toNat]?).getD 0)) ?_ k
        have e : i = (i.toNat : Int) := by omega
        have ge : (ns.map V.int)[i.toNat]? = some (V.int ((ns[i.toNat]?).getD 0)) := by
          rw [mapget, List.getElem?_eq_getElem hlt]
          rfl
        rw [e]
        exact atI_nat ge
      · have h2 : ¬ i < (ns.length : Int) := fun z => h1 (decide_eq_true z)
        have hz : (ns[i.toNat]?).getD 0 = 0 := by
          rw [List.getElem?_eq_none_iff.mpr (by omega)]
          rfl
        rw [hz] at k
        exact k
    · cases hb
end
end K0

set_option Elab.async false
set_option linter.all false
set_option maxRecDepth 100000
set_option maxHeartbeats 4000000
/-! The dice of a law: numbers for one place. -/
namespace K0
open PySem PySem.Spec PyProof.Rows L2 Gd
local macro_rules | `(tactic| walk_at "rd1") => `(tactic| first | with_reducible refine g_ret ?_ | with_reducible refine g_retN ?_ | with_reducible refine g_seq ?_ | with_reducible refine g_next ?_ | with_reducible refine g_drop ?_ | with_reducible refine g_asg ?_ | with_reducible refine g_name ?_ | with_reducible refine g_ifs ?_ | with_reducible refine g_test ?_ | with_reducible refine g_tb ?_ | with_reducible refine g_and ?_ | with_reducible refine g_or ?_ | with_reducible refine g_not ?_ | with_reducible refine g_andV ?_ | with_reducible refine g_orV ?_ | with_reducible refine g_notV ?_ | with_reducible refine g_if ?_ | with_reducible refine g_op ?_ | with_reducible refine g_un ?_ | with_reducible refine g_cb ?_ | with_reducible refine g_nil ?_ | with_reducible refine g_cons ?_ | with_reducible refine g_call ?_ | with_reducible refine g_callS ?_ | with_reducible refine g_tup ?_ | with_reducible refine g_lst ?_ | with_reducible refine g_isN ?_ | with_reducible refine g_sl ?_ | with_reducible refine g_nopart ?_ | with_reducible refine g_part ?_ | with_reducible refine g_chain ?_ | with_reducible refine g_fld ?_ | with_reducible refine g_prop ?_ | with_reducible refine g_bm ?_ | with_reducible refine g_bm0 ?_ | with_reducible refine g_c ?_ | with_reducible refine g_sub ?_ | with_reducible refine g_int1 ?_ | with_reducible refine g_int2 ?_ | with_reducible refine g_yes ?_ | with_reducible refine g_sfld ?_ | with_reducible refine g_NT ?_ | with_reducible refine g_NF ?_ | with_reducible refine iteT ?_ | with_reducible refine iteF ?_ | ((with_reducible refine' g_aug ?hv ?_); (case hv => exact rfl)) | ((with_reducible refine' g_var ?hv ?_); (case hv => exact rfl)) | with_reducible refine g_I0 ?_ | with_reducible refine g_U ?_ | with_reducible refine g_eqI ?_ | with_reducible refine g_blV ?_ | with_reducible refine g_inV ?_)
local macro_rules | `(tactic| walk_at "rd") => `(tactic| repeat walk_at "rd1")
section
variable {P : Program} {w : World} {K : PySem.W.Frag} {mg : Str → Option Value} {base : Heap} {f : Addr} {fd : FuncData}
abbrev sDice : Stmt := top 34
abbrev sRoll : Stmt := top 35
abbrev sPick : Stmt := top 36
/-- more names -/
structure Txt2 (mg : Str → Option Value) : Prop where
  max : mg "max" = none
  min : mg "min" = none
  abs : mg "abs" = none
  range : mg "range" = none
  repr : mg "repr" = none
/-- the dice at d -/
def DiceAt (H : Hp) (d : Addr) : Prop := ∃ a b c : Int, H d = some (.lst [.int a, .int b, .int c]) ∧ 0 ≤ a ∧ a < 10 ^ 120 ∧ 0 ≤ b ∧ b < 2 ^ 80 ∧ 0 ≤ c
theorem fmod_lo {a n : Int} (h : 0 < n) : 0 ≤ a.fmod n := by
  rw [Int.fmod_eq_emod_of_nonneg _ (Int.le_of_lt h)]
  exact Int.emod_nonneg _ (Int.ne_of_gt h)
theorem fmod_hi {a n : Int} (h : 0 < n) : a.fmod n < n := by
  rw [Int.fmod_eq_emod_of_nonneg _ (Int.le_of_lt h)]
  exact Int.emod_lt_of_pos _ h
theorem g_fmod {H : Hp} {Q : VK} {a n : Int} (hn : 0 < n) (k : ∀ r, 0 ≤ r → r < n → Q (.int r) H) : rI (fun _ j => j ≠ 0) (fun i j => .int (i.fmod j)) (.int a) (.int n) H Q :=
  ⟨a, n, rfl, rfl, Int.ne_of_gt hn, k _ (fmod_lo hn) (fmod_hi hn)⟩
def spDice (K : PySem.W.Frag) : Sp := fun vs H Q _ => ∃ (a : Addr) (ns : List Int) (i : Nat), vs = [.ref a, .int (i : Int)] ∧ SqL K H a (ns.map V.int) ∧ i ≤ 63 ∧
  ∀ H' d, Ext H H' → H d = none → DiceAt H' d → Q (.ref d) H'
theorem scDice : FnScope ["_law_script", "_law_spot", "_law_cell", "_law_left"] ["_law_script", "_law_spot"] (defScope sDice) := ⟨rfl, rfl, rfl, by decide +kernel, rfl, by decide +kernel, by decide +kernel⟩
theorem ok_dice (F : Fun K "_law_dice" "_law_dice" sDice f fd) (T : Txt K mg) (T2 : Txt2 mg) : FnOk P w K mg base CX0 1 f fd ["_law_script", "_law_spot"] (spDice K) := by
  refine F.ok scDice (fun vs H Q E h => ?_) (fun cdv A outer s H vs Q E hr h => ?_)
  · obtain ⟨a, ns, i, rfl, _⟩ := h
    rfl
  · obtain ⟨a, ns, i, rfl, hs, hi, k⟩ := h
    refine ⟨_, pss_cons (ps_set (i := 2) scDice.nd rfl (Or.inl rfl) (pe_ifExp (pt_cmpR op_lt (pv 1) (pe_callB call_len_seq (by rfl) T.len PySem.boot_len (pa_cons (pv 0) pa_nil)) (nomark _))
          (pe_callTy call_int1 (by rfl) T.int (by decide +kernel) (pa_cons (pe_ix ix_list (pv 0) (pv 1) (fun _ _ => rfl)) pa_nil)) (pe_op op_add (pe_op op_mul pe_int (pv 1)) pe_int)))
      (pss_cons (ps_set (i := 3) scDice.nd rfl (Or.inl rfl) (pe_op op_modN (pe_callB (call_max2 rfl) (by rfl) T2.max (by decide +kernel) (pa_cons pe_int (pa_cons (pe_op op_sub (pe_callB call_abs (by rfl) T2.abs (by decide +kernel) (pa_cons (pv 2) pa_nil)) (pe_op op_pow pe_int pe_int)) pa_nil)))
          (pe_op op_mulW (pe_op op_pow pe_int pe_int) (pe_op op_pow pe_int pe_int))))
        (pss_one (ps_ret (pe_lst (pa_cons (pv 3) (pa_cons (pe_op op_add (pe_op op_add (pe_op op_add (pe_op op_mul (pe_op op_modN (pe_callB call_abs (by rfl) T2.abs (by decide +kernel) (pa_cons (pv 2) pa_nil)) pe_int) pe_int) (pe_op op_mul pe_int (pv 1)))
          (pe_op op_mul pe_int (pe_callTy call_int1 (by rfl) T.int (by decide +kernel) (pa_cons (pe_cmpR op_lt (pv 2) pe_int (nomark _)) pa_nil)))) pe_int) (pa_cons pe_int pa_nil))))))), ?_⟩
    walk_at "rd"
    refine ⟨a, _, rfl, .inl hs, ?_⟩
    walk_at "rd"
    refine ite2 (fun h1 => ?_) (fun h1 => ?_)
    have h2 := of_decide_eq_true h1
    rw [List.length_map] at h2
    have hlt : i < ns.length := by omega
    walk_at "rd"
    refine g_ixL hs (v := .int ns[i]) (atI_nat (by rw [mapget, List.getElem?_eq_getElem hlt]; rfl)) ?_
    walk_at "rd"
    refine .inl ⟨_, rfl, ?_⟩
    generalize ns[i] = c
    walk_at "rd"
    rotate_left
    walk_at "rd"
    refine g_I (.inr ⟨by omega, by omega⟩) ?_
    walk_at "rd"
    generalize (83 * (i : Int) + 61) = c
    walk_at "rd"
    all_goals
      refine g_I ⟨by decide, by decide, by decide⟩ ?_
      walk_at "rd"
      refine g_I ⟨by decide, by decide, by decide⟩ ?_
      walk_at "rd"
      refine g_I ⟨by decide, by decide, by decide⟩ ?_
      walk_at "rd"
      refine g_I (wide_mul (a := 200) (b := 200) (by decide +kernel) (by decide +kernel) (by decide) (by decide) (by decide)) ?_
      walk_at "rd"
      refine g_fmod (by decide +kernel) (fun l l0 l1 => ?_)
      walk_at "rd"
      refine g_fmod (by decide +kernel) (fun r r0 r1 => ?_)
      walk_at "rd"
      refine g_I (.inr ⟨by decide, by decide⟩) ?_
      walk_at "rd"
      refine g_I (.inl ⟨by decide, by decide⟩) ?_
      walk_at "rd"
      refine .inr ⟨_, rfl, ?_⟩
      refine g_I (.inl ⟨by decide, by decide⟩) ?_
      walk_at "rd"
      refine ⟨by show 3 ≤ sizeLine; decide, fun d hd => ?_⟩
      have l1' : l < 10 ^ 120 := Int.lt_of_lt_of_le l1 (by decide +kernel)
      refine k _ d (Ext.new hd) hd ⟨l, _, 0, upd_same, l0, l1', ?_, ?_, Int.le_refl _⟩
      · split <;> omega
      · split <;> omega

/-! ### a roll -/
def spRoll : Sp := fun vs H Q _ => ∃ (d : Addr) (n : Int), vs = [.ref d, .int n] ∧ DiceAt H d ∧ 0 < n ∧ n < 2 ^ 1000 ∧
  ∀ H' r, ExtBut d H H' → DiceAt H' d → 0 ≤ r → r < n → Q (.int r) H'
theorem scRoll : FnScope ["_law_dice_here", "_law_total", "_law_found", "_law_one", "_law_two"] ["_law_dice_here", "_law_total"] (defScope sRoll) := ⟨rfl, rfl, rfl, by decide +kernel, rfl, by decide +kernel, by decide +kernel⟩
theorem ok_roll (F : Fun K "_law_roll" "_law_roll" sRoll f fd) (T : Txt K mg) : FnOk P w K mg base CX0 1 f fd ["_law_dice_here", "_law_total"] spRoll := by
  refine F.ok scRoll (fun vs H Q E h => ?_) (fun cdv A outer s H vs Q E hr h => ?_)
  · obtain ⟨d, n, rfl, _⟩ := h
    rfl
  · obtain ⟨d, n, rfl, ⟨a, b, c, hd, a0, a1, b0, b1, c0⟩, n0, n1, k⟩ := h
    refine ⟨_, pss_cons (ps_if (pt_cmpR op_gt (pe_ix ix_list (pv 0) pe_int (fun _ _ => rfl)) pe_int (nomark _))
        (pss_cons (ps_set (i := 2) scRoll.nd rfl (Or.inl rfl) (pe_op op_modN (pe_callTy call_int1 (by rfl) T.int (by decide +kernel) (pa_cons (pe_ix ix_list (pv 0) pe_int (fun _ _ => rfl)) pa_nil)) (pv 1)))
          (pss_cons (ps_asg (pe_op op_fdivW (pe_ix ix_list (pv 0) pe_int (fun _ _ => rfl)) (pv 1)) (pg_sub (pv 0) pe_int set_list)) (pss_one (ps_ret (pv 2))))) pss_nil)
      (pss_cons (ps_asg (pe_op op_add (pe_ix ix_list (pv 0) pe_int (fun _ _ => rfl)) pe_int) (pg_sub (pv 0) pe_int set_list))
        (pss_cons (ps_set (i := 3) scRoll.nd rfl (Or.inl rfl) (pe_op op_modN (pe_callTy call_int1 (by rfl) T.int (by decide +kernel) (pa_cons (pe_op op_add (pe_ix ix_list (pv 0) pe_int (fun _ _ => rfl)) (pe_op op_mul pe_int (pe_ix ix_list (pv 0) pe_int (fun _ _ => rfl)))) pa_nil)) pe_int))
          (pss_cons (ps_set (i := 4) scRoll.nd rfl (Or.inl rfl) (pe_op op_add (pe_op op_mul (pe_op op_modN (pe_callTy call_int1 (by rfl) T.int (by decide +kernel)
              (pa_cons (pe_op op_add (pe_op op_mul (pv 3) (pv 3)) (pe_op op_mul pe_int (pe_ix ix_list (pv 0) pe_int (fun _ _ => rfl)))) pa_nil)) pe_int) pe_int) (pv 3)))
            (pss_one (ps_ret (pe_op op_modN (pe_callTy call_int1 (by rfl) T.int (by decide +kernel) (pa_cons (pe_op op_fdiv (pv 4) pe_int) pa_nil)) (pv 1))))))), ?_⟩
    walk_at "rd"
    refine g_ixL (SqL.of hd) (v := .int a) rfl ?_
    walk_at "rd"
    refine ite2 (fun h1 => ?_) (fun h1 => ?_)
    · walk_at "rd"
      refine g_ixL (SqL.of hd) (v := .int a) rfl ?_
      walk_at "rd"
      refine .inl ⟨_, rfl, ?_⟩
      walk_at "rd"
      refine g_fmod n0 (fun r r0 r1 => ?_)
      walk_at "rd"
      refine g_ixL (SqL.of hd) (v := .int a) rfl ?_
      walk_at "rd"
      refine g_I (wide_div (b := 1000) n0 (by omega) (by decide) (by decide)) ?_
      walk_at "rd"
      refine ⟨d, _, _, 0, rfl, rfl, hd, rfl, ?_⟩
      walk_at "rd"
      refine k _ r (fun x o hx q => by rw [upd_ne hx]; exact q) ⟨a / n, b, c, upd_same, Int.ediv_nonneg a0 (Int.le_of_lt n0), Int.lt_of_le_of_lt (Int.ediv_le_self _ a0) a1, b0, b1, c0⟩ r0 r1
    · walk_at "rd"
      refine g_ixL (SqL.of hd) (v := .int c) rfl ?_
      walk_at "rd"
      refine ⟨d, _, _, 2, rfl, rfl, hd, rfl, ?_⟩
      walk_at "rd"
      have hd2 : upd H d (.lst (List.set [V.int a, V.int b, V.int c] 2 (V.int (c + 1)))) d = some (.lst [.int a, .int b, .int (c + 1)]) := upd_same
      generalize hH2 : upd H d (.lst (List.set [V.int a, V.int b, V.int c] 2 (V.int (c + 1)))) = H2 at hd2 ⊢
      have e2 : ExtBut d H H2 := fun x o hx q => by rw [← hH2, upd_ne hx]; exact q
      refine g_ixL (SqL.of hd2) (v := .int b) rfl ?_
      walk_at "rd"
      refine g_ixL (SqL.of hd2) (v := .int (c + 1)) rfl ?_
      refine g_I (.inl ⟨by decide, by decide⟩) ?_
      walk_at "rd"
      refine .inl ⟨_, rfl, ?_⟩
      walk_at "rd"
      refine g_fmod (by decide) (fun r r0 r1 => ?_)
      walk_at "rd"
      refine g_I (.inl ⟨by omega, by omega⟩) ?_
      walk_at "rd"
      refine g_ixL (SqL.of hd2) (v := .int (c + 1)) rfl ?_
      refine g_I (.inl ⟨by decide, by decide⟩) ?_
      walk_at "rd"
      refine .inl ⟨_, rfl, ?_⟩
      walk_at "rd"
      refine g_fmod (by decide) (fun t t0 t1 => ?_)
      walk_at "rd"
      refine g_I (.inr ⟨by decide, by decide⟩) ?_
      walk_at "rd"
      refine g_I ⟨by decide, by decide⟩ ?_
      walk_at "rd"
      refine .inl ⟨_, rfl, ?_⟩
      walk_at "rd"
      refine g_fmod n0 (fun z z0 z1 => ?_)
      exact k _ z e2 ⟨a, b, c + 1, hd2, a0, a1, b0, b1, by omega⟩ z0 z1
end
end K0

set_option Elab.async false
set_option linter.all false
set_option maxRecDepth 100000
set_option maxHeartbeats 4000000
/-! Picks, and drawn factors. -/
namespace K0
open PySem PySem.Spec PyProof.Rows L2 Gd
local macro_rules | `(tactic| walk_at "rd1") => `(tactic| first | with_reducible refine g_ret ?_ | with_reducible refine g_retN ?_ | with_reducible refine g_seq ?_ | with_reducible refine g_next ?_ | with_reducible refine g_drop ?_ | with_reducible refine g_asg ?_ | with_reducible refine g_name ?_ | with_reducible refine g_ifs ?_ | with_reducible refine g_test ?_ | with_reducible refine g_tb ?_ | with_reducible refine g_and ?_ | with_reducible refine g_or ?_ | with_reducible refine g_not ?_ | with_reducible refine g_andV ?_ | with_reducible refine g_orV ?_ | with_reducible refine g_notV ?_ | with_reducible refine g_if ?_ | with_reducible refine g_op ?_ | with_reducible refine g_un ?_ | with_reducible refine g_cb ?_ | with_reducible refine g_nil ?_ | with_reducible refine g_cons ?_ | with_reducible refine g_call ?_ | with_reducible refine g_callS ?_ | with_reducible refine g_tup ?_ | with_reducible refine g_lst ?_ | with_reducible refine g_isN ?_ | with_reducible refine g_sl ?_ | with_reducible refine g_nopart ?_ | with_reducible refine g_part ?_ | with_reducible refine g_chain ?_ | with_reducible refine g_fld ?_ | with_reducible refine g_prop ?_ | with_reducible refine g_bm ?_ | with_reducible refine g_bm0 ?_ | with_reducible refine g_c ?_ | with_reducible refine g_sub ?_ | with_reducible refine g_int1 ?_ | with_reducible refine g_int2 ?_ | with_reducible refine g_yes ?_ | with_reducible refine g_sfld ?_ | with_reducible refine g_NT ?_ | with_reducible refine g_NF ?_ | with_reducible refine iteT ?_ | with_reducible refine iteF ?_ | ((with_reducible refine' g_aug ?hv ?_); (case hv => exact rfl)) | ((with_reducible refine' g_var ?hv ?_); (case hv => exact rfl)) | with_reducible refine g_I0 ?_ | with_reducible refine g_U ?_ | with_reducible refine g_eqI ?_ | with_reducible refine g_blV ?_ | with_reducible refine g_inV ?_)
local macro_rules | `(tactic| walk_at "rd") => `(tactic| repeat walk_at "rd1")
section
variable {P : Program} {w : World} {K : PySem.W.Frag} {mg : Str → Option Value} {base : Heap} {f : Addr} {fd : FuncData}
structure AtR (K : PySem.W.Frag) (mg : Str → Option Value) (f : Addr) (fd : FuncData) : Prop where
  F : Fun K "_law_roll" "_law_roll" sRoll f fd
  b : Binds K fd ["_law_dice_here", "_law_total"] []
  g : mg "_law_roll" = some (.ref f)
theorem sqL_but {H H' : Hp} {d l : Addr} {xs : List V} (e : ExtBut d H H') (n : l ≠ d) (h : SqL K H l xs) : SqL K H' l xs := by
  rcases h with (h | ⟨o, h⟩) | h
  · exact .inl (.inl (e _ _ n h))
  · exact .inl (.inr ⟨o, e _ _ n h⟩)
  · exact .inr h
theorem sqT_but {H H' : Hp} {d l : Addr} {xs : List V} (e : ExtBut d H H') (n : l ≠ d) (h : SqT K H l xs) : SqT K H' l xs := by
  rcases h with (h | ⟨o, h⟩) | h
  · exact .inl (.inl (e _ _ n h))
  · exact .inl (.inr ⟨o, e _ _ n h⟩)
  · exact .inr h
theorem ExtBut.trans {d : Addr} {H H1 H2 : Hp} (a : ExtBut d H H1) (b : ExtBut d H1 H2) : ExtBut d H H2 := fun x o n h => b x o n (a x o n h)
theorem ExtBut.of {d : Addr} {H H1 : Hp} (a : Ext H H1) : ExtBut d H H1 := fun x o _ h => a x o h
theorem DiceAt.ext {d : Addr} {H H1 : Hp} (e : Ext H H1) (h : DiceAt H d) : DiceAt H1 d := by
  obtain ⟨a, b, c, h, r⟩ := h
  exact ⟨a, b, c, e _ _ h, r⟩
/-! ### pick -/
def spPick (K : PySem.W.Frag) : Sp := fun vs H Q _ => ∃ (d l : Addr) (xs : List V), vs = [.ref d, .ref l] ∧ DiceAt H d ∧ SqL K H l xs ∧ l ≠ d ∧ 0 < xs.length ∧ xs.length ≤ 1000 ∧
  ∀ H' x, ExtBut d H H' → DiceAt H' d → x ∈ xs → Q x H'
theorem scPick : FnScope ["_law_dice_here", "_law_items"] ["_law_dice_here", "_law_items"] (defScope sPick) := ⟨rfl, rfl, rfl, by decide +kernel, rfl, by decide +kernel, by decide +kernel⟩
theorem ok_pick {fR : Addr} {fdR : FuncData} (F : Fun K "_law_pick" "_law_pick" sPick f fd) (T : Txt K mg) (R : AtR K mg fR fdR) : FnOk P w K mg base CX0 2 f fd ["_law_dice_here", "_law_items"] (spPick K) := by
  have GR : FnOk P w K mg base CX0 1 fR fdR ["_law_dice_here", "_law_total"] spRoll := ok_roll R.F T
  refine F.ok scPick (fun vs H Q E h => ?_) (fun cdv A outer s H vs Q E hr h => ?_)
  · obtain ⟨d, l, xs, rfl, _⟩ := h
    rfl
  · obtain ⟨d, l, xs, rfl, hd, hl, ne, l0, l1, k⟩ := h
    refine ⟨_, pss_one (ps_ret (pe_ix ix_list (pv 1) (pe_call GR hr (by rfl) R.g R.F.kp R.b .nil pass0 (pa_cons (pv 0) (pa_cons (pe_callB call_len_seq (by rfl) T.len PySem.boot_len (pa_cons (pv 1) pa_nil)) pa_nil))) (fun _ _ => rfl))), ?_⟩
    walk_at "rd"
    refine ⟨l, xs, rfl, .inl hl, ?_⟩
    walk_at "rd"
    refine ⟨d, _, rfl, hd, by omega, by omega, ?_⟩
    intro H' r e hd' r0 r1
    have hlt : r.toNat < xs.length := by omega
    have er : r = (r.toNat : Int) := by omega
    rw [er]
    exact g_ixL (sqL_but e ne hl) (atI_nat (List.getElem?_eq_getElem hlt)) (k _ _ e hd' (List.getElem_mem hlt))
/-! ### the law's own trimming -/
abbrev sLTrim : Stmt := top 37
def spLTrim (K : PySem.W.Frag) : Sp := fun vs H Q _ => ∃ (a : Addr) (ns : List Int), vs = [.ref a] ∧ (SqL K H a (ns.map V.int) ∨ SqT K H a (ns.map V.int)) ∧ ns.length ≤ 100000 ∧
  ∀ H' u, Ext H H' → SqT K H' u ((trim ns).map V.int) → Q (.ref u) H'
def muL (i : Nat) : L2.St → Hp → Nat := fun σ H => match σ[i]? with | some (some (.ref l)) => (match H l with | some (.lst xs) => xs.length | _ => 0) | _ => 0
def PvL (a : Addr) (H0 : Hp) (ns : List Int) : L2.St → Hp → Prop := fun σ H' => ∃ (l : Addr) (e : Nat), σ = [some (.ref a), some (.ref l)] ∧ H0 l = none ∧ Ext H0 H' ∧ H' l = some (.lst ((ns.take e).map V.int)) ∧
  e ≤ ns.length ∧ ∀ j x, e ≤ j → ns[j]? = some x → x = 0
theorem scLTrim : FnScope ["_law_factors_here", "_law_found"] ["_law_factors_here"] (defScope sLTrim) := ⟨rfl, rfl, rfl, by decide +kernel, rfl, by decide +kernel, by decide +kernel⟩
theorem shaped_lst (ns : List Int) : SeqAt.shaped (.list (idata ns)) = true := by
  unfold SeqAt.shaped
  rw [show PyData.canLay0 (.list (idata ns)) = PyData.canLayAll0 (idata ns) from rfl, lay_ints, show PyData.depth (.list (idata ns)) = PyData.depthAll (idata ns) + 1 from rfl, deep_ints]
  rfl
theorem ok_ltrim (F : Fun K "_law_trimmed" "_law_trimmed" sLTrim f fd) (T : Txt K mg) : FnOk P w K mg base CX0 1 f fd ["_law_factors_here"] (spLTrim K) := by
  refine F.ok scLTrim (fun vs H Q E h => ?_) (fun cdv A outer s H vs Q E hr h => ?_)
  · obtain ⟨a, ns, rfl, _⟩ := h
    rfl
  · obtain ⟨a, ns, rfl, hs, hl, k⟩ := h
    refine ⟨_, pss_cons (ps_set (i := 1) scLTrim.nd rfl (Or.inl rfl) (pe_callTy call_list_of (by rfl) T.list (by decide +kernel) (pa_cons (pv 0) pa_nil)))
      (pss_cons (ps_while PassesOwn.never (PW.pt (pw_and (pt_cmpR (op_neD hr.units) (pv 1) (pe_lst pa_nil) (nomark _)) (pw_and1 (pt_cmpR op_eq (pe_ix ix_list (pv 1) (pe_un un_neg pe_int) (fun _ _ => rfl)) pe_int (nomark _)))))
          (pss_one (ps_expr (pe_bm0 PySem.F.plainAttrs_list PySem.F.slot_list_pop PySem.F.type_list_pop mt_pop (pv 1)))))
        (pss_one (ps_ret (pe_callTy call_tuple_of (by rfl) T.tuple (by decide +kernel) (pa_cons (pv 1) pa_nil))))), ?_⟩
    walk_at "rd"
    refine ⟨a, _, rfl, hs, fun l hl0 => ?_⟩
    walk_at "rd"
    refine g_while (PvL a H ns) (muL 1) ⟨l, ns.length, rfl, hl0, Ext.new hl0, by rw [List.take_length]; exact upd_same, Nat.le_refl _, fun j x g e => by
        rw [List.getElem?_eq_none_iff.mpr g] at e
        cases e⟩ ?_
    rintro σ H1 ⟨l, e, rfl, hl0, e1, hL, he, hz⟩
    walk_at "rd"
    refine ⟨Nat.zero_le _, fun p hp => ?_⟩
    have e2 : Ext H1 (upd H1 p (.lst [])) := Ext.new hp
    have hL2 := e2 _ _ hL
    have npl : l ≠ p := ne_of_none hL hp
    refine ⟨.list (idata (ns.take e)), .list [], .lst (SqL.of hL2) (dp_ints _), .lst (SqL.of upd_same) .nil, shaped_lst _, by rfl, ?_⟩
    have ev : PyData.eqv (.list (idata (ns.take e))) (.list []) = decide (ns.take e = []) := eqv_ints (ns.take e) []
    rw [ev]
    generalize upd H1 p (.lst []) = H2 at e2 hL2
    have fin : (e = 0 ∨ ∃ x, ns[e - 1]? = some x ∧ x ≠ 0) → tRet (tCB (fun xs H Q => ∃ p ys, xs = [.ref p] ∧ ((SqL K H p ys ∧ ∀ l, H l = none → Q (.ref l) (upd H l (.tup ys))) ∨ (SqT K H p ys ∧ Q (.ref p) H))) (tCons (tVar 1) tNil))
        { nx := fun x H' => Q V.non H', rt := Q } [some (V.ref a), some (V.ref l)] H2 := by
      intro hl'
      have et := trim_take ns e he hz hl'
      walk_at "rd"
      refine ⟨l, _, rfl, .inl ⟨SqL.of hL2, fun u hu => ?_⟩⟩
      refine k _ u (Ext.trans e1 (Ext.trans e2 (Ext.new hu))) ?_
      rw [et]
      exact SqT.of upd_same
    walk_at "rd"
    refine ite2 (fun h1 => ?_) (fun h1 => ?_)
    · have ne0 : ns.take e ≠ [] := by
        intro z
        rw [z] at h1
        exact absurd h1 (by decide)
      have e0 : 0 < e := by
        rcases Nat.eq_zero_or_pos e with z | z
        · rw [z] at ne0
          exact absurd rfl ne0
        · exact z
      have hlt : e - 1 < ns.length := by omega
      have tk : ns.take e = ns.take (e - 1) ++ [ns[e - 1]] := by
        have := take_one (l := ns) (i := e - 1) hlt
        rw [show e - 1 + 1 = e by omega] at this
        exact this
      walk_at "rd"
      refine g_ixL (SqL.of hL2) (v := .int ns[e - 1]) ?_ ?_
      · rw [tk, List.map_append]
        exact atI_last _ _
      walk_at "rd"
      refine ite2 (fun h2 => ?_) (fun h2 => ?_)
      · refine g_turn ?_
        walk_at "rd"
        refine ⟨.inl ⟨rfl, _, SqL.of hL2⟩, ?_⟩
        refine ⟨l, _, .int ns[e - 1], rfl, rfl, hL2, ?_, ?_⟩
        · rw [tk, List.map_append]
          simp
        · have dl : ((ns.take e).map V.int).dropLast = (ns.take (e - 1)).map V.int := by
            rw [tk, List.map_append]
            exact List.dropLast_concat
          rw [dl]
          refine ⟨⟨l, e - 1, rfl, hl0, fun b o q => ?_, upd_same, by omega, fun j x g q => ?_⟩, ?_⟩
          · rw [upd_ne (ne_of_none q hl0)]
            exact e2 _ _ (e1 _ _ q)
          · by_cases hj : j = e - 1
            · subst hj
              rw [List.getElem?_eq_getElem hlt] at q
              cases q
              exact of_decide_eq_true h2
            · exact hz j x (by omega) q
          · show muL 1 [some (.ref a), some (.ref l)] _ < muL 1 [some (.ref a), some (.ref l)] H1
            unfold muL
            simp only [List.getElem?_cons_succ, List.getElem?_cons_zero, upd_same, hL, List.length_map, List.length_take]
            omega
      · exact fin (.inr ⟨_, List.getElem?_eq_getElem hlt, fun z => h2 (decide_eq_true z)⟩)
    · refine iteF (fin (.inl ?_))
      have z : ns.take e = [] := by
        by_cases z : ns.take e = []
        · exact z
        · rw [decide_eq_false z] at h1
          exact absurd rfl h1
      rcases List.take_eq_nil_iff.mp z with z | z
      · exact z
      · subst z
        simpa using he
end
end K0

set_option Elab.async false
set_option linter.all false
set_option maxRecDepth 100000
set_option maxHeartbeats 4000000
/-! Drawn factors. -/
namespace K0
open PySem PySem.Spec PyProof.Rows L2 Gd
local macro_rules | `(tactic| walk_at "rd1") => `(tactic| first | with_reducible refine g_ret ?_ | with_reducible refine g_retN ?_ | with_reducible refine g_seq ?_ | with_reducible refine g_next ?_ | with_reducible refine g_drop ?_ | with_reducible refine g_asg ?_ | with_reducible refine g_name ?_ | with_reducible refine g_ifs ?_ | with_reducible refine g_test ?_ | with_reducible refine g_tb ?_ | with_reducible refine g_and ?_ | with_reducible refine g_or ?_ | with_reducible refine g_not ?_ | with_reducible refine g_andV ?_ | with_reducible refine g_orV ?_ | with_reducible refine g_notV ?_ | with_reducible refine g_if ?_ | with_reducible refine g_op ?_ | with_reducible refine g_un ?_ | with_reducible refine g_cb ?_ | with_reducible refine g_nil ?_ | with_reducible refine g_cons ?_ | with_reducible refine g_call ?_ | with_reducible refine g_callS ?_ | with_reducible refine g_tup ?_ | with_reducible refine g_lst ?_ | with_reducible refine g_isN ?_ | with_reducible refine g_sl ?_ | with_reducible refine g_nopart ?_ | with_reducible refine g_part ?_ | with_reducible refine g_chain ?_ | with_reducible refine g_fld ?_ | with_reducible refine g_prop ?_ | with_reducible refine g_bm ?_ | with_reducible refine g_bm0 ?_ | with_reducible refine g_c ?_ | with_reducible refine g_sub ?_ | with_reducible refine g_int1 ?_ | with_reducible refine g_int2 ?_ | with_reducible refine g_yes ?_ | with_reducible refine g_sfld ?_ | with_reducible refine g_NT ?_ | with_reducible refine g_NF ?_ | with_reducible refine iteT ?_ | with_reducible refine iteF ?_ | ((with_reducible refine' g_aug ?hv ?_); (case hv => exact rfl)) | ((with_reducible refine' g_var ?hv ?_); (case hv => exact rfl)) | with_reducible refine g_I0 ?_ | with_reducible refine g_U ?_ | with_reducible refine g_eqI ?_ | with_reducible refine g_blV ?_ | with_reducible refine g_inV ?_)
local macro_rules | `(tactic| walk_at "rd") => `(tactic| repeat walk_at "rd1")
section
variable {P : Program} {w : World} {K : PySem.W.Frag} {mg : Str → Option Value} {base : Heap} {f : Addr} {fd : FuncData}
abbrev sFactors : Stmt := top 38
theorem dice_ne {H : Hp} {d l : Addr} {o : HO} (h : DiceAt H d) (e : H l = some o) (n : ∀ xs, o ≠ .lst xs) : l ≠ d := by
  obtain ⟨a, b, c, h, _⟩ := h
  intro z
  subst z
  rw [e] at h
  cases h
  exact n _ rfl
theorem dice_none {H : Hp} {d l : Addr} (h : DiceAt H d) (e : H l = none) : l ≠ d := by
  obtain ⟨a, b, c, h, _⟩ := h
  intro z
  subst z
  rw [e] at h
  cases h
theorem DiceAt.upd {H : Hp} {d l : Addr} {o : HO} (h : DiceAt H d) (n : l ≠ d) : DiceAt (upd H l o) d := by
  obtain ⟨a, b, c, h, r⟩ := h
  exact ⟨a, b, c, by rw [upd_ne (Ne.symm n)]; exact h, r⟩
def spFactors : Sp := fun vs H Q _ => ∃ (d : Addr) (m z : Int), vs = [.ref d, .int m, .int z] ∧ DiceAt H d ∧ 0 ≤ m ∧ m ≤ 1000 ∧ 0 ≤ z ∧ z < 2 ^ 500 ∧
  ∀ H' u (ns : List Int), ExtBut d H H' → DiceAt H' d → H u = none → H' u = some (.tup (ns.map V.int)) → (ns.length : Int) ≤ m → (∀ n ∈ ns, -z ≤ n ∧ n ≤ z) → Q (.ref u) H'
def PvF (d l : Addr) (m z : Int) (H0 : Hp) (i : Nat) : L2.St → Hp → Prop := fun σ H' => ∃ (t : Option V) (ns : List Int), σ = [some (.ref d), some (.int m), some (.int z), some (.ref l), t] ∧ H0 l = none ∧ ExtBut d H0 H' ∧ DiceAt H' d ∧
  H' l = some (.lst (ns.map V.int)) ∧ ns.length = i ∧ ∀ n ∈ ns, -z ≤ n ∧ n ≤ z
theorem scFactors : FnScope ["_law_dice_here", "_law_most", "_law_size", "_law_found", "_law_turn"] ["_law_dice_here", "_law_most", "_law_size"] (defScope sFactors) := ⟨rfl, rfl, rfl, by decide +kernel, rfl, by decide +kernel, by decide +kernel⟩
theorem ok_lfactors {fR : Addr} {fdR : FuncData} (F : Fun K "_law_factors" "_law_factors" sFactors f fd) (T : Txt K mg) (T2 : Txt2 mg) (R : AtR K mg fR fdR) : FnOk P w K mg base CX0 2 f fd ["_law_dice_here", "_law_most", "_law_size"] spFactors := by
  have GR : FnOk P w K mg base CX0 1 fR fdR ["_law_dice_here", "_law_total"] spRoll := ok_roll R.F T
  refine F.ok scFactors (fun vs H Q E h => ?_) (fun cdv A outer s H vs Q E hr h => ?_)
  · obtain ⟨d, m, z, rfl, _⟩ := h
    rfl
  · obtain ⟨d, m, z, rfl, hd, m0, m1, z0, z1, k⟩ := h
    refine ⟨_, pss_cons (ps_set (i := 3) scFactors.nd rfl (Or.inl rfl) (pe_lst pa_nil))
      (pss_cons (ps_for PassesOwn.never rfl (pi_range1 (by rfl) T2.range (pa_cons (pe_call GR hr (by rfl) R.g R.F.kp R.b .nil pass0 (pa_cons (pv 0) (pa_cons (pe_op op_add (pv 1) pe_int) pa_nil))) pa_nil)) (pg_name (i := 4) scFactors.nd rfl (Or.inl rfl))
          (pss_one (ps_expr (pe_bm PySem.F.plainAttrs_list PySem.F.slot_list_append PySem.F.type_list_append mt_append (pv 3)
            (pa_cons (pe_ifExp (pt_cmpR op_eq (pe_call GR hr (by rfl) R.g R.F.kp R.b .nil pass0 (pa_cons (pv 0) (pa_cons pe_int pa_nil))) pe_int (nomark _)) pe_int
              (pe_op op_sub (pe_call GR hr (by rfl) R.g R.F.kp R.b .nil pass0 (pa_cons (pv 0) (pa_cons (pe_op op_add (pe_op op_mul pe_int (pv 2)) pe_int) pa_nil))) (pv 2))) pa_nil)))))
        (pss_one (ps_ret (pe_callTy call_tuple_of (by rfl) T.tuple (by decide +kernel) (pa_cons (pv 3) pa_nil))))), ?_⟩
    walk_at "rd"
    refine ⟨Nat.zero_le _, fun l hl => ?_⟩
    walk_at "rd"
    have ld : l ≠ d := dice_none hd hl
    refine g_forR ?_
    walk_at "rd"
    refine ⟨d, _, rfl, hd.upd ld, by omega, by omega, fun H1 r e1 hd1 r0 r1 => ?_⟩
    walk_at "rd"
    refine ⟨by omega, by omega, ?_⟩
    have hl1 := e1 _ _ ld (upd_same (H := H) (o := HO.lst []))
    refine for_range (PvF d l m z H) ⟨_, [], rfl, hl, ExtBut.trans (ExtBut.of (Ext.new hl)) e1, hd1, hl1, rfl, fun n hn => nomatch hn⟩ ?_ ?_
    · rintro i σ H2 hi ⟨t, ns, rfl, _, e2, hd2, hl2, hlen, hb⟩
      walk_at "rd"
      refine ⟨.inl ⟨rfl, _, SqL.of hl2⟩, ?_⟩
      walk_at "rd"
      have go : ∀ (H3 : Hp) (x : Int), ExtBut d H2 H3 → DiceAt H3 d → -z ≤ x → x ≤ z → rAppend (.ref l) [.int x] H3 fun _ H' => PvF d l m z H (i + 1) [some (.ref d), some (.int m), some (.int z), some (.ref l), some (.int (0 + (i : Int)))] H' := by
        intro H3 x e3 hd3 x0 x1
        have hl3 := e3 _ _ ld hl2
        refine ⟨l, _, _, rfl, rfl, hl3, ?_, ?_⟩
        · rw [List.length_map, hlen]
          show i < sizeLine
          have : (1000 : Nat) < sizeLine := by decide
          omega
        · refine ⟨_, ns ++ [x], rfl, hl, fun y o hy q => ?_, hd3.upd ld, ?_, ?_, ?_⟩
          · by_cases hyl : y = l
            · subst hyl
              rw [hl] at q
              cases q
            · rw [upd_ne hyl]
              exact e3 _ _ hy (e2 _ _ hy q)
          · rw [List.map_append]
            exact upd_same
          · rw [List.length_append, hlen]
            rfl
          · intro n hn
            rcases List.mem_append.mp hn with hn | hn
            · exact hb n hn
            · rw [List.mem_singleton] at hn
              subst hn
              exact ⟨x0, x1⟩
      refine ⟨d, _, rfl, hd2, by decide, by decide, fun H3 r3 e3 hd3 r30 r31 => ?_⟩
      walk_at "rd"
      refine ite2 (fun h1 => ?_) (fun h1 => ?_)
      · walk_at "rd"
        exact go H3 0 e3 hd3 (by omega) z0
      · walk_at "rd"
        refine g_I (.inl ⟨by decide, by decide⟩) ?_
        walk_at "rd"
        refine ⟨d, _, rfl, hd3, by omega, by omega, fun H4 r4 e4 hd4 r40 r41 => ?_⟩
        walk_at "rd"
        exact go H4 (r4 - z) (e3.trans e4) hd4 (by omega) (by omega)
    · rintro σ H2 ⟨t, ns, rfl, _, e2, hd2, hl2, hlen, hb⟩
      walk_at "rd"
      refine ⟨l, _, rfl, .inl ⟨SqL.of hl2, fun u hu => ?_⟩⟩
      have ud : u ≠ d := dice_none hd2 hu
      refine k _ u ns (ExtBut.trans e2 (ExtBut.of (Ext.new hu))) (hd2.upd ud) ?_ upd_same (by omega) hb
      cases q : H u with
      | none => rfl
      | some o => 
        have := e2 _ _ ud q
        rw [hu] at this
        cases this
end
end K0

set_option Elab.async false
set_option linter.all false
set_option maxRecDepth 100000
set_option maxHeartbeats 4000000
/-! A wrong index. -/
namespace K0
open PySem PySem.Spec PyProof.Rows L2 Gd
local macro_rules | `(tactic| walk_at "rd1") => `(tactic| first | with_reducible refine g_ret ?_ | with_reducible refine g_retN ?_ | with_reducible refine g_seq ?_ | with_reducible refine g_next ?_ | with_reducible refine g_drop ?_ | with_reducible refine g_asg ?_ | with_reducible refine g_name ?_ | with_reducible refine g_ifs ?_ | with_reducible refine g_test ?_ | with_reducible refine g_tb ?_ | with_reducible refine g_and ?_ | with_reducible refine g_or ?_ | with_reducible refine g_not ?_ | with_reducible refine g_andV ?_ | with_reducible refine g_orV ?_ | with_reducible refine g_notV ?_ | with_reducible refine g_if ?_ | with_reducible refine g_op ?_ | with_reducible refine g_un ?_ | with_reducible refine g_cb ?_ | with_reducible refine g_nil ?_ | with_reducible refine g_cons ?_ | with_reducible refine g_call ?_ | with_reducible refine g_callS ?_ | with_reducible refine g_tup ?_ | with_reducible refine g_lst ?_ | with_reducible refine g_isN ?_ | with_reducible refine g_sl ?_ | with_reducible refine g_nopart ?_ | with_reducible refine g_part ?_ | with_reducible refine g_chain ?_ | with_reducible refine g_fld ?_ | with_reducible refine g_prop ?_ | with_reducible refine g_bm ?_ | with_reducible refine g_bm0 ?_ | with_reducible refine g_c ?_ | with_reducible refine g_sub ?_ | with_reducible refine g_int1 ?_ | with_reducible refine g_int2 ?_ | with_reducible refine g_yes ?_ | with_reducible refine g_sfld ?_ | with_reducible refine g_NT ?_ | with_reducible refine g_NF ?_ | with_reducible refine iteT ?_ | with_reducible refine iteF ?_ | ((with_reducible refine' g_aug ?hv ?_); (case hv => exact rfl)) | ((with_reducible refine' g_var ?hv ?_); (case hv => exact rfl)) | with_reducible refine g_I0 ?_ | with_reducible refine g_U ?_ | with_reducible refine g_eqI ?_ | with_reducible refine g_blV ?_ | with_reducible refine g_inV ?_)
local macro_rules | `(tactic| walk_at "rd") => `(tactic| repeat walk_at "rd1")
section
variable {P : Program} {w : World} {K : PySem.W.Frag} {mg : Str → Option Value} {base : Heap} {f : Addr} {fd : FuncData}
abbrev sAtIndex : Stmt := top 39
/-- where __getitem__ stands -/
structure AtG (K : PySem.W.Frag) (C f : Addr) (fd : FuncData) : Prop where
  F : Fun K "__getitem__" "Poly.__getitem__" (cls 15) f fd
  b : Binds K fd ["self", "index"] []
  m : Meth K C "__getitem__" f
  n : PySem.W.fnIn K f = true
def spAtIndex (K : PySem.W.Frag) (C : Addr) : Sp := fun vs H Q _ => ∃ (p u : Addr) (ns : List Int) (y : V), vs = [.ref p, y] ∧ PolyU K C H p u ns ∧ IndexOk K H y false ∧
  ∀ H' t, Ext H H' → H' t = some (.tup [.str "number", y]) → Q (.ref t) H'
def t_sAt (CN : Addr) : Addr → Value → Option Addr → TS := fun a cls d => tRet (tTup (tCons (tC (.str "number")) (tCons (tByInvalidNumber CN a cls d (tVar 2)) tNil)))
theorem scAtIndex : FnScope ["_law_poly", "_law_index", "e"] ["_law_poly", "_law_index"] (defScope sAtIndex) := ⟨rfl, rfl, rfl, by decide +kernel, rfl, by decide +kernel, by decide +kernel⟩
theorem ok_atIndex {fW fI fX CN fC fG C : Addr} {fdW fdI fdX fdG : FuncData} (F : Fun K "_law_at_index" "_law_at_index" sAtIndex f fd) (T : Txt K mg) (Cl : PC K mg C) (W : AtW K mg fW fdW) (I : AtI K mg fI fdI) (X : AtX K mg fX fdX)
    (N : PySem.XInvalidNumber.InvalidNumberTxt K mg CN fC) (G : AtG K C fG fdG) : FnOk P w K mg base CX0 7 f fd ["_law_poly", "_law_index"] (spAtIndex K C) := by
  have GG : FnOk P w K mg base (L2.CX P w) 5 fG fdG ["self", "index"] (spItem K C CN) := ok_item G.F T Cl W I X N
  refine F.ok scAtIndex (fun vs H Q E h => ?_) (fun cdv A outer s H vs Q E hr h => ?_)
  · obtain ⟨p, u, ns, y, rfl, _⟩ := h
    rfl
  · obtain ⟨p, u, ns, y, rfl, hp, hi, k⟩ := h
    refine ⟨_, pss_one (ps_try_as (i := 2) (tb := fun W => tRet (tIxO C (spItem K C CN) (WE W) (tVar 0) (tVar 1))) (ts := t_sAt CN) (Wout := fun _ _ _ _ => False) rfl rfl scAtIndex.nd rfl rfl ⟨rfl, by decide, Or.inl N.gC⟩ takes0
          (fun W pn xe tk _ => pss_one (ps_ret (by exact (pe_ixO G.m G.n GG hr G.b (fun σ => passAt tk σ) (pv 0) (pv 1)))))
          (fun a oe cls d pn hz hf => pss_one (ps_ret (by exact (pe_tup (pa_cons pe_str (pa_cons (pe_byInvalidNumber N hz hf (pv 2)) pa_nil))))))), ?_⟩
    obtain ⟨⟨dx, ep⟩, hu, hl⟩ := id hp
    refine ⟨_, rfl, _, rfl, p, dx, _, rfl, ep, p, u, ns, y, false, rfl, hp, hi, fun z => Bool.noConfusion z, fun _ d hd => ?_⟩
    refine ⟨true, N.te, fun _ a0 _ => ?_, fun q => Bool.noConfusion q⟩
    refine ⟨_, rfl, rfl, rfl, d, _, rfl, upd_same, by show 2 ≤ sizeLine; decide, fun t ht => ?_⟩
    exact k _ t (Ext.trans (Ext.new hd) (Ext.new ht)) upd_same
end
end K0

set_option Elab.async false
set_option linter.all false
set_option maxRecDepth 100000
set_option maxHeartbeats 4000000
/-! What the law shows of a polynomial: the data of the two lists. -/
namespace K0
open PySem PySem.Spec PyProof.Rows L2 Gd
local macro_rules | `(tactic| walk_at "rd1") => `(tactic| first | with_reducible refine g_ret ?_ | with_reducible refine g_retN ?_ | with_reducible refine g_seq ?_ | with_reducible refine g_next ?_ | with_reducible refine g_drop ?_ | with_reducible refine g_asg ?_ | with_reducible refine g_name ?_ | with_reducible refine g_ifs ?_ | with_reducible refine g_test ?_ | with_reducible refine g_tb ?_ | with_reducible refine g_and ?_ | with_reducible refine g_or ?_ | with_reducible refine g_not ?_ | with_reducible refine g_andV ?_ | with_reducible refine g_orV ?_ | with_reducible refine g_notV ?_ | with_reducible refine g_if ?_ | with_reducible refine g_op ?_ | with_reducible refine g_un ?_ | with_reducible refine g_cb ?_ | with_reducible refine g_nil ?_ | with_reducible refine g_cons ?_ | with_reducible refine g_call ?_ | with_reducible refine g_callS ?_ | with_reducible refine g_tup ?_ | with_reducible refine g_lst ?_ | with_reducible refine g_isN ?_ | with_reducible refine g_sl ?_ | with_reducible refine g_nopart ?_ | with_reducible refine g_part ?_ | with_reducible refine g_chain ?_ | with_reducible refine g_fld ?_ | with_reducible refine g_prop ?_ | with_reducible refine g_bm ?_ | with_reducible refine g_bm0 ?_ | with_reducible refine g_c ?_ | with_reducible refine g_sub ?_ | with_reducible refine g_int1 ?_ | with_reducible refine g_int2 ?_ | with_reducible refine g_yes ?_ | with_reducible refine g_sfld ?_ | with_reducible refine g_NT ?_ | with_reducible refine g_NF ?_ | with_reducible refine iteT ?_ | with_reducible refine iteF ?_ | ((with_reducible refine' g_aug ?hv ?_); (case hv => exact rfl)) | ((with_reducible refine' g_var ?hv ?_); (case hv => exact rfl)) | with_reducible refine g_I0 ?_ | with_reducible refine g_U ?_ | with_reducible refine g_eqI ?_ | with_reducible refine g_blV ?_ | with_reducible refine g_inV ?_)
local macro_rules | `(tactic| walk_at "rd") => `(tactic| repeat walk_at "rd1")
section
theorem big_small {i : Int} (h : -(10 ^ 60) < i ∧ i < 10 ^ 60) : i.natAbs < 10 ^ 60 := by omega
theorem log_small {i : Int} (h : i.natAbs < 10 ^ 60) : i.natAbs.log2 < 200 := by
  by_cases z : i.natAbs = 0
  · rw [z]
    decide
  · exact (Nat.log2_lt z).mpr (Nat.lt_trans h (by decide))
theorem shown_small {i : Int} (h : i.natAbs < 10 ^ 60) : (PyData.shown (.int i)).length ≤ 64 := by
  have e := int_text_length_le10 (k := 60) (by decide) h
  show (Str.ofString (toString i)).length ≤ 64
  rw [PySem.ofString_length]
  omega
theorem weight_small {i : Int} (h : i.natAbs < 10 ^ 60) : PyData.weight (.int i) ≤ 200 := by
  have e := log_small h
  show (if (i == 0) = true then 0 else i.natAbs.log2 + 1) ≤ 200
  split <;> omega
theorem show_ints : ∀ ns : List Int, Big ns → PyData.showableAll (idata ns) = true
  | [], _ => rfl
  | x :: r, h => by
    show (decide (x.natAbs.log2 < 1920) && PyData.showableAll (idata r)) = true
    rw [show_ints r fun n hn => h n (List.mem_cons_of_mem _ hn), decide_eq_true (by
      have := log_small (big_small (h x List.mem_cons_self))
      omega)]
    rfl
theorem nodict_ints : ∀ ns : List Int, PyData.hasDictAll (idata ns) = false
  | [] => rfl
  | x :: r => by
    show (PyData.hasDict (.int x) || PyData.hasDictAll (idata r)) = false
    rw [nodict_ints r]
    rfl
theorem short_ints : ∀ ns : List Int, Big ns → PyData.leavesShortAll 64 (idata ns) = true
  | [], _ => rfl
  | x :: r, h => by
    show (decide ((PyData.shown (.int x)).length ≤ 64) && PyData.leavesShortAll 64 (idata r)) = true
    rw [short_ints r fun n hn => h n (List.mem_cons_of_mem _ hn), decide_eq_true (shown_small (big_small (h x List.mem_cons_self)))]
    rfl
theorem weight_ints : ∀ ns : List Int, Big ns → PyData.weightAll (idata ns) ≤ 201 * ns.length
  | [], _ => Nat.le_refl _
  | x :: r, h => by
    have e1 := weight_ints r fun n hn => h n (List.mem_cons_of_mem _ hn)
    have e2 := weight_small (big_small (h x List.mem_cons_self))
    show PyData.weight (.int x) + 1 + PyData.weightAll (idata r) ≤ 201 * (r.length + 1)
    omega
theorem small_nat {n : Nat} (h : n ≤ 400) : (n : Int).natAbs < 10 ^ 60 := by omega
theorem small_less {n : Nat} (h : n ≤ 400) : ((n : Int) - 1).natAbs < 10 ^ 60 := by omega
/-- the last factor -/
def lastOf (ns : List Int) : Int := (ns.getLast?).getD 0
theorem last_small {ns : List Int} (h : Big ns) : (lastOf ns).natAbs < 10 ^ 60 := by
  unfold lastOf
  cases e : ns.getLast? with
  | none => decide
  | some x => exact big_small (h x (List.mem_of_getLast? e))
/-- what is told of a polynomial -/
def tdata (ns : List Int) : PyData := .list [.tuple (idata ns), .int ((ns.length : Int) - 1), .int (lastOf ns), .tuple (idata ns), .int (ns.length : Int), .bool (decide (0 < (ns.length : Int)))]
theorem tdata_show {ns : List Int} (h : Big ns) (l : ns.length ≤ 400) : (tdata ns).showable = true := by
  show (PyData.showableAll (idata ns) && (decide (((ns.length : Int) - 1).natAbs.log2 < 1920) && (decide ((lastOf ns).natAbs.log2 < 1920) && (PyData.showableAll (idata ns) && (decide ((ns.length : Int).natAbs.log2 < 1920) && (true && true)))))) = true
  have a1 := log_small (small_less l)
  have a2 := log_small (last_small h)
  have a3 := log_small (small_nat l)
  rw [show_ints ns h, decide_eq_true (show ((ns.length : Int) - 1).natAbs.log2 < 1920 by omega), decide_eq_true (show (lastOf ns).natAbs.log2 < 1920 by omega), decide_eq_true (show (ns.length : Int).natAbs.log2 < 1920 by omega)]
  rfl
theorem tdata_nodict {ns : List Int} : (tdata ns).hasDict = false := by
  show (PyData.hasDictAll (idata ns) || (false || (false || (PyData.hasDictAll (idata ns) || (false || (false || false)))))) = false
  rw [nodict_ints]
  rfl
theorem tdata_depth {ns : List Int} : (tdata ns).depth ≤ 60 := by
  show max (PyData.depthAll (idata ns) + 1) (max 0 (max 0 (max (PyData.depthAll (idata ns) + 1) (max 0 (max 0 0))))) + 1 ≤ 60
  rw [deep_ints]
  decide
theorem tdata_size {ns : List Int} (h : Big ns) (l : ns.length ≤ 400) : (tdata ns).shown.length ≤ sizeLine := by
  have b : (tdata ns).leavesShort 64 = true := by
    show (PyData.leavesShortAll 64 (idata ns) && (decide ((PyData.shown (.int ((ns.length : Int) - 1))).length ≤ 64) && (decide ((PyData.shown (.int (lastOf ns))).length ≤ 64) && (PyData.leavesShortAll 64 (idata ns) &&
      (decide ((PyData.shown (.int (ns.length : Int))).length ≤ 64) && (true && true)))))) = true
    rw [short_ints ns h, decide_eq_true (shown_small (small_less l)), decide_eq_true (shown_small (last_small h)), decide_eq_true (shown_small (small_nat l))]
    rfl
  have c := PyData.shown_le 64 (by decide) (tdata ns) b
  have w : (tdata ns).weight ≤ 402 * ns.length + 700 := by
    have w1 := weight_ints ns h
    have w2 := weight_small (small_less l)
    have w3 := weight_small (last_small h)
    have w4 := weight_small (small_nat l)
    show PyData.weightAll (idata ns) + 1 + (PyData.weight (.int ((ns.length : Int) - 1)) + 1 + (PyData.weight (.int (lastOf ns)) + 1 + (PyData.weightAll (idata ns) + 1 + (PyData.weight (.int (ns.length : Int)) + 1 + (0 + 1 + 0))))) ≤ _
    omega
  rw [sizeLine_eq]
  omega
theorem has_len {ns : List Int} : (!decide (ns = [])) = decide (0 < (ns.length : Int)) := by
  cases ns with
  | nil => rfl
  | cons x r =>
    rw [decide_eq_false (show ¬ (x :: r) = [] by intro z; cases z), decide_eq_true (show 0 < (((x :: r).length : Nat) : Int) by simp only [List.length_cons]; omega)]
    rfl
end
end K0

set_option Elab.async false
set_option linter.all false
set_option maxRecDepth 100000
set_option maxHeartbeats 4000000
/-! What the law shows of a polynomial. -/
namespace K0
open PySem PySem.Spec PyProof.Rows L2 Gd
local macro_rules | `(tactic| walk_at "rd1") => `(tactic| first | with_reducible refine g_ret ?_ | with_reducible refine g_retN ?_ | with_reducible refine g_seq ?_ | with_reducible refine g_next ?_ | with_reducible refine g_drop ?_ | with_reducible refine g_asg ?_ | with_reducible refine g_name ?_ | with_reducible refine g_ifs ?_ | with_reducible refine g_test ?_ | with_reducible refine g_tb ?_ | with_reducible refine g_and ?_ | with_reducible refine g_or ?_ | with_reducible refine g_not ?_ | with_reducible refine g_andV ?_ | with_reducible refine g_orV ?_ | with_reducible refine g_notV ?_ | with_reducible refine g_if ?_ | with_reducible refine g_op ?_ | with_reducible refine g_un ?_ | with_reducible refine g_cb ?_ | with_reducible refine g_nil ?_ | with_reducible refine g_cons ?_ | with_reducible refine g_call ?_ | with_reducible refine g_callS ?_ | with_reducible refine g_tup ?_ | with_reducible refine g_lst ?_ | with_reducible refine g_isN ?_ | with_reducible refine g_sl ?_ | with_reducible refine g_nopart ?_ | with_reducible refine g_part ?_ | with_reducible refine g_chain ?_ | with_reducible refine g_fld ?_ | with_reducible refine g_prop ?_ | with_reducible refine g_bm ?_ | with_reducible refine g_bm0 ?_ | with_reducible refine g_c ?_ | with_reducible refine g_sub ?_ | with_reducible refine g_int1 ?_ | with_reducible refine g_int2 ?_ | with_reducible refine g_yes ?_ | with_reducible refine g_sfld ?_ | with_reducible refine g_NT ?_ | with_reducible refine g_NF ?_ | with_reducible refine iteT ?_ | with_reducible refine iteF ?_ | ((with_reducible refine' g_aug ?hv ?_); (case hv => exact rfl)) | ((with_reducible refine' g_var ?hv ?_); (case hv => exact rfl)) | with_reducible refine g_I0 ?_ | with_reducible refine g_U ?_ | with_reducible refine g_eqI ?_ | with_reducible refine g_blV ?_ | with_reducible refine g_inV ?_)
local macro_rules | `(tactic| walk_at "rd") => `(tactic| repeat walk_at "rd1")
section
variable {P : Program} {w : World} {K : PySem.W.Frag} {mg : Str → Option Value} {base : Heap} {f : Addr} {fd : FuncData}
abbrev sShows : Stmt := top 40
/-- where a method of one argument stands; a property -/
structure AtM (K : PySem.W.Frag) (C : Addr) (name qual : Str) (j : Nat) (f : Addr) (fd : FuncData) : Prop where
  F : Fun K name qual (cls j) f fd
  b : Binds K fd ["self"] []
  m : Meth K C name f
structure AtP (K : PySem.W.Frag) (C : Addr) (name qual : Str) (j : Nat) (p f : Addr) (fd : FuncData) : Prop where
  F : Fun K name qual (cls j) f fd
  b : Binds K fd ["self"] []
  p : PropOf K C name p f
def spShows (K : PySem.W.Frag) (C : Addr) : Sp := fun vs H Q _ => ∃ (p u a : Addr) (ns : List Int), vs = [.ref p, .ref a] ∧ PolyU K C H p u ns ∧ SqT K H a (ns.map V.int) ∧ Big ns ∧ ns.length ≤ 400 ∧ ∀ H', Ext H H' → Q (.bl true) H'
def PvS (p a : Addr) (v w : V) (H0 : Hp) (i : Nat) : L2.St → Hp → Prop := fun σ H' => ∃ x : Option V, σ = [some (.ref p), some (.ref a), some v, some w, x] ∧ Ext H0 H'
theorem scShows : FnScope ["_law_poly", "_law_due", "_law_lead", "_law_told", "_law_index"] ["_law_poly", "_law_due"] (defScope sShows) := ⟨rfl, rfl, rfl, by decide +kernel, rfl, by decide +kernel, by decide +kernel⟩
theorem lead_of (ns : List Int) (h : ns ≠ []) : atI (ns.map V.int) (-1) = some (.int (lastOf ns)) := by
  have e : ns = ns.dropLast ++ [lastOf ns] := by
    unfold lastOf
    rw [List.getLast?_eq_some_getLast h]
    exact (List.dropLast_concat_getLast h).symm
  have l : atI ((ns.dropLast ++ [lastOf ns]).map V.int) (-1) = some (.int (lastOf ns)) := by
    rw [List.map_append]
    exact atI_last _ _
  rw [← e] at l
  exact l
theorem ok_shows {fW fI fX CN fC fG C fF pF fD pD fL pL fI2 fN fB : Addr} {fdW fdI fdX fdG fdF fdD fdL fdI2 fdN fdB : FuncData} (F : Fun K "_law_shows" "_law_shows" sShows f fd) (T : Txt K mg) (T2 : Txt2 mg) (Cl : PC K mg C) (W : AtW K mg fW fdW) (I : AtI K mg fI fdI) (X : AtX K mg fX fdX)
    (N : PySem.XInvalidNumber.InvalidNumberTxt K mg CN fC) (G : AtG K C fG fdG) (PF : AtP K C "factors" "Poly.factors" 2 pF fF fdF) (PD : AtP K C "degree" "Poly.degree" 3 pD fD fdD) (PL : AtP K C "lead" "Poly.lead" 4 pL fL fdL)
    (MI : AtM K C "__iter__" "Poly.__iter__" 18 fI2 fdI2) (MN : AtM K C "__len__" "Poly.__len__" 16 fN fdN) (MB : AtM K C "__bool__" "Poly.__bool__" 17 fB fdB) :
    FnG P w K mg base CX0 7 f fd ["_law_poly", "_law_due"] (spShows K C) := by
  have GG : FnOk P w K mg base (L2.CX P w) 5 fG fdG ["self", "index"] (spItem K C CN) := ok_item G.F T Cl W I X N
  have GF : FnOk P w K mg base CX0 1 fF fdF ["self"] (spGet K C fun u _ => .ref u) := ok_factors PF.F Cl
  have GD : FnOk P w K mg base CX0 1 fD fdD ["self"] (spGet K C fun _ ns => .int ((ns.length : Int) - 1)) := ok_degree PD.F T Cl
  have GL : FnOk P w K mg base CX0 1 fL fdL ["self"] (spGet K C fun _ ns => .int ((ns.getLast?).getD 0)) := ok_lead PL.F T Cl
  have GI : FnOk P w K mg base CX0 1 fI2 fdI2 ["self"] (spIt K (PolyR K C)) := ok_iter MI.F T Cl
  have GN : FnOk P w K mg base CX0 1 fN fdN ["self"] (spGet K C fun _ ns => .int (ns.length : Int)) := ok_len MN.F T Cl
  have GM : FnOk P w K mg base CX0 1 fN fdN ["self"] (spLn (PolyR K C)) := GN.imp len_ln
  have GB : FnOk P w K mg base CX0 1 fB fdB ["self"] (spGet K C fun _ ns => .bl (decide (0 < (ns.length : Int)))) := ok_bool MB.F T Cl
  refine fnG F scShows (fun vs H Q E h => ?_) (fun cdv A outer s H vs Q E hg hr h => ?_)
  · obtain ⟨p, u, a, ns, rfl, _⟩ := h
    rfl
  · obtain ⟨p, u, a, ns, rfl, hp, hs, hB, hl, k⟩ := h
    have hr1 := hr.mono (j := 1) (by decide)
    have hr2 := hr.mono (j := 2) (by decide)
    refine ⟨_, PSs.nox (pss_cons (ps_set (i := 2) scShows.nd rfl (Or.inl rfl) (pe_ifExp (pt_cmpR (op_neD hr.units) (pv 1) (pe_tup pa_nil) (nomark _)) (pe_ix ix_tup (pv 1) (pe_un un_neg pe_int) (fun _ _ => rfl)) pe_int))
      (pss_cons (ps_set (i := 3) scShows.nd rfl (Or.inl rfl) (pe_lst (pa_cons (pe_prop (pv 0) Cl.cl PF.p GF hr2 PF.b .nil pass0 rfl) (pa_cons (pe_prop (pv 0) Cl.cl PD.p GD hr2 PD.b .nil pass0 rfl) (pa_cons (pe_prop (pv 0) Cl.cl PL.p GL hr2 PL.b .nil pass0 rfl)
          (pa_cons (pe_callTy call_tuple_of (by rfl) T.tuple (by decide +kernel) (pa_cons (pe_callTy (call_listO ⟨MI.m, MN.m⟩ GI MI.b GM MN.b hr) (by rfl) T.list (by decide +kernel) (pa_cons (pv 0) pa_nil)) pa_nil))
          (pa_cons (pe_callB (call_lenO (E := fun _ _ _ => False) MN.m GN hr2 MN.b (fun _ => quiet0)) (by rfl) T.len PySem.boot_len (pa_cons (pv 0) pa_nil))
          (pa_cons (pe_callTy (call_boolO (E := fun _ _ _ => False) MB.m GB (hr.mono (by decide)) MB.b (fun _ => quiet0)) (by rfl) T.bool (by decide +kernel) (pa_cons (pv 0) pa_nil)) pa_nil))))))))
      (pss_cons (ps_if (pt_cmpR op_ne (pe_callB (call_repr hg hr.units) (by rfl) T2.repr (by decide +kernel) (pa_cons (pv 3) pa_nil))
          (pe_callB (call_repr hg hr.units) (by rfl) T2.repr (by decide +kernel) (pa_cons (pe_lst (pa_cons (pv 1) (pa_cons (pe_op op_sub (pe_callB call_len_seq (by rfl) T.len PySem.boot_len (pa_cons (pv 1) pa_nil)) pe_int) (pa_cons (pv 2) (pa_cons (pv 1)
            (pa_cons (pe_callB call_len_seq (by rfl) T.len PySem.boot_len (pa_cons (pv 1) pa_nil)) (pa_cons (pe_cmpR (op_neD hr.units) (pv 1) (pe_tup pa_nil) (nomark _)) pa_nil))))))) pa_nil)) (nomark _))
          (pss_one (ps_ret pe_bl)) pss_nil)
      (pss_cons (ps_for PassesOwn.never rfl (pi_range1 (by rfl) T2.range (pa_cons (pe_op op_add (pe_callB call_len_seq (by rfl) T.len PySem.boot_len (pa_cons (pv 1) pa_nil)) pe_int) pa_nil)) (pg_name (i := 4) scShows.nd rfl (Or.inl rfl))
          (pss_one (ps_if (pt_cmpR op_ne (pe_callB SkE.call_repr_int (by rfl) T2.repr (by decide +kernel) (pa_cons (pe_ixO (E := WE fun _ _ _ _ => False) G.m G.n GG hr G.b (fun σ => passAt takes0 σ) (pv 0) (pv 4)) pa_nil))
              (pe_callB SkE.call_repr_int (by rfl) T2.repr (by decide +kernel) (pa_cons (pe_ifExp (pt_cmpR op_lt (pv 4) (pe_callB call_len_seq (by rfl) T.len PySem.boot_len (pa_cons (pv 1) pa_nil)) (nomark _)) (pe_ix ix_tup (pv 1) (pv 4) (fun _ _ => rfl)) pe_int) pa_nil)) (nomark _))
            (pss_one (ps_ret pe_bl)) pss_nil)))
        (pss_one (ps_ret (pe_cmpR op_eq (pe_ixO (E := WE fun _ _ _ _ => False) G.m G.n GG hr G.b (fun σ => passAt takes0 σ) (pv 0) (pe_op op_sub (pe_op op_pow pe_int pe_int) pe_int)) pe_int (nomark _)))))))), ?_⟩
    obtain ⟨⟨dx, hp0⟩, hu, _⟩ := id hp
    have ev : PyData.eqv (.tuple (idata ns)) (.tuple []) = decide (ns = []) := eqv_ints ns []
    walk_at "rd"
    refine ⟨Nat.zero_le _, fun e0 he0 => ?_⟩
    have e1 : Ext H (upd H e0 (.tup [])) := Ext.new he0
    refine ⟨.tuple (idata ns), .tuple [], .tup (sqT_ext e1 hs) (dp_ints _), .tup (SqT.of upd_same) .nil, shaped_tup _, by rfl, ?_⟩
    rw [ev]
    generalize upd H e0 (.tup []) = H1 at e1
    walk_at "rd"
    refine g_ifV (.int (lastOf ns)) (fun hc Q' k' => ?_) (fun hc Q' k' => ?_) ?_
    · walk_at "rd"
      refine g_ixT (sqT_ext e1 hs) (lead_of ns ?_) k'
      intro z
      rw [decide_eq_true z] at hc
      cases hc
    · have z : ns = [] := by
        by_cases z : ns = []
        · exact z
        · rw [decide_eq_false z] at hc
          cases hc
      rw [z] at k'
      exact k'
    walk_at "rd"
    have hP1 := hp.ext e1
    have hp1 := e1 _ _ hp0
    refine ⟨p, dx, _, rfl, hp1, p, u, ns, rfl, hP1, ?_⟩
    walk_at "rd"
    refine ⟨p, dx, _, rfl, hp1, p, u, ns, rfl, hP1, ?_⟩
    walk_at "rd"
    refine ⟨p, dx, _, rfl, hp1, p, u, ns, rfl, hP1, ?_⟩
    walk_at "rd"
    refine ⟨p, dx, _, u, _, rfl, hp1, fun H' e => ⟨ns, rfl, hP1.ext e⟩, hP1.2.1, by rw [List.length_map, sizeLine_eq]; omega, fun q H2 e2 hq hq2 => ?_⟩
    walk_at "rd"
    refine ⟨q, _, rfl, .inl ⟨SqL.of hq2, fun t ht => ?_⟩⟩
    have e3 : Ext H1 (upd H2 t (.tup (ns.map V.int))) := Ext.trans e2 (Ext.new ht)
    have ht3 : SqT K (upd H2 t (.tup (ns.map V.int))) t (ns.map V.int) := SqT.of upd_same
    generalize upd H2 t (.tup (ns.map V.int)) = H3 at e3 ht3
    walk_at "rd"
    refine ⟨p, dx, _, rfl, e3 _ _ hp1, p, u, ns, rfl, hP1.ext e3, _, rfl, by omega, by omega, ?_⟩
    walk_at "rd"
    refine ⟨p, dx, _, rfl, e3 _ _ hp1, p, u, ns, rfl, hP1.ext e3, _, rfl, ?_⟩
    walk_at "rd"
    refine ⟨by show 6 ≤ sizeLine; decide, fun l hl3 => ?_⟩
    have e4 : Ext H3 (upd H3 l (.lst [.ref u, .int ((ns.length : Int) - 1), .int (lastOf ns), .ref t, .int (ns.length : Int), .bl (decide (0 < (ns.length : Int)))])) := Ext.new hl3
    have D1 : ∀ H4, Ext H3 H4 → H4 l = some (.lst [.ref u, .int ((ns.length : Int) - 1), .int (lastOf ns), .ref t, .int (ns.length : Int), .bl (decide (0 < (ns.length : Int)))]) → Dp K H4 (.ref l) (tdata ns) := fun H4 e h =>
      .lst (SqL.of h) (.cons (.tup (sqT_ext e (sqT_ext e3 hP1.2.1)) (dp_ints _)) (.cons (.int _) (.cons (.int _) (.cons (.tup (sqT_ext e ht3) (dp_ints _)) (.cons (.int _) (.cons (.bl _) .nil))))))
    have d1 := D1 _ e4 upd_same
    have e14 : Ext H1 _ := Ext.trans e3 e4
    generalize hH4 : upd H3 l (.lst [.ref u, .int ((ns.length : Int) - 1), .int (lastOf ns), .ref t, .int (ns.length : Int), .bl (decide (0 < (ns.length : Int)))]) = H4 at e4 e14 d1
    have e04 : Ext H H4 := Ext.trans e1 e14
    walk_at "rd"
    change rRepr _ _ (upd H3 l (.lst [.ref u, .int ((ns.length : Int) - 1), .int (lastOf ns), .ref t, .int (ns.length : Int), .bl (decide (0 < (ns.length : Int)))])) _
    rw [hH4]
    refine ⟨l, tdata ns, rfl, d1, tdata_show hB hl, tdata_nodict, tdata_depth, tdata_size hB hl, ?_⟩
    walk_at "rd"
    have hs4 := sqT_ext e04 hs
    refine ⟨a, _, rfl, .inr hs4, ?_⟩
    walk_at "rd"
    rw [List.length_map]
    refine ⟨a, _, rfl, .inr hs4, ?_⟩
    walk_at "rd"
    rw [List.length_map]
    refine ⟨Nat.zero_le _, fun e5 he5 => ?_⟩
    have e45 : Ext H4 (upd H4 e5 (.tup [])) := Ext.new he5
    refine ⟨.tuple (idata ns), .tuple [], .tup (sqT_ext e45 hs4) (dp_ints _), .tup (SqT.of upd_same) .nil, shaped_tup _, by rfl, ?_⟩
    rw [ev, has_len]
    generalize upd H4 e5 (.tup []) = H5 at e45
    walk_at "rd"
    refine ⟨by show 6 ≤ sizeLine; decide, fun l2 hl2 => ?_⟩
    have e56 : Ext H5 (upd H5 l2 (.lst [.ref a, .int ((ns.length : Int) - 1), .int (lastOf ns), .ref a, .int (ns.length : Int), .bl (decide (0 < (ns.length : Int)))])) := Ext.new hl2
    have e46 := Ext.trans e45 e56
    have a6 := sqT_ext e46 hs4
    refine ⟨l2, tdata ns, rfl, .lst (SqL.of upd_same) (.cons (.tup a6 (dp_ints _)) (.cons (.int _) (.cons (.int _) (.cons (.tup a6 (dp_ints _)) (.cons (.int _) (.cons (.bl _) .nil)))))), tdata_show hB hl, tdata_nodict, tdata_depth, tdata_size hB hl, ?_⟩
    have e06 := Ext.trans e04 e46
    generalize upd H5 l2 (.lst [.ref a, .int ((ns.length : Int) - 1), .int (lastOf ns), .ref a, .int (ns.length : Int), .bl (decide (0 < (ns.length : Int)))]) = H6 at e06
    refine g_neS ?_
    walk_at "rd"
    refine g_forR ?_
    walk_at "rd"
    refine ⟨a, _, rfl, .inr (sqT_ext e06 hs), ?_⟩
    walk_at "rd"
    rw [List.length_map]
    refine ⟨by omega, by omega, ?_⟩
    refine for_range (PvS p a (.int (lastOf ns)) (.ref l) H) ⟨_, rfl, e06⟩ ?_ ?_
    · rintro i σ H7 hi ⟨x, rfl, e7⟩
      walk_at "rd"
      refine g_ixO ?_
      walk_at "rd"
      have hi0 : (0 : Int) + (i : Int) = (i : Int) := by omega
      rw [hi0]
      refine ⟨p, dx, _, rfl, e7 _ _ hp0, p, u, ns, _, true, rfl, hp.ext e7, .inl ⟨_, rfl, (decide_eq_true (by omega)).symm⟩, fun _ j hj => ?_, fun z => Bool.noConfusion z⟩
      cases hj
      rw [Int.toNat_natCast]
      have lg : ((ns[i]?).getD 0).natAbs.log2 < 1920 := by
        have : ((ns[i]?).getD 0).natAbs < 10 ^ 60 := by
          cases g : ns[i]? with
          | none => decide
          | some z => exact big_small (hB z (List.mem_of_getElem? g))
        have := log_small this
        omega
      refine ⟨_, rfl, lg, ?_⟩
      walk_at "rd"
      refine ⟨a, _, rfl, .inr (sqT_ext e7 hs), ?_⟩
      walk_at "rd"
      rw [List.length_map]
      refine g_ifV (.int ((ns[i]?).getD 0)) (fun hc Q' k' => ?_) (fun hc Q' k' => ?_) ?_
      · have hlt : i < ns.length := by
          have := of_decide_eq_true hc
          omega
        walk_at "rd"
        refine g_ixT (sqT_ext e7 hs) (v := .int ((ns[i]?).getD 0)) (atI_nat ?_) k'
        rw [mapget, List.getElem?_eq_getElem hlt]
        rfl
      · have hge : ns.length ≤ i := by
          have := of_decide_eq_false hc
          omega
        rw [List.getElem?_eq_none_iff.mpr hge] at k'
        exact k'
      walk_at "rd"
      refine ⟨lg, g_neS ?_⟩
      walk_at "rd"
      exact ⟨_, rfl, e7⟩
    · rintro σ H7 ⟨x, rfl, e7⟩
      walk_at "rd"
      refine g_ixO ?_
      walk_at "rd"
      refine g_I ⟨by decide, by decide, by decide⟩ ?_
      walk_at "rd"
      refine ⟨p, dx, _, rfl, e7 _ _ hp0, p, u, ns, _, true, rfl, hp.ext e7, .inl ⟨_, rfl, (decide_eq_true (by decide +kernel)).symm⟩, fun _ j hj => ?_, fun z => Bool.noConfusion z⟩
      cases hj
      have big : 400 ≤ ((10 : Int) ^ Int.toNat 60 - 1).toNat := by decide +kernel
      rw [List.getElem?_eq_none_iff.mpr (Nat.le_trans hl big)]
      refine g_eqI ?_
      exact k _ e7
end
end K0

set_option Elab.async false
set_option linter.all false
set_option maxRecDepth 100000
set_option maxHeartbeats 4000000
/-! Readings for the law's body; what a trimmed row keeps. -/
namespace K0
open PySem PySem.Spec PyProof.Rows L2 Gd
local macro_rules | `(tactic| walk_at "rd1") => `(tactic| first | with_reducible refine g_ret ?_ | with_reducible refine g_retN ?_ | with_reducible refine g_seq ?_ | with_reducible refine g_next ?_ | with_reducible refine g_drop ?_ | with_reducible refine g_asg ?_ | with_reducible refine g_name ?_ | with_reducible refine g_ifs ?_ | with_reducible refine g_test ?_ | with_reducible refine g_tb ?_ | with_reducible refine g_and ?_ | with_reducible refine g_or ?_ | with_reducible refine g_not ?_ | with_reducible refine g_andV ?_ | with_reducible refine g_orV ?_ | with_reducible refine g_notV ?_ | with_reducible refine g_if ?_ | with_reducible refine g_op ?_ | with_reducible refine g_un ?_ | with_reducible refine g_cb ?_ | with_reducible refine g_nil ?_ | with_reducible refine g_cons ?_ | with_reducible refine g_call ?_ | with_reducible refine g_callS ?_ | with_reducible refine g_tup ?_ | with_reducible refine g_lst ?_ | with_reducible refine g_isN ?_ | with_reducible refine g_sl ?_ | with_reducible refine g_nopart ?_ | with_reducible refine g_part ?_ | with_reducible refine g_chain ?_ | with_reducible refine g_fld ?_ | with_reducible refine g_prop ?_ | with_reducible refine g_bm ?_ | with_reducible refine g_bm0 ?_ | with_reducible refine g_c ?_ | with_reducible refine g_sub ?_ | with_reducible refine g_int1 ?_ | with_reducible refine g_int2 ?_ | with_reducible refine g_yes ?_ | with_reducible refine g_sfld ?_ | with_reducible refine g_NT ?_ | with_reducible refine g_NF ?_ | with_reducible refine iteT ?_ | with_reducible refine iteF ?_ | ((with_reducible refine' g_aug ?hv ?_); (case hv => exact rfl)) | ((with_reducible refine' g_var ?hv ?_); (case hv => exact rfl)) | with_reducible refine g_I0 ?_ | with_reducible refine g_U ?_ | with_reducible refine g_eqI ?_ | with_reducible refine g_blV ?_ | with_reducible refine g_inV ?_)
local macro_rules | `(tactic| walk_at "rd") => `(tactic| repeat walk_at "rd1")
/-! ### the mathematics -/
theorem trim_zero (m : Nat) : trim (List.replicate m (0 : Int)) = [] := by
  induction m with
  | zero => rfl
  | succ m ih =>
    rw [List.replicate_succ]
    unfold trim
    rw [ih]
    rfl
theorem trim_zeros (ns : List Int) (m : Nat) : trim (ns ++ List.replicate m (0 : Int)) = trim ns := by
  induction ns with
  | nil => exact trim_zero m
  | cons x r ih =>
    show trim (x :: (r ++ List.replicate m (0 : Int))) = trim (x :: r)
    unfold trim
    rw [ih]
theorem trim_trim (ns : List Int) : trim (trim ns) = trim ns := by
  induction ns with
  | nil => rfl
  | cons x r ih =>
    cases e : trim r with
    | nil =>
      by_cases hx : x = 0
      · have h : trim (x :: r) = [] := by
          unfold trim
          rw [e]
          show (if x = 0 then [] else [x]) = []
          rw [if_pos hx]
        rw [h]
        rfl
      · have h : trim (x :: r) = [x] := by
          unfold trim
          rw [e]
          show (if x = 0 then [] else [x]) = [x]
          rw [if_neg hx]
        rw [h]
        show (if x = 0 then [] else [x]) = [x]
        rw [if_neg hx]
    | cons y s =>
      have h : trim (x :: r) = x :: y :: s := by
        unfold trim
        rw [e]
      rw [h]
      rw [e] at ih
      show trim (x :: (y :: s)) = x :: y :: s
      conv => lhs; unfold trim
      rw [ih]
theorem trim_get : ∀ (ns : List Int) (i : Nat), ((trim ns)[i]?).getD 0 = (ns[i]?).getD 0
  | [], i => rfl
  | x :: r, i => by
    have ih := trim_get r
    cases e : trim r with
    | nil =>
      rw [e] at ih
      by_cases hx : x = 0
      · have h : trim (x :: r) = [] := by
          unfold trim
          rw [e]
          show (if x = 0 then [] else [x]) = []
          rw [if_pos hx]
        rw [h]
        cases i with
        | zero => exact hx.symm
        | succ j =>
          rw [List.getElem?_cons_succ, ← ih j]
          rfl
      · have h : trim (x :: r) = [x] := by
          unfold trim
          rw [e]
          show (if x = 0 then [] else [x]) = [x]
          rw [if_neg hx]
        rw [h]
        cases i with
        | zero => rfl
        | succ j =>
          rw [List.getElem?_cons_succ, List.getElem?_cons_succ, ← ih j]
    | cons y s =>
      have h : trim (x :: r) = x :: y :: s := by
        unfold trim
        rw [e]
      rw [h]
      rw [e] at ih
      cases i with
      | zero => rfl
      | succ j =>
        rw [List.getElem?_cons_succ, List.getElem?_cons_succ, ← ih j]
/-- a row with one more place, changed at one place, is another one -/
theorem trim_changed {ns : List Int} {i : Nat} {z : Int} (hi : i < (ns ++ [0]).length) (hz : z ≠ ((ns ++ [0])[i]?).getD 0) : trim ((ns ++ [0]).set i z) ≠ trim ns := by
  intro e
  have h1 := trim_get ((ns ++ [0]).set i z) i
  rw [e, trim_get, List.getElem?_set_self hi] at h1
  have h2 : ((ns ++ [0])[i]?).getD 0 = (ns[i]?).getD 0 := by
    by_cases h : i < ns.length
    · rw [List.getElem?_append_left h]
    · have : i = ns.length := by
        rw [List.length_append] at hi
        have : [(0 : Int)].length = 1 := rfl
        omega
      subst this
      rw [List.getElem?_append_right (Nat.le_refl _), Nat.sub_self, List.getElem?_eq_none_iff.mpr (Nat.le_refl _)]
      rfl
  rw [h2, h1] at hz
  exact hz rfl
theorem flat_zero (m : Nat) : (List.replicate m [V.int 0]).flatten = (List.replicate m (0 : Int)).map V.int := by
  induction m with
  | zero => rfl
  | succ m ih =>
    rw [List.replicate_succ, List.replicate_succ, List.flatten_cons, List.map_cons, ih]
    rfl
section
variable {K : PySem.W.Frag} {mg : Str → Option Value} {C : Addr}
/-! ### heaps -/
theorem sqT_dice {H H' : Hp} {d l : Addr} {xs : List V} (hd : DiceAt H d) (e : ExtBut d H H') (h : SqT K H l xs) : SqT K H' l xs := by
  rcases h with (h | ⟨o, h⟩) | h
  · exact .inl (.inl (e _ _ (dice_ne hd h (fun _ => by simp)) h))
  · exact .inl (.inr ⟨o, e _ _ (dice_ne hd h (fun _ => by simp)) h⟩)
  · exact .inr h
theorem PolyU.dice {H H' : Hp} {d p u : Addr} {ns : List Int} (hd : DiceAt H d) (e : ExtBut d H H') (h : PolyU K C H p u ns) : PolyU K C H' p u ns := by
  obtain ⟨⟨dx, h1⟩, h2, h3⟩ := h
  exact ⟨⟨dx, e _ _ (dice_ne hd h1 (fun _ => by simp)) h1⟩, sqT_dice hd e h2, h3⟩
/-! ### readings -/
theorem g_catA {H : Hp} {Q : VK} {a b : Addr} {xs ys : List V} (ha : SqT K H a xs) (hb : SqT K H b ys) (hz : xs.length + ys.length ≤ sizeLine)
    (k : ∀ H' g, Ext H H' → SqT K H' g (xs ++ ys) → Q (.ref g) H') : rCatA K (.ref a) (.ref b) H Q := by
  refine ⟨a, b, xs, ys, rfl, rfl, ha, hb, hz, fun e => ?_, fun _ e => ?_, fun _ _ p hp => ?_⟩
  · refine k H b (fun _ _ h => h) ?_
    rw [e]
    exact hb
  · refine k H a (fun _ _ h => h) ?_
    rw [e, List.append_nil]
    exact ha
  · exact k _ p (Ext.new hp) (SqT.of upd_same)
theorem g_repA {H : Hp} {Q : VK} {a : Addr} {n : Int} (ha : SqT K H a [V.int 0]) (h0 : 0 ≤ n) (h1 : n ≤ 1000)
    (k : ∀ H' g, Ext H H' → SqT K H' g ((List.replicate n.toNat (0 : Int)).map V.int) → Q (.ref g) H') : rRepA K (.ref a) (.int n) H Q := by
  refine ⟨a, n, _, rfl, rfl, ha, by simp, h0, h1, by show 1 ≤ 1000; decide, fun e => ?_, fun _ p hp => ?_⟩
  · refine k H a (fun _ _ h => h) ?_
    rw [e]
    exact ha
  · refine k _ p (Ext.new hp) ?_
    rw [flat_zero]
    exact SqT.of upd_same
theorem g_makeP {H : Hp} {Q : VK} {E : XK} {a : Addr} {ns : List Int} (hs : SqT K H a (ns.map V.int)) (hl : ns.length ≤ 400) (hB : Big ns)
    (k : ∀ H' p u, Ext H H' → PolyU K C H' p u (trim ns) → Q (.ref p) H') : ∀ x dx, H x = none → H dx = none → dx ≠ x →
    spInit K C (.ref x :: ([.ref a] ++ [])) (upd (upd H dx (.own x)) x (.ins C dx [])) (fun v H2 => v = .non ∧ Q (.ref x) H2) E := by
  intro x dx hx hdx ne
  have e1 : Ext H (upd (upd H dx (.own x)) x (.ins C dx [])) := fun b o q => by
    rw [upd_ne (ne_of_none q hx), upd_ne (ne_of_none q hdx)]
    exact q
  refine ⟨x, dx, a, ns, rfl, upd_same, sqT_ext e1 hs, hl, hB, fun H' u e hp hu => ⟨rfl, k H' x u (fun b o q => e b o (ne_of_none q hx) (e1 b o q)) ⟨⟨dx, hp⟩, hu, Nat.le_trans (Nat.le_trans (trim_len ns) hl) (by decide)⟩⟩⟩
/-- == with something that is no polynomial -/
theorem g_eqNot {H : Hp} {Q : VK} {E : XK} {p u : Addr} {ns : List Int} {y : V} {t : Value} (hP : PolyU K C H p u ns) (ty : TyX K H y t) (hn : PySem.W.notFirst K C t = true) (hk : PySem.W.kitOne K t (.ref C) = some false)
    (k : Q (.bl false) H) : rCmpO K C (spEqP K C) E (.ref p) y H Q := by
  obtain ⟨dx, hp⟩ := id hP.1
  exact ⟨p, dx, _, t, rfl, hp, ty, hn, p, u, ns, y, rfl, hP, .inr ⟨t, ty, hk, ⟨_, rfl⟩, k⟩⟩
theorem notFirst_self : PySem.W.notFirst K C (.ref C) = true := by
  unfold PySem.W.notFirst
  simp
theorem g_eqP (Cl : PC K mg C) {H : Hp} {Q : VK} {E : XK} {p u q v : Addr} {ns ms : List Int} (hP : PolyU K C H p u ns) (hQ : PolyU K C H q v ms)
    (k : Q (.bl (decide (ns = ms))) H) : rCmpO K C (spEqP K C) E (.ref p) (.ref q) H Q := by
  obtain ⟨dx, hp⟩ := id hP.1
  obtain ⟨dy, hq⟩ := id hQ.1
  exact ⟨p, dx, _, _, rfl, hp, Cl.ty hq, notFirst_self, p, u, ns, _, rfl, hP, .inl ⟨q, v, ms, rfl, hQ, ⟨_, rfl⟩, k⟩⟩
theorem g_neP (Cl : PC K mg C) {H : Hp} {Q : VK} {E : XK} {p u q v : Addr} {ns ms : List Int} (hP : PolyU K C H p u ns) (hQ : PolyU K C H q v ms)
    (k : Q (.bl (!decide (ns = ms))) H) : rNeO K C (spEqP K C) E (.ref p) (.ref q) H Q := by
  obtain ⟨dx, hp⟩ := id hP.1
  obtain ⟨dy, hq⟩ := id hQ.1
  exact ⟨p, dx, _, _, rfl, hp, Cl.ty hq, notFirst_self, p, u, ns, _, rfl, hP, .inl ⟨q, v, ms, rfl, hQ, _, rfl, k⟩⟩
end
end K0

set_option Elab.async false
set_option linter.all false
set_option maxRecDepth 100000
set_option maxHeartbeats 8000000
/-! One place of a script. -/
namespace K0
open PySem PySem.Spec PyProof.Rows L2 Gd
local macro_rules | `(tactic| walk_at "rd1") => `(tactic| first | with_reducible refine g_ret ?_ | with_reducible refine g_retN ?_ | with_reducible refine g_seq ?_ | with_reducible refine g_next ?_ | with_reducible refine g_drop ?_ | with_reducible refine g_asg ?_ | with_reducible refine g_name ?_ | with_reducible refine g_ifs ?_ | with_reducible refine g_test ?_ | with_reducible refine g_tb ?_ | with_reducible refine g_and ?_ | with_reducible refine g_or ?_ | with_reducible refine g_not ?_ | with_reducible refine g_andV ?_ | with_reducible refine g_orV ?_ | with_reducible refine g_notV ?_ | with_reducible refine g_if ?_ | with_reducible refine g_op ?_ | with_reducible refine g_un ?_ | with_reducible refine g_cb ?_ | with_reducible refine g_nil ?_ | with_reducible refine g_cons ?_ | with_reducible refine g_call ?_ | with_reducible refine g_callS ?_ | with_reducible refine g_tup ?_ | with_reducible refine g_lst ?_ | with_reducible refine g_isN ?_ | with_reducible refine g_sl ?_ | with_reducible refine g_nopart ?_ | with_reducible refine g_part ?_ | with_reducible refine g_chain ?_ | with_reducible refine g_fld ?_ | with_reducible refine g_prop ?_ | with_reducible refine g_bm ?_ | with_reducible refine g_bm0 ?_ | with_reducible refine g_c ?_ | with_reducible refine g_sub ?_ | with_reducible refine g_int1 ?_ | with_reducible refine g_int2 ?_ | with_reducible refine g_yes ?_ | with_reducible refine g_sfld ?_ | with_reducible refine g_NT ?_ | with_reducible refine g_NF ?_ | with_reducible refine iteT ?_ | with_reducible refine iteF ?_ | ((with_reducible refine' g_aug ?hv ?_); (case hv => exact rfl)) | ((with_reducible refine' g_var ?hv ?_); (case hv => exact rfl)) | with_reducible refine g_I0 ?_ | with_reducible refine g_U ?_ | with_reducible refine g_eqI ?_ | with_reducible refine g_blV ?_ | with_reducible refine g_inV ?_)
local macro_rules | `(tactic| walk_at "rd") => `(tactic| repeat walk_at "rd1")
section
variable {P : Program} {w : World} {K : PySem.W.Frag} {mg : Str → Option Value} {base : Heap} {f : Addr} {fd : FuncData}
abbrev sRight : Stmt := top 41
/-- values of these classes are no polynomials -/
structure NotP (K : PySem.W.Frag) (C : Addr) : Prop where
  tup : PySem.W.kitOne K (.type "tuple") (.ref C) = some false
  lst : PySem.W.kitOne K (.type "list") (.ref C) = some false
  int : PySem.W.kitOne K (.type "int") (.ref C) = some false
  non : PySem.W.kitOne K (.type "NoneType") (.ref C) = some false
  str : PySem.W.kitOne K (.type "str") (.ref C) = some false
/-- where a def of the law stands -/
structure AtD (K : PySem.W.Frag) (mg : Str → Option Value) (name : Str) (j : Nat) (ps : List Str) (f : Addr) (fd : FuncData) : Prop where
  F : Fun K name name (top j) f fd
  b : Binds K fd ps []
  g : mg name = some (.ref f)
/-- where the class's == and its __init__ stand -/
structure AtE (K : PySem.W.Frag) (C : Addr) (f : Addr) (fd : FuncData) : Prop where
  F : Fun K "__eq__" "Poly.__eq__" (cls 19) f fd
  b : Binds K fd ["self", "other"] []
  m : Meth K C "__eq__" f
structure AtN (K : PySem.W.Frag) (C t0 f : Addr) (fd : FuncData) : Prop where
  F : FnI K t0 f fd
  M : Mk K C f
  b : Binds K fd ["self", "factors"] []
def spRight : Sp := fun vs H Q _ => ∃ d : Addr, vs = [.ref d] ∧ DiceAt H d ∧ ∀ H', ExtBut d H H' → Q (.bl true) H'
theorem scRight : FnScope ["_law_dice_here", "_law_size", "_law_factors_here", "_law_given", "_law_due", "_law_poly", "_law_other", "_law_changed", "_law_at", "_law_wrong"] ["_law_dice_here"] (defScope sRight) := ⟨rfl, rfl, rfl, by decide +kernel, rfl, by decide +kernel, by decide +kernel⟩
theorem g_makeW {K : PySem.W.Frag} {C : Addr} {E : XK} {te : TE} {σ : L2.St} {H : Hp} {Q : VK} {ns : List Int} (ht : ∀ Q0 : VK, (∀ H1 a, Ext H H1 → SqT K H1 a (ns.map V.int) → Q0 (.ref a) H1) → te σ H Q0) (hl : ns.length ≤ 400) (hB : Big ns)
    (k : ∀ H' p u, Ext H H' → PolyU K C H' p u (trim ns) → Q (.ref p) H') : tMake C (spInit K C) [] E (tCons te tNil) σ H Q :=
  ht _ fun H1 a e hs => g_makeP (Q := Q) hs hl hB fun H' p u e' hp => k H' p u (Ext.trans e e') hp
/-- behind the drawn row; behind the made polynomials -/
def PvG (K : PySem.W.Frag) (H : Hp) (d fh : Addr) (z : Int) (ns : List Int) : L2.St → Hp → Prop := fun σ H' => ∃ (g : Addr) (q : Nat), σ = [some (.ref d), some (.int z), some (.ref fh), some (.ref g), none, none, none, none, none, none] ∧ ExtBut d H H' ∧ DiceAt H' d ∧
  SqT K H' g ((ns ++ List.replicate q (0 : Int)).map V.int) ∧ ns.length + q ≤ 400
def PvP (K : PySem.W.Frag) (C : Addr) (H : Hp) (d p1 p2 v1 v2 u : Addr) (due : List Int) : L2.St → Hp → Prop := fun σ H' => ∃ (x y w : Option V), σ = [some (.ref d), x, y, w, some (.ref u), some (.ref p1), some (.ref p2), none, none, none] ∧ ExtBut d H H' ∧ DiceAt H' d ∧
  SqT K H' u (due.map V.int) ∧ PolyU K C H' p1 v1 due ∧ PolyU K C H' p2 v2 due
theorem ixN_at {n i : Nat} (h : i < n) : ixN n (i : Int) = some i := by
  unfold ixN
  simp [h]
/-- the wrong values -/
theorem wrong_of {K : PySem.W.Frag} {H : Hp} {o : Addr} {x : V} (ho : H o = some (.tup [V.int 0])) (hx : x ∈ [V.int (-1), .non, .bl true, .str "0", .int (10 ^ 60), .ref o]) : ∃ dt : PyData, IndexOk K H x false ∧ (∀ H', Ext H H' → Dp K H' x dt) ∧
    (PyData.tuple [.str "number", dt]).showable = true ∧ (PyData.tuple [.str "number", dt]).hasDict = false ∧ (PyData.tuple [.str "number", dt]).depth ≤ 60 ∧ (PyData.tuple [.str "number", dt]).shown.length ≤ sizeLine := by
  simp only [List.mem_cons, List.not_mem_nil, or_false] at hx
  rcases hx with rfl | rfl | rfl | rfl | rfl | rfl
  · exact ⟨.int (-1), .inl ⟨-1, rfl, by decide +kernel⟩, fun _ _ => .int _, by decide +kernel, by decide +kernel, by decide +kernel, by decide +kernel⟩
  · exact ⟨.none, .inr ⟨whole_non, rfl⟩, fun _ _ => .non, by decide +kernel, by decide +kernel, by decide +kernel, by decide +kernel⟩
  · exact ⟨.bool true, .inr ⟨whole_bl, rfl⟩, fun _ _ => .bl _, by decide +kernel, by decide +kernel, by decide +kernel, by decide +kernel⟩
  · exact ⟨.str "0", .inr ⟨whole_str, rfl⟩, fun _ _ => .str _, by decide +kernel, by decide +kernel, by decide +kernel, by decide +kernel⟩
  · exact ⟨.int (10 ^ 60), .inl ⟨10 ^ 60, rfl, by decide +kernel⟩, fun _ _ => .int _, by decide +kernel, by decide +kernel, by decide +kernel, by decide +kernel⟩
  · exact ⟨.tuple [.int 0], .inr ⟨whole_tup ho, rfl⟩, fun H' e => .tup (SqT.of (e _ _ ho)) (.cons (.int 0) .nil), by decide +kernel, by decide +kernel, by decide +kernel, by decide +kernel⟩
theorem ne_lst {H : Hp} {c l : Addr} {xs : List V} {o : HO} (hc : H c = some (.lst xs)) (h : H l = some o) (n : ∀ ys, o ≠ .lst ys) : l ≠ c := by
  intro z
  subst z
  rw [hc] at h
  cases h
  exact n _ rfl
theorem sqT_lst {K : PySem.W.Frag} {H H' : Hp} {c l : Addr} {xs ys : List V} (hc : H c = some (.lst xs)) (e : ExtBut c H H') (h : SqT K H l ys) : SqT K H' l ys := by
  rcases h with (h | ⟨o, h⟩) | h
  · exact .inl (.inl (e _ _ (ne_lst hc h (fun _ => by simp)) h))
  · exact .inl (.inr ⟨o, e _ _ (ne_lst hc h (fun _ => by simp)) h⟩)
  · exact .inr h
theorem PolyU.lst {K : PySem.W.Frag} {C : Addr} {H H' : Hp} {c p u : Addr} {xs : List V} {ns : List Int} (hc : H c = some (.lst xs)) (e : ExtBut c H H') (h : PolyU K C H p u ns) : PolyU K C H' p u ns := by
  obtain ⟨⟨dx, h1⟩, h2, h3⟩ := h
  exact ⟨⟨dx, e _ _ (ne_lst hc h1 (fun _ => by simp)) h1⟩, sqT_lst hc e h2, h3⟩
theorem ok_right {fR fP fF fT fS fA fE fC C : Addr} {fdR fdP fdF fdT fdS fdA fdE fdC : FuncData} {t0 : Addr} (F : Fun K "_law_right" "_law_right" sRight f fd) (T : Txt K mg) (T2 : Txt2 mg) (Cl : PC K mg C) (NP : NotP K C)
    (R : AtD K mg "_law_roll" 35 ["_law_dice_here", "_law_total"] fR fdR) (Pk : AtD K mg "_law_pick" 36 ["_law_dice_here", "_law_items"] fP fdP) (LF : AtD K mg "_law_factors" 38 ["_law_dice_here", "_law_most", "_law_size"] fF fdF)
    (LT : AtD K mg "_law_trimmed" 37 ["_law_factors_here"] fT fdT) (LS : AtD K mg "_law_shows" 40 ["_law_poly", "_law_due"] fS fdS) (LA : AtD K mg "_law_at_index" 39 ["_law_poly", "_law_index"] fA fdA) (Me : AtE K C fE fdE) (Ni : AtN K C t0 fC fdC)
    (GR : FnOk P w K mg base CX0 1 fR fdR ["_law_dice_here", "_law_total"] spRoll) (GP : FnOk P w K mg base CX0 2 fP fdP ["_law_dice_here", "_law_items"] (spPick K)) (GF : FnOk P w K mg base CX0 2 fF fdF ["_law_dice_here", "_law_most", "_law_size"] spFactors)
    (GT : FnOk P w K mg base CX0 1 fT fdT ["_law_factors_here"] (spLTrim K)) (GS : FnG P w K mg base CX0 7 fS fdS ["_law_poly", "_law_due"] (spShows K C)) (GA : FnOk P w K mg base CX0 7 fA fdA ["_law_poly", "_law_index"] (spAtIndex K C))
    (GE : FnOk P w K mg base CX0 1 fE fdE ["self", "other"] (spEqP K C)) (GC : FnOk P w K mg base CX0 4 fC fdC ["self", "factors"] (spInit K C)) :
    FnG P w K mg base CX0 8 f fd ["_law_dice_here"] spRight := by
  refine fnG F scRight (fun vs H Q E h => ?_) (fun cdv A outer s H vs Q E hg hr h => ?_)
  · obtain ⟨d, rfl, _⟩ := h
    rfl
  · obtain ⟨d, rfl, hd, k⟩ := h
    have hr1 := hr.mono (j := 1) (by decide)
    have hr2 := hr.mono (j := 2) (by decide)
    have hr5 := hr.mono (j := 5) (by decide)
    refine ⟨_, PSs.nox (pss_cons (ps_set (i := 1) scRight.nd rfl (Or.inl rfl) (pe_call GP hr2 (by rfl) Pk.g Pk.F.kp Pk.b .nil pass0 (pa_cons (pv 0) (pa_cons (pe_lst (pa_cons pe_int (pa_cons pe_int (pa_cons (pe_op op_pow pe_int pe_int) (pa_cons (pe_op op_sub (pe_op op_pow pe_int pe_int) pe_int) pa_nil))))) pa_nil))))
      (pss_cons (ps_set (i := 2) scRight.nd rfl (Or.inl rfl) (pe_call GF hr2 (by rfl) LF.g LF.F.kp LF.b .nil pass0 (pa_cons (pv 0) (pa_cons (pe_call GP hr2 (by rfl) Pk.g Pk.F.kp Pk.b .nil pass0 (pa_cons (pv 0) (pa_cons (pe_lst (pa_cons pe_int (pa_cons pe_int (pa_cons pe_int pa_nil)))) pa_nil))) (pa_cons (pv 1) pa_nil)))))
      (pss_cons (ps_set (i := 3) scRight.nd rfl (Or.inl rfl) (pe_op op_catA (pv 2) (pe_op op_repA (pe_tup (pa_cons pe_int pa_nil)) (pe_call GR hr1 (by rfl) R.g R.F.kp R.b .nil pass0 (pa_cons (pv 0) (pa_cons pe_int pa_nil))))))
      (pss_cons (ps_if (pt_cmpR op_eq (pe_call GR hr1 (by rfl) R.g R.F.kp R.b .nil pass0 (pa_cons (pv 0) (pa_cons pe_int pa_nil))) pe_int (nomark _))
          (pss_one (ps_set (i := 3) scRight.nd rfl (Or.inl rfl) (pe_op op_catA (pv 3) (pe_op op_repA (pe_tup (pa_cons pe_int pa_nil)) (pe_op op_sub pe_int (pe_callB call_len_seq (by rfl) T.len PySem.boot_len (pa_cons (pv 3) pa_nil))))))) pss_nil)
      (pss_cons (ps_set (i := 4) scRight.nd rfl (Or.inl rfl) (pe_call GT hr1 (by rfl) LT.g LT.F.kp LT.b .nil pass0 (pa_cons (pv 3) pa_nil)))
      (pss_cons (ps_par (i := 5) (j := 6) rfl scRight.nd rfl rfl (by decide) rfl rfl (pa_cons (pe_make Ni.M GC hr5 (by rfl) Cl.g Ni.b .nil pass0 (pa_cons (pv 3) pa_nil)) (pa_cons (pe_make Ni.M GC hr5 (by rfl) Cl.g Ni.b .nil pass0 (pa_cons (pv 4) pa_nil)) pa_nil)) rfl)
      (pss_cons (ps_if (PW.pt (pw_or (pt_not (pt_val (pe_callG hg GS hr (by rfl) LS.g LS.F.kp LS.b .nil pass0 (pa_cons (pv 5) (pa_cons (pv 4) pa_nil))))) (pw_or (pt_not (pt_val (pe_callG hg GS hr (by rfl) LS.g LS.F.kp LS.b .nil pass0 (pa_cons (pv 6) (pa_cons (pv 4) pa_nil)))))
          (pw_or1 (pt_cmpR (op_neO (E := fun _ _ _ => False) Cl.ne Me.m GE hr2 Me.b (fun _ => quiet0)) (pv 5) (pv 6) (nomark _)))))) (pss_one (ps_ret pe_bl)) pss_nil)
      (pss_cons (ps_if (PW.pt (pw_or (pt_cmpR (op_eqO (E := fun _ _ _ => False) Me.m GE hr2 Me.b (fun _ => quiet0)) (pv 5) (pv 4) (nomark _))
          (pw_or (pt_cmpR (op_eqO (E := fun _ _ _ => False) Me.m GE hr2 Me.b (fun _ => quiet0)) (pv 5) (pe_callTy call_list_of (by rfl) T.list (by decide +kernel) (pa_cons (pv 4) pa_nil)) (nomark _))
          (pw_or (pt_cmpR (op_eqO (E := fun _ _ _ => False) Me.m GE hr2 Me.b (fun _ => quiet0)) (pv 5) pe_int (nomark _))
          (pw_or (pt_cmpR (op_eqO (E := fun _ _ _ => False) Me.m GE hr2 Me.b (fun _ => quiet0)) (pv 5) pe_non (nomark _))
          (pw_or (pt_cmpR (op_eqO (E := fun _ _ _ => False) Me.m GE hr2 Me.b (fun _ => quiet0)) (pv 5) pe_str (nomark _))
          (pw_or1 (PW.pt (pw_and (pt_cmpR (op_neD hr.units) (pv 4) (pe_tup pa_nil) (nomark _)) (pw_and1 (pt_cmpR (op_eqO (E := fun _ _ _ => False) Me.m GE hr2 Me.b (fun _ => quiet0)) (pv 5) (pe_ix ix_tup (pv 4) pe_int (fun _ _ => rfl)) (nomark _)))))))))))) (pss_one (ps_ret pe_bl)) pss_nil)
      (pss_cons (ps_set (i := 7) scRight.nd rfl (Or.inl rfl) (pe_op op_cat (pe_callTy call_list_of (by rfl) T.list (by decide +kernel) (pa_cons (pv 4) pa_nil)) (pe_lst (pa_cons pe_int pa_nil))))
      (pss_cons (ps_set (i := 8) scRight.nd rfl (Or.inl rfl) (pe_call GR hr1 (by rfl) R.g R.F.kp R.b .nil pass0 (pa_cons (pv 0) (pa_cons (pe_callB call_len_seq (by rfl) T.len PySem.boot_len (pa_cons (pv 7) pa_nil)) pa_nil))))
      (pss_cons (ps_asg (pe_op op_add (pe_ix ix_list (pv 7) (pv 8) (fun _ _ => rfl)) (pe_ifExp (pt_cmpR op_lt (pe_ix ix_list (pv 7) (pv 8) (fun _ _ => rfl)) (pe_op op_sub (pe_op op_pow pe_int pe_int) pe_int) (nomark _)) pe_int (pe_un un_neg pe_int))) (pg_sub (pv 7) (pv 8) set_list))
      (pss_cons (ps_if (PW.pt (pw_or (pt_cmpR (op_eqO (E := fun _ _ _ => False) Me.m GE hr2 Me.b (fun _ => quiet0)) (pe_make Ni.M GC hr5 (by rfl) Cl.g Ni.b .nil pass0 (pa_cons (pe_callTy call_tuple_of (by rfl) T.tuple (by decide +kernel) (pa_cons (pv 7) pa_nil)) pa_nil)) (pv 5) (nomark _))
          (pw_or1 (pt_not (pt_cmpR (op_neO (E := fun _ _ _ => False) Cl.ne Me.m GE hr2 Me.b (fun _ => quiet0)) (pe_make Ni.M GC hr5 (by rfl) Cl.g Ni.b .nil pass0 (pa_cons (pe_callTy call_tuple_of (by rfl) T.tuple (by decide +kernel) (pa_cons (pv 7) pa_nil)) pa_nil)) (pv 5) (nomark _)))))) (pss_one (ps_ret pe_bl)) pss_nil)
      (pss_cons (ps_set (i := 9) scRight.nd rfl (Or.inl rfl) (pe_call GP hr2 (by rfl) Pk.g Pk.F.kp Pk.b .nil pass0 (pa_cons (pv 0) (pa_cons (pe_lst (pa_cons (pe_un un_neg pe_int) (pa_cons pe_non (pa_cons pe_bl (pa_cons pe_str (pa_cons (pe_op op_pow pe_int pe_int) (pa_cons (pe_tup (pa_cons pe_int pa_nil)) pa_nil))))))) pa_nil))))
      (pss_one (ps_ret (pe_cmpR op_eq (pe_callB (call_repr hg hr.units) (by rfl) T2.repr (by decide +kernel) (pa_cons (pe_call GA hr (by rfl) LA.g LA.F.kp LA.b .nil pass0 (pa_cons (pv 5) (pa_cons (pv 9) pa_nil))) pa_nil))
          (pe_callB (call_repr hg hr.units) (by rfl) T2.repr (by decide +kernel) (pa_cons (pe_tup (pa_cons pe_str (pa_cons (pv 9) pa_nil))) pa_nil)) (nomark _))))))))))))))))), ?_⟩
    walk_at "rd"
    refine g_I ⟨by decide, by decide, by decide⟩ ?_
    walk_at "rd"
    refine g_I ⟨by decide, by decide, by decide⟩ ?_
    walk_at "rd"
    refine ⟨by show 4 ≤ sizeLine; decide, fun l1 hl1 => ?_⟩
    walk_at "rd"
    refine ⟨d, l1, _, rfl, hd.upd (dice_none hd hl1), SqL.of upd_same, dice_none hd hl1, by decide, by decide, fun H1 x1 e1 hd1 hx1 => ?_⟩
    have E1 : ExtBut d H H1 := (ExtBut.of (Ext.new hl1)).trans e1
    obtain ⟨z, rfl, z0, z1⟩ : ∃ z : Int, x1 = .int z ∧ 1 ≤ z ∧ z < 10 ^ 60 := by
      simp only [List.mem_cons, List.not_mem_nil, or_false] at hx1
      rcases hx1 with rfl | rfl | rfl | rfl
      all_goals exact ⟨_, rfl, by decide +kernel, by decide +kernel⟩
    clear e1 hx1
    walk_at "rd"
    refine ⟨by show 3 ≤ sizeLine; decide, fun l2 hl2 => ?_⟩
    walk_at "rd"
    refine ⟨d, l2, _, rfl, hd1.upd (dice_none hd1 hl2), SqL.of upd_same, dice_none hd1 hl2, by decide, by decide, fun H2 x2 e2 hd2 hx2 => ?_⟩
    have E2 := E1.trans ((ExtBut.of (Ext.new hl2)).trans e2)
    obtain ⟨m, rfl, m0, m1⟩ : ∃ m : Int, x2 = .int m ∧ 0 ≤ m ∧ m ≤ 40 := by
      simp only [List.mem_cons, List.not_mem_nil, or_false] at hx2
      rcases hx2 with rfl | rfl | rfl
      all_goals exact ⟨_, rfl, by decide, by decide⟩
    clear e2 hx2
    walk_at "rd"
    refine ⟨d, m, z, rfl, hd2, m0, by omega, by omega, by omega, fun H3 fh ns e3 hd3 _ hfh hlen hb => ?_⟩
    have E3 := E2.trans e3
    walk_at "rd"
    refine ⟨by show 1 ≤ sizeLine; decide, fun o1 ho1 => ?_⟩
    walk_at "rd"
    refine ⟨d, 4, rfl, hd3.upd (dice_none hd3 ho1), by decide, by decide, fun H4 r e4 hd4 r0 r1 => ?_⟩
    have e34 : ExtBut d H3 H4 := (ExtBut.of (Ext.new ho1)).trans e4
    have hz4 : SqT K H4 o1 [V.int 0] := sqT_dice (hd3.upd (dice_none hd3 ho1)) e4 (SqT.of upd_same)
    have hf4 : SqT K H4 fh (ns.map V.int) := sqT_dice hd3 e34 (SqT.of hfh)
    have E4 := E3.trans e34
    clear e4
    refine g_repA hz4 r0 (by omega) (fun H5 g5 e5 hg5 => ?_)
    refine g_catA (sqT_ext e5 hf4) hg5 (by simp only [List.length_map, List.length_replicate]; rw [sizeLine_eq]; omega) (fun H6 g6 e6 hg6 => ?_)
    rw [← List.map_append] at hg6
    have e46 := Ext.trans e5 e6
    have E6 := E4.trans (ExtBut.of e46)
    have hd6 : DiceAt H6 d := hd4.ext e46
    refine g_name ?_
    dsimp only
    refine g_cut (PvG K H d fh z ns) (fun σ7 H7 hN => ?_) (fun go => ?_)
    rotate_left
    · walk_at "rd"
      refine ⟨d, 4, rfl, hd6, by decide, by decide, fun H7 r7 e7 hd7 _ _ => ?_⟩
      have hg7 := sqT_dice hd6 e7 hg6
      have E7 := E6.trans e7
      walk_at "rd"
      refine ite2 (fun h1 => ?_) (fun h1 => ?_)
      · walk_at "rd"
        refine ⟨by show 1 ≤ sizeLine; decide, fun o2 ho2 => ?_⟩
        walk_at "rd"
        refine ⟨g6, _, rfl, .inr (sqT_ext (Ext.new ho2) hg7), ?_⟩
        walk_at "rd"
        rw [List.length_map, List.length_append, List.length_replicate]
        refine g_repA (SqT.of upd_same) (by omega) (by omega) (fun H8 g8 e8 hg8 => ?_)
        refine g_catA (sqT_ext (Ext.trans (Ext.new ho2) e8) hg7) hg8 (by simp only [List.length_map, List.length_append, List.length_replicate]; rw [sizeLine_eq]; omega) (fun H9 g9 e9 hg9 => ?_)
        rw [← List.map_append, List.append_assoc, List.replicate_append_replicate] at hg9
        have e79 := Ext.trans (Ext.trans (Ext.new ho2) e8) e9
        exact go _ _ ⟨g9, _, rfl, E7.trans (ExtBut.of e79), hd7.ext e79, hg9, by omega⟩
      · exact go _ _ ⟨g6, _, rfl, E7, hd7, hg7, by omega⟩
    obtain ⟨g, q, rfl, E7, hd7, hg7, hq⟩ := hN
    have bns : Big ns := fun n hn => ⟨by have := (hb n hn).1; omega, by have := (hb n hn).2; omega⟩
    have lns : ns.length ≤ 40 := by omega
    have bgs : Big (ns ++ List.replicate q (0 : Int)) := fun n hn => by
      rcases List.mem_append.mp hn with h | h
      · exact bns n h
      · rw [List.eq_of_mem_replicate h]
        exact ⟨by decide +kernel, by decide +kernel⟩
    have lgs : (ns ++ List.replicate q (0 : Int)).length ≤ 400 := by
      rw [List.length_append, List.length_replicate]
      exact hq
    walk_at "rd"
    refine ⟨g, _, rfl, .inr hg7, by omega, fun H8 u e8 hu => ?_⟩
    rw [trim_zeros] at hu
    have bdue : Big (trim ns) := fun n hn => bns n (trim_mem ns n hn)
    have ldue : (trim ns).length ≤ 40 := Nat.le_trans (trim_len ns) lns
    have tdue : trim (trim ns) = trim ns := trim_trim ns
    have hg8 := sqT_ext e8 hg7
    have E8 := E7.trans (ExtBut.of e8)
    have hd8 := hd7.ext e8
    walk_at "rd"
    refine g_par ?_
    walk_at "rd"
    refine g_makeW (fun Q0 k0 => ⟨_, rfl, k0 _ _ (fun _ _ h => h) hg8⟩) lgs bgs (fun H9 p1 v1 e9 hp1 => ?_)
    rw [trim_zeros] at hp1
    walk_at "rd"
    refine g_makeW (fun Q0 k0 => ⟨_, rfl, k0 _ _ (fun _ _ h => h) (sqT_ext e9 hu)⟩) (by omega) bdue (fun H10 p2 v2 e10 hp2 => ?_)
    rw [tdue] at hp2
    walk_at "rd"
    refine ⟨_, _, rfl, ?_⟩
    have e810 := Ext.trans e9 e10
    have E10 := E8.trans (ExtBut.of e810)
    have hd10 := hd8.ext e810
    have hu10 := sqT_ext e810 hu
    have hp110 := hp1.ext e10
    clear hg8 hp1 hu E7 E8 e8 e9 e10 e810 hd7 hd8 hg7 E1 E2 E3 E4 E6 e34 e46 hd6 hg6 hd1 hd2 hd3 hd4 hg5 e5 e6 hf4 hz4 hfh e3
    generalize trim ns = due at *
    dsimp only
    refine g_cut (PvP K C H d p1 p2 v1 v2 u due) (fun σ' H' hN => ?_) (fun go => ?_)
    rotate_left
    · walk_at "rd"
      refine ⟨p1, v1, u, due, rfl, hp110, hu10, bdue, by omega, fun H11 e11 => ?_⟩
      walk_at "rd"
      refine ⟨p2, v2, u, due, rfl, hp2.ext e11, sqT_ext e11 hu10, bdue, by omega, fun H12 e12 => ?_⟩
      walk_at "rd"
      have e1012 := Ext.trans e11 e12
      refine g_neP Cl (hp110.ext e1012) (hp2.ext e1012) ?_
      rw [decide_eq_true rfl]
      exact ⟨_, rfl, g_NT (go _ _ ⟨_, _, _, rfl, E10.trans (ExtBut.of e1012), hd10.ext e1012, sqT_ext e1012 hu10, hp110.ext e1012, hp2.ext e1012⟩)⟩
    obtain ⟨x3, x4, x5, rfl, E11, hd11, hu11, hp11, hp21⟩ := hN
    clear E10 hd10 hu10 hp110 hp2
    refine g_cut (PvP K C H d p1 p2 v1 v2 u due) (fun σ' H' hN => ?_) (fun go => ?_)
    rotate_left
    · have ev : PyData.eqv (.tuple (idata due)) (.tuple []) = decide (due = []) := eqv_ints due []
      walk_at "rd"
      refine g_eqNot hp11 (tyT hu11) (by kernel_rfl) NP.tup ?_
      walk_at "rd"
      refine ⟨u, _, rfl, .inr hu11, fun l hl => ?_⟩
      have e12 : Ext H' (upd H' l (.lst (due.map V.int))) := Ext.new hl
      refine g_eqNot (hp11.ext e12) (.base (.lst upd_same)) (by kernel_rfl) NP.lst ?_
      walk_at "rd"
      refine g_eqNot (hp11.ext e12) (.base (.int _)) (by kernel_rfl) NP.int ?_
      walk_at "rd"
      refine g_eqNot (hp11.ext e12) (.base .non) (by kernel_rfl) NP.non ?_
      walk_at "rd"
      refine g_eqNot (hp11.ext e12) (.base (.str _)) (by kernel_rfl) NP.str ?_
      walk_at "rd"
      refine ⟨Nat.zero_le _, fun o ho => ?_⟩
      have e13 := Ext.trans e12 (Ext.new (o := HO.tup []) ho)
      refine ⟨.tuple (idata due), .tuple [], .tup (sqT_ext e13 hu11) (dp_ints _), .tup (SqT.of upd_same) .nil, shaped_tup _, by rfl, ?_⟩
      rw [ev]
      generalize upd (upd H' l (.lst (due.map V.int))) o (.tup []) = H13 at e13
      walk_at "rd"
      have fin := go _ _ (⟨x3, x4, x5, rfl, E11.trans (ExtBut.of e13), hd11.ext e13, sqT_ext e13 hu11, hp11.ext e13, hp21.ext e13⟩ : PvP K C H d p1 p2 v1 v2 u due _ H13)
      by_cases hz : due = []
      · rw [decide_eq_true hz]
        exact g_NT (iteF fin)
      · rw [decide_eq_false hz]
        walk_at "rd"
        have l0 : 0 < due.length := List.length_pos_iff.mpr hz
        refine g_ixT (sqT_ext e13 hu11) (v := .int due[0]) (atI_nat (j := 0) (by rw [mapget, List.getElem?_eq_getElem l0]; rfl)) ?_
        refine g_eqNot (hp11.ext e13) (.base (.int _)) (by kernel_rfl) NP.int ?_
        exact ⟨_, rfl, iteF fin⟩
    obtain ⟨x6, x7, x8, rfl, E12, hd12, hu12, hp12, _⟩ := hN
    clear E11 hd11 hu11 hp11 hp21
    walk_at "rd"
    refine ⟨u, _, rfl, .inr hu12, fun l3 hl3 => ?_⟩
    walk_at "rd"
    refine ⟨by show 1 ≤ sizeLine; decide, fun l4 hl4 => ?_⟩
    have e34 := Ext.new (o := HO.lst [V.int 0]) hl4
    refine ⟨l3, l4, _, _, rfl, rfl, e34 _ _ upd_same, upd_same, by rw [List.length_map, sizeLine_eq]; show (due.length + 1) ≤ _; omega, fun c hc => ?_⟩
    have e15 := Ext.trans (Ext.new (o := HO.lst (due.map V.int)) hl3) (Ext.trans e34 (Ext.new (o := HO.lst (due.map V.int ++ [V.int 0])) hc))
    have hc15 : upd (upd (upd H' l3 (HO.lst (due.map V.int))) l4 (HO.lst [V.int 0])) c (HO.lst (due.map V.int ++ [V.int 0])) c = some (HO.lst ((due ++ [0]).map V.int)) := by
      rw [List.map_append]
      exact upd_same
    have hcn : H' c = none := by
      cases q : H' c with
      | none => rfl
      | some o =>
        have h := e34 _ _ (Ext.new (o := HO.lst (due.map V.int)) hl3 _ _ q)
        rw [hc] at h
        cases h
    have nc : c ≠ d := dice_none (hd12.ext (Ext.trans (Ext.new (o := HO.lst (due.map V.int)) hl3) e34)) hc
    generalize upd (upd (upd H' l3 (HO.lst (due.map V.int))) l4 (HO.lst [V.int 0])) c (HO.lst (due.map V.int ++ [V.int 0])) = H15 at e15 hc15
    have E15 := E12.trans (ExtBut.of e15)
    have hd15 := hd12.ext e15
    have hp15 := hp12.ext e15
    walk_at "rd"
    refine ⟨c, _, rfl, .inl (SqL.of hc15), ?_⟩
    walk_at "rd"
    rw [List.length_map]
    have lc : (due ++ [0]).length = due.length + 1 := List.length_append
    refine ⟨d, _, rfl, hd15, by omega, by omega, fun H16 r e16 hd16 r0 r1 => ?_⟩
    have E16 := E15.trans e16
    have hp16 := hp15.dice hd15 e16
    have hc16 := e16 _ _ nc hc15
    obtain ⟨i, rfl⟩ : ∃ i : Nat, r = (i : Int) := ⟨r.toNat, by omega⟩
    have hi : i < (due ++ [0]).length := by omega
    have bch : Big (due ++ [0]) := fun n hn => by
      rcases List.mem_append.mp hn with h | h
      · exact bdue n h
      · rw [List.mem_singleton] at h
        rw [h]
        exact ⟨by decide +kernel, by decide +kernel⟩
    have gi : atI ((due ++ [0]).map V.int) (i : Int) = some (.int (due ++ [0])[i]) := atI_nat (by rw [mapget, List.getElem?_eq_getElem hi]; rfl)
    have bi := bch _ (List.getElem_mem hi)
    have si : ((due ++ [0])[i]?).getD 0 = (due ++ [0])[i] := by
      rw [List.getElem?_eq_getElem hi]
      rfl
    walk_at "rd"
    refine g_ixL (SqL.of hc16) gi ?_
    walk_at "rd"
    refine g_ixL (SqL.of hc16) gi ?_
    generalize (due ++ [0])[i] = x at bi si
    walk_at "rd"
    refine g_I ⟨by decide, by decide, by decide⟩ ?_
    walk_at "rd"
    obtain ⟨δ, hδ⟩ : ∃ δ : Int, δ = if x < 10 ^ 60 - 1 then 1 else -1 := ⟨_, rfl⟩
    have dx : δ ≠ 0 ∧ -(10 ^ 60) < x + δ ∧ x + δ < 10 ^ 60 := by
      rw [hδ]
      split <;> omega
    refine g_ifV (.int δ) (fun hc Q' k' => ?_) (fun hc Q' k' => ?_) ?_
    · rw [hδ, if_pos (of_decide_eq_true hc : x < 10 ^ 60 - 1)] at k'
      exact k'
    · rw [hδ, if_neg (of_decide_eq_false hc : ¬ x < 10 ^ 60 - 1)] at k'
      walk_at "rd"
      exact k'
    walk_at "rd"
    refine ⟨c, _, _, i, rfl, rfl, hc16, ixN_at (by rw [List.length_map]; exact hi), ?_⟩
    have bnew : Big ((due ++ [0]).set i (x + δ)) := fun n hn => by
      rcases List.mem_or_eq_of_mem_set hn with h | h
      · exact bch n h
      · rw [h]
        exact dx.2
    have lnew : ((due ++ [0]).set i (x + δ)).length ≤ 400 := by
      rw [List.length_set]
      omega
    have tnew : trim ((due ++ [0]).set i (x + δ)) ≠ due := by
      have h := trim_changed (z := x + δ) hi (by rw [si]; omega)
      rw [tdue] at h
      exact h
    have hc17 : upd H16 c (.lst (((due ++ [0]).map V.int).set i (.int (x + δ)))) c = some (.lst (((due ++ [0]).set i (x + δ)).map V.int)) := by
      rw [upd_same, List.map_set]
    have e17 : ∀ b o, b ≠ c → H16 b = some o → upd H16 c (.lst (((due ++ [0]).map V.int).set i (.int (x + δ)))) b = some o := fun b o n q => by
      rw [upd_ne n]
      exact q
    generalize upd H16 c (.lst (((due ++ [0]).map V.int).set i (.int (x + δ)))) = H17 at hc17 e17
    generalize (due ++ [0]).set i (x + δ) = cs at bnew lnew tnew hc17
    have hp17 := hp16.lst hc16 e17
    have hd17 : DiceAt H17 d := by
      obtain ⟨a1, a2, a3, h, t⟩ := hd16
      exact ⟨a1, a2, a3, e17 _ _ (Ne.symm nc) h, t⟩
    have E17 : ExtBut d H H17 := fun b o n q => by
      have q16 := E16 b o n q
      by_cases z : b = c
      · subst z
        have h := E12 b o n q
        rw [hcn] at h
        cases h
      · exact e17 _ _ z q16
    clear E16 hp16 hd16 hc16 e16 e17 gi bch hd15 hp15 hc15 E15 e15
    dsimp only
    refine g_cut (fun σ H' => ∃ (x1 x2 x3 x4 x5 x6 x7 x8 : Option V), σ = [some (.ref d), x1, x2, x3, x4, some (.ref p1), x5, x6, x7, x8] ∧ ExtBut d H H' ∧ DiceAt H' d ∧ PolyU K C H' p1 v1 due) (fun σ' H' hN => ?_) (fun go => ?_)
    rotate_left
    · walk_at "rd"
      refine g_makeW (ns := cs) (fun Q0 k0 => ⟨_, rfl, c, _, rfl, .inl ⟨SqL.of hc17, fun t ht => k0 _ _ (Ext.new ht) (SqT.of upd_same)⟩⟩) lnew bnew (fun H18 p3 v3 e18 hp3 => ?_)
      walk_at "rd"
      refine g_eqP Cl hp3 (hp17.ext e18) ?_
      rw [decide_eq_false tnew]
      walk_at "rd"
      refine g_makeW (ns := cs) (fun Q0 k0 => ⟨_, rfl, c, _, rfl, .inl ⟨SqL.of (e18 _ _ hc17), fun t ht => k0 _ _ (Ext.new ht) (SqT.of upd_same)⟩⟩) lnew bnew (fun H19 p4 v4 e19 hp4 => ?_)
      have e1719 := Ext.trans e18 e19
      walk_at "rd"
      refine g_neP Cl hp4 (hp17.ext e1719) ?_
      rw [decide_eq_false tnew]
      exact ⟨_, rfl, g_NT (go _ _ ⟨_, _, _, _, _, _, _, _, rfl, E17.trans (ExtBut.of e1719), hd17.ext e1719, hp17.ext e1719⟩)⟩
    clear E17 hd17 hp17 hc17
    obtain ⟨y1, y2, y3, y4, y5, y6, y7, y8, rfl, E20, hd20, hp20⟩ := hN
    walk_at "rd"
    refine g_I ⟨by decide, by decide, by decide⟩ ?_
    walk_at "rd"
    refine ⟨by show 1 ≤ sizeLine; decide, fun o ho => ?_⟩
    have e21 := Ext.new (o := HO.tup [V.int 0]) ho
    have ho21 : upd H' o (HO.tup [V.int 0]) o = some (.tup [V.int 0]) := upd_same
    have hd21 := hd20.ext e21
    have hp21 := hp20.ext e21
    have E21 := E20.trans (ExtBut.of e21)
    generalize upd H' o (HO.tup [V.int 0]) = H21 at e21 ho21 hd21 hp21 E21
    walk_at "rd"
    refine ⟨by show 6 ≤ sizeLine; decide, fun l hl => ?_⟩
    walk_at "rd"
    refine ⟨d, l, _, rfl, hd21.upd (dice_none hd21 hl), SqL.of upd_same, dice_none hd21 hl, by show 0 < 6; decide, by show 6 ≤ 1000; decide, fun H22 x e22 hd22 hx => ?_⟩
    have e2122 : ExtBut d H21 H22 := (ExtBut.of (Ext.new hl)).trans e22
    have ho22 : H22 o = some (.tup [V.int 0]) := e2122 _ _ (dice_ne hd21 ho21 (fun _ => by simp)) ho21
    have hp22 := hp21.dice hd21 e2122
    obtain ⟨dt, wi, wd, s1, s2, s3, s4⟩ := wrong_of ho22 hx
    walk_at "rd"
    refine ⟨p1, v1, due, x, rfl, hp22, wi, fun H23 t e23 ht => ?_⟩
    walk_at "rd"
    refine ⟨t, _, rfl, .tup (SqT.of ht) (.cons (.str _) (.cons (wd _ e23) .nil)), s1, s2, s3, s4, ?_⟩
    walk_at "rd"
    refine ⟨by show 2 ≤ sizeLine; decide, fun t2 ht2 => ?_⟩
    refine ⟨t2, _, rfl, .tup (SqT.of upd_same) (.cons (.str _) (.cons (wd _ (Ext.trans e23 (Ext.new ht2))) .nil)), s1, s2, s3, s4, ?_⟩
    refine g_eqS ?_
    exact k _ (E21.trans (e2122.trans (ExtBut.of (Ext.trans e23 (Ext.new ht2)))))
end
end K0

set_option Elab.async false
set_option linter.all false
set_option maxRecDepth 100000
set_option maxHeartbeats 8000000
/-! The law. -/
namespace K0
open PySem PySem.Spec PyProof.Rows L2 Gd
local macro_rules | `(tactic| walk_at "rd1") => `(tactic| first | with_reducible refine g_ret ?_ | with_reducible refine g_retN ?_ | with_reducible refine g_seq ?_ | with_reducible refine g_next ?_ | with_reducible refine g_drop ?_ | with_reducible refine g_asg ?_ | with_reducible refine g_name ?_ | with_reducible refine g_ifs ?_ | with_reducible refine g_test ?_ | with_reducible refine g_tb ?_ | with_reducible refine g_and ?_ | with_reducible refine g_or ?_ | with_reducible refine g_not ?_ | with_reducible refine g_andV ?_ | with_reducible refine g_orV ?_ | with_reducible refine g_notV ?_ | with_reducible refine g_if ?_ | with_reducible refine g_op ?_ | with_reducible refine g_un ?_ | with_reducible refine g_cb ?_ | with_reducible refine g_nil ?_ | with_reducible refine g_cons ?_ | with_reducible refine g_call ?_ | with_reducible refine g_callS ?_ | with_reducible refine g_tup ?_ | with_reducible refine g_lst ?_ | with_reducible refine g_isN ?_ | with_reducible refine g_sl ?_ | with_reducible refine g_nopart ?_ | with_reducible refine g_part ?_ | with_reducible refine g_chain ?_ | with_reducible refine g_fld ?_ | with_reducible refine g_prop ?_ | with_reducible refine g_bm ?_ | with_reducible refine g_bm0 ?_ | with_reducible refine g_c ?_ | with_reducible refine g_sub ?_ | with_reducible refine g_int1 ?_ | with_reducible refine g_int2 ?_ | with_reducible refine g_yes ?_ | with_reducible refine g_sfld ?_ | with_reducible refine g_NT ?_ | with_reducible refine g_NF ?_ | with_reducible refine iteT ?_ | with_reducible refine iteF ?_ | ((with_reducible refine' g_aug ?hv ?_); (case hv => exact rfl)) | ((with_reducible refine' g_var ?hv ?_); (case hv => exact rfl)) | with_reducible refine g_I0 ?_ | with_reducible refine g_U ?_ | with_reducible refine g_eqI ?_ | with_reducible refine g_blV ?_ | with_reducible refine g_inV ?_)
local macro_rules | `(tactic| walk_at "rd") => `(tactic| repeat walk_at "rd1")
section
variable {P : Program} {w : World} {K : PySem.W.Frag} {mg : Str → Option Value} {base : Heap} {f : Addr} {fd : FuncData}
abbrev sLaw : Stmt := top 42
theorem trim_last (ns : List Int) {x : Int} (hx : x ≠ 0) : trim (ns ++ [x]) = ns ++ [x] := by
  induction ns with
  | nil =>
    show (if x = 0 then [] else [x]) = [x]
    rw [if_neg hx]
  | cons y r ih =>
    show trim (y :: (r ++ [x])) = y :: (r ++ [x])
    unfold trim
    rw [ih]
    cases r <;> rfl
def spLaw (K : PySem.W.Frag) : Sp := fun vs H Q _ => ∃ (a : Addr) (ns : List Int), vs = [.ref a] ∧ SqL K H a (ns.map V.int) ∧ ns.length ≤ 63 ∧ ∀ H', Q (.bl true) H'
theorem scLaw : FnScope ["_law_script", "_law_spot"] ["_law_script"] (defScope sLaw) := ⟨rfl, rfl, rfl, by decide +kernel, rfl, by decide +kernel, by decide +kernel⟩
theorem big_nil : Big [] := fun n hn => nomatch hn
theorem g_make0 {K : PySem.W.Frag} {C t0 : Addr} {E : XK} {σ : L2.St} {H : Hp} {Q : VK} (h0 : SqT K H t0 []) (k : ∀ H' p u, Ext H H' → PolyU K C H' p u [] → Q (.ref p) H') : tMake C (spInit K C) [.ref t0] E tNil σ H Q :=
  g_makeP (ns := []) (Q := Q) h0 (by decide) (fun n hn => nomatch hn) k
def row399 : List Int := List.replicate 399 0 ++ [-1]
theorem row_trim : trim row399 = row399 := trim_last _ (by decide)
theorem row_len : row399.length = 400 := by
  unfold row399
  rw [List.length_append, List.length_replicate]
  rfl
theorem row_big : Big row399 := fun n hn => by
  rcases List.mem_append.mp hn with h | h
  · rw [List.eq_of_mem_replicate h]
    exact ⟨by decide +kernel, by decide +kernel⟩
  · rw [List.mem_singleton.mp h]
    exact ⟨by decide +kernel, by decide +kernel⟩
theorem g_row {K : PySem.W.Frag} {σ : L2.St} {H : Hp} {Q : VK} (k : ∀ H' a, Ext H H' → SqT K H' a (row399.map V.int) → Q (.ref a) H') :
    tOp (rCatA K) (tOp (rRepA K) (tTup (tCons (tC (.int 0)) tNil)) (tC (.int 399))) (tTup (tCons (tUn (rU fun a => .int (-a)) (tC (.int 1))) tNil)) σ H Q := by
  walk_at "rd"
  refine ⟨by show 1 ≤ sizeLine; decide, fun o1 ho1 => ?_⟩
  walk_at "rd"
  refine g_repA (n := 399) (SqT.of upd_same) (by decide) (by decide) (fun H2 g2 e2 hg2 => ?_)
  walk_at "rd"
  refine ⟨by show 1 ≤ sizeLine; decide, fun o2 ho2 => ?_⟩
  refine g_catA (sqT_ext (Ext.new ho2) hg2) (SqT.of upd_same) (by rw [List.length_map, List.length_replicate, sizeLine_eq]; decide) (fun H3 g3 e3 hg3 => ?_)
  refine k H3 g3 (Ext.trans (Ext.new ho1) (Ext.trans e2 (Ext.trans (Ext.new ho2) e3))) ?_
  unfold row399
  rw [List.map_append]
  exact hg3
theorem ok_law {fD fRt fS fC C t0 : Addr} {fdD fdRt fdS fdC : FuncData} {ds : List Value} (F : Fun K "law" "law" sLaw f fd) (T : Txt K mg) (T2 : Txt2 mg) (Cl : PC K mg C) (gX : ∃ t, mg "MAX_DEGREE" = some (.int 2000 t))
    (LD : AtD K mg "_law_dice" 34 ["_law_script", "_law_spot"] fD fdD) (LR : AtD K mg "_law_right" 41 ["_law_dice_here"] fRt fdRt) (LS : AtD K mg "_law_shows" 40 ["_law_poly", "_law_due"] fS fdS) (Ni : AtN K C t0 fC fdC)
    (b0 : Binds K fdC ["self", "factors"] ds) (hds : Vals [V.ref t0] ds) (hT0 : ∀ H, SqT K H t0 [])
    (GD : FnOk P w K mg base CX0 1 fD fdD ["_law_script", "_law_spot"] (spDice K)) (GRt : FnG P w K mg base CX0 8 fRt fdRt ["_law_dice_here"] spRight) (GS : FnG P w K mg base CX0 7 fS fdS ["_law_poly", "_law_due"] (spShows K C))
    (GC : FnOk P w K mg base CX0 4 fC fdC ["self", "factors"] (spInit K C)) :
    FnG P w K mg base CX0 9 f fd ["_law_script"] (spLaw K) := by
  obtain ⟨tM, gM⟩ := T.most
  obtain ⟨tX, gX⟩ := gX
  refine fnG F scLaw (fun vs H Q E h => ?_) (fun cdv A outer s H vs Q E hg hr h => ?_)
  · obtain ⟨a, ns, rfl, _⟩ := h
    rfl
  · obtain ⟨a, ns, rfl, hs, hl, k⟩ := h
    have hr1 := hr.mono (j := 1) (by decide)
    have hr5 := hr.mono (j := 5) (by decide)
    have hr7 := hr.mono (j := 7) (by decide)
    refine ⟨_, PSs.nox (pss_cons (ps_for PassesOwn.never rfl (pi_range1 (by rfl) T2.range (pa_cons (pe_callB (call_max2 rfl) (by rfl) T2.max (by decide +kernel) (pa_cons pe_int (pa_cons (pe_callB (call_min2 rfl) (by rfl) T2.min (by decide +kernel) (pa_cons pe_int (pa_cons (pe_callB call_len_seq (by rfl) T.len PySem.boot_len (pa_cons (pv 0) pa_nil)) pa_nil))) pa_nil))) pa_nil)) (pg_name (i := 1) scLaw.nd rfl (Or.inl rfl))
          (pss_one (ps_if (pt_not (pt_val (pe_callG hg GRt hr (by rfl) LR.g LR.F.kp LR.b .nil pass0 (pa_cons (pe_call GD hr1 (by rfl) LD.g LD.F.kp LD.b .nil pass0 (pa_cons (pv 0) (pa_cons (pv 1) pa_nil))) pa_nil)))) (pss_one (ps_ret pe_bl)) pss_nil)))
      (pss_cons (ps_if (PW.pt (pw_or (pt_not (pt_val (pe_callG hg GS hr7 (by rfl) LS.g LS.F.kp LS.b .nil pass0 (pa_cons (pe_make0 Ni.M GC hr5 (by rfl) Cl.g b0 hds pass0) (pa_cons (pe_tup pa_nil) pa_nil)))))
          (pw_or (pt_not (pt_val (pe_callG hg GS hr7 (by rfl) LS.g LS.F.kp LS.b .nil pass0 (pa_cons (pe_make Ni.M GC hr5 (by rfl) Cl.g Ni.b .nil pass0 (pa_cons (pe_tup (pa_cons pe_int pa_nil)) pa_nil)) (pa_cons (pe_tup (pa_cons pe_int pa_nil)) pa_nil)))))
          (pw_or1 (pt_cmpR (op_neD hr.units) (pe_lst (pa_cons (pe_glob (v := .int 400) (by rfl) gM ⟨_, rfl⟩) (pa_cons (pe_glob (v := .int 2000) (by rfl) gX ⟨_, rfl⟩) pa_nil))) (pe_lst (pa_cons pe_int (pa_cons pe_int pa_nil))) (nomark _)))))) (pss_one (ps_ret pe_bl)) pss_nil)
      (pss_one (ps_ret (pe_callG hg GS hr7 (by rfl) LS.g LS.F.kp LS.b .nil pass0 (pa_cons (pe_make Ni.M GC hr5 (by rfl) Cl.g Ni.b .nil pass0 (pa_cons (pe_op op_catA (pe_op op_repA (pe_tup (pa_cons pe_int pa_nil)) pe_int) (pe_tup (pa_cons (pe_un un_neg pe_int) pa_nil))) pa_nil))
          (pa_cons (pe_op op_catA (pe_op op_repA (pe_tup (pa_cons pe_int pa_nil)) pe_int) (pe_tup (pa_cons (pe_un un_neg pe_int) pa_nil))) pa_nil))))))), ?_⟩
    refine g_cut (fun σ H' => True) (fun σ' H' _ => ?_) (fun go => ?_)
    rotate_left
    · refine g_forR ?_
      walk_at "rd"
      refine ⟨a, _, rfl, .inl hs, ?_⟩
      walk_at "rd"
      rw [List.length_map]
      refine ⟨by split <;> omega, by split <;> omega, ?_⟩
      refine for_range (fun i σ H' => ∃ x : Option V, σ = [some (.ref a), x] ∧ Ext H H') ⟨_, rfl, fun _ _ h => h⟩ ?_ ?_
      · rintro i σ H2 hi ⟨x, rfl, e⟩
        have hi63 : i ≤ 63 := by
          revert hi
          split <;> (try split) <;> intro hi <;> omega
        walk_at "rd"
        have hi0 : (0 : Int) + (i : Int) = (i : Int) := by omega
        rw [hi0]
        refine ⟨a, ns, i, rfl, sqL_ext e hs, hi63, fun H3 d e3 hd0 hd => ?_⟩
        walk_at "rd"
        refine ⟨d, rfl, hd, fun H4 e4 => ?_⟩
        walk_at "rd"
        exact ⟨_, rfl, fun b o q => e4 b o (ne_of_none (e b o q) hd0) (e3 b o (e b o q))⟩
      · rintro σ H2 _
        exact go _ _ trivial
    walk_at "rd"
    refine g_make0 (hT0 _) (fun H1 p1 u1 e1 hp1 => ?_)
    walk_at "rd"
    refine ⟨Nat.zero_le _, fun o1 ho1 => ?_⟩
    refine ⟨p1, u1, o1, [], rfl, hp1.ext (Ext.new ho1), SqT.of upd_same, big_nil, by decide, fun H2 _ => ?_⟩
    walk_at "rd"
    refine g_makeW (ns := [7]) (fun Q0 k0 => ⟨by show 1 ≤ sizeLine; decide, fun t ht => k0 _ _ (Ext.new ht) (SqT.of upd_same)⟩) (by decide) (fun n hn => by rw [List.mem_singleton.mp hn]; exact ⟨by decide +kernel, by decide +kernel⟩) (fun H3 p2 u2 e3 hp2 => ?_)
    walk_at "rd"
    refine ⟨by show 1 ≤ sizeLine; decide, fun o2 ho2 => ?_⟩
    refine ⟨p2, u2, o2, [7], rfl, hp2.ext (Ext.new ho2), SqT.of upd_same, fun n hn => by rw [List.mem_singleton.mp hn]; exact ⟨by decide +kernel, by decide +kernel⟩, by decide, fun H4 _ => ?_⟩
    walk_at "rd"
    refine ⟨by show 2 ≤ sizeLine; decide, fun l1 hl1 => ?_⟩
    walk_at "rd"
    refine ⟨by show 2 ≤ sizeLine; decide, fun l2 hl2 => ?_⟩
    refine ⟨.list [.int 400, .int 2000], .list [.int 400, .int 2000], .lst (SqL.of (Ext.new hl2 _ _ upd_same)) (.cons (.int _) (.cons (.int _) .nil)), .lst (SqL.of upd_same) (.cons (.int _) (.cons (.int _) .nil)), by rfl, by rfl, ?_⟩
    rw [show PyData.eqv (.list [.int 400, .int 2000]) (.list [.int 400, .int 2000]) = true from by decide +kernel]
    walk_at "rd"
    refine g_makeW (ns := row399) (fun Q0 k0 => g_row k0) (Nat.le_of_eq row_len) row_big (fun H5 p3 u3 e5 hp3 => ?_)
    rw [row_trim] at hp3
    refine g_row (fun H6 a3 e6 h3 => ?_)
    exact ⟨p3, u3, a3, row399, rfl, hp3.ext e6, h3, row_big, Nat.le_of_eq row_len, fun H7 _ => k H7⟩
end
end K0

set_option Elab.async false
set_option linter.all false
set_option maxRecDepth 100000
set_option maxHeartbeats 8000000
/-! What the top has written; the head. -/
namespace K0
open PySem PySem.Spec PyProof.Rows L2 Gd
/-- an error of the class at S is what «except S» names -/
theorem exm_own {K : PySem.W.Frag} {S : Addr} (h1 : PySem.W.subIn K (.ref S) (.type "BaseException") = some true) (h2 : PySem.W.isClsIn K S = true) (h3 : PySem.W.typeIn K (.ref S) = some (.type "type")) (h4 : PySem.W.subIn K (.ref S) (.ref S) = some true) :
    PySem.W.exmOne K (.ref S) (.ref S) = some true := by
  have h2' : (PySem.W.clsIn K S).isSome = true := h2
  simp [PySem.W.exmOne, PySem.W.kitCls, h1, h2', h3, h4]
theorem kit_self {K : PySem.W.Frag} {C : Addr} : PySem.W.kitOne K (.ref C) (.ref C) = some true := by
  unfold PySem.W.kitOne
  simp
theorem kit_not {K : PySem.W.Frag} {C : Addr} {T : String} (h : PySem.W.isClsIn K C = true) (ht : PySem.W.typeIn K (.ref C) = some (.type "type")) (hs : PySem.W.subIn K (.type T) (.ref C) = some false) : PySem.W.kitOne K (.type T) (.ref C) = some false := by
  have h' : (PySem.W.clsIn K C).isSome = true := h
  have e : (Value.type T == Value.ref C) = false := rfl
  simp [PySem.W.kitOne, PySem.W.kitCls, e, h', ht, hs]
theorem all_mk {l : PySem.W.OpenLaw} {w : World} {K : PySem.W.Frag} {h : Heap} {mg : Str → Option Value} {fa fWh fIn fRq fTr fDi fRo fPi fLt fLf fAt fSh fRi fLa C fI0 T0 t0 fGi fLn fBo fIt fEq fFa pFa fDe pDe fLe pLe CN fN Nq : Addr} (X : K.In h) (G : h.Ns mainGlobals mg) (hfa : mg "law" = some (.ref fa))
    {odWh anWh : Option Addr} {slWh : Array (Option Value)} {ocWh kVWh dcWh pmWh cdWh ctWh : Value}
    {odIn anIn : Option Addr} {slIn : Array (Option Value)} {ocIn kVIn dcIn pmIn cdIn ctIn : Value}
    {odRq anRq : Option Addr} {slRq : Array (Option Value)} {ocRq kVRq dcRq pmRq cdRq ctRq : Value}
    {odTr anTr : Option Addr} {slTr : Array (Option Value)} {ocTr kVTr dcTr pmTr cdTr ctTr : Value}
    {odDi anDi : Option Addr} {slDi : Array (Option Value)} {ocDi kVDi dcDi pmDi cdDi ctDi : Value}
    {odRo anRo : Option Addr} {slRo : Array (Option Value)} {ocRo kVRo dcRo pmRo cdRo ctRo : Value}
    {odPi anPi : Option Addr} {slPi : Array (Option Value)} {ocPi kVPi dcPi pmPi cdPi ctPi : Value}
    {odLt anLt : Option Addr} {slLt : Array (Option Value)} {ocLt kVLt dcLt pmLt cdLt ctLt : Value}
    {odLf anLf : Option Addr} {slLf : Array (Option Value)} {ocLf kVLf dcLf pmLf cdLf ctLf : Value}
    {odAt anAt : Option Addr} {slAt : Array (Option Value)} {ocAt kVAt dcAt pmAt cdAt ctAt : Value}
    {odSh anSh : Option Addr} {slSh : Array (Option Value)} {ocSh kVSh dcSh pmSh cdSh ctSh : Value}
    {odRi anRi : Option Addr} {slRi : Array (Option Value)} {ocRi kVRi dcRi pmRi cdRi ctRi : Value}
    {odLa anLa : Option Addr} {slLa : Array (Option Value)} {ocLa kVLa dcLa pmLa cdLa ctLa : Value}
    {odI0 anI0 : Option Addr} {slI0 : Array (Option Value)} {ocI0 kVI0 dcI0 pmI0 cdI0 ctI0 : Value}
    {ocT : Value} {odT : Option Addr} {nT : Nat} {slT : Array (Option Value)} {odt : Option Addr} {nt : Nat} {slt : Array (Option Value)}
    {odGi anGi : Option Addr} {slGi : Array (Option Value)} {ocGi kVGi dcGi pmGi cdGi ctGi : Value}
    {odLn anLn : Option Addr} {slLn : Array (Option Value)} {ocLn kVLn dcLn pmLn cdLn ctLn : Value}
    {odBo anBo : Option Addr} {slBo : Array (Option Value)} {ocBo kVBo dcBo pmBo cdBo ctBo : Value}
    {odIt anIt : Option Addr} {slIt : Array (Option Value)} {ocIt kVIt dcIt pmIt cdIt ctIt : Value}
    {odEq anEq : Option Addr} {slEq : Array (Option Value)} {ocEq kVEq dcEq pmEq cdEq ctEq : Value}
    {restFa : List Value}
    {odFa anFa : Option Addr} {slFa : Array (Option Value)} {ocFa kVFa dcFa pmFa cdFa ctFa : Value}
    {restDe : List Value}
    {odDe anDe : Option Addr} {slDe : Array (Option Value)} {ocDe kVDe dcDe pmDe cdDe ctDe : Value}
    {restLe : List Value}
    {odLe anLe : Option Addr} {slLe : Array (Option Value)} {ocLe kVLe dcLe pmLe cdLe ctLe : Value}
    {tb tm tx : Tok}
    {nm q : Str} {bs : List Value} {sn : List Str} {sub : List Value} {ab : Bool} {col : Option Bool} {dd : Option Addr} {m0 m1 m2 m3 m5 : Option Value} {odN anN : Option Addr} {slN : Array (Option Value)} {ocN dcN pmN cdN ctN : Value} {q1 q2 q3 q4 q5 q6 : Pos}
    (aWh : PySem.W.nsIn K mainGlobals "is_whole" = some (some (.ref fWh)))
    (lWh : K.lookup fWh = some ⟨ocWh, odWh, .func (PySem.W.fnOf "is_whole" "is_whole" (defArgs (top 10)) (defBody (top 10)) (defScope (top 10)) .none kVWh dcWh pmWh anWh cdWh ctWh), slWh⟩)
    (cWh : PySem.W.codeIn K cdWh "is_whole" = true)
    (kWh : PySem.W.keepIn K (.ref fWh) = true)
    (aIn : PySem.W.nsIn K mainGlobals "is_integer" = some (some (.ref fIn)))
    (lIn : K.lookup fIn = some ⟨ocIn, odIn, .func (PySem.W.fnOf "is_integer" "is_integer" (defArgs (top 11)) (defBody (top 11)) (defScope (top 11)) .none kVIn dcIn pmIn anIn cdIn ctIn), slIn⟩)
    (cIn : PySem.W.codeIn K cdIn "is_integer" = true)
    (kIn : PySem.W.keepIn K (.ref fIn) = true)
    (aRq : PySem.W.nsIn K mainGlobals "require_index" = some (some (.ref fRq)))
    (lRq : K.lookup fRq = some ⟨ocRq, odRq, .func (PySem.W.fnOf "require_index" "require_index" (defArgs (top 14)) (defBody (top 14)) (defScope (top 14)) .none kVRq dcRq pmRq anRq cdRq ctRq), slRq⟩)
    (cRq : PySem.W.codeIn K cdRq "require_index" = true)
    (kRq : PySem.W.keepIn K (.ref fRq) = true)
    (aTr : PySem.W.nsIn K mainGlobals "trimmed" = some (some (.ref fTr)))
    (lTr : K.lookup fTr = some ⟨ocTr, odTr, .func (PySem.W.fnOf "trimmed" "trimmed" (defArgs (top 16)) (defBody (top 16)) (defScope (top 16)) .none kVTr dcTr pmTr anTr cdTr ctTr), slTr⟩)
    (cTr : PySem.W.codeIn K cdTr "trimmed" = true)
    (kTr : PySem.W.keepIn K (.ref fTr) = true)
    (aDi : PySem.W.nsIn K mainGlobals "_law_dice" = some (some (.ref fDi)))
    (lDi : K.lookup fDi = some ⟨ocDi, odDi, .func (PySem.W.fnOf "_law_dice" "_law_dice" (defArgs (top 34)) (defBody (top 34)) (defScope (top 34)) .none kVDi dcDi pmDi anDi cdDi ctDi), slDi⟩)
    (cDi : PySem.W.codeIn K cdDi "_law_dice" = true)
    (kDi : PySem.W.keepIn K (.ref fDi) = true)
    (aRo : PySem.W.nsIn K mainGlobals "_law_roll" = some (some (.ref fRo)))
    (lRo : K.lookup fRo = some ⟨ocRo, odRo, .func (PySem.W.fnOf "_law_roll" "_law_roll" (defArgs (top 35)) (defBody (top 35)) (defScope (top 35)) .none kVRo dcRo pmRo anRo cdRo ctRo), slRo⟩)
    (cRo : PySem.W.codeIn K cdRo "_law_roll" = true)
    (kRo : PySem.W.keepIn K (.ref fRo) = true)
    (aPi : PySem.W.nsIn K mainGlobals "_law_pick" = some (some (.ref fPi)))
    (lPi : K.lookup fPi = some ⟨ocPi, odPi, .func (PySem.W.fnOf "_law_pick" "_law_pick" (defArgs (top 36)) (defBody (top 36)) (defScope (top 36)) .none kVPi dcPi pmPi anPi cdPi ctPi), slPi⟩)
    (cPi : PySem.W.codeIn K cdPi "_law_pick" = true)
    (kPi : PySem.W.keepIn K (.ref fPi) = true)
    (aLt : PySem.W.nsIn K mainGlobals "_law_trimmed" = some (some (.ref fLt)))
    (lLt : K.lookup fLt = some ⟨ocLt, odLt, .func (PySem.W.fnOf "_law_trimmed" "_law_trimmed" (defArgs (top 37)) (defBody (top 37)) (defScope (top 37)) .none kVLt dcLt pmLt anLt cdLt ctLt), slLt⟩)
    (cLt : PySem.W.codeIn K cdLt "_law_trimmed" = true)
    (kLt : PySem.W.keepIn K (.ref fLt) = true)
    (aLf : PySem.W.nsIn K mainGlobals "_law_factors" = some (some (.ref fLf)))
    (lLf : K.lookup fLf = some ⟨ocLf, odLf, .func (PySem.W.fnOf "_law_factors" "_law_factors" (defArgs (top 38)) (defBody (top 38)) (defScope (top 38)) .none kVLf dcLf pmLf anLf cdLf ctLf), slLf⟩)
    (cLf : PySem.W.codeIn K cdLf "_law_factors" = true)
    (kLf : PySem.W.keepIn K (.ref fLf) = true)
    (aAt : PySem.W.nsIn K mainGlobals "_law_at_index" = some (some (.ref fAt)))
    (lAt : K.lookup fAt = some ⟨ocAt, odAt, .func (PySem.W.fnOf "_law_at_index" "_law_at_index" (defArgs (top 39)) (defBody (top 39)) (defScope (top 39)) .none kVAt dcAt pmAt anAt cdAt ctAt), slAt⟩)
    (cAt : PySem.W.codeIn K cdAt "_law_at_index" = true)
    (kAt : PySem.W.keepIn K (.ref fAt) = true)
    (aSh : PySem.W.nsIn K mainGlobals "_law_shows" = some (some (.ref fSh)))
    (lSh : K.lookup fSh = some ⟨ocSh, odSh, .func (PySem.W.fnOf "_law_shows" "_law_shows" (defArgs (top 40)) (defBody (top 40)) (defScope (top 40)) .none kVSh dcSh pmSh anSh cdSh ctSh), slSh⟩)
    (cSh : PySem.W.codeIn K cdSh "_law_shows" = true)
    (kSh : PySem.W.keepIn K (.ref fSh) = true)
    (aRi : PySem.W.nsIn K mainGlobals "_law_right" = some (some (.ref fRi)))
    (lRi : K.lookup fRi = some ⟨ocRi, odRi, .func (PySem.W.fnOf "_law_right" "_law_right" (defArgs (top 41)) (defBody (top 41)) (defScope (top 41)) .none kVRi dcRi pmRi anRi cdRi ctRi), slRi⟩)
    (cRi : PySem.W.codeIn K cdRi "_law_right" = true)
    (kRi : PySem.W.keepIn K (.ref fRi) = true)
    (aLa : PySem.W.nsIn K mainGlobals "law" = some (some (.ref fLa)))
    (lLa : K.lookup fLa = some ⟨ocLa, odLa, .func (PySem.W.fnOf "law" "law" (defArgs (top 42)) (defBody (top 42)) (defScope (top 42)) .none kVLa dcLa pmLa anLa cdLa ctLa), slLa⟩)
    (cLa : PySem.W.codeIn K cdLa "law" = true)
    (kLa : PySem.W.keepIn K (.ref fLa) = true)
    (aC : PySem.W.nsIn K mainGlobals "Poly" = some (some (.ref C)))
    (aI0 : PySem.W.findIn K (.ref C) "__init__" = some (some (.ref fI0)))
    (lI0 : K.lookup fI0 = some ⟨ocI0, odI0, .func (PySem.W.fnOf "__init__" "Poly.__init__" (defArgs (cls 0)) (defBody (cls 0)) (defScope (cls 0)) (.ref T0) kVI0 dcI0 pmI0 anI0 cdI0 ctI0), slI0⟩)
    (cI0 : PySem.W.codeIn K cdI0 "Poly.__init__" = true)
    (kI0 : PySem.W.keepIn K (.ref fI0) = true)
    (iI0 : PySem.W.isFn K (.ref fI0) = true)
    (lT : K.lookup T0 = some ⟨ocT, odT, .seq #[.ref t0] nT, slT⟩)
    (lt : K.lookup t0 = some ⟨.type "tuple", odt, .seq #[] nt, slt⟩)
    (aGi : PySem.W.findIn K (.ref C) "__getitem__" = some (some (.ref fGi)))
    (lGi : K.lookup fGi = some ⟨ocGi, odGi, .func (PySem.W.fnOf "__getitem__" "Poly.__getitem__" (defArgs (cls 15)) (defBody (cls 15)) (defScope (cls 15)) .none kVGi dcGi pmGi anGi cdGi ctGi), slGi⟩)
    (cGi : PySem.W.codeIn K cdGi "Poly.__getitem__" = true)
    (kGi : PySem.W.keepIn K (.ref fGi) = true)
    (iGi : PySem.W.isFn K (.ref fGi) = true)
    (aLn : PySem.W.findIn K (.ref C) "__len__" = some (some (.ref fLn)))
    (lLn : K.lookup fLn = some ⟨ocLn, odLn, .func (PySem.W.fnOf "__len__" "Poly.__len__" (defArgs (cls 16)) (defBody (cls 16)) (defScope (cls 16)) .none kVLn dcLn pmLn anLn cdLn ctLn), slLn⟩)
    (cLn : PySem.W.codeIn K cdLn "Poly.__len__" = true)
    (kLn : PySem.W.keepIn K (.ref fLn) = true)
    (iLn : PySem.W.isFn K (.ref fLn) = true)
    (aBo : PySem.W.findIn K (.ref C) "__bool__" = some (some (.ref fBo)))
    (lBo : K.lookup fBo = some ⟨ocBo, odBo, .func (PySem.W.fnOf "__bool__" "Poly.__bool__" (defArgs (cls 17)) (defBody (cls 17)) (defScope (cls 17)) .none kVBo dcBo pmBo anBo cdBo ctBo), slBo⟩)
    (cBo : PySem.W.codeIn K cdBo "Poly.__bool__" = true)
    (kBo : PySem.W.keepIn K (.ref fBo) = true)
    (iBo : PySem.W.isFn K (.ref fBo) = true)
    (aIt : PySem.W.findIn K (.ref C) "__iter__" = some (some (.ref fIt)))
    (lIt : K.lookup fIt = some ⟨ocIt, odIt, .func (PySem.W.fnOf "__iter__" "Poly.__iter__" (defArgs (cls 18)) (defBody (cls 18)) (defScope (cls 18)) .none kVIt dcIt pmIt anIt cdIt ctIt), slIt⟩)
    (cIt : PySem.W.codeIn K cdIt "Poly.__iter__" = true)
    (kIt : PySem.W.keepIn K (.ref fIt) = true)
    (iIt : PySem.W.isFn K (.ref fIt) = true)
    (aEq : PySem.W.findIn K (.ref C) "__eq__" = some (some (.ref fEq)))
    (lEq : K.lookup fEq = some ⟨ocEq, odEq, .func (PySem.W.fnOf "__eq__" "Poly.__eq__" (defArgs (cls 19)) (defBody (cls 19)) (defScope (cls 19)) .none kVEq dcEq pmEq anEq cdEq ctEq), slEq⟩)
    (cEq : PySem.W.codeIn K cdEq "Poly.__eq__" = true)
    (kEq : PySem.W.keepIn K (.ref fEq) = true)
    (iEq : PySem.W.isFn K (.ref fEq) = true)
    (nGi : PySem.W.fnIn K fGi = true)
    (aFa : PySem.W.findIn K (.ref C) "factors" = some (some (.ref pFa)))
    (gFa : PySem.W.specialIn K (.ref pFa) "__get__" = some (some (.builtin "property.__get__")))
    (tFa : PySem.W.takesIn K (.ref pFa) = some true)
    (rFa : PySem.W.recIn K pFa "property" = some (.ref fFa :: restFa))
    (lFa : K.lookup fFa = some ⟨ocFa, odFa, .func (PySem.W.fnOf "factors" "Poly.factors" (defArgs (cls 2)) (defBody (cls 2)) (defScope (cls 2)) .none kVFa dcFa pmFa anFa cdFa ctFa), slFa⟩)
    (cFa : PySem.W.codeIn K cdFa "Poly.factors" = true)
    (kFa : PySem.W.keepIn K (.ref fFa) = true)
    (aDe : PySem.W.findIn K (.ref C) "degree" = some (some (.ref pDe)))
    (gDe : PySem.W.specialIn K (.ref pDe) "__get__" = some (some (.builtin "property.__get__")))
    (tDe : PySem.W.takesIn K (.ref pDe) = some true)
    (rDe : PySem.W.recIn K pDe "property" = some (.ref fDe :: restDe))
    (lDe : K.lookup fDe = some ⟨ocDe, odDe, .func (PySem.W.fnOf "degree" "Poly.degree" (defArgs (cls 3)) (defBody (cls 3)) (defScope (cls 3)) .none kVDe dcDe pmDe anDe cdDe ctDe), slDe⟩)
    (cDe : PySem.W.codeIn K cdDe "Poly.degree" = true)
    (kDe : PySem.W.keepIn K (.ref fDe) = true)
    (aLe : PySem.W.findIn K (.ref C) "lead" = some (some (.ref pLe)))
    (gLe : PySem.W.specialIn K (.ref pLe) "__get__" = some (some (.builtin "property.__get__")))
    (tLe : PySem.W.takesIn K (.ref pLe) = some true)
    (rLe : PySem.W.recIn K pLe "property" = some (.ref fLe :: restLe))
    (lLe : K.lookup fLe = some ⟨ocLe, odLe, .func (PySem.W.fnOf "lead" "Poly.lead" (defArgs (cls 4)) (defBody (cls 4)) (defScope (cls 4)) .none kVLe dcLe pmLe anLe cdLe ctLe), slLe⟩)
    (cLe : PySem.W.codeIn K cdLe "Poly.lead" = true)
    (kLe : PySem.W.keepIn K (.ref fLe) = true)
    (pg : PySem.W.plainGet K C Str.empty = true)
    (hd : PySem.W.hasDictIn K C = true)
    (po : PySem.W.plainOver K C = true)
    (sa : PySem.W.findIn K (.ref C) "__setattr__" = some (some (.builtin "object.__setattr__")))
    (mk : PySem.W.makesIn K C = true)
    (kc : PySem.W.keepIn K (.ref C) = true)
    (noF : PySem.W.findIn K (.ref C) "_factors" = some none)
    (ha : PySem.W.findIn K (.ref C) "__class__" = some (some (.builtin "object.__class__")))
    (hn : PySem.W.specialIn K (.builtin "object.__class__") "__get__" = some (some (.builtin "getset_descriptor.__get__")))
    (htk : PySem.W.takesIn K (.builtin "object.__class__") = some true)
    (hm : PySem.W.mroIn K C (.type "object") = some true)
    (ci : PySem.W.isClsIn K C = true)
    (ct : PySem.W.typeIn K (.ref C) = some (.type "type"))
    (ne : PySem.W.findIn K (.ref C) "__ne__" = some (some (.builtin "object.__ne__")))
    (z0 : PySem.W.nsIn K mainGlobals "isinstance" = some none)
    (z1 : PySem.W.nsIn K mainGlobals "int" = some none)
    (z2 : PySem.W.nsIn K mainGlobals "bool" = some none)
    (z3 : PySem.W.nsIn K mainGlobals "tuple" = some none)
    (z4 : PySem.W.nsIn K mainGlobals "list" = some none)
    (z5 : PySem.W.nsIn K mainGlobals "len" = some none)
    (z6 : PySem.W.nsIn K mainGlobals "all" = some none)
    (z7 : PySem.W.nsIn K mainGlobals "iter" = some none)
    (z8 : PySem.W.nsIn K mainGlobals "max" = some none)
    (z9 : PySem.W.nsIn K mainGlobals "min" = some none)
    (z10 : PySem.W.nsIn K mainGlobals "abs" = some none)
    (z11 : PySem.W.nsIn K mainGlobals "range" = some none)
    (z12 : PySem.W.nsIn K mainGlobals "repr" = some none)
    (vB : PySem.W.nsIn K mainGlobals "BOUND" = some (some (.int (10 ^ 60) tb)))
    (vM : PySem.W.nsIn K mainGlobals "MAX_FACTORS" = some (some (.int 400 tm)))
    (vX : PySem.W.nsIn K mainGlobals "MAX_DEGREE" = some (some (.int 2000 tx)))
    (xC : PySem.W.nsIn K mainGlobals "InvalidNumber" = some (some (.ref CN)))
    (xL : K.lookup CN = some (excClassObj nm q CN Nq bs [.type "IndexError", .type "LookupError", .type "Exception", .type "BaseException", .type "object"] true sn sub ab col dd m0 m1 m2 m3 m5 "IndexError.__new__"))
    (xsa : PySem.W.findIn K (.ref CN) "__setattr__" = some (some (.builtin "object.__setattr__")))
    (xga : PySem.W.findIn K (.ref CN) "__getattribute__" = some (some (.builtin "BaseException.__getattribute__")))
    (xgg : PySem.W.findIn K (.ref CN) "__getattr__" = some none)
    (xnb : PySem.W.findIn K (.ref CN) "value" = some none)
    (xa : PySem.W.findIn K (.ref CN) "__init__" = some (some (.ref fN)))
    (xt : PySem.W.typeIn K (.ref fN) = some (.type "function"))
    (xl : K.lookup fN = some ⟨ocN, odN, .func (PySem.W.fnOf "__init__" "InvalidNumber.__init__" (PySem.XInvalidNumber.iA q1 q2) (PySem.XInvalidNumber.iB q3 q4 q5 q6) PySem.XInvalidNumber.iS .none .none dcN pmN anN cdN ctN), slN⟩)
    (xc : PySem.W.codeIn K cdN "InvalidNumber.__init__" = true)
    (xk : PySem.W.keepIn K (.ref CN) = true)
    (xe : PySem.W.subIn K (.ref CN) (.type "BaseException") = some true)
    (xT : PySem.W.typeIn K (.ref CN) = some (.type "type"))
    (xh : PySem.W.hasDictIn K CN = true)
    (xi : PySem.W.isClsIn K CN = true)
    (xs : PySem.W.subIn K (.ref CN) (.ref CN) = some true)
    : ∃ fd : FuncData, (∀ (s : Shared) (v : Value), BindsTo s fd ⟨[v], []⟩ [("_law_script", v)]) ∧ ∀ base : Heap, K.In base → base.Ns mainGlobals mg → FnG l.prog w K mg base CX0 9 fa fd ["_law_script"] (spLaw K) := by
  have e := hfa.symm.trans (PySem.W.mg_of X G aLa)
  cases e
  have T : Txt K mg := ⟨PySem.W.mg_none_of X G z0, PySem.W.mg_none_of X G z1, PySem.W.mg_none_of X G z2, PySem.W.mg_none_of X G z3, PySem.W.mg_none_of X G z4, PySem.W.mg_none_of X G z5, PySem.W.mg_none_of X G z6, PySem.W.mg_none_of X G z7, ⟨tb, PySem.W.mg_of X G vB⟩, ⟨tm, PySem.W.mg_of X G vM⟩⟩
  have T2 : Txt2 mg := ⟨PySem.W.mg_none_of X G z8, PySem.W.mg_none_of X G z9, PySem.W.mg_none_of X G z10, PySem.W.mg_none_of X G z11, PySem.W.mg_none_of X G z12⟩
  have Cl : PC K mg C := { cl := ⟨pg, hd, po, sa⟩, noF := noF, g := PySem.W.mg_of X G aC, kp := kc, ha := ha, hn := hn, htk := htk, hm := hm, kit := kit_self, ne := ⟨ne, hm⟩ }
  have NP : NotP K C := ⟨kit_not ci ct (by kernel_rfl), kit_not ci ct (by kernel_rfl), kit_not ci ct (by kernel_rfl), kit_not ci ct (by kernel_rfl), kit_not ci ct (by kernel_rfl)⟩
  have N : PySem.XInvalidNumber.InvalidNumberTxt K mg CN fN :=
    { gC := PySem.W.mg_of X G xC, cls := ⟨nm, q, Nq, bs, sn, sub, ab, col, dd, m0, m1, m2, m3, m5, xL⟩, sa := xsa, ga := xga, gg := xgg, noN := xnb, iC := xa, tC := xt, kC := xk, exC := xe, tyC := xT, hdC := xh, te := exm_own xe xi xT xs,
      fn := ⟨_, _, _, _, _, _, _, _, _, _, _, _, _, _, xl, xc⟩ }
  have FWh := fun_mk (st := top 10) lWh cWh kWh
  have bWh := FWh.binds (ps := ["value"]) fun _ _ _ _ _ _ us hl => match us, hl with | [_], _ => rfl
  have FIn := fun_mk (st := top 11) lIn cIn kIn
  have bIn := FIn.binds (ps := ["value"]) fun _ _ _ _ _ _ us hl => match us, hl with | [_], _ => rfl
  have FRq := fun_mk (st := top 14) lRq cRq kRq
  have bRq := FRq.binds (ps := ["value"]) fun _ _ _ _ _ _ us hl => match us, hl with | [_], _ => rfl
  have FTr := fun_mk (st := top 16) lTr cTr kTr
  have bTr := FTr.binds (ps := ["row"]) fun _ _ _ _ _ _ us hl => match us, hl with | [_], _ => rfl
  have FDi := fun_mk (st := top 34) lDi cDi kDi
  have bDi := FDi.binds (ps := ["_law_script", "_law_spot"]) fun _ _ _ _ _ _ us hl => match us, hl with | [_, _], _ => rfl
  have FRo := fun_mk (st := top 35) lRo cRo kRo
  have bRo := FRo.binds (ps := ["_law_dice_here", "_law_total"]) fun _ _ _ _ _ _ us hl => match us, hl with | [_, _], _ => rfl
  have FPi := fun_mk (st := top 36) lPi cPi kPi
  have bPi := FPi.binds (ps := ["_law_dice_here", "_law_items"]) fun _ _ _ _ _ _ us hl => match us, hl with | [_, _], _ => rfl
  have FLt := fun_mk (st := top 37) lLt cLt kLt
  have bLt := FLt.binds (ps := ["_law_factors_here"]) fun _ _ _ _ _ _ us hl => match us, hl with | [_], _ => rfl
  have FLf := fun_mk (st := top 38) lLf cLf kLf
  have bLf := FLf.binds (ps := ["_law_dice_here", "_law_most", "_law_size"]) fun _ _ _ _ _ _ us hl => match us, hl with | [_, _, _], _ => rfl
  have FAt := fun_mk (st := top 39) lAt cAt kAt
  have bAt := FAt.binds (ps := ["_law_poly", "_law_index"]) fun _ _ _ _ _ _ us hl => match us, hl with | [_, _], _ => rfl
  have FSh := fun_mk (st := top 40) lSh cSh kSh
  have bSh := FSh.binds (ps := ["_law_poly", "_law_due"]) fun _ _ _ _ _ _ us hl => match us, hl with | [_, _], _ => rfl
  have FRi := fun_mk (st := top 41) lRi cRi kRi
  have bRi := FRi.binds (ps := ["_law_dice_here"]) fun _ _ _ _ _ _ us hl => match us, hl with | [_], _ => rfl
  have FLa := fun_mk (st := top 42) lLa cLa kLa
  have FGi := fun_mk (st := cls 15) lGi cGi kGi
  have bGi := FGi.binds (ps := ["self", "index"]) fun _ _ _ _ _ _ us hl => match us, hl with | [_, _], _ => rfl
  have FLn := fun_mk (st := cls 16) lLn cLn kLn
  have bLn := FLn.binds (ps := ["self"]) fun _ _ _ _ _ _ us hl => match us, hl with | [_], _ => rfl
  have FBo := fun_mk (st := cls 17) lBo cBo kBo
  have bBo := FBo.binds (ps := ["self"]) fun _ _ _ _ _ _ us hl => match us, hl with | [_], _ => rfl
  have FIt := fun_mk (st := cls 18) lIt cIt kIt
  have bIt := FIt.binds (ps := ["self"]) fun _ _ _ _ _ _ us hl => match us, hl with | [_], _ => rfl
  have FEq := fun_mk (st := cls 19) lEq cEq kEq
  have bEq := FEq.binds (ps := ["self", "other"]) fun _ _ _ _ _ _ us hl => match us, hl with | [_, _], _ => rfl
  have FFa := fun_mk (st := cls 2) lFa cFa kFa
  have bFa := FFa.binds (ps := ["self"]) fun _ _ _ _ _ _ us hl => match us, hl with | [_], _ => rfl
  have FDe := fun_mk (st := cls 3) lDe cDe kDe
  have bDe := FDe.binds (ps := ["self"]) fun _ _ _ _ _ _ us hl => match us, hl with | [_], _ => rfl
  have FLe := fun_mk (st := cls 4) lLe cLe kLe
  have bLe := FLe.binds (ps := ["self"]) fun _ _ _ _ _ _ us hl => match us, hl with | [_], _ => rfl
  have FI : FnI K t0 fI0 (PySem.W.fnOf "__init__" "Poly.__init__" (defArgs (cls 0)) (defBody (cls 0)) (defScope (cls 0)) (.ref T0) kVI0 dcI0 pmI0 anI0 cdI0 ctI0) := ⟨⟨ocI0, odI0, .ref T0, kVI0, dcI0, pmI0, anI0, cdI0, ctI0, slI0, rfl, lI0, cI0, .inr ⟨by simp, T0, _, [.ref t0], nT, rfl, lT, rfl, .cons rfl .nil⟩, .inl rfl⟩, kI0⟩
  obtain ⟨ds, hds, b0⟩ : ∃ ds, Vals ([V.ref t0].drop 0) ds ∧ Binds K (PySem.W.fnOf "__init__" "Poly.__init__" (defArgs (cls 0)) (defBody (cls 0)) (defScope (cls 0)) (.ref T0) kVI0 dcI0 pmI0 anI0 cdI0 ctI0) ["self", "factors"] ds := FI.binds1 1 0 (by simp) rfl fun T kV doc pm an cdv ct us its h1 h2 => match us, its, h1, h2 with | [_], [_], _, _ => ⟨_, rfl, rfl⟩
  have bI : Binds K (PySem.W.fnOf "__init__" "Poly.__init__" (defArgs (cls 0)) (defBody (cls 0)) (defScope (cls 0)) (.ref T0) kVI0 dcI0 pmI0 anI0 cdI0 ctI0) ["self", "factors"] [] := by
    obtain ⟨ds, h1, h2⟩ : ∃ ds, Vals ([V.ref t0].drop 1) ds ∧ Binds K (PySem.W.fnOf "__init__" "Poly.__init__" (defArgs (cls 0)) (defBody (cls 0)) (defScope (cls 0)) (.ref T0) kVI0 dcI0 pmI0 anI0 cdI0 ctI0) ["self", "factors"] ds := FI.binds1 2 1 (by simp) rfl fun T kV doc pm an cdv ct us its h1 h2 => match us, its, h1, h2 with | [_, _], [_], _, _ => ⟨_, rfl, rfl⟩
    cases h1
    exact h2
  have hT0 : ∀ H : Hp, SqT K H t0 [] := fun H => .inr ⟨_, #[], nt, lt, rfl, rfl, Nat.zero_le _, .nil⟩
  have AW : AtW K mg fWh _ := ⟨FWh, bWh, PySem.W.mg_of X G aWh⟩
  have AI : AtI K mg fIn _ := ⟨FIn, bIn, PySem.W.mg_of X G aIn⟩
  have AX : AtX K mg fRq _ := ⟨FRq, bRq, PySem.W.mg_of X G aRq⟩
  have AT : AtT K mg fTr _ := ⟨FTr, bTr, PySem.W.mg_of X G aTr⟩
  have AR : AtR K mg fRo _ := ⟨FRo, bRo, PySem.W.mg_of X G aRo⟩
  have AG : AtG K C fGi _ := ⟨FGi, bGi, ⟨aGi, iGi, kGi⟩, nGi⟩
  have AN : AtN K C t0 fI0 _ := ⟨FI, ⟨mk, aI0, iI0, kc⟩, bI⟩
  have P1 : AtP K C "factors" "Poly.factors" 2 pFa fFa _ := ⟨FFa, bFa, ⟨aFa, gFa, tFa, _, rFa⟩⟩
  have P2 : AtP K C "degree" "Poly.degree" 3 pDe fDe _ := ⟨FDe, bDe, ⟨aDe, gDe, tDe, _, rDe⟩⟩
  have P3 : AtP K C "lead" "Poly.lead" 4 pLe fLe _ := ⟨FLe, bLe, ⟨aLe, gLe, tLe, _, rLe⟩⟩
  have M1 : AtM K C "__iter__" "Poly.__iter__" 18 fIt _ := ⟨FIt, bIt, ⟨aIt, iIt, kIt⟩⟩
  have M2 : AtM K C "__len__" "Poly.__len__" 16 fLn _ := ⟨FLn, bLn, ⟨aLn, iLn, kLn⟩⟩
  have M3 : AtM K C "__bool__" "Poly.__bool__" 17 fBo _ := ⟨FBo, bBo, ⟨aBo, iBo, kBo⟩⟩
  have ME : AtE K C fEq _ := ⟨FEq, bEq, ⟨aEq, iEq, kEq⟩⟩
  have LD : AtD K mg "_law_dice" 34 ["_law_script", "_law_spot"] fDi _ := ⟨FDi, bDi, PySem.W.mg_of X G aDi⟩
  have LR : AtD K mg "_law_roll" 35 ["_law_dice_here", "_law_total"] fRo _ := ⟨FRo, bRo, PySem.W.mg_of X G aRo⟩
  have LP : AtD K mg "_law_pick" 36 ["_law_dice_here", "_law_items"] fPi _ := ⟨FPi, bPi, PySem.W.mg_of X G aPi⟩
  have LT : AtD K mg "_law_trimmed" 37 ["_law_factors_here"] fLt _ := ⟨FLt, bLt, PySem.W.mg_of X G aLt⟩
  have LF : AtD K mg "_law_factors" 38 ["_law_dice_here", "_law_most", "_law_size"] fLf _ := ⟨FLf, bLf, PySem.W.mg_of X G aLf⟩
  have LA : AtD K mg "_law_at_index" 39 ["_law_poly", "_law_index"] fAt _ := ⟨FAt, bAt, PySem.W.mg_of X G aAt⟩
  have LS : AtD K mg "_law_shows" 40 ["_law_poly", "_law_due"] fSh _ := ⟨FSh, bSh, PySem.W.mg_of X G aSh⟩
  have LI : AtD K mg "_law_right" 41 ["_law_dice_here"] fRi _ := ⟨FRi, bRi, PySem.W.mg_of X G aRi⟩
  refine ⟨PySem.W.fnOf "law" "law" (defArgs (top 42)) (defBody (top 42)) (defScope (top 42)) .none kVLa dcLa pmLa anLa cdLa ctLa, fun s v => .of_eq rfl, fun base _ _ => ?_⟩
  have GS := ok_shows (P := l.prog) (w := w) (base := base) FSh T T2 Cl AW AI AX N AG P1 P2 P3 M1 M2 M3
  have GC := ok_init (P := l.prog) (w := w) (base := base) FI T Cl AW AI AT
  have GR := ok_roll (P := l.prog) (w := w) (base := base) FRo T
  have GP := ok_pick (P := l.prog) (w := w) (base := base) FPi T AR
  have GF := ok_lfactors (P := l.prog) (w := w) (base := base) FLf T T2 AR
  have GT := ok_ltrim (P := l.prog) (w := w) (base := base) FLt T
  have GA := ok_atIndex (P := l.prog) (w := w) (base := base) FAt T Cl AW AI AX N AG
  have GE := ok_eq (P := l.prog) (w := w) (base := base) FEq T Cl
  have GI := ok_right (P := l.prog) (w := w) (base := base) FRi T T2 Cl NP LR LP LF LT LS LA ME AN GR GP GF GT GS GA GE GC
  have GD := ok_dice (P := l.prog) (w := w) (base := base) FDi T T2
  exact ok_law FLa T T2 Cl ⟨tx, PySem.W.mg_of X G vX⟩ LD LI LS AN b0 hds hT0 GD GI GS GC
end K0

set_option Elab.async false
set_option maxRecDepth 100000
open PySem PySem.W PyProof.Rows in
set_option maxRecDepth 100000 in
set_option maxHeartbeats 0 in
theorem PySem.Challenge.cw_primekinds_k00_polynomials_told_holds : PySem.Challenge.rw_primekinds_k00_polynomials_told.Holds := by
  w_on; o_law; k_head; (case hw => w_witness2)
  k_fill
  refine Gd.walkG (n := 63) (k := 9) (x := "_law_script") (CX := fun _ => L2.CX0) (l := PySem.Challenge.rw_primekinds_k00_polynomials_told) (sp := fun w => K0.spLaw _) rfl (by decide) rfl ⟨rfl, by decide, by decide⟩ (fun w h Y => PySem.W.kIn_of Y) ?F
    (fun _ _ a ns hl _ hS => ⟨a, ns, rfl, hS, hl, fun _ => rfl⟩) (fun _ _ _ _ _ z => z)
  case F =>
    intro w mg fa h KX G hmg
    refine' K0.all_mk KX G hmg ?aWh ?lWh ?cWh ?kWh ?aIn ?lIn ?cIn ?kIn ?aRq ?lRq ?cRq ?kRq ?aTr ?lTr ?cTr ?kTr ?aDi ?lDi ?cDi ?kDi ?aRo ?lRo ?cRo ?kRo ?aPi ?lPi ?cPi ?kPi ?aLt ?lLt ?cLt ?kLt ?aLf ?lLf ?cLf ?kLf ?aAt ?lAt ?cAt ?kAt ?aSh ?lSh ?cSh ?kSh ?aRi ?lRi ?cRi ?kRi ?aLa ?lLa ?cLa ?kLa ?aC ?aI0 ?lI0 ?cI0 ?kI0 ?iI0 ?lT ?lt ?aGi ?lGi ?cGi ?kGi ?iGi ?aLn ?lLn ?cLn ?kLn ?iLn ?aBo ?lBo ?cBo ?kBo ?iBo ?aIt ?lIt ?cIt ?kIt ?iIt ?aEq ?lEq ?cEq ?kEq ?iEq ?nGi ?aFa ?gFa ?tFa ?rFa ?lFa ?cFa ?kFa ?aDe ?gDe ?tDe ?rDe ?lDe ?cDe ?kDe ?aLe ?gLe ?tLe ?rLe ?lLe ?cLe ?kLe ?pg ?hd ?po ?sa ?mk ?kc ?noF ?ha ?hn ?htk ?hm ?ci ?ct ?ne ?z0 ?z1 ?z2 ?z3 ?z4 ?z5 ?z6 ?z7 ?z8 ?z9 ?z10 ?z11 ?z12 ?vB ?vM ?vX ?xC ?xL ?xsa ?xga ?xgg ?xnb ?xa ?xt ?xl ?xc ?xk ?xe ?xT ?xh ?xi ?xs
    (case aWh => k_is)
    (case lWh => k_is)
    (case cWh => k_is)
    (case kWh => k_is)
    (case aIn => k_is)
    (case lIn => k_is)
    (case cIn => k_is)
    (case kIn => k_is)
    (case aRq => k_is)
    (case lRq => k_is)
    (case cRq => k_is)
    (case kRq => k_is)
    (case aTr => k_is)
    (case lTr => k_is)
    (case cTr => k_is)
    (case kTr => k_is)
    (case aDi => k_is)
    (case lDi => k_is)
    (case cDi => k_is)
    (case kDi => k_is)
    (case aRo => k_is)
    (case lRo => k_is)
    (case cRo => k_is)
    (case kRo => k_is)
    (case aPi => k_is)
    (case lPi => k_is)
    (case cPi => k_is)
    (case kPi => k_is)
    (case aLt => k_is)
    (case lLt => k_is)
    (case cLt => k_is)
    (case kLt => k_is)
    (case aLf => k_is)
    (case lLf => k_is)
    (case cLf => k_is)
    (case kLf => k_is)
    (case aAt => k_is)
    (case lAt => k_is)
    (case cAt => k_is)
    (case kAt => k_is)
    (case aSh => k_is)
    (case lSh => k_is)
    (case cSh => k_is)
    (case kSh => k_is)
    (case aRi => k_is)
    (case lRi => k_is)
    (case cRi => k_is)
    (case kRi => k_is)
    (case aLa => k_is)
    (case lLa => k_is)
    (case cLa => k_is)
    (case kLa => k_is)
    (case aC => k_is)
    (case aI0 => k_is)
    (case lI0 => k_is)
    (case cI0 => k_is)
    (case kI0 => k_is)
    (case iI0 => k_is)
    (case lT => k_is)
    (case lt => k_is)
    (case aGi => k_is)
    (case lGi => k_is)
    (case cGi => k_is)
    (case kGi => k_is)
    (case iGi => k_is)
    (case aLn => k_is)
    (case lLn => k_is)
    (case cLn => k_is)
    (case kLn => k_is)
    (case iLn => k_is)
    (case aBo => k_is)
    (case lBo => k_is)
    (case cBo => k_is)
    (case kBo => k_is)
    (case iBo => k_is)
    (case aIt => k_is)
    (case lIt => k_is)
    (case cIt => k_is)
    (case kIt => k_is)
    (case iIt => k_is)
    (case aEq => k_is)
    (case lEq => k_is)
    (case cEq => k_is)
    (case kEq => k_is)
    (case iEq => k_is)
    (case nGi => k_is)
    (case aFa => k_is)
    (case gFa => k_is)
    (case tFa => k_is)
    (case rFa => k_is)
    (case lFa => k_is)
    (case cFa => k_is)
    (case kFa => k_is)
    (case aDe => k_is)
    (case gDe => k_is)
    (case tDe => k_is)
    (case rDe => k_is)
    (case lDe => k_is)
    (case cDe => k_is)
    (case kDe => k_is)
    (case aLe => k_is)
    (case gLe => k_is)
    (case tLe => k_is)
    (case rLe => k_is)
    (case lLe => k_is)
    (case cLe => k_is)
    (case kLe => k_is)
    (case pg => k_is)
    (case hd => k_is)
    (case po => k_is)
    (case sa => k_is)
    (case mk => k_is)
    (case kc => k_is)
    (case noF => k_is)
    (case ha => k_is)
    (case hn => k_is)
    (case htk => k_is)
    (case hm => k_is)
    (case ci => k_is)
    (case ct => k_is)
    (case ne => k_is)
    (case z0 => k_is)
    (case z1 => k_is)
    (case z2 => k_is)
    (case z3 => k_is)
    (case z4 => k_is)
    (case z5 => k_is)
    (case z6 => k_is)
    (case z7 => k_is)
    (case z8 => k_is)
    (case z9 => k_is)
    (case z10 => k_is)
    (case z11 => k_is)
    (case z12 => k_is)
    (case vB => k_is)
    (case vM => k_is)
    (case vX => k_is)
    (case xC => k_is)
    (case xL => k_is)
    (case xsa => k_is)
    (case xga => k_is)
    (case xgg => k_is)
    (case xnb => k_is)
    (case xa => k_is)
    (case xt => k_is)
    (case xl => k_is)
    (case xc => k_is)
    (case xk => k_is)
    (case xe => k_is)
    (case xT => k_is)
    (case xh => k_is)
    (case xi => k_is)
    (case xs => k_is)
