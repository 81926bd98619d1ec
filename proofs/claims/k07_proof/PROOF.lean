import PyProof.Rows.All
import Wide.All
import OpenK.AllK
import Wide.FinOn
import HandS.ForMost
import HandS.ForExc
import KE.KExcInit
import HandS.IsInst
import HandS.IterNext
import HandS.OwnIter
import KE.KOwnIter
import PyProof.Rows.Range3
import PyProof.Conv_bool
import HandS.TupMul
import HandS.TupAny
import KE.GoesMore
import KE.GoesEnum
import KE.GoesZip
import HandS.Walk
import PyProof.FactsInt
import PyProof.FactsInt2
import PyProof.Rows.FactsB_mul
import HandS.OwnEq
import PyProof.NeKinds
import HandS.SetFor
import HandS.TupLe
import PyProof.P3Eq
import KE.KRevSl
import HandS.Wide
import HandS.Property
import HandS.Lambda
import PySem.Challenge.RW_primekinds_k07_whole_turned_and_joined_k
import HandS.Defaults
import HandS.SortInts
set_option Elab.async false
set_option linter.all false
set_option maxRecDepth 100000
set_option maxHeartbeats 4000000
/-! Promises of defs that are called where no container is being shown (the guards of the stack are known to be empty): repr of containers needs this. -/
namespace Gd
open PySem PySem.Spec PyProof.Rows L2

/-- no container is being shown -/
abbrev NoG (A : Around) : Prop := A.guards = some []

/-- the promise of a def, kept wherever no container is being shown -/
structure FnG (P : Program) (w : World) (K : PySem.W.Frag) (mg : Str → Option Value) (base : Heap) (CX : CXT) (k : Nat)
    (f : Addr) (fd : FuncData) (ps : List Str) (sp : Sp) : Prop where
  many : ∀ vs H Q E, sp vs H Q E → vs.length = ps.length
  go : ∀ (A : Around) (out : List Env) (s : Shared) (H : Hp) (ar : Args) (us : List Value) (vs : List V) (Q : VK) (E : XK),
    NoG A → Room k A → Env0 P w K mg base A out s H → BindsTo s fd ar (ps.zip us) → Vals vs us → sp vs H Q E →
      codeAny (model P w) A (.call (.ref f) ar) (CR CX out P w H s Q E) s

section
variable {P : Program} {w : World} {K : PySem.W.Frag} {mg : Str → Option Value} {base : Heap} {CX : CXT} {k : Nat}
  {f : Addr} {fd : FuncData} {ps : List Str} {sp : Sp}
theorem FnG.of (F : FnOk P w K mg base CX k f fd ps sp) : FnG P w K mg base CX k f fd ps sp :=
  ⟨F.len, fun A out s H ar us vs Q E _ => F.run A out s H ar us vs Q E⟩

/-- a def by its body, where no container is being shown -/
theorem fnG {x qual : Str} {st : Stmt} {N : List Str} (F : Fun K x qual st f fd) (S : FnScope N ps (defScope st))
    (many : ∀ vs H Q E, sp vs H Q E → vs.length = ps.length)
    (body : ∀ (cdv : Value) (A : Around) (out : List Env) (s : Shared) (H : Hp) (vs : List V) (Q : VK) (E : XK),
      NoG A → Room k (A.deeper (envOfC qual (defScope st) s.heap.objs.size f cdv)) → sp vs H Q E →
      ∃ t, PSs (cxOf CX P w K mg base N qual (defScope st) f cdv A out s H E) (defBody st) t ∧
        t { nx := fun _ H' => Q .non H', rt := Q } (start N vs) H) :
    FnG P w K mg base CX (k + 1) f fd ps sp := by
  obtain ⟨oc, od, kV, doc, pm, an, cdv, ct, osl, rfl, lk, hcd⟩ := F.ex
  refine ⟨many, ?_⟩
  intro A out s H ar us vs Q E hg hr e0 hb r hsp
  have hl := many vs H Q E hsp
  have KX : K.In s.heap := e0.mod.kin.keeps (fun b o e => (e0.bs b o e).1)
  have lim : s.heap.NoLimit := e0.mod.nolimit.keeps (fun b o e => (e0.bs b o e).1)
  have kinds : ∀ y ∈ ps.zip us, (defScope st).names.lookup y.1 = some .local ∨
      ((defScope st).names.lookup y.1 = some .cell ∧ ((cellsFrom (s.heap.objs.size + 1) (defScope st).names []).lookup y.1).isSome = true) := by
    rintro ⟨n, v⟩ hy
    rcases S.par n (List.of_mem_zip hy).1 with q | q
    · exact Or.inl q
    · exact Or.inr ⟨q, PySem.W.cellsFrom_some _ _ _ (Or.inl q)⟩
  refine codeAny_call_function hr.depth (KX _ _ lk) rfl S.co S.gen rfl
    (PySem.W.codeRec_of KX hcd) (hb _ _ _ _ ?_)
  refine wpAny_newFunctionEnv_cells S.kind kinds ?_
  intro env he s1 x
  cases he
  refine ⟨lim.keeps x.toInCall.keep, codeAny_func ?_⟩
  obtain ⟨t, ht, hq⟩ := body cdv A out s H vs Q E hg (hr.deeper _) hsp
  have I := inv_start (CX := CX) (E := E) S hr.hd e0 hl r x
  refine wpAny_mono (ht.run [] s1 (start N vs) H _ I hq) ?_ (fun e s' hs => hs)
  intro fl s' hs
  have fin : ∀ {σ' : L2.St} {H' : Hp} {v : V} {u : Value},
      Inv (cxOf CX P w K mg base N qual (defScope st) f cdv A out s H E) [] σ' H' s' →
      RelV v u → Q v H' → CE out P w H s Q u s' := by
    intro σ' H' v u J rv q
    exact ⟨v, H', J.os, J.bare, J.base, J.hok, rv, q⟩
  cases fl with
  | ret u =>
    obtain ⟨v, σ', H', J, rv, q⟩ := hs
    exact fin J rv q
  | next =>
    obtain ⟨σ', H', J, q⟩ := hs
    exact fin (v := V.non) (u := Value.none) J rfl q
  | brk =>
    obtain ⟨σ', H', J, q⟩ := hs
    exact False.elim q
  | cont =>
    obtain ⟨σ', H', J, q⟩ := hs
    exact False.elim q
end

section
variable {X : Cx} {CX : CXT} {k : Nat} {f C : Addr} {fd : FuncData} {ps : List Str} {sp : Sp} {dvs : List V} {ds : List Value} {E : XK}
  {x : Str} {p pos : Pos} {e : Expr} {es : List Expr} {t : TA}
/-- the call of such a def -/
theorem goG {pins : List (Addr × Obj)} {σ : L2.St} {H : Hp} {s : Shared} {Q : VK} {us : List Value} {vs : List V}
    (hg : NoG X.A) (F : FnG X.prog X.w X.K X.mg X.base CX k f fd ps sp) (hr : Room k X.A) (hb : Binds X.K fd ps ds)
    (hd : Vals dvs ds) (hx : Passes CX X E) (I : Inv X pins σ H s) (r : Vals vs us) (h : sp (vs ++ dvs) H Q E) :
    wpAny (model X.prog X.w) X.A (call (.ref f) us) (EP X pins σ Q) X.xe s := by
  have r2 := Vals.append r hd
  have hl : (us ++ ds).length = ps.length := by
    rw [← r2.length]
    exact F.many _ H Q E h
  have run := F.go X.A X.stack s H ⟨us, []⟩ (us ++ ds) _ Q E hg hr I.env0 (hb s us I.kIn hl) r2 h
  refine wpAny_call (codeAny_mono run ?_)
  intro r s' hq
  match r, hq with
  | .error e, hq => exact hx pins σ H s e s' I hq
  | .ok (.ret u), hq => exact I.after hq
  | .ok .next, hq => exact False.elim hq
  | .ok .brk, hq => exact False.elim hq
  | .ok .cont, hq => exact False.elim hq

theorem pe_callG (hg : NoG X.A) (F : FnG X.prog X.w X.K X.mg X.base CX k f fd ps sp) (hr : Room k X.A) (hgl : Gl X x)
    (hm : X.mg x = some (.ref f)) (hk : PySem.W.keepIn X.K (.ref f) = true) (hb : Binds X.K fd ps ds) (hd : Vals dvs ds)
    (hx : Passes CX X E) (ha : PA X (e :: es) t) (hdb : (x == ("__debug__" : Str)) = false := by decide)
    (he : starEach (e :: es) X.env = (false, eval e X.env) :: starEach es X.env := by rfl)
    (hpl : (backTo pos (starEach es X.env)).any (·.1) = false := by rfl) :
    PE X (.Call (.Name x p) (e :: es) [] pos) (tCall sp dvs E t) := by
  constructor
  intro pins s σ H Q I h
  refine wpAny_Call_Name_kw (ld_glob I hgl hm ?_ hdb)
  have go := thn (ha.run pos pins s σ H _ I h) (fun us s1 ⟨vs, H1, I1, r, q⟩ =>
    (⟨I1.kIn, goG hg F hr hb hd hx I1 r q⟩ : X.K.In s1.heap ∧ wpAny (model X.prog X.w) X.A (call (.ref f) us) (EP X pins σ Q) X.xe s1))
  exact PySem.W.callWith_K (h₀ := X.base) I.ok.mod.kin hk go he hpl
end

section
variable {P : Program} {w : World} {K : PySem.W.Frag} {mg mb : Str → Option Value} {CX : CXT} {k : Nat} {fa a : Addr}
  {fd : FuncData} {x : Str} {sp : Sp} {s₁ : Shared} {vs : List Value} {ns : List Int}
/-- the call of the law, from a heap H of which nothing but the script is tracked -/
theorem coreG (KX : K.In s₁.heap) (hns : s₁.heap.Ns mainGlobals mg) (hb : s₁.heap.Ns builtinsNs mb)
    (hbb : ∀ x : Str, x ≠ "__name__" → mb x = bootBuiltins x) (hlim : s₁.heap.NoLimit) (hg : s₁.gens = #[])
    (ha : s₁.heap.get? a = some { cls := .type "list", data := .seq vs.toArray }) (hr : Room k callerA)
    (F : ∀ base : Heap, K.In base → base.Ns mainGlobals mg → FnG P w K mg base CX k fa fd [x] sp)
    (hbind : ∀ (s : Shared) (u : Value), BindsTo s fd ⟨[u], []⟩ [(x, u)])
    (hCX : ∀ H e s', CX [] H s₁ (fun _ _ _ => False) e s' → False)
    (H : Hp) (hO : Only H) (hsp : sp [.ref a] H (fun v _ => v = .bl true) fun _ _ _ => False)
    (hok : HOk P w H s₁.heap) (hA : ∀ b, H b ≠ none → b = a) (hK : H a ≠ none → K.lookup a = none) :
    codeAny (model P w) callerA (.call (.ref fa) ⟨[.ref a], []⟩)
      (fun r s' => r = .ok (.ret (.bool true)) ∧ OldK s₁.heap s'.heap ∧ s'.os = s₁.os ∧ AllBare s'.gens) s₁ := by
  have at_a : ∀ {b : Addr}, H b ≠ none → b = a := fun {b} z => hA b z
  have keepB : ∀ {b : Addr} {o : Obj}, s₁.heap.get? b = some o → H b = none → (hidT s₁.heap H).get? b = some o := by
    intro b o e n
    exact hidT_get e n
  have noDict : ∀ {b : Addr} {o : Obj} {es : Array DictEntry} {ep : Nat},
      s₁.heap.get? b = some o → o.data = .dict es ep → H b = none := by
    intro b o es ep e d
    cases q : H b with
    | none => rfl
    | some u =>
      obtain rfl : b = a := at_a (by rw [q]; simp)
      rw [ha] at e
      cases e
      cases d
  have nsOf : ∀ {b : Addr} {m : Str → Option Value}, s₁.heap.Ns b m → (hidT s₁.heap H).Ns b m := by
    rintro b m ⟨o, es, ep, e, d, r⟩
    exact ⟨o, es, ep, keepB e (noDict e d), d, r⟩
  have inB : K.In (hidT s₁.heap H) := by
    intro b o e
    refine keepB (KX b o e) ?_
    cases q : H b with
    | none => rfl
    | some u =>
      obtain rfl : b = a := at_a (by rw [q]; simp)
      rw [hK (by rw [q]; simp)] at e
      cases e
  obtain ⟨mc, l1, l2⟩ := hlim
  have hM : Mod K mg (hidT s₁.heap H) := ⟨inB, nsOf hns, ⟨mb, nsOf hb, hbb⟩, ⟨mc, nsOf l1, l2⟩⟩
  have e0 : Env0 P w K mg (hidT s₁.heap H) callerA [] s₁ H := by
    refine ⟨rfl, hM, ?_, Nat.le_of_eq (hidT_size _ _), trivial, ?_, hok, .of_eq hg⟩
    · intro b o e
      exact of_hidT e
    · intro b z
      exact absurd (show b ∈ ([] : List Addr) from z) (by simp)
  have run := (F _ inB (nsOf hns)).go callerA [] s₁ H ⟨[.ref a], []⟩ [.ref a] [.ref a] _ _ rfl hr e0 (hbind s₁ (.ref a)) (.cons rfl .nil) hsp
  refine codeAny_mono run ?_
  intro r s' h
  match r, h with
  | .error e, h => exact (hCX H e s' h).elim
  | .ok .next, h => exact False.elim h
  | .ok .brk, h => exact False.elim h
  | .ok .cont, h => exact False.elim h
  | .ok (.ret u), h =>
    obtain ⟨v, H', os, bare, un, hok', rv, q⟩ := h
    obtain rfl : v = .bl true := q
    obtain rfl : u = Value.bool true := rv
    refine ⟨rfl, OldK.of_keep ?_, os, bare⟩
    intro b o e
    cases q : H b with
    | none => exact un.keep b o e q (fun z => absurd (show b ∈ ([] : List Addr) from z) (by simp)) (by simp)
    | some u =>
      rcases hO b with z | ⟨ob, xs, z⟩
      · rw [q] at z
        cases z
      · obtain ⟨e1, _⟩ := hok b _ z
        obtain ⟨e2, _⟩ := hok' b _ (un.frzs b ob _ z)
        rw [e] at e1
        cases e1
        exact e2

theorem law_callG (KX : K.In s₁.heap) (hns : s₁.heap.Ns mainGlobals mg) (hb : s₁.heap.Ns builtinsNs mb)
    (hbb : ∀ x : Str, x ≠ "__name__" → mb x = bootBuiltins x) (hlim : s₁.heap.NoLimit) (hg : s₁.gens = #[])
    (ha : s₁.heap.get? a = some { cls := .type "list", data := .seq vs.toArray }) (hi : IntsAre vs ns) (hl : ns.length ≤ sizeLine)
    (hr : Room k callerA) (F : ∀ base : Heap, K.In base → base.Ns mainGlobals mg → FnG P w K mg base CX k fa fd [x] sp)
    (hbind : ∀ (s : Shared) (u : Value), BindsTo s fd ⟨[u], []⟩ [(x, u)])
    (hsp : ∀ H : Hp, Only H → SqL K H a (ns.map V.int) → sp [.ref a] H (fun v _ => v = .bl true) fun _ _ _ => False)
    (hCX : ∀ H e s', CX [] H s₁ (fun _ _ _ => False) e s' → False) :
    codeAny (model P w) callerA (.call (.ref fa) ⟨[.ref a], []⟩)
      (fun r s' => r = .ok (.ret (.bool true)) ∧ OldK s₁.heap s'.heap ∧ s'.os = s₁.os ∧ AllBare s'.gens) s₁ := by
  have rv := vals_ints hi
  have lenV := hi.length
  cases hk : K.lookup a with
  | some o =>
    have e := KX a o hk
    rw [ha] at e
    cases e
    have none' : ∀ b : Addr, (fun _ : Addr => (none : Option HO)) b = none := fun _ => rfl
    refine coreG KX hns hb hbb hlim hg ha hr F hbind hCX (fun _ => none) (fun _ => .inl rfl) (hsp _ (fun _ => .inl rfl) ?_) ?_ (fun b z => absurd (none' b) z) (fun z => absurd (none' a) z)
    · exact .inr ⟨_, vs.toArray, _, hk, rfl, rfl, rfl, by rw [List.size_toArray, lenV]; exact hl, by simpa using rv⟩
    · intro b u z
      cases z
  | none =>
    have hpos : ∀ b, (fun b => if b = a then some (HO.frz { cls := .type "list", data := .seq vs.toArray } (.lst (ns.map V.int))) else none) b ≠ none → b = a := by
      intro b z
      by_cases q : b = a
      · exact q
      · exact absurd (if_neg q) z
    have hO : Only (fun b => if b = a then some (HO.frz { cls := .type "list", data := .seq vs.toArray } (.lst (ns.map V.int))) else none) := by
      intro b
      by_cases q : b = a
      · exact .inr ⟨_, _, if_pos q⟩
      · exact .inl (if_neg q)
    refine coreG KX hns hb hbb hlim hg ha hr F hbind hCX _ hO (hsp _ hO ?_) ?_ hpos (fun _ => hk)
    · exact .inl (.inr ⟨{ cls := .type "list", data := .seq vs.toArray }, if_pos rfl⟩)
    · intro b u z
      have q : b = a := hpos b (by rw [z]; simp)
      subst q
      have z' := (if_pos rfl).symm.trans z
      cases z'
      exact ⟨ha, by rw [List.length_map]; exact hl, vs, _, rv, ha⟩
end

/-- the end of a law -/
theorem walkG {l : PySem.W.OpenLaw} {n k : Nat} {q : Program} {loose : List Str} {XP : (Str → Option Value) → Heap → Prop} {YP : World → Heap → Prop} {d : DefRec} {K : Params → PySem.W.Frag} {CX : World → CXT} {sp : World → Sp} {x : Str}
    (hn : l.most = some n) (hn2 : n ≤ sizeLine) (hdf : d.params.defaults = []) (hr : Room k callerA)
    (hY : ∀ (w : World) (h : Heap), YP w h → (K w.params).In h)
    (F : ∀ (w : World) (mg : Str → Option Value) (fa : Addr) (h : Heap), (K w.params).In h → h.Ns mainGlobals mg → mg d.name = some (.ref fa) →
      ∃ fd : FuncData, (∀ (s : Shared) (u : Value), BindsTo s fd ⟨[u], []⟩ [(x, u)]) ∧
        ∀ base : Heap, (K w.params).In base → base.Ns mainGlobals mg → FnG l.prog w (K w.params) mg base (CX w) k fa fd [x] (sp w))
    (hsp : ∀ (w : World) (H : Hp) (a : Addr) (ns : List Int), ns.length ≤ n → Only H → SqL (K w.params) H a (ns.map V.int) → sp w [.ref a] H (fun v _ => v = .bl true) fun _ _ _ => False)
    (hCX : ∀ (w : World) (H : Hp) (s : Shared) (e : Value) (s' : Shared), CX w [] H s (fun _ _ _ => False) e s' → False) :
    PySem.W.WalkO q loose XP YP l.row.toRowW d [] (fun f vs => PySem.call f vs) := by
  refine Att.attach_call hn hdf ?_
  intro w s₀ s₁ mg mb fa o pm cd doc a vs ns G Y ho hd hcd hmg hobj hints hlen hg
  obtain ⟨fd, hb, hF⟩ := F w mg fa _ (hY w _ Y) G.T.g hmg
  exact law_callG (hY w _ Y) G.T.g G.T.b G.T.builtins G.T.nolimit hg hobj hints (Nat.le_trans hlen hn2) hr hF hb (fun H hO hS => hsp w H a ns hlen hO hS) fun H e s' => hCX w H s₁ e s'
end Gd

set_option Elab.async false
set_option linter.all false
set_option maxRecDepth 100000
set_option maxHeartbeats 4000000
/-! The first field of an exception of an own class that stands directly below a builtin one. -/
namespace GdX
open PySem PySem.Calls PyProof.Rows PySem.HandSPX Builtin Builtin.ObjectAttr
section
variable {prog : Program} {w : World} {A : Around} {R : Result → Shared → Prop} {hp : Heap} {g : Array GenState} {d : Drawn} {t : Nat} {os : OsState}
theorem osaG {B : String} {bmB : List Value} (SF : StoreFacts B bmB "object.__setattr__" "object") {K : W.Frag} {name : Str} {tk : Tok} {v : Value} {x C : Addr} {fv : Array Value} {cd : ClassData}
    (X : K.In hp) (hx : hp.get? x = some { cls := .ref C, data := .fields fv }) (hcd : W.clsIn K C = some cd)
    (hm : cd.mro = .ref C :: bmB) (hh : cd.hasDict = true) (ha : W.findIn K (.ref C) name = some none)
    (hq : ∀ h' tk' dx, (∀ b o, b ≠ x → hp.get? b = some o → h'.get? b = some o) → hp.objs.size ≤ dx → dx ≠ x →
      h'.get? x = some { cls := .ref C, dict := some dx, data := .fields fv } →
      h'.Ns1 dx (fun y => if y = name then some v else none) → R (.ok (.ret .none)) ⟨h', g, d, tk', os⟩) :
    codeAny (model prog w) A (.call (.builtin "object.__setattr__") ⟨[.ref x, .str name tk, v], []⟩) R ⟨hp, g, d, t, os⟩ := by
  have I : W.InstAt hp x { cls := .ref C, data := .fields fv } C none := ⟨hx, rfl, rfl, trivial⟩
  have ne : cd.mro.isEmpty = false := by rw [hm]; rfl
  have hob : cd.mro.contains (.type "object") = true := by
    rw [hm, List.contains_cons, SF.hasOwner, Bool.or_true]
  have hxs : x ≠ hp.objs.size := Nat.ne_of_lt (Heap.lt_size hx)
  have sub : W.Looks (model prog w) hp (isInstance (.ref x) (.type "object")) true := by
    refine I.type.andThen (W.looks_mroIn X ?_)
    unfold W.mroIn
    rw [hcd, Option.bind_some, if_neg (by rw [ne]; decide), hob]
  refine codeAny_call_builtin SF.slot.plain SF.entry (@W.check_slot (model prog w) _ _ ⟨hp, g, d, t, os⟩ "object.__setattr__" "object" "__setattr__" (.ref x) [.str name tk, v] [] _
    SF.kind SF.split sub (SF.args (.ref x) (.str name tk) v) ?_)
  have hmr : W.Looks (model prog w) hp (mroOf (.ref C)) cd.mro := (W.looks_clsIn X hcd).andThen .now
  have L3 : W.Looks (model prog w) hp (storeTaker? none) none := .now
  have hcls : W.Looks (model prog w) hp (classData C) cd := W.looks_clsIn X hcd
  rw [W.osa_eq, refuse_eq]
  refine wpAny_bind (wpAny_bind (I.type.at (wpAny_bind (hmr.at ?_))))
  rw [hm, refuseLoop_ref, SF.passes]
  refine wpAny_pure (wpAny_bind (I.type.at (wpAny_bind ((W.looks_findIn X ha).at (wpAny_bind (L3.at ?_))))))
  show wpAny _ _ (storeInOwnDict (.ref x) (.ref C) (.str name tk) name v false) _ _ _
  clear hmr hob ne sub hm
  obtain ⟨nm, bs, mro, ns, qn, hd, sn, sb, ab, col, del⟩ := cd
  have hh' : hd = true := hh
  subst hh'
  unfold storeInOwnDict ownDictForStores
  repeat (first
    | with_reducible refine store_in_new ?_ ?_
    | with_reducible refine wpAny_loadPart_at hx ?_
    | with_reducible refine hcls.at ?_
    | wp_step)
  · exact ⟨_, #[], _, (Heap.get?_update_ne _ _ _ _ hxs.symm).trans (Heap.get?_push_at rfl rfl), rfl, fun e he => absurd he (by simp), fun _ => rfl⟩
  · intro h' tk' hn' hs
    have hx₁ : (hp.push { cls := .type "dict", data := .dict #[] }).get? x = some { cls := .ref C, data := .fields fv } := Heap.get?_push_of_some _ hx
    refine hq h' tk' hp.objs.size (fun b o hb ho => ?_) (Nat.le_refl _) hxs.symm ?_ hn'
    · have far : b ≠ hp.objs.size := Nat.ne_of_lt (Heap.lt_size ho)
      exact (hs.2 b far).trans ((Heap.get?_update_ne _ _ _ _ hb).trans (Heap.get?_push_of_some _ ho))
    · exact (hs.2 x hxs).trans (Heap.get?_update_self _ hx₁ rfl)
end
end GdX

set_option Elab.async false
set_option linter.all false
set_option maxRecDepth 100000
set_option maxHeartbeats 4000000
namespace PySem
namespace XInvalidNumber
open PySem.W PySem.Calls PyProof.Rows PySem.HandSPX
/-! ### the text of __init__ -/
def iA (p1 p2 : Pos) : Arguments := { posonlyargs := [], args := [{ arg := "self", annotation := none, pos := p1 }, { arg := "value", annotation := none, pos := p2 }], vararg := none, kwonlyargs := [], kw_defaults := [], kwarg := none, defaults := [] }
def iB (q1 q2 q3 q4 : Pos) : List Stmt := [.Assign [.Attribute (.Name "self" q1) "value" q2] (.Name "value" q3) q4]
def iS : Scope := { kind := .function, names := [(PySem.Str.ofString "self", .local), (PySem.Str.ofString "value", .local)], isGenerator := false, isCoroutine := false, more := [] }
/-- what the written part says of Low, at C, and of its __init__, at fI -/
structure InvalidNumberTxt (K : Frag) (mg : Str → Option Value) (C fI : Addr) : Prop where
  gC : mg "InvalidNumber" = some (.ref C)
  cls : ∃ nm q N bs sn sub ab col dd k0 k1 k2 k3 k5, K.lookup C = some (excClassObj nm q C N bs [.type "IndexError", .type "LookupError", .type "Exception", .type "BaseException", .type "object"] true sn sub ab col dd k0 k1 k2 k3 k5 "IndexError.__new__")
  sa : findIn K (.ref C) "__setattr__" = some (some (.builtin "object.__setattr__"))
  ga : findIn K (.ref C) "__getattribute__" = some (some (.builtin "BaseException.__getattribute__"))
  gg : findIn K (.ref C) "__getattr__" = some none
  noN : findIn K (.ref C) "value" = some none
  iC : findIn K (.ref C) "__init__" = some (some (.ref fI))
  tC : typeIn K (.ref fI) = some (.type "function")
  kC : keepIn K (.ref C) = true
  exC : subIn K (.ref C) (.type "BaseException") = some true
  tyC : typeIn K (.ref C) = some (.type "type")
  hdC : hasDictIn K C = true
  te : exmOne K (.ref C) (.ref C) = some true
  fn : ∃ (oc : Value) (od : Option Addr) (doc pm : Value) (an : Option Addr) (cdv ct : Value) (osl : Array (Option Value)) (p1 p2 q1 q2 q3 q4 : Pos),
    K.lookup fI = some ⟨oc, od, .func (fnOf "__init__" "InvalidNumber.__init__" (iA p1 p2) (iB q1 q2 q3 q4) iS .none .none doc pm an cdv ct), osl⟩ ∧ codeIn K cdv "InvalidNumber.__init__" = true
theorem one_size (v : Value) : [v].length ≤ sizeLine := by
  rw [sizeLine_eq]
  exact (by decide : 1 ≤ 16777216)
theorem kept_but {K : Frag} {h h' : Heap} {x : Addr} (X : K.In h) (hx : K.lookup x = none) (k : ∀ b o, b ≠ x → h.get? b = some o → h'.get? b = some o) : K.In h' := fun a o e =>
  k a o (fun z => by rw [z, hx] at e; cases e) (X a o e)
theorem ldC {M : Model} {s : Shared} {name : Str} {scope : Scope} {L a : Addr} {cd : Value} {m : Str → Option Value} {x : Str} {pos : Pos} {v : Value} {Q : Value → Shared → Prop} {A : Around} {E : Value → Shared → Prop} (hn : s.heap.Ns L m) (hv : m x = some v) (h : Q v s)
    (hk : scope.kind = .function := by rfl) (hl : (envOfC name scope L a cd).kindOf x = some .local := by rfl) (hd : (x == ("__debug__" : Str)) = false := by decide) :
    wpAny M A (eval (.Name x pos) (envOfC name scope L a cd)) Q E s := wpAny_Name (wpAny_loadName_local hk hl hn hv h) hd
/-- what __init__ leaves of a fresh exception at x -/
structure InitEnd (h h' : Heap) (x C dx t1 : Addr) (v : Value) : Prop where
  keep : ∀ b o, b ≠ x → h.get? b = some o → h'.get? b = some o
  obj : h'.get? x = some { cls := .ref C, dict := some dx, data := .fields #[.ref t1, .none, .none, .none, .bool false, .none] }
  dbig : h.objs.size ≤ dx
  dne : dx ≠ x
  ns : h'.Ns1 dx (fun y => if y = "value" then some v else none)
/-- a made Low -/
structure OwnMade (h h' : Heap) (e C d : Addr) (v : Value) : Prop where
  keep : ∀ b o, h.get? b = some o → h'.get? b = some o
  new : h.objs.size ≤ e
  obj : ∃ oe vs, h'.get? e = some oe ∧ oe.cls = .ref C ∧ oe.dict = some d ∧ oe.data = .fields vs ∧ vs[1]? = some .none
  dbig : h.objs.size ≤ d
  dne : d ≠ e
  ns : h'.Ns1 d (fun y => if y = "value" then some v else none)
section
variable {prog : Program} {w : World} {A : Around} {E : Value → Shared → Prop} {R : Result → Shared → Prop} {s : Shared} {K : Frag} {mg : Str → Option Value} {C fI : Addr}
theorem low_init (T : InvalidNumberTxt K mg C fI) {x t0 : Addr} {v : Value} (X : K.In s.heap) (hlim : s.heap.NoLimit) (hx : s.heap.get? x = some (excO C t0)) (hnx : K.lookup x = none) (hroom : A.depth < recursionLimit)
    (hq : ∀ h' tk dx, InitEnd s.heap h' x C dx t0 v → R (.ok (.ret .none)) { s with heap := h', toks := tk }) :
    codeAny (model prog w) A (.call (.ref fI) ⟨[.ref x, v], []⟩) R s := by
  obtain ⟨oc, od, doc, pm, an, cdv, ct, osl, p1, p2, q1, q2, q3, q4, ho, hcd⟩ := T.fn
  obtain ⟨nm, q, N, bs, sn, sub, ab, col, dd, k0, k1, k2, k3, k5, hC⟩ := T.cls
  have hcl : clsIn K C = some { name := nm, bases := bs, mro := .ref C :: [.type "IndexError", .type "LookupError", .type "Exception", .type "BaseException", .type "object"], ns := N, qualname := q, hasDict := true, slotNames := sn, subclasses := sub, abstract := ab, collection := col, hasDel := false } := by unfold clsIn; rw [hC] <;> rfl
  refine Att.call_fn (binds := [("self", .ref x), ("value", v)]) X hlim ho hcd hroom (BindsTo.of_eq (by first | rfl | with_unfolding_all rfl)) (by first | rfl | decide | with_unfolding_all rfl) (fun s₁ IC => ?_) rfl rfl rfl
  obtain ⟨h₁, tk₁, rfl⟩ := IC.toInCall.same
  have k : ∀ b o, s.heap.get? b = some o → h₁.get? b = some o := IC.toInCall.keep
  have hn := IC.toInCall.ns
  have hxL : s.heap.objs.size ≠ x := Nat.ne_of_gt (Heap.lt_size hx)
  have X₁ : K.In h₁ := X.keeps k
  have hx₁ := k _ _ hx
  -- self.by = by
  show wpAny _ _ (execs _ _) _ _ _
  refine wpAny_execs_cons (plainObj_wpAny_Assign_Attribute ?_)
  refine ldC (v := v) hn (by first | rfl | with_unfolding_all rfl | kernel_rfl) (ldC (v := .ref x) hn (by first | rfl | with_unfolding_all rfl | kernel_rfl) ?_)
  refine set_plain X₁ (ox := excO C t0) (od := none) ⟨hx₁, rfl, rfl, trivial⟩ T.sa ?_
  refine GdX.osaG F.store_IndexError X₁ hx₁ hcl rfl rfl T.noN (fun h₃ tk₃ dx k₃ dn dne hx₃ hn₃ => ?_)
  show wpAny _ _ (execs _ _) _ _ _
  have z : s.heap.objs.size < h₁.objs.size := hn.lt
  exact wpAny_execs_nil (hq h₃ tk₃ dx ⟨fun b o hb e => k₃ b o hb (k b o e), hx₃, Nat.le_of_lt (Nat.lt_of_lt_of_le z dn), dne, hn₃⟩)
theorem low_made (T : InvalidNumberTxt K mg C fI) {v : Value} (X : K.In s.heap) (hlim : s.heap.NoLimit) (hroom : A.depth + 1 < recursionLimit)
    (hq : ∀ h' tk e d, OwnMade s.heap h' e C d v → R (.ok (.ret (.ref e))) { s with heap := h', toks := tk }) :
    codeAny (model prog w) A (.call (.ref C) ⟨[v], []⟩) R s := by
  obtain ⟨nm, q, N, bs, sn, sub, ab, col, dd, k0, k1, k2, k3, k5, hC⟩ := T.cls
  obtain ⟨hp, g, dr, tk, os⟩ := s
  have k : ∀ b o, hp.get? b = some o → ((hp.push (kdv_tup [v])).push (excO C hp.objs.size)).get? b = some o := fun b o e => Heap.get?_push_of_some _ (Heap.get?_push_of_some _ e)
  have hget : ((hp.push (kdv_tup [v])).push (excO C hp.objs.size)).get? (hp.objs.size + 1) = some (excO C hp.objs.size) := by heap_get
  have hnx : K.lookup (hp.objs.size + 1) = none := by
    cases e : K.lookup (hp.objs.size + 1) with
    | none => rfl
    | some o =>
      have z : hp.get? (hp.objs.size + 1) = some o := X _ _ e
      exact absurd (Nat.lt_of_succ_lt (Heap.lt_size z)) (Nat.lt_irrefl _)
  refine call_own F.excBase_IndexError (fun _ => rfl) (X _ _ hC) (looks_findIn X T.iC) (fun self => bind_fn X self T.tC) (one_size v) ?_
  refine low_init (s := ⟨(hp.push (kdv_tup [v])).push (excO C hp.objs.size), g, dr, tk, os⟩) T (X.keeps k) (hlim.keeps k) hget hnx ?_ fun h' tk' dx ⟨k', hx, dn, dne, hns⟩ => ?_
  · show A.depth + 1 < recursionLimit
    exact hroom
  · have old : ∀ b o, hp.get? b = some o → h'.get? b = some o := fun b o e => k' b o (Nat.ne_of_lt (Nat.lt_succ_of_lt (Heap.lt_size e))) (k b o e)
    have z : hp.objs.size + 1 + 1 ≤ dx := by
      first
        | (simpa only [Heap.size_push] using dn)
        | exact dn
        | (have q := dn; rw [Heap.size_push, Heap.size_push] at q; exact q)
    exact ⟨rfl, hq h' tk' (hp.objs.size + 1) dx ⟨old, Nat.le_succ _, ⟨_, _, hx, rfl, rfl, rfl, rfl⟩, Nat.le_trans (Nat.le_trans (Nat.le_succ _) (Nat.le_succ _)) z, dne, hns⟩⟩
end
end XInvalidNumber
end PySem
namespace L2
open PySem PySem.Spec PyProof.Rows
theorem relO_InvalidNumber {v : V} {v' : Value} (r : RelV v v') (f : Str) : RelO (List.lookup f [(("value" : Str), v)]) (if f = "value" then some v' else none) := by
  by_cases hw : f = "value"
  · subst hw
    rw [if_pos rfl]
    have q : List.lookup ("value" : Str) [(("value" : Str), v)] = some v := by simp [List.lookup]
    rw [q]
    exact r
  · rw [if_neg hw]
    have qw : (f == ("value" : Str)) = false := by simpa using hw
    have q2 : List.lookup f [(("value" : Str), v)] = none := by simp [List.lookup, qw]
    rw [q2]
    trivial
section
variable {X : Cx} {C fI : Addr}
/-- Low(e) -/
def tMkInvalidNumber (C : Addr) (ta : TA) : St → Hp → XK → Prop := fun σ H Q => ta σ H fun vs H1 => ∃ v, vs = [v] ∧ ∀ d, H1 d = none → Q (.ref C) (some d) (upd H1 d (.xd [(("value" : Str), v)]))
theorem pmk_InvalidNumber {a : Expr} {ta : TA} {p pos : Pos} {k : Nat} (T : PySem.XInvalidNumber.InvalidNumberTxt X.K X.mg C fI) (hr : Room k X.A) (ha : PA X [a] ta) (hg : Gl X "InvalidNumber" := by rfl)
    (he : starEach (a :: []) X.env = (false, eval a X.env) :: starEach [] X.env := by rfl) (hpl : (backTo pos (starEach [] X.env)).any (·.1) = false := by rfl) :
    PMk X (.Call (.Name "InvalidNumber" p) [a] [] pos) (tMkInvalidNumber C ta) := by
  intro pins s σ H Q I h
  refine wpAny_Call_Name_kw (ld_glob I hg T.gC ?_)
  refine PySem.W.callWith_K (h₀ := X.base) I.ok.mod.kin T.kC (thn (ha.run pos pins s σ H _ I h) fun us s1 hh => ?_) he hpl
  obtain ⟨vs, H1, I1, r1, v, ev, q1⟩ := hh
  subst ev
  refine ⟨I1.kIn, ?_⟩
  cases r1 with
  | cons rv rn =>
    rename_i v' us'
    cases rn
    show wpAny _ _ (call (.ref C) [v']) _ _ _
    have hlim := I1.nolimit
    obtain ⟨hp, g, dr, tk, os⟩ := s1
    refine wpAny_call (PySem.XInvalidNumber.low_made T I1.kIn hlim (by have := hr.dp; omega) fun h' tk' e d M => ?_)
    show MkP X pins σ Q (.ref e) ⟨h', g, dr, tk', os⟩
    obtain ⟨oe, fv, hoe, hc, hd, hdat, h1⟩ := M.obj
    have hns := M.ns
    obtain ⟨G', g1, g2⟩ := restrict h' fun b => decide (b ≠ e)
    have gk : ∀ b, b ≠ e → G'.get? b = h'.get? b := fun b hb => g1 b (decide_eq_true hb)
    have ge : G'.get? e = none := g2 e (by simp)
    have old : ∀ b o, hp.get? b = some o → G'.get? b = some o := fun b o q => (gk b (Nat.ne_of_lt (Nat.lt_of_lt_of_le (Heap.lt_size q) M.new))).trans (M.keep b o q)
    have ob : ObjOk X.prog X.w (upd H1 d (.xd [(("value" : Str), v)])) G' d (.xd [(("value" : Str), v)]) :=
      ⟨_, hns.at (fun o q => (gk d M.dne).trans q), fun f => relO_InvalidNumber rv f⟩
    have J : Inv X pins σ (upd H1 d (.xd [(("value" : Str), v)])) ⟨G', g, dr, tk', os⟩ := I1.laid (t' := tk') old M.dbig ob
    refine ⟨e, oe, fv, ⟨G', g, dr, tk', os⟩, _, .ref C, some d, rfl, J, fun b o q => ?_, ge, hoe, ⟨hc, hd⟩, hdat, h1, ?_, rfl, I1.bare, raises_own T.exC T.tyC, q1 d (I1.hok.fresh M.dbig)⟩
    · by_cases hb : b = e
      · have q' : G'.get? b = some o := q
        rw [hb, ge] at q'; cases q'
      · exact (gk b hb).symm.trans q
    · rw [upd_ne (Ne.symm M.dne)]
      exact I1.hok.fresh M.new
/-- raise Low(e) -/
def tRaiseInvalidNumber (C : Addr) (W : WX) (ta : TA) : TS := fun _ σ H => tMkInvalidNumber C ta σ H fun cls d H' => W cls d σ H'
theorem ps_raiseInvalidNumber {a : Expr} {ta : TA} {W : WX} {p pos pos2 : Pos} {k : Nat} (hc : X.calm = true) (T : PySem.XInvalidNumber.InvalidNumberTxt X.K X.mg C fI) (hr : Room k X.A) (tk : Takes X W) (ha : PA X [a] ta) (hg : Gl X "InvalidNumber" := by rfl)
    (he : starEach (a :: []) X.env = (false, eval a X.env) :: starEach [] X.env := by rfl) (hpl : (backTo pos (starEach [] X.env)).any (·.1) = false := by rfl) :
    PS X (.Raise (some (.Call (.Name "InvalidNumber" p) [a] [] pos)) none pos2) (tRaiseInvalidNumber C W ta) := ps_raise hc tk (pmk_InvalidNumber T hr ha hg he hpl)
/-- low.by, low the exception that the suite holds (at a; its class cls, its dict d) -/
def tByInvalidNumber (C : Addr) (a : Addr) (cls : Value) (d : Option Addr) (te : TE) : TE := fun σ H Q => te σ H fun x H1 => x = .ref a ∧ cls = .ref C ∧ ∃ (dd : Addr) (v : V), d = some dd ∧ H1 dd = some (.xd [(("value" : Str), v)]) ∧ Q v H1
theorem pe_byInvalidNumber {a : Addr} {oe : Obj} {cls : Value} {d : Option Addr} {pn : List (Addr × Obj)} {e : Expr} {te : TE} {pos : Pos} (T : PySem.XInvalidNumber.InvalidNumberTxt X.K X.mg C fI) (hz : Zc cls d oe) (hf : ∃ vs, oe.data = .fields vs) (he : PE (X.suite a ((a, oe) :: pn)) e te)
    (hb : attributeBase e "value" X.env (eval e X.env) = eval e X.env := by rfl) :
    PE (X.suite a ((a, oe) :: pn)) (.Attribute e "value" pos) (tByInvalidNumber C a cls d te) := by
  refine ⟨fun pins s σ H Q I h => ?_⟩
  refine attr_of hb (thn (he.run pins s σ H _ I h) fun u s1 hh => ?_)
  obtain ⟨x, H1, I1, rx, ex, ec, dd, v, ed, ea, q⟩ := hh
  subst ex
  obtain rfl : u = Value.ref a := rx
  subst ec
  subst ed
  obtain ⟨ha, _⟩ := I1.pin (a, oe) (List.mem_append_left _ List.mem_cons_self)
  obtain ⟨vs, hd⟩ := hf
  have hx : ObjOk X.prog X.w H1 s1.heap dd (.xd [(("value" : Str), v)]) := I1.hok dd _ ea
  obtain ⟨mA, hns, hr⟩ := hx
  obtain ⟨od, ho, hl⟩ := lookIn_ns hns
  have l : List.lookup ("value" : Str) [(("value" : Str), v)] = some v := by simp [List.lookup]
  obtain ⟨u, hu, ru⟩ := RelO.some_of (v := v) (o := mA "value") (by rw [← l]; exact hr "value")
  have J : PySem.W.InstAt s1.heap a oe C (some od) := ⟨ha, hz.1, by unfold PySem.W.notCls; rw [hd] <;> rfl, by rw [hz.2]; exact ho⟩
  exact HandSPX.exc_get I1.kIn J T.ga T.gg T.exC (PySem.W.findObj_own T.hdC T.noN rfl (by rw [hl, hu])) (handed_of ru) ⟨v, H1, I1.tok _, ru, q⟩
end
end L2

set_option Elab.async false
set_option linter.all false
set_option maxRecDepth 100000
set_option maxHeartbeats 4000000
namespace PySem
namespace XTooMany
open PySem.W PySem.Calls PyProof.Rows PySem.HandSPX
/-! ### the text of __init__ -/
def iA (p1 p2 : Pos) : Arguments := { posonlyargs := [], args := [{ arg := "self", annotation := none, pos := p1 }, { arg := "limit", annotation := none, pos := p2 }], vararg := none, kwonlyargs := [], kw_defaults := [], kwarg := none, defaults := [] }
def iB (q1 q2 q3 q4 : Pos) : List Stmt := [.Assign [.Attribute (.Name "self" q1) "limit" q2] (.Name "limit" q3) q4]
def iS : Scope := { kind := .function, names := [(PySem.Str.ofString "self", .local), (PySem.Str.ofString "limit", .local)], isGenerator := false, isCoroutine := false, more := [] }
/-- what the written part says of Low, at C, and of its __init__, at fI -/
structure TooManyTxt (K : Frag) (mg : Str → Option Value) (C fI : Addr) : Prop where
  gC : mg "TooMany" = some (.ref C)
  cls : ∃ nm q N bs sn sub ab col dd k0 k1 k2 k3 k5, K.lookup C = some (excClassObj nm q C N bs [.type "OverflowError", .type "ArithmeticError", .type "Exception", .type "BaseException", .type "object"] true sn sub ab col dd k0 k1 k2 k3 k5 "OverflowError.__new__")
  sa : findIn K (.ref C) "__setattr__" = some (some (.builtin "object.__setattr__"))
  ga : findIn K (.ref C) "__getattribute__" = some (some (.builtin "BaseException.__getattribute__"))
  gg : findIn K (.ref C) "__getattr__" = some none
  noN : findIn K (.ref C) "limit" = some none
  iC : findIn K (.ref C) "__init__" = some (some (.ref fI))
  tC : typeIn K (.ref fI) = some (.type "function")
  kC : keepIn K (.ref C) = true
  exC : subIn K (.ref C) (.type "BaseException") = some true
  tyC : typeIn K (.ref C) = some (.type "type")
  hdC : hasDictIn K C = true
  te : exmOne K (.ref C) (.ref C) = some true
  fn : ∃ (oc : Value) (od : Option Addr) (doc pm : Value) (an : Option Addr) (cdv ct : Value) (osl : Array (Option Value)) (p1 p2 q1 q2 q3 q4 : Pos),
    K.lookup fI = some ⟨oc, od, .func (fnOf "__init__" "TooMany.__init__" (iA p1 p2) (iB q1 q2 q3 q4) iS .none .none doc pm an cdv ct), osl⟩ ∧ codeIn K cdv "TooMany.__init__" = true
theorem one_size (v : Value) : [v].length ≤ sizeLine := by
  rw [sizeLine_eq]
  exact (by decide : 1 ≤ 16777216)
theorem kept_but {K : Frag} {h h' : Heap} {x : Addr} (X : K.In h) (hx : K.lookup x = none) (k : ∀ b o, b ≠ x → h.get? b = some o → h'.get? b = some o) : K.In h' := fun a o e =>
  k a o (fun z => by rw [z, hx] at e; cases e) (X a o e)
theorem ldC {M : Model} {s : Shared} {name : Str} {scope : Scope} {L a : Addr} {cd : Value} {m : Str → Option Value} {x : Str} {pos : Pos} {v : Value} {Q : Value → Shared → Prop} {A : Around} {E : Value → Shared → Prop} (hn : s.heap.Ns L m) (hv : m x = some v) (h : Q v s)
    (hk : scope.kind = .function := by rfl) (hl : (envOfC name scope L a cd).kindOf x = some .local := by rfl) (hd : (x == ("__debug__" : Str)) = false := by decide) :
    wpAny M A (eval (.Name x pos) (envOfC name scope L a cd)) Q E s := wpAny_Name (wpAny_loadName_local hk hl hn hv h) hd
/-- what __init__ leaves of a fresh exception at x -/
structure InitEnd (h h' : Heap) (x C dx t1 : Addr) (v : Value) : Prop where
  keep : ∀ b o, b ≠ x → h.get? b = some o → h'.get? b = some o
  obj : h'.get? x = some { cls := .ref C, dict := some dx, data := .fields #[.ref t1, .none, .none, .none, .bool false, .none] }
  dbig : h.objs.size ≤ dx
  dne : dx ≠ x
  ns : h'.Ns1 dx (fun y => if y = "limit" then some v else none)
/-- a made Low -/
structure OwnMade (h h' : Heap) (e C d : Addr) (v : Value) : Prop where
  keep : ∀ b o, h.get? b = some o → h'.get? b = some o
  new : h.objs.size ≤ e
  obj : ∃ oe vs, h'.get? e = some oe ∧ oe.cls = .ref C ∧ oe.dict = some d ∧ oe.data = .fields vs ∧ vs[1]? = some .none
  dbig : h.objs.size ≤ d
  dne : d ≠ e
  ns : h'.Ns1 d (fun y => if y = "limit" then some v else none)
section
variable {prog : Program} {w : World} {A : Around} {E : Value → Shared → Prop} {R : Result → Shared → Prop} {s : Shared} {K : Frag} {mg : Str → Option Value} {C fI : Addr}
theorem low_init (T : TooManyTxt K mg C fI) {x t0 : Addr} {v : Value} (X : K.In s.heap) (hlim : s.heap.NoLimit) (hx : s.heap.get? x = some (excO C t0)) (hnx : K.lookup x = none) (hroom : A.depth < recursionLimit)
    (hq : ∀ h' tk dx, InitEnd s.heap h' x C dx t0 v → R (.ok (.ret .none)) { s with heap := h', toks := tk }) :
    codeAny (model prog w) A (.call (.ref fI) ⟨[.ref x, v], []⟩) R s := by
  obtain ⟨oc, od, doc, pm, an, cdv, ct, osl, p1, p2, q1, q2, q3, q4, ho, hcd⟩ := T.fn
  obtain ⟨nm, q, N, bs, sn, sub, ab, col, dd, k0, k1, k2, k3, k5, hC⟩ := T.cls
  have hcl : clsIn K C = some { name := nm, bases := bs, mro := .ref C :: [.type "OverflowError", .type "ArithmeticError", .type "Exception", .type "BaseException", .type "object"], ns := N, qualname := q, hasDict := true, slotNames := sn, subclasses := sub, abstract := ab, collection := col, hasDel := false } := by unfold clsIn; rw [hC] <;> rfl
  refine Att.call_fn (binds := [("self", .ref x), ("limit", v)]) X hlim ho hcd hroom (BindsTo.of_eq (by first | rfl | with_unfolding_all rfl)) (by first | rfl | decide | with_unfolding_all rfl) (fun s₁ IC => ?_) rfl rfl rfl
  obtain ⟨h₁, tk₁, rfl⟩ := IC.toInCall.same
  have k : ∀ b o, s.heap.get? b = some o → h₁.get? b = some o := IC.toInCall.keep
  have hn := IC.toInCall.ns
  have hxL : s.heap.objs.size ≠ x := Nat.ne_of_gt (Heap.lt_size hx)
  have X₁ : K.In h₁ := X.keeps k
  have hx₁ := k _ _ hx
  -- self.by = by
  show wpAny _ _ (execs _ _) _ _ _
  refine wpAny_execs_cons (plainObj_wpAny_Assign_Attribute ?_)
  refine ldC (v := v) hn (by first | rfl | with_unfolding_all rfl | kernel_rfl) (ldC (v := .ref x) hn (by first | rfl | with_unfolding_all rfl | kernel_rfl) ?_)
  refine set_plain X₁ (ox := excO C t0) (od := none) ⟨hx₁, rfl, rfl, trivial⟩ T.sa ?_
  refine GdX.osaG F.store_OverflowError X₁ hx₁ hcl rfl rfl T.noN (fun h₃ tk₃ dx k₃ dn dne hx₃ hn₃ => ?_)
  show wpAny _ _ (execs _ _) _ _ _
  have z : s.heap.objs.size < h₁.objs.size := hn.lt
  exact wpAny_execs_nil (hq h₃ tk₃ dx ⟨fun b o hb e => k₃ b o hb (k b o e), hx₃, Nat.le_of_lt (Nat.lt_of_lt_of_le z dn), dne, hn₃⟩)
theorem low_made (T : TooManyTxt K mg C fI) {v : Value} (X : K.In s.heap) (hlim : s.heap.NoLimit) (hroom : A.depth + 1 < recursionLimit)
    (hq : ∀ h' tk e d, OwnMade s.heap h' e C d v → R (.ok (.ret (.ref e))) { s with heap := h', toks := tk }) :
    codeAny (model prog w) A (.call (.ref C) ⟨[v], []⟩) R s := by
  obtain ⟨nm, q, N, bs, sn, sub, ab, col, dd, k0, k1, k2, k3, k5, hC⟩ := T.cls
  obtain ⟨hp, g, dr, tk, os⟩ := s
  have k : ∀ b o, hp.get? b = some o → ((hp.push (kdv_tup [v])).push (excO C hp.objs.size)).get? b = some o := fun b o e => Heap.get?_push_of_some _ (Heap.get?_push_of_some _ e)
  have hget : ((hp.push (kdv_tup [v])).push (excO C hp.objs.size)).get? (hp.objs.size + 1) = some (excO C hp.objs.size) := by heap_get
  have hnx : K.lookup (hp.objs.size + 1) = none := by
    cases e : K.lookup (hp.objs.size + 1) with
    | none => rfl
    | some o =>
      have z : hp.get? (hp.objs.size + 1) = some o := X _ _ e
      exact absurd (Nat.lt_of_succ_lt (Heap.lt_size z)) (Nat.lt_irrefl _)
  refine call_own F.excBase_OverflowError (fun _ => rfl) (X _ _ hC) (looks_findIn X T.iC) (fun self => bind_fn X self T.tC) (one_size v) ?_
  refine low_init (s := ⟨(hp.push (kdv_tup [v])).push (excO C hp.objs.size), g, dr, tk, os⟩) T (X.keeps k) (hlim.keeps k) hget hnx ?_ fun h' tk' dx ⟨k', hx, dn, dne, hns⟩ => ?_
  · show A.depth + 1 < recursionLimit
    exact hroom
  · have old : ∀ b o, hp.get? b = some o → h'.get? b = some o := fun b o e => k' b o (Nat.ne_of_lt (Nat.lt_succ_of_lt (Heap.lt_size e))) (k b o e)
    have z : hp.objs.size + 1 + 1 ≤ dx := by
      first
        | (simpa only [Heap.size_push] using dn)
        | exact dn
        | (have q := dn; rw [Heap.size_push, Heap.size_push] at q; exact q)
    exact ⟨rfl, hq h' tk' (hp.objs.size + 1) dx ⟨old, Nat.le_succ _, ⟨_, _, hx, rfl, rfl, rfl, rfl⟩, Nat.le_trans (Nat.le_trans (Nat.le_succ _) (Nat.le_succ _)) z, dne, hns⟩⟩
end
end XTooMany
end PySem
namespace L2
open PySem PySem.Spec PyProof.Rows
theorem relO_TooMany {v : V} {v' : Value} (r : RelV v v') (f : Str) : RelO (List.lookup f [(("limit" : Str), v)]) (if f = "limit" then some v' else none) := by
  by_cases hw : f = "limit"
  · subst hw
    rw [if_pos rfl]
    have q : List.lookup ("limit" : Str) [(("limit" : Str), v)] = some v := by simp [List.lookup]
    rw [q]
    exact r
  · rw [if_neg hw]
    have qw : (f == ("limit" : Str)) = false := by simpa using hw
    have q2 : List.lookup f [(("limit" : Str), v)] = none := by simp [List.lookup, qw]
    rw [q2]
    trivial
section
variable {X : Cx} {C fI : Addr}
/-- Low(e) -/
def tMkTooMany (C : Addr) (ta : TA) : St → Hp → XK → Prop := fun σ H Q => ta σ H fun vs H1 => ∃ v, vs = [v] ∧ ∀ d, H1 d = none → Q (.ref C) (some d) (upd H1 d (.xd [(("limit" : Str), v)]))
theorem pmk_TooMany {a : Expr} {ta : TA} {p pos : Pos} {k : Nat} (T : PySem.XTooMany.TooManyTxt X.K X.mg C fI) (hr : Room k X.A) (ha : PA X [a] ta) (hg : Gl X "TooMany" := by rfl)
    (he : starEach (a :: []) X.env = (false, eval a X.env) :: starEach [] X.env := by rfl) (hpl : (backTo pos (starEach [] X.env)).any (·.1) = false := by rfl) :
    PMk X (.Call (.Name "TooMany" p) [a] [] pos) (tMkTooMany C ta) := by
  intro pins s σ H Q I h
  refine wpAny_Call_Name_kw (ld_glob I hg T.gC ?_)
  refine PySem.W.callWith_K (h₀ := X.base) I.ok.mod.kin T.kC (thn (ha.run pos pins s σ H _ I h) fun us s1 hh => ?_) he hpl
  obtain ⟨vs, H1, I1, r1, v, ev, q1⟩ := hh
  subst ev
  refine ⟨I1.kIn, ?_⟩
  cases r1 with
  | cons rv rn =>
    rename_i v' us'
    cases rn
    show wpAny _ _ (call (.ref C) [v']) _ _ _
    have hlim := I1.nolimit
    obtain ⟨hp, g, dr, tk, os⟩ := s1
    refine wpAny_call (PySem.XTooMany.low_made T I1.kIn hlim (by have := hr.dp; omega) fun h' tk' e d M => ?_)
    show MkP X pins σ Q (.ref e) ⟨h', g, dr, tk', os⟩
    obtain ⟨oe, fv, hoe, hc, hd, hdat, h1⟩ := M.obj
    have hns := M.ns
    obtain ⟨G', g1, g2⟩ := restrict h' fun b => decide (b ≠ e)
    have gk : ∀ b, b ≠ e → G'.get? b = h'.get? b := fun b hb => g1 b (decide_eq_true hb)
    have ge : G'.get? e = none := g2 e (by simp)
    have old : ∀ b o, hp.get? b = some o → G'.get? b = some o := fun b o q => (gk b (Nat.ne_of_lt (Nat.lt_of_lt_of_le (Heap.lt_size q) M.new))).trans (M.keep b o q)
    have ob : ObjOk X.prog X.w (upd H1 d (.xd [(("limit" : Str), v)])) G' d (.xd [(("limit" : Str), v)]) :=
      ⟨_, hns.at (fun o q => (gk d M.dne).trans q), fun f => relO_TooMany rv f⟩
    have J : Inv X pins σ (upd H1 d (.xd [(("limit" : Str), v)])) ⟨G', g, dr, tk', os⟩ := I1.laid (t' := tk') old M.dbig ob
    refine ⟨e, oe, fv, ⟨G', g, dr, tk', os⟩, _, .ref C, some d, rfl, J, fun b o q => ?_, ge, hoe, ⟨hc, hd⟩, hdat, h1, ?_, rfl, I1.bare, raises_own T.exC T.tyC, q1 d (I1.hok.fresh M.dbig)⟩
    · by_cases hb : b = e
      · have q' : G'.get? b = some o := q
        rw [hb, ge] at q'; cases q'
      · exact (gk b hb).symm.trans q
    · rw [upd_ne (Ne.symm M.dne)]
      exact I1.hok.fresh M.new
/-- raise Low(e) -/
def tRaiseTooMany (C : Addr) (W : WX) (ta : TA) : TS := fun _ σ H => tMkTooMany C ta σ H fun cls d H' => W cls d σ H'
theorem ps_raiseTooMany {a : Expr} {ta : TA} {W : WX} {p pos pos2 : Pos} {k : Nat} (hc : X.calm = true) (T : PySem.XTooMany.TooManyTxt X.K X.mg C fI) (hr : Room k X.A) (tk : Takes X W) (ha : PA X [a] ta) (hg : Gl X "TooMany" := by rfl)
    (he : starEach (a :: []) X.env = (false, eval a X.env) :: starEach [] X.env := by rfl) (hpl : (backTo pos (starEach [] X.env)).any (·.1) = false := by rfl) :
    PS X (.Raise (some (.Call (.Name "TooMany" p) [a] [] pos)) none pos2) (tRaiseTooMany C W ta) := ps_raise hc tk (pmk_TooMany T hr ha hg he hpl)
/-- low.by, low the exception that the suite holds (at a; its class cls, its dict d) -/
def tByTooMany (C : Addr) (a : Addr) (cls : Value) (d : Option Addr) (te : TE) : TE := fun σ H Q => te σ H fun x H1 => x = .ref a ∧ cls = .ref C ∧ ∃ (dd : Addr) (v : V), d = some dd ∧ H1 dd = some (.xd [(("limit" : Str), v)]) ∧ Q v H1
theorem pe_byTooMany {a : Addr} {oe : Obj} {cls : Value} {d : Option Addr} {pn : List (Addr × Obj)} {e : Expr} {te : TE} {pos : Pos} (T : PySem.XTooMany.TooManyTxt X.K X.mg C fI) (hz : Zc cls d oe) (hf : ∃ vs, oe.data = .fields vs) (he : PE (X.suite a ((a, oe) :: pn)) e te)
    (hb : attributeBase e "limit" X.env (eval e X.env) = eval e X.env := by rfl) :
    PE (X.suite a ((a, oe) :: pn)) (.Attribute e "limit" pos) (tByTooMany C a cls d te) := by
  refine ⟨fun pins s σ H Q I h => ?_⟩
  refine attr_of hb (thn (he.run pins s σ H _ I h) fun u s1 hh => ?_)
  obtain ⟨x, H1, I1, rx, ex, ec, dd, v, ed, ea, q⟩ := hh
  subst ex
  obtain rfl : u = Value.ref a := rx
  subst ec
  subst ed
  obtain ⟨ha, _⟩ := I1.pin (a, oe) (List.mem_append_left _ List.mem_cons_self)
  obtain ⟨vs, hd⟩ := hf
  have hx : ObjOk X.prog X.w H1 s1.heap dd (.xd [(("limit" : Str), v)]) := I1.hok dd _ ea
  obtain ⟨mA, hns, hr⟩ := hx
  obtain ⟨od, ho, hl⟩ := lookIn_ns hns
  have l : List.lookup ("limit" : Str) [(("limit" : Str), v)] = some v := by simp [List.lookup]
  obtain ⟨u, hu, ru⟩ := RelO.some_of (v := v) (o := mA "limit") (by rw [← l]; exact hr "limit")
  have J : PySem.W.InstAt s1.heap a oe C (some od) := ⟨ha, hz.1, by unfold PySem.W.notCls; rw [hd] <;> rfl, by rw [hz.2]; exact ho⟩
  exact HandSPX.exc_get I1.kIn J T.ga T.gg T.exC (PySem.W.findObj_own T.hdC T.noN rfl (by rw [hl, hu])) (handed_of ru) ⟨v, H1, I1.tok _, ru, q⟩
end
end L2

set_option Elab.async false
set_option linter.all false
set_option maxRecDepth 100000
set_option maxHeartbeats 4000000
/-! Operators of own classes, and repr of data, as rules of the hand layer. -/
namespace Gd
open PySem PySem.Spec PyProof.Rows L2

/-! ### repr of data -/
def rRepr (K : PySem.W.Frag) : List V → Hp → VK → Prop := fun xs H Q =>
  ∃ a d, xs = [.ref a] ∧ Dp K H (.ref a) d ∧ d.showable = true ∧ d.hasDict = false ∧ d.depth ≤ 60 ∧ d.shown.length ≤ sizeLine ∧ Q (.str d.shown) H
theorem call_repr {X : Cx} (hg : NoG X.A) (hu : X.A.units + 64 < cLine) : CallR X (.builtin "repr") (rRepr X.K) := by
  intro pins s σ H xs us Q I r h
  obtain ⟨a, d, rfl, hd, h1, h2, h3, h4, q⟩ := h
  obtain ⟨u, rfl, hu1⟩ := vals1 r
  cases hu1
  obtain ⟨as, rd⟩ := Dp.reads I d (.ref a) (.ref a) hd rfl
  refine repr_of_reads' rd h1 (PyData.noDict_hsm h2) hg (by omega) (fun _ _ e => e) ?_ h4
  intro h' u tk hk
  exact ⟨.str d.shown, H, I.kept hk, ⟨u, rfl⟩, q⟩

section
variable {X : Cx} {CX : CXT} {k : Nat} {f C : Addr} {fd : FuncData} {ps : List Str} {sp : Sp} {dvs : List V} {ds : List Value}
  {pos : Pos} {a b : Expr} {ta tb : TE}

/-- the callee runs, from the body or from a builtin that the body calls -/
theorem runAt {E : XK} {A : Around} (hA : A = X.A ∨ A = X.A.in1) {pins : List (Addr × Obj)} {σ : L2.St} {H : Hp} {s : Shared} {Q : VK} {us : List Value} {vs : List V}
    (F : FnOk X.prog X.w X.K X.mg X.base CX k f fd ps sp) (hr : Room (k + 1) X.A) (hb : Binds X.K fd ps ds) (hd : Vals dvs ds)
    (hx : PassesAt CX X σ E) (I : Inv X pins σ H s) (r : Vals vs us) (h : sp (vs ++ dvs) H Q E) :
    wpAny (model X.prog X.w) A (call (.ref f) us) (EP X pins σ Q) X.xe s := by
  have r2 := Vals.append r hd
  have hl : (us ++ ds).length = ps.length := by
    rw [← r2.length]
    exact F.len _ H Q E h
  have room : Room k A := by
    rcases hA with rfl | rfl
    · exact hr.mono (Nat.le_succ _)
    · exact hr.in1
  have env : Env0 X.prog X.w X.K X.mg X.base A X.stack s H := by
    rcases hA with rfl | rfl
    · exact I.env0
    · exact I.env0.in1
  refine wpAny_call (codeAny_mono (F.run A X.stack s H ⟨us, []⟩ (us ++ ds) _ Q E room env (hb s us I.kIn hl) r2 h) ?_)
  intro r s' hq
  match r, hq with
  | .error e, hq => exact hx pins H s e s' I hq
  | .ok (.ret u), hq => exact I.after hq
  | .ok .next, hq => exact False.elim hq
  | .ok .brk, hq => exact False.elim hq
  | .ok .cont, hq => exact False.elim hq
theorem quiet0 {σ : L2.St} {E : XK} : PassesAt CX0 X σ E := fun _ _ _ _ _ _ h => h.elim

/-- the instance at a, as the library sees it -/
theorem seen {pins : List (Addr × Obj)} {σ : L2.St} {H : Hp} {s : Shared} {p dx : Addr} {fs : List (Str × V)} (I : Inv X pins σ H s)
    (e : H p = some (.ins C dx fs)) : ∃ od, PySem.W.InstAt s.heap p (PySem.W.instObj C dx) C (some od) := by
  obtain ⟨mA, J, _⟩ := ins_get I.hok e
  obtain ⟨od, J, _⟩ := J.look
  exact ⟨od, J⟩

/-! ### comparisons -/
/-- x OP y by the own method of x's class, whose answer is a truth value -/
def rCmpO (K : PySem.W.Frag) (C : Addr) (sp : Sp) (E : XK) : R2 := fun x y H Q => ∃ p dx fs t, x = .ref p ∧ H p = some (.ins C dx fs) ∧
  TyX K H y t ∧ PySem.W.notFirst K C t = true ∧ sp [x, y] H (fun v H' => (∃ c, v = .bl c) ∧ Q v H') E
theorem cmpO {op : CmpOp} {E : XK} (hm : Meth X.K C (cmpInfo op).2.1 f) (F : FnOk X.prog X.w X.K X.mg X.base CX k f fd ps sp) (hr : Room (k + 1) X.A)
    (hb : Binds X.K fd ps []) (hx : ∀ σ, PassesAt CX X σ E)
    {pins : List (Addr × Obj)} {s : Shared} {σ : L2.St} {H : Hp} {x y : V} {v u : Value} {Q : VK} (I : Inv X pins σ H s) (rx : RelV x v) (ry : RelV y u)
    (h : rCmpO X.K C sp E x y H Q) : wpAny (model X.prog X.w) X.A (richCompare op v u) (EP X pins σ Q) X.xe s := by
  obtain ⟨p, dx, fs, t, rfl, ep, ty, hn, hsp⟩ := h
  cases rx
  obtain ⟨od, J⟩ := seen I ep
  obtain ⟨P, Z, hP, _⟩ := kit_of I ry ty
  obtain ⟨m, hF⟩ := I.fr
  refine PySem.W.cmp_K (op := op) (tb := t) hr.units0 hF I.ok.mod.kin J (Z.ty _ _ I.kIn hP) hn hm.at_ hm.fn ?_
  refine wpAny_mono (runAt (.inl rfl) F hr hb .nil (hx σ) I (.cons (show RelV (V.ref p) (Value.ref p) from rfl) (.cons ry .nil)) hsp) ?_ (fun _ _ z => z)
  rintro w s' ⟨z, H', I', rz, ⟨c, rfl⟩, q⟩
  cases rz
  exact ⟨.bl c, H', I', rfl, q⟩
theorem op_eqO {E : XK} (hm : Meth X.K C "__eq__" f) (F : FnOk X.prog X.w X.K X.mg X.base CX k f fd ps sp) (hr : Room (k + 1) X.A)
    (hb : Binds X.K fd ps []) (hx : ∀ σ, PassesAt CX X σ E) : OpR X (compareOp .Eq) (rCmpO X.K C sp E) := by
  intro pins s σ H x y v u Q I rx ry h
  exact cmpO (op := .Eq) hm F hr hb hx I rx ry h
theorem op_ltO {E : XK} (hm : Meth X.K C "__lt__" f) (F : FnOk X.prog X.w X.K X.mg X.base CX k f fd ps sp) (hr : Room (k + 1) X.A)
    (hb : Binds X.K fd ps []) (hx : ∀ σ, PassesAt CX X σ E) : OpR X (compareOp .Lt) (rCmpO X.K C sp E) := by
  intro pins s σ H x y v u Q I rx ry h
  exact cmpO (op := .Lt) hm F hr hb hx I rx ry h

/-! ### len, truth, items -/
def rLenO (C : Addr) (sp : Sp) (E : XK) : List V → Hp → VK → Prop := fun xs H Q => ∃ p dx fs, xs = [.ref p] ∧ H p = some (.ins C dx fs) ∧
  sp [.ref p] H (fun v H' => ∃ n : Int, v = .int n ∧ 0 ≤ n ∧ n < 2 ^ 63 ∧ Q (.int n) H') E
theorem call_lenO {E : XK} (hm : Meth X.K C "__len__" f) (F : FnOk X.prog X.w X.K X.mg X.base CX k f fd ps sp) (hr : Room (k + 1) X.A)
    (hb : Binds X.K fd ps []) (hx : ∀ σ, PassesAt CX X σ E) : CallR X (.builtin "len") (rLenO C sp E) := by
  intro pins s σ H xs us Q I r h
  obtain ⟨p, dx, fs, rfl, ep, hsp⟩ := h
  obtain ⟨u, rfl, hu1⟩ := vals1 r
  cases hu1
  obtain ⟨od, J⟩ := seen I ep
  obtain ⟨m, hF⟩ := I.fr
  refine PySem.W.len_K hF I.ok.mod.kin J hm.at_ hm.fn ?_
  refine wpAny_mono (runAt (.inr rfl) F hr hb .nil (hx σ) I (.cons (show RelV (V.ref p) (Value.ref p) from rfl) .nil) hsp) ?_ (fun _ _ z => z)
  rintro w s' ⟨z, H', I', rz, n, rfl, h0, h1, q⟩
  obtain ⟨t, rfl⟩ := rz
  exact ⟨⟨h0, h1⟩, .int n, H', I'.tok _, ⟨_, rfl⟩, q⟩
def rTruO (C : Addr) (sp : Sp) (E : XK) : V → Hp → (Bool → Hp → Prop) → Prop := fun x H Q => ∃ p dx fs, x = .ref p ∧ H p = some (.ins C dx fs) ∧
  sp [.ref p] H (fun v H' => ∃ c, v = .bl c ∧ Q c H') E
theorem tru_O {E : XK} (hm : Meth X.K C "__bool__" f) (F : FnOk X.prog X.w X.K X.mg X.base CX k f fd ps sp) (hr : Room (k + 1) X.A)
    (hb : Binds X.K fd ps []) (hx : ∀ σ, PassesAt CX X σ E) : TruR X (rTruO C sp E) := by
  intro pins s σ H x v Q I rx h
  obtain ⟨p, dx, fs, rfl, ep, hsp⟩ := h
  cases rx
  obtain ⟨od, J⟩ := seen I ep
  obtain ⟨m, hF⟩ := I.fr
  refine PySem.W.truthy_K hF I.ok.mod.kin J hm.at_ hm.fn ?_
  refine wpAny_mono (runAt (.inl rfl) F hr hb .nil (hx σ) I (.cons (show RelV (V.ref p) (Value.ref p) from rfl) .nil) hsp) ?_ (fun _ _ z => z)
  rintro w s' ⟨z, H', I', rz, c, rfl, q⟩
  cases rz
  exact ⟨H', I', q⟩
/-- o[i] by the own method, which may raise -/
def tIxO (C : Addr) (sp : Sp) (E : L2.St → XK) (ta tb : TE) : TE := fun σ H Q => ta σ H fun x H1 => tb σ H1 fun y H2 =>
  ∃ p dx fs, x = .ref p ∧ H2 p = some (.ins C dx fs) ∧ sp [x, y] H2 Q (E σ)
theorem pe_ixO {E : L2.St → XK} (hm : Meth X.K C "__getitem__" f) (hfn : PySem.W.fnIn X.K f = true) (F : FnOk X.prog X.w X.K X.mg X.base CX k f fd ps sp)
    (hr : Room (k + 1) X.A) (hb : Binds X.K fd ps []) (hx : ∀ σ, PassesAt CX X σ (E σ)) (ha : PE X a ta) (hb' : PE X b tb)
    (hs : ∀ v u : Value, subscripted b true v u = runValue (.builtin "lifetime.subscript" ⟨[v, u], []⟩) := by intro _ _; with_unfolding_all rfl) :
    PE X (.Subscript a b pos) (tIxO C sp E ta tb) := by
  refine ⟨fun pins s σ H Q I h => ?_⟩
  refine Subscript_ (binT ha hb' I h fun v u s2 x y H2 I2 rx ry q => ?_)
  obtain ⟨p, dx, fs, rfl, ep, hsp⟩ := q
  cases rx
  obtain ⟨od, J⟩ := seen I2 ep
  obtain ⟨m, hF⟩ := I2.fr
  refine PySem.W.sub_K hF I2.ok.mod.kin J hm.at_ hfn hm.fn ?_ (hs _ _)
  exact runAt (.inr rfl) F hr hb .nil (hx σ) I2 (.cons (show RelV (V.ref p) (Value.ref p) from rfl) (.cons ry .nil)) hsp
end
end Gd

set_option Elab.async false
set_option linter.all false
set_option maxRecDepth 100000
set_option maxHeartbeats 4000000
/-! iter(a tuple), and list(o) of an own class that hands on such an iterator and has a length. -/
namespace PySem
section
variable {prog : Program} {w : World} {A : Around} {E : Value → Shared → Prop} {s : Shared}
/-- the end of a tuple's iterator, which stays an object -/
theorem tuple_next_end {it t : Addr} {i : Nat} {items : Array Value} {Q : Option Value → Shared → Prop} (hh : A.handled = none)
    (hit : s.heap.IsTupleIter it t i) (ht : s.heap.IsTuple t items) (hx : items[i]? = none)
    (hQ : ∀ h', (∀ b o, b ≠ it → s.heap.get? b = some o → h'.get? b = some o) → (∃ o, h'.get? it = some o) → Q none { s with heap := h' }) :
    wpAny (model prog w) A (pyNext (.ref it)) Q E s := by
  obtain ⟨o, ho, hc, hd⟩ := id hit
  obtain ⟨ol, hol, _, nl, hdl⟩ := ht
  have self := Heap.get?_update_self (Obj.mapFields (·.setIfInBounds 0 Value.none)) ho (Obj.isFreed_of_fields (Obj.data_mapFields hd _))
  unfold pyNext
  refine wpAny_bind (wpAny_attempt (wpAny_callSpecial?_slot (name := Str.ofString "__next__") hit.typeIs F.slot_tuple_iterator_next (wpAny_call_entry
    F.slot_tuple_iterator_next hit.typeIs F.entry_tuple_iterator_next ?_ (F.args_tuple_iterator_next_1 _))))
  show wpAny _ _ (field (.ref it) 0 >>= _) _ _ s
  refine wpAny_bind (wpAny_field ho hd (x := .ref t) rfl ?_)
  have nn : ¬ ((Value.ref t == Value.none) = true) := Bool.false_ne_true
  show wpAny _ _ (if (Value.ref t == Value.none) = true then _ else _) _ _ s
  rw [if_neg nn]
  show wpAny _ _ (field (.ref it) 1 >>= _) _ _ s
  refine wpAny_bind (wpAny_field ho hd (x := .int i 0) rfl ?_)
  show wpAny _ _ (seqItems? (.ref t) >>= _) _ _ s
  refine wpAny_bind (wpAny_seqItems hol hdl ?_)
  simp only [Int.toNat_natCast, hx]
  refine wpAny_bind (wpAny_rule (wpAny_bind (wpAny_setField ho hd (by simp) ?_)))
  show wpAny _ _ (newExc (.type "StopIteration") [] >>= _) _ _ _
  refine wpAny_bind ?_
  simp only [newExc, newTuple]
  refine wpAny_bind (wpAny_newObj_type ?_ (by size_fits))
  refine wpAny_bind (m := firstArgMember _ _) (wpAny_of_eq (a := Value.none) (by first | rfl | (simp only [firstArgMember]; rfl)) ?_)
  refine wpAny_newObj_type ?_ (by size_fits)
  simp only [raiseNew]
  refine wpAny_bind (wpAny_handled ?_)
  first | rw [show A.in1.handled = none from hh] | rw [hh]
  refine wpAny_bind (wpAny_pure (wpAny_throw ?_))
  refine wpAny_bind (wpAny_isInstance (T := "StopIteration") (b := true) ⟨_, Heap.get?_push_size _ rfl, rfl⟩ isSubtype_stop ?_)
  refine wpAny_pure (hQ _ (fun b o hb e => ?_) ⟨_, Heap.get?_push_of_some _ (Heap.get?_push_of_some _ self)⟩)
  exact Heap.get?_push_of_some _ (Heap.get?_push_of_some _ ((Heap.get?_update_other _ _ (Ne.symm hb)).trans e))
end
end PySem

namespace Gd
open PySem PySem.Spec PyProof.Rows L2
/-- at it: an iterator over the tuple at t, behind i items; | whatever it is -/
def TitO (t it : Addr) (i : Nat) : HO := .ext fun h => h.IsTupleIter it t i
def OddO (it : Addr) : HO := .ext fun h => ∃ o, h.get? it = some o
section
variable {P : Program} {w : World} {H : Hp} {h : Heap} {t it : Addr} {i : Nat}
theorem tit_ok (e : h.IsTupleIter it t i) : ObjOk P w H h it (TitO t it i) := by
  obtain ⟨o, ho, r⟩ := e
  exact ⟨⟨o, ho, r⟩, ⟨o, ho⟩, fun h1 h2 ⟨o', q, r'⟩ k => ⟨o', k _ q, r'⟩⟩
theorem odd_ok (e : ∃ o, h.get? it = some o) : ObjOk P w H h it (OddO it) := ⟨e, e, fun h1 h2 ⟨o', q⟩ k => ⟨o', k _ q⟩⟩
end
section
variable {X : Cx} {pins : List (Addr × Obj)} {σ : L2.St} {H : Hp} {s : Shared} {t it q a : Addr} {i : Nat} {ys : List V}
/-- iter(t), t a tuple -/
def rIterT (K : PySem.W.Frag) : List V → Hp → VK → Prop := fun xs H Q => ∃ (t : Addr) (ys : List V), xs = [.ref t] ∧ SqT K H t ys ∧ ∀ it, H it = none → Q (.ref it) (upd H it (TitO t it 0))
theorem isTuple_of {h : Heap} {a : Addr} {items : Array Value} (x : IsTup h a items) : h.IsTuple a items := by
  obtain ⟨o, h1, h2, h3⟩ := x
  exact ⟨o, h1, h2, by first | exact h3 | exact h3.2⟩
theorem call_iterT : CallR X (.builtin "iter") (rIterT X.K) := by
  intro pins s σ H xs us Q I r h
  obtain ⟨t, ys, rfl, hq, q⟩ := h
  obtain rfl := Vals.ref1 r
  obtain ⟨its, rv, pl, hz⟩ := I.tuple hq
  refine Calls.call_function_entry (by decide +kernel) (by decide +kernel) PySem.W.kdk_entry_iter (PySem.W.kdk_args_iter _) ?_
  unfold Builtin.«iter»
  refine wpAny_bind (m := someArgs "iter" 1 2 _) (wpAny_of_eq (a := [Value.ref t]) (by first | rfl | kernel_rfl!) ?_)
  show wpAny _ _ (pyIter (.ref t) >>= _) _ _ _
  refine wpAny_bind (wpAny_pyIter_tuple (isTuple_of pl) ?_)
  refine wpAny_pure ⟨_, rfl, ?_⟩
  have nw : H s.heap.objs.size = none := I.hok.fresh (Nat.le_refl _)
  refine ⟨.ref s.heap.objs.size, _, I.laid (t' := s.toks) (fun b u e => Heap.get?_push_of_some _ e) (Nat.le_refl _) (tit_ok ⟨_, Heap.get?_push_size _ rfl, rfl, rfl⟩), rfl, q _ nw⟩

theorem take_one {α : Type} : ∀ {l : List α} {i : Nat} (h : i < l.length), l.take (i + 1) = l.take i ++ [l[i]]
  | a :: l, 0, _ => rfl
  | a :: l, i + 1, h => by
    have h' : i < l.length := Nat.lt_of_succ_lt_succ h
    have ih := take_one (l := l) (i := i) h'
    show a :: l.take (i + 1) = (a :: l.take i) ++ [l[i]'h']
    rw [ih]
    rfl
/-- what is known stays known, but for the iterator and the list -/
def But (q it : Addr) (H H' : Hp) : Prop := ∀ b o, b ≠ q → b ≠ it → H b = some o → H' b = some o
theorem drain {A1 : Around} {Rs : Result → Shared → Prop} (hh : A1.in1.handled = none) (hqi : q ≠ it) (hqt : q ≠ t) (hti : t ≠ it) (H0 : Hp)
    (hys : ys.length < sizeLine) (ht0 : SqT X.K H0 t ys)
    (hdone : ∀ H' s', Inv X pins σ H' s' → But q it H0 H' → H' q = some (.lst ys) → H' it = some (OddO it) → Rs (.ok (.ret .none)) s') :
    ∀ (m i : Nat) (H : Hp) (s : Shared), m + i = ys.length → Inv X pins σ H s → But q it H0 H → H it = some (TitO t it i) → H q = some (.lst (ys.take i)) →
      codeAny (model X.prog X.w) A1 (.builtin "list.extend.loop" ⟨[.ref q, .ref it, .none], []⟩) Rs s := by
  intro m
  induction m with
  | zero =>
    intro i H s hi I hB hit hq
    have ht : SqT X.K H t ys := by
      rcases ht0 with (z | ⟨o, z⟩) | z
      · exact .inl (.inl (hB _ _ hqt.symm hti z))
      · exact .inl (.inr ⟨o, hB _ _ hqt.symm hti z⟩)
      · exact .inr z
    obtain ⟨its, rv, pl, hz⟩ := I.tuple ht
    refine codeAny_builtin PySem.F.entry_extend_loop ?_
    rw [Around.under_plainId PySem.F.plain_extend_loop _]
    show wpAny _ A1.in1 (pyNext (.ref it) >>= _) _ _ s
    have hx : its.toArray[i]? = none := by
      have e := rv.length
      rw [List.getElem?_toArray, List.getElem?_eq_none_iff]
      omega
    have T : s.heap.IsTupleIter it t i := (I.hok it _ hit).1
    refine wpAny_bind (PySem.tuple_next_end (items := its.toArray) hh T (isTuple_of pl) hx ?_)
    intro h' keep ex
    have J : Inv X pins σ (upd H it (OddO it)) { s with heap := h' } := by
      refine I.write (t' := s.toks) (x := it) (e := it) (by rw [hit]; exact True.intro) (.inl rfl) (fun b u hb hu => keep b u hb hu) ex (odd_ok ex)
    refine wpAny_pure (hdone _ _ J ?_ ?_ upd_same)
    · intro b o h1 h2 e
      rw [upd_ne h2]
      exact hB b o h1 h2 e
    · rw [upd_ne hqi, hq, List.take_of_length_le (by omega)]
  | succ m ih =>
    intro i H s hi I hB hit hq
    have ht : SqT X.K H t ys := by
      rcases ht0 with (z | ⟨o, z⟩) | z
      · exact .inl (.inl (hB _ _ hqt.symm hti z))
      · exact .inl (.inr ⟨o, hB _ _ hqt.symm hti z⟩)
      · exact .inr z
    obtain ⟨its, rv, pl, hz⟩ := I.tuple ht
    have hlt : i < ys.length := by omega
    obtain ⟨u, hu, ru⟩ := rv.get (List.getElem?_eq_getElem hlt)
    refine codeAny_builtin PySem.F.entry_extend_loop ?_
    rw [Around.under_plainId PySem.F.plain_extend_loop _]
    show wpAny _ A1.in1 (pyNext (.ref it) >>= _) _ _ s
    have T : s.heap.IsTupleIter it t i := (I.hok it _ hit).1
    refine wpAny_bind (wpAny_pyNext_tuple_item (items := its.toArray) T (isTuple_of pl) (by rw [List.getElem?_toArray]; exact hu) ?_)
    intro h' T' same
    have ex : ∃ o, h'.get? it = some o := by
      obtain ⟨o, ho, _⟩ := T'
      exact ⟨o, ho⟩
    have J : Inv X pins σ (upd H it (TitO t it (i + 1))) { s with heap := h' } :=
      I.write (t' := s.toks) (x := it) (e := it) (by rw [hit]; exact True.intro) (.inl rfl) (fun b u hb hu => (same.2 b hb).trans hu) ex (tit_ok T')
    have hq' : upd H it (TitO t it (i + 1)) q = some (.lst (ys.take i)) := by rw [upd_ne hqi]; exact hq
    obtain ⟨z, its2, n2, r2, hl2, e2⟩ := J.lstM hq'
    have l2 : its2.length ≤ i := by rw [← hl2, List.length_take]; omega
    show wpAny _ A1.in1 (updateSeq q (·.push u) >>= _) _ _ _
    refine wpAny_bind (wpAny_updateSeq e2 rfl (wpAny_pure ⟨plainId_quiet PySem.F.plain_extend_loop _, ?_⟩) (by rw [List.size_toArray]; omega) (by show (its2.toArray.push u).size ≤ sizeLine + 1; rw [Array.size_push, List.size_toArray]; omega))
    have tk : ys.take (i + 1) = ys.take i ++ [ys[i]] := take_one hlt
    have J2 := J.lset (f := (·.push u)) (its' := its2 ++ [u]) (ys := ys.take i ++ [ys[i]]) (t' := s.toks) hq' e2 (List.push_toArray its2 u) (r2.append (.cons ru .nil)) (by rw [List.length_append, List.length_singleton, List.length_take]; omega)
    refine ih (i + 1) _ _ (by omega) J2 ?_ ?_ (by rw [tk, upd_same])
    · intro b o h1 h2 e
      rw [upd_ne h1, upd_ne h2]
      exact hB b o h1 h2 e
    · rw [upd_ne hqi.symm, upd_same]

/-- the list's room is made -/
theorem touched {q : Addr} {A : Around} {R : Unit → Shared → Prop} {E : Value → Shared → Prop} (I : Inv X pins σ H s) (hq : H q = some (.lst []))
    (h : ∀ s', Inv X pins σ H s' → R () s') : wpAny (model X.prog X.w) A (Builtin.List.listTouch (.ref q)) R E s := by
  obtain ⟨z, its, k, r3, hl3, e3⟩ := I.lstM hq
  cases r3
  show wpAny _ _ (updateSeq q (·.push .none) >>= fun _ => updateSeq q (·.pop)) _ _ _
  refine wpAny_bind (wpAny_updateSeq e3 rfl ?_)
  have I2 := I.lset (f := (·.push Value.none)) (its' := [Value.none]) (ys := [.non]) (t' := s.toks) hq e3 (by simp) (.cons rfl .nil) (by rw [List.length_singleton, sizeLine_eq]; decide)
  obtain ⟨z4, its4, k4, r4, hl4, e4⟩ := I2.lstM upd_same
  obtain ⟨u4, rfl, ru4⟩ := r4.one
  refine wpAny_updateSeq e4 rfl ?_ (by show 1 ≤ sizeLine; rw [sizeLine_eq]; decide) (by show 0 ≤ sizeLine + 1; exact Nat.zero_le _)
  have I3 := I2.lset (f := (·.pop)) (its := [u4]) (its' := []) (ys := []) (t' := s.toks) upd_same e4 (by rfl) .nil (Nat.zero_le _)
  rw [upd_upd] at I3
  have hH : upd H q (.lst []) = H := by
    funext b
    by_cases hb : b = q
    · rw [hb, upd_same, hq]
    · rw [upd_ne hb]
  rw [hH] at I3
  exact h _ I3

/-- a class whose instances hand on a tuple's iterator, and have a length -/
structure ItT (K : PySem.W.Frag) (C fi fl : Addr) : Prop where
  it : Meth K C "__iter__" fi
  ln : Meth K C "__len__" fl
/-- what its __iter__ promises: an iterator of the tuple that R tells; what its __len__ promises -/
def spIt (K : PySem.W.Frag) (R : Addr → Addr → List V → Hp → Prop) : Sp := fun vs H Q _ => ∃ a t ys, vs = [.ref a] ∧ R a t ys H ∧ SqT K H t ys ∧ ∀ it, H it = none → Q (.ref it) (upd H it (TitO t it 0))
def spLn (R : Addr → Addr → List V → Hp → Prop) : Sp := fun vs H Q _ => ∃ a t ys, vs = [.ref a] ∧ R a t ys H ∧ Q (.int (ys.length : Int)) H
/-- list(o) -/
def rListO (K : PySem.W.Frag) (C : Addr) (R : Addr → Addr → List V → Hp → Prop) : List V → Hp → VK → Prop := fun xs H Q =>
  ∃ a dx fs t ys, xs = [.ref a] ∧ H a = some (.ins C dx fs) ∧ (∀ H', (∀ b o, H b = some o → H' b = some o) → R a t ys H') ∧ SqT K H t ys ∧ ys.length < sizeLine ∧
    ∀ q H', (∀ b o, H b = some o → H' b = some o) → H q = none → H' q = some (.lst ys) → Q (.ref q) H'
theorem call_listO {C fi fl : Addr} {k : Nat} {fdI fdL : FuncData} {psI psL : List Str} {R : Addr → Addr → List V → Hp → Prop} (hc : ItT X.K C fi fl)
    (FI : FnOk X.prog X.w X.K X.mg X.base CX0 k fi fdI psI (spIt X.K R)) (bI : Binds X.K fdI psI []) (FL : FnOk X.prog X.w X.K X.mg X.base CX0 k fl fdL psL (spLn R)) (bL : Binds X.K fdL psL [])
    (hr : Room (k + 5) X.A) : CallR X (.type "list") (rListO X.K C R) := by
  intro pins s σ H xs us Q I rv h
  obtain ⟨a, dx, fs, t, ys, rfl, ha, hR, ht, hlen, hq⟩ := h
  obtain ⟨u, rfl, ru⟩ := rv.one
  cases ru
  have rm2 : Room (k + 3) X.A.in1.in1 := (hr.in1).in1
  have sb : Sub X (k + 3) X.A.in1.in1 := Sub.in1 (Sub.in1 (⟨hr, rfl⟩ : Sub X (k + 5) X.A))
  refine callType_codes (Q₁ := fun obj s₁ => obj = .ref s.heap.objs.size ∧ s₁ = { s with heap := s.heap.push { cls := .type "list", data := .seq #[] } }) PySem.F.called_list (PySem.F.typeCall_list_1 _) PySem.F.entry_list_init
    (code_list_new _ ⟨rfl, rfl⟩) ?_
  intro obj s₁ h₁
  obtain ⟨rfl, rfl⟩ := h₁
  have hS : (s.heap.push { cls := .type "list", data := .seq #[] }).get? s.heap.objs.size = some { cls := .type "list", data := .seq #[] } := Heap.get?_push_size _ rfl
  refine ⟨⟨_, hS, rfl⟩, PySem.F.args_list_init_2 _ _, ?_⟩
  have fr : H s.heap.objs.size = none := I.hok.fresh (Nat.le_refl _)
  have I1 : Inv X pins σ (upd H s.heap.objs.size (.lst [])) { s with heap := s.heap.push { cls := .type "list", data := .seq #[] } } := I.lnew (its := []) (t' := s.toks) .nil (Nat.zero_le _)
  generalize hqq : s.heap.objs.size = q at *
  show wpAny _ _ (do let old ← Builtin.List.listItems (.ref q); Builtin.List.listUpdate (.ref q) (fun _ => #[]); letGo old.toList.reverse; Builtin.List.listExtendWith (.ref q) (.ref a) .none) _ _ _
  refine wpAny_bind ?_
  unfold Builtin.List.listItems
  refine wpAny_bind (wpAny_seqItems hS rfl (wpAny_pure ?_))
  show wpAny _ _ (updateSeq q (fun _ => #[]) >>= fun _ => letGo (#[] : Array Value).toList.reverse >>= fun _ => Builtin.List.listExtendWith (.ref q) (.ref a) .none) _ _ _
  refine wpAny_bind (wpAny_updateSeq hS rfl ?_)
  have I2 := I1.lset (f := fun _ => #[]) (its := []) (its' := []) (ys := []) (t' := s.toks) upd_same hS rfl .nil (Nat.zero_le _)
  rw [upd_upd] at I2
  refine wpAny_bind (wpAny_letGo ?_)
  have H2ext : ∀ b o, H b = some o → upd H q (.lst []) b = some o := fun b o e => by
    rw [upd_ne (ne_of_none e fr)]
    exact e
  have ha2 := H2ext _ _ ha
  have hq2 : upd H q (.lst []) q = some (.lst []) := upd_same
  have ht2 : SqT X.K (upd H q (.lst [])) t ys := ht.ext H2ext
  generalize hH2 : upd H q (.lst []) = H2 at *
  have hne : q ≠ a := ne_of hq2 ha2 (fun z => nomatch z)
  obtain ⟨od, J⟩ := seen I2 ha2
  obtain ⟨m0, hF⟩ := I2.fr
  unfold Builtin.List.listExtendWith
  refine wpAny_bind (J.type.here ?_)
  have h1 : Builtin.List.listSameRef (.ref q) (.ref a) = false := by simp [Builtin.List.listSameRef, hne]
  have h2 : (Value.ref C == Value.type "list") = false := rfl
  have h3 : (Value.ref C == Value.type "tuple") = false := rfl
  simp only [h1, h2, h3, Bool.or_false, Bool.false_eq_true, if_false]
  refine wpAny_bind (PySem.W.owit_iter hF I2.ok.mod.kin J hc.it.at_ hc.it.fn ?_)
  have e0 : Env0 X.prog X.w X.K X.mg X.base X.A.in1.in1 X.stack _ H2 := I2.env0.in1.in1
  have room : Room k X.A.in1.in1 := rm2.mono (by omega)
  have hspI : spIt X.K R [.ref a] H2 (fun v H' => ∃ it, v = .ref it ∧ H2 it = none ∧ H' = upd H2 it (TitO t it 0)) E0 := ⟨a, t, ys, rfl, hR _ H2ext, ht2, fun it n => ⟨it, rfl, n, rfl⟩⟩
  have hl := FI.len _ _ _ _ hspI
  have r2 : Vals [V.ref a] [Value.ref a] := .cons rfl .nil
  refine wpAny_call (codeAny_mono (FI.run X.A.in1.in1 X.stack _ H2 ⟨[.ref a], []⟩ [.ref a] [.ref a] _ E0 room e0 (by
    have := bI _ [.ref a] I2.kIn (by simpa using hl)
    simpa using this) r2 hspI) ?_)
  intro r s' hq'
  match r, hq' with
  | .error e, hq' => exact hq'.elim
  | .ok .next, hq' => exact False.elim hq'
  | .ok .brk, hq' => exact False.elim hq'
  | .ok .cont, hq' => exact False.elim hq'
  | .ok (.ret u), hq' =>
    obtain ⟨v, H3, I3, rv3, it, rfl, itn, rfl⟩ := I2.after hq'
    cases rv3
    have hit : upd H2 it (TitO t it 0) it = some (TitO t it 0) := upd_same
    have T : s'.heap.IsTupleIter it t 0 := (I3.hok it _ hit).1
    have E3 : ∀ b o, H b = some o → upd H2 it (TitO t it 0) b = some o := fun b o e => by
      rw [upd_ne (ne_of_none (H2ext _ _ e) itn)]
      exact H2ext _ _ e
    have ha3 := E3 _ _ ha
    have hqi : q ≠ it := ne_of_none hq2 itn
    have hq3 : upd H2 it (TitO t it 0) q = some (.lst []) := by
      rw [upd_ne hqi]
      exact hq2
    have ht3 : SqT X.K (upd H2 it (TitO t it 0)) t ys := ht.ext E3
    have hqt : q ≠ t := by
      intro z
      subst z
      rcases ht with (z | ⟨o, z⟩) | ⟨o, its, n, z, hcls, _⟩
      · rw [fr] at z
        cases z
      · rw [fr] at z
        cases z
      · obtain ⟨_, its2, n2, _, _, e2⟩ := I2.lstM hq2
        have e3 := I2.kIn _ _ z
        rw [e2] at e3
        cases (Option.some.inj e3)
        exact absurd (Value.type.inj hcls) (by decide)
    have hti : t ≠ it := by
      intro z
      subst z
      rcases ht2 with (z | ⟨o, z⟩) | ⟨o, its, n, z, hcls, _⟩
      · rw [itn] at z
        cases z
      · rw [itn] at z
        cases z
      · obtain ⟨o2, e2, c2, _⟩ := T
        have e3 := I3.kIn _ _ z
        rw [e2] at e3
        cases (Option.some.inj e3)
        rw [c2] at hcls
        exact absurd (Value.type.inj hcls) (by decide)
    refine wpAny_specialOf (Heap.IsTupleIter.typeIs T) PySem.F.slot_tuple_iterator_next.lookup ?_
    have loop : ∀ s4, Inv X pins σ (upd H2 it (TitO t it 0)) s4 → codeAny (model X.prog X.w) X.A.in1 (.builtin "list.extend.loop" ⟨[.ref q, .ref it, .none], []⟩)
        (wants (fun r s₂ => r = Value.none ∧ EP X pins σ Q (Value.ref q) s₂) X.xe) s4 := by
      intro s4 I4
      refine drain (A1 := X.A.in1) rm2.hd hqi hqt hti (upd H2 it (TitO t it 0)) hlen ht3 ?_ ys.length 0 _ s4 rfl I4 (fun b o _ _ e => e) hit (by rw [List.take_zero]; exact hq3)
      intro H' s5 I5 hB5 hq5 _
      refine ⟨rfl, .ref q, H', I5, rfl, hq q H' ?_ fr hq5⟩
      intro b o e
      have nq : b ≠ q := ne_of_none e fr
      have ni : b ≠ it := ne_of_none (H2ext _ _ e) itn
      exact hB5 b o nq ni (E3 _ _ e)
    have fin : ∀ s4, Inv X pins σ (upd H2 it (TitO t it 0)) s4 → wpAny (model X.prog X.w) X.A.in1.in1 (again (.builtin "list.extend.loop" ⟨[.ref q, .ref it, .none], []⟩))
        (fun fin s' => match fin with | .done f => wants (fun r s₂ => r = Value.none ∧ EP X pins σ Q (Value.ref q) s₂) X.xe (.ok f) s' | .again c' => c'.quiet = true ∧ codeAny (model X.prog X.w) X.A.in1 c' (wants (fun r s₂ => r = Value.none ∧ EP X pins σ Q (Value.ref q) s₂) X.xe) s')
        (fun e s' => wants (fun r s₂ => r = Value.none ∧ EP X pins σ Q (Value.ref q) s₂) X.xe (.error e) s') s4 := by
      intro s4 I4
      exact wpAny_pure ⟨plainId_quiet PySem.F.plain_extend_loop _, loop s4 I4⟩
    refine wpAny_bind (wpAny_holding ?_)
    obtain ⟨od3, J3⟩ := seen I3 ha3
    obtain ⟨m3, hF3⟩ := I3.fr
    unfold Builtin.List.listLengthHint
    refine wpAny_bind (wpAny_bind (J3.type.here ((PySem.W.looks_findIn I3.kIn hc.ln.at_).here ?_)))
    refine PySem.W.KFB.if_not rfl ?_
    refine PySem.W.KFB.if_so rfl ?_
    refine wpAny_bind (wpAny_rule ?_)
    refine wpAny_bind (m := (call (.builtin "len") [Value.ref a]).attempt) (wpAny_attempt ?_)
    refine PySem.W.len_K hF3 I3.ok.mod.kin J3 hc.ln.at_ hc.ln.fn ?_
    have hspL : spLn R [.ref a] (upd H2 it (TitO t it 0)) (fun v H' => v = .int (ys.length : Int) ∧ H' = upd H2 it (TitO t it 0)) E0 := ⟨a, t, ys, rfl, hR _ E3, rfl, rfl⟩
    have hlL := FL.len _ _ _ _ hspL
    refine wpAny_call (codeAny_mono (FL.run X.A.in1.in1.in1 X.stack _ _ ⟨[.ref a], []⟩ [.ref a] [.ref a] _ E0 (rm2.in1.mono (by omega)) I3.env0.in1.in1.in1 (by
      have := bL _ [.ref a] I3.kIn (by simpa using hlL)
      simpa using this) r2 hspL) ?_)
    intro r4 s4 hq4
    match r4, hq4 with
    | .error e, hq4 => exact hq4.elim
    | .ok .next, hq4 => exact False.elim hq4
    | .ok .brk, hq4 => exact False.elim hq4
    | .ok .cont, hq4 => exact False.elim hq4
    | .ok (.ret u4), hq4 =>
      obtain ⟨v4, H4, I4, rv4, rfl, rfl⟩ := I3.after hq4
      obtain ⟨tk4, rfl⟩ := rv4
      have l63 := line63
      refine ⟨⟨Int.natCast_nonneg _, by omega⟩, ?_⟩
      show wpAny _ _ (asInt? (Value.int (ys.length : Int) s4.toks) >>= _) _ _ _
      refine wpAny_bind (wpAny_pure ?_)
      show wpAny _ _ (if Builtin.List.listTooLong (ys.length : Int).toNat = true then _ else _) _ _ _
      rw [if_neg (by rw [Int.toNat_natCast, notLongL (Nat.le_of_lt hlen)]; exact Bool.false_ne_true)]
      refine wpAny_pure ?_
      have I5 := I4.tok (s4.toks + 1)
      refine wpAny_ite_split (fun _ => ?_) (fun _ => fin _ I5)
      exact wpAny_bind (wpAny_rule (wpAny_bind (touched I5 hq3 fin)))
end
end Gd

set_option Elab.async false
set_option linter.all false
set_option maxRecDepth 100000
set_option maxHeartbeats 4000000
/-! bool(o) and != of own classes. -/
namespace PySem
section
variable {prog : Program} {w : World} {A : Around} {E : Value → Shared → Prop} {s : Shared}
theorem bool_new_any (x : Value) : MeetsIn prog w (Builtin.«bool.__new__» ⟨[.type "bool", x], []⟩) (fun A R s =>
    wpAny (model prog w) A.in1 (truthy x) (fun b s' => R (.ok (.ret (.bool b))) s') (fun e s' => R (.error e) s') s) := by
  intro A R s h
  have f1 := F.conv_sub_bool
  unfold Builtin.«bool.__new__»
  refine wpAny_bind (wpAny_of_eq (a := true) (by first | rfl | kernel_rfl) ?_)
  refine PySem.W.KFB.if_not rfl ?_
  refine wpAny_bind (wpAny_of_eq f1 ?_)
  refine PySem.W.KFB.if_not rfl ?_
  refine wpAny_bind (m := someArgs "bool" 0 1 _) (wpAny_of_eq (a := [x]) (by first | rfl | kernel_rfl!) ?_)
  refine wpAny_bind (wpAny_mono h (fun b s' q => ?_) fun _ _ z => z)
  exact wpAny_pure q
theorem call_bool_any {x : Value} {Q : Value → Shared → Prop}
    (h : wpAny (model prog w) A.in1.in1 (truthy x) (fun b s' => Q (.bool b) s') E s) : wpAny (model prog w) A (call (.type "bool") [x]) Q E s := by
  refine callType_newIn F.called_bool F.newNe_bool (F.typeCall_bool_1 x) (F.newCall_bool_1 x) (fun obj => F.args_object_init_2 obj x) F.entry_bool_new (bool_new_any x) ?_
  exact wpAny_mono h (fun b s' q => ⟨rfl, q⟩) fun _ _ z => z
end
end PySem

namespace HN2
open PySem PySem.Spec PyProof.Rows PySem.SeqAt
section
variable {prog : Program} {w : World} {A : Around} {E : Value → Shared → Prop} {s : Shared} {K : PySem.W.Frag} {x C f : Addr} {ox : Obj} {od : Option Obj} {y : Value}
theorem ne_entry (hu : A.units < cLine) (X : K.In s.heap) (I : PySem.W.InstAt s.heap x ox C od) (hs : PySem.W.findIn K (.ref C) "__eq__" = some (some (.ref f))) (hf : PySem.W.isFn K (.ref f) = true) {Q : Fin → Shared → Prop}
    (h : wpAny (model prog w) A (call (.ref f) [.ref x, y]) (fun v s' => ∃ b, v = .bool b ∧ Q (.done (.ret (.bool (!b)))) s') E s) :
    wpAny (model prog w) A (Builtin.«object.__ne__» ⟨[.ref x, y], []⟩) Q E s := by
  unfold Builtin.«object.__ne__»
  refine wpAny_bind (m := slotArgs "__ne__" 1 _) (wpAny_of_eq (a := (Value.ref x, [y])) (by first | rfl | kernel_rfl!) ?_)
  refine wpAny_bind (wpAny_cRoomFor hu ?_)
  refine wpAny_bind (m := callSpecialIfBound? (.ref x) (Str.ofString "__eq__") [y]) (PySem.W.ifBound_K X I hs hf (wpAny_mono h (fun v s' z => ?_) fun _ _ z => z))
  obtain ⟨b, rfl, q⟩ := z
  exact wpAny_bind (wpAny_truthy_bool (wpAny_pure q))
theorem ifBound_ne {M : Model} {args : List Value} {Q : Option Value → Shared → Prop} (X : K.In s.heap) (I : PySem.W.InstAt s.heap x ox C od) (hs : PySem.W.findIn K (.ref C) "__ne__" = some (some (.builtin "object.__ne__")))
    (h : wpAny M A (call (.builtin "object.__ne__") (.ref x :: args)) (fun v => Q (some v)) E s) : wpAny M A (callSpecialIfBound? (.ref x) "__ne__" args) Q E s := by
  simp only [callSpecialIfBound?, bindSpecialIfBound?]
  refine wpAny_holding (wpAny_bind (wpAny_bind (wpAny_bind (I.type.here ((PySem.W.looks_findIn X hs).here ?_)))))
  refine wpAny_bind (wpAny_askSetting (wpAny_ite ?_))
  have last : wpAny M A (call (.builtin "object.__ne__") ([.ref x] ++ args) >>= fun v => pure (some v)) Q E s :=
    wpAny_bind (wpAny_mono h (fun v s' h' => wpAny_pure h') fun _ _ h' => h')
  split
  · exact wpAny_bind (wpAny_of_eq (F.cmp_object.ne.bind _) (wpAny_pure (by exact last)))
  · exact wpAny_tryCatch (wpAny_bind (wpAny_of_eq (F.cmp_object.ne.bind _) (wpAny_pure (by exact last))))
theorem rich_ne {tb : Value} {Q : Value → Shared → Prop} (hu : A.units + 1 < cLine) (X : K.In s.heap) (I : PySem.W.InstAt s.heap x ox C od) (hb : PySem.W.Looks (model prog w) s.heap (typeOf y) tb)
    (hn : PySem.W.notFirst K C tb = true) (hne : PySem.W.findIn K (.ref C) "__ne__" = some (some (.builtin "object.__ne__"))) (ho : PySem.W.mroIn K C (.type "object") = some true)
    (hs : PySem.W.findIn K (.ref C) "__eq__" = some (some (.ref f))) (hf : PySem.W.isFn K (.ref f) = true)
    (h : wpAny (model prog w) A.in1 (call (.ref f) [.ref x, y]) (fun v s' => ∃ b, v = .bool b ∧ Q (.bool (!b)) s') E s) :
    wpAny (model prog w) A (richCompare .NotEq (.ref x) y) Q E s := by
  have one : wpAny (model prog w) A (tryCompare (.ref x) "__ne__" y) (fun r s' => ∃ v, r = some v ∧ Q v s') E s := by
    unfold tryCompare
    refine wpAny_bind (ifBound_ne X I hne (wpAny_call (codeAny_call_builtin F.cmp_object.ne.plain F.cmpEntry_ne (PySem.W.check_slot F.cmpKind_ne F.cmpSplit_ne (I.type.andThen (PySem.W.looks_mroIn X ho)) (F.cmpArgs_ne _ _)
      (ne_entry (A := A.in1) (by show A.units + 1 < cLine; exact hu) X I hs hf (wpAny_mono h (fun v s' z => ?_) fun _ _ z => z))))))
    obtain ⟨b, rfl, q⟩ := z
    exact ⟨b, rfl, wpAny_pure ⟨_, rfl, q⟩⟩
  unfold richCompare
  simp only [oneThing_ref]
  refine wpAny_holding (wpAny_bind (wpAny_cRoomFor (Nat.lt_of_succ_lt hu) ?_))
  rw [cmpInfo_NotEq]
  dsimp only
  refine wpAny_bind (I.type.here (wpAny_bind (hb.here ?_)))
  split
  · rename_i q
    have e : PySem.W.subIn K tb (.ref C) = some false := by
      rcases Bool.or_eq_true_iff.mp hn with e | e
      · rw [beq_iff_eq.mp e] at q
        simp at q
      · exact beq_iff_eq.mp e
    refine wpAny_bind ((PySem.W.looks_subIn X e).here ?_)
    simp only [Bool.false_eq_true, if_false]
    refine wpAny_bind (m := tryCompare (.ref x) _ y) (wpAny_mono one (fun r s' z => ?_) fun _ _ e => e)
    obtain ⟨v, rfl, hq⟩ := z
    exact wpAny_pure hq
  · refine wpAny_bind (wpAny_pure ?_)
    simp only [Bool.false_eq_true, if_false]
    refine wpAny_bind (m := tryCompare (.ref x) _ y) (wpAny_mono one (fun r s' z => ?_) fun _ _ e => e)
    obtain ⟨v, rfl, hq⟩ := z
    exact wpAny_pure hq
end
end HN2

namespace Gd
open PySem PySem.Spec PyProof.Rows L2
section
variable {X : Cx} {CX : CXT} {k : Nat} {f C : Addr} {fd : FuncData} {ps : List Str} {sp : Sp}
/-- what != of a class with an own == asks of the class -/
structure NeC (K : PySem.W.Frag) (C : Addr) : Prop where
  ne : PySem.W.findIn K (.ref C) "__ne__" = some (some (.builtin "object.__ne__"))
  ob : PySem.W.mroIn K C (.type "object") = some true
def rNeO (K : PySem.W.Frag) (C : Addr) (sp : Sp) (E : XK) : R2 := fun x y H Q => ∃ p dx fs t, x = .ref p ∧ H p = some (.ins C dx fs) ∧
  TyX K H y t ∧ PySem.W.notFirst K C t = true ∧ sp [x, y] H (fun v H' => ∃ c, v = .bl c ∧ Q (.bl (!c)) H') E
theorem op_neO {E : XK} (hn : NeC X.K C) (hm : Meth X.K C "__eq__" f) (F : FnOk X.prog X.w X.K X.mg X.base CX k f fd ps sp) (hr : Room (k + 1) X.A)
    (hb : Binds X.K fd ps []) (hx : ∀ σ, PassesAt CX X σ E) : OpR X (compareOp .NotEq) (rNeO X.K C sp E) := by
  intro pins s σ H x y v u Q I rx ry h
  obtain ⟨p, dx, fs, t, rfl, ep, ty, hnf, hsp⟩ := h
  cases rx
  obtain ⟨od, J⟩ := seen I ep
  obtain ⟨P, Z, hP, _⟩ := kit_of I ry ty
  show wpAny _ _ (richCompare .NotEq _ _) _ _ _
  refine HN2.rich_ne (hu_of hr) I.kIn J (Z.ty _ _ I.kIn hP) hnf hn.ne hn.ob hm.at_ hm.fn ?_
  refine wpAny_mono (runAt (.inr rfl) F hr hb .nil (hx σ) I (.cons (show RelV (V.ref p) (Value.ref p) from rfl) (.cons ry .nil)) hsp) ?_ (fun _ _ z => z)
  rintro w s' ⟨z, H', I', rz, c, rfl, q⟩
  cases rz
  exact ⟨c, rfl, .bl (!c), H', I', rfl, q⟩
/-- bool(o) -/
def rBoolO (C : Addr) (sp : Sp) (E : XK) : List V → Hp → VK → Prop := fun xs H Q => ∃ p dx fs, xs = [.ref p] ∧ H p = some (.ins C dx fs) ∧
  sp [.ref p] H (fun v H' => ∃ c, v = .bl c ∧ Q (.bl c) H') E
theorem call_boolO {E : XK} (hm : Meth X.K C "__bool__" f) (F : FnOk X.prog X.w X.K X.mg X.base CX k f fd ps sp) (hr : Room (k + 2) X.A)
    (hb : Binds X.K fd ps []) (hx : ∀ σ, PassesAt CX X σ E) : CallR X (.type "bool") (rBoolO C sp E) := by
  intro pins s σ H xs us Q I r h
  obtain ⟨p, dx, fs, rfl, ep, hsp⟩ := h
  obtain ⟨u, rfl, hu1⟩ := vals1 r
  cases hu1
  obtain ⟨od, J⟩ := seen I ep
  obtain ⟨m, hF⟩ := I.fr
  refine call_bool_any (PySem.W.truthy_K hF I.ok.mod.kin J hm.at_ hm.fn ?_)
  have hl := F.len _ _ _ _ hsp
  refine wpAny_call (codeAny_mono (F.run X.A.in1.in1 X.stack s H ⟨[.ref p], []⟩ [.ref p] [.ref p] _ E hr.in1.in1 I.env0.in1.in1 (by
    have := hb s [.ref p] I.kIn (by simpa using hl)
    simpa using this) (.cons (show RelV (V.ref p) (Value.ref p) from rfl) .nil) hsp) ?_)
  intro r s' hq
  match r, hq with
  | .error e, hq => exact hx σ pins H s e s' I hq
  | .ok .next, hq => exact False.elim hq
  | .ok .brk, hq => exact False.elim hq
  | .ok .cont, hq => exact False.elim hq
  | .ok (.ret u), hq =>
    obtain ⟨v, H', I', rv, c, rfl, q⟩ := I.after hq
    cases rv
    exact ⟨.bl c, H', I', rfl, q⟩
end
end Gd

set_option Elab.async false
set_option linter.all false
set_option maxRecDepth 100000
set_option maxHeartbeats 4000000
/-! A tuple times 0 or 1. -/
namespace Gd
open PySem PySem.Spec PyProof.Rows L2
theorem tuple_mul1 (l : Addr) (items : Array Value) (n : Nat) (dd : Option Addr) (sl : Array (Option Value)) (u : Tok) :
    Meets (Builtin.«tuple.__mul__» ⟨[.ref l, .int 1 u], []⟩) (fun _ R s => s.heap.get? l = some { cls := .type "tuple", dict := dd, data := .seq items n, slots := sl } ∧
      R (.ok (.ret (Value.ref l))) s) :=
  .of_wp fun prog w A R s h => by
    obtain ⟨hp, g, d, tk, os⟩ := s
    obtain ⟨hl, h⟩ := h
    have f1 := AutoSeq1.idx_int
    have c1 : (items.isEmpty || (1 : Int) == 1) = true := by simp
    wp_walk using wpAny_loadPart' hl
    repeat (first
      | (refine wpAny_ite_true (decide_eq_true c1) ?_; wp_walk using wpAny_loadPart' hl))
    exact ⟨_, rfl, h⟩

theorem tuple_mul0 (l : Addr) (items : Array Value) (n : Nat) (dd : Option Addr) (sl : Array (Option Value)) (u : Tok) (ne : items.isEmpty = false) :
    Meets (Builtin.«tuple.__mul__» ⟨[.ref l, .int 0 u], []⟩) (fun _ R s => s.heap.get? l = some { cls := .type "tuple", dict := dd, data := .seq items n, slots := sl } ∧
      R (.ok (.ret (Value.ref s.heap.objs.size))) { s with heap := s.heap.push { cls := Value.type "tuple", data := Data.seq #[] }, toks := s.toks }) :=
  .of_wp fun prog w A R s h => by
    obtain ⟨hp, g, d, tk, os⟩ := s
    obtain ⟨hl, h⟩ := h
    have f1 := AutoSeq1.idx_int
    have c1 : ¬ (items.isEmpty || (0 : Int) == 1) = true := by rw [ne]; decide
    have c2 : (decide ((0 : Int) ≤ 0) || items.isEmpty) = true := by simp
    wp_walk using wpAny_loadPart' hl
    repeat (first
      | (refine wpAny_ite_false (decide_eq_false c1) ?_; wp_walk using wpAny_loadPart' hl)
      | (refine wpAny_ite_true (decide_eq_true c2) ?_; wp_walk using wpAny_loadPart' hl))
    exact ⟨_, rfl, h⟩
def rRepA (K : PySem.W.Frag) : R2 := fun x y H Q => ∃ l k xs, x = .ref l ∧ y = .int k ∧ SqT K H l xs ∧ xs ≠ [] ∧ 0 ≤ k ∧ k ≤ 1000 ∧ xs.length ≤ 1000 ∧
  (k = 1 → Q (.ref l) H) ∧ (k ≠ 1 → ∀ p, H p = none → Q (.ref p) (upd H p (.tup (List.replicate k.toNat xs).flatten)))
section
variable {X : Cx}
theorem op_repA : OpR X (binaryOp .Mult) (rRepA X.K) := by
  intro pins s σ H x y v u Q I rx ry h
  obtain ⟨l, k, xs, rfl, rfl, hT, hne, h1, h2, hz, q1, q2⟩ := h
  by_cases big : 2 ≤ k
  · exact op_repT pins s σ H _ _ v u Q I rx ry ⟨l, k, xs, rfl, rfl, hT, hne, big, h2, hz, q2 (by omega)⟩
  cases rx
  obtain ⟨t, rfl⟩ := ry
  obtain ⟨its, r, ⟨⟨cls, dd, data, sl⟩, ho, hc, n, hd⟩, hs⟩ := I.tuple hT
  simp only at hc hd
  subst hc hd
  have hle : its.length = xs.length := r.length.symm
  have hi : its.toArray.isEmpty = false := by
    cases its with
    | nil => exact absurd (List.eq_nil_of_length_eq_zero hle.symm) hne
    | cons a b => rfl
  have hk : k = 0 ∨ k = 1 := by omega
  rcases hk with rfl | rfl
  · refine wpAny_binaryOp_repeat_ref (T := "tuple") (U := "int") (by decide) ⟨_, ho, rfl⟩ (fun s' => typeIs_int s' 0 t) noFill_tuple_mul F.fills_int_mul F.slot_int_rmul repeat_tuple F.slot_int_index.lookup
      (call_meets F.slot_int_rmul (typeIs_int s 0 t) F.entry_int_rmul (F.args_int_rmul_2 _ _) (int_rmul_tuple 0 t l its.toArray n dd sl)
        ⟨ho, rfl, ⟨_, ho, rfl⟩, call_meets F.slot_tuple_mul ⟨_, ho, rfl⟩ F.entry_tuple_mul (F.args_tuple_mul_2 _ _) (tuple_mul0 l its.toArray n dd sl t hi) ⟨ho, ?_⟩⟩)
    have q := q2 (by decide) _ (I.hok.fresh (Nat.le_refl _))
    refine ⟨.ref s.heap.objs.size, _, I.laid (t' := s.toks) (o := .tup (List.replicate (0 : Int).toNat xs).flatten) (fun b ob q => Heap.get?_push_of_some _ q) (Nat.le_refl _) ?_, rfl, q⟩
    exact ⟨Nat.zero_le _, [], .nil, IsTup.new _ _⟩
  · refine wpAny_binaryOp_repeat_ref (T := "tuple") (U := "int") (by decide) ⟨_, ho, rfl⟩ (fun s' => typeIs_int s' 1 t) noFill_tuple_mul F.fills_int_mul F.slot_int_rmul repeat_tuple F.slot_int_index.lookup
      (call_meets F.slot_int_rmul (typeIs_int s 1 t) F.entry_int_rmul (F.args_int_rmul_2 _ _) (int_rmul_tuple 1 t l its.toArray n dd sl)
        ⟨ho, rfl, ⟨_, ho, rfl⟩, call_meets F.slot_tuple_mul ⟨_, ho, rfl⟩ F.entry_tuple_mul (F.args_tuple_mul_2 _ _) (tuple_mul1 l its.toArray n dd sl t) ⟨ho, ?_⟩⟩)
    exact ⟨.ref l, H, I, rfl, q1 rfl⟩
end
end Gd

set_option Elab.async false
set_option linter.all false
set_option maxRecDepth 100000
set_option maxHeartbeats 4000000
/-! A tuple many times. -/
namespace Gd
open PySem PySem.Spec PyProof.Rows L2
/-- t * k, t not empty, few values in all -/
def rRepB (K : PySem.W.Frag) : R2 := fun x y H Q => ∃ l k xs, x = .ref l ∧ y = .int k ∧ SqT K H l xs ∧ xs ≠ [] ∧ 0 ≤ k ∧ k ≤ 100000 ∧ xs.length ≤ 10 ∧
  (k = 1 → Q (.ref l) H) ∧ (k ≠ 1 → ∀ p, H p = none → Q (.ref p) (upd H p (.tup (List.replicate k.toNat xs).flatten)))
section
variable {X : Cx}
theorem op_repB : OpR X (binaryOp .Mult) (rRepB X.K) := by
  intro pins s σ H x y v u Q I rx ry h
  obtain ⟨l, k, xs, rfl, rfl, hT, hne, h1, h2, hz, q1, q2⟩ := h
  by_cases few : k ≤ 1
  · exact op_repA pins s σ H _ _ v u Q I rx ry ⟨l, k, xs, rfl, rfl, hT, hne, h1, by omega, by omega, q1, q2⟩
  have two : 2 ≤ k := by omega
  have q := q2 (by omega)
  clear q1 q2
  cases rx
  obtain ⟨t, rfl⟩ := ry
  obtain ⟨its, r, ⟨⟨cls, dd, data, sl⟩, ho, hc, n, hd⟩, hs⟩ := I.tuple hT
  simp only at hc hd
  subst hc hd
  have len : its.length = xs.length := r.length.symm
  have some_ : its.toArray.isEmpty = false := by
    cases its with
    | nil => exact absurd (List.eq_nil_of_length_eq_zero len.symm) hne
    | cons a b => rfl
  have sz : its.toArray.size = xs.length := by rw [List.size_toArray, len]
  have all_ : ((its.toArray.size : Nat) : Int) * k ≤ 1000000 := by
    rw [sz]
    have a1 : ((xs.length : Nat) : Int) * k ≤ 10 * k := Int.mul_le_mul_of_nonneg_right (by omega) (by omega)
    omega
  have many : k.toNat * xs.length ≤ 100000 * 10 := Nat.mul_le_mul (by omega) hz
  have flat_ : (List.replicate k.toNat its).flatten.length ≤ sizeLine := by
    rw [PyProof.Rows.lm_len_rep_flat, len, sizeLine_eq]
    omega
  have d0 : (decide (k < -(2 ^ 63)) || decide (k ≥ 2 ^ 63)) = false := by
    rw [decide_eq_false (by omega), decide_eq_false (by omega)]
    rfl
  have d1 : (its.toArray.isEmpty || k == 1) = false := by
    rw [some_, Bool.false_or]
    exact beq_eq_false_iff_ne.mpr (by omega)
  have d2 : (decide (k ≤ 0) || its.toArray.isEmpty) = false := by
    rw [some_, Bool.or_false]
    exact decide_eq_false (by omega)
  have d4 : Builtin.Tuple.tupleTooMany (((its.toArray.size : Nat) : Int) * k) = false := by
    unfold Builtin.Tuple.tupleTooMany
    rw [sizeLine_eq]
    exact decide_eq_false (by omega)
  have met := tuple_mulW l its.toArray n dd sl k t d0 d1 d2 (by omega) d4 (by rw [size_rep, List.size_toArray]; exact flat_)
  refine wpAny_binaryOp_repeat_ref (T := "tuple") (U := "int") (by decide) ⟨_, ho, rfl⟩ (fun s' => typeIs_int s' k t) noFill_tuple_mul F.fills_int_mul F.slot_int_rmul repeat_tuple F.slot_int_index.lookup
    (call_meets F.slot_int_rmul (typeIs_int s k t) F.entry_int_rmul (F.args_int_rmul_2 _ _) (int_rmul_tuple k t l its.toArray n dd sl)
      ⟨ho, rfl, ⟨_, ho, rfl⟩, call_meets F.slot_tuple_mul ⟨_, ho, rfl⟩ F.entry_tuple_mul (F.args_tuple_mul_2 _ _) met ⟨ho, ?_⟩⟩)
  rw [size_rep]
  refine ⟨.ref s.heap.objs.size, _, I.laid (t' := s.toks) (o := .tup (List.replicate k.toNat xs).flatten) (fun b ob q => Heap.get?_push_of_some _ q) (Nat.le_refl _) ?_, rfl, q _ (I.hok.fresh (Nat.le_refl _))⟩
  exact ⟨by rw [PyProof.Rows.lm_len_rep_flat, sizeLine_eq]; omega, _, r.rep k.toNat, IsTup.new _ _⟩
end
end Gd

set_option Elab.async false
set_option linter.all false
set_option maxRecDepth 100000
set_option maxHeartbeats 4000000
/-! enumerate(a tuple). -/
namespace HN4
open PySem PySem.Spec PyProof.Rows PySem.SeqAt
theorem meets_enum1 {v : Value} {o : Obj} {G : Heap → Prop} (B : Begins v o G) : Meets (Builtin.«enumerate.__new__» ⟨[.type "enumerate", v], []⟩) (fun _ R s => G s.heap ∧
    R (.ok (.ret (.ref (s.heap.push o).objs.size))) { s with heap := (s.heap.push o).push { cls := .type "enumerate", data := .fields #[.none, .bool false, .ref s.heap.objs.size, rawInt 0, .none, .none] } }) := by
  refine .of_wp fun prog w A R ⟨hp, g, d, tk, os⟩ hh => ?_
  obtain ⟨h1, h⟩ := hh
  have sb := sub_enumerate
  have it : ∀ {A' : Around} {E : Value → Shared → Prop} {Q : Value → Shared → Prop}, Q (.ref hp.objs.size) ⟨hp.push o, g, d, tk, os⟩ → wpAny (model prog w) A' (pyIter v) Q E ⟨hp, g, d, tk, os⟩ := fun q => B.iter prog w _ _ ⟨hp, g, d, tk, os⟩ _ h1 q
  wp_walk using it
  refine wpAny_stack_any fun st => wpAny_pure ?_
  split
  · rename_i c _ _ _ _ _
    cases (c == Value.type "enumerate") <;> (wp_walk using it; exact ⟨_, rfl, h⟩)
  · wp_walk using it
    exact ⟨_, rfl, h⟩
theorem begins_tup (t : Addr) (items : Array Value) : Begins (.ref t) { cls := .type "tuple_iterator", data := .fields #[.ref t, .int 0 0] } (fun h => h.IsTuple t items) where
  iter := fun prog w A E s Q ht hq => wpAny_pyIter_tuple ht hq
  keeps := fun h h' ht k => ht.at fun o e => k _ _ e
  free := rfl
section
variable {prog : Program} {w : World} {A : Around} {E : Value → Shared → Prop} {s : Shared}
theorem call_enumT {t : Addr} {items : Array Value} {Q : Value → Shared → Prop} (ht : s.heap.IsTuple t items)
    (h : ∀ h', IsEnum h' (s.heap.objs.size + 1) s.heap.objs.size 0 .none → h'.IsTupleIter s.heap.objs.size t 0 → (∀ b o, s.heap.get? b = some o → h'.get? b = some o) → Q (.ref (s.heap.objs.size + 1)) { s with heap := h' }) :
    wpAny (model prog w) A (call (.type "enumerate") [.ref t]) Q E s := by
  let o1 : Obj := { cls := .type "tuple_iterator", data := .fields #[.ref t, .int 0 0] }
  let o2 : Obj := { cls := .type "enumerate", data := .fields #[.none, .bool false, .ref s.heap.objs.size, rawInt 0, .none, .none] }
  have e1 : (s.heap.push o1).objs.size = s.heap.objs.size + 1 := Heap.size_push ..
  have e2 : ((s.heap.push o1).push o2).get? (s.heap.objs.size + 1) = some o2 := by
    have q := Heap.get?_push_size (s.heap.push o1) (o := o2) rfl
    rw [e1] at q
    exact q
  refine callType_new F.called_enumerate (by decide) (F.typeCall_enumerate_1 _) (F.newCall_enumerate_1 _) (fun obj => F.args_object_init_2 obj _) F.entry_enumerate_new (meets_enum1 (begins_tup t items)) ⟨ht, ?_⟩
  show _ ∧ _
  rw [e1]
  exact ⟨⟨_, e2, rfl⟩, h _ e2 ⟨_, Heap.get?_push_of_some _ (Heap.get?_push_size _ rfl), rfl, rfl⟩ fun b ob x => Heap.get?_push_of_some _ (Heap.get?_push_of_some _ x)⟩
end
end HN4
namespace Gd
open PySem PySem.Spec PyProof.Rows L2
/-- a tuple walked with its places: at each turn a new pair -/
def IteT (K : PySem.W.Frag) (t : Addr) : It where
  go := fun i H => ∃ (xs : List V) (x : V), SqT K H t xs ∧ xs[i]? = some x
  yld := fun i H v H' => ∃ T x, v = .ref T ∧ H T = none ∧ H' = upd H T (.tup [.int (i : Nat), x]) ∧ ∀ xs, SqT K H t xs → xs[i]? = some x
  stop := fun i H => ∃ xs : List V, SqT K H t xs ∧ xs.length = i
theorem tit_apart {h : Heap} {t it : Addr} {i : Nat} {items : Array Value} (a : h.IsTupleIter it t i) (b : h.IsTuple t items) : t ≠ it := by
  intro z
  subst z
  obtain ⟨o1, g1, c1, _⟩ := a
  obtain ⟨o2, g2, c2, _⟩ := b
  rw [g1] at g2
  cases g2
  rw [c1] at c2
  exact absurd c2 (by decide)
theorem enum_apart {h : Heap} {e it t : Addr} {k : Int} {old : Value} {items : Array Value} (a : IsEnum h e it k old) (b : h.IsTuple t items) : e ≠ t := by
  intro z
  subst z
  obtain ⟨o2, g2, c2, _⟩ := b
  have g1 : h.get? e = some _ := a
  rw [g1] at g2
  cases g2
  exact absurd c2 (by simp)
theorem turn_enumT {P : Program} {w : World} {K : PySem.W.Frag} {elts : List Expr} {kk : Nat} {tpos : Pos} (t e it : Addr) :
    Turn P w K (.Tuple elts kk tpos) (IteT K t) [e, it] e (fun i h => (∃ old, IsEnum h e it ((i : Nat) : Int) old) ∧ h.IsTupleIter it t i ∧ e ≠ it) where
  mem := List.mem_cons_self
  obj := by
    rintro i h ⟨⟨old, he⟩, ⟨o, ho, hc, hd⟩, _⟩ b hb
    rcases List.mem_cons.mp hb with rfl | hb
    · exact ⟨_, he, fun v q => nomatch q⟩
    · rw [List.mem_singleton.mp hb]
      refine ⟨o, ho, fun v q => ?_⟩
      rw [hd] at q
      cases q
  keep := by
    rintro i h h' ⟨⟨old, he⟩, hi, ne⟩ k
    exact ⟨⟨old, k e List.mem_cons_self _ he⟩, hi.at fun o q => k it (List.mem_cons_of_mem _ List.mem_cons_self) o q, ne⟩
  item := by
    intro X hP hw hK hc i pins s σ H E I hf st hg
    subst hP hw hK
    obtain ⟨⟨old, he⟩, hit, ne⟩ := st
    obtain ⟨xs, x, hq, hx⟩ := hg
    obtain ⟨its, rv, p, hz⟩ := I.tuple hq
    have pt := isTuple_of p
    obtain ⟨u, hu, ru⟩ := rv.get hx
    have a1 := tit_apart hit pt
    have a2 := enum_apart he pt
    have le : e < s.heap.objs.size := Heap.lt_size he
    have li : it < s.heap.objs.size := by
      obtain ⟨_, q, _⟩ := hit
      exact Heap.lt_size q
    have hlt : i < its.toArray.size := by
      rcases Nat.lt_or_ge i its.toArray.size with z | z
      · exact z
      · rw [List.getElem?_eq_none_iff.mpr (by simpa using z)] at hu
        cases hu
    refine wpAny_pyNext_enum_itemD (Draws.tuple (show X.A.in1.handled = none from I.ok.hd hc) it t a1 its.toArray) he ⟨hit, pt⟩ hlt ne (by simp [ne, a2]) fun y h1 tk hy ho st1 hT hsz hk => ?_
    obtain rfl : y = u := by
      rw [List.getElem?_toArray, hu] at hy
      exact (Option.some.inj hy).symm
    refine ⟨_, rfl, wpAny_letOwnedTupleGo_enum (s := { s with heap := h1, toks := tk + 1 }) ho fun h2 he2 sb => ?_⟩
    have hT2 : h2.get? s.heap.objs.size = some { cls := .type "tuple", data := .seq #[.int i tk, y] } := (sb.2 _ (Nat.ne_of_gt le)).trans hT
    have new : ObjOk X.prog X.w (upd H s.heap.objs.size (.tup [.int (i : Nat), x])) h2 s.heap.objs.size (.tup [.int (i : Nat), x]) :=
      ⟨by show 2 ≤ sizeLine; decide, [.int i tk, y], .cons ⟨_, rfl⟩ (.cons ru .nil), ⟨_, hT2, rfl, _, rfl⟩⟩
    have I1 : Inv X pins σ (upd H s.heap.objs.size (.tup [.int (i : Nat), x])) { s with heap := h2, toks := tk + 1 } :=
      I.turnedNew (ch := [e, it]) (fun b ob hb q => (sb.2 b (fun z => hb (by simp [z]))).trans (hk b ob (fun z => hb (by simp [z])) (fun z => hb (by simp [z])) q)) hf (Nat.le_refl _) new
    refine ⟨.ref s.heap.objs.size, _, I1, rfl, ⟨_, x, rfl, I.hok.fresh (Nat.le_refl _), rfl, fun ys hy => ?_⟩, ⟨⟨y, ?_⟩, st1.1.at fun o q => (sb.2 it (Ne.symm ne)).trans q, ne⟩, fun b hb => ?_⟩
    · rw [I.tuple_inj hy hq]
      exact hx
    · rw [show ((i + 1 : Nat) : Int) = (i : Int) + 1 by omega]
      exact he2
    · have lb : b < s.heap.objs.size := by
        rcases List.mem_cons.mp hb with rfl | hb
        · exact le
        · rw [List.mem_singleton.mp hb]
          exact li
      rw [upd_ne (Nat.ne_of_lt lb)]
      exact (hf b hb).1
  done := by
    intro X hP hw hK hc i pins s σ H E I hf st hg
    subst hP hw hK
    obtain ⟨⟨old, he⟩, hit, ne⟩ := st
    obtain ⟨xs, hq, hx⟩ := hg
    obtain ⟨its, rv, p, hz⟩ := I.tuple hq
    have pt := isTuple_of p
    obtain ⟨f0, f1, f2, f3, f4, f5⟩ := hf it (by simp)
    have n : i = its.toArray.size := by
      rw [List.size_toArray, ← rv.length]
      exact hx.symm
    subst n
    exact wpAny_pyNext_enum_endD (Draws.tuple (show X.A.in1.handled = none from I.ok.hd hc) it t (tit_apart hit pt) its.toArray) he ⟨hit, pt⟩ fun h1 eb => ⟨rfl, I.turned (t' := s.toks) (fun b o hb q => eb b o hb q) f0 f1 f3 f4 f5⟩
  self := fun A i s Q E st h => let ⟨⟨_, he⟩, _⟩ := st; wpAny_pyIter_enum he h
theorem call_of_enum {X : Cx} {elts : List Expr} {kk : Nat} {tpos : Pos} {pins : List (Addr × Obj)} {σ : L2.St} {H : Hp} {s : Shared} {R : It → Hp → Prop} {t : Addr} {items : Array Value} (I : Inv X pins σ H s) (pl : IsTup s.heap t items) (q : R (IteT X.K t) H) :
    wpAny (model X.prog X.w) X.A (call (.type "enumerate") [.ref t]) (fun v s2 => wpAny (model X.prog X.w) X.A (pyIter v) (PIE X pins σ (.Tuple elts kk tpos) R) X.xe s2) X.xe s := by
  refine HN4.call_enumT (isTuple_of pl) fun h1 he hit hk => wpAny_pyIter_enum he ?_
  refine ⟨s.heap.objs.size + 1, [s.heap.objs.size + 1, s.heap.objs.size], _, _, H, rfl, I.kept (t' := s.toks) hk, turn_enumT t _ _, ⟨⟨.none, he⟩, hit, Nat.succ_ne_self _⟩, fun b hb => ?_, q⟩
  have hle : s.heap.objs.size ≤ b := by
    rcases List.mem_cons.mp hb with rfl | hb
    · exact Nat.le_add_right _ _
    · rw [List.mem_singleton.mp hb]
      exact Nat.le_refl _
  exact I.fpOk hle (I.hok.fresh hle)
def iEnumT (K : PySem.W.Frag) (ta : TA) : TI := fun σ H R => ta σ H fun vs H1 => ∃ t xs, vs = [.ref t] ∧ SqT K H1 t xs ∧ R (IteT K t) H1
theorem pi_enumT {X : Cx} {e : Expr} {ta : TA} {p pos tpos : Pos} {elts : List Expr} {kk : Nat} (hg : Gl X "enumerate") (hm : X.mg "enumerate" = none) (ha : PA X [e] ta) (hs : starEach [e] X.env = [(false, eval e X.env)] := by rfl) :
    PI X (.Tuple elts kk tpos) (.Call (.Name "enumerate" p) [e] [] pos) (iEnumT X.K ta) := by
  constructor
  intro pins s σ H R I h
  refine Call_ (ld_blt I hg hm boot_enumerate (PyProof.Rows.callWith_type1 (thn (ha.run pos pins s σ H _ I h) fun us s1 ⟨vs, H1, I1, r1, t, xs, ex, hq, q⟩ => ?_) hs rfl))
  subst ex
  obtain rfl := Vals.ref1 r1
  obtain ⟨its, rv, pl, hz⟩ := I1.tuple hq
  refine call_of_enum I1 pl q
/-- a loop over the pairs of a tuple -/
theorem for_enumT {K : PySem.W.Frag} {t : Addr} {xs : List V} {g : TG} {tb : TS} {D : Ends} {σ : L2.St} {H : Hp} (Pv : Nat → L2.St → Hp → Prop) (h0 : Pv 0 σ H) (hl : ∀ i σ H, i ≤ xs.length → Pv i σ H → SqT K H t xs)
    (hs : ∀ i x σ H T, xs[i]? = some x → Pv i σ H → H T = none → g (.ref T) σ (upd H T (.tup [.int (i : Nat), x])) fun σ2 H2 => tb { D with nx := Pv (i + 1), ct := Pv (i + 1), bk := D.nx } σ2 H2) (hd : ∀ σ H, Pv xs.length σ H → D.nx σ H) :
    ∃ W : Nat → Nat → L2.St → Hp → Prop, (∃ m, W 0 m σ H) ∧ ∀ i m σ H, W i m σ H →
      ((IteT K t).stop i H ∧ D.nx σ H) ∨ ((IteT K t).go i H ∧ ∃ N : L2.St → Hp → Prop, (∀ σ' H', N σ' H' → ∃ m', m' < m ∧ W (i + 1) m' σ' H') ∧ ∀ x H', (IteT K t).yld i H x H' → g x σ H' fun σ2 H2 => tb { D with nx := N, ct := N, bk := D.nx } σ2 H2) := by
  refine ⟨fun i m σ H => m = xs.length - i ∧ i ≤ xs.length ∧ Pv i σ H, ⟨xs.length, rfl, Nat.zero_le _, h0⟩, ?_⟩
  rintro i m σ H ⟨rfl, hi, p⟩
  have q := hl i σ H hi p
  rcases Nat.lt_or_ge i xs.length with hlt | hge
  · refine .inr ⟨⟨xs, xs[i], q, List.getElem?_eq_getElem hlt⟩, Pv (i + 1), fun σ' H' p' => ⟨xs.length - (i + 1), by omega, rfl, hlt, p'⟩, ?_⟩
    rintro y H' ⟨T, x, rfl, hT, rfl, hx⟩
    exact hs i x σ H T (hx xs q) p hT
  · have e : i = xs.length := Nat.le_antisymm hi hge
    subst e
    exact .inl ⟨⟨xs, q, rfl⟩, hd σ H p⟩
end Gd

set_option Elab.async false
set_option linter.all false
set_option maxRecDepth 100000
set_option maxHeartbeats 4000000
/-! zip of two sequences, each a list or a tuple. -/
namespace Gd
open PySem PySem.Spec PyProof.Rows L2
/-- a list (true) or a tuple (false) -/
def SqE (K : PySem.W.Frag) (l : Bool) (H : Hp) (a : Addr) (xs : List V) : Prop := match l with
  | true => SqL K H a xs
  | false => SqT K H a xs
def HpE (l : Bool) (h : Heap) (a : Addr) (items : Array Value) : Prop := match l with
  | true => h.IsList a items
  | false => h.IsTuple a items
def ItE (l : Bool) (h : Heap) (it a : Addr) (i : Nat) : Prop := match l with
  | true => h.IsListIter it a i
  | false => h.IsTupleIter it a i
def objE (l : Bool) (a : Addr) : Obj := match l with
  | true => { cls := .type "list_iterator", data := .fields #[.ref a, .int 0 0] }
  | false => { cls := .type "tuple_iterator", data := .fields #[.ref a, .int 0 0] }
section
variable {l : Bool} {h h' : Heap} {a it : Addr} {i : Nat} {items : Array Value}
theorem ItE.at (x : ItE l h it a i) (k : ∀ o, h.get? it = some o → h'.get? it = some o) : ItE l h' it a i := by
  cases l with
  | true => exact Heap.IsListIter.at (show h.IsListIter it a i from x) k
  | false => exact Heap.IsTupleIter.at (show h.IsTupleIter it a i from x) k
theorem ItE.there (x : ItE l h it a i) : ∃ o, h.get? it = some o ∧ ∀ v, o.data ≠ .cell v := by
  cases l with
  | true =>
    obtain ⟨o, g, _, d⟩ := (show h.IsListIter it a i from x)
    exact ⟨o, g, fun v q => by rw [d] at q; cases q⟩
  | false =>
    obtain ⟨o, g, _, d⟩ := (show h.IsTupleIter it a i from x)
    exact ⟨o, g, fun v q => by rw [d] at q; cases q⟩
theorem ItE.apart (x : ItE l h it a i) (y : HpE l h a items) : a ≠ it := by
  intro z
  subst z
  cases l with
  | true =>
    obtain ⟨o1, g1, c1, _⟩ := (show h.IsListIter a a i from x)
    obtain ⟨o2, g2, c2, _⟩ := (show h.IsList a items from y)
    rw [g1] at g2
    cases g2
    rw [c1] at c2
    exact absurd c2 (by simp)
  | false => exact tit_apart (show h.IsTupleIter a a i from x) (show h.IsTuple a items from y) rfl
theorem drawsE {prog : Program} {w : World} {A : Around} (hh : A.handled = none) (ne : a ≠ it) : Draws prog w A it [it, a] items.size (fun i v => items[i]? = some v) (fun i h => ItE l h it a i ∧ HpE l h a items) := by
  cases l with
  | true => exact Draws.list hh it a ne items
  | false => exact Draws.tuple hh it a ne items
theorem beginsE : Begins (.ref a) (objE l a) (fun h => HpE l h a items) := by
  cases l with
  | true => exact begins_list a items
  | false => exact begins_tuple a items
theorem ItE.new (g : h.get? it = some (objE l a)) : ItE l h it a 0 := by
  cases l with
  | true => exact ⟨_, g, rfl, rfl⟩
  | false => exact ⟨_, g, rfl, rfl⟩
end
section
variable {X : Cx} {pins : List (Addr × Obj)} {σ : L2.St} {H : Hp} {s : Shared} {l : Bool} {a : Addr} {xs ys : List V}
theorem seqE (I : Inv X pins σ H s) (h : SqE X.K l H a xs) : ∃ its : List Value, Vals xs its ∧ HpE l s.heap a its.toArray := by
  cases l with
  | true =>
    obtain ⟨its, rv, p, _⟩ := I.list (show SqL X.K H a xs from h)
    exact ⟨its, rv, p.isList⟩
  | false =>
    obtain ⟨its, rv, p, _⟩ := I.tuple (show SqT X.K H a xs from h)
    exact ⟨its, rv, isTuple_of p⟩
theorem injE (I : Inv X pins σ H s) (h1 : SqE X.K l H a xs) (h2 : SqE X.K l H a ys) : xs = ys := by
  cases l with
  | true => exact I.list_inj h1 h2
  | false => exact I.tuple_inj h1 h2
end
/-- both walked together: at each turn a new pair -/
def ItzE (K : PySem.W.Frag) (l1 l2 : Bool) (a b : Addr) : It where
  go := fun i H => ∃ (xs ys : List V) (x y : V), SqE K l1 H a xs ∧ SqE K l2 H b ys ∧ xs[i]? = some x ∧ ys[i]? = some y
  yld := fun i H v H' => ∃ T x y, v = .ref T ∧ H T = none ∧ H' = upd H T (.tup [x, y]) ∧ (∀ xs, SqE K l1 H a xs → xs[i]? = some x) ∧ ∀ ys, SqE K l2 H b ys → ys[i]? = some y
  stop := fun i H => ∃ xs ys : List V, SqE K l1 H a xs ∧ SqE K l2 H b ys ∧ i = min xs.length ys.length
theorem lt_of_get {its : List Value} {i : Nat} {u : Value} (h : its[i]? = some u) : i < its.toArray.size := by
  rw [List.size_toArray]
  exact (List.getElem?_eq_some_iff.mp h).1
theorem turn_zipE {P : Program} {w : World} {K : PySem.W.Frag} {elts : List Expr} {kk : Nat} {tpos : Pos} {l1 l2 : Bool} {a b z TI TO i1 i2 : Addr} (S : ZipSep2 z TI TO i1 i2 [i1, a] [i2, b]) :
    Turn P w K (.Tuple elts kk tpos) (ItzE K l1 l2 a b) [z, TI, TO, i1, i2] z (fun i h => IsZip h z TI TO .none ∧ IsTupOf2 h TI (.ref i1) (.ref i2) ∧ (∃ x y, IsTupOf2 h TO x y) ∧ ItE l1 h i1 a i ∧ ItE l2 h i2 b i) where
  mem := List.mem_cons_self
  obj := by
    rintro i h ⟨hz, hTI, ⟨x, y, hTO⟩, h1, h2⟩ c hc
    simp only [List.mem_cons, List.not_mem_nil, or_false] at hc
    rcases hc with rfl | rfl | rfl | rfl | rfl
    · exact ⟨_, hz, fun v q => nomatch q⟩
    · exact ⟨_, hTI, fun v q => nomatch q⟩
    · exact ⟨_, hTO, fun v q => nomatch q⟩
    · exact h1.there
    · exact h2.there
  keep := by
    rintro i h h' ⟨hz, hTI, ⟨x, y, hTO⟩, h1, h2⟩ k
    exact ⟨k _ (by simp) _ hz, k _ (by simp) _ hTI, ⟨x, y, k _ (by simp) _ hTO⟩, h1.at fun o q => k _ (by simp) o q, h2.at fun o q => k _ (by simp) o q⟩
  item := by
    intro X hP hw hK hc i pins s σ H E I hf st hg
    subst hP hw hK
    obtain ⟨hz, hTI, ⟨x0, y0, hTO⟩, h1, h2⟩ := st
    obtain ⟨xs, ys, x, y, hqx, hqy, hx, hy⟩ := hg
    obtain ⟨its, rv, p⟩ := seqE I hqx
    obtain ⟨its2, rv2, p2⟩ := seqE I hqy
    obtain ⟨u, hu, ru⟩ := rv.get hx
    obtain ⟨u2, hu2, ru2⟩ := rv2.get hy
    have hd : X.A.in1.handled = none := I.ok.hd hc
    have zl : z < s.heap.objs.size := Heap.lt_size hz
    refine wpAny_pyNext_zipD2_item S (drawsE hd (h1.apart p)) (drawsE hd (h2.apart p2)) hz hTI hTO ⟨h1, p⟩ ⟨h2, p2⟩ (lt_of_get hu) (lt_of_get hu2) fun v1 v2 h3 tk e1 e2 z3 TO3 s1 s2 hT hsz hk => ?_
    obtain rfl : v1 = u := by
      rw [List.getElem?_toArray, hu] at e1
      exact (Option.some.inj e1).symm
    obtain rfl : v2 = u2 := by
      rw [List.getElem?_toArray, hu2] at e2
      exact (Option.some.inj e2).symm
    refine ⟨_, rfl, wpAny_letOwnedTupleGo_zip (s := { s with heap := h3, toks := tk }) z3 fun h4 z4 sb => ?_⟩
    have hT4 : h4.get? s.heap.objs.size = some { cls := .type "tuple", data := .seq #[v1, v2] } := (sb.2 _ (Nat.ne_of_gt zl)).trans hT
    have new : ObjOk X.prog X.w (upd H s.heap.objs.size (.tup [x, y])) h4 s.heap.objs.size (.tup [x, y]) := ⟨by show 2 ≤ sizeLine; decide, [v1, v2], .cons ru (.cons ru2 .nil), ⟨_, hT4, rfl, _, rfl⟩⟩
    have kp : ∀ c o, c ∉ [z, TI, TO, i1, i2] → s.heap.get? c = some o → h4.get? c = some o := fun c o hb q => by
      simp only [List.mem_cons, List.not_mem_nil, or_false, not_or] at hb
      exact (sb.2 c hb.1).trans (hk c o hb.1 hb.2.2.1 hb.2.2.2.1 hb.2.2.2.2 q)
    have J : Inv X pins σ (upd H s.heap.objs.size (.tup [x, y])) { s with heap := h4, toks := tk } := I.turnedNew (t' := tk) kp hf (Nat.le_refl _) new
    refine ⟨.ref s.heap.objs.size, _, J, rfl, ⟨_, x, y, rfl, I.hok.fresh (Nat.le_refl _), rfl, fun m hm => ?_, fun m hm => ?_⟩, ⟨z4, ?_, ⟨v1, v2, ?_⟩, ?_, ?_⟩, fun c hcm => ?_⟩
    · rw [injE I hm hqx]
      exact hx
    · rw [injE I hm hqy]
      exact hy
    · exact (sb.2 _ S.TIz).trans (hk _ _ S.TIz S.TITO S.TIi1 S.TIi2 hTI)
    · exact (sb.2 _ S.TOz).trans TO3
    · exact s1.1.at fun o q => (sb.2 _ S.zi1.symm).trans q
    · exact s2.1.at fun o q => (sb.2 _ S.zi2.symm).trans q
    · have lt : c < s.heap.objs.size := by
        obtain ⟨_, g1, _⟩ := h1.there
        obtain ⟨_, g2, _⟩ := h2.there
        have hm := hcm
        simp only [List.mem_cons, List.not_mem_nil, or_false] at hm
        rcases hm with rfl | rfl | rfl | rfl | rfl
        · exact zl
        · exact Heap.lt_size hTI
        · exact Heap.lt_size hTO
        · exact Heap.lt_size g1
        · exact Heap.lt_size g2
      rw [upd_ne (Nat.ne_of_lt lt)]
      exact (hf c hcm).1
  done := by
    intro X hP hw hK hc i pins s σ H E I hf st hg
    subst hP hw hK
    obtain ⟨hz, hTI, ⟨x0, y0, hTO⟩, h1, h2⟩ := st
    obtain ⟨xs, ys, hqx, hqy, hend⟩ := hg
    obtain ⟨its, rv, p⟩ := seqE I hqx
    obtain ⟨its2, rv2, p2⟩ := seqE I hqy
    have n1 : its.toArray.size = xs.length := by rw [List.size_toArray, rv.length]
    have n2 : its2.toArray.size = ys.length := by rw [List.size_toArray, rv2.length]
    have hd : X.A.in1.handled = none := I.ok.hd hc
    refine wpAny_pyNext_zipD2_end S (drawsE hd (h1.apart p)) (drawsE hd (h2.apart p2)) hz hTI hTO ⟨h1, p⟩ ⟨h2, p2⟩ (by omega) (by omega) (by omega) fun h3 tk hk => ⟨rfl, I.turnedL (t' := tk) (fun c o hb q => ?_) hf⟩
    simp only [List.mem_cons, List.not_mem_nil, or_false, not_or] at hb
    exact hk c o hb.1 hb.2.2.1 hb.2.2.2.1 hb.2.2.2.2 q
  self := fun A i s Q E st h => wpAny_pyIter_zip st.1 h
def iZipE (K : PySem.W.Frag) (ta : TA) : TI := fun σ H R => ta σ H fun vs H1 => ∃ l1 l2 a b xs ys, vs = [.ref a, .ref b] ∧ SqE K l1 H1 a xs ∧ SqE K l2 H1 b ys ∧ R (ItzE K l1 l2 a b) H1
theorem HpE.lt {l : Bool} {h : Heap} {a : Addr} {items : Array Value} (x : HpE l h a items) : a < h.objs.size := by
  cases l with
  | true =>
    obtain ⟨o, g, _⟩ := (show h.IsList a items from x)
    exact Heap.lt_size g
  | false =>
    obtain ⟨o, g, _⟩ := (show h.IsTuple a items from x)
    exact Heap.lt_size g
theorem call_of_zip {X : Cx} {elts : List Expr} {kk : Nat} {tpos : Pos} {pins : List (Addr × Obj)} {σ : L2.St} {H : Hp} {s : Shared} {R : It → Hp → Prop} {l1 l2 : Bool} {a b : Addr} {i1 i2 : Array Value} (I : Inv X pins σ H s)
    (p1 : HpE l1 s.heap a i1) (p2 : HpE l2 s.heap b i2) (q : R (ItzE X.K l1 l2 a b) H) :
    wpAny (model X.prog X.w) X.A (call (.type "zip") [.ref a, .ref b]) (fun v s2 => wpAny (model X.prog X.w) X.A (pyIter v) (PIE X pins σ (.Tuple elts kk tpos) R) X.xe s2) X.xe s := by
  refine zip_begins2 beginsE beginsE p1 p2 fun h1 hz hTI hTO g1 g2 _ hk => wpAny_pyIter_zip hz ?_
  have sep : ZipSep2 (s.heap.objs.size + 4) (s.heap.objs.size + 2) (s.heap.objs.size + 3) s.heap.objs.size (s.heap.objs.size + 1) [s.heap.objs.size, a] [s.heap.objs.size + 1, b] :=
    zip_sep2 (fun c hc => by rw [List.mem_singleton.mp hc]; exact p1.lt) (fun c hc => by rw [List.mem_singleton.mp hc]; exact p2.lt)
  refine ⟨s.heap.objs.size + 4, [s.heap.objs.size + 4, s.heap.objs.size + 2, s.heap.objs.size + 3, s.heap.objs.size, s.heap.objs.size + 1], _, _, H, rfl, I.kept (t' := s.toks) hk, turn_zipE sep, ⟨hz, hTI, ⟨_, _, hTO⟩, .new g1, .new g2⟩, fun c hc => ?_, q⟩
  have le : s.heap.objs.size ≤ c := by
    simp only [List.mem_cons, List.not_mem_nil, or_false] at hc
    rcases hc with rfl | rfl | rfl | rfl | rfl
    all_goals first | exact Nat.le_refl _ | exact Nat.le_add_right _ _
  exact I.fpOk le (I.hok.fresh le)
theorem pi_zipE {X : Cx} {e e2 : Expr} {ta : TA} {p pos tpos : Pos} {elts : List Expr} {kk : Nat} (hg : Gl X "zip") (hm : X.mg "zip" = none) (ha : PA X [e, e2] ta)
    (hs : starEach [e, e2] X.env = (false, eval e X.env) :: starEach [e2] X.env := by rfl) (hpl : (backTo pos (starEach [e2] X.env)).any (·.1) = false := by rfl) :
    PI X (.Tuple elts kk tpos) (.Call (.Name "zip" p) [e, e2] [] pos) (iZipE X.K ta) := by
  constructor
  intro pins s σ H R I h
  refine Call_ (ld_blt I hg hm PyProof.Rows.boot_zip (PyProof.Rows.callWith_type1 (thn (ha.run pos pins s σ H _ I h) fun us s1 ⟨vs, H1, I1, r1, l1, l2, a, b, xs, ys, ex, hx, hy, q⟩ => ?_) hs hpl))
  subst ex
  obtain ⟨u1, u2, rfl, r1, r2⟩ := vals2 r1
  cases r1
  cases r2
  obtain ⟨i1, _, p1⟩ := seqE I1 hx
  obtain ⟨i2, _, p2⟩ := seqE I1 hy
  exact call_of_zip I1 p1 p2 q
theorem walk_zipE {K : PySem.W.Frag} {l1 l2 : Bool} {a b : Addr} {xs ys : List V} {n : Nat} (hn : n = min xs.length ys.length) :
    Walk (ItzE K l1 l2 a b) n (fun H => SqE K l1 H a xs ∧ SqE K l2 H b ys) (YPair (fun i => xs[i]?) (fun i => ys[i]?)) where
  goes := fun i H hi q => by
    have h1 : i < xs.length := by omega
    have h2 : i < ys.length := by omega
    exact ⟨xs, ys, xs[i], ys[i], q.1, q.2, List.getElem?_eq_getElem h1, List.getElem?_eq_getElem h2⟩
  stops := fun H q => ⟨xs, ys, q.1, q.2, hn⟩
  yields := by
    rintro i H v H' _ q ⟨T, x, z, h1, h2, h3, h4, h5⟩
    exact ⟨T, x, z, h1, h2, h3, h4 xs q.1, h5 ys q.2⟩
theorem walk_enumT {K : PySem.W.Frag} {a : Addr} {xs : List V} : Walk (IteT K a) xs.length (fun H => SqT K H a xs) (YPair (fun i => some (.int (i : Nat))) (fun i => xs[i]?)) where
  goes := fun i H hi q => ⟨xs, xs[i], q, List.getElem?_eq_getElem hi⟩
  stops := fun H q => ⟨xs, q, rfl⟩
  yields := by
    rintro i H v H' _ q ⟨T, x, h1, h2, h3, h4⟩
    exact ⟨T, _, x, h1, h2, h3, rfl, h4 xs q⟩
end Gd

set_option Elab.async false
set_option linter.all false
set_option maxRecDepth 100000
set_option maxHeartbeats 4000000
/-! + - * of own classes, with an own object or an integer at the right; - of one. -/
namespace HN3
open PySem PySem.Spec PyProof.Rows PySem.SeqAt
section
variable {prog : Program} {w : World} {A : Around} {E : Value → Shared → Prop} {s : Shared} {K : PySem.W.Frag} {x C f : Addr} {ox : Obj} {od : Option Obj}
theorem name_there {M : Model} {h : Heap} {nm : String} (X : K.In h) (hs : PySem.W.findIn K (.ref C) (PySem.dunder nm) = some (some (.ref f))) (hr : PySem.W.findIn K (.ref C) (PySem.dunderR nm) = some none) :
    PySem.W.Looks M h (numberSlotInPython (.ref C) nm) true := by
  intro A Q E s k q
  unfold numberSlotInPython
  refine wpAny_bind (PySem.W.looks_findIn X hs A _ E s k ?_)
  refine wpAny_bind (wpAny_pure ?_)
  refine wpAny_bind (PySem.W.looks_findIn X hr A _ E s k ?_)
  refine wpAny_bind (wpAny_pure ?_)
  exact wpAny_pure q
theorem binop1_int {nm : String} {n : Int} {t : Tok} {z : Value} {Q : Value → Shared → Prop} (X : K.In s.heap) (I : PySem.W.InstAt s.heap x ox C od) (hc : PySem.W.selfFirst K C = true)
    (hs : PySem.W.findIn K (.ref C) (PySem.dunder nm) = some (some (.ref f))) (hrn : PySem.W.findIn K (.ref C) (PySem.dunderR nm) = some none) (hf : PySem.W.isFn K (.ref f) = true)
    (fi : fillsNumberSlot (.type "int") nm = pure true) (hsub : PySem.W.subIn K (.type "int") (.ref C) = some false) (hz : typeLookup (.type "int") (PySem.dunderR nm) = pure (some z))
    (h : wpAny (model prog w) A (call (.ref f) [.ref x, .int n t]) (PySem.W.CmpBack Q) E s) : wpAny (model prog w) A (binaryOp1 nm (.ref x) (.int n t)) (fun r s' => ∃ v, r = some v ∧ Q v s') E s := by
  obtain ⟨cd, hcd, hm⟩ := PySem.W.any_some hc
  obtain ⟨rest, hm⟩ : ∃ rest, cd.mro = .ref C :: rest := by
    cases q : cd.mro with
    | nil => rw [q] at hm; cases hm
    | cons a r => rw [q] at hm; exact ⟨r, by rw [List.head?_cons] at hm; cases (beq_iff_eq.mp hm); rfl⟩
  unfold binaryOp1
  refine wpAny_bind (I.type.here ?_)
  refine wpAny_bind (wpAny_of_eq (a := Value.type "int") rfl ?_)
  refine wpAny_bind ((PySem.W.fills_K X hcd hm hs).here ?_)
  have e : (Value.ref C == Value.type "int") = false := rfl
  rw [e]
  simp only [Bool.false_eq_true, if_false]
  refine wpAny_bind (wpAny_of_eq fi ?_)
  simp only [Bool.and_self, if_true]
  refine wpAny_bind ((PySem.W.looks_subIn X hsub).here ?_)
  simp only [Bool.false_eq_true, if_false]
  refine wpAny_bind ((name_there X hs hrn).here ?_)
  simp only [if_true]
  refine wpAny_bind (wpAny_of_eq (a := false) rfl ?_)
  simp only [Bool.not_false, if_true]
  refine wpAny_bind (wpAny_of_eq hz ?_)
  refine wpAny_bind (m := tryMethod (.ref x) _ (.int n t)) ?_
  unfold tryMethod
  refine wpAny_bind (PySem.W.special_fn X I hs (beq_iff_eq.mp hf) (wpAny_mono h (fun v s' hv => ?_) fun _ _ e => e))
  cases v <;> first | exact hv.elim | exact wpAny_pure (wpAny_pure ⟨_, rfl, hv⟩)
theorem binop_int {op : Operator} {n : Int} {t : Tok} {z : Value} {Q : Value → Shared → Prop} (X : K.In s.heap) (I : PySem.W.InstAt s.heap x ox C od) (hc : PySem.W.selfFirst K C = true)
    (hs : PySem.W.findIn K (.ref C) (PySem.dunder op.info.2) = some (some (.ref f))) (hrn : PySem.W.findIn K (.ref C) (PySem.dunderR op.info.2) = some none) (hf : PySem.W.isFn K (.ref f) = true)
    (fi : fillsNumberSlot (.type "int") op.info.2 = pure true) (hsub : PySem.W.subIn K (.type "int") (.ref C) = some false) (hz : typeLookup (.type "int") (PySem.dunderR op.info.2) = pure (some z))
    (h : wpAny (model prog w) A (call (.ref f) [.ref x, .int n t]) (PySem.W.CmpBack Q) E s) : wpAny (model prog w) A (binaryOp op (.ref x) (.int n t)) Q E s := by
  unfold binaryOp
  refine wpAny_holding (wpAny_bind (wpAny_mono (binop1_int X I hc hs hrn hf fi hsub hz h) (fun r s' hr => ?_) fun _ _ e => e))
  obtain ⟨v, rfl, q⟩ := hr
  exact wpAny_pure q
theorem neg_own {Q : Value → Shared → Prop} (X : K.In s.heap) (I : PySem.W.InstAt s.heap x ox C od)
    (hs : PySem.W.findIn K (.ref C) "__neg__" = some (some (.ref f))) (hf : PySem.W.isFn K (.ref f) = true)
    (h : wpAny (model prog w) A (call (.ref f) [.ref x]) Q E s) : wpAny (model prog w) A (unaryOp .USub (.ref x)) Q E s := by
  unfold unaryOp
  refine wpAny_holding ?_
  dsimp only
  rw [if_neg (by decide)]
  exact wpAny_bind (PySem.W.special_fn X I hs (beq_iff_eq.mp hf) (wpAny_mono h (fun v s' hv => wpAny_pure hv) fun _ _ e => e))
end
end HN3

namespace Gd
open PySem PySem.Spec PyProof.Rows L2
section
variable {X : Cx} {CX : CXT} {k : Nat} {f C : Addr} {fd : FuncData} {ps : List Str} {sp : Sp}
/-- what an operator of an own class asks of the class: m its method, r the name of the turned one, which nobody has -/
structure BinC (K : PySem.W.Frag) (C : Addr) (m r : Str) (f : Addr) : Prop where
  sf : PySem.W.selfFirst K C = true
  at_ : Meth K C m f
  rn : PySem.W.findIn K (.ref C) r = some none
/-- x OP y by the own method of x's class, y of that class or an integer; what it gives is an object -/
def rBinO (C : Addr) (sp : Sp) (E : XK) : R2 := fun x y H Q => ∃ p dx fs, x = .ref p ∧ H p = some (.ins C dx fs) ∧
  ((∃ q dy gs, y = .ref q ∧ H q = some (.ins C dy gs)) ∨ ∃ n, y = .int n) ∧ sp [x, y] H (fun v H' => (∃ q, v = .ref q) ∧ Q v H') E
theorem op_binO {op : Operator} {m r : Str} {z : Value} {E : XK} (e1 : PySem.dunder op.info.2 = m) (e2 : PySem.dunderR op.info.2 = r) (fi : fillsNumberSlot (.type "int") op.info.2 = pure true) (hz : typeLookup (.type "int") r = pure (some z))
    (B : BinC X.K C m r f) (F : FnOk X.prog X.w X.K X.mg X.base CX k f fd ps sp) (hr : Room (k + 1) X.A) (hb : Binds X.K fd ps []) (hx : ∀ σ, PassesAt CX X σ E) : OpR X (binaryOp op) (rBinO C sp E) := by
  subst e1 e2
  intro pins s σ H x y v u Q I rx ry h
  obtain ⟨p, dx, fs, rfl, ep, hy, hsp⟩ := h
  cases rx
  obtain ⟨od, J⟩ := seen I ep
  obtain ⟨m, hF⟩ := I.fr
  have run := wpAny_mono (runAt (.inl rfl) F hr hb .nil (hx σ) I (.cons (show RelV (V.ref p) (Value.ref p) from rfl) (.cons ry .nil)) hsp) (Q' := PySem.W.CmpBack (EP X pins σ Q)) (fun w s' hw => by
    obtain ⟨z, H', I', rz, ⟨q, rfl⟩, hq⟩ := hw
    cases rz
    exact ⟨.ref q, H', I', rfl, hq⟩) (fun _ _ z => z)
  rcases hy with ⟨q, dy, gs, rfl, eq⟩ | ⟨n, rfl⟩
  · cases ry
    obtain ⟨od2, J2⟩ := seen I eq
    exact PySem.W.binop_K hF I.ok.mod.kin J J2.type B.sf B.at_.at_ B.at_.fn run
  · obtain ⟨t, rfl⟩ := ry
    exact HN3.binop_int I.kIn J B.sf B.at_.at_ B.rn B.at_.fn fi (by kernel_rfl) hz run
theorem op_addO {E : XK} (B : BinC X.K C "__add__" "__radd__" f) (F : FnOk X.prog X.w X.K X.mg X.base CX k f fd ps sp) (hr : Room (k + 1) X.A) (hb : Binds X.K fd ps []) (hx : ∀ σ, PassesAt CX X σ E) : OpR X (binaryOp .Add) (rBinO C sp E) :=
  op_binO (op := .Add) (z := .builtin "int.__radd__") (by kernel_rfl) (by kernel_rfl) PySem.F.fills_int_add (by rw [typeLookup_type, builtinLookup_eq_fast]; kernel_rfl) B F hr hb hx
theorem op_subO {E : XK} (B : BinC X.K C "__sub__" "__rsub__" f) (F : FnOk X.prog X.w X.K X.mg X.base CX k f fd ps sp) (hr : Room (k + 1) X.A) (hb : Binds X.K fd ps []) (hx : ∀ σ, PassesAt CX X σ E) : OpR X (binaryOp .Sub) (rBinO C sp E) :=
  op_binO (op := .Sub) (z := .builtin "int.__rsub__") (by kernel_rfl) (by kernel_rfl) PySem.F.fills_int_sub (by rw [typeLookup_type, builtinLookup_eq_fast]; kernel_rfl) B F hr hb hx
theorem op_mulO {E : XK} (B : BinC X.K C "__mul__" "__rmul__" f) (F : FnOk X.prog X.w X.K X.mg X.base CX k f fd ps sp) (hr : Room (k + 1) X.A) (hb : Binds X.K fd ps []) (hx : ∀ σ, PassesAt CX X σ E) : OpR X (binaryOp .Mult) (rBinO C sp E) :=
  op_binO (op := .Mult) (z := .builtin "int.__rmul__") (by kernel_rfl) (by kernel_rfl) PySem.F.fills_int_mul (by rw [typeLookup_type, builtinLookup_eq_fast]; kernel_rfl) B F hr hb hx
/-- -x by the own method -/
def rNegO (C : Addr) (sp : Sp) (E : XK) : V → Hp → VK → Prop := fun x H Q => ∃ p dx fs, x = .ref p ∧ H p = some (.ins C dx fs) ∧ sp [x] H Q E
theorem un_negO {E : XK} (M : Meth X.K C "__neg__" f) (F : FnOk X.prog X.w X.K X.mg X.base CX k f fd ps sp) (hr : Room (k + 1) X.A) (hb : Binds X.K fd ps []) (hx : ∀ σ, PassesAt CX X σ E) : UnR X (unaryOp .USub) (rNegO C sp E) := by
  intro pins s σ H x v Q I rx h
  obtain ⟨p, dx, fs, rfl, ep, hsp⟩ := h
  cases rx
  obtain ⟨od, J⟩ := seen I ep
  exact HN3.neg_own I.kIn J M.at_ M.fn (runAt (.inl rfl) F hr hb .nil (hx σ) I (.cons (show RelV (V.ref p) (Value.ref p) from rfl) .nil) hsp)
end
end Gd

set_option Elab.async false
set_option linter.all false
set_option maxRecDepth 100000
set_option maxHeartbeats 4000000
/-! != of two tuples whose items are equal, one by one, by an own ==. -/
namespace NeT
open PySem PySem.SeqAt
open AutoSeq1 (wpAny_loadPart')
open MeetsSeq MeetsSeq2 MeetsSeq3 SeqRoads2
section
variable {pg : Program} {wd : World} {B : Around} {Z : Result → Shared → Prop}
theorem walk (p q : Addr) (xs ys : Array Value) (np nq : Nat) (dp dq : Option Addr) (sp sq : Array (Option Value)) (same : xs.size = ys.size) (J : Nat → Shared → Prop)
    (step : ∀ k (a : k < xs.size) (b : k < ys.size) t, J k t → wpAny (model pg wd) B.in1 (eqBool xs[k] ys[k]) (fun z t' => z = true ∧ J (k + 1) t') (fun e t' => Z (.error e) t') t)
    (stop : ∀ t, J xs.size t → Z (.ok (.ret (.bool false))) t) {t : Shared} (gp : t.heap.get? p = some { cls := .type "tuple", dict := dp, data := .seq xs np, slots := sp }) (gq : t.heap.get? q = some { cls := .type "tuple", dict := dq, data := .seq ys nq, slots := sq }) (j0 : J 0 t) :
    wpAny (model pg wd) B.in1 (Builtin.«tuple.__ne__» ⟨[.ref p, .ref q], []⟩) (GQ.FinOf pg wd B Z) (fun e t' => Z (.error e) t') t := by
  have two := AutoSeq1.sub_tuple_tuple
  have zl : (xs.toList.zip ys.toList).length = xs.size := by simp [same]
  have j1 := j0
  obtain ⟨a1, a2, a3, a4, a5⟩ := t
  wp_walk using wpAny_loadPart' gp, wpAny_loadPart' gq, wpAny_forIn_list _ (fun more st t' => st.1 = none ∧ ∃ k, more = (xs.toList.zip ys.toList).drop k ∧ k ≤ xs.size ∧ J k t') _
  case turn =>
    rintro ⟨v, u⟩ more st t' ⟨e0, k, ek, lk, jk⟩
    have kz : k < (xs.toList.zip ys.toList).length := by
      by_cases g : k < (xs.toList.zip ys.toList).length
      · exact g
      · rw [List.drop_of_length_le (by omega)] at ek
        cases ek
    have ka : k < xs.size := by omega
    have kb : k < ys.size := by omega
    rw [List.drop_eq_getElem_cons kz] at ek
    injection ek with pair tail
    obtain rfl : v = xs[k] := by simpa using congrArg Prod.fst pair
    obtain rfl : u = ys[k] := by simpa using congrArg Prod.snd pair
    refine wpAny_bind (wpAny_mono (step k ka kb t' jk) (fun z t2 r2 => ?_) fun _ _ r2 => r2)
    obtain ⟨rfl, r2⟩ := r2
    wp_walk
    exact ⟨rfl, k + 1, tail, ka, r2⟩
  case fin =>
    rintro ⟨st1, st2⟩ t' ⟨e0, k, ek, lk, jk⟩
    simp only at e0
    subst e0
    have ke : xs.size ≤ k := by
      by_cases g : k < (xs.toList.zip ys.toList).length
      · rw [List.drop_eq_getElem_cons g] at ek
        cases ek
      · omega
    obtain rfl : k = xs.size := by omega
    have last : Z (.ok (.ret (.bool false))) t' := stop t' jk
    wp_walk
    simpa [Builtin.Tuple.tupleCompareSizes, same] using last
  case h =>
    exact ⟨rfl, 0, rfl, Nat.zero_le _, j1⟩
end
section
variable {pg : Program} {wd : World} {B : Around} {Y : Value → Shared → Prop} {t : Shared}
theorem rc {p q : Addr} {xs ys : Array Value} {W : Value → Shared → Prop} (same : xs.size = ys.size) (hu : B.units < cLine) (J : Nat → Shared → Prop) (hp : t.heap.IsTuple p xs) (hq : t.heap.IsTuple q ys)
    (step : ∀ k (a : k < xs.size) (b : k < ys.size) t, J k t → wpAny (model pg wd) B.in1 (eqBool xs[k] ys[k]) (fun z t' => z = true ∧ J (k + 1) t') Y t)
    (stop : ∀ t, J xs.size t → W (.bool false) t) (j0 : J 0 t) : wpAny (model pg wd) B (richCompare .NotEq (.ref p) (.ref q)) W Y t := by
  obtain ⟨⟨c1, d1, b1, s1⟩, g1, k1, n1, e1⟩ := id hp
  obtain ⟨⟨c2, d2, b2, s2⟩, g2, k2, n2, e2⟩ := id hq
  simp only at k1 e1 k2 e2
  subst k1 e1 k2 e2
  refine wpAny_richCompare_same_room (op := .NotEq) ⟨_, g1, rfl⟩ ⟨_, g2, rfl⟩ F.slot_tuple_ne (GQ.call_here F.slot_tuple_ne ⟨_, g1, rfl⟩ F.entry_tuple_ne (F.args_tuple_ne_2 _ _) ?_) hu
  exact walk (Z := wants (fun v t' => v ≠ .notImplemented ∧ W v t') Y) p q xs ys n1 n2 d1 d2 s1 s2 same J step (fun t' z => ⟨(fun x => nomatch x), stop t' z⟩) g1 g2 j0
end
end NeT
namespace Gd
open PySem PySem.Spec PyProof.Rows L2
/-- x != y of two tuples, item by item equal -/
def rNeT (K : PySem.W.Frag) (D : Eqv) : R2 := fun x y H Q => DTup K D x y H ∧ ∀ H', L2.Ext H H' → Q (.bl false) H'
theorem op_neT {X : Cx} {n : Nat} {D : Eqv} (hD : Mon D) (h : EqG X n D) (hr : Room (n + 1) X.A) : OpR X (compareOp .NotEq) (rNeT X.K D) := by
  intro pins s σ H x y v u Q I rx ry hw
  obtain ⟨⟨a, b, xs, ys, rfl, rfl, ha, hb, p⟩, q⟩ := hw
  cases rx
  cases ry
  obtain ⟨us, r1, e1, z1⟩ := I.tuple ha
  obtain ⟨vs, r2, e2, z2⟩ := I.tuple hb
  have same : us.toArray.size = vs.toArray.size := by
    rw [List.size_toArray, List.size_toArray, ← r1.length, ← r2.length]
    exact p.1
  show wpAny (model X.prog X.w) X.A (richCompare .NotEq (.ref a) (.ref b)) (EP X pins σ Q) X.xe s
  refine NeT.rc same hr.units0 (fun _ t => LoopI X pins σ H t) e1 e2 (fun i h1 h2 t z => turnG hD h ⟨hr, rfl⟩ p r1 r2 i h1 h2 t z) (fun t z => ?_) ⟨H, I, L2.Ext.rfl'⟩
  obtain ⟨H', I', e⟩ := z
  exact ⟨.bl false, H', I', rfl, q H' e⟩
end Gd

set_option Elab.async false
set_option linter.all false
set_option maxRecDepth 100000
set_option maxHeartbeats 4000000
/-! The sum and the count of a tuple; an integer and a tuple of integers, < ; != of two lists whose items are equal by an own ==. -/
namespace NeL
open PySem PySem.SeqAt
open AutoSeq1 (wpAny_loadPart')
open MeetsSeq MeetsSeq2 MeetsSeq3 SeqRoads2
section
variable {prog : Program} {w : World} {A : Around} {R : Result → Shared → Prop}
theorem ne_loopG (l b : Addr) (N : Nat) (I : Nat → Shared → Prop) (hl : GQ.ListI prog w A (fun e s' => R (.error e) s') l b N I)
    (fin : ∀ s, I N s → R (.ok (.ret (.bool false))) s) (k : Nat) :
    ∀ i : Nat, N - i = k → i ≤ N → ∀ s, I i s →
      wpAny (model prog w) A.in1 (Builtin.«list.__eq__.loop» ⟨[.ref l, .ref b, rawInt i, rawInt 3], []⟩) (GQ.FinOf prog w A R) (fun e s' => R (.error e) s') s := by
  induction k with
  | zero =>
    intro i hk hi s h
    obtain ⟨items, items2, n, n2, hl1, hb1, hs1, hs2, _⟩ := hl _ _ h
    have hi' : i = N := by omega
    have hR : R (.ok (.ret (.bool false))) s := fin s (hi' ▸ h)
    obtain ⟨hp, g, d, tk, os⟩ := s
    wp_walk using wpAny_loadPart' hl1, wpAny_loadPart' hb1
    have hi1 : items[((i : Nat) : Int).toNat]? = none := by simp; omega
    have hi2 : items2[((i : Nat) : Int).toNat]? = none := by simp; omega
    rw [hi1, hi2]
    wp_walk using wpAny_loadPart' hl1, wpAny_loadPart' hb1
    show R (.ok (.ret (.bool (items.size != items2.size)))) _
    rw [hs1, hs2]
    simpa using hR
  | succ k ih =>
    intro i hk hi s h
    obtain ⟨items, items2, n, n2, hl1, hb1, hs1, hs2, turn⟩ := hl _ _ h
    have hlt : i < items.size := by omega
    have hlt2 : i < items2.size := by omega
    have ht := turn hlt hlt2
    obtain ⟨hp, g, d, tk, os⟩ := s
    wp_walk using wpAny_loadPart' hl1, wpAny_loadPart' hb1
    have hi1 : items[((i : Nat) : Int).toNat]? = some items[i] := by simp [hlt]
    have hi2 : items2[((i : Nat) : Int).toNat]? = some items2[i] := by simp [hlt2]
    have hc : ((i : Int) + 1) = ((i + 1 : Nat) : Int) := by omega
    rw [hi1, hi2]
    refine wpAny_bind (wpAny_mono ht (fun r s2 h2 => ?_) fun _ _ x => x)
    obtain ⟨hr, h2⟩ := h2
    subst hr
    have hrec := ih (i + 1) (by omega) (by omega) s2 h2
    obtain ⟨hp2, g2, d2, tk2, os2⟩ := s2
    wp_walk
    rw [hc]
    exact ⟨plainId_quiet plain_eq_loop _, codeAny_builtin entry_eq_loop (by
      rw [Around.under_plainId plain_eq_loop _]
      exact hrec)⟩
theorem list_neG (l b : Addr) (N : Nat) (I : Nat → Shared → Prop) (hl : GQ.ListI prog w A (fun e s' => R (.error e) s') l b N I)
    (fin : ∀ s, I N s → R (.ok (.ret (.bool false))) s) {s : Shared} (h : I 0 s) :
    wpAny (model prog w) A.in1 (Builtin.«list.__ne__» ⟨[.ref l, .ref b], []⟩) (GQ.FinOf prog w A R) (fun e s' => R (.error e) s') s := by
  obtain ⟨items, items2, n, n2, hl1, hb1, hs1, hs2, _⟩ := hl _ _ h
  have hrec := ne_loopG (A := A) (R := R) l b N I hl fin _ 0 rfl (Nat.zero_le _) s h
  obtain ⟨hp, g, d, tk, os⟩ := s
  have f3 := AutoSeq1.sub_list_list
  have hne : ¬ (items.size != items2.size) = true := by simp [hs1, hs2]
  wp_walk using wpAny_loadPart' hl1, wpAny_loadPart' hb1
  exact ⟨plainId_quiet plain_eq_loop _, codeAny_builtin entry_eq_loop (by
    rw [Around.under_plainId plain_eq_loop _]
    exact hrec)⟩
end
section
variable {prog : Program} {w : World} {A : Around} {E : Value → Shared → Prop} {s : Shared}
theorem rc {l b : Addr} {N : Nat} {Q : Value → Shared → Prop} (hu : A.units < cLine) (I : Nat → Shared → Prop) (hl : GQ.ListI prog w A E l b N I)
    (fin : ∀ s, I N s → Q (.bool false) s) (h : I 0 s) : wpAny (model prog w) A (richCompare .NotEq (.ref l) (.ref b)) Q E s := by
  obtain ⟨items, items2, n, n2, hl1, hb1, _, _, _⟩ := hl _ _ h
  refine wpAny_richCompare_same_room (op := .NotEq) ⟨_, hl1, rfl⟩ ⟨_, hb1, rfl⟩ F.slot_list_ne (GQ.call_here F.slot_list_ne ⟨_, hl1, rfl⟩ F.entry_list_ne (F.args_list_ne_2 _ _) ?_) hu
  exact list_neG (R := wants (fun v s' => v ≠ .notImplemented ∧ Q v s') E) l b N I hl (fun s' q => ⟨(fun x => nomatch x), fin s' q⟩) h
end
section
variable {prog : Program} {w : World} {A : Around} {E : Value → Shared → Prop} {s : Shared} {l : Addr} {xs : Array (Int × Tok)}
theorem sum_tup {Q : Value → Shared → Prop} (hh : A.handled = none) (hl : s.heap.IsTuple l (intItems xs))
    (h : ∀ h' tk t', (∀ b o, s.heap.get? b = some o → h'.get? b = some o) → Q (.int (preSum (numAt xs) xs.size) t') { s with heap := h', toks := tk }) :
    wpAny (model prog w) A (call (.builtin "sum") [.ref l]) Q E s := by
  have hlt : l < s.heap.objs.size := by obtain ⟨_, e, _⟩ := hl; exact Heap.lt_size e
  refine call_sum_walkG (wpAny_pyIter_tuple hl ?_)
  refine ⟨_, _, _, _, _, _, numAt xs, rfl, Walks.tuple (A := A.in1) hh _ l (Nat.ne_of_lt hlt) (intItems xs), ⟨⟨_, Heap.get?_push_size _ rfl, rfl, rfl⟩, hl.push _⟩, fun b hb => ?_, (fun _ _ => intItems_at), fun h' tk t' hk => ?_⟩
  · show b < (s.heap.push _).objs.size
    rw [Heap.size_push]
    rcases List.mem_cons.mp hb with rfl | hb
    · exact Nat.lt_succ_self _
    · rcases List.mem_cons.mp hb with rfl | hb
      · exact Nat.lt_succ_of_lt hlt
      · cases hb
  · have hold : ∀ b o, s.heap.get? b = some o → h'.get? b = some o := fun b o e => by
      refine hk b o (fun hm => ?_) (Heap.get?_push_of_some _ e)
      rcases List.mem_cons.mp hm with e1 | hm
      · exact absurd (e1 ▸ Heap.lt_size e) (Nat.lt_irrefl _)
      · cases hm
    have := h h' tk t' hold
    simpa [intItems] using this
theorem sum_tup_raw {its : List Value} {ns : List Int} {Q : Value → Shared → Prop} (hh : A.handled = none) (hl : s.heap.IsTuple l its.toArray) (hi : PyProof.Rows.IntsAre its ns)
    (h : ∀ h' tk t', (∀ b o, s.heap.get? b = some o → h'.get? b = some o) → Q (.int ns.sum t') { s with heap := h', toks := tk }) : wpAny (model prog w) A (call (.builtin "sum") [.ref l]) Q E s := by
  obtain ⟨xs, e⟩ := hi.allInts.items
  have hn : numsOf (intItems xs).toList = ns := by rw [← e]; exact hi.numsOf
  rw [nums_intItems] at hn
  rw [e] at hl
  refine sum_tup hh hl fun h' tk t' hk => ?_
  have := h h' tk t' hk
  rw [preSum_eq, List.take_of_length_le (by simp), hn]; exact this
end
end NeL
namespace Gd
open PySem PySem.Spec PyProof.Rows L2
open PySem.SeqAt (EqAt)
/-- x != y of two lists, item by item equal -/
def rNeL (D : Eqv) : R2 := fun x y H Q => DList D x y H ∧ ∀ H', L2.Ext H H' → Q (.bl false) H'
theorem op_neL {X : Cx} {n : Nat} {D : Eqv} (hD : Mon D) (h : EqG X n D) (hr : Room (n + 1) X.A) : OpR X (compareOp .NotEq) (rNeL D) := by
  intro pins s σ H x y v u Q I rx ry hw
  obtain ⟨⟨a, b, xs, ys, rfl, rfl, ha, hb, p⟩, q⟩ := hw
  cases rx
  cases ry
  show wpAny (model X.prog X.w) X.A (richCompare .NotEq (.ref a) (.ref b)) (EP X pins σ Q) X.xe s
  refine NeL.rc (N := xs.length) hr.units0 (fun _ s' => LoopI X pins σ H s') (fun i s' q => ?_) (fun t z => ?_) ⟨H, I, L2.Ext.rfl'⟩
  · obtain ⟨H1, I1, e1⟩ := id q
    obtain ⟨z, its, k, r, e⟩ := I1.hok a _ (e1 _ _ ha)
    obtain ⟨z2, its2, k2, r2, e2⟩ := I1.hok b _ (e1 _ _ hb)
    refine ⟨its.toArray, its2.toArray, k, k2, e, e2, by rw [List.size_toArray, ← r.length], by rw [List.size_toArray, ← r2.length, ← p.1], fun h1 h2 => ?_⟩
    exact turnG hD h ⟨hr, rfl⟩ p r r2 i h1 h2 s' q
  · obtain ⟨H', I', e⟩ := z
    exact ⟨.bl false, H', I', rfl, q H' e⟩
section
variable {X : Cx}
/-- sum(t) of a tuple of ints -/
def rSumT (K : PySem.W.Frag) : List V → Hp → VK → Prop := fun vs H Q => ∃ (a : Addr) (ns : List Int), vs = [V.ref a] ∧ SqT K H a (ns.map V.int) ∧ Q (.int ns.sum) H
theorem cr_sumT (hc : X.calm = true) : CallR X (.builtin "sum") (rSumT X.K) := by
  intro pins s σ H vs us Q I r h
  obtain ⟨a, ns, rfl, hs, q⟩ := h
  obtain ⟨its, rv, hl, _⟩ := I.tuple hs
  rw [Vals.ref1 r]
  exact NeL.sum_tup_raw (I.ok.hd hc) hl (intsAre_of rv) fun h' tk t' hk => ⟨.int _, H, I.kept hk, ⟨_, rfl⟩, q⟩
/-- t.count(k) of a tuple of ints -/
def rCntT (K : PySem.W.Frag) : V → List V → Hp → VK → Prop := fun x xs H Q => ∃ (p : Addr) (ns : List Int) (k : Int), x = .ref p ∧ xs = [.int k] ∧ SqT K H p (ns.map V.int) ∧ Q (.int (ns.count k : Nat)) H
theorem mt_tcount : MtR X "tuple.count" (rCntT X.K) := by
  intro pins s σ H x xs v us Q I rx rxs h
  obtain ⟨p, ns, k, rfl, rfl, hs, q⟩ := h
  cases rx
  obtain ⟨u, rfl, ru⟩ := rxs.one
  obtain ⟨t, rfl⟩ := ru
  obtain ⟨its, rv, ⟨⟨cls, dd, data, sl⟩, ho, hc, n, hd⟩, hlen⟩ := I.tuple hs
  simp only at hc hd
  subst hc hd
  have hi := intsAre_of rv
  refine call_meets PySem.F.slot_tuple_count ⟨_, ho, rfl⟩ PySem.F.entry_tuple_count (PySem.F.args_tuple_count_2 _ _)
    (SeqAt.tuple_countAt p its.toArray n dd sl (.int k t) (eqk k)) ⟨ho, fun y hy => (eqk_gives hi y (by simpa using hy)).at _ _, ?_⟩
  have ec : its.toArray.toList.countP (eqk k) = ns.count k := eqk_count hi
  refine ⟨.int (ns.count k : Nat), H, I.tok _, ⟨s.toks, ?_⟩, q⟩
  show Value.int ((its.toArray.toList.countP (eqk k) : Nat) : Int) s.toks = Value.int ((ns.count k : Nat) : Int) s.toks
  rw [ec]
def pdata (ns : List Int) : List PyData := ns.map PyData.int
theorem pdp {K : PySem.W.Frag} {H : Hp} : ∀ ns : List Int, DpAll K H (ns.map V.int) (pdata ns)
  | [] => .nil
  | n :: r => .cons (.int n) (pdp r)
theorem play : ∀ ns : List Int, PyData.canLayAll0 (pdata ns) = true
  | [] => by simp [pdata, PyData.canLayAll0]
  | n :: r => by
    have := play r
    unfold pdata at this ⊢
    simp [PyData.canLayAll0, PyData.canLay0, this]
theorem peqv : ∀ ns ms : List Int, PyData.eqvAll (pdata ns) (pdata ms) = decide (ns = ms)
  | [], [] => by simp [pdata, PyData.eqvAll]
  | [], _ :: _ => by simp [pdata, PyData.eqvAll]
  | _ :: _, [] => by simp [pdata, PyData.eqvAll]
  | n :: r, m :: q => by
    have := peqv r q
    unfold pdata at this ⊢
    simp [PyData.eqvAll, PyData.eqv, this, Bool.decide_and]
    rfl
theorem lex_self : ∀ ns : List Int, HT.lexLt ns ns = false
  | [] => rfl
  | n :: r => by rw [HT.lexLt_cons, if_pos rfl]; exact lex_self r
/-- (i, t) < (j, u), ints and tuples of ints -/
def pairLt (i j : Int) (ns ms : List Int) : Bool := if i = j then HT.lexLt ns ms else decide (i < j)
def rLtP (K : PySem.W.Frag) : R2 := fun x y H Q => ∃ a b p q i j ns ms, x = .ref a ∧ y = .ref b ∧ SqT K H a [.int i, .ref p] ∧ SqT K H b [.int j, .ref q] ∧ SqT K H p (ns.map V.int) ∧ SqT K H q (ms.map V.int) ∧
  Q (.bl (pairLt i j ns ms)) H
theorem vals_ir {i : Int} {p : Addr} {us : List Value} (r : Vals [V.int i, V.ref p] us) : ∃ t, us = [Value.int i t, Value.ref p] := by
  cases r with
  | cons r t =>
    cases t with
    | cons r2 t2 =>
      cases t2
      obtain ⟨t, rfl⟩ := r
      cases r2
      exact ⟨t, rfl⟩
theorem eqAt_ints {pins : List (Addr × Obj)} {s : Shared} {σ : L2.St} {H : Hp} {A : Around} {p q : Addr} {ns ms : List Int} (I : Inv X pins σ H s) (hp : SqT X.K H p (ns.map V.int)) (hq : SqT X.K H q (ms.map V.int)) (hu : A.units + 64 < cLine) :
    EqAt A s (.ref p) (.ref q) (decide (ns = ms)) := by
  obtain ⟨as, r1⟩ := Dp.reads I (.tuple (pdata ns)) (.ref p) (.ref p) (.tup hp (pdp ns)) (show RelV (V.ref p) (Value.ref p) from rfl)
  obtain ⟨bs, r2⟩ := Dp.reads I (.tuple (pdata ms)) (.ref q) (.ref q) (.tup hq (pdp ms)) (show RelV (V.ref q) (Value.ref q) from rfl)
  have h := SeqAt.eqAt_reads _ _ A s _ _ _ _ r1 r2 (by simp [PyData.canLay0, play]) (by simp [PyData.canLay0, play]) (by
    have d : ∀ ns : List Int, PyData.depthAll (pdata ns) = 0 := fun ns => by
      induction ns with
      | nil => simp [pdata, PyData.depthAll]
      | cons n r ih =>
        unfold pdata at ih ⊢
        simp [PyData.depthAll, PyData.depth, ih]
    simp [PyData.depth, d]
    omega)
  simp only [PyData.eqv, peqv] at h
  exact h
theorem op_ltP (hu : X.A.units + 66 < cLine) : OpR X (compareOp .Lt) (rLtP X.K) := by
  intro pins s σ H x y v u Q I rx ry h
  obtain ⟨a, b, p, q, i, j, ns, ms, rfl, rfl, ha, hb, hp, hq, k⟩ := h
  cases rx
  cases ry
  obtain ⟨its, r1, p1, _⟩ := I.tuple ha
  obtain ⟨its2, r2, p2, _⟩ := I.tuple hb
  obtain ⟨t1, rfl⟩ := vals_ir r1
  obtain ⟨t2, rfl⟩ := vals_ir r2
  obtain ⟨us, v1, e1, _⟩ := I.tuple hp
  obtain ⟨vs, v2, e2, _⟩ := I.tuple hq
  have hA : X.A.in1.units + 64 < cLine := by
    show X.A.units + 1 + 64 < cLine
    omega
  have key := Ob.RcOp.tuples_lt (A := X.A) (s := s) (l := a) (b := b) (items := #[.int i t1, .ref p]) (items2 := #[.int j t2, .ref q]) (e := fun k => if k = 0 then decide (i = j) else decide (ns = ms)) (r := fun k => if k = 0 then decide (i < j) else HT.lexLt ns ms) p1 p2 (by omega)
    (fun k h1 h2 => ?_) (fun k h1 h2 hk => ?_)
  · refine key X.prog X.w X.xe _ ?_
    have e : Ob.lexAt (fun k => if k = 0 then decide (i = j) else decide (ns = ms)) (fun k => if k = 0 then decide (i < j) else HT.lexLt ns ms) (decide ((#[Value.int i t1, Value.ref p] : Array Value).size < (#[Value.int j t2, Value.ref q] : Array Value).size)) 0 (min (#[Value.int i t1, Value.ref p] : Array Value).size (#[Value.int j t2, Value.ref q] : Array Value).size) = pairLt i j ns ms := by
      show Ob.lexAt _ _ (decide (2 < 2)) 0 2 = _
      rw [Ob.lexAt_succ, Ob.lexAt_succ, Ob.lexAt_zero]
      unfold pairLt
      by_cases c1 : i = j
      · subst c1
        by_cases c2 : ns = ms
        · subst c2
          simp [lex_self]
        · simp [c2]
      · simp [c1]
    rw [e]
    exact ⟨.bl _, H, I, rfl, k⟩
  · match k, h1 with
    | 0, _ =>
      have := EqAt.int_int (A := X.A.in1) (s := s) i t1 j t2
      have e : (i == j) = decide (i = j) := rfl
      rw [e] at this
      simpa using this
    | 1, _ =>
      have := eqAt_ints I hp hq hA
      simpa using this
    | k + 2, h1 => exact absurd h1 (by simp)
  · match k, h1 with
    | 0, _ => exact Ob.RcOp.lt_int i j t1 t2
    | 1, _ =>
      intro prog w E Q' hQ
      exact HT.lt_tupInts e1 e2 (intsAre_of v1) (intsAre_of v2) (by omega) hQ
    | k + 2, h1 => exact absurd h1 (by simp)
end
end Gd
namespace Gd
open PySem PySem.Spec PyProof.Rows L2
/-- xs != [] -/
def rNeNil (K : PySem.W.Frag) : R2 := fun x y H Q => ∃ (a b : Addr) (xs : List V), x = .ref a ∧ y = .ref b ∧ SqL K H a xs ∧ SqL K H b [] ∧ Q (.bl (!xs.isEmpty)) H
theorem op_neNil {X : Cx} (hu : X.A.units < cLine) : OpR X (compareOp .NotEq) (rNeNil X.K) := by
  intro pins s σ H x y v u Q I rx ry h
  obtain ⟨a, b, xs, rfl, rfl, ha, hb, q⟩ := h
  cases rx
  cases ry
  obtain ⟨its, r1, p1, _⟩ := I.list ha
  obtain ⟨its2, r2, p2, _⟩ := I.list hb
  cases r2
  cases r1 with
  | nil => exact PySem.SeqAt.RcNeAt.lists (e := fun _ => true) p1.isList p2.isList rfl hu (fun j h1 _ => absurd h1 (Nat.not_lt_zero _)) _ _ _ _ ⟨.bl false, H, I, rfl, q⟩
  | cons r t => exact PySem.SeqAt.RcNeAt.lists_lengths p1.isList p2.isList rfl hu _ _ _ _ ⟨.bl true, H, I, rfl, q⟩
end Gd

set_option Elab.async false
set_option linter.all false
set_option maxRecDepth 100000
set_option maxHeartbeats 4000000
/-! Tuples of which it is known that they have no dict: so their methods can be called. -/
namespace Gd
open PySem PySem.Spec PyProof.Rows L2
def TupX (K : PySem.W.Frag) (H : Hp) (a : Addr) (xs : List V) : Prop := (∃ o : Obj, H a = some (.frz o (.tup xs)) ∧ o.dict = none) ∨
  ∃ (o : Obj) (its : Array Value) (n : Nat), K.lookup a = some o ∧ o.cls = .type "tuple" ∧ o.dict = none ∧ o.data = .seq its n ∧ its.size ≤ sizeLine ∧ Vals xs its.toList
theorem TupX.sq {K : PySem.W.Frag} {H : Hp} {a : Addr} {xs : List V} (h : TupX K H a xs) : SqT K H a xs := by
  rcases h with ⟨o, h, _⟩ | ⟨o, its, n, h, c, _, r⟩
  · exact .inl (.inr ⟨o, h⟩)
  · exact .inr ⟨o, its, n, h, c, r⟩
theorem TupX.ext {K : PySem.W.Frag} {H H' : Hp} {a : Addr} {xs : List V} (e : ∀ b o, H b = some o → H' b = some o) (h : TupX K H a xs) : TupX K H' a xs := by
  rcases h with ⟨o, h, d⟩ | h
  · exact .inl ⟨o, e _ _ h, d⟩
  · exact .inr h
theorem TupX.new {K : PySem.W.Frag} {H : Hp} {p : Addr} {xs : List V} {o : Obj} (d : o.dict = none) : TupX K (upd H p (.frz o (.tup xs))) p xs := .inl ⟨o, upd_same, d⟩
section
variable {X : Cx} {pins : List (Addr × Obj)} {σ : L2.St} {H : Hp} {s : Shared}
theorem TupX.is {a : Addr} {xs : List V} (I : Inv X pins σ H s) (h : TupX X.K H a xs) : s.TypeIs (.ref a) "tuple" ∧ ∀ b, Value.ref a = .ref b → ∃ ob, s.heap.get? b = some ob ∧ ob.dict = none := by
  rcases h with ⟨o, h, d⟩ | ⟨o, its, n, h, c, d, _⟩
  · obtain ⟨e, _, its, _, ob, e2, c, _⟩ := I.hok a _ h
    rw [e] at e2
    cases e2
    exact ⟨⟨o, e, c⟩, fun b z => by cases z; exact ⟨o, e, d⟩⟩
  · exact ⟨⟨o, I.kIn _ o h, c⟩, fun b z => by cases z; exact ⟨o, I.kIn _ o h, d⟩⟩
/-- t.m(..) of such a tuple -/
def tBMT (K : PySem.W.Frag) (r : V → List V → Hp → VK → Prop) (to : TE) (t : TA) : TE := fun σ H Q => to σ H fun x H1 => (∃ a xs, x = .ref a ∧ TupX K H1 a xs) ∧ t σ H1 fun xs H2 => r x xs H2 Q
theorem pe_bmT {o e : Expr} {es : List Expr} {to : TE} {t : TA} {name : Str} {apos cpos : Pos} {id : String} {r : V → List V → Hp → VK → Prop} (pa : PlainAttrs "tuple") (slot : Slot "tuple" name id) (hty : typeOf (.builtin id) = pure (.type "method_descriptor")) (hm : MtR X id r) (ho : PE X o to) (ha : PA X (e :: es) t)
    (hbase : attributeBase o name X.env (eval o X.env) = eval o X.env := by rfl)
    (hfew : ((backTo cpos (starEach (e :: es) X.env)).all (fun x => !x.1) && (backToKw cpos (keywordEach [] X.env)).all (fun x => x.1.isSome)
      && decide ((e :: es).length + ([] : List Keyword).length + (if ([] : List Keyword).isEmpty then 0 else 1) < 30)) = true := by rfl)
    (hline : (apos.endLine == cpos.line) = true := by rfl) (hs : starEach (e :: es) X.env = (false, eval e X.env) :: starEach es X.env := by rfl) (hplain : (backTo cpos (starEach es X.env)).any (·.1) = false := by rfl) :
    PE X (.Call (.Attribute o name apos) (e :: es) [] cpos) (tBMT X.K r to t) := by
  refine ⟨fun pins s σ H Q I h => ?_⟩
  refine wpAny_Call_method_late hbase hfew hline rfl (thn (ho.run pins s σ H _ I h) fun v s1 ⟨x, H1, I1, r1, ⟨a, xs, ex, hx⟩, q1⟩ => ?_)
  subst ex
  cases r1
  obtain ⟨h1, h2⟩ := TupX.is I1 hx
  refine ⟨"tuple", id, pa, slot, hty, h1, h2, ?_⟩
  have hA := ha.run cpos pins s1 σ H1 _ I1 q1
  rw [hs] at hA ⊢
  refine Calls.callWith_builtin (by show (false || (backTo cpos (starEach es X.env)).any (·.1)) = false; rw [hplain] <;> rfl) (Calls.evalArgs_plain ?_)
  exact thn hA fun us s2 ⟨vs, H2, I2, r2, q2⟩ => hm pins s2 σ H2 (.ref a) vs (.ref a) us Q I2 rfl r2 q2
/-! making them -/
def tTupX (t : TA) : TE := fun σ H Q => t σ H fun xs H1 => xs.length ≤ sizeLine ∧ ∀ p o, H1 p = none → o.dict = none → Q (.ref p) (upd H1 p (.frz o (.tup xs)))
theorem pe_tupX {es : List Expr} {t : TA} {pos : Pos} {x1} (h : PA X es t) : PE X (.Tuple es x1 pos) (tTupX t) := by
  refine ⟨fun pins s σ H Q I hq => ?_⟩
  refine wpAny_Tuple_spliced (thn (h.run pos pins s σ H _ I hq) fun us s1 ⟨xs, H1, I1, r, z, q⟩ => ⟨by rw [← r.length]; exact z, ?_⟩)
  have hf : H1 s1.heap.objs.size = none := I1.hok.fresh (Nat.le_refl _)
  refine ⟨.ref s1.heap.objs.size, upd H1 s1.heap.objs.size (.frz { cls := .type "tuple", data := .seq us.toArray } (.tup xs)), I1.laid (t' := s1.toks) (fun b u e => Heap.get?_push_of_some _ e) (Nat.le_refl _) ?_, rfl, q _ _ hf rfl⟩
  exact ⟨Heap.get?_push_size _ rfl, z, us, r, ⟨_, Heap.get?_push_size _ rfl, rfl, _, rfl⟩⟩
def rTupX (K : PySem.W.Frag) : List V → Hp → VK → Prop := fun xs H Q => ∃ p ys, xs = [.ref p] ∧ ((SqL K H p ys ∧ ∀ l o, H l = none → o.dict = none → Q (.ref l) (upd H l (.frz o (.tup ys)))) ∨ (SqT K H p ys ∧ Q (.ref p) H))
theorem call_tupX : CallR X (.type "tuple") (rTupX X.K) := by
  intro pins s σ H xs us Q I r h
  obtain ⟨p, ys, rfl, h⟩ := h
  obtain ⟨u, rfl, rx⟩ := vals1 r
  cases rx
  rcases h with ⟨hq, q⟩ | ⟨hq, q⟩
  · obtain ⟨its, r', pl, hz⟩ := I.list hq
    have hlen := r'.length
    refine call_tuple_list pl.isList (fun h' kp => ?_) (by simp only [List.size_toArray] <;> omega)
    have I1 : Inv X pins σ H { s with heap := h' } := I.kept (t' := s.toks) kp
    have I2 : Inv X pins σ (upd H h'.objs.size (.frz { cls := .type "tuple", data := .seq its.toArray } (.tup ys))) { s with heap := h'.push { cls := .type "tuple", data := .seq its.toArray } } :=
      I1.laid (t' := s.toks) (fun b o e => Heap.get?_push_of_some _ e) (Nat.le_refl _) (show ObjOk X.prog X.w _ _ _ (.frz _ (.tup ys)) from ⟨Heap.get?_push_size _ rfl, hz, its, r', IsTup.new _ _⟩)
    exact ⟨.ref h'.objs.size, _, I2, rfl, q _ _ (I1.hok.fresh (Nat.le_refl _)) rfl⟩
  · obtain ⟨its, r', pl, hz⟩ := I.tuple hq
    exact call_tuple_same pl ⟨.ref p, H, I, rfl, q⟩
def rCatX (K : PySem.W.Frag) : R2 := fun x y H Q => ∃ a b xs ys, x = .ref a ∧ y = .ref b ∧ TupX K H a xs ∧ TupX K H b ys ∧ xs.length + ys.length ≤ sizeLine ∧ ∀ H' p, L2.Ext H H' → TupX K H' p (xs ++ ys) → Q (.ref p) H'
theorem op_catX : OpR X (binaryOp .Add) (rCatX X.K) := by
  intro pins s σ H x y v u Q I rx ry h
  obtain ⟨a, b, xs, ys, rfl, rfl, ha, hb, hz, q⟩ := h
  cases rx
  cases ry
  obtain ⟨its, r1, p1, _⟩ := I.tuple ha.sq
  obtain ⟨its2, r2, p2, _⟩ := I.tuple hb.sq
  by_cases hx : xs = []
  · subst hx
    cases r1
    exact cat_tup0 p1 p2 ⟨.ref b, H, I, rfl, q H b (fun _ _ z => z) hb⟩
  · refine HT.cat_tup p1 p2 (fun z => hx (r1.nil_iff.mp z)) (fun z => ⟨.ref a, H, I, rfl, q H a (fun _ _ z => z) (by rw [r2.nil_iff.mp z, List.append_nil]; exact ha)⟩) (fun z => ?_) (by rw [← r1.length, ← r2.length]; exact hz)
    refine ⟨.ref s.heap.objs.size, _, I.laid (t' := s.toks) (o := .frz { cls := .type "tuple", data := .seq (its ++ its2).toArray } (.tup (xs ++ ys))) (fun b ob q => Heap.get?_push_of_some _ q) (Nat.le_refl _) ?_, rfl, q _ _ ?_ (TupX.new rfl)⟩
    · exact ⟨Heap.get?_push_size _ rfl, by rw [List.length_append]; exact hz, _, r1.append r2, IsTup.new _ _⟩
    · intro b o q
      rw [upd_ne (ne_of_none q (I.hok.fresh (Nat.le_refl _)))]
      exact q
end
theorem g_tupX {t : TA} {σ : L2.St} {H : Hp} {Q : VK} (k : t σ H fun xs H1 => xs.length ≤ sizeLine ∧ ∀ p o, H1 p = none → o.dict = none → Q (.ref p) (upd H1 p (.frz o (.tup xs)))) : tTupX t σ H Q := k
theorem g_bmT {K : PySem.W.Frag} {r : V → List V → Hp → VK → Prop} {to : TE} {t : TA} {σ : L2.St} {H : Hp} {Q : VK} (k : to σ H fun x H1 => (∃ a xs, x = .ref a ∧ TupX K H1 a xs) ∧ t σ H1 fun xs H2 => r x xs H2 Q) : tBMT K r to t σ H Q := k
end Gd

set_option Elab.async false
set_option linter.all false
set_option maxRecDepth 100000
set_option maxHeartbeats 4000000
/-! xs[::-1] of a list; xs == [] ; the greatest of a tuple. -/
namespace Gd
open PySem PySem.Spec PyProof.Rows L2
section
variable {X : Cx}
def tRevL (K : PySem.W.Frag) (te : TE) : TE := fun σ H Q => te σ H fun x H1 => ∃ a xs, x = .ref a ∧ SqL K H1 a xs ∧ ∀ p, H1 p = none → Q (.ref p) (upd H1 p (.lst xs.reverse))
theorem pe_revL {e : Expr} {te : TE} {k : Nat} {p1 p2 p3 pos : Pos} (he : PE X e te) : PE X (.Subscript e (.Slice none none (some (.UnaryOp .USub (.Constant (.int 1) k p1) p2)) p3) pos) (tRevL X.K te) := by
  constructor
  intro pins s σ H Q I h
  refine Subscript_ (thn (he.run pins s σ H _ I h) fun v s1 ⟨x, H1, I1, r1, a, xs, ex, hx, q⟩ => ?_)
  subst ex
  cases r1
  have step : PO X (some (.UnaryOp .USub (.Constant (.int 1) k p1) p2)) (tPart (tUn (rU fun i => .int (-i)) (tC (.int 1)))) := po_some (pe_un un_neg pe_int)
  refine wpAny_Slice (thn (po_none.run pins s1 σ H1 (fun o G => o = none ∧ G = H1) I1 ⟨rfl, rfl⟩) fun vl s2 ⟨l, G, I2, pl, el, eG⟩ => ?_)
  subst el eG
  refine thn (po_none.run pins s2 σ G (fun o G2 => o = none ∧ G2 = G) I2 ⟨rfl, rfl⟩) fun vu s3 ⟨u, G2, I3, pu, eu, eG2⟩ => ?_
  subst eu eG2
  refine thn (step.run pins s3 σ G2 (fun o G3 => o = some (-1) ∧ G3 = G2) I3 ⟨1, rfl, -1, rfl, rfl, rfl⟩) fun vs s4 ⟨o, G3, I4, ps, eo, eG3⟩ => ?_
  subst eo eG3
  let sh : Shared := { s4 with heap := s4.heap.push { cls := .type "slice", data := .fields #[vl, vu, vs] } }
  have J : Inv X pins σ G3 sh := I4.kept (t' := s4.toks) fun b ob z => Heap.get?_push_of_some _ z
  obtain ⟨its, r, ht, hz⟩ := J.list hx
  have hlen := r.length
  show wpAny (model X.prog X.w) X.A (subscriptTail e (.Slice none none (some (.UnaryOp .USub (.Constant (.int 1) k p1) p2)) p3) (.ref a) (.ref s4.heap.objs.size)) (EP X pins σ Q) X.xe sh
  refine tail_any (ops := [.ref a, .ref s4.heap.objs.size]) ht.isList.typeIs (PySem.F.slot_list_getitem.lookup) ?_ (by with_unfolding_all rfl)
  refine wpAny_getItem_list_slice ht.isList (Heap.IsSliceOf.new _ vl vu vs) pl pu ps (by decide) ?_ (by rw [List.size_toArray]; omega)
  rw [PySem.W.krv_pick]
  refine ⟨.ref _, _, J.laid (t' := s4.toks) (o := .lst xs.reverse) (fun b ob z => Heap.get?_push_of_some _ z) (Nat.le_refl _) ?_, rfl, q _ (J.hok.fresh (Nat.le_refl _))⟩
  exact ⟨by rw [List.length_reverse]; exact hz, _, 0, r.reverse, Heap.get?_push_size _ rfl⟩
/-- xs == [] -/
def rEqNil (K : PySem.W.Frag) : R2 := fun x y H Q => ∃ (a b : Addr) (xs : List V), x = .ref a ∧ y = .ref b ∧ SqL K H a xs ∧ SqL K H b [] ∧ Q (.bl xs.isEmpty) H
theorem op_eqNil (hu : X.A.units < cLine) : OpR X (compareOp .Eq) (rEqNil X.K) := by
  intro pins s σ H x y v u Q I rx ry h
  obtain ⟨a, b, xs, rfl, rfl, ha, hb, q⟩ := h
  cases rx
  cases ry
  obtain ⟨its, r1, p1, _⟩ := I.list ha
  obtain ⟨its2, r2, p2, _⟩ := I.list hb
  cases r2
  cases r1 with
  | nil => exact PySem.SeqAt.RcAt.lists (e := fun _ => true) p1.isList p2.isList rfl hu (fun j h1 _ => absurd h1 (Nat.not_lt_zero _)) _ _ _ _ ⟨.bl true, H, I, rfl, q⟩
  | cons r t => exact PySem.SeqAt.RcAt.lists_lengths p1.isList p2.isList rfl hu _ _ _ _ ⟨.bl false, H, I, rfl, q⟩
end
section
variable {prog : Program} {w : World} {A : Around} {E : Value → Shared → Prop} {s : Shared} {l : Addr} {xs : Array (Int × Tok)}
theorem max_tup {Q : Value → Shared → Prop} (hh : A.handled = none) (hl : s.heap.IsTuple l (intItems xs)) (hne : 0 < xs.size)
    (h : ∀ v h' tk, (intItems xs)[argBest (fun i j => decide (numAt xs i > numAt xs j)) (xs.size - 1)]? = some v → (∀ b o, s.heap.get? b = some o → h'.get? b = some o) → Q v { s with heap := h', toks := tk }) :
    wpAny (model prog w) A (call (.builtin "max") [.ref l]) Q E s := by
  have hlt : l < s.heap.objs.size := by obtain ⟨_, e, _⟩ := hl; exact Heap.lt_size e
  refine call_max_walk (wpAny_pyIter_tuple hl ?_)
  refine ⟨_, _, _, _, _, _, _, rfl, Walks.tuple (A := A.in1) hh _ l (Nat.ne_of_lt hlt) (intItems xs), ⟨⟨_, Heap.get?_push_size _ rfl, rfl, rfl⟩, hl.push _⟩, fun b hb => ?_, by simpa [intItems] using hne, CmpOf.ints_gt (numAt xs) (fun _ _ => intItems_at), fun v h' tk hP hk => ?_⟩
  · show b < (s.heap.push _).objs.size
    rw [Heap.size_push]
    rcases List.mem_cons.mp hb with rfl | hb
    · exact Nat.lt_succ_self _
    · rcases List.mem_cons.mp hb with rfl | hb
      · exact Nat.lt_succ_of_lt hlt
      · cases hb
  · refine h v h' tk (by simpa [intItems] using hP) fun b o e => hk b o (fun hm => ?_) (Heap.get?_push_of_some _ e)
    rcases List.mem_cons.mp hm with e1 | hm
    · exact absurd (e1 ▸ Heap.lt_size e) (Nat.lt_irrefl _)
    · cases hm
theorem max_tup_raw {its : List Value} {ns : List Int} {Q : Value → Shared → Prop} (hh : A.handled = none) (hl : s.heap.IsTuple l its.toArray) (hi : IntsAre its ns) (hne : 0 < ns.length)
    (h : ∀ h' tk M t', (∀ b o, s.heap.get? b = some o → h'.get? b = some o) → M ∈ ns → (∀ a, a ∈ ns → a ≤ M) → Q (.int M t') { s with heap := h', toks := tk }) : wpAny (model prog w) A (call (.builtin "max") [.ref l]) Q E s := by
  obtain ⟨xs, e⟩ := hi.allInts.items
  have hn : numsOf (intItems xs).toList = ns := by rw [← e]; exact hi.numsOf
  rw [nums_intItems] at hn
  subst hn
  rw [e] at hl
  have hsz : 0 < xs.size := by simpa using hne
  refine max_tup hh hl hsz fun v h' tk hv hk => ?_
  obtain ⟨t, rfl⟩ := intItems_at hv
  obtain ⟨h1, h2⟩ := argBest_gt (numAt xs) (xs.size - 1)
  refine h h' tk _ t hk ?_ fun a ha => ?_
  · rw [numAt_eq]; exact PySem.getD_mem (by rw [List.length_map, Array.length_toList]; omega)
  · obtain ⟨j, hj, rfl⟩ := mem_getD ha
    rw [List.length_map, Array.length_toList] at hj
    rw [← numAt_eq]; exact h2 j (by omega)
end
section
variable {X : Cx}
/-- max(t) of a tuple of ints -/
def rMaxT (K : PySem.W.Frag) : List V → Hp → VK → Prop := fun vs H Q => ∃ (a : Addr) (ns : List Int), vs = [V.ref a] ∧ SqT K H a (ns.map V.int) ∧ 0 < ns.length ∧ ∀ m, m ∈ ns → (∀ y, y ∈ ns → y ≤ m) → Q (.int m) H
theorem cr_maxT (hc : X.calm = true) : CallR X (.builtin "max") (rMaxT X.K) := by
  intro pins s σ H vs us Q I r h
  obtain ⟨a, ns, rfl, hs, hne, q⟩ := h
  obtain ⟨its, rv, hl, _⟩ := I.tuple hs
  rw [Vals.ref1 r]
  exact max_tup_raw (I.ok.hd hc) hl (intsAre_of rv) hne fun h' tk m t' hk h1 h2 => ⟨.int _, H, I.kept hk, ⟨_, rfl⟩, q m h1 h2⟩
end
end Gd

set_option Elab.async false
set_option linter.all false
set_option maxRecDepth 100000
set_option maxHeartbeats 4000000
/-! An object of an own class walked, whose __iter__ hands on a tuple's iterator. -/
namespace Gd
open PySem PySem.Spec PyProof.Rows L2
section
variable {P : Program} {w : World} {H : Hp} {h : Heap} {it t : Addr} {n : Nat}
theorem forget_ok (hn : H it = none) : ∀ (o : HO) (a : Addr), ObjOk P w (upd H it (TitO t it n)) h a o → ObjOk P w H h a o
  | .lst _, _, x => x
  | .tup _, _, x => x
  | .dK _, _, x => x
  | .dT kvs, a, x => by
    obtain ⟨h1, h2, xs, p, r⟩ := x
    refine ⟨h1, h2, xs, L2.Paired.mapP p (fun a b q => ⟨q.1, ?_, q.2.2⟩), r⟩
    by_cases e : b.2.1 = it
    · have := q.2.1
      rw [e, upd_same] at this
      cases this
    · have := q.2.1
      rw [upd_ne e] at this
      exact this
  | .set _ _, _, x => x
  | .ins C dx fs, a, x => by
    obtain ⟨h1, r⟩ := x
    refine ⟨?_, r⟩
    by_cases e : dx = it
    · rw [e, upd_same] at h1
      cases h1
    · rw [upd_ne e] at h1
      exact h1
  | .own _, _, x => x
  | .xd _, _, x => x
  | .rng _ _, _, x => x
  | .frz o u, a, x => ⟨x.1, forget_ok hn u a x.2⟩
  | .tbl _, _, x => x
  | .met _ _, _, x => x
  | .ext _, _, x => x
end
section
variable {X : Cx} {pins : List (Addr × Obj)} {σ : L2.St} {H : Hp} {s : Shared} {it t : Addr} {n : Nat}
theorem forget (hn : H it = none) (I : Inv X pins σ (upd H it (TitO t it n)) s) : Inv X pins σ H s := by
  have ne : ∀ {b : Addr} {o : HO}, H b = some o → b ≠ it := fun q => ne_of_none q hn
  have no : ∀ {b : Addr}, upd H it (TitO t it n) b = none → H b = none := fun {b} q => by
    by_cases e : b = it
    · rw [e]
      exact hn
    · rw [upd_ne e] at q
      exact q
  refine ⟨I.ok, I.os, I.bare, ?_, I.loc, I.cell, no I.free, fun x c e => no (I.freeC x c e), fun p hp => ?_, fun a o e => ?_, I.len⟩
  · refine ⟨I.base.keep, I.base.slot, fun b o q1 q2 q3 => no (I.base.free b o q1 q2 q3), I.base.there, fun b xs q => ?_, fun b o u q => ?_, fun b ps q => ?_⟩
    · have := I.base.tups b xs q
      by_cases e : b = it
      · rw [e, upd_same] at this
        cases this
      · rw [upd_ne e] at this
        exact this
    · have := I.base.frzs b o u q
      by_cases e : b = it
      · rw [e, upd_same] at this
        cases this
      · rw [upd_ne e] at this
        exact this
    · obtain ⟨more, this⟩ := I.base.tbls b ps q
      refine ⟨more, ?_⟩
      by_cases e : b = it
      · rw [e, upd_same] at this
        cases this
      · rw [upd_ne e] at this
        exact this
  · obtain ⟨h1, h2, r⟩ := I.pin p hp
    exact ⟨h1, no h2, r⟩
  · refine forget_ok hn o a (I.hok a o ?_)
    rw [upd_ne (ne e)]
    exact e
/-- iter(t), t a tuple: the iterator is younger than all that is known -/
def rIterN (K : PySem.W.Frag) : List V → Hp → VK → Prop := fun xs H Q => ∃ (t : Addr) (ys : List V), xs = [.ref t] ∧ SqT K H t ys ∧ ∀ it, H it = none → (∀ a o, H a = some o → a < it) → Q (.ref it) (upd H it (TitO t it 0))
theorem call_iterN : CallR X (.builtin "iter") (rIterN X.K) := by
  intro pins s σ H xs us Q I r h
  obtain ⟨t, ys, rfl, hq, q⟩ := h
  obtain rfl := Vals.ref1 r
  obtain ⟨its, rv, pl, hz⟩ := I.tuple hq
  refine Calls.call_function_entry (by decide +kernel) (by decide +kernel) PySem.W.kdk_entry_iter (PySem.W.kdk_args_iter _) ?_
  unfold Builtin.«iter»
  refine wpAny_bind (m := someArgs "iter" 1 2 _) (wpAny_of_eq (a := [Value.ref t]) (by first | rfl | kernel_rfl!) ?_)
  show wpAny _ _ (pyIter (.ref t) >>= _) _ _ _
  refine wpAny_bind (wpAny_pyIter_tuple (isTuple_of pl) ?_)
  refine wpAny_pure ⟨_, rfl, ?_⟩
  have nw : H s.heap.objs.size = none := I.hok.fresh (Nat.le_refl _)
  refine ⟨.ref s.heap.objs.size, _, I.laid (t' := s.toks) (fun b u e => Heap.get?_push_of_some _ e) (Nat.le_refl _) (tit_ok ⟨_, Heap.get?_push_size _ rfl, rfl, rfl⟩), rfl, q _ nw fun a o e => (I.hok a o e).lt⟩
/-- a list that is younger than the def's entry -/
def tLstN (N : Nat) (t : TA) : TE := fun σ H Q => t σ H fun xs H1 => xs.length ≤ sizeLine ∧ ∀ p, H1 p = none → N ≤ p → Q (.ref p) (upd H1 p (.lst xs))
theorem pe_lstN {es : List Expr} {t : TA} {pos : Pos} (h : PA X es t) : PE X (.List es pos) (tLstN X.s_0.heap.objs.size t) := by
  refine ⟨fun pins s σ H Q I hq => ?_⟩
  refine wpAny_List_spliced (thn (h.run pos pins s σ H _ I hq) fun us s1 ⟨xs, H1, I1, r, z, q⟩ => ⟨by rw [← r.length]; exact z, ?_⟩)
  have hf : H1 s1.heap.objs.size = none := I1.hok.fresh (Nat.le_refl _)
  refine ⟨.ref s1.heap.objs.size, upd H1 s1.heap.objs.size (.lst xs), I1.laid (t' := s1.toks) (fun b u e => Heap.get?_push_of_some _ e) (Nat.le_refl _) ?_, rfl, q _ hf I1.sz⟩
  exact ⟨z, us, 0, r, Heap.get?_push_size _ rfl⟩
/-- what __iter__ promises -/
def spItN (K : PySem.W.Frag) (R : Addr → Addr → List V → Hp → Prop) : Sp := fun vs H Q _ => ∃ a t ys, vs = [.ref a] ∧ R a t ys H ∧ SqT K H t ys ∧ ∀ it, H it = none → (∀ a o, H a = some o → a < it) → Q (.ref it) (upd H it (TitO t it 0))
/-- an object walked, while something younger than the def's entry is known -/
def iOwn (K : PySem.W.Frag) (C : Addr) (N : Nat) (R : Addr → Addr → List V → Hp → Prop) (te : TE) : TI := fun σ H R' => te σ H fun x H1 => ∃ a dx fs t ys z oz, x = .ref a ∧ H1 a = some (.ins C dx fs) ∧ R a t ys H1 ∧ SqT K H1 t ys ∧ H1 z = some oz ∧ N ≤ z ∧ R' (Itt K t) H1
theorem pi_own {C fi : Addr} {k : Nat} {fdI : FuncData} {psI : List Str} {R : Addr → Addr → List V → Hp → Prop} {tg e : Expr} {te : TE} (M : Meth X.K C "__iter__" fi)
    (FI : FnOk X.prog X.w X.K X.mg X.base CX0 k fi fdI psI (spItN X.K R)) (bI : Binds X.K fdI psI []) (hr : Room k X.A) (he : PE X e te) : PI X tg e (iOwn X.K C X.s_0.heap.objs.size R te) := by
  refine ⟨fun pins s σ H R' I h => ?_⟩
  refine thn (he.run pins s σ H _ I h) fun v s1 ⟨x, H1, I1, r1, a, dx, fs, t, ys, z, oz, ex, ha, hR, ht, hz, hN, q⟩ => ?_
  subst ex
  cases r1
  obtain ⟨od, J⟩ := seen I1 ha
  obtain ⟨m0, hF⟩ := I1.fr
  refine PySem.W.owit_iter hF I1.ok.mod.kin J M.at_ M.fn ?_
  have hsp : spItN X.K R [.ref a] H1 (fun v H' => ∃ it, v = .ref it ∧ H1 it = none ∧ (∀ b o, H1 b = some o → b < it) ∧ H' = upd H1 it (TitO t it 0)) (fun _ _ _ => False) := ⟨a, t, ys, rfl, hR, ht, fun it n l => ⟨it, rfl, n, l, rfl⟩⟩
  have hl := FI.len _ _ _ _ hsp
  have r2 : Vals [V.ref a] [Value.ref a] := .cons rfl .nil
  refine wpAny_call (codeAny_mono (FI.run X.A X.stack _ H1 ⟨[.ref a], []⟩ [.ref a] [.ref a] _ (fun _ _ _ => False) hr I1.env0 (by
    have := bI _ [.ref a] I1.kIn (by simpa using hl)
    simpa using this) r2 hsp) ?_)
  intro r s' hq'
  match r, hq' with
  | .error e, hq' => exact hq'.elim
  | .ok .next, hq' => exact False.elim hq'
  | .ok .brk, hq' => exact False.elim hq'
  | .ok .cont, hq' => exact False.elim hq'
  | .ok (.ret u), hq' =>
    obtain ⟨v, H3, I3, rv3, it, rfl, itn, low, rfl⟩ := I1.after hq'
    cases rv3
    have hit : upd H1 it (TitO t it 0) it = some (TitO t it 0) := upd_same
    have T : s'.heap.IsTupleIter it t 0 := (I3.hok it _ hit).1
    show PySem.W.OwitIt _ _ _ _ _ _
    unfold PySem.W.OwitIt
    refine wpAny_specialOf (Heap.IsTupleIter.typeIs T) PySem.F.slot_tuple_iterator_next.lookup ?_
    show PIE X pins σ tg R' (.ref it) s'
    have Hz := low z oz hz
    refine ⟨it, [it], _, _, H1, rfl, forget itn I3, turn_tuple t it, T, fun b hb => ?_, q⟩
    have e : b = it := by simpa using hb
    subst e
    refine ⟨itn, fun e2 => ?_, fun hb2 => ?_, .inr (Nat.le_of_lt (Nat.lt_of_le_of_lt hN Hz)), fun x c e2 e3 => ?_, fun p hp e2 => ?_⟩
    · have := I3.free
      rw [← e2, hit] at this
      cases this
    · obtain ⟨_, o, ho, _⟩ := I1.ok.funs.mem hb2
      exact absurd (Nat.lt_of_lt_of_le (Heap.lt_size ho) (Nat.le_trans hN (Nat.le_of_lt Hz))) (Nat.lt_irrefl _)
    · have := I3.freeC x c e2
      rw [e3, hit] at this
      cases this
    · have := (I3.pin p hp).2.1
      rw [e2, hit] at this
      cases this
end
end Gd

set_option Elab.async false
set_option linter.all false
set_option maxRecDepth 100000
set_option maxHeartbeats 4000000
/-! Readings, step by step: one lemma a word of the readings, and a tactic that goes as far as nothing is asked. -/
namespace Gd
open PySem PySem.Spec PyProof.Rows L2
section
variable {σ : L2.St} {H : Hp} {Q : VK} {QA : List V → Hp → Prop} {QT : Bool → Hp → Prop} {D : Ends} {te ta tb tc to : TE} {t u : TT} {tr : TA} {s1 s2 : TS} {v : V} {i : Nat} {K : PySem.W.Frag}
theorem g_var (h : σ[i]? = some (some v)) (k : Q v H) : tVar i σ H Q := ⟨v, h, k⟩
theorem g_c (k : Q v H) : tC v σ H Q := k
theorem g_ret (k : te σ H D.rt) : tRet te D σ H := k
theorem g_retN (k : D.rt .non H) : tRetN D σ H := k
theorem g_seq (k : s1 { D with nx := s2 D } σ H) : tSeq s1 s2 D σ H := k
theorem g_next (k : D.nx σ H) : tNext D σ H := k
theorem g_drop (k : te σ H fun _ H1 => D.nx σ H1) : tDrop te D σ H := k
theorem g_asg {g : TG} (k : te σ H fun x H1 => g x σ H1 D.nx) : tAsg te g D σ H := k
theorem g_name {Qs : L2.St → Hp → Prop} (k : Qs (σ.set i (some v)) H) : gName i v σ H Qs := k
theorem g_ifs (k : t σ H fun b H1 => if b = true then s1 D σ H1 else s2 D σ H1) : tIfS t s1 s2 D σ H := k
theorem g_test (k : te σ H fun x H' => ∃ c, x = .bl c ∧ QT c H') : tTest te σ H QT := k
theorem g_tb (k : te σ H fun x H' => ∃ c, x = .bl c ∧ QT c H') : tB te σ H QT := k
theorem g_and (k : t σ H fun c H1 => if c = true then u σ H1 QT else QT false H1) : tAnd t u σ H QT := k
theorem g_or (k : t σ H fun c H1 => if c = true then QT true H1 else u σ H1 QT) : tOr t u σ H QT := k
theorem g_not (k : t σ H fun c H1 => QT (!c) H1) : tNot t σ H QT := k
theorem g_andV (k : ta σ H fun x H1 => ∃ c, x = .bl c ∧ if c = true then tb σ H1 Q else Q (.bl false) H1) : tAndV ta tb σ H Q := k
theorem g_orV (k : ta σ H fun x H1 => ∃ c, x = .bl c ∧ if c = true then Q (.bl true) H1 else tb σ H1 Q) : tOrV ta tb σ H Q := k
theorem g_notV (k : ta σ H fun x H1 => ∃ c, x = .bl c ∧ Q (.bl (!c)) H1) : tNotV ta σ H Q := k
theorem g_if (k : t σ H fun c H1 => if c = true then ta σ H1 Q else tb σ H1 Q) : tIf t ta tb σ H Q := k
theorem g_op {r : R2} (k : ta σ H fun x H1 => tb σ H1 fun y H2 => r x y H2 Q) : tOp r ta tb σ H Q := k
theorem g_un {r : V → Hp → VK → Prop} (k : ta σ H fun x H1 => r x H1 Q) : tUn r ta σ H Q := k
theorem g_cb {r : List V → Hp → VK → Prop} (k : tr σ H fun vs H1 => r vs H1 Q) : tCB r tr σ H Q := k
theorem g_nil (k : QA [] H) : tNil σ H QA := k
theorem g_cons (k : ta σ H fun x H1 => tr σ H1 fun xs H2 => QA (x :: xs) H2) : tCons ta tr σ H QA := k
theorem g_call {sp : Sp} {dvs : List V} {E : XK} (k : tr σ H fun vs H1 => sp (vs ++ dvs) H1 Q E) : tCall sp dvs E tr σ H Q := k
theorem g_callS {sp : Sp} {E : L2.St → XK} (k : tr σ H fun vs H1 => sp vs H1 Q (E σ)) : tCallS sp E tr σ H Q := k
theorem g_tup (k : tr σ H fun xs H1 => xs.length ≤ sizeLine ∧ ∀ p, H1 p = none → Q (.ref p) (upd H1 p (.tup xs))) : tTup tr σ H Q := k
theorem g_lst (k : tr σ H fun xs H1 => xs.length ≤ sizeLine ∧ ∀ p, H1 p = none → Q (.ref p) (upd H1 p (.lst xs))) : tLst tr σ H Q := k
theorem g_isN (k : ta σ H fun x H1 => Q (.bl (decide (x = .non))) H1) : tIsN ta σ H Q := k
theorem g_sl {r : V → Option Int → Option Int → Hp → VK → Prop} {tl th : TO} (k : te σ H fun x H1 => tl σ H1 fun l H2 => th σ H2 fun u H3 => r x l u H3 Q) : tSl r te tl th σ H Q := k
theorem g_nopart {Qo : Option Int → Hp → Prop} (k : Qo none H) : tNoPart σ H Qo := k
theorem g_part {Qo : Option Int → Hp → Prop} (k : te σ H fun x H1 => ∃ i, x = .int i ∧ Qo (some i) H1) : tPart te σ H Qo := k
theorem g_chain {r r' : R2} (k : ta σ H fun x H1 => tb σ H1 fun y H2 => r x y H2 fun z H3 => ∃ c, z = .bl c ∧
    if c = true then tc σ H3 fun w H4 => r' y w H4 Q else Q (.bl false) H3) : tChain r r' ta tb tc σ H Q := by
  exact k
theorem g_fld {f : Str} (k : ta σ H fun x H1 => ∃ a C dx fs v, x = .ref a ∧ H1 a = some (.ins C dx fs) ∧ Cls K C ∧ NoAttr K C f ∧ fs.lookup f = some v ∧ Q v H1) : tFld K ta f σ H Q := k
theorem g_prop {C : Addr} {sp : Sp} {dvs : List V} {E : XK} (k : ta σ H fun x H1 => ∃ a dx fs, x = .ref a ∧ H1 a = some (.ins C dx fs) ∧ sp (.ref a :: dvs) H1 Q E) : tProp C sp dvs E ta σ H Q := k
theorem g_bm {T : String} {r : V → List V → Hp → VK → Prop} (k : to σ H fun x H1 => tyV K T x H1 ∧ tr σ H1 fun xs H2 => r x xs H2 Q) : tBM K T r to tr σ H Q := k
theorem g_bm0 {T : String} {r : V → List V → Hp → VK → Prop} (k : to σ H fun x H1 => tyV K T x H1 ∧ r x [] H1 Q) : tBM0 K T r to σ H Q := k
theorem g_tru {r : V → Hp → (Bool → Hp → Prop) → Prop} (k : te σ H fun x H' => r x H' QT) : (fun (σ : L2.St) (H : Hp) (Q : Bool → Hp → Prop) => te σ H fun x H' => r x H' Q) σ H QT := k
-- values
theorem g_I0 {g : Int → Int → V} {a b : Int} (k : Q (g a b) H) : rI0 g (.int a) (.int b) H Q := ⟨a, b, rfl, rfl, k⟩
theorem g_I {C : Int → Int → Prop} {g : Int → Int → V} {a b : Int} (c : C a b) (k : Q (g a b) H) : rI C g (.int a) (.int b) H Q := ⟨a, b, rfl, rfl, c, k⟩
theorem g_U {g : Int → V} {a : Int} (k : Q (g a) H) : rU g (.int a) H Q := ⟨a, rfl, k⟩
theorem g_eqI {a b : Int} (k : Q (.bl (decide (a = b))) H) : rEq (.int a) (.int b) H Q := by
  refine ⟨rfl, ?_⟩
  have e : (V.int a = V.int b) = (a = b) := by simp
  simpa [e] using k
theorem g_eq {x y : V} (s : scal x y = true) (k : Q (.bl (decide (x = y))) H) : rEq x y H Q := ⟨s, k⟩
theorem g_ne {x y : V} (s : scal x y = true) (k : Q (.bl (!decide (x = y))) H) : rNe x y H Q := ⟨s, k⟩
theorem g_bl {b : Bool} (k : QT b H) : ∃ c, (V.bl b) = .bl c ∧ QT c H := ⟨b, rfl, k⟩
theorem g_blV {b : Bool} {A : Bool → Prop} (k : A b) : ∃ c, (V.bl b) = .bl c ∧ A c := ⟨b, rfl, k⟩
theorem g_inV {a : Int} {A : Int → Prop} (k : A a) : ∃ c, (V.int a) = .int c ∧ A c := ⟨a, rfl, k⟩
theorem g_ixT {p : Addr} {xs : List V} {a : Int} (h : SqT K H p xs) (e : atI xs a = some v) (k : Q v H) : rIxT K (.ref p) (.int a) H Q := ⟨p, xs, a, v, rfl, rfl, h, e, k⟩
theorem g_ixL {p : Addr} {xs : List V} {a : Int} (h : SqL K H p xs) (e : atI xs a = some v) (k : Q v H) : rIxL K (.ref p) (.int a) H Q := ⟨p, xs, a, v, rfl, rfl, h, e, k⟩
end

/-- the turn's end: the invariant again, the measure less -/
abbrev Turn (Pv : L2.St → Hp → Prop) (μ : L2.St → Hp → Nat) (m : Nat) : L2.St → Hp → Prop := fun σ' H' => Pv σ' H' ∧ μ σ' H' < m
theorem g_while {c : TT} {tb : TS} {D : Ends} {σ : L2.St} {H : Hp} (Pv : L2.St → Hp → Prop) (μ : L2.St → Hp → Nat) (h0 : Pv σ H)
    (hs : ∀ σ H, Pv σ H → c σ H fun b H1 => if b = true then ∃ N : L2.St → Hp → Prop, (∀ σ' H', N σ' H' → ∃ m', m' < μ σ H ∧ m' = μ σ' H' ∧ Pv σ' H') ∧
      tb { D with nx := N, ct := N, bk := D.nx } σ H1 else D.nx σ H1) : tWhile c tb D σ H := by
  refine ⟨fun m σ H => m = μ σ H ∧ Pv σ H, ⟨_, rfl, h0⟩, ?_⟩
  rintro m σ H ⟨rfl, p⟩
  exact hs σ H p
theorem g_turn {tb : TS} {D : Ends} {σ : L2.St} {H H1 : Hp} {Pv : L2.St → Hp → Prop} {μ : L2.St → Hp → Nat}
    (h : tb { D with nx := Turn Pv μ (μ σ H), ct := Turn Pv μ (μ σ H), bk := D.nx } σ H1) :
    ∃ N : L2.St → Hp → Prop, (∀ σ' H', N σ' H' → ∃ m', m' < μ σ H ∧ m' = μ σ' H' ∧ Pv σ' H') ∧ tb { D with nx := N, ct := N, bk := D.nx } σ H1 :=
  ⟨Turn Pv μ (μ σ H), fun σ' H' n => ⟨_, n.2, rfl, n.1⟩, h⟩
theorem g_aug {σ : L2.St} {H : Hp} {D : Ends} {i : Nat} {te : TE} {ti : TIp} {x : V} (h : σ[i]? = some (some x)) (k : te σ H fun y H1 => ti x y H1 fun z H2 => D.nx (σ.set i (some z)) H2) : tAug i te ti D σ H := ⟨x, h, k⟩
theorem tyT {K : PySem.W.Frag} {H : Hp} {a : Addr} {xs : List V} (h : SqT K H a xs) : TyX K H (.ref a) (.type "tuple") := by
  rcases h with (h | ⟨o, h⟩) | ⟨o, its, n, h, c, _⟩
  · exact .base (.tup h)
  · exact .fTuple h
  · exact .kTuple h c
theorem tyL {K : PySem.W.Frag} {H : Hp} {a : Addr} {xs : List V} (h : SqL K H a xs) : TyX K H (.ref a) (.type "list") ∨ ∃ o, K.lookup a = some o := by
  rcases h with (h | ⟨o, h⟩) | ⟨o, its, n, h, c, _⟩
  · exact .inl (.base (.lst h))
  · exact .inl (.base (.frz h))
  · exact .inr ⟨o, h⟩

theorem g_yes {σ : L2.St} {H : Hp} {Q : Bool → Hp → Prop} (k : Q true H) : tYes σ H Q := k
theorem g_sfld {σ : L2.St} {H : Hp} {D : Ends} {K : PySem.W.Frag} {ta te : TE} {f : Str} (k : te σ H fun y H1 => ta σ H1 fun x H2 => ∃ a C dx fs, x = .ref a ∧ H2 a = some (.ins C dx fs) ∧ Cls K C ∧ NoAttr K C f ∧
    fs.length < 1000 ∧ D.nx σ (upd H2 a (.ins C dx (putF f y fs)))) : sFld K ta te f D σ H := k
theorem g_int1 {a : Int} {A : Int → Prop} (k : A a) : ∃ i, [V.int a] = [V.int i] ∧ A i := ⟨a, rfl, k⟩
theorem g_int2 {a b : Int} {A : Int → Int → Prop} (k : A a b) : ∃ i j, [V.int a, V.int b] = [V.int i, V.int j] ∧ A i j := ⟨a, b, rfl, k⟩
theorem g_sub {σ : L2.St} {H : Hp} {Qs : L2.St → Hp → Prop} {to ti : TE} {t : TSet} {v : V} (k : to σ H fun o H1 => ti σ H1 fun i H2 => t o i v H2 fun H3 => Qs σ H3) : gSub to ti t v σ H Qs := k
theorem g_NT {A B : Prop} (h : B) : if (!true) = true then A else B := h
theorem g_NF {A B : Prop} (h : A) : if (!false) = true then A else B := h
end Gd

set_option Elab.async false
set_option linter.all false
set_option maxRecDepth 100000
set_option maxHeartbeats 4000000
/-! More readings. -/
namespace Gd
open PySem PySem.Spec PyProof.Rows L2
theorem g_forR {ta : TA} {g : TG} {tb : TS} {D : Ends} {σ : L2.St} {H : Hp} (k : ta σ H fun vs H1 => ∃ j : Int, vs = [.int j] ∧ -(2 ^ 62) ≤ j ∧ j < 2 ^ 62 ∧ ∃ W : Nat → Nat → L2.St → Hp → Prop, (∃ m, W 0 m σ H1) ∧ ∀ i m σ H, W i m σ H →
  ((Itr 0 j.toNat).stop i H ∧ D.nx σ H) ∨ ((Itr 0 j.toNat).go i H ∧ ∃ N : L2.St → Hp → Prop, (∀ σ' H', N σ' H' → ∃ m', m' < m ∧ W (i + 1) m' σ' H') ∧ ∀ x H', (Itr 0 j.toNat).yld i H x H' → g x σ H' fun σ2 H2 => tb { D with nx := N, ct := N, bk := D.nx } σ2 H2)) :
    tFor (iRng1 ta) g tb D σ H := k
theorem g_ifV {c : Bool} {ta tb : TE} {σ : L2.St} {H : Hp} {Q : VK} (v : V) (ha : c = true → ∀ Q' : VK, Q' v H → ta σ H Q') (hb : c = false → ∀ Q' : VK, Q' v H → tb σ H Q') (k : Q v H) : if c = true then ta σ H Q else tb σ H Q := by
  cases c with
  | true => exact ha rfl Q k
  | false => exact hb rfl Q k
theorem g_neS {x : Str} {H : Hp} {Q : VK} (k : Q (.bl false) H) : rNe (.str x) (.str x) H Q := ⟨rfl, by simpa using k⟩
theorem g_ixO {C : Addr} {sp : Sp} {E : L2.St → XK} {ta tb : TE} {σ : L2.St} {H : Hp} {Q : VK} (k : ta σ H fun x H1 => tb σ H1 fun y H2 => ∃ p dx fs, x = .ref p ∧ H2 p = some (.ins C dx fs) ∧ sp [x, y] H2 Q (E σ)) : tIxO C sp E ta tb σ H Q := k
/-- a place that is reached from more than one side -/
theorem g_cut {s1 s2 : TS} {D : Ends} {σ : L2.St} {H : Hp} (N : L2.St → Hp → Prop) (hN : ∀ σ' H', N σ' H' → s2 D σ' H') (k : (∀ σ' H', N σ' H' → s2 D σ' H') → s1 { D with nx := s2 D } σ H) : tSeq s1 s2 D σ H := k hN
theorem g_eqS {x : Str} {H : Hp} {Q : VK} (k : Q (.bl true) H) : rEq (.str x) (.str x) H Q := ⟨rfl, by simpa using k⟩
theorem g_par {i j : Nat} {ta : TA} {D : Ends} {σ : L2.St} {H : Hp} (k : ta σ H fun vs H1 => ∃ v w, vs = [v, w] ∧ D.nx ((σ.set i (some v)).set j (some w)) H1) : tPar i j ta D σ H := k
theorem g_make {C : Addr} {sp : Sp} {dvs : List V} {E : XK} {t : TA} {σ : L2.St} {H : Hp} {Q : VK} (k : t σ H fun vs H1 => ∀ x dx, H1 x = none → H1 dx = none → dx ≠ x →
  sp (.ref x :: (vs ++ dvs)) (upd (upd H1 dx (.own x)) x (.ins C dx [])) (fun v H2 => v = .non ∧ Q (.ref x) H2) E) : tMake C sp dvs E t σ H Q := k
end Gd

set_option Elab.async false
set_option linter.all false
set_option maxRecDepth 100000
set_option maxHeartbeats 4000000
/-! Readings by name, for the bodies of comprehensions. -/
namespace Gd
open PySem PySem.Spec PyProof.Rows L2
def rLenS (K : PySem.W.Frag) : List V → Hp → VK → Prop := fun xs H Q => ∃ p ys, xs = [.ref p] ∧ (SqL K H p ys ∨ SqT K H p ys) ∧ Q (.int (ys.length : Int)) H
def rListOf (K : PySem.W.Frag) : List V → Hp → VK → Prop := fun xs H Q => ∃ p ys, xs = [.ref p] ∧ (SqL K H p ys ∨ SqT K H p ys) ∧ ∀ l, H l = none → Q (.ref l) (upd H l (.lst ys))
def rTupOf (K : PySem.W.Frag) : List V → Hp → VK → Prop := fun xs H Q => ∃ p ys, xs = [.ref p] ∧ ((SqL K H p ys ∧ ∀ l, H l = none → Q (.ref l) (upd H l (.tup ys))) ∨ (SqT K H p ys ∧ Q (.ref p) H))
theorem call_lenS {X : Cx} : CallR X (.builtin "len") (rLenS X.K) := call_len_seq
theorem call_listS {X : Cx} : CallR X (.type "list") (rListOf X.K) := call_list_of
theorem call_tupS {X : Cx} : CallR X (.type "tuple") (rTupOf X.K) := call_tuple_of
end Gd

set_option Elab.async false
set_option linter.all false
set_option maxRecDepth 100000
set_option maxHeartbeats 4000000
/-! Heaps that grow; comprehensions told as maps. -/
namespace Q0
open PySem PySem.Spec PyProof.Rows L2 Gd
open LamX (ExtN)
local macro_rules | `(tactic| walk_at "rd1") => `(tactic| first | with_reducible refine g_ret ?_ | with_reducible refine g_retN ?_ | with_reducible refine g_seq ?_ | with_reducible refine g_next ?_ | with_reducible refine g_drop ?_ | with_reducible refine g_asg ?_ | with_reducible refine g_name ?_ | with_reducible refine g_ifs ?_ | with_reducible refine g_test ?_ | with_reducible refine g_tb ?_ | with_reducible refine g_and ?_ | with_reducible refine g_or ?_ | with_reducible refine g_not ?_ | with_reducible refine g_andV ?_ | with_reducible refine g_orV ?_ | with_reducible refine g_notV ?_ | with_reducible refine g_if ?_ | with_reducible refine g_op ?_ | with_reducible refine g_un ?_ | with_reducible refine g_cb ?_ | with_reducible refine g_nil ?_ | with_reducible refine g_cons ?_ | with_reducible refine g_call ?_ | with_reducible refine g_callS ?_ | with_reducible refine g_tup ?_ | with_reducible refine g_lst ?_ | with_reducible refine g_isN ?_ | with_reducible refine g_sl ?_ | with_reducible refine g_nopart ?_ | with_reducible refine g_part ?_ | with_reducible refine g_chain ?_ | with_reducible refine g_fld ?_ | with_reducible refine g_prop ?_ | with_reducible refine g_bm ?_ | with_reducible refine g_bm0 ?_ | with_reducible refine g_c ?_ | with_reducible refine g_sub ?_ | with_reducible refine g_int1 ?_ | with_reducible refine g_int2 ?_ | with_reducible refine g_yes ?_ | with_reducible refine g_sfld ?_ | with_reducible refine g_NT ?_ | with_reducible refine g_NF ?_ | with_reducible refine iteT ?_ | with_reducible refine iteF ?_ | ((with_reducible refine' g_aug ?hv ?_); (case hv => exact rfl)) | ((with_reducible refine' g_var ?hv ?_); (case hv => exact rfl)) | with_reducible refine g_I0 ?_ | with_reducible refine g_U ?_ | with_reducible refine g_eqI ?_ | with_reducible refine g_blV ?_ | with_reducible refine g_inV ?_)
local macro_rules | `(tactic| walk_at "rd") => `(tactic| repeat walk_at "rd1")
def Ext (H H' : Hp) : Prop := ∀ b o, H b = some o → H' b = some o
theorem Ext.rfl' {H : Hp} : Ext H H := fun _ _ h => h
theorem Ext.new {H : Hp} {p : Addr} {o : HO} (h : H p = none) : Ext H (upd H p o) := fun b u e => by
  rw [upd_ne (ne_of_none e h)]
  exact e
theorem Ext.trans {H H1 H2 : Hp} (a : Ext H H1) (b : Ext H1 H2) : Ext H H2 := fun c o h => b c o (a c o h)
def ExtBut (p : Addr) (H H' : Hp) : Prop := ∀ b o, b ≠ p → H b = some o → H' b = some o
theorem ExtBut.trans {d : Addr} {H H1 H2 : Hp} (a : ExtBut d H H1) (b : ExtBut d H1 H2) : ExtBut d H H2 := fun x o n h => b x o n (a x o n h)
theorem ExtBut.of {d : Addr} {H H1 : Hp} (a : Ext H H1) : ExtBut d H H1 := fun x o _ h => a x o h
section
variable {K : PySem.W.Frag} {H H' : Hp} {a d : Addr} {xs ys : List V}
theorem sqT_ext (e : Ext H H') (h : SqT K H a xs) : SqT K H' a xs := by
  rcases h with (h | ⟨o, h⟩) | h
  · exact .inl (.inl (e _ _ h))
  · exact .inl (.inr ⟨o, e _ _ h⟩)
  · exact .inr h
theorem sqL_ext (e : Ext H H') (h : SqL K H a xs) : SqL K H' a xs := by
  rcases h with (h | ⟨o, h⟩) | h
  · exact .inl (.inl (e _ _ h))
  · exact .inl (.inr ⟨o, e _ _ h⟩)
  · exact .inr h
theorem sqT_but (e : ExtBut d H H') (n : a ≠ d) (h : SqT K H a xs) : SqT K H' a xs := by
  rcases h with (h | ⟨o, h⟩) | h
  · exact .inl (.inl (e _ _ n h))
  · exact .inl (.inr ⟨o, e _ _ n h⟩)
  · exact .inr h
theorem sqL_but (e : ExtBut d H H') (n : a ≠ d) (h : SqL K H a xs) : SqL K H' a xs := by
  rcases h with (h | ⟨o, h⟩) | h
  · exact .inl (.inl (e _ _ n h))
  · exact .inl (.inr ⟨o, e _ _ n h⟩)
  · exact .inr h
/-- a tuple beside a list that changes -/
theorem sqT_butL (hd : H d = some (.lst ys)) (e : ExtBut d H H') (h : SqT K H a xs) : SqT K H' a xs := by
  rcases h with (h | ⟨o, h⟩) | h
  · exact .inl (.inl (e _ _ (fun z => by rw [z, hd] at h; cases h) h))
  · exact .inl (.inr ⟨o, e _ _ (fun z => by rw [z, hd] at h; cases h) h⟩)
  · exact .inr h
theorem new_ne {o : HO} (h : H a = some o) (n : H d = none) : d ≠ a := fun z => by
  rw [z, h] at n
  cases n
theorem new_up (e : Ext H H') (h : H' d = none) : H d = none := by
  cases q : H d with
  | none => rfl
  | some o =>
    have := e _ _ q
    rw [h] at this
    cases this
theorem mapget {α : Type} {ns : List α} {f : α → V} {i : Nat} : (ns.map f)[i]? = (ns[i]?).map f := List.getElem?_map
end
/-! ### comprehensions -/
section
variable {J : It} {n : Nat} {G : Hp → Prop} {Y : Nat → Hp → V → Hp → Prop} {g : TG} {tt : TT} {te : TE} {vs : List Nat} {σ : L2.St} {H1 : Hp} {D : Addr} {Qd : Hp → Prop}
/-- the indices that are taken -/
def idx (c : Nat → Bool) (n : Nat) : List Nat := (List.range n).filter c
theorem idx_succ (c : Nat → Bool) (n : Nat) : idx c (n + 1) = if c n then idx c n ++ [n] else idx c n := by
  unfold idx
  rw [List.range_succ, List.filter_append]
  cases h : c n <;> simp [h]
theorem idx_len (c : Nat → Bool) (n : Nat) : (idx c n).length ≤ n := by
  have := List.length_filter_le c (List.range n)
  rw [List.length_range] at this
  exact this
/-- results that stand in a relation to the turn -/
def Rel (R : Nat → V → Hp → Prop) (is : List Nat) (ys : List V) (H : Hp) : Prop := is.length = ys.length ∧ ∀ (j i : Nat) (y : V), is[j]? = some i → ys[j]? = some y → R i y H
/-- what a relation says stays where nothing but lists at one place change -/
def Mono (R : Nat → V → Hp → Prop) : Prop := ∀ i y D ys H H', (H D = none ∨ H D = some (.lst ys)) → ExtBut D H H' → R i y H → R i y H'
theorem Mono.ext {R : Nat → V → Hp → Prop} (mono : Mono R) {i : Nat} {y : V} {H H' : Hp} (e : Ext H H') (h : R i y H) (D : Addr) (ys : List V) (hd : H D = none ∨ H D = some (.lst ys)) : R i y H' := mono i y D ys H H' hd (ExtBut.of e) h
theorem Rel.ext {R : Nat → V → Hp → Prop} (mono : ∀ i y H H', Ext H H' → R i y H → R i y H') {is : List Nat} {ys : List V} {H H' : Hp} (e : Ext H H') (h : Rel R is ys H) : Rel R is ys H' := ⟨h.1, fun j i y a b => mono i y H H' e (h.2 j i y a b)⟩
theorem Rel.snoc {R : Nat → V → Hp → Prop} {is : List Nat} {ys : List V} {H : Hp} {i : Nat} {y : V} (h : Rel R is ys H) (hy : R i y H) : Rel R (is ++ [i]) (ys ++ [y]) H := by
  refine ⟨by rw [List.length_append, List.length_append, h.1]; rfl, fun j i' y' a b => ?_⟩
  by_cases hj : j < is.length
  · rw [List.getElem?_append_left hj] at a
    rw [List.getElem?_append_left (by rw [← h.1]; exact hj)] at b
    exact h.2 j i' y' a b
  · rw [List.getElem?_append_right (by omega)] at a
    rw [List.getElem?_append_right (by rw [← h.1]; omega), ← h.1] at b
    cases q : j - is.length with
    | zero =>
      rw [q] at a b
      cases a
      cases b
      exact hy
    | succ m =>
      rw [q] at a
      cases a
theorem lc_rel (w : Walk J n G Y) (R : Nat → V → Hp → Prop) (c : Nat → Bool) (mono : Mono R) (hD : H1 D = none) (hG : ∀ H', Ext H1 H' → G H') (sz : n < sizeLine)
    (body : ∀ i x H' H'', i < n → Ext H1 H' → Y i H' x H'' → ∀ (Qe : VK) (Qn : Hp → Prop), (∀ y H3, Ext H' H3 → R i y H3 → c i = true → Qe y H3) → (∀ H3, Ext H' H3 → c i = false → Qn H3) →
      g x (wipe σ vs) H'' fun σ2 H2 => wipe σ2 vs = wipe σ vs ∧ tt σ2 H2 fun b H3 => if b = true then te σ2 H3 Qe else Qn H3)
    (k : ∀ H' ys, Ext H1 H' → H' D = some (.lst ys) → Rel R (idx c n) ys H' → Qd H') :
    ∃ W : Nat → Nat → Hp → Prop, (∃ m, W 0 m (upd H1 D (.lst []))) ∧ ∀ i m H, W i m H →
      (J.stop i H ∧ Qd H) ∨ (J.go i H ∧ ∃ Nx : Hp → Prop, (∀ H', Nx H' → ∃ m', m' < m ∧ W (i + 1) m' H') ∧ ∀ x H', J.yld i H x H' → g x (wipe σ vs) H' fun σ2 H2 => wipe σ2 vs = wipe σ vs ∧ tt σ2 H2 fun b H3 =>
        if b = true then te σ2 H3 fun y H4 => ∃ acc, H4 D = some (.lst acc) ∧ acc.length < sizeLine ∧ Nx (upd H4 D (.lst (acc ++ [y]))) else Nx H3) := by
  refine lc_it w (fun i H' => ∃ ys, Ext H1 H' ∧ H' D = some (.lst ys) ∧ Rel R (idx c i) ys H') ⟨[], Ext.new hD, upd_same, rfl, fun j i y h => by cases h⟩ (fun i H' _ ⟨ys, e, _⟩ => hG H' e) ?_ ?_
  · rintro i x H' H'' hi ⟨ys, e, hd, hr⟩ hy
    have hys : ys.length < sizeLine := by
      have := idx_len c i
      have := hr.1
      omega
    refine body i x H' H'' hi e hy _ _ (fun y H3 e3 hR hc => ⟨ys, e3 _ _ hd, hys, ys ++ [y], ?_, upd_same, ?_⟩) (fun H3 e3 hc => ⟨ys, Ext.trans e e3, e3 _ _ hd, ?_⟩)
    · intro b o q
      rw [upd_ne (ne_of_none q hD)]
      exact e3 _ _ (e b o q)
    · rw [idx_succ, hc, if_pos rfl]
      have h3 : H3 D = some (.lst ys) := e3 _ _ hd
      have eB : ExtBut D H3 (upd H3 D (.lst (ys ++ [y]))) := fun b o n q => by
        rw [upd_ne n]
        exact q
      refine Rel.snoc ⟨hr.1, fun j i' y' a b => ?_⟩ (mono _ _ D ys _ _ (.inr h3) eB hR)
      exact mono _ _ D ys _ _ (.inr h3) eB (mono _ _ D ys _ _ (.inr hd) (ExtBut.of e3) (hr.2 j i' y' a b))
    · rw [idx_succ, hc, if_neg (by decide)]
      exact ⟨hr.1, fun j i' y' a b => mono _ _ D ys _ _ (.inr hd) (ExtBut.of e3) (hr.2 j i' y' a b)⟩
  · rintro H' ⟨ys, e, hd, hr⟩
    exact k H' ys e hd hr
theorem mono_fun (f : Nat → V) : Mono (fun i y _ => y = f i) := fun _ _ _ _ _ _ _ _ h => h
theorem rel_fun {f : Nat → V} {is : List Nat} {ys : List V} {H : Hp} (h : Rel (fun i y _ => y = f i) is ys H) : ys = is.map f := by
  refine List.ext_getElem? fun j => ?_
  rw [List.getElem?_map]
  cases a : is[j]? with
  | none =>
    have := List.getElem?_eq_none_iff.mp a
    rw [h.1] at this
    rw [List.getElem?_eq_none_iff.mpr this]
    rfl
  | some i =>
    have hj := (List.getElem?_eq_some_iff.mp a).1
    rw [h.1] at hj
    rw [List.getElem?_eq_getElem hj]
    exact congrArg some (h.2 j i _ a (List.getElem?_eq_getElem hj))
theorem idx_all (n : Nat) : idx (fun _ => true) n = List.range n := by
  unfold idx
  simp
/-- over the items of a list: taken ones, changed -/
theorem idx_items' {α β : Type} (xs : List α) (z : α) (c : α → Bool) (f : α → β) : (idx (fun i => c (xs.getD i z)) xs.length).map (fun i => f (xs.getD i z)) = (xs.filter c).map f := by
  unfold idx
  induction xs with
  | nil => rfl
  | cons x r ih =>
    rw [List.length_cons, List.range_succ_eq_map, List.filter_cons, List.filter_cons]
    have e1 : ((x :: r).getD 0 z) = x := rfl
    rw [e1]
    have e2 : (List.filter (fun i => c ((x :: r).getD i z)) (List.map Nat.succ (List.range r.length))) = (List.filter (fun i => c (r.getD i z)) (List.range r.length)).map Nat.succ := by
      rw [List.filter_map]
      rfl
    rw [e2]
    have e3 : List.map (fun i => f ((x :: r).getD i z)) (List.map Nat.succ (List.filter (fun i => c (r.getD i z)) (List.range r.length))) = (r.filter c).map f := by
      rw [List.map_map, ← ih]
      rfl
    split
    · rw [List.map_cons, List.map_cons, e3]
      rfl
    · exact e3
theorem idx_items (xs : List V) (c : V → Bool) (f : V → V) : (idx (fun i => c (xs.getD i .non)) xs.length).map (fun i => f (xs.getD i .non)) = (xs.filter c).map f := idx_items' xs .non c f
section
variable {K : PySem.W.Frag} {Q : VK}
/-- what a comprehension over J asks, told of its turns -/
def LcG (J : It) (g : TG) (tt : TT) (te : TE) (vs : List Nat) (σ : L2.St) (H1 : Hp) (Q : VK) : Prop := ∀ D, H1 D = none → ∃ W : Nat → Nat → Hp → Prop, (∃ m, W 0 m (upd H1 D (.lst []))) ∧ ∀ i m H, W i m H →
      (J.stop i H ∧ Q (.ref D) H) ∨ (J.go i H ∧ ∃ Nx : Hp → Prop, (∀ H', Nx H' → ∃ m', m' < m ∧ W (i + 1) m' H') ∧ ∀ x H', J.yld i H x H' → g x (wipe σ vs) H' fun σ2 H2 => wipe σ2 vs = wipe σ vs ∧ tt σ2 H2 fun b H3 =>
        if b = true then te σ2 H3 fun y H4 => ∃ acc, H4 D = some (.lst acc) ∧ acc.length < sizeLine ∧ Nx (upd H4 D (.lst (acc ++ [y]))) else Nx H3)
theorem lcT {a : Addr} {xs : List V} (hs : SqT K H1 a xs) (sz : xs.length < sizeLine) (c : V → Bool) (f : V → V)
    (body : ∀ x H', x ∈ xs → Ext H1 H' → ∀ (Qe : VK) (Qn : Hp → Prop), (∀ H3, Ext H' H3 → c x = true → Qe (f x) H3) → (∀ H3, Ext H' H3 → c x = false → Qn H3) →
      g x (wipe σ vs) H' fun σ2 H2 => wipe σ2 vs = wipe σ vs ∧ tt σ2 H2 fun b H3 => if b = true then te σ2 H3 Qe else Qn H3)
    (k : ∀ H' D, Ext H1 H' → H1 D = none → H' D = some (.lst ((xs.filter c).map f)) → Q (.ref D) H') :
    ∃ a', V.ref a = .ref a' ∧ (∃ xs, SqT K H1 a' xs) ∧ LcG (Itt K a') g tt te vs σ H1 Q := by
  refine ⟨a, rfl, ⟨_, hs⟩, fun D hD => lc_rel walk_tup (fun i y _ => y = f (xs.getD i .non)) (fun i => c (xs.getD i .non)) (mono_fun fun i => f (xs.getD i .non)) hD (fun H' e => sqT_ext e hs) sz (fun i x H' H'' hi e hy Qe Qn he hn => ?_) (fun H' ys e hd hr => ?_)⟩
  · obtain ⟨rfl, hx⟩ := hy
    have ex : xs.getD i .non = x := by rw [List.getD_eq_getElem?_getD, hx]; rfl
    refine body x _ (List.mem_of_getElem? hx) e Qe Qn (fun H3 e3 hc => he _ H3 e3 (by rw [ex]) (by rw [ex]; exact hc)) (fun H3 e3 hc => hn H3 e3 (by rw [ex]; exact hc))
  · have := rel_fun hr
    rw [idx_items] at this
    rw [this] at hd
    exact k H' D e hD hd
theorem lcL {a : Addr} {xs : List V} (hs : SqL K H1 a xs) (sz : xs.length < sizeLine) (c : V → Bool) (f : V → V)
    (body : ∀ x H', x ∈ xs → Ext H1 H' → ∀ (Qe : VK) (Qn : Hp → Prop), (∀ H3, Ext H' H3 → c x = true → Qe (f x) H3) → (∀ H3, Ext H' H3 → c x = false → Qn H3) →
      g x (wipe σ vs) H' fun σ2 H2 => wipe σ2 vs = wipe σ vs ∧ tt σ2 H2 fun b H3 => if b = true then te σ2 H3 Qe else Qn H3)
    (k : ∀ H' D, Ext H1 H' → H1 D = none → H' D = some (.lst ((xs.filter c).map f)) → Q (.ref D) H') :
    ∃ a', V.ref a = .ref a' ∧ (∃ xs, SqL K H1 a' xs) ∧ LcG (Itl K a') g tt te vs σ H1 Q := by
  refine ⟨a, rfl, ⟨_, hs⟩, fun D hD => lc_rel walk_list (fun i y _ => y = f (xs.getD i .non)) (fun i => c (xs.getD i .non)) (mono_fun fun i => f (xs.getD i .non)) hD (fun H' e => sqL_ext e hs) sz (fun i x H' H'' hi e hy Qe Qn he hn => ?_) (fun H' ys e hd hr => ?_)⟩
  · obtain ⟨rfl, hx⟩ := hy
    have ex : xs.getD i .non = x := by rw [List.getD_eq_getElem?_getD, hx]; rfl
    refine body x _ (List.mem_of_getElem? hx) e Qe Qn (fun H3 e3 hc => he _ H3 e3 (by rw [ex]) (by rw [ex]; exact hc)) (fun H3 e3 hc => hn H3 e3 (by rw [ex]; exact hc))
  · have := rel_fun hr
    rw [idx_items] at this
    rw [this] at hd
    exact k H' D e hD hd
/-- over a range: the turn's number is lo + i -/
theorem lcR {lo : Int} {n : Nat} (sz : n < sizeLine) (c : Nat → Bool) (f : Nat → V)
    (body : ∀ (i : Nat) H', i < n → Ext H1 H' → ∀ (Qe : VK) (Qn : Hp → Prop), (∀ H3, Ext H' H3 → c i = true → Qe (f i) H3) → (∀ H3, Ext H' H3 → c i = false → Qn H3) →
      g (.int (lo + i)) (wipe σ vs) H' fun σ2 H2 => wipe σ2 vs = wipe σ vs ∧ tt σ2 H2 fun b H3 => if b = true then te σ2 H3 Qe else Qn H3)
    (k : ∀ H' D, Ext H1 H' → H1 D = none → H' D = some (.lst ((idx c n).map f)) → Q (.ref D) H') : LcG (Itr lo n) g tt te vs σ H1 Q := by
  refine fun D hD => lc_rel walk_range (fun i y _ => y = f i) c (mono_fun f) hD (fun H' e => True.intro) sz (fun i x H' H'' hi e hy Qe Qn he hn => ?_) (fun H' ys e hd hr => ?_)
  · obtain ⟨rfl, rfl⟩ := hy
    exact body i _ hi e Qe Qn (fun H3 e3 hc => he _ H3 e3 rfl hc) hn
  · rw [rel_fun hr] at hd
    exact k H' D e hD hd
theorem lcRC {lo st : Int} {n : Nat} (sz : n < sizeLine) (c : Nat → Bool) (f : Nat → V)
    (body : ∀ (i : Nat) H', i < n → Ext H1 H' → ∀ (Qe : VK) (Qn : Hp → Prop), (∀ H3, Ext H' H3 → c i = true → Qe (f i) H3) → (∀ H3, Ext H' H3 → c i = false → Qn H3) →
      g (.int (lo + (i : Nat) * st)) (wipe σ vs) H' fun σ2 H2 => wipe σ2 vs = wipe σ vs ∧ tt σ2 H2 fun b H3 => if b = true then te σ2 H3 Qe else Qn H3)
    (k : ∀ H' D, Ext H1 H' → H1 D = none → H' D = some (.lst ((idx c n).map f)) → Q (.ref D) H') : LcG (Itc lo st n) g tt te vs σ H1 Q := by
  refine fun D hD => lc_rel walk_rangeC (fun i y _ => y = f i) c (mono_fun f) hD (fun H' e => True.intro) sz (fun i x H' H'' hi e hy Qe Qn he hn => ?_) (fun H' ys e hd hr => ?_)
  · obtain ⟨rfl, rfl⟩ := hy
    exact body i _ hi e Qe Qn (fun H3 e3 hc => he _ H3 e3 rfl hc) hn
  · rw [rel_fun hr] at hd
    exact k H' D e hD hd
/-! pairs -/
theorem walk_enumT {a : Addr} {xs : List V} : Walk (IteT K a) xs.length (fun H => SqT K H a xs) (YPair (fun i => some (.int (i : Nat))) (fun i => xs[i]?)) := by
  refine ⟨fun i _ hi q => ⟨xs, xs[i], q, by simp [hi]⟩, fun _ q => ⟨xs, q, rfl⟩, fun i H v H' _ q y => ?_⟩
  obtain ⟨T, x, h1, h2, h3, h4⟩ := y
  exact ⟨T, .int (i : Nat), x, h1, h2, h3, rfl, h4 xs q⟩
theorem sqE_ext {l : Bool} {H H' : Hp} {a : Addr} {xs : List V} (e : Ext H H') (h : SqE K l H a xs) : SqE K l H' a xs := by
  cases l with
  | true => exact sqL_ext e h
  | false => exact sqT_ext e h
theorem walk_zipE {l1 l2 : Bool} {a b : Addr} {xs ys : List V} : Walk (ItzE K l1 l2 a b) (min xs.length ys.length) (fun H => SqE K l1 H a xs ∧ SqE K l2 H b ys) (YPair (fun i => xs[i]?) (fun i => ys[i]?)) := by
  refine ⟨fun i _ hi q => ?_, fun _ q => ⟨xs, ys, q.1, q.2, rfl⟩, fun i H v H' _ q y => ?_⟩
  · have h1 : i < xs.length := by omega
    have h2 : i < ys.length := by omega
    exact ⟨xs, ys, xs[i], ys[i], q.1, q.2, by simp [h1], by simp [h2]⟩
  · obtain ⟨T, x, z, h1, h2, h3, h4, h5⟩ := y
    exact ⟨T, x, z, h1, h2, h3, h4 xs q.1, h5 ys q.2⟩
/-- a walk that gives pairs, into two names -/
theorem lcP {J : It} {n : Nat} {G : Hp → Prop} {px py : Nat → Option V} {i1 i2 : Nat} (w : Walk J n G (YPair px py)) (hG : ∀ H', Ext H1 H' → G H') (sz : n < sizeLine) (c : Nat → Bool) (f : Nat → V)
    (body : ∀ (i : Nat) x y H', i < n → px i = some x → py i = some y → Ext H1 H' → ∀ (Qe : VK) (Qn : Hp → Prop), (∀ H3, Ext H' H3 → c i = true → Qe (f i) H3) → (∀ H3, Ext H' H3 → c i = false → Qn H3) →
      wipe (((wipe σ vs).set i1 (some x)).set i2 (some y)) vs = wipe σ vs ∧ tt (((wipe σ vs).set i1 (some x)).set i2 (some y)) H' fun b H3 => if b = true then te (((wipe σ vs).set i1 (some x)).set i2 (some y)) H3 Qe else Qn H3)
    (k : ∀ H' D, Ext H1 H' → H1 D = none → H' D = some (.lst ((idx c n).map f)) → Q (.ref D) H') : LcG J (gTup K 2 (gCons (gName i1) (gCons (gName i2) gNil))) tt te vs σ H1 Q := by
  refine fun D hD => lc_rel w (fun i y _ => y = f i) c (mono_fun f) hD hG sz (fun i x H' H'' hi e hy Qe Qn he hn => ?_) (fun H' ys e hd hr => ?_)
  · obtain ⟨T, x, y, rfl, hT, rfl, hx, hy⟩ := hy
    have eT := Ext.new (o := HO.tup [x, y]) hT
    refine ⟨T, _, rfl, SqT.of upd_same, rfl, _, _, rfl, ?_⟩
    refine ⟨_, _, rfl, rfl, ?_⟩
    exact body i x y _ hi hx hy (Ext.trans e eT) Qe Qn (fun H3 e3 hc => he _ H3 (Ext.trans eT e3) rfl hc) (fun H3 e3 hc => hn H3 (Ext.trans eT e3) hc)
  · rw [rel_fun hr] at hd
    exact k H' D e hD hd
theorem zip_items (xs ys : List V) (c : V → V → Bool) (f : V → V → V) : (idx (fun i => c (xs.getD i .non) (ys.getD i .non)) (min xs.length ys.length)).map (fun i => f (xs.getD i .non) (ys.getD i .non)) = ((xs.zip ys).filter fun p => c p.1 p.2).map fun p => f p.1 p.2 := by
  have e := idx_items' (xs.zip ys) (V.non, V.non) (fun p => c p.1 p.2) (fun p => f p.1 p.2)
  rw [List.length_zip] at e
  rw [← e]
  unfold idx
  have hz : ∀ i, i < min xs.length ys.length → (xs.zip ys).getD i (V.non, V.non) = (xs.getD i .non, ys.getD i .non) := fun i hi => by
    have h1 : i < xs.length := by omega
    have h2 : i < ys.length := by omega
    have hl : i < (xs.zip ys).length := by rw [List.length_zip]; exact hi
    rw [List.getD_eq_getElem?_getD, List.getElem?_eq_getElem hl, List.getElem_zip, List.getD_eq_getElem?_getD, List.getElem?_eq_getElem h1, List.getD_eq_getElem?_getD, List.getElem?_eq_getElem h2]
    rfl
  have hf : (List.range (min xs.length ys.length)).filter (fun i => c (xs.getD i .non) (ys.getD i .non)) = (List.range (min xs.length ys.length)).filter (fun i => c ((xs.zip ys).getD i (V.non, V.non)).1 ((xs.zip ys).getD i (V.non, V.non)).2) := by
    refine List.filter_congr fun i hi => ?_
    rw [hz i (List.mem_range.mp hi)]
  rw [hf]
  refine List.map_congr_left fun i hi => ?_
  rw [hz i (List.mem_range.mp (List.mem_filter.mp hi).1)]
/-- over zip(a, b) -/
theorem lcZ {l1 l2 : Bool} {a b : Addr} {xs ys : List V} {i1 i2 : Nat} (ha : SqE K l1 H1 a xs) (hb : SqE K l2 H1 b ys) (sz : min xs.length ys.length < sizeLine) (c : V → V → Bool) (f : V → V → V)
    (body : ∀ x y H', (x, y) ∈ xs.zip ys → Ext H1 H' → ∀ (Qe : VK) (Qn : Hp → Prop), (∀ H3, Ext H' H3 → c x y = true → Qe (f x y) H3) → (∀ H3, Ext H' H3 → c x y = false → Qn H3) →
      wipe (((wipe σ vs).set i1 (some x)).set i2 (some y)) vs = wipe σ vs ∧ tt (((wipe σ vs).set i1 (some x)).set i2 (some y)) H' fun b H3 => if b = true then te (((wipe σ vs).set i1 (some x)).set i2 (some y)) H3 Qe else Qn H3)
    (k : ∀ H' D, Ext H1 H' → H1 D = none → H' D = some (.lst (((xs.zip ys).filter fun p => c p.1 p.2).map fun p => f p.1 p.2)) → Q (.ref D) H') :
    ∃ k1 k2 a' b' xs ys, [V.ref a, V.ref b] = [V.ref a', V.ref b'] ∧ SqE K k1 H1 a' xs ∧ SqE K k2 H1 b' ys ∧ LcG (ItzE K k1 k2 a' b') (gTup K 2 (gCons (gName i1) (gCons (gName i2) gNil))) tt te vs σ H1 Q := by
  refine ⟨l1, l2, a, b, xs, ys, rfl, ha, hb, lcP walk_zipE (fun H' e => ⟨sqE_ext e ha, sqE_ext e hb⟩) sz (fun i => c (xs.getD i .non) (ys.getD i .non)) (fun i => f (xs.getD i .non) (ys.getD i .non)) (fun i x y H' hi hx hy e Qe Qn he hn => ?_) (fun H' D e hD hd => ?_)⟩
  · have ex : xs.getD i .non = x := by rw [List.getD_eq_getElem?_getD, hx]; rfl
    have ey : ys.getD i .non = y := by rw [List.getD_eq_getElem?_getD, hy]; rfl
    have mem : (x, y) ∈ xs.zip ys := List.mem_of_getElem? (i := i) (by rw [List.getElem?_zip_eq_some]; exact ⟨hx, hy⟩)
    refine body x y _ mem e Qe Qn (fun H3 e3 hc => ?_) (fun H3 e3 hc => hn H3 e3 (by rw [ex, ey]; exact hc))
    have := he H3 e3 (by rw [ex, ey]; exact hc)
    rw [ex, ey] at this
    exact this
  · rw [zip_items] at hd
    exact k H' D e hD hd
/-- over enumerate(a) -/
theorem lcE {a : Addr} {xs : List V} {i1 i2 : Nat} (ha : SqT K H1 a xs) (sz : xs.length < sizeLine) (c : Nat → V → Bool) (f : Nat → V → V)
    (body : ∀ (i : Nat) x H', xs[i]? = some x → Ext H1 H' → ∀ (Qe : VK) (Qn : Hp → Prop), (∀ H3, Ext H' H3 → c i x = true → Qe (f i x) H3) → (∀ H3, Ext H' H3 → c i x = false → Qn H3) →
      wipe (((wipe σ vs).set i1 (some (.int (i : Nat)))).set i2 (some x)) vs = wipe σ vs ∧ tt (((wipe σ vs).set i1 (some (.int (i : Nat)))).set i2 (some x)) H' fun b H3 => if b = true then te (((wipe σ vs).set i1 (some (.int (i : Nat)))).set i2 (some x)) H3 Qe else Qn H3)
    (k : ∀ H' D, Ext H1 H' → H1 D = none → H' D = some (.lst ((idx (fun i => c i (xs.getD i .non)) xs.length).map fun i => f i (xs.getD i .non))) → Q (.ref D) H') :
    ∃ t xs, [V.ref a] = [V.ref t] ∧ SqT K H1 t xs ∧ LcG (IteT K t) (gTup K 2 (gCons (gName i1) (gCons (gName i2) gNil))) tt te vs σ H1 Q := by
  refine ⟨a, xs, rfl, ha, lcP walk_enumT (fun H' e => sqT_ext e ha) sz (fun i => c i (xs.getD i .non)) (fun i => f i (xs.getD i .non)) (fun i x y H' hi hx hy e Qe Qn he hn => ?_) k⟩
  cases hx
  have ey : xs.getD i .non = y := by rw [List.getD_eq_getElem?_getD, hy]; rfl
  refine body i y _ hy e Qe Qn (fun H3 e3 hc => ?_) (fun H3 e3 hc => hn H3 e3 (by rw [ey]; exact hc))
  have := he H3 e3 (by rw [ey]; exact hc)
  rw [ey] at this
  exact this
end
end
end Q0

set_option Elab.async false
set_option linter.all false
set_option maxRecDepth 100000
set_option maxHeartbeats 4000000
/-! Defs and methods, their places hidden. -/
namespace Q0
open PySem PySem.Spec PyProof.Rows L2 Gd
local macro_rules | `(tactic| walk_at "rd1") => `(tactic| first | with_reducible refine g_ret ?_ | with_reducible refine g_retN ?_ | with_reducible refine g_seq ?_ | with_reducible refine g_next ?_ | with_reducible refine g_drop ?_ | with_reducible refine g_asg ?_ | with_reducible refine g_name ?_ | with_reducible refine g_ifs ?_ | with_reducible refine g_test ?_ | with_reducible refine g_tb ?_ | with_reducible refine g_and ?_ | with_reducible refine g_or ?_ | with_reducible refine g_not ?_ | with_reducible refine g_andV ?_ | with_reducible refine g_orV ?_ | with_reducible refine g_notV ?_ | with_reducible refine g_if ?_ | with_reducible refine g_op ?_ | with_reducible refine g_un ?_ | with_reducible refine g_cb ?_ | with_reducible refine g_nil ?_ | with_reducible refine g_cons ?_ | with_reducible refine g_call ?_ | with_reducible refine g_callS ?_ | with_reducible refine g_tup ?_ | with_reducible refine g_lst ?_ | with_reducible refine g_isN ?_ | with_reducible refine g_sl ?_ | with_reducible refine g_nopart ?_ | with_reducible refine g_part ?_ | with_reducible refine g_chain ?_ | with_reducible refine g_fld ?_ | with_reducible refine g_prop ?_ | with_reducible refine g_bm ?_ | with_reducible refine g_bm0 ?_ | with_reducible refine g_c ?_ | with_reducible refine g_sub ?_ | with_reducible refine g_int1 ?_ | with_reducible refine g_int2 ?_ | with_reducible refine g_yes ?_ | with_reducible refine g_sfld ?_ | with_reducible refine g_NT ?_ | with_reducible refine g_NF ?_ | with_reducible refine iteT ?_ | with_reducible refine iteF ?_ | ((with_reducible refine' g_aug ?hv ?_); (case hv => exact rfl)) | ((with_reducible refine' g_var ?hv ?_); (case hv => exact rfl)) | with_reducible refine g_I0 ?_ | with_reducible refine g_U ?_ | with_reducible refine g_eqI ?_ | with_reducible refine g_blV ?_ | with_reducible refine g_inV ?_)
local macro_rules | `(tactic| walk_at "rd") => `(tactic| repeat walk_at "rd1")
structure Def1 (P : Program) (w : World) (K : PySem.W.Frag) (mg : Str → Option Value) (base : Heap) (CX : CXT) (k : Nat) (name : Str) (ps : List Str) (sp : Sp) : Prop where
  ex : ∃ (f : Addr) (fd : FuncData), mg name = some (.ref f) ∧ PySem.W.keepIn K (.ref f) = true ∧ FnOk P w K mg base CX k f fd ps sp ∧ Binds K fd ps []
structure Bin1 (P : Program) (w : World) (K : PySem.W.Frag) (mg : Str → Option Value) (base : Heap) (CX : CXT) (k : Nat) (C : Addr) (m r : Str) (sp : Sp) : Prop where
  ex : ∃ (f : Addr) (fd : FuncData), BinC K C m r f ∧ FnOk P w K mg base CX k f fd ["self", "other"] sp ∧ Binds K fd ["self", "other"] []
structure Met1 (P : Program) (w : World) (K : PySem.W.Frag) (mg : Str → Option Value) (base : Heap) (CX : CXT) (k : Nat) (C : Addr) (m : Str) (ps : List Str) (sp : Sp) : Prop where
  ex : ∃ (f : Addr) (fd : FuncData), Meth K C m f ∧ PySem.W.fnIn K f = true ∧ FnOk P w K mg base CX k f fd ps sp ∧ Binds K fd ps []
structure Pro1 (P : Program) (w : World) (K : PySem.W.Frag) (mg : Str → Option Value) (base : Heap) (k : Nat) (C : Addr) (x : Str) (sp : Sp) : Prop where
  ex : ∃ (p f : Addr) (fd : FuncData), PropOf K C x p f ∧ FnOk P w K mg base CX0 k f fd ["self"] sp ∧ Binds K fd ["self"] []
structure Ini1 (P : Program) (w : World) (K : PySem.W.Frag) (mg : Str → Option Value) (base : Heap) (CX : CXT) (k : Nat) (C t0 : Addr) (ps : List Str) (sp : Sp) : Prop where
  ex : ∃ (f : Addr) (fd : FuncData) (ds : List Value), Mk K C f ∧ FnOk P w K mg base CX k f fd ps sp ∧ Binds K fd ps [] ∧ Vals [V.ref t0] ds ∧ Binds K fd ps ds
abbrev X0 : XK := fun _ _ _ => False
section
variable {X : Cx} {CX : CXT} {C t0 : Addr} {k j : Nat} {x m r : Str} {ps : List Str} {sp : Sp} {e a : Expr} {es : List Expr} {t : TA} {ta tb : TE} {p pos apos : Pos}
theorem pe_def (D : Def1 X.prog X.w X.K X.mg X.base CX0 k x ps sp) (hr : Room j X.A) (hj : k ≤ j) (hgl : Gl X x) (ha : PA X (e :: es) t) (hdb : (x == ("__debug__" : Str)) = false := by decide)
    (he : starEach (e :: es) X.env = (false, eval e X.env) :: starEach es X.env := by rfl) (hpl : (backTo pos (starEach es X.env)).any (·.1) = false := by rfl) : PE X (.Call (.Name x p) (e :: es) [] pos) (tCall sp [] X0 t) := by
  obtain ⟨f, fd, hm, hk, F, hb⟩ := D.ex
  exact pe_call F (hr.mono hj) hgl hm hk hb .nil pass0 ha hdb he hpl
theorem pe_defX {E : XK} (D : Def1 X.prog X.w X.K X.mg X.base CX k x ps sp) (hx : Passes CX X E) (hr : Room j X.A) (hj : k ≤ j) (hgl : Gl X x) (ha : PA X (e :: es) t) (hdb : (x == ("__debug__" : Str)) = false := by decide)
    (he : starEach (e :: es) X.env = (false, eval e X.env) :: starEach es X.env := by rfl) (hpl : (backTo pos (starEach es X.env)).any (·.1) = false := by rfl) : PE X (.Call (.Name x p) (e :: es) [] pos) (tCall sp [] E t) := by
  obtain ⟨f, fd, hm, hk, F, hb⟩ := D.ex
  exact pe_call F (hr.mono hj) hgl hm hk hb .nil hx ha hdb he hpl
theorem op_add1 {E : XK} (D : Bin1 X.prog X.w X.K X.mg X.base CX k C "__add__" "__radd__" sp) (hx : ∀ σ, PassesAt CX X σ E) (hr : Room j X.A) (hj : k + 1 ≤ j) : OpR X (binaryOp .Add) (rBinO C sp E) := by
  obtain ⟨f, fd, B, F, hb⟩ := D.ex
  exact op_addO B F (hr.mono hj) hb hx
theorem op_eq1 (D : Met1 X.prog X.w X.K X.mg X.base CX0 k C "__eq__" ["self", "other"] sp) (hr : Room j X.A) (hj : k + 1 ≤ j) : OpR X (compareOp .Eq) (rCmpO X.K C sp X0) := by
  obtain ⟨f, fd, M, _, F, hb⟩ := D.ex
  exact op_eqO M F (hr.mono hj) hb (fun _ => quiet0)
theorem op_lt1 (D : Met1 X.prog X.w X.K X.mg X.base CX0 k C "__lt__" ["self", "other"] sp) (hr : Room j X.A) (hj : k + 1 ≤ j) : OpR X (compareOp .Lt) (rCmpO X.K C sp X0) := by
  obtain ⟨f, fd, M, _, F, hb⟩ := D.ex
  exact op_ltO M F (hr.mono hj) hb (fun _ => quiet0)
theorem op_ne1 (hn : NeC X.K C) (D : Met1 X.prog X.w X.K X.mg X.base CX0 k C "__eq__" ["self", "other"] sp) (hr : Room j X.A) (hj : k + 1 ≤ j) : OpR X (compareOp .NotEq) (rNeO X.K C sp X0) := by
  obtain ⟨f, fd, M, _, F, hb⟩ := D.ex
  exact op_neO hn M F (hr.mono hj) hb (fun _ => quiet0)
theorem pe_pro1 (c : Cls X.K C) (D : Pro1 X.prog X.w X.K X.mg X.base k C x sp) (hr : Room j X.A) (hj : k + 1 ≤ j) (ha : PE X e ta) (hab : attributeBase e x X.env (eval e X.env) = eval e X.env := by rfl) : PE X (.Attribute e x pos) (tProp C sp [] X0 ta) := by
  obtain ⟨p, f, fd, hp, F, hb⟩ := D.ex
  exact pe_prop ha c hp F (hr.mono hj) hb .nil pass0 hab
theorem pe_mk1 {E : XK} (D : Ini1 X.prog X.w X.K X.mg X.base CX k C t0 ps sp) (hx : Passes CX X E) (hr : Room j X.A) (hj : k + 1 ≤ j) (hgl : Gl X x) (hm : X.mg x = some (.ref C)) (ha : PA X (e :: es) t) (hdb : (x == ("__debug__" : Str)) = false := by decide)
    (he : starEach (e :: es) X.env = (false, eval e X.env) :: starEach es X.env := by rfl) (hpl : (backTo pos (starEach es X.env)).any (·.1) = false := by rfl) : PE X (.Call (.Name x p) (e :: es) [] pos) (tMake C sp [] E t) := by
  obtain ⟨f, fd, ds, M, F, hb, _, _⟩ := D.ex
  exact pe_make M F (hr.mono hj) hgl hm hb .nil hx ha hdb he hpl
theorem pe_mk0 {E : XK} (D : Ini1 X.prog X.w X.K X.mg X.base CX k C t0 ps sp) (hx : Passes CX X E) (hr : Room j X.A) (hj : k + 1 ≤ j) (hgl : Gl X x) (hm : X.mg x = some (.ref C)) (hdb : (x == ("__debug__" : Str)) = false := by decide) : PE X (.Call (.Name x p) [] [] pos) (tMake C sp [.ref t0] E tNil) := by
  obtain ⟨f, fd, ds, M, F, _, hv, hb⟩ := D.ex
  exact pe_make0 M F (hr.mono hj) hgl hm hb hv hx hdb
theorem pe_it1 (D : Met1 X.prog X.w X.K X.mg X.base CX k C "__getitem__" ["self", "index"] sp) {E : L2.St → XK} (hx : ∀ σ, PassesAt CX X σ (E σ)) (hr : Room j X.A) (hj : k + 1 ≤ j) (ha : PE X e ta) (hb : PE X a tb)
    (hs : ∀ v u : Value, subscripted a true v u = runValue (.builtin "lifetime.subscript" ⟨[v, u], []⟩) := by intro _ _; with_unfolding_all rfl) : PE X (.Subscript e a pos) (tIxO C sp E ta tb) := by
  obtain ⟨f, fd, M, hfn, F, hB⟩ := D.ex
  exact pe_ixO M hfn F (hr.mono hj) hB hx ha hb hs
theorem pe_me1 {o : Expr} {pl : Sem Bool} {E : XK} (c : Cls X.K C) (D : Met1 X.prog X.w X.K X.mg X.base CX k C m ps sp) (hx : Passes CX X E) (hr : Room j X.A) (hj : k ≤ j) (ho : PE X o ta) (ha : PA X (e :: es) t)
    (ht : eval (.Call (.Attribute o m apos) (e :: es) [] pos) X.env = (do
      let ov ← eval o X.env
      standAt apos.atName
      let (f, first) ← holding [ov] (getMethod ov m pl)
      callWith pos f first (backTo pos (starEach (e :: es) X.env)) (backToKw pos (keywordEach [] X.env))) := by rfl)
    (hst : starEach (e :: es) X.env = (false, eval e X.env) :: starEach es X.env := by rfl) (hpl : (backTo pos (starEach es X.env)).any (·.1) = false := by rfl) :
    PE X (.Call (.Attribute o m apos) (e :: es) [] pos) (tMeth C m sp [] E ta t) := by
  obtain ⟨f, fd, M, _, F, hb⟩ := D.ex
  exact pe_meth ho c M F (hr.mono hj) hb .nil hx ha hst hpl ht
theorem g_lc {wi : TI} {g : TG} {tt : TT} {te : TE} {vs : List Nat} {σ : L2.St} {H : Hp} {Q : VK} (k : wi σ H fun J H1 => LcG J g tt te vs σ H1 Q) : tLc wi g tt te vs σ H Q := k
theorem g_rng1 {ta : TA} {σ : L2.St} {H : Hp} {R : It → Hp → Prop} (k : ta σ H fun vs H1 => ∃ j : Int, vs = [.int j] ∧ -(2 ^ 62) ≤ j ∧ j < 2 ^ 62 ∧ R (Itr 0 j.toNat) H1) : iRng1 ta σ H R := k
theorem g_rng2 {ta : TA} {σ : L2.St} {H : Hp} {R : It → Hp → Prop} (k : ta σ H fun vs H1 => ∃ i j : Int, vs = [.int i, .int j] ∧ (-(2 ^ 62) ≤ i ∧ i < 2 ^ 62 ∧ -(2 ^ 62) ≤ j ∧ j < 2 ^ 62) ∧ R (Itr i (j - i).toNat) H1) : iRng2 ta σ H R := k
theorem g_itup {K : PySem.W.Frag} {te : TE} {σ : L2.St} {H : Hp} {R : It → Hp → Prop} (k : te σ H fun x H1 => ∃ a, x = .ref a ∧ (∃ xs, SqT K H1 a xs) ∧ R (Itt K a) H1) : iTup K te σ H R := k
theorem g_ilist {K : PySem.W.Frag} {te : TE} {σ : L2.St} {H : Hp} {R : It → Hp → Prop} (k : te σ H fun x H1 => ∃ a, x = .ref a ∧ (∃ xs, SqL K H1 a xs) ∧ R (Itl K a) H1) : iList K te σ H R := k
/-- a reading given two ways -/
theorem CallR.or {f : Value} {r1 r2 : List V → Hp → VK → Prop} (h1 : CallR X f r1) (h2 : CallR X f r2) : CallR X f (fun vs H Q => r1 vs H Q ∨ r2 vs H Q) := by
  intro pins s σ H vs us Q I r h
  rcases h with h | h
  · exact h1 pins s σ H vs us Q I r h
  · exact h2 pins s σ H vs us Q I r h
def rSumS (K : PySem.W.Frag) : List V → Hp → VK → Prop := fun vs H Q => ∃ (a : Addr) (ns : List Int), vs = [V.ref a] ∧ (SqL K H a (ns.map V.int) ∨ SqT K H a (ns.map V.int)) ∧ Q (.int ns.sum) H
theorem call_sumS (hc : X.calm = true) : CallR X (.builtin "sum") (rSumS X.K) := by
  intro pins s σ H vs us Q I r h
  obtain ⟨a, ns, e, h | h, k⟩ := h
  · exact cr_sum hc pins s σ H vs us Q I r ⟨a, ns, e, h, k⟩
  · exact cr_sumT hc pins s σ H vs us Q I r ⟨a, ns, e, h, k⟩
end
end Q0

set_option Elab.async false
set_option linter.all false
set_option maxRecDepth 100000
set_option maxHeartbeats 4000000
/-! The text by places; integers; dice. -/
namespace Q0
open PySem PySem.Spec PyProof.Rows L2 Gd
open LamX (ExtN)
local macro_rules | `(tactic| walk_at "rd1") => `(tactic| first | with_reducible refine g_ret ?_ | with_reducible refine g_retN ?_ | with_reducible refine g_seq ?_ | with_reducible refine g_next ?_ | with_reducible refine g_drop ?_ | with_reducible refine g_asg ?_ | with_reducible refine g_name ?_ | with_reducible refine g_ifs ?_ | with_reducible refine g_test ?_ | with_reducible refine g_tb ?_ | with_reducible refine g_and ?_ | with_reducible refine g_or ?_ | with_reducible refine g_not ?_ | with_reducible refine g_andV ?_ | with_reducible refine g_orV ?_ | with_reducible refine g_notV ?_ | with_reducible refine g_if ?_ | with_reducible refine g_op ?_ | with_reducible refine g_un ?_ | with_reducible refine g_cb ?_ | with_reducible refine g_nil ?_ | with_reducible refine g_cons ?_ | with_reducible refine g_call ?_ | with_reducible refine g_callS ?_ | with_reducible refine g_tup ?_ | with_reducible refine g_lst ?_ | with_reducible refine g_isN ?_ | with_reducible refine g_sl ?_ | with_reducible refine g_nopart ?_ | with_reducible refine g_part ?_ | with_reducible refine g_chain ?_ | with_reducible refine g_fld ?_ | with_reducible refine g_prop ?_ | with_reducible refine g_bm ?_ | with_reducible refine g_bm0 ?_ | with_reducible refine g_c ?_ | with_reducible refine g_sub ?_ | with_reducible refine g_int1 ?_ | with_reducible refine g_int2 ?_ | with_reducible refine g_yes ?_ | with_reducible refine g_sfld ?_ | with_reducible refine g_NT ?_ | with_reducible refine g_NF ?_ | with_reducible refine iteT ?_ | with_reducible refine iteF ?_ | ((with_reducible refine' g_aug ?hv ?_); (case hv => exact rfl)) | ((with_reducible refine' g_var ?hv ?_); (case hv => exact rfl)) | with_reducible refine g_I0 ?_ | with_reducible refine g_U ?_ | with_reducible refine g_eqI ?_ | with_reducible refine g_blV ?_ | with_reducible refine g_inV ?_)
local macro_rules | `(tactic| walk_at "rd") => `(tactic| repeat walk_at "rd1")
def top (i : Nat) : Stmt := PySem.Challenge.pw_primekinds_k07_whole_turned_and_joined_k.main.body.getD i (.Pass ⟨0, 0, 0, 0⟩)
abbrev sWhole : Stmt := top 11
abbrev sInteger : Stmt := top 12
abbrev sIndex : Stmt := top 14
def cls (j : Nat) : Stmt := inClass (top 29) j
abbrev sDice : Stmt := top 33
abbrev sRoll : Stmt := top 34
abbrev sPick : Stmt := top 35
/-- what is known of the module's names -/
structure Txt (K : PySem.W.Frag) (mg : Str → Option Value) : Prop where
  isinstance : mg "isinstance" = none
  int : mg "int" = none
  bool : mg "bool" = none
  str : mg "str" = none
  tuple : mg "tuple" = none
  list : mg "list" = none
  dict : mg "dict" = none
  len : mg "len" = none
  all : mg "all" = none
  any : mg "any" = none
  sum : mg "sum" = none
  iter : mg "iter" = none
  max : mg "max" = none
  min : mg "min" = none
  abs : mg "abs" = none
  range : mg "range" = none
  repr : mg "repr" = none
  sorted : mg "sorted" = none
  enumerate : mg "enumerate" = none
  zip : mg "zip" = none
  bound : ∃ t, mg "BOUND" = some (.int (10 ^ 60) t)
section
variable {P : Program} {w : World} {K : PySem.W.Frag} {mg : Str → Option Value} {base : Heap} {f : Addr} {fd : FuncData}
theorem dec_l {p q : Prop} [Decidable p] [Decidable q] (h : p) : decide (p ∧ q) = decide q := by simp [h]
theorem dec_n {p q : Prop} [Decidable p] [Decidable q] (h : ¬ p) : decide (p ∧ q) = false := by simp [h]
/-! ### is_whole -/
/-- whether a value is an integer other than True and False -/
def WholeB (K : PySem.W.Frag) (H : Hp) (x : V) (b : Bool) : Prop := ∃ t b1 b2, TyX K H x t ∧ PySem.W.kitOne K t (.type "int") = some b1 ∧
  PySem.W.kitOne K t (.type "bool") = some b2 ∧ b = (b1 && !b2)
theorem whole_int {H : Hp} {i : Int} : WholeB K H (.int i) true := ⟨_, true, false, .base (.int i), by kernel_rfl, by kernel_rfl, rfl⟩
theorem whole_bl {H : Hp} {b : Bool} : WholeB K H (.bl b) false := ⟨_, true, true, .base (.bl b), by kernel_rfl, by kernel_rfl, rfl⟩
theorem whole_non {H : Hp} : WholeB K H .non false := ⟨_, false, false, .base .non, by kernel_rfl, by kernel_rfl, rfl⟩
theorem whole_str {H : Hp} {x : Str} : WholeB K H (.str x) false := ⟨_, false, false, .base (.str x), by kernel_rfl, by kernel_rfl, rfl⟩
theorem whole_tup {H : Hp} {a : Addr} {xs : List V} (h : H a = some (.tup xs)) : WholeB K H (.ref a) false := ⟨_, false, false, .base (.tup h), by kernel_rfl, by kernel_rfl, rfl⟩
def spWhole (K : PySem.W.Frag) : Sp := fun vs H Q _ => ∃ x b, vs = [x] ∧ WholeB K H x b ∧ Q (.bl b) H
theorem scWhole : FnScope ["value"] ["value"] (defScope sWhole) := ⟨rfl, rfl, rfl, by decide +kernel, rfl, by decide +kernel, by decide +kernel⟩
theorem ok_whole {f : Addr} {fd : FuncData} (F : Fun K "is_whole" "is_whole" sWhole f fd) (T : Txt K mg) : FnOk P w K mg base CX0 1 f fd ["value"] (spWhole K) := by
  refine F.ok scWhole (fun vs H Q E h => ?_) (fun cdv A outer s H vs Q E hr h => ?_)
  · obtain ⟨x, b, rfl, _⟩ := h
    rfl
  · obtain ⟨x, b, rfl, ⟨t, b1, b2, ty, k1, k2, rfl⟩, k⟩ := h
    refine ⟨_, pss_one (ps_ret (pe_and (pe_callB call_isi (by rfl) T.isinstance (by decide +kernel) (pa_cons (pv 0) (pa_cons (pe_bltn (v := .ty "int") (by rfl) T.int (by decide +kernel) rfl) pa_nil)))
      (pe_one (pe_not (pe_callB call_isi (by rfl) T.isinstance (by decide +kernel) (pa_cons (pv 0) (pa_cons (pe_bltn (v := .ty "bool") (by rfl) T.bool (by decide +kernel) rfl) pa_nil))))))), ?_⟩
    walk_at "rd"
    refine ⟨_, _, _, _, _, rfl, .ty _, ty, k1, ?_⟩
    walk_at "rd"
    refine ite2 (fun h1 => ?_) (fun h1 => ?_)
    · walk_at "rd"
      refine ⟨_, _, _, _, _, rfl, .ty _, ty, k2, ?_⟩
      walk_at "rd"
      rw [h1] at k
      exact k
    · rw [Bool.not_eq_true] at h1
      rw [h1] at k
      exact k

/-! ### is_integer -/
def IntB (K : PySem.W.Frag) (H : Hp) (x : V) (b : Bool) : Prop := (∃ i : Int, x = .int i ∧ b = decide (-(10 ^ 60) < i ∧ i < 10 ^ 60)) ∨ (WholeB K H x false ∧ b = false)
def spInteger (K : PySem.W.Frag) : Sp := fun vs H Q _ => ∃ x b, vs = [x] ∧ IntB K H x b ∧ Q (.bl b) H
theorem scInteger : FnScope ["value"] ["value"] (defScope sInteger) := ⟨rfl, rfl, rfl, by decide +kernel, rfl, by decide +kernel, by decide +kernel⟩
/-- where is_whole stands -/
structure AtW (K : PySem.W.Frag) (mg : Str → Option Value) (f : Addr) (fd : FuncData) : Prop where
  F : Fun K "is_whole" "is_whole" sWhole f fd
  b : Binds K fd ["value"] []
  g : mg "is_whole" = some (.ref f)
theorem ok_integer {f fW : Addr} {fd fdW : FuncData} (F : Fun K "is_integer" "is_integer" sInteger f fd) (T : Txt K mg) (W : AtW K mg fW fdW) : FnOk P w K mg base CX0 2 f fd ["value"] (spInteger K) := by
  have GW : FnOk P w K mg base CX0 1 fW fdW ["value"] (spWhole K) := ok_whole W.F T
  obtain ⟨tB, gB⟩ := T.bound
  refine F.ok scInteger (fun vs H Q E h => ?_) (fun cdv A outer s H vs Q E hr h => ?_)
  · obtain ⟨x, b, rfl, _⟩ := h
    rfl
  · obtain ⟨x, b, rfl, hx, k⟩ := h
    refine ⟨_, pss_one (ps_ret (pe_and (pe_call GW hr (by rfl) W.g W.F.kp W.b .nil pass0 (pa_cons (pv 0) pa_nil))
      (pe_one (pe_chain op_lt op_lt (pe_un un_neg (pe_glob (v := .int (10 ^ 60)) (by rfl) gB ⟨_, rfl⟩)) (pv 0) (pe_glob (v := .int (10 ^ 60)) (by rfl) gB ⟨_, rfl⟩))))), ?_⟩
    walk_at "rd"
    rcases hx with ⟨i, rfl, rfl⟩ | ⟨hx, rfl⟩
    · refine ⟨_, true, rfl, whole_int, ?_⟩
      walk_at "rd"
      try refine iteT ?_
      walk_at "rd"
      refine ite2 (fun h1 => ?_) (fun h1 => ?_)
      · walk_at "rd"
        have e : decide (-(10 ^ 60) < i ∧ i < 10 ^ 60) = decide (i < 10 ^ 60) := dec_l (of_decide_eq_true h1)
        rw [e] at k
        exact k
      · have h2 : ¬ (-(10 ^ 60) : Int) < i := fun z => h1 (decide_eq_true z)
        have e : decide (-(10 ^ 60) < i ∧ i < 10 ^ 60) = false := dec_n h2
        rw [e] at k
        exact k
    · refine ⟨_, false, rfl, hx, ?_⟩
      walk_at "rd"
      first | exact k | exact iteF k

/-! ### require_index -/
def IndexOk (K : PySem.W.Frag) (H : Hp) (x : V) (b : Bool) : Prop := (∃ i : Int, x = .int i ∧ b = decide (0 ≤ i ∧ i < 10 ^ 60)) ∨ (WholeB K H x false ∧ b = false)
def spIndex (K : PySem.W.Frag) (C : Addr) : Sp := fun vs H Q E => ∃ x b, vs = [x] ∧ IndexOk K H x b ∧ (b = true → Q .non H) ∧
  (b = false → ∀ d, H d = none → E (.ref C) (some d) (upd H d (.xd [(("value" : Str), x)])))
structure AtI (K : PySem.W.Frag) (mg : Str → Option Value) (f : Addr) (fd : FuncData) : Prop where
  F : Fun K "is_integer" "is_integer" sInteger f fd
  b : Binds K fd ["value"] []
  g : mg "is_integer" = some (.ref f)
theorem scIndex : FnScope ["value"] ["value"] (defScope sIndex) := ⟨rfl, rfl, rfl, by decide +kernel, rfl, by decide +kernel, by decide +kernel⟩
theorem ok_index {f fW fI C fC : Addr} {fd fdW fdI : FuncData} (F : Fun K "require_index" "require_index" sIndex f fd) (T : Txt K mg) (W : AtW K mg fW fdW) (I : AtI K mg fI fdI) (N : PySem.XInvalidNumber.InvalidNumberTxt K mg C fC) :
    FnOk P w K mg base (L2.CX P w) 4 f fd ["value"] (spIndex K C) := by
  have GI : FnOk P w K mg base CX0 2 fI fdI ["value"] (spInteger K) := ok_integer I.F T W
  refine F.okX scIndex (fun vs H Q E h => ?_) (fun cdv A outer s H vs Q E hr h => ?_)
  · obtain ⟨x, b, rfl, _⟩ := h
    rfl
  · obtain ⟨x, b, rfl, hx, k1, k2⟩ := h
    refine ⟨_, pss_one (ps_if (PW.pt (pw_or (pt_not (pt_val (pe_call GI (hr.mono (by decide)) (by rfl) I.g I.F.kp I.b .nil pass0 (pa_cons (pv 0) pa_nil)))) (pw_or1 (pt_cmpR op_lt (pv 0) pe_int (nomark _)))))
      (pss_one (ps_raiseInvalidNumber rfl N hr (takes_of rfl rfl rfl rfl) (by exact (pa_cons (pv 0) pa_nil)))) pss_nil), ?_⟩
    walk_at "rd"
    rcases hx with ⟨i, rfl, rfl⟩ | ⟨hx, rfl⟩
    · refine ⟨_, _, rfl, .inl ⟨i, rfl, rfl⟩, ?_⟩
      walk_at "rd"
      by_cases h1 : -(10 ^ 60) < i ∧ i < 10 ^ 60
      · rw [decide_eq_true h1]
        try refine iteF ?_
        walk_at "rd"
        by_cases h2 : i < 0
        · rw [decide_eq_true h2]
          try refine iteT ?_
          refine ⟨_, rfl, _, rfl, ?_⟩
          exact k2 (decide_eq_false (by omega))
        · rw [decide_eq_false h2]
          try refine iteF ?_
          exact k1 (decide_eq_true (by omega))
      · rw [decide_eq_false h1]
        iterate 2 (try refine iteT ?_)
        refine ⟨_, rfl, _, rfl, ?_⟩
        exact k2 (decide_eq_false (by omega))
    · refine ⟨_, _, rfl, .inr ⟨hx, rfl⟩, ?_⟩
      walk_at "rd"
      iterate 2 (try refine iteT ?_)
      refine ⟨_, rfl, _, rfl, ?_⟩
      exact k2 rfl
abbrev sIsWithin : Stmt := top 13
/-- whether a value is an integer from lo to hi (the bounds have at most sixty digits) -/
def WithB (K : PySem.W.Frag) (H : Hp) (x : V) (lo hi : Int) (b : Bool) : Prop := (∃ i : Int, x = .int i ∧ b = decide (lo ≤ i ∧ i ≤ hi)) ∨ (WholeB K H x false ∧ b = false)
def spIsWithin (K : PySem.W.Frag) : Sp := fun vs H Q _ => ∃ (x : V) (lo hi : Int) (b : Bool), vs = [x, .int lo, .int hi] ∧ -(10 ^ 60) < lo ∧ hi < 10 ^ 60 ∧ WithB K H x lo hi b ∧ Q (.bl b) H
theorem scIsWithin : FnScope ["value", "low", "high"] ["value", "low", "high"] (defScope sIsWithin) := ⟨rfl, rfl, rfl, by decide +kernel, rfl, by decide +kernel, by decide +kernel⟩
theorem ok_isWithin {fW fI : Addr} {fdW fdI : FuncData} (F : Fun K "is_within" "is_within" sIsWithin f fd) (T : Txt K mg) (W : AtW K mg fW fdW) (I : AtI K mg fI fdI) : FnOk P w K mg base CX0 3 f fd ["value", "low", "high"] (spIsWithin K) := by
  have GI : FnOk P w K mg base CX0 2 fI fdI ["value"] (spInteger K) := ok_integer I.F T W
  refine F.ok scIsWithin (fun vs H Q E h => ?_) (fun cdv A outer s H vs Q E hr h => ?_)
  · obtain ⟨x, lo, hi, b, rfl, _⟩ := h
    rfl
  · obtain ⟨x, lo, hi, b, rfl, hlo, hhi, hx, k⟩ := h
    refine ⟨_, pss_one (ps_ret (pe_and (pe_call GI hr (by rfl) I.g I.F.kp I.b .nil pass0 (pa_cons (pv 0) pa_nil))
      (pe_one (pe_chain op_le op_le (pv 1) (pv 0) (pv 2))))), ?_⟩
    walk_at "rd"
    rcases hx with ⟨i, rfl, rfl⟩ | ⟨hx, rfl⟩
    · refine ⟨_, _, rfl, .inl ⟨i, rfl, rfl⟩, ?_⟩
      walk_at "rd"
      refine ite2 (fun h0 => ?_) (fun h0 => ?_)
      · walk_at "rd"
        refine ite2 (fun h1 => ?_) (fun h1 => ?_)
        · walk_at "rd"
          have e : decide (lo ≤ i ∧ i ≤ hi) = decide (i ≤ hi) := dec_l (of_decide_eq_true h1)
          rw [e] at k
          exact k
        · have h2 : ¬ lo ≤ i := fun z => h1 (decide_eq_true z)
          have e : decide (lo ≤ i ∧ i ≤ hi) = false := dec_n h2
          rw [e] at k
          exact k
      · have h2 : ¬ (-(10 ^ 60) < i ∧ i < 10 ^ 60) := fun z => h0 (decide_eq_true z)
        have e : decide (lo ≤ i ∧ i ≤ hi) = false := decide_eq_false (by omega)
        rw [e] at k
        exact k
    · refine ⟨_, _, rfl, .inr ⟨hx, rfl⟩, ?_⟩
      walk_at "rd"
      first | exact k | exact iteF k
/-- the dice at d -/
def DiceAt (H : Hp) (d : Addr) : Prop := ∃ a b c : Int, H d = some (.lst [.int a, .int b, .int c]) ∧ 0 ≤ a ∧ a < 10 ^ 120 ∧ 0 ≤ b ∧ b < 2 ^ 80 ∧ 0 ≤ c
theorem fmod_lo {a n : Int} (h : 0 < n) : 0 ≤ a.fmod n := by
  rw [Int.fmod_eq_emod_of_nonneg _ (Int.le_of_lt h)]
  exact Int.emod_nonneg _ (Int.ne_of_gt h)
theorem fmod_hi {a n : Int} (h : 0 < n) : a.fmod n < n := by
  rw [Int.fmod_eq_emod_of_nonneg _ (Int.le_of_lt h)]
  exact Int.emod_lt_of_pos _ h
theorem g_fmod {H : Hp} {Q : VK} {a n : Int} (hn : 0 < n) (k : ∀ r, 0 ≤ r → r < n → Q (.int r) H) : rI (fun _ j => j ≠ 0) (fun i j => .int (i.fmod j)) (.int a) (.int n) H Q :=
  ⟨a, n, rfl, rfl, Int.ne_of_gt hn, k _ (fmod_lo hn) (fmod_hi hn)⟩
def spDice (K : PySem.W.Frag) : Sp := fun vs H Q _ => ∃ (a : Addr) (ns : List Int) (i : Nat), vs = [.ref a, .int (i : Int)] ∧ SqL K H a (ns.map V.int) ∧ i ≤ 63 ∧
  ∀ H' d, Ext H H' → H d = none → DiceAt H' d → Q (.ref d) H'
theorem scDice : FnScope ["_law_script", "_law_spot", "_law_cell", "_law_left"] ["_law_script", "_law_spot"] (defScope sDice) := ⟨rfl, rfl, rfl, by decide +kernel, rfl, by decide +kernel, by decide +kernel⟩
theorem ok_dice (F : Fun K "_law_dice" "_law_dice" sDice f fd) (T : Txt K mg) : FnOk P w K mg base CX0 1 f fd ["_law_script", "_law_spot"] (spDice K) := by
  refine F.ok scDice (fun vs H Q E h => ?_) (fun cdv A outer s H vs Q E hr h => ?_)
  · obtain ⟨a, ns, i, rfl, _⟩ := h
    rfl
  · obtain ⟨a, ns, i, rfl, hs, hi, k⟩ := h
    refine ⟨_, pss_cons (ps_set (i := 2) scDice.nd rfl (Or.inl rfl) (pe_ifExp (pt_cmpR op_lt (pv 1) (pe_callB call_len_seq (by rfl) T.len PySem.boot_len (pa_cons (pv 0) pa_nil)) (nomark _))
          (pe_callTy call_int1 (by rfl) T.int (by decide +kernel) (pa_cons (pe_ix ix_list (pv 0) (pv 1) (fun _ _ => rfl)) pa_nil)) (pe_op op_add (pe_op op_mul pe_int (pv 1)) pe_int)))
      (pss_cons (ps_set (i := 3) scDice.nd rfl (Or.inl rfl) (pe_op op_modN (pe_callB (call_max2 rfl) (by rfl) T.max (by decide +kernel) (pa_cons pe_int (pa_cons (pe_op op_sub (pe_callB call_abs (by rfl) T.abs (by decide +kernel) (pa_cons (pv 2) pa_nil)) (pe_op op_pow pe_int pe_int)) pa_nil)))
          (pe_op op_mulW (pe_op op_pow pe_int pe_int) (pe_op op_pow pe_int pe_int))))
        (pss_one (ps_ret (pe_lst (pa_cons (pv 3) (pa_cons (pe_op op_add (pe_op op_add (pe_op op_add (pe_op op_mul (pe_op op_modN (pe_callB call_abs (by rfl) T.abs (by decide +kernel) (pa_cons (pv 2) pa_nil)) pe_int) pe_int) (pe_op op_mul pe_int (pv 1)))
          (pe_op op_mul pe_int (pe_callTy call_int1 (by rfl) T.int (by decide +kernel) (pa_cons (pe_cmpR op_lt (pv 2) pe_int (nomark _)) pa_nil)))) pe_int) (pa_cons pe_int pa_nil))))))), ?_⟩
    walk_at "rd"
    refine ⟨a, _, rfl, .inl hs, ?_⟩
    walk_at "rd"
    refine ite2 (fun h1 => ?_) (fun h1 => ?_)
    have h2 := of_decide_eq_true h1
    rw [List.length_map] at h2
    have hlt : i < ns.length := by omega
    walk_at "rd"
    refine g_ixL hs (v := .int ns[i]) (atI_nat (by rw [mapget, List.getElem?_eq_getElem hlt]; rfl)) ?_
    walk_at "rd"
    refine .inl ⟨_, rfl, ?_⟩
    generalize ns[i] = c
    walk_at "rd"
    rotate_left
    walk_at "rd"
    refine g_I (.inr ⟨by omega, by omega⟩) ?_
    walk_at "rd"
    generalize (83 * (i : Int) + 61) = c
    walk_at "rd"
    all_goals
      refine g_I ⟨by decide, by decide, by decide⟩ ?_
      walk_at "rd"
      refine g_I ⟨by decide, by decide, by decide⟩ ?_
      walk_at "rd"
      refine g_I ⟨by decide, by decide, by decide⟩ ?_
      walk_at "rd"
      refine g_I (wide_mul (a := 200) (b := 200) (by decide +kernel) (by decide +kernel) (by decide) (by decide) (by decide)) ?_
      walk_at "rd"
      refine g_fmod (by decide +kernel) (fun l l0 l1 => ?_)
      walk_at "rd"
      refine g_fmod (by decide +kernel) (fun r r0 r1 => ?_)
      walk_at "rd"
      refine g_I (.inr ⟨by decide, by decide⟩) ?_
      walk_at "rd"
      refine g_I (.inl ⟨by decide, by decide⟩) ?_
      walk_at "rd"
      refine .inr ⟨_, rfl, ?_⟩
      refine g_I (.inl ⟨by decide, by decide⟩) ?_
      walk_at "rd"
      refine ⟨by show 3 ≤ sizeLine; decide, fun d hd => ?_⟩
      have l1' : l < 10 ^ 120 := Int.lt_of_lt_of_le l1 (by decide +kernel)
      refine k _ d (Ext.new hd) hd ⟨l, _, 0, upd_same, l0, l1', ?_, ?_, Int.le_refl _⟩
      · split <;> omega
      · split <;> omega

/-! ### a roll -/
def spRoll : Sp := fun vs H Q _ => ∃ (d : Addr) (n : Int), vs = [.ref d, .int n] ∧ DiceAt H d ∧ 0 < n ∧ n < 2 ^ 1000 ∧
  ∀ H' r, ExtBut d H H' → DiceAt H' d → 0 ≤ r → r < n → Q (.int r) H'
theorem scRoll : FnScope ["_law_dice_here", "_law_total", "_law_found", "_law_one", "_law_two"] ["_law_dice_here", "_law_total"] (defScope sRoll) := ⟨rfl, rfl, rfl, by decide +kernel, rfl, by decide +kernel, by decide +kernel⟩
theorem ok_roll (F : Fun K "_law_roll" "_law_roll" sRoll f fd) (T : Txt K mg) : FnOk P w K mg base CX0 1 f fd ["_law_dice_here", "_law_total"] spRoll := by
  refine F.ok scRoll (fun vs H Q E h => ?_) (fun cdv A outer s H vs Q E hr h => ?_)
  · obtain ⟨d, n, rfl, _⟩ := h
    rfl
  · obtain ⟨d, n, rfl, ⟨a, b, c, hd, a0, a1, b0, b1, c0⟩, n0, n1, k⟩ := h
    refine ⟨_, pss_cons (ps_if (pt_cmpR op_gt (pe_ix ix_list (pv 0) pe_int (fun _ _ => rfl)) pe_int (nomark _))
        (pss_cons (ps_set (i := 2) scRoll.nd rfl (Or.inl rfl) (pe_op op_modN (pe_callTy call_int1 (by rfl) T.int (by decide +kernel) (pa_cons (pe_ix ix_list (pv 0) pe_int (fun _ _ => rfl)) pa_nil)) (pv 1)))
          (pss_cons (ps_asg (pe_op op_fdivW (pe_ix ix_list (pv 0) pe_int (fun _ _ => rfl)) (pv 1)) (pg_sub (pv 0) pe_int set_list)) (pss_one (ps_ret (pv 2))))) pss_nil)
      (pss_cons (ps_asg (pe_op op_add (pe_ix ix_list (pv 0) pe_int (fun _ _ => rfl)) pe_int) (pg_sub (pv 0) pe_int set_list))
        (pss_cons (ps_set (i := 3) scRoll.nd rfl (Or.inl rfl) (pe_op op_modN (pe_callTy call_int1 (by rfl) T.int (by decide +kernel) (pa_cons (pe_op op_add (pe_ix ix_list (pv 0) pe_int (fun _ _ => rfl)) (pe_op op_mul pe_int (pe_ix ix_list (pv 0) pe_int (fun _ _ => rfl)))) pa_nil)) pe_int))
          (pss_cons (ps_set (i := 4) scRoll.nd rfl (Or.inl rfl) (pe_op op_add (pe_op op_mul (pe_op op_modN (pe_callTy call_int1 (by rfl) T.int (by decide +kernel)
              (pa_cons (pe_op op_add (pe_op op_mul (pv 3) (pv 3)) (pe_op op_mul pe_int (pe_ix ix_list (pv 0) pe_int (fun _ _ => rfl)))) pa_nil)) pe_int) pe_int) (pv 3)))
            (pss_one (ps_ret (pe_op op_modN (pe_callTy call_int1 (by rfl) T.int (by decide +kernel) (pa_cons (pe_op op_fdiv (pv 4) pe_int) pa_nil)) (pv 1))))))), ?_⟩
    walk_at "rd"
    refine g_ixL (SqL.of hd) (v := .int a) rfl ?_
    walk_at "rd"
    refine ite2 (fun h1 => ?_) (fun h1 => ?_)
    · walk_at "rd"
      refine g_ixL (SqL.of hd) (v := .int a) rfl ?_
      walk_at "rd"
      refine .inl ⟨_, rfl, ?_⟩
      walk_at "rd"
      refine g_fmod n0 (fun r r0 r1 => ?_)
      walk_at "rd"
      refine g_ixL (SqL.of hd) (v := .int a) rfl ?_
      walk_at "rd"
      refine g_I (wide_div (b := 1000) n0 (by omega) (by decide) (by decide)) ?_
      walk_at "rd"
      refine ⟨d, _, _, 0, rfl, rfl, hd, rfl, ?_⟩
      walk_at "rd"
      refine k _ r (fun x o hx q => by rw [upd_ne hx]; exact q) ⟨a / n, b, c, upd_same, Int.ediv_nonneg a0 (Int.le_of_lt n0), Int.lt_of_le_of_lt (Int.ediv_le_self _ a0) a1, b0, b1, c0⟩ r0 r1
    · walk_at "rd"
      refine g_ixL (SqL.of hd) (v := .int c) rfl ?_
      walk_at "rd"
      refine ⟨d, _, _, 2, rfl, rfl, hd, rfl, ?_⟩
      walk_at "rd"
      have hd2 : upd H d (.lst (List.set [V.int a, V.int b, V.int c] 2 (V.int (c + 1)))) d = some (.lst [.int a, .int b, .int (c + 1)]) := upd_same
      generalize hH2 : upd H d (.lst (List.set [V.int a, V.int b, V.int c] 2 (V.int (c + 1)))) = H2 at hd2 ⊢
      have e2 : ExtBut d H H2 := fun x o hx q => by rw [← hH2, upd_ne hx]; exact q
      refine g_ixL (SqL.of hd2) (v := .int b) rfl ?_
      walk_at "rd"
      refine g_ixL (SqL.of hd2) (v := .int (c + 1)) rfl ?_
      refine g_I (.inl ⟨by decide, by decide⟩) ?_
      walk_at "rd"
      refine .inl ⟨_, rfl, ?_⟩
      walk_at "rd"
      refine g_fmod (by decide) (fun r r0 r1 => ?_)
      walk_at "rd"
      refine g_I (.inl ⟨by omega, by omega⟩) ?_
      walk_at "rd"
      refine g_ixL (SqL.of hd2) (v := .int (c + 1)) rfl ?_
      refine g_I (.inl ⟨by decide, by decide⟩) ?_
      walk_at "rd"
      refine .inl ⟨_, rfl, ?_⟩
      walk_at "rd"
      refine g_fmod (by decide) (fun t t0 t1 => ?_)
      walk_at "rd"
      refine g_I (.inr ⟨by decide, by decide⟩) ?_
      walk_at "rd"
      refine g_I ⟨by decide, by decide⟩ ?_
      walk_at "rd"
      refine .inl ⟨_, rfl, ?_⟩
      walk_at "rd"
      refine g_fmod n0 (fun z z0 z1 => ?_)
      exact k _ z e2 ⟨a, b, c + 1, hd2, a0, a1, b0, b1, by omega⟩ z0 z1
theorem dice_none {H : Hp} {d l : Addr} (h : DiceAt H d) (e : H l = none) : l ≠ d := by
  obtain ⟨a, b, c, h, _⟩ := h
  intro z
  subst z
  rw [e] at h
  cases h
theorem dice_ne {H : Hp} {d l : Addr} {o : HO} (h : DiceAt H d) (e : H l = some o) (n : ∀ xs, o ≠ .lst xs) : l ≠ d := by
  obtain ⟨a, b, c, h, _⟩ := h
  intro z
  subst z
  rw [e] at h
  cases h
  exact n _ rfl
structure AtR (K : PySem.W.Frag) (mg : Str → Option Value) (f : Addr) (fd : FuncData) : Prop where
  F : Fun K "_law_roll" "_law_roll" sRoll f fd
  b : Binds K fd ["_law_dice_here", "_law_total"] []
  g : mg "_law_roll" = some (.ref f)
theorem DiceAt.ext {d : Addr} {H H1 : Hp} (e : Ext H H1) (h : DiceAt H d) : DiceAt H1 d := by
  obtain ⟨a, b, c, h, r⟩ := h
  exact ⟨a, b, c, e _ _ h, r⟩
/-! ### pick -/
def spPick (K : PySem.W.Frag) : Sp := fun vs H Q _ => ∃ (d l : Addr) (xs : List V), vs = [.ref d, .ref l] ∧ DiceAt H d ∧ SqL K H l xs ∧ l ≠ d ∧ 0 < xs.length ∧ xs.length ≤ 5000 ∧
  ∀ H' x, ExtBut d H H' → DiceAt H' d → x ∈ xs → Q x H'
theorem scPick : FnScope ["_law_dice_here", "_law_items"] ["_law_dice_here", "_law_items"] (defScope sPick) := ⟨rfl, rfl, rfl, by decide +kernel, rfl, by decide +kernel, by decide +kernel⟩
theorem ok_pick {fR : Addr} {fdR : FuncData} (F : Fun K "_law_pick" "_law_pick" sPick f fd) (T : Txt K mg) (R : AtR K mg fR fdR) : FnOk P w K mg base CX0 2 f fd ["_law_dice_here", "_law_items"] (spPick K) := by
  have GR : FnOk P w K mg base CX0 1 fR fdR ["_law_dice_here", "_law_total"] spRoll := ok_roll R.F T
  refine F.ok scPick (fun vs H Q E h => ?_) (fun cdv A outer s H vs Q E hr h => ?_)
  · obtain ⟨d, l, xs, rfl, _⟩ := h
    rfl
  · obtain ⟨d, l, xs, rfl, hd, hl, ne, l0, l1, k⟩ := h
    refine ⟨_, pss_one (ps_ret (pe_ix ix_list (pv 1) (pe_call GR hr (by rfl) R.g R.F.kp R.b .nil pass0 (pa_cons (pv 0) (pa_cons (pe_callB call_len_seq (by rfl) T.len PySem.boot_len (pa_cons (pv 1) pa_nil)) pa_nil))) (fun _ _ => rfl))), ?_⟩
    walk_at "rd"
    refine ⟨l, xs, rfl, .inl hl, ?_⟩
    walk_at "rd"
    refine ⟨d, _, rfl, hd, by omega, by omega, ?_⟩
    intro H' r e hd' r0 r1
    have hlt : r.toNat < xs.length := by omega
    have er : r = (r.toNat : Int) := by omega
    rw [er]
    exact g_ixL (sqL_but e ne hl) (atI_nat (List.getElem?_eq_getElem hlt)) (k _ _ e hd' (List.getElem_mem hlt))
end
end Q0

set_option Elab.async false
set_option linter.all false
set_option maxRecDepth 100000
set_option maxHeartbeats 4000000
/-! Falling rows: numbers, the turned one, slant, held, topped, joined, added. -/
namespace Q0
open PySem PySem.Spec PyProof.Rows L2 Gd
local macro_rules | `(tactic| walk_at "rd1") => `(tactic| first | with_reducible refine g_ret ?_ | with_reducible refine g_retN ?_ | with_reducible refine g_seq ?_ | with_reducible refine g_next ?_ | with_reducible refine g_drop ?_ | with_reducible refine g_asg ?_ | with_reducible refine g_name ?_ | with_reducible refine g_ifs ?_ | with_reducible refine g_test ?_ | with_reducible refine g_tb ?_ | with_reducible refine g_and ?_ | with_reducible refine g_or ?_ | with_reducible refine g_not ?_ | with_reducible refine g_andV ?_ | with_reducible refine g_orV ?_ | with_reducible refine g_notV ?_ | with_reducible refine g_if ?_ | with_reducible refine g_op ?_ | with_reducible refine g_un ?_ | with_reducible refine g_cb ?_ | with_reducible refine g_nil ?_ | with_reducible refine g_cons ?_ | with_reducible refine g_call ?_ | with_reducible refine g_callS ?_ | with_reducible refine g_tup ?_ | with_reducible refine g_lst ?_ | with_reducible refine g_isN ?_ | with_reducible refine g_sl ?_ | with_reducible refine g_nopart ?_ | with_reducible refine g_part ?_ | with_reducible refine g_chain ?_ | with_reducible refine g_fld ?_ | with_reducible refine g_prop ?_ | with_reducible refine g_bm ?_ | with_reducible refine g_bm0 ?_ | with_reducible refine g_c ?_ | with_reducible refine g_sub ?_ | with_reducible refine g_int1 ?_ | with_reducible refine g_int2 ?_ | with_reducible refine g_yes ?_ | with_reducible refine g_sfld ?_ | with_reducible refine g_NT ?_ | with_reducible refine g_NF ?_ | with_reducible refine iteT ?_ | with_reducible refine iteF ?_ | ((with_reducible refine' g_aug ?hv ?_); (case hv => exact rfl)) | ((with_reducible refine' g_var ?hv ?_); (case hv => exact rfl)) | with_reducible refine g_I0 ?_ | with_reducible refine g_U ?_ | with_reducible refine g_eqI ?_ | with_reducible refine g_blV ?_ | with_reducible refine g_inV ?_)
local macro_rules | `(tactic| walk_at "rd") => `(tactic| repeat walk_at "rd1")
section
variable {P : Program} {w : World} {K : PySem.W.Frag} {mg : Str → Option Value} {base : Heap} {f : Addr} {fd : FuncData}
theorem getI {ns : List Int} {i : Nat} (h : i < ns.length) : (ns.map V.int)[i]? = some (.int (ns.getD i 0)) := by
  rw [mapget, List.getElem?_eq_getElem h, List.getD_eq_getElem?_getD, List.getElem?_eq_getElem h]
  rfl
theorem getDI {ns : List Int} {i : Nat} (h : i < ns.length) : (ns.map V.int).getD i .non = .int (ns.getD i 0) := by
  rw [List.getD_eq_getElem?_getD, getI h]
  rfl
theorem getD_big {ns : List Int} {i : Nat} (h : ¬ i < ns.length) : ns.getD i 0 = 0 := by
  rw [List.getD_eq_getElem?_getD, List.getElem?_eq_none (by omega)]
  rfl
/-! ### number_at -/
abbrev sNumAt : Stmt := top 17
theorem scNumAt : FnScope ["row", "index"] ["row", "index"] (defScope sNumAt) := ⟨rfl, rfl, rfl, by decide +kernel, rfl, by decide +kernel, by decide +kernel⟩
def spNumAt (K : PySem.W.Frag) : Sp := fun vs H Q _ => ∃ (a : Addr) (ns : List Int) (i : Nat), vs = [.ref a, .int (i : Int)] ∧ SqT K H a (ns.map V.int) ∧ Q (.int (ns.getD i 0)) H
theorem ok_numAt (F : Fun K "number_at" "number_at" sNumAt f fd) (T : Txt K mg) : FnOk P w K mg base CX0 1 f fd ["row", "index"] (spNumAt K) := by
  refine F.ok scNumAt (fun vs H Q E h => ?_) (fun cdv A outer s H vs Q E hr h => ?_)
  · obtain ⟨a, ns, i, rfl, _⟩ := h
    rfl
  · obtain ⟨a, ns, i, rfl, hs, k⟩ := h
    refine ⟨_, pss_one (ps_ret (pe_ifExp (pt_cmpR op_lt (pv 1) (pe_callB call_len_seq (by rfl) T.len PySem.boot_len (pa_cons (pv 0) pa_nil)) (nomark _)) (pe_ix ix_tup (pv 0) (pv 1) (fun _ _ => rfl)) pe_int)), ?_⟩
    walk_at "rd"
    refine ⟨a, _, rfl, .inr hs, ?_⟩
    walk_at "rd"
    rw [List.length_map]
    refine ite2 (fun h1 => ?_) (fun h1 => ?_)
    · have h2 := of_decide_eq_true h1
      have hlt : i < ns.length := by omega
      walk_at "rd"
      exact g_ixT hs (atI_nat (getI hlt)) k
    · have hlt : ¬ i < ns.length := fun z => h1 (decide_eq_true (by omega))
      rw [getD_big hlt] at k
      walk_at "rd"
      exact k
/-! ### the turned row -/
abbrev sTurned : Stmt := top 18
def gtI (i : Nat) : V → Bool := fun v => match v with
  | .int n => decide ((i : Int) < n)
  | _ => false
theorem filter_gtI {ns : List Int} {i : Nat} : ((ns.map V.int).filter (gtI i)).length = (ns.filter fun x => decide ((i : Int) < x)).length := by
  rw [List.filter_map, List.length_map]
  rfl
theorem numZ {ns : List Int} : (0 + ns.getD 0 0 : Int).toNat = (ns.getD 0 0).toNat := by rw [Int.zero_add]
def turnM (ns : List Int) : List Int := (List.range (ns.getD 0 0).toNat).map fun (i : Nat) => ((ns.filter fun x => decide ((i : Int) < x)).length : Int)
theorem scTurned : FnScope ["row", "i", "number"] ["row"] (defScope sTurned) := ⟨rfl, rfl, rfl, by decide +kernel, rfl, by decide +kernel, by decide +kernel⟩
def spTurned (K : PySem.W.Frag) : Sp := fun vs H Q _ => ∃ (a : Addr) (ns : List Int), vs = [.ref a] ∧ SqT K H a (ns.map V.int) ∧ ns.length ≤ 100 ∧ 0 ≤ ns.getD 0 0 ∧ ns.getD 0 0 ≤ 100 ∧
  ∀ H' u, Ext H H' → TupX K H' u ((turnM ns).map V.int) → Q (.ref u) H'
theorem ok_turnedR (F : Fun K "turned_row" "turned_row" sTurned f fd) (T : Txt K mg) (N : Def1 P w K mg base CX0 1 "number_at" ["row", "index"] (spNumAt K)) : FnOk P w K mg base CX0 2 f fd ["row"] (spTurned K) := by
  refine F.ok scTurned (fun vs H Q E h => ?_) (fun cdv A outer s H vs Q E hr h => ?_)
  · obtain ⟨a, ns, rfl, _⟩ := h
    rfl
  · obtain ⟨a, ns, rfl, hs, hl, hm0, hm, k⟩ := h
    refine ⟨_, pss_one (ps_ret (pe_callTy call_tupX (by rfl) T.tuple (by decide +kernel) (pa_cons (pe_lc (own := [("i", 1)]) (g := gName 1) (tt := tYes) rfl scTurned.nd (pi_range1 (by rfl) T.range (pa_cons (pe_def N hr (by decide) (by rfl) (pa_cons (pv 0) (pa_cons pe_int pa_nil))) pa_nil)) (blkOk_by (N := ["row", "i", "number"]) (sc := defScope sTurned) (by decide +kernel)) (fun _ _ _ _ _ => pg_name (i := 1) scTurned.nd rfl (Or.inr rfl)) (fun _ _ _ _ _ => pts_nil) (fun _ _ _ _ _ => by exact (pe_callB (r := rLenS K) call_len_seq (by rfl) T.len PySem.boot_len (pa_cons (pe_lc (own := [("number", 2)]) (wi := iTup K (tVar 0)) (g := gName 2) rfl scTurned.nd (by exact (pi_tup (pv 0))) (blkOk_by (N := ["row", "i", "number"]) (sc := { kind := .function, names := [((".0" : Str), .local), ("i", .cell), ("len", .globalImplicit), ("row", .cell)], isGenerator := false, isCoroutine := false, more := [] }) (by decide +kernel)) (fun _ _ _ _ _ => pg_name (i := 2) scTurned.nd rfl (Or.inl rfl)) (fun _ _ _ _ _ => pts_one (pt_cmpR op_gt (pv 2) (pv 1) (nomark _))) (fun _ _ _ _ _ => by exact (pv 2))) pa_nil)))) pa_nil))), ?_⟩
    walk_at "rd"
    refine g_lc (g_rng1 ?_)
    walk_at "rd"
    refine ⟨a, ns, 0, rfl, hs, ?_⟩
    walk_at "rd"
    refine ⟨by omega, by omega, lcR (by show _ < sizeLine; have : (1000 : Nat) < sizeLine := by decide
                                        omega) (fun _ => true) (fun i => .int ((ns.filter fun x => decide ((i : Int) < x)).length : Int)) (fun i H' hi e Qe Qn he hn => ?_) (fun H' D e hD hd => ?_)⟩
    · walk_at "rd"
      refine ⟨rfl, ?_⟩
      walk_at "rd"
      refine g_lc (g_itup ?_)
      walk_at "rd"
      refine lcT (sqT_ext e hs) (by rw [List.length_map]; show _ < sizeLine; have : (1000 : Nat) < sizeLine := by decide
                                    omega) (gtI i) id (fun x H2 hx e2 Qe2 Qn2 he2 hn2 => ?_) (fun H2 D2 e2 hD2 hd2 => ?_)
      · obtain ⟨n, hn, rfl⟩ := List.mem_map.mp hx
        walk_at "rd"
        refine ⟨rfl, ?_⟩
        walk_at "rd"
        refine ite2 (fun h1 => ?_) (fun h1 => ?_)
        · walk_at "rd"
          exact he2 _ (fun _ _ z => z) (by show decide _ = true; simpa using h1)
        · refine hn2 _ (fun _ _ z => z) (by show decide _ = false; simpa using h1)
      · walk_at "rd"
        refine ⟨D2, _, rfl, .inl (SqL.of hd2), ?_⟩
        walk_at "rd"
        rw [List.length_map, filter_gtI]
        exact he _ e2 rfl
    · walk_at "rd"
      rw [idx_all] at hd
      refine ⟨D, _, rfl, .inl ⟨SqL.of hd, fun l o hl ho => ?_⟩⟩
      refine k _ l (Ext.trans e (Ext.new hl)) ?_
      unfold turnM
      rw [List.map_map]
      exact TupX.new ho
end
end Q0

set_option Elab.async false
set_option linter.all false
set_option maxRecDepth 100000
set_option maxHeartbeats 4000000
/-! Falling rows: slant, held, topped, joined, added. -/
namespace Q0
open PySem PySem.Spec PyProof.Rows L2 Gd
local macro_rules | `(tactic| walk_at "rd1") => `(tactic| first | with_reducible refine g_ret ?_ | with_reducible refine g_retN ?_ | with_reducible refine g_seq ?_ | with_reducible refine g_next ?_ | with_reducible refine g_drop ?_ | with_reducible refine g_asg ?_ | with_reducible refine g_name ?_ | with_reducible refine g_ifs ?_ | with_reducible refine g_test ?_ | with_reducible refine g_tb ?_ | with_reducible refine g_and ?_ | with_reducible refine g_or ?_ | with_reducible refine g_not ?_ | with_reducible refine g_andV ?_ | with_reducible refine g_orV ?_ | with_reducible refine g_notV ?_ | with_reducible refine g_if ?_ | with_reducible refine g_op ?_ | with_reducible refine g_un ?_ | with_reducible refine g_cb ?_ | with_reducible refine g_nil ?_ | with_reducible refine g_cons ?_ | with_reducible refine g_call ?_ | with_reducible refine g_callS ?_ | with_reducible refine g_tup ?_ | with_reducible refine g_lst ?_ | with_reducible refine g_isN ?_ | with_reducible refine g_sl ?_ | with_reducible refine g_nopart ?_ | with_reducible refine g_part ?_ | with_reducible refine g_chain ?_ | with_reducible refine g_fld ?_ | with_reducible refine g_prop ?_ | with_reducible refine g_bm ?_ | with_reducible refine g_bm0 ?_ | with_reducible refine g_c ?_ | with_reducible refine g_sub ?_ | with_reducible refine g_int1 ?_ | with_reducible refine g_int2 ?_ | with_reducible refine g_yes ?_ | with_reducible refine g_sfld ?_ | with_reducible refine g_NT ?_ | with_reducible refine g_NF ?_ | with_reducible refine iteT ?_ | with_reducible refine iteF ?_ | ((with_reducible refine' g_aug ?hv ?_); (case hv => exact rfl)) | ((with_reducible refine' g_var ?hv ?_); (case hv => exact rfl)) | with_reducible refine g_I0 ?_ | with_reducible refine g_U ?_ | with_reducible refine g_eqI ?_ | with_reducible refine g_blV ?_ | with_reducible refine g_inV ?_)
local macro_rules | `(tactic| walk_at "rd") => `(tactic| repeat walk_at "rd1")
structure Fall (ns : List Int) : Prop where
  pos : ∀ x ∈ ns, 1 ≤ x
  sum : ns.sum ≤ 12
  desc : ∀ i : Nat, i + 1 < ns.length → ns.getD (i + 1) 0 ≤ ns.getD i 0
theorem sum_len : ∀ {ns : List Int}, (∀ x ∈ ns, 1 ≤ x) → (ns.length : Int) ≤ ns.sum
  | [], _ => by simp
  | x :: r, h => by
    have h1 := h x List.mem_cons_self
    have h2 := sum_len (ns := r) fun y hy => h y (List.mem_cons_of_mem _ hy)
    rw [List.sum_cons, List.length_cons]
    omega
theorem mem_sum : ∀ {ns : List Int}, (∀ x ∈ ns, 1 ≤ x) → ∀ x ∈ ns, x ≤ ns.sum
  | [], _, x, hx => by cases hx
  | y :: r, h, x, hx => by
    have h1 := h y List.mem_cons_self
    have hr : ∀ z ∈ r, 1 ≤ z := fun z hz => h z (List.mem_cons_of_mem _ hz)
    have h2 := sum_len hr
    rw [List.sum_cons]
    rcases List.mem_cons.mp hx with e | e
    · subst e
      omega
    · have := mem_sum hr x e
      omega
theorem Fall.len {ns : List Int} (h : Fall ns) : ns.length ≤ 12 := by
  have := sum_len h.pos
  have := h.sum
  omega
theorem Fall.le {ns : List Int} (h : Fall ns) : ∀ x ∈ ns, x ≤ 12 := fun x hx => by
  have := mem_sum h.pos x hx
  have := h.sum
  omega
theorem Fall.sum0 {ns : List Int} (h : Fall ns) : 0 ≤ ns.sum := by
  have := sum_len h.pos
  omega
theorem Fall.at {ns : List Int} (h : Fall ns) (i : Nat) : 0 ≤ ns.getD i 0 ∧ ns.getD i 0 ≤ 12 := by
  by_cases hi : i < ns.length
  · rw [List.getD_eq_getElem?_getD, List.getElem?_eq_getElem hi]
    have := h.pos _ (List.getElem_mem hi)
    have := h.le _ (List.getElem_mem hi)
    show 0 ≤ ns[i] ∧ ns[i] ≤ 12
    omega
  · rw [getD_big hi]
    omega
theorem Fall.size {ns : List Int} (h : Fall ns) {n : Nat} (hn : n ≤ 1000) : n < sizeLine := by
  have : (1000 : Nat) < sizeLine := by decide
  omega
theorem small {n : Nat} (hn : n ≤ 1000) : n < sizeLine := by
  have : (1000 : Nat) < sizeLine := by decide
  omega
section
variable {P : Program} {w : World} {K : PySem.W.Frag} {mg : Str → Option Value} {base : Heap} {f : Addr} {fd : FuncData}
theorem mulS {a b : Int} (h0 : 0 ≤ a) (h1 : a ≤ 1000) (h2 : 0 ≤ b) (h3 : b ≤ 1000) : CMul a b := by
  first
    | exact .inr ⟨by omega, by omega⟩
    | exact .inl ⟨by omega, by omega⟩
    | exact ⟨by omega, by omega⟩
/-! ### slant -/
abbrev sSlant : Stmt := top 19
def slantM (ns : List Int) : Int := ((List.range ns.length).map fun (i : Nat) => (i : Int) * ns.getD i 0).sum
def mulV (i : Nat) : V → V := fun v => match v with
  | .int n => .int ((i : Int) * n)
  | y => y
theorem slant_map {ns : List Int} : ((idx (fun i => true) ns.length).map fun i => mulV i ((ns.map V.int).getD i .non)) = ((List.range ns.length).map fun (i : Nat) => (i : Int) * ns.getD i 0).map V.int := by
  rw [idx_all, List.map_map]
  refine List.map_congr_left fun i hi => ?_
  rw [getDI (List.mem_range.mp hi)]
  rfl
theorem scSlant : FnScope ["row", "i", "number"] ["row"] (defScope sSlant) := ⟨rfl, rfl, rfl, by decide +kernel, rfl, by decide +kernel, by decide +kernel⟩
def spSlant (K : PySem.W.Frag) : Sp := fun vs H Q _ => ∃ (a : Addr) (ns : List Int), vs = [.ref a] ∧ SqT K H a (ns.map V.int) ∧ Fall ns ∧ ∀ H', Ext H H' → Q (.int (slantM ns)) H'
theorem ok_slantR (F : Fun K "slant_of" "slant_of" sSlant f fd) (T : Txt K mg) : FnOk P w K mg base CX0 1 f fd ["row"] (spSlant K) := by
  refine F.ok scSlant (fun vs H Q E h => ?_) (fun cdv A outer s H vs Q E hr h => ?_)
  · obtain ⟨a, ns, rfl, _⟩ := h
    rfl
  · obtain ⟨a, ns, rfl, hs, hF, k⟩ := h
    refine ⟨_, pss_one (ps_ret (pe_callB (call_sumS rfl) (by rfl) T.sum (by decide +kernel) (pa_cons (pe_lc (own := [("i", 1), ("number", 2)]) (g := gTup K 2 (gCons (gName 1) (gCons (gName 2) gNil))) (tt := tYes) rfl scSlant.nd (pi_enumT (by rfl) T.enumerate (pa_cons (pv 0) pa_nil)) (blkOk_by (N := ["row", "i", "number"]) (sc := defScope sSlant) (by decide +kernel)) (fun _ _ _ _ _ => pg_tup rfl (pgs_cons (pg_name (i := 1) scSlant.nd rfl (Or.inl rfl)) (pgs_cons (pg_name (i := 2) scSlant.nd rfl (Or.inl rfl)) pgs_nil))) (fun _ _ _ _ _ => pts_nil) (fun _ _ _ _ _ => (pe_op op_mul (pv 1) (pv 2)))) pa_nil))), ?_⟩
    have hlen := hF.len
    walk_at "rd"
    refine g_lc ?_
    unfold iEnumT
    walk_at "rd"
    refine lcE hs (small (by rw [List.length_map]; omega)) (fun _ _ => true) mulV (fun i x H' hx e Qe Qn he hn => ?_) (fun H' D e hD hd => ?_)
    · rw [mapget] at hx
      obtain ⟨n, hn', rfl⟩ := Option.map_eq_some_iff.mp hx
      refine ⟨rfl, ?_⟩
      walk_at "rd"
      have b1 := hF.pos _ (List.mem_of_getElem? hn')
      have b2 := hF.le _ (List.mem_of_getElem? hn')
      have b3 := (List.getElem?_eq_some_iff.mp hn').1
      refine g_I (mulS (by omega) (by omega) (by omega) (by omega)) ?_
      exact he _ (fun _ _ z => z) rfl
    · rw [List.length_map, slant_map] at hd
      walk_at "rd"
      exact ⟨D, _, rfl, .inl (SqL.of hd), k H' e⟩
/-! ### held -/
abbrev sHeld : Stmt := top 20
def heldM (ns ms : List Int) : Bool := decide (ns.length ≤ ms.length) && ((ns.zip ms).all fun p => decide (p.1 ≤ p.2))
def leV : V → V → V := fun x y => match x, y with
  | .int n, .int m => .bl (decide (n ≤ m))
  | _, _ => .non
theorem held_map {ns ms : List Int} : (((ns.map V.int).zip (ms.map V.int)).filter fun _ => true).map (fun p => leV p.1 p.2) = ((ns.zip ms).map fun p => decide (p.1 ≤ p.2)).map V.bl := by
  rw [List.filter_eq_self.mpr (fun _ _ => rfl), List.zip_map, List.map_map, List.map_map]
  rfl
theorem scHeld : FnScope ["row", "other", "x", "y"] ["row", "other"] (defScope sHeld) := ⟨rfl, rfl, rfl, by decide +kernel, rfl, by decide +kernel, by decide +kernel⟩
def spHeld (K : PySem.W.Frag) : Sp := fun vs H Q _ => ∃ (a b : Addr) (ns ms : List Int), vs = [.ref a, .ref b] ∧ SqT K H a (ns.map V.int) ∧ SqT K H b (ms.map V.int) ∧ Fall ns ∧ Fall ms ∧ ∀ H', Ext H H' → Q (.bl (heldM ns ms)) H'
theorem ok_held (F : Fun K "is_held" "is_held" sHeld f fd) (T : Txt K mg) : FnOk P w K mg base CX0 1 f fd ["row", "other"] (spHeld K) := by
  refine F.ok scHeld (fun vs H Q E h => ?_) (fun cdv A outer s H vs Q E hr h => ?_)
  · obtain ⟨a, b, ns, ms, rfl, _⟩ := h
    rfl
  · obtain ⟨a, b, ns, ms, rfl, hs, ht, hF, hG, k⟩ := h
    refine ⟨_, pss_one (ps_ret (pe_and (pe_cmpR op_le (pe_callB call_len_seq (by rfl) T.len PySem.boot_len (pa_cons (pv 0) pa_nil)) (pe_callB call_len_seq (by rfl) T.len PySem.boot_len (pa_cons (pv 1) pa_nil)) (nomark _)) (pe_one (pe_callB (cr_all rfl) (by rfl) T.all (by decide +kernel) (pa_cons (pe_lc (own := [("x", 2), ("y", 3)]) (g := gTup K 2 (gCons (gName 2) (gCons (gName 3) gNil))) (tt := tYes) rfl scHeld.nd (pi_zipE (by rfl) T.zip (pa_cons (pv 0) (pa_cons (pv 1) pa_nil))) (blkOk_by (N := ["row", "other", "x", "y"]) (sc := defScope sHeld) (by decide +kernel)) (fun _ _ _ _ _ => pg_tup rfl (pgs_cons (pg_name (i := 2) scHeld.nd rfl (Or.inl rfl)) (pgs_cons (pg_name (i := 3) scHeld.nd rfl (Or.inl rfl)) pgs_nil))) (fun _ _ _ _ _ => pts_nil) (fun _ _ _ _ _ => (pe_cmpR op_le (pv 2) (pv 3) (nomark _)))) pa_nil))))), ?_⟩
    have hlen := hF.len
    walk_at "rd"
    refine ⟨a, _, rfl, .inr hs, ?_⟩
    walk_at "rd"
    refine ⟨b, _, rfl, .inr ht, ?_⟩
    walk_at "rd"
    rw [List.length_map, List.length_map]
    refine ite2 (fun h1 => ?_) (fun h1 => ?_)
    · have h2 := of_decide_eq_true h1
      walk_at "rd"
      refine g_lc ?_
      unfold iZipE
      walk_at "rd"
      refine lcZ (l1 := false) (l2 := false) hs ht (small (by rw [List.length_map]; omega)) (fun _ _ => true) leV (fun x y H' hxy e Qe Qn he hn => ?_) (fun H' D e hD hd => ?_)
      · rw [List.zip_map] at hxy
        obtain ⟨⟨n, m⟩, hnm, e1⟩ := List.mem_map.mp hxy
        cases e1
        refine ⟨rfl, ?_⟩
        walk_at "rd"
        exact he _ (fun _ _ z => z) rfl
      · rw [held_map] at hd
        walk_at "rd"
        refine ⟨D, _, rfl, SqL.of hd, ?_⟩
        have e1 : heldM ns ms = ((ns.zip ms).map fun p => decide (p.1 ≤ p.2)).all id := by
          unfold heldM
          rw [decide_eq_true (show ns.length ≤ ms.length by omega), Bool.true_and, List.all_map]
          rfl
        rw [← e1]
        exact k H' e
    · have h2 : ¬ ns.length ≤ ms.length := fun z => h1 (decide_eq_true (by omega))
      have e1 : heldM ns ms = false := by
        unfold heldM
        rw [decide_eq_false h2]
        rfl
      walk_at "rd"
      rw [← e1]
      exact k H (fun _ _ z => z)
end
end Q0

set_option Elab.async false
set_option linter.all false
set_option maxRecDepth 100000
set_option maxHeartbeats 4000000
/-! Falling rows: topped, joined, added, what a falling row is. -/
namespace Q0
open PySem PySem.Spec PyProof.Rows L2 Gd
local macro_rules | `(tactic| walk_at "rd1") => `(tactic| first | with_reducible refine g_ret ?_ | with_reducible refine g_retN ?_ | with_reducible refine g_seq ?_ | with_reducible refine g_next ?_ | with_reducible refine g_drop ?_ | with_reducible refine g_asg ?_ | with_reducible refine g_name ?_ | with_reducible refine g_ifs ?_ | with_reducible refine g_test ?_ | with_reducible refine g_tb ?_ | with_reducible refine g_and ?_ | with_reducible refine g_or ?_ | with_reducible refine g_not ?_ | with_reducible refine g_andV ?_ | with_reducible refine g_orV ?_ | with_reducible refine g_notV ?_ | with_reducible refine g_if ?_ | with_reducible refine g_op ?_ | with_reducible refine g_un ?_ | with_reducible refine g_cb ?_ | with_reducible refine g_nil ?_ | with_reducible refine g_cons ?_ | with_reducible refine g_call ?_ | with_reducible refine g_callS ?_ | with_reducible refine g_tup ?_ | with_reducible refine g_lst ?_ | with_reducible refine g_isN ?_ | with_reducible refine g_sl ?_ | with_reducible refine g_nopart ?_ | with_reducible refine g_part ?_ | with_reducible refine g_chain ?_ | with_reducible refine g_fld ?_ | with_reducible refine g_prop ?_ | with_reducible refine g_bm ?_ | with_reducible refine g_bm0 ?_ | with_reducible refine g_c ?_ | with_reducible refine g_sub ?_ | with_reducible refine g_int1 ?_ | with_reducible refine g_int2 ?_ | with_reducible refine g_yes ?_ | with_reducible refine g_sfld ?_ | with_reducible refine g_NT ?_ | with_reducible refine g_NF ?_ | with_reducible refine iteT ?_ | with_reducible refine iteF ?_ | ((with_reducible refine' g_aug ?hv ?_); (case hv => exact rfl)) | ((with_reducible refine' g_var ?hv ?_); (case hv => exact rfl)) | with_reducible refine g_I0 ?_ | with_reducible refine g_U ?_ | with_reducible refine g_eqI ?_ | with_reducible refine g_blV ?_ | with_reducible refine g_inV ?_)
local macro_rules | `(tactic| walk_at "rd") => `(tactic| repeat walk_at "rd1")
section
variable {P : Program} {w : World} {K : PySem.W.Frag} {mg : Str → Option Value} {base : Heap} {f : Addr} {fd : FuncData}
theorem g_takeT {H : Hp} {Q : VK} {a : Addr} {ns : List Int} {i : Nat} (hs : SqT K H a (ns.map V.int)) (k : ∀ H' p, Ext H H' → SqT K H' p ((ns.take i).map V.int) → Q (.ref p) H') : rSlA K (.ref a) none (some (i : Int)) H Q := by
  refine ⟨a, _, rfl, hs, fun hw => ?_, fun hw p hp => ?_⟩
  · have h2 := hw.2
    rw [HT.sIx_nat, List.length_map] at h2
    refine k H a (fun _ _ z => z) ?_
    rw [List.take_of_length_le (by omega)]
    exact hs
  · refine k _ p (Ext.new hp) (SqT.of ?_)
    rw [upd_same]
    unfold cutV
    rw [HT.sIx_none, HT.sIx_nat, List.length_map, List.drop_zero, Nat.sub_zero, ← List.map_take]
    congr 3
    by_cases h : i ≤ ns.length
    · rw [Nat.min_eq_left h]
    · rw [Nat.min_eq_right (by omega), List.take_of_length_le (by omega), List.take_of_length_le (by omega)]
/-! ### topped -/
abbrev sTopped : Stmt := top 21
def topM (ns ms : List Int) : Bool := (List.range (ms.length - 1)).all fun i => decide ((ns.take (i + 1)).sum ≤ (ms.take (i + 1)).sum)
theorem scTopped : FnScope ["row", "other", "i"] ["row", "other"] (defScope sTopped) := ⟨rfl, rfl, rfl, by decide +kernel, rfl, by decide +kernel, by decide +kernel⟩
def spTopped (K : PySem.W.Frag) : Sp := fun vs H Q _ => ∃ (a b : Addr) (ns ms : List Int), vs = [.ref a, .ref b] ∧ SqT K H a (ns.map V.int) ∧ SqT K H b (ms.map V.int) ∧ Fall ns ∧ Fall ms ∧ ∀ H', Ext H H' → Q (.bl (topM ns ms)) H'
theorem ok_topped (F : Fun K "is_topped" "is_topped" sTopped f fd) (T : Txt K mg) : FnOk P w K mg base CX0 1 f fd ["row", "other"] (spTopped K) := by
  refine F.ok scTopped (fun vs H Q E h => ?_) (fun cdv A outer s H vs Q E hr h => ?_)
  · obtain ⟨a, b, ns, ms, rfl, _⟩ := h
    rfl
  · obtain ⟨a, b, ns, ms, rfl, hs, ht, hF, hG, k⟩ := h
    refine ⟨_, pss_one (ps_ret (pe_callB (cr_all rfl) (by rfl) T.all (by decide +kernel) (pa_cons (pe_lc (own := [("i", 2)]) (g := gName 2) (tt := tYes) rfl scTopped.nd (pi_range2 (by rfl) T.range (pa_cons pe_int (pa_cons (pe_callB call_len_seq (by rfl) T.len PySem.boot_len (pa_cons (pv 1) pa_nil)) pa_nil))) (blkOk_by (N := ["row", "other", "i"]) (sc := defScope sTopped) (by decide +kernel)) (fun _ _ _ _ _ => pg_name (i := 2) scTopped.nd rfl (Or.inl rfl)) (fun _ _ _ _ _ => pts_nil) (fun _ _ _ _ _ => (pe_cmpR op_le (pe_callB (r := rSumS K) (call_sumS rfl) (by rfl) T.sum (by decide +kernel) (pa_cons (pe_slice (r := rSlA K) sl_tupA (pv 0) po_none (po_some (pv 2))) pa_nil)) (pe_callB (r := rSumS K) (call_sumS rfl) (by rfl) T.sum (by decide +kernel) (pa_cons (pe_slice (r := rSlA K) sl_tupA (pv 1) po_none (po_some (pv 2))) pa_nil)) (nomark _)))) pa_nil))), ?_⟩
    have hlen := hG.len
    walk_at "rd"
    refine g_lc (g_rng2 ?_)
    walk_at "rd"
    refine ⟨b, _, rfl, .inr ht, ?_⟩
    walk_at "rd"
    rw [List.length_map]
    refine ⟨⟨by decide, by decide, by omega, by omega⟩, ?_⟩
    have en : ((ms.length : Int) - 1).toNat = ms.length - 1 := by omega
    rw [en]
    refine lcR (small (by omega)) (fun _ => true) (fun i => .bl (decide ((ns.take (i + 1)).sum ≤ (ms.take (i + 1)).sum))) (fun i H' hi e Qe Qn he hn => ?_) (fun H' D e hD hd => ?_)
    · have ei : (1 + (i : Int)) = ((i + 1 : Nat) : Int) := by omega
      rw [ei]
      walk_at "rd"
      refine ⟨rfl, ?_⟩
      walk_at "rd"
      refine g_takeT (sqT_ext e hs) fun H2 p e2 hp => ?_
      walk_at "rd"
      refine ⟨p, _, rfl, .inr hp, ?_⟩
      walk_at "rd"
      refine g_takeT (sqT_ext e2 (sqT_ext e ht)) fun H3 q e3 hq => ?_
      walk_at "rd"
      refine ⟨q, _, rfl, .inr hq, ?_⟩
      walk_at "rd"
      exact he _ (Ext.trans e2 e3) rfl
    · rw [idx_all] at hd
      walk_at "rd"
      refine ⟨D, (List.range (ms.length - 1)).map fun i => decide ((ns.take (i + 1)).sum ≤ (ms.take (i + 1)).sum), rfl, SqL.of ?_, ?_⟩
      · rw [hd, List.map_map]
        rfl
      · rw [List.all_map]
        exact k H' e
/-! ### added -/
abbrev sAdded : Stmt := top 23
def addM (ns ms : List Int) : List Int := (List.range (max ns.length ms.length)).map fun i => ns.getD i 0 + ms.getD i 0
theorem scAdded : FnScope ["one", "other", "longer", "i"] ["one", "other"] (defScope sAdded) := ⟨rfl, rfl, rfl, by decide +kernel, rfl, by decide +kernel, by decide +kernel⟩
def spAdded (K : PySem.W.Frag) : Sp := fun vs H Q _ => ∃ (a b : Addr) (ns ms : List Int), vs = [.ref a, .ref b] ∧ SqT K H a (ns.map V.int) ∧ SqT K H b (ms.map V.int) ∧ Fall ns ∧ Fall ms ∧
  ∀ H' u, Ext H H' → TupX K H' u ((addM ns ms).map V.int) → Q (.ref u) H'
theorem ok_addedR (F : Fun K "added_row" "added_row" sAdded f fd) (T : Txt K mg) (N : Def1 P w K mg base CX0 1 "number_at" ["row", "index"] (spNumAt K)) : FnOk P w K mg base CX0 2 f fd ["one", "other"] (spAdded K) := by
  refine F.ok scAdded (fun vs H Q E h => ?_) (fun cdv A outer s H vs Q E hr h => ?_)
  · obtain ⟨a, b, ns, ms, rfl, _⟩ := h
    rfl
  · obtain ⟨a, b, ns, ms, rfl, hs, ht, hF, hG, k⟩ := h
    refine ⟨_, pss_cons (ps_set (i := 2) scAdded.nd rfl (Or.inl rfl) (pe_ifExp (pt_cmpR op_gt (pe_callB call_len_seq (by rfl) T.len PySem.boot_len (pa_cons (pv 0) pa_nil)) (pe_callB call_len_seq (by rfl) T.len PySem.boot_len (pa_cons (pv 1) pa_nil)) (nomark _)) (pe_callB call_len_seq (by rfl) T.len PySem.boot_len (pa_cons (pv 0) pa_nil)) (pe_callB call_len_seq (by rfl) T.len PySem.boot_len (pa_cons (pv 1) pa_nil))))
      (pss_one (ps_ret (pe_callTy call_tupX (by rfl) T.tuple (by decide +kernel) (pa_cons (pe_lc (own := [("i", 3)]) (g := gName 3) (tt := tYes) rfl scAdded.nd (pi_range1 (by rfl) T.range (pa_cons (pv 2) pa_nil)) (blkOk_by (N := ["one", "other", "longer", "i"]) (sc := defScope sAdded) (by decide +kernel)) (fun _ _ _ _ _ => pg_name (i := 3) scAdded.nd rfl (Or.inl rfl)) (fun _ _ _ _ _ => pts_nil) (fun _ _ _ _ _ => (pe_op op_add (pe_def N hr (by decide) (by rfl) (pa_cons (pv 0) (pa_cons (pv 3) pa_nil))) (pe_def N hr (by decide) (by rfl) (pa_cons (pv 1) (pa_cons (pv 3) pa_nil)))))) pa_nil)))), ?_⟩
    have hl1 := hF.len
    have hl2 := hG.len
    walk_at "rd"
    refine ⟨a, _, rfl, .inr hs, ?_⟩
    walk_at "rd"
    refine ⟨b, _, rfl, .inr ht, ?_⟩
    walk_at "rd"
    rw [List.length_map, List.length_map]
    refine g_ifV (.int ((max ns.length ms.length : Nat) : Int)) (fun h1 Q' q => ?_) (fun h1 Q' q => ?_) ?_
    · have h2 := of_decide_eq_true h1
      walk_at "rd"
      refine ⟨a, _, rfl, .inr hs, ?_⟩
      rw [List.length_map]
      rw [Nat.max_eq_left (by omega)] at q
      exact q
    · have h2 := of_decide_eq_false h1
      walk_at "rd"
      refine ⟨b, _, rfl, .inr ht, ?_⟩
      rw [List.length_map]
      rw [Nat.max_eq_right (by omega)] at q
      exact q
    walk_at "rd"
    refine g_lc (g_rng1 ?_)
    walk_at "rd"
    refine ⟨by omega, by omega, ?_⟩
    rw [Int.toNat_natCast]
    refine lcR (small (by omega)) (fun _ => true) (fun i => .int (ns.getD i 0 + ms.getD i 0)) (fun i H' hi e Qe Qn he hn => ?_) (fun H' D e hD hd => ?_)
    · rw [Int.zero_add]
      walk_at "rd"
      refine ⟨rfl, ?_⟩
      walk_at "rd"
      refine ⟨a, ns, i, rfl, sqT_ext e hs, ?_⟩
      walk_at "rd"
      refine ⟨b, ms, i, rfl, sqT_ext e ht, ?_⟩
      walk_at "rd"
      exact he _ (fun _ _ z => z) rfl
    · rw [idx_all] at hd
      walk_at "rd"
      refine ⟨D, _, rfl, .inl ⟨SqL.of hd, fun l o hl ho => ?_⟩⟩
      refine k _ l (Ext.trans e (Ext.new hl)) ?_
      unfold addM
      rw [List.map_map]
      exact TupX.new ho
end
end Q0

set_option Elab.async false
set_option linter.all false
set_option maxRecDepth 100000
set_option maxHeartbeats 4000000
/-! Falling rows: joined, what a falling row is. -/
namespace Q0
open PySem PySem.Spec PyProof.Rows L2 Gd
local macro_rules | `(tactic| walk_at "rd1") => `(tactic| first | with_reducible refine g_ret ?_ | with_reducible refine g_retN ?_ | with_reducible refine g_seq ?_ | with_reducible refine g_next ?_ | with_reducible refine g_drop ?_ | with_reducible refine g_asg ?_ | with_reducible refine g_name ?_ | with_reducible refine g_ifs ?_ | with_reducible refine g_test ?_ | with_reducible refine g_tb ?_ | with_reducible refine g_and ?_ | with_reducible refine g_or ?_ | with_reducible refine g_not ?_ | with_reducible refine g_andV ?_ | with_reducible refine g_orV ?_ | with_reducible refine g_notV ?_ | with_reducible refine g_if ?_ | with_reducible refine g_op ?_ | with_reducible refine g_un ?_ | with_reducible refine g_cb ?_ | with_reducible refine g_nil ?_ | with_reducible refine g_cons ?_ | with_reducible refine g_call ?_ | with_reducible refine g_callS ?_ | with_reducible refine g_tup ?_ | with_reducible refine g_lst ?_ | with_reducible refine g_isN ?_ | with_reducible refine g_sl ?_ | with_reducible refine g_nopart ?_ | with_reducible refine g_part ?_ | with_reducible refine g_chain ?_ | with_reducible refine g_fld ?_ | with_reducible refine g_prop ?_ | with_reducible refine g_bm ?_ | with_reducible refine g_bm0 ?_ | with_reducible refine g_c ?_ | with_reducible refine g_sub ?_ | with_reducible refine g_int1 ?_ | with_reducible refine g_int2 ?_ | with_reducible refine g_yes ?_ | with_reducible refine g_sfld ?_ | with_reducible refine g_NT ?_ | with_reducible refine g_NF ?_ | with_reducible refine iteT ?_ | with_reducible refine iteF ?_ | ((with_reducible refine' g_aug ?hv ?_); (case hv => exact rfl)) | ((with_reducible refine' g_var ?hv ?_); (case hv => exact rfl)) | with_reducible refine g_I0 ?_ | with_reducible refine g_U ?_ | with_reducible refine g_eqI ?_ | with_reducible refine g_blV ?_ | with_reducible refine g_inV ?_)
local macro_rules | `(tactic| walk_at "rd") => `(tactic| repeat walk_at "rd1")
/-- what two clauses over numbers give: the i-th number, cnt i times -/
def flat (v : Nat → Int) (cnt : Nat → Nat) (n : Nat) : List Int := (List.range n).flatMap fun i => List.replicate (cnt i) (v i)
theorem flat_succ (v : Nat → Int) (cnt : Nat → Nat) (n : Nat) : flat v cnt (n + 1) = flat v cnt n ++ List.replicate (cnt n) (v n) := by
  unfold flat
  rw [List.range_succ, List.flatMap_append, List.flatMap_cons, List.flatMap_nil, List.append_nil]
theorem flat_len {v : Nat → Int} {cnt : Nat → Nat} : ∀ n : Nat, (∀ i, i < n → cnt i ≤ 30) → (flat v cnt n).length ≤ n * 30
  | 0, _ => by simp [flat]
  | n + 1, h => by
    have h1 := flat_len (v := v) n fun i hi => h i (by omega)
    have h2 := h n (by omega)
    rw [flat_succ, List.length_append, List.length_replicate]
    omega
/-- what two clauses ask, told of their turns -/
def Lc2G (J : It) (g : TG) (tt : TT) (wi1 : TI) (g1 : TG) (tt1 : TT) (te : TE) (vs vs1 : List Nat) (σ : L2.St) (H1 : Hp) (Q : VK) : Prop := ∀ D, H1 D = none → ∃ W : Nat → Nat → Hp → Prop, (∃ m, W 0 m (upd H1 D (.lst []))) ∧ ∀ i m H, W i m H →
  (J.stop i H ∧ Q (.ref D) H) ∨ (J.go i H ∧ ∃ Nx : Hp → Prop, (∀ H', Nx H' → ∃ m', m' < m ∧ W (i + 1) m' H') ∧ ∀ x H', J.yld i H x H' → g x (wipe σ vs) H' fun σ2 H2 => wipe σ2 vs = wipe σ vs ∧ tt σ2 H2 fun b H3 =>
    if b = true then wi1 σ2 H3 fun J1 H4 => ∃ W1 : Nat → Nat → Hp → Prop, (∃ m, W1 0 m H4) ∧ ∀ j k H, W1 j k H →
      (J1.stop j H ∧ Nx H) ∨ (J1.go j H ∧ ∃ Nx1 : Hp → Prop, (∀ H', Nx1 H' → ∃ k', k' < k ∧ W1 (j + 1) k' H') ∧ ∀ x H', J1.yld j H x H' → g1 x (wipe σ2 vs1) H' fun σ3 H5 => wipe σ3 vs1 = wipe σ2 vs1 ∧ tt1 σ3 H5 fun b H6 =>
        if b = true then te σ3 H6 fun y H7 => ∃ acc, H7 D = some (.lst acc) ∧ acc.length < sizeLine ∧ Nx1 (upd H7 D (.lst (acc ++ [y]))) else Nx1 H6)
    else Nx H3)
theorem g_lc2 {wi wi1 : TI} {g g1 : TG} {tt tt1 : TT} {te : TE} {vs vs1 : List Nat} {σ : L2.St} {H : Hp} {Q : VK} (k : wi σ H fun J H1 => Lc2G J g tt wi1 g1 tt1 te vs vs1 σ H1 Q) : tLc2 wi g tt wi1 g1 tt1 te vs vs1 σ H Q := k
theorem lc2R {σ : L2.St} {H1 : Hp} {Q : VK} {vs vs1 : List Nat} {i1 i2 : Nat} {lo st : Int} {n : Nat} {wi1 : TI} (cnt : Nat → Nat) (hn : n ≤ 30) (hc : ∀ i, i < n → cnt i ≤ 30)
    (h1 : ∀ v, wipe ((wipe σ vs).set i1 (some v)) vs = wipe σ vs)
    (h2 : ∀ v u, wipe ((wipe ((wipe σ vs).set i1 (some v)) vs1).set i2 (some u)) vs1 = wipe ((wipe σ vs).set i1 (some v)) vs1)
    (h3 : ∀ v u, ((wipe ((wipe σ vs).set i1 (some v)) vs1).set i2 (some u))[i1]? = some (some v))
    (hw : ∀ (i : Nat) H', i < n → Ext H1 H' → ∀ R : It → Hp → Prop, R (Itr 0 (cnt i)) H' → wi1 ((wipe σ vs).set i1 (some (.int (lo + (i : Nat) * st)))) H' R)
    (k : ∀ H' D, Ext H1 H' → H1 D = none → H' D = some (.lst ((flat (fun i => lo + (i : Nat) * st) cnt n).map V.int)) → Q (.ref D) H') :
    Lc2G (Itc lo st n) (gName i1) tYes wi1 (gName i2) tYes (tVar i1) vs vs1 σ H1 Q := by
  unfold Lc2G
  intro D hD
  have put : ∀ {H : Hp} {xs : List V}, Ext H1 H → Ext H1 (upd H D (.lst xs)) := fun {H xs} e b o q => by
    rw [upd_ne (ne_of_none q hD)]
    exact e b o q
  refine ⟨fun i m H => m = n - i ∧ i ≤ n ∧ Ext H1 H ∧ H D = some (.lst ((flat (fun i => lo + (i : Nat) * st) cnt i).map V.int)), ⟨n, rfl, Nat.zero_le _, put fun _ _ z => z, upd_same⟩, fun i m H hW => ?_⟩
  obtain ⟨rfl, hi, e, hd⟩ := hW
  by_cases hin : i < n
  · refine .inr ⟨hin, fun H' => Ext H1 H' ∧ H' D = some (.lst ((flat (fun i => lo + (i : Nat) * st) cnt (i + 1)).map V.int)), fun H' q => ⟨n - (i + 1), by omega, rfl, by omega, q.1, q.2⟩, fun x H' hy => ?_⟩
    obtain ⟨rfl, rfl⟩ := hy
    refine ⟨h1 _, g_yes (iteT ?_)⟩
    refine hw i _ hin e _ ?_
    have hci := hc i hin
    have hfl := flat_len (v := fun i => lo + (i : Nat) * st) i fun j hj => hc j (by omega)
    refine ⟨fun j k' H' => k' = cnt i - j ∧ j ≤ cnt i ∧ Ext H1 H' ∧ H' D = some (.lst ((flat (fun i => lo + (i : Nat) * st) cnt i ++ List.replicate j (lo + (i : Nat) * st)).map V.int)), ⟨cnt i, rfl, Nat.zero_le _, e, ?_⟩, fun j k' H2 hW1 => ?_⟩
    · rw [List.replicate_zero, List.append_nil]
      exact hd
    · obtain ⟨rfl, hj, e2, hd2⟩ := hW1
      by_cases hjc : j < cnt i
      · refine .inr ⟨hjc, fun H' => Ext H1 H' ∧ H' D = some (.lst ((flat (fun i => lo + (i : Nat) * st) cnt i ++ List.replicate (j + 1) (lo + (i : Nat) * st)).map V.int)), fun H' q => ⟨cnt i - (j + 1), by omega, rfl, by omega, q.1, q.2⟩, fun x H' hy => ?_⟩
        obtain ⟨rfl, rfl⟩ := hy
        refine ⟨h2 _ _, g_yes (iteT ?_)⟩
        refine ⟨_, h3 _ _, _, hd2, ?_, put e2, ?_⟩
        · refine small ?_
          rw [List.length_map, List.length_append, List.length_replicate]
          omega
        · rw [upd_same, List.replicate_succ', ← List.append_assoc, List.map_append (l₂ := [lo + (i : Nat) * st])]
          rfl
      · refine .inl ⟨Nat.le_of_not_lt hjc, e2, ?_⟩
        have ej : j = cnt i := by omega
        rw [hd2, flat_succ, ej]
  · refine .inl ⟨Nat.le_of_not_lt hin, ?_⟩
    have ei : i = n := by omega
    rw [ei] at hd
    exact k H D e hD hd
section
variable {P : Program} {w : World} {K : PySem.W.Frag} {mg : Str → Option Value} {base : Heap} {f : Addr} {fd : FuncData}
/-! ### joined -/
abbrev sJoined : Stmt := top 22
def joinM (ns ms : List Int) : List Int := flat (fun i => (ns ++ ms).sum + (i : Int) * (-1)) (fun i => (ns ++ ms).count ((ns ++ ms).sum + (i : Int) * (-1))) (ns ++ ms).sum.toNat
theorem scJoined : FnScope ["one", "other", "both", "number", "_"] ["one", "other"] (defScope sJoined) := ⟨rfl, rfl, rfl, by decide +kernel, rfl, by decide +kernel, by decide +kernel⟩
def spJoined (K : PySem.W.Frag) : Sp := fun vs H Q _ => ∃ (a b : Addr) (ns ms : List Int), vs = [.ref a, .ref b] ∧ TupX K H a (ns.map V.int) ∧ TupX K H b (ms.map V.int) ∧ Fall ns ∧ Fall ms ∧
  ∀ H' u, Ext H H' → TupX K H' u ((joinM ns ms).map V.int) → Q (.ref u) H'
theorem ok_joinedR (F : Fun K "joined_row" "joined_row" sJoined f fd) (T : Txt K mg) : FnOk P w K mg base CX0 1 f fd ["one", "other"] (spJoined K) := by
  refine F.ok scJoined (fun vs H Q E h => ?_) (fun cdv A outer s H vs Q E hr h => ?_)
  · obtain ⟨a, b, ns, ms, rfl, _⟩ := h
    rfl
  · obtain ⟨a, b, ns, ms, rfl, hs, ht, hF, hG, k⟩ := h
    refine ⟨_, pss_cons (ps_set (i := 2) scJoined.nd rfl (Or.inr rfl) (pe_op op_catX (pv 0) (pv 1)))
      (pss_one (ps_ret (pe_callTy call_tupX (by rfl) T.tuple (by decide +kernel) (pa_cons (pe_lc2 (own := [("number", 3), ("_", 4)]) (vs1 := [4]) (g := gName 3) (tt := tYes) (g1 := gName 4) (tt1 := tYes) (te := tVar 3) (wi1 := iRng1 (tCons (tBMT K (rCntT K) (tVar 2) (tCons (tVar 3) tNil)) tNil)) rfl scJoined.nd (pi_range3 (by rfl) T.range (pa_cons (pe_callB (call_sumS rfl) (by rfl) T.sum (by decide +kernel) (pa_cons (pv 2) pa_nil)) (pa_cons pe_int (pa_cons (pe_un un_neg pe_int) pa_nil)))) (blkOk_by (N := ["one", "other", "both", "number", "_"]) (sc := defScope sJoined) (by decide +kernel)) (by decide) (fun _ _ _ _ _ => pg_name (i := 3) scJoined.nd rfl (Or.inl rfl)) (fun _ _ _ _ _ => pts_nil) (fun _ _ _ _ _ => by exact pi_range1 (by rfl) T.range (pa_cons (pe_bmT PySem.F.plainAttrs_tuple PySem.F.slot_tuple_count PySem.F.type_tuple_count mt_tcount (pv 2) (pa_cons (pv 3) pa_nil)) pa_nil)) (fun _ _ _ _ _ => pg_name (i := 4) scJoined.nd rfl (Or.inl rfl)) (fun _ _ _ _ _ => pts_nil) (fun _ _ _ _ _ => pv 3)) pa_nil)))), ?_⟩
    have hl1 := hF.len
    have hl2 := hG.len
    have hs1 := hF.sum
    have hs2 := hG.sum
    have hs3 := hF.sum0
    have hs4 := hG.sum0
    walk_at "rd"
    refine ⟨a, b, _, _, rfl, rfl, hs, ht, by rw [List.length_map, List.length_map]; exact Nat.le_of_lt (small (by omega)), fun H1 p e1 hp => ?_⟩
    rw [← List.map_append] at hp
    walk_at "rd"
    refine g_lc2 ?_
    unfold iRng3
    walk_at "rd"
    refine ⟨p, _, rfl, .inr hp.sq, ?_⟩
    walk_at "rd"
    refine ⟨_, _, _, _, rfl, RgC.neg (by rw [List.sum_append]; omega) (by rw [List.sum_append]; omega) (by decide) (by decide), ?_⟩
    rw [Int.sub_zero]
    refine lc2R (i1 := 3) (i2 := 4) (vs := [3, 4]) (vs1 := [4]) (lo := (ns ++ ms).sum) (st := -1) (n := (ns ++ ms).sum.toNat) (cnt := fun i => (ns ++ ms).count ((ns ++ ms).sum + (i : Int) * (-1))) ?_ ?_ ?_ ?_ ?_ ?_ ?_
    · rw [List.sum_append]
      omega
    · exact fun i hi => Nat.le_trans List.count_le_length (by rw [List.length_append]; omega)
    · intros
      rfl
    · intros
      rfl
    · intros
      rfl
    · intro i H' hi e R q
      refine g_rng1 ?_
      walk_at "rd"
      refine g_bmT ?_
      walk_at "rd"
      refine ⟨⟨p, _, rfl, hp.ext e⟩, ?_⟩
      walk_at "rd"
      refine ⟨p, _, _, rfl, rfl, sqT_ext e hp.sq, ?_⟩
      walk_at "rd"
      have hcl := List.count_le_length (a := (ns ++ ms).sum + (i : Int) * (-1)) (l := ns ++ ms)
      rw [List.length_append] at hcl
      refine ⟨by omega, by omega, ?_⟩
      rw [Int.toNat_natCast]
      exact q
    · intro H' D e hD hd
      walk_at "rd"
      refine ⟨D, _, rfl, .inl ⟨SqL.of hd, fun l o hl ho => ?_⟩⟩
      exact k _ l (Ext.trans (Ext.trans e1 e) (Ext.new hl)) (TupX.new ho)
/-! ### falling -/
abbrev sFalling : Stmt := top 16
theorem scFalling : FnScope ["value", "most", "number", "i"] ["value", "most"] (defScope sFalling) := ⟨rfl, rfl, rfl, by decide +kernel, rfl, by decide +kernel, by decide +kernel⟩
def spFalling (K : PySem.W.Frag) : Sp := fun vs H Q _ => ∃ (a : Addr) (ns : List Int), vs = [.ref a, .int 12] ∧ SqT K H a (ns.map V.int) ∧ Fall ns ∧ ∀ H', Ext H H' → Q (.bl true) H'
theorem ok_falling (F : Fun K "is_falling" "is_falling" sFalling f fd) (T : Txt K mg) (Wi : Def1 P w K mg base CX0 3 "is_within" ["value", "low", "high"] (spIsWithin K)) : FnOk P w K mg base CX0 4 f fd ["value", "most"] (spFalling K) := by
  refine F.ok scFalling (fun vs H Q E h => ?_) (fun cdv A outer s H vs Q E hr h => ?_)
  · obtain ⟨a, ns, rfl, _⟩ := h
    rfl
  · obtain ⟨a, ns, rfl, hs, hF, k⟩ := h
    refine ⟨_, pss_cons (ps_if (PW.pt (pw_or (pt_not (pt_val (pe_callB call_isi (by rfl) T.isinstance (by decide +kernel) (pa_cons (pv 0) (pa_cons (pe_bltn (v := .ty "tuple") (by rfl) T.tuple (by decide +kernel) rfl) pa_nil))))) (pw_or1 (pt_not (pt_val (pe_callB (cr_all rfl) (by rfl) T.all (by decide +kernel) (pa_cons (pe_lc (own := [("number", 2)]) (g := gName 2) (tt := tYes) rfl scFalling.nd (pi_tup (pv 0)) (blkOk_by (N := ["value", "most", "number", "i"]) (sc := defScope sFalling) (by decide +kernel)) (fun _ _ _ _ _ => pg_name (i := 2) scFalling.nd rfl (Or.inl rfl)) (fun _ _ _ _ _ => pts_nil) (fun _ _ _ _ _ => (pe_def Wi hr (by decide) (by rfl) (pa_cons (pv 2) (pa_cons pe_int (pa_cons (pv 1) pa_nil)))))) pa_nil))))))) (pss_one (ps_ret pe_bl)) pss_nil)
      (pss_one (ps_ret (pe_and (pe_cmpR op_le (pe_callB (call_sumS rfl) (by rfl) T.sum (by decide +kernel) (pa_cons (pv 0) pa_nil)) (pv 1) (nomark _)) (pe_one (pe_callB (cr_all rfl) (by rfl) T.all (by decide +kernel) (pa_cons (pe_lc (own := [("i", 3)]) (g := gName 3) (tt := tYes) rfl scFalling.nd (pi_range2 (by rfl) T.range (pa_cons pe_int (pa_cons (pe_callB call_len_seq (by rfl) T.len PySem.boot_len (pa_cons (pv 0) pa_nil)) pa_nil))) (blkOk_by (N := ["value", "most", "number", "i"]) (sc := defScope sFalling) (by decide +kernel)) (fun _ _ _ _ _ => pg_name (i := 3) scFalling.nd rfl (Or.inl rfl)) (fun _ _ _ _ _ => pts_nil) (fun _ _ _ _ _ => (pe_cmpR op_le (pe_ix (r := rIxT K) ix_tup (pv 0) (pv 3) (fun _ _ => rfl)) (pe_ix (r := rIxT K) ix_tup (pv 0) (pe_op op_sub (pv 3) pe_int) (fun _ _ => rfl)) (nomark _)))) pa_nil)))))), ?_⟩
    have hl1 := hF.len
    have hs1 := hF.sum
    walk_at "rd"
    refine ⟨_, _, _, _, true, rfl, .ty _, tyT hs, by kernel_rfl, ?_⟩
    walk_at "rd"
    refine g_lc (g_itup ?_)
    walk_at "rd"
    refine lcT hs (small (by rw [List.length_map]; omega)) (fun _ => true) (fun _ => .bl true) (fun x H' hx e Qe Qn he hn => ?_) (fun H1 D e1 hD hd => ?_)
    · obtain ⟨n, hn', rfl⟩ := List.mem_map.mp hx
      refine ⟨rfl, ?_⟩
      walk_at "rd"
      refine ⟨_, 1, 12, true, rfl, by decide, by decide, .inl ⟨n, rfl, (decide_eq_true ⟨hF.pos n hn', hF.le n hn'⟩).symm⟩, ?_⟩
      exact he _ (fun _ _ z => z) rfl
    · walk_at "rd"
      refine ⟨D, ns.map fun _ => true, rfl, SqL.of ?_, ?_⟩
      · rw [hd, List.filter_eq_self.mpr (fun _ _ => rfl), List.map_map, List.map_map]
        rfl
      have all : (ns.map fun _ => true).all id = true := by simp
      rw [all]
      walk_at "rd"
      refine ⟨a, ns, rfl, .inr (sqT_ext e1 hs), ?_⟩
      walk_at "rd"
      rw [decide_eq_true hs1]
      walk_at "rd"
      refine g_lc (g_rng2 ?_)
      walk_at "rd"
      refine ⟨a, _, rfl, .inr (sqT_ext e1 hs), ?_⟩
      walk_at "rd"
      rw [List.length_map]
      refine ⟨⟨by decide, by decide, by omega, by omega⟩, ?_⟩
      have en : ((ns.length : Int) - 1).toNat = ns.length - 1 := by omega
      rw [en]
      refine lcR (small (by omega)) (fun _ => true) (fun _ => .bl true) (fun i H' hi e Qe Qn he hn => ?_) (fun H' D2 e hD2 hd2 => ?_)
      · have ei : (1 + (i : Int)) = ((i + 1 : Nat) : Int) := by omega
        rw [ei]
        refine ⟨rfl, ?_⟩
        walk_at "rd"
        refine g_ixT (sqT_ext e (sqT_ext e1 hs)) (atI_nat (getI (i := i + 1) (by omega))) ?_
        walk_at "rd"
        have ej : (((i + 1 : Nat) : Int) - 1) = (i : Int) := by omega
        rw [ej]
        refine g_ixT (sqT_ext e (sqT_ext e1 hs)) (atI_nat (getI (i := i) (by omega))) ?_
        walk_at "rd"
        rw [decide_eq_true (hF.desc i (by omega))]
        exact he _ (fun _ _ z => z) rfl
      · rw [idx_all] at hd2
        walk_at "rd"
        refine ⟨D2, (List.range (ns.length - 1)).map fun _ => true, rfl, SqL.of ?_, ?_⟩
        · rw [hd2, List.map_map]
          rfl
        have all2 : ((List.range (ns.length - 1)).map fun _ => true).all id = true := by simp
        rw [all2]
        exact k _ (Ext.trans e1 e)
end
end Q0

set_option Elab.async false
set_option linter.all false
set_option maxRecDepth 100000
set_option maxHeartbeats 4000000
/-! Kinds: made, told. -/
namespace Q0
open PySem PySem.Spec PyProof.Rows L2 Gd
local macro_rules | `(tactic| walk_at "rd1") => `(tactic| first | with_reducible refine g_ret ?_ | with_reducible refine g_retN ?_ | with_reducible refine g_seq ?_ | with_reducible refine g_next ?_ | with_reducible refine g_drop ?_ | with_reducible refine g_asg ?_ | with_reducible refine g_name ?_ | with_reducible refine g_ifs ?_ | with_reducible refine g_test ?_ | with_reducible refine g_tb ?_ | with_reducible refine g_and ?_ | with_reducible refine g_or ?_ | with_reducible refine g_not ?_ | with_reducible refine g_andV ?_ | with_reducible refine g_orV ?_ | with_reducible refine g_notV ?_ | with_reducible refine g_if ?_ | with_reducible refine g_op ?_ | with_reducible refine g_un ?_ | with_reducible refine g_cb ?_ | with_reducible refine g_nil ?_ | with_reducible refine g_cons ?_ | with_reducible refine g_call ?_ | with_reducible refine g_callS ?_ | with_reducible refine g_tup ?_ | with_reducible refine g_lst ?_ | with_reducible refine g_isN ?_ | with_reducible refine g_sl ?_ | with_reducible refine g_nopart ?_ | with_reducible refine g_part ?_ | with_reducible refine g_chain ?_ | with_reducible refine g_fld ?_ | with_reducible refine g_prop ?_ | with_reducible refine g_bm ?_ | with_reducible refine g_bm0 ?_ | with_reducible refine g_c ?_ | with_reducible refine g_sub ?_ | with_reducible refine g_int1 ?_ | with_reducible refine g_int2 ?_ | with_reducible refine g_yes ?_ | with_reducible refine g_sfld ?_ | with_reducible refine g_NT ?_ | with_reducible refine g_NF ?_ | with_reducible refine iteT ?_ | with_reducible refine iteF ?_ | ((with_reducible refine' g_aug ?hv ?_); (case hv => exact rfl)) | ((with_reducible refine' g_var ?hv ?_); (case hv => exact rfl)) | with_reducible refine g_I0 ?_ | with_reducible refine g_U ?_ | with_reducible refine g_eqI ?_ | with_reducible refine g_blV ?_ | with_reducible refine g_inV ?_)
local macro_rules | `(tactic| walk_at "rd") => `(tactic| repeat walk_at "rd1")
section
variable {P : Program} {w : World} {K : PySem.W.Frag} {mg : Str → Option Value} {base : Heap} {f C : Addr} {fd : FuncData}
/-- the class at C -/
structure KC (K : PySem.W.Frag) (mg : Str → Option Value) (C : Addr) : Prop where
  cl : Cls K C
  noN : NoAttr K C "_numbers"
  noP : NoAttr K C "_place"
  g : mg "Kind" = some (.ref C)
  kp : PySem.W.keepIn K (.ref C) = true
  ha : PySem.W.findIn K (.ref C) "__class__" = some (some (.builtin "object.__class__"))
  hn : PySem.W.specialIn K (.builtin "object.__class__") "__get__" = some (some (.builtin "getset_descriptor.__get__"))
  htk : PySem.W.takesIn K (.builtin "object.__class__") = some true
  hm : PySem.W.mroIn K C (.type "object") = some true
  kit : PySem.W.kitOne K (.ref C) (.ref C) = some true
  ne : NeC K C
  most : ∃ t, mg "MAX_SIZE" = some (.int 12 t)
theorem KC.ty {C : Addr} (T : KC K mg C) {H : Hp} {p dx : Addr} {fs : List (Str × V)} (h : H p = some (.ins C dx fs)) : TyX K H (.ref p) (.ref C) := .base (.ins h T.cl T.ha T.hn T.htk T.hm)
/-- a kind at p, with the numbers ns -/
structure KindAt (K : PySem.W.Frag) (C : Addr) (H : Hp) (p n t m : Addr) (ns : List Int) : Prop where
  ins : ∃ dx, H p = some (.ins C dx [(("_numbers" : Str), .ref n), (("_place" : Str), .ref t)])
  num : TupX K H n (ns.map V.int)
  pl : SqT K H t [.int ns.sum, .ref m]
  neg : SqT K H m ((ns.map fun x => -x).map V.int)
  fall : Fall ns
theorem KindAt.ext {H H' : Hp} {p n t m : Addr} {ns : List Int} (e : Ext H H') (h : KindAt K C H p n t m ns) : KindAt K C H' p n t m ns := by
  obtain ⟨⟨dx, h1⟩, h2, h3, h4, h5⟩ := h
  exact ⟨⟨dx, e _ _ h1⟩, h2.ext e, sqT_ext e h3, sqT_ext e h4, h5⟩
theorem look1 {u t : V} : ([(("_numbers" : Str), u), (("_place" : Str), t)] : List (Str × V)).lookup ("_numbers" : Str) = some u := by simp [List.lookup]
theorem look2 {u t : V} : ([(("_numbers" : Str), u), (("_place" : Str), t)] : List (Str × V)).lookup ("_place" : Str) = some t := by
  have : (("_place" : Str) == ("_numbers" : Str)) = false := by decide
  simp [List.lookup, this]
/-! ### __init__ -/
abbrev sInit : Stmt := cls 0
theorem scInit : FnScope ["self", "numbers", "number"] ["self", "numbers"] (defScope sInit) := ⟨rfl, rfl, rfl, by decide +kernel, rfl, by decide +kernel, by decide +kernel⟩
def spInit (K : PySem.W.Frag) (C : Addr) : Sp := fun vs H Q _ => ∃ (p dx a : Addr) (ns : List Int), vs = [.ref p, .ref a] ∧ H p = some (.ins C dx []) ∧ TupX K H a (ns.map V.int) ∧ Fall ns ∧
  ∀ H' n t m, ExtBut p H H' → KindAt K C H' p n t m ns → Q .non H'
abbrev FnI (K : PySem.W.Frag) (t0 f : Addr) (fd : FuncData) : Prop := FunD K "__init__" "Kind.__init__" (defArgs sInit) (defBody sInit) (defScope sInit) [.ref t0] [] f fd
def negV : V → V := fun v => match v with
  | .int n => .int (-n)
  | y => y
theorem sqT_up {H : Hp} {p a C dx : Addr} {fs gs : List (Str × V)} {xs : List V} (hp : H p = some (.ins C dx fs)) (h : SqT K H a xs) : SqT K (upd H p (.ins C dx gs)) a xs := by
  rcases h with (h | ⟨o, h⟩) | h
  · refine .inl (.inl ?_)
    rw [upd_ne (ne_of h hp (by intro z; cases z))]
    exact h
  · refine .inl (.inr ⟨o, ?_⟩)
    rw [upd_ne (ne_of h hp (by intro z; cases z))]
    exact h
  · exact .inr h
theorem tupX_up {H : Hp} {p a C dx : Addr} {fs gs : List (Str × V)} {xs : List V} (hp : H p = some (.ins C dx fs)) (h : TupX K H a xs) : TupX K (upd H p (.ins C dx gs)) a xs := by
  rcases h with ⟨o, h, d⟩ | h
  · refine .inl ⟨o, ?_, d⟩
    rw [upd_ne (ne_of h hp (by intro z; cases z))]
    exact h
  · exact .inr h
theorem ok_init {t0 : Addr} (F : FnI K t0 f fd) (T : Txt K mg) (Cl : KC K mg C) (Fa : Def1 P w K mg base CX0 4 "is_falling" ["value", "most"] (spFalling K)) :
    FnOk P w K mg base CX0 5 f fd ["self", "numbers"] (spInit K C) := by
  obtain ⟨tM, gM⟩ := Cl.most
  refine F.ok scInit (fun vs H Q E h => ?_) (fun cdv A outer s H vs Q E hr h => ?_)
  · obtain ⟨p, dx, a, ns, rfl, _⟩ := h
    rfl
  · obtain ⟨p, dx, a, ns, rfl, hp, ha, hF, k⟩ := h
    refine ⟨_, PSs.nox (pss_cons (ps_if (pt_not (pt_val (pe_def Fa hr (by decide) (by rfl) (pa_cons (pv 1) (pa_cons (pe_glob (v := .int 12) (by rfl) gM ⟨_, rfl⟩) pa_nil))))) (pss_one ps_never) pss_nil)
      (pss_cons (ps_fld (pv 0) (pe_callTy call_tupX (by rfl) T.tuple (by decide +kernel) (pa_cons (pv 1) pa_nil)) rfl)
      (pss_one (ps_fld (pv 0) (pe_tup (pa_cons (pe_callB (call_sumS rfl) (by rfl) T.sum (by decide +kernel) (pa_cons (pv 1) pa_nil)) (pa_cons (pe_callTy call_tupX (by rfl) T.tuple (by decide +kernel) (pa_cons (pe_lc (own := [("number", 2)]) (g := gName 2) (tt := tYes) rfl scInit.nd (pi_tup (pv 1)) (blkOk_by (N := ["self", "numbers", "number"]) (sc := defScope sInit) (by decide +kernel)) (fun _ _ _ _ _ => pg_name (i := 2) scInit.nd rfl (Or.inl rfl)) (fun _ _ _ _ _ => pts_nil) (fun _ _ _ _ _ => (pe_un un_neg (pv 2)))) pa_nil)) pa_nil))) rfl)))), ?_⟩
    have hl1 := hF.len
    walk_at "rd"
    refine ⟨a, ns, rfl, ha.sq, hF, fun H1 e1 => ?_⟩
    have hp1 : H1 p = some (.ins C dx []) := e1 _ _ hp
    have ha1 := ha.ext e1
    walk_at "rd"
    refine ⟨a, _, rfl, .inr ⟨ha1.sq, ?_⟩⟩
    walk_at "rd"
    refine ⟨p, C, dx, [], rfl, hp1, Cl.cl, Cl.noN, by decide, ?_⟩
    have hp2 : upd H1 p (.ins C dx (putF "_numbers" (.ref a) [])) p = some (.ins C dx [(("_numbers" : Str), .ref a)]) := upd_same
    have ha2 := tupX_up (gs := putF "_numbers" (.ref a) []) hp1 ha1
    have e2 : ExtBut p H (upd H1 p (.ins C dx (putF "_numbers" (.ref a) []))) := fun b o hb q => by
      rw [upd_ne hb]
      exact e1 _ _ q
    generalize upd H1 p (.ins C dx (putF "_numbers" (.ref a) [])) = H2 at hp2 ha2 e2 ⊢
    walk_at "rd"
    refine ⟨a, ns, rfl, .inr ha2.sq, ?_⟩
    walk_at "rd"
    refine g_lc (g_itup ?_)
    walk_at "rd"
    refine lcT ha2.sq (small (by rw [List.length_map]; omega)) (fun _ => true) negV (fun x H' hx e Qe Qn he hn => ?_) (fun H3 D e3 hD hd => ?_)
    · obtain ⟨n, hn', rfl⟩ := List.mem_map.mp hx
      refine ⟨rfl, ?_⟩
      walk_at "rd"
      exact he _ (fun _ _ z => z) rfl
    · walk_at "rd"
      rw [List.filter_eq_self.mpr (fun _ _ => rfl), List.map_map] at hd
      refine ⟨D, _, rfl, .inl ⟨SqL.of hd, fun l o hl ho => ?_⟩⟩
      walk_at "rd"
      refine ⟨by show 2 ≤ sizeLine; decide, fun t ht => ?_⟩
      have el := Ext.new (o := HO.frz o (.tup (ns.map (negV ∘ V.int)))) hl
      have et := Ext.new (o := HO.tup [V.int ns.sum, V.ref l]) ht
      have e4 := Ext.trans e3 (Ext.trans el et)
      have hl4 : SqT K _ l ((ns.map fun x => -x).map V.int) := sqT_ext et (xs := (ns.map fun x => -x).map V.int) (by
        rw [List.map_map]
        exact .inl (.inr ⟨o, upd_same⟩))
      have ht4 : SqT K (upd (upd H3 l (HO.frz o (.tup (ns.map (negV ∘ V.int))))) t (HO.tup [V.int ns.sum, V.ref l])) t [V.int ns.sum, V.ref l] := SqT.of upd_same
      generalize upd (upd H3 l (HO.frz o (.tup (ns.map (negV ∘ V.int))))) t (HO.tup [V.int ns.sum, V.ref l]) = H4 at e4 hl4 ht4 ⊢
      have hp4 := e4 _ _ hp2
      walk_at "rd"
      refine ⟨p, C, dx, _, rfl, hp4, Cl.cl, Cl.noP, (by show 1 < 1000; omega), ?_⟩
      refine k _ a t l ?_ ⟨⟨dx, upd_same⟩, tupX_up hp4 (ha2.ext e4), sqT_up hp4 ht4, sqT_up hp4 hl4, hF⟩
      intro b o hb q
      rw [upd_ne hb]
      exact e4 _ _ (e2 b o hb q)
end
end Q0

set_option Elab.async false
set_option linter.all false
set_option maxRecDepth 100000
set_option maxHeartbeats 4000000
/-! The mathematics of kinds: told by all of them. -/
namespace Q0
/-- all falling rows with that sum, no number greater than g -/
def rowsM : Nat → Nat → Nat → List (List Int)
  | 0, t, _ => if t = 0 then [[]] else []
  | f + 1, t, g => if t = 0 then [[]] else (List.range (min g t)).flatMap fun k => (rowsM f (t - (k + 1)) (k + 1)).map fun r => (((k + 1 : Nat) : Int)) :: r
def allK (n : Nat) : List (List Int) := rowsM n n n
def fallB (ns : List Int) : Bool := ns.all (fun x => decide (1 ≤ x)) && decide (ns.sum ≤ 12) && (List.range (ns.length - 1)).all fun i => decide (ns.getD (i + 1) 0 ≤ ns.getD i 0)
theorem fall_of {ns : List Int} (h : fallB ns = true) : Fall ns := by
  unfold fallB at h
  simp only [Bool.and_eq_true, List.all_eq_true, decide_eq_true_eq, List.mem_range] at h
  exact ⟨h.1.1, h.1.2, fun i hi => h.2 i (by omega)⟩
theorem rows_mem : ∀ (f : Nat) (ns : List Int) (t g : Nat), (∀ x ∈ ns, 1 ≤ x) → (∀ i : Nat, i + 1 < ns.length → ns.getD (i + 1) 0 ≤ ns.getD i 0) → ns.getD 0 0 ≤ (g : Int) → ns.sum = (t : Int) → ns.length ≤ f → ns ∈ rowsM f t g
  | 0, ns, t, g, hp, hd, hg, hs, hl => by
    have : ns = [] := List.length_eq_zero_iff.mp (by omega)
    subst this
    have : t = 0 := by simpa using hs.symm
    subst this
    simp [rowsM]
  | f + 1, [], t, g, hp, hd, hg, hs, hl => by
    have : t = 0 := by simpa using hs.symm
    subst this
    simp [rowsM]
  | f + 1, x :: r, t, g, hp, hd, hg, hs, hl => by
    have hx := hp x List.mem_cons_self
    have hr : ∀ y ∈ r, 1 ≤ y := fun y hy => hp y (List.mem_cons_of_mem _ hy)
    have h0 := sum_len hr
    rw [List.sum_cons] at hs
    have hgx : x ≤ (g : Int) := hg
    have ht : t ≠ 0 := by omega
    rw [List.length_cons] at hl
    unfold rowsM
    rw [if_neg ht]
    refine List.mem_flatMap.mpr ⟨x.toNat - 1, List.mem_range.mpr (by omega), List.mem_map.mpr ⟨r, ?_, ?_⟩⟩
    · refine rows_mem f r _ _ hr (fun i hi => hd (i + 1) (by rw [List.length_cons]; omega)) ?_ (by omega) (by omega)
      cases r with
      | nil =>
        show (0 : Int) ≤ _
        omega
      | cons y q =>
        have := hd 0 (by simp)
        have e1 : (x :: y :: q).getD (0 + 1) 0 = y := rfl
        have e2 : (x :: y :: q).getD 0 0 = x := rfl
        have e3 : (y :: q).getD 0 0 = y := rfl
        rw [e1, e2] at this
        rw [e3]
        omega
    · have : ((x.toNat - 1 + 1 : Nat) : Int) = x := by omega
      rw [this]
theorem Fall.mem {ns : List Int} (h : Fall ns) {n : Nat} (hn : ns.sum = (n : Int)) : ns ∈ allK n := by
  have := sum_len h.pos
  have h2 : ns.getD 0 0 ≤ (n : Int) := by
    cases ns with
    | nil =>
      show (0 : Int) ≤ _
      omega
    | cons x r =>
      rw [← hn]
      exact mem_sum h.pos x List.mem_cons_self
  exact rows_mem n ns n n h.pos h.desc h2 hn (by omega)
/-- what one kind must be -/
def chk1 (ns : List Int) : Bool := fallB (turnM ns) && decide (turnM (turnM ns) = ns) && decide ((turnM ns).sum = ns.sum) && decide (((turnM ns).length : Int) = ns.getD 0 0) && decide ((turnM ns).getD 0 0 = (ns.length : Int)) &&
  decide (slantM ns = ((turnM ns).map fun t => t * (t - 1) / 2).sum)
theorem one_all : ((List.range 13).all fun n => (allK n).all chk1) = true := by decide +kernel
end Q0

set_option Elab.async false
set_option linter.all false
set_option maxRecDepth 100000
set_option maxHeartbeats 4000000
/-! The mathematics of kinds: joined, added, held, by general proofs. -/
namespace Q0
theorem one_of {ns : List Int} (h : Fall ns) : chk1 ns = true := by
  have h0 := h.sum0
  have hs := h.sum
  have hm := h.mem (n := ns.sum.toNat) (by omega)
  have := one_all
  simp only [List.all_eq_true, List.mem_range] at this
  exact this ns.sum.toNat (by omega) ns hm
structure One (ns : List Int) : Prop where
  fall : Fall (turnM ns)
  back : turnM (turnM ns) = ns
  sum : (turnM ns).sum = ns.sum
  len : ((turnM ns).length : Int) = ns.getD 0 0
  head : (turnM ns).getD 0 0 = (ns.length : Int)
  slant : slantM ns = ((turnM ns).map fun t => t * (t - 1) / 2).sum
theorem Fall.one {ns : List Int} (h : Fall ns) : One ns := by
  have := one_of h
  unfold chk1 at this
  simp only [Bool.and_eq_true, decide_eq_true_eq] at this
  exact ⟨fall_of this.1.1.1.1.1, this.1.1.1.1.2, this.1.1.1.2, this.1.1.2, this.1.2, this.2⟩
theorem ext_getD {a b : List Int} (hl : a.length = b.length) (h : ∀ i : Nat, a.getD i 0 = b.getD i 0) : a = b := by
  refine List.ext_getElem hl fun i h1 h2 => ?_
  have := h i
  rw [List.getD_eq_getElem?_getD, List.getD_eq_getElem?_getD, List.getElem?_eq_getElem h1, List.getElem?_eq_getElem h2] at this
  exact this
theorem getD_mem {ns : List Int} {i : Nat} (h : i < ns.length) : ns.getD i 0 ∈ ns := by
  rw [List.getD_eq_getElem?_getD, List.getElem?_eq_getElem h]
  exact List.getElem_mem h
theorem Fall.down {ns : List Int} (h : Fall ns) (i : Nat) : ns.getD (i + 1) 0 ≤ ns.getD i 0 := by
  by_cases hi : i + 1 < ns.length
  · exact h.desc i hi
  · rw [getD_big hi]
    exact (h.at i).1
theorem Fall.headI {ns : List Int} (h : Fall ns) : ∀ i : Nat, ns.getD i 0 ≤ ns.getD 0 0
  | 0 => Int.le_refl _
  | i + 1 => Int.le_trans (h.down i) (h.headI i)
theorem Fall.head {ns : List Int} (h : Fall ns) : ∀ x ∈ ns, x ≤ ns.getD 0 0 := fun x hx => by
  obtain ⟨i, hi, rfl⟩ := List.getElem_of_mem hx
  have := h.headI i
  rw [List.getD_eq_getElem?_getD, List.getElem?_eq_getElem hi] at this
  exact this
def over (i : Nat) (ns : List Int) : Int := ((ns.filter fun x => decide ((i : Int) < x)).length : Int)
theorem getD_turn {ns : List Int} (h : Fall ns) (i : Nat) : (turnM ns).getD i 0 = over i ns := by
  unfold turnM
  by_cases hi : i < (ns.getD 0 0).toNat
  · rw [List.getD_eq_getElem?_getD, List.getElem?_map, List.getElem?_range hi]
    rfl
  · rw [getD_big (by rw [List.length_map, List.length_range]; exact hi)]
    unfold over
    have : ns.filter (fun x => decide ((i : Int) < x)) = [] := by
      refine List.filter_eq_nil_iff.mpr fun x hx => ?_
      have := h.head x hx
      have := (h.at 0).1
      simp only [decide_eq_true_eq]
      omega
    rw [this]
    rfl
theorem len_turn (ns : List Int) : (turnM ns).length = (ns.getD 0 0).toNat := by
  unfold turnM
  rw [List.length_map, List.length_range]
/-! ### joined -/
theorem flat_count {S : Int} {cnt : Int → Nat} (v : Int) : ∀ n : Nat, (flat (fun i => S + (i : Int) * (-1)) (fun i => cnt (S + (i : Int) * (-1))) n).count v = if S - (n : Int) < v ∧ v ≤ S then cnt v else 0
  | 0 => by
    rw [if_neg (by omega)]
    rfl
  | n + 1 => by
    rw [flat_succ, List.count_append, flat_count v n, List.count_replicate]
    have c : ((n + 1 : Nat) : Int) = (n : Int) + 1 := by omega
    by_cases h : S + (n : Int) * (-1) = v
    · have e1 : ¬ (S - (n : Int) < v ∧ v ≤ S) := by omega
      have e2 : S - ((n + 1 : Nat) : Int) < v ∧ v ≤ S := by omega
      have e3 : (S + (n : Int) * (-1) == v) = true := beq_iff_eq.mpr h
      rw [if_neg e1, if_pos e2, if_pos e3, h, Nat.zero_add]
    · have e3 : ¬ (S + (n : Int) * (-1) == v) = true := fun z => h (beq_iff_eq.mp z)
      rw [if_neg e3, Nat.add_zero]
      by_cases h2 : S - (n : Int) < v ∧ v ≤ S
      · rw [if_pos h2, if_pos (show S - ((n + 1 : Nat) : Int) < v ∧ v ≤ S by omega)]
      · rw [if_neg h2, if_neg (show ¬ (S - ((n + 1 : Nat) : Int) < v ∧ v ≤ S) by omega)]
theorem flat_low {S : Int} {c : Nat → Nat} : ∀ n : Nat, ∀ x ∈ flat (fun i => S + (i : Int) * (-1)) c n, S - (n : Int) < x
  | 0, x, hx => by cases hx
  | n + 1, x, hx => by
    rw [flat_succ] at hx
    rcases List.mem_append.mp hx with h | h
    · have := flat_low n x h
      omega
    · have := List.eq_of_mem_replicate h
      omega
theorem flat_desc {S : Int} {c : Nat → Nat} : ∀ n : Nat, (flat (fun i => S + (i : Int) * (-1)) c n).Pairwise (· ≥ ·)
  | 0 => List.Pairwise.nil
  | n + 1 => by
    rw [flat_succ]
    refine List.pairwise_append.mpr ⟨flat_desc n, List.pairwise_replicate.mpr (.inr (Int.le_refl _)), fun x hx y hy => ?_⟩
    have h1 := flat_low n x hx
    have h2 := List.eq_of_mem_replicate hy
    show y ≤ x
    omega
theorem join_perm {ns ms : List Int} (hp : ∀ x ∈ ns ++ ms, 1 ≤ x) : (joinM ns ms).Perm (ns ++ ms) := by
  refine List.perm_iff_count.mpr fun v => ?_
  unfold joinM
  have h0 := sum_len hp
  rw [flat_count (cnt := fun v => (ns ++ ms).count v)]
  by_cases h : (ns ++ ms).sum - ((ns ++ ms).sum.toNat : Int) < v ∧ v ≤ (ns ++ ms).sum
  · rw [if_pos h]
  · rw [if_neg h]
    refine (List.count_eq_zero.mpr fun hv => h ?_).symm
    have h1 := hp v hv
    have h2 := mem_sum hp v hv
    omega
theorem join_desc (ns ms : List Int) : (joinM ns ms).Pairwise (· ≥ ·) := flat_desc _
theorem perm_sum : ∀ {a b : List Int}, a.Perm b → a.sum = b.sum := fun h => by
  induction h with
  | nil => rfl
  | cons x _ ih => rw [List.sum_cons, List.sum_cons, ih]
  | swap x y l =>
    simp only [List.sum_cons]
    omega
  | trans _ _ i1 i2 => exact i1.trans i2
theorem desc_eq {a b : List Int} (h : a.Perm b) (ha : a.Pairwise (· ≥ ·)) (hb : b.Pairwise (· ≥ ·)) : a = b :=
  List.Perm.eq_of_pairwise (fun x y _ _ h1 h2 => Int.le_antisymm h2 h1) ha hb h
theorem Fall.pair {ns : List Int} (h : Fall ns) : ns.Pairwise (· ≥ ·) := by
  refine List.pairwise_iff_getElem.mpr fun i j hi hj hij => ?_
  have key : ∀ k : Nat, ns.getD (i + k) 0 ≤ ns.getD i 0 := fun k => by
    induction k with
    | zero => exact Int.le_refl _
    | succ k ih => exact Int.le_trans (h.down (i + k)) ih
  have := key (j - i)
  rw [show i + (j - i) = j by omega, List.getD_eq_getElem?_getD, List.getD_eq_getElem?_getD, List.getElem?_eq_getElem hi, List.getElem?_eq_getElem hj] at this
  exact this
section
variable {ns ms : List Int}
theorem both_pos (h : Fall ns) (g : Fall ms) : ∀ x ∈ ns ++ ms, 1 ≤ x := fun x hx => (List.mem_append.mp hx).elim (h.pos x) (g.pos x)
theorem join_is {zs : List Int} (h : Fall ns) (g : Fall ms) (p : zs.Perm (ns ++ ms)) (d : zs.Pairwise (· ≥ ·)) : zs = joinM ns ms :=
  desc_eq (p.trans (join_perm (both_pos h g)).symm) d (join_desc ns ms)
theorem join_sum (h : Fall ns) (g : Fall ms) : (joinM ns ms).sum = ns.sum + ms.sum := by
  rw [perm_sum (join_perm (both_pos h g)), List.sum_append]
theorem join_fall (h : Fall ns) (g : Fall ms) (hs : ns.sum + ms.sum ≤ 12) : Fall (joinM ns ms) := by
  refine ⟨fun x hx => both_pos h g x ((join_perm (both_pos h g)).mem_iff.mp hx), by rw [join_sum h g]; exact hs, fun i hi => ?_⟩
  have := List.pairwise_iff_getElem.mp (join_desc ns ms) i (i + 1) (by omega) hi (by omega)
  rw [List.getD_eq_getElem?_getD, List.getD_eq_getElem?_getD, List.getElem?_eq_getElem hi, List.getElem?_eq_getElem (by omega : i < (joinM ns ms).length)]
  exact this
theorem join_comm (h : Fall ns) (g : Fall ms) : joinM ns ms = joinM ms ns :=
  join_is g h ((join_perm (both_pos h g)).trans List.perm_append_comm) (join_desc ns ms)
theorem fall_nil : Fall [] := ⟨(nofun), (by decide), fun i hi => absurd hi (by simp)⟩
theorem join_nil (h : Fall ns) : joinM ns [] = ns := (join_is h fall_nil (by rw [List.append_nil]) h.pair).symm
/-! ### added -/
theorem add_get (i : Nat) : (addM ns ms).getD i 0 = ns.getD i 0 + ms.getD i 0 := by
  unfold addM
  by_cases hi : i < max ns.length ms.length
  · rw [List.getD_eq_getElem?_getD, List.getElem?_map, List.getElem?_range hi]
    rfl
  · rw [getD_big (by rw [List.length_map, List.length_range]; exact hi), getD_big (ns := ns) (by omega), getD_big (ns := ms) (by omega)]
    rfl
theorem add_len : (addM ns ms).length = max ns.length ms.length := by
  unfold addM
  rw [List.length_map, List.length_range]
theorem add_comm' : addM ns ms = addM ms ns := ext_getD (by rw [add_len, add_len, Nat.max_comm]) fun i => by rw [add_get, add_get, Int.add_comm]
theorem add_nil : addM ns [] = ns := ext_getD (by rw [add_len]; exact Nat.max_eq_left (Nat.zero_le _)) fun i => by
  rw [add_get]
  show ns.getD i 0 + 0 = _
  rw [Int.add_zero]
/-- a sum by places -/
theorem sum_get : ∀ (n : Nat) (ns : List Int), ns.length ≤ n → ns.sum = ((List.range n).map fun i => ns.getD i 0).sum
  | 0, ns, h => by
    have : ns = [] := List.length_eq_zero_iff.mp (by omega)
    subst this
    rfl
  | n + 1, [], h => by
    have : ((List.range (n + 1)).map fun i => ([] : List Int).getD i 0) = (List.range (n + 1)).map fun _ => (0 : Int) := rfl
    rw [this]
    have z : ∀ k : List Nat, (k.map fun _ => (0 : Int)).sum = 0 := fun k => by
      induction k with
      | nil => rfl
      | cons _ _ ih =>
        rw [List.map_cons, List.sum_cons, ih]
        rfl
    rw [z]
    rfl
  | n + 1, x :: r, h => by
    rw [List.range_succ_eq_map, List.map_cons, List.sum_cons, List.sum_cons, List.map_map, sum_get n r (by simpa using h)]
    rfl
theorem sum_add {α : Type} (f g : α → Int) : ∀ k : List α, (k.map fun i => f i + g i).sum = (k.map f).sum + (k.map g).sum
  | [] => rfl
  | x :: r => by
    simp only [List.map_cons, List.sum_cons, sum_add f g r]
    omega
theorem add_sum (h : Fall ns) (g : Fall ms) : (addM ns ms).sum = ns.sum + ms.sum := by
  have h1 := h.len
  have h2 := g.len
  rw [sum_get 12 (addM ns ms) (by rw [add_len]; omega), sum_get 12 ns (by omega), sum_get 12 ms (by omega), ← sum_add]
  exact congrArg List.sum (List.map_congr_left fun i _ => add_get i)
theorem add_fall (h : Fall ns) (g : Fall ms) (hs : ns.sum + ms.sum ≤ 12) : Fall (addM ns ms) := by
  refine ⟨fun x hx => ?_, by rw [add_sum h g]; exact hs, fun i _ => ?_⟩
  · obtain ⟨i, hi, rfl⟩ := List.getElem_of_mem hx
    have e := add_get (ns := ns) (ms := ms) i
    rw [List.getD_eq_getElem?_getD, List.getElem?_eq_getElem hi] at e
    have e' : (addM ns ms)[i] = ns.getD i 0 + ms.getD i 0 := e
    rw [e']
    rw [add_len] at hi
    have a1 := (h.at i).1
    have a2 := (g.at i).1
    by_cases h1 : i < ns.length
    · have := h.pos _ (getD_mem h1)
      omega
    · have := g.pos _ (getD_mem (by omega : i < ms.length))
      omega
  · rw [add_get, add_get]
    have := h.down i
    have := g.down i
    omega
end
end Q0

set_option Elab.async false
set_option linter.all false
set_option maxRecDepth 100000
set_option maxHeartbeats 4000000
/-! The mathematics of kinds: turned sums, slants, held, topped. -/
namespace Q0
open PySem in
section
variable {ns ms : List Int}
theorem head_mem (h : Fall ns) (hne : ns ≠ []) : ns.getD 0 0 ∈ ns := getD_mem (List.length_pos_iff.mpr hne)
theorem join_head (h : Fall ns) (g : Fall ms) (hs : ns.sum + ms.sum ≤ 12) : (joinM ns ms).getD 0 0 = max (ns.getD 0 0) (ms.getD 0 0) := by
  have J := join_fall h g hs
  have P := join_perm (both_pos h g)
  have a0 := (h.at 0).1
  have b0 := (g.at 0).1
  refine Int.le_antisymm ?_ ?_
  · by_cases e : joinM ns ms = []
    · rw [e]
      show (0 : Int) ≤ _
      omega
    · have hm := P.mem_iff.mp (head_mem J e)
      rcases List.mem_append.mp hm with q | q
      · have := h.head _ q
        omega
      · have := g.head _ q
        omega
  · have h1 : ns.getD 0 0 ≤ (joinM ns ms).getD 0 0 := by
      by_cases e : ns = []
      · subst e
        exact (J.at 0).1
      · exact J.head _ (P.mem_iff.mpr (List.mem_append_left _ (head_mem h e)))
    have h2 : ms.getD 0 0 ≤ (joinM ns ms).getD 0 0 := by
      by_cases e : ms = []
      · subst e
        exact (J.at 0).1
      · exact J.head _ (P.mem_iff.mpr (List.mem_append_right _ (head_mem g e)))
    omega
theorem turn_join (h : Fall ns) (g : Fall ms) (hs : ns.sum + ms.sum ≤ 12) : turnM (joinM ns ms) = addM (turnM ns) (turnM ms) := by
  have J := join_fall h g hs
  refine ext_getD ?_ fun i => ?_
  · rw [len_turn, add_len, len_turn, len_turn, join_head h g hs]
    have a0 := (h.at 0).1
    have b0 := (g.at 0).1
    omega
  · rw [add_get, getD_turn J, getD_turn h, getD_turn g]
    unfold over
    rw [((join_perm (both_pos h g)).filter _).length_eq, List.filter_append, List.length_append]
    omega
theorem turn_add (h : Fall ns) (g : Fall ms) (hs : ns.sum + ms.sum ≤ 12) : turnM (addM ns ms) = joinM (turnM ns) (turnM ms) := by
  have hs' : (turnM ns).sum + (turnM ms).sum ≤ 12 := by rw [h.one.sum, g.one.sum]; exact hs
  have J := join_fall h.one.fall g.one.fall hs'
  have e := turn_join h.one.fall g.one.fall hs'
  rw [h.one.back, g.one.back] at e
  rw [← e]
  exact J.one.back
/-! ### sums by places -/
theorem sum_map_get (f : Int → Int) (f0 : f 0 = 0) : ∀ (n : Nat) (ns : List Int), ns.length ≤ n → (ns.map f).sum = ((List.range n).map fun i => f (ns.getD i 0)).sum
  | 0, ns, h => by
    have : ns = [] := List.length_eq_zero_iff.mp (by omega)
    subst this
    rfl
  | n + 1, [], h => by
    have : ((List.range (n + 1)).map fun i => f (([] : List Int).getD i 0)) = (List.range (n + 1)).map fun _ => (0 : Int) := by
      refine List.map_congr_left fun i _ => ?_
      show f 0 = 0
      exact f0
    rw [this]
    have z : ∀ k : List Nat, (k.map fun _ => (0 : Int)).sum = 0 := fun k => by
      induction k with
      | nil => rfl
      | cons _ _ ih =>
        rw [List.map_cons, List.sum_cons, ih]
        rfl
    rw [z]
    rfl
  | n + 1, x :: r, h => by
    rw [List.range_succ_eq_map, List.map_cons, List.map_cons, List.sum_cons, List.sum_cons, List.map_map, sum_map_get f f0 n r (by simpa using h)]
    rfl
theorem sum_zero {f : Nat → Int} {n : Nat} (hf : ∀ i, n ≤ i → f i = 0) : ∀ k : Nat, ((List.range (n + k)).map f).sum = ((List.range n).map f).sum
  | 0 => rfl
  | k + 1 => by
    rw [← Nat.add_assoc, List.range_succ, List.map_append, List.sum_append, sum_zero hf k]
    show _ + (f (n + k) + 0) = _
    rw [hf (n + k) (by omega)]
    omega
theorem slant_get (hl : ns.length ≤ 13) : slantM ns = ((List.range 13).map fun (i : Nat) => (i : Int) * ns.getD i 0).sum := by
  unfold slantM
  have := sum_zero (f := fun (i : Nat) => (i : Int) * ns.getD i 0) (n := ns.length) (fun i hi => by
    show (i : Int) * ns.getD i 0 = 0
    rw [getD_big (by omega), Int.mul_zero]) (13 - ns.length)
  rw [show ns.length + (13 - ns.length) = 13 by omega] at this
  exact this.symm
theorem slant_add (h : Fall ns) (g : Fall ms) : slantM (addM ns ms) = slantM ns + slantM ms := by
  have h1 := h.len
  have h2 := g.len
  rw [slant_get (ns := addM ns ms) (by rw [add_len]; omega), slant_get (ns := ns) (by omega), slant_get (ns := ms) (by omega), ← sum_add]
  refine congrArg List.sum (List.map_congr_left fun i _ => ?_)
  rw [add_get, Int.mul_add]
def chooseM (t : Int) : Int := t * (t - 1) / 2
theorem choose_add : ∀ x : Nat, x < 13 → ∀ y : Nat, y < 13 → chooseM ((x : Int) + y) = chooseM x + chooseM y + (x : Int) * y := by decide +kernel
theorem choose_add' {x y : Int} (a : 0 ≤ x ∧ x ≤ 12) (b : 0 ≤ y ∧ y ≤ 12) : chooseM (x + y) = chooseM x + chooseM y + x * y := by
  have := choose_add x.toNat (by omega) y.toNat (by omega)
  rw [Int.toNat_of_nonneg a.1, Int.toNat_of_nonneg b.1] at this
  exact this
def prodM (ns ms : List Int) : Int := ((List.range 13).map fun i => ns.getD i 0 * ms.getD i 0).sum
theorem slant_join (h : Fall ns) (g : Fall ms) (hs : ns.sum + ms.sum ≤ 12) : slantM (joinM ns ms) = slantM ns + slantM ms + prodM (turnM ns) (turnM ms) := by
  have J := join_fall h g hs
  have T := h.one.fall
  have U := g.one.fall
  have h1 := T.len
  have h2 := U.len
  rw [J.one.slant, h.one.slant, g.one.slant, turn_join h g hs]
  show ((addM (turnM ns) (turnM ms)).map chooseM).sum = ((turnM ns).map chooseM).sum + ((turnM ms).map chooseM).sum + _
  rw [sum_map_get chooseM rfl 13 _ (by rw [add_len]; omega), sum_map_get chooseM rfl 13 (turnM ns) (by omega), sum_map_get chooseM rfl 13 (turnM ms) (by omega)]
  unfold prodM
  rw [← sum_add, ← sum_add]
  refine congrArg List.sum (List.map_congr_left fun i _ => ?_)
  rw [add_get]
  exact choose_add' (T.at i) (U.at i)
/-! ### held -/
theorem held_iff (h : Fall ns) (g : Fall ms) : heldM ns ms = true ↔ ∀ i : Nat, ns.getD i 0 ≤ ms.getD i 0 := by
  unfold heldM
  rw [Bool.and_eq_true, decide_eq_true_eq, List.all_eq_true]
  constructor
  · rintro ⟨hl, hz⟩ i
    by_cases hi : i < ns.length
    · have hm : i < ms.length := by omega
      have hlen : i < (ns.zip ms).length := by rw [List.length_zip]; omega
      have := hz _ (List.getElem_mem hlen)
      rw [List.getElem_zip, decide_eq_true_eq] at this
      rw [List.getD_eq_getElem?_getD, List.getD_eq_getElem?_getD, List.getElem?_eq_getElem hi, List.getElem?_eq_getElem hm]
      exact this
    · rw [getD_big hi]
      exact (g.at i).1
  · intro q
    refine ⟨?_, fun p hp => ?_⟩
    · by_cases hl : ns.length ≤ ms.length
      · exact hl
      · have h1 := q ms.length
        have h2 := h.pos _ (getD_mem (i := ms.length) (by omega))
        rw [getD_big (ns := ms) (i := ms.length) (by omega)] at h1
        omega
    · obtain ⟨i, hi, rfl⟩ := List.getElem_of_mem hp
      have hi' := hi
      rw [List.length_zip] at hi'
      have := q i
      rw [List.getD_eq_getElem?_getD, List.getD_eq_getElem?_getD, List.getElem?_eq_getElem (show i < ns.length by omega), List.getElem?_eq_getElem (show i < ms.length by omega)] at this
      rw [List.getElem_zip, decide_eq_true_eq]
      exact this
theorem sum_le {α : Type} {f g : α → Int} : ∀ k : List α, (∀ x ∈ k, f x ≤ g x) → (k.map f).sum ≤ (k.map g).sum
  | [], _ => Int.le_refl _
  | x :: r, h => by
    have h1 := h x List.mem_cons_self
    have h2 := sum_le r fun y hy => h y (List.mem_cons_of_mem _ hy)
    simp only [List.map_cons, List.sum_cons]
    omega
theorem over_sum (i : Nat) : ∀ ns : List Int, over i ns = (ns.map fun x => if (i : Int) < x then (1 : Int) else 0).sum
  | [] => rfl
  | x :: r => by
    have ih := over_sum i r
    unfold over at ih ⊢
    rw [List.filter_cons, List.map_cons, List.sum_cons, ← ih]
    by_cases hx : (i : Int) < x
    · rw [if_pos (by simpa using hx), if_pos hx, List.length_cons]
      omega
    · rw [if_neg (by simpa using hx), if_neg hx]
      omega
theorem held_go (h : Fall ns) (g : Fall ms) (e : heldM ns ms = true) : heldM (turnM ns) (turnM ms) = true := by
  have q := (held_iff h g).mp e
  refine (held_iff h.one.fall g.one.fall).mpr fun i => ?_
  have h1 := h.len
  have h2 := g.len
  have f0 : (fun x : Int => if (i : Int) < x then (1 : Int) else 0) 0 = 0 := if_neg (by omega)
  rw [getD_turn h, getD_turn g, over_sum, over_sum, sum_map_get (fun x : Int => if (i : Int) < x then (1 : Int) else 0) f0 13 ns (by omega), sum_map_get (fun x : Int => if (i : Int) < x then (1 : Int) else 0) f0 13 ms (by omega)]
  refine sum_le _ fun k _ => ?_
  have := q k
  show (if (i : Int) < ns.getD k 0 then (1 : Int) else 0) ≤ (if (i : Int) < ms.getD k 0 then (1 : Int) else 0)
  split <;> split <;> omega
theorem held_turn (h : Fall ns) (g : Fall ms) : heldM (turnM ns) (turnM ms) = heldM ns ms := by
  cases e : heldM ns ms with
  | true => exact held_go h g e
  | false =>
    cases e2 : heldM (turnM ns) (turnM ms) with
    | false => rfl
    | true =>
      have := held_go h.one.fall g.one.fall e2
      rw [h.one.back, g.one.back, e] at this
      cases this
end
/-! ### topped -/
def dtopM (ns ms : List Int) : Bool := (List.range 12).all fun i => !decide ((ns.take (i + 1)).sum < (ms.take (i + 1)).sum)
def negM (ns : List Int) : List Int := ns.map fun x => -x
def chkT (ns ms : List Int) : Bool := (topM ms ns == dtopM ns ms) && (topM (turnM ns) (turnM ms) == dtopM ns ms) && (!dtopM ns ms || (!decide (slantM ms < slantM ns) && !HT.lexLt (negM ms) (negM ns))) && (heldM ms ns == decide (ns = ms))
theorem tops_all : ((List.range 8).all fun n => (allK n).all fun ns => (allK n).all fun ms => chkT ns ms) = true := by decide +kernel
theorem less_all : ((List.range 8).all fun n => n == 0 || (allK n).all fun ns => (allK (n - 1)).all fun ms => !heldM ns ms) = true := by decide +kernel
end Q0

set_option Elab.async false
set_option linter.all false
set_option maxRecDepth 100000
set_option maxHeartbeats 4000000
/-! Kinds: properties, methods, operators. -/
namespace Q0
open PySem PySem.Spec PyProof.Rows L2 Gd
local macro_rules | `(tactic| walk_at "rd1") => `(tactic| first | with_reducible refine g_ret ?_ | with_reducible refine g_retN ?_ | with_reducible refine g_seq ?_ | with_reducible refine g_next ?_ | with_reducible refine g_drop ?_ | with_reducible refine g_asg ?_ | with_reducible refine g_name ?_ | with_reducible refine g_ifs ?_ | with_reducible refine g_test ?_ | with_reducible refine g_tb ?_ | with_reducible refine g_and ?_ | with_reducible refine g_or ?_ | with_reducible refine g_not ?_ | with_reducible refine g_andV ?_ | with_reducible refine g_orV ?_ | with_reducible refine g_notV ?_ | with_reducible refine g_if ?_ | with_reducible refine g_op ?_ | with_reducible refine g_un ?_ | with_reducible refine g_cb ?_ | with_reducible refine g_nil ?_ | with_reducible refine g_cons ?_ | with_reducible refine g_call ?_ | with_reducible refine g_callS ?_ | with_reducible refine g_tup ?_ | with_reducible refine g_lst ?_ | with_reducible refine g_isN ?_ | with_reducible refine g_sl ?_ | with_reducible refine g_nopart ?_ | with_reducible refine g_part ?_ | with_reducible refine g_chain ?_ | with_reducible refine g_fld ?_ | with_reducible refine g_prop ?_ | with_reducible refine g_bm ?_ | with_reducible refine g_bm0 ?_ | with_reducible refine g_c ?_ | with_reducible refine g_sub ?_ | with_reducible refine g_int1 ?_ | with_reducible refine g_int2 ?_ | with_reducible refine g_yes ?_ | with_reducible refine g_sfld ?_ | with_reducible refine g_NT ?_ | with_reducible refine g_NF ?_ | with_reducible refine iteT ?_ | with_reducible refine iteF ?_ | ((with_reducible refine' g_aug ?hv ?_); (case hv => exact rfl)) | ((with_reducible refine' g_var ?hv ?_); (case hv => exact rfl)) | with_reducible refine g_I0 ?_ | with_reducible refine g_U ?_ | with_reducible refine g_eqI ?_ | with_reducible refine g_blV ?_ | with_reducible refine g_inV ?_)
local macro_rules | `(tactic| walk_at "rd") => `(tactic| repeat walk_at "rd1")
section
variable {P : Program} {w : World} {K : PySem.W.Frag} {mg : Str → Option Value} {base : Heap} {f C t0 : Addr} {fd : FuncData}
/-- a promise of a property: the answer v and nothing changed -/
def spGet (K : PySem.W.Frag) (C : Addr) (v : Addr → List Int → V) : Sp := fun vs H Q _ => ∃ (p n t m : Addr) (ns : List Int), vs = [.ref p] ∧ KindAt K C H p n t m ns ∧ ∀ H', Ext H H' → Q (v n ns) H'
theorem scNum : FnScope ["self"] ["self"] (defScope (cls 2)) := ⟨rfl, rfl, rfl, by decide +kernel, rfl, by decide +kernel, by decide +kernel⟩
theorem ok_numbers (F : Fun K "numbers" "Kind.numbers" (cls 2) f fd) (Cl : KC K mg C) : FnOk P w K mg base CX0 1 f fd ["self"] (spGet K C fun n _ => .ref n) := by
  refine F.ok scNum (fun vs H Q E h => ?_) (fun cdv A outer s H vs Q E hr h => ?_)
  · obtain ⟨p, n, t, m, ns, rfl, _⟩ := h
    rfl
  · obtain ⟨p, n, t, m, ns, rfl, ⟨⟨dx, hp⟩, hn, ht, hm, hF⟩, k⟩ := h
    refine ⟨_, pss_one (ps_ret (pe_fld (pv 0) rfl)), ?_⟩
    walk_at "rd"
    exact ⟨p, C, dx, _, _, rfl, hp, Cl.cl, Cl.noN, look1, k H (fun _ _ z => z)⟩
theorem scSiz : FnScope ["self"] ["self"] (defScope (cls 3)) := ⟨rfl, rfl, rfl, by decide +kernel, rfl, by decide +kernel, by decide +kernel⟩
theorem ok_size (F : Fun K "size" "Kind.size" (cls 3) f fd) (T : Txt K mg) (Cl : KC K mg C) : FnOk P w K mg base CX0 1 f fd ["self"] (spGet K C fun _ ns => .int ns.sum) := by
  refine F.ok scSiz (fun vs H Q E h => ?_) (fun cdv A outer s H vs Q E hr h => ?_)
  · obtain ⟨p, n, t, m, ns, rfl, _⟩ := h
    rfl
  · obtain ⟨p, n, t, m, ns, rfl, ⟨⟨dx, hp⟩, hn, ht, hm, hF⟩, k⟩ := h
    refine ⟨_, pss_one (ps_ret (pe_callB (call_sumS rfl) (by rfl) T.sum (by decide +kernel) (pa_cons (pe_fld (pv 0) rfl) pa_nil))), ?_⟩
    walk_at "rd"
    refine ⟨p, C, dx, _, _, rfl, hp, Cl.cl, Cl.noN, look1, ?_⟩
    walk_at "rd"
    exact ⟨n, ns, rfl, .inr hn.sq, k H (fun _ _ z => z)⟩
theorem scRan : FnScope ["self"] ["self"] (defScope (cls 4)) := ⟨rfl, rfl, rfl, by decide +kernel, rfl, by decide +kernel, by decide +kernel⟩
theorem ok_rank (F : Fun K "rank" "Kind.rank" (cls 4) f fd) (T : Txt K mg) (Cl : KC K mg C) : FnOk P w K mg base CX0 1 f fd ["self"] (spGet K C fun _ ns => .int (ns.length : Int)) := by
  refine F.ok scRan (fun vs H Q E h => ?_) (fun cdv A outer s H vs Q E hr h => ?_)
  · obtain ⟨p, n, t, m, ns, rfl, _⟩ := h
    rfl
  · obtain ⟨p, n, t, m, ns, rfl, ⟨⟨dx, hp⟩, hn, ht, hm, hF⟩, k⟩ := h
    refine ⟨_, pss_one (ps_ret (pe_callB call_len_seq (by rfl) T.len PySem.boot_len (pa_cons (pe_fld (pv 0) rfl) pa_nil))), ?_⟩
    walk_at "rd"
    refine ⟨p, C, dx, _, _, rfl, hp, Cl.cl, Cl.noN, look1, ?_⟩
    walk_at "rd"
    refine ⟨n, _, rfl, .inr hn.sq, ?_⟩
    rw [List.length_map]
    exact k H (fun _ _ z => z)
theorem scHei : FnScope ["self"] ["self"] (defScope (cls 5)) := ⟨rfl, rfl, rfl, by decide +kernel, rfl, by decide +kernel, by decide +kernel⟩
theorem ok_height (F : Fun K "height" "Kind.height" (cls 5) f fd) (Cl : KC K mg C) (N : Def1 P w K mg base CX0 1 "number_at" ["row", "index"] (spNumAt K)) : FnOk P w K mg base CX0 2 f fd ["self"] (spGet K C fun _ ns => .int (ns.getD 0 0)) := by
  refine F.ok scHei (fun vs H Q E h => ?_) (fun cdv A outer s H vs Q E hr h => ?_)
  · obtain ⟨p, n, t, m, ns, rfl, _⟩ := h
    rfl
  · obtain ⟨p, n, t, m, ns, rfl, ⟨⟨dx, hp⟩, hn, ht, hm, hF⟩, k⟩ := h
    refine ⟨_, pss_one (ps_ret (pe_def N hr (by decide) (by rfl) (pa_cons (pe_fld (pv 0) rfl) (pa_cons pe_int pa_nil)))), ?_⟩
    walk_at "rd"
    refine ⟨p, C, dx, _, _, rfl, hp, Cl.cl, Cl.noN, look1, ?_⟩
    walk_at "rd"
    exact ⟨n, ns, 0, rfl, hn.sq, k H (fun _ _ z => z)⟩
theorem scSla : FnScope ["self"] ["self"] (defScope (cls 6)) := ⟨rfl, rfl, rfl, by decide +kernel, rfl, by decide +kernel, by decide +kernel⟩
theorem ok_slant (F : Fun K "slant" "Kind.slant" (cls 6) f fd) (Cl : KC K mg C) (N : Def1 P w K mg base CX0 1 "slant_of" ["row"] (spSlant K)) : FnOk P w K mg base CX0 2 f fd ["self"] (spGet K C fun _ ns => .int (slantM ns)) := by
  refine F.ok scSla (fun vs H Q E h => ?_) (fun cdv A outer s H vs Q E hr h => ?_)
  · obtain ⟨p, n, t, m, ns, rfl, _⟩ := h
    rfl
  · obtain ⟨p, n, t, m, ns, rfl, ⟨⟨dx, hp⟩, hn, ht, hm, hF⟩, k⟩ := h
    refine ⟨_, pss_one (ps_ret (pe_def N hr (by decide) (by rfl) (pa_cons (pe_fld (pv 0) rfl) pa_nil))), ?_⟩
    walk_at "rd"
    refine ⟨p, C, dx, _, _, rfl, hp, Cl.cl, Cl.noN, look1, ?_⟩
    walk_at "rd"
    exact ⟨n, ns, rfl, hn.sq, hF, k⟩
/-! ### making a kind out of a row -/
theorem made_ext {H : Hp} {x dx : Addr} {o u : HO} (hx : H x = none) (hdx : H dx = none) : Ext H (upd (upd H dx o) x u) := fun b ob q => by
  rw [upd_ne (ne_of_none q hx), upd_ne (ne_of_none q hdx)]
  exact q
theorem g_mk2 {E : XK} {H1 : Hp} {Q : VK} {a : Addr} {ns : List Int} (h : TupX K H1 a (ns.map V.int)) (hF : Fall ns) (k : ∀ H' p n t m, Ext H1 H' → KindAt K C H' p n t m ns → Q (.ref p) H') :
    ∀ x dx, H1 x = none → H1 dx = none → dx ≠ x → spInit K C [.ref x, .ref a] (upd (upd H1 dx (.own x)) x (.ins C dx [])) (fun v H2 => v = .non ∧ Q (.ref x) H2) E := fun x dx hx hdx ne =>
  ⟨x, dx, a, ns, rfl, upd_same, h.ext (made_ext hx hdx), hF, fun H' n t m e hk => ⟨rfl, k H' x n t m (fun b o q => e b o (ne_of_none q hx) (made_ext hx hdx b o q)) hk⟩⟩
/-- a promise that makes a kind -/
def spMakes (K : PySem.W.Frag) (C : Addr) (v : List Int → List Int) : Sp := fun vs H Q _ => ∃ (p n t m : Addr) (ns : List Int), vs = [.ref p] ∧ KindAt K C H p n t m ns ∧ ∀ H' p' n' t' m', Ext H H' → KindAt K C H' p' n' t' m' (v ns) → Q (.ref p') H'
theorem scTur : FnScope ["self"] ["self"] (defScope (cls 7)) := ⟨rfl, rfl, rfl, by decide +kernel, rfl, by decide +kernel, by decide +kernel⟩
theorem ok_turned (F : Fun K "turned" "Kind.turned" (cls 7) f fd) (Cl : KC K mg C) (N : Def1 P w K mg base CX0 2 "turned_row" ["row"] (spTurned K)) (I : Ini1 P w K mg base CX0 5 C t0 ["self", "numbers"] (spInit K C)) :
    FnOk P w K mg base CX0 7 f fd ["self"] (spMakes K C turnM) := by
  refine F.ok scTur (fun vs H Q E h => ?_) (fun cdv A outer s H vs Q E hr h => ?_)
  · obtain ⟨p, n, t, m, ns, rfl, _⟩ := h
    rfl
  · obtain ⟨p, n, t, m, ns, rfl, ⟨⟨dx, hp⟩, hn, ht, hm, hF⟩, k⟩ := h
    refine ⟨_, pss_one (ps_ret (pe_mk1 I pass0 hr (by decide) (by rfl) Cl.g (pa_cons (pe_def N hr (by decide) (by rfl) (pa_cons (pe_fld (pv 0) rfl) pa_nil)) pa_nil))), ?_⟩
    walk_at "rd"
    refine g_make ?_
    walk_at "rd"
    refine ⟨p, C, dx, _, _, rfl, hp, Cl.cl, Cl.noN, look1, ?_⟩
    walk_at "rd"
    have hl1 := hF.len
    have h0 := hF.at 0
    refine ⟨n, ns, rfl, hn.sq, by omega, h0.1, by omega, fun H1 u e1 hu => ?_⟩
    walk_at "rd"
    exact g_mk2 hu hF.one.fall fun H' p' n' t' m' e hk => k H' p' n' t' m' (Ext.trans e1 e) hk
/-! ### holds, tops -/
abbrev sReqKind : Stmt := top 30
theorem scReqKind : FnScope ["value"] ["value"] (defScope sReqKind) := ⟨rfl, rfl, rfl, by decide +kernel, rfl, by decide +kernel, by decide +kernel⟩
def spReqKind (K : PySem.W.Frag) (C : Addr) : Sp := fun vs H Q _ => ∃ (p n t m : Addr) (ns : List Int), vs = [.ref p] ∧ KindAt K C H p n t m ns ∧ Q .non H
theorem ok_reqKind (F : Fun K "require_kind" "require_kind" sReqKind f fd) (T : Txt K mg) (Cl : KC K mg C) : FnOk P w K mg base CX0 1 f fd ["value"] (spReqKind K C) := by
  refine F.ok scReqKind (fun vs H Q E h => ?_) (fun cdv A outer s H vs Q E hr h => ?_)
  · obtain ⟨p, n, t, m, ns, rfl, _⟩ := h
    rfl
  · obtain ⟨p, n, t, m, ns, rfl, ⟨⟨dx, hp⟩, hn, ht, hm, hF⟩, k⟩ := h
    refine ⟨_, PSs.nox (pss_one (ps_if (pt_not (pt_val (pe_callB call_isi (by rfl) T.isinstance (by decide +kernel) (pa_cons (pv 0) (pa_cons (pe_glob (v := .ref C) (by rfl) Cl.g rfl) pa_nil))))) (pss_one ps_never) pss_nil)), ?_⟩
    walk_at "rd"
    refine ⟨_, _, _, _, true, rfl, .own C, Cl.ty hp, Cl.kit, ?_⟩
    walk_at "rd"
    exact k
theorem scHol : FnScope ["self", "other"] ["self", "other"] (defScope (cls 11)) := ⟨rfl, rfl, rfl, by decide +kernel, rfl, by decide +kernel, by decide +kernel⟩
/-- a promise of a method with another kind -/
def spTwo (K : PySem.W.Frag) (C : Addr) (B : List Int → List Int → Prop) (v : List Int → List Int → V) : Sp := fun vs H Q _ => ∃ (p n t m q n2 t2 m2 : Addr) (ns ms : List Int), vs = [.ref p, .ref q] ∧ KindAt K C H p n t m ns ∧ KindAt K C H q n2 t2 m2 ms ∧ B ns ms ∧ ∀ H', Ext H H' → Q (v ns ms) H'
theorem ok_holds (F : Fun K "holds" "Kind.holds" (cls 11) f fd) (Cl : KC K mg C) (Rk : Def1 P w K mg base CX0 1 "require_kind" ["value"] (spReqKind K C)) (N : Def1 P w K mg base CX0 1 "is_held" ["row", "other"] (spHeld K))
    (Pn : Pro1 P w K mg base 1 C "numbers" (spGet K C fun n _ => .ref n)) : FnOk P w K mg base CX0 3 f fd ["self", "other"] (spTwo K C (fun _ _ => True) fun ns ms => .bl (heldM ms ns)) := by
  refine F.ok scHol (fun vs H Q E h => ?_) (fun cdv A outer s H vs Q E hr h => ?_)
  · obtain ⟨p, n, t, m, q, n2, t2, m2, ns, ms, rfl, _⟩ := h
    rfl
  · obtain ⟨p, n, t, m, q, n2, t2, m2, ns, ms, rfl, hp, hq, _, k⟩ := h
    refine ⟨_, pss_cons (ps_expr (pe_def Rk hr (by decide) (by rfl) (pa_cons (pv 1) pa_nil)))
      (pss_one (ps_ret (pe_def N hr (by decide) (by rfl) (pa_cons (pe_pro1 Cl.cl Pn hr (by decide) (pv 1)) (pa_cons (pe_fld (pv 0) rfl) pa_nil))))), ?_⟩
    walk_at "rd"
    refine ⟨q, n2, t2, m2, ms, rfl, hq, ?_⟩
    walk_at "rd"
    obtain ⟨dy, hqi⟩ := hq.ins
    refine ⟨q, dy, _, rfl, hqi, q, n2, t2, m2, ms, rfl, hq, fun H1 e1 => ?_⟩
    walk_at "rd"
    obtain ⟨dx, hpi⟩ := (hp.ext e1).ins
    refine ⟨p, C, dx, _, _, rfl, hpi, Cl.cl, Cl.noN, look1, ?_⟩
    walk_at "rd"
    exact ⟨n2, n, ms, ns, rfl, (hq.ext e1).num.sq, (hp.ext e1).num.sq, hq.fall, hp.fall, fun H2 e2 => k H2 (Ext.trans e1 e2)⟩
end
end Q0

set_option Elab.async false
set_option linter.all false
set_option maxRecDepth 100000
set_option maxHeartbeats 4000000
/-! Kinds: tops, joined and added kinds, items, ==, <, a walk. -/
namespace Q0
open PySem PySem.Spec PyProof.Rows L2 Gd
local macro_rules | `(tactic| walk_at "rd1") => `(tactic| first | with_reducible refine g_ret ?_ | with_reducible refine g_retN ?_ | with_reducible refine g_seq ?_ | with_reducible refine g_next ?_ | with_reducible refine g_drop ?_ | with_reducible refine g_asg ?_ | with_reducible refine g_name ?_ | with_reducible refine g_ifs ?_ | with_reducible refine g_test ?_ | with_reducible refine g_tb ?_ | with_reducible refine g_and ?_ | with_reducible refine g_or ?_ | with_reducible refine g_not ?_ | with_reducible refine g_andV ?_ | with_reducible refine g_orV ?_ | with_reducible refine g_notV ?_ | with_reducible refine g_if ?_ | with_reducible refine g_op ?_ | with_reducible refine g_un ?_ | with_reducible refine g_cb ?_ | with_reducible refine g_nil ?_ | with_reducible refine g_cons ?_ | with_reducible refine g_call ?_ | with_reducible refine g_callS ?_ | with_reducible refine g_tup ?_ | with_reducible refine g_lst ?_ | with_reducible refine g_isN ?_ | with_reducible refine g_sl ?_ | with_reducible refine g_nopart ?_ | with_reducible refine g_part ?_ | with_reducible refine g_chain ?_ | with_reducible refine g_fld ?_ | with_reducible refine g_prop ?_ | with_reducible refine g_bm ?_ | with_reducible refine g_bm0 ?_ | with_reducible refine g_c ?_ | with_reducible refine g_sub ?_ | with_reducible refine g_int1 ?_ | with_reducible refine g_int2 ?_ | with_reducible refine g_yes ?_ | with_reducible refine g_sfld ?_ | with_reducible refine g_NT ?_ | with_reducible refine g_NF ?_ | with_reducible refine iteT ?_ | with_reducible refine iteF ?_ | ((with_reducible refine' g_aug ?hv ?_); (case hv => exact rfl)) | ((with_reducible refine' g_var ?hv ?_); (case hv => exact rfl)) | with_reducible refine g_I0 ?_ | with_reducible refine g_U ?_ | with_reducible refine g_eqI ?_ | with_reducible refine g_blV ?_ | with_reducible refine g_inV ?_)
local macro_rules | `(tactic| walk_at "rd") => `(tactic| repeat walk_at "rd1")
section
variable {P : Program} {w : World} {K : PySem.W.Frag} {mg : Str → Option Value} {base : Heap} {f C t0 CT fT : Addr} {fd : FuncData}
theorem g_neS1 {H : Hp} {Q : VK} {i j : Int} (e : i = j) (k : Q (.bl false) H) : rNe (.int i) (.int j) H Q := by
  subst e
  exact ⟨rfl, by simpa using k⟩
theorem scTops : FnScope ["self", "other"] ["self", "other"] (defScope (cls 12)) := ⟨rfl, rfl, rfl, by decide +kernel, rfl, by decide +kernel, by decide +kernel⟩
theorem ok_tops (F : Fun K "tops" "Kind.tops" (cls 12) f fd) (Cl : KC K mg C) (Rk : Def1 P w K mg base CX0 1 "require_kind" ["value"] (spReqKind K C)) (N : Def1 P w K mg base CX0 1 "is_topped" ["row", "other"] (spTopped K))
    (Pn : Pro1 P w K mg base 1 C "numbers" (spGet K C fun n _ => .ref n)) (Ps : Pro1 P w K mg base 1 C "size" (spGet K C fun _ ns => .int ns.sum)) : FnOk P w K mg base CX0 3 f fd ["self", "other"] (spTwo K C (fun ns ms => ns.sum = ms.sum) fun ns ms => .bl (topM ms ns)) := by
  refine F.ok scTops (fun vs H Q E h => ?_) (fun cdv A outer s H vs Q E hr h => ?_)
  · obtain ⟨p, n, t, m, q, n2, t2, m2, ns, ms, rfl, _⟩ := h
    rfl
  · obtain ⟨p, n, t, m, q, n2, t2, m2, ns, ms, rfl, hp, hq, hB, k⟩ := h
    refine ⟨_, PSs.nox (pss_cons (ps_expr (pe_def Rk hr (by decide) (by rfl) (pa_cons (pv 1) pa_nil)))
      (pss_cons (ps_if (pt_cmpR op_ne (pe_pro1 Cl.cl Ps hr (by decide) (pv 0)) (pe_pro1 Cl.cl Ps hr (by decide) (pv 1)) (nomark _)) (pss_one ps_never) pss_nil)
      (pss_one (ps_ret (pe_def N hr (by decide) (by rfl) (pa_cons (pe_pro1 Cl.cl Pn hr (by decide) (pv 1)) (pa_cons (pe_fld (pv 0) rfl) pa_nil))))))), ?_⟩
    walk_at "rd"
    refine ⟨q, n2, t2, m2, ms, rfl, hq, ?_⟩
    walk_at "rd"
    obtain ⟨dx, hpi⟩ := hp.ins
    refine ⟨p, dx, _, rfl, hpi, p, n, t, m, ns, rfl, hp, fun H1 e1 => ?_⟩
    walk_at "rd"
    have hq1 := hq.ext e1
    obtain ⟨dy, hqi⟩ := hq1.ins
    refine ⟨q, dy, _, rfl, hqi, q, n2, t2, m2, ms, rfl, hq1, fun H2 e2 => ?_⟩
    walk_at "rd"
    refine g_neS1 hB ?_
    walk_at "rd"
    have hq2 := hq1.ext e2
    have hp2 := (hp.ext e1).ext e2
    obtain ⟨dy2, hqi2⟩ := hq2.ins
    refine ⟨q, dy2, _, rfl, hqi2, q, n2, t2, m2, ms, rfl, hq2, fun H3 e3 => ?_⟩
    walk_at "rd"
    obtain ⟨dx3, hpi3⟩ := (hp2.ext e3).ins
    refine ⟨p, C, dx3, _, _, rfl, hpi3, Cl.cl, Cl.noN, look1, ?_⟩
    walk_at "rd"
    exact ⟨n2, n, ms, ns, rfl, (hq2.ext e3).num.sq, (hp2.ext e3).num.sq, hq.fall, hp.fall, fun H4 e4 => k H4 (Ext.trans e1 (Ext.trans e2 (Ext.trans e3 e4)))⟩
/-! ### too great -/
abbrev sReqSize : Stmt := top 31
theorem scReqSize : FnScope ["size"] ["size"] (defScope sReqSize) := ⟨rfl, rfl, rfl, by decide +kernel, rfl, by decide +kernel, by decide +kernel⟩
/-- how a size that is too great is refused -/
def TooBig (CT : Addr) (H : Hp) (E : XK) : Prop := ∀ H' d, Ext H H' → H' d = none → E (.ref CT) (some d) (upd H' d (.xd [(("limit" : Str), .int 12)]))
def spReqSize (CT : Addr) : Sp := fun vs H Q E => ∃ i : Int, vs = [.int i] ∧ (i ≤ 12 → Q .non H) ∧ (12 < i → TooBig CT H E)
theorem ok_reqSize (F : Fun K "require_size" "require_size" sReqSize f fd) (Cl : KC K mg C) (N : PySem.XTooMany.TooManyTxt K mg CT fT) : FnOk P w K mg base (L2.CX P w) 3 f fd ["size"] (spReqSize CT) := by
  obtain ⟨tM, gM⟩ := Cl.most
  refine F.okX scReqSize (fun vs H Q E h => ?_) (fun cdv A outer s H vs Q E hr h => ?_)
  · obtain ⟨i, rfl, _⟩ := h
    rfl
  · obtain ⟨i, rfl, k1, k2⟩ := h
    refine ⟨_, pss_one (ps_if (pt_cmpR op_gt (pv 0) (pe_glob (v := .int 12) (by rfl) gM ⟨_, rfl⟩) (nomark _)) (pss_one (ps_raiseTooMany rfl N hr (takes_of rfl rfl rfl rfl) (by exact (pa_cons (pe_glob (v := .int 12) (by rfl) gM ⟨_, rfl⟩) pa_nil)))) pss_nil), ?_⟩
    walk_at "rd"
    refine ite2 (fun h1 => ?_) (fun h1 => ?_)
    · have h2 := of_decide_eq_true h1
      walk_at "rd"
      refine ⟨_, rfl, fun d hd => ?_⟩
      exact k2 h2 H d (fun _ _ z => z) hd
    · walk_at "rd"
      exact k1 (by
        have : ¬ 12 < i := fun z => h1 (decide_eq_true z)
        omega)
/-! ### joined and added -/
/-- a promise that makes a kind out of two, or refuses -/
def spTwoK (K : PySem.W.Frag) (C CT : Addr) (v : List Int → List Int → List Int) : Sp := fun vs H Q E => ∃ (p n t m q n2 t2 m2 : Addr) (ns ms : List Int), vs = [.ref p, .ref q] ∧ KindAt K C H p n t m ns ∧ KindAt K C H q n2 t2 m2 ms ∧
  (ns.sum + ms.sum ≤ 12 → ∀ H' p' n' t' m', Ext H H' → KindAt K C H' p' n' t' m' (v ns ms) → Q (.ref p') H') ∧ (12 < ns.sum + ms.sum → TooBig CT H E)
theorem TooBig.ext {H H' : Hp} {E : XK} (e : Ext H H') (h : TooBig CT H E) : TooBig CT H' E := fun H2 d e2 hd => h H2 d (Ext.trans e e2) hd
theorem scAddm : FnScope ["self", "other"] ["self", "other"] (defScope (cls 13)) := ⟨rfl, rfl, rfl, by decide +kernel, rfl, by decide +kernel, by decide +kernel⟩
theorem ok_add (F : Fun K "__add__" "Kind.__add__" (cls 13) f fd) (T : Txt K mg) (Cl : KC K mg C) (Rs : Def1 P w K mg base (L2.CX P w) 3 "require_size" ["size"] (spReqSize CT)) (N : Def1 P w K mg base CX0 1 "joined_row" ["one", "other"] (spJoined K))
    (Pn : Pro1 P w K mg base 1 C "numbers" (spGet K C fun n _ => .ref n)) (Ps : Pro1 P w K mg base 1 C "size" (spGet K C fun _ ns => .int ns.sum)) (I : Ini1 P w K mg base CX0 5 C t0 ["self", "numbers"] (spInit K C)) : FnOk P w K mg base (L2.CX P w) 7 f fd ["self", "other"] (spTwoK K C CT joinM) := by
  refine F.okX scAddm (fun vs H Q E h => ?_) (fun cdv A outer s H vs Q E hr h => ?_)
  · obtain ⟨p, n, t, m, q, n2, t2, m2, ns, ms, rfl, _⟩ := h
    rfl
  · obtain ⟨p, n, t, m, q, n2, t2, m2, ns, ms, rfl, hp, hq, k1, k2⟩ := h
    refine ⟨_, pss_cons (ps_if (pt_not (pt_val (pe_callB call_isi (by rfl) T.isinstance (by decide +kernel) (pa_cons (pv 1) (pa_cons (pe_glob (v := .ref C) (by rfl) Cl.g rfl) pa_nil))))) (pss_one ps_never) pss_nil)
      (pss_cons (ps_expr (pe_defX Rs (passes_call (takes_of rfl rfl rfl rfl) (fun _ _ _ _ h => h)) hr (by decide) (by rfl) (pa_cons (pe_op op_add (pe_pro1 Cl.cl Ps hr (by decide) (pv 0)) (pe_pro1 Cl.cl Ps hr (by decide) (pv 1))) pa_nil)))
      (pss_one (ps_ret (pe_mk1 I pass0 hr (by decide) (by rfl) Cl.g (pa_cons (pe_def N hr (by decide) (by rfl) (pa_cons (pe_fld (pv 0) rfl) (pa_cons (pe_pro1 Cl.cl Pn hr (by decide) (pv 1)) pa_nil))) pa_nil))))), ?_⟩
    walk_at "rd"
    obtain ⟨dx, hpi⟩ := hp.ins
    obtain ⟨dy, hqi⟩ := hq.ins
    refine ⟨_, _, _, _, true, rfl, .own C, Cl.ty hqi, Cl.kit, ?_⟩
    walk_at "rd"
    refine ⟨p, dx, _, rfl, hpi, p, n, t, m, ns, rfl, hp, fun H1 e1 => ?_⟩
    walk_at "rd"
    have hq1 := hq.ext e1
    obtain ⟨dy1, hqi1⟩ := hq1.ins
    refine ⟨q, dy1, _, rfl, hqi1, q, n2, t2, m2, ms, rfl, hq1, fun H2 e2 => ?_⟩
    walk_at "rd"
    have e12 := Ext.trans e1 e2
    refine ⟨_, rfl, fun h12 => ?_, fun h12 => TooBig.ext e12 (k2 h12)⟩
    walk_at "rd"
    refine g_make ?_
    walk_at "rd"
    have hp2 := hp.ext e12
    have hq2 := hq.ext e12
    obtain ⟨dx2, hpi2⟩ := hp2.ins
    refine ⟨p, C, dx2, _, _, rfl, hpi2, Cl.cl, Cl.noN, look1, ?_⟩
    walk_at "rd"
    obtain ⟨dy2, hqi2⟩ := hq2.ins
    refine ⟨q, dy2, _, rfl, hqi2, q, n2, t2, m2, ms, rfl, hq2, fun H3 e3 => ?_⟩
    walk_at "rd"
    refine ⟨n, n2, ns, ms, rfl, (hp2.ext e3).num, (hq2.ext e3).num, hp.fall, hq.fall, fun H4 u e4 hu => ?_⟩
    walk_at "rd"
    exact g_mk2 hu (join_fall hp.fall hq.fall h12) fun H' p' n' t' m' e hk => k1 h12 H' p' n' t' m' (Ext.trans e12 (Ext.trans e3 (Ext.trans e4 e))) hk
theorem scOvr : FnScope ["self", "other"] ["self", "other"] (defScope (cls 14)) := ⟨rfl, rfl, rfl, by decide +kernel, rfl, by decide +kernel, by decide +kernel⟩
theorem ok_over (F : Fun K "over" "Kind.over" (cls 14) f fd) (Cl : KC K mg C) (Rk : Def1 P w K mg base CX0 1 "require_kind" ["value"] (spReqKind K C)) (Rs : Def1 P w K mg base (L2.CX P w) 3 "require_size" ["size"] (spReqSize CT)) (N : Def1 P w K mg base CX0 2 "added_row" ["one", "other"] (spAdded K))
    (Pn : Pro1 P w K mg base 1 C "numbers" (spGet K C fun n _ => .ref n)) (Ps : Pro1 P w K mg base 1 C "size" (spGet K C fun _ ns => .int ns.sum)) (I : Ini1 P w K mg base CX0 5 C t0 ["self", "numbers"] (spInit K C)) : FnOk P w K mg base (L2.CX P w) 7 f fd ["self", "other"] (spTwoK K C CT addM) := by
  refine F.okX scOvr (fun vs H Q E h => ?_) (fun cdv A outer s H vs Q E hr h => ?_)
  · obtain ⟨p, n, t, m, q, n2, t2, m2, ns, ms, rfl, _⟩ := h
    rfl
  · obtain ⟨p, n, t, m, q, n2, t2, m2, ns, ms, rfl, hp, hq, k1, k2⟩ := h
    refine ⟨_, pss_cons (ps_expr (pe_def Rk hr (by decide) (by rfl) (pa_cons (pv 1) pa_nil)))
      (pss_cons (ps_expr (pe_defX Rs (passes_call (takes_of rfl rfl rfl rfl) (fun _ _ _ _ h => h)) hr (by decide) (by rfl) (pa_cons (pe_op op_add (pe_pro1 Cl.cl Ps hr (by decide) (pv 0)) (pe_pro1 Cl.cl Ps hr (by decide) (pv 1))) pa_nil)))
      (pss_one (ps_ret (pe_mk1 I pass0 hr (by decide) (by rfl) Cl.g (pa_cons (pe_def N hr (by decide) (by rfl) (pa_cons (pe_fld (pv 0) rfl) (pa_cons (pe_pro1 Cl.cl Pn hr (by decide) (pv 1)) pa_nil))) pa_nil))))), ?_⟩
    walk_at "rd"
    refine ⟨q, n2, t2, m2, ms, rfl, hq, ?_⟩
    walk_at "rd"
    obtain ⟨dx, hpi⟩ := hp.ins
    refine ⟨p, dx, _, rfl, hpi, p, n, t, m, ns, rfl, hp, fun H1 e1 => ?_⟩
    walk_at "rd"
    have hq1 := hq.ext e1
    obtain ⟨dy1, hqi1⟩ := hq1.ins
    refine ⟨q, dy1, _, rfl, hqi1, q, n2, t2, m2, ms, rfl, hq1, fun H2 e2 => ?_⟩
    walk_at "rd"
    have e12 := Ext.trans e1 e2
    refine ⟨_, rfl, fun h12 => ?_, fun h12 => TooBig.ext e12 (k2 h12)⟩
    walk_at "rd"
    refine g_make ?_
    walk_at "rd"
    have hp2 := hp.ext e12
    have hq2 := hq.ext e12
    obtain ⟨dx2, hpi2⟩ := hp2.ins
    refine ⟨p, C, dx2, _, _, rfl, hpi2, Cl.cl, Cl.noN, look1, ?_⟩
    walk_at "rd"
    obtain ⟨dy2, hqi2⟩ := hq2.ins
    refine ⟨q, dy2, _, rfl, hqi2, q, n2, t2, m2, ms, rfl, hq2, fun H3 e3 => ?_⟩
    walk_at "rd"
    refine ⟨n, n2, ns, ms, rfl, (hp2.ext e3).num.sq, (hq2.ext e3).num.sq, hp.fall, hq.fall, fun H4 u e4 hu => ?_⟩
    walk_at "rd"
    exact g_mk2 hu (add_fall hp.fall hq.fall h12) fun H' p' n' t' m' e hk => k1 h12 H' p' n' t' m' (Ext.trans e12 (Ext.trans e3 (Ext.trans e4 e))) hk
end
end Q0

set_option Elab.async false
set_option linter.all false
set_option maxRecDepth 100000
set_option maxHeartbeats 4000000
/-! Kinds: items, a walk, ==, <. -/
namespace Q0
open PySem PySem.Spec PyProof.Rows L2 Gd
local macro_rules | `(tactic| walk_at "rd1") => `(tactic| first | with_reducible refine g_ret ?_ | with_reducible refine g_retN ?_ | with_reducible refine g_seq ?_ | with_reducible refine g_next ?_ | with_reducible refine g_drop ?_ | with_reducible refine g_asg ?_ | with_reducible refine g_name ?_ | with_reducible refine g_ifs ?_ | with_reducible refine g_test ?_ | with_reducible refine g_tb ?_ | with_reducible refine g_and ?_ | with_reducible refine g_or ?_ | with_reducible refine g_not ?_ | with_reducible refine g_andV ?_ | with_reducible refine g_orV ?_ | with_reducible refine g_notV ?_ | with_reducible refine g_if ?_ | with_reducible refine g_op ?_ | with_reducible refine g_un ?_ | with_reducible refine g_cb ?_ | with_reducible refine g_nil ?_ | with_reducible refine g_cons ?_ | with_reducible refine g_call ?_ | with_reducible refine g_callS ?_ | with_reducible refine g_tup ?_ | with_reducible refine g_lst ?_ | with_reducible refine g_isN ?_ | with_reducible refine g_sl ?_ | with_reducible refine g_nopart ?_ | with_reducible refine g_part ?_ | with_reducible refine g_chain ?_ | with_reducible refine g_fld ?_ | with_reducible refine g_prop ?_ | with_reducible refine g_bm ?_ | with_reducible refine g_bm0 ?_ | with_reducible refine g_c ?_ | with_reducible refine g_sub ?_ | with_reducible refine g_int1 ?_ | with_reducible refine g_int2 ?_ | with_reducible refine g_yes ?_ | with_reducible refine g_sfld ?_ | with_reducible refine g_NT ?_ | with_reducible refine g_NF ?_ | with_reducible refine iteT ?_ | with_reducible refine iteF ?_ | ((with_reducible refine' g_aug ?hv ?_); (case hv => exact rfl)) | ((with_reducible refine' g_var ?hv ?_); (case hv => exact rfl)) | with_reducible refine g_I0 ?_ | with_reducible refine g_U ?_ | with_reducible refine g_eqI ?_ | with_reducible refine g_blV ?_ | with_reducible refine g_inV ?_)
local macro_rules | `(tactic| walk_at "rd") => `(tactic| repeat walk_at "rd1")
section
variable {P : Program} {w : World} {K : PySem.W.Frag} {mg : Str → Option Value} {base : Heap} {f C CN : Addr} {fd : FuncData}
theorem scItem : FnScope ["self", "index"] ["self", "index"] (defScope (cls 16)) := ⟨rfl, rfl, rfl, by decide +kernel, rfl, by decide +kernel, by decide +kernel⟩
def spItem (K : PySem.W.Frag) (C : Addr) : Sp := fun vs H Q _ => ∃ (p n t m : Addr) (ns : List Int) (i : Nat), vs = [.ref p, .int (i : Int)] ∧ KindAt K C H p n t m ns ∧ i ≤ 100 ∧ Q (.int (ns.getD i 0)) H
theorem ok_item (F : Fun K "__getitem__" "Kind.__getitem__" (cls 16) f fd) (Cl : KC K mg C) (Ri : Def1 P w K mg base (L2.CX P w) 4 "require_index" ["value"] (spIndex K CN)) (N : Def1 P w K mg base CX0 1 "number_at" ["row", "index"] (spNumAt K)) :
    FnOk P w K mg base CX0 5 f fd ["self", "index"] (spItem K C) := by
  refine F.ok scItem (fun vs H Q E h => ?_) (fun cdv A outer s H vs Q E hr h => ?_)
  · obtain ⟨p, n, t, m, ns, i, rfl, _⟩ := h
    rfl
  · obtain ⟨p, n, t, m, ns, i, rfl, ⟨⟨dx, hp⟩, hn, ht, hm, hF⟩, hi, k⟩ := h
    refine ⟨_, PSs.nox (pss_cons (ps_expr (pe_defX (E := X0) Ri (passes_call L2.takes0 (fun _ _ _ _ h => h)) hr (by decide) (by rfl) (pa_cons (pv 1) pa_nil)))
      (pss_one (ps_ret (pe_def N hr (by decide) (by rfl) (pa_cons (pe_fld (pv 0) rfl) (pa_cons (pv 1) pa_nil)))))), ?_⟩
    have big : (100 : Int) < 10 ^ 60 := by decide +kernel
    walk_at "rd"
    refine ⟨_, true, rfl, .inl ⟨(i : Int), rfl, (decide_eq_true ⟨by omega, by omega⟩).symm⟩, fun _ => ?_, fun h => by cases h⟩
    walk_at "rd"
    refine ⟨p, C, dx, _, _, rfl, hp, Cl.cl, Cl.noN, look1, ?_⟩
    walk_at "rd"
    exact ⟨n, ns, i, rfl, hn.sq, k⟩
theorem scItr : FnScope ["self"] ["self"] (defScope (cls 18)) := ⟨rfl, rfl, rfl, by decide +kernel, rfl, by decide +kernel, by decide +kernel⟩
def KindR (K : PySem.W.Frag) (C : Addr) (p n : Addr) (ys : List V) (H : Hp) : Prop := ∃ (t m : Addr) (ns : List Int), ys = ns.map V.int ∧ KindAt K C H p n t m ns
theorem ok_iter (F : Fun K "__iter__" "Kind.__iter__" (cls 18) f fd) (T : Txt K mg) (Cl : KC K mg C) : FnOk P w K mg base CX0 1 f fd ["self"] (spItN K (KindR K C)) := by
  refine F.ok scItr (fun vs H Q E h => ?_) (fun cdv A outer s H vs Q E hr h => ?_)
  · obtain ⟨p, n, ys, rfl, _⟩ := h
    rfl
  · obtain ⟨p, n, ys, rfl, ⟨t, m, ns, rfl, ⟨⟨dx, hp⟩, hn, ht, hm, hF⟩⟩, _, k⟩ := h
    refine ⟨_, pss_one (ps_ret (pe_callB call_iterN (by rfl) T.iter (by decide +kernel) (pa_cons (pe_fld (pv 0) rfl) pa_nil))), ?_⟩
    walk_at "rd"
    refine ⟨p, C, dx, _, _, rfl, hp, Cl.cl, Cl.noN, look1, ?_⟩
    walk_at "rd"
    exact ⟨n, _, rfl, hn.sq, k⟩
/-! ### == and < -/
theorem dp_place {H : Hp} {t m : Addr} {i : Int} {ns : List Int} (ht : SqT K H t [.int i, .ref m]) (hm : SqT K H m (ns.map V.int)) : Dp K H (.ref t) (.tuple [.int i, .tuple (pdata ns)]) :=
  .tup ht (.cons (.int i) (.cons (.tup hm (pdp ns)) .nil))
theorem sh_place (i : Int) (ns : List Int) : SeqAt.shaped (.tuple [.int i, .tuple (pdata ns)]) = true := by
  have d : ∀ ns : List Int, PyData.depthAll (pdata ns) = 0 := fun ns => by
    induction ns with
    | nil => simp [pdata, PyData.depthAll]
    | cons n r ih =>
      unfold pdata at ih ⊢
      simp [PyData.depthAll, PyData.depth, ih]
  unfold SeqAt.shaped
  simp [PyData.canLay0, PyData.canLayAll0, play, PyData.depth, PyData.depthAll, d]
theorem neg_inj {ns ms : List Int} : (ns.map fun x => -x) = (ms.map fun x => -x) ↔ ns = ms := by
  constructor
  · intro h
    have := congrArg (List.map fun x : Int => -x) h
    rw [List.map_map, List.map_map] at this
    have e : ((fun x : Int => -x) ∘ fun x => -x) = id := by
      funext x
      exact Int.neg_neg x
    rw [e, List.map_id, List.map_id] at this
    exact this
  · intro h
    rw [h]
theorem lt66 {A : Around} {k : Nat} (hr : Room k A) : A.units + 66 < cLine := by
  have := hr.un
  omega
theorem scEqk : FnScope ["self", "other"] ["self", "other"] (defScope (cls 19)) := ⟨rfl, rfl, rfl, by decide +kernel, rfl, by decide +kernel, by decide +kernel⟩
theorem ok_eq (F : Fun K "__eq__" "Kind.__eq__" (cls 19) f fd) (T : Txt K mg) (Cl : KC K mg C) : FnOk P w K mg base CX0 1 f fd ["self", "other"] (spTwo K C (fun _ _ => True) fun ns ms => .bl (decide (ns = ms))) := by
  refine F.ok scEqk (fun vs H Q E h => ?_) (fun cdv A outer s H vs Q E hr h => ?_)
  · obtain ⟨p, n, t, m, q, n2, t2, m2, ns, ms, rfl, _⟩ := h
    rfl
  · obtain ⟨p, n, t, m, q, n2, t2, m2, ns, ms, rfl, ⟨⟨dx, hp⟩, hn, ht, hm, hF⟩, ⟨⟨dy, hq⟩, hn2, ht2, hm2, hF2⟩, _, k⟩ := h
    refine ⟨_, pss_one (ps_ret (pe_and (pe_callB call_isi (by rfl) T.isinstance (by decide +kernel) (pa_cons (pv 1) (pa_cons (pe_glob (v := .ref C) (by rfl) Cl.g rfl) pa_nil))) (pe_one (pe_cmpR (op_eqD hr.units) (pe_fld (pv 0) rfl) (pe_fld (pv 1) rfl) (nomark _))))), ?_⟩
    walk_at "rd"
    refine ⟨_, _, _, _, true, rfl, .own C, Cl.ty hq, Cl.kit, ?_⟩
    walk_at "rd"
    refine ⟨p, C, dx, _, _, rfl, hp, Cl.cl, Cl.noP, look2, ?_⟩
    walk_at "rd"
    refine ⟨q, C, dy, _, _, rfl, hq, Cl.cl, Cl.noP, look2, ?_⟩
    refine ⟨_, _, dp_place ht hm, dp_place ht2 hm2, sh_place _ _, sh_place _ _, ?_⟩
    have e : PyData.eqv (.tuple [.int ns.sum, .tuple (pdata (ns.map fun x => -x))]) (.tuple [.int ms.sum, .tuple (pdata (ms.map fun x => -x))]) = decide (ns = ms) := by
      have e1 : PyData.eqv (.tuple [.int ns.sum, .tuple (pdata (ns.map fun x => -x))]) (.tuple [.int ms.sum, .tuple (pdata (ms.map fun x => -x))]) = (decide (ns.sum = ms.sum) && (decide ((ns.map fun x => -x) = (ms.map fun x => -x)) && true)) := by
        simp only [PyData.eqv, PyData.eqvAll, peqv]
        rfl
      rw [e1, Bool.and_true]
      by_cases h : ns = ms
      · subst h
        simp
      · rw [decide_eq_false (p := (ns.map fun x => -x) = (ms.map fun x => -x)) (fun z => h (neg_inj.mp z)), decide_eq_false h, Bool.and_false]
    rw [e]
    exact k H (fun _ _ z => z)
theorem scLtk : FnScope ["self", "other"] ["self", "other"] (defScope (cls 20)) := ⟨rfl, rfl, rfl, by decide +kernel, rfl, by decide +kernel, by decide +kernel⟩
theorem ok_lt (F : Fun K "__lt__" "Kind.__lt__" (cls 20) f fd) (T : Txt K mg) (Cl : KC K mg C) : FnOk P w K mg base CX0 4 f fd ["self", "other"] (spTwo K C (fun _ _ => True) fun ns ms => .bl (pairLt ns.sum ms.sum (negM ns) (negM ms))) := by
  refine F.ok scLtk (fun vs H Q E h => ?_) (fun cdv A outer s H vs Q E hr h => ?_)
  · obtain ⟨p, n, t, m, q, n2, t2, m2, ns, ms, rfl, _⟩ := h
    rfl
  · obtain ⟨p, n, t, m, q, n2, t2, m2, ns, ms, rfl, ⟨⟨dx, hp⟩, hn, ht, hm, hF⟩, ⟨⟨dy, hq⟩, hn2, ht2, hm2, hF2⟩, _, k⟩ := h
    refine ⟨_, PSs.nox (pss_cons (ps_if (pt_not (pt_val (pe_callB call_isi (by rfl) T.isinstance (by decide +kernel) (pa_cons (pv 1) (pa_cons (pe_glob (v := .ref C) (by rfl) Cl.g rfl) pa_nil))))) (pss_one ps_never) pss_nil)
      (pss_one (ps_ret (pe_cmpR (op_ltP (lt66 hr)) (pe_fld (pv 0) rfl) (pe_fld (pv 1) rfl) (nomark _))))), ?_⟩
    walk_at "rd"
    refine ⟨_, _, _, _, true, rfl, .own C, Cl.ty hq, Cl.kit, ?_⟩
    walk_at "rd"
    refine ⟨p, C, dx, _, _, rfl, hp, Cl.cl, Cl.noP, look2, ?_⟩
    walk_at "rd"
    refine ⟨q, C, dy, _, _, rfl, hq, Cl.cl, Cl.noP, look2, ?_⟩
    exact ⟨t, t2, m, m2, _, _, _, _, rfl, rfl, ht, ht2, hm, hm2, k H (fun _ _ z => z)⟩
end
end Q0

set_option Elab.async false
set_option linter.all false
set_option maxRecDepth 100000
set_option maxHeartbeats 4000000
/-! All kinds of a size, as the law lists them. -/
namespace Q0
open PySem PySem.Spec PyProof.Rows L2 Gd
local macro_rules | `(tactic| walk_at "rd1") => `(tactic| first | with_reducible refine g_ret ?_ | with_reducible refine g_retN ?_ | with_reducible refine g_seq ?_ | with_reducible refine g_next ?_ | with_reducible refine g_drop ?_ | with_reducible refine g_asg ?_ | with_reducible refine g_name ?_ | with_reducible refine g_ifs ?_ | with_reducible refine g_test ?_ | with_reducible refine g_tb ?_ | with_reducible refine g_and ?_ | with_reducible refine g_or ?_ | with_reducible refine g_not ?_ | with_reducible refine g_andV ?_ | with_reducible refine g_orV ?_ | with_reducible refine g_notV ?_ | with_reducible refine g_if ?_ | with_reducible refine g_op ?_ | with_reducible refine g_un ?_ | with_reducible refine g_cb ?_ | with_reducible refine g_nil ?_ | with_reducible refine g_cons ?_ | with_reducible refine g_call ?_ | with_reducible refine g_callS ?_ | with_reducible refine g_tup ?_ | with_reducible refine g_lst ?_ | with_reducible refine g_isN ?_ | with_reducible refine g_sl ?_ | with_reducible refine g_nopart ?_ | with_reducible refine g_part ?_ | with_reducible refine g_chain ?_ | with_reducible refine g_fld ?_ | with_reducible refine g_prop ?_ | with_reducible refine g_bm ?_ | with_reducible refine g_bm0 ?_ | with_reducible refine g_c ?_ | with_reducible refine g_sub ?_ | with_reducible refine g_int1 ?_ | with_reducible refine g_int2 ?_ | with_reducible refine g_yes ?_ | with_reducible refine g_sfld ?_ | with_reducible refine g_NT ?_ | with_reducible refine g_NF ?_ | with_reducible refine iteT ?_ | with_reducible refine iteF ?_ | ((with_reducible refine' g_aug ?hv ?_); (case hv => exact rfl)) | ((with_reducible refine' g_var ?hv ?_); (case hv => exact rfl)) | with_reducible refine g_I0 ?_ | with_reducible refine g_U ?_ | with_reducible refine g_eqI ?_ | with_reducible refine g_blV ?_ | with_reducible refine g_inV ?_)
local macro_rules | `(tactic| walk_at "rd") => `(tactic| repeat walk_at "rd1")
theorem geo2 (l : Nat) : ∀ n : Nat, n ≤ l → ((List.range n).map fun i => 2 ^ (l - (i + 1))).sum + 2 ^ (l - n) ≤ 2 ^ l
  | 0, _ => by simp
  | n + 1, h => by
    have ih := geo2 l n (by omega)
    rw [List.range_succ, List.map_append, List.sum_append]
    have e : 2 ^ (l - n) = 2 ^ (l - (n + 1)) + 2 ^ (l - (n + 1)) := by
      rw [show l - n = (l - (n + 1)) + 1 by omega, Nat.pow_succ]
      omega
    have e2 : ([n].map fun i => 2 ^ (l - (i + 1))).sum = 2 ^ (l - (n + 1)) := by simp
    rw [e2]
    omega
theorem len_pow : ∀ ls : List Nat, ls.length ≤ (ls.map fun l => 2 ^ l).sum
  | [] => Nat.le_refl _
  | l :: r => by
    have := len_pow r
    have := Nat.one_le_two_pow (n := l)
    rw [List.length_cons, List.map_cons, List.sum_cons]
    omega
section
variable {K : PySem.W.Frag} {H H' : Hp} {size : Nat}
/-- a kind of that size, as a tuple -/
def KT (K : PySem.W.Frag) (size : Nat) (H : Hp) (f : V) : Prop := ∃ (a : Addr) (ns : List Int), f = .ref a ∧ TupX K H a (ns.map V.int) ∧ Fall ns ∧ ns.sum = (size : Int)
/-- the beginning of one, with what is left -/
def WT (K : PySem.W.Frag) (size : Nat) (H : Hp) (l : Nat) (v : V) : Prop := ∃ (b a : Addr) (ns : List Int), v = .ref b ∧ H b = some (.tup [.ref a, .int (l : Int)]) ∧ TupX K H a (ns.map V.int) ∧ Fall ns ∧ ns.sum + (l : Int) = (size : Int)
/-- what is no list stays -/
def Keeps (H H' : Hp) : Prop := ∀ b o, (∀ xs, o ≠ .lst xs) → H b = some o → H' b = some o
theorem Keeps.of (e : Ext H H') : Keeps H H' := fun b o _ q => e b o q
theorem Keeps.trans {H2 : Hp} (a : Keeps H H') (b : Keeps H' H2) : Keeps H H2 := fun x o n q => b x o n (a x o n q)
theorem Keeps.up {D : Addr} {xs ys : List V} (h : H D = some (.lst xs)) : Keeps H (upd H D (.lst ys)) := fun b o n q => by
  rw [upd_ne (fun z => by rw [z, h] at q; cases q; exact n _ rfl)]
  exact q
theorem TupX.keeps {a : Addr} {xs : List V} (e : Keeps H H') (h : TupX K H a xs) : TupX K H' a xs := by
  rcases h with ⟨o, h, d⟩ | h
  · exact .inl ⟨o, e _ _ (fun _ z => by cases z) h, d⟩
  · exact .inr h
theorem KT.keeps {f : V} (e : Keeps H H') (h : KT K size H f) : KT K size H' f := by
  obtain ⟨a, ns, rfl, ht, r⟩ := h
  exact ⟨a, ns, rfl, TupX.keeps e ht, r⟩
theorem WT.keeps {l : Nat} {v : V} (e : Keeps H H') (h : WT K size H l v) : WT K size H' l v := by
  obtain ⟨b, a, ns, rfl, hb, ht, r⟩ := h
  exact ⟨b, a, ns, rfl, e _ _ (fun _ z => by cases z) hb, TupX.keeps e ht, r⟩
theorem keeps_but {D : Addr} {ys : List V} (hd : H D = none ∨ H D = some (.lst ys)) (e : ExtBut D H H') : Keeps H H' := fun b o n q => e b o (fun z => by
  rw [z] at q
  rcases hd with hd | hd
  · rw [hd] at q
    cases q
  · rw [hd] at q
    cases q
    exact n _ rfl) q
theorem fall_snoc {ns : List Int} {k : Int} (h : Fall ns) (k1 : 1 ≤ k) (hs : ns.sum + k ≤ 12) (hl : ns ≠ [] → k ≤ ns.getD (ns.length - 1) 0) : Fall (ns ++ [k]) := by
  have e : [k].sum = k := by simp
  refine ⟨fun x hx => (List.mem_append.mp hx).elim (h.pos x) fun q => by rw [List.mem_singleton.mp q]; exact k1, by rw [List.sum_append, e]; exact hs, fun i hi => ?_⟩
  rw [List.length_append, List.length_singleton] at hi
  by_cases hin : i + 1 < ns.length
  · have := h.desc i hin
    rw [List.getD_eq_getElem?_getD, List.getD_eq_getElem?_getD, List.getElem?_append_left hin, List.getElem?_append_left (by omega), ← List.getD_eq_getElem?_getD, ← List.getD_eq_getElem?_getD]
    exact this
  · have en : i + 1 = ns.length := by omega
    have hne : ns ≠ [] := fun z => by rw [z] at en; simp at en
    have := hl hne
    rw [List.getD_eq_getElem?_getD, List.getD_eq_getElem?_getD, List.getElem?_append_right (by omega), List.getElem?_append_left (by omega), ← List.getD_eq_getElem?_getD (l := ns), en, Nat.sub_self]
    rw [show ns.length - 1 = i by omega] at this
    exact this
/-- a comprehension over numbers whose results stand in a relation to the turn -/
theorem lcRR {σ : L2.St} {H1 : Hp} {vs : List Nat} {g : TG} {tt : TT} {te : TE} {Q : VK} {lo : Int} {n : Nat} (sz : n < sizeLine) (R : Nat → V → Hp → Prop) (mono : ∀ i y H H', Keeps H H' → R i y H → R i y H')
    (body : ∀ (i : Nat) H', i < n → Ext H1 H' → ∀ (Qe : VK) (Qn : Hp → Prop), (∀ y H3, Ext H' H3 → R i y H3 → Qe y H3) →
      g (.int (lo + i)) (wipe σ vs) H' fun σ2 H2 => wipe σ2 vs = wipe σ vs ∧ tt σ2 H2 fun b H3 => if b = true then te σ2 H3 Qe else Qn H3)
    (k : ∀ H' D ys, Ext H1 H' → H1 D = none → H' D = some (.lst ys) → ys.length = n → (∀ i y, ys[i]? = some y → R i y H') → Q (.ref D) H') : LcG (Itr lo n) g tt te vs σ H1 Q := by
  refine fun D hD => lc_rel walk_range R (fun _ => true) (fun i y D ys H H' hd e r => mono i y H H' (keeps_but hd e) r) hD (fun H' e => True.intro) sz (fun i x H' H'' hi e hy Qe Qn he hn => ?_) (fun H' ys e hd hr => ?_)
  · obtain ⟨rfl, rfl⟩ := hy
    exact body i _ hi e Qe Qn fun y H3 e3 r => he y H3 e3 r rfl
  · rw [idx_all] at hr
    have hl := hr.1
    rw [List.length_range] at hl
    refine k H' D ys e hD hd hl.symm fun i y hy => hr.2 i i y ?_ hy
    rw [List.getElem?_range (by have := (List.getElem?_eq_some_iff.mp hy).1; omega)]
end
section
variable {P : Program} {w : World} {K : PySem.W.Frag} {mg : Str → Option Value} {base : Heap} {f : Addr} {fd : FuncData}
abbrev sKinds : Stmt := top 36
theorem scKinds : FnScope ["_law_size", "_law_found", "_law_waits", "_law_kind_here", "_law_left", "_law_most", "_law_number"] ["_law_size"] (defScope sKinds) := ⟨rfl, rfl, rfl, by decide +kernel, rfl, by decide +kernel, by decide +kernel⟩
def spKinds (K : PySem.W.Frag) : Sp := fun vs H Q _ => ∃ size : Nat, vs = [.int (size : Int)] ∧ size ≤ 12 ∧
  ∀ H' F fs, Ext H H' → H F = none → H' F = some (.lst fs) → fs ≠ [] → fs.length ≤ 4096 → (∀ f ∈ fs, KT K size H' f) → Q (.ref F) H'
def PvK (K : PySem.W.Frag) (size : Nat) (F W : Addr) (H0 : Hp) (m : Nat) : L2.St → Hp → Prop := fun σ H => ∃ (fs : List V) (ps : List (V × Nat)) (x y z : Option V),
  σ = [some (.int (size : Int)), some (.ref F), some (.ref W), x, y, z, none] ∧ m = (ps.map fun p => 2 ^ p.2).sum ∧ H F = some (.lst fs) ∧ H W = some (.lst (ps.map (·.1))) ∧ (∀ f ∈ fs, KT K size H f) ∧ (∀ p ∈ ps, WT K size H p.2 p.1) ∧
  fs.length + (ps.map fun p => 2 ^ p.2).sum ≤ 2 ^ size ∧ (fs ≠ [] ∨ ps ≠ []) ∧ (∀ b o, b ≠ F → b ≠ W → H0 b = some o → H b = some o)
theorem sh_row (ns : List Int) : SeqAt.shaped (.tuple (pdata ns)) = true := by
  have d : ∀ ns : List Int, PyData.depthAll (pdata ns) = 0 := fun ns => by
    induction ns with
    | nil => simp [pdata, PyData.depthAll]
    | cons n r ih =>
      unfold pdata at ih ⊢
      simp [PyData.depthAll, PyData.depth, ih]
  unfold SeqAt.shaped
  simp [PyData.canLay0, play, PyData.depth, d]
theorem g_seqP {i j : Nat} {ta : TA} {D : Ends} {σ : L2.St} {H : Hp} (k : ta σ H fun vs H1 => ∃ v w, vs = [v, w] ∧ D.nx ((σ.set i (some v)).set j (some w)) H1) : tPar i j ta D σ H := k
theorem ok_kinds (F : Fun K "_law_kinds" "_law_kinds" sKinds f fd) (T : Txt K mg) : FnOk P w K mg base CX0 1 f fd ["_law_size"] (spKinds K) := by
  refine F.ok scKinds (fun vs H Q E h => ?_) (fun cdv A outer s H vs Q E hr h => ?_)
  · obtain ⟨size, rfl, _⟩ := h
    rfl
  · obtain ⟨size, rfl, hsz, k⟩ := h
    refine ⟨_, pss_cons (ps_par (i := 1) (j := 2) (by rfl) scKinds.nd rfl rfl (by decide) rfl rfl (pa_cons (pe_lst pa_nil) (pa_cons (pe_lst (pa_cons (pe_tup (pa_cons (pe_tupX pa_nil) (pa_cons (pv 0) pa_nil))) pa_nil)) pa_nil)) (by rfl))
      (pss_cons (ps_while PassesOwn.never (pt_cmpR (op_neNil (Nat.lt_of_le_of_lt (Nat.le_add_right _ _) (lt66 hr))) (pv 2) (pe_lst pa_nil) (nomark _)) (pss_cons (ps_asg (pe_bm0 PySem.F.plainAttrs_list PySem.F.slot_list_pop PySem.F.type_list_pop mt_pop (pv 2)) (pg_tup rfl (pgs_cons (pg_name (i := 3) scKinds.nd rfl (Or.inr rfl)) (pgs_cons (pg_name (i := 4) scKinds.nd rfl (Or.inr rfl)) pgs_nil))))
      (pss_one (ps_if (pt_cmpR op_eq (pv 4) pe_int (nomark _)) (pss_one (ps_expr (pe_bm PySem.F.plainAttrs_list PySem.F.slot_list_append PySem.F.type_list_append mt_append (pv 1) (pa_cons (pv 3) pa_nil)))) (pss_cons (ps_set (i := 5) scKinds.nd rfl (Or.inl rfl) (pe_ifExp (pt_cmpR (op_neD hr.units) (pv 3) (pe_tupX pa_nil) (nomark _)) (pe_callB (call_min2 rfl) (by rfl) T.min (by decide +kernel) (pa_cons (pv 4) (pa_cons (pe_ix ix_tup (pv 3) (pe_un un_neg pe_int) (fun _ _ => rfl)) pa_nil))) (pv 4)))
      (pss_one (ps_expr (pe_bm PySem.F.plainAttrs_list PySem.F.slot_list_extend PySem.F.type_list_extend mt_extend (pv 2) (pa_cons (pe_lc (own := [("_law_number", 6)]) (g := gName 6) (tt := tYes) rfl scKinds.nd (pi_range2 (by rfl) T.range (pa_cons pe_int (pa_cons (pe_op op_add (pv 5) pe_int) pa_nil))) (blkOk_by (N := ["_law_size", "_law_found", "_law_waits", "_law_kind_here", "_law_left", "_law_most", "_law_number"]) (sc := defScope sKinds) (by decide +kernel)) (fun _ _ _ _ _ => pg_name (i := 6) scKinds.nd rfl (Or.inl rfl)) (fun _ _ _ _ _ => pts_nil) (fun _ _ _ _ _ => by exact (pe_tup (pa_cons (pe_op (r := rCatX K) op_catX (pv 3) (pe_tupX (pa_cons (pv 6) pa_nil))) (pa_cons (pe_op op_sub (pv 4) (pv 6)) pa_nil))))) pa_nil)))))))))
      (pss_one (ps_ret (pv 1)))), ?_⟩
    refine g_seqP ?_
    walk_at "rd"
    refine ⟨Nat.zero_le _, fun Fa hFa => ?_⟩
    walk_at "rd"
    refine g_tupX ?_
    walk_at "rd"
    refine ⟨Nat.zero_le _, fun a o ha ho => ?_⟩
    walk_at "rd"
    refine ⟨by show 2 ≤ sizeLine; decide, fun b hb => ?_⟩
    walk_at "rd"
    refine ⟨by show 1 ≤ sizeLine; decide, fun Wa hWa => ?_⟩
    walk_at "rd"
    refine ⟨_, _, rfl, ?_⟩
    have e1 : Ext H (upd H Fa (.lst [])) := Ext.new hFa
    have e2 := Ext.new (o := HO.frz o (.tup [])) ha
    have e3 := Ext.new (o := HO.tup [V.ref a, V.int (size : Int)]) hb
    have e4 := Ext.new (o := HO.lst [V.ref b]) hWa
    have t1 : TupX K (upd (upd H Fa (.lst [])) a (.frz o (.tup []))) a (([] : List Int).map V.int) := TupX.new ho
    have t2 := (t1.ext e3).ext e4
    have b2 := e4 _ _ (upd_same : upd (upd (upd H Fa (.lst [])) a (.frz o (.tup []))) b (HO.tup [V.ref a, V.int (size : Int)]) b = _)
    have f2 := e4 _ _ (e3 _ _ (e2 _ _ (upd_same : upd H Fa (.lst []) Fa = _)))
    have w2 : upd (upd (upd (upd H Fa (.lst [])) a (.frz o (.tup []))) b (HO.tup [V.ref a, V.int (size : Int)])) Wa (HO.lst [V.ref b]) Wa = some (.lst [V.ref b]) := upd_same
    have eall := Ext.trans e1 (Ext.trans e2 (Ext.trans e3 e4))
    have nFW : Fa ≠ Wa := ne_of_none (e3 _ _ (e2 _ _ (upd_same : upd H Fa (.lst []) Fa = _))) hWa
    have hW0 : H Wa = none := new_up (Ext.trans e1 (Ext.trans e2 e3)) hWa
    generalize upd (upd (upd (upd H Fa (.lst [])) a (.frz o (.tup []))) b (HO.tup [V.ref a, V.int (size : Int)])) Wa (HO.lst [V.ref b]) = H1 at t2 b2 f2 w2 eall ⊢
    walk_at "rd"
    refine ⟨PvK K size Fa Wa H, ⟨_, [], [(.ref b, size)], none, none, none, rfl, rfl, f2, w2, nofun, fun p hp => ?_, ?_, .inr (by simp), fun c u _ _ q => eall c u q⟩, ?_⟩
    · rw [List.mem_singleton.mp hp]
      exact ⟨b, a, [], rfl, b2, t2, fall_nil, by simp⟩
    · simp
    rintro m σ1 H2 ⟨fs, ps, x, y, z, rfl, rfl, hF, hW, hf, hw, hs, hne, hk⟩
    walk_at "rd"
    refine ⟨Nat.zero_le _, fun e he => ?_⟩
    walk_at "rd"
    have ee := Ext.new (o := HO.lst []) he
    refine ⟨Wa, e, _, rfl, rfl, SqL.of (ee _ _ hW), SqL.of upd_same, ?_⟩
    have hF3 := ee _ _ hF
    have hW3 := ee _ _ hW
    have hk3 : ∀ c u, c ≠ Fa → c ≠ Wa → H c = some u → upd H2 e (.lst []) c = some u := fun c u n1 n2 q => ee _ _ (hk c u n1 n2 q)
    have hf3 := fun f hf0 => (hf f hf0).keeps (Keeps.of ee)
    have hw3 := fun p hp => (hw p hp).keeps (Keeps.of ee)
    generalize upd H2 e (.lst []) = H3 at hF3 hW3 hk3 hf3 hw3 ⊢
    have hs12 : 2 ^ size ≤ 2 ^ 12 := Nat.pow_le_pow_right (by omega) hsz
    walk_at "rd"
    rcases List.eq_nil_or_concat ps with rfl | ⟨qs, ⟨v, l⟩, rfl⟩
    · refine iteF ?_
      walk_at "rd"
      refine k H3 Fa fs (fun c u q => hk3 c u (ne_of_none q hFa) (ne_of_none q hW0) q) hFa hF3 (hne.resolve_right (fun h => h rfl)) ?_ hf3
      have : (([] : List (V × Nat)).map fun p => 2 ^ p.2).sum = 0 := rfl
      rw [this] at hs
      have : (2 : Nat) ^ 12 = 4096 := by decide
      omega
    have hw0 := hw3 (v, l) (by simp)
    obtain ⟨b, a, ns, hv, hb, ht, hfl, hsum⟩ := hw0
    have hv : v = .ref b := hv
    subst hv
    have hb : H3 b = some (.tup [.ref a, .int (l : Int)]) := hb
    have hsum : ns.sum + (l : Int) = (size : Int) := hsum
    have nem : (!(((qs.concat (V.ref b, l)).map fun x => x.1).isEmpty)) = true := by
      rw [List.concat_eq_append, List.map_append]
      cases qs <;> rfl
    rw [nem]
    refine iteT ?_
    have esum : ((qs.concat (V.ref b, l)).map fun p => 2 ^ p.2).sum = (qs.map fun p => 2 ^ p.2).sum + 2 ^ l := by
      rw [List.concat_eq_append, List.map_append, List.sum_append]
      simp
    rw [esum] at hs ⊢
    have emap : (qs.concat (V.ref b, l)).map (fun x => x.1) = qs.map (fun x => x.1) ++ [.ref b] := by
      rw [List.concat_eq_append, List.map_append]
      rfl
    rw [emap] at hW3
    refine ⟨fun σ' H' => ∃ m', m' < (qs.map fun p => 2 ^ p.2).sum + 2 ^ l ∧ PvK K size Fa Wa H m' σ' H', fun _ _ q => q, ?_⟩
    walk_at "rd"
    refine ⟨.inl ⟨rfl, _, SqL.of hW3⟩, Wa, _, .ref b, rfl, rfl, hW3, by simp, ?_⟩
    rw [List.dropLast_concat]
    have kW := Keeps.up (ys := qs.map (fun x => x.1)) hW3
    have hF4 : upd H3 Wa (.lst (qs.map fun x => x.1)) Fa = some (.lst fs) := by
      rw [upd_ne nFW]
      exact hF3
    have hW4 : upd H3 Wa (.lst (qs.map fun x => x.1)) Wa = some (.lst (qs.map fun x => x.1)) := upd_same
    have hk4 : ∀ c u, c ≠ Fa → c ≠ Wa → H c = some u → upd H3 Wa (.lst (qs.map fun x => x.1)) c = some u := fun c u n1 n2 q => by
      rw [upd_ne n2]
      exact hk3 c u n1 n2 q
    have hf4 := fun f hf0 => (hf3 f hf0).keeps kW
    have hw4 : ∀ p ∈ qs, WT K size (upd H3 Wa (.lst (qs.map fun x => x.1))) p.2 p.1 := fun p hp => (hw3 p (by simp [hp])).keeps kW
    have hb4 := kW _ _ (fun _ z => by cases z) hb
    have ht4 := TupX.keeps kW ht
    generalize upd H3 Wa (.lst (qs.map fun x => x.1)) = H4 at hF4 hW4 hk4 hf4 hw4 hb4 ht4 ⊢
    refine ⟨b, _, rfl, SqT.of hb4, rfl, _, _, rfl, ?_⟩
    refine ⟨_, _, rfl, rfl, ?_⟩
    walk_at "rd"
    refine ite2 (fun hl => ?_) (fun hl => ?_)
    · have hl0 : l = 0 := by
        have := of_decide_eq_true hl
        omega
      subst hl0
      walk_at "rd"
      refine ⟨.inl ⟨rfl, _, SqL.of hF4⟩, ?_⟩
      walk_at "rd"
      have hlen := len_pow (qs.map fun p => p.2)
      rw [List.map_map, List.length_map] at hlen
      have h1 : (2 : Nat) ^ 0 = 1 := rfl
      refine ⟨Fa, fs, .ref a, rfl, rfl, hF4, by have : (4096 : Nat) < sizeLine := by decide
                                                have : (2 : Nat) ^ 12 = 4096 := by decide
                                                omega, ?_⟩
      have kF := Keeps.up (ys := fs ++ [.ref a]) hF4
      refine ⟨(qs.map fun p => 2 ^ p.2).sum, by omega, fs ++ [.ref a], qs, _, _, _, rfl, rfl, upd_same, ?_, fun f0 hf0 => ?_, fun p hp => (hw4 p hp).keeps kF, ?_, .inl (by simp), fun c u n1 n2 q => ?_⟩
      · rw [upd_ne (Ne.symm nFW)]
        exact hW4
      · rcases List.mem_append.mp hf0 with q | q
        · exact (hf4 f0 q).keeps kF
        · rw [List.mem_singleton.mp q]
          exact ⟨a, ns, rfl, TupX.keeps kF ht4, hfl, by omega⟩
      · rw [List.length_append, List.length_singleton]
        omega
      · rw [upd_ne n1]
        exact hk4 c u n1 n2 q
    · have hl0 : l ≠ 0 := fun z => hl (decide_eq_true (by rw [z]; rfl))
      walk_at "rd"
      refine g_tupX ?_
      walk_at "rd"
      refine ⟨Nat.zero_le _, fun u o2 hu ho2 => ?_⟩
      have e5 := Ext.new (o := HO.frz o2 (.tup [])) hu
      refine ⟨_, _, .tup (ht4.ext e5).sq (pdp ns), .tup (xs := ([] : List Int).map V.int) (TupX.new ho2).sq (pdp []), sh_row ns, sh_row [], ?_⟩
      have ene : PyData.eqv (.tuple (pdata ns)) (.tuple (pdata [])) = decide (ns = []) := by
        simp only [PyData.eqv, peqv]
      rw [ene]
      have hF5 := e5 _ _ hF4
      have hW5 := e5 _ _ hW4
      have hk5 : ∀ c v, c ≠ Fa → c ≠ Wa → H c = some v → upd H4 u (HO.frz o2 (.tup [])) c = some v := fun c v n1 n2 q => e5 _ _ (hk4 c v n1 n2 q)
      have hf5 := fun f0 hf0 => (hf4 f0 hf0).keeps (Keeps.of e5)
      have hw5 := fun p hp => (hw4 p hp).keeps (Keeps.of e5)
      have ht5 := ht4.ext e5
      generalize upd H4 u (HO.frz o2 (.tup [])) = H5 at hF5 hW5 hk5 hf5 hw5 ht5 ⊢
      obtain ⟨mo, m1, m2, m3, m4⟩ : ∃ mo : Nat, 1 ≤ mo ∧ mo ≤ l ∧ (ns ≠ [] → (mo : Int) ≤ ns.getD (ns.length - 1) 0) ∧ (mo : Int) = if ns = [] then (l : Int) else if ns.getD (ns.length - 1) 0 < (l : Int) then ns.getD (ns.length - 1) 0 else (l : Int) := by
        by_cases hn : ns = []
        · exact ⟨l, by omega, Nat.le_refl _, fun h => absurd hn h, by rw [if_pos hn]⟩
        · have hp := hfl.pos _ (getD_mem (i := ns.length - 1) (by have := List.length_pos_iff.mpr hn; omega))
          by_cases hc : ns.getD (ns.length - 1) 0 < (l : Int)
          · exact ⟨(ns.getD (ns.length - 1) 0).toNat, by omega, by omega, fun _ => by omega, by rw [if_neg hn, if_pos hc]; omega⟩
          · exact ⟨l, by omega, Nat.le_refl _, fun _ => by omega, by rw [if_neg hn, if_neg hc]⟩
      walk_at "rd"
      refine g_ifV (.int (mo : Int)) (fun h1 Q' q => ?_) (fun h1 Q' q => ?_) ?_
      · have hn : ns ≠ [] := fun z => by simp [z] at h1
        rw [if_neg hn] at m4
        walk_at "rd"
        refine g_ixT (v := .int (ns.getD (ns.length - 1) 0)) ht5.sq ?_ ?_
        · have hlen := List.length_pos_iff.mpr hn
          unfold atI ixN
          rw [List.length_map, if_neg (by decide), if_pos (by omega)]
          have : ((-1 : Int) + (ns.length : Int)).toNat = ns.length - 1 := by omega
          show (ns.map V.int)[((-1 : Int) + (ns.length : Int)).toNat]? = _
          rw [this]
          exact getI (by omega)
        · refine ⟨_, _, rfl, ?_⟩
          rw [← m4]
          exact q
      · have hn : ns = [] := by simpa using h1
        rw [if_pos hn] at m4
        walk_at "rd"
        rw [← m4]
        exact q
      walk_at "rd"
      refine ⟨.inl ⟨rfl, _, SqL.of hW5⟩, ?_⟩
      walk_at "rd"
      refine g_lc (g_rng2 ?_)
      walk_at "rd"
      have hl13 : (l : Int) ≤ 12 := by
        have := hfl.sum0
        omega
      refine ⟨⟨by decide, by decide, by omega, by omega⟩, ?_⟩
      have en : ((mo : Int) + 1 - 1).toNat = mo := by omega
      rw [en]
      refine lcRR (small (by omega)) (fun i y H => WT K size H (l - (i + 1)) y) (fun i y H H' e r => r.keeps e) (fun i H6 hi e6 Qe Qn he => ?_) (fun H6 D ys e6 hD hd hyl hyr => ?_)
      · refine ⟨rfl, ?_⟩
        walk_at "rd"
        refine g_tupX ?_
        walk_at "rd"
        refine ⟨by show 1 ≤ sizeLine; decide, fun c o3 hc ho3 => ?_⟩
        have e7 := Ext.new (o := HO.frz o3 (.tup [V.int (1 + (i : Int))])) hc
        have hfl' : Fall (ns ++ [1 + (i : Int)]) := fall_snoc hfl (by omega) (by omega) (fun hn => by have := m3 hn; omega)
        refine ⟨a, c, ns.map V.int, [V.int (1 + (i : Int))], rfl, rfl, (ht5.ext e6).ext e7, TupX.new ho3, ?_, fun H8 p e8 hp => ?_⟩
        · have := hfl'.len
          rw [List.length_append, List.length_singleton] at this
          rw [List.length_map, List.length_singleton]
          exact Nat.le_of_lt (small (by omega))
        walk_at "rd"
        refine ⟨by show 2 ≤ sizeLine; decide, fun q hq => ?_⟩
        have e9 := Ext.new (o := HO.tup [V.ref p, V.int ((l : Int) - (1 + (i : Int)))]) hq
        refine he _ _ (Ext.trans e7 (Ext.trans e8 e9)) ⟨q, p, ns ++ [1 + (i : Int)], rfl, ?_, ?_, hfl', ?_⟩
        · rw [upd_same]
          have : (l : Int) - (1 + (i : Int)) = ((l - (i + 1) : Nat) : Int) := by omega
          rw [this]
        · rw [List.map_append]
          exact hp.ext e9
        · rw [List.sum_append]
          have : [1 + (i : Int)].sum = 1 + (i : Int) := by simp
          rw [this]
          omega
      · walk_at "rd"
        have hlen := len_pow (qs.map fun p => p.2)
        rw [List.map_map, List.length_map] at hlen
        have hlen' : qs.length ≤ (qs.map fun p => 2 ^ p.2).sum := hlen
        have h12 : (2 : Nat) ^ 12 = 4096 := by decide
        refine ⟨Wa, D, _, ys, rfl, rfl, e6 _ _ hW5, hd, ?_, ?_⟩
        · rw [List.length_map, hyl]
          have : (5000 : Nat) < sizeLine := by decide
          have := Nat.one_le_two_pow (n := l)
          omega
        have kX := Keeps.up (ys := qs.map (fun x => x.1) ++ ys) (e6 _ _ hW5)
        have ksum := geo2 l mo m2
        have kpos := Nat.one_le_two_pow (n := l - mo)
        have ecs : (((List.range mo).map fun i => (ys.getD i V.non, l - (i + 1))).map fun p => 2 ^ p.2).sum = ((List.range mo).map fun i => 2 ^ (l - (i + 1))).sum := by
          rw [List.map_map]
          rfl
        have efs : ((List.range mo).map fun i => (ys.getD i V.non, l - (i + 1))).map (fun p => p.1) = ys := by
          rw [List.map_map]
          refine List.ext_getElem? fun j => ?_
          rw [List.getElem?_map]
          by_cases hj : j < mo
          · rw [List.getElem?_range hj]
            show some (ys.getD j V.non) = _
            rw [List.getD_eq_getElem?_getD, List.getElem?_eq_getElem (by omega)]
            rfl
          · rw [List.getElem?_eq_none (by rw [List.length_range]; omega), List.getElem?_eq_none (by omega)]
            rfl
        refine ⟨((qs ++ (List.range mo).map fun i => (ys.getD i V.non, l - (i + 1))).map fun p => 2 ^ p.2).sum, ?_, fs, qs ++ (List.range mo).map fun i => (ys.getD i V.non, l - (i + 1)), _, _, _, rfl, rfl, ?_, ?_, fun f0 hf0 => ((hf5 f0 hf0).keeps (Keeps.of e6)).keeps kX, fun p hp => ?_, ?_, .inr ?_, fun c v n1 n2 q => ?_⟩
        · rw [List.map_append, List.sum_append, ecs]
          omega
        · rw [upd_ne nFW]
          exact e6 _ _ hF5
        · rw [upd_same, List.map_append, efs]
        · rcases List.mem_append.mp hp with q | q
          · exact ((hw5 p q).keeps (Keeps.of e6)).keeps kX
          · obtain ⟨i, hi, rfl⟩ := List.mem_map.mp q
            have hi' : i < ys.length := by rw [hyl]; exact List.mem_range.mp hi
            have := hyr i ys[i] (List.getElem?_eq_getElem hi')
            have eg : ys.getD i V.non = ys[i] := by
              rw [List.getD_eq_getElem?_getD, List.getElem?_eq_getElem hi']
              rfl
            show WT K size _ (l - (i + 1)) (ys.getD i V.non)
            rw [eg]
            exact this.keeps kX
        · rw [List.map_append, List.sum_append, ecs]
          omega
        · intro hnil
          have := congrArg List.length hnil
          rw [List.length_append, List.length_map, List.length_range] at this
          simp at this
          omega
        · rw [upd_ne n2]
          exact e6 _ _ (hk5 c v n1 n2 q)
end
end Q0

set_option Elab.async false
set_option linter.all false
set_option maxRecDepth 100000
set_option maxHeartbeats 4000000
/-! The law's own defs about kinds. -/
namespace Q0
open PySem PySem.Spec PyProof.Rows L2 Gd
local macro_rules | `(tactic| walk_at "rd1") => `(tactic| first | with_reducible refine g_ret ?_ | with_reducible refine g_retN ?_ | with_reducible refine g_seq ?_ | with_reducible refine g_next ?_ | with_reducible refine g_drop ?_ | with_reducible refine g_asg ?_ | with_reducible refine g_name ?_ | with_reducible refine g_ifs ?_ | with_reducible refine g_test ?_ | with_reducible refine g_tb ?_ | with_reducible refine g_and ?_ | with_reducible refine g_or ?_ | with_reducible refine g_not ?_ | with_reducible refine g_andV ?_ | with_reducible refine g_orV ?_ | with_reducible refine g_notV ?_ | with_reducible refine g_if ?_ | with_reducible refine g_op ?_ | with_reducible refine g_un ?_ | with_reducible refine g_cb ?_ | with_reducible refine g_nil ?_ | with_reducible refine g_cons ?_ | with_reducible refine g_call ?_ | with_reducible refine g_callS ?_ | with_reducible refine g_tup ?_ | with_reducible refine g_lst ?_ | with_reducible refine g_isN ?_ | with_reducible refine g_sl ?_ | with_reducible refine g_nopart ?_ | with_reducible refine g_part ?_ | with_reducible refine g_chain ?_ | with_reducible refine g_fld ?_ | with_reducible refine g_prop ?_ | with_reducible refine g_bm ?_ | with_reducible refine g_bm0 ?_ | with_reducible refine g_c ?_ | with_reducible refine g_sub ?_ | with_reducible refine g_int1 ?_ | with_reducible refine g_int2 ?_ | with_reducible refine g_yes ?_ | with_reducible refine g_sfld ?_ | with_reducible refine g_NT ?_ | with_reducible refine g_NF ?_ | with_reducible refine iteT ?_ | with_reducible refine iteF ?_ | ((with_reducible refine' g_aug ?hv ?_); (case hv => exact rfl)) | ((with_reducible refine' g_var ?hv ?_); (case hv => exact rfl)) | with_reducible refine g_I0 ?_ | with_reducible refine g_U ?_ | with_reducible refine g_eqI ?_ | with_reducible refine g_blV ?_ | with_reducible refine g_inV ?_)
local macro_rules | `(tactic| walk_at "rd") => `(tactic| repeat walk_at "rd1")
section
variable {P : Program} {w : World} {K : PySem.W.Frag} {mg : Str → Option Value} {base : Heap} {f : Addr} {fd : FuncData}
/-! ### a drawn kind -/
abbrev sKind : Stmt := top 37
theorem scKind : FnScope ["_law_dice_here", "_law_most"] ["_law_dice_here", "_law_most"] (defScope sKind) := ⟨rfl, rfl, rfl, by decide +kernel, rfl, by decide +kernel, by decide +kernel⟩
def spKind (K : PySem.W.Frag) : Sp := fun vs H Q _ => ∃ (d : Addr) (most : Int), vs = [.ref d, .int most] ∧ DiceAt H d ∧ 0 ≤ most ∧ most ≤ 12 ∧
  ∀ H' a ns, ExtBut d H H' → DiceAt H' d → TupX K H' a (ns.map V.int) → Fall ns → ns.sum ≤ most → Q (.ref a) H'
theorem ok_kind (F : Fun K "_law_kind" "_law_kind" sKind f fd) (Ro : Def1 P w K mg base CX0 1 "_law_roll" ["_law_dice_here", "_law_total"] spRoll) (Ks : Def1 P w K mg base CX0 1 "_law_kinds" ["_law_size"] (spKinds K))
    (Pi : Def1 P w K mg base CX0 2 "_law_pick" ["_law_dice_here", "_law_items"] (spPick K)) : FnOk P w K mg base CX0 3 f fd ["_law_dice_here", "_law_most"] (spKind K) := by
  refine F.ok scKind (fun vs H Q E h => ?_) (fun cdv A outer s H vs Q E hr h => ?_)
  · obtain ⟨d, most, rfl, _⟩ := h
    rfl
  · obtain ⟨d, most, rfl, hd, h0, h1, k⟩ := h
    refine ⟨_, pss_one (ps_ret (pe_def Pi hr (by decide) (by rfl) (pa_cons (pv 0) (pa_cons (pe_def Ks hr (by decide) (by rfl) (pa_cons (pe_def Ro hr (by decide) (by rfl) (pa_cons (pv 0) (pa_cons (pe_op op_add (pv 1) pe_int) pa_nil))) pa_nil)) pa_nil)))), ?_⟩
    walk_at "rd"
    have big : (13 : Int) < 2 ^ 1000 := by decide +kernel
    refine ⟨d, most + 1, rfl, hd, by omega, by omega, fun H1 r e1 d1 r0 r1 => ?_⟩
    walk_at "rd"
    have er : r = (r.toNat : Int) := by omega
    refine ⟨r.toNat, (by rw [← er]; rfl), by omega, fun H2 Fa fs e2 hFa hF hne hl hf => ?_⟩
    walk_at "rd"
    have hlen := List.length_pos_iff.mpr hne
    refine ⟨d, Fa, fs, rfl, d1.ext e2, SqL.of hF, dice_none d1 hFa, hlen, by omega, fun H3 x e3 d3 hx => ?_⟩
    obtain ⟨a, ns, rfl, ht, hfl, hs⟩ := hf x hx
    obtain ⟨q1, q2, q3, hdq, _⟩ := d1.ext e2
    have ht3 := TupX.keeps (keeps_but (.inr hdq) e3) ht
    exact k H3 a ns (ExtBut.trans e1 (ExtBut.trans (ExtBut.of e2) e3)) d3 ht3 hfl (by omega)
/-! ### turned -/
abbrev sLTurned : Stmt := top 38
theorem scLTurned : FnScope ["_law_kind_here", "_law_at", "_law_number"] ["_law_kind_here"] (defScope sLTurned) := ⟨rfl, rfl, rfl, by decide +kernel, rfl, by decide +kernel, by decide +kernel⟩
def spLTurned (K : PySem.W.Frag) : Sp := fun vs H Q _ => ∃ (a : Addr) (ns : List Int), vs = [.ref a] ∧ TupX K H a (ns.map V.int) ∧ Fall ns ∧ ∀ H' u, Ext H H' → TupX K H' u ((turnM ns).map V.int) → Q (.ref u) H'
theorem ok_lturned (F : Fun K "_law_turned" "_law_turned" sLTurned f fd) (T : Txt K mg) : FnOk P w K mg base CX0 1 f fd ["_law_kind_here"] (spLTurned K) := by
  refine F.ok scLTurned (fun vs H Q E h => ?_) (fun cdv A outer s H vs Q E hr h => ?_)
  · obtain ⟨a, ns, rfl, _⟩ := h
    rfl
  · obtain ⟨a, ns, rfl, hs, hF, k⟩ := h
    refine ⟨_, pss_one (ps_ret (pe_callTy call_tupX (by rfl) T.tuple (by decide +kernel) (pa_cons (pe_lc (own := [("_law_at", 1)]) (g := gName 1) (tt := tYes) rfl scLTurned.nd (pi_range1 (by rfl) T.range (pa_cons (pe_callB (cr_maxT rfl) (by rfl) T.max (by decide +kernel) (pa_cons (pe_op op_catX (pe_tupX (pa_cons pe_int pa_nil)) (pv 0)) pa_nil)) pa_nil)) (blkOk_by (N := ["_law_kind_here", "_law_at", "_law_number"]) (sc := defScope sLTurned) (by decide +kernel)) (fun _ _ _ _ _ => pg_name (i := 1) scLTurned.nd rfl (Or.inr rfl)) (fun _ _ _ _ _ => pts_nil) (fun _ _ _ _ _ => by exact (pe_callB (r := rLenS K) call_len_seq (by rfl) T.len PySem.boot_len (pa_cons (pe_lc (own := [("_law_number", 2)]) (wi := iTup K (tVar 0)) (g := gName 2) rfl scLTurned.nd (by exact (pi_tup (pv 0))) (blkOk_by (N := ["_law_kind_here", "_law_at", "_law_number"]) (sc := { kind := .function, names := [((".0" : Str), .local), ("_law_at", .cell), ("len", .globalImplicit), ("_law_kind_here", .cell)], isGenerator := false, isCoroutine := false, more := [] }) (by decide +kernel)) (fun _ _ _ _ _ => pg_name (i := 2) scLTurned.nd rfl (Or.inl rfl)) (fun _ _ _ _ _ => pts_one (pt_cmpR op_gt (pv 2) (pv 1) (nomark _))) (fun _ _ _ _ _ => by exact (pv 2))) pa_nil)))) pa_nil))), ?_⟩
    have hlen := hF.len
    have h0 := hF.at 0
    walk_at "rd"
    refine g_lc (g_rng1 ?_)
    walk_at "rd"
    refine g_tupX ?_
    walk_at "rd"
    refine ⟨by show 1 ≤ sizeLine; decide, fun z o hz ho => ?_⟩
    have ez := Ext.new (o := HO.frz o (.tup [V.int 0])) hz
    walk_at "rd"
    refine ⟨z, a, [V.int 0], _, rfl, rfl, TupX.new ho, hs.ext ez, by rw [List.length_map, List.length_singleton]; exact Nat.le_of_lt (small (by omega)), fun H1 p e1 hp => ?_⟩
    walk_at "rd"
    have hp' : SqT K H1 p ((0 :: ns).map V.int) := hp.sq
    refine ⟨p, 0 :: ns, rfl, hp', by simp, fun m hm hall => ?_⟩
    have em : m = ns.getD 0 0 := by
      refine Int.le_antisymm ?_ ?_
      · rcases List.mem_cons.mp hm with e | e
        · rw [e]
          exact h0.1
        · exact hF.head m e
      · by_cases hn : ns = []
        · rw [hn]
          exact hall 0 List.mem_cons_self
        · exact hall _ (List.mem_cons_of_mem _ (head_mem hF hn))
    subst em
    have e1' := Ext.trans ez e1
    walk_at "rd"
    refine ⟨by omega, by omega, lcR (small (by omega)) (fun _ => true) (fun i => .int ((ns.filter fun x => decide ((i : Int) < x)).length : Int)) (fun i H' hi e Qe Qn he hn => ?_) (fun H' D e hD hd => ?_)⟩
    · rw [Int.zero_add]
      refine ⟨rfl, ?_⟩
      walk_at "rd"
      refine g_lc (g_itup ?_)
      walk_at "rd"
      refine lcT ((hs.ext e1').ext e).sq (small (by rw [List.length_map]; omega)) (gtI i) id (fun x H2 hx e2 Qe2 Qn2 he2 hn2 => ?_) (fun H2 D2 e2 hD2 hd2 => ?_)
      · obtain ⟨n, hn, rfl⟩ := List.mem_map.mp hx
        refine ⟨rfl, ?_⟩
        walk_at "rd"
        refine ite2 (fun h1 => ?_) (fun h1 => ?_)
        · walk_at "rd"
          exact he2 _ (fun _ _ z => z) (by show decide _ = true; simpa using h1)
        · refine hn2 _ (fun _ _ z => z) (by show decide _ = false; simpa using h1)
      · walk_at "rd"
        refine ⟨D2, _, rfl, .inl (SqL.of hd2), ?_⟩
        walk_at "rd"
        rw [List.length_map, filter_gtI]
        exact he _ e2 rfl
    · rw [idx_all] at hd
      walk_at "rd"
      refine ⟨D, _, rfl, .inl ⟨SqL.of hd, fun l o hl ho => ?_⟩⟩
      refine k _ l (Ext.trans e1' (Ext.trans e (Ext.new hl))) ?_
      unfold turnM
      rw [List.map_map]
      exact TupX.new ho
end
end Q0

set_option Elab.async false
set_option linter.all false
set_option maxRecDepth 100000
set_option maxHeartbeats 4000000
/-! The law's own defs: held, topped, put together, added up. -/
namespace Q0
open PySem PySem.Spec PyProof.Rows L2 Gd
local macro_rules | `(tactic| walk_at "rd1") => `(tactic| first | with_reducible refine g_ret ?_ | with_reducible refine g_retN ?_ | with_reducible refine g_seq ?_ | with_reducible refine g_next ?_ | with_reducible refine g_drop ?_ | with_reducible refine g_asg ?_ | with_reducible refine g_name ?_ | with_reducible refine g_ifs ?_ | with_reducible refine g_test ?_ | with_reducible refine g_tb ?_ | with_reducible refine g_and ?_ | with_reducible refine g_or ?_ | with_reducible refine g_not ?_ | with_reducible refine g_andV ?_ | with_reducible refine g_orV ?_ | with_reducible refine g_notV ?_ | with_reducible refine g_if ?_ | with_reducible refine g_op ?_ | with_reducible refine g_un ?_ | with_reducible refine g_cb ?_ | with_reducible refine g_nil ?_ | with_reducible refine g_cons ?_ | with_reducible refine g_call ?_ | with_reducible refine g_callS ?_ | with_reducible refine g_tup ?_ | with_reducible refine g_lst ?_ | with_reducible refine g_isN ?_ | with_reducible refine g_sl ?_ | with_reducible refine g_nopart ?_ | with_reducible refine g_part ?_ | with_reducible refine g_chain ?_ | with_reducible refine g_fld ?_ | with_reducible refine g_prop ?_ | with_reducible refine g_bm ?_ | with_reducible refine g_bm0 ?_ | with_reducible refine g_c ?_ | with_reducible refine g_sub ?_ | with_reducible refine g_int1 ?_ | with_reducible refine g_int2 ?_ | with_reducible refine g_yes ?_ | with_reducible refine g_sfld ?_ | with_reducible refine g_NT ?_ | with_reducible refine g_NF ?_ | with_reducible refine iteT ?_ | with_reducible refine iteF ?_ | ((with_reducible refine' g_aug ?hv ?_); (case hv => exact rfl)) | ((with_reducible refine' g_var ?hv ?_); (case hv => exact rfl)) | with_reducible refine g_I0 ?_ | with_reducible refine g_U ?_ | with_reducible refine g_eqI ?_ | with_reducible refine g_blV ?_ | with_reducible refine g_inV ?_)
local macro_rules | `(tactic| walk_at "rd") => `(tactic| repeat walk_at "rd1")
section
variable {P : Program} {w : World} {K : PySem.W.Frag} {mg : Str → Option Value} {base : Heap} {f : Addr} {fd : FuncData}
theorem g_revL {te : TE} {σ : L2.St} {H : Hp} {Q : VK} (k : te σ H fun x H1 => ∃ a xs, x = .ref a ∧ SqL K H1 a xs ∧ ∀ p, H1 p = none → Q (.ref p) (upd H1 p (.lst xs.reverse))) : tRevL K te σ H Q := k
/-! ### held -/
abbrev sDoesHold : Stmt := top 39
theorem scDoesHold : FnScope ["_law_kind_here", "_law_other", "_law_one", "_law_two"] ["_law_kind_here", "_law_other"] (defScope sDoesHold) := ⟨rfl, rfl, rfl, by decide +kernel, rfl, by decide +kernel, by decide +kernel⟩
def gtV : V → V → Bool := fun x y => match x, y with
  | .int n, .int m => decide (m < n)
  | _, _ => false
def spDoesHold (K : PySem.W.Frag) : Sp := fun vs H Q _ => ∃ (a b : Addr) (ns ms : List Int), vs = [.ref a, .ref b] ∧ SqT K H a (ns.map V.int) ∧ SqT K H b (ms.map V.int) ∧ Fall ns ∧ Fall ms ∧ ∀ H', Ext H H' → Q (.bl (heldM ms ns)) H'
theorem held_empty (ns ms : List Int) : ((((ms.map V.int).zip (ns.map V.int)).filter fun p => gtV p.1 p.2).map fun _ => V.int 1).isEmpty = (ms.zip ns).all fun p => decide (p.1 ≤ p.2) := by
  rw [List.isEmpty_map, List.zip_map, List.filter_map, List.isEmpty_map]
  induction ms.zip ns with
  | nil => rfl
  | cons p r ih =>
    rw [List.filter_cons, List.all_cons]
    show List.isEmpty (if (gtV (.int p.1) (.int p.2)) = true then _ else _) = _
    by_cases h : p.2 < p.1
    · rw [if_pos (show gtV (.int p.1) (.int p.2) = true from decide_eq_true h), decide_eq_false (by omega)]
      rfl
    · rw [if_neg (show ¬ gtV (.int p.1) (.int p.2) = true from fun z => h (of_decide_eq_true z)), decide_eq_true (show p.1 ≤ p.2 by omega), Bool.true_and]
      exact ih
theorem ok_doesHold (F : Fun K "_law_does_hold" "_law_does_hold" sDoesHold f fd) (T : Txt K mg) : FnOk P w K mg base CX0 1 f fd ["_law_kind_here", "_law_other"] (spDoesHold K) := by
  refine F.ok scDoesHold (fun vs H Q E h => ?_) (fun cdv A outer s H vs Q E hr h => ?_)
  · obtain ⟨a, b, ns, ms, rfl, _⟩ := h
    rfl
  · obtain ⟨a, b, ns, ms, rfl, hs, ht, hF, hG, k⟩ := h
    refine ⟨_, pss_one (ps_ret (pe_and (pe_cmpR op_le (pe_callB call_len_seq (by rfl) T.len PySem.boot_len (pa_cons (pv 1) pa_nil)) (pe_callB call_len_seq (by rfl) T.len PySem.boot_len (pa_cons (pv 0) pa_nil)) (nomark _)) (pe_one (pe_cmpR (op_eqNil (Nat.lt_of_le_of_lt (Nat.le_add_right _ _) (lt66 hr))) (pe_lc (own := [("_law_one", 2), ("_law_two", 3)]) (g := gTup K 2 (gCons (gName 2) (gCons (gName 3) gNil))) rfl scDoesHold.nd (pi_zipE (by rfl) T.zip (pa_cons (pv 1) (pa_cons (pv 0) pa_nil))) (blkOk_by (N := ["_law_kind_here", "_law_other", "_law_one", "_law_two"]) (sc := defScope sDoesHold) (by decide +kernel)) (fun _ _ _ _ _ => pg_tup rfl (pgs_cons (pg_name (i := 2) scDoesHold.nd rfl (Or.inl rfl)) (pgs_cons (pg_name (i := 3) scDoesHold.nd rfl (Or.inl rfl)) pgs_nil))) (fun _ _ _ _ _ => pts_one (pt_cmpR op_gt (pv 2) (pv 3) (nomark _))) (fun _ _ _ _ _ => pe_int)) (pe_lst pa_nil) (nomark _))))), ?_⟩
    have hlen := hF.len
    walk_at "rd"
    refine ⟨b, _, rfl, .inr ht, ?_⟩
    walk_at "rd"
    refine ⟨a, _, rfl, .inr hs, ?_⟩
    walk_at "rd"
    rw [List.length_map, List.length_map]
    refine ite2 (fun h1 => ?_) (fun h1 => ?_)
    · have h2 := of_decide_eq_true h1
      walk_at "rd"
      refine g_lc ?_
      unfold iZipE
      walk_at "rd"
      refine lcZ (l1 := false) (l2 := false) ht hs (small (by rw [List.length_map, List.length_map]; omega)) gtV (fun _ _ => .int 1) (fun x y H' hxy e Qe Qn he hn => ?_) (fun H' D e hD hd => ?_)
      · rw [List.zip_map] at hxy
        obtain ⟨⟨n, m⟩, hnm, e1⟩ := List.mem_map.mp hxy
        cases e1
        refine ⟨rfl, ?_⟩
        walk_at "rd"
        refine ite2 (fun h3 => ?_) (fun h3 => ?_)
        · walk_at "rd"
          exact he _ (fun _ _ z => z) h3
        · exact hn _ (fun _ _ z => z) (by show decide _ = false; simpa using h3)
      · walk_at "rd"
        refine ⟨Nat.zero_le _, fun z hz => ?_⟩
        have ez := Ext.new (o := HO.lst []) hz
        refine ⟨D, z, _, rfl, rfl, SqL.of (ez _ _ hd), SqL.of upd_same, ?_⟩
        rw [held_empty]
        have e1 : heldM ms ns = (ms.zip ns).all fun p => decide (p.1 ≤ p.2) := by
          unfold heldM
          rw [decide_eq_true (show ms.length ≤ ns.length by omega), Bool.true_and]
        rw [← e1]
        exact k _ (Ext.trans e ez)
    · have h2 : ¬ ms.length ≤ ns.length := fun z => h1 (decide_eq_true (by omega))
      have e1 : heldM ms ns = false := by
        unfold heldM
        rw [decide_eq_false h2]
        rfl
      walk_at "rd"
      rw [← e1]
      exact k H (fun _ _ z => z)
/-! ### topped -/
abbrev sDoesTop : Stmt := top 40
theorem scDoesTop : FnScope ["_law_kind_here", "_law_other", "_law_many"] ["_law_kind_here", "_law_other"] (defScope sDoesTop) := ⟨rfl, rfl, rfl, by decide +kernel, rfl, by decide +kernel, by decide +kernel⟩
def spDoesTop (K : PySem.W.Frag) : Sp := fun vs H Q _ => ∃ (a b : Addr) (ns ms : List Int), vs = [.ref a, .ref b] ∧ SqT K H a (ns.map V.int) ∧ SqT K H b (ms.map V.int) ∧ ∀ H', Ext H H' → Q (.bl (dtopM ns ms)) H'
theorem idx_empty (c : Nat → Bool) (g : Nat → V) (n : Nat) : ((idx c n).map g).isEmpty = (List.range n).all fun i => !c i := by
  rw [List.isEmpty_map]
  unfold idx
  induction List.range n with
  | nil => rfl
  | cons i r ih =>
    rw [List.filter_cons, List.all_cons]
    cases c i
    · exact ih
    · rfl
theorem ok_doesTop (F : Fun K "_law_does_top" "_law_does_top" sDoesTop f fd) (T : Txt K mg) : FnOk P w K mg base CX0 1 f fd ["_law_kind_here", "_law_other"] (spDoesTop K) := by
  refine F.ok scDoesTop (fun vs H Q E h => ?_) (fun cdv A outer s H vs Q E hr h => ?_)
  · obtain ⟨a, b, ns, ms, rfl, _⟩ := h
    rfl
  · obtain ⟨a, b, ns, ms, rfl, hs, ht, k⟩ := h
    refine ⟨_, pss_one (ps_ret (pe_cmpR (op_eqNil (Nat.lt_of_le_of_lt (Nat.le_add_right _ _) (lt66 hr))) (pe_lc (own := [("_law_many", 2)]) (g := gName 2) rfl scDoesTop.nd (pi_range2 (by rfl) T.range (pa_cons pe_int (pa_cons pe_int pa_nil))) (blkOk_by (N := ["_law_kind_here", "_law_other", "_law_many"]) (sc := defScope sDoesTop) (by decide +kernel)) (fun _ _ _ _ _ => pg_name (i := 2) scDoesTop.nd rfl (Or.inl rfl)) (fun _ _ _ _ _ => pts_one (pt_cmpR op_lt (pe_callB (r := rSumS K) (call_sumS rfl) (by rfl) T.sum (by decide +kernel) (pa_cons (pe_slice (r := rSlA K) sl_tupA (pv 0) po_none (po_some (pv 2))) pa_nil)) (pe_callB (r := rSumS K) (call_sumS rfl) (by rfl) T.sum (by decide +kernel) (pa_cons (pe_slice (r := rSlA K) sl_tupA (pv 1) po_none (po_some (pv 2))) pa_nil)) (nomark _))) (fun _ _ _ _ _ => by exact (pv 2))) (pe_lst pa_nil) (nomark _))), ?_⟩
    walk_at "rd"
    refine g_lc (g_rng2 ?_)
    walk_at "rd"
    refine ⟨⟨by decide, by decide, by decide, by decide⟩, ?_⟩
    refine lcR (n := 12) (small (by omega)) (fun i => decide ((ns.take (i + 1)).sum < (ms.take (i + 1)).sum)) (fun i => .int (1 + (i : Int))) (fun i H' hi e Qe Qn he hn => ?_) (fun H' D e hD hd => ?_)
    · have ei : (1 + (i : Int)) = ((i + 1 : Nat) : Int) := by omega
      rw [ei] at he ⊢
      refine ⟨rfl, ?_⟩
      walk_at "rd"
      refine g_takeT (sqT_ext e hs) fun H2 p e2 hp => ?_
      walk_at "rd"
      refine ⟨p, _, rfl, .inr hp, ?_⟩
      walk_at "rd"
      refine g_takeT (sqT_ext e2 (sqT_ext e ht)) fun H3 q e3 hq => ?_
      walk_at "rd"
      refine ⟨q, _, rfl, .inr hq, ?_⟩
      walk_at "rd"
      refine ite2 (fun h3 => ?_) (fun h3 => ?_)
      · walk_at "rd"
        exact he _ (Ext.trans e2 e3) h3
      · exact hn _ (Ext.trans e2 e3) (by simpa using h3)
    · walk_at "rd"
      refine ⟨Nat.zero_le _, fun z hz => ?_⟩
      have ez := Ext.new (o := HO.lst []) hz
      refine ⟨D, z, _, rfl, rfl, SqL.of (ez _ _ hd), SqL.of upd_same, ?_⟩
      rw [idx_empty]
      exact k _ (Ext.trans e ez)
/-! ### put together -/
abbrev sPut : Stmt := top 41
theorem scPut : FnScope ["_law_one", "_law_other"] ["_law_one", "_law_other"] (defScope sPut) := ⟨rfl, rfl, rfl, by decide +kernel, rfl, by decide +kernel, by decide +kernel⟩
def spPut (K : PySem.W.Frag) : Sp := fun vs H Q _ => ∃ (a b : Addr) (ns ms : List Int), vs = [.ref a, .ref b] ∧ SqT K H a (ns.map V.int) ∧ SqT K H b (ms.map V.int) ∧ Fall ns ∧ Fall ms ∧ ∀ H' u, Ext H H' → TupX K H' u ((joinM ns ms).map V.int) → Q (.ref u) H'
theorem ok_put (F : Fun K "_law_put_together" "_law_put_together" sPut f fd) (T : Txt K mg) : FnOk P w K mg base CX0 1 f fd ["_law_one", "_law_other"] (spPut K) := by
  refine F.ok scPut (fun vs H Q E h => ?_) (fun cdv A outer s H vs Q E hr h => ?_)
  · obtain ⟨a, b, ns, ms, rfl, _⟩ := h
    rfl
  · obtain ⟨a, b, ns, ms, rfl, hs, ht, hF, hG, k⟩ := h
    refine ⟨_, pss_one (ps_ret (pe_callTy call_tupX (by rfl) T.tuple (by decide +kernel) (pa_cons (pe_revL (pe_callB cr_sortedI (by rfl) T.sorted (by decide +kernel) (pa_cons (pe_op op_cat (pe_callTy call_list_of (by rfl) T.list (by decide +kernel) (pa_cons (pv 0) pa_nil)) (pe_callTy call_list_of (by rfl) T.list (by decide +kernel) (pa_cons (pv 1) pa_nil))) pa_nil))) pa_nil))), ?_⟩
    have hl1 := hF.len
    have hl2 := hG.len
    walk_at "rd"
    refine g_revL ?_
    walk_at "rd"
    refine ⟨a, _, rfl, .inr hs, fun l1 hl10 => ?_⟩
    walk_at "rd"
    have e1 := Ext.new (o := HO.lst (ns.map V.int)) hl10
    refine ⟨b, _, rfl, .inr (sqT_ext e1 ht), fun l2 hl20 => ?_⟩
    have e2 := Ext.new (o := HO.lst (ms.map V.int)) hl20
    walk_at "rd"
    refine ⟨l1, l2, _, _, rfl, rfl, e2 _ _ upd_same, upd_same, ?_, fun l3 hl30 => ?_⟩
    · rw [List.length_map, List.length_map]
      exact Nat.le_of_lt (small (by omega))
    walk_at "rd"
    have e3 := Ext.new (o := HO.lst (ns.map V.int ++ ms.map V.int)) hl30
    refine ⟨l3, ns ++ ms, rfl, SqL.of (by rw [upd_same, List.map_append]), fun zs p hperm hpw hp0 => ?_⟩
    walk_at "rd"
    have e4 := Ext.new (o := HO.lst (zs.map V.int)) hp0
    refine ⟨p, _, rfl, SqL.of upd_same, fun q hq => ?_⟩
    walk_at "rd"
    have e5 := Ext.new (o := HO.lst (zs.map V.int).reverse) hq
    refine ⟨q, _, rfl, .inl ⟨SqL.of upd_same, fun u o hu ho => ?_⟩⟩
    have e6 := Ext.new (o := HO.frz o (.tup (zs.map V.int).reverse)) hu
    have ez : zs.reverse = joinM ns ms := join_is hF hG ((List.reverse_perm zs).trans hperm) (List.pairwise_reverse.mpr hpw)
    refine k _ u (Ext.trans e1 (Ext.trans e2 (Ext.trans e3 (Ext.trans e4 (Ext.trans e5 e6))))) ?_
    rw [← ez, List.map_reverse]
    exact TupX.new ho
end
end Q0

set_option Elab.async false
set_option linter.all false
set_option maxRecDepth 100000
set_option maxHeartbeats 4000000
/-! The law's own def: added up. -/
namespace Q0
open PySem PySem.Spec PyProof.Rows L2 Gd
local macro_rules | `(tactic| walk_at "rd1") => `(tactic| first | with_reducible refine g_ret ?_ | with_reducible refine g_retN ?_ | with_reducible refine g_seq ?_ | with_reducible refine g_next ?_ | with_reducible refine g_drop ?_ | with_reducible refine g_asg ?_ | with_reducible refine g_name ?_ | with_reducible refine g_ifs ?_ | with_reducible refine g_test ?_ | with_reducible refine g_tb ?_ | with_reducible refine g_and ?_ | with_reducible refine g_or ?_ | with_reducible refine g_not ?_ | with_reducible refine g_andV ?_ | with_reducible refine g_orV ?_ | with_reducible refine g_notV ?_ | with_reducible refine g_if ?_ | with_reducible refine g_op ?_ | with_reducible refine g_un ?_ | with_reducible refine g_cb ?_ | with_reducible refine g_nil ?_ | with_reducible refine g_cons ?_ | with_reducible refine g_call ?_ | with_reducible refine g_callS ?_ | with_reducible refine g_tup ?_ | with_reducible refine g_lst ?_ | with_reducible refine g_isN ?_ | with_reducible refine g_sl ?_ | with_reducible refine g_nopart ?_ | with_reducible refine g_part ?_ | with_reducible refine g_chain ?_ | with_reducible refine g_fld ?_ | with_reducible refine g_prop ?_ | with_reducible refine g_bm ?_ | with_reducible refine g_bm0 ?_ | with_reducible refine g_c ?_ | with_reducible refine g_sub ?_ | with_reducible refine g_int1 ?_ | with_reducible refine g_int2 ?_ | with_reducible refine g_yes ?_ | with_reducible refine g_sfld ?_ | with_reducible refine g_NT ?_ | with_reducible refine g_NF ?_ | with_reducible refine iteT ?_ | with_reducible refine iteF ?_ | ((with_reducible refine' g_aug ?hv ?_); (case hv => exact rfl)) | ((with_reducible refine' g_var ?hv ?_); (case hv => exact rfl)) | with_reducible refine g_I0 ?_ | with_reducible refine g_U ?_ | with_reducible refine g_eqI ?_ | with_reducible refine g_blV ?_ | with_reducible refine g_inV ?_)
local macro_rules | `(tactic| walk_at "rd") => `(tactic| repeat walk_at "rd1")
section
variable {P : Program} {w : World} {K : PySem.W.Frag} {mg : Str → Option Value} {base : Heap} {f : Addr} {fd : FuncData}
abbrev sAddUp : Stmt := top 42
theorem scAddUp : FnScope ["_law_one", "_law_other", "_law_wide", "_law_rows", "_law_row", "_law_turn", "_law_left", "_law_right_here"] ["_law_one", "_law_other"] (defScope sAddUp) := ⟨rfl, rfl, rfl, by decide +kernel, rfl, by decide +kernel, by decide +kernel⟩
def padM (w : Nat) (ns : List Int) : List Int := ns ++ List.replicate (w - ns.length) 0
theorem pad_get {w : Nat} {ns : List Int} (i : Nat) : (padM w ns).getD i 0 = ns.getD i 0 := by
  unfold padM
  by_cases h : i < ns.length
  · rw [List.getD_eq_getElem?_getD, List.getElem?_append_left h, ← List.getD_eq_getElem?_getD]
  · rw [getD_big h, List.getD_eq_getElem?_getD, List.getElem?_append_right (by omega)]
    by_cases h2 : i - ns.length < w - ns.length
    · rw [List.getElem?_replicate, if_pos h2]
      rfl
    · rw [List.getElem?_replicate, if_neg h2]
      rfl
theorem pad_len {w : Nat} {ns : List Int} (h : ns.length ≤ w) : (padM w ns).length = w := by
  unfold padM
  rw [List.length_append, List.length_replicate]
  omega
def addV : V → V → V := fun x y => match x, y with
  | .int n, .int m => .int (n + m)
  | _, _ => .non
theorem pad_add {ns ms : List Int} : ((((padM (max ns.length ms.length) ns).map V.int).zip ((padM (max ns.length ms.length) ms).map V.int)).filter fun _ => true).map (fun p => addV p.1 p.2) = (addM ns ms).map V.int := by
  rw [List.filter_eq_self.mpr (fun _ _ => rfl), List.zip_map, List.map_map]
  have e : ((fun p : V × V => addV p.1 p.2) ∘ Prod.map V.int V.int) = V.int ∘ fun p : Int × Int => p.1 + p.2 := rfl
  rw [e, ← List.map_map]
  refine congrArg _ (ext_getD ?_ fun i => ?_)
  · rw [List.length_map, List.length_zip, pad_len (Nat.le_max_left _ _), pad_len (Nat.le_max_right _ _), add_len, Nat.min_self]
  · rw [add_get]
    by_cases h : i < max ns.length ms.length
    · have g1 := pad_get (w := max ns.length ms.length) (ns := ns) i
      have g2 := pad_get (w := max ns.length ms.length) (ns := ms) i
      have l1 : i < (padM (max ns.length ms.length) ns).length := by rw [pad_len (Nat.le_max_left _ _)]; exact h
      have l2 : i < (padM (max ns.length ms.length) ms).length := by rw [pad_len (Nat.le_max_right _ _)]; exact h
      rw [List.getD_eq_getElem?_getD, List.getElem?_eq_getElem l1] at g1
      rw [List.getD_eq_getElem?_getD, List.getElem?_eq_getElem l2] at g2
      rw [List.getD_eq_getElem?_getD, List.getElem?_map, List.getElem?_eq_getElem (by rw [List.length_zip]; omega), List.getElem_zip]
      rw [← g1, ← g2]
      rfl
    · rw [getD_big (by rw [List.length_map, List.length_zip, pad_len (Nat.le_max_left _ _), pad_len (Nat.le_max_right _ _)]; omega), getD_big (ns := ns) (by omega), getD_big (ns := ms) (by omega)]
      rfl
def spAddUp (K : PySem.W.Frag) : Sp := fun vs H Q _ => ∃ (a b : Addr) (ns ms : List Int), vs = [.ref a, .ref b] ∧ SqT K H a (ns.map V.int) ∧ SqT K H b (ms.map V.int) ∧ Fall ns ∧ Fall ms ∧ ∀ H' u, Ext H H' → TupX K H' u ((addM ns ms).map V.int) → Q (.ref u) H'
theorem ok_addUp (F : Fun K "_law_added_up" "_law_added_up" sAddUp f fd) (T : Txt K mg) : FnOk P w K mg base CX0 1 f fd ["_law_one", "_law_other"] (spAddUp K) := by
  refine F.ok scAddUp (fun vs H Q E h => ?_) (fun cdv A outer s H vs Q E hr h => ?_)
  · obtain ⟨a, b, ns, ms, rfl, _⟩ := h
    rfl
  · obtain ⟨a, b, ns, ms, rfl, hs, ht, hF, hG, k⟩ := h
    refine ⟨_, pss_cons (ps_set (i := 2) scAddUp.nd rfl (Or.inr rfl) (pe_callB (call_max2 rfl) (by rfl) T.max (by decide +kernel) (pa_cons (pe_callB call_len_seq (by rfl) T.len PySem.boot_len (pa_cons (pv 0) pa_nil)) (pa_cons (pe_callB call_len_seq (by rfl) T.len PySem.boot_len (pa_cons (pv 1) pa_nil)) pa_nil))))
      (pss_cons (ps_setLc (i := 3) (own := [("_law_row", 4)]) (g := gName 4) (tt := tYes) rfl scAddUp.nd rfl rfl (sw_true rfl rfl rfl (by decide +kernel)) (pi_tup (pe_tup (pa_cons (pv 0) (pa_cons (pv 1) pa_nil)))) (blkOk_by (N := ["_law_one", "_law_other", "_law_wide", "_law_rows", "_law_row", "_law_turn", "_law_left", "_law_right_here"]) (sc := defScope sAddUp) (by decide +kernel)) (fun _ _ _ _ _ => pg_name (i := 4) scAddUp.nd rfl (Or.inl rfl)) (fun _ _ _ _ _ => pts_nil) (fun _ _ _ _ _ => by exact (pe_op (r := rCat) op_cat (pe_callTy (T := "list") (r := rListOf K) call_list_of (by rfl) T.list (by decide +kernel) (pa_cons (pv 4) pa_nil)) (pe_lc (own := [("_law_turn", 5)]) (g := gName 5) (tt := tYes) rfl scAddUp.nd (pi_range1 (by rfl) T.range (pa_cons (pe_op op_sub (pv 2) (pe_callB (r := rLenS K) call_len_seq (by rfl) T.len PySem.boot_len (pa_cons (pv 4) pa_nil))) pa_nil)) (blkOk_by (N := ["_law_one", "_law_other", "_law_wide", "_law_rows", "_law_row", "_law_turn", "_law_left", "_law_right_here"]) (sc := { kind := .function, names := [((".0" : Str), .local), ("_law_row", .local), ("list", .globalImplicit), ("range", .globalImplicit), ("len", .globalImplicit), ("_law_wide", .cell)], isGenerator := false, isCoroutine := false, more := [] }) (by decide +kernel)) (fun _ _ _ _ _ => pg_name (i := 5) scAddUp.nd rfl (Or.inl rfl)) (fun _ _ _ _ _ => pts_nil) (fun _ _ _ _ _ => by exact pe_int)))))
      (pss_one (ps_ret (pe_callTy call_tupX (by rfl) T.tuple (by decide +kernel) (pa_cons (pe_lc (own := [("_law_left", 6), ("_law_right_here", 7)]) (g := gTup K 2 (gCons (gName 6) (gCons (gName 7) gNil))) (tt := tYes) rfl scAddUp.nd (pi_zipE (by rfl) T.zip (pa_cons (pe_ix ix_list (pv 3) pe_int (fun _ _ => rfl)) (pa_cons (pe_ix ix_list (pv 3) pe_int (fun _ _ => rfl)) pa_nil))) (blkOk_by (N := ["_law_one", "_law_other", "_law_wide", "_law_rows", "_law_row", "_law_turn", "_law_left", "_law_right_here"]) (sc := defScope sAddUp) (by decide +kernel)) (fun _ _ _ _ _ => pg_tup rfl (pgs_cons (pg_name (i := 6) scAddUp.nd rfl (Or.inl rfl)) (pgs_cons (pg_name (i := 7) scAddUp.nd rfl (Or.inl rfl)) pgs_nil))) (fun _ _ _ _ _ => pts_nil) (fun _ _ _ _ _ => by exact (pe_op op_add (pv 6) (pv 7)))) pa_nil))))), ?_⟩
    have hl1 := hF.len
    have hl2 := hG.len
    walk_at "rd"
    refine ⟨a, _, rfl, .inr hs, ?_⟩
    walk_at "rd"
    refine ⟨b, _, rfl, .inr ht, ?_⟩
    walk_at "rd"
    have ew : (if ((ms.map V.int).length : Int) > ((ns.map V.int).length : Int) then ((ms.map V.int).length : Int) else ((ns.map V.int).length : Int)) = ((max ns.length ms.length : Nat) : Int) := by
      rw [List.length_map, List.length_map]
      split <;> omega
    rw [ew]
    refine g_lc (g_itup ?_)
    walk_at "rd"
    refine ⟨by show 2 ≤ sizeLine; decide, fun z hz => ?_⟩
    have ez := Ext.new (o := HO.tup [V.ref a, V.ref b]) hz
    have sz : SqT K (upd H z (.tup [V.ref a, V.ref b])) z [V.ref a, V.ref b] := SqT.of upd_same
    have hs1 := sqT_ext ez hs
    have ht1 := sqT_ext ez ht
    generalize upd H z (.tup [V.ref a, V.ref b]) = H1 at ez sz hs1 ht1 ⊢
    refine ⟨z, rfl, ⟨_, sz⟩, fun D hD => lc_it (walk_tup (xs := [V.ref a, V.ref b])) (fun i H' => ∃ ys, Ext H1 H' ∧ H' D = some (.lst ys) ∧ ys.length = i ∧ ∀ j y, ys[j]? = some y → ∃ r, y = .ref r ∧ r ≠ D ∧ H' r = some (.lst ((padM (max ns.length ms.length) (if j = 0 then ns else ms)).map V.int)))
      ⟨[], Ext.new hD, upd_same, rfl, fun j y h => by cases h⟩ (fun i H' _ ⟨ys, e, _⟩ => sqT_ext e sz) ?_ ?_⟩
    · rintro i x H2 H3 hi ⟨ys, e, hd, hyl, hy⟩ ⟨rfl, hx⟩
      have hi : i < 2 := hi
      obtain ⟨c, row, hc, hrow, hfl, rfl⟩ : ∃ c row, SqT K H1 c (row.map V.int) ∧ row = (if i = 0 then ns else ms) ∧ row.length ≤ 12 ∧ x = .ref c := by
        rcases (by omega : i = 0 ∨ i = 1) with rfl | rfl
        · exact ⟨a, ns, hs1, rfl, hl1, (Option.some.inj hx).symm⟩
        · exact ⟨b, ms, ht1, rfl, hl2, (Option.some.inj hx).symm⟩
      have hrl : row.length ≤ max ns.length ms.length := by
        rw [hrow]
        split <;> omega
      refine ⟨rfl, ?_⟩
      walk_at "rd"
      refine ⟨c, _, rfl, .inr (sqT_ext e hc), fun l hl => ?_⟩
      have el := Ext.new (o := HO.lst (row.map V.int)) hl
      walk_at "rd"
      refine g_lc (g_rng1 ?_)
      walk_at "rd"
      refine ⟨c, _, rfl, .inr (sqT_ext el (sqT_ext e hc)), ?_⟩
      walk_at "rd"
      rw [List.length_map]
      refine ⟨by omega, by omega, ?_⟩
      have en : (((max ns.length ms.length : Nat) : Int) - (row.length : Int)).toNat = max ns.length ms.length - row.length := by omega
      rw [en]
      refine lcR (small (by omega)) (fun _ => true) (fun _ => .int 0) (fun i H' hi e Qe Qn he hn => ?_) (fun H4 D2 e4 hD2 hd2 => ?_)
      · refine ⟨rfl, ?_⟩
        walk_at "rd"
        exact he _ (fun _ _ z => z) rfl
      · rw [idx_all] at hd2
        refine ⟨l, D2, _, _, rfl, rfl, e4 _ _ upd_same, hd2, ?_, fun r hr0 => ?_⟩
        · rw [List.length_map, List.length_map, List.length_range]
          exact Nat.le_of_lt (small (by omega))
        have er := Ext.new (o := HO.lst (row.map V.int ++ (List.range (max ns.length ms.length - row.length)).map fun _ => V.int 0)) hr0
        have e24 := Ext.trans el (Ext.trans e4 er)
        have hrD : r ≠ D := fun q => by
          have := (Ext.trans el e4) _ _ hd
          rw [← q, hr0] at this
          cases this
        refine ⟨ys, e24 _ _ hd, small (by omega), ys ++ [.ref r], fun u o q => ?_, upd_same, by rw [List.length_append, hyl]; rfl, fun j y hj => ?_⟩
        · rw [upd_ne (ne_of_none q hD)]
          exact e24 _ _ (e _ _ q)
        · by_cases hlt : j < ys.length
          · rw [List.getElem?_append_left hlt] at hj
            obtain ⟨r2, h1, h2, h3⟩ := hy j y hj
            refine ⟨r2, h1, h2, ?_⟩
            rw [upd_ne h2]
            exact e24 _ _ h3
          · rw [List.getElem?_append_right (by omega)] at hj
            have hj0 : j - ys.length = 0 := by
              have := (List.getElem?_eq_some_iff.mp hj).1
              simp at this
              omega
            rw [hj0] at hj
            refine ⟨r, (Option.some.inj hj).symm, hrD, ?_⟩
            have hji : j = i := by omega
            rw [upd_ne hrD, upd_same, hji, ← hrow]
            unfold padM
            rw [List.map_append, List.map_replicate]
            congr 3
            rw [List.map_const', List.length_range]
    · rintro H2 ⟨ys, e, hd, hyl, hy⟩
      have hyl : ys.length = 2 := hyl
      obtain ⟨r0, q0, _, h0⟩ := hy 0 ys[0] (List.getElem?_eq_getElem (by omega))
      obtain ⟨r1, q1, _, h1⟩ := hy 1 ys[1] (List.getElem?_eq_getElem (by omega))
      rw [if_pos rfl] at h0
      rw [if_neg (by decide)] at h1
      walk_at "rd"
      refine g_lc ?_
      unfold iZipE
      walk_at "rd"
      refine g_ixL (SqL.of hd) (v := .ref r0) (atI_nat (j := 0) (by rw [List.getElem?_eq_getElem (by omega), q0])) ?_
      walk_at "rd"
      refine g_ixL (SqL.of hd) (v := .ref r1) (atI_nat (j := 1) (by rw [List.getElem?_eq_getElem (by omega), q1])) ?_
      walk_at "rd"
      refine lcZ (l1 := true) (l2 := true) (SqL.of h0) (SqL.of h1) (small (by rw [List.length_map, pad_len (Nat.le_max_left _ _)]; omega)) (fun _ _ => true) addV (fun x y H' hxy e Qe Qn he hn => ?_) (fun H3 D3 e3 hD3 hd3 => ?_)
      · rw [List.zip_map] at hxy
        obtain ⟨⟨n, m⟩, hnm, e1⟩ := List.mem_map.mp hxy
        cases e1
        refine ⟨rfl, ?_⟩
        walk_at "rd"
        exact he _ (fun _ _ z => z) rfl
      · rw [pad_add] at hd3
        walk_at "rd"
        refine ⟨D3, _, rfl, .inl ⟨SqL.of hd3, fun u o hu ho => ?_⟩⟩
        exact k _ u (Ext.trans ez (Ext.trans e (Ext.trans e3 (Ext.new hu)))) (TupX.new ho)
end
end Q0

set_option Elab.async false
set_option linter.all false
set_option maxRecDepth 100000
set_option maxHeartbeats 4000000
/-! What the law asks of one kind. -/
namespace Q0
open PySem PySem.Spec PyProof.Rows L2 Gd
local macro_rules | `(tactic| walk_at "rd1") => `(tactic| first | with_reducible refine g_ret ?_ | with_reducible refine g_retN ?_ | with_reducible refine g_seq ?_ | with_reducible refine g_next ?_ | with_reducible refine g_drop ?_ | with_reducible refine g_asg ?_ | with_reducible refine g_name ?_ | with_reducible refine g_ifs ?_ | with_reducible refine g_test ?_ | with_reducible refine g_tb ?_ | with_reducible refine g_and ?_ | with_reducible refine g_or ?_ | with_reducible refine g_not ?_ | with_reducible refine g_andV ?_ | with_reducible refine g_orV ?_ | with_reducible refine g_notV ?_ | with_reducible refine g_if ?_ | with_reducible refine g_op ?_ | with_reducible refine g_un ?_ | with_reducible refine g_cb ?_ | with_reducible refine g_nil ?_ | with_reducible refine g_cons ?_ | with_reducible refine g_call ?_ | with_reducible refine g_callS ?_ | with_reducible refine g_tup ?_ | with_reducible refine g_lst ?_ | with_reducible refine g_isN ?_ | with_reducible refine g_sl ?_ | with_reducible refine g_nopart ?_ | with_reducible refine g_part ?_ | with_reducible refine g_chain ?_ | with_reducible refine g_fld ?_ | with_reducible refine g_prop ?_ | with_reducible refine g_bm ?_ | with_reducible refine g_bm0 ?_ | with_reducible refine g_c ?_ | with_reducible refine g_sub ?_ | with_reducible refine g_int1 ?_ | with_reducible refine g_int2 ?_ | with_reducible refine g_yes ?_ | with_reducible refine g_sfld ?_ | with_reducible refine g_NT ?_ | with_reducible refine g_NF ?_ | with_reducible refine iteT ?_ | with_reducible refine iteF ?_ | ((with_reducible refine' g_aug ?hv ?_); (case hv => exact rfl)) | ((with_reducible refine' g_var ?hv ?_); (case hv => exact rfl)) | with_reducible refine g_I0 ?_ | with_reducible refine g_U ?_ | with_reducible refine g_eqI ?_ | with_reducible refine g_blV ?_ | with_reducible refine g_inV ?_)
local macro_rules | `(tactic| walk_at "rd") => `(tactic| repeat walk_at "rd1")
/-- what the law uses of the class -/
structure Api (P : Program) (w : World) (K : PySem.W.Frag) (mg : Str → Option Value) (base : Heap) (C t0 CT : Addr) : Prop where
  ini : Ini1 P w K mg base CX0 5 C t0 ["self", "numbers"] (spInit K C)
  numbers : Pro1 P w K mg base 1 C "numbers" (spGet K C fun n _ => .ref n)
  size : Pro1 P w K mg base 1 C "size" (spGet K C fun _ ns => .int ns.sum)
  rank : Pro1 P w K mg base 1 C "rank" (spGet K C fun _ ns => .int (ns.length : Int))
  height : Pro1 P w K mg base 2 C "height" (spGet K C fun _ ns => .int (ns.getD 0 0))
  slant : Pro1 P w K mg base 2 C "slant" (spGet K C fun _ ns => .int (slantM ns))
  turned : Pro1 P w K mg base 7 C "turned" (spMakes K C turnM)
  holds : Met1 P w K mg base CX0 3 C "holds" ["self", "other"] (spTwo K C (fun _ _ => True) fun ns ms => .bl (heldM ms ns))
  tops : Met1 P w K mg base CX0 3 C "tops" ["self", "other"] (spTwo K C (fun ns ms => ns.sum = ms.sum) fun ns ms => .bl (topM ms ns))
  add : Bin1 P w K mg base (L2.CX P w) 7 C "__add__" "__radd__" (spTwoK K C CT joinM)
  over : Met1 P w K mg base (L2.CX P w) 7 C "over" ["self", "other"] (spTwoK K C CT addM)
  item : Met1 P w K mg base CX0 5 C "__getitem__" ["self", "index"] (spItem K C)
  iter : Met1 P w K mg base CX0 1 C "__iter__" ["self"] (spItN K (KindR K C))
  eq : Met1 P w K mg base CX0 1 C "__eq__" ["self", "other"] (spTwo K C (fun _ _ => True) fun ns ms => .bl (decide (ns = ms)))
  lt : Met1 P w K mg base CX0 4 C "__lt__" ["self", "other"] (spTwo K C (fun _ _ => True) fun ns ms => .bl (pairLt ns.sum ms.sum (negM ns) (negM ms)))
theorem pi_own1 {X : Cx} {C : Addr} {j k : Nat} {R : Addr → Addr → List V → Hp → Prop} {tg e : Expr} {te : TE} (D : Met1 X.prog X.w X.K X.mg X.base CX0 k C "__iter__" ["self"] (spItN X.K R)) (hr : Room j X.A) (hj : k ≤ j) (he : PE X e te) :
    PI X tg e (iOwn X.K C X.s_0.heap.objs.size R te) := by
  obtain ⟨f, fd, M, _, F, hb⟩ := D.ex
  exact pi_own M F hb (hr.mono hj) he
theorem notFirst_self {K : PySem.W.Frag} {C : Addr} : PySem.W.notFirst K C (.ref C) = true := by
  unfold PySem.W.notFirst
  simp
section
variable {P : Program} {w : World} {K : PySem.W.Frag} {mg : Str → Option Value} {base : Heap} {f C t0 CT : Addr} {fd : FuncData}
abbrev spEqK (K : PySem.W.Frag) (C : Addr) : Sp := spTwo K C (fun _ _ => True) fun ns ms => .bl (decide (ns = ms))
theorem g_neK (Cl : KC K mg C) {H : Hp} {Q : VK} {p n t m q n2 t2 m2 : Addr} {ns ms : List Int} (hP : KindAt K C H p n t m ns) (hQ : KindAt K C H q n2 t2 m2 ms) (k : ∀ H', Ext H H' → Q (.bl (!decide (ns = ms))) H') : rNeO K C (spEqK K C) X0 (.ref p) (.ref q) H Q := by
  obtain ⟨dx, hp⟩ := hP.ins
  obtain ⟨dy, hq⟩ := hQ.ins
  exact ⟨p, dx, _, _, rfl, hp, Cl.ty hq, notFirst_self, p, n, t, m, q, n2, t2, m2, ns, ms, rfl, hP, hQ, trivial, fun H' e => ⟨_, rfl, k H' e⟩⟩
theorem g_mk3 {E : XK} {H1 : Hp} {R : Addr → Hp → Prop} {a : Addr} {ns : List Int} (h : TupX K H1 a (ns.map V.int)) (hF : Fall ns) (k : ∀ H' p n t m, Ext H1 H' → KindAt K C H' p n t m ns → R p H') :
    ∀ x dx, H1 x = none → H1 dx = none → dx ≠ x → spInit K C [.ref x, .ref a] (upd (upd H1 dx (.own x)) x (.ins C dx [])) (fun v H2 => v = .non ∧ R x H2) E := fun x dx hx hdx ne =>
  ⟨x, dx, a, ns, rfl, upd_same, h.ext (made_ext hx hdx), hF, fun H' n t m e hk => ⟨rfl, k H' x n t m (fun b o q => e b o (ne_of_none q hx) (made_ext hx hdx b o q)) hk⟩⟩
/-- a row of integers beside another -/
theorem g_neT {H : Hp} {Q : VK} {a b : Addr} {ns ms : List Int} (ha : SqT K H a (ns.map V.int)) (hb : SqT K H b (ms.map V.int)) (k : Q (.bl (!decide (ns = ms))) H) : rNeD K (.ref a) (.ref b) H Q := by
  refine ⟨_, _, .tup ha (pdp ns), .tup hb (pdp ms), sh_row ns, sh_row ms, ?_⟩
  have e : PyData.eqv (.tuple (pdata ns)) (.tuple (pdata ms)) = decide (ns = ms) := by
    simp only [PyData.eqv, peqv]
  rw [e]
  exact k
theorem sh_lst (ns : List Int) : SeqAt.shaped (.list (pdata ns)) = true := by
  have d : ∀ ns : List Int, PyData.depthAll (pdata ns) = 0 := fun ns => by
    induction ns with
    | nil => simp [pdata, PyData.depthAll]
    | cons n r ih =>
      unfold pdata at ih ⊢
      simp [PyData.depthAll, PyData.depth, ih]
  unfold SeqAt.shaped
  simp [PyData.canLay0, play, PyData.depth, d]
theorem g_eqL {H : Hp} {Q : VK} {a b : Addr} {ns ms : List Int} (ha : SqL K H a (ns.map V.int)) (hb : SqL K H b (ms.map V.int)) (k : Q (.bl (decide (ns = ms))) H) : rEqD K (.ref a) (.ref b) H Q := by
  refine ⟨_, _, .lst ha (pdp ns), .lst hb (pdp ms), sh_lst ns, sh_lst ms, ?_⟩
  have e : PyData.eqv (.list (pdata ns)) (.list (pdata ms)) = decide (ns = ms) := by
    simp only [PyData.eqv, peqv]
  rw [e]
  exact k
theorem g_lstN {N : Nat} {t : TA} {σ : L2.St} {H : Hp} {Q : VK} (k : t σ H fun xs H1 => xs.length ≤ sizeLine ∧ ∀ p, H1 p = none → N ≤ p → Q (.ref p) (upd H1 p (.lst xs))) : tLstN N t σ H Q := k
theorem lcT2 {g : TG} {tt : TT} {te : TE} {vs : List Nat} {σ : L2.St} {H1 : Hp} {Q : VK} {a : Addr} {xs : List V} (hs : SqT K H1 a xs) (sz : xs.length < sizeLine) (c : V → Bool) (f : V → V)
    (body : ∀ x H', x ∈ xs → Ext H1 H' → ∀ (Qe : VK) (Qn : Hp → Prop), (∀ H3, Ext H' H3 → c x = true → Qe (f x) H3) → (∀ H3, Ext H' H3 → c x = false → Qn H3) →
      g x (wipe σ vs) H' fun σ2 H2 => wipe σ2 vs = wipe σ vs ∧ tt σ2 H2 fun b H3 => if b = true then te σ2 H3 Qe else Qn H3)
    (k : ∀ H' D, Ext H1 H' → H1 D = none → H' D = some (.lst ((xs.filter c).map f)) → Q (.ref D) H') : LcG (Itt K a) g tt te vs σ H1 Q := by
  obtain ⟨a', ha, _, h⟩ := lcT hs sz c f body k
  cases ha
  exact h
def chooseV : V → V := fun v => match v with
  | .int n => .int (chooseM n)
  | y => y
abbrev sOne : Stmt := top 44
theorem scOne : FnScope ["_law_numbers", "_law_kind_here", "_law_turned_here", "_law_t"] ["_law_numbers"] (defScope sOne) := ⟨rfl, rfl, rfl, by decide +kernel, rfl, by decide +kernel, by decide +kernel⟩
def spOneR (K : PySem.W.Frag) : Sp := fun vs H Q _ => ∃ (a : Addr) (ns : List Int), vs = [.ref a] ∧ TupX K H a (ns.map V.int) ∧ Fall ns ∧ ∀ H', Ext H H' → Q (.bl true) H'
theorem ok_one (F : Fun K "_law_is_one_right" "_law_is_one_right" sOne f fd) (T : Txt K mg) (Cl : KC K mg C) (A : Api P w K mg base C t0 CT) (Lt : Def1 P w K mg base CX0 1 "_law_turned" ["_law_kind_here"] (spLTurned K)) : FnOk P w K mg base CX0 9 f fd ["_law_numbers"] (spOneR K) := by
  refine F.ok scOne (fun vs H Q E h => ?_) (fun cdv Ar outer s H vs Q E hr h => ?_)
  · obtain ⟨a, ns, rfl, _⟩ := h
    rfl
  · obtain ⟨a, ns, rfl, hs, hF, k⟩ := h
    refine ⟨_, pss_cons (ps_set (i := 1) scOne.nd rfl (Or.inl rfl) (pe_mk1 A.ini pass0 hr (by decide) (by rfl) Cl.g (pa_cons (pv 0) pa_nil)))
      (pss_cons (ps_set (i := 2) scOne.nd rfl (Or.inl rfl) (pe_pro1 Cl.cl A.turned hr (by decide) (pv 1)))
      (pss_cons (ps_if (PW.pt (pw_or (pt_cmpR (op_neD hr.units) (pe_pro1 Cl.cl A.numbers hr (by decide) (pv 2)) (pe_def Lt hr (by decide) (by rfl) (pa_cons (pv 0) pa_nil)) (nomark _)) (pw_or (pt_cmpR (op_ne1 Cl.ne A.eq hr (by decide)) (pe_pro1 Cl.cl A.turned hr (by decide) (pv 2)) (pv 1) (nomark _)) (pw_or1 (pt_cmpR op_ne (pe_pro1 Cl.cl A.size hr (by decide) (pv 2)) (pe_pro1 Cl.cl A.size hr (by decide) (pv 1)) (nomark _)))))) (pss_one (ps_ret pe_bl)) pss_nil)
      (pss_one (ps_ret (pe_cmpR (op_eqD hr.units) (pe_lstN (pa_cons (pe_pro1 Cl.cl A.rank hr (by decide) (pv 2)) (pa_cons (pe_pro1 Cl.cl A.height hr (by decide) (pv 2)) (pa_cons (pe_pro1 Cl.cl A.slant hr (by decide) (pv 1)) pa_nil)))) (pe_lst (pa_cons (pe_pro1 Cl.cl A.height hr (by decide) (pv 1)) (pa_cons (pe_pro1 Cl.cl A.rank hr (by decide) (pv 1)) (pa_cons (pe_callB (call_sumS rfl) (by rfl) T.sum (by decide +kernel) (pa_cons (pe_lc (own := [("_law_t", 3)]) (g := gName 3) (tt := tYes) rfl scOne.nd (pi_own1 A.iter hr (by decide) (pv 2)) (blkOk_by (N := ["_law_numbers", "_law_kind_here", "_law_turned_here", "_law_t"]) (sc := defScope sOne) (by decide +kernel)) (fun _ _ _ _ _ => pg_name (i := 3) scOne.nd rfl (Or.inl rfl)) (fun _ _ _ _ _ => pts_nil) (fun _ _ _ _ _ => by exact (pe_op op_fdiv (pe_op op_mul (pv 3) (pe_op op_sub (pv 3) pe_int)) pe_int))) pa_nil)) pa_nil)))) (nomark _)))))), ?_⟩
    have O := hF.one
    walk_at "rd"
    refine g_make ?_
    walk_at "rd"
    refine g_mk3 hs hF fun H1 p n t m e1 hp => ?_
    walk_at "rd"
    obtain ⟨dx, hpi⟩ := hp.ins
    refine ⟨p, dx, _, rfl, hpi, p, n, t, m, ns, rfl, hp, fun H2 q n2 t2 m2 e2 hq => ?_⟩
    have hp2 := hp.ext e2
    have hs2 := (hs.ext e1).ext e2
    have e12 := Ext.trans e1 e2
    walk_at "rd"
    obtain ⟨dy, hqi⟩ := hq.ins
    refine ⟨q, dy, _, rfl, hqi, q, n2, t2, m2, turnM ns, rfl, hq, fun H3 e3 => ?_⟩
    walk_at "rd"
    refine ⟨a, ns, rfl, hs2.ext e3, hF, fun H4 u e4 hu => ?_⟩
    walk_at "rd"
    have e34 := Ext.trans e3 e4
    refine g_neT (hq.ext e34).num.sq hu.sq ?_
    rw [decide_eq_true rfl]
    walk_at "rd"
    have hq4 := hq.ext e34
    have hp4 := hp2.ext e34
    obtain ⟨dy4, hqi4⟩ := hq4.ins
    refine ⟨q, dy4, _, rfl, hqi4, q, n2, t2, m2, turnM ns, rfl, hq4, fun H5 r n5 t5 m5 e5 hr5 => ?_⟩
    walk_at "rd"
    rw [O.back] at hr5
    refine g_neK Cl hr5 (hp4.ext e5) fun H6 e6 => ?_
    rw [decide_eq_true rfl]
    walk_at "rd"
    have e56 := Ext.trans e5 e6
    have hq6 := hq4.ext e56
    have hp6 := hp4.ext e56
    obtain ⟨dy6, hqi6⟩ := hq6.ins
    refine ⟨q, dy6, _, rfl, hqi6, q, n2, t2, m2, turnM ns, rfl, hq6, fun H7 e7 => ?_⟩
    walk_at "rd"
    obtain ⟨dx7, hpi7⟩ := (hp6.ext e7).ins
    refine ⟨p, dx7, _, rfl, hpi7, p, n, t, m, ns, rfl, hp6.ext e7, fun H8 e8 => ?_⟩
    walk_at "rd"
    have e78 := Ext.trans e7 e8
    refine g_neS1 O.sum ?_
    walk_at "rd"
    have hq8 := hq6.ext e78
    have hp8 := hp6.ext e78
    refine g_lstN ?_
    walk_at "rd"
    obtain ⟨dy8, hqi8⟩ := hq8.ins
    refine ⟨q, dy8, _, rfl, hqi8, q, n2, t2, m2, turnM ns, rfl, hq8, fun H9 e9 => ?_⟩
    walk_at "rd"
    obtain ⟨dy9, hqi9⟩ := (hq8.ext e9).ins
    refine ⟨q, dy9, _, rfl, hqi9, q, n2, t2, m2, turnM ns, rfl, hq8.ext e9, fun H10 e10 => ?_⟩
    walk_at "rd"
    have e910 := Ext.trans e9 e10
    obtain ⟨dx10, hpi10⟩ := (hp8.ext e910).ins
    refine ⟨p, dx10, _, rfl, hpi10, p, n, t, m, ns, rfl, hp8.ext e910, fun H11 e11 => ?_⟩
    walk_at "rd"
    have e8 := Ext.trans e910 e11
    refine ⟨by show 3 ≤ sizeLine; decide, fun l hl hN => ?_⟩
    have el := Ext.new (o := HO.lst [V.int ((turnM ns).length : Int), V.int ((turnM ns).getD 0 0), V.int (slantM ns)]) hl
    have hl0 : upd H11 l (HO.lst [V.int ((turnM ns).length : Int), V.int ((turnM ns).getD 0 0), V.int (slantM ns)]) l = some (.lst [V.int ((turnM ns).length : Int), V.int ((turnM ns).getD 0 0), V.int (slantM ns)]) := upd_same
    have hpl := (hp8.ext e8).ext el
    have hql := (hq8.ext e8).ext el
    have eL := Ext.trans e12 (Ext.trans e34 (Ext.trans e56 (Ext.trans e78 (Ext.trans e8 el))))
    dsimp only
    generalize upd H11 l (HO.lst [V.int ((turnM ns).length : Int), V.int ((turnM ns).getD 0 0), V.int (slantM ns)]) = G at hl0 hpl hql eL ⊢
    walk_at "rd"
    obtain ⟨dg, hpg⟩ := hpl.ins
    refine ⟨p, dg, _, rfl, hpg, p, n, t, m, ns, rfl, hpl, fun G1 f1 => ?_⟩
    walk_at "rd"
    obtain ⟨dg1, hpg1⟩ := (hpl.ext f1).ins
    refine ⟨p, dg1, _, rfl, hpg1, p, n, t, m, ns, rfl, hpl.ext f1, fun G2 f2 => ?_⟩
    walk_at "rd"
    have f12 := Ext.trans f1 f2
    refine g_lc ?_
    unfold iOwn
    walk_at "rd"
    obtain ⟨dg2, hqg2⟩ := (hql.ext f12).ins
    refine ⟨q, dg2, _, n2, _, l, _, rfl, hqg2, ⟨t2, m2, turnM ns, rfl, hql.ext f12⟩, (hql.ext f12).num.sq, f12 _ _ hl0, hN, ?_⟩
    have hT := O.fall
    refine lcT2 (hql.ext f12).num.sq (small (by rw [List.length_map]; have := hT.len; omega)) (fun _ => true) chooseV (fun x H' hx e Qe Qn he hn => ?_) (fun G3 D f3 hD hd => ?_)
    · obtain ⟨y, hy, rfl⟩ := List.mem_map.mp hx
      have b1 := hT.pos y hy
      have b2 := hT.le y hy
      refine ⟨rfl, ?_⟩
      walk_at "rd"
      refine g_I (mulS (by omega) (by omega) (by omega) (by omega)) ?_
      walk_at "rd"
      refine g_I ⟨by decide, by decide⟩ ?_
      exact he _ (fun _ _ z => z) rfl
    · rw [List.filter_eq_self.mpr (fun _ _ => rfl), List.map_map] at hd
      walk_at "rd"
      refine ⟨D, (turnM ns).map chooseM, rfl, .inl (SqL.of (by rw [hd, List.map_map]; rfl)), ?_⟩
      walk_at "rd"
      refine ⟨by show 3 ≤ sizeLine; decide, fun l2 hl2 => ?_⟩
      have el2 := Ext.new (o := HO.lst [V.int (ns.getD 0 0), V.int (ns.length : Int), V.int ((turnM ns).map chooseM).sum]) hl2
      have es : slantM ns = ((turnM ns).map chooseM).sum := O.slant
      refine g_eqL (ns := [((turnM ns).length : Int), (turnM ns).getD 0 0, slantM ns]) (ms := [ns.getD 0 0, (ns.length : Int), ((turnM ns).map chooseM).sum]) (SqL.of (el2 _ _ (f3 _ _ (f12 _ _ hl0)))) (SqL.of upd_same) ?_
      rw [decide_eq_true (by rw [O.len, O.head, es])]
      exact k _ (Ext.trans eL (Ext.trans f12 (Ext.trans f3 el2)))
end
end Q0

set_option Elab.async false
set_option linter.all false
set_option maxRecDepth 100000
set_option maxHeartbeats 4000000
/-! What the law asks of two kinds. -/
namespace Q0
open PySem PySem.Spec PyProof.Rows L2 Gd
local macro_rules | `(tactic| walk_at "rd1") => `(tactic| first | with_reducible refine g_ret ?_ | with_reducible refine g_retN ?_ | with_reducible refine g_seq ?_ | with_reducible refine g_next ?_ | with_reducible refine g_drop ?_ | with_reducible refine g_asg ?_ | with_reducible refine g_name ?_ | with_reducible refine g_ifs ?_ | with_reducible refine g_test ?_ | with_reducible refine g_tb ?_ | with_reducible refine g_and ?_ | with_reducible refine g_or ?_ | with_reducible refine g_not ?_ | with_reducible refine g_andV ?_ | with_reducible refine g_orV ?_ | with_reducible refine g_notV ?_ | with_reducible refine g_if ?_ | with_reducible refine g_op ?_ | with_reducible refine g_un ?_ | with_reducible refine g_cb ?_ | with_reducible refine g_nil ?_ | with_reducible refine g_cons ?_ | with_reducible refine g_call ?_ | with_reducible refine g_callS ?_ | with_reducible refine g_tup ?_ | with_reducible refine g_lst ?_ | with_reducible refine g_isN ?_ | with_reducible refine g_sl ?_ | with_reducible refine g_nopart ?_ | with_reducible refine g_part ?_ | with_reducible refine g_chain ?_ | with_reducible refine g_fld ?_ | with_reducible refine g_prop ?_ | with_reducible refine g_bm ?_ | with_reducible refine g_bm0 ?_ | with_reducible refine g_c ?_ | with_reducible refine g_sub ?_ | with_reducible refine g_int1 ?_ | with_reducible refine g_int2 ?_ | with_reducible refine g_yes ?_ | with_reducible refine g_sfld ?_ | with_reducible refine g_NT ?_ | with_reducible refine g_NF ?_ | with_reducible refine iteT ?_ | with_reducible refine iteF ?_ | ((with_reducible refine' g_aug ?hv ?_); (case hv => exact rfl)) | ((with_reducible refine' g_var ?hv ?_); (case hv => exact rfl)) | with_reducible refine g_I0 ?_ | with_reducible refine g_U ?_ | with_reducible refine g_eqI ?_ | with_reducible refine g_blV ?_ | with_reducible refine g_inV ?_)
local macro_rules | `(tactic| walk_at "rd") => `(tactic| repeat walk_at "rd1")
section
variable {P : Program} {w : World} {K : PySem.W.Frag} {mg : Str → Option Value} {base : Heap} {f C t0 CT : Addr} {fd : FuncData}
/-- two kinds with the same numbers -/
def SameK (K : PySem.W.Frag) (C : Addr) (a b : Addr) (H : Hp) : Prop := ∃ n t m n2 t2 m2 ns, KindAt K C H a n t m ns ∧ KindAt K C H b n2 t2 m2 ns
theorem same_mon : Mon (DIns C (SameK K C)) := mon_ins fun a b H H' e ⟨n, t, m, n2, t2, m2, ns, h1, h2⟩ => ⟨n, t, m, n2, t2, m2, ns, h1.ext e, h2.ext e⟩
theorem same_eq {X : Cx} (D : Met1 X.prog X.w X.K X.mg X.base CX0 1 C "__eq__" ["self", "other"] (spEqK X.K C)) : EqG X 1 (DIns C (SameK X.K C)) := by
  obtain ⟨g, gd, M, _, F, hb⟩ := D.ex
  refine eqG_ins (E := X0) (F.imp fun vs H Q E h => ?_) M.at_ M.fn hb pass0
  obtain ⟨a, b, rfl, ⟨n, t, m, n2, t2, m2, ns, h1, h2⟩, k⟩ := h
  exact ⟨a, n, t, m, b, n2, t2, m2, ns, ns, rfl, h1, h2, trivial, fun H' e => by
    have q := k H' e
    simpa using q⟩
theorem same_ins {H : Hp} {p n t m q n2 t2 m2 : Addr} {ns : List Int} (h1 : KindAt K C H p n t m ns) (h2 : KindAt K C H q n2 t2 m2 ns) : DIns C (SameK K C) (.ref p) (.ref q) H := by
  obtain ⟨dx, hp⟩ := id h1.ins
  obtain ⟨dy, hq⟩ := id h2.ins
  exact ⟨p, q, dx, dy, _, _, rfl, rfl, hp, hq, n, t, m, n2, t2, m2, ns, h1, h2⟩
theorem g_addK {E : XK} {H : Hp} {Q : VK} {p n t m q n2 t2 m2 : Addr} {ns ms : List Int} (hP : KindAt K C H p n t m ns) (hQ : KindAt K C H q n2 t2 m2 ms) (hs : ns.sum + ms.sum ≤ 12) (k : ∀ H' p' n' t' m', Ext H H' → KindAt K C H' p' n' t' m' (joinM ns ms) → Q (.ref p') H') :
    rBinO C (spTwoK K C CT joinM) E (.ref p) (.ref q) H Q := by
  obtain ⟨dx, hp⟩ := id hP.ins
  obtain ⟨dy, hq⟩ := id hQ.ins
  exact ⟨p, dx, _, rfl, hp, .inl ⟨q, dy, _, rfl, hq⟩, p, n, t, m, q, n2, t2, m2, ns, ms, rfl, hP, hQ, fun _ H' p' n' t' m' e h => ⟨⟨_, rfl⟩, k H' p' n' t' m' e h⟩, fun h => by omega⟩
theorem look_no {x : Str} {u t : V} (h1 : (x == ("_numbers" : Str)) = false) (h2 : (x == ("_place" : Str)) = false) : ([(("_numbers" : Str), u), (("_place" : Str), t)] : List (Str × V)).lookup x = none := by
  simp [List.lookup, h1, h2]
theorem g_two {v : List Int → List Int → List Int} {E : XK} {H : Hp} {Q : VK} {p n t m q n2 t2 m2 : Addr} {ns ms : List Int} (hP : KindAt K C H p n t m ns) (hQ : KindAt K C H q n2 t2 m2 ms) (hs : ns.sum + ms.sum ≤ 12) (k : ∀ H' p' n' t' m', Ext H H' → KindAt K C H' p' n' t' m' (v ns ms) → Q (.ref p') H') :
    spTwoK K C CT v [.ref p, .ref q] H Q E := ⟨p, n, t, m, q, n2, t2, m2, ns, ms, rfl, hP, hQ, fun _ => k, fun h => by omega⟩
theorem g_me {m : Str} {sp : Sp} {dvs : List V} {E : XK} {ta : TE} {t : TA} {σ : L2.St} {H : Hp} {Q : VK} (k : ta σ H fun x H1 => ∃ a dx fs, x = .ref a ∧ H1 a = some (.ins C dx fs) ∧ fs.lookup m = none ∧ t σ H1 fun vs H2 => sp (x :: (vs ++ dvs)) H2 Q E) : tMeth C m sp dvs E ta t σ H Q := k
/-- a property that makes a kind -/
theorem g_makes {v : List Int → List Int} {E : XK} {H : Hp} {Q : VK} {p n t m : Addr} {ns : List Int} (hP : KindAt K C H p n t m ns) (k : ∀ H' p' n' t' m', Ext H H' → KindAt K C H' p' n' t' m' (v ns) → Q (.ref p') H') :
    ∃ a dx fs, V.ref p = .ref a ∧ H a = some (.ins C dx fs) ∧ spMakes K C v (.ref a :: []) H Q E := by
  obtain ⟨dx, hp⟩ := id hP.ins
  exact ⟨p, dx, _, rfl, hp, p, n, t, m, ns, rfl, hP, k⟩
theorem g_gets {v : Addr → List Int → V} {E : XK} {H : Hp} {Q : VK} {p n t m : Addr} {ns : List Int} (hP : KindAt K C H p n t m ns) (k : ∀ H', Ext H H' → Q (v n ns) H') :
    ∃ a dx fs, V.ref p = .ref a ∧ H a = some (.ins C dx fs) ∧ spGet K C v (.ref a :: []) H Q E := by
  obtain ⟨dx, hp⟩ := id hP.ins
  exact ⟨p, dx, _, rfl, hp, p, n, t, m, ns, rfl, hP, k⟩
theorem g_obj {m : Str} {A : V → Prop} {H : Hp} {p n t m' : Addr} {ns : List Int} (hP : KindAt K C H p n t m' ns) (h1 : (m == ("_numbers" : Str)) = false) (h2 : (m == ("_place" : Str)) = false) (k : A (.ref p)) :
    ∃ a dx fs, V.ref p = .ref a ∧ H a = some (.ins C dx fs) ∧ fs.lookup m = none ∧ A (.ref p) := by
  obtain ⟨dx, hp⟩ := id hP.ins
  exact ⟨p, dx, _, rfl, hp, look_no h1 h2, k⟩
theorem sh_two (a b : List Int) : SeqAt.shaped (.list [.tuple (pdata a), .tuple (pdata b)]) = true := by
  have d : ∀ ns : List Int, PyData.depthAll (pdata ns) = 0 := fun ns => by
    induction ns with
    | nil => simp [pdata, PyData.depthAll]
    | cons n r ih =>
      unfold pdata at ih ⊢
      simp [PyData.depthAll, PyData.depth, ih]
  unfold SeqAt.shaped
  simp [PyData.canLay0, PyData.canLayAll0, play, PyData.depth, PyData.depthAll, d]
theorem g_neTwo {H : Hp} {Q : VK} {a b x1 x2 y1 y2 : Addr} {n1 n2 : List Int} (ha : SqL K H a [.ref x1, .ref x2]) (hb : SqL K H b [.ref y1, .ref y2]) (h1 : SqT K H x1 (n1.map V.int)) (h2 : SqT K H x2 (n2.map V.int)) (h3 : SqT K H y1 (n1.map V.int)) (h4 : SqT K H y2 (n2.map V.int)) (k : Q (.bl false) H) : rNeD K (.ref a) (.ref b) H Q := by
  refine ⟨_, _, .lst ha (.cons (.tup h1 (pdp n1)) (.cons (.tup h2 (pdp n2)) .nil)), .lst hb (.cons (.tup h3 (pdp n1)) (.cons (.tup h4 (pdp n2)) .nil)), sh_two _ _, sh_two _ _, ?_⟩
  have e : PyData.eqv (.list [.tuple (pdata n1), .tuple (pdata n2)]) (.list [.tuple (pdata n1), .tuple (pdata n2)]) = true := by
    simp [PyData.eqv, PyData.eqvAll, peqv]
  rw [e]
  exact k
theorem g_eqT {H : Hp} {Q : VK} {i j : Int} (e : i = j) (k : Q (.bl true) H) : rEq (.int i) (.int j) H Q := by
  subst e
  exact ⟨rfl, by simpa using k⟩
abbrev addQ {X : Cx} (σ : L2.St) : PassesAt (L2.CX X.prog X.w) X σ X0 := passAt L2.takes0 σ
abbrev sTwo : Stmt := top 43
theorem scTwo : FnScope ["_law_one", "_law_other", "_law_kind_here", "_law_more", "_law_due", "_law_both", "_law_found", "_law_rows", "_law_at"] ["_law_one", "_law_other"] (defScope sTwo) := ⟨rfl, rfl, rfl, by decide +kernel, rfl, by decide +kernel, by decide +kernel⟩
def spTwoR (K : PySem.W.Frag) : Sp := fun vs H Q _ => ∃ (a b : Addr) (ns ms : List Int), vs = [.ref a, .ref b] ∧ TupX K H a (ns.map V.int) ∧ TupX K H b (ms.map V.int) ∧ Fall ns ∧ Fall ms ∧ ns.sum + ms.sum ≤ 12 ∧ ∀ H', Ext H H' → Q (.bl true) H'
theorem ok_two (F : Fun K "_law_joined_right" "_law_joined_right" sTwo f fd) (T : Txt K mg) (Cl : KC K mg C) (ht0 : ∀ H, TupX K H t0 []) (A : Api P w K mg base C t0 CT) (Pu : Def1 P w K mg base CX0 1 "_law_put_together" ["_law_one", "_law_other"] (spPut K)) (Au : Def1 P w K mg base CX0 1 "_law_added_up" ["_law_one", "_law_other"] (spAddUp K)) :
    FnOk P w K mg base CX0 10 f fd ["_law_one", "_law_other"] (spTwoR K) := by
  refine F.ok scTwo (fun vs H Q E h => ?_) (fun cdv Ar outer s H vs Q E hr h => ?_)
  · obtain ⟨a, b, ns, ms, rfl, _⟩ := h
    rfl
  · obtain ⟨a, b, ns, ms, rfl, ha, hb, hF, hG, hs, k⟩ := h
    refine ⟨_, pss_cons (ps_asg (pe_tup (pa_cons (pe_mk1 A.ini pass0 hr (by decide) (by rfl) Cl.g (pa_cons (pv 0) pa_nil)) (pa_cons (pe_mk1 A.ini pass0 hr (by decide) (by rfl) Cl.g (pa_cons (pv 1) pa_nil)) (pa_cons (pe_lst (pa_cons (pe_def Pu hr (by decide) (by rfl) (pa_cons (pv 0) (pa_cons (pv 1) pa_nil))) (pa_cons (pe_def Au hr (by decide) (by rfl) (pa_cons (pv 0) (pa_cons (pv 1) pa_nil))) pa_nil))) pa_nil)))) (pg_tup rfl (pgs_cons (pg_name (i := 2) scTwo.nd rfl (Or.inr rfl)) (pgs_cons (pg_name (i := 3) scTwo.nd rfl (Or.inr rfl)) (pgs_cons (pg_name (i := 4) scTwo.nd rfl (Or.inl rfl)) pgs_nil)))))
      (pss_cons (ps_set (i := 5) scTwo.nd rfl (Or.inl rfl) (pe_lst (pa_cons (pe_op (op_add1 (E := X0) A.add addQ hr (by decide)) (pv 2) (pv 3)) (pa_cons (pe_me1 Cl.cl A.over (E := X0) (passes_call L2.takes0 (fun _ _ _ _ h => h)) hr (by decide) (pv 2) (pa_cons (pv 3) pa_nil)) pa_nil))))
      (pss_cons (ps_if (PW.pt (pw_or (pt_cmpR (op_neD hr.units) (pe_lc (own := [("_law_found", 6)]) (g := gName 6) (tt := tYes) rfl scTwo.nd (pi_list (pv 5)) (blkOk_by (N := ["_law_one", "_law_other", "_law_kind_here", "_law_more", "_law_due", "_law_both", "_law_found", "_law_rows", "_law_at"]) (sc := defScope sTwo) (by decide +kernel)) (fun _ _ _ _ _ => pg_name (i := 6) scTwo.nd rfl (Or.inl rfl)) (fun _ _ _ _ _ => pts_nil) (fun _ _ _ _ _ => by exact (pe_pro1 Cl.cl A.numbers hr (by decide) (pv 6)))) (pv 4) (nomark _)) (pw_or1 (pt_cmpR (op_neL same_mon (same_eq A.eq) (hr.mono (by decide))) (pv 5) (pe_lst (pa_cons (pe_op (op_add1 (E := X0) A.add addQ hr (by decide)) (pv 3) (pv 2)) (pa_cons (pe_me1 Cl.cl A.over (E := X0) (passes_call L2.takes0 (fun _ _ _ _ h => h)) hr (by decide) (pv 3) (pa_cons (pv 2) pa_nil)) pa_nil))) (nomark _))))) (pss_one (ps_ret pe_bl)) pss_nil)
      (pss_cons (ps_if (PW.pt (pw_or (pt_cmpR (op_ne1 Cl.ne A.eq hr (by decide)) (pe_pro1 Cl.cl A.turned hr (by decide) (pe_ix ix_list (pv 5) pe_int (fun _ _ => rfl))) (pe_me1 Cl.cl A.over (E := X0) (passes_call L2.takes0 (fun _ _ _ _ h => h)) hr (by decide) (pe_pro1 Cl.cl A.turned hr (by decide) (pv 2)) (pa_cons (pe_pro1 Cl.cl A.turned hr (by decide) (pv 3)) pa_nil)) (nomark _)) (pw_or1 (pt_cmpR (op_ne1 Cl.ne A.eq hr (by decide)) (pe_pro1 Cl.cl A.turned hr (by decide) (pe_ix ix_list (pv 5) pe_int (fun _ _ => rfl))) (pe_op (op_add1 (E := X0) A.add addQ hr (by decide)) (pe_pro1 Cl.cl A.turned hr (by decide) (pv 2)) (pe_pro1 Cl.cl A.turned hr (by decide) (pv 3))) (nomark _))))) (pss_one (ps_ret pe_bl)) pss_nil)
      (pss_cons (ps_if (PW.pt (pw_or (pt_cmpR op_ne (pe_pro1 Cl.cl A.slant hr (by decide) (pe_ix ix_list (pv 5) pe_int (fun _ _ => rfl))) (pe_op op_add (pe_pro1 Cl.cl A.slant hr (by decide) (pv 2)) (pe_pro1 Cl.cl A.slant hr (by decide) (pv 3))) (nomark _)) (pw_or1 (pt_cmpR (op_neT same_mon (same_eq A.eq) (hr.mono (by decide))) (pe_tup (pa_cons (pe_op (op_add1 (E := X0) A.add addQ hr (by decide)) (pv 2) (pe_mk0 A.ini pass0 hr (by decide) (by rfl) Cl.g)) (pa_cons (pe_me1 Cl.cl A.over (E := X0) (passes_call L2.takes0 (fun _ _ _ _ h => h)) hr (by decide) (pv 2) (pa_cons (pe_mk0 A.ini pass0 hr (by decide) (by rfl) Cl.g) pa_nil)) pa_nil))) (pe_tup (pa_cons (pv 2) (pa_cons (pv 2) pa_nil))) (nomark _))))) (pss_one (ps_ret pe_bl)) pss_nil)
      (pss_cons (ps_setLc (i := 7) (own := [("_law_at", 8)]) (g := gName 8) (tt := tYes) rfl scTwo.nd rfl rfl (sw_true rfl rfl rfl (by decide +kernel)) (pi_range1 (by rfl) T.range (pa_cons pe_int pa_nil)) (blkOk_by (N := ["_law_one", "_law_other", "_law_kind_here", "_law_more", "_law_due", "_law_both", "_law_found", "_law_rows", "_law_at"]) (sc := defScope sTwo) (by decide +kernel)) (fun _ _ _ _ _ => pg_name (i := 8) scTwo.nd rfl (Or.inl rfl)) (fun _ _ _ _ _ => pts_nil) (fun _ _ _ _ _ => by exact (pe_op op_mul (pe_it1 A.item (E := fun _ => X0) (fun _ => quiet0) hr (by decide) (pe_pro1 Cl.cl A.turned hr (by decide) (pv 2)) (pv 8)) (pe_it1 A.item (E := fun _ => X0) (fun _ => quiet0) hr (by decide) (pe_pro1 Cl.cl A.turned hr (by decide) (pv 3)) (pv 8)))))
      (pss_one (ps_ret (pe_cmpR op_eq (pe_pro1 Cl.cl A.slant hr (by decide) (pe_ix ix_list (pv 5) pe_int (fun _ _ => rfl))) (pe_op op_add (pe_op op_add (pe_pro1 Cl.cl A.slant hr (by decide) (pv 2)) (pe_pro1 Cl.cl A.slant hr (by decide) (pv 3))) (pe_callB (call_sumS rfl) (by rfl) T.sum (by decide +kernel) (pa_cons (pv 7) pa_nil))) (nomark _))))))))), ?_⟩
    walk_at "rd"
    refine g_make ?_
    walk_at "rd"
    refine g_mk3 ha hF fun H1 p n t m e1 hp => ?_
    walk_at "rd"
    refine g_make ?_
    walk_at "rd"
    refine g_mk3 (hb.ext e1) hG fun H2 q n2 t2 m2 e2 hq => ?_
    walk_at "rd"
    have hp2 := hp.ext e2
    have ha2 := (ha.ext e1).ext e2
    have hb2 := (hb.ext e1).ext e2
    refine ⟨a, b, ns, ms, rfl, ha2.sq, hb2.sq, hF, hG, fun H3 u e3 hu => ?_⟩
    walk_at "rd"
    refine ⟨a, b, ns, ms, rfl, (ha2.ext e3).sq, (hb2.ext e3).sq, hF, hG, fun H4 v e4 hv => ?_⟩
    walk_at "rd"
    refine ⟨by show 2 ≤ sizeLine; decide, fun D1 hD1 => ?_⟩
    have e5 := Ext.new (o := HO.lst [V.ref u, V.ref v]) hD1
    walk_at "rd"
    refine ⟨by show 3 ≤ sizeLine; decide, fun z hz => ?_⟩
    have e6 := Ext.new (o := HO.tup [V.ref p, V.ref q, V.ref D1]) hz
    have e36 := Ext.trans e3 (Ext.trans e4 (Ext.trans e5 e6))
    have d6 := e6 _ _ (upd_same : upd H4 D1 (HO.lst [V.ref u, V.ref v]) D1 = _)
    have hp6 := hp2.ext e36
    have hq6 := hq.ext e36
    have hu6 := hu.ext (Ext.trans e4 (Ext.trans e5 e6))
    have hv6 := hv.ext (Ext.trans e5 e6)
    have eA := Ext.trans e1 (Ext.trans e2 e36)
    refine ⟨z, _, rfl, SqT.of upd_same, rfl, _, _, rfl, ?_⟩
    refine ⟨_, _, rfl, ?_⟩
    refine ⟨_, _, rfl, rfl, ?_⟩
    generalize upd (upd H4 D1 (HO.lst [V.ref u, V.ref v])) z (HO.tup [V.ref p, V.ref q, V.ref D1]) = G at d6 hp6 hq6 hu6 hv6 eA ⊢
    walk_at "rd"
    refine g_addK hp6 hq6 hs fun G1 r n3 t3 m3 f1 hr1 => ?_
    walk_at "rd"
    refine g_me ?_
    walk_at "rd"
    refine g_obj (A := fun x => _) (hp6.ext f1) (by decide) (by decide) ?_
    walk_at "rd"
    refine g_two (hp6.ext f1) (hq6.ext f1) hs fun G2 o n4 t4 m4 f2 ho2 => ?_
    walk_at "rd"
    refine ⟨by show 2 ≤ sizeLine; decide, fun B hB => ?_⟩
    have f3 := Ext.new (o := HO.lst [V.ref r, V.ref o]) hB
    have f13 := Ext.trans f1 (Ext.trans f2 f3)
    have b3 : upd G2 B (HO.lst [V.ref r, V.ref o]) B = some (.lst [.ref r, .ref o]) := upd_same
    have d3 := f13 _ _ d6
    have hp3 := hp6.ext f13
    have hq3 := hq6.ext f13
    have hu3 := hu6.ext f13
    have hv3 := hv6.ext f13
    have hr3 := (hr1.ext f2).ext f3
    have ho3 := ho2.ext f3
    have eB := Ext.trans eA f13
    generalize upd G2 B (HO.lst [V.ref r, V.ref o]) = G3 at b3 d3 hp3 hq3 hu3 hv3 hr3 ho3 eB ⊢
    have ero : r = o → n3 = n4 := fun z => by
      obtain ⟨d1, h1⟩ := hr3.ins
      obtain ⟨d2, h2⟩ := ho3.ins
      rw [z, h2] at h1
      cases h1
      rfl
    walk_at "rd"
    refine g_lc (g_ilist ?_)
    walk_at "rd"
    refine lcL (SqL.of b3) (by show 2 < sizeLine; decide) (fun _ => true) (fun x => if x = V.ref r then .ref n3 else .ref n4) (fun x G4 hx g1 Qe Qn he hn => ?_) (fun G4 D2 g1 hD2 hd2 => ?_)
    · refine ⟨rfl, ?_⟩
      walk_at "rd"
      rcases List.mem_cons.mp hx with rfl | hx
      · refine g_gets (hr3.ext g1) fun G5 g2 => ?_
        have := he G5 g2 rfl
        rw [if_pos rfl] at this
        exact this
      · rw [List.mem_singleton.mp hx] at he ⊢
        refine g_gets (ho3.ext g1) fun G5 g2 => ?_
        have := he G5 g2 rfl
        by_cases z : r = o
        · rw [if_pos (by rw [z])] at this
          rw [← ero z]
          exact this
        · rw [if_neg (fun q => z (by cases q; rfl))] at this
          exact this
    have ed : (([V.ref r, V.ref o].filter fun _ => true).map fun x => if x = V.ref r then V.ref n3 else .ref n4) = [.ref n3, .ref n4] := by
      rw [List.filter_eq_self.mpr (fun _ _ => rfl)]
      show [if V.ref r = V.ref r then V.ref n3 else .ref n4, if V.ref o = V.ref r then V.ref n3 else .ref n4] = _
      rw [if_pos rfl]
      by_cases z : r = o
      · rw [if_pos (by rw [z]), ero z]
      · rw [if_neg (fun q => z (by cases q; rfl))]
    rw [ed] at hd2
    walk_at "rd"
    refine g_neTwo (SqL.of hd2) (SqL.of (g1 _ _ d3)) (hr3.ext g1).num.sq (ho3.ext g1).num.sq (hu3.ext g1).sq (hv3.ext g1).sq ?_
    walk_at "rd"
    have hs' : ms.sum + ns.sum ≤ 12 := by omega
    have hp4 := hp3.ext g1
    have hq4 := hq3.ext g1
    refine g_addK hq4 hp4 hs' fun G5 r2 n5 t5 m5 g2 hr2 => ?_
    rw [join_comm hG hF] at hr2
    walk_at "rd"
    refine g_me ?_
    walk_at "rd"
    refine g_obj (A := fun x => _) (hq4.ext g2) (by decide) (by decide) ?_
    walk_at "rd"
    refine g_two (hq4.ext g2) (hp4.ext g2) hs' fun G6 o2 n6 t6 m6 g3 ho22 => ?_
    rw [add_comm'] at ho22
    walk_at "rd"
    refine ⟨by show 2 ≤ sizeLine; decide, fun L hL => ?_⟩
    have g4 := Ext.new (o := HO.lst [V.ref r2, V.ref o2]) hL
    have g14 := Ext.trans g1 (Ext.trans g2 (Ext.trans g3 g4))
    refine ⟨⟨B, L, _, _, rfl, rfl, g14 _ _ b3, upd_same, Prs.cons (same_ins (hr3.ext g14) ((hr2.ext g3).ext g4)) (Prs.cons (same_ins (ho3.ext g14) (ho22.ext g4)) Prs.nil)⟩, fun G7 g5 => ?_⟩
    have gA := Ext.trans g14 g5
    have b7 := gA _ _ b3
    have hp7 := hp3.ext gA
    have hq7 := hq3.ext gA
    have hr7 := hr3.ext gA
    have ho7 := ho3.ext gA
    have eC := Ext.trans eB gA
    have hsT : (turnM ns).sum + (turnM ms).sum ≤ 12 := by rw [hF.one.sum, hG.one.sum]; exact hs
    walk_at "rd"
    refine g_ixL (SqL.of b7) (v := .ref r) (atI_nat (j := 0) rfl) ?_
    walk_at "rd"
    refine g_makes hr7 fun G8 x1 y1 y2 y3 i1 hx1 => ?_
    walk_at "rd"
    refine g_me ?_
    walk_at "rd"
    refine g_makes (hp7.ext i1) fun G9 x2 y4 y5 y6 i2 hx2 => ?_
    refine g_obj (A := fun x => _) hx2 (by decide) (by decide) ?_
    walk_at "rd"
    have i12 := Ext.trans i1 i2
    refine g_makes (hq7.ext i12) fun G10 x3 y7 y8 y9 i3 hx3 => ?_
    walk_at "rd"
    refine g_two (hx2.ext i3) hx3 hsT fun G11 x4 z1 z2 z3 i4 hx4 => ?_
    have i24 := Ext.trans i2 (Ext.trans i3 i4)
    refine g_neK Cl (hx1.ext i24) hx4 fun G12 i5 => ?_
    rw [turn_join hF hG hs, decide_eq_true rfl]
    walk_at "rd"
    have i15 := Ext.trans i1 (Ext.trans i24 i5)
    refine g_ixL (SqL.of (i15 _ _ b7)) (v := .ref o) (atI_nat (j := 1) rfl) ?_
    walk_at "rd"
    refine g_makes (ho7.ext i15) fun G13 x5 z4 z5 z6 i6 hx5 => ?_
    walk_at "rd"
    have i16 := Ext.trans i15 i6
    refine g_makes (hp7.ext i16) fun G14 x6 z7 z8 z9 i7 hx6 => ?_
    walk_at "rd"
    refine g_makes ((hq7.ext i16).ext i7) fun G15 x7 w1 w2 w3 i8 hx7 => ?_
    walk_at "rd"
    refine g_addK (hx6.ext i8) hx7 hsT fun G16 x8 w4 w5 w6 i9 hx8 => ?_
    refine g_neK Cl (hx5.ext (Ext.trans i7 (Ext.trans i8 i9))) hx8 fun G17 i10 => ?_
    rw [turn_add hF hG hs, decide_eq_true rfl]
    walk_at "rd"
    have jA := Ext.trans i16 (Ext.trans i7 (Ext.trans i8 (Ext.trans i9 i10)))
    have b8 := jA _ _ b7
    have hp8 := hp7.ext jA
    have hq8 := hq7.ext jA
    have hr8 := hr7.ext jA
    have ho8 := ho7.ext jA
    have eD := Ext.trans eC jA
    refine g_ixL (SqL.of b8) (v := .ref o) (atI_nat (j := 1) rfl) ?_
    walk_at "rd"
    refine g_gets ho8 fun G18 j1 => ?_
    walk_at "rd"
    refine g_gets (hp8.ext j1) fun G19 j2 => ?_
    walk_at "rd"
    have j12 := Ext.trans j1 j2
    refine g_gets (hq8.ext j12) fun G20 j3 => ?_
    walk_at "rd"
    refine g_neS1 (slant_add hF hG) ?_
    walk_at "rd"
    have j13 := Ext.trans j12 j3
    have hp9 := hp8.ext j13
    have b9 := j13 _ _ b8
    have hq9 := hq8.ext j13
    have hr9 := hr8.ext j13
    have hn0 : ns.sum + ([] : List Int).sum ≤ 12 := by
      have := hF.sum
      simpa using this
    refine g_make ?_
    walk_at "rd"
    refine g_mk3 (ns := []) (ht0 _) fall_nil fun I1 v1 v2 v3 v4 l1 hv1 => ?_
    walk_at "rd"
    refine g_addK (hp9.ext l1) hv1 hn0 fun I2 v5 v6 v7 v8 l2 hv5 => ?_
    rw [join_nil hF] at hv5
    walk_at "rd"
    have l12 := Ext.trans l1 l2
    refine g_me ?_
    walk_at "rd"
    refine g_obj (A := fun x => _) (hp9.ext l12) (by decide) (by decide) ?_
    refine g_cons ?_
    refine g_make ?_
    walk_at "rd"
    refine g_mk3 (ns := []) (ht0 _) fall_nil fun I3 v9 u2 u3 u4 l3 hv9 => ?_
    walk_at "rd"
    refine g_two ((hp9.ext l12).ext l3) hv9 hn0 fun I4 u5 u6 u7 u8 l4 hu5 => ?_
    rw [add_nil] at hu5
    walk_at "rd"
    have l14 := Ext.trans l12 (Ext.trans l3 l4)
    refine ⟨by show 2 ≤ sizeLine; decide, fun z1 hz1 => ?_⟩
    have l5 := Ext.new (o := HO.tup [V.ref v5, V.ref u5]) hz1
    walk_at "rd"
    refine ⟨by show 2 ≤ sizeLine; decide, fun z2 hz2 => ?_⟩
    have l6 := Ext.new (o := HO.tup [V.ref p, V.ref p]) hz2
    have l56 := Ext.trans l5 l6
    have hpE := (hp9.ext l14).ext l56
    refine ⟨⟨z1, z2, _, _, rfl, rfl, SqT.of (l6 _ _ upd_same), SqT.of upd_same, Prs.cons (same_ins (((hv5.ext l3).ext l4).ext l56) hpE) (Prs.cons (same_ins (hu5.ext l56) hpE) Prs.nil)⟩, fun I5 l7 => ?_⟩
    have lA := Ext.trans l14 (Ext.trans l56 l7)
    have hp10 := hp9.ext lA
    have hq10 := hq9.ext lA
    have hr10 := hr9.ext lA
    have b10 := lA _ _ b9
    have eE := Ext.trans eD (Ext.trans j13 lA)
    walk_at "rd"
    refine g_lc (g_rng1 ?_)
    walk_at "rd"
    refine ⟨by decide, by decide, ?_⟩
    have hT := hF.one.fall
    have hU := hG.one.fall
    refine lcR (n := 13) (small (by omega)) (fun _ => true) (fun i => .int ((turnM ns).getD i 0 * (turnM ms).getD i 0)) (fun i I6 hi n1 Qe Qn he hn => ?_) (fun I6 D3 n1 hD3 hd3 => ?_)
    · rw [Int.zero_add]
      refine ⟨rfl, ?_⟩
      walk_at "rd"
      refine g_ixO ?_
      walk_at "rd"
      refine g_makes (hp10.ext n1) fun I7 k1 k2 k3 k4 n2 hk1 => ?_
      walk_at "rd"
      obtain ⟨dk, hki⟩ := hk1.ins
      refine ⟨k1, dk, _, rfl, hki, k1, k2, k3, k4, turnM ns, i, rfl, hk1, by omega, ?_⟩
      walk_at "rd"
      refine g_ixO ?_
      walk_at "rd"
      refine g_makes ((hq10.ext n1).ext n2) fun I8 k5 k6 k7 k8 n3 hk5 => ?_
      walk_at "rd"
      obtain ⟨dk5, hki5⟩ := hk5.ins
      refine ⟨k5, dk5, _, rfl, hki5, k5, k6, k7, k8, turnM ms, i, rfl, hk5, by omega, ?_⟩
      have a1 := hT.at i
      have a2 := hU.at i
      refine g_I (mulS (by omega) (by omega) (by omega) (by omega)) ?_
      exact he _ (Ext.trans n2 n3) rfl
    · rw [idx_all] at hd3
      walk_at "rd"
      refine g_ixL (SqL.of (n1 _ _ b10)) (v := .ref r) (atI_nat (j := 0) rfl) ?_
      walk_at "rd"
      refine g_gets (hr10.ext n1) fun I7 n2 => ?_
      walk_at "rd"
      have n12 := Ext.trans n1 n2
      refine g_gets (hp10.ext n12) fun I8 n3 => ?_
      walk_at "rd"
      have n13 := Ext.trans n12 n3
      refine g_gets (hq10.ext n13) fun I9 n4 => ?_
      walk_at "rd"
      refine ⟨D3, (List.range 13).map fun i => (turnM ns).getD i 0 * (turnM ms).getD i 0, rfl, .inl (SqL.of ?_), ?_⟩
      · rw [List.map_map]
        exact n4 _ _ (n3 _ _ (n2 _ _ hd3))
      walk_at "rd"
      have ej : slantM (joinM ns ms) = slantM ns + slantM ms + ((List.range 13).map fun i => (turnM ns).getD i 0 * (turnM ms).getD i 0).sum := slant_join hF hG hs
      rw [decide_eq_true ej]
      exact k _ (Ext.trans eE (Ext.trans n13 n4))
end
end Q0

set_option Elab.async false
set_option linter.all false
set_option maxRecDepth 100000
set_option maxHeartbeats 4000000
/-! What the law asks of all pairs of a size. -/
namespace Q0
open PySem PySem.Spec PyProof.Rows L2 Gd
local macro_rules | `(tactic| walk_at "rd1") => `(tactic| first | with_reducible refine g_ret ?_ | with_reducible refine g_retN ?_ | with_reducible refine g_seq ?_ | with_reducible refine g_next ?_ | with_reducible refine g_drop ?_ | with_reducible refine g_asg ?_ | with_reducible refine g_name ?_ | with_reducible refine g_ifs ?_ | with_reducible refine g_test ?_ | with_reducible refine g_tb ?_ | with_reducible refine g_and ?_ | with_reducible refine g_or ?_ | with_reducible refine g_not ?_ | with_reducible refine g_andV ?_ | with_reducible refine g_orV ?_ | with_reducible refine g_notV ?_ | with_reducible refine g_if ?_ | with_reducible refine g_op ?_ | with_reducible refine g_un ?_ | with_reducible refine g_cb ?_ | with_reducible refine g_nil ?_ | with_reducible refine g_cons ?_ | with_reducible refine g_call ?_ | with_reducible refine g_callS ?_ | with_reducible refine g_tup ?_ | with_reducible refine g_lst ?_ | with_reducible refine g_isN ?_ | with_reducible refine g_sl ?_ | with_reducible refine g_nopart ?_ | with_reducible refine g_part ?_ | with_reducible refine g_chain ?_ | with_reducible refine g_fld ?_ | with_reducible refine g_prop ?_ | with_reducible refine g_bm ?_ | with_reducible refine g_bm0 ?_ | with_reducible refine g_c ?_ | with_reducible refine g_sub ?_ | with_reducible refine g_int1 ?_ | with_reducible refine g_int2 ?_ | with_reducible refine g_yes ?_ | with_reducible refine g_sfld ?_ | with_reducible refine g_NT ?_ | with_reducible refine g_NF ?_ | with_reducible refine iteT ?_ | with_reducible refine iteF ?_ | ((with_reducible refine' g_aug ?hv ?_); (case hv => exact rfl)) | ((with_reducible refine' g_var ?hv ?_); (case hv => exact rfl)) | with_reducible refine g_I0 ?_ | with_reducible refine g_U ?_ | with_reducible refine g_eqI ?_ | with_reducible refine g_blV ?_ | with_reducible refine g_inV ?_)
local macro_rules | `(tactic| walk_at "rd") => `(tactic| repeat walk_at "rd1")
section
variable {P : Program} {w : World} {K : PySem.W.Frag} {mg : Str → Option Value} {base : Heap} {f C t0 CT : Addr} {fd : FuncData}
abbrev sTopR : Stmt := top 45
theorem scTopR : FnScope ["_law_size", "_law_one", "_law_other", "_law_kind_here", "_law_more", "_law_is_top"] ["_law_size"] (defScope sTopR) := ⟨rfl, rfl, rfl, by decide +kernel, rfl, by decide +kernel, by decide +kernel⟩
def spTopR : Sp := fun vs H Q _ => ∃ size : Nat, vs = [.int (size : Int)] ∧ size ≤ 7 ∧ ∀ H', Ext H H' → Q (.bl true) H'
theorem g_eqTu {H : Hp} {Q : VK} {a b : Addr} {ns ms : List Int} (ha : SqT K H a (ns.map V.int)) (hb : SqT K H b (ms.map V.int)) (k : Q (.bl (decide (ns = ms))) H) : rEqD K (.ref a) (.ref b) H Q := by
  refine ⟨_, _, .tup ha (pdp ns), .tup hb (pdp ms), sh_row ns, sh_row ms, ?_⟩
  have e : PyData.eqv (.tuple (pdata ns)) (.tuple (pdata ms)) = decide (ns = ms) := by
    simp only [PyData.eqv, peqv]
  rw [e]
  exact k
theorem g_ltK (Cl : KC K mg C) {H : Hp} {Q : VK} {p n t m q n2 t2 m2 : Addr} {ns ms : List Int} (hP : KindAt K C H p n t m ns) (hQ : KindAt K C H q n2 t2 m2 ms) (k : ∀ H', Ext H H' → Q (.bl (pairLt ns.sum ms.sum (negM ns) (negM ms))) H') :
    rCmpO K C (spTwo K C (fun _ _ => True) fun ns ms => .bl (pairLt ns.sum ms.sum (negM ns) (negM ms))) X0 (.ref p) (.ref q) H Q := by
  obtain ⟨dx, hp⟩ := id hP.ins
  obtain ⟨dy, hq⟩ := id hQ.ins
  exact ⟨p, dx, _, _, rfl, hp, Cl.ty hq, notFirst_self, p, n, t, m, q, n2, t2, m2, ns, ms, rfl, hP, hQ, trivial, fun H' e => ⟨⟨_, rfl⟩, k H' e⟩⟩
theorem g_neBl {H : Hp} {Q : VK} {x y : Bool} (e : x = y) (k : Q (.bl false) H) : rNe (.bl x) (.bl y) H Q := by
  subst e
  exact ⟨rfl, by simpa using k⟩
theorem g_forL {te : TE} {g : TG} {tb : TS} {D : Ends} {σ : L2.St} {H : Hp} (k : te σ H fun x H1 => ∃ a, x = .ref a ∧ (∃ xs, SqL K H1 a xs) ∧ ∃ W : Nat → Nat → L2.St → Hp → Prop, (∃ m, W 0 m σ H1) ∧ ∀ i m σ H, W i m σ H →
  ((Itl K a).stop i H ∧ D.nx σ H) ∨ ((Itl K a).go i H ∧ ∃ N : L2.St → Hp → Prop, (∀ σ' H', N σ' H' → ∃ m', m' < m ∧ W (i + 1) m' σ' H') ∧ ∀ x H', (Itl K a).yld i H x H' → g x σ H' fun σ2 H2 => tb { D with nx := N, ct := N, bk := D.nx } σ2 H2)) :
    tFor (iList K te) g tb D σ H := k
theorem ok_topR (F : Fun K "_law_are_tops_right" "_law_are_tops_right" sTopR f fd) (T : Txt K mg) (Cl : KC K mg C) (A : Api P w K mg base C t0 CT) (Ks : Def1 P w K mg base CX0 1 "_law_kinds" ["_law_size"] (spKinds K))
    (Dt : Def1 P w K mg base CX0 1 "_law_does_top" ["_law_kind_here", "_law_other"] (spDoesTop K)) (Dh : Def1 P w K mg base CX0 1 "_law_does_hold" ["_law_kind_here", "_law_other"] (spDoesHold K)) : FnOk P w K mg base CX0 10 f fd ["_law_size"] spTopR := by
  refine F.ok scTopR (fun vs H Q E h => ?_) (fun cdv Ar outer s H vs Q E hr h => ?_)
  · obtain ⟨size, rfl, _⟩ := h
    rfl
  · obtain ⟨size, rfl, hsz, k⟩ := h
    refine ⟨_, pss_cons (ps_for PassesOwn.never rfl (pi_list (pe_def Ks hr (by decide) (by rfl) (pa_cons (pv 0) pa_nil))) (pg_name (i := 1) scTopR.nd rfl (Or.inl rfl)) (pss_cons (ps_for PassesOwn.never rfl (pi_list (pe_def Ks hr (by decide) (by rfl) (pa_cons (pv 0) pa_nil))) (pg_name (i := 2) scTopR.nd rfl (Or.inl rfl)) (pss_cons (ps_par (i := 3) (j := 4) (by rfl) scTopR.nd rfl rfl (by decide) rfl rfl (pa_cons (pe_mk1 A.ini pass0 hr (by decide) (by rfl) Cl.g (pa_cons (pv 1) pa_nil)) (pa_cons (pe_mk1 A.ini pass0 hr (by decide) (by rfl) Cl.g (pa_cons (pv 2) pa_nil)) pa_nil)) (by rfl))
      (pss_cons (ps_set (i := 5) scTopR.nd rfl (Or.inl rfl) (pe_def Dt hr (by decide) (by rfl) (pa_cons (pv 1) (pa_cons (pv 2) pa_nil))))
      (pss_cons (ps_if (PW.pt (pw_or (pt_cmpR op_ne (pe_me1 (E := X0) Cl.cl A.tops pass0 hr (by decide) (pv 3) (pa_cons (pv 4) pa_nil)) (pv 5) (nomark _)) (pw_or1 (pt_cmpR op_ne (pe_me1 (E := X0) Cl.cl A.tops pass0 hr (by decide) (pe_pro1 Cl.cl A.turned hr (by decide) (pv 4)) (pa_cons (pe_pro1 Cl.cl A.turned hr (by decide) (pv 3)) pa_nil)) (pv 5) (nomark _))))) (pss_one (ps_ret pe_bl)) pss_nil)
      (pss_one (ps_if (PW.pt (pw_or (PW.pt (pw_and (pt_val (pv 5)) (pw_and1 (PW.pt (pw_or (pt_cmpR op_gt (pe_pro1 Cl.cl A.slant hr (by decide) (pv 3)) (pe_pro1 Cl.cl A.slant hr (by decide) (pv 4)) (nomark _)) (pw_or1 (pt_cmpR (op_lt1 A.lt hr (by decide)) (pv 4) (pv 3) (nomark _)))))))) (pw_or1 (pt_cmpR op_ne (pe_me1 (E := X0) Cl.cl A.holds pass0 hr (by decide) (pv 3) (pa_cons (pv 4) pa_nil)) (pe_cmpR (op_eqD hr.units) (pv 1) (pv 2) (nomark _)) (nomark _))))) (pss_one (ps_ret pe_bl)) pss_nil))))))
      (pss_one (ps_for PassesOwn.never rfl (pi_list (pe_ifExp (pt_cmpR op_gt (pv 0) pe_int (nomark _)) (pe_def Ks hr (by decide) (by rfl) (pa_cons (pe_op op_sub (pv 0) pe_int) pa_nil)) (pe_lst pa_nil))) (pg_name (i := 2) scTopR.nd rfl (Or.inl rfl)) (pss_one (ps_if (PW.pt (pw_or (pt_cmpR op_ne (pe_me1 (E := X0) Cl.cl A.holds pass0 hr (by decide) (pe_mk1 A.ini pass0 hr (by decide) (by rfl) Cl.g (pa_cons (pv 1) pa_nil)) (pa_cons (pe_mk1 A.ini pass0 hr (by decide) (by rfl) Cl.g (pa_cons (pv 2) pa_nil)) pa_nil)) (pe_def Dh hr (by decide) (by rfl) (pa_cons (pv 1) (pa_cons (pv 2) pa_nil))) (nomark _)) (pw_or1 (pt_val (pe_me1 (E := X0) Cl.cl A.holds pass0 hr (by decide) (pe_mk1 A.ini pass0 hr (by decide) (by rfl) Cl.g (pa_cons (pv 2) pa_nil)) (pa_cons (pe_mk1 A.ini pass0 hr (by decide) (by rfl) Cl.g (pa_cons (pv 1) pa_nil)) pa_nil)))))) (pss_one (ps_ret pe_bl)) pss_nil))))))
      (pss_one (ps_ret pe_bl)), ?_⟩
    walk_at "rd"
    refine g_forL ?_
    walk_at "rd"
    refine ⟨size, rfl, by omega, fun H1 L1 fs1 e1 hL1 hfs1 _ hlen1 hf1 => ?_⟩
    refine ⟨L1, rfl, ⟨_, SqL.of hfs1⟩, for_list (fun _ σ' H' => ∃ x1 x2 x3 x4 x5 : Option V, σ' = [some (.int (size : Int)), x1, x2, x3, x4, x5] ∧ Ext H1 H') ⟨_, _, _, _, _, rfl, fun _ _ z => z⟩ (fun i σ' H' _ ⟨_, _, _, _, _, _, e⟩ => SqL.of (e _ _ hfs1)) ?_ ?_⟩
    rotate_left
    · rintro σ' H' ⟨x1, x2, x3, x4, x5, rfl, e⟩
      walk_at "rd"
      exact k H' (Ext.trans e1 e)
    rintro i x σ' H2 hx ⟨x1, x2, x3, x4, x5, rfl, e2⟩
    obtain ⟨a, ns, rfl, hat, hF, hsum⟩ := hf1 x (List.mem_of_getElem? hx)
    have ha2 := hat.ext e2
    walk_at "rd"
    refine g_forL ?_
    walk_at "rd"
    refine ⟨size, rfl, by omega, fun H3 Lb fs2 e3 hL2 hfs2 _ hlen2 hf2 => ?_⟩
    refine ⟨Lb, rfl, ⟨_, SqL.of hfs2⟩, for_list (fun _ σ' H' => ∃ x2 x3 x4 x5 : Option V, σ' = [some (.int (size : Int)), some (.ref a), x2, x3, x4, x5] ∧ Ext H3 H') ⟨_, _, _, _, rfl, fun _ _ z => z⟩ (fun i σ' H' _ ⟨_, _, _, _, _, e⟩ => SqL.of (e _ _ hfs2)) ?_ ?_⟩
    · rintro j y σ' H4 hy ⟨x2, x3, x4, x5, rfl, e4⟩
      obtain ⟨b, ms, rfl, hbt, hG, hsum2⟩ := hf2 y (List.mem_of_getElem? hy)
      have ha4 := (ha2.ext e3).ext e4
      have hb4 := hbt.ext e4
      have chk := tops_all
      simp only [List.all_eq_true, List.mem_range] at chk
      have chk := chk size (by omega) ns (hF.mem hsum) ms (hG.mem hsum2)
      unfold chkT at chk
      simp only [Bool.and_eq_true, beq_iff_eq] at chk
      obtain ⟨⟨⟨c1, c2⟩, c3⟩, c4⟩ := chk
      walk_at "rd"
      refine g_seqP ?_
      walk_at "rd"
      refine g_make ?_
      walk_at "rd"
      refine g_mk3 ha4 hF fun H5 p n t m e5 hp => ?_
      walk_at "rd"
      refine g_make ?_
      walk_at "rd"
      refine g_mk3 (hb4.ext e5) hG fun H6 q n2 t2 m2 e6 hq => ?_
      walk_at "rd"
      refine ⟨_, _, rfl, ?_⟩
      walk_at "rd"
      have e56 := Ext.trans e5 e6
      refine ⟨a, b, ns, ms, rfl, (ha4.ext e56).sq, (hb4.ext e56).sq, fun H7 e7 => ?_⟩
      walk_at "rd"
      have hp7 := (hp.ext e6).ext e7
      have hq7 := hq.ext e7
      refine g_me ?_
      walk_at "rd"
      refine g_obj (A := fun x => _) hp7 (by decide) (by decide) ?_
      walk_at "rd"
      refine ⟨p, n, t, m, q, n2, t2, m2, ns, ms, rfl, hp7, hq7, by omega, fun H8 e8 => ?_⟩
      walk_at "rd"
      refine g_neBl c1 ?_
      walk_at "rd"
      have hp8 := hp7.ext e8
      have hq8 := hq7.ext e8
      refine g_me ?_
      walk_at "rd"
      refine g_makes hq8 fun H9 q2 n3 t3 m3 e9 hq2 => ?_
      refine g_obj (A := fun x => _) hq2 (by decide) (by decide) ?_
      walk_at "rd"
      refine g_makes (hp8.ext e9) fun H10 p2 n4 t4 m4 e10 hp2 => ?_
      walk_at "rd"
      refine ⟨q2, n3, t3, m3, p2, n4, t4, m4, turnM ms, turnM ns, rfl, hq2.ext e10, hp2, (by show (turnM ms).sum = (turnM ns).sum; rw [hF.one.sum, hG.one.sum]; omega), fun H11 e11 => ?_⟩
      walk_at "rd"
      refine g_neBl c2 ?_
      walk_at "rd"
      have e811 := Ext.trans e9 (Ext.trans e10 e11)
      have hp11 := hp8.ext e811
      have hq11 := hq8.ext e811
      have eA := Ext.trans e56 (Ext.trans e7 (Ext.trans e8 e811))
      rcases hd : dtopM ns ms with _ | _
      · have FF : Ext H11 H11 := fun _ _ z => z
        walk_at "rd"
        refine g_me ?_
        walk_at "rd"
        refine g_obj (A := fun x => _) (hp11.ext FF) (by decide) (by decide) ?_
        walk_at "rd"
        refine ⟨p, n, t, m, q, n2, t2, m2, ns, ms, rfl, hp11.ext FF, hq11.ext FF, trivial, fun G5 g5 => ?_⟩
        walk_at "rd"
        have eB := Ext.trans eA (Ext.trans FF g5)
        refine g_eqTu ((ha4.ext eB).sq) ((hb4.ext eB).sq) ?_
        refine g_neBl c4 ?_
        walk_at "rd"
        exact ⟨_, _, _, _, rfl, Ext.trans e4 eB⟩
      · rw [hd] at c3
        simp only [Bool.not_true, Bool.false_or, Bool.and_eq_true, Bool.not_eq_true', decide_eq_false_iff_not] at c3
        walk_at "rd"
        refine g_gets hp11 fun G1 g1 => ?_
        walk_at "rd"
        refine g_gets (hq11.ext g1) fun G2 g2 => ?_
        walk_at "rd"
        rw [decide_eq_false c3.1]
        walk_at "rd"
        refine g_ltK Cl ((hq11.ext g1).ext g2) ((hp11.ext g1).ext g2) fun G3 g3 => ?_
        have ep : pairLt ms.sum ns.sum (negM ms) (negM ns) = false := by
          unfold pairLt
          rw [if_pos (by omega)]
          exact c3.2
        rw [ep]
        have FF := Ext.trans g1 (Ext.trans g2 g3)
        walk_at "rd"
        refine g_me ?_
        walk_at "rd"
        refine g_obj (A := fun x => _) (hp11.ext FF) (by decide) (by decide) ?_
        walk_at "rd"
        refine ⟨p, n, t, m, q, n2, t2, m2, ns, ms, rfl, hp11.ext FF, hq11.ext FF, trivial, fun G5 g5 => ?_⟩
        walk_at "rd"
        have eB := Ext.trans eA (Ext.trans FF g5)
        refine g_eqTu ((ha4.ext eB).sq) ((hb4.ext eB).sq) ?_
        refine g_neBl c4 ?_
        walk_at "rd"
        exact ⟨_, _, _, _, rfl, Ext.trans e4 eB⟩
    · rintro σ' H4 ⟨x2, x3, x4, x5, rfl, e4⟩
      have ha4 := (ha2.ext e3).ext e4
      dsimp only
      refine g_forL ?_
      walk_at "rd"
      refine ite2 (fun h0 => ?_) (fun h0 => ?_)
      · have h0' : (0 : Int) < (size : Int) := of_decide_eq_true h0
        have e10 : (size : Int) - 1 = ((size - 1 : Nat) : Int) := by omega
        walk_at "rd"
        rw [e10]
        refine ⟨size - 1, rfl, by omega, fun H5 Lc fs3 e5 hL3 hfs3 _ hlen3 hf3 => ?_⟩
        refine ⟨Lc, rfl, ⟨_, SqL.of hfs3⟩, for_list (fun _ σ' H' => ∃ x2 : Option V, σ' = [some (.int (size : Int)), some (.ref a), x2, x3, x4, x5] ∧ Ext H5 H') ⟨_, rfl, fun _ _ z => z⟩ (fun i σ' H' _ ⟨_, _, e⟩ => SqL.of (e _ _ hfs3)) ?_ ?_⟩
        · rintro j y σ' H6 hy ⟨x2, rfl, e6⟩
          obtain ⟨b, ms, rfl, hbt, hG, hsum2⟩ := hf3 y (List.mem_of_getElem? hy)
          have ha6 := (ha4.ext e5).ext e6
          have hb6 := hbt.ext e6
          have chk := less_all
          simp only [List.all_eq_true, List.mem_range, Bool.or_eq_true, beq_iff_eq, Bool.not_eq_true'] at chk
          have chk := (chk size (by omega)).resolve_left (by omega) ns (hF.mem hsum) ms (hG.mem hsum2)
          walk_at "rd"
          refine g_me ?_
          refine g_make ?_
          walk_at "rd"
          refine g_mk3 ha6 hF fun H7 p n t m e7 hp => ?_
          refine g_obj (A := fun x => _) hp (by decide) (by decide) ?_
          refine g_cons ?_
          refine g_make ?_
          walk_at "rd"
          refine g_mk3 (hb6.ext e7) hG fun H8 q n2 t2 m2 e8 hq => ?_
          walk_at "rd"
          refine ⟨p, n, t, m, q, n2, t2, m2, ns, ms, rfl, hp.ext e8, hq, trivial, fun H9 e9 => ?_⟩
          walk_at "rd"
          have e79 := Ext.trans e7 (Ext.trans e8 e9)
          refine ⟨a, b, ns, ms, rfl, (ha6.ext e79).sq, (hb6.ext e79).sq, hF, hG, fun H10 e10' => ?_⟩
          refine g_neBl rfl ?_
          walk_at "rd"
          have e710 := Ext.trans e79 e10'
          refine g_me ?_
          refine g_make ?_
          walk_at "rd"
          refine g_mk3 (hb6.ext e710) hG fun H11 q n2 t2 m2 e11 hq => ?_
          refine g_obj (A := fun x => _) hq (by decide) (by decide) ?_
          refine g_cons ?_
          refine g_make ?_
          walk_at "rd"
          refine g_mk3 ((ha6.ext e710).ext e11) hF fun H12 p n t m e12 hp => ?_
          walk_at "rd"
          refine ⟨q, n2, t2, m2, p, n, t, m, ms, ns, rfl, hq.ext e12, hp, trivial, fun H13 e13 => ?_⟩
          walk_at "rd"
          rw [chk]
          walk_at "rd"
          exact ⟨_, rfl, Ext.trans e6 (Ext.trans e710 (Ext.trans e11 (Ext.trans e12 e13)))⟩
        · rintro σ' H6 ⟨x2, rfl, e6⟩
          exact ⟨_, _, _, _, _, rfl, Ext.trans e2 (Ext.trans e3 (Ext.trans e4 (Ext.trans e5 e6)))⟩
      · walk_at "rd"
        refine ⟨Nat.zero_le _, fun L hL => ?_⟩
        have eL := Ext.new (o := HO.lst []) hL
        refine ⟨L, rfl, ⟨[], SqL.of upd_same⟩, for_list (xs := []) (fun _ σ' H' => σ' = [some (.int (size : Int)), some (.ref a), x2, x3, x4, x5] ∧ Ext (upd H4 L (.lst [])) H') ⟨rfl, fun _ _ z => z⟩ (fun i σ' H' _ ⟨_, e⟩ => SqL.of (e _ _ upd_same)) (fun i x σ' H' h _ => by cases h) ?_⟩
        rintro σ' H6 ⟨rfl, e6⟩
        exact ⟨_, _, _, _, _, rfl, Ext.trans e2 (Ext.trans e3 (Ext.trans e4 (Ext.trans eL e6)))⟩
end
end Q0

set_option Elab.async false
set_option linter.all false
set_option maxRecDepth 100000
set_option maxHeartbeats 4000000
/-! One draw; the limit. -/
namespace Q0
open PySem PySem.Spec PyProof.Rows L2 Gd
local macro_rules | `(tactic| walk_at "rd1") => `(tactic| first | with_reducible refine g_ret ?_ | with_reducible refine g_retN ?_ | with_reducible refine g_seq ?_ | with_reducible refine g_next ?_ | with_reducible refine g_drop ?_ | with_reducible refine g_asg ?_ | with_reducible refine g_name ?_ | with_reducible refine g_ifs ?_ | with_reducible refine g_test ?_ | with_reducible refine g_tb ?_ | with_reducible refine g_and ?_ | with_reducible refine g_or ?_ | with_reducible refine g_not ?_ | with_reducible refine g_andV ?_ | with_reducible refine g_orV ?_ | with_reducible refine g_notV ?_ | with_reducible refine g_if ?_ | with_reducible refine g_op ?_ | with_reducible refine g_un ?_ | with_reducible refine g_cb ?_ | with_reducible refine g_nil ?_ | with_reducible refine g_cons ?_ | with_reducible refine g_call ?_ | with_reducible refine g_callS ?_ | with_reducible refine g_tup ?_ | with_reducible refine g_lst ?_ | with_reducible refine g_isN ?_ | with_reducible refine g_sl ?_ | with_reducible refine g_nopart ?_ | with_reducible refine g_part ?_ | with_reducible refine g_chain ?_ | with_reducible refine g_fld ?_ | with_reducible refine g_prop ?_ | with_reducible refine g_bm ?_ | with_reducible refine g_bm0 ?_ | with_reducible refine g_c ?_ | with_reducible refine g_sub ?_ | with_reducible refine g_int1 ?_ | with_reducible refine g_int2 ?_ | with_reducible refine g_yes ?_ | with_reducible refine g_sfld ?_ | with_reducible refine g_NT ?_ | with_reducible refine g_NF ?_ | with_reducible refine iteT ?_ | with_reducible refine iteF ?_ | ((with_reducible refine' g_aug ?hv ?_); (case hv => exact rfl)) | ((with_reducible refine' g_var ?hv ?_); (case hv => exact rfl)) | with_reducible refine g_I0 ?_ | with_reducible refine g_U ?_ | with_reducible refine g_eqI ?_ | with_reducible refine g_blV ?_ | with_reducible refine g_inV ?_)
local macro_rules | `(tactic| walk_at "rd") => `(tactic| repeat walk_at "rd1")
section
variable {P : Program} {w : World} {K : PySem.W.Frag} {mg : Str → Option Value} {base : Heap} {f C t0 CT fT : Addr} {fd : FuncData}
abbrev sRight : Stmt := top 46
theorem scRight : FnScope ["_law_dice_here", "_law_one", "_law_other", "_law_third", "_law_told"] ["_law_dice_here"] (defScope sRight) := ⟨rfl, rfl, rfl, by decide +kernel, rfl, by decide +kernel, by decide +kernel⟩
def spRight : Sp := fun vs H Q _ => ∃ d : Addr, vs = [.ref d] ∧ DiceAt H d ∧ ∀ H', ExtBut d H H' → DiceAt H' d → Q (.bl true) H'
theorem sh_bl (a b : Bool) : SeqAt.shaped (.list [.bool a, .bool b]) = true := by
  unfold SeqAt.shaped
  simp [PyData.canLay0, PyData.canLayAll0, PyData.depth, PyData.depthAll]
theorem g_eqBl {H : Hp} {Q : VK} {a b : Addr} {x y : Bool} (ha : SqL K H a [.bl x, .bl y]) (hb : SqL K H b [.bl x, .bl y]) (k : Q (.bl true) H) : rEqD K (.ref a) (.ref b) H Q := by
  refine ⟨_, _, .lst ha (.cons (.bl x) (.cons (.bl y) .nil)), .lst hb (.cons (.bl x) (.cons (.bl y) .nil)), sh_bl _ _, sh_bl _ _, ?_⟩
  have e : PyData.eqv (.list [.bool x, .bool y]) (.list [.bool x, .bool y]) = true := by
    simp [PyData.eqv, PyData.eqvAll]
  rw [e]
  exact k
theorem ok_right (F : Fun K "_law_right" "_law_right" sRight f fd) (T : Txt K mg) (Cl : KC K mg C) (A : Api P w K mg base C t0 CT) (Dk : Def1 P w K mg base CX0 3 "_law_kind" ["_law_dice_here", "_law_most"] (spKind K))
    (Dj : Def1 P w K mg base CX0 10 "_law_joined_right" ["_law_one", "_law_other"] (spTwoR K)) (Do : Def1 P w K mg base CX0 9 "_law_is_one_right" ["_law_numbers"] (spOneR K)) (Dh : Def1 P w K mg base CX0 1 "_law_does_hold" ["_law_kind_here", "_law_other"] (spDoesHold K)) :
    FnOk P w K mg base CX0 11 f fd ["_law_dice_here"] spRight := by
  refine F.ok scRight (fun vs H Q E h => ?_) (fun cdv Ar outer s H vs Q E hr h => ?_)
  · obtain ⟨d, rfl, _⟩ := h
    rfl
  · obtain ⟨d, rfl, hd, k⟩ := h
    refine ⟨_, pss_cons (ps_set (i := 1) scRight.nd rfl (Or.inl rfl) (pe_def Dk hr (by decide) (by rfl) (pa_cons (pv 0) (pa_cons pe_int pa_nil))))
      (pss_cons (ps_par (i := 2) (j := 3) (by rfl) scRight.nd rfl rfl (by decide) rfl rfl (pa_cons (pe_def Dk hr (by decide) (by rfl) (pa_cons (pv 0) (pa_cons (pe_op op_sub pe_int (pe_callB (call_sumS rfl) (by rfl) T.sum (by decide +kernel) (pa_cons (pv 1) pa_nil))) pa_nil))) (pa_cons (pe_def Dk hr (by decide) (by rfl) (pa_cons (pv 0) (pa_cons pe_int pa_nil))) pa_nil)) (by rfl))
      (pss_cons (ps_if (PW.pt (pw_or (pt_not (pt_val (pe_def Dj hr (by decide) (by rfl) (pa_cons (pv 1) (pa_cons (pv 2) pa_nil))))) (pw_or (pt_not (pt_val (pe_def Do hr (by decide) (by rfl) (pa_cons (pv 1) pa_nil)))) (pw_or1 (pt_not (pt_val (pe_def Do hr (by decide) (by rfl) (pa_cons (pv 3) pa_nil)))))))) (pss_one (ps_ret pe_bl)) pss_nil)
      (pss_cons (ps_set (i := 4) scRight.nd rfl (Or.inl rfl) (pe_lst (pa_cons (pe_me1 (E := X0) Cl.cl A.holds pass0 hr (by decide) (pe_mk1 A.ini pass0 hr (by decide) (by rfl) Cl.g (pa_cons (pv 1) pa_nil)) (pa_cons (pe_mk1 A.ini pass0 hr (by decide) (by rfl) Cl.g (pa_cons (pv 3) pa_nil)) pa_nil)) (pa_cons (pe_me1 (E := X0) Cl.cl A.holds pass0 hr (by decide) (pe_pro1 Cl.cl A.turned hr (by decide) (pe_mk1 A.ini pass0 hr (by decide) (by rfl) Cl.g (pa_cons (pv 1) pa_nil))) (pa_cons (pe_pro1 Cl.cl A.turned hr (by decide) (pe_mk1 A.ini pass0 hr (by decide) (by rfl) Cl.g (pa_cons (pv 3) pa_nil))) pa_nil)) pa_nil))))
      (pss_one (ps_ret (pe_cmpR (op_eqD hr.units) (pv 4) (pe_op op_rep (pe_lst (pa_cons (pe_def Dh hr (by decide) (by rfl) (pa_cons (pv 1) (pa_cons (pv 3) pa_nil))) pa_nil)) pe_int) (nomark _))))))), ?_⟩
    walk_at "rd"
    refine ⟨d, 12, rfl, hd, by decide, by decide, fun H1 a ns e1 hd1 hat hF hs1 => ?_⟩
    walk_at "rd"
    refine g_seqP ?_
    walk_at "rd"
    have h0 := hF.sum0
    refine ⟨a, ns, rfl, .inr hat.sq, ?_⟩
    walk_at "rd"
    refine ⟨d, 12 - ns.sum, rfl, hd1, by omega, by omega, fun H2 b ms e2 hd2 hbt hG hs2 => ?_⟩
    walk_at "rd"
    refine ⟨d, 12, rfl, hd2, by decide, by decide, fun H3 c ls e3 hd3 hct hL hs3 => ?_⟩
    walk_at "rd"
    refine ⟨_, _, rfl, ?_⟩
    walk_at "rd"
    obtain ⟨_, _, _, q1, _⟩ := id hd1
    obtain ⟨_, _, _, q2, _⟩ := id hd2
    have hbt3 := TupX.keeps (keeps_but (.inr q2) e3) hbt
    have hat3 := TupX.keeps (keeps_but (.inr q2) e3) (TupX.keeps (keeps_but (.inr q1) e2) hat)
    have eA := ExtBut.trans e1 (ExtBut.trans e2 e3)
    refine ⟨a, b, ns, ms, rfl, hat3, hbt3, hF, hG, by omega, fun H4 e4 => ?_⟩
    walk_at "rd"
    refine ⟨a, ns, rfl, hat3.ext e4, hF, fun H5 e5 => ?_⟩
    walk_at "rd"
    have e45 := Ext.trans e4 e5
    refine ⟨c, ls, rfl, hct.ext e45, hL, fun H6 e6 => ?_⟩
    walk_at "rd"
    have e46 := Ext.trans e45 e6
    have ha6 := hat3.ext e46
    have hc6 := hct.ext e46
    refine g_me ?_
    refine g_make ?_
    walk_at "rd"
    refine g_mk3 ha6 hF fun H7 p n t m e7 hp => ?_
    refine g_obj (A := fun x => _) hp (by decide) (by decide) ?_
    refine g_cons ?_
    refine g_make ?_
    walk_at "rd"
    refine g_mk3 (hc6.ext e7) hL fun H8 q n2 t2 m2 e8 hq => ?_
    walk_at "rd"
    refine ⟨p, n, t, m, q, n2, t2, m2, ns, ls, rfl, hp.ext e8, hq, trivial, fun H9 e9 => ?_⟩
    walk_at "rd"
    have e79 := Ext.trans e7 (Ext.trans e8 e9)
    have ha9 := ha6.ext e79
    have hc9 := hc6.ext e79
    refine g_me ?_
    refine g_prop ?_
    refine g_make ?_
    walk_at "rd"
    refine g_mk3 ha9 hF fun H10 p n t m e10 hp => ?_
    refine g_makes hp fun H11 p2 n t m e11 hp2 => ?_
    refine g_obj (A := fun x => _) hp2 (by decide) (by decide) ?_
    refine g_cons ?_
    refine g_prop ?_
    refine g_make ?_
    walk_at "rd"
    refine g_mk3 ((hc9.ext e10).ext e11) hL fun H12 q n2 t2 m2 e12 hq => ?_
    refine g_makes hq fun H13 q2 n2 t2 m2 e13 hq2 => ?_
    walk_at "rd"
    refine ⟨p2, _, _, _, q2, _, _, _, turnM ns, turnM ls, rfl, (hp2.ext e12).ext e13, hq2, trivial, fun H14 e14 => ?_⟩
    walk_at "rd"
    have e1014 := Ext.trans e10 (Ext.trans e11 (Ext.trans e12 (Ext.trans e13 e14)))
    refine ⟨by show 2 ≤ sizeLine; decide, fun L hL0 => ?_⟩
    walk_at "rd"
    have eL := Ext.new (o := HO.lst [V.bl (heldM ls ns), V.bl (heldM (turnM ls) (turnM ns))]) hL0
    have eX := Ext.trans e1014 eL
    have hLL : upd H14 L (HO.lst [V.bl (heldM ls ns), V.bl (heldM (turnM ls) (turnM ns))]) L = some (.lst [V.bl (heldM ls ns), V.bl (heldM (turnM ls) (turnM ns))]) := upd_same
    refine ⟨a, c, ns, ls, rfl, (ha9.ext eX).sq, (hc9.ext eX).sq, hF, hL, fun H15 e15 => ?_⟩
    walk_at "rd"
    refine ⟨by show 1 ≤ sizeLine; decide, fun z hz => ?_⟩
    have ez := Ext.new (o := HO.lst [V.bl (heldM ls ns)]) hz
    walk_at "rd"
    refine ⟨z, 2, [V.bl (heldM ls ns)], rfl, rfl, upd_same, by omega, by omega, by show 1 * _ ≤ sizeLine; decide, fun l hl => ?_⟩
    have el := Ext.new (o := HO.lst (List.replicate ((2 : Int)).toNat [V.bl (heldM ls ns)]).flatten) hl
    walk_at "rd"
    refine g_eqBl (x := heldM ls ns) (y := heldM ls ns) (SqL.of (el _ _ (ez _ _ (e15 _ _ (by rw [hLL, held_turn hL hF]))))) (SqL.of upd_same) ?_
    have eF := Ext.trans e46 (Ext.trans e79 (Ext.trans eX (Ext.trans e15 (Ext.trans ez el))))
    exact k _ (ExtBut.trans eA (ExtBut.of eF)) (hd3.ext eF)
/-! ### the limit -/
theorem ps_guard {X : Cx} {G : Prop} {st : Stmt} {t : TS} (h : G → PS X st t) : PS X st (fun D σ H => G ∧ t D σ H) := ⟨fun pins s σ H D I hw => (h hw.1).run pins s σ H D I hw.2⟩
theorem passLen {X : Cx} {W : WX} {E : XK} {n : Nat} (hn : X.N.length = n) (tk : Takes X W) (G : ∀ cls d σ H, σ.length = n → E cls d H → W cls d σ H) (σ : L2.St) : PassesAt (L2.CX X.prog X.w) X σ E :=
  fun _ _ _ e s' I c => tk e s' (XE.of_call I (fun cls d H' h => G cls d σ H' (I.len.trans hn) h) c)
theorem passLen' {X : Cx} {W : WX} {E : XK} {n : Nat} (hn : X.N.length = n) (tk : Takes X W) (G : ∀ cls d σ H, σ.length = n → E cls d H → W cls d σ H) : Passes (L2.CX X.prog X.w) X E :=
  fun pins σ H s e s' I c => passLen hn tk G σ pins H s e s' I c
abbrev sLimit : Stmt := top 47
theorem scLimit : FnScope ["_law_one", "_law_other", "_law_way", "e"] ["_law_one", "_law_other", "_law_way"] (defScope sLimit) := ⟨rfl, rfl, rfl, by decide +kernel, rfl, by decide +kernel, by decide +kernel⟩
def spLimit (K : PySem.W.Frag) (C : Addr) : Sp := fun vs H Q _ => ∃ (p n t m q n2 t2 m2 : Addr) (ns ms : List Int) (i : Nat), vs = [.ref p, .ref q, .int (i : Int)] ∧ KindAt K C H p n t m ns ∧ KindAt K C H q n2 t2 m2 ms ∧ i ≤ 1 ∧
  ∀ H', Ext H H' → Q (.int (if ns.sum + ms.sum ≤ 12 then 0 else 12)) H'
/-- what the refusal is worth -/
def EL (CT : Addr) (H0 : Hp) (S : Int) : XK := fun cls d H => cls = .ref CT ∧ 12 < S ∧ ∃ d' H1, d = some d' ∧ Ext H0 H1 ∧ H1 d' = none ∧ H = upd H1 d' (.xd [(("limit" : Str), .int 12)])
def t_sLim (CT : Addr) : Addr → Value → Option Addr → TS := fun a cls d => tRet (tByTooMany CT a cls d (tVar 3))
theorem ok_limit (F : Fun K "_law_limit" "_law_limit" sLimit f fd) (T : Txt K mg) (Cl : KC K mg C) (A : Api P w K mg base C t0 CT) (N : PySem.XTooMany.TooManyTxt K mg CT fT) : FnOk P w K mg base CX0 10 f fd ["_law_one", "_law_other", "_law_way"] (spLimit K C) := by
  refine F.ok scLimit (fun vs H Q E h => ?_) (fun cdv Ar outer s H vs Q E hr h => ?_)
  · obtain ⟨p, n, t, m, q, n2, t2, m2, ns, ms, i, rfl, _⟩ := h
    rfl
  · obtain ⟨p, n, t, m, q, n2, t2, m2, ns, ms, i, rfl, hp, hq, hi, k⟩ := h
    refine ⟨_, pss_one (ps_try_as (i := 3) (tb := fun W => fun D σ H' => (∀ cls d σ H', σ.length = 4 → EL CT H (ns.sum + ms.sum) cls d H' → W cls d σ H') ∧ tRet (tOp (rI CMul fun i j => .int (i * j)) (tProp C (spGet K C fun _ ns => .int ns.sum) [] X0 (tIf (tTest (tOp rEq (tVar 2) (tC (.int 0)))) (tOp (rBinO C (spTwoK K C CT joinM) (EL CT H (ns.sum + ms.sum))) (tVar 0) (tVar 1)) (tMeth C "over" (spTwoK K C CT addM) [] (EL CT H (ns.sum + ms.sum)) (tVar 0) (tCons (tVar 1) tNil)))) (tC (.int 0))) D σ H')
          (ts := t_sLim CT) (Wout := fun _ _ _ _ => False) rfl rfl scLimit.nd rfl rfl ⟨rfl, by decide, Or.inl N.gC⟩ takes0
          (fun W pn xe tk _ => pss_one (ps_guard fun G => ps_ret (by exact (pe_op op_mul (pe_pro1 Cl.cl A.size hr (by decide) (pe_ifExp (pt_cmpR op_eq (pv 2) pe_int (nomark _)) (pe_op (op_add1 A.add (passLen rfl tk G) hr (by decide)) (pv 0) (pv 1)) (pe_me1 Cl.cl A.over (passLen' rfl tk G) hr (by decide) (pv 0) (pa_cons (pv 1) pa_nil)))) pe_int))))
          (fun a oe cls d pn hz hf => pss_one (ps_ret (by exact (pe_byTooMany N hz hf (pv 3)))))), ?_⟩
    refine ⟨fun cls d σ H' hlen hE => ?_, ?_⟩
    · obtain ⟨rfl, h12, d', H1, rfl, e1, hd', rfl⟩ := hE
      match σ, hlen with
      | [s0, s1, s2, s3], _ =>
        refine ⟨true, N.te, fun _ a0 _ => ?_, fun q => Bool.noConfusion q⟩
        refine ⟨_, rfl, rfl, rfl, d', _, rfl, upd_same, ?_⟩
        have := k (upd H1 d' (.xd [(("limit" : Str), .int 12)])) (Ext.trans e1 (Ext.new hd'))
        rw [if_neg (by omega)] at this
        exact this
    walk_at "rd"
    obtain ⟨dx, hpi⟩ := id hp.ins
    obtain ⟨dy, hqi⟩ := id hq.ins
    refine ite2 (fun h1 => ?_) (fun h1 => ?_)
    · walk_at "rd"
      refine ⟨p, dx, _, rfl, hpi, .inl ⟨q, dy, _, rfl, hqi⟩, p, n, t, m, q, n2, t2, m2, ns, ms, rfl, hp, hq, fun h12 H1 p' n' t' m' e hk => ⟨⟨_, rfl⟩, ?_⟩, fun h12 H1 d e hd => ⟨rfl, h12, d, H1, rfl, e, hd, rfl⟩⟩
      refine g_gets hk fun H2 e2 => ?_
      walk_at "rd"
      refine g_I (.inr ⟨by decide, by decide⟩) ?_
      have := k H2 (Ext.trans e e2)
      rw [if_pos h12] at this
      rw [Int.mul_zero]
      exact this
    · refine g_me ?_
      walk_at "rd"
      refine g_obj (A := fun x => _) hp (by decide) (by decide) ?_
      walk_at "rd"
      refine ⟨p, n, t, m, q, n2, t2, m2, ns, ms, rfl, hp, hq, fun h12 H1 p' n' t' m' e hk => ?_, fun h12 H1 d e hd => ⟨rfl, h12, d, H1, rfl, e, hd, rfl⟩⟩
      refine g_gets hk fun H2 e2 => ?_
      walk_at "rd"
      refine g_I (.inr ⟨by decide, by decide⟩) ?_
      have := k H2 (Ext.trans e e2)
      rw [if_pos h12] at this
      rw [Int.mul_zero]
      exact this
end
end Q0

set_option Elab.async false
set_option linter.all false
set_option maxRecDepth 100000
set_option maxHeartbeats 4000000
/-! The law. -/
namespace Q0
open PySem PySem.Spec PyProof.Rows L2 Gd
local macro_rules | `(tactic| walk_at "rd1") => `(tactic| first | with_reducible refine g_ret ?_ | with_reducible refine g_retN ?_ | with_reducible refine g_seq ?_ | with_reducible refine g_next ?_ | with_reducible refine g_drop ?_ | with_reducible refine g_asg ?_ | with_reducible refine g_name ?_ | with_reducible refine g_ifs ?_ | with_reducible refine g_test ?_ | with_reducible refine g_tb ?_ | with_reducible refine g_and ?_ | with_reducible refine g_or ?_ | with_reducible refine g_not ?_ | with_reducible refine g_andV ?_ | with_reducible refine g_orV ?_ | with_reducible refine g_notV ?_ | with_reducible refine g_if ?_ | with_reducible refine g_op ?_ | with_reducible refine g_un ?_ | with_reducible refine g_cb ?_ | with_reducible refine g_nil ?_ | with_reducible refine g_cons ?_ | with_reducible refine g_call ?_ | with_reducible refine g_callS ?_ | with_reducible refine g_tup ?_ | with_reducible refine g_lst ?_ | with_reducible refine g_isN ?_ | with_reducible refine g_sl ?_ | with_reducible refine g_nopart ?_ | with_reducible refine g_part ?_ | with_reducible refine g_chain ?_ | with_reducible refine g_fld ?_ | with_reducible refine g_prop ?_ | with_reducible refine g_bm ?_ | with_reducible refine g_bm0 ?_ | with_reducible refine g_c ?_ | with_reducible refine g_sub ?_ | with_reducible refine g_int1 ?_ | with_reducible refine g_int2 ?_ | with_reducible refine g_yes ?_ | with_reducible refine g_sfld ?_ | with_reducible refine g_NT ?_ | with_reducible refine g_NF ?_ | with_reducible refine iteT ?_ | with_reducible refine iteF ?_ | ((with_reducible refine' g_aug ?hv ?_); (case hv => exact rfl)) | ((with_reducible refine' g_var ?hv ?_); (case hv => exact rfl)) | with_reducible refine g_I0 ?_ | with_reducible refine g_U ?_ | with_reducible refine g_eqI ?_ | with_reducible refine g_blV ?_ | with_reducible refine g_inV ?_)
local macro_rules | `(tactic| walk_at "rd") => `(tactic| repeat walk_at "rd1")
section
variable {P : Program} {w : World} {K : PySem.W.Frag} {mg : Str → Option Value} {base : Heap} {f C t0 CT fT : Addr} {fd : FuncData}
abbrev sLaw : Stmt := top 48
theorem scLaw : FnScope ["_law_script", "_law_spot", "_law_dice_here", "_law_turn", "_law_told", "_law_way"] ["_law_script"] (defScope sLaw) := ⟨rfl, rfl, rfl, by decide +kernel, rfl, by decide +kernel, by decide +kernel⟩
def spLaw (K : PySem.W.Frag) : Sp := fun vs H Q _ => ∃ (a : Addr) (ns : List Int), vs = [.ref a] ∧ SqL K H a (ns.map V.int) ∧ ns.length ≤ 63 ∧ ∀ H', Q (.bl true) H'
theorem ok_law (F : Fun K "law" "law" sLaw f fd) (T : Txt K mg) (Cl : KC K mg C) (A : Api P w K mg base C t0 CT) (Dd : Def1 P w K mg base CX0 1 "_law_dice" ["_law_script", "_law_spot"] (spDice K)) (Ro : Def1 P w K mg base CX0 1 "_law_roll" ["_law_dice_here", "_law_total"] spRoll)
    (Dr : Def1 P w K mg base CX0 11 "_law_right" ["_law_dice_here"] spRight) (Dt : Def1 P w K mg base CX0 10 "_law_are_tops_right" ["_law_size"] spTopR) (Dl : Def1 P w K mg base CX0 10 "_law_limit" ["_law_one", "_law_other", "_law_way"] (spLimit K C)) : FnOk P w K mg base CX0 12 f fd ["_law_script"] (spLaw K) := by
  refine F.ok scLaw (fun vs H Q E h => ?_) (fun cdv Ar outer s H vs Q E hr h => ?_)
  · obtain ⟨a, ns, rfl, _⟩ := h
    rfl
  · obtain ⟨a, ns, rfl, hs, hl, k⟩ := h
    refine ⟨_, pss_cons (ps_for PassesOwn.never rfl (pi_range1 (by rfl) T.range (pa_cons (pe_callB (call_max2 rfl) (by rfl) T.max (by decide +kernel) (pa_cons pe_int (pa_cons (pe_callB (call_min2 rfl) (by rfl) T.min (by decide +kernel) (pa_cons pe_int (pa_cons (pe_callB call_len_seq (by rfl) T.len PySem.boot_len (pa_cons (pv 0) pa_nil)) pa_nil))) pa_nil))) pa_nil)) (pg_name (i := 1) scLaw.nd rfl (Or.inl rfl)) (pss_cons (ps_set (i := 2) scLaw.nd rfl (Or.inl rfl) (pe_def Dd hr (by decide) (by rfl) (pa_cons (pv 0) (pa_cons (pv 1) pa_nil))))
      (pss_cons (ps_for PassesOwn.never rfl (pi_range1 (by rfl) T.range (pa_cons pe_int pa_nil)) (pg_name (i := 3) scLaw.nd rfl (Or.inl rfl)) (pss_one (ps_if (pt_not (pt_val (pe_def Dr hr (by decide) (by rfl) (pa_cons (pv 2) pa_nil)))) (pss_one (ps_ret pe_bl)) pss_nil)))
      (pss_one (ps_if (pt_not (pt_val (pe_def Dt hr (by decide) (by rfl) (pa_cons (pe_def Ro hr (by decide) (by rfl) (pa_cons (pv 2) (pa_cons pe_int pa_nil))) pa_nil)))) (pss_one (ps_ret pe_bl)) pss_nil)))))
      (pss_cons (ps_set (i := 4) scLaw.nd rfl (Or.inl rfl) (pe_op op_cat (pe_lc (own := [("_law_way", 5)]) (g := gName 5) (tt := tYes) rfl scLaw.nd (pi_range1 (by rfl) T.range (pa_cons pe_int pa_nil)) (blkOk_by (N := ["_law_script", "_law_spot", "_law_dice_here", "_law_turn", "_law_told", "_law_way"]) (sc := defScope sLaw) (by decide +kernel)) (fun _ _ _ _ _ => pg_name (i := 5) scLaw.nd rfl (Or.inl rfl)) (fun _ _ _ _ _ => pts_nil) (fun _ _ _ _ _ => by exact (pe_def Dl hr (by decide) (by rfl) (pa_cons (pe_mk1 A.ini pass0 hr (by decide) (by rfl) Cl.g (pa_cons (pe_tupX (pa_cons pe_int (pa_cons pe_int pa_nil))) pa_nil)) (pa_cons (pe_mk1 A.ini pass0 hr (by decide) (by rfl) Cl.g (pa_cons (pe_tupX (pa_cons pe_int (pa_cons pe_int pa_nil))) pa_nil)) (pa_cons (pv 5) pa_nil)))))) (pe_lc (own := [("_law_way", 5)]) (g := gName 5) (tt := tYes) rfl scLaw.nd (pi_range1 (by rfl) T.range (pa_cons pe_int pa_nil)) (blkOk_by (N := ["_law_script", "_law_spot", "_law_dice_here", "_law_turn", "_law_told", "_law_way"]) (sc := defScope sLaw) (by decide +kernel)) (fun _ _ _ _ _ => pg_name (i := 5) scLaw.nd rfl (Or.inl rfl)) (fun _ _ _ _ _ => pts_nil) (fun _ _ _ _ _ => by exact (pe_def Dl hr (by decide) (by rfl) (pa_cons (pe_mk1 A.ini pass0 hr (by decide) (by rfl) Cl.g (pa_cons (pe_tupX (pa_cons pe_int (pa_cons pe_int pa_nil))) pa_nil)) (pa_cons (pe_mk1 A.ini pass0 hr (by decide) (by rfl) Cl.g (pa_cons (pe_tupX (pa_cons pe_int (pa_cons pe_int pa_nil))) pa_nil)) (pa_cons (pv 5) pa_nil))))))))
      (pss_one (ps_ret (pe_cmpR (op_eqD hr.units) (pv 4) (pe_lst (pa_cons pe_int (pa_cons pe_int (pa_cons pe_int (pa_cons pe_int pa_nil))))) (nomark _))))), ?_⟩
    refine g_cut (fun σ H' => ∃ x1 x2 x3 x4 x5 : Option V, σ = [some (.ref a), x1, x2, x3, x4, x5]) (fun σ' H' hN => ?_) (fun go => ?_)
    rotate_left
    · refine g_forR ?_
      walk_at "rd"
      refine ⟨a, _, rfl, .inl hs, ?_⟩
      walk_at "rd"
      rw [List.length_map]
      refine ⟨by split <;> omega, by split <;> omega, ?_⟩
      refine for_range (fun i σ H' => ∃ x1 x2 x3 x4 x5 : Option V, σ = [some (.ref a), x1, x2, x3, x4, x5] ∧ Ext H H') ⟨_, _, _, _, _, rfl, fun _ _ z => z⟩ ?_ ?_
      · rintro i σ H2 hi ⟨x1, x2, x3, x4, x5, rfl, e⟩
        have hi63 : i ≤ 63 := by
          revert hi
          split <;> (try split) <;> intro hi <;> omega
        walk_at "rd"
        have hi0 : (0 : Int) + (i : Int) = (i : Int) := by omega
        rw [hi0]
        refine ⟨a, ns, i, rfl, sqL_ext e hs, hi63, fun H3 d e3 hd0 hd => ?_⟩
        walk_at "rd"
        refine g_forR ?_
        walk_at "rd"
        refine ⟨by decide, by decide, ?_⟩
        refine for_range (fun j σ H' => ∃ x3 : Option V, σ = [some (.ref a), some (.int (i : Int)), some (.ref d), x3, x4, x5] ∧ DiceAt H' d ∧ ExtBut d H3 H') ⟨_, rfl, hd, fun _ _ _ z => z⟩ ?_ ?_
        · rintro j σ H4 hj ⟨x3, rfl, hd4, e4⟩
          walk_at "rd"
          refine ⟨d, rfl, hd4, fun H5 e5 hd5 => ?_⟩
          walk_at "rd"
          exact ⟨_, rfl, hd5, ExtBut.trans e4 e5⟩
        · rintro σ H4 ⟨x3, rfl, hd4, e4⟩
          walk_at "rd"
          have big : (8 : Int) < 2 ^ 1000 := by decide +kernel
          refine ⟨d, 8, rfl, hd4, by decide, big, fun H5 r e5 hd5 r0 r1 => ?_⟩
          walk_at "rd"
          have er : r = (r.toNat : Int) := by omega
          refine ⟨r.toNat, (by rw [← er]; rfl), by omega, fun H6 e6 => ?_⟩
          walk_at "rd"
          refine ⟨_, _, _, _, _, rfl, fun b o q => ?_⟩
          have q2 := e b o q
          have nb : b ≠ d := ne_of_none q2 hd0
          exact e6 _ _ (e5 b o nb (e4 b o nb (e3 b o q2)))
      · rintro σ H2 ⟨x1, x2, x3, x4, x5, rfl, _⟩
        exact go _ _ ⟨_, _, _, _, _, rfl⟩
    obtain ⟨x1, x2, x3, x4, x5, rfl⟩ := hN
    walk_at "rd"
    refine g_lc (g_rng1 ?_)
    walk_at "rd"
    refine ⟨by decide, by decide, ?_⟩
    refine lcR (n := 2) (small (by omega)) (fun _ => true) (fun _ => .int 12) (fun i H2 hi e Qe Qn he hn => ?_) (fun G1 D1 e1 hD1 hd1 => ?_)
    · rw [Int.zero_add]
      refine ⟨rfl, ?_⟩
      walk_at "rd"
      refine g_make ?_
      walk_at "rd"
      refine g_tupX ?_
      walk_at "rd"
      refine ⟨by show 2 ≤ sizeLine; decide, fun u o hu ho => ?_⟩
      have eu := Ext.new (o := HO.frz o (.tup [V.int 6, V.int 2])) hu
      walk_at "rd"
      refine g_mk3 (ns := [6, 2]) (TupX.new ho) (fall_of (by decide +kernel)) fun H3 p n t m e3 hp => ?_
      walk_at "rd"
      refine g_make ?_
      walk_at "rd"
      refine g_tupX ?_
      walk_at "rd"
      refine ⟨by show 2 ≤ sizeLine; decide, fun u2 o2 hu2 ho2 => ?_⟩
      have eu2 := Ext.new (o := HO.frz o2 (.tup [V.int 3, V.int 2])) hu2
      walk_at "rd"
      refine g_mk3 (ns := [3, 2]) (TupX.new ho2) (fall_of (by decide +kernel)) fun H4 q n2 t2 m2 e4 hq => ?_
      walk_at "rd"
      refine ⟨p, n, t, m, q, n2, t2, m2, [6, 2], [3, 2], i, rfl, (hp.ext eu2).ext e4, hq, by omega, fun H5 e5 => ?_⟩
      exact he H5 (Ext.trans eu (Ext.trans e3 (Ext.trans eu2 (Ext.trans e4 e5)))) rfl
    rw [idx_all] at hd1
    walk_at "rd"
    refine g_lc (g_rng1 ?_)
    walk_at "rd"
    refine ⟨by decide, by decide, ?_⟩
    refine lcR (n := 2) (small (by omega)) (fun _ => true) (fun _ => .int 0) (fun i H2 hi e Qe Qn he hn => ?_) (fun G2 D2 e2 hD2 hd2 => ?_)
    · rw [Int.zero_add]
      refine ⟨rfl, ?_⟩
      walk_at "rd"
      refine g_make ?_
      walk_at "rd"
      refine g_tupX ?_
      walk_at "rd"
      refine ⟨by show 2 ≤ sizeLine; decide, fun u o hu ho => ?_⟩
      have eu := Ext.new (o := HO.frz o (.tup [V.int 6, V.int 2])) hu
      walk_at "rd"
      refine g_mk3 (ns := [6, 2]) (TupX.new ho) (fall_of (by decide +kernel)) fun H3 p n t m e3 hp => ?_
      walk_at "rd"
      refine g_make ?_
      walk_at "rd"
      refine g_tupX ?_
      walk_at "rd"
      refine ⟨by show 2 ≤ sizeLine; decide, fun u2 o2 hu2 ho2 => ?_⟩
      have eu2 := Ext.new (o := HO.frz o2 (.tup [V.int 3, V.int 1])) hu2
      walk_at "rd"
      refine g_mk3 (ns := [3, 1]) (TupX.new ho2) (fall_of (by decide +kernel)) fun H4 q n2 t2 m2 e4 hq => ?_
      walk_at "rd"
      refine ⟨p, n, t, m, q, n2, t2, m2, [6, 2], [3, 1], i, rfl, (hp.ext eu2).ext e4, hq, by omega, fun H5 e5 => ?_⟩
      exact he H5 (Ext.trans eu (Ext.trans e3 (Ext.trans eu2 (Ext.trans e4 e5)))) rfl
    rw [idx_all] at hd2
    have h1 : G2 D1 = some (.lst [.int 12, .int 12]) := e2 _ _ hd1
    have h2 : G2 D2 = some (.lst [.int 0, .int 0]) := hd2
    refine ⟨D1, D2, _, _, rfl, rfl, h1, h2, by show 4 ≤ sizeLine; decide, fun L hL => ?_⟩
    walk_at "rd"
    refine ⟨by show 4 ≤ sizeLine; decide, fun L2 hL2 => ?_⟩
    have eL := Ext.new (o := HO.lst [V.int 12, V.int 12, V.int 0, V.int 0]) hL2
    refine g_eqL (ns := [12, 12, 0, 0]) (ms := [12, 12, 0, 0]) (SqL.of (eL _ _ upd_same)) (SqL.of upd_same) ?_
    rw [decide_eq_true rfl]
    exact k _
end
end Q0

set_option Elab.async false
set_option linter.all false
set_option maxRecDepth 100000
set_option maxHeartbeats 8000000
/-! What the top has written. -/
namespace Q0
open PySem PySem.Spec PyProof.Rows L2 Gd
open LamX (Tabs TabB TabS ExtN)
/-- an error of the class at S, an except clause that names U -/
theorem exm_one {K : PySem.W.Frag} {S U : Addr} {b : Bool} (h1 : PySem.W.subIn K (.ref U) (.type "BaseException") = some true) (h2 : PySem.W.isClsIn K U = true) (h3 : PySem.W.typeIn K (.ref U) = some (.type "type")) (h4 : PySem.W.subIn K (.ref S) (.ref U) = some b) :
    PySem.W.exmOne K (.ref S) (.ref U) = some b := by
  have h2' : (PySem.W.clsIn K U).isSome = true := h2
  simp [PySem.W.exmOne, PySem.W.kitCls, h1, h2', h3, h4]
theorem kit_self {K : PySem.W.Frag} {C : Addr} : PySem.W.kitOne K (.ref C) (.ref C) = some true := by
  unfold PySem.W.kitOne
  simp
theorem kit_own {K : PySem.W.Frag} {C D : Addr} {b : Bool} (n : C ≠ D) (h : PySem.W.isClsIn K D = true) (ht : PySem.W.typeIn K (.ref D) = some (.type "type")) (hs : PySem.W.subIn K (.ref C) (.ref D) = some b) : PySem.W.kitOne K (.ref C) (.ref D) = some b := by
  have h' : (PySem.W.clsIn K D).isSome = true := h
  have e : (Value.ref C == Value.ref D) = false := by simpa using n
  simp [PySem.W.kitOne, PySem.W.kitCls, e, h', ht, hs]
theorem kit_ty {K : PySem.W.Frag} {C : Addr} {T : String} {b : Bool} (hT : PySem.W.kitMeta T = true) (hs : PySem.W.subIn K (.ref C) (.type T) = some b) : PySem.W.kitOne K (.ref C) (.type T) = some b := by
  have e : (Value.ref C == Value.type T) = false := rfl
  simp [PySem.W.kitOne, PySem.W.kitCls, e, hT, hs]
theorem kit_not {K : PySem.W.Frag} {C : Addr} {T : String} (h : PySem.W.isClsIn K C = true) (ht : PySem.W.typeIn K (.ref C) = some (.type "type")) (hs : PySem.W.subIn K (.type T) (.ref C) = some false) : PySem.W.kitOne K (.type T) (.ref C) = some false := by
  have h' : (PySem.W.clsIn K C).isSome = true := h
  have e : (Value.type T == Value.ref C) = false := rfl
  simp [PySem.W.kitOne, PySem.W.kitCls, e, h', ht, hs]
local macro_rules | `(tactic| walk_at "rd1") => `(tactic| first | with_reducible refine g_ret ?_ | with_reducible refine g_retN ?_ | with_reducible refine g_seq ?_ | with_reducible refine g_next ?_ | with_reducible refine g_drop ?_ | with_reducible refine g_asg ?_ | with_reducible refine g_name ?_ | with_reducible refine g_ifs ?_ | with_reducible refine g_test ?_ | with_reducible refine g_tb ?_ | with_reducible refine g_and ?_ | with_reducible refine g_or ?_ | with_reducible refine g_not ?_ | with_reducible refine g_andV ?_ | with_reducible refine g_orV ?_ | with_reducible refine g_notV ?_ | with_reducible refine g_if ?_ | with_reducible refine g_op ?_ | with_reducible refine g_un ?_ | with_reducible refine g_cb ?_ | with_reducible refine g_nil ?_ | with_reducible refine g_cons ?_ | with_reducible refine g_call ?_ | with_reducible refine g_callS ?_ | with_reducible refine g_tup ?_ | with_reducible refine g_lst ?_ | with_reducible refine g_isN ?_ | with_reducible refine g_sl ?_ | with_reducible refine g_nopart ?_ | with_reducible refine g_part ?_ | with_reducible refine g_chain ?_ | with_reducible refine g_fld ?_ | with_reducible refine g_prop ?_ | with_reducible refine g_bm ?_ | with_reducible refine g_bm0 ?_ | with_reducible refine g_c ?_ | with_reducible refine g_sub ?_ | with_reducible refine g_int1 ?_ | with_reducible refine g_int2 ?_ | with_reducible refine g_yes ?_ | with_reducible refine g_sfld ?_ | with_reducible refine g_NT ?_ | with_reducible refine g_NF ?_ | with_reducible refine iteT ?_ | with_reducible refine iteF ?_ | ((with_reducible refine' g_aug ?hv ?_); (case hv => exact rfl)) | ((with_reducible refine' g_var ?hv ?_); (case hv => exact rfl)) | with_reducible refine g_I0 ?_ | with_reducible refine g_U ?_ | with_reducible refine g_eqI ?_ | with_reducible refine g_blV ?_ | with_reducible refine g_inV ?_)
local macro_rules | `(tactic| walk_at "rd") => `(tactic| repeat walk_at "rd1")
theorem all_mk {l : PySem.W.OpenLaw} {w : World} {K : PySem.W.Frag} {h : Heap} {mg : Str → Option Value} {fa fWh fIn fIw fRi fNa fTr fSl fHd fTp fJo fAd fFa fRk fRs fDi fRo fPi fKs fKd fLt fDh fDt fPu fAu fJr fOr fAr fRg fLm fLa C fI0 TI0 tI0 fHo fTo fPa fOv fGi fIt fEq fLs fPn pPn fPs pPs fPr pPr fPh pPh fPl pPl fPt pPt CNx fNx qNx CMx fMx qMx : Addr} (X : K.In h) (G : h.Ns mainGlobals mg) (hfa : mg "law" = some (.ref fa))
    {odWh anWh : Option Addr} {slWh : Array (Option Value)} {ocWh kVWh dcWh pmWh cdWh ctWh : Value}
    {odIn anIn : Option Addr} {slIn : Array (Option Value)} {ocIn kVIn dcIn pmIn cdIn ctIn : Value}
    {odIw anIw : Option Addr} {slIw : Array (Option Value)} {ocIw kVIw dcIw pmIw cdIw ctIw : Value}
    {odRi anRi : Option Addr} {slRi : Array (Option Value)} {ocRi kVRi dcRi pmRi cdRi ctRi : Value}
    {odNa anNa : Option Addr} {slNa : Array (Option Value)} {ocNa kVNa dcNa pmNa cdNa ctNa : Value}
    {odTr anTr : Option Addr} {slTr : Array (Option Value)} {ocTr kVTr dcTr pmTr cdTr ctTr : Value}
    {odSl anSl : Option Addr} {slSl : Array (Option Value)} {ocSl kVSl dcSl pmSl cdSl ctSl : Value}
    {odHd anHd : Option Addr} {slHd : Array (Option Value)} {ocHd kVHd dcHd pmHd cdHd ctHd : Value}
    {odTp anTp : Option Addr} {slTp : Array (Option Value)} {ocTp kVTp dcTp pmTp cdTp ctTp : Value}
    {odJo anJo : Option Addr} {slJo : Array (Option Value)} {ocJo kVJo dcJo pmJo cdJo ctJo : Value}
    {odAd anAd : Option Addr} {slAd : Array (Option Value)} {ocAd kVAd dcAd pmAd cdAd ctAd : Value}
    {odFa anFa : Option Addr} {slFa : Array (Option Value)} {ocFa kVFa dcFa pmFa cdFa ctFa : Value}
    {odRk anRk : Option Addr} {slRk : Array (Option Value)} {ocRk kVRk dcRk pmRk cdRk ctRk : Value}
    {odRs anRs : Option Addr} {slRs : Array (Option Value)} {ocRs kVRs dcRs pmRs cdRs ctRs : Value}
    {odDi anDi : Option Addr} {slDi : Array (Option Value)} {ocDi kVDi dcDi pmDi cdDi ctDi : Value}
    {odRo anRo : Option Addr} {slRo : Array (Option Value)} {ocRo kVRo dcRo pmRo cdRo ctRo : Value}
    {odPi anPi : Option Addr} {slPi : Array (Option Value)} {ocPi kVPi dcPi pmPi cdPi ctPi : Value}
    {odKs anKs : Option Addr} {slKs : Array (Option Value)} {ocKs kVKs dcKs pmKs cdKs ctKs : Value}
    {odKd anKd : Option Addr} {slKd : Array (Option Value)} {ocKd kVKd dcKd pmKd cdKd ctKd : Value}
    {odLt anLt : Option Addr} {slLt : Array (Option Value)} {ocLt kVLt dcLt pmLt cdLt ctLt : Value}
    {odDh anDh : Option Addr} {slDh : Array (Option Value)} {ocDh kVDh dcDh pmDh cdDh ctDh : Value}
    {odDt anDt : Option Addr} {slDt : Array (Option Value)} {ocDt kVDt dcDt pmDt cdDt ctDt : Value}
    {odPu anPu : Option Addr} {slPu : Array (Option Value)} {ocPu kVPu dcPu pmPu cdPu ctPu : Value}
    {odAu anAu : Option Addr} {slAu : Array (Option Value)} {ocAu kVAu dcAu pmAu cdAu ctAu : Value}
    {odJr anJr : Option Addr} {slJr : Array (Option Value)} {ocJr kVJr dcJr pmJr cdJr ctJr : Value}
    {odOr anOr : Option Addr} {slOr : Array (Option Value)} {ocOr kVOr dcOr pmOr cdOr ctOr : Value}
    {odAr anAr : Option Addr} {slAr : Array (Option Value)} {ocAr kVAr dcAr pmAr cdAr ctAr : Value}
    {odRg anRg : Option Addr} {slRg : Array (Option Value)} {ocRg kVRg dcRg pmRg cdRg ctRg : Value}
    {odLm anLm : Option Addr} {slLm : Array (Option Value)} {ocLm kVLm dcLm pmLm cdLm ctLm : Value}
    {odLa anLa : Option Addr} {slLa : Array (Option Value)} {ocLa kVLa dcLa pmLa cdLa ctLa : Value}
    {odI0 anI0 : Option Addr} {slI0 : Array (Option Value)} {ocI0 kVI0 dcI0 pmI0 cdI0 ctI0 : Value}
    {o1I0 : Value} {o2I0 : Option Addr} {o3I0 : Nat} {o4I0 : Array (Option Value)} {o6I0 : Nat} {o7I0 : Array (Option Value)}
    {odHo anHo : Option Addr} {slHo : Array (Option Value)} {ocHo kVHo dcHo pmHo cdHo ctHo : Value}
    {odTo anTo : Option Addr} {slTo : Array (Option Value)} {ocTo kVTo dcTo pmTo cdTo ctTo : Value}
    {odPa anPa : Option Addr} {slPa : Array (Option Value)} {ocPa kVPa dcPa pmPa cdPa ctPa : Value}
    {odOv anOv : Option Addr} {slOv : Array (Option Value)} {ocOv kVOv dcOv pmOv cdOv ctOv : Value}
    {odGi anGi : Option Addr} {slGi : Array (Option Value)} {ocGi kVGi dcGi pmGi cdGi ctGi : Value}
    {odIt anIt : Option Addr} {slIt : Array (Option Value)} {ocIt kVIt dcIt pmIt cdIt ctIt : Value}
    {odEq anEq : Option Addr} {slEq : Array (Option Value)} {ocEq kVEq dcEq pmEq cdEq ctEq : Value}
    {odLs anLs : Option Addr} {slLs : Array (Option Value)} {ocLs kVLs dcLs pmLs cdLs ctLs : Value}
    {restPn : List Value}
    {odPn anPn : Option Addr} {slPn : Array (Option Value)} {ocPn kVPn dcPn pmPn cdPn ctPn : Value}
    {restPs : List Value}
    {odPs anPs : Option Addr} {slPs : Array (Option Value)} {ocPs kVPs dcPs pmPs cdPs ctPs : Value}
    {restPr : List Value}
    {odPr anPr : Option Addr} {slPr : Array (Option Value)} {ocPr kVPr dcPr pmPr cdPr ctPr : Value}
    {restPh : List Value}
    {odPh anPh : Option Addr} {slPh : Array (Option Value)} {ocPh kVPh dcPh pmPh cdPh ctPh : Value}
    {restPl : List Value}
    {odPl anPl : Option Addr} {slPl : Array (Option Value)} {ocPl kVPl dcPl pmPl cdPl ctPl : Value}
    {restPt : List Value}
    {odPt anPt : Option Addr} {slPt : Array (Option Value)} {ocPt kVPt dcPt pmPt cdPt ctPt : Value}
    {tkBOUND : Tok}
    {tkMAX_SIZE : Tok}
    {nmN qN : Str} {bsN : List Value} {snN : List Str} {subN : List Value} {abN : Bool} {colN : Option Bool} {ddN : Option Addr} {m0N m1N m2N m3N m5N : Option Value} {odxN anxN : Option Addr} {slxN : Array (Option Value)} {ocxN dcxN pmxN cdxN ctxN : Value} {q1N q2N q3N q4N q5N q6N : Pos}
    {nmM qM : Str} {bsM : List Value} {snM : List Str} {subM : List Value} {abM : Bool} {colM : Option Bool} {ddM : Option Addr} {m0M m1M m2M m3M m5M : Option Value} {odxM anxM : Option Addr} {slxM : Array (Option Value)} {ocxM dcxM pmxM cdxM ctxM : Value} {q1M q2M q3M q4M q5M q6M : Pos}
    (aWh : PySem.W.nsIn K mainGlobals "is_whole" = some (some (.ref fWh)))
    (lWh : K.lookup fWh = some ⟨ocWh, odWh, .func (PySem.W.fnOf "is_whole" "is_whole" (defArgs (sWhole)) (defBody (sWhole)) (defScope (sWhole)) .none kVWh dcWh pmWh anWh cdWh ctWh), slWh⟩)
    (cWh_ : PySem.W.codeIn K cdWh "is_whole" = true)
    (kWh : PySem.W.keepIn K (.ref fWh) = true)
    (aIn : PySem.W.nsIn K mainGlobals "is_integer" = some (some (.ref fIn)))
    (lIn : K.lookup fIn = some ⟨ocIn, odIn, .func (PySem.W.fnOf "is_integer" "is_integer" (defArgs (sInteger)) (defBody (sInteger)) (defScope (sInteger)) .none kVIn dcIn pmIn anIn cdIn ctIn), slIn⟩)
    (cIn_ : PySem.W.codeIn K cdIn "is_integer" = true)
    (kIn : PySem.W.keepIn K (.ref fIn) = true)
    (aIw : PySem.W.nsIn K mainGlobals "is_within" = some (some (.ref fIw)))
    (lIw : K.lookup fIw = some ⟨ocIw, odIw, .func (PySem.W.fnOf "is_within" "is_within" (defArgs (sIsWithin)) (defBody (sIsWithin)) (defScope (sIsWithin)) .none kVIw dcIw pmIw anIw cdIw ctIw), slIw⟩)
    (cIw_ : PySem.W.codeIn K cdIw "is_within" = true)
    (kIw : PySem.W.keepIn K (.ref fIw) = true)
    (aRi : PySem.W.nsIn K mainGlobals "require_index" = some (some (.ref fRi)))
    (lRi : K.lookup fRi = some ⟨ocRi, odRi, .func (PySem.W.fnOf "require_index" "require_index" (defArgs (sIndex)) (defBody (sIndex)) (defScope (sIndex)) .none kVRi dcRi pmRi anRi cdRi ctRi), slRi⟩)
    (cRi_ : PySem.W.codeIn K cdRi "require_index" = true)
    (kRi : PySem.W.keepIn K (.ref fRi) = true)
    (aNa : PySem.W.nsIn K mainGlobals "number_at" = some (some (.ref fNa)))
    (lNa : K.lookup fNa = some ⟨ocNa, odNa, .func (PySem.W.fnOf "number_at" "number_at" (defArgs (sNumAt)) (defBody (sNumAt)) (defScope (sNumAt)) .none kVNa dcNa pmNa anNa cdNa ctNa), slNa⟩)
    (cNa_ : PySem.W.codeIn K cdNa "number_at" = true)
    (kNa : PySem.W.keepIn K (.ref fNa) = true)
    (aTr : PySem.W.nsIn K mainGlobals "turned_row" = some (some (.ref fTr)))
    (lTr : K.lookup fTr = some ⟨ocTr, odTr, .func (PySem.W.fnOf "turned_row" "turned_row" (defArgs (sTurned)) (defBody (sTurned)) (defScope (sTurned)) .none kVTr dcTr pmTr anTr cdTr ctTr), slTr⟩)
    (cTr_ : PySem.W.codeIn K cdTr "turned_row" = true)
    (kTr : PySem.W.keepIn K (.ref fTr) = true)
    (aSl : PySem.W.nsIn K mainGlobals "slant_of" = some (some (.ref fSl)))
    (lSl : K.lookup fSl = some ⟨ocSl, odSl, .func (PySem.W.fnOf "slant_of" "slant_of" (defArgs (sSlant)) (defBody (sSlant)) (defScope (sSlant)) .none kVSl dcSl pmSl anSl cdSl ctSl), slSl⟩)
    (cSl_ : PySem.W.codeIn K cdSl "slant_of" = true)
    (kSl : PySem.W.keepIn K (.ref fSl) = true)
    (aHd : PySem.W.nsIn K mainGlobals "is_held" = some (some (.ref fHd)))
    (lHd : K.lookup fHd = some ⟨ocHd, odHd, .func (PySem.W.fnOf "is_held" "is_held" (defArgs (sHeld)) (defBody (sHeld)) (defScope (sHeld)) .none kVHd dcHd pmHd anHd cdHd ctHd), slHd⟩)
    (cHd_ : PySem.W.codeIn K cdHd "is_held" = true)
    (kHd : PySem.W.keepIn K (.ref fHd) = true)
    (aTp : PySem.W.nsIn K mainGlobals "is_topped" = some (some (.ref fTp)))
    (lTp : K.lookup fTp = some ⟨ocTp, odTp, .func (PySem.W.fnOf "is_topped" "is_topped" (defArgs (sTopped)) (defBody (sTopped)) (defScope (sTopped)) .none kVTp dcTp pmTp anTp cdTp ctTp), slTp⟩)
    (cTp_ : PySem.W.codeIn K cdTp "is_topped" = true)
    (kTp : PySem.W.keepIn K (.ref fTp) = true)
    (aJo : PySem.W.nsIn K mainGlobals "joined_row" = some (some (.ref fJo)))
    (lJo : K.lookup fJo = some ⟨ocJo, odJo, .func (PySem.W.fnOf "joined_row" "joined_row" (defArgs (sJoined)) (defBody (sJoined)) (defScope (sJoined)) .none kVJo dcJo pmJo anJo cdJo ctJo), slJo⟩)
    (cJo_ : PySem.W.codeIn K cdJo "joined_row" = true)
    (kJo : PySem.W.keepIn K (.ref fJo) = true)
    (aAd : PySem.W.nsIn K mainGlobals "added_row" = some (some (.ref fAd)))
    (lAd : K.lookup fAd = some ⟨ocAd, odAd, .func (PySem.W.fnOf "added_row" "added_row" (defArgs (sAdded)) (defBody (sAdded)) (defScope (sAdded)) .none kVAd dcAd pmAd anAd cdAd ctAd), slAd⟩)
    (cAd_ : PySem.W.codeIn K cdAd "added_row" = true)
    (kAd : PySem.W.keepIn K (.ref fAd) = true)
    (aFa : PySem.W.nsIn K mainGlobals "is_falling" = some (some (.ref fFa)))
    (lFa : K.lookup fFa = some ⟨ocFa, odFa, .func (PySem.W.fnOf "is_falling" "is_falling" (defArgs (sFalling)) (defBody (sFalling)) (defScope (sFalling)) .none kVFa dcFa pmFa anFa cdFa ctFa), slFa⟩)
    (cFa_ : PySem.W.codeIn K cdFa "is_falling" = true)
    (kFa : PySem.W.keepIn K (.ref fFa) = true)
    (aRk : PySem.W.nsIn K mainGlobals "require_kind" = some (some (.ref fRk)))
    (lRk : K.lookup fRk = some ⟨ocRk, odRk, .func (PySem.W.fnOf "require_kind" "require_kind" (defArgs (sReqKind)) (defBody (sReqKind)) (defScope (sReqKind)) .none kVRk dcRk pmRk anRk cdRk ctRk), slRk⟩)
    (cRk_ : PySem.W.codeIn K cdRk "require_kind" = true)
    (kRk : PySem.W.keepIn K (.ref fRk) = true)
    (aRs : PySem.W.nsIn K mainGlobals "require_size" = some (some (.ref fRs)))
    (lRs : K.lookup fRs = some ⟨ocRs, odRs, .func (PySem.W.fnOf "require_size" "require_size" (defArgs (sReqSize)) (defBody (sReqSize)) (defScope (sReqSize)) .none kVRs dcRs pmRs anRs cdRs ctRs), slRs⟩)
    (cRs_ : PySem.W.codeIn K cdRs "require_size" = true)
    (kRs : PySem.W.keepIn K (.ref fRs) = true)
    (aDi : PySem.W.nsIn K mainGlobals "_law_dice" = some (some (.ref fDi)))
    (lDi : K.lookup fDi = some ⟨ocDi, odDi, .func (PySem.W.fnOf "_law_dice" "_law_dice" (defArgs (sDice)) (defBody (sDice)) (defScope (sDice)) .none kVDi dcDi pmDi anDi cdDi ctDi), slDi⟩)
    (cDi_ : PySem.W.codeIn K cdDi "_law_dice" = true)
    (kDi : PySem.W.keepIn K (.ref fDi) = true)
    (aRo : PySem.W.nsIn K mainGlobals "_law_roll" = some (some (.ref fRo)))
    (lRo : K.lookup fRo = some ⟨ocRo, odRo, .func (PySem.W.fnOf "_law_roll" "_law_roll" (defArgs (sRoll)) (defBody (sRoll)) (defScope (sRoll)) .none kVRo dcRo pmRo anRo cdRo ctRo), slRo⟩)
    (cRo_ : PySem.W.codeIn K cdRo "_law_roll" = true)
    (kRo : PySem.W.keepIn K (.ref fRo) = true)
    (aPi : PySem.W.nsIn K mainGlobals "_law_pick" = some (some (.ref fPi)))
    (lPi : K.lookup fPi = some ⟨ocPi, odPi, .func (PySem.W.fnOf "_law_pick" "_law_pick" (defArgs (sPick)) (defBody (sPick)) (defScope (sPick)) .none kVPi dcPi pmPi anPi cdPi ctPi), slPi⟩)
    (cPi_ : PySem.W.codeIn K cdPi "_law_pick" = true)
    (kPi : PySem.W.keepIn K (.ref fPi) = true)
    (aKs : PySem.W.nsIn K mainGlobals "_law_kinds" = some (some (.ref fKs)))
    (lKs : K.lookup fKs = some ⟨ocKs, odKs, .func (PySem.W.fnOf "_law_kinds" "_law_kinds" (defArgs (sKinds)) (defBody (sKinds)) (defScope (sKinds)) .none kVKs dcKs pmKs anKs cdKs ctKs), slKs⟩)
    (cKs_ : PySem.W.codeIn K cdKs "_law_kinds" = true)
    (kKs : PySem.W.keepIn K (.ref fKs) = true)
    (aKd : PySem.W.nsIn K mainGlobals "_law_kind" = some (some (.ref fKd)))
    (lKd : K.lookup fKd = some ⟨ocKd, odKd, .func (PySem.W.fnOf "_law_kind" "_law_kind" (defArgs (sKind)) (defBody (sKind)) (defScope (sKind)) .none kVKd dcKd pmKd anKd cdKd ctKd), slKd⟩)
    (cKd_ : PySem.W.codeIn K cdKd "_law_kind" = true)
    (kKd : PySem.W.keepIn K (.ref fKd) = true)
    (aLt : PySem.W.nsIn K mainGlobals "_law_turned" = some (some (.ref fLt)))
    (lLt : K.lookup fLt = some ⟨ocLt, odLt, .func (PySem.W.fnOf "_law_turned" "_law_turned" (defArgs (sLTurned)) (defBody (sLTurned)) (defScope (sLTurned)) .none kVLt dcLt pmLt anLt cdLt ctLt), slLt⟩)
    (cLt_ : PySem.W.codeIn K cdLt "_law_turned" = true)
    (kLt : PySem.W.keepIn K (.ref fLt) = true)
    (aDh : PySem.W.nsIn K mainGlobals "_law_does_hold" = some (some (.ref fDh)))
    (lDh : K.lookup fDh = some ⟨ocDh, odDh, .func (PySem.W.fnOf "_law_does_hold" "_law_does_hold" (defArgs (sDoesHold)) (defBody (sDoesHold)) (defScope (sDoesHold)) .none kVDh dcDh pmDh anDh cdDh ctDh), slDh⟩)
    (cDh_ : PySem.W.codeIn K cdDh "_law_does_hold" = true)
    (kDh : PySem.W.keepIn K (.ref fDh) = true)
    (aDt : PySem.W.nsIn K mainGlobals "_law_does_top" = some (some (.ref fDt)))
    (lDt : K.lookup fDt = some ⟨ocDt, odDt, .func (PySem.W.fnOf "_law_does_top" "_law_does_top" (defArgs (sDoesTop)) (defBody (sDoesTop)) (defScope (sDoesTop)) .none kVDt dcDt pmDt anDt cdDt ctDt), slDt⟩)
    (cDt_ : PySem.W.codeIn K cdDt "_law_does_top" = true)
    (kDt : PySem.W.keepIn K (.ref fDt) = true)
    (aPu : PySem.W.nsIn K mainGlobals "_law_put_together" = some (some (.ref fPu)))
    (lPu : K.lookup fPu = some ⟨ocPu, odPu, .func (PySem.W.fnOf "_law_put_together" "_law_put_together" (defArgs (sPut)) (defBody (sPut)) (defScope (sPut)) .none kVPu dcPu pmPu anPu cdPu ctPu), slPu⟩)
    (cPu_ : PySem.W.codeIn K cdPu "_law_put_together" = true)
    (kPu : PySem.W.keepIn K (.ref fPu) = true)
    (aAu : PySem.W.nsIn K mainGlobals "_law_added_up" = some (some (.ref fAu)))
    (lAu : K.lookup fAu = some ⟨ocAu, odAu, .func (PySem.W.fnOf "_law_added_up" "_law_added_up" (defArgs (sAddUp)) (defBody (sAddUp)) (defScope (sAddUp)) .none kVAu dcAu pmAu anAu cdAu ctAu), slAu⟩)
    (cAu_ : PySem.W.codeIn K cdAu "_law_added_up" = true)
    (kAu : PySem.W.keepIn K (.ref fAu) = true)
    (aJr : PySem.W.nsIn K mainGlobals "_law_joined_right" = some (some (.ref fJr)))
    (lJr : K.lookup fJr = some ⟨ocJr, odJr, .func (PySem.W.fnOf "_law_joined_right" "_law_joined_right" (defArgs (sTwo)) (defBody (sTwo)) (defScope (sTwo)) .none kVJr dcJr pmJr anJr cdJr ctJr), slJr⟩)
    (cJr_ : PySem.W.codeIn K cdJr "_law_joined_right" = true)
    (kJr : PySem.W.keepIn K (.ref fJr) = true)
    (aOr : PySem.W.nsIn K mainGlobals "_law_is_one_right" = some (some (.ref fOr)))
    (lOr : K.lookup fOr = some ⟨ocOr, odOr, .func (PySem.W.fnOf "_law_is_one_right" "_law_is_one_right" (defArgs (sOne)) (defBody (sOne)) (defScope (sOne)) .none kVOr dcOr pmOr anOr cdOr ctOr), slOr⟩)
    (cOr_ : PySem.W.codeIn K cdOr "_law_is_one_right" = true)
    (kOr : PySem.W.keepIn K (.ref fOr) = true)
    (aAr : PySem.W.nsIn K mainGlobals "_law_are_tops_right" = some (some (.ref fAr)))
    (lAr : K.lookup fAr = some ⟨ocAr, odAr, .func (PySem.W.fnOf "_law_are_tops_right" "_law_are_tops_right" (defArgs (sTopR)) (defBody (sTopR)) (defScope (sTopR)) .none kVAr dcAr pmAr anAr cdAr ctAr), slAr⟩)
    (cAr_ : PySem.W.codeIn K cdAr "_law_are_tops_right" = true)
    (kAr : PySem.W.keepIn K (.ref fAr) = true)
    (aRg : PySem.W.nsIn K mainGlobals "_law_right" = some (some (.ref fRg)))
    (lRg : K.lookup fRg = some ⟨ocRg, odRg, .func (PySem.W.fnOf "_law_right" "_law_right" (defArgs (sRight)) (defBody (sRight)) (defScope (sRight)) .none kVRg dcRg pmRg anRg cdRg ctRg), slRg⟩)
    (cRg_ : PySem.W.codeIn K cdRg "_law_right" = true)
    (kRg : PySem.W.keepIn K (.ref fRg) = true)
    (aLm : PySem.W.nsIn K mainGlobals "_law_limit" = some (some (.ref fLm)))
    (lLm : K.lookup fLm = some ⟨ocLm, odLm, .func (PySem.W.fnOf "_law_limit" "_law_limit" (defArgs (sLimit)) (defBody (sLimit)) (defScope (sLimit)) .none kVLm dcLm pmLm anLm cdLm ctLm), slLm⟩)
    (cLm_ : PySem.W.codeIn K cdLm "_law_limit" = true)
    (kLm : PySem.W.keepIn K (.ref fLm) = true)
    (aLa : PySem.W.nsIn K mainGlobals "law" = some (some (.ref fLa)))
    (lLa : K.lookup fLa = some ⟨ocLa, odLa, .func (PySem.W.fnOf "law" "law" (defArgs (sLaw)) (defBody (sLaw)) (defScope (sLaw)) .none kVLa dcLa pmLa anLa cdLa ctLa), slLa⟩)
    (cLa_ : PySem.W.codeIn K cdLa "law" = true)
    (kLa : PySem.W.keepIn K (.ref fLa) = true)
    (aC : PySem.W.nsIn K mainGlobals "Kind" = some (some (.ref C)))
    (pgC : PySem.W.plainGet K C Str.empty = true)
    (hdC : PySem.W.hasDictIn K C = true)
    (poC : PySem.W.plainOver K C = true)
    (saC : PySem.W.findIn K (.ref C) "__setattr__" = some (some (.builtin "object.__setattr__")))
    (mkC : PySem.W.makesIn K C = true)
    (kcC : PySem.W.keepIn K (.ref C) = true)
    (haC : PySem.W.findIn K (.ref C) "__class__" = some (some (.builtin "object.__class__")))
    (hmC : PySem.W.mroIn K C (.type "object") = some true)
    (ciC : PySem.W.isClsIn K C = true)
    (ctC : PySem.W.typeIn K (.ref C) = some (.type "type"))
    (neC : PySem.W.findIn K (.ref C) "__ne__" = some (some (.builtin "object.__ne__")))
    (sfC : PySem.W.selfFirst K C = true)
    (raddC : PySem.W.findIn K (.ref C) "__radd__" = some none)
    (no0C : PySem.W.findIn K (.ref C) "_numbers" = some none)
    (no1C : PySem.W.findIn K (.ref C) "_place" = some none)
    (hn : PySem.W.specialIn K (.builtin "object.__class__") "__get__" = some (some (.builtin "getset_descriptor.__get__")))
    (htk : PySem.W.takesIn K (.builtin "object.__class__") = some true)
    (aI0 : PySem.W.findIn K (.ref C) "__init__" = some (some (.ref fI0)))
    (lI0 : K.lookup fI0 = some ⟨ocI0, odI0, .func (PySem.W.fnOf "__init__" "Kind.__init__" (defArgs (cls 0)) (defBody (cls 0)) (defScope (cls 0)) (.ref TI0) kVI0 dcI0 pmI0 anI0 cdI0 ctI0), slI0⟩)
    (cI0_ : PySem.W.codeIn K cdI0 "Kind.__init__" = true)
    (kI0 : PySem.W.keepIn K (.ref fI0) = true)
    (iI0 : PySem.W.isFn K (.ref fI0) = true)
    (LI0 : K.lookup TI0 = some ⟨o1I0, o2I0, .seq #[.ref tI0] o3I0, o4I0⟩)
    (mI0 : K.lookup tI0 = some ⟨.type "tuple", none, .seq #[] o6I0, o7I0⟩)
    (aHo : PySem.W.findIn K (.ref C) "holds" = some (some (.ref fHo)))
    (lHo : K.lookup fHo = some ⟨ocHo, odHo, .func (PySem.W.fnOf "holds" "Kind.holds" (defArgs (cls 11)) (defBody (cls 11)) (defScope (cls 11)) .none kVHo dcHo pmHo anHo cdHo ctHo), slHo⟩)
    (cHo_ : PySem.W.codeIn K cdHo "Kind.holds" = true)
    (kHo : PySem.W.keepIn K (.ref fHo) = true)
    (iHo : PySem.W.isFn K (.ref fHo) = true)
    (jHo : PySem.W.fnIn K fHo = true)
    (aTo : PySem.W.findIn K (.ref C) "tops" = some (some (.ref fTo)))
    (lTo : K.lookup fTo = some ⟨ocTo, odTo, .func (PySem.W.fnOf "tops" "Kind.tops" (defArgs (cls 12)) (defBody (cls 12)) (defScope (cls 12)) .none kVTo dcTo pmTo anTo cdTo ctTo), slTo⟩)
    (cTo_ : PySem.W.codeIn K cdTo "Kind.tops" = true)
    (kTo : PySem.W.keepIn K (.ref fTo) = true)
    (iTo : PySem.W.isFn K (.ref fTo) = true)
    (jTo : PySem.W.fnIn K fTo = true)
    (aPa : PySem.W.findIn K (.ref C) "__add__" = some (some (.ref fPa)))
    (lPa : K.lookup fPa = some ⟨ocPa, odPa, .func (PySem.W.fnOf "__add__" "Kind.__add__" (defArgs (cls 13)) (defBody (cls 13)) (defScope (cls 13)) .none kVPa dcPa pmPa anPa cdPa ctPa), slPa⟩)
    (cPa_ : PySem.W.codeIn K cdPa "Kind.__add__" = true)
    (kPa : PySem.W.keepIn K (.ref fPa) = true)
    (iPa : PySem.W.isFn K (.ref fPa) = true)
    (jPa : PySem.W.fnIn K fPa = true)
    (aOv : PySem.W.findIn K (.ref C) "over" = some (some (.ref fOv)))
    (lOv : K.lookup fOv = some ⟨ocOv, odOv, .func (PySem.W.fnOf "over" "Kind.over" (defArgs (cls 14)) (defBody (cls 14)) (defScope (cls 14)) .none kVOv dcOv pmOv anOv cdOv ctOv), slOv⟩)
    (cOv_ : PySem.W.codeIn K cdOv "Kind.over" = true)
    (kOv : PySem.W.keepIn K (.ref fOv) = true)
    (iOv : PySem.W.isFn K (.ref fOv) = true)
    (jOv : PySem.W.fnIn K fOv = true)
    (aGi : PySem.W.findIn K (.ref C) "__getitem__" = some (some (.ref fGi)))
    (lGi : K.lookup fGi = some ⟨ocGi, odGi, .func (PySem.W.fnOf "__getitem__" "Kind.__getitem__" (defArgs (cls 16)) (defBody (cls 16)) (defScope (cls 16)) .none kVGi dcGi pmGi anGi cdGi ctGi), slGi⟩)
    (cGi_ : PySem.W.codeIn K cdGi "Kind.__getitem__" = true)
    (kGi : PySem.W.keepIn K (.ref fGi) = true)
    (iGi : PySem.W.isFn K (.ref fGi) = true)
    (jGi : PySem.W.fnIn K fGi = true)
    (aIt : PySem.W.findIn K (.ref C) "__iter__" = some (some (.ref fIt)))
    (lIt : K.lookup fIt = some ⟨ocIt, odIt, .func (PySem.W.fnOf "__iter__" "Kind.__iter__" (defArgs (cls 18)) (defBody (cls 18)) (defScope (cls 18)) .none kVIt dcIt pmIt anIt cdIt ctIt), slIt⟩)
    (cIt_ : PySem.W.codeIn K cdIt "Kind.__iter__" = true)
    (kIt : PySem.W.keepIn K (.ref fIt) = true)
    (iIt : PySem.W.isFn K (.ref fIt) = true)
    (jIt : PySem.W.fnIn K fIt = true)
    (aEq : PySem.W.findIn K (.ref C) "__eq__" = some (some (.ref fEq)))
    (lEq : K.lookup fEq = some ⟨ocEq, odEq, .func (PySem.W.fnOf "__eq__" "Kind.__eq__" (defArgs (cls 19)) (defBody (cls 19)) (defScope (cls 19)) .none kVEq dcEq pmEq anEq cdEq ctEq), slEq⟩)
    (cEq_ : PySem.W.codeIn K cdEq "Kind.__eq__" = true)
    (kEq : PySem.W.keepIn K (.ref fEq) = true)
    (iEq : PySem.W.isFn K (.ref fEq) = true)
    (jEq : PySem.W.fnIn K fEq = true)
    (aLs : PySem.W.findIn K (.ref C) "__lt__" = some (some (.ref fLs)))
    (lLs : K.lookup fLs = some ⟨ocLs, odLs, .func (PySem.W.fnOf "__lt__" "Kind.__lt__" (defArgs (cls 20)) (defBody (cls 20)) (defScope (cls 20)) .none kVLs dcLs pmLs anLs cdLs ctLs), slLs⟩)
    (cLs_ : PySem.W.codeIn K cdLs "Kind.__lt__" = true)
    (kLs : PySem.W.keepIn K (.ref fLs) = true)
    (iLs : PySem.W.isFn K (.ref fLs) = true)
    (jLs : PySem.W.fnIn K fLs = true)
    (aPn : PySem.W.findIn K (.ref C) "numbers" = some (some (.ref pPn)))
    (gPn : PySem.W.specialIn K (.ref pPn) "__get__" = some (some (.builtin "property.__get__")))
    (tPn_ : PySem.W.takesIn K (.ref pPn) = some true)
    (rPn : PySem.W.recIn K pPn "property" = some (.ref fPn :: restPn))
    (lPn : K.lookup fPn = some ⟨ocPn, odPn, .func (PySem.W.fnOf "numbers" "Kind.numbers" (defArgs (cls 2)) (defBody (cls 2)) (defScope (cls 2)) .none kVPn dcPn pmPn anPn cdPn ctPn), slPn⟩)
    (cPn_ : PySem.W.codeIn K cdPn "Kind.numbers" = true)
    (kPn : PySem.W.keepIn K (.ref fPn) = true)
    (aPs : PySem.W.findIn K (.ref C) "size" = some (some (.ref pPs)))
    (gPs : PySem.W.specialIn K (.ref pPs) "__get__" = some (some (.builtin "property.__get__")))
    (tPs_ : PySem.W.takesIn K (.ref pPs) = some true)
    (rPs : PySem.W.recIn K pPs "property" = some (.ref fPs :: restPs))
    (lPs : K.lookup fPs = some ⟨ocPs, odPs, .func (PySem.W.fnOf "size" "Kind.size" (defArgs (cls 3)) (defBody (cls 3)) (defScope (cls 3)) .none kVPs dcPs pmPs anPs cdPs ctPs), slPs⟩)
    (cPs_ : PySem.W.codeIn K cdPs "Kind.size" = true)
    (kPs : PySem.W.keepIn K (.ref fPs) = true)
    (aPr : PySem.W.findIn K (.ref C) "rank" = some (some (.ref pPr)))
    (gPr : PySem.W.specialIn K (.ref pPr) "__get__" = some (some (.builtin "property.__get__")))
    (tPr_ : PySem.W.takesIn K (.ref pPr) = some true)
    (rPr : PySem.W.recIn K pPr "property" = some (.ref fPr :: restPr))
    (lPr : K.lookup fPr = some ⟨ocPr, odPr, .func (PySem.W.fnOf "rank" "Kind.rank" (defArgs (cls 4)) (defBody (cls 4)) (defScope (cls 4)) .none kVPr dcPr pmPr anPr cdPr ctPr), slPr⟩)
    (cPr_ : PySem.W.codeIn K cdPr "Kind.rank" = true)
    (kPr : PySem.W.keepIn K (.ref fPr) = true)
    (aPh : PySem.W.findIn K (.ref C) "height" = some (some (.ref pPh)))
    (gPh : PySem.W.specialIn K (.ref pPh) "__get__" = some (some (.builtin "property.__get__")))
    (tPh_ : PySem.W.takesIn K (.ref pPh) = some true)
    (rPh : PySem.W.recIn K pPh "property" = some (.ref fPh :: restPh))
    (lPh : K.lookup fPh = some ⟨ocPh, odPh, .func (PySem.W.fnOf "height" "Kind.height" (defArgs (cls 5)) (defBody (cls 5)) (defScope (cls 5)) .none kVPh dcPh pmPh anPh cdPh ctPh), slPh⟩)
    (cPh_ : PySem.W.codeIn K cdPh "Kind.height" = true)
    (kPh : PySem.W.keepIn K (.ref fPh) = true)
    (aPl : PySem.W.findIn K (.ref C) "slant" = some (some (.ref pPl)))
    (gPl : PySem.W.specialIn K (.ref pPl) "__get__" = some (some (.builtin "property.__get__")))
    (tPl_ : PySem.W.takesIn K (.ref pPl) = some true)
    (rPl : PySem.W.recIn K pPl "property" = some (.ref fPl :: restPl))
    (lPl : K.lookup fPl = some ⟨ocPl, odPl, .func (PySem.W.fnOf "slant" "Kind.slant" (defArgs (cls 6)) (defBody (cls 6)) (defScope (cls 6)) .none kVPl dcPl pmPl anPl cdPl ctPl), slPl⟩)
    (cPl_ : PySem.W.codeIn K cdPl "Kind.slant" = true)
    (kPl : PySem.W.keepIn K (.ref fPl) = true)
    (aPt : PySem.W.findIn K (.ref C) "turned" = some (some (.ref pPt)))
    (gPt : PySem.W.specialIn K (.ref pPt) "__get__" = some (some (.builtin "property.__get__")))
    (tPt_ : PySem.W.takesIn K (.ref pPt) = some true)
    (rPt : PySem.W.recIn K pPt "property" = some (.ref fPt :: restPt))
    (lPt : K.lookup fPt = some ⟨ocPt, odPt, .func (PySem.W.fnOf "turned" "Kind.turned" (defArgs (cls 7)) (defBody (cls 7)) (defScope (cls 7)) .none kVPt dcPt pmPt anPt cdPt ctPt), slPt⟩)
    (cPt_ : PySem.W.codeIn K cdPt "Kind.turned" = true)
    (kPt : PySem.W.keepIn K (.ref fPt) = true)
    (z_isinstance : PySem.W.nsIn K mainGlobals "isinstance" = some none)
    (z_int : PySem.W.nsIn K mainGlobals "int" = some none)
    (z_bool : PySem.W.nsIn K mainGlobals "bool" = some none)
    (z_str : PySem.W.nsIn K mainGlobals "str" = some none)
    (z_tuple : PySem.W.nsIn K mainGlobals "tuple" = some none)
    (z_list : PySem.W.nsIn K mainGlobals "list" = some none)
    (z_dict : PySem.W.nsIn K mainGlobals "dict" = some none)
    (z_len : PySem.W.nsIn K mainGlobals "len" = some none)
    (z_all : PySem.W.nsIn K mainGlobals "all" = some none)
    (z_any : PySem.W.nsIn K mainGlobals "any" = some none)
    (z_sum : PySem.W.nsIn K mainGlobals "sum" = some none)
    (z_iter : PySem.W.nsIn K mainGlobals "iter" = some none)
    (z_max : PySem.W.nsIn K mainGlobals "max" = some none)
    (z_min : PySem.W.nsIn K mainGlobals "min" = some none)
    (z_abs : PySem.W.nsIn K mainGlobals "abs" = some none)
    (z_range : PySem.W.nsIn K mainGlobals "range" = some none)
    (z_repr : PySem.W.nsIn K mainGlobals "repr" = some none)
    (z_sorted : PySem.W.nsIn K mainGlobals "sorted" = some none)
    (z_enumerate : PySem.W.nsIn K mainGlobals "enumerate" = some none)
    (z_zip : PySem.W.nsIn K mainGlobals "zip" = some none)
    (v_BOUND : PySem.W.nsIn K mainGlobals "BOUND" = some (some (.int (10 ^ 60) tkBOUND)))
    (v_MAX_SIZE : PySem.W.nsIn K mainGlobals "MAX_SIZE" = some (some (.int (12) tkMAX_SIZE)))
    (xCN : PySem.W.nsIn K mainGlobals "InvalidNumber" = some (some (.ref CNx)))
    (xLN : K.lookup CNx = some (excClassObj nmN qN CNx qNx bsN [.type "IndexError", .type "LookupError", .type "Exception", .type "BaseException", .type "object"] true snN subN abN colN ddN m0N m1N m2N m3N m5N "IndexError.__new__"))
    (xsaN : PySem.W.findIn K (.ref CNx) "__setattr__" = some (some (.builtin "object.__setattr__")))
    (xgaN : PySem.W.findIn K (.ref CNx) "__getattribute__" = some (some (.builtin "BaseException.__getattribute__")))
    (xggN : PySem.W.findIn K (.ref CNx) "__getattr__" = some none)
    (xnbN : PySem.W.findIn K (.ref CNx) "value" = some none)
    (xaN : PySem.W.findIn K (.ref CNx) "__init__" = some (some (.ref fNx)))
    (xtN : PySem.W.typeIn K (.ref fNx) = some (.type "function"))
    (xlN : K.lookup fNx = some ⟨ocxN, odxN, .func (PySem.W.fnOf "__init__" "InvalidNumber.__init__" (PySem.XInvalidNumber.iA q1N q2N) (PySem.XInvalidNumber.iB q3N q4N q5N q6N) PySem.XInvalidNumber.iS .none .none dcxN pmxN anxN cdxN ctxN), slxN⟩)
    (xcN : PySem.W.codeIn K cdxN "InvalidNumber.__init__" = true)
    (xkN : PySem.W.keepIn K (.ref CNx) = true)
    (xeN : PySem.W.subIn K (.ref CNx) (.type "BaseException") = some true)
    (xTN : PySem.W.typeIn K (.ref CNx) = some (.type "type"))
    (xhN : PySem.W.hasDictIn K CNx = true)
    (xiN : PySem.W.isClsIn K CNx = true)
    (xsN : PySem.W.subIn K (.ref CNx) (.ref CNx) = some true)
    (xCM : PySem.W.nsIn K mainGlobals "TooMany" = some (some (.ref CMx)))
    (xLM : K.lookup CMx = some (excClassObj nmM qM CMx qMx bsM [.type "OverflowError", .type "ArithmeticError", .type "Exception", .type "BaseException", .type "object"] true snM subM abM colM ddM m0M m1M m2M m3M m5M "OverflowError.__new__"))
    (xsaM : PySem.W.findIn K (.ref CMx) "__setattr__" = some (some (.builtin "object.__setattr__")))
    (xgaM : PySem.W.findIn K (.ref CMx) "__getattribute__" = some (some (.builtin "BaseException.__getattribute__")))
    (xggM : PySem.W.findIn K (.ref CMx) "__getattr__" = some none)
    (xnbM : PySem.W.findIn K (.ref CMx) "limit" = some none)
    (xaM : PySem.W.findIn K (.ref CMx) "__init__" = some (some (.ref fMx)))
    (xtM : PySem.W.typeIn K (.ref fMx) = some (.type "function"))
    (xlM : K.lookup fMx = some ⟨ocxM, odxM, .func (PySem.W.fnOf "__init__" "TooMany.__init__" (PySem.XTooMany.iA q1M q2M) (PySem.XTooMany.iB q3M q4M q5M q6M) PySem.XTooMany.iS .none .none dcxM pmxM anxM cdxM ctxM), slxM⟩)
    (xcM : PySem.W.codeIn K cdxM "TooMany.__init__" = true)
    (xkM : PySem.W.keepIn K (.ref CMx) = true)
    (xeM : PySem.W.subIn K (.ref CMx) (.type "BaseException") = some true)
    (xTM : PySem.W.typeIn K (.ref CMx) = some (.type "type"))
    (xhM : PySem.W.hasDictIn K CMx = true)
    (xiM : PySem.W.isClsIn K CMx = true)
    (xsM : PySem.W.subIn K (.ref CMx) (.ref CMx) = some true)
    : ∃ fd : FuncData, (∀ (s : Shared) (v : Value), BindsTo s fd ⟨[v], []⟩ [("_law_script", v)]) ∧ ∀ base : Heap, K.In base → base.Ns mainGlobals mg → FnG l.prog w K mg base CX0 12 fa fd ["_law_script"] (spLaw K) := by
  have e := hfa.symm.trans (PySem.W.mg_of X G aLa)
  cases e
  have FWh := fun_mk (st := sWhole) lWh cWh_ kWh
  have bWh := FWh.binds (ps := ["value"]) fun _ _ _ _ _ _ us hl => match us, hl with | [_], _ => rfl
  have gWh_ := PySem.W.mg_of X G aWh
  have FIn := fun_mk (st := sInteger) lIn cIn_ kIn
  have bIn := FIn.binds (ps := ["value"]) fun _ _ _ _ _ _ us hl => match us, hl with | [_], _ => rfl
  have gIn_ := PySem.W.mg_of X G aIn
  have FIw := fun_mk (st := sIsWithin) lIw cIw_ kIw
  have bIw := FIw.binds (ps := ["value", "low", "high"]) fun _ _ _ _ _ _ us hl => match us, hl with | [_, _, _], _ => rfl
  have gIw_ := PySem.W.mg_of X G aIw
  have FRi := fun_mk (st := sIndex) lRi cRi_ kRi
  have bRi := FRi.binds (ps := ["value"]) fun _ _ _ _ _ _ us hl => match us, hl with | [_], _ => rfl
  have gRi_ := PySem.W.mg_of X G aRi
  have FNa := fun_mk (st := sNumAt) lNa cNa_ kNa
  have bNa := FNa.binds (ps := ["row", "index"]) fun _ _ _ _ _ _ us hl => match us, hl with | [_, _], _ => rfl
  have gNa_ := PySem.W.mg_of X G aNa
  have FTr := fun_mk (st := sTurned) lTr cTr_ kTr
  have bTr := FTr.binds (ps := ["row"]) fun _ _ _ _ _ _ us hl => match us, hl with | [_], _ => rfl
  have gTr_ := PySem.W.mg_of X G aTr
  have FSl := fun_mk (st := sSlant) lSl cSl_ kSl
  have bSl := FSl.binds (ps := ["row"]) fun _ _ _ _ _ _ us hl => match us, hl with | [_], _ => rfl
  have gSl_ := PySem.W.mg_of X G aSl
  have FHd := fun_mk (st := sHeld) lHd cHd_ kHd
  have bHd := FHd.binds (ps := ["row", "other"]) fun _ _ _ _ _ _ us hl => match us, hl with | [_, _], _ => rfl
  have gHd_ := PySem.W.mg_of X G aHd
  have FTp := fun_mk (st := sTopped) lTp cTp_ kTp
  have bTp := FTp.binds (ps := ["row", "other"]) fun _ _ _ _ _ _ us hl => match us, hl with | [_, _], _ => rfl
  have gTp_ := PySem.W.mg_of X G aTp
  have FJo := fun_mk (st := sJoined) lJo cJo_ kJo
  have bJo := FJo.binds (ps := ["one", "other"]) fun _ _ _ _ _ _ us hl => match us, hl with | [_, _], _ => rfl
  have gJo_ := PySem.W.mg_of X G aJo
  have FAd := fun_mk (st := sAdded) lAd cAd_ kAd
  have bAd := FAd.binds (ps := ["one", "other"]) fun _ _ _ _ _ _ us hl => match us, hl with | [_, _], _ => rfl
  have gAd_ := PySem.W.mg_of X G aAd
  have FFa := fun_mk (st := sFalling) lFa cFa_ kFa
  have bFa := FFa.binds (ps := ["value", "most"]) fun _ _ _ _ _ _ us hl => match us, hl with | [_, _], _ => rfl
  have gFa_ := PySem.W.mg_of X G aFa
  have FRk := fun_mk (st := sReqKind) lRk cRk_ kRk
  have bRk := FRk.binds (ps := ["value"]) fun _ _ _ _ _ _ us hl => match us, hl with | [_], _ => rfl
  have gRk_ := PySem.W.mg_of X G aRk
  have FRs := fun_mk (st := sReqSize) lRs cRs_ kRs
  have bRs := FRs.binds (ps := ["size"]) fun _ _ _ _ _ _ us hl => match us, hl with | [_], _ => rfl
  have gRs_ := PySem.W.mg_of X G aRs
  have FDi := fun_mk (st := sDice) lDi cDi_ kDi
  have bDi := FDi.binds (ps := ["_law_script", "_law_spot"]) fun _ _ _ _ _ _ us hl => match us, hl with | [_, _], _ => rfl
  have gDi_ := PySem.W.mg_of X G aDi
  have FRo := fun_mk (st := sRoll) lRo cRo_ kRo
  have bRo := FRo.binds (ps := ["_law_dice_here", "_law_total"]) fun _ _ _ _ _ _ us hl => match us, hl with | [_, _], _ => rfl
  have gRo_ := PySem.W.mg_of X G aRo
  have FPi := fun_mk (st := sPick) lPi cPi_ kPi
  have bPi := FPi.binds (ps := ["_law_dice_here", "_law_items"]) fun _ _ _ _ _ _ us hl => match us, hl with | [_, _], _ => rfl
  have gPi_ := PySem.W.mg_of X G aPi
  have FKs := fun_mk (st := sKinds) lKs cKs_ kKs
  have bKs := FKs.binds (ps := ["_law_size"]) fun _ _ _ _ _ _ us hl => match us, hl with | [_], _ => rfl
  have gKs_ := PySem.W.mg_of X G aKs
  have FKd := fun_mk (st := sKind) lKd cKd_ kKd
  have bKd := FKd.binds (ps := ["_law_dice_here", "_law_most"]) fun _ _ _ _ _ _ us hl => match us, hl with | [_, _], _ => rfl
  have gKd_ := PySem.W.mg_of X G aKd
  have FLt := fun_mk (st := sLTurned) lLt cLt_ kLt
  have bLt := FLt.binds (ps := ["_law_kind_here"]) fun _ _ _ _ _ _ us hl => match us, hl with | [_], _ => rfl
  have gLt_ := PySem.W.mg_of X G aLt
  have FDh := fun_mk (st := sDoesHold) lDh cDh_ kDh
  have bDh := FDh.binds (ps := ["_law_kind_here", "_law_other"]) fun _ _ _ _ _ _ us hl => match us, hl with | [_, _], _ => rfl
  have gDh_ := PySem.W.mg_of X G aDh
  have FDt := fun_mk (st := sDoesTop) lDt cDt_ kDt
  have bDt := FDt.binds (ps := ["_law_kind_here", "_law_other"]) fun _ _ _ _ _ _ us hl => match us, hl with | [_, _], _ => rfl
  have gDt_ := PySem.W.mg_of X G aDt
  have FPu := fun_mk (st := sPut) lPu cPu_ kPu
  have bPu := FPu.binds (ps := ["_law_one", "_law_other"]) fun _ _ _ _ _ _ us hl => match us, hl with | [_, _], _ => rfl
  have gPu_ := PySem.W.mg_of X G aPu
  have FAu := fun_mk (st := sAddUp) lAu cAu_ kAu
  have bAu := FAu.binds (ps := ["_law_one", "_law_other"]) fun _ _ _ _ _ _ us hl => match us, hl with | [_, _], _ => rfl
  have gAu_ := PySem.W.mg_of X G aAu
  have FJr := fun_mk (st := sTwo) lJr cJr_ kJr
  have bJr := FJr.binds (ps := ["_law_one", "_law_other"]) fun _ _ _ _ _ _ us hl => match us, hl with | [_, _], _ => rfl
  have gJr_ := PySem.W.mg_of X G aJr
  have FOr := fun_mk (st := sOne) lOr cOr_ kOr
  have bOr := FOr.binds (ps := ["_law_numbers"]) fun _ _ _ _ _ _ us hl => match us, hl with | [_], _ => rfl
  have gOr_ := PySem.W.mg_of X G aOr
  have FAr := fun_mk (st := sTopR) lAr cAr_ kAr
  have bAr := FAr.binds (ps := ["_law_size"]) fun _ _ _ _ _ _ us hl => match us, hl with | [_], _ => rfl
  have gAr_ := PySem.W.mg_of X G aAr
  have FRg := fun_mk (st := sRight) lRg cRg_ kRg
  have bRg := FRg.binds (ps := ["_law_dice_here"]) fun _ _ _ _ _ _ us hl => match us, hl with | [_], _ => rfl
  have gRg_ := PySem.W.mg_of X G aRg
  have FLm := fun_mk (st := sLimit) lLm cLm_ kLm
  have bLm := FLm.binds (ps := ["_law_one", "_law_other", "_law_way"]) fun _ _ _ _ _ _ us hl => match us, hl with | [_, _, _], _ => rfl
  have gLm_ := PySem.W.mg_of X G aLm
  have FLa := fun_mk (st := sLaw) lLa cLa_ kLa
  have FHo := fun_mk (st := cls 11) lHo cHo_ kHo
  have bHo := FHo.binds (ps := ["self", "other"]) fun _ _ _ _ _ _ us hl => match us, hl with | [_, _], _ => rfl
  have MHo : Meth K C "holds" fHo := ⟨aHo, iHo, kHo⟩
  have FTo := fun_mk (st := cls 12) lTo cTo_ kTo
  have bTo := FTo.binds (ps := ["self", "other"]) fun _ _ _ _ _ _ us hl => match us, hl with | [_, _], _ => rfl
  have MTo : Meth K C "tops" fTo := ⟨aTo, iTo, kTo⟩
  have FPa := fun_mk (st := cls 13) lPa cPa_ kPa
  have bPa := FPa.binds (ps := ["self", "other"]) fun _ _ _ _ _ _ us hl => match us, hl with | [_, _], _ => rfl
  have MPa : Meth K C "__add__" fPa := ⟨aPa, iPa, kPa⟩
  have FOv := fun_mk (st := cls 14) lOv cOv_ kOv
  have bOv := FOv.binds (ps := ["self", "other"]) fun _ _ _ _ _ _ us hl => match us, hl with | [_, _], _ => rfl
  have MOv : Meth K C "over" fOv := ⟨aOv, iOv, kOv⟩
  have FGi := fun_mk (st := cls 16) lGi cGi_ kGi
  have bGi := FGi.binds (ps := ["self", "index"]) fun _ _ _ _ _ _ us hl => match us, hl with | [_, _], _ => rfl
  have MGi : Meth K C "__getitem__" fGi := ⟨aGi, iGi, kGi⟩
  have FIt := fun_mk (st := cls 18) lIt cIt_ kIt
  have bIt := FIt.binds (ps := ["self"]) fun _ _ _ _ _ _ us hl => match us, hl with | [_], _ => rfl
  have MIt : Meth K C "__iter__" fIt := ⟨aIt, iIt, kIt⟩
  have FEq := fun_mk (st := cls 19) lEq cEq_ kEq
  have bEq := FEq.binds (ps := ["self", "other"]) fun _ _ _ _ _ _ us hl => match us, hl with | [_, _], _ => rfl
  have MEq : Meth K C "__eq__" fEq := ⟨aEq, iEq, kEq⟩
  have FLs := fun_mk (st := cls 20) lLs cLs_ kLs
  have bLs := FLs.binds (ps := ["self", "other"]) fun _ _ _ _ _ _ us hl => match us, hl with | [_, _], _ => rfl
  have MLs : Meth K C "__lt__" fLs := ⟨aLs, iLs, kLs⟩
  have FPn := fun_mk (st := cls 2) lPn cPn_ kPn
  have bPn := FPn.binds (ps := ["self"]) fun _ _ _ _ _ _ us hl => match us, hl with | [_], _ => rfl
  have FPs := fun_mk (st := cls 3) lPs cPs_ kPs
  have bPs := FPs.binds (ps := ["self"]) fun _ _ _ _ _ _ us hl => match us, hl with | [_], _ => rfl
  have FPr := fun_mk (st := cls 4) lPr cPr_ kPr
  have bPr := FPr.binds (ps := ["self"]) fun _ _ _ _ _ _ us hl => match us, hl with | [_], _ => rfl
  have FPh := fun_mk (st := cls 5) lPh cPh_ kPh
  have bPh := FPh.binds (ps := ["self"]) fun _ _ _ _ _ _ us hl => match us, hl with | [_], _ => rfl
  have FPl := fun_mk (st := cls 6) lPl cPl_ kPl
  have bPl := FPl.binds (ps := ["self"]) fun _ _ _ _ _ _ us hl => match us, hl with | [_], _ => rfl
  have FPt := fun_mk (st := cls 7) lPt cPt_ kPt
  have bPt := FPt.binds (ps := ["self"]) fun _ _ _ _ _ _ us hl => match us, hl with | [_], _ => rfl
  have Zisinstance := PySem.W.mg_none_of X G z_isinstance
  have Zint := PySem.W.mg_none_of X G z_int
  have Zbool := PySem.W.mg_none_of X G z_bool
  have Zstr := PySem.W.mg_none_of X G z_str
  have Ztuple := PySem.W.mg_none_of X G z_tuple
  have Zlist := PySem.W.mg_none_of X G z_list
  have Zdict := PySem.W.mg_none_of X G z_dict
  have Zlen := PySem.W.mg_none_of X G z_len
  have Zall := PySem.W.mg_none_of X G z_all
  have Zany := PySem.W.mg_none_of X G z_any
  have Zsum := PySem.W.mg_none_of X G z_sum
  have Ziter := PySem.W.mg_none_of X G z_iter
  have Zmax := PySem.W.mg_none_of X G z_max
  have Zmin := PySem.W.mg_none_of X G z_min
  have Zabs := PySem.W.mg_none_of X G z_abs
  have Zrange := PySem.W.mg_none_of X G z_range
  have Zrepr := PySem.W.mg_none_of X G z_repr
  have Zsorted := PySem.W.mg_none_of X G z_sorted
  have Zenumerate := PySem.W.mg_none_of X G z_enumerate
  have Zzip := PySem.W.mg_none_of X G z_zip
  have VBOUND : ∃ t, mg "BOUND" = some (.int (10 ^ 60) t) := ⟨tkBOUND, PySem.W.mg_of X G v_BOUND⟩
  have VMAX_SIZE : ∃ t, mg "MAX_SIZE" = some (.int (12) t) := ⟨tkMAX_SIZE, PySem.W.mg_of X G v_MAX_SIZE⟩
  have EN : PySem.XInvalidNumber.InvalidNumberTxt K mg CNx fNx :=
    { gC := PySem.W.mg_of X G xCN, cls := ⟨nmN, qN, qNx, bsN, snN, subN, abN, colN, ddN, m0N, m1N, m2N, m3N, m5N, xLN⟩, sa := xsaN, ga := xgaN, gg := xggN, noN := xnbN, iC := xaN, tC := xtN, kC := xkN, exC := xeN, tyC := xTN, hdC := xhN, te := exm_one xeN xiN xTN xsN,
      fn := ⟨_, _, _, _, _, _, _, _, _, _, _, _, _, _, xlN, xcN⟩ }
  have EM : PySem.XTooMany.TooManyTxt K mg CMx fMx :=
    { gC := PySem.W.mg_of X G xCM, cls := ⟨nmM, qM, qMx, bsM, snM, subM, abM, colM, ddM, m0M, m1M, m2M, m3M, m5M, xLM⟩, sa := xsaM, ga := xgaM, gg := xggM, noN := xnbM, iC := xaM, tC := xtM, kC := xkM, exC := xeM, tyC := xTM, hdC := xhM, te := exm_one xeM xiM xTM xsM,
      fn := ⟨_, _, _, _, _, _, _, _, _, _, _, _, _, _, xlM, xcM⟩ }
  refine ⟨PySem.W.fnOf "law" "law" (defArgs sLaw) (defBody sLaw) (defScope sLaw) .none kVLa dcLa pmLa anLa cdLa ctLa, fun s v => .of_eq rfl, fun base _ _ => ?_⟩
  have T : Txt K mg := ⟨Zisinstance, Zint, Zbool, Zstr, Ztuple, Zlist, Zdict, Zlen, Zall, Zany, Zsum, Ziter, Zmax, Zmin, Zabs, Zrange, Zrepr, Zsorted, Zenumerate, Zzip, VBOUND⟩
  have Cl : KC K mg C := { cl := ⟨pgC, hdC, poC, saC⟩, noN := no0C, noP := no1C, g := PySem.W.mg_of X G aC, kp := kcC, ha := haC, hn := hn, htk := htk, hm := hmC, kit := kit_self, ne := ⟨neC, hmC⟩, most := VMAX_SIZE }
  have FI : FnI K tI0 fI0 (PySem.W.fnOf "__init__" "Kind.__init__" (defArgs (cls 0)) (defBody (cls 0)) (defScope (cls 0)) (.ref TI0) kVI0 dcI0 pmI0 anI0 cdI0 ctI0) := ⟨⟨ocI0, odI0, .ref TI0, kVI0, dcI0, pmI0, anI0, cdI0, ctI0, slI0, rfl, lI0, cI0_, .inr ⟨by simp, TI0, _, [.ref tI0], o3I0, rfl, LI0, rfl, .cons rfl .nil⟩, .inl rfl⟩, kI0⟩
  obtain ⟨ds, hds, b0⟩ : ∃ ds, Vals ([V.ref tI0].drop 0) ds ∧ Binds K (PySem.W.fnOf "__init__" "Kind.__init__" (defArgs (cls 0)) (defBody (cls 0)) (defScope (cls 0)) (.ref TI0) kVI0 dcI0 pmI0 anI0 cdI0 ctI0) ["self", "numbers"] ds := FI.binds1 1 0 (by simp) rfl fun T kV doc pm an cdv ct us its h1 h2 => match us, its, h1, h2 with | [_], [_], _, _ => ⟨_, rfl, rfl⟩
  have bI : Binds K (PySem.W.fnOf "__init__" "Kind.__init__" (defArgs (cls 0)) (defBody (cls 0)) (defScope (cls 0)) (.ref TI0) kVI0 dcI0 pmI0 anI0 cdI0 ctI0) ["self", "numbers"] [] := by
    obtain ⟨ds, h1, h2⟩ : ∃ ds, Vals ([V.ref tI0].drop 1) ds ∧ Binds K (PySem.W.fnOf "__init__" "Kind.__init__" (defArgs (cls 0)) (defBody (cls 0)) (defScope (cls 0)) (.ref TI0) kVI0 dcI0 pmI0 anI0 cdI0 ctI0) ["self", "numbers"] ds := FI.binds1 2 1 (by simp) rfl fun T kV doc pm an cdv ct us its h1 h2 => match us, its, h1, h2 with | [_, _], [_], _, _ => ⟨_, rfl, rfl⟩
    cases h1
    exact h2
  have hT0 : ∀ H : Hp, TupX K H tI0 [] := fun H => .inr ⟨_, #[], o6I0, mI0, rfl, rfl, rfl, Nat.zero_le _, .nil⟩
  have AW : AtW K mg fWh _ := ⟨FWh, bWh, gWh_⟩
  have AI : AtI K mg fIn _ := ⟨FIn, bIn, gIn_⟩
  have AR : AtR K mg fRo _ := ⟨FRo, bRo, gRo_⟩
  have Wi : Def1 l.prog w K mg base CX0 3 "is_within" ["value", "low", "high"] (spIsWithin K) := ⟨_, _, gIw_, kIw, ok_isWithin FIw T AW AI, bIw⟩
  have DRi : Def1 l.prog w K mg base (L2.CX l.prog w) 4 "require_index" ["value"] (spIndex K CNx) := ⟨_, _, gRi_, kRi, ok_index FRi T AW AI EN, bRi⟩
  have DNa : Def1 l.prog w K mg base CX0 1 "number_at" ["row", "index"] (spNumAt K) := ⟨_, _, gNa_, kNa, ok_numAt FNa T, bNa⟩
  have DTr : Def1 l.prog w K mg base CX0 2 "turned_row" ["row"] (spTurned K) := ⟨_, _, gTr_, kTr, ok_turnedR FTr T DNa, bTr⟩
  have DSl : Def1 l.prog w K mg base CX0 1 "slant_of" ["row"] (spSlant K) := ⟨_, _, gSl_, kSl, ok_slantR FSl T, bSl⟩
  have DHd : Def1 l.prog w K mg base CX0 1 "is_held" ["row", "other"] (spHeld K) := ⟨_, _, gHd_, kHd, ok_held FHd T, bHd⟩
  have DTp : Def1 l.prog w K mg base CX0 1 "is_topped" ["row", "other"] (spTopped K) := ⟨_, _, gTp_, kTp, ok_topped FTp T, bTp⟩
  have DJo : Def1 l.prog w K mg base CX0 1 "joined_row" ["one", "other"] (spJoined K) := ⟨_, _, gJo_, kJo, ok_joinedR FJo T, bJo⟩
  have DAd : Def1 l.prog w K mg base CX0 2 "added_row" ["one", "other"] (spAdded K) := ⟨_, _, gAd_, kAd, ok_addedR FAd T DNa, bAd⟩
  have DFa : Def1 l.prog w K mg base CX0 4 "is_falling" ["value", "most"] (spFalling K) := ⟨_, _, gFa_, kFa, ok_falling FFa T Wi, bFa⟩
  have DRk : Def1 l.prog w K mg base CX0 1 "require_kind" ["value"] (spReqKind K C) := ⟨_, _, gRk_, kRk, ok_reqKind FRk T Cl, bRk⟩
  have DRs : Def1 l.prog w K mg base (L2.CX l.prog w) 3 "require_size" ["size"] (spReqSize CMx) := ⟨_, _, gRs_, kRs, ok_reqSize FRs Cl EM, bRs⟩
  have GI := ok_init (P := l.prog) (w := w) (base := base) FI T Cl DFa
  have Ini : Ini1 l.prog w K mg base CX0 5 C tI0 ["self", "numbers"] (spInit K C) := ⟨_, _, ds, ⟨mkC, aI0, iI0, kcC⟩, GI, bI, hds, b0⟩
  have Qn : Pro1 l.prog w K mg base 1 C "numbers" (spGet K C fun n _ => .ref n) := ⟨_, _, _, ⟨aPn, gPn, tPn_, _, rPn⟩, ok_numbers FPn Cl, bPn⟩
  have Qs : Pro1 l.prog w K mg base 1 C "size" (spGet K C fun _ ns => .int ns.sum) := ⟨_, _, _, ⟨aPs, gPs, tPs_, _, rPs⟩, ok_size FPs T Cl, bPs⟩
  have A : Api l.prog w K mg base C tI0 CMx := {
    ini := Ini
    numbers := Qn
    size := Qs
    rank := ⟨_, _, _, ⟨aPr, gPr, tPr_, _, rPr⟩, ok_rank FPr T Cl, bPr⟩
    height := ⟨_, _, _, ⟨aPh, gPh, tPh_, _, rPh⟩, ok_height FPh Cl DNa, bPh⟩
    slant := ⟨_, _, _, ⟨aPl, gPl, tPl_, _, rPl⟩, ok_slant FPl Cl DSl, bPl⟩
    turned := ⟨_, _, _, ⟨aPt, gPt, tPt_, _, rPt⟩, ok_turned FPt Cl DTr Ini, bPt⟩
    holds := ⟨_, _, MHo, jHo, ok_holds FHo Cl DRk DHd Qn, bHo⟩
    tops := ⟨_, _, MTo, jTo, ok_tops FTo Cl DRk DTp Qn Qs, bTo⟩
    add := ⟨_, _, ⟨sfC, MPa, raddC⟩, ok_add FPa T Cl DRs DJo Qn Qs Ini, bPa⟩
    over := ⟨_, _, MOv, jOv, ok_over FOv Cl DRk DRs DAd Qn Qs Ini, bOv⟩
    item := ⟨_, _, MGi, jGi, ok_item FGi Cl DRi DNa, bGi⟩
    iter := ⟨_, _, MIt, jIt, ok_iter FIt T Cl, bIt⟩
    eq := ⟨_, _, MEq, jEq, ok_eq FEq T Cl, bEq⟩
    lt := ⟨_, _, MLs, jLs, ok_lt FLs T Cl, bLs⟩ }
  have DRo : Def1 l.prog w K mg base CX0 1 "_law_roll" ["_law_dice_here", "_law_total"] (spRoll) := ⟨_, _, gRo_, kRo, ok_roll FRo T, bRo⟩
  have DPi : Def1 l.prog w K mg base CX0 2 "_law_pick" ["_law_dice_here", "_law_items"] (spPick K) := ⟨_, _, gPi_, kPi, ok_pick FPi T AR, bPi⟩
  have DDi : Def1 l.prog w K mg base CX0 1 "_law_dice" ["_law_script", "_law_spot"] (spDice K) := ⟨_, _, gDi_, kDi, ok_dice FDi T, bDi⟩
  have DKs : Def1 l.prog w K mg base CX0 1 "_law_kinds" ["_law_size"] (spKinds K) := ⟨_, _, gKs_, kKs, ok_kinds FKs T, bKs⟩
  have DKd : Def1 l.prog w K mg base CX0 3 "_law_kind" ["_law_dice_here", "_law_most"] (spKind K) := ⟨_, _, gKd_, kKd, ok_kind FKd DRo DKs DPi, bKd⟩
  have DLt : Def1 l.prog w K mg base CX0 1 "_law_turned" ["_law_kind_here"] (spLTurned K) := ⟨_, _, gLt_, kLt, ok_lturned FLt T, bLt⟩
  have DDh : Def1 l.prog w K mg base CX0 1 "_law_does_hold" ["_law_kind_here", "_law_other"] (spDoesHold K) := ⟨_, _, gDh_, kDh, ok_doesHold FDh T, bDh⟩
  have DDt : Def1 l.prog w K mg base CX0 1 "_law_does_top" ["_law_kind_here", "_law_other"] (spDoesTop K) := ⟨_, _, gDt_, kDt, ok_doesTop FDt T, bDt⟩
  have DPu : Def1 l.prog w K mg base CX0 1 "_law_put_together" ["_law_one", "_law_other"] (spPut K) := ⟨_, _, gPu_, kPu, ok_put FPu T, bPu⟩
  have DAu : Def1 l.prog w K mg base CX0 1 "_law_added_up" ["_law_one", "_law_other"] (spAddUp K) := ⟨_, _, gAu_, kAu, ok_addUp FAu T, bAu⟩
  have DJr : Def1 l.prog w K mg base CX0 10 "_law_joined_right" ["_law_one", "_law_other"] (spTwoR K) := ⟨_, _, gJr_, kJr, ok_two FJr T Cl hT0 A DPu DAu, bJr⟩
  have DOr : Def1 l.prog w K mg base CX0 9 "_law_is_one_right" ["_law_numbers"] (spOneR K) := ⟨_, _, gOr_, kOr, ok_one FOr T Cl A DLt, bOr⟩
  have DAr : Def1 l.prog w K mg base CX0 10 "_law_are_tops_right" ["_law_size"] (spTopR) := ⟨_, _, gAr_, kAr, ok_topR FAr T Cl A DKs DDt DDh, bAr⟩
  have DRg : Def1 l.prog w K mg base CX0 11 "_law_right" ["_law_dice_here"] (spRight) := ⟨_, _, gRg_, kRg, ok_right FRg T Cl A DKd DJr DOr DDh, bRg⟩
  have DLm : Def1 l.prog w K mg base CX0 10 "_law_limit" ["_law_one", "_law_other", "_law_way"] (spLimit K C) := ⟨_, _, gLm_, kLm, ok_limit FLm T Cl A EM, bLm⟩
  have L := ok_law (P := l.prog) (w := w) (base := base) FLa T Cl A DDi DRo DRg DAr DLm
  exact ⟨L.len, fun A out s H ar us vs Q E _ hr he hb hv hs => L.run A out s H ar us vs Q E hr he hb hv hs⟩
end Q0

set_option Elab.async false
set_option maxRecDepth 100000
open PySem PySem.W PyProof.Rows in
set_option maxRecDepth 100000 in
set_option maxHeartbeats 0 in
theorem PySem.Challenge.cw_primekinds_k07_whole_turned_and_joined_k_holds : PySem.Challenge.rw_primekinds_k07_whole_turned_and_joined_k.Holds := by
  w_on; o_law; k_head; (case hw => w_witness2)
  k_fill
  refine Gd.walkG (n := 63) (k := 12) (x := "_law_script") (CX := fun _ => L2.CX0) (l := PySem.Challenge.rw_primekinds_k07_whole_turned_and_joined_k) (sp := fun w => Q0.spLaw _) rfl (by decide) rfl ⟨rfl, by decide, by decide⟩ (fun w h Y => PySem.W.kIn_of Y) ?F
    (fun _ _ a ns hl _ hS => ⟨a, ns, rfl, hS, hl, fun _ => rfl⟩) (fun _ _ _ _ _ z => z)
  case F =>
    intro w mg fa h KX G hmg
    refine' Q0.all_mk KX G hmg ?aWh ?lWh ?cWh_ ?kWh ?aIn ?lIn ?cIn_ ?kIn ?aIw ?lIw ?cIw_ ?kIw ?aRi ?lRi ?cRi_ ?kRi ?aNa ?lNa ?cNa_ ?kNa ?aTr ?lTr ?cTr_ ?kTr ?aSl ?lSl ?cSl_ ?kSl ?aHd ?lHd ?cHd_ ?kHd ?aTp ?lTp ?cTp_ ?kTp ?aJo ?lJo ?cJo_ ?kJo ?aAd ?lAd ?cAd_ ?kAd ?aFa ?lFa ?cFa_ ?kFa ?aRk ?lRk ?cRk_ ?kRk ?aRs ?lRs ?cRs_ ?kRs ?aDi ?lDi ?cDi_ ?kDi ?aRo ?lRo ?cRo_ ?kRo ?aPi ?lPi ?cPi_ ?kPi ?aKs ?lKs ?cKs_ ?kKs ?aKd ?lKd ?cKd_ ?kKd ?aLt ?lLt ?cLt_ ?kLt ?aDh ?lDh ?cDh_ ?kDh ?aDt ?lDt ?cDt_ ?kDt ?aPu ?lPu ?cPu_ ?kPu ?aAu ?lAu ?cAu_ ?kAu ?aJr ?lJr ?cJr_ ?kJr ?aOr ?lOr ?cOr_ ?kOr ?aAr ?lAr ?cAr_ ?kAr ?aRg ?lRg ?cRg_ ?kRg ?aLm ?lLm ?cLm_ ?kLm ?aLa ?lLa ?cLa_ ?kLa ?aC ?pgC ?hdC ?poC ?saC ?mkC ?kcC ?haC ?hmC ?ciC ?ctC ?neC ?sfC ?raddC ?no0C ?no1C ?hn ?htk ?aI0 ?lI0 ?cI0_ ?kI0 ?iI0 ?LI0 ?mI0 ?aHo ?lHo ?cHo_ ?kHo ?iHo ?jHo ?aTo ?lTo ?cTo_ ?kTo ?iTo ?jTo ?aPa ?lPa ?cPa_ ?kPa ?iPa ?jPa ?aOv ?lOv ?cOv_ ?kOv ?iOv ?jOv ?aGi ?lGi ?cGi_ ?kGi ?iGi ?jGi ?aIt ?lIt ?cIt_ ?kIt ?iIt ?jIt ?aEq ?lEq ?cEq_ ?kEq ?iEq ?jEq ?aLs ?lLs ?cLs_ ?kLs ?iLs ?jLs ?aPn ?gPn ?tPn_ ?rPn ?lPn ?cPn_ ?kPn ?aPs ?gPs ?tPs_ ?rPs ?lPs ?cPs_ ?kPs ?aPr ?gPr ?tPr_ ?rPr ?lPr ?cPr_ ?kPr ?aPh ?gPh ?tPh_ ?rPh ?lPh ?cPh_ ?kPh ?aPl ?gPl ?tPl_ ?rPl ?lPl ?cPl_ ?kPl ?aPt ?gPt ?tPt_ ?rPt ?lPt ?cPt_ ?kPt ?z_isinstance ?z_int ?z_bool ?z_str ?z_tuple ?z_list ?z_dict ?z_len ?z_all ?z_any ?z_sum ?z_iter ?z_max ?z_min ?z_abs ?z_range ?z_repr ?z_sorted ?z_enumerate ?z_zip ?v_BOUND ?v_MAX_SIZE ?xCN ?xLN ?xsaN ?xgaN ?xggN ?xnbN ?xaN ?xtN ?xlN ?xcN ?xkN ?xeN ?xTN ?xhN ?xiN ?xsN ?xCM ?xLM ?xsaM ?xgaM ?xggM ?xnbM ?xaM ?xtM ?xlM ?xcM ?xkM ?xeM ?xTM ?xhM ?xiM ?xsM
    (case aWh => k_is)
    (case lWh => k_is)
    (case cWh_ => k_is)
    (case kWh => k_is)
    (case aIn => k_is)
    (case lIn => k_is)
    (case cIn_ => k_is)
    (case kIn => k_is)
    (case aIw => k_is)
    (case lIw => k_is)
    (case cIw_ => k_is)
    (case kIw => k_is)
    (case aRi => k_is)
    (case lRi => k_is)
    (case cRi_ => k_is)
    (case kRi => k_is)
    (case aNa => k_is)
    (case lNa => k_is)
    (case cNa_ => k_is)
    (case kNa => k_is)
    (case aTr => k_is)
    (case lTr => k_is)
    (case cTr_ => k_is)
    (case kTr => k_is)
    (case aSl => k_is)
    (case lSl => k_is)
    (case cSl_ => k_is)
    (case kSl => k_is)
    (case aHd => k_is)
    (case lHd => k_is)
    (case cHd_ => k_is)
    (case kHd => k_is)
    (case aTp => k_is)
    (case lTp => k_is)
    (case cTp_ => k_is)
    (case kTp => k_is)
    (case aJo => k_is)
    (case lJo => k_is)
    (case cJo_ => k_is)
    (case kJo => k_is)
    (case aAd => k_is)
    (case lAd => k_is)
    (case cAd_ => k_is)
    (case kAd => k_is)
    (case aFa => k_is)
    (case lFa => k_is)
    (case cFa_ => k_is)
    (case kFa => k_is)
    (case aRk => k_is)
    (case lRk => k_is)
    (case cRk_ => k_is)
    (case kRk => k_is)
    (case aRs => k_is)
    (case lRs => k_is)
    (case cRs_ => k_is)
    (case kRs => k_is)
    (case aDi => k_is)
    (case lDi => k_is)
    (case cDi_ => k_is)
    (case kDi => k_is)
    (case aRo => k_is)
    (case lRo => k_is)
    (case cRo_ => k_is)
    (case kRo => k_is)
    (case aPi => k_is)
    (case lPi => k_is)
    (case cPi_ => k_is)
    (case kPi => k_is)
    (case aKs => k_is)
    (case lKs => k_is)
    (case cKs_ => k_is)
    (case kKs => k_is)
    (case aKd => k_is)
    (case lKd => k_is)
    (case cKd_ => k_is)
    (case kKd => k_is)
    (case aLt => k_is)
    (case lLt => k_is)
    (case cLt_ => k_is)
    (case kLt => k_is)
    (case aDh => k_is)
    (case lDh => k_is)
    (case cDh_ => k_is)
    (case kDh => k_is)
    (case aDt => k_is)
    (case lDt => k_is)
    (case cDt_ => k_is)
    (case kDt => k_is)
    (case aPu => k_is)
    (case lPu => k_is)
    (case cPu_ => k_is)
    (case kPu => k_is)
    (case aAu => k_is)
    (case lAu => k_is)
    (case cAu_ => k_is)
    (case kAu => k_is)
    (case aJr => k_is)
    (case lJr => k_is)
    (case cJr_ => k_is)
    (case kJr => k_is)
    (case aOr => k_is)
    (case lOr => k_is)
    (case cOr_ => k_is)
    (case kOr => k_is)
    (case aAr => k_is)
    (case lAr => k_is)
    (case cAr_ => k_is)
    (case kAr => k_is)
    (case aRg => k_is)
    (case lRg => k_is)
    (case cRg_ => k_is)
    (case kRg => k_is)
    (case aLm => k_is)
    (case lLm => k_is)
    (case cLm_ => k_is)
    (case kLm => k_is)
    (case aLa => k_is)
    (case lLa => k_is)
    (case cLa_ => k_is)
    (case kLa => k_is)
    (case aC => k_is)
    (case pgC => k_is)
    (case hdC => k_is)
    (case poC => k_is)
    (case saC => k_is)
    (case mkC => k_is)
    (case kcC => k_is)
    (case haC => k_is)
    (case hmC => k_is)
    (case ciC => k_is)
    (case ctC => k_is)
    (case neC => k_is)
    (case sfC => k_is)
    (case raddC => k_is)
    (case no0C => k_is)
    (case no1C => k_is)
    (case hn => k_is)
    (case htk => k_is)
    (case aI0 => k_is)
    (case lI0 => k_is)
    (case cI0_ => k_is)
    (case kI0 => k_is)
    (case iI0 => k_is)
    (case LI0 => k_is)
    (case mI0 => k_is)
    (case aHo => k_is)
    (case lHo => k_is)
    (case cHo_ => k_is)
    (case kHo => k_is)
    (case iHo => k_is)
    (case jHo => k_is)
    (case aTo => k_is)
    (case lTo => k_is)
    (case cTo_ => k_is)
    (case kTo => k_is)
    (case iTo => k_is)
    (case jTo => k_is)
    (case aPa => k_is)
    (case lPa => k_is)
    (case cPa_ => k_is)
    (case kPa => k_is)
    (case iPa => k_is)
    (case jPa => k_is)
    (case aOv => k_is)
    (case lOv => k_is)
    (case cOv_ => k_is)
    (case kOv => k_is)
    (case iOv => k_is)
    (case jOv => k_is)
    (case aGi => k_is)
    (case lGi => k_is)
    (case cGi_ => k_is)
    (case kGi => k_is)
    (case iGi => k_is)
    (case jGi => k_is)
    (case aIt => k_is)
    (case lIt => k_is)
    (case cIt_ => k_is)
    (case kIt => k_is)
    (case iIt => k_is)
    (case jIt => k_is)
    (case aEq => k_is)
    (case lEq => k_is)
    (case cEq_ => k_is)
    (case kEq => k_is)
    (case iEq => k_is)
    (case jEq => k_is)
    (case aLs => k_is)
    (case lLs => k_is)
    (case cLs_ => k_is)
    (case kLs => k_is)
    (case iLs => k_is)
    (case jLs => k_is)
    (case aPn => k_is)
    (case gPn => k_is)
    (case tPn_ => k_is)
    (case rPn => k_is)
    (case lPn => k_is)
    (case cPn_ => k_is)
    (case kPn => k_is)
    (case aPs => k_is)
    (case gPs => k_is)
    (case tPs_ => k_is)
    (case rPs => k_is)
    (case lPs => k_is)
    (case cPs_ => k_is)
    (case kPs => k_is)
    (case aPr => k_is)
    (case gPr => k_is)
    (case tPr_ => k_is)
    (case rPr => k_is)
    (case lPr => k_is)
    (case cPr_ => k_is)
    (case kPr => k_is)
    (case aPh => k_is)
    (case gPh => k_is)
    (case tPh_ => k_is)
    (case rPh => k_is)
    (case lPh => k_is)
    (case cPh_ => k_is)
    (case kPh => k_is)
    (case aPl => k_is)
    (case gPl => k_is)
    (case tPl_ => k_is)
    (case rPl => k_is)
    (case lPl => k_is)
    (case cPl_ => k_is)
    (case kPl => k_is)
    (case aPt => k_is)
    (case gPt => k_is)
    (case tPt_ => k_is)
    (case rPt => k_is)
    (case lPt => k_is)
    (case cPt_ => k_is)
    (case kPt => k_is)
    (case z_isinstance => k_is)
    (case z_int => k_is)
    (case z_bool => k_is)
    (case z_str => k_is)
    (case z_tuple => k_is)
    (case z_list => k_is)
    (case z_dict => k_is)
    (case z_len => k_is)
    (case z_all => k_is)
    (case z_any => k_is)
    (case z_sum => k_is)
    (case z_iter => k_is)
    (case z_max => k_is)
    (case z_min => k_is)
    (case z_abs => k_is)
    (case z_range => k_is)
    (case z_repr => k_is)
    (case z_sorted => k_is)
    (case z_enumerate => k_is)
    (case z_zip => k_is)
    (case v_BOUND => k_is)
    (case v_MAX_SIZE => k_is)
    (case xCN => k_is)
    (case xLN => k_is)
    (case xsaN => k_is)
    (case xgaN => k_is)
    (case xggN => k_is)
    (case xnbN => k_is)
    (case xaN => k_is)
    (case xtN => k_is)
    (case xlN => k_is)
    (case xcN => k_is)
    (case xkN => k_is)
    (case xeN => k_is)
    (case xTN => k_is)
    (case xhN => k_is)
    (case xiN => k_is)
    (case xsN => k_is)
    (case xCM => k_is)
    (case xLM => k_is)
    (case xsaM => k_is)
    (case xgaM => k_is)
    (case xggM => k_is)
    (case xnbM => k_is)
    (case xaM => k_is)
    (case xtM => k_is)
    (case xlM => k_is)
    (case xcM => k_is)
    (case xkM => k_is)
    (case xeM => k_is)
    (case xTM => k_is)
    (case xhM => k_is)
    (case xiM => k_is)
    (case xsM => k_is)
