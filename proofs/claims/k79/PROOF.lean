import PyProof.Rows.All
import Wide.All
import OpenK.AllK
import Wide.FinOn
import PySem.Challenge.RW_crossheaps_k79_errors_by_themselves
import HandS.ForMost
import HandS.Evl
import KE.KExcSuper
import HandS.ExcInit
import HandS.FStr
import KE.KExcIs
import HandS.ExcField
import HandS.IsInst
import HandS.ExcIs
import HandS.ExcValue
import HandS.SortRule
import HandS.SortInts
import HandS.Conv
import HandS.Wide
import HandS.Steps
import HandS.FStrTup
import PyProof.StrLawsRepr
set_option Elab.async false
set_option linter.all false
set_option maxRecDepth 100000
set_option maxHeartbeats 8000000
/-! Promises of defs that run where no repr is under way, the law's end for such a promise, repr of data. -/
namespace Gd
open PySem PySem.Spec PyProof.Rows L2
/-- a promise that is kept wherever no repr is under way -/
structure FnG (P : Program) (w : World) (K : PySem.W.Frag) (mg : Str → Option Value) (base : Heap) (CX : CXT) (k : Nat) (f : Addr) (fd : FuncData) (ps : List Str) (sp : Sp) : Prop where
  arity : ∀ vs H Q E, sp vs H Q E → vs.length = ps.length
  go : ∀ A, Room k A → A.guards = some [] → ∀ outer s H args us vs Q E, Env0 P w K mg base A outer s H →
    BindsTo s fd args (ps.zip us) → Vals vs us → sp vs H Q E →
      codeAny (model P w) A (.call (.ref f) args) (CR CX outer P w H s Q E) s
section
variable {P : Program} {w : World} {K : PySem.W.Frag} {mg : Str → Option Value} {base : Heap} {CX : CXT} {k : Nat} {f : Addr} {fd : FuncData} {ps : List Str} {sp : Sp}
theorem FnG.of (F : FnOk P w K mg base CX k f fd ps sp) : FnG P w K mg base CX k f fd ps sp :=
  ⟨F.len, fun A r _ outer s H args us vs Q E e b v p => F.run A outer s H args us vs Q E r e b v p⟩
theorem FnG.up {j : Nat} (F : FnG P w K mg base CX j f fd ps sp) (h : j ≤ k) : FnG P w K mg base CX k f fd ps sp :=
  ⟨F.arity, fun A r g => F.go A (r.mono h) g⟩
/-- from the body, which may know that no repr is under way -/
theorem fng_of {x qual : Str} {st : Stmt} {N : List Str} (F : Fun K x qual st f fd) (S : FnScope N ps (defScope st)) (ar : ∀ vs H Q E, sp vs H Q E → vs.length = ps.length)
    (body : ∀ (cdv : Value) (A : Around) (outer : List Env) (s : Shared) (H : Hp) (vs : List V) (Q : VK) (E : XK), Room k (A.deeper (envOfC qual (defScope st) s.heap.objs.size f cdv)) → A.guards = some [] → sp vs H Q E →
      ∃ t, PSs (cxOf CX P w K mg base N qual (defScope st) f cdv A outer s H E) (defBody st) t ∧ t { nx := fun _ H' => Q .non H', rt := Q } (start N vs) H) :
    FnG P w K mg base CX (k + 1) f fd ps sp := by
  obtain ⟨⟨oc, od, kV, doc, pm, an, cdv, ct, osl, rfl, look, code⟩, _⟩ := F
  refine ⟨ar, fun A room gd outer s H args us vs Q E env bind rel want => ?_⟩
  have inK : K.In s.heap := env.mod.kin.keeps (fun b o h => (env.bs b o h).1)
  have free : s.heap.NoLimit := env.mod.nolimit.keeps (fun b o h => (env.bs b o h).1)
  have hv := ar vs H Q E want
  refine Att.call_fn inK free look code room.depth bind ?_ (fun s1 inside => ?_) S.co S.gen S.kind
  · refine List.all_eq_true.mpr fun y hy => ?_
    have hp := S.par y.1 (List.of_mem_zip (show (y.1, y.2) ∈ ps.zip us from hy)).1
    rcases hp with q | q
    · rw [q]; rfl
    · rw [q]; rfl
  · obtain ⟨t, derive, reads⟩ := body cdv A outer s H vs Q E (room.deeper _) gd want
    have inv := inv_start (CX := CX) (E := E) S room.hd env hv rel inside
    refine wpAny_mono (derive.run [] s1 (start N vs) H _ inv reads) ?_ (fun _ _ left => left)
    intro flow s2 post
    cases flow with
    | brk => exact (post.choose_spec.choose_spec).2.elim
    | cont => exact (post.choose_spec.choose_spec).2.elim
    | next =>
      obtain ⟨_, H2, J, q⟩ := post
      exact ⟨.non, H2, J.os, J.bare, J.base, J.hok, rfl, q⟩
    | ret u =>
      obtain ⟨v, _, H2, J, rv, q⟩ := post
      exact ⟨v, H2, J.os, J.bare, J.base, J.hok, rv, q⟩
end
end Gd
namespace Gd
open PySem PySem.Spec PyProof.Rows L2
section
variable {X : Cx} {CX : CXT} {k : Nat} {f : Addr} {fd : FuncData} {ps : List Str} {sp : Sp} {dvs : List V} {ds : List Value} {E : XK}
/-- the callee runs, as run_fn says it, where no repr is under way -/
theorem runG {pins : List (Addr × Obj)} {σ : L2.St} {H : Hp} {s : Shared} {Q : VK} {us : List Value} {vs : List V} (F : FnG X.prog X.w X.K X.mg X.base CX k f fd ps sp) (room : Room k X.A) (gd : X.A.guards = some [])
    (bind : Binds X.K fd ps ds) (dflt : Vals dvs ds) (pass : Passes CX X E) (I : Inv X pins σ H s) (rel : Vals vs us) (want : sp (vs ++ dvs) H Q E) :
    wpAny (model X.prog X.w) X.A (call (.ref f) us) (EP X pins σ Q) X.xe s := by
  have rel2 := rel.append dflt
  have many : (us ++ ds).length = ps.length := rel2.length.symm.trans (F.arity _ _ _ _ want)
  have ran := F.go X.A room gd X.stack s H ⟨us, []⟩ _ _ Q E I.env0 (bind s us I.kIn many) rel2 want
  refine wpAny_call (codeAny_mono ran ?_)
  intro r s2 post
  rcases r with err | flow
  · exact pass _ _ _ _ _ _ I post
  · cases flow with
    | ret u => exact I.after post
    | next => exact post.elim
    | brk => exact post.elim
    | cont => exact post.elim
theorem pe_callG {x : Str} {p pos : Pos} {e : Expr} {es : List Expr} {t : TA} (F : FnG X.prog X.w X.K X.mg X.base CX k f fd ps sp) (room : Room k X.A) (gd : X.A.guards = some []) (isGl : Gl X x) (at_ : X.mg x = some (.ref f))
    (kept : PySem.W.keepIn X.K (.ref f) = true) (bind : Binds X.K fd ps ds) (dflt : Vals dvs ds) (pass : Passes CX X E)
    (args : PA X (e :: es) t) (nodbg : (x == ("__debug__" : Str)) = false := by decide) (star : starEach (e :: es) X.env = (false, eval e X.env) :: starEach es X.env := by rfl) (plain : (backTo pos (starEach es X.env)).any (·.1) = false := by rfl) :
    PE X (.Call (.Name x p) (e :: es) [] pos) (tCall sp dvs E t) := by
  constructor
  intro pins s σ H Q I want
  refine wpAny_Call_Name_kw (ld_glob I isGl at_ ?_ nodbg)
  refine PySem.W.callWith_K (h₀ := X.base) I.ok.mod.kin kept ?_ star plain
  refine thn (args.run pos pins s σ H _ I want) ?_
  rintro us s1 ⟨vs, H1, I1, rel, q⟩
  exact ⟨I1.kIn, runG F room gd bind dflt pass I1 rel q⟩
end
/-! ### the law's end -/
/-- the script as the only thing that is tracked -/
def scriptAt (a : Addr) (o : Obj) (xs : List V) : Hp := fun b => if b = a then some (.frz o (.lst xs)) else none
theorem scriptAt_same {a : Addr} {o : Obj} {xs : List V} : scriptAt a o xs a = some (.frz o (.lst xs)) := if_pos rfl
theorem scriptAt_some {a b : Addr} {o : Obj} {xs : List V} {u : HO} (h : scriptAt a o xs b = some u) : b = a ∧ u = .frz o (.lst xs) := by
  unfold scriptAt at h
  by_cases e : b = a
  · rw [if_pos e] at h
    exact ⟨e, (Option.some.inj h).symm⟩
  · rw [if_neg e] at h
    cases h
theorem scriptAt_ne {a b : Addr} {o : Obj} {xs : List V} (h : b ≠ a) : scriptAt a o xs b = none := if_neg h
section
variable {P : Program} {w : World} {K : PySem.W.Frag} {mg mb : Str → Option Value} {CX : CXT} {k : Nat} {fa a : Addr} {fd : FuncData} {x : Str} {sp : Sp} {s1 : Shared} {vs : List Value} {ns : List Int}
/-- the law's call, from an abstract heap that tracks at most the script -/
theorem law_from {H : Hp} {o : Obj} (own : ∀ b u, H b = some u → b = a ∧ u = .frz o (.lst (ns.map V.int))) (offK : H a ≠ none → K.lookup a = none)
    (inK : K.In s1.heap) (glob : s1.heap.Ns mainGlobals mg) (blt : s1.heap.Ns builtinsNs mb) (std : ∀ x : Str, x ≠ "__name__" → mb x = bootBuiltins x) (free : s1.heap.NoLimit) (nogen : s1.gens = #[])
    (here : s1.heap.get? a = some { cls := .type "list", data := .seq vs.toArray }) (ho : o = { cls := .type "list", data := .seq vs.toArray }) (ok : HOk P w H s1.heap) (room : Room k callerA)
    (F : ∀ base : Heap, K.In base → base.Ns mainGlobals mg → FnG P w K mg base CX k fa fd [x] sp) (bind : ∀ (s : Shared) (u : Value), BindsTo s fd ⟨[u], []⟩ [(x, u)])
    (want : sp [.ref a] H (fun v _ => v = .bl true) fun _ _ _ => False) (noX : ∀ e s2, CX [] H s1 (fun _ _ _ => False) e s2 → False) :
    codeAny (model P w) callerA (.call (.ref fa) ⟨[.ref a], []⟩) (fun r s2 => r = .ok (.ret (.bool true)) ∧ OldK s1.heap s2.heap ∧ s2.os = s1.os ∧ AllBare s2.gens) s1 := by
  have dicts : ∀ {b : Addr} {m : Str → Option Value}, s1.heap.Ns b m → (hidT s1.heap H).Ns b m := by
    rintro b m ⟨ob, es, ep, gb, isD, r⟩
    refine ⟨ob, es, ep, hidT_get gb ?_, isD, r⟩
    cases hb : H b with
    | none => rfl
    | some u =>
      obtain ⟨rfl, _⟩ := own b u hb
      rw [here] at gb
      have e := Option.some.inj gb
      rw [← e] at isD
      cases isD
  have inB : K.In (hidT s1.heap H) := by
    intro b ob hb
    refine hidT_get (inK b ob hb) ?_
    cases hh : H b with
    | none => rfl
    | some u =>
      obtain ⟨rfl, _⟩ := own b u hh
      rw [offK (by rw [hh]; exact Option.some_ne_none _)] at hb
      cases hb
  have md : Mod K mg (hidT s1.heap H) := ⟨inB, dicts glob, ⟨mb, dicts blt, std⟩, free.imp fun _ h => ⟨dicts h.1, h.2⟩⟩
  have env : Env0 P w K mg (hidT s1.heap H) callerA [] s1 H := by
    refine ⟨rfl, md, fun b ob hb => of_hidT hb, Nat.le_of_eq (hidT_size _ _), trivial, ?_, ok, .of_eq nogen⟩
    intro b hb
    cases hb
  have ran := (F _ inB (dicts glob)).go callerA room rfl [] s1 H ⟨[.ref a], []⟩ [.ref a] [.ref a] _ _ env (bind s1 (.ref a)) (.cons rfl .nil) want
  refine codeAny_mono ran ?_
  intro r s2 post
  rcases r with err | flow
  · exact (noX _ _ post).elim
  · cases flow with
    | next => exact post.elim
    | brk => exact post.elim
    | cont => exact post.elim
    | ret u =>
      obtain ⟨v, H2, eos, eb, ch, ok2, rv, rfl⟩ := post
      have eu : u = Value.bool true := rv
      refine ⟨by rw [eu], OldK.of_keep (fun b ob hb => ?_), eos, eb⟩
      cases hh : H b with
      | none => exact ch.keep b ob hb hh (fun z => nomatch z) (fun z => nomatch z)
      | some u2 =>
        obtain ⟨rfl, rfl⟩ := own b u2 hh
        have a1 := (ok b _ hh).1
        have a2 := (ok2 b _ (ch.frzs b o _ hh)).1
        rw [hb] at a1
        exact a2.trans a1.symm
theorem law_callG (inK : K.In s1.heap) (glob : s1.heap.Ns mainGlobals mg) (blt : s1.heap.Ns builtinsNs mb) (std : ∀ x : Str, x ≠ "__name__" → mb x = bootBuiltins x) (free : s1.heap.NoLimit) (nogen : s1.gens = #[])
    (here : s1.heap.get? a = some { cls := .type "list", data := .seq vs.toArray }) (isI : IntsAre vs ns) (many : ns.length ≤ sizeLine) (room : Room k callerA)
    (F : ∀ base : Heap, K.In base → base.Ns mainGlobals mg → FnG P w K mg base CX k fa fd [x] sp) (bind : ∀ (s : Shared) (u : Value), BindsTo s fd ⟨[u], []⟩ [(x, u)])
    (want : ∀ H : Hp, Only H → SqL K H a (ns.map V.int) → sp [.ref a] H (fun v _ => v = .bl true) fun _ _ _ => False) (noX : ∀ H e s2, CX [] H s1 (fun _ _ _ => False) e s2 → False) :
    codeAny (model P w) callerA (.call (.ref fa) ⟨[.ref a], []⟩) (fun r s2 => r = .ok (.ret (.bool true)) ∧ OldK s1.heap s2.heap ∧ s2.os = s1.os ∧ AllBare s2.gens) s1 := by
  have rel := vals_ints isI
  cases inMod : K.lookup a with
  | some o =>
    have same : o = { cls := .type "list", data := .seq vs.toArray } := Option.some.inj ((inK a o inMod).symm.trans here)
    subst same
    have sq : SqL K (fun _ => none) a (ns.map V.int) := .inr ⟨_, vs.toArray, _, inMod, rfl, rfl, rfl, by rw [List.size_toArray, isI.length]; exact many, by simpa using rel⟩
    refine law_from (H := fun _ => none) (o := { cls := .type "list", data := .seq vs.toArray }) (ns := ns) (fun _ _ h => nomatch h) (fun h => absurd rfl h) inK glob blt std free nogen here rfl (fun _ _ h => nomatch h) room F bind (want _ (fun _ => .inl rfl) sq) (noX _)
  | none =>
    refine law_from (H := scriptAt a { cls := .type "list", data := .seq vs.toArray } (ns.map V.int)) (fun _ _ h => scriptAt_some h) (fun _ => inMod) inK glob blt std free nogen here rfl ?_ room F bind (want _ (fun b => ?_) (.inl (.inr ⟨_, scriptAt_same⟩))) (noX _)
    · intro b u h
      obtain ⟨rfl, rfl⟩ := scriptAt_some h
      exact ⟨here, by rw [List.length_map]; exact many, vs, _, rel, here⟩
    · cases h : scriptAt a { cls := .type "list", data := .seq vs.toArray } (ns.map V.int) b with
      | none => exact .inl rfl
      | some u => exact .inr ⟨_, _, by rw [(scriptAt_some h).2]⟩
end
/-- what k_head leaves, from a promise that is kept where no repr is under way -/
theorem walkG {l : PySem.W.OpenLaw} {n k : Nat} {q : Program} {loose : List Str} {XP : (Str → Option Value) → Heap → Prop} {YP : World → Heap → Prop} {d : DefRec} {K : Params → PySem.W.Frag} {CX : World → CXT} {sp : World → Sp} {x : Str}
    (most : l.most = some n) (small : n ≤ sizeLine) (nodef : d.params.defaults = []) (room : Room k callerA) (kin : ∀ (w : World) (h : Heap), YP w h → (K w.params).In h)
    (F : ∀ (w : World) (mg : Str → Option Value) (fa : Addr) (h : Heap), (K w.params).In h → h.Ns mainGlobals mg → mg d.name = some (.ref fa) →
      ∃ fd : FuncData, (∀ (s : Shared) (u : Value), BindsTo s fd ⟨[u], []⟩ [(x, u)]) ∧ ∀ base : Heap, (K w.params).In base → base.Ns mainGlobals mg → FnG l.prog w (K w.params) mg base (CX w) k fa fd [x] (sp w))
    (want : ∀ (w : World) (H : Hp) (a : Addr) (ns : List Int), ns.length ≤ n → Only H → SqL (K w.params) H a (ns.map V.int) → sp w [.ref a] H (fun v _ => v = .bl true) fun _ _ _ => False)
    (noX : ∀ (w : World) (H : Hp) (s : Shared) (e : Value) (s2 : Shared), CX w [] H s (fun _ _ _ => False) e s2 → False) :
    PySem.W.WalkO q loose XP YP l.row.toRowW d [] (fun f vs => PySem.call f vs) := by
  apply Att.attach_call most nodef
  intro w s0 s1 mg mb fa o pm cd doc a vs ns G Y go isF code named here isI many nogen
  have inK := kin w _ Y
  obtain ⟨fd, bind, hF⟩ := F w mg fa _ inK G.T.g named
  exact law_callG inK G.T.g G.T.b G.T.builtins G.T.nolimit nogen here isI (Nat.le_trans many small) room hF bind (fun H only sq => want w H a ns many only sq) (fun H e s2 => noX w H s1 e s2)
section
variable {X : Cx}
/-- repr of data without dicts -/
def rReprD (K : PySem.W.Frag) : List V → Hp → VK → Prop := fun xs H Q => ∃ x d, xs = [x] ∧ Dp K H x d ∧ d.showable = true ∧ d.hasDict = false ∧ d.depth ≤ 40 ∧ d.shown.length ≤ sizeLine ∧ Q (.str d.shown) H
theorem call_reprD (gd : X.A.guards = some []) (un : X.A.units + 64 < cLine) : CallR X (.builtin "repr") (rReprD X.K) := by
  rintro pins s σ H xs us Q I rel ⟨x, d, rfl, hd, sh, nod, dep, sz, q⟩
  obtain ⟨u, rfl, rv⟩ := vals1 rel
  obtain ⟨as, reads⟩ := Dp.reads I d x u hd rv
  cases hd with
  | non =>
    cases rv
    refine PySem.P.repr_of_none ?_
    exact ⟨.str "None", H, I.tok _, ⟨_, rfl⟩, q⟩
  | bl b =>
    cases rv
    refine PySem.P.repr_of_bool ?_
    exact ⟨.str (if b then "True" else "False"), H, I.tok _, ⟨_, rfl⟩, q⟩
  | int i =>
    obtain ⟨t, rfl⟩ := rv
    refine PySem.P.repr_of_int ?_ ⟨.str _, H, I.tok _, ⟨_, rfl⟩, q⟩
    simpa [PyData.showable] using sh
  | str z =>
    obtain ⟨t, rfl⟩ := rv
    exact PySem.P.repr_of_str ⟨.str _, H, I.tok _, ⟨_, rfl⟩, q⟩ sz
  | lst h1 h2 =>
    cases rv
    exact repr_of_reads' reads sh (PyData.noDict_hsm nod) gd (by omega) (fun _ _ e => e) (fun h2 u2 tk keep => ⟨.str _, H, I.kept keep, ⟨u2, rfl⟩, q⟩) sz
  | tup h1 h2 =>
    cases rv
    exact repr_of_reads' reads sh (PyData.noDict_hsm nod) gd (by omega) (fun _ _ e => e) (fun h2 u2 tk keep => ⟨.str _, H, I.kept keep, ⟨u2, rfl⟩, q⟩) sz
end
end Gd
/-! Methods that say super().__init__(..) in an exception's class over ValueError. -/
namespace Ex
open PySem PySem.Spec PyProof.Rows L2 Gd
/-- a method that closes over the cell of its class D -/
structure FunC (P : Program) (K : PySem.W.Frag) (x qual : Str) (st : Stmt) (D f : Addr) (fd : FuncData) : Prop where
  ex : ∃ (oc kV doc pm ct ccl cl : Value) (od an cdd cld : Option Addr) (cda cc : Addr) (osl ccs csl : Array (Option Value)) (vs : Array Value) (file : Str) (tf : Tok),
    fd = PySem.W.fnX x qual (defArgs st) (defBody st) (defScope st) [("__class__", cc)] .none kV doc pm an (.ref cda) ct ∧ K.lookup f = some ⟨oc, od, .func fd, osl⟩ ∧ PySem.W.codeIn K (.ref cda) qual = true ∧
    K.lookup cc = some ⟨cl, cld, .cell (some (.ref D)), csl⟩ ∧ K.lookup cda = some ⟨ccl, cdd, .fields vs, ccs⟩ ∧ vs[2]? = some (.str file tf) ∧ ((P.main.file : Str) == file) = true
/-- its names: parameters, the class's cell, super -/
structure FnScopeC (N ps : List Str) (sc : Scope) : Prop where
  kind : sc.kind = .function
  co : sc.isCoroutine = false
  gen : sc.isGenerator = false
  nd : N.Nodup
  pre : N.take ps.length = ps
  par : ∀ y ∈ ps, sc.names.lookup y = some .local
  nocell : ∀ y ∈ sc.names, y.2 ≠ .cell
  free : ∀ y ∈ sc.names, y.2 = .free → y.1 = "__class__"
  sup : sc.names.lookup ("super" : Str) = some .globalImplicit
  cls : sc.names.lookup ("__class__" : Str) = some .free
def cxC (CX : CXT) (P : Program) (w : World) (K : PySem.W.Frag) (mg : Str → Option Value) (base : Heap) (N : List Str) (qual : Str) (scope : Scope) (f cda cc : Addr) (A : Around) (outer : List Env) (s : Shared) (H : Hp) (E : XK) : Cx where
  prog := P
  w := w
  K := K
  mg := mg
  base := base
  A := A.deeper (PySem.W.ksEnv qual scope s.heap.objs.size f (.ref cda) cc)
  N := N
  s_0 := s
  H_0 := H
  env := PySem.W.ksEnv qual scope s.heap.objs.size f (.ref cda) cc
  outer := outer
  stack := PySem.W.ksEnv qual scope s.heap.objs.size f (.ref cda) cc :: outer
  ex := []
  calm := true
  fn := fun _ => false
  pn := []
  xe := fun e s' => wpAny (model P w) (A.deeper (PySem.W.ksEnv qual scope s.heap.objs.size f (.ref cda) cc)) (leaving (PySem.W.ksEnv qual scope s.heap.objs.size f (.ref cda) cc) e) (fun _ s'' => CX outer H s E e s'') (fun e' s'' => CX outer H s E e' s'') s'
theorem one_cell {cc c : Addr} {y : Str} (h : ([("__class__", cc)] : List (Str × Addr)).lookup y = some c) : y = "__class__" ∧ c = cc := by
  unfold List.lookup at h
  split at h
  · rename_i e
    cases h
    exact ⟨by simpa using e, rfl⟩
  · simp at h
theorem lookup_mem {y : Str} {u : Value} : ∀ {l : List (Str × Value)}, (l.map (·.1)).Nodup → (y, u) ∈ l → l.lookup y = some u
  | [], _, h => nomatch h
  | (z, v) :: l, nd, h => by
    rcases List.mem_cons.mp h with e | h
    · cases e
      simp [List.lookup]
    · have hz : y ≠ z := by
        intro e
        rw [← e] at nd
        exact (List.nodup_cons.mp nd).1 (List.mem_map.mpr ⟨(y, u), h, rfl⟩)
      have hb : (y == z) = false := by simpa using hz
      simp only [List.lookup, hb]
      exact lookup_mem (List.nodup_cons.mp nd).2 h
theorem zip_keys : ∀ (ps : List Str) (us : List Value), ps.Nodup → ((ps.zip us).map (·.1)).Nodup
  | [], _, _ => by simp
  | _ :: _, [], _ => by simp
  | p :: ps, u :: us, nd => by
    simp only [List.zip_cons_cons, List.map_cons, List.nodup_cons]
    refine ⟨fun h => (List.nodup_cons.mp nd).1 ?_, zip_keys ps us (List.nodup_cons.mp nd).2⟩
    obtain ⟨q, hq, e⟩ := List.mem_map.mp h
    rw [← e]
    exact (List.of_mem_zip (show (q.1, q.2) ∈ ps.zip us from hq)).1
theorem rev_get {ps : List Str} {us : List Value} {i : Nat} {y : Str} {u : Value} (nd : ps.Nodup) (h1 : ps[i]? = some y) (h2 : us[i]? = some u) : (ps.zip us).reverse.lookup y = some u := by
  refine lookup_mem ?_ ?_
  · rw [List.map_reverse]
    exact (List.reverse_perm _).nodup_iff.mpr (zip_keys ps us nd)
  · refine List.mem_reverse.mpr (List.mem_of_getElem? (i := i) ?_)
    rw [List.getElem?_zip_eq_some]
    exact ⟨h1, h2⟩
section
variable {CX : CXT} {P : Program} {w : World} {K : PySem.W.Frag} {mg : Str → Option Value} {base : Heap} {N ps : List Str} {qual : Str} {scope : Scope} {f cda cc D : Addr} {A : Around} {outer : List Env} {s : Shared} {H : Hp} {E : XK} {us : List Value} {vs : List V}
theorem inv_startC {h₀ : Heap} {tk : Nat} {cl : Value} {cld : Option Addr} {csl : Array (Option Value)} (S : FnScopeC N ps scope) (hd : A.handled = none) (e0 : Env0 P w K mg base A outer s H) (hl : vs.length = ps.length) (r : Vals vs us)
    (lc : K.lookup cc = some ⟨cl, cld, .cell (some (.ref D)), csl⟩) (hns : h₀.Ns s.heap.objs.size (fun y => (ps.zip us).reverse.lookup y)) (hk : ∀ b o, s.heap.get? b = some o → h₀.get? b = some o) :
    Inv (cxC CX P w K mg base N qual scope f cda cc A outer s H E) [] (start N vs) H { s with heap := h₀, toks := tk } := by
  have hpl : ps.length ≤ N.length := by have := congrArg List.length S.pre; rw [List.length_take] at this; omega
  have noA : ∀ b : Addr, b ∉ (cxC CX P w K mg base N qual scope f cda cc A outer s H E).ex := fun b z => absurd (show b ∈ ([] : List Addr) from z) (by simp)
  have inB : base.get? cc = some ⟨cl, cld, .cell (some (.ref D)), csl⟩ := e0.mod.kin _ _ lc
  have inS := (e0.bs _ _ inB).1
  refine ⟨⟨e0.mod, S.kind, rfl, rfl, Nat.le_refl _, fun y z c h1 h2 => ?_, fun y hy => ?_, fun y c h _ => (nomatch h), fun _ => hd, Around.frames_deeper e0.frames, .inr ⟨rfl, rfl⟩, fun b z => absurd z (noA b), e0.bs, e0.bsz, fun b _ _ => noA b, fun b z => absurd z (noA b), e0.funs, e0.frf⟩,
    rfl, e0.bare, Un.kept hk, ⟨_, hns, fun i y v h1 h2 h3 => ?_⟩, fun y c h => ?_, e0.hok.fresh (Nat.le_refl _), fun y c h => ?_, fun p hp => absurd (show p ∈ ([] : List (Addr × Obj)) from hp) (by simp), e0.hok.kept hk, ?_⟩
  · exact (one_cell h1).1.trans (one_cell h2).1.symm
  · have hy : scope.names.lookup y = some .cell ∨ scope.names.lookup y = some .free := hy
    rcases hy with hy | hy
    · exact absurd rfl (S.nocell _ (PySem.mem_of_lookup hy))
    · have e := S.free _ (PySem.mem_of_lookup hy) rfl
      have e' : y = "__class__" := e
      subst e'
      exact ⟨cc, rfl⟩
  · have hi : i < vs.length := by
      unfold L2.start at h2
      by_cases hi : i < vs.length
      · exact hi
      · rw [List.getElem?_append_right (by simpa using hi)] at h2
        rw [List.getElem?_replicate] at h2
        split at h2 <;> cases h2
    have ha : vs[i]? = some v := by
      unfold L2.start at h2
      rw [List.getElem?_append_left (by simpa using hi), List.getElem?_map] at h2
      cases e : vs[i]? with
      | none => rw [e] at h2; cases h2
      | some a => rw [e] at h2; cases h2; rfl
    obtain ⟨u, hu, rv⟩ := r.get ha
    have hp : ps[i]? = some y := by
      rw [← S.pre, List.getElem?_take_of_lt (by omega)]; exact h1
    have ndP : ps.Nodup := by rw [← S.pre]; exact S.nd.sublist (List.take_sublist _ _)
    refine ⟨u, rv, .inl ⟨S.par y (List.mem_of_getElem? hp), ?_⟩⟩
    exact rev_get ndP hp hu
  · obtain ⟨_, rfl⟩ := one_cell h
    exact ⟨_, _, hk _ _ inS, rfl⟩
  · obtain ⟨_, rfl⟩ := one_cell h
    exact (e0.bs _ _ inB).2
  · unfold L2.start
    rw [List.length_append, List.length_map, List.length_replicate]
    show _ = N.length
    omega
end
/-- what the written part says of super() in class D for an instance of class C -/
structure SupVE (P : Program) (K : PySem.W.Frag) (mg : Str → Option Value) (D C : Addr) : Prop where
  clsD : ∃ cd, PySem.W.clsIn K D = some cd
  sub : PySem.W.mroIn K C (.ref D) = some true
  init : PySem.W.ks_superIn K C D "__init__" = some (some (.builtin "ValueError.__init__"))
  isVE : PySem.W.subIn K (.ref C) (.type "ValueError") = some true
  opq : PySem.W.nsIn K cStatics "thirdparty.any" = some none
  glob : mg "super" = none
  main : (P.main.scope.names.lookup ("super" : Str)).isSome = false
section
variable {prog : Program} {w : World} {A : Around} {E : Value → Shared → Prop} {h : Heap} {g : Array GenState} {d : Drawn} {t : Nat} {os : OsState}
variable {nm q : Str} {C N : Addr} {bs bm : List Value} {hdct : Bool} {sn : List Str} {sub : List Value} {ab : Bool} {col : Option Bool} {dd : Option Addr} {k0 k1 k2 k3 k5 : Option Value}
/-- the bound ValueError.__init__ called -/
theorem call_bwVE {u e t0 : Addr} {rest : List Value} {Q : Value → Shared → Prop} (hC : h.get? C = some (excClassObj nm q C N bs bm hdct sn sub ab col dd k0 k1 k2 k3 k5 "ValueError.__new__")) (he : h.get? e = some ({ cls := .ref C, dict := none, data := .fields #[.ref t0, .none, .none, .none, .bool false, .none] } : Obj))
    (hu : h.get? u = some (PySem.W.kxs_mw "ValueError.__init__" e)) (hz : rest.length ≤ sizeLine)
    (hq : ∀ h' t1, (∀ b o, b ≠ e → h.get? b = some o → h'.get? b = some o) → h'.get? e = some ({ cls := .ref C, dict := none, data := .fields #[.ref t1, .none, .none, .none, .bool false, .none] } : Obj) → Q .none ⟨h', g, d, t, os⟩) :
    wpAny (model prog w) A (call (.ref u) rest) Q E ⟨h, g, d, t, os⟩ := by
  refine wpAny_call (codeAny_of_tree ?_)
  show wpAny _ A.in1 (callAny (.ref u) ⟨rest, []⟩) _ _ _
  simp only [callAny]
  refine wpAny_bind (wpAny_load hu ?_)
  simp only [PySem.W.kxs_mw, show (Value.type "method-wrapper" == Value.type "method" || Value.type "method-wrapper" == Value.type "builtin_function_or_method" || Value.type "method-wrapper" == Value.type "method-wrapper") = true by decide, if_true]
  refine PySem.W.KFB.if_so (by decide) ?_
  refine wpAny_bind (PySem.W.check_bound_init F.excBase_ValueError.toExcCallFacts hC he rfl ?_)
  refine wpAny_bind (wpAny_pure (wpAny_pure ?_))
  refine ⟨plainId_quiet F.excBase_ValueError.init.plain _, codeAny_builtin F.excBase_ValueError.initEntry ?_⟩
  exact PySem.W.exc_init_tree (cls := .ref C) (t0 := t0) (dv := none) (c2 := .none) (c3 := .none) (b4 := .bool false) he hz fun h' k e' _ => hq h' _ k e'
end
section
variable {X : Cx} {pins : List (Addr × Obj)} {σ : L2.St} {H : Hp} {s : Shared} {a u C : Addr}
theorem bw_ok {us : List Value} {Q : Value → Shared → Prop} (T : OexC X.K C) (I : Inv X pins σ H s) (e : H a = some (exo a C none)) (hu : s.heap.get? u = some (PySem.W.kxs_mw "ValueError.__init__" a)) (hl : us.length ≤ sizeLine) (h : ∀ s', Inv X pins σ H s' → Q .none s') :
    wpAny (model X.prog X.w) X.A (call (.ref u) us) Q X.xe s := by
  obtain ⟨nm, q, N, bs, bm, sn, sub, ab, col, dd, k0, k1, k2, k3, k5, hC, hbm⟩ := T.cls
  obtain ⟨t1, ho⟩ := exo_at I.hok e
  obtain ⟨hp, g, d, t, os⟩ := s
  refine call_bwVE (I.kIn _ _ hC) ho hu hl fun h' t2 k hx => ?_
  have J := I.write (t' := t) (x := a) (e := a) (o := exo a C none) (by rw [e]; exact True.intro) (.inl rfl) k ⟨_, hx⟩ (exo_ok hx)
  have eu : upd H a (exo a C none) = H := by
    funext b
    by_cases hb : b = a
    · rw [hb, upd_same, e]
    · rw [upd_ne hb]
  rw [eu] at J
  exact h _ J
end
section
variable {M : Model} {A : Around} {E : Value → Shared → Prop} {s : Shared}
theorem callWith_bw {pos : Pos} {u x : Addr} {env : Env} {e : Expr} {rest : List Expr} {Q : Value → Shared → Prop}
    (h : wpAny M A (spliced (backTo pos (starEach (e :: rest) env))) (fun vs s₁ => PySem.W.KxsAt "ValueError.__init__" u x s₁.heap ∧ wpAny M A (call (.ref u) vs) Q E s₁) E s)
    (he : starEach (e :: rest) env = (false, eval e env) :: starEach rest env) (hplain : (backTo pos (starEach rest env)).any (·.1) = false) :
    wpAny M A (callWith pos (.ref u) [] (backTo pos (starEach (e :: rest) env)) []) Q E s := by
  rw [he] at h ⊢
  refine PySem.W.kxs_callWith (i := "ValueError.__init__") (x := x) (by show (false || (backTo pos (starEach rest env)).any (·.1)) = false; rw [hplain]; rfl) ?_
  exact Calls.evalArgs_plain h
end
section
variable {CX : CXT} {P : Program} {w : World} {K : PySem.W.Frag} {mg : Str → Option Value} {base : Heap} {N ps : List Str} {x qual : Str} {st : Stmt} {D f : Addr} {fd : FuncData} {k : Nat} {sp : Sp} {p0 p1 p2 p3 p4 : Pos} {e : Expr} {es : List Expr} {rest : List Stmt} {apar : Arg}
/-- a method whose first statement is super().__init__(..) -/
theorem fngC_of (F : FunC P K x qual st D f fd) (S : FnScopeC N ps (defScope st)) (ar : ∀ vs H Q E, sp vs H Q E → vs.length = ps.length)
    (hb : defBody st = .Expr (.Call (.Attribute (.Call (.Name "super" p0) [] [] p1) "__init__" p2) (e :: es) [] p3) p4 :: rest)
    (hp : ((defArgs st).posonlyargs ++ (defArgs st).args).head? = some apar) (h0 : N[0]? = some apar.arg) (h00 : ps[0]? = some apar.arg)
    (body : ∀ (cda cc : Addr) (A : Around) (outer : List Env) (s : Shared) (H : Hp) (vs : List V) (Q : VK) (E : XK), Room k (A.deeper (PySem.W.ksEnv qual (defScope st) s.heap.objs.size f (.ref cda) cc)) → A.guards = some [] → sp vs H Q E →
      ∃ (ta : TA) (t : TS) (a C : Addr) (vs' : List V), PA (cxC CX P w K mg base N qual (defScope st) f cda cc A outer s H E) (e :: es) ta ∧ PSs (cxC CX P w K mg base N qual (defScope st) f cda cc A outer s H E) rest t ∧
        vs = .ref a :: vs' ∧ OexC K C ∧ SupVE P K mg D C ∧ H a = some (exo a C none) ∧
        ta (L2.start N vs) H fun ws H1 => ws.length ≤ 1000 ∧ H1 a = some (exo a C none) ∧ t { nx := fun _ H' => Q .non H', rt := Q } (L2.start N vs) H1)
    (hev : ∀ env : Env, ∃ pl : Sem Bool, eval (.Call (.Attribute (.Call (.Name "super" p0) [] [] p1) "__init__" p2) (e :: es) [] p3) env = (do
      let ov ← attributeBase (.Call (.Name "super" p0) [] [] p1) "__init__" env (eval (.Call (.Name "super" p0) [] [] p1) env)
      standAt p2.atName
      let (f, first) ← holding [ov] (getMethod ov "__init__" pl)
      callWith p3 f first (backTo p3 (starEach (e :: es) env)) []) := by exact fun env => ⟨_, rfl⟩)
    (he : ∀ env : Env, starEach (e :: es) env = (false, eval e env) :: starEach es env := by intro _; rfl) (hpl : ∀ env : Env, (backTo p3 (starEach es env)).any (·.1) = false := by intro _; rfl) :
    FnG P w K mg base CX (k + 1) f fd ps sp := by
  obtain ⟨oc, kV, doc, pm, ct, ccl, cl, od, an, cdd, cld, cda, cc, osl, ccs, csl, vsF, file, tf, rfl, look, code, lc, lcda, hv2, hfile⟩ := F.ex
  refine ⟨ar, fun A room gd outer s H args us vs Q E env bind rel want => ?_⟩
  have inK : K.In s.heap := env.mod.kin.keeps (fun b o h => (env.bs b o h).1)
  have free : s.heap.NoLimit := env.mod.nolimit.keeps (fun b o h => (env.bs b o h).1)
  have hv := ar vs H Q E want
  obtain ⟨ta, t, a, C, vs', hta, ht, rfl, T, SV, ea, reads⟩ := body cda cc A outer s H vs Q E (room.deeper _) gd want
  refine ks_codeAny_call_defAt (body := defBody st) (binds := ps.zip us) room.depth (inK _ _ look) rfl free (PySem.W.codeRec_of inK code) rfl bind S.nocell (fun y hy => ?_) (fun h₀ hns hk => ?_) S.co S.gen S.kind
  · exact S.par y.1 (List.of_mem_zip (show (y.1, y.2) ∈ ps.zip us from hy)).1
  have I := inv_startC (CX := CX) (E := E) (f := f) (cda := cda) (qual := qual) (tk := s.toks + (ps.zip us).length) S room.hd env hv rel lc hns hk
  have slot0 : (L2.start N (V.ref a :: vs'))[0]? = some (some (.ref a)) := rfl
  have inK' : K.In h₀ := inK.keeps hk
  show _root_.PySem.wpAt (model P w) (A.deeper (PySem.W.ksEnv qual (defScope st) s.heap.objs.size f (.ref cda) cc)) (.func (defBody st) (PySem.W.ksEnv qual (defScope st) s.heap.objs.size f (.ref cda) cc)) (execs (defBody st) (PySem.W.ksEnv qual (defScope st) s.heap.objs.size f (.ref cda) cc)) _ _ _
  obtain ⟨pl, ev⟩ := hev (PySem.W.ksEnv qual (defScope st) s.heap.objs.size f (.ref cda) cc)
  have noI : interactive (PySem.W.ksEnv qual (defScope st) s.heap.objs.size f (.ref cda) cc) = false := by
    unfold interactive
    simp [S.kind]
  rw [hb]
  refine ks_wpAt_execs_cons (ks_wpAt_Expr_any (hi := noI) (ks_wpAt_MethodCall (he := ev) (ks_wpAt_super_base (ar := apar) S.sup S.cls rfl rfl (inK' _ _ look) rfl hp rfl (inK' _ _ lcda) rfl hv2 hfile SV.main ?_)))
  obtain ⟨mb, hb1, hb2⟩ := I.mod.blt
  obtain ⟨cdD, hD⟩ := SV.clsD
  obtain ⟨oD, hD1, hD2⟩ : ∃ oD, h₀.get? D = some oD ∧ oD.data = .cls cdD := by
    unfold PySem.W.clsIn at hD
    split at hD
    · rename_i c d cd' sl ho
      cases hD
      exact ⟨_, inK' _ _ ho, rfl⟩
    · cases hD
  have par0 := S.par _ (List.mem_of_getElem? h00)
  obtain ⟨m, nsL, locs⟩ := I.loc
  obtain ⟨u, ru, lk⟩ := locs 0 apar.arg (.ref a) h0 slot0 (.inl par0)
  cases (show u = .ref a from ru)
  have mv : m apar.arg = some (.ref a) := by
    rcases lk with ⟨_, z⟩ | ⟨z, _⟩
    · exact z
    · have z' : (defScope st).names.lookup apar.arg = some .cell ∨ (defScope st).names.lookup apar.arg = some .free := z
      rw [par0] at z'
      rcases z' with z' | z' <;> cases z'
  refine PySem.W.ks_loadName_global S.kind S.sup (Calls.loadGlobal_builtin (env := PySem.W.ksEnv qual (defScope st) s.heap.objs.size f (.ref cda) cc) (I.mod.glob.keeps I.bk) SV.glob (hb1.keeps I.bk) ((hb2 "super" (by decide +kernel)).trans PyProof.Rows.Boot.«super») ⟨rfl, ?_⟩)
  refine wpAny_loadName_free S.kind S.cls rfl ⟨_, inK' _ _ lc, rfl⟩ ?_
  refine wpAny_loadName_local S.kind par0 nsL mv ?_
  refine ks_wpAny_isType_cls hD1 hD2 ⟨rfl, ?_⟩
  obtain ⟨t1, ho⟩ := exo_at I.hok ea
  refine ks_wpAny_call_super hD1 hD2 ho rfl (fun c e => nomatch e) (PySem.W.looks_mroIn inK' SV.sub) (fun h' so kk => ?_)
  have inK2 : K.In h' := inK'.keeps kk
  have inst : PySem.W.InstAt h' a _ C none := ⟨kk _ _ ho, rfl, rfl, trivial⟩
  cases hc : PySem.W.clsIn K C with
  | none =>
    have z := SV.init
    unfold PySem.W.ks_superIn at z
    rw [hc] at z
    cases z
  | some cd =>
    have hin := SV.init
    unfold PySem.W.ks_superIn at hin
    rw [hc] at hin
    refine PySem.W.kxs_getMethod PySem.W.kxs_ValueError so (PySem.W.looks_opaque inK2 SV.opq) (l₀ := cd.mro) ?_ rfl inK2 hin (inst.type.andThen (PySem.W.looks_subIn inK2 SV.isVE)) (PySem.W.ks_ne inK2 inst hc) (by decide) ?_
    · exact fun A Q E s k q => wpAny_bind ((PySem.W.looks_clsIn inK2 hc) A _ E s k (wpAny_pure q))
    · have I1 := I.kept (t' := s.toks + (ps.zip us).length) kk
      have ltL : s.heap.objs.size < h'.objs.size := by
        obtain ⟨o, _, _, e1, _⟩ := nsL
        exact Heap.lt_size (kk _ _ e1)
      have I2 := (I1.kept (t' := s.toks + (ps.zip us).length + 1) (h' := h'.push (PySem.W.kxs_mw "ValueError.__init__" a)) (fun b o e => Heap.get?_push_of_some _ e)).pins_of (pins' := [(h'.objs.size, PySem.W.kxs_mw "ValueError.__init__" a)]) (fun p hp => by
        rcases List.mem_singleton.mp hp with rfl
        exact ⟨Heap.get?_push_size _ rfl, I1.hok.fresh (Nat.le_refl _), Nat.ne_of_gt ltL, I1.nofs (Nat.le_refl _), fun v z => nomatch z⟩)
      refine callWith_bw (x := a) (thn (hta.run p3 _ _ _ H _ I2 reads) ?_) (he _) (hpl _)
      rintro us2 s1 ⟨ws, H1, I3, r1, hl, ea1, q⟩
      have hm := (I3.pin (h'.objs.size, PySem.W.kxs_mw "ValueError.__init__" a) (by simp)).1
      refine ⟨hm, bw_ok T I3 ea1 hm ?_ fun s' J => ?_⟩
      · rw [← Paired.length r1, sizeLine_eq]
        omega
      · refine wpAt_of_wpAny (wpAny_mono (ht.run _ s' _ H1 _ J q) ?_ (fun _ _ left => left))
        intro flow s2 post
        cases flow with
        | brk => exact (post.choose_spec.choose_spec).2.elim
        | cont => exact (post.choose_spec.choose_spec).2.elim
        | next =>
          obtain ⟨_, H2, J2, q2⟩ := post
          exact ⟨.non, H2, J2.os, J2.bare, J2.base, J2.hok, rfl, q2⟩
        | ret u =>
          obtain ⟨v, _, H2, J2, rv, q2⟩ := post
          exact ⟨v, H2, J2.os, J2.bare, J2.base, J2.hok, rv, q2⟩
end
end Ex
/-! C(.., k = v) for an exception's class C with its own __init__: what __new__ does with keywords (nothing), then __init__. -/
namespace Ex
open PySem PySem.Spec PyProof.Rows L2 Gd PySem.HandSPX
section
variable {prog : Program} {w : World} {M : Model} {A : Around} {E : Value → Shared → Prop} {R : Result → Shared → Prop} {hp : Heap} {gs : Array GenState} {dr : Drawn} {tk : Nat} {os : OsState}
variable {nm qn : Str} {C N fI : Addr} {bs bm : List Value} {hd : Bool} {sn : List Str} {sub : List Value} {ab : Bool} {col : Option Bool} {dd : Option Addr} {k0 k1 k2 k3 k5 : Option Value} {ps : List Value} {kw : List (Str × Value)}
theorem mayNew (T : ∀ X : String, bm.contains (.type X) = veTail.contains (.type X)) {Q : Unit → Shared → Prop} (at_ : hp.get? C = some (excClassObj nm qn C N bs bm hd sn sub ab col dd k0 k1 k2 k3 k5 "ValueError.__new__")) (q : Q () ⟨hp, gs, dr, tk, os⟩) :
    wpAny M A (checkBuiltinCall "ValueError.__new__" ⟨.ref C :: ps, kw⟩) Q E ⟨hp, gs, dr, tk, os⟩ := by
  have F := F.excBase_ValueError
  have has : (Value.ref C :: bm).contains (.type "ValueError") = true := by rw [List.contains_cons, T, F.hasB, Bool.or_true]
  have st := F.noStar
  simp only [checkBuiltinCall, F.newKind, F.newSplit, F.newRow]
  repeat (first | refine wpAny_loadPart_at at_ ?_ | (refine wpAny_isSubtype_exc at_ ?_; rw [has]) | refine wpAny_staticBase_exc at_ ?_ | refine wpAny_madeBy_exc at_ ?_ | simp only [bne_self_eq_false, Bool.false_eq_true, if_false] | wp_step)
  exact q
theorem doesNew (T : ∀ X : String, bm.contains (.type X) = veTail.contains (.type X)) (at_ : hp.get? C = some (excClassObj nm qn C N bs bm hd sn sub ab col dd k0 k1 k2 k3 k5 "ValueError.__new__")) (few : ps.length ≤ sizeLine)
    (q : R (.ok (.ret (.ref (hp.objs.size + 1)))) ⟨(hp.push (W.kdv_tup ps)).push (excO C hp.objs.size), gs, dr, tk, os⟩) :
    codeAny (model prog w) A (.builtin "ValueError.__new__" ⟨.ref C :: ps, kw⟩) R ⟨hp, gs, dr, tk, os⟩ := by
  have F := F.excBase_ValueError
  have ends := F.ends
  have cV : (Value.ref C :: bm).contains (.type "ValueError") = true := by rw [List.contains_cons, T, F.hasB, Bool.or_true]
  have cA : (Value.ref C :: bm).contains (.type "AttributeError") = false := by rw [List.contains_cons, T, F.noAttr]; rfl
  have cN : (Value.ref C :: bm).contains (.type "NameError") = false := by rw [List.contains_cons, T, F.noName]; rfl
  refine codeAny_builtinAt F.entry ?_
  unfold Builtin.«BaseException.__new__»
  refine _root_.PySem.wpAt_bind ?_
  show _root_.PySem.wpAt _ _ _ (stack >>= _) _ _ _
  refine _root_.PySem.wpAt_bind (_root_.PySem.wpAt_stack fun p below => _root_.PySem.wpAt_of_wpAny ?_)
  wp_walk
  refine _root_.PySem.wpAt_of_wpAny ?_
  rw [F.owner]
  repeat (first | with_reducible refine wpAny_madeHere_exc F.canon at_ ?_ | with_reducible refine wpAny_loadPart_at at_ ?_ | (with_reducible refine wpAny_isSubtype_exc at_ ?_; first | rw [cV] | rw [cA] | rw [cN]) | wp_step)
  show R _ _
  rw [Heap.size_push]
  exact q
theorem typeCalls (T : ∀ X : String, bm.contains (.type X) = veTail.contains (.type X)) {Q : Fin → Shared → Prop} (at_ : hp.get? C = some (excClassObj nm qn C N bs bm hd sn sub ab col dd k0 k1 k2 k3 k5 "ValueError.__new__"))
    (ini : W.Looks (model prog w) hp (typeLookup (.ref C) "__init__") (some (.ref fI))) (bound : ∀ self, W.Looks (model prog w) hp (bindSpecial (.ref fI) self) (.ref fI, [self])) (few : ps.length ≤ sizeLine)
    (q : codeAny (model prog w) A (.call (.ref fI) ⟨.ref (hp.objs.size + 1) :: ps, kw⟩) (fun r s' => match r with | .ok (.ret v) => v = .none ∧ Q (.done (.ret (.ref (hp.objs.size + 1)))) s' | .ok _ => False | .error e => E e s')
      ⟨(hp.push (W.kdv_tup ps)).push (excO C hp.objs.size), gs, dr, tk, os⟩) : wpAny (model prog w) A (Builtin.«type.__call__» ⟨.ref C :: ps, kw⟩) Q E ⟨hp, gs, dr, tk, os⟩ := by
  repeat (first | with_reducible refine wpAny_loadPart_at at_ ?_ | with_reducible refine wpAny_madeBy_exc at_ ?_ | wp_step)
  refine codeAny_call_builtin_code (Code.quiet_builtin _ F.excBase_ValueError.quiet) (mayNew T at_ ?_)
  refine doesNew T at_ few ?_
  show wpAny _ _ _ _ _ _
  have kept : ∀ b o, hp.get? b = some o → ((hp.push (W.kdv_tup ps)).push (excO C hp.objs.size)).get? b = some o := fun b o e => Heap.get?_push_of_some _ (Heap.get?_push_of_some _ e)
  have at1 := kept _ _ at_
  have new : ((hp.push (W.kdv_tup ps)).push (excO C hp.objs.size)).get? (hp.objs.size + 1) = some (excO C hp.objs.size) := by heap_get
  have self : (Value.ref C :: bm).contains (.ref C) = true := by simp
  have i1 := ini.keeps kept
  have b1 := (bound (.ref (hp.objs.size + 1))).keeps kept
  unfold isInstance
  repeat (first | with_reducible refine wpAny_loadPart_at new ?_ | (with_reducible refine wpAny_isSubtype_exc at1 ?_; rw [self]) | wp_step)
  show wpAny _ _ (typeLookup (.ref C) _) _ _ _
  refine i1.at ?_
  refine wpAny_holding (wpAny_bind (b1.at ?_))
  refine wpAny_bind (wpAny_call (codeAny_mono q fun r s' z => ?_))
  rcases r with e | (v | _ | _ | _) <;> first | exact z | exact z.elim | skip
  obtain ⟨rfl, z⟩ := z
  first
    | exact wpAny_pure (wpAny_pure z)
    | (wp_walk; exact z)
theorem mayCall {Q : Unit → Shared → Prop} {newId : String} (at_ : hp.get? C = some (excClassObj nm qn C N bs bm hd sn sub ab col dd k0 k1 k2 k3 k5 newId)) (q : Q () ⟨hp, gs, dr, tk, os⟩) :
    wpAny M A (checkBuiltinCall "type.__call__" ⟨.ref C :: ps, kw⟩) Q E ⟨hp, gs, dr, tk, os⟩ := by
  have f3 := tc_sub
  have ty : (⟨hp, gs, dr, tk, os⟩ : Shared).TypeIs (.ref C) "type" := ⟨_, at_, rfl⟩
  simp only [checkBuiltinCall, tc_kind, tc_split]
  repeat (any_goals (first | assumption | with_reducible refine wpAny_loadPart_at at_ ?_ | with_reducible refine wpAny_onRaise ?_ | with_reducible refine wpAny_map ?_ | wp_step))
/-- the class called with keywords: its __init__ gets them -/
theorem classCalled (T : ∀ X : String, bm.contains (.type X) = veTail.contains (.type X)) (at_ : hp.get? C = some (excClassObj nm qn C N bs bm hd sn sub ab col dd k0 k1 k2 k3 k5 "ValueError.__new__"))
    (ini : W.Looks (model prog w) hp (typeLookup (.ref C) "__init__") (some (.ref fI))) (bound : ∀ self, W.Looks (model prog w) hp (bindSpecial (.ref fI) self) (.ref fI, [self])) (few : ps.length ≤ sizeLine)
    (q : codeAny (model prog w) (A.under (.builtin "type.__call__" ⟨.ref C :: ps, kw⟩)) (.call (.ref fI) ⟨.ref (hp.objs.size + 1) :: ps, kw⟩) (W.InitBack (hp.objs.size + 1) R) ⟨(hp.push (W.kdv_tup ps)).push (excO C hp.objs.size), gs, dr, tk, os⟩) :
    codeAny (model prog w) A (.call (.ref C) ⟨ps, kw⟩) R ⟨hp, gs, dr, tk, os⟩ := by
  have f1 := tc_lookup
  have f2 := tc_bind (.ref C)
  have ty : (⟨hp, gs, dr, tk, os⟩ : Shared).TypeIs (.ref C) "type" := ⟨_, at_, rfl⟩
  refine codeAny_of_tree ?_
  show wpAny _ _ (callAny (.ref C) _) _ _ _
  repeat (any_goals (first | assumption | with_reducible refine wpAny_loadPart_at at_ ?_ | wp_step))
  refine ⟨rfl, ?_⟩
  refine codeAny_call_builtin_at (Code.quiet_builtin _ (by decide +kernel)) entry_typeCall (mayCall at_ (typeCalls T at_ ini bound few ?_))
  refine codeAny_mono q fun r s' z => ?_
  rcases r with e | (v | _ | _ | _) <;> exact z
end
end Ex
/-! An own exception made as a value: C(e, ..), C(k = e, ..), C(), C's __init__ keeping a promise where no repr is under way. -/
namespace Ex
open PySem PySem.Spec PyProof.Rows L2 Gd
section
variable {X : Cx} {CX : CXT} {k : Nat} {fI C : Addr} {fd : FuncData} {ps : List Str} {sp : Sp} {x : Str} {p pos : Pos} {e : Expr} {es : List Expr} {ta tk : TA}
/-- what the written part says of the class: it is one of ours, its __init__ is the function at fI -/
structure Own (K : PySem.W.Frag) (C fI : Addr) : Prop where
  oex : OexC K C
  ini : PySem.W.findIn K (.ref C) "__init__" = some (some (.ref fI))
  fn : PySem.W.typeIn K (.ref fI) = some (.type "function")
theorem run_newE {pins : List (Addr × Obj)} {σ : L2.St} {H : Hp} {s : Shared} {Q : VK} {us gs : List Value} {kw : List (Str × Value)} {vs : List V} (O : Own X.K C fI) (Fn : FnG X.prog X.w X.K X.mg X.base CX k fI fd ps sp) (room : Room (k + 1) X.A) (gd : X.A.guards = some [])
    (pass : Passes CX X fun _ _ _ => False) (bind : ∀ (s : Shared) (self : Value), X.K.In s.heap → BindsTo s fd ⟨self :: us, kw⟩ (ps.zip (self :: gs))) (I : Inv X pins σ H s) (rel : Vals vs gs) (few : us.length ≤ sizeLine)
    (want : ∀ a, H a = none → sp (.ref a :: vs) (upd H a (exo a C none)) (fun v H2 => v = .non ∧ Q (.ref a) H2) fun _ _ _ => False) :
    wpAny (model X.prog X.w) X.A (call (.ref C) us kw) (EP X pins σ Q) X.xe s := by
  obtain ⟨nm, qn, N, bs, bm, sn, sub, ab, col, dd, k0, k1, k2, k3, k5, at_, ve⟩ := O.oex.cls
  obtain ⟨hp, g, dr, tk, os⟩ := s
  have le : hp.objs.size ≤ hp.objs.size + 1 := Nat.le_succ _
  have fresh : H (hp.objs.size + 1) = none := I.hok.fresh le
  have q := want (hp.objs.size + 1) fresh
  have kept : ∀ b o, hp.get? b = some o → ((hp.push (PySem.W.kdv_tup us)).push (PySem.HandSPX.excO C hp.objs.size)).get? b = some o := fun b o e => Heap.get?_push_of_some _ (Heap.get?_push_of_some _ e)
  have new : ((hp.push (PySem.W.kdv_tup us)).push (PySem.HandSPX.excO C hp.objs.size)).get? (hp.objs.size + 1) = some (PySem.HandSPX.excO C hp.objs.size) := by heap_get
  have I2 : Inv X pins σ (upd H (hp.objs.size + 1) (exo (hp.objs.size + 1) C none)) ⟨(hp.push (PySem.W.kdv_tup us)).push (PySem.HandSPX.excO C hp.objs.size), g, dr, tk, os⟩ :=
    I.laid (t' := tk) (o := exo (hp.objs.size + 1) C none) kept le (exo_ok new)
  refine wpAny_call (classCalled (fun Y => PySem.HandSPX.refsVE_contains Y bm ve) (I.kIn _ _ at_) (PySem.W.looks_findIn I.kIn O.ini) (fun self => PySem.W.bind_fn I.kIn self O.fn) few ?_)
  refine codeAny_mono (Fn.go _ (room.make C us kw) ?_ X.stack _ _ _ (.ref (hp.objs.size + 1) :: gs) _ _ (fun _ _ _ => False) (I2.env0.make C us kw) (bind _ _ I2.kIn) (.cons (show RelV (V.ref (hp.objs.size + 1)) (.ref (hp.objs.size + 1)) from rfl) rel) q) fun r s' got => ?_
  · rw [PySem.Around.under, gd]
    rfl
  · rcases r with er | fl
    · exact pass pins σ _ _ er s' I2 got
    · cases fl with
      | next => exact False.elim got
      | brk => exact False.elim got
      | cont => exact False.elim got
      | ret u =>
        obtain ⟨v, H2, os2, bare2, un2, hok2, rv, ev, q2⟩ := got
        subst ev
        exact ⟨rv, .ref (hp.objs.size + 1), H2, I2.call' (ch := []) os2 un2 hok2 bare2 (fun b z => absurd z (by simp)), rfl, q2⟩
/-- C(e, ..) -/
def tNewE (C : Addr) (sp : Sp) (ta : TA) : TE := fun σ H Q => ta σ H fun vs H1 => vs.length ≤ 1000 ∧ ∀ a, H1 a = none → sp (.ref a :: vs) (upd H1 a (exo a C none)) (fun v H2 => v = .non ∧ Q (.ref a) H2) fun _ _ _ => False
theorem few_of {vs : List V} {us : List Value} (r : Vals vs us) (h : vs.length ≤ 1000) : us.length ≤ sizeLine := by
  rw [← Paired.length r, sizeLine_eq]
  omega
theorem pe_newE (O : Own X.K C fI) (kC : PySem.W.keepIn X.K (.ref C) = true) (Fn : FnG X.prog X.w X.K X.mg X.base CX k fI fd ps sp) (room : Room (k + 1) X.A) (gd : X.A.guards = some []) (pass : Passes CX X fun _ _ _ => False)
    (isGl : Gl X x) (at_ : X.mg x = some (.ref C)) (bind : ∀ (s : Shared) (self : Value) (us : List Value), us.length + 1 = ps.length → X.K.In s.heap → BindsTo s fd ⟨self :: us, []⟩ (ps.zip (self :: us))) (args : PA X (e :: es) ta)
    (nodbg : (x == ("__debug__" : Str)) = false := by decide) (star : starEach (e :: es) X.env = (false, eval e X.env) :: starEach es X.env := by rfl) (plain : (backTo pos (starEach es X.env)).any (·.1) = false := by rfl) :
    PE X (.Call (.Name x p) (e :: es) [] pos) (tNewE C sp ta) := by
  constructor
  intro pins s σ H Q I want
  refine wpAny_Call_Name_kw (ld_glob I isGl at_ ?_ nodbg)
  refine PySem.W.callWith_K (h₀ := X.base) I.ok.mod.kin kC (thn (args.run pos pins s σ H _ I want) ?_) star plain
  rintro us s1 ⟨vs, H1, I1, rel, few, q⟩
  refine ⟨I1.kIn, run_newE O Fn room gd pass (fun s self inK => bind s self us ?_ inK) I1 rel (few_of rel few) q⟩
  have n := Fn.arity _ _ _ _ (q (s1.heap.objs.size) (I1.hok.fresh (Nat.le_refl _)))
  rw [← n, List.length_cons, Paired.length rel]
/-- C(k = e, ..): the values in the parameters' order -/
def tNewK (C : Addr) (sp : Sp) (gV : List V → List V) (tk : TA) : TE := fun σ H Q => tk σ H fun zs H1 => ∀ a, H1 a = none → sp (.ref a :: gV zs) (upd H1 a (exo a C none)) (fun v H2 => v = .non ∧ Q (.ref a) H2) fun _ _ _ => False
theorem pe_newK {ks : List Str} {kws : List Keyword} {g : List Value → List Value} {gV : List V → List V} (O : Own X.K C fI) (kC : PySem.W.keepIn X.K (.ref C) = true) (Fn : FnG X.prog X.w X.K X.mg X.base CX k fI fd ps sp) (room : Room (k + 1) X.A) (gd : X.A.guards = some []) (pass : Passes CX X fun _ _ _ => False)
    (isGl : Gl X x) (at_ : X.mg x = some (.ref C)) (bind : ∀ (s : Shared) (self : Value) (ws : List Value), (g ws).length + 1 = ps.length → X.K.In s.heap → BindsTo s fd ⟨[self], ks.zip ws⟩ (ps.zip (self :: g ws))) (turn : ∀ {zs : List V} {ws : List Value}, Vals zs ws → Vals (gV zs) (g ws))
    (words : PK X kws tk) (every : (backToKw pos (keywordEach kws X.env)).all (·.1.isSome) = true := by rfl) (names : (backToKw pos (keywordEach kws X.env)).filterMap (·.1) = ks := by rfl) (nodbg : (x == ("__debug__" : Str)) = false := by decide)
    (plain : ((backTo pos (starEach [] X.env)).any (·.1) || (backToKw pos (keywordEach kws X.env)).any (·.1.isNone)) = false := by rfl) :
    PE X (.Call (.Name x p) [] kws pos) (tNewK C sp gV tk) := by
  constructor
  intro pins s σ H Q I want
  refine wpAny_Call_Name_kw (ld_glob I isGl at_ ?_ nodbg)
  refine PySem.W.callWith_KW0 (h₀ := X.base) I.ok.mod.kin kC every ?_ plain
  refine thn (words.run pos pins s σ H _ I want) ?_
  rintro ws s2 ⟨zs, H2, I2, rel, q⟩
  refine ⟨I2.kIn, ?_⟩
  rw [names]
  refine run_newE (us := []) O Fn room gd pass (fun s self inK => bind s self ws ?_ inK) I2 (turn rel) (Nat.zero_le _) q
  have n := Fn.arity _ _ _ _ (q (s2.heap.objs.size) (I2.hok.fresh (Nat.le_refl _)))
  rw [← n, List.length_cons, Paired.length (turn rel)]
/-- C() -/
theorem pe_new0 (O : Own X.K C fI) (kC : PySem.W.keepIn X.K (.ref C) = true) (Fn : FnG X.prog X.w X.K X.mg X.base CX k fI fd ps sp) (room : Room (k + 1) X.A) (gd : X.A.guards = some []) (pass : Passes CX X fun _ _ _ => False)
    (isGl : Gl X x) (at_ : X.mg x = some (.ref C)) (bind : ∀ (s : Shared) (self : Value), X.K.In s.heap → BindsTo s fd ⟨[self], []⟩ (ps.zip [self])) (nodbg : (x == ("__debug__" : Str)) = false := by decide) :
    PE X (.Call (.Name x p) [] [] pos) (tNewE C sp tNil) := by
  constructor
  intro pins s σ H Q I want
  refine wpAny_Call_Name_kw (ld_glob I isGl at_ ?_ nodbg)
  exact PySem.W.callWith_K0 I.kIn kC (run_newE (us := []) O Fn room gd pass bind I .nil (Nat.zero_le _) want.2)
end
end Ex
/-! Data that may hold dicts with one text as their key: how it is read, shown; what an own exception says of itself. -/
namespace Ex
open PySem PySem.Spec PyProof.Rows L2 Gd
mutual
/-- data that stands off the addresses av -/
inductive Dq (av : List Addr) (H : Hp) : V → PyData → Prop
  | non : Dq av H .non .none
  | bl (b : Bool) : Dq av H (.bl b) (.bool b)
  | int (i : Int) : Dq av H (.int i) (.int i)
  | str (x : Str) : Dq av H (.str x) (.str x)
  | lst {a : Addr} {xs : List V} {ds : List PyData} : a ≠ sysModules → a ∉ av → H a = some (.lst xs) → DqAll av H xs ds → Dq av H (.ref a) (.list ds)
  | tup {a : Addr} {xs : List V} {ds : List PyData} : a ∉ av → H a = some (.tup xs) → DqAll av H xs ds → Dq av H (.ref a) (.tuple ds)
  | dnil {a : Addr} : a ∉ av → H a = some (.dK []) → Dq av H (.ref a) (.dict [])
  | done {a : Addr} {k : Str} {x : V} {d : PyData} : a ∉ av → H a = some (.dK [(.inr k, x)]) → Dq av H x d → Dq av H (.ref a) (.dict [(.str k, d)])
inductive DqAll (av : List Addr) (H : Hp) : List V → List PyData → Prop
  | nil : DqAll av H [] []
  | cons {v : V} {vs : List V} {d : PyData} {ds : List PyData} : Dq av H v d → DqAll av H vs ds → DqAll av H (v :: vs) (d :: ds)
end
/-- the old objects stand as they stood, but perhaps those at av -/
def But (av : List Addr) (H H' : Hp) : Prop := ∀ b o, b ∉ av → H b = some o → H' b = some o
theorem But.of {av : List Addr} {H H' : Hp} (e : ∀ b o, H b = some o → H' b = some o) : But av H H' := fun b o _ h => e b o h
mutual
theorem Dq.keep {av : List Addr} {H H' : Hp} (e : But av H H') : ∀ {v : V} {d : PyData}, Dq av H v d → Dq av H' v d
  | _, _, .non => .non
  | _, _, .bl b => .bl b
  | _, _, .int i => .int i
  | _, _, .str x => .str x
  | _, _, .lst n q h r => .lst n q (e _ _ q h) (DqAll.keep e r)
  | _, _, .tup q h r => .tup q (e _ _ q h) (DqAll.keep e r)
  | _, _, .dnil q h => .dnil q (e _ _ q h)
  | _, _, .done q h r => .done q (e _ _ q h) (Dq.keep e r)
theorem DqAll.keep {av : List Addr} {H H' : Hp} (e : But av H H') : ∀ {vs : List V} {ds : List PyData}, DqAll av H vs ds → DqAll av H' vs ds
  | _, _, .nil => .nil
  | _, _, .cons a b => .cons (Dq.keep e a) (DqAll.keep e b)
end
section
variable {av : List Addr} {X : Cx} {pins : List (Addr × Obj)} {σ : L2.St} {H : Hp} {s : Shared}
mutual
theorem Dq.reads (I : Inv X pins σ H s) : ∀ {v : V} {d : PyData} {u : Value}, Dq av H v d → RelV v u → ∃ as, Reads s.heap u d as ∧ sysModules ∉ as
  | _, _, _, .non, r => by
    cases (show _ = Value.none from r)
    exact ⟨_, .none, by simp⟩
  | _, _, _, .bl b, r => by
    cases (show _ = Value.bool b from r)
    exact ⟨_, .bool b, by simp⟩
  | _, _, _, .int i, r => by
    obtain ⟨t, rfl⟩ := (show ∃ t, _ = Value.int i t from r)
    exact ⟨_, .int i t, by simp⟩
  | _, _, _, .str x, r => by
    obtain ⟨t, rfl⟩ := (show ∃ t, _ = Value.str x t from r)
    exact ⟨_, .str x t, by simp⟩
  | _, _, _, @Dq.lst _ _ a _ _ n _ h m, r => by
    cases (show _ = Value.ref a from r)
    obtain ⟨its, rv, ⟨o, k, ho, hc, _, hd⟩, _⟩ := I.list (.inl (.inl h))
    obtain ⟨as, hr, q⟩ := DqAll.reads I m rv
    refine ⟨_, .list ho hc hd hr, fun z => ?_⟩
    rcases List.mem_cons.mp z with z | z
    · exact n z.symm
    · exact q z
  | _, _, _, @Dq.tup _ _ a _ _ _ h m, r => by
    cases (show _ = Value.ref a from r)
    obtain ⟨its, rv, ⟨o, ho, hc, k, hd⟩, _⟩ := I.tuple (.inl (.inl h))
    obtain ⟨as, hr, q⟩ := DqAll.reads I m rv
    exact ⟨_, .tuple ho hc hd hr, q⟩
  | _, _, _, @Dq.dnil _ _ a _ h, r => by
    cases (show _ = Value.ref a from r)
    obtain ⟨_, ns, vs, kv, o, es, ep, ho, hx, hd, _, hp, _⟩ := dk_of I.hok h
    cases kv
    generalize hl : es.toList = l at hp
    cases hp
    refine ⟨_, .dict ho hx.1 hd (kvs := []) (by rw [hl]; exact .nil) (by rw [hl]; exact .nil), fun z => ?_⟩
    have z' : sysModules = a := by simpa using z
    rw [z'] at ns
    simp at ns
  | _, _, _, @Dq.done _ _ a k x d _ h m, r => by
    cases (show _ = Value.ref a from r)
    obtain ⟨_, ns, vs, kv, o, es, ep, ho, hx, hd, _, hp, _⟩ := dk_of I.hok h
    cases kv with
    | @cons _ q _ _ q1 q2 =>
      cases q2
      generalize hl : es.toList = l at hp
      cases hp with
      | @cons e _ _ _ h1 h2 h3 =>
        cases h3
        obtain ⟨e1, e2⟩ := q1
        have hk : ∃ t, e.key = Value.str k t := by
          rw [← e1] at h1
          rcases keyIs_shape (show keyIs (.inr k) e.key = true from h1) with ⟨i, t, z, _⟩ | ⟨y, t, z, w⟩
          · cases z
          · cases z
            exact ⟨t, w⟩
        obtain ⟨t, hk⟩ := hk
        obtain ⟨as, hr, n⟩ := Dq.reads I m (show RelV x e.val by rw [h2]; exact e2)
        refine ⟨_, .dict ho hx.1 hd (kvs := [(.str k, d)]) (by rw [hl]; show ReadsAll _ [e.key] _ _; rw [hk]; exact .cons (.str k t) .nil) (by rw [hl]; exact .cons hr .nil), fun z => ?_⟩
        have z' : sysModules = a ∨ sysModules ∈ as := by simpa using z
        rcases z' with z' | z'
        · rw [z'] at ns
          simp at ns
        · exact n z'
theorem DqAll.reads (I : Inv X pins σ H s) : ∀ {vs : List V} {ds : List PyData} {us : List Value}, DqAll av H vs ds → Vals vs us → ∃ as, ReadsAll s.heap us ds as ∧ sysModules ∉ as
  | _, _, _, .nil, r => by
    cases r
    exact ⟨_, .nil, by simp⟩
  | _, _, _, .cons a b, r => by
    cases r with
    | cons r1 r2 =>
      obtain ⟨as, q1, n1⟩ := Dq.reads I a r1
      obtain ⟨bs, q2, n2⟩ := DqAll.reads I b r2
      exact ⟨_, .cons q1 q2, fun z => (List.mem_append.mp z).elim n1 n2⟩
end
end
end Ex
namespace Ex
open PySem PySem.Spec PyProof.Rows L2 Gd
section
variable {X : Cx}
/-- data that can be shown -/
def Shows (av : List Addr) (H : Hp) (x : V) (d : PyData) : Prop := Dq av H x d ∧ d.showable = true ∧ d.depth ≤ 40 ∧ d.shown.length ≤ sizeLine
def rReprQ : List V → Hp → VK → Prop := fun xs H Q => ∃ av x d, xs = [x] ∧ Shows av H x d ∧ Q (.str d.shown) H
theorem call_reprQ (gd : X.A.guards = some []) (un : X.A.units + 64 < cLine) : CallR X (.builtin "repr") rReprQ := by
  rintro pins s σ H xs us Q I rel ⟨av, x, d, rfl, ⟨hd, sh, dep, sz⟩, q⟩
  obtain ⟨u, rfl, rv⟩ := vals1 rel
  obtain ⟨as, reads, nsys⟩ := Dq.reads I hd rv
  have big : ∀ {a : Addr}, u = .ref a → wpAny (model X.prog X.w) X.A (call (.builtin "repr") [u]) (EP X pins σ Q) X.xe s := fun e => by
    subst e
    exact repr_of_reads' reads sh (fun _ => nsys) gd (by omega) (fun _ _ e => e) (fun h2 u2 tk keep => ⟨.str _, H, I.kept keep, ⟨u2, rfl⟩, q⟩) sz
  cases hd with
  | non =>
    cases rv
    exact PySem.P.repr_of_none ⟨.str "None", H, I.tok _, ⟨_, rfl⟩, q⟩
  | bl b =>
    cases rv
    exact PySem.P.repr_of_bool ⟨.str (if b then "True" else "False"), H, I.tok _, ⟨_, rfl⟩, q⟩
  | int i =>
    obtain ⟨t, rfl⟩ := rv
    refine PySem.P.repr_of_int ?_ ⟨.str _, H, I.tok _, ⟨_, rfl⟩, q⟩
    simpa [PyData.showable] using sh
  | str z =>
    obtain ⟨t, rfl⟩ := rv
    exact PySem.P.repr_of_str ⟨.str _, H, I.tok _, ⟨_, rfl⟩, q⟩ sz
  | lst _ _ _ _ => exact big rv
  | tup _ _ _ => exact big rv
  | dnil _ _ => exact big rv
  | done _ _ _ => exact big rv
/-- {x!r} -/
def tFmtQ (te : TE) : TE := fun σ H Q => te σ H fun x H1 => ∃ av d, Shows av H1 x d ∧ Q (.str d.shown) H1
theorem pe_fmtQ {e : Expr} {te : TE} {pos : Pos} (gd : X.A.guards = some []) (un : X.A.units + 64 < cLine) (he : PE X e te) : PE X (.FormattedValue e 114 none pos) (tFmtQ te) := by
  constructor
  intro pins s σ H Q I want
  refine wpAny_FormattedValue_repr (thn (he.run pins s σ H _ I want) ?_)
  rintro u s1 ⟨x, H1, I1, rv, av, d, ⟨hd, sh, dep, sz⟩, q⟩
  obtain ⟨as, reads, nsys⟩ := Dq.reads I1 hd rv
  have big : ∀ {a : Addr}, u = .ref a → wpAny (model X.prog X.w) X.A (pyReprObj u) (fun v s2 => wpAny (model X.prog X.w) X.A (formatField v Str.empty) (EP X pins σ Q) X.xe s2) X.xe s1 := fun e => by
    subst e
    exact pyReprObj_of_reads reads sh (fun _ => nsys) gd (by omega) (fun _ _ e => e) (fun h2 u2 tk keep => wpAny_formatField_str ⟨.str _, H1, I1.kept keep, ⟨_, rfl⟩, q⟩ ⟨.str _, H1, I1.kept keep, ⟨_, rfl⟩, q⟩ sz) sz
  cases hd with
  | non =>
    cases rv
    exact pyReprObj_none (wpAny_formatField_str ⟨.str "None", H1, I1.tok _, ⟨_, rfl⟩, q⟩ ⟨.str "None", H1, I1.tok _, ⟨_, rfl⟩, q⟩ sz)
  | bl b =>
    cases rv
    exact pyReprObj_bool (wpAny_formatField_str ⟨.str (if b then "True" else "False"), H1, I1.tok _, ⟨_, rfl⟩, q⟩ ⟨.str (if b then "True" else "False"), H1, I1.tok _, ⟨_, rfl⟩, q⟩ sz)
  | int i =>
    obtain ⟨t, rfl⟩ := rv
    exact pyReprObj_int (by simpa [PyData.showable] using sh) (wpAny_formatField_str ⟨.str _, H1, I1.tok _, ⟨_, rfl⟩, q⟩ ⟨.str _, H1, I1.tok _, ⟨_, rfl⟩, q⟩ sz)
  | str z =>
    obtain ⟨t, rfl⟩ := rv
    exact pyReprObj_str (wpAny_formatField_str ⟨.str _, H1, I1.tok _, ⟨_, rfl⟩, q⟩ ⟨.str _, H1, I1.tok _, ⟨_, rfl⟩, q⟩ sz) sz
  | lst _ _ _ _ => exact big rv
  | tup _ _ _ => exact big rv
  | dnil _ _ => exact big rv
  | done _ _ _ => exact big rv
/-- err.f, err an exception of ours that is held as a value -/
def tEf (K : PySem.W.Frag) (f : Str) (te : TE) : TE := fun σ H Q => te σ H fun x H1 => ∃ (a C dd : Addr) (fs : List (Str × V)) (v : V), x = .ref a ∧ XfC K C ∧ PySem.W.findIn K (.ref C) f = some none ∧ H1 a = some (exo a C (some dd)) ∧ H1 dd = some (exd dd fs) ∧ fs.lookup f = some v ∧ Q v H1
theorem pe_ef {e : Expr} {te : TE} {pos : Pos} {f : Str} (he : PE X e te) (hb : attributeBase e f X.env (eval e X.env) = eval e X.env := by rfl) : PE X (.Attribute e f pos) (tEf X.K f te) := by
  constructor
  intro pins s σ H Q I want
  refine attr_of hb (thn (he.run pins s σ H _ I want) ?_)
  rintro u s1 ⟨x, H1, I1, rx, a, C, dd, fs, v, rfl, T, no, ea, ed, l, q⟩
  cases (show u = Value.ref a from rx)
  obtain ⟨t1, at_⟩ := exo_at I1.hok ea
  obtain ⟨mA, ns, rel⟩ := exd_at I1.hok ed
  obtain ⟨od, ho, hl⟩ := lookIn_ns ns
  obtain ⟨u2, hu, ru⟩ := RelO.some_of (v := v) (o := mA f) (by rw [← l]; exact rel f)
  have J : PySem.W.InstAt s1.heap a _ C (some od) := ⟨at_, rfl, rfl, ho⟩
  exact HandSPX.exc_get I1.kIn J T.ga T.gg T.exC (PySem.W.findObj_own T.hdC no rfl (by rw [hl, hu])) (handed_of ru) ⟨v, H1, I1.tok _, ru, q⟩
/-- an exception of the class at C stands at a -/
def Held (H : Hp) (a C : Addr) : Prop := H a = some (exo a C none) ∨ ∃ dd fs, H a = some (exo a C (some dd)) ∧ H dd = some (exd dd fs)
def rIsiE (K : PySem.W.Frag) : List V → Hp → VK → Prop := fun xs H Q => ∃ (a C : Addr) (c : V) (u : Value) (b : Bool), xs = [.ref a, c] ∧ ClsV c u ∧ Held H a C ∧ ExcC K C ∧ PySem.W.kitOne K (.ref C) u = some b ∧ Q (.bl b) H
theorem call_isiE : CallR X (.builtin "isinstance") (rIsiE X.K) := by
  rintro pins s σ H xs us Q I rel ⟨a, C, c, w, b, rfl, k, held, T, e, q⟩
  obtain ⟨u1, u2, rfl, r1, r2⟩ := vals2 rel
  have e2 := k.eq r2
  subst e2
  cases (show u1 = Value.ref a from r1)
  have cl : (PySem.W.clsIn X.K C).isSome = true := by
    obtain ⟨cd, hc, _⟩ := PySem.W.any_some T.hd
    rw [hc]
    rfl
  rcases held with ea | ⟨dd, fs, ea, ed⟩
  · obtain ⟨t1, at_⟩ := exo_at I.hok ea
    exact PySem.W.kia_one (PySem.W.kitx_exc (od := none) cl T.hg T.hk T.hs T.ha T.hn T.ht T.hm) I.kIn ⟨at_, rfl, rfl, trivial⟩ e (fun z => nomatch z) fun tk => ⟨.bl b, H, I.tok tk, rfl, q⟩
  · obtain ⟨t1, at_⟩ := exo_at I.hok ea
    obtain ⟨mA, ns, rel2⟩ := exd_at I.hok ed
    obtain ⟨od, ho, hl⟩ := lookIn_ns ns
    exact PySem.W.kia_one (PySem.W.kitx_exc (od := some od) cl T.hg T.hk T.hs T.ha T.hn T.ht T.hm) I.kIn ⟨at_, rfl, rfl, ho⟩ e (fun z => nomatch z) fun tk => ⟨.bl b, H, I.tok tk, rfl, q⟩
/-- C(), a class of ours over ValueError without its own __init__ -/
def tBare (C : Addr) : TE := fun _ H Q => ∀ a, H a = none → Q (.ref a) (upd H a (exo a C none))
theorem pe_bare {C : Addr} {x : Str} {p pos : Pos} {bmB : List Value} {B newId initId : String} (F : ExcBaseFacts B newId initId bmB) (cls : PySem.W.excIn X.K C bmB newId = true) (isGl : Gl X x) (at_ : X.mg x = some (.ref C)) (kC : PySem.W.keepIn X.K (.ref C) = true) (nodbg : (x == ("__debug__" : Str)) = false := by decide) :
    PE X (.Call (.Name x p) [] [] pos) (tBare C) := by
  constructor
  intro pins s σ H Q I want
  refine wpAny_Call_Name_kw (ld_glob I isGl at_ ?_ nodbg)
  refine PySem.W.callWith_K0 I.kIn kC ?_
  obtain ⟨bm, N, nm, qn, bs, hdct, sn, sub, ab, col, dd, k0, k1, k2, k3, k5, mN, hC, hN, hni, T⟩ := exc_obj I.kIn cls
  refine wpAny_call_exc_subT F T hC hN hni (fun h' a hm => ?_) (Nat.zero_le _)
  have n : H a = none := I.hok.gone hm.new
  obtain ⟨t, ht, _, _⟩ := hm.there
  exact ⟨.ref a, upd H a (exo a C none), I.laidN hm.keeps hm.new n (exo_ok ht), rfl, want a n⟩
end
end Ex
namespace Pe
open PySem PySem.Spec PyProof.Rows L2 Evl Gd Ex
def topS (i : Nat) : Stmt := PySem.Challenge.pw_crossheaps_k79_errors_by_themselves.main.body.getD i (.Pass ⟨0, 0, 0, 0⟩)
abbrev sSource : Stmt := topS 16
abbrev sTake : Stmt := topS 17
abbrev sOf : Stmt := topS 18
abbrev nSource : List Str := ["_law_script", "_law_k", "_law_cell", "_law_own"]
abbrev nTake : List Str := ["_law_pot", "_law_many", "_law_digit", "_law_mixed"]
abbrev nOf : List Str := ["_law_pot", "_law_some"]
theorem scSource : FnScope nSource ["_law_script", "_law_k"] (defScope sSource) := ⟨rfl, rfl, rfl, by decide +kernel, rfl, by decide +kernel, by decide +kernel⟩
theorem scTake : FnScope nTake ["_law_pot", "_law_many"] (defScope sTake) := ⟨rfl, rfl, rfl, by decide +kernel, rfl, by decide +kernel, by decide +kernel⟩
theorem scOf : FnScope nOf ["_law_pot", "_law_some"] (defScope sOf) := ⟨rfl, rfl, rfl, by decide +kernel, rfl, by decide +kernel, by decide +kernel⟩
def CPowW (i j : Int) : Prop := 0 ≤ j ∧ (Builtin.Int.intBits i : Int) * j ≤ bitsLine
theorem op_powW {X : Cx} : OpR X (binaryOp .Pow) (rI CPowW fun i j => .int (i ^ j.toNat)) := opI fun _ _ _ _ _ _ _ hc q => pow_int hc.1 hc.2 q
def big : Int := 1000000000000000000000000000000000000000000000000000000000000 ^ 5
/-- the pot of draws: at most n draws so far -/
def Pot (H : Hp) (d : Addr) (n : Int) : Prop := ∃ g b m : Int, H d = some (.lst [.int g, .int b, .int m]) ∧ 0 ≤ g ∧ g < big ∧ 0 ≤ b ∧ b < 2305843009213693952 ∧ 0 ≤ m ∧ m ≤ n
theorem Pot.up {H : Hp} {d : Addr} {n k : Int} (h : Pot H d n) (e : n ≤ k) : Pot H d k := by
  obtain ⟨g, b, m, h0, h1, h2, h3, h4, h5, h6⟩ := h
  exact ⟨g, b, m, h0, h1, h2, h3, h4, h5, by omega⟩
theorem Pot.ex {H H' : Hp} {d : Addr} {n : Int} (e : Evl.Ex H H') (h : Pot H d n) : Pot H' d n := by
  obtain ⟨g, b, m, h0, h⟩ := h
  exact ⟨g, b, m, e d _ h0, h⟩
/-- all but the pot stays -/
def Off (d : Addr) (H H' : Hp) : Prop := ∀ a o, a ≠ d → H a = some o → H' a = some o
theorem Off.refl (d : Addr) (H : Hp) : Off d H H := fun _ _ _ h => h
theorem Off.of {d : Addr} {H H' : Hp} (e : Evl.Ex H H') : Off d H H' := fun a o _ h => e a o h
theorem Off.trans {d : Addr} {H H1 H2 : Hp} (a : Off d H H1) (b : Off d H1 H2) : Off d H H2 := fun x o n h => b x o n (a x o n h)
theorem Off.upd {d : Addr} {H H' : Hp} {o : HO} (e : Off d H H') : Off d H (upd H' d o) := fun a u n h => by
  rw [upd_ne n]
  exact e a u n h
def spSource (K : PySem.W.Frag) : Sp := fun vs H Q _ => ∃ (a : Addr) (ns : List Int) (k : Int), vs = [.ref a, .int k] ∧ SqL K H a (ns.map V.int) ∧ ns.length ≤ 63 ∧ 0 ≤ k ∧ k ≤ 2 ∧
  ∀ H' d, Evl.Ex H H' → H d = none → Pot H' d 0 → Q (.ref d) H'
def spTake : Sp := fun vs H Q _ => ∃ (d : Addr) (n many : Int), vs = [.ref d, .int many] ∧ Pot H d n ∧ n ≤ 1000000 ∧ 0 < many ∧ many ≤ 1000000 ∧
  ∀ H' r, Off d H H' → Pot H' d (n + 1) → 0 ≤ r → r < many → Q (.int r) H'
section
variable {P : Program} {w : World} {K : PySem.W.Frag} {mg : Str → Option Value} {base : Heap}
theorem ok_source {f : Addr} {fd : FuncData} (F : Fun K "_law_source" "_law_source" sSource f fd) (mL : mg "len" = none) (mA : mg "abs" = none) (mI : mg "int" = none) : FnOk P w K mg base CX0 1 f fd ["_law_script", "_law_k"] (spSource K) := by
  refine F.ok scSource (fun vs H Q E h => ?_) (fun cdv A outer s H vs Q E hr h => ?_)
  · obtain ⟨a, ns, k, rfl, _⟩ := h
    rfl
  · obtain ⟨a, ns, k, rfl, hS, hz, h0, h2, q⟩ := h
    refine ⟨_, pss_cons (ps_set (i := 2) scSource.nd rfl (.inl rfl) (pe_ifExp (pt_cmpR op_lt (pv 1) (pe_callB call_len_seq (by rfl) mL PySem.boot_len (pa_cons (pv 0) pa_nil)) (nomark _)) (pe_ix ix_list (pv 0) (pv 1) (fun _ _ => rfl)) (pe_op op_add (pe_op op_mul pe_int (pv 1)) pe_int)))
      (pss_cons (ps_set (i := 3) scSource.nd rfl (.inl rfl) (pe_op op_mul (pe_op op_mod (pe_callB call_abs (by rfl) mA (by decide +kernel) (pa_cons (pv 2) pa_nil)) (pe_op op_powW (pe_op op_pow pe_int pe_int) pe_int))
          (pe_callTy call_int1 (by rfl) mI (by decide +kernel) (pa_cons (pe_cmpR op_ge (pe_callB call_abs (by rfl) mA (by decide +kernel) (pa_cons (pv 2) pa_nil)) (pe_op op_pow pe_int pe_int) (nomark _)) pa_nil))))
      (pss_one (ps_ret (pe_lst (pa_cons (pv 3) (pa_cons (pe_op op_mod (pe_op op_add (pe_op op_add (pe_op op_mul (pe_op op_mod (pv 2) pe_int) pe_int) (pe_op op_mul (pe_op op_mul pe_int (pv 1)) (pv 1))) pe_int) pe_int) (pa_cons pe_int pa_nil))))))), ?_⟩
    let c : Int := if h : k.toNat < ns.length then ns[k.toNat] else 41 * k + 13
    refine s_asg (i := 2) (v := .int c) (ev_if (et_test (ev_op (ev_var rfl) (ev_len (ev_var rfl) hS) rv_I0)) (fun hb => ?_) (fun hb => ?_)) fun H1 e1 => ?_
    · have hk : k < ((ns.map V.int).length : Int) := of_decide_eq_true hb
      rw [List.length_map] at hk
      have hk2 : k.toNat < ns.length := by omega
      refine ev_op (ev_var rfl) (ev_var rfl) (rv_ixL hS ?_)
      have e0 : k = ((k.toNat : Nat) : Int) := by omega
      rw [e0]
      refine atI_nat ?_
      rw [List.getElem?_map, List.getElem?_eq_getElem hk2]
      show some (V.int _) = some (V.int c)
      rw [show c = ns[k.toNat] from dif_pos hk2]
    · have hk : ¬ k < ((ns.map V.int).length : Int) := of_decide_eq_false hb
      rw [List.length_map] at hk
      rw [show c = 41 * k + 13 from dif_neg (by omega)]
      exact ev_op (ev_op ev_c (ev_var rfl) (rv_I (.inl ⟨by decide, by decide⟩))) ev_c rv_I0
    clear_value c
    have evAbs : ∀ H2 : Hp, Ev (tCB (fun xs H Q => ∃ i, xs = [V.int i] ∧ Q (.int (if i < 0 then -i else i)) H) (tCons (tVar 2) tNil)) ((L2.start nSource [V.ref a, V.int k]).set 2 (some (.int c))) H2 (.int (if c < 0 then -c else c)) :=
      fun H2 => ev_cb (ea_cons (ev_var rfl) ea_nil) fun H3 _ Q q => ⟨c, rfl, q H3 (Ex.refl H3)⟩
    let g : Int := (if c < 0 then -c else c) % big * (if decide ((10 : Int) ^ (18 : Int).toNat ≤ (if c < 0 then -c else c)) = true then 1 else 0)
    have hbig : (0 : Int) < big := by decide +kernel
    have hg : 0 ≤ g ∧ g < big := by
      have h1 := Int.emod_nonneg (if c < 0 then -c else c) (b := big) (by omega)
      have h2 := Int.emod_lt_of_pos (if c < 0 then -c else c) hbig
      show 0 ≤ _ * _ ∧ _ * _ < big
      generalize decide ((10 : Int) ^ (18 : Int).toNat ≤ (if c < 0 then -c else c)) = z
      cases z
      · rw [if_neg Bool.false_ne_true, Int.mul_zero]
        omega
      · rw [if_pos rfl, Int.mul_one]
        exact ⟨h1, h2⟩
    dsimp only
    refine st_seq (s_asg (i := 3) (v := .int g) (ev_op (ev_op (evAbs H1) (ev_op (ev_op ev_c ev_c (rv_I ⟨by decide, by decide, by decide⟩)) ev_c (rv_I ⟨by decide +kernel, by decide +kernel⟩)) (rv_I (by decide +kernel))) (ev_cb (ea_cons (ev_op (evAbs H1) (ev_op ev_c ev_c (rv_I ⟨by decide, by decide, by decide⟩)) rv_I0) ea_nil) fun H3 _ Q q => .inr ⟨_, rfl, q H3 (Ex.refl H3)⟩) (rv_I (.inr ?_))) fun H2 e2 => ?_)
    · generalize decide ((10 : Int) ^ (18 : Int).toNat ≤ (if c < 0 then -c else c)) = z
      cases z <;> decide
    clear_value g
    dsimp only
    let b : Int := (c % 2305843009213693951 * 64951 + 7121 * k * k + 71) % 2305843009213693921
    have hb1 := Int.emod_nonneg (c % 2305843009213693951 * 64951 + 7121 * k * k + 71) (b := 2305843009213693921) (by decide)
    have hb2 := Int.emod_lt_of_pos (c % 2305843009213693951 * 64951 + 7121 * k * k + 71) (b := 2305843009213693921) (by decide)
    refine s_retL (xs := [.int g, .int b, .int 0]) (el_lst (ea_cons (ev_var rfl) (ea_cons (ev_op (ev_op (ev_op (ev_op (ev_op (ev_var rfl) ev_c (rv_I (by decide))) ev_c (rv_I (.inr ⟨by decide, by decide⟩))) (ev_op (ev_op ev_c (ev_var rfl) (rv_I (.inl ⟨by decide, by decide⟩))) (ev_var rfl) (rv_I (.inr ⟨by omega, by omega⟩))) rv_I0) ev_c rv_I0) ev_c (rv_I (by decide))) (ea_cons ev_c ea_nil))) (by show 3 ≤ 100000; decide)) fun p H3 hp e3 h3 => ?_
    exact q H3 p ((e1.trans e2).trans e3) (fresh_back (e1.trans e2) hp) ⟨g, b, 0, h3, hg.1, hg.2, hb1, by omega, Int.le_refl 0, Int.le_refl 0⟩
theorem ok_take {f : Addr} {fd : FuncData} (F : Fun K "_law_take" "_law_take" sTake f fd) : FnOk P w K mg base CX0 1 f fd ["_law_pot", "_law_many"] spTake := by
  refine F.ok scTake (fun vs H Q E h => ?_) (fun cdv A outer s H vs Q E hr h => ?_)
  · obtain ⟨a, n, k, rfl, _⟩ := h
    rfl
  · obtain ⟨d, n, many, rfl, hP, hn, h0, h1, q⟩ := h
    refine ⟨_, pss_cons (ps_if (pt_cmpR op_gt (pe_ix ix_list (pv 0) pe_int (fun _ _ => rfl)) pe_int (nomark _))
        (pss_cons (ps_set (i := 2) scTake.nd rfl (.inl rfl) (pe_op op_mod (pe_ix ix_list (pv 0) pe_int (fun _ _ => rfl)) (pv 1)))
        (pss_cons (ps_asg (pe_op op_fdivW (pe_ix ix_list (pv 0) pe_int (fun _ _ => rfl)) (pv 1)) (pg_sub (pv 0) pe_int set_list))
        (pss_one (ps_ret (pv 2))))) pss_nil)
      (pss_cons (ps_asg (pe_op op_add (pe_ix ix_list (pv 0) pe_int (fun _ _ => rfl)) pe_int) (pg_sub (pv 0) pe_int set_list))
      (pss_cons (ps_set (i := 3) scTake.nd rfl (.inl rfl) (pe_op op_mod (pe_op op_mul (pe_op op_add (pe_op op_add (pe_ix ix_list (pv 0) pe_int (fun _ _ => rfl)) (pe_op op_mul (pe_op op_mul pe_int (pe_ix ix_list (pv 0) pe_int (fun _ _ => rfl))) (pe_ix ix_list (pv 0) pe_int (fun _ _ => rfl)))) pe_int) pe_int) pe_int))
      (pss_cons (ps_set (i := 3) scTake.nd rfl (.inl rfl) (pe_op op_mod (pe_op op_mul (pv 3) (pe_op op_add (pe_op op_mod (pv 3) pe_int) (pe_op op_mul pe_int (pe_ix ix_list (pv 0) pe_int (fun _ _ => rfl))))) pe_int))
      (pss_one (ps_ret (pe_op op_mod (pe_op op_add (pe_op op_fdiv (pv 3) pe_int) (pe_op op_fdiv (pv 3) pe_int)) (pv 1))))))), ?_⟩
    obtain ⟨g, b, m, hd, hg0, hg1, hb0, hb1, hm0, hm1⟩ := hP
    have at0 : ∀ x y z : Int, atI [V.int x, .int y, .int z] 0 = some (.int x) := fun x y z => atI_nat (j := 0) rfl
    have at1 : ∀ x y z : Int, atI [V.int x, .int y, .int z] 1 = some (.int y) := fun x y z => atI_nat (j := 1) rfl
    have at2 : ∀ x y z : Int, atI [V.int x, .int y, .int z] 2 = some (.int z) := fun x y z => atI_nat (j := 2) rfl
    refine s_if (b := decide (0 < g)) (et_test (ev_op (ev_op (ev_var rfl) ev_c (rv_ixL (sq_of hd) (at0 _ _ _))) ev_c rv_I0)) (fun hb H1 e1 => ?_) (fun hb H1 e1 => ?_)
    · have hg : 0 < g := of_decide_eq_true hb
      have d1 := e1 d _ hd
      refine st_seq (s_asg (i := 2) (v := .int (g % many)) (ev_op (ev_op (ev_var rfl) ev_c (rv_ixL (sq_of d1) (at0 _ _ _))) (ev_var rfl) (rv_I h0)) fun H2 e2 => ?_)
      have d2 := e2 d _ d1
      dsimp only
      have wd : CDivW g many := wide_div h0 (b := 64) (by omega) (by decide) (by decide)
      refine st_seq (s_setL (j := 0) d2 (ev_op (ev_op (ev_var rfl) ev_c (rv_ixL (sq_of d2) (at0 _ _ _))) (ev_var rfl) (rv_I wd)) (ev_var rfl) ev_c (show 0 < 3 by decide) fun H3 e3 => ?_)
      dsimp only
      refine s_ret (v := .int (g % many)) (ev_var rfl) fun H4 e4 => ?_
      have h5 : Off d H H3 := Off.of ((e1.trans e2).trans e3)
      have nn := Int.ediv_nonneg hg0 (show 0 ≤ many by omega)
      have le : g / many ≤ g := Int.ediv_le_self many hg0
      refine q H4 _ ((h5.upd).trans (Off.of e4)) ⟨g / many, b, m, e4 d _ upd_same, nn, by omega, hb0, hb1, hm0, by omega⟩ (Int.emod_nonneg _ (by omega)) (Int.emod_lt_of_pos _ h0)
    · have d1 := e1 d _ hd
      dsimp only [tNext]
      refine st_seq (s_setL (j := 2) d1 (ev_op (ev_op (ev_var rfl) ev_c (rv_ixL (sq_of d1) (at2 _ _ _))) ev_c rv_I0) (ev_var rfl) ev_c (show 2 < 3 by decide) fun H3 e3 => ?_)
      dsimp only
      have d3 : (upd H3 d (.lst ([V.int g, .int b, .int m].set 2 (.int (m + 1))))) d = some (.lst [V.int g, .int b, .int (m + 1)]) := upd_same
      have o3 : Off d H (upd H3 d (.lst ([V.int g, .int b, .int m].set 2 (.int (m + 1))))) := (Off.of (e1.trans e3)).upd
      generalize upd H3 d (.lst ([V.int g, .int b, .int m].set 2 (.int (m + 1)))) = H3' at d3 o3 ⊢
      have m0 : (0 : Int) ≤ m + 1 := by omega
      refine st_seq (s_asg (i := 3) (v := .int ((b + 65557 * (m + 1) * (m + 1) + 29) * 48311 % 2305843009213693921)) (ev_op (ev_op (ev_op (ev_op (ev_op (ev_var rfl) ev_c (rv_ixL (sq_of d3) (at1 _ _ _))) (ev_op (ev_op ev_c (ev_op (ev_var rfl) ev_c (rv_ixL (sq_of d3) (at2 _ _ _))) (rv_I (.inl ⟨by decide, by decide⟩))) (ev_op (ev_var rfl) ev_c (rv_ixL (sq_of d3) (at2 _ _ _))) (rv_I (.inr ⟨by omega, by omega⟩))) rv_I0) ev_c rv_I0) ev_c (rv_I (.inr ⟨by decide, by decide⟩))) ev_c (rv_I (by decide))) fun H5 e5 => ?_)
      generalize hy : (b + 65557 * (m + 1) * (m + 1) + 29) * 48311 % 2305843009213693921 = y
      have y0 : 0 ≤ y := by rw [← hy]; exact Int.emod_nonneg _ (by omega)
      have y1 : y < 2305843009213693921 := by rw [← hy]; exact Int.emod_lt_of_pos _ (by decide)
      have d5 := e5 d _ d3
      dsimp only
      refine st_seq (s_asg (i := 3) (v := .int (y * (y % 1000037 + 99989 * (m + 1)) % 2305843009213693907)) (ev_op (ev_op (ev_var rfl) (ev_op (ev_op (ev_var rfl) ev_c (rv_I (by decide))) (ev_op ev_c (ev_op (ev_var rfl) ev_c (rv_ixL (sq_of d5) (at2 _ _ _))) (rv_I (.inl ⟨by decide, by decide⟩))) rv_I0) (rv_I (.inl ⟨by omega, by omega⟩))) ev_c (rv_I (by decide))) fun H6 e6 => ?_)
      generalize hz : y * (y % 1000037 + 99989 * (m + 1)) % 2305843009213693907 = z
      have z0 : 0 ≤ z := by rw [← hz]; exact Int.emod_nonneg _ (by omega)
      dsimp only
      refine s_ret (v := .int ((z / 103 + z / 1000003) % many)) (ev_op (ev_op (ev_op (ev_var rfl) ev_c (rv_I ⟨by decide, by decide⟩)) (ev_op (ev_var rfl) ev_c (rv_I ⟨by decide, by decide⟩)) rv_I0) (ev_var rfl) (rv_I h0)) fun H7 e7 => ?_
      have e47 := (e5.trans e6).trans e7
      exact q H7 _ (o3.trans (Off.of e47)) ⟨g, b, m + 1, e47 d _ d3, hg0, hg1, hb0, hb1, m0, by omega⟩ (Int.emod_nonneg _ (by omega)) (Int.emod_lt_of_pos _ h0)
theorem Pot.ne {H : Hp} {d p : Addr} {n : Int} (h : Pot H d n) (hp : H p = none) : p ≠ d := fun e => by
  obtain ⟨g, b, m, h0, _⟩ := h
  rw [e, h0] at hp
  cases hp
theorem rd_take {σ : L2.St} {H : Hp} {E : XK} {td tm : TE} {d : Addr} {n many : Int} {Q : VK} (hd : Ev td σ H (.ref d)) (hm : Ev tm σ H (.int many)) (hP : Pot H d n) (h1 : n ≤ 1000000) (h2 : 0 < many) (h3 : many ≤ 1000000)
    (k : ∀ H' r, Off d H H' → Pot H' d (n + 1) → 0 ≤ r → r < many → Q (.int r) H') : tCall spTake [] E (tCons td (tCons tm tNil)) σ H Q := by
  refine hd H (Ex.refl H) _ fun H1 e1 => hm H1 e1 _ fun H2 e2 => ?_
  exact ⟨d, n, many, rfl, hP.ex (e1.trans e2), h1, h2, h3, fun H' r o p a b => k H' r ((Off.of (e1.trans e2)).trans o) p a b⟩
/-- one of a list's items -/
def spOf : Sp := fun vs H Q _ => ∃ (d l : Addr) (n : Int) (xs : List V), vs = [.ref d, .ref l] ∧ Pot H d n ∧ n ≤ 1000000 ∧ l ≠ d ∧ H l = some (.lst xs) ∧ 0 < xs.length ∧ xs.length ≤ 1000 ∧
  ∀ H' x, x ∈ xs → Off d H H' → Pot H' d (n + 1) → Q x H'
theorem ok_of {f fT : Addr} {fd fdT : FuncData} (F : Fun K "_law_of" "_law_of" sOf f fd) (FT : Fun K "_law_take" "_law_take" sTake fT fdT) (bT : Binds K fdT ["_law_pot", "_law_many"] []) (gT : mg "_law_take" = some (.ref fT)) (mL : mg "len" = none) :
    FnOk P w K mg base CX0 2 f fd ["_law_pot", "_law_some"] spOf := by
  have GT : FnOk P w K mg base CX0 1 fT fdT ["_law_pot", "_law_many"] spTake := ok_take FT
  refine F.ok scOf (fun vs H Q E h => ?_) (fun cdv A outer s H vs Q E hr h => ?_)
  · obtain ⟨d, l, n, xs, rfl, _⟩ := h
    rfl
  · obtain ⟨d, l, n, xs, rfl, hP, hn, ne, hl, z0, z1, q⟩ := h
    refine ⟨_, pss_one (ps_ret (pe_ix ix_list (pv 1) (pe_call GT hr (by rfl) gT FT.kp bT .nil pass0 (pa_cons (pv 0) (pa_cons (pe_callB call_len_seq (by rfl) mL PySem.boot_len (pa_cons (pv 1) pa_nil)) pa_nil))) (fun _ _ => rfl))), ?_⟩
    refine ⟨_, rfl, ?_⟩
    refine rd_take (ev_var rfl) (ev_len (ev_var rfl) (sq_of hl)) hP hn (by omega) (by omega) fun H1 r o p r0 r1 => ?_
    obtain ⟨j, rfl⟩ : ∃ j : Nat, r = j := ⟨r.toNat, by omega⟩
    have jn : j < xs.length := by omega
    exact ⟨l, xs, j, _, rfl, rfl, sq_of (o l _ ne hl), atI_nat (List.getElem?_eq_getElem jn), q H1 _ (List.getElem_mem jn) o p⟩
end
end Pe
namespace Gd
open PySem PySem.Spec PyProof.Rows L2
/-- f(k = v, ..), keywords alone -/
theorem pe_kwOnly {X : Cx} {CX : CXT} {k : Nat} {f : Addr} {fd : FuncData} {ps ks : List Str} {sp : Sp} {E : XK} {x : Str} {p pos : Pos} {kws : List Keyword} {tk : TA} {g : List Value → List Value → List Value} {gV : List V → List V → List V}
    (F : FnOk X.prog X.w X.K X.mg X.base CX k f fd ps sp) (room : Room k X.A) (isGl : Gl X x) (at_ : X.mg x = some (.ref f)) (kept : PySem.W.keepIn X.K (.ref f) = true) (bind : KBinds X.K fd ps ks g gV) (pass : Passes CX X E)
    (words : PK X kws tk) (every : (backToKw pos (keywordEach kws X.env)).all (·.1.isSome) = true := by rfl) (names : (backToKw pos (keywordEach kws X.env)).filterMap (·.1) = ks := by rfl) (nodbg : (x == ("__debug__" : Str)) = false := by decide)
    (plain : ((backTo pos (starEach [] X.env)).any (·.1) || (backToKw pos (keywordEach kws X.env)).any (·.1.isNone)) = false := by rfl) :
    PE X (.Call (.Name x p) [] kws pos) (tCallK sp gV E tNil tk) := by
  constructor
  intro pins s σ H Q I want
  refine wpAny_Call_Name_kw (ld_glob I isGl at_ ?_ nodbg)
  refine PySem.W.callWith_KW0 (h₀ := X.base) I.ok.mod.kin kept every ?_ plain
  refine thn (words.run pos pins s σ H _ I want) ?_
  rintro ws s2 ⟨zs, H2, I2, rel, q⟩
  refine ⟨I2.kIn, ?_⟩
  rw [names]
  exact run_fnk (us := []) (vs := []) F room bind pass I2 .nil rel q
end Gd
namespace Gd
open PySem PySem.Spec PyProof.Rows L2
/-- as fng_of, where nothing leaves the body -/
theorem fng0_of {P : Program} {w : World} {K : PySem.W.Frag} {mg : Str → Option Value} {base : Heap} {k : Nat} {f : Addr} {fd : FuncData} {ps : List Str} {sp : Sp} {x qual : Str} {st : Stmt} {N : List Str} (F : Fun K x qual st f fd) (S : FnScope N ps (defScope st)) (ar : ∀ vs H Q E, sp vs H Q E → vs.length = ps.length)
    (body : ∀ (cdv : Value) (A : Around) (outer : List Env) (s : Shared) (H : Hp) (vs : List V) (Q : VK) (E : XK), Room k (A.deeper (envOfC qual (defScope st) s.heap.objs.size f cdv)) → A.guards = some [] → sp vs H Q E →
      ∃ t, PSs (cxOf CX0 P w K mg base N qual (defScope st) f cdv A outer s H E).nox (defBody st) t ∧ t { nx := fun _ H' => Q .non H', rt := Q } (start N vs) H) :
    FnG P w K mg base CX0 (k + 1) f fd ps sp :=
  fng_of F S ar fun cdv A outer s H vs Q E room gd want => by
    obtain ⟨t, d, r⟩ := body cdv A outer s H vs Q E room gd want
    exact ⟨t, d.nox, r⟩
end Gd
namespace Gd
open PySem PySem.Spec PyProof.Rows L2
/-! Facts of the data of a tuple of small ints. -/
theorem ints_show : ∀ ns : List Int, (∀ n ∈ ns, n.natAbs < 10 ^ 9) → PyData.showableAll (ns.map .int) = true
  | [], _ => rfl
  | n :: r, h => by
    rw [List.map_cons, PyData.showableAll, ints_show r fun m hm => h m (List.mem_cons_of_mem _ hm), Bool.and_true]
    rw [PyData.showable]
    refine decide_eq_true ?_
    have h1 := h n List.mem_cons_self
    by_cases z : n.natAbs = 0
    · rw [z]
      decide
    · exact Nat.lt_of_lt_of_le ((Nat.log2_lt z).mpr (Nat.lt_of_lt_of_le h1 (by decide : (10 : Nat) ^ 9 ≤ 2 ^ 30))) (by decide)
theorem ints_noDict : ∀ ns : List Int, PyData.hasDictAll (ns.map .int) = false
  | [] => rfl
  | n :: r => by
    rw [List.map_cons, PyData.hasDictAll, ints_noDict r, PyData.hasDict]
    rfl
theorem ints_depth : ∀ ns : List Int, PyData.depthAll (ns.map .int) = 0
  | [] => rfl
  | n :: r => by
    rw [List.map_cons, PyData.depthAll, ints_depth r, PyData.depth]
    rfl
theorem ints_lay : ∀ ns : List Int, PyData.canLayAll0 (ns.map .int) = true
  | [] => rfl
  | n :: r => by
    rw [List.map_cons, PyData.canLayAll0, ints_lay r, PyData.canLay0]
    rfl
theorem int_len {n : Int} (h : n.natAbs < 10 ^ 9) : ((toString n : String) : Str).length ≤ 10 := by
  have e := int_text_length_le10 (a := n) (k := 9) (by decide) h
  rw [PySem.ofString_length]
  exact e
theorem ints_piled : ∀ ns : List Int, (∀ n ∈ ns, n.natAbs < 10 ^ 9) → piled (PyData.shownAll (ns.map .int)) ≤ 12 * ns.length
  | [], _ => Nat.le_refl _
  | n :: r, h => by
    have ih := ints_piled r fun m hm => h m (List.mem_cons_of_mem _ hm)
    have h1 := int_len (h n List.mem_cons_self)
    rw [List.map_cons, PyData.shownAll, piled_cons, PyData.shown, List.length_cons]
    omega
theorem tupI_facts {ns : List Int} (h : ∀ n ∈ ns, n.natAbs < 10 ^ 9) (hl : ns.length ≤ 1000000) : (PyData.tuple (ns.map .int)).showable = true ∧ (PyData.tuple (ns.map .int)).hasDict = false ∧ (PyData.tuple (ns.map .int)).depth ≤ 40 ∧ (PyData.tuple (ns.map .int)).shown.length ≤ sizeLine := by
  refine ⟨?_, ?_, ?_, ?_⟩
  · rw [PyData.showable]
    exact ints_show ns h
  · rw [PyData.hasDict]
    exact ints_noDict ns
  · rw [PyData.depth, ints_depth]
    decide
  · rw [PyData.shown]
    have h1 := fmt_text (PyData.shownAll (ns.map .int))
    have h2 := ints_piled ns h
    have h3 : sizeLine = 2 ^ 24 := rfl
    omega
theorem tupI_shaped (ns : List Int) : SeqAt.shaped (PyData.tuple (ns.map .int)) = true := by
  unfold SeqAt.shaped
  rw [PyData.canLay0, ints_lay, PyData.depth, ints_depth]
  rfl
theorem tupI_eqv (ns : List Int) : PyData.eqv (PyData.tuple (ns.map .int)) (PyData.tuple (ns.map .int)) = true := PySem.SeqAt.eqv_refl _ (by rw [PyData.canLay0]; exact ints_lay ns)
theorem dp_ints {K : PySem.W.Frag} {H : Hp} : ∀ ns : List Int, DpAll K H (ns.map V.int) (ns.map .int)
  | [] => .nil
  | n :: r => .cons (.int n) (dp_ints r)
theorem dp_tupI {K : PySem.W.Frag} {H : Hp} {p : Addr} {ns : List Int} (h : SqT K H p (ns.map V.int)) : Dp K H (.ref p) (.tuple (ns.map .int)) := .tup h (dp_ints ns)
end Gd
namespace Pe
open PySem PySem.Spec PyProof.Rows L2 Evl Gd Ex
/-- drawn data, at most m deep in itself -/
def Good (m : Nat) (d : PyData) : Prop := d.showable = true ∧ d.depth ≤ m + 1 ∧ d.shown.length ≤ 60 + 10 * m
theorem Good.up {m n : Nat} {d : PyData} (h : Good m d) (e : m ≤ n) : Good n d := ⟨h.1, by have := h.2.1; omega, by have := h.2.2; omega⟩
theorem Good.shows {m : Nat} {d : PyData} {av : List Addr} {H : Hp} {x : V} (h : Good m d) (e : m ≤ 30) (q : Dq av H x d) : Shows av H x d := ⟨q, h.1, by have := h.2.1; omega, by have := h.2.2; rw [sizeLine_eq]; omega⟩
theorem good_non {m : Nat} : Good m .none := ⟨rfl, Nat.zero_le _, by show 4 ≤ _; omega⟩
theorem good_bl {m : Nat} (b : Bool) : Good m (.bool b) := ⟨rfl, Nat.zero_le _, by cases b <;> (first | (show 4 ≤ _; omega) | (show 5 ≤ _; omega))⟩
theorem good_int {m : Nat} {i : Int} (h : i.natAbs < 10 ^ 30) : Good m (.int i) := by
  refine ⟨?_, Nat.zero_le _, ?_⟩
  · rw [PyData.showable]
    refine decide_eq_true ?_
    by_cases z : i.natAbs = 0
    · rw [z]
      decide
    · exact Nat.lt_of_lt_of_le ((Nat.log2_lt z).mpr (Nat.lt_of_lt_of_le h (by decide : (10 : Nat) ^ 30 ≤ 2 ^ 100))) (by decide)
  · have e := int_text_length_le10 (a := i) (k := 30) (by decide) h
    rw [PyData.shown, PySem.ofString_length]
    omega
theorem good_str {m : Nat} {x : Str} (h : x.length ≤ 5) (c : ∀ c ∈ x.cps.toList, c < 16 ^ 8) : Good m (.str x) := by
  refine ⟨rfl, Nat.zero_le _, ?_⟩
  have e := PySem.StrLaws.reprText_len x c
  rw [PyData.shown]
  omega
theorem cps_small (s : String) : ∀ c ∈ (PySem.Str.ofString s).cps.toList, c < 16 ^ 8 := by
  intro c h
  rw [PySem.Str.ofString_eq_toList] at h
  simp at h
  obtain ⟨a, _, rfl⟩ := h
  exact a.val.toNat_lt
theorem good_nilL {m : Nat} : Good m (.list []) := ⟨rfl, by show 1 ≤ _; omega, by show 2 ≤ _; omega⟩
theorem good_nilT {m : Nat} : Good m (.tuple []) := ⟨rfl, by show 1 ≤ _; omega, by show 2 ≤ _; omega⟩
theorem good_nilD {m : Nat} : Good m (.dict []) := ⟨rfl, by show 1 ≤ _; omega, by show 2 ≤ _; omega⟩
theorem good_lst {m : Nat} {d : PyData} (h : Good m d) : Good (m + 1) (.list [d]) := by
  obtain ⟨h1, h2, h3⟩ := h
  refine ⟨?_, ?_, ?_⟩
  · simp [PyData.showable, PyData.showableAll, h1]
  · simp [PyData.depth, PyData.depthAll]
    omega
  · rw [PyData.shown, PyData.shownAll, PyData.shownAll]
    show (textFrom 1 (("[" : Str) ++ ("" : Str) ++ d.shown) [] ++ ("]" : Str)).length ≤ _
    show ((("[" : Str) ++ ("" : Str) ++ d.shown) ++ ("]" : Str)).length ≤ _
    rw [strLen_append, strLen_append, strLen_append]
    show 1 + 0 + d.shown.length + 1 ≤ _
    omega
theorem good_tup1 {m : Nat} {d : PyData} (h : Good m d) : Good (m + 1) (.tuple [d]) := by
  obtain ⟨h1, h2, h3⟩ := h
  refine ⟨?_, ?_, ?_⟩
  · simp [PyData.showable, PyData.showableAll, h1]
  · simp [PyData.depth, PyData.depthAll]
    omega
  · rw [PyData.shown, PyData.shownAll, PyData.shownAll]
    show ((("(" : Str) ++ d.shown) ++ (",)" : Str)).length ≤ _
    rw [strLen_append, strLen_append]
    show 1 + d.shown.length + 2 ≤ _
    omega
theorem good_tup2 {m : Nat} {d : PyData} (h : Good m d) : Good (m + 1) (.tuple [d, .int 1]) := by
  obtain ⟨h1, h2, h3⟩ := h
  refine ⟨?_, ?_, ?_⟩
  · simp [PyData.showable, PyData.showableAll, h1]
    decide
  · simp [PyData.depth, PyData.depthAll]
    omega
  · rw [PyData.shown, PyData.shownAll, PyData.shownAll, PyData.shownAll]
    show ((("(" : Str) ++ (d.shown ++ (", " : Str) ++ ("1" : Str))) ++ (")" : Str)).length ≤ _
    rw [strLen_append, strLen_append, strLen_append, strLen_append]
    show 1 + (d.shown.length + 2 + 1) + 1 ≤ _
    omega
theorem good_dict {m : Nat} {d : PyData} (h : Good m d) : Good (m + 1) (.dict [(.str "a", d)]) := by
  obtain ⟨h1, h2, h3⟩ := h
  refine ⟨?_, ?_, ?_⟩
  · simp [PyData.showable, PyData.showableKv, h1]
  · simp [PyData.depth, PyData.depthKv]
    omega
  · rw [PyData.shown, PyData.shownKv, PyData.shownKv]
    show ((("{" : Str) ++ (PyData.shown (.str "a") ++ (": " : Str) ++ d.shown)) ++ ("}" : Str)).length ≤ _
    rw [strLen_append, strLen_append, strLen_append, strLen_append]
    have e : (PyData.shown (.str "a")).length = 3 := by decide +kernel
    rw [e]
    show 1 + (3 + 2 + d.shown.length) + 1 ≤ _
    omega
end Pe
namespace Pe
open PySem PySem.Spec PyProof.Rows L2 Evl Gd Ex
/-- [..], whose address is no one's own -/
def tLstN (t : TA) : TE := fun σ H Q => t σ H fun xs H1 => xs.length ≤ sizeLine ∧ ∀ p, H1 p = none → p ≠ sysModules → Q (.ref p) (upd H1 p (.lst xs))
theorem pe_lstN {X : Cx} {es : List Expr} {t : TA} {pos : Pos} (h : PA X es t) : PE X (.List es pos) (tLstN t) := by
  constructor
  intro pins s σ H Q I want
  refine wpAny_List_spliced (thn (h.run pos pins s σ H _ I want) ?_)
  rintro us s1 ⟨xs, H1, I1, r, z, q⟩
  refine ⟨by rw [← r.length]; exact z, ?_⟩
  have n : H1 s1.heap.objs.size = none := I1.hok.fresh (Nat.le_refl _)
  exact ⟨.ref s1.heap.objs.size, _, I1.laid (t' := s1.toks) (a := s1.heap.objs.size) (o := .lst xs) (fun b u e => Heap.get?_push_of_some _ e) (Nat.le_refl _) ⟨z, us, 0, r, Heap.get?_push_size _ rfl⟩, rfl, q _ n (Nat.ne_of_gt I1.big)⟩
abbrev sDrawn : Stmt := topS 19
abbrev nDrawn : List Str := ["_law_pot", "_law_depth", "_law_some", "_law_inner"]
theorem scDrawn : FnScope nDrawn ["_law_pot", "_law_depth"] (defScope sDrawn) := ⟨rfl, rfl, rfl, by decide +kernel, rfl, by decide +kernel, by decide +kernel⟩
def spDrawn (m : Nat) : Sp := fun vs H Q _ => ∃ (d : Addr) (n : Int), vs = [.ref d, .int m] ∧ Pot H d n ∧ n ≤ 900000 - 10 * (m : Int) ∧
  ∀ H' x e, Off d H H' → Pot H' d (n + 4 * ((m : Int) + 1)) → Dq [d] H' x e → Good m e → Q x H'
/-- a drawn item, as it stands -/
def Item (m : Nat) (d : Addr) (H : Hp) (x : V) : Prop := ∃ e, Dq [d] H x e ∧ Good m e
theorem but_off {d : Addr} {H H' : Hp} (e : Off d H H') : But [d] H H' := fun b o n h => e b o (by simpa using n) h
theorem Item.off {m : Nat} {d : Addr} {H H' : Hp} {x : V} (h : Item m d H x) (e : Off d H H') : Item m d H' x := let ⟨y, a, b⟩ := h; ⟨y, Dq.keep (but_off e) a, b⟩
theorem off1 {d a : Addr} (h : a ≠ d) : a ∉ [d] := by simpa using h
section
variable {P : Program} {w : World} {K : PySem.W.Frag} {mg : Str → Option Value} {base : Heap}
theorem drawn_step {f fT fO : Addr} {fd fdT fdO : FuncData} (F : Fun K "_law_drawn" "_law_drawn" sDrawn f fd) (FT : Fun K "_law_take" "_law_take" sTake fT fdT) (FO : Fun K "_law_of" "_law_of" sOf fO fdO) (bF : Binds K fd ["_law_pot", "_law_depth"] []) (bT : Binds K fdT ["_law_pot", "_law_many"] []) (bO : Binds K fdO ["_law_pot", "_law_some"] [])
    (gF : mg "_law_drawn" = some (.ref f)) (gT : mg "_law_take" = some (.ref fT)) (gO : mg "_law_of" = some (.ref fO)) (mL : mg "len" = none) (mS : mg "str" = none) (m : Nat) (le : m ≤ 3) (spR : Sp) (R : FnOk P w K mg base CX0 (2 + m) f fd ["_law_pot", "_law_depth"] spR) (hR : ∀ j, m = j + 1 → spR = spDrawn j) :
    FnOk P w K mg base CX0 (2 + m + 1) f fd ["_law_pot", "_law_depth"] (spDrawn m) := by
  have GT : FnOk P w K mg base CX0 (2 + m) fT fdT ["_law_pot", "_law_many"] spTake := (ok_take FT).mono (by omega)
  have GO : FnOk P w K mg base CX0 (2 + m) fO fdO ["_law_pot", "_law_some"] spOf := (ok_of FO FT bT gT mL).mono (by omega)
  refine F.ok scDrawn (fun vs H Q E h => ?_) (fun cdv A outer s H vs Q E hr h => ?_)
  · obtain ⟨d, n, rfl, _⟩ := h
    rfl
  · obtain ⟨d, n, rfl, hP, hn, q⟩ := h
    refine ⟨_, pss_cons (ps_set (i := 2) scDrawn.nd rfl (.inl rfl) (pe_lst (pa_cons pe_non (pa_cons pe_bl (pa_cons pe_bl (pa_cons pe_int (pa_cons (pe_un un_neg pe_int) (pa_cons (pe_op op_pow pe_int pe_int) (pa_cons pe_str (pa_cons pe_str (pa_cons (pe_tup pa_nil) (pa_cons (pe_lstN pa_nil) (pa_cons pe_dnewK
        (pa_cons (pe_call GT hr (by rfl) gT FT.kp bT .nil pass0 (pa_cons (pv 0) (pa_cons pe_int pa_nil))) (pa_cons (pe_callTy call_str_int (by rfl) mS (by decide +kernel) (pa_cons (pe_call GT hr (by rfl) gT FT.kp bT .nil pass0 (pa_cons (pv 0) (pa_cons pe_int pa_nil))) pa_nil)) pa_nil)))))))))))))))
      (pss_cons (ps_if (pw_and (pt_cmpR op_gt (pv 1) pe_int (nomark _)) (pw_and1 (pt_cmpR op_eq (pe_call GT hr (by rfl) gT FT.kp bT .nil pass0 (pa_cons (pv 0) (pa_cons pe_int pa_nil))) pe_int (nomark _)))).pt
          (pss_cons (ps_set (i := 3) scDrawn.nd rfl (.inl rfl) (pe_call R hr (by rfl) gF F.kp bF .nil pass0 (pa_cons (pv 0) (pa_cons (pe_op op_sub (pv 1) pe_int) pa_nil))))
          (pss_one (ps_ret (pe_call GO hr (by rfl) gO FO.kp bO .nil pass0 (pa_cons (pv 0) (pa_cons (pe_lst (pa_cons (pe_tup (pa_cons (pv 3) pa_nil)) (pa_cons (pe_lstN (pa_cons (pv 3) pa_nil))
            (pa_cons (pe_disp (pps_cons pe_str (pv 3) pps_nil) rfl rfl (by decide) (by decide)) (pa_cons (pe_tup (pa_cons (pv 3) (pa_cons pe_int pa_nil))) pa_nil))))) pa_nil)))))) pss_nil)
      (pss_one (ps_ret (pe_call GO hr (by rfl) gO FO.kp bO .nil pass0 (pa_cons (pv 0) (pa_cons (pv 2) pa_nil)))))), ?_⟩
    refine ⟨1, rfl, 10, 29, rfl, rfl, ⟨by decide, by decide, by decide⟩, ?_⟩
    refine ⟨Nat.zero_le _, fun pt hpt => ?_⟩
    refine ⟨Nat.zero_le _, fun pl hpl nsy => ?_⟩
    refine fun pd hpd => ?_
    let h3 : Hp := upd (upd (upd H pt (.tup [])) pl (.lst [])) pd (.dK [])
    have e3 : Evl.Ex H h3 := ((Ex.new hpt).trans (Ex.new hpl)).trans (Ex.new hpd)
    have p3 : Pot h3 d n := hP.ex e3
    have dt : pt ≠ d := hP.ne hpt
    have dl : pl ≠ d := hP.ne (fresh_back (Ex.new hpt) hpl)
    have dd : pd ≠ d := hP.ne (fresh_back ((Ex.new hpt).trans (Ex.new hpl)) hpd)
    have at1 : h3 pt = some (.tup []) := (Ex.new hpd) _ _ ((Ex.new hpl) _ _ upd_same)
    have at2 : h3 pl = some (.lst []) := (Ex.new hpd) _ _ upd_same
    have at3 : h3 pd = some (.dK []) := upd_same
    refine rd_take (ev_var rfl) ev_c p3 (by omega) (by decide) (by decide) fun h4 r4 o4 p4 l4 u4 => ?_
    refine rd_take (ev_var rfl) ev_c p4 (by omega) (by decide) (by decide) fun h5 r5 o5 p5 l5 u5 => ?_
    have small : r5.natAbs < 10 ^ 3 := by omega
    refine ⟨r5, rfl, ?_, ?_⟩
    · have g := (good_int (m := 0) (i := r5) (by omega)).1
      simpa [PyData.showable] using g
    refine ⟨by show 13 ≤ sizeLine; decide, fun p hp => ?_⟩
    have e6 : Evl.Ex h5 (upd h5 p (.lst [.non, .bl true, .bl false, .int 0, .int (-1), .int (10 ^ (29 : Int).toNat), .str "", .str "row", .ref pt, .ref pl, .ref pd, .int r4, .str (toString r5)])) := Ex.new hp
    have o35 : Off d h3 h5 := o4.trans o5
    have items : ∀ x ∈ ([.non, .bl true, .bl false, .int 0, .int (-1), .int (10 ^ (29 : Int).toNat), .str "", .str "row", .ref pt, .ref pl, .ref pd, .int r4, .str (toString r5)] : List V), Item m d h5 x := by
      intro x hx
      simp only [List.mem_cons, List.not_mem_nil, or_false] at hx
      rcases hx with rfl | rfl | rfl | rfl | rfl | rfl | rfl | rfl | rfl | rfl | rfl | rfl | rfl
      · exact ⟨_, .non, good_non⟩
      · exact ⟨_, .bl _, good_bl _⟩
      · exact ⟨_, .bl _, good_bl _⟩
      · exact ⟨_, .int _, good_int (by decide)⟩
      · exact ⟨_, .int _, good_int (by decide)⟩
      · exact ⟨_, .int _, good_int (by decide)⟩
      · exact ⟨_, .str _, good_str (by decide) (by decide)⟩
      · exact ⟨_, .str _, good_str (by decide) (by decide)⟩
      · exact ⟨_, .tup (off1 dt) (o35 _ _ dt at1) .nil, good_nilT⟩
      · exact ⟨_, .lst nsy (off1 dl) (o35 _ _ dl at2) .nil, good_nilL⟩
      · exact ⟨_, .dnil (off1 dd) (o35 _ _ dd at3), good_nilD⟩
      · exact ⟨_, .int _, good_int (by omega)⟩
      · refine ⟨_, .str _, good_str ?_ ?_⟩
        · rw [PySem.ofString_length]
          have := int_text_length_le10 (a := r5) (k := 3) (by decide) small
          omega
        · exact cps_small _
    generalize hxs : ([.non, .bl true, .bl false, .int 0, .int (-1), .int (10 ^ (29 : Int).toNat), .str "", .str "row", .ref pt, .ref pl, .ref pd, .int r4, .str (toString r5)] : List V) = xs at items e6 ⊢
    have lx : xs.length = 13 := by rw [← hxs]; rfl
    generalize h6 : upd h5 p (.lst xs) = H6 at e6 ⊢
    have a6 : H6 p = some (.lst xs) := by rw [← h6]; exact upd_same
    have pot6 : Pot H6 d (n + 1 + 1) := p5.ex e6
    have dp : p ≠ d := p5.ne hp
    have off6 : Off d H H6 := ((Off.of e3).trans o35).trans (Off.of e6)
    clear_value h3
    dsimp only
    -- the end: one of the list
    have fin : ∀ H7 : Hp, Off d H6 H7 → Pot H7 d (n + 3) → tCall spOf [] E (tCons (tVar 0) (tCons (tVar 2) tNil)) ((L2.start nDrawn [V.ref d, .int m]).set 2 (some (.ref p))) H7 Q := fun H7 o7 p7 => by
      refine ⟨_, rfl, _, rfl, d, p, n + 3, xs, rfl, p7, by omega, dp, o7 _ _ dp a6, by omega, by omega, fun H8 x hx o8 p8 => ?_⟩
      obtain ⟨y, y1, y2⟩ := ((items x hx).off (Off.of e6)).off (o7.trans o8)
      exact q H8 x y ((off6.trans o7).trans o8) (p8.up (by omega)) y1 y2
    refine et_test (b := decide (0 < (m : Int))) (ev_op (ev_var rfl) ev_c rv_I0) H6 (Ex.refl H6) _ fun H7 e7 => ?_
    have off7 := off6.trans (Off.of e7)
    have pot7 := pot6.ex e7
    by_cases hm : 0 < (m : Int)
    · rw [if_pos (decide_eq_true hm)]
      refine rd_take (ev_var rfl) ev_c pot7 (by omega) (by decide) (by decide) fun H8 r8 o8 p8 l8 u8 => ?_
      refine ⟨rfl, _, rfl, ?_⟩
      dsimp only
      have fin8 := fin H8 ((Off.of e7).trans o8) (p8.up (by omega))
      split
      · obtain ⟨j, rfl⟩ : ∃ j, m = j + 1 := ⟨m - 1, by omega⟩
        have eR := hR j rfl
        subst eR
        refine ⟨_, rfl, _, rfl, _, _, rfl, rfl, ?_⟩
        refine ⟨d, n + 1 + 1 + 1, ?_, p8, by omega, fun H9 x y o9 p9 y1 y2 => ?_⟩
        · show [V.ref d, V.int (((j + 1 : Nat) : Int) - 1)] = [V.ref d, V.int (j : Int)]
          rw [show ((j + 1 : Nat) : Int) - 1 = (j : Int) by omega]
        dsimp only [gName]
        have off9 : Off d H H9 := ((off7.trans o8).trans o9)
        refine ⟨_, rfl, ?_⟩
        refine ⟨_, rfl, by show 1 ≤ sizeLine; decide, fun q1 hq1 => ?_⟩
        refine ⟨_, rfl, by show 1 ≤ sizeLine; decide, fun q2 hq2 ns2 => ?_⟩
        refine fun q3 hq3 => ?_
        refine ⟨_, rfl, upd_same, [(.inr "a", x)], rfl, by show 1 ≤ 15; decide, ?_⟩
        refine ⟨_, rfl, by show 2 ≤ sizeLine; decide, fun q4 hq4 => ?_⟩
        refine ⟨by show 4 ≤ sizeLine; decide, fun q5 hq5 => ?_⟩
        have g1 : Evl.Ex H9 (upd H9 q1 (.tup [x])) := Ex.new hq1
        have g2 : Evl.Ex H9 (upd (upd H9 q1 (.tup [x])) q2 (.lst [x])) := g1.trans (Ex.new hq2)
        have n3 : H9 q3 = none := fresh_back g2 hq3
        have g3 := (g2.trans (Ex.new (o := .dK []) hq3)).mut (o := .dK (mergeK [] [(.inr "a", x)])) n3
        have g4 := g3.trans (Ex.new (o := .tup [x, .int 1]) hq4)
        have g5 := g4.trans (Ex.new (o := .lst [.ref q1, .ref q2, .ref q3, .ref q4]) hq5)
        have n1 := p9.ne hq1
        have n2 := p9.ne (fresh_back g1 hq2)
        have n3' := p9.ne n3
        have n4 := p9.ne (fresh_back g3 hq4)
        have n5 := p9.ne (fresh_back g4 hq5)
        have b1 : (upd (upd H9 q1 (.tup [x])) q2 (.lst [x])) q1 = some (.tup [x]) := (Ex.new hq2) _ _ upd_same
        have b2 : (upd (upd H9 q1 (.tup [x])) q2 (.lst [x])) q2 = some (.lst [x]) := upd_same
        generalize upd (upd H9 q1 (.tup [x])) q2 (.lst [x]) = G2 at g2 g3 g4 g5 hq3 hq4 hq5 b1 b2 ⊢
        have m3 : Evl.Ex G2 (upd (upd G2 q3 (.dK [])) q3 (.dK (mergeK [] [(.inr "a", x)]))) := (Ex.new (o := .dK []) hq3).mut hq3
        have c1 := m3 _ _ b1
        have c2 := m3 _ _ b2
        have c3 : (upd (upd G2 q3 (.dK [])) q3 (.dK (mergeK [] [(.inr "a", x)]))) q3 = some (.dK [(.inr "a", x)]) := upd_same
        generalize upd (upd G2 q3 (.dK [])) q3 (.dK (mergeK [] [(.inr "a", x)])) = G3 at g3 g4 g5 hq4 hq5 c1 c2 c3 ⊢
        have z4 : Evl.Ex G3 (upd (upd G3 q4 (.tup [x, .int 1])) q5 (.lst [.ref q1, .ref q2, .ref q3, .ref q4])) := (Ex.new hq4).trans (Ex.new hq5)
        have d1 := z4 _ _ c1
        have d2 := z4 _ _ c2
        have d3 := z4 _ _ c3
        have d4 : (upd (upd G3 q4 (.tup [x, .int 1])) q5 (.lst [.ref q1, .ref q2, .ref q3, .ref q4])) q4 = some (.tup [x, .int 1]) := (Ex.new hq5) _ _ upd_same
        have d5 : (upd (upd G3 q4 (.tup [x, .int 1])) q5 (.lst [.ref q1, .ref q2, .ref q3, .ref q4])) q5 = some (.lst [.ref q1, .ref q2, .ref q3, .ref q4]) := upd_same
        generalize upd (upd G3 q4 (.tup [x, .int 1])) q5 (.lst [.ref q1, .ref q2, .ref q3, .ref q4]) = G5 at g5 d1 d2 d3 d4 d5 ⊢
        have y5 := Dq.keep (but_off (Off.of g5)) y1
        have its : ∀ v ∈ ([.ref q1, .ref q2, .ref q3, .ref q4] : List V), Item (j + 1) d G5 v := by
          intro v hv
          simp only [List.mem_cons, List.not_mem_nil, or_false] at hv
          rcases hv with rfl | rfl | rfl | rfl
          · exact ⟨_, .tup (off1 n1) d1 (.cons y5 .nil), good_tup1 y2⟩
          · exact ⟨_, .lst ns2 (off1 n2) d2 (.cons y5 .nil), good_lst y2⟩
          · exact ⟨_, .done (off1 n3') d3 y5, good_dict y2⟩
          · exact ⟨_, .tup (off1 n4) d4 (.cons y5 (.cons (.int 1) .nil)), good_tup2 y2⟩
        refine ⟨d, q5, _, _, rfl, p9.ex g5, by omega, n5, d5, by show 0 < 4; decide, by show 4 ≤ 1000; decide, fun H' v hv o p => ?_⟩
        obtain ⟨e, w1, w2⟩ := (its v hv).off o
        exact q H' v e ((off9.trans (Off.of g5)).trans o) (p.up (by omega)) w1 w2
      · exact fin8
    · rw [if_neg (by simpa using hm)]
      exact fin H7 (Off.of e7) (pot7.up (by omega))
theorem ok_drawn {f fT fO : Addr} {fd fdT fdO : FuncData} (F : Fun K "_law_drawn" "_law_drawn" sDrawn f fd) (FT : Fun K "_law_take" "_law_take" sTake fT fdT) (FO : Fun K "_law_of" "_law_of" sOf fO fdO) (bF : Binds K fd ["_law_pot", "_law_depth"] []) (bT : Binds K fdT ["_law_pot", "_law_many"] []) (bO : Binds K fdO ["_law_pot", "_law_some"] [])
    (gF : mg "_law_drawn" = some (.ref f)) (gT : mg "_law_take" = some (.ref fT)) (gO : mg "_law_of" = some (.ref fO)) (mL : mg "len" = none) (mS : mg "str" = none) : ∀ m : Nat, m ≤ 3 → FnOk P w K mg base CX0 (2 + m + 1) f fd ["_law_pot", "_law_depth"] (spDrawn m)
  | 0, le => drawn_step F FT FO bF bT bO gF gT gO mL mS 0 le (fun _ _ _ _ => False) ⟨fun _ _ _ _ h => h.elim, fun _ _ _ _ _ _ _ _ _ _ _ _ _ h => h.elim⟩ (fun j e => absurd e (by omega))
  | m + 1, le => drawn_step F FT FO bF bT bO gF gT gO mL mS (m + 1) le (spDrawn m) (ok_drawn F FT FO bF bT bO gF gT gO mL mS m (by omega)) (fun j e => by cases e; rfl)
end
end Pe
namespace Pe
open PySem PySem.Spec PyProof.Rows L2 Evl Gd Ex
theorem call_str_bl {X : Cx} : CallR X (.type "str") (fun xs H Q => ∃ b, xs = [.bl b] ∧ Q (.str (if b then "True" else "False")) H) := by
  rintro pins s σ H xs us Q I r ⟨b, rfl, q⟩
  obtain ⟨u, rfl, rv⟩ := vals1 r
  cases (show u = Value.bool b from rv)
  exact PySem.P.str_of_bool ⟨.str (if b then "True" else "False"), H, I.tok _, ⟨_, rfl⟩, q⟩
def tyName : PyData → String
  | .none => "NoneType"
  | .bool _ => "bool"
  | .int _ => "int"
  | .str _ => "str"
  | .list _ => "list"
  | .tuple _ => "tuple"
  | .dict _ => "dict"
def isB : PyData → Bool
  | .bool _ => true
  | _ => false
theorem ty_dq {K : PySem.W.Frag} {av : List Addr} {H : Hp} {x : V} {d : PyData} (h : Dq av H x d) : TyX K H x (.type (tyName d)) := by
  cases h with
  | non => exact .base .non
  | bl b => exact .base (.bl b)
  | int i => exact .base (.int i)
  | str x => exact .base (.str x)
  | lst _ _ e _ => exact .base (.lst e)
  | tup _ e _ => exact .base (.tup e)
  | dnil _ e => exact .base (.dK e)
  | done _ e _ => exact .base (.dK e)
theorem kit_dq (d : PyData) : kitB (tyName d) "bool" = some (isB d) := by
  cases d with
  | none => exact (by decide +kernel : kitB "NoneType" "bool" = some false)
  | bool _ => exact (by decide +kernel : kitB "bool" "bool" = some true)
  | int _ => exact (by decide +kernel : kitB "int" "bool" = some false)
  | str _ => exact (by decide +kernel : kitB "str" "bool" = some false)
  | list _ => exact (by decide +kernel : kitB "list" "bool" = some false)
  | tuple _ => exact (by decide +kernel : kitB "tuple" "bool" = some false)
  | dict _ => exact (by decide +kernel : kitB "dict" "bool" = some false)
def tell (d : PyData) : Str := d.shown ++ (if isB d then ("True" : Str) else ("False" : Str))
abbrev sShown : Stmt := topS 20
theorem scShown : FnScope ["_law_thing"] ["_law_thing"] (defScope sShown) := ⟨rfl, rfl, rfl, by decide +kernel, rfl, by decide +kernel, by decide +kernel⟩
def spShown : Sp := fun vs H Q _ => ∃ (av : List Addr) (x : V) (d : PyData), vs = [x] ∧ Shows av H x d ∧ d.shown.length ≤ 100000 ∧ Q (.str (tell d)) H
section
variable {P : Program} {w : World} {K : PySem.W.Frag} {mg : Str → Option Value} {base : Heap}
theorem ok_shown {f : Addr} {fd : FuncData} (F : Fun K "_law_shown" "_law_shown" sShown f fd) (mR : mg "repr" = none) (mS : mg "str" = none) (mI : mg "isinstance" = none) (mB : mg "bool" = none) : FnG P w K mg base CX0 1 f fd ["_law_thing"] spShown := by
  refine fng0_of F scShown (fun vs H Q E h => ?_) (fun cdv A outer s H vs Q E hr gd h => ?_)
  · obtain ⟨av, x, d, rfl, _⟩ := h
    rfl
  · obtain ⟨av, x, d, rfl, hS, hz, q⟩ := h
    refine ⟨_, pss_one (ps_ret (pe_op op_add_str (pe_callB (call_reprQ gd hr.units) (by rfl) mR boot_repr (pa_cons (pv 0) pa_nil)) (pe_callTy call_str_bl (by rfl) mS (by decide +kernel) (pa_cons (pe_callB call_isi (by rfl) mI (by decide +kernel) (pa_cons (pv 0) (pa_cons (pe_bltn (v := .ty "bool") (u := .type "bool") (by rfl) mB (by decide +kernel) rfl) pa_nil))) pa_nil)))), ?_⟩
    refine ⟨_, rfl, av, x, d, rfl, hS, ?_⟩
    refine ⟨_, rfl, x, .ty "bool", _, _, isB d, rfl, .ty "bool", ty_dq hS.1, kit_ty (kit_dq d), ?_⟩
    refine ⟨_, rfl, _, _, rfl, rfl, ?_, ?_⟩
    · rw [sizeLine_eq]
      have : (if isB d then ("True" : Str) else ("False" : Str)).length ≤ 5 := by cases isB d <;> decide
      omega
    · exact q
end
end Pe
namespace Pe
open PySem PySem.Spec PyProof.Rows L2 Evl Gd Ex
theorem Held.ex {H H' : Hp} {a C : Addr} (e : Evl.Ex H H') (h : Held H a C) : Held H' a C := by
  rcases h with h | ⟨dd, fs, h1, h2⟩
  · exact .inl (e _ _ h)
  · exact .inr ⟨dd, fs, e _ _ h1, e _ _ h2⟩
theorem rd_isi {K : PySem.W.Frag} {σ : L2.St} {H : Hp} {Q : VK} {i : Nat} {a C : Addr} {c : V} {u : Value} {b : Bool} (at_ : σ[i]? = some (some (.ref a))) (h : Held H a C) (x : ExcC K C) (cl : ClsV c u) (k : PySem.W.kitOne K (.ref C) u = some b) (q : Q (.bl b) H) :
    tCB (rIsiE K) (tCons (tVar i) (tCons (tC c) tNil)) σ H Q := ⟨_, at_, a, C, c, u, b, rfl, cl, h, x, k, q⟩
abbrev sKinds : Stmt := topS 21
abbrev sSingle : Stmt := topS 22
abbrev nKinds : List Str := ["_law_error", "_law_kinds_here"]
abbrev nSingle : List Str := ["_law_error", "_law_spot", "_law_kinds_here", "_law_at"]
theorem scKinds : FnScope nKinds ["_law_error"] (defScope sKinds) := ⟨rfl, rfl, rfl, by decide +kernel, rfl, by decide +kernel, by decide +kernel⟩
theorem scSingle : FnScope nSingle ["_law_error", "_law_spot"] (defScope sSingle) := ⟨rfl, rfl, rfl, by decide +kernel, rfl, by decide +kernel, by decide +kernel⟩
/-- what the exceptions of the class at C say of the classes cs -/
abbrev Says (K : PySem.W.Frag) (C : Addr) : List Addr → List Bool → Prop := Paired fun c b => PySem.W.kitOne K (.ref C) (.ref c) = some b
def spKinds (K : PySem.W.Frag) (cs : List Addr) : Sp := fun vs H Q _ => ∃ (a C : Addr) (bs : List Bool), vs = [.ref a] ∧ Held H a C ∧ ExcC K C ∧ Says K C cs bs ∧
  ∀ H' p, Evl.Ex H H' → H p = none → H' p = some (.lst (bs.map V.bl)) → Q (.ref p) H'
section
variable {P : Program} {w : World} {K : PySem.W.Frag} {mg : Str → Option Value} {base : Heap}
theorem ok_kinds {f : Addr} {fd : FuncData} {c0 c1 c2 c3 c4 c5 c6 c7 c8 c9 c10 c11 c12 : Addr} (F : Fun K "_law_kinds" "_law_kinds" sKinds f fd) (mI : mg "isinstance" = none) (g0 : mg "BadRow" = some (.ref c0)) (g1 : mg "BadBlock" = some (.ref c1)) (g2 : mg "Twice" = some (.ref c2)) (g3 : mg "NoProcedure" = some (.ref c3)) (g4 : mg "WrongCount" = some (.ref c4)) (g5 : mg "BadPolicy" = some (.ref c5)) (g6 : mg "Fault" = some (.ref c6)) (g7 : mg "NoObject" = some (.ref c7)) (g8 : mg "NoLink" = some (.ref c8)) (g9 : mg "TooMany" = some (.ref c9)) (g10 : mg "BadText" = some (.ref c10)) (g11 : mg "NoMark" = some (.ref c11)) (g12 : mg "BadLine" = some (.ref c12)) :
    FnOk P w K mg base CX0 1 f fd ["_law_error"] (spKinds K [c0, c1, c2, c3, c4, c5, c6, c7, c8, c9, c10, c11, c12]) := by
  refine F.ok scKinds (fun vs H Q E h => ?_) (fun cdv A outer s H vs Q E hr h => ?_)
  · obtain ⟨a, C, bs, rfl, _⟩ := h
    rfl
  · obtain ⟨a, C, bs, rfl, hd, hx, hs, q⟩ := h
    refine ⟨_, pss_cons (ps_set (i := 1) scKinds.nd rfl (.inl rfl) (pe_lst (pa_cons (pe_callB call_isiE (by rfl) mI (by decide +kernel) (pa_cons (pv 0) (pa_cons (pe_glob (v := .ref c0) (by rfl) g0 rfl) pa_nil))) (pa_cons (pe_callB call_isiE (by rfl) mI (by decide +kernel) (pa_cons (pv 0) (pa_cons (pe_glob (v := .ref c1) (by rfl) g1 rfl) pa_nil))) (pa_cons (pe_callB call_isiE (by rfl) mI (by decide +kernel) (pa_cons (pv 0) (pa_cons (pe_glob (v := .ref c2) (by rfl) g2 rfl) pa_nil))) pa_nil)))))
      (pss_cons (ps_set (i := 1) scKinds.nd rfl (.inl rfl) (pe_op op_cat (pv 1) (pe_lst (pa_cons (pe_callB call_isiE (by rfl) mI (by decide +kernel) (pa_cons (pv 0) (pa_cons (pe_glob (v := .ref c3) (by rfl) g3 rfl) pa_nil))) (pa_cons (pe_callB call_isiE (by rfl) mI (by decide +kernel) (pa_cons (pv 0) (pa_cons (pe_glob (v := .ref c4) (by rfl) g4 rfl) pa_nil))) (pa_cons (pe_callB call_isiE (by rfl) mI (by decide +kernel) (pa_cons (pv 0) (pa_cons (pe_glob (v := .ref c5) (by rfl) g5 rfl) pa_nil))) pa_nil))))))
      (pss_cons (ps_set (i := 1) scKinds.nd rfl (.inl rfl) (pe_op op_cat (pv 1) (pe_lst (pa_cons (pe_callB call_isiE (by rfl) mI (by decide +kernel) (pa_cons (pv 0) (pa_cons (pe_glob (v := .ref c6) (by rfl) g6 rfl) pa_nil))) (pa_cons (pe_callB call_isiE (by rfl) mI (by decide +kernel) (pa_cons (pv 0) (pa_cons (pe_glob (v := .ref c7) (by rfl) g7 rfl) pa_nil))) (pa_cons (pe_callB call_isiE (by rfl) mI (by decide +kernel) (pa_cons (pv 0) (pa_cons (pe_glob (v := .ref c8) (by rfl) g8 rfl) pa_nil))) pa_nil))))))
      (pss_cons (ps_set (i := 1) scKinds.nd rfl (.inl rfl) (pe_op op_cat (pv 1) (pe_lst (pa_cons (pe_callB call_isiE (by rfl) mI (by decide +kernel) (pa_cons (pv 0) (pa_cons (pe_glob (v := .ref c9) (by rfl) g9 rfl) pa_nil))) (pa_cons (pe_callB call_isiE (by rfl) mI (by decide +kernel) (pa_cons (pv 0) (pa_cons (pe_glob (v := .ref c10) (by rfl) g10 rfl) pa_nil))) (pa_cons (pe_callB call_isiE (by rfl) mI (by decide +kernel) (pa_cons (pv 0) (pa_cons (pe_glob (v := .ref c11) (by rfl) g11 rfl) pa_nil))) pa_nil))))))
      (pss_one (ps_ret (pe_op op_cat (pv 1) (pe_lst (pa_cons (pe_callB call_isiE (by rfl) mI (by decide +kernel) (pa_cons (pv 0) (pa_cons (pe_glob (v := .ref c12) (by rfl) g12 rfl) pa_nil))) pa_nil)))))))), ?_⟩
    cases hs with | @cons _ b0 _ _ k0 t0 =>
    cases t0 with | @cons _ b1 _ _ k1 t1 =>
    cases t1 with | @cons _ b2 _ _ k2 t2 =>
    cases t2 with | @cons _ b3 _ _ k3 t3 =>
    cases t3 with | @cons _ b4 _ _ k4 t4 =>
    cases t4 with | @cons _ b5 _ _ k5 t5 =>
    cases t5 with | @cons _ b6 _ _ k6 t6 =>
    cases t6 with | @cons _ b7 _ _ k7 t7 =>
    cases t7 with | @cons _ b8 _ _ k8 t8 =>
    cases t8 with | @cons _ b9 _ _ k9 t9 =>
    cases t9 with | @cons _ b10 _ _ k10 t10 =>
    cases t10 with | @cons _ b11 _ _ k11 t11 =>
    cases t11 with | @cons _ b12 _ _ k12 t12 =>
    cases t12
    refine rd_isi rfl hd hx (.own _) k0 ?_
    refine rd_isi rfl hd hx (.own _) k1 ?_
    refine rd_isi rfl hd hx (.own _) k2 ?_
    refine ⟨by show 3 ≤ sizeLine; decide, fun p1 n1 => ?_⟩
    have e1 : Evl.Ex H (upd H p1 (.lst [.bl b0, .bl b1, .bl b2])) := Ex.new n1
    have a1 : (upd H p1 (.lst [.bl b0, .bl b1, .bl b2])) p1 = some (.lst [.bl b0, .bl b1, .bl b2]) := upd_same
    generalize upd H p1 (.lst [.bl b0, .bl b1, .bl b2]) = H1 at e1 a1 ⊢
    have h1 := Held.ex e1 hd
    dsimp only
    refine ⟨_, rfl, ?_⟩
    refine rd_isi rfl h1 hx (.own _) k3 ?_
    refine rd_isi rfl h1 hx (.own _) k4 ?_
    refine rd_isi rfl h1 hx (.own _) k5 ?_
    refine ⟨by show 3 ≤ sizeLine; decide, fun q2 m2 => ?_⟩
    have x2 : Evl.Ex H1 (upd H1 q2 (.lst [.bl b3, .bl b4, .bl b5])) := Ex.new m2
    refine ⟨p1, q2, [.bl b0, .bl b1, .bl b2], [.bl b3, .bl b4, .bl b5], rfl, rfl, x2 _ _ a1, upd_same, by show 6 ≤ sizeLine; decide, fun p2 n2 => ?_⟩
    have e2 : Evl.Ex H (upd (upd H1 q2 (.lst [.bl b3, .bl b4, .bl b5])) p2 (.lst ([.bl b0, .bl b1, .bl b2] ++ [.bl b3, .bl b4, .bl b5]))) := (e1.trans x2).trans (Ex.new n2)
    have a2 : (upd (upd H1 q2 (.lst [.bl b3, .bl b4, .bl b5])) p2 (.lst ([.bl b0, .bl b1, .bl b2] ++ [.bl b3, .bl b4, .bl b5]))) p2 = some (.lst [.bl b0, .bl b1, .bl b2, .bl b3, .bl b4, .bl b5]) := upd_same
    generalize upd (upd H1 q2 (.lst [.bl b3, .bl b4, .bl b5])) p2 (.lst ([.bl b0, .bl b1, .bl b2] ++ [.bl b3, .bl b4, .bl b5])) = H2 at e2 a2 ⊢
    have h2 := Held.ex e2 hd
    dsimp only
    refine ⟨_, rfl, ?_⟩
    refine rd_isi rfl h2 hx (.own _) k6 ?_
    refine rd_isi rfl h2 hx (.own _) k7 ?_
    refine rd_isi rfl h2 hx (.own _) k8 ?_
    refine ⟨by show 3 ≤ sizeLine; decide, fun q3 m3 => ?_⟩
    have x3 : Evl.Ex H2 (upd H2 q3 (.lst [.bl b6, .bl b7, .bl b8])) := Ex.new m3
    refine ⟨p2, q3, [.bl b0, .bl b1, .bl b2, .bl b3, .bl b4, .bl b5], [.bl b6, .bl b7, .bl b8], rfl, rfl, x3 _ _ a2, upd_same, by show 9 ≤ sizeLine; decide, fun p3 n3 => ?_⟩
    have e3 : Evl.Ex H (upd (upd H2 q3 (.lst [.bl b6, .bl b7, .bl b8])) p3 (.lst ([.bl b0, .bl b1, .bl b2, .bl b3, .bl b4, .bl b5] ++ [.bl b6, .bl b7, .bl b8]))) := (e2.trans x3).trans (Ex.new n3)
    have a3 : (upd (upd H2 q3 (.lst [.bl b6, .bl b7, .bl b8])) p3 (.lst ([.bl b0, .bl b1, .bl b2, .bl b3, .bl b4, .bl b5] ++ [.bl b6, .bl b7, .bl b8]))) p3 = some (.lst [.bl b0, .bl b1, .bl b2, .bl b3, .bl b4, .bl b5, .bl b6, .bl b7, .bl b8]) := upd_same
    generalize upd (upd H2 q3 (.lst [.bl b6, .bl b7, .bl b8])) p3 (.lst ([.bl b0, .bl b1, .bl b2, .bl b3, .bl b4, .bl b5] ++ [.bl b6, .bl b7, .bl b8])) = H3 at e3 a3 ⊢
    have h3 := Held.ex e3 hd
    dsimp only
    refine ⟨_, rfl, ?_⟩
    refine rd_isi rfl h3 hx (.own _) k9 ?_
    refine rd_isi rfl h3 hx (.own _) k10 ?_
    refine rd_isi rfl h3 hx (.own _) k11 ?_
    refine ⟨by show 3 ≤ sizeLine; decide, fun q4 m4 => ?_⟩
    have x4 : Evl.Ex H3 (upd H3 q4 (.lst [.bl b9, .bl b10, .bl b11])) := Ex.new m4
    refine ⟨p3, q4, [.bl b0, .bl b1, .bl b2, .bl b3, .bl b4, .bl b5, .bl b6, .bl b7, .bl b8], [.bl b9, .bl b10, .bl b11], rfl, rfl, x4 _ _ a3, upd_same, by show 12 ≤ sizeLine; decide, fun p4 n4 => ?_⟩
    have e4 : Evl.Ex H (upd (upd H3 q4 (.lst [.bl b9, .bl b10, .bl b11])) p4 (.lst ([.bl b0, .bl b1, .bl b2, .bl b3, .bl b4, .bl b5, .bl b6, .bl b7, .bl b8] ++ [.bl b9, .bl b10, .bl b11]))) := (e3.trans x4).trans (Ex.new n4)
    have a4 : (upd (upd H3 q4 (.lst [.bl b9, .bl b10, .bl b11])) p4 (.lst ([.bl b0, .bl b1, .bl b2, .bl b3, .bl b4, .bl b5, .bl b6, .bl b7, .bl b8] ++ [.bl b9, .bl b10, .bl b11]))) p4 = some (.lst [.bl b0, .bl b1, .bl b2, .bl b3, .bl b4, .bl b5, .bl b6, .bl b7, .bl b8, .bl b9, .bl b10, .bl b11]) := upd_same
    generalize upd (upd H3 q4 (.lst [.bl b9, .bl b10, .bl b11])) p4 (.lst ([.bl b0, .bl b1, .bl b2, .bl b3, .bl b4, .bl b5, .bl b6, .bl b7, .bl b8] ++ [.bl b9, .bl b10, .bl b11])) = H4 at e4 a4 ⊢
    have h4 := Held.ex e4 hd
    dsimp only
    refine ⟨_, rfl, ?_⟩
    refine rd_isi rfl h4 hx (.own _) k12 ?_
    refine ⟨by show 1 ≤ sizeLine; decide, fun q5 m5 => ?_⟩
    have x5 : Evl.Ex H4 (upd H4 q5 (.lst [.bl b12])) := Ex.new m5
    refine ⟨p4, q5, [.bl b0, .bl b1, .bl b2, .bl b3, .bl b4, .bl b5, .bl b6, .bl b7, .bl b8, .bl b9, .bl b10, .bl b11], [.bl b12], rfl, rfl, x5 _ _ a4, upd_same, by show 13 ≤ sizeLine; decide, fun p5 n5 => ?_⟩
    have e5 : Evl.Ex H (upd (upd H4 q5 (.lst [.bl b12])) p5 (.lst ([.bl b0, .bl b1, .bl b2, .bl b3, .bl b4, .bl b5, .bl b6, .bl b7, .bl b8, .bl b9, .bl b10, .bl b11] ++ [.bl b12]))) := (e4.trans x5).trans (Ex.new n5)
    have a5 : (upd (upd H4 q5 (.lst [.bl b12])) p5 (.lst ([.bl b0, .bl b1, .bl b2, .bl b3, .bl b4, .bl b5, .bl b6, .bl b7, .bl b8, .bl b9, .bl b10, .bl b11] ++ [.bl b12]))) p5 = some (.lst [.bl b0, .bl b1, .bl b2, .bl b3, .bl b4, .bl b5, .bl b6, .bl b7, .bl b8, .bl b9, .bl b10, .bl b11, .bl b12]) := upd_same
    exact q _ p5 e5 (fresh_back (e4.trans x5) n5) a5
end
end Pe
namespace Pe
open PySem PySem.Spec PyProof.Rows L2 Evl Gd Ex
/-- where bs says yes, among the first n -/
def yes (bs : List Bool) (n : Nat) : List Int := ((List.range n).filter fun i => bs.getD i false).map fun i : Nat => (i : Int)
theorem yes_succ (bs : List Bool) (n : Nat) : yes bs (n + 1) = yes bs n ++ (if bs.getD n false = true then [(n : Int)] else []) := by
  unfold yes
  rw [List.range_succ, List.filter_append, List.map_append]
  congr 1
  by_cases h : bs.getD n false = true
  · rw [if_pos h]
    simp only [List.filter_cons, List.filter_nil, h, if_true, List.map_cons, List.map_nil]
  · rw [if_neg h]
    simp only [List.filter_cons, List.filter_nil, if_neg h, List.map_nil]
theorem yes_len (bs : List Bool) (n : Nat) : (yes bs n).length ≤ n := by
  unfold yes
  rw [List.length_map]
  have := List.length_filter_le (fun i => bs.getD i false) (List.range n)
  rw [List.length_range] at this
  exact this
theorem el_yes {K : PySem.W.Frag} {σ : L2.St} {H : Hp} {p : Addr} {bs : List Bool} {n : Nat} {ta : TA} {i j : Nat} {vs : List Nat} (hn : EvA ta σ H [.int (n : Int)]) (n0 : n ≤ 1000) (hp : H p = some (.lst (bs.map V.bl))) (le : n ≤ bs.length)
    (si : ∀ x, ((wipe σ vs).set j (some x))[i]? = some (some (.ref p))) (sj : ∀ x, ((wipe σ vs).set j (some x))[j]? = some (some x)) (hw : ∀ x, wipe ((wipe σ vs).set j (some x)) vs = wipe σ vs) :
    EvL (tLc (iRng1 ta) (gName j) (tB (tOp (rIxL K) (tVar i) (tVar j))) (tVar j) vs) σ H ((yes bs n).map V.int) := by
  intro H0 e Q q
  refine hn H0 e _ fun H1 e1 => ?_
  refine ⟨n, rfl, by omega, by omega, fun D hD => ?_⟩
  rw [Int.toNat_natCast]
  refine lc_range (lo := 0) (n := n) (fun m H' => Evl.Ex H1 H' ∧ H' D = some (.lst ((yes bs m).map V.int))) ⟨Ex.new hD, (upd_same : upd H1 D (.lst []) D = some (.lst []))⟩ ?_ ?_
  · intro m H' hm pr
    rw [Int.zero_add]
    refine ⟨hw _, ?_⟩
    have at_ : (bs.map V.bl)[m]? = some (.bl (bs.getD m false)) := by
      rw [List.getElem?_map, List.getD_eq_getElem?_getD, List.getElem?_eq_getElem (show m < bs.length by omega)]
      rfl
    have hp' := (e.trans (e1.trans pr.1)) _ _ hp
    refine ⟨_, si _, _, sj _, p, _, (m : Int), _, rfl, rfl, sq_of hp', atI_nat at_, _, rfl, ?_⟩
    dsimp only
    rw [yes_succ] 
    by_cases h : bs.getD m false = true
    · rw [if_pos h, if_pos h]
      refine ⟨_, sj _, _, pr.2, sz_lt (by rw [List.length_map]; have := yes_len bs m; omega), Ex.mut pr.1 hD, ?_⟩
      rw [upd_same, List.map_append]
      rfl
    · rw [if_neg h, if_neg h, List.append_nil]
      exact pr
  · intro H' pr
    exact q D H' (fresh_back e1 hD) (e1.trans pr.1) pr.2
theorem lstI_shaped (ns : List Int) : SeqAt.shaped (PyData.list (ns.map .int)) = true := by
  unfold SeqAt.shaped
  rw [PyData.canLay0, ints_lay, PyData.depth, ints_depth]
  rfl
theorem lstI_eqv (ns : List Int) : PyData.eqv (PyData.list (ns.map .int)) (PyData.list (ns.map .int)) = true := PySem.SeqAt.eqv_refl _ (by rw [PyData.canLay0]; exact ints_lay ns)
/-- an exception at a of a class at C that says bs of the classes, and is a HeapError and a ValueError -/
structure Kin (K : PySem.W.Frag) (cs : List Addr) (hE : Addr) (H : Hp) (a C : Addr) (bs : List Bool) : Prop where
  held : Held H a C
  exc : ExcC K C
  says : Says K C cs bs
  heap : PySem.W.kitOne K (.ref C) (.ref hE) = some true
  val : PySem.W.kitOne K (.ref C) (.type "ValueError") = some true
theorem Kin.ex {K : PySem.W.Frag} {cs : List Addr} {hE : Addr} {H H' : Hp} {a C : Addr} {bs : List Bool} (e : Evl.Ex H H') (k : Kin K cs hE H a C bs) : Kin K cs hE H' a C bs := ⟨Held.ex e k.held, k.exc, k.says, k.heap, k.val⟩
def spSingle (K : PySem.W.Frag) (cs : List Addr) (hE : Addr) : Sp := fun vs H Q _ => ∃ (a l C : Addr) (bs : List Bool), vs = [.ref a, .ref l] ∧ Kin K cs hE H a C bs ∧ H l = some (.lst ((yes bs 13).map V.int)) ∧ ∀ H', Evl.Ex H H' → Q (.bl true) H'
section
variable {P : Program} {w : World} {K : PySem.W.Frag} {mg : Str → Option Value} {base : Heap}
theorem ok_single {f fK hE : Addr} {fd fdK : FuncData} {cs : List Addr} (n13 : cs.length = 13) (F : Fun K "_law_is_single" "_law_is_single" sSingle f fd) (FK : Fun K "_law_kinds" "_law_kinds" sKinds fK fdK) (bK : Binds K fdK ["_law_error"] []) (gK : mg "_law_kinds" = some (.ref fK)) (gH : mg "HeapError" = some (.ref hE)) (mV : mg "ValueError" = none) (mI : mg "isinstance" = none) (mR : mg "range" = none)
    (GK : FnOk P w K mg base CX0 1 fK fdK ["_law_error"] (spKinds K cs)) : FnOk P w K mg base CX0 2 f fd ["_law_error", "_law_spot"] (spSingle K cs hE) := by
  refine F.ok scSingle (fun vs H Q E h => ?_) (fun cdv A outer s H vs Q E hr h => ?_)
  · obtain ⟨a, l, C, bs, rfl, _⟩ := h
    rfl
  · obtain ⟨a, l, C, bs, rfl, kin, hl, q⟩ := h
    refine ⟨_, pss_cons (ps_set (i := 2) scSingle.nd rfl (.inr rfl) (pe_call GK hr (by rfl) gK FK.kp bK .nil pass0 (pa_cons (pv 0) pa_nil)))
      (pss_cons (ps_if (pw_or (pt_not (pt_val (pe_callB call_isiE (by rfl) mI (by decide +kernel) (pa_cons (pv 0) (pa_cons (pe_glob (v := .ref hE) (by rfl) gH rfl) pa_nil))))) (pw_or1 (pt_not (pt_val (pe_callB call_isiE (by rfl) mI (by decide +kernel) (pa_cons (pv 0) (pa_cons (pe_bltn (v := .ty "ValueError") (u := .type "ValueError") (by rfl) mV (by decide +kernel) rfl) pa_nil))))))).pt (pss_one (ps_ret pe_bl)) pss_nil)
      (pss_one (ps_ret (pe_cmpR (op_eqD hr.units) (pe_lc (own := [("_law_at", 3)]) (g := gName 3) (tt := tB (tOp (rIxL K) (tVar 2) (tVar 3))) (te := tVar 3) rfl scSingle.nd (pi_range1 (by rfl) mR (pa_cons pe_int pa_nil)) (blkOk_by (N := nSingle) (sc := defScope sSingle) (by decide +kernel))
          (fun _ _ _ _ _ => pg_name (i := 3) scSingle.nd rfl (.inl rfl)) (fun _ _ _ _ _ => pts_one (pt_val (pe_ix ix_list (pv 2) (pv 3) (fun _ _ => rfl)))) (fun _ _ _ _ _ => pv 3)) (pv 1) (nomark _))))), ?_⟩
    refine ⟨_, rfl, a, C, bs, rfl, kin.held, kin.exc, kin.says, fun H1 p e1 np hp => ?_⟩
    have k1 := kin.ex e1
    have hl1 := e1 _ _ hl
    dsimp only
    refine rd_isi rfl k1.held k1.exc (.own _) k1.heap ⟨_, rfl, ?_⟩
    dsimp only
    rw [if_neg (by decide : ¬ ((!true) = true))]
    refine rd_isi rfl k1.held k1.exc (.ty _) k1.val ⟨_, rfl, ?_⟩
    dsimp only
    rw [if_neg (by decide : ¬ ((!true) = true))]
    have bl : bs.length = 13 := by rw [← Paired.length k1.says, n13]
    dsimp only [tNext]
    have key := el_yes (K := K) (σ := (L2.start nSingle [V.ref a, V.ref l]).set 2 (some (V.ref p))) (ta := tCons (tC (V.int 13)) tNil) (n := 13) (i := 2) (j := 3) (vs := [3]) (ea_cons ev_c ea_nil) (by decide) hp (by omega) (fun x => rfl) (fun x => rfl) (fun x => rfl)
    refine key H1 (Ex.refl H1) (fun x H2 => tVar 1 ((L2.start nSingle [V.ref a, V.ref l]).set 2 (some (V.ref p))) H2 fun y H3 => rEqD K x y H3 Q) fun p2 H2 n2 e2 h2 => ?_
    refine ⟨_, rfl, _, _, .lst (.inl (.inl h2)) (dp_ints _), .lst (.inl (.inl (e2 _ _ hl1))) (dp_ints _), lstI_shaped _, lstI_shaped _, ?_⟩
    rw [lstI_eqv]
    exact q H2 (e1.trans e2)
end
end Pe
namespace Pe
open PySem PySem.Spec PyProof.Rows L2 Evl Gd Ex
/-- C(x): x is kept under f -/
def spInit (C : Addr) (f : Str) : Sp := fun vs H Q _ => ∃ (a : Addr) (av : List Addr) (x : V) (d : PyData), vs = [.ref a, x] ∧ H a = some (exo a C none) ∧ Shows av H x d ∧ d.shown.length ≤ 100000 ∧
  ∀ dx, H dx = none → dx ≠ a → Q .non (upd (upd H dx (exd dx [(f, x)])) a (exo a C (some dx)))
/-- Fault(x, y) -/
def spFault (C : Addr) : Sp := fun vs H Q _ => ∃ (a : Addr) (av : List Addr) (x y : V) (d e : PyData), vs = [.ref a, x, y] ∧ H a = some (exo a C none) ∧ Shows av H x d ∧ d.shown.length ≤ 100000 ∧ Shows av H y e ∧ e.shown.length ≤ 100000 ∧
  ∀ dx, H dx = none → dx ≠ a → Q .non (upd (upd (upd H dx (exd dx [("word", x)])) a (exo a C (some dx))) dx (exd dx [("row", y), ("word", x)]))
/-- NoMark() -/
def spMark (C : Addr) : Sp := fun vs H Q _ => ∃ a : Addr, vs = [.ref a] ∧ H a = some (exo a C none) ∧ Q .non H
theorem js_c {s acc : Str} {ts : List TE} {σ : L2.St} {H : Hp} {Q : Str → Hp → Prop} (n : Nat) (ha : acc.length ≤ n) (hs : s.length ≤ 100) (k : (acc ++ s).length ≤ n + 100 → tJs ts (acc ++ s) σ H Q) (hn : n ≤ 1000000 := by decide) : tJs (tC (.str s) :: ts) acc σ H Q := by
  have e : (acc ++ s).length ≤ n + 100 := by
    rw [strLen_append]
    omega
  exact ⟨s, rfl, by rw [sizeLine_eq]; omega, k e⟩
theorem js_f {acc : Str} {ts : List TE} {σ : L2.St} {H : Hp} {Q : Str → Hp → Prop} {i : Nat} {av : List Addr} {x : V} {d : PyData} (n : Nat) (ha : acc.length ≤ n) (at_ : σ[i]? = some (some x)) (hs : Shows av H x d) (hz : d.shown.length ≤ 100000)
    (k : (acc ++ d.shown).length ≤ n + 100000 → tJs ts (acc ++ d.shown) σ H Q) (hn : n ≤ 1000000 := by decide) : tJs (tFmtQ (tVar i) :: ts) acc σ H Q := by
  have e : (acc ++ d.shown).length ≤ n + 100000 := by
    rw [strLen_append]
    omega
  exact ⟨x, at_, av, d, hs, d.shown, rfl, by rw [sizeLine_eq]; omega, k e⟩
section
variable {P : Program} {w : World} {K : PySem.W.Frag} {mg : Str → Option Value} {base : Heap} {C f : Addr} {fd : FuncData}
abbrev sBadRow : Stmt := inClass (topS 2) 0
theorem scBadRow : FnScopeC ["self", "row"] ["self", "row"] (defScope sBadRow) := ⟨rfl, rfl, rfl, by decide +kernel, rfl, by decide +kernel, by decide +kernel, by decide +kernel, rfl, rfl⟩
theorem ok_BadRow (F : FunC P K "__init__" "BadRow.__init__" sBadRow C f fd) (T : OexC K C) (S : SupVE P K mg C C) (no : PySem.W.findIn K (.ref C) "row" = some none) : FnG P w K mg base CX0 1 f fd ["self", "row"] (spInit C "row") := by
  refine fngC_of F scBadRow (fun vs H Q E h => ?_) rfl rfl rfl rfl (fun cda cc A outer s H vs Q E hr gd h => ?_)
  · obtain ⟨a, av, x, d, rfl, _⟩ := h
    rfl
  · obtain ⟨a, av, x, d, rfl, ha, hs, hz, q⟩ := h
    refine ⟨_, _, a, C, [x], pa_cons (pe_joined (PJ.cons pe_str (PJ.cons (pe_fmtQ gd hr.units (pv 1)) (PJ.cons pe_str PJ.nil)))) pa_nil, pss_one (ps_ost (pv 0) (pv 1)), rfl, T, S, ha, ?_⟩
    refine js_c 0 (Nat.le_refl 0) (by decide) (fun l0 => ?_)
    refine js_f 100 l0 rfl hs hz (fun l1 => ?_)
    refine js_c 100100 l1 (by decide) (fun l2 => ?_)
    exact ⟨by show 1 ≤ 1000; decide, ha, _, rfl, _, rfl, a, C, rfl, T, no, .inl ⟨ha, fun dx n1 n2 => q dx n1 n2⟩⟩
abbrev sBadBlock : Stmt := inClass (topS 3) 0
theorem scBadBlock : FnScopeC ["self", "row"] ["self", "row"] (defScope sBadBlock) := ⟨rfl, rfl, rfl, by decide +kernel, rfl, by decide +kernel, by decide +kernel, by decide +kernel, rfl, rfl⟩
theorem ok_BadBlock (F : FunC P K "__init__" "BadBlock.__init__" sBadBlock C f fd) (T : OexC K C) (S : SupVE P K mg C C) (no : PySem.W.findIn K (.ref C) "row" = some none) : FnG P w K mg base CX0 1 f fd ["self", "row"] (spInit C "row") := by
  refine fngC_of F scBadBlock (fun vs H Q E h => ?_) rfl rfl rfl rfl (fun cda cc A outer s H vs Q E hr gd h => ?_)
  · obtain ⟨a, av, x, d, rfl, _⟩ := h
    rfl
  · obtain ⟨a, av, x, d, rfl, ha, hs, hz, q⟩ := h
    refine ⟨_, _, a, C, [x], pa_cons (pe_joined (PJ.cons pe_str (PJ.cons (pe_fmtQ gd hr.units (pv 1)) (PJ.cons pe_str PJ.nil)))) pa_nil, pss_one (ps_ost (pv 0) (pv 1)), rfl, T, S, ha, ?_⟩
    refine js_c 0 (Nat.le_refl 0) (by decide) (fun l0 => ?_)
    refine js_f 100 l0 rfl hs hz (fun l1 => ?_)
    refine js_c 100100 l1 (by decide) (fun l2 => ?_)
    exact ⟨by show 1 ≤ 1000; decide, ha, _, rfl, _, rfl, a, C, rfl, T, no, .inl ⟨ha, fun dx n1 n2 => q dx n1 n2⟩⟩
abbrev sTwice : Stmt := inClass (topS 4) 0
theorem scTwice : FnScopeC ["self", "row"] ["self", "row"] (defScope sTwice) := ⟨rfl, rfl, rfl, by decide +kernel, rfl, by decide +kernel, by decide +kernel, by decide +kernel, rfl, rfl⟩
theorem ok_Twice (F : FunC P K "__init__" "Twice.__init__" sTwice C f fd) (T : OexC K C) (S : SupVE P K mg C C) (no : PySem.W.findIn K (.ref C) "row" = some none) : FnG P w K mg base CX0 1 f fd ["self", "row"] (spInit C "row") := by
  refine fngC_of F scTwice (fun vs H Q E h => ?_) rfl rfl rfl rfl (fun cda cc A outer s H vs Q E hr gd h => ?_)
  · obtain ⟨a, av, x, d, rfl, _⟩ := h
    rfl
  · obtain ⟨a, av, x, d, rfl, ha, hs, hz, q⟩ := h
    refine ⟨_, _, a, C, [x], pa_cons (pe_joined (PJ.cons pe_str (PJ.cons (pe_fmtQ gd hr.units (pv 1)) (PJ.cons pe_str PJ.nil)))) pa_nil, pss_one (ps_ost (pv 0) (pv 1)), rfl, T, S, ha, ?_⟩
    refine js_c 0 (Nat.le_refl 0) (by decide) (fun l0 => ?_)
    refine js_f 100 l0 rfl hs hz (fun l1 => ?_)
    refine js_c 100100 l1 (by decide) (fun l2 => ?_)
    exact ⟨by show 1 ≤ 1000; decide, ha, _, rfl, _, rfl, a, C, rfl, T, no, .inl ⟨ha, fun dx n1 n2 => q dx n1 n2⟩⟩
abbrev sNoProcedure : Stmt := inClass (topS 5) 0
theorem scNoProcedure : FnScopeC ["self", "row"] ["self", "row"] (defScope sNoProcedure) := ⟨rfl, rfl, rfl, by decide +kernel, rfl, by decide +kernel, by decide +kernel, by decide +kernel, rfl, rfl⟩
theorem ok_NoProcedure (F : FunC P K "__init__" "NoProcedure.__init__" sNoProcedure C f fd) (T : OexC K C) (S : SupVE P K mg C C) (no : PySem.W.findIn K (.ref C) "row" = some none) : FnG P w K mg base CX0 1 f fd ["self", "row"] (spInit C "row") := by
  refine fngC_of F scNoProcedure (fun vs H Q E h => ?_) rfl rfl rfl rfl (fun cda cc A outer s H vs Q E hr gd h => ?_)
  · obtain ⟨a, av, x, d, rfl, _⟩ := h
    rfl
  · obtain ⟨a, av, x, d, rfl, ha, hs, hz, q⟩ := h
    refine ⟨_, _, a, C, [x], pa_cons (pe_joined (PJ.cons pe_str (PJ.cons (pe_fmtQ gd hr.units (pv 1)) (PJ.cons pe_str PJ.nil)))) pa_nil, pss_one (ps_ost (pv 0) (pv 1)), rfl, T, S, ha, ?_⟩
    refine js_c 0 (Nat.le_refl 0) (by decide) (fun l0 => ?_)
    refine js_f 100 l0 rfl hs hz (fun l1 => ?_)
    refine js_c 100100 l1 (by decide) (fun l2 => ?_)
    exact ⟨by show 1 ≤ 1000; decide, ha, _, rfl, _, rfl, a, C, rfl, T, no, .inl ⟨ha, fun dx n1 n2 => q dx n1 n2⟩⟩
abbrev sWrongCount : Stmt := inClass (topS 6) 0
theorem scWrongCount : FnScopeC ["self", "row"] ["self", "row"] (defScope sWrongCount) := ⟨rfl, rfl, rfl, by decide +kernel, rfl, by decide +kernel, by decide +kernel, by decide +kernel, rfl, rfl⟩
theorem ok_WrongCount (F : FunC P K "__init__" "WrongCount.__init__" sWrongCount C f fd) (T : OexC K C) (S : SupVE P K mg C C) (no : PySem.W.findIn K (.ref C) "row" = some none) : FnG P w K mg base CX0 1 f fd ["self", "row"] (spInit C "row") := by
  refine fngC_of F scWrongCount (fun vs H Q E h => ?_) rfl rfl rfl rfl (fun cda cc A outer s H vs Q E hr gd h => ?_)
  · obtain ⟨a, av, x, d, rfl, _⟩ := h
    rfl
  · obtain ⟨a, av, x, d, rfl, ha, hs, hz, q⟩ := h
    refine ⟨_, _, a, C, [x], pa_cons (pe_joined (PJ.cons pe_str (PJ.cons (pe_fmtQ gd hr.units (pv 1)) (PJ.cons pe_str PJ.nil)))) pa_nil, pss_one (ps_ost (pv 0) (pv 1)), rfl, T, S, ha, ?_⟩
    refine js_c 0 (Nat.le_refl 0) (by decide) (fun l0 => ?_)
    refine js_f 100 l0 rfl hs hz (fun l1 => ?_)
    refine js_c 100100 l1 (by decide) (fun l2 => ?_)
    exact ⟨by show 1 ≤ 1000; decide, ha, _, rfl, _, rfl, a, C, rfl, T, no, .inl ⟨ha, fun dx n1 n2 => q dx n1 n2⟩⟩
abbrev sBadPolicy : Stmt := inClass (topS 7) 0
theorem scBadPolicy : FnScopeC ["self", "word"] ["self", "word"] (defScope sBadPolicy) := ⟨rfl, rfl, rfl, by decide +kernel, rfl, by decide +kernel, by decide +kernel, by decide +kernel, rfl, rfl⟩
theorem ok_BadPolicy (F : FunC P K "__init__" "BadPolicy.__init__" sBadPolicy C f fd) (T : OexC K C) (S : SupVE P K mg C C) (no : PySem.W.findIn K (.ref C) "word" = some none) : FnG P w K mg base CX0 1 f fd ["self", "word"] (spInit C "word") := by
  refine fngC_of F scBadPolicy (fun vs H Q E h => ?_) rfl rfl rfl rfl (fun cda cc A outer s H vs Q E hr gd h => ?_)
  · obtain ⟨a, av, x, d, rfl, _⟩ := h
    rfl
  · obtain ⟨a, av, x, d, rfl, ha, hs, hz, q⟩ := h
    refine ⟨_, _, a, C, [x], pa_cons (pe_joined (PJ.cons pe_str (PJ.cons (pe_fmtQ gd hr.units (pv 1)) PJ.nil))) pa_nil, pss_one (ps_ost (pv 0) (pv 1)), rfl, T, S, ha, ?_⟩
    refine js_c 0 (Nat.le_refl 0) (by decide) (fun l0 => ?_)
    refine js_f 100 l0 rfl hs hz (fun l1 => ?_)
    exact ⟨by show 1 ≤ 1000; decide, ha, _, rfl, _, rfl, a, C, rfl, T, no, .inl ⟨ha, fun dx n1 n2 => q dx n1 n2⟩⟩
abbrev sNoObject : Stmt := inClass (topS 9) 0
theorem scNoObject : FnScopeC ["self", "value"] ["self", "value"] (defScope sNoObject) := ⟨rfl, rfl, rfl, by decide +kernel, rfl, by decide +kernel, by decide +kernel, by decide +kernel, rfl, rfl⟩
theorem ok_NoObject (F : FunC P K "__init__" "NoObject.__init__" sNoObject C f fd) (T : OexC K C) (S : SupVE P K mg C C) (no : PySem.W.findIn K (.ref C) "value" = some none) : FnG P w K mg base CX0 1 f fd ["self", "value"] (spInit C "value") := by
  refine fngC_of F scNoObject (fun vs H Q E h => ?_) rfl rfl rfl rfl (fun cda cc A outer s H vs Q E hr gd h => ?_)
  · obtain ⟨a, av, x, d, rfl, _⟩ := h
    rfl
  · obtain ⟨a, av, x, d, rfl, ha, hs, hz, q⟩ := h
    refine ⟨_, _, a, C, [x], pa_cons (pe_joined (PJ.cons (pe_fmtQ gd hr.units (pv 1)) (PJ.cons pe_str PJ.nil))) pa_nil, pss_one (ps_ost (pv 0) (pv 1)), rfl, T, S, ha, ?_⟩
    refine js_f 0 (Nat.le_refl 0) rfl hs hz (fun l0 => ?_)
    refine js_c 100000 l0 (by decide) (fun l1 => ?_)
    exact ⟨by show 1 ≤ 1000; decide, ha, _, rfl, _, rfl, a, C, rfl, T, no, .inl ⟨ha, fun dx n1 n2 => q dx n1 n2⟩⟩
abbrev sNoLink : Stmt := inClass (topS 10) 0
theorem scNoLink : FnScopeC ["self", "value"] ["self", "value"] (defScope sNoLink) := ⟨rfl, rfl, rfl, by decide +kernel, rfl, by decide +kernel, by decide +kernel, by decide +kernel, rfl, rfl⟩
theorem ok_NoLink (F : FunC P K "__init__" "NoLink.__init__" sNoLink C f fd) (T : OexC K C) (S : SupVE P K mg C C) (no : PySem.W.findIn K (.ref C) "value" = some none) : FnG P w K mg base CX0 1 f fd ["self", "value"] (spInit C "value") := by
  refine fngC_of F scNoLink (fun vs H Q E h => ?_) rfl rfl rfl rfl (fun cda cc A outer s H vs Q E hr gd h => ?_)
  · obtain ⟨a, av, x, d, rfl, _⟩ := h
    rfl
  · obtain ⟨a, av, x, d, rfl, ha, hs, hz, q⟩ := h
    refine ⟨_, _, a, C, [x], pa_cons (pe_joined (PJ.cons (pe_fmtQ gd hr.units (pv 1)) (PJ.cons pe_str PJ.nil))) pa_nil, pss_one (ps_ost (pv 0) (pv 1)), rfl, T, S, ha, ?_⟩
    refine js_f 0 (Nat.le_refl 0) rfl hs hz (fun l0 => ?_)
    refine js_c 100000 l0 (by decide) (fun l1 => ?_)
    exact ⟨by show 1 ≤ 1000; decide, ha, _, rfl, _, rfl, a, C, rfl, T, no, .inl ⟨ha, fun dx n1 n2 => q dx n1 n2⟩⟩
abbrev sTooMany : Stmt := inClass (topS 11) 0
theorem scTooMany : FnScopeC ["self", "count"] ["self", "count"] (defScope sTooMany) := ⟨rfl, rfl, rfl, by decide +kernel, rfl, by decide +kernel, by decide +kernel, by decide +kernel, rfl, rfl⟩
theorem ok_TooMany (F : FunC P K "__init__" "TooMany.__init__" sTooMany C f fd) (T : OexC K C) (S : SupVE P K mg C C) (no : PySem.W.findIn K (.ref C) "count" = some none) : FnG P w K mg base CX0 1 f fd ["self", "count"] (spInit C "count") := by
  refine fngC_of F scTooMany (fun vs H Q E h => ?_) rfl rfl rfl rfl (fun cda cc A outer s H vs Q E hr gd h => ?_)
  · obtain ⟨a, av, x, d, rfl, _⟩ := h
    rfl
  · obtain ⟨a, av, x, d, rfl, ha, hs, hz, q⟩ := h
    refine ⟨_, _, a, C, [x], pa_cons (pe_joined (PJ.cons (pe_fmtQ gd hr.units (pv 1)) (PJ.cons pe_str PJ.nil))) pa_nil, pss_one (ps_ost (pv 0) (pv 1)), rfl, T, S, ha, ?_⟩
    refine js_f 0 (Nat.le_refl 0) rfl hs hz (fun l0 => ?_)
    refine js_c 100000 l0 (by decide) (fun l1 => ?_)
    exact ⟨by show 1 ≤ 1000; decide, ha, _, rfl, _, rfl, a, C, rfl, T, no, .inl ⟨ha, fun dx n1 n2 => q dx n1 n2⟩⟩
abbrev sBadText : Stmt := inClass (topS 12) 0
theorem scBadText : FnScopeC ["self", "row"] ["self", "row"] (defScope sBadText) := ⟨rfl, rfl, rfl, by decide +kernel, rfl, by decide +kernel, by decide +kernel, by decide +kernel, rfl, rfl⟩
theorem ok_BadText (F : FunC P K "__init__" "BadText.__init__" sBadText C f fd) (T : OexC K C) (S : SupVE P K mg C C) (no : PySem.W.findIn K (.ref C) "row" = some none) : FnG P w K mg base CX0 1 f fd ["self", "row"] (spInit C "row") := by
  refine fngC_of F scBadText (fun vs H Q E h => ?_) rfl rfl rfl rfl (fun cda cc A outer s H vs Q E hr gd h => ?_)
  · obtain ⟨a, av, x, d, rfl, _⟩ := h
    rfl
  · obtain ⟨a, av, x, d, rfl, ha, hs, hz, q⟩ := h
    refine ⟨_, _, a, C, [x], pa_cons (pe_joined (PJ.cons pe_str (PJ.cons (pe_fmtQ gd hr.units (pv 1)) (PJ.cons pe_str PJ.nil)))) pa_nil, pss_one (ps_ost (pv 0) (pv 1)), rfl, T, S, ha, ?_⟩
    refine js_c 0 (Nat.le_refl 0) (by decide) (fun l0 => ?_)
    refine js_f 100 l0 rfl hs hz (fun l1 => ?_)
    refine js_c 100100 l1 (by decide) (fun l2 => ?_)
    exact ⟨by show 1 ≤ 1000; decide, ha, _, rfl, _, rfl, a, C, rfl, T, no, .inl ⟨ha, fun dx n1 n2 => q dx n1 n2⟩⟩
abbrev sBadLine : Stmt := inClass (topS 14) 0
theorem scBadLine : FnScopeC ["self", "line"] ["self", "line"] (defScope sBadLine) := ⟨rfl, rfl, rfl, by decide +kernel, rfl, by decide +kernel, by decide +kernel, by decide +kernel, rfl, rfl⟩
theorem ok_BadLine (F : FunC P K "__init__" "BadLine.__init__" sBadLine C f fd) (T : OexC K C) (S : SupVE P K mg C C) (no : PySem.W.findIn K (.ref C) "line" = some none) : FnG P w K mg base CX0 1 f fd ["self", "line"] (spInit C "line") := by
  refine fngC_of F scBadLine (fun vs H Q E h => ?_) rfl rfl rfl rfl (fun cda cc A outer s H vs Q E hr gd h => ?_)
  · obtain ⟨a, av, x, d, rfl, _⟩ := h
    rfl
  · obtain ⟨a, av, x, d, rfl, ha, hs, hz, q⟩ := h
    refine ⟨_, _, a, C, [x], pa_cons (pe_joined (PJ.cons (pe_fmtQ gd hr.units (pv 1)) (PJ.cons pe_str PJ.nil))) pa_nil, pss_one (ps_ost (pv 0) (pv 1)), rfl, T, S, ha, ?_⟩
    refine js_f 0 (Nat.le_refl 0) rfl hs hz (fun l0 => ?_)
    refine js_c 100000 l0 (by decide) (fun l1 => ?_)
    exact ⟨by show 1 ≤ 1000; decide, ha, _, rfl, _, rfl, a, C, rfl, T, no, .inl ⟨ha, fun dx n1 n2 => q dx n1 n2⟩⟩
abbrev sFault : Stmt := inClass (topS 8) 0
theorem scFault : FnScopeC ["self", "word", "row"] ["self", "word", "row"] (defScope sFault) := ⟨rfl, rfl, rfl, by decide +kernel, rfl, by decide +kernel, by decide +kernel, by decide +kernel, rfl, rfl⟩
theorem ok_Fault (F : FunC P K "__init__" "Fault.__init__" sFault C f fd) (T : OexC K C) (S : SupVE P K mg C C) (no : PySem.W.findIn K (.ref C) "word" = some none) (no2 : PySem.W.findIn K (.ref C) "row" = some none) : FnG P w K mg base CX0 1 f fd ["self", "word", "row"] (spFault C) := by
  refine fngC_of F scFault (fun vs H Q E h => ?_) rfl rfl rfl rfl (fun cda cc A outer s H vs Q E hr gd h => ?_)
  · obtain ⟨a, av, x, y, d, e, rfl, _⟩ := h
    rfl
  · obtain ⟨a, av, x, y, d, e, rfl, ha, hs, hz, hs2, hz2, q⟩ := h
    refine ⟨_, _, a, C, [x, y], pa_cons (pe_joined (PJ.cons (pe_fmtQ gd hr.units (pv 1)) (PJ.cons pe_str (PJ.cons (pe_fmtQ gd hr.units (pv 2)) PJ.nil)))) pa_nil, pss_cons (ps_ost (pv 0) (pv 1)) (pss_one (ps_ost (pv 0) (pv 2))), rfl, T, S, ha, ?_⟩
    refine js_f 0 (Nat.le_refl 0) rfl hs hz (fun l0 => ?_)
    refine js_c 100000 l0 (by decide) (fun l1 => ?_)
    refine js_f 100100 l1 rfl hs2 hz2 (fun l2 => ?_)
    refine ⟨by show 1 ≤ 1000; decide, ha, _, rfl, _, rfl, a, C, rfl, T, no, .inl ⟨ha, fun dx n1 n2 => ?_⟩⟩
    refine ⟨_, rfl, _, rfl, a, C, rfl, T, no2, .inr ⟨dx, [("word", x)], upd_same, ?_, by show 1 ≤ 900; decide, q dx n1 n2⟩⟩
    rw [upd_ne n2]
    exact upd_same
abbrev sNoMark : Stmt := inClass (topS 13) 0
theorem scNoMark : FnScopeC ["self"] ["self"] (defScope sNoMark) := ⟨rfl, rfl, rfl, by decide +kernel, rfl, by decide +kernel, by decide +kernel, by decide +kernel, rfl, rfl⟩
theorem ok_NoMark (F : FunC P K "__init__" "NoMark.__init__" sNoMark C f fd) (T : OexC K C) (S : SupVE P K mg C C) : FnG P w K mg base CX0 1 f fd ["self"] (spMark C) := by
  refine fngC_of F scNoMark (fun vs H Q E h => ?_) rfl rfl rfl rfl (fun cda cc A outer s H vs Q E hr gd h => ?_)
  · obtain ⟨a, rfl, _⟩ := h
    rfl
  · obtain ⟨a, rfl, ha, q⟩ := h
    exact ⟨_, _, a, C, [], pa_cons pe_str pa_nil, pss_nil, rfl, T, S, ha, by show 1 ≤ 1000; decide, ha, q⟩
end
end Pe
namespace Pe
open PySem PySem.Spec PyProof.Rows L2 Evl Gd Ex
/-- an exception at a of the class at C that keeps x under f -/
def Err (H : Hp) (a C : Addr) (f : Str) (x : V) : Prop := ∃ dx, H a = some (exo a C (some dx)) ∧ H dx = some (exd dx [(f, x)])
theorem Err.ex {H H' : Hp} {a C : Addr} {f : Str} {x : V} (e : Evl.Ex H H') (h : Err H a C f x) : Err H' a C f x := let ⟨dx, h1, h2⟩ := h; ⟨dx, e _ _ h1, e _ _ h2⟩
theorem Err.held {H : Hp} {a C : Addr} {f : Str} {x : V} (h : Err H a C f x) : Held H a C := let ⟨dx, h1, h2⟩ := h; .inr ⟨dx, _, h1, h2⟩
theorem Shows.ex {av : List Addr} {H H' : Hp} {x : V} {d : PyData} (e : Evl.Ex H H') (h : Shows av H x d) : Shows av H' x d := ⟨Dq.keep (But.of e) h.1, h.2⟩
/-- the state behind the making of one -/
theorem made {H : Hp} {a dx C : Addr} {f : Str} {x : V} (n : H a = none) (m : upd H a (exo a C none) dx = none) (ne : dx ≠ a) :
    Evl.Ex H (upd (upd (upd H a (exo a C none)) dx (exd dx [(f, x)])) a (exo a C (some dx))) ∧ Err (upd (upd (upd H a (exo a C none)) dx (exd dx [(f, x)])) a (exo a C (some dx))) a C f x := by
  refine ⟨(((Ex.new n).trans (Ex.new m)).mut n), dx, upd_same, ?_⟩
  rw [upd_ne ne]
  exact upd_same
section
variable {σ : L2.St} {H : Hp} {Q : VK} {i : Nat} {C : Addr} {f : Str} {av : List Addr} {x : V} {d : PyData}
theorem init_want (hs : Shows av H x d) (hz : d.shown.length ≤ 100000) (k : ∀ a H', Evl.Ex H H' → Err H' a C f x → Q (.ref a) H') (a : Addr) (n : H a = none) :
    spInit C f [.ref a, x] (upd H a (exo a C none)) (fun v H2 => v = .non ∧ Q (.ref a) H2) fun _ _ _ => False := by
  refine ⟨a, av, x, d, rfl, upd_same, Shows.ex (Ex.new n) hs, hz, fun dx m ne => ⟨rfl, ?_⟩⟩
  obtain ⟨e, r⟩ := made (C := C) (f := f) (x := x) n m ne
  exact k a _ e r
theorem rd_newE (at_ : σ[i]? = some (some x)) (hs : Shows av H x d) (hz : d.shown.length ≤ 100000) (k : ∀ a H', Evl.Ex H H' → Err H' a C f x → Q (.ref a) H') : tNewE C (spInit C f) (tCons (tVar i) tNil) σ H Q :=
  ⟨x, at_, by show 1 ≤ 1000; decide, fun a n => init_want hs hz k a n⟩
theorem rd_newK (at_ : σ[i]? = some (some x)) (hs : Shows av H x d) (hz : d.shown.length ≤ 100000) (k : ∀ a H', Evl.Ex H H' → Err H' a C f x → Q (.ref a) H') : tNewK C (spInit C f) (fun zs => zs) (tCons (tVar i) tNil) σ H Q :=
  ⟨x, at_, fun a n => init_want hs hz k a n⟩
/-- shown(err.f) -/
theorem rd_shownF {K : PySem.W.Frag} {E : XK} {a : Addr} (at_ : σ[i]? = some (some (.ref a))) (xf : XfC K C) (no : PySem.W.findIn K (.ref C) f = some none) (er : Err H a C f x) (hs : Shows av H x d) (hz : d.shown.length ≤ 100000) (k : Q (.str (tell d)) H) :
    tCall spShown [] E (tCons (tEf K f (tVar i)) tNil) σ H Q := by
  obtain ⟨dx, h1, h2⟩ := er
  refine ⟨_, at_, a, C, dx, [(f, x)], x, rfl, xf, no, h1, h2, ?_, av, x, d, rfl, hs, hz, k⟩
  simp [List.lookup]
theorem rd_shown {E : XK} (at_ : σ[i]? = some (some x)) (hs : Shows av H x d) (hz : d.shown.length ≤ 100000) (k : Q (.str (tell d)) H) : tCall spShown [] E (tCons (tVar i) tNil) σ H Q :=
  ⟨x, at_, av, x, d, rfl, hs, hz, k⟩
end
/-- one-hot -/
def hot (j : Nat) : List Bool := (List.range 13).map fun i => i == j
/-- what the written part says of one of the classes -/
structure ClsOk (P : Program) (K : PySem.W.Frag) (mg : Str → Option Value) (cs : List Addr) (hE : Addr) (C : Addr) (x : Str) (j : Nat) : Prop where
  kp : PySem.W.keepIn K (.ref C) = true
  at_ : mg x = some (.ref C)
  exc : ExcC K C
  says : Says K C cs (hot j)
  heap : PySem.W.kitOne K (.ref C) (.ref hE) = some true
  val : PySem.W.kitOne K (.ref C) (.type "ValueError") = some true
/-- and of its field -/
structure FldOk (K : PySem.W.Frag) (C : Addr) (f : Str) : Prop where
  xf : XfC K C
  no : PySem.W.findIn K (.ref C) f = some none
theorem ClsOk.kin {P : Program} {K : PySem.W.Frag} {mg : Str → Option Value} {cs : List Addr} {hE C : Addr} {x : Str} {j : Nat} (c : ClsOk P K mg cs hE C x j) {H : Hp} {a : Addr} (h : Held H a C) : Kin K cs hE H a C (hot j) := ⟨h, c.exc, c.says, c.heap, c.val⟩
/-- is_single(err, [j]) -/
theorem rd_single {K : PySem.W.Frag} {cs : List Addr} {hE a C : Addr} {E : XK} {σ : L2.St} {H : Hp} {Q : VK} {i : Nat} {tl : TE} {bs : List Bool} {js : List Int} (at_ : σ[i]? = some (some (.ref a))) (kin : Kin K cs hE H a C bs) (hj : yes bs 13 = js) (ev : EvL tl σ H (js.map V.int)) (k : ∀ H', Evl.Ex H H' → Q (.bl true) H') :
    tCall (spSingle K cs hE) [] E (tCons (tVar i) (tCons tl tNil)) σ H Q := by
  refine ⟨_, at_, ev H (Ex.refl H) _ fun p H1 n e h => ?_⟩
  refine ⟨a, p, C, bs, rfl, kin.ex e, by rw [hj]; exact h, fun H' e' => k H' (e.trans e')⟩
theorem yes_hot : ∀ j : Nat, j < 13 → yes (hot j) 13 = [(j : Int)] := by decide +kernel
end Pe
namespace Pe
open PySem PySem.Spec PyProof.Rows L2 Evl Gd Ex
/-- all of one class with one field -/
structure One (P : Program) (w : World) (K : PySem.W.Frag) (mg : Str → Option Value) (base : Heap) (cs : List Addr) (hE : Addr) (x f : Str) (j : Nat) (C fI : Addr) (fd : FuncData) : Prop where
  cls : ClsOk P K mg cs hE C x j
  fld : FldOk K C f
  own : Own K C fI
  fn : FnG P w K mg base CX0 1 fI fd ["self", f] (spInit C f)
  bE : ∀ (s : Shared) (self : Value) (us : List Value), us.length + 1 = (["self", f] : List Str).length → K.In s.heap → BindsTo s fd ⟨self :: us, []⟩ ((["self", f] : List Str).zip (self :: us))
  bK : ∀ (s : Shared) (self : Value) (ws : List Value), ws.length + 1 = (["self", f] : List Str).length → K.In s.heap → BindsTo s fd ⟨[self], ([f] : List Str).zip ws⟩ ((["self", f] : List Str).zip (self :: ws))
/-- (row, word) as (word, row) -/
def swap {α : Type} : List α → List α
  | [r, v] => [v, r]
  | l => l
theorem rev2 {zs : List V} {ws : List Value} (r : Vals zs ws) : Vals (swap zs) (swap ws) := by
  cases r with
  | nil => exact .nil
  | cons a b =>
    cases b with
    | nil => exact .cons a .nil
    | cons c d =>
      cases d with
      | nil => exact .cons c (.cons a .nil)
      | cons e g => exact .cons a (.cons c (.cons e g))
structure OneF (P : Program) (w : World) (K : PySem.W.Frag) (mg : Str → Option Value) (base : Heap) (cs : List Addr) (hE : Addr) (C fI : Addr) (fd : FuncData) : Prop extends ClsOk P K mg cs hE C "Fault" 6 where
  fldW : FldOk K C "word"
  fldR : FldOk K C "row"
  own : Own K C fI
  fn : FnG P w K mg base CX0 1 fI fd ["self", "word", "row"] (spFault C)
  bE : ∀ (s : Shared) (self : Value) (us : List Value), us.length + 1 = (["self", "word", "row"] : List Str).length → K.In s.heap → BindsTo s fd ⟨self :: us, []⟩ ((["self", "word", "row"] : List Str).zip (self :: us))
  bK : ∀ (s : Shared) (self : Value) (ws : List Value), (swap ws).length + 1 = (["self", "word", "row"] : List Str).length → K.In s.heap → BindsTo s fd ⟨[self], (["row", "word"] : List Str).zip ws⟩ ((["self", "word", "row"] : List Str).zip (self :: swap ws))
structure OneM (P : Program) (w : World) (K : PySem.W.Frag) (mg : Str → Option Value) (base : Heap) (cs : List Addr) (hE : Addr) (C fI : Addr) (fd : FuncData) : Prop extends ClsOk P K mg cs hE C "NoMark" 11 where
  own : Own K C fI
  fn : FnG P w K mg base CX0 1 fI fd ["self"] (spMark C)
  bE : ∀ (s : Shared) (self : Value), K.In s.heap → BindsTo s fd ⟨[self], []⟩ ((["self"] : List Str).zip [self])
abbrev sRight : Stmt := topS 23
abbrev nRight : List Str := ["_law_pot", "_law_thing", "_law_other", "_law_rows", "_law_one", "_law_two", "_law_spot", "_law_error", "_law_shown_here"]
theorem scRight : FnScope nRight ["_law_pot"] (defScope sRight) := ⟨rfl, rfl, rfl, by decide +kernel, rfl, by decide +kernel, by decide +kernel⟩
def spRight : Sp := fun vs H Q _ => ∃ (d : Addr) (n : Int), vs = [.ref d] ∧ Pot H d n ∧ n ≤ 800000 ∧ ∀ H', Off d H H' → Pot H' d (n + 28) → Q (.bl true) H'
section
variable {ta tr te tb : TE} {tt : TA} {ts tz : TS} {D : Ends} {g : TG} {σ : L2.St} {H : Hp} {Q : VK} {C : Addr} {f : Str} {av : List Addr} {x : V} {d : PyData}
theorem tup_of (h : tt σ H fun xs H1 => xs.length ≤ sizeLine ∧ ∀ p, H1 p = none → Q (.ref p) (upd H1 p (.tup xs))) : tTup tt σ H Q := h
theorem lst_of (h : tt σ H fun xs H1 => xs.length ≤ sizeLine ∧ ∀ p, H1 p = none → Q (.ref p) (upd H1 p (.lst xs))) : tLst tt σ H Q := h
theorem c_of {Q : List V → Hp → Prop} (h : ta σ H fun x H1 => tt σ H1 fun xs H2 => Q (x :: xs) H2) : tCons ta tt σ H Q := h
theorem n_of {Q : List V → Hp → Prop} (h : Q [] H) : tNil σ H Q := h
theorem seq_of (h : ts { D with nx := tz D } σ H) : tSeq ts tz D σ H := h
theorem asg_of {i : Nat} (h : te σ H fun x H1 => D.nx (σ.set i (some x)) H1) : tAsg te (gName i) D σ H := h
theorem ret_of (h : te σ H D.rt) : tRet te D σ H := h
theorem op_of {r : R2} (h : ta σ H fun x H1 => tb σ H1 fun y H2 => r x y H2 Q) : tOp r ta tb σ H Q := h
theorem rd_pair {j : Int} (at1 : σ[1]? = some (some x)) (hs : Shows av H x d) (hz : d.shown.length ≤ 100000) (k : ∀ t a b H', Evl.Ex H H' → H t = none → H' t = some (.tup [.ref a, .ref b, .int j]) → Err H' a C f x → Err H' b C f x → Q (.ref t) H') :
    tTup (tCons (tNewE C (spInit C f) (tCons (tVar 1) tNil)) (tCons (tNewK C (spInit C f) (fun zs => zs) (tCons (tVar 1) tNil)) (tCons (tC (.int j)) tNil))) σ H Q := by
  refine tup_of (c_of (rd_newE at1 hs hz fun a H1 e1 r1 => c_of (rd_newK at1 (Shows.ex e1 hs) hz fun b H2 e2 r2 => ?_)))
  refine ⟨by show 3 ≤ sizeLine; decide, fun p n => ?_⟩
  have e3 : Evl.Ex H2 (upd H2 p (.tup [.ref a, .ref b, .int j])) := Ex.new n
  exact k p a b _ ((e1.trans e2).trans e3) (fresh_back (e1.trans e2) n) upd_same ((r1.ex e2).ex e3) (r2.ex e3)
end
/-- the class's part of Kin -/
structure KinC (K : PySem.W.Frag) (cs : List Addr) (hE C : Addr) (j : Nat) : Prop where
  exc : ExcC K C
  says : Says K C cs (hot j)
  heap : PySem.W.kitOne K (.ref C) (.ref hE) = some true
  val : PySem.W.kitOne K (.ref C) (.type "ValueError") = some true
theorem KinC.kin {K : PySem.W.Frag} {cs : List Addr} {hE C a : Addr} {j : Nat} {H : Hp} (c : KinC K cs hE C j) (h : Held H a C) : Kin K cs hE H a C (hot j) := ⟨h, c.exc, c.says, c.heap, c.val⟩
theorem ClsOk.kinC {P : Program} {K : PySem.W.Frag} {mg : Str → Option Value} {cs : List Addr} {hE C : Addr} {x : Str} {j : Nat} (c : ClsOk P K mg cs hE C x j) : KinC K cs hE C j := ⟨c.exc, c.says, c.heap, c.val⟩
def RowOk (K : PySem.W.Frag) (cs : List Addr) (hE : Addr) (H : Hp) (x t : V) : Prop := ∃ (p a b C : Addr) (j : Nat), t = .ref p ∧ H p = some (.tup [.ref a, .ref b, .int j]) ∧ j < 13 ∧ Err H a C "row" x ∧ Err H b C "row" x ∧ KinC K cs hE C j ∧ FldOk K C "row"
theorem RowOk.ex {K : PySem.W.Frag} {cs : List Addr} {hE : Addr} {H H' : Hp} {x t : V} (e : Evl.Ex H H') (h : RowOk K cs hE H x t) : RowOk K cs hE H' x t := by
  obtain ⟨p, a, b, C, j, h1, h2, h3, h4, h5, h6, h7⟩ := h
  exact ⟨p, a, b, C, j, h1, e _ _ h2, h3, h4.ex e, h5.ex e, h6, h7⟩
theorem ne_self (s : Str) : (!decide (V.str s = V.str s)) = false := by simp
abbrev pairT (C : Addr) (j : Int) : TE := tTup (tCons (tNewE C (spInit C "row") (tCons (tVar 1) tNil)) (tCons (tNewK C (spInit C "row") (fun zs => zs) (tCons (tVar 1) tNil)) (tCons (tC (.int j)) tNil)))
section
variable {K : PySem.W.Frag} {cs : List Addr} {hE : Addr} {σ : L2.St} {H : Hp} {A B : Addr} {i j : Nat} {av : List Addr} {x : V} {d : PyData}
theorem rd_two {Q : List V → Hp → Prop} (at1 : σ[1]? = some (some x)) (hs : Shows av H x d) (hz : d.shown.length ≤ 100000) (kA : KinC K cs hE A i) (fA : FldOk K A "row") (li : i < 13) (kB : KinC K cs hE B j) (fB : FldOk K B "row") (lj : j < 13)
    (k : ∀ t u H', Evl.Ex H H' → RowOk K cs hE H' x t → RowOk K cs hE H' x u → Q [t, u] H') : tCons (pairT A (i : Int)) (tCons (pairT B (j : Int)) tNil) σ H Q := by
  refine c_of (rd_pair at1 hs hz fun t a b H1 e1 n1 h1 ra rb => c_of (rd_pair at1 (Shows.ex e1 hs) hz fun u a' b' H2 e2 n2 h2 ra' rb' => n_of ?_))
  exact k _ _ H2 (e1.trans e2) ⟨t, a, b, A, i, rfl, e2 _ _ h1, li, ra.ex e2, rb.ex e2, kA, fA⟩ ⟨u, a', b', B, j, rfl, h2, lj, ra', rb', kB, fB⟩
theorem rd_set2 {tz : TS} {D : Ends} (at1 : σ[1]? = some (some x)) (hs : Shows av H x d) (hz : d.shown.length ≤ 100000) (kA : KinC K cs hE A i) (fA : FldOk K A "row") (li : i < 13) (kB : KinC K cs hE B j) (fB : FldOk K B "row") (lj : j < 13)
    (k : ∀ p t u H', Evl.Ex H H' → H' p = some (.lst [t, u]) → RowOk K cs hE H' x t → RowOk K cs hE H' x u → tz D (σ.set 3 (some (.ref p))) H') :
    tSeq (tAsg (tLst (tCons (pairT A (i : Int)) (tCons (pairT B (j : Int)) tNil))) (gName 3)) tz D σ H := by
  refine seq_of (asg_of (lst_of (rd_two at1 hs hz kA fA li kB fB lj fun t u H1 e1 rt ru => ⟨by show 2 ≤ sizeLine; decide, fun p n => ?_⟩)))
  have e2 : Evl.Ex H1 (upd H1 p (.lst [t, u])) := Ex.new n
  exact k p t u _ (e1.trans e2) upd_same (rt.ex e2) (ru.ex e2)
theorem rd_cat2 {tz : TS} {D : Ends} {l : Addr} {xs : List V} (at3 : σ[3]? = some (some (.ref l))) (hl : H l = some (.lst xs)) (few : xs.length ≤ 1000) (at1 : σ[1]? = some (some x)) (hs : Shows av H x d) (hz : d.shown.length ≤ 100000) (kA : KinC K cs hE A i) (fA : FldOk K A "row") (li : i < 13) (kB : KinC K cs hE B j) (fB : FldOk K B "row") (lj : j < 13)
    (k : ∀ p t u H', Evl.Ex H H' → H' p = some (.lst (xs ++ [t, u])) → RowOk K cs hE H' x t → RowOk K cs hE H' x u → tz D (σ.set 3 (some (.ref p))) H') :
    tSeq (tAsg (tOp rCat (tVar 3) (tLst (tCons (pairT A (i : Int)) (tCons (pairT B (j : Int)) tNil)))) (gName 3)) tz D σ H := by
  refine seq_of (asg_of (op_of ⟨_, at3, lst_of (rd_two at1 hs hz kA fA li kB fB lj fun t u H1 e1 rt ru => ⟨by show 2 ≤ sizeLine; decide, fun q m => ?_⟩)⟩))
  have e2 : Evl.Ex H1 (upd H1 q (.lst [t, u])) := Ex.new m
  refine ⟨l, q, xs, [t, u], rfl, rfl, e2 _ _ (e1 _ _ hl), upd_same, by show xs.length + 2 ≤ sizeLine; rw [sizeLine_eq]; omega, fun p n => ?_⟩
  have e3 : Evl.Ex (upd H1 q (.lst [t, u])) (upd (upd H1 q (.lst [t, u])) p (.lst (xs ++ [t, u]))) := Ex.new n
  exact k p t u _ ((e1.trans e2).trans e3) upd_same ((rt.ex e2).ex e3) ((ru.ex e2).ex e3)
end
section
variable {K : PySem.W.Frag} {σ : L2.St} {H : Hp} {D : Ends} {tz tu : TS} {g : TG} {tl : TE}
/-- for x in a tuple that is made here: what is known of the items goes on to be so -/
theorem q_forX (Pt : List V → Hp → Prop) (h : ∀ Q : VK, (∀ p H1 xs, Evl.Ex H H1 → H1 p = some (.tup xs) → Pt xs H1 → Q (.ref p) H1) → tl σ H Q) (exP : ∀ xs H1 H2, Evl.Ex H1 H2 → Pt xs H1 → Pt xs H2) (Sg : L2.St → Prop) (s0 : Sg σ)
    (hs : ∀ x xs σ' H', Evl.Ex H H' → Pt xs H' → x ∈ xs → Sg σ' → ∀ N : L2.St → Hp → Prop, (∀ σ2 H2, Evl.Ex H' H2 → Sg σ2 → N σ2 H2) → g x σ' H' fun σ2 H2 => tu { D with nx := N, ct := N, bk := tz D } σ2 H2)
    (hd : ∀ σ' H', Evl.Ex H H' → Sg σ' → tz D σ' H') : tSeq (tFor (iTup K tl) g tu) tz D σ H := by
  refine h _ fun p H1 xs e1 hp pt => ⟨p, rfl, ⟨xs, .inl (.inl hp)⟩, for_tup (xs := xs) (D := { D with nx := tz D }) (fun _ σ' H' => Evl.Ex H1 H' ∧ Sg σ') ⟨Ex.refl H1, s0⟩ (fun i σ' H' _ pr => .inl (.inl (pr.1 _ _ hp))) ?_ ?_⟩
  · intro i x σ' H' hx pr
    exact hs x xs σ' H' (e1.trans pr.1) (exP _ _ _ pr.1 pt) (List.mem_of_getElem? hx) pr.2 _ fun σ2 H2 e2 s2 => ⟨pr.1.trans e2, s2⟩
  · intro σ' H' pr
    exact hd σ' H' (e1.trans pr.1) pr.2
/-- for x in a list that stands -/
theorem q_forY {l : Addr} {xs : List V} {i : Nat} (at_ : σ[i]? = some (some (.ref l))) (hl : H l = some (.lst xs)) (Sg : L2.St → Prop) (s0 : Sg σ)
    (hs : ∀ x σ' H', Evl.Ex H H' → x ∈ xs → Sg σ' → ∀ N : L2.St → Hp → Prop, (∀ σ2 H2, Evl.Ex H' H2 → Sg σ2 → N σ2 H2) → g x σ' H' fun σ2 H2 => tu { D with nx := N, ct := N, bk := tz D } σ2 H2)
    (hd : ∀ σ' H', Evl.Ex H H' → Sg σ' → tz D σ' H') : tSeq (tFor (iList K (tVar i)) g tu) tz D σ H := by
  refine q_forL (a := l) (xs := xs) (ev_var at_) (sq_of hl) (fun _ σ' H' => Evl.Ex H H' ∧ Sg σ') (fun H1 e => ⟨e, s0⟩) (fun i σ' H' _ pr => sq_of (pr.1 _ _ hl)) ?_ ?_
  · intro i x σ' H' hx pr
    exact hs x σ' H' pr.1 (List.mem_of_getElem? hx) pr.2 _ fun σ2 H2 e2 s2 => ⟨pr.1.trans e2, s2⟩
  · intro σ' H' pr
    exact hd σ' H' pr.1 pr.2
end
section
variable {K : PySem.W.Frag} {cs : List Addr} {hE : Addr} {σ : L2.St} {H : Hp} {a C : Addr} {bs : List Bool} {js : List Int} {tl te ta tb : TE} {i : Nat} {E : XK} {f : Str} {av : List Addr} {x : V} {d : PyData}
theorem et_or0 {t u : TT} (a : EvT t σ H false) (b : EvT u σ H false) : EvT (tOr t u) σ H false := fun H1 e Q q => a H1 e _ fun H2 e2 => by
  rw [if_neg Bool.false_ne_true]
  exact b H2 (e.trans e2) Q fun H3 e3 => q H3 (e2.trans e3)
theorem not_of {Q : Bool → Hp → Prop} (h : te σ H fun x H1 => ∃ c, x = .bl c ∧ Q (!c) H1) : tNot (tB te) σ H Q := h
theorem test_of {Q : Bool → Hp → Prop} (h : te σ H fun x H1 => ∃ c, x = .bl c ∧ Q c H1) : tTest te σ H Q := h
theorem et_single (at_ : σ[i]? = some (some (.ref a))) (kin : Kin K cs hE H a C bs) (hj : yes bs 13 = js) (ev : EvL tl σ H (js.map V.int)) : EvT (tNot (tB (tCall (spSingle K cs hE) [] E (tCons (tVar i) (tCons tl tNil))))) σ H false :=
  fun H1 e Q q => not_of (rd_single at_ (kin.ex e) hj (fun H2 e2 => ev H2 (e.trans e2)) fun H2 e2 => ⟨_, rfl, q H2 e2⟩)
/-- two texts that are the same -/
theorem et_ne {z : Str} (ha : Ev ta σ H (.str z)) (hb : Ev tb σ H (.str z)) : EvT (tTest (tOp rNe ta tb)) σ H false :=
  fun H1 e Q q => test_of (op_of (ha H1 e _ fun H2 e2 => hb H2 (e.trans e2) _ fun H3 e3 => ⟨rfl, _, congrArg V.bl (ne_self z), q H3 (e2.trans e3)⟩))
theorem ev_shown (at_ : σ[i]? = some (some x)) (hs : Shows av H x d) (hz : d.shown.length ≤ 100000) : Ev (tCall spShown [] E (tCons (tVar i) tNil)) σ H (.str (tell d)) :=
  fun H1 e Q q => rd_shown at_ (Shows.ex e hs) hz (q H1 (Ex.refl H1))
theorem ev_shownF (at_ : σ[i]? = some (some (.ref a))) (fl : FldOk K C f) (er : Err H a C f x) (hs : Shows av H x d) (hz : d.shown.length ≤ 100000) : Ev (tCall spShown [] E (tCons (tEf K f (tVar i)) tNil)) σ H (.str (tell d)) :=
  fun H1 e Q q => rd_shownF at_ fl.xf fl.no (er.ex e) (Shows.ex e hs) hz (q H1 (Ex.refl H1))
theorem el_one {z : Int} (h : Ev te σ H (.int z)) : EvL (tLst (tCons te tNil)) σ H ([z].map V.int) := el_lst (ea_cons h ea_nil) (by show 1 ≤ 100000; decide)
end
/-- the slots: the first three stand -/
def Sg3 (d : Addr) (x y : V) (σ : L2.St) : Prop := ∃ y3 y4 y5 y6 y7 y8, σ = [some (.ref d), some x, some y, y3, y4, y5, y6, y7, y8]
section
variable {K : PySem.W.Frag} {cs : List Addr} {hE : Addr} {σ : L2.St} {H : Hp} {D : Ends} {tz : TS} {E : XK} {d : Addr} {x y : V} {dx : PyData} {av : List Addr}
theorem q_err2 {C : Addr} {f : Str} {j : Nat} (kc : KinC K cs hE C j) (fl : FldOk K C f) (lj : j < 13) (sg : Sg3 d x y σ) (sx : Shows av H x dx) (zx : dx.shown.length ≤ 100000) (hd : ∀ σ' H', Evl.Ex H H' → Sg3 d x y σ' → tz D σ' H') :
    tSeq (tFor (iTup K (tTup (tCons (tNewE C (spInit C f) (tCons (tVar 1) tNil)) (tCons (tNewK C (spInit C f) (fun zs => zs) (tCons (tVar 1) tNil)) tNil)))) (gName 7)
      (tIfS (tOr (tNot (tB (tCall (spSingle K cs hE) [] E (tCons (tVar 7) (tCons (tLst (tCons (tC (.int (j : Int))) tNil)) tNil))))) (tTest (tOp rNe (tCall spShown [] E (tCons (tEf K f (tVar 7)) tNil)) (tCall spShown [] E (tCons (tVar 1) tNil))))) (tRet (tC (.bl false))) tNext)) tz D σ H := by
  have s0 := sg
  obtain ⟨y3, y4, y5, y6, y7, y8, rfl⟩ := sg
  refine q_forX (fun xs H' => ∀ v ∈ xs, ∃ a, v = .ref a ∧ Err H' a C f x) (fun Q k => ?_) (fun xs H1 H2 e p v hv => ?_) (Sg3 d x y) s0 ?_ hd
  · refine tup_of (c_of (rd_newE rfl sx zx fun a H1 e1 r1 => c_of (rd_newK rfl (Shows.ex e1 sx) zx fun b H2 e2 r2 => n_of ⟨by show 2 ≤ sizeLine; decide, fun p n => ?_⟩)))
    have e3 : Evl.Ex H2 (upd H2 p (.tup [.ref a, .ref b])) := Ex.new n
    refine k p _ _ ((e1.trans e2).trans e3) upd_same fun v hv => ?_
    simp only [List.mem_cons, List.not_mem_nil, or_false] at hv
    rcases hv with rfl | rfl
    · exact ⟨a, rfl, (r1.ex e2).ex e3⟩
    · exact ⟨b, rfl, r2.ex e3⟩
  · obtain ⟨a, h1, h2⟩ := p v hv
    exact ⟨a, h1, h2.ex e⟩
  · rintro v xs σ' H' e pt hv ⟨z3, z4, z5, z6, z7, z8, rfl⟩ N nx
    obtain ⟨a, rfl, er⟩ := pt v hv
    have sx' := Shows.ex e sx
    refine s_when (b := false) (et_or0 (et_single rfl (kc.kin er.held) (yes_hot j lj) (el_one ev_c)) (et_ne (ev_shownF rfl fl er sx' zx) (ev_shown rfl sx' zx))) (fun h => nomatch h) fun _ H8 e8 => ?_
    exact nx _ _ e8 ⟨_, _, _, _, _, _, rfl⟩
theorem rd_itemE {C : Addr} {f : Str} {m : Int} {Q : VK} (at1 : σ[1]? = some (some x)) (sx : Shows av H x dx) (zx : dx.shown.length ≤ 100000) (k : ∀ p a H', Evl.Ex H H' → H' p = some (.tup [.ref a, .int m]) → Err H' a C f x → Q (.ref p) H') :
    tTup (tCons (tNewE C (spInit C f) (tCons (tVar 1) tNil)) (tCons (tC (.int m)) tNil)) σ H Q :=
  tup_of (c_of (rd_newE at1 sx zx fun a H1 e1 r1 => ⟨by show 2 ≤ sizeLine; decide, fun p n => k p a _ (e1.trans (Ex.new n)) upd_same (r1.ex (Ex.new n))⟩))
theorem rd_itemK {C : Addr} {f : Str} {m : Int} {Q : VK} (at1 : σ[1]? = some (some x)) (sx : Shows av H x dx) (zx : dx.shown.length ≤ 100000) (k : ∀ p a H', Evl.Ex H H' → H' p = some (.tup [.ref a, .int m]) → Err H' a C f x → Q (.ref p) H') :
    tTup (tCons (tNewK C (spInit C f) (fun zs => zs) (tCons (tVar 1) tNil)) (tCons (tC (.int m)) tNil)) σ H Q :=
  tup_of (c_of (rd_newK at1 sx zx fun a H1 e1 r1 => ⟨by show 2 ≤ sizeLine; decide, fun p n => k p a _ (e1.trans (Ex.new n)) upd_same (r1.ex (Ex.new n))⟩))
/-- NoObject and NoLink, by position and by name -/
theorem q_err4 {A B : Addr} {f : Str} {i j : Nat} (ka : KinC K cs hE A i) (fa : FldOk K A f) (li : i < 13) (kb : KinC K cs hE B j) (fb : FldOk K B f) (lj : j < 13) (sg : Sg3 d x y σ) (sx : Shows av H x dx) (zx : dx.shown.length ≤ 100000) (hd : ∀ σ' H', Evl.Ex H H' → Sg3 d x y σ' → tz D σ' H') :
    tSeq (tFor (iTup K (tTup (tCons (tTup (tCons (tNewE A (spInit A f) (tCons (tVar 1) tNil)) (tCons (tC (.int (i : Int))) tNil))) (tCons (tTup (tCons (tNewK A (spInit A f) (fun zs => zs) (tCons (tVar 1) tNil)) (tCons (tC (.int (i : Int))) tNil)))
        (tCons (tTup (tCons (tNewE B (spInit B f) (tCons (tVar 1) tNil)) (tCons (tC (.int (j : Int))) tNil))) (tCons (tTup (tCons (tNewK B (spInit B f) (fun zs => zs) (tCons (tVar 1) tNil)) (tCons (tC (.int (j : Int))) tNil))) tNil)))))) (gTup K 2 (gCons (gName 7) (gCons (gName 6) gNil)))
      (tIfS (tOr (tNot (tB (tCall (spSingle K cs hE) [] E (tCons (tVar 7) (tCons (tLst (tCons (tVar 6) tNil)) tNil))))) (tTest (tOp rNe (tCall spShown [] E (tCons (tEf K f (tVar 7)) tNil)) (tCall spShown [] E (tCons (tVar 1) tNil))))) (tRet (tC (.bl false))) tNext)) tz D σ H := by
  have s0 := sg
  obtain ⟨y3, y4, y5, y6, y7, y8, rfl⟩ := sg
  refine q_forX (fun xs H' => ∀ v ∈ xs, ∃ (p a C : Addr) (m : Nat), v = .ref p ∧ H' p = some (.tup [.ref a, .int (m : Int)]) ∧ Err H' a C f x ∧ KinC K cs hE C m ∧ FldOk K C f ∧ m < 13) (fun Q k => ?_) (fun xs H1 H2 e p v hv => ?_) (Sg3 d x y) s0 ?_ hd
  · refine tup_of (c_of (rd_itemE rfl sx zx fun p1 a1 H2 e2 h2 r1 => c_of (rd_itemK rfl (Shows.ex e2 sx) zx fun p2 a2 H4 e4 h4 r3 => c_of (rd_itemE rfl (Shows.ex (e2.trans e4) sx) zx fun p3 a3 H6 e6 h6 r5 => c_of (rd_itemK rfl (Shows.ex ((e2.trans e4).trans e6) sx) zx fun p4 a4 H8 e8 h8 r7 => n_of ⟨by show 4 ≤ sizeLine; decide, fun p n => ?_⟩)))))
    have e9 : Evl.Ex H8 (upd H8 p (.tup [.ref p1, .ref p2, .ref p3, .ref p4])) := Ex.new n
    have g68 := e8.trans e9
    have g48 := e6.trans g68
    have g28 := e4.trans g48
    refine k p _ _ (e2.trans g28) upd_same fun v hv => ?_
    simp only [List.mem_cons, List.not_mem_nil, or_false] at hv
    rcases hv with rfl | rfl | rfl | rfl
    · exact ⟨p1, a1, A, i, rfl, g28 _ _ h2, r1.ex g28, ka, fa, li⟩
    · exact ⟨p2, a2, A, i, rfl, g48 _ _ h4, r3.ex g48, ka, fa, li⟩
    · exact ⟨p3, a3, B, j, rfl, g68 _ _ h6, r5.ex g68, kb, fb, lj⟩
    · exact ⟨p4, a4, B, j, rfl, e9 _ _ h8, r7.ex e9, kb, fb, lj⟩
  · obtain ⟨q, a, C, m, h1, h2, h3, h4, h5, h6⟩ := p v hv
    exact ⟨q, a, C, m, h1, e _ _ h2, h3.ex e, h4, h5, h6⟩
  · rintro v xs σ' H' e pt hv ⟨z3, z4, z5, z6, z7, z8, rfl⟩ N nx
    obtain ⟨p, a, C, m, rfl, hp, er, kc, fl, lm⟩ := pt v hv
    have sx' := Shows.ex e sx
    refine ⟨p, _, rfl, .inl (.inl hp), rfl, .ref a, _, rfl, .int m, [], rfl, rfl, ?_⟩
    refine s_when (b := false) (et_or0 (et_single rfl (kc.kin er.held) (yes_hot m lm) (el_one (ev_var rfl))) (et_ne (ev_shownF rfl fl er sx' zx) (ev_shown rfl sx' zx))) (fun h => nomatch h) fun _ H8 e8 => ?_
    exact nx _ _ e8 ⟨_, _, _, _, _, _, rfl⟩
end
/-- a Fault at a that keeps x and y -/
def ErrF (H : Hp) (a C : Addr) (x y : V) : Prop := ∃ dd, H a = some (exo a C (some dd)) ∧ H dd = some (exd dd [("row", y), ("word", x)])
theorem ErrF.ex {H H' : Hp} {a C : Addr} {x y : V} (e : Evl.Ex H H') (h : ErrF H a C x y) : ErrF H' a C x y := let ⟨dx, h1, h2⟩ := h; ⟨dx, e _ _ h1, e _ _ h2⟩
theorem ErrF.held {H : Hp} {a C : Addr} {x y : V} (h : ErrF H a C x y) : Held H a C := let ⟨dx, h1, h2⟩ := h; .inr ⟨dx, _, h1, h2⟩
section
variable {K : PySem.W.Frag} {cs : List Addr} {hE : Addr} {σ : L2.St} {H : Hp} {D : Ends} {tz : TS} {E : XK} {d : Addr} {x y : V} {dx dy : PyData} {av : List Addr} {C : Addr}
theorem fault_want {Q : VK} (sx : Shows av H x dx) (zx : dx.shown.length ≤ 100000) (sy : Shows av H y dy) (zy : dy.shown.length ≤ 100000) (k : ∀ a H', Evl.Ex H H' → ErrF H' a C x y → Q (.ref a) H') (a : Addr) (n : H a = none) :
    spFault C [.ref a, x, y] (upd H a (exo a C none)) (fun v H2 => v = .non ∧ Q (.ref a) H2) fun _ _ _ => False := by
  refine ⟨a, av, x, y, dx, dy, rfl, upd_same, Shows.ex (Ex.new n) sx, zx, Shows.ex (Ex.new n) sy, zy, fun dd m ne => ⟨rfl, ?_⟩⟩
  have nd : H dd = none := fresh_back (Ex.new n) m
  refine k a _ ((((Ex.new n).trans (Ex.new m)).mut n).mut nd) ⟨dd, ?_, upd_same⟩
  rw [upd_ne (Ne.symm ne)]
  exact upd_same
theorem rd_faultE {Q : VK} (a1 : σ[1]? = some (some x)) (a2 : σ[2]? = some (some y)) (sx : Shows av H x dx) (zx : dx.shown.length ≤ 100000) (sy : Shows av H y dy) (zy : dy.shown.length ≤ 100000) (k : ∀ a H', Evl.Ex H H' → ErrF H' a C x y → Q (.ref a) H') : tNewE C (spFault C) (tCons (tVar 1) (tCons (tVar 2) tNil)) σ H Q :=
  ⟨x, a1, y, a2, by show 2 ≤ 1000; decide, fun a n => fault_want sx zx sy zy k a n⟩
theorem rd_faultK {Q : VK} (a1 : σ[1]? = some (some x)) (a2 : σ[2]? = some (some y)) (sx : Shows av H x dx) (zx : dx.shown.length ≤ 100000) (sy : Shows av H y dy) (zy : dy.shown.length ≤ 100000) (k : ∀ a H', Evl.Ex H H' → ErrF H' a C x y → Q (.ref a) H') : tNewK C (spFault C) swap (tCons (tVar 2) (tCons (tVar 1) tNil)) σ H Q :=
  ⟨y, a2, x, a1, fun a n => fault_want sx zx sy zy k a n⟩
theorem ev_shownX {a : Addr} {f : Str} {i : Nat} {z : V} {dz : PyData} {fs : List (Str × V)} {dd : Addr} (at_ : σ[i]? = some (some (.ref a))) (fl : FldOk K C f) (h1 : H a = some (exo a C (some dd))) (h2 : H dd = some (exd dd fs)) (l : fs.lookup f = some z) (hs : Shows av H z dz) (hz : dz.shown.length ≤ 100000) :
    Ev (tCall spShown [] E (tCons (tEf K f (tVar i)) tNil)) σ H (.str (tell dz)) :=
  fun H1 e Q q => ⟨_, at_, a, C, dd, fs, z, rfl, fl.xf, fl.no, e _ _ h1, e _ _ h2, l, av, z, dz, rfl, Shows.ex e hs, hz, q H1 (Ex.refl H1)⟩
theorem tell_len (d : PyData) (h : d.shown.length ≤ 100000) : (tell d).length ≤ 100005 := by
  unfold tell
  rw [strLen_append]
  have : (if isB d then ("True" : Str) else ("False" : Str)).length ≤ 5 := by cases isB d <;> decide
  omega
theorem ev_cat {ta tb : TE} {z w : Str} (ha : Ev ta σ H (.str z)) (hb : Ev tb σ H (.str w)) (hz : z.length ≤ 100005) (hw : w.length ≤ 100005) :
    Ev (tOp (fun x y H Q => ∃ i j, x = V.str i ∧ y = V.str j ∧ i.length + j.length ≤ sizeLine ∧ Q (V.str (i ++ j)) H) ta tb) σ H (.str (z ++ w)) :=
  fun H1 e Q q => op_of (ha H1 e _ fun H2 e2 => hb H2 (e.trans e2) _ fun H3 e3 => ⟨z, w, rfl, rfl, by rw [sizeLine_eq]; omega, q H3 (e2.trans e3)⟩)
theorem q_fault (kc : KinC K cs hE C 6) (fw : FldOk K C "word") (fr : FldOk K C "row") (sg : Sg3 d x y σ) (sx : Shows av H x dx) (zx : dx.shown.length ≤ 100000) (sy : Shows av H y dy) (zy : dy.shown.length ≤ 100000) (hd : ∀ σ' H', Evl.Ex H H' → Sg3 d x y σ' → tz D σ' H') :
    tSeq (tFor (iTup K (tTup (tCons (tNewE C (spFault C) (tCons (tVar 1) (tCons (tVar 2) tNil))) (tCons (tNewK C (spFault C) swap (tCons (tVar 2) (tCons (tVar 1) tNil))) tNil)))) (gName 7)
      (tSeq (tAsg (tOp (fun x y H Q => ∃ i j, x = V.str i ∧ y = V.str j ∧ i.length + j.length ≤ sizeLine ∧ Q (V.str (i ++ j)) H) (tCall spShown [] E (tCons (tEf K "word" (tVar 7)) tNil)) (tCall spShown [] E (tCons (tEf K "row" (tVar 7)) tNil))) (gName 8))
        (tIfS (tOr (tNot (tB (tCall (spSingle K cs hE) [] E (tCons (tVar 7) (tCons (tLst (tCons (tC (.int 6)) tNil)) tNil)))))
          (tTest (tOp rNe (tVar 8) (tOp (fun x y H Q => ∃ i j, x = V.str i ∧ y = V.str j ∧ i.length + j.length ≤ sizeLine ∧ Q (V.str (i ++ j)) H) (tCall spShown [] E (tCons (tVar 1) tNil)) (tCall spShown [] E (tCons (tVar 2) tNil)))))) (tRet (tC (.bl false))) tNext))) tz D σ H := by
  have s0 := sg
  obtain ⟨y3, y4, y5, y6, y7, y8, rfl⟩ := sg
  refine q_forX (fun xs H' => ∀ v ∈ xs, ∃ a, v = .ref a ∧ ErrF H' a C x y) (fun Q k => ?_) (fun xs H1 H2 e p v hv => ?_) (Sg3 d x y) s0 ?_ hd
  · refine tup_of (c_of (rd_faultE rfl rfl sx zx sy zy fun a H1 e1 r1 => c_of (rd_faultK rfl rfl (Shows.ex e1 sx) zx (Shows.ex e1 sy) zy fun b H2 e2 r2 => n_of ⟨by show 2 ≤ sizeLine; decide, fun p n => ?_⟩)))
    have e3 : Evl.Ex H2 (upd H2 p (.tup [.ref a, .ref b])) := Ex.new n
    refine k p _ _ ((e1.trans e2).trans e3) upd_same fun v hv => ?_
    simp only [List.mem_cons, List.not_mem_nil, or_false] at hv
    rcases hv with rfl | rfl
    · exact ⟨a, rfl, (r1.ex e2).ex e3⟩
    · exact ⟨b, rfl, r2.ex e3⟩
  · obtain ⟨a, h1, h2⟩ := p v hv
    exact ⟨a, h1, h2.ex e⟩
  · rintro v xs σ' H' e pt hv ⟨z3, z4, z5, z6, z7, z8, rfl⟩ N nx
    obtain ⟨a, rfl, dd, ea, ed⟩ := pt v hv
    have sx' := Shows.ex e sx
    have sy' := Shows.ex e sy
    have lx := tell_len dx zx
    have ly := tell_len dy zy
    refine seq_of (asg_of (ev_cat (z := tell dx) (w := tell dy) (ev_shownX rfl fw ea ed rfl sx' zx) (ev_shownX rfl fr ea ed rfl sy' zy) lx ly H' (Ex.refl H') _ fun H8 e8 => ?_))
    have er : ErrF H8 a C x y := ⟨dd, e8 _ _ ea, e8 _ _ ed⟩
    refine s_when (b := false) (et_or0 (et_single (js := [6]) rfl (kc.kin er.held) (yes_hot 6 (by decide)) (el_one ev_c)) (et_ne (z := tell dx ++ tell dy) (ev_var rfl) (ev_cat (ev_shown rfl (Shows.ex e8 sx') zx) (ev_shown rfl (Shows.ex e8 sy') zy) lx ly))) (fun h => nomatch h) fun _ H9 e9 => ?_
    exact nx _ _ (e8.trans e9) ⟨_, _, _, _, _, _, rfl⟩
end
section
variable {σ : L2.St} {H : Hp} {Q : VK} {ta tb : TE} {tt : TA} {C : Addr}
theorem andv_of (h : ta σ H fun x H1 => ∃ c, x = .bl c ∧ if c = true then tb σ H1 Q else Q (.bl false) H1) : tAndV ta tb σ H Q := h
theorem call_of {sp : Sp} {dvs : List V} {E : XK} (h : tt σ H fun vs H1 => sp (vs ++ dvs) H1 Q E) : tCall sp dvs E tt σ H Q := h
theorem rd_mark (k : ∀ a H', Evl.Ex H H' → H' a = some (exo a C none) → Q (.ref a) H') : tNewE C (spMark C) tNil σ H Q :=
  ⟨Nat.zero_le _, fun a n => ⟨a, rfl, upd_same, rfl, k a _ (Ex.new n) upd_same⟩⟩
theorem rd_bare (k : ∀ a H', Evl.Ex H H' → H' a = some (exo a C none) → Q (.ref a) H') : tBare C σ H Q := fun a n => k a _ (Ex.new n) upd_same
theorem yes_none : yes (List.replicate 13 false) 13 = [] := by decide +kernel
end
section
variable {P : Program} {w : World} {K : PySem.W.Frag} {mg : Str → Option Value} {base : Heap}
theorem ok_right {f fD fS fW hE : Addr} {fd fdD fdS fdW : FuncData} {cs : List Addr} {c0 f0 c1 f1 c2 f2 c3 f3 c4 f4 c5 f5 c7 f7 c8 f8 c9 f9 c10 f10 c12 f12 cF fF cM fM : Addr} {fd0 fd1 fd2 fd3 fd4 fd5 fd7 fd8 fd9 fd10 fd12 fdF fdM : FuncData} (F : Fun K "_law_right" "_law_right" sRight f fd) (FD : Fun K "_law_drawn" "_law_drawn" sDrawn fD fdD) (FS : Fun K "_law_is_single" "_law_is_single" sSingle fS fdS) (FW : Fun K "_law_shown" "_law_shown" sShown fW fdW)
    (bD : Binds K fdD ["_law_pot", "_law_depth"] []) (bS : Binds K fdS ["_law_error", "_law_spot"] []) (bW : Binds K fdW ["_law_thing"] []) (gD : mg "_law_drawn" = some (.ref fD)) (gS : mg "_law_is_single" = some (.ref fS)) (gW : mg "_law_shown" = some (.ref fW))
    (D3 : FnOk P w K mg base CX0 6 fD fdD ["_law_pot", "_law_depth"] (spDrawn 3)) (D2 : FnOk P w K mg base CX0 5 fD fdD ["_law_pot", "_law_depth"] (spDrawn 2)) (S2 : FnOk P w K mg base CX0 2 fS fdS ["_law_error", "_law_spot"] (spSingle K cs hE)) (W1 : FnG P w K mg base CX0 1 fW fdW ["_law_thing"] spShown)
    (o0 : One P w K mg base cs hE "BadRow" "row" 0 c0 f0 fd0) (o1 : One P w K mg base cs hE "BadBlock" "row" 1 c1 f1 fd1) (o2 : One P w K mg base cs hE "Twice" "row" 2 c2 f2 fd2) (o3 : One P w K mg base cs hE "NoProcedure" "row" 3 c3 f3 fd3) (o4 : One P w K mg base cs hE "WrongCount" "row" 4 c4 f4 fd4) (o5 : One P w K mg base cs hE "BadPolicy" "word" 5 c5 f5 fd5) (o7 : One P w K mg base cs hE "NoObject" "value" 7 c7 f7 fd7) (o8 : One P w K mg base cs hE "NoLink" "value" 8 c8 f8 fd8) (o9 : One P w K mg base cs hE "TooMany" "count" 9 c9 f9 fd9) (o10 : One P w K mg base cs hE "BadText" "row" 10 c10 f10 fd10) (o12 : One P w K mg base cs hE "BadLine" "line" 12 c12 f12 fd12) (oF : OneF P w K mg base cs hE cF fF fdF) (oM : OneM P w K mg base cs hE cM fM fdM)
    (gH : mg "HeapError" = some (.ref hE)) (kH : PySem.W.keepIn K (.ref hE) = true) (bare : PySem.W.excIn K hE [.type "ValueError", .type "Exception", .type "BaseException", .type "object"] "ValueError.__new__" = true) (exH : ExcC K hE) (sayH : Says K hE cs (List.replicate 13 false)) (valH : PySem.W.kitOne K (.ref hE) (.type "ValueError") = some true) :
    FnG P w K mg base CX0 7 f fd ["_law_pot"] spRight := by
  have G3 : FnOk P w K mg base CX0 6 fD fdD ["_law_pot", "_law_depth"] (spDrawn 3) := D3
  have G2 : FnOk P w K mg base CX0 6 fD fdD ["_law_pot", "_law_depth"] (spDrawn 2) := D2.mono (by decide)
  have GS : FnOk P w K mg base CX0 6 fS fdS ["_law_error", "_law_spot"] (spSingle K cs hE) := S2.mono (by decide)
  have GW : FnG P w K mg base CX0 6 fW fdW ["_law_thing"] spShown := W1.up (by decide)
  refine fng0_of F scRight (fun vs H Q E h => ?_) (fun cdv A outer s H vs Q E hr gd h => ?_)
  · obtain ⟨d, n, rfl, _⟩ := h
    rfl
  · obtain ⟨d, n, rfl, hP, hn, q⟩ := h
    refine ⟨_, (pss_cons (ps_par (i := 1) (j := 2) rfl scRight.nd rfl rfl (by decide) rfl rfl (pa_cons (pe_call G3 hr (by rfl) gD FD.kp bD .nil pass0 (pa_cons (pv 0) (pa_cons pe_int pa_nil))) (pa_cons (pe_call G2 hr (by rfl) gD FD.kp bD .nil pass0 (pa_cons (pv 0) (pa_cons pe_int pa_nil))) pa_nil)) (by rfl))
      (pss_cons (ps_set (i := 3) scRight.nd rfl (.inl rfl) (pe_lst (pa_cons (pe_tup (pa_cons (pe_newE o0.own o0.cls.kp o0.fn (hr.mono (by decide)) gd pass0 (by rfl) o0.cls.at_ o0.bE (pa_cons (pv 1) pa_nil)) (pa_cons (pe_newK o0.own o0.cls.kp o0.fn (hr.mono (by decide)) gd pass0 (by rfl) o0.cls.at_ o0.bK (fun r => r) (pk_cons (pv 1) pk_nil)) (pa_cons pe_int pa_nil)))) (pa_cons (pe_tup (pa_cons (pe_newE o1.own o1.cls.kp o1.fn (hr.mono (by decide)) gd pass0 (by rfl) o1.cls.at_ o1.bE (pa_cons (pv 1) pa_nil)) (pa_cons (pe_newK o1.own o1.cls.kp o1.fn (hr.mono (by decide)) gd pass0 (by rfl) o1.cls.at_ o1.bK (fun r => r) (pk_cons (pv 1) pk_nil)) (pa_cons pe_int pa_nil)))) pa_nil))))
      (pss_cons (ps_set (i := 3) scRight.nd rfl (.inl rfl) (pe_op op_cat (pv 3) (pe_lst (pa_cons (pe_tup (pa_cons (pe_newE o2.own o2.cls.kp o2.fn (hr.mono (by decide)) gd pass0 (by rfl) o2.cls.at_ o2.bE (pa_cons (pv 1) pa_nil)) (pa_cons (pe_newK o2.own o2.cls.kp o2.fn (hr.mono (by decide)) gd pass0 (by rfl) o2.cls.at_ o2.bK (fun r => r) (pk_cons (pv 1) pk_nil)) (pa_cons pe_int pa_nil)))) (pa_cons (pe_tup (pa_cons (pe_newE o3.own o3.cls.kp o3.fn (hr.mono (by decide)) gd pass0 (by rfl) o3.cls.at_ o3.bE (pa_cons (pv 1) pa_nil)) (pa_cons (pe_newK o3.own o3.cls.kp o3.fn (hr.mono (by decide)) gd pass0 (by rfl) o3.cls.at_ o3.bK (fun r => r) (pk_cons (pv 1) pk_nil)) (pa_cons pe_int pa_nil)))) pa_nil)))))
      (pss_cons (ps_set (i := 3) scRight.nd rfl (.inl rfl) (pe_op op_cat (pv 3) (pe_lst (pa_cons (pe_tup (pa_cons (pe_newE o4.own o4.cls.kp o4.fn (hr.mono (by decide)) gd pass0 (by rfl) o4.cls.at_ o4.bE (pa_cons (pv 1) pa_nil)) (pa_cons (pe_newK o4.own o4.cls.kp o4.fn (hr.mono (by decide)) gd pass0 (by rfl) o4.cls.at_ o4.bK (fun r => r) (pk_cons (pv 1) pk_nil)) (pa_cons pe_int pa_nil)))) (pa_cons (pe_tup (pa_cons (pe_newE o10.own o10.cls.kp o10.fn (hr.mono (by decide)) gd pass0 (by rfl) o10.cls.at_ o10.bE (pa_cons (pv 1) pa_nil)) (pa_cons (pe_newK o10.own o10.cls.kp o10.fn (hr.mono (by decide)) gd pass0 (by rfl) o10.cls.at_ o10.bK (fun r => r) (pk_cons (pv 1) pk_nil)) (pa_cons pe_int pa_nil)))) pa_nil)))))
      (pss_cons (ps_for PassesOwn.never rfl (pi_list (pv 3)) (pg_tup (n := 3) rfl (pgs_cons (pg_name (i := 4) scRight.nd rfl (.inl rfl)) (pgs_cons (pg_name (i := 5) scRight.nd rfl (.inl rfl)) (pgs_cons (pg_name (i := 6) scRight.nd rfl (.inl rfl)) pgs_nil)))) (pss_cons (ps_if (pw_or (pt_not (pt_val (pe_call GS hr (by rfl) gS FS.kp bS .nil pass0 (pa_cons (pv 4) (pa_cons (pe_lst (pa_cons (pv 6) pa_nil)) pa_nil))))) (pw_or1 (pt_not (pt_val (pe_call GS hr (by rfl) gS FS.kp bS .nil pass0 (pa_cons (pv 5) (pa_cons (pe_lst (pa_cons (pv 6) pa_nil)) pa_nil))))))).pt (pss_one (ps_ret pe_bl)) pss_nil)
      (pss_one (ps_if (pw_or (pt_cmpR op_ne (pe_callG GW hr gd (by rfl) gW FW.kp bW .nil pass0 (pa_cons (pe_ef (pv 4)) pa_nil)) (pe_callG GW hr gd (by rfl) gW FW.kp bW .nil pass0 (pa_cons (pv 1) pa_nil)) (nomark _)) (pw_or1 (pt_cmpR op_ne (pe_callG GW hr gd (by rfl) gW FW.kp bW .nil pass0 (pa_cons (pe_ef (pv 5)) pa_nil)) (pe_callG GW hr gd (by rfl) gW FW.kp bW .nil pass0 (pa_cons (pv 1) pa_nil)) (nomark _)))).pt (pss_one (ps_ret pe_bl)) pss_nil))))
      (pss_cons (ps_for PassesOwn.never rfl (pi_tup (pe_tup (pa_cons (pe_newE o5.own o5.cls.kp o5.fn (hr.mono (by decide)) gd pass0 (by rfl) o5.cls.at_ o5.bE (pa_cons (pv 1) pa_nil)) (pa_cons (pe_newK o5.own o5.cls.kp o5.fn (hr.mono (by decide)) gd pass0 (by rfl) o5.cls.at_ o5.bK (fun r => r) (pk_cons (pv 1) pk_nil)) pa_nil)))) (pg_name (i := 7) scRight.nd rfl (.inl rfl)) (pss_one (ps_if (pw_or (pt_not (pt_val (pe_call GS hr (by rfl) gS FS.kp bS .nil pass0 (pa_cons (pv 7) (pa_cons (pe_lst (pa_cons pe_int pa_nil)) pa_nil))))) (pw_or1 (pt_cmpR op_ne (pe_callG GW hr gd (by rfl) gW FW.kp bW .nil pass0 (pa_cons (pe_ef (pv 7)) pa_nil)) (pe_callG GW hr gd (by rfl) gW FW.kp bW .nil pass0 (pa_cons (pv 1) pa_nil)) (nomark _)))).pt (pss_one (ps_ret pe_bl)) pss_nil)))
      (pss_cons (ps_for PassesOwn.never rfl (pi_tup (pe_tup (pa_cons (pe_newE oF.own oF.kp oF.fn (hr.mono (by decide)) gd pass0 (by rfl) oF.at_ oF.bE (pa_cons (pv 1) (pa_cons (pv 2) pa_nil))) (pa_cons (pe_newK oF.own oF.kp oF.fn (hr.mono (by decide)) gd pass0 (by rfl) oF.at_ oF.bK rev2 (pk_cons (pv 2) (pk_cons (pv 1) pk_nil))) pa_nil)))) (pg_name (i := 7) scRight.nd rfl (.inl rfl)) (pss_cons (ps_set (i := 8) scRight.nd rfl (.inl rfl) (pe_op op_add_str (pe_callG GW hr gd (by rfl) gW FW.kp bW .nil pass0 (pa_cons (pe_ef (pv 7)) pa_nil)) (pe_callG GW hr gd (by rfl) gW FW.kp bW .nil pass0 (pa_cons (pe_ef (pv 7)) pa_nil))))
      (pss_one (ps_if (pw_or (pt_not (pt_val (pe_call GS hr (by rfl) gS FS.kp bS .nil pass0 (pa_cons (pv 7) (pa_cons (pe_lst (pa_cons pe_int pa_nil)) pa_nil))))) (pw_or1 (pt_cmpR op_ne (pv 8) (pe_op op_add_str (pe_callG GW hr gd (by rfl) gW FW.kp bW .nil pass0 (pa_cons (pv 1) pa_nil)) (pe_callG GW hr gd (by rfl) gW FW.kp bW .nil pass0 (pa_cons (pv 2) pa_nil))) (nomark _)))).pt (pss_one (ps_ret pe_bl)) pss_nil))))
      (pss_cons (ps_for PassesOwn.never rfl (pi_tup (pe_tup (pa_cons (pe_tup (pa_cons (pe_newE o7.own o7.cls.kp o7.fn (hr.mono (by decide)) gd pass0 (by rfl) o7.cls.at_ o7.bE (pa_cons (pv 1) pa_nil)) (pa_cons pe_int pa_nil))) (pa_cons (pe_tup (pa_cons (pe_newK o7.own o7.cls.kp o7.fn (hr.mono (by decide)) gd pass0 (by rfl) o7.cls.at_ o7.bK (fun r => r) (pk_cons (pv 1) pk_nil)) (pa_cons pe_int pa_nil))) (pa_cons (pe_tup (pa_cons (pe_newE o8.own o8.cls.kp o8.fn (hr.mono (by decide)) gd pass0 (by rfl) o8.cls.at_ o8.bE (pa_cons (pv 1) pa_nil)) (pa_cons pe_int pa_nil))) (pa_cons (pe_tup (pa_cons (pe_newK o8.own o8.cls.kp o8.fn (hr.mono (by decide)) gd pass0 (by rfl) o8.cls.at_ o8.bK (fun r => r) (pk_cons (pv 1) pk_nil)) (pa_cons pe_int pa_nil))) pa_nil)))))) (pg_tup (n := 2) rfl (pgs_cons (pg_name (i := 7) scRight.nd rfl (.inl rfl)) (pgs_cons (pg_name (i := 6) scRight.nd rfl (.inl rfl)) pgs_nil))) (pss_one (ps_if (pw_or (pt_not (pt_val (pe_call GS hr (by rfl) gS FS.kp bS .nil pass0 (pa_cons (pv 7) (pa_cons (pe_lst (pa_cons (pv 6) pa_nil)) pa_nil))))) (pw_or1 (pt_cmpR op_ne (pe_callG GW hr gd (by rfl) gW FW.kp bW .nil pass0 (pa_cons (pe_ef (pv 7)) pa_nil)) (pe_callG GW hr gd (by rfl) gW FW.kp bW .nil pass0 (pa_cons (pv 1) pa_nil)) (nomark _)))).pt (pss_one (ps_ret pe_bl)) pss_nil)))
      (pss_cons (ps_for PassesOwn.never rfl (pi_tup (pe_tup (pa_cons (pe_newE o9.own o9.cls.kp o9.fn (hr.mono (by decide)) gd pass0 (by rfl) o9.cls.at_ o9.bE (pa_cons (pv 1) pa_nil)) (pa_cons (pe_newK o9.own o9.cls.kp o9.fn (hr.mono (by decide)) gd pass0 (by rfl) o9.cls.at_ o9.bK (fun r => r) (pk_cons (pv 1) pk_nil)) pa_nil)))) (pg_name (i := 7) scRight.nd rfl (.inl rfl)) (pss_one (ps_if (pw_or (pt_not (pt_val (pe_call GS hr (by rfl) gS FS.kp bS .nil pass0 (pa_cons (pv 7) (pa_cons (pe_lst (pa_cons pe_int pa_nil)) pa_nil))))) (pw_or1 (pt_cmpR op_ne (pe_callG GW hr gd (by rfl) gW FW.kp bW .nil pass0 (pa_cons (pe_ef (pv 7)) pa_nil)) (pe_callG GW hr gd (by rfl) gW FW.kp bW .nil pass0 (pa_cons (pv 1) pa_nil)) (nomark _)))).pt (pss_one (ps_ret pe_bl)) pss_nil)))
      (pss_cons (ps_for PassesOwn.never rfl (pi_tup (pe_tup (pa_cons (pe_newE o12.own o12.cls.kp o12.fn (hr.mono (by decide)) gd pass0 (by rfl) o12.cls.at_ o12.bE (pa_cons (pv 1) pa_nil)) (pa_cons (pe_newK o12.own o12.cls.kp o12.fn (hr.mono (by decide)) gd pass0 (by rfl) o12.cls.at_ o12.bK (fun r => r) (pk_cons (pv 1) pk_nil)) pa_nil)))) (pg_name (i := 7) scRight.nd rfl (.inl rfl)) (pss_one (ps_if (pw_or (pt_not (pt_val (pe_call GS hr (by rfl) gS FS.kp bS .nil pass0 (pa_cons (pv 7) (pa_cons (pe_lst (pa_cons pe_int pa_nil)) pa_nil))))) (pw_or1 (pt_cmpR op_ne (pe_callG GW hr gd (by rfl) gW FW.kp bW .nil pass0 (pa_cons (pe_ef (pv 7)) pa_nil)) (pe_callG GW hr gd (by rfl) gW FW.kp bW .nil pass0 (pa_cons (pv 1) pa_nil)) (nomark _)))).pt (pss_one (ps_ret pe_bl)) pss_nil)))
      (pss_one (ps_ret (pe_and (pe_call GS hr (by rfl) gS FS.kp bS .nil pass0 (pa_cons (pe_new0 oM.own oM.kp oM.fn (hr.mono (by decide)) gd pass0 (by rfl) oM.at_ oM.bE) (pa_cons (pe_lst (pa_cons pe_int pa_nil)) pa_nil))) (pe_one (pe_call GS hr (by rfl) gS FS.kp bS .nil pass0 (pa_cons (pe_bare PySem.F.excBase_ValueError bare (by rfl) gH kH) (pa_cons (pe_lst pa_nil) pa_nil))))))))))))))))), ?_⟩
    have o12c := o12.cls.kinC
    have o12f := o12.fld
    have o1c := o1.cls.kinC
    have o1f := o1.fld
    have o2c := o2.cls.kinC
    have o2f := o2.fld
    refine ⟨_, rfl, d, n, rfl, hP, by omega, fun H1 x ex o1 p1 x1 gx => ?_⟩
    refine ⟨_, rfl, d, n + 16, rfl, p1.up (by omega), by omega, fun H2 y ey o2 p2 y1 gy => ⟨_, _, rfl, ?_⟩⟩
    have o12 := o1.trans o2
    have x2 := Dq.keep (but_off o2) x1
    have sx : Shows [d] H2 x ex := gx.shows (by decide) x2
    have sy : Shows [d] H2 y ey := gy.shows (by decide) y1
    have zx : ex.shown.length ≤ 100000 := by have := gx.2.2; omega
    have zy : ey.shown.length ≤ 100000 := by have := gy.2.2; omega
    have q' : ∀ H', Evl.Ex H2 H' → Q (.bl true) H' := fun H' e => q H' (o12.trans (Off.of e)) ((p2.ex e).up (by omega))
    clear q
    try dsimp only
    refine rd_set2 (K := K) (cs := cs) (hE := hE) rfl sx zx o0.cls.kinC o0.fld (by decide) o1c o1f (by decide) fun r1 t0 t1 H3 e3 l3 w0 w1 => ?_
    try dsimp only
    refine rd_cat2 (K := K) (cs := cs) (hE := hE) rfl l3 (by show 2 ≤ 1000; decide) rfl (Shows.ex e3 sx) zx o2c o2f (by decide) o3.cls.kinC o3.fld (by decide) fun r2 t2 t3 H4 e4 l4 w2 w3 => ?_
    try dsimp only
    refine rd_cat2 (K := K) (cs := cs) (hE := hE) rfl l4 (by show 4 ≤ 1000; decide) rfl (Shows.ex (e3.trans e4) sx) zx o4.cls.kinC o4.fld (by decide) o10.cls.kinC o10.fld (by decide) fun r3 t4 t5 H5 e5 l5 w4 w5 => ?_
    have all : ∀ t ∈ ([t0, t1, t2, t3, t4, t5] : List V), RowOk K cs hE H5 x t := by
      intro t ht
      simp only [List.mem_cons, List.not_mem_nil, or_false] at ht
      rcases ht with rfl | rfl | rfl | rfl | rfl | rfl
      · exact (w0.ex e4).ex e5
      · exact (w1.ex e4).ex e5
      · exact w2.ex e5
      · exact w3.ex e5
      · exact w4
      · exact w5
    have e25 := (e3.trans e4).trans e5
    clear w0 w1 w2 w3 w4 w5 l3 l4
    try dsimp only
    refine q_forY rfl l5 (Sg3 d x y) ⟨_, _, _, _, _, _, rfl⟩ ?_ ?_
    · rintro t σ' H6 e6 ht ⟨y3, y4, y5, y6, y7, y8, rfl⟩ N nx
      obtain ⟨p, a, b, C, j, rfl, hp, lj, ra, rb, kc, fl⟩ := (all t ht).ex e6
      have sx6 := Shows.ex (e25.trans e6) sx
      refine ⟨p, _, rfl, .inl (.inl hp), rfl, .ref a, _, rfl, .ref b, _, rfl, .int j, [], rfl, rfl, ?_⟩
      refine q_when (b := false) (et_or0 (et_single rfl (kc.kin ra.held) (yes_hot j lj) (el_one (ev_var rfl))) (et_single rfl (kc.kin rb.held) (yes_hot j lj) (el_one (ev_var rfl)))) (fun h => nomatch h) fun _ H7 e7 => ?_
      have sx7 := Shows.ex e7 sx6
      refine s_when (b := false) (et_or0 (et_ne (ev_shownF rfl fl (ra.ex e7) sx7 zx) (ev_shown rfl sx7 zx)) (et_ne (ev_shownF rfl fl (rb.ex e7) sx7 zx) (ev_shown rfl sx7 zx))) (fun h => nomatch h) fun _ H8 e8 => ?_
      exact nx _ _ (e7.trans e8) ⟨_, _, _, _, _, _, rfl⟩
    rintro σ' H6 e6 ⟨y3, y4, y5, y6, y7, y8, rfl⟩
    have e26 := e25.trans e6
    clear all l5
    refine q_err2 (d := d) (x := x) (y := y) (j := 5) o5.cls.kinC o5.fld (by decide) ⟨_, _, _, _, _, _, rfl⟩ (Shows.ex e26 sx) zx fun σ1 H7 e7 sg1 => ?_
    have e27 := e26.trans e7
    refine q_fault (d := d) (x := x) (y := y) oF.kinC oF.fldW oF.fldR sg1 (Shows.ex e27 sx) zx (Shows.ex e27 sy) zy fun σ2 H8 e8 sg2 => ?_
    have e28 := e27.trans e8
    refine q_err4 (d := d) (x := x) (y := y) (i := 7) (j := 8) o7.cls.kinC o7.fld (by decide) o8.cls.kinC o8.fld (by decide) sg2 (Shows.ex e28 sx) zx fun σ3 H9 e9 sg3 => ?_
    have e29 := e28.trans e9
    refine q_err2 (d := d) (x := x) (y := y) (j := 9) o9.cls.kinC o9.fld (by decide) sg3 (Shows.ex e29 sx) zx fun σ4 H10 e10 sg4 => ?_
    have e210 := e29.trans e10
    refine q_err2 (d := d) (x := x) (y := y) (j := 12) o12c o12f (by decide) sg4 (Shows.ex e210 sx) zx fun σ5 H11 e11 sg5 => ?_
    have e211 := e210.trans e11
    refine ret_of (andv_of (call_of (c_of (rd_mark fun a Ha ea ra => c_of (el_one (z := 11) ev_c Ha (Ex.refl Ha) _ fun p Hb np eb hb => n_of ?_)))))
    refine ⟨a, p, cM, hot 11, rfl, oM.kinC.kin (.inl (eb _ _ ra)), by rw [yes_hot 11 (by decide)]; exact hb, fun Hc ec => ⟨true, rfl, ?_⟩⟩
    rw [if_pos rfl]
    refine call_of (c_of (rd_bare fun a2 Hd ed rd => c_of (lst_of (n_of ⟨Nat.zero_le _, fun p2 n2 => n_of ?_⟩))))
    have el : Evl.Ex Hd (upd Hd p2 (.lst [])) := Ex.new n2
    refine ⟨a2, p2, hE, List.replicate 13 false, rfl, ⟨.inl (el _ _ rd), exH, sayH, ?_, valH⟩, by rw [yes_none]; exact upd_same, fun He ee => ?_⟩
    · unfold PySem.W.kitOne
      rw [if_pos (by simp)]
    · exact q' He ((((((e211.trans ea).trans eb).trans ec).trans ed).trans el).trans ee)
end
end Pe
namespace Pe
open PySem PySem.Spec PyProof.Rows L2 Evl Gd Ex
theorem Off.ex {d : Addr} {H H' : Hp} (e : Off d H H') (n : H d = none) : Evl.Ex H H' := fun a o h => e a o (ne_of_none h n) h
abbrev sLaw : Stmt := topS 24
abbrev nLaw : List Str := ["_law_script", "_law_k", "_law_pot", "_law_turn"]
theorem scLaw : FnScope nLaw ["_law_script"] (defScope sLaw) := ⟨rfl, rfl, rfl, by decide +kernel, rfl, by decide +kernel, by decide +kernel⟩
def spLaw (K : PySem.W.Frag) : Sp := fun vs H Q _ => ∃ (a : Addr) (ns : List Int), vs = [.ref a] ∧ SqL K H a (ns.map V.int) ∧ ns.length ≤ 63 ∧ ∀ H', Q (.bl true) H'
section
variable {P : Program} {w : World} {K : PySem.W.Frag} {mg : Str → Option Value} {base : Heap}
theorem ifs_of {t : TT} {u v : TS} {D : Ends} {σ : L2.St} {H : Hp} (h : t σ H fun b H1 => if b = true then u D σ H1 else v D σ H1) : tIfS t u v D σ H := h
theorem cb_of {r : List V → Hp → VK → Prop} {ta : TA} {σ : L2.St} {H : Hp} {Q : VK} (h : ta σ H fun vs H1 => r vs H1 Q) : tCB r ta σ H Q := h
/-- eight times right -/
theorem rd_eight {σ : L2.St} {H : Hp} {Q : VK} {d : Addr} {E : XK} {n : Nat} (n0 : n ≤ 1000) (sd : ∀ x : Int, ((wipe σ [3]).set 3 (some (.int x)))[2]? = some (some (.ref d))) (hw : ∀ x : Int, wipe ((wipe σ [3]).set 3 (some (.int x))) [3] = wipe σ [3]) (pot : Pot H d 0)
    (k : ∀ p H', Off d H H' → H' p = some (.lst ((List.replicate n true).map V.bl)) → Q (.ref p) H') : tLc (iRng1 (tCons (tC (.int (n : Int))) tNil)) (gName 3) tYes (tCall spRight [] E (tCons (tVar 2) tNil)) [3] σ H Q := by
  refine ⟨(n : Int), rfl, by omega, by omega, fun D hD => ?_⟩
  have nD : D ≠ d := pot.ne hD
  rw [Int.toNat_natCast]
  refine lc_range (lo := 0) (n := n) (fun m H' => Off d H H' ∧ Pot H' d (28 * (m : Int)) ∧ H' D = some (.lst ((List.replicate m true).map V.bl))) ⟨Off.of (Ex.new hD), (pot.ex (Ex.new hD)).up (by omega), (upd_same : upd H D (.lst []) D = some (.lst []))⟩ ?_ ?_
  · rintro m H' hm ⟨off, pt, hd⟩
    refine ⟨hw _, ?_⟩
    refine ⟨_, sd _, d, 28 * (m : Int), rfl, pt, by omega, fun H2 o2 p2 => ?_⟩
    refine ⟨_, o2 _ _ nD hd, ?_, ?_, ?_, ?_⟩
    · rw [List.length_map, List.length_replicate]
      exact sz_lt (by omega)
    · intro a o ne ha
      rw [upd_ne (ne_of_none ha hD)]
      exact o2 a o ne (off a o ne ha)
    · obtain ⟨g, b, c, h0, h⟩ := p2
      refine ⟨g, b, c, ?_, h.1, h.2.1, h.2.2.1, h.2.2.2.1, h.2.2.2.2.1, by have := h.2.2.2.2.2; push_cast; omega⟩
      rw [upd_ne (Ne.symm nD)]
      exact h0
    · rw [upd_same, List.replicate_succ']
      simp
  · rintro H' ⟨off, pt, hd⟩
    exact k D H' off hd
theorem ok_law {f fS fR : Addr} {fd fdS fdR : FuncData} (F : Fun K "law" "law" sLaw f fd) (FS : Fun K "_law_source" "_law_source" sSource fS fdS) (FR : Fun K "_law_right" "_law_right" sRight fR fdR) (bS : Binds K fdS ["_law_script", "_law_k"] []) (bR : Binds K fdR ["_law_pot"] [])
    (gS : mg "_law_source" = some (.ref fS)) (gR : mg "_law_right" = some (.ref fR)) (mL : mg "len" = none) (mA : mg "abs" = none) (mI : mg "int" = none) (mR : mg "range" = none) (mX : mg "max" = none) (mN : mg "min" = none) (mW : mg "all" = none) (R7 : FnG P w K mg base CX0 7 fR fdR ["_law_pot"] spRight) :
    FnG P w K mg base CX0 8 f fd ["_law_script"] (spLaw K) := by
  have GS : FnOk P w K mg base CX0 7 fS fdS ["_law_script", "_law_k"] (spSource K) := (ok_source FS mL mA mI).mono (by decide)
  refine fng0_of F scLaw (fun vs H Q E h => ?_) (fun cdv A outer s H vs Q E hr gd h => ?_)
  · obtain ⟨a, ns, rfl, _⟩ := h
    rfl
  · obtain ⟨a, ns, rfl, hS, hlen, q⟩ := h
    refine ⟨_, pss_cons (ps_for PassesOwn.never rfl (pi_range1 (by rfl) mR (pa_cons (pe_callB (call_max2 rfl) (by rfl) mX boot_max (pa_cons pe_int (pa_cons (pe_callB (call_min2 rfl) (by rfl) mN boot_min (pa_cons pe_int (pa_cons (pe_callB call_len_seq (by rfl) mL PySem.boot_len (pa_cons (pv 0) pa_nil)) pa_nil))) pa_nil))) pa_nil)) (pg_name (i := 1) scLaw.nd rfl (.inl rfl))
        (pss_cons (ps_set (i := 2) scLaw.nd rfl (.inr rfl) (pe_call GS hr (by rfl) gS FS.kp bS .nil pass0 (pa_cons (pv 0) (pa_cons (pv 1) pa_nil))))
        (pss_one (ps_if (pt_not (pt_val (pe_callB (cr_all rfl) (by rfl) mW (by decide +kernel) (pa_cons
          (pe_lc (own := [("_law_turn", 3)]) (g := gName 3) (tt := tYes) (te := tCall spRight [] E0 (tCons (tVar 2) tNil)) rfl scLaw.nd (pi_range1 (by rfl) mR (pa_cons pe_int pa_nil)) (blkOk_by (N := nLaw) (sc := defScope sLaw) (by decide +kernel))
            (fun _ _ _ _ _ => pg_name (i := 3) scLaw.nd rfl (.inl rfl)) (fun _ _ _ _ _ => pts_nil) (fun _ _ _ _ _ => pe_callG R7 hr gd (by rfl) gR FR.kp bR .nil pass0 (pa_cons (pv 2) pa_nil))) pa_nil)))) (pss_one (ps_ret pe_bl)) pss_nil))))
      (pss_one (ps_ret pe_bl)), ?_⟩
    refine ⟨.ref a, rfl, a, _, rfl, .inl hS, 3, _, rfl, 1, _, rfl, _, rfl, ?_, ?_, ?_⟩
    · split <;> (try split) <;> omega
    · split <;> (try split) <;> omega
    have hn : (if (if ((ns.map V.int).length : Int) < 3 then ((ns.map V.int).length : Int) else 3) > 1 then (if ((ns.map V.int).length : Int) < 3 then ((ns.map V.int).length : Int) else 3) else 1).toNat ≤ 3 := by
      split <;> (try split) <;> omega
    refine for_range (lo := 0) (fun i σ' H' => ∃ y1 y2, σ' = [some (.ref a), y1, y2, none] ∧ Evl.Ex H H') ⟨none, none, rfl, Ex.refl H⟩ ?_ ?_
    · rintro i σ' H1 hi ⟨y1, y2, rfl, e1⟩
      dsimp only [gName]
      refine st_seq ?_
      refine ⟨.ref a, rfl, .int (0 + (i : Int)), rfl, a, ns, 0 + (i : Int), rfl, ex_l e1 hS, hlen, by omega, by omega, fun H2 d e2 hd pot => ?_⟩
      have hdN : H d = none := fresh_back e1 hd
      dsimp only [gName]
      refine ifs_of (not_of (cb_of (c_of (rd_eight (d := d) (n := 8) (by decide) (fun x => rfl) (fun x => rfl) pot fun p H3 off h3 => n_of ⟨p, List.replicate 8 true, rfl, sq_of h3, _, rfl, ?_⟩))))
      rw [if_neg (by decide)]
      exact ⟨_, _, rfl, ((Off.of (e1.trans e2)).trans off).ex hdN⟩
    · rintro σ' H' ⟨y1, y2, rfl, e⟩
      exact q H'
end
end Pe
namespace Pe
open PySem PySem.Spec PyProof.Rows L2 Evl Gd Ex
/-- a def of the top, as the head finds it -/
structure At (K : PySem.W.Frag) (x : Str) (st : Stmt) (f : Addr) : Prop where
  nm : PySem.W.nsIn K mainGlobals x = some (some (.ref f))
  ex : ∃ (oc kV doc pm cdv ct : Value) (od an : Option Addr) (sl : Array (Option Value)), K.lookup f = some ⟨oc, od, .func (PySem.W.fnOf x x (defArgs st) (defBody st) (defScope st) .none kV doc pm an cdv ct), sl⟩ ∧ PySem.W.codeIn K cdv x = true
  kp : PySem.W.keepIn K (.ref f) = true
theorem At.of {K : PySem.W.Frag} {x : Str} {st : Stmt} {f : Addr} {oc kV doc pm cdv ct : Value} {od an : Option Addr} {sl : Array (Option Value)} (n : PySem.W.nsIn K mainGlobals x = some (some (.ref f))) (l : K.lookup f = some ⟨oc, od, .func (PySem.W.fnOf x x (defArgs st) (defBody st) (defScope st) .none kV doc pm an cdv ct), sl⟩)
    (c : PySem.W.codeIn K cdv x = true) (k : PySem.W.keepIn K (.ref f) = true) : At K x st f := ⟨n, ⟨oc, kV, doc, pm, cdv, ct, od, an, sl, l, c⟩, k⟩
theorem At.fn {K : PySem.W.Frag} {x : Str} {st : Stmt} {f : Addr} (a : At K x st f) : ∃ fd, Fun K x x st f fd := by
  obtain ⟨oc, kV, doc, pm, cdv, ct, od, an, sl, l, c⟩ := a.ex
  exact ⟨_, fun_mk l c a.kp⟩
/-- the words about a class that the instances' rules ask -/
structure Base (K : PySem.W.Frag) (C : Addr) : Prop where
  ga : PySem.W.findIn K (.ref C) "__getattribute__" = some (some (.builtin "BaseException.__getattribute__"))
  gg : PySem.W.findIn K (.ref C) "__getattr__" = some none
  sb : PySem.W.subIn K (.ref C) (.type "BaseException") = some true
  hd : PySem.W.hasDictIn K C = true
  ha : PySem.W.findIn K (.ref C) "__class__" = some (some (.builtin "object.__class__"))
  hn : PySem.W.specialIn K (.builtin "object.__class__") "__get__" = some (some (.builtin "getset_descriptor.__get__"))
  ht : PySem.W.takesIn K (.builtin "object.__class__") = some true
  hm : PySem.W.mroIn K C (.type "object") = some true
  kC : PySem.W.keepIn K (.ref C) = true
  val : PySem.W.kitOne K (.ref C) (.type "ValueError") = some true
theorem Base.exc {K : PySem.W.Frag} {C : Addr} (b : Base K C) : ExcC K C := ⟨b.ga, b.gg, b.sb, b.hd, b.ha, b.hn, b.ht, b.hm⟩
theorem Base.xf {K : PySem.W.Frag} {C : Addr} (b : Base K C) : XfC K C := ⟨b.ga, b.gg, b.sb, b.hd⟩
/-- one of the classes with its __init__, as the head finds it -/
structure Cf (P : Program) (K : PySem.W.Frag) (hE : Addr) (x qual : Str) (st : Stmt) (C f : Addr) : Prop where
  nm : PySem.W.nsIn K mainGlobals x = some (some (.ref C))
  base : Base K C
  own : Own K C f
  fc : ∃ fd, FunC P K "__init__" qual st C f fd
  sup : ∀ mg : Str → Option Value, mg "super" = none → SupVE P K mg C C
  heap : PySem.W.kitOne K (.ref C) (.ref hE) = some true
theorem Cf.of {P : Program} {K : PySem.W.Frag} {hE : Addr} {x qual : Str} {st : Stmt} {C f cda cc : Addr} {nm q : Str} {N : Addr} {bs bm : List Value} {sn : List Str} {sub : List Value} {ab : Bool} {col : Option Bool} {dd : Option Addr} {k0 k1 k2 k3 k5 : Option Value}
    {oc kV doc pm ct ccl cl : Value} {od an cdd cld : Option Addr} {osl ccs csl : Array (Option Value)} {vs : Array Value} {file : Str} {tf : Tok} {cd : ClassData}
    (n : PySem.W.nsIn K mainGlobals x = some (some (.ref C))) (base : Base K C) (l : K.lookup C = some (excClassObj nm q C N bs bm true sn sub ab col dd k0 k1 k2 k3 k5 "ValueError.__new__")) (r : PySem.HandSPX.refsVE bm = true) (sa : PySem.W.findIn K (.ref C) "__setattr__" = some (some (.builtin "object.__setattr__"))) (ty : PySem.W.typeIn K (.ref C) = some (.type "type"))
    (ini : PySem.W.findIn K (.ref C) "__init__" = some (some (.ref f))) (fn : PySem.W.typeIn K (.ref f) = some (.type "function")) (lf : K.lookup f = some ⟨oc, od, .func (PySem.W.fnX "__init__" qual (defArgs st) (defBody st) (defScope st) [("__class__", cc)] .none kV doc pm an (.ref cda) ct), osl⟩) (code : PySem.W.codeIn K (.ref cda) qual = true)
    (lc : K.lookup cc = some ⟨cl, cld, .cell (some (.ref C)), csl⟩) (ld : K.lookup cda = some ⟨ccl, cdd, .fields vs, ccs⟩) (v2 : vs[2]? = some (.str file tf)) (fl : ((P.main.file : Str) == file) = true)
    (c : PySem.W.clsIn K C = some cd) (m : PySem.W.mroIn K C (.ref C) = some true) (s : PySem.W.ks_superIn K C C "__init__" = some (some (.builtin "ValueError.__init__"))) (sv : PySem.W.subIn K (.ref C) (.type "ValueError") = some true) (op : PySem.W.nsIn K cStatics "thirdparty.any" = some none)
    (mn : (P.main.scope.names.lookup ("super" : Str)).isSome = false) (heap : PySem.W.kitOne K (.ref C) (.ref hE) = some true) : Cf P K hE x qual st C f :=
  ⟨n, base, ⟨⟨⟨nm, q, N, bs, bm, sn, sub, ab, col, dd, k0, k1, k2, k3, k5, l, r⟩, sa, base.sb, ty, base.kC⟩, ini, fn⟩,
    ⟨_, ⟨oc, kV, doc, pm, ct, ccl, cl, od, an, cdd, cld, cda, cc, osl, ccs, csl, vs, file, tf, rfl, lf, code, lc, ld, v2, fl⟩⟩, fun mg g => ⟨⟨cd, c⟩, m, s, sv, op, g, mn⟩, heap⟩
section
variable {P : Program} {w : World} {K : PySem.W.Frag} {mg : Str → Option Value} {base : Heap} {cs : List Addr} {hE : Addr}
theorem clsOk {x qual : Str} {st : Stmt} {C f : Addr} {j : Nat} (c : Cf P K hE x qual st C f) (g : mg x = some (.ref C)) (says : Says K C cs (hot j)) : ClsOk P K mg cs hE C x j := ⟨c.base.kC, g, c.base.exc, says, c.heap, c.base.val⟩
theorem one_BadRow {C f : Addr} (c : Cf P K hE "BadRow" "BadRow.__init__" sBadRow C f) (g : mg "BadRow" = some (.ref C)) (gs : mg "super" = none) (says : Says K C cs (hot 0)) (no : PySem.W.findIn K (.ref C) "row" = some none) : ∃ fd, One P w K mg base cs hE "BadRow" "row" 0 C f fd := by
  obtain ⟨fd, F⟩ := c.fc
  refine ⟨fd, clsOk c g says, ⟨c.base.xf, no⟩, c.own, ok_BadRow F c.own.oex (c.sup mg gs) no, fun s self us h _ => ?_, fun s self us h _ => ?_⟩
  · obtain ⟨oc, kV, doc, pm, ct, ccl, cl, od, an, cdd, cld, cda, cc, osl, ccs, csl, vs, file, tf, rfl, _⟩ := F.ex
    match us, h with
    | [u], _ => exact .of_eq rfl
  · obtain ⟨oc, kV, doc, pm, ct, ccl, cl, od, an, cdd, cld, cda, cc, osl, ccs, csl, vs, file, tf, rfl, _⟩ := F.ex
    match us, h with
    | [u], _ => exact .of_eq rfl
theorem one_BadBlock {C f : Addr} (c : Cf P K hE "BadBlock" "BadBlock.__init__" sBadBlock C f) (g : mg "BadBlock" = some (.ref C)) (gs : mg "super" = none) (says : Says K C cs (hot 1)) (no : PySem.W.findIn K (.ref C) "row" = some none) : ∃ fd, One P w K mg base cs hE "BadBlock" "row" 1 C f fd := by
  obtain ⟨fd, F⟩ := c.fc
  refine ⟨fd, clsOk c g says, ⟨c.base.xf, no⟩, c.own, ok_BadBlock F c.own.oex (c.sup mg gs) no, fun s self us h _ => ?_, fun s self us h _ => ?_⟩
  · obtain ⟨oc, kV, doc, pm, ct, ccl, cl, od, an, cdd, cld, cda, cc, osl, ccs, csl, vs, file, tf, rfl, _⟩ := F.ex
    match us, h with
    | [u], _ => exact .of_eq rfl
  · obtain ⟨oc, kV, doc, pm, ct, ccl, cl, od, an, cdd, cld, cda, cc, osl, ccs, csl, vs, file, tf, rfl, _⟩ := F.ex
    match us, h with
    | [u], _ => exact .of_eq rfl
theorem one_Twice {C f : Addr} (c : Cf P K hE "Twice" "Twice.__init__" sTwice C f) (g : mg "Twice" = some (.ref C)) (gs : mg "super" = none) (says : Says K C cs (hot 2)) (no : PySem.W.findIn K (.ref C) "row" = some none) : ∃ fd, One P w K mg base cs hE "Twice" "row" 2 C f fd := by
  obtain ⟨fd, F⟩ := c.fc
  refine ⟨fd, clsOk c g says, ⟨c.base.xf, no⟩, c.own, ok_Twice F c.own.oex (c.sup mg gs) no, fun s self us h _ => ?_, fun s self us h _ => ?_⟩
  · obtain ⟨oc, kV, doc, pm, ct, ccl, cl, od, an, cdd, cld, cda, cc, osl, ccs, csl, vs, file, tf, rfl, _⟩ := F.ex
    match us, h with
    | [u], _ => exact .of_eq rfl
  · obtain ⟨oc, kV, doc, pm, ct, ccl, cl, od, an, cdd, cld, cda, cc, osl, ccs, csl, vs, file, tf, rfl, _⟩ := F.ex
    match us, h with
    | [u], _ => exact .of_eq rfl
theorem one_NoProcedure {C f : Addr} (c : Cf P K hE "NoProcedure" "NoProcedure.__init__" sNoProcedure C f) (g : mg "NoProcedure" = some (.ref C)) (gs : mg "super" = none) (says : Says K C cs (hot 3)) (no : PySem.W.findIn K (.ref C) "row" = some none) : ∃ fd, One P w K mg base cs hE "NoProcedure" "row" 3 C f fd := by
  obtain ⟨fd, F⟩ := c.fc
  refine ⟨fd, clsOk c g says, ⟨c.base.xf, no⟩, c.own, ok_NoProcedure F c.own.oex (c.sup mg gs) no, fun s self us h _ => ?_, fun s self us h _ => ?_⟩
  · obtain ⟨oc, kV, doc, pm, ct, ccl, cl, od, an, cdd, cld, cda, cc, osl, ccs, csl, vs, file, tf, rfl, _⟩ := F.ex
    match us, h with
    | [u], _ => exact .of_eq rfl
  · obtain ⟨oc, kV, doc, pm, ct, ccl, cl, od, an, cdd, cld, cda, cc, osl, ccs, csl, vs, file, tf, rfl, _⟩ := F.ex
    match us, h with
    | [u], _ => exact .of_eq rfl
theorem one_WrongCount {C f : Addr} (c : Cf P K hE "WrongCount" "WrongCount.__init__" sWrongCount C f) (g : mg "WrongCount" = some (.ref C)) (gs : mg "super" = none) (says : Says K C cs (hot 4)) (no : PySem.W.findIn K (.ref C) "row" = some none) : ∃ fd, One P w K mg base cs hE "WrongCount" "row" 4 C f fd := by
  obtain ⟨fd, F⟩ := c.fc
  refine ⟨fd, clsOk c g says, ⟨c.base.xf, no⟩, c.own, ok_WrongCount F c.own.oex (c.sup mg gs) no, fun s self us h _ => ?_, fun s self us h _ => ?_⟩
  · obtain ⟨oc, kV, doc, pm, ct, ccl, cl, od, an, cdd, cld, cda, cc, osl, ccs, csl, vs, file, tf, rfl, _⟩ := F.ex
    match us, h with
    | [u], _ => exact .of_eq rfl
  · obtain ⟨oc, kV, doc, pm, ct, ccl, cl, od, an, cdd, cld, cda, cc, osl, ccs, csl, vs, file, tf, rfl, _⟩ := F.ex
    match us, h with
    | [u], _ => exact .of_eq rfl
theorem one_BadPolicy {C f : Addr} (c : Cf P K hE "BadPolicy" "BadPolicy.__init__" sBadPolicy C f) (g : mg "BadPolicy" = some (.ref C)) (gs : mg "super" = none) (says : Says K C cs (hot 5)) (no : PySem.W.findIn K (.ref C) "word" = some none) : ∃ fd, One P w K mg base cs hE "BadPolicy" "word" 5 C f fd := by
  obtain ⟨fd, F⟩ := c.fc
  refine ⟨fd, clsOk c g says, ⟨c.base.xf, no⟩, c.own, ok_BadPolicy F c.own.oex (c.sup mg gs) no, fun s self us h _ => ?_, fun s self us h _ => ?_⟩
  · obtain ⟨oc, kV, doc, pm, ct, ccl, cl, od, an, cdd, cld, cda, cc, osl, ccs, csl, vs, file, tf, rfl, _⟩ := F.ex
    match us, h with
    | [u], _ => exact .of_eq rfl
  · obtain ⟨oc, kV, doc, pm, ct, ccl, cl, od, an, cdd, cld, cda, cc, osl, ccs, csl, vs, file, tf, rfl, _⟩ := F.ex
    match us, h with
    | [u], _ => exact .of_eq rfl
theorem one_NoObject {C f : Addr} (c : Cf P K hE "NoObject" "NoObject.__init__" sNoObject C f) (g : mg "NoObject" = some (.ref C)) (gs : mg "super" = none) (says : Says K C cs (hot 7)) (no : PySem.W.findIn K (.ref C) "value" = some none) : ∃ fd, One P w K mg base cs hE "NoObject" "value" 7 C f fd := by
  obtain ⟨fd, F⟩ := c.fc
  refine ⟨fd, clsOk c g says, ⟨c.base.xf, no⟩, c.own, ok_NoObject F c.own.oex (c.sup mg gs) no, fun s self us h _ => ?_, fun s self us h _ => ?_⟩
  · obtain ⟨oc, kV, doc, pm, ct, ccl, cl, od, an, cdd, cld, cda, cc, osl, ccs, csl, vs, file, tf, rfl, _⟩ := F.ex
    match us, h with
    | [u], _ => exact .of_eq rfl
  · obtain ⟨oc, kV, doc, pm, ct, ccl, cl, od, an, cdd, cld, cda, cc, osl, ccs, csl, vs, file, tf, rfl, _⟩ := F.ex
    match us, h with
    | [u], _ => exact .of_eq rfl
theorem one_NoLink {C f : Addr} (c : Cf P K hE "NoLink" "NoLink.__init__" sNoLink C f) (g : mg "NoLink" = some (.ref C)) (gs : mg "super" = none) (says : Says K C cs (hot 8)) (no : PySem.W.findIn K (.ref C) "value" = some none) : ∃ fd, One P w K mg base cs hE "NoLink" "value" 8 C f fd := by
  obtain ⟨fd, F⟩ := c.fc
  refine ⟨fd, clsOk c g says, ⟨c.base.xf, no⟩, c.own, ok_NoLink F c.own.oex (c.sup mg gs) no, fun s self us h _ => ?_, fun s self us h _ => ?_⟩
  · obtain ⟨oc, kV, doc, pm, ct, ccl, cl, od, an, cdd, cld, cda, cc, osl, ccs, csl, vs, file, tf, rfl, _⟩ := F.ex
    match us, h with
    | [u], _ => exact .of_eq rfl
  · obtain ⟨oc, kV, doc, pm, ct, ccl, cl, od, an, cdd, cld, cda, cc, osl, ccs, csl, vs, file, tf, rfl, _⟩ := F.ex
    match us, h with
    | [u], _ => exact .of_eq rfl
theorem one_TooMany {C f : Addr} (c : Cf P K hE "TooMany" "TooMany.__init__" sTooMany C f) (g : mg "TooMany" = some (.ref C)) (gs : mg "super" = none) (says : Says K C cs (hot 9)) (no : PySem.W.findIn K (.ref C) "count" = some none) : ∃ fd, One P w K mg base cs hE "TooMany" "count" 9 C f fd := by
  obtain ⟨fd, F⟩ := c.fc
  refine ⟨fd, clsOk c g says, ⟨c.base.xf, no⟩, c.own, ok_TooMany F c.own.oex (c.sup mg gs) no, fun s self us h _ => ?_, fun s self us h _ => ?_⟩
  · obtain ⟨oc, kV, doc, pm, ct, ccl, cl, od, an, cdd, cld, cda, cc, osl, ccs, csl, vs, file, tf, rfl, _⟩ := F.ex
    match us, h with
    | [u], _ => exact .of_eq rfl
  · obtain ⟨oc, kV, doc, pm, ct, ccl, cl, od, an, cdd, cld, cda, cc, osl, ccs, csl, vs, file, tf, rfl, _⟩ := F.ex
    match us, h with
    | [u], _ => exact .of_eq rfl
theorem one_BadText {C f : Addr} (c : Cf P K hE "BadText" "BadText.__init__" sBadText C f) (g : mg "BadText" = some (.ref C)) (gs : mg "super" = none) (says : Says K C cs (hot 10)) (no : PySem.W.findIn K (.ref C) "row" = some none) : ∃ fd, One P w K mg base cs hE "BadText" "row" 10 C f fd := by
  obtain ⟨fd, F⟩ := c.fc
  refine ⟨fd, clsOk c g says, ⟨c.base.xf, no⟩, c.own, ok_BadText F c.own.oex (c.sup mg gs) no, fun s self us h _ => ?_, fun s self us h _ => ?_⟩
  · obtain ⟨oc, kV, doc, pm, ct, ccl, cl, od, an, cdd, cld, cda, cc, osl, ccs, csl, vs, file, tf, rfl, _⟩ := F.ex
    match us, h with
    | [u], _ => exact .of_eq rfl
  · obtain ⟨oc, kV, doc, pm, ct, ccl, cl, od, an, cdd, cld, cda, cc, osl, ccs, csl, vs, file, tf, rfl, _⟩ := F.ex
    match us, h with
    | [u], _ => exact .of_eq rfl
theorem one_BadLine {C f : Addr} (c : Cf P K hE "BadLine" "BadLine.__init__" sBadLine C f) (g : mg "BadLine" = some (.ref C)) (gs : mg "super" = none) (says : Says K C cs (hot 12)) (no : PySem.W.findIn K (.ref C) "line" = some none) : ∃ fd, One P w K mg base cs hE "BadLine" "line" 12 C f fd := by
  obtain ⟨fd, F⟩ := c.fc
  refine ⟨fd, clsOk c g says, ⟨c.base.xf, no⟩, c.own, ok_BadLine F c.own.oex (c.sup mg gs) no, fun s self us h _ => ?_, fun s self us h _ => ?_⟩
  · obtain ⟨oc, kV, doc, pm, ct, ccl, cl, od, an, cdd, cld, cda, cc, osl, ccs, csl, vs, file, tf, rfl, _⟩ := F.ex
    match us, h with
    | [u], _ => exact .of_eq rfl
  · obtain ⟨oc, kV, doc, pm, ct, ccl, cl, od, an, cdd, cld, cda, cc, osl, ccs, csl, vs, file, tf, rfl, _⟩ := F.ex
    match us, h with
    | [u], _ => exact .of_eq rfl
theorem one_Fault {C f : Addr} (c : Cf P K hE "Fault" "Fault.__init__" sFault C f) (g : mg "Fault" = some (.ref C)) (gs : mg "super" = none) (says : Says K C cs (hot 6)) (no : PySem.W.findIn K (.ref C) "word" = some none) (no2 : PySem.W.findIn K (.ref C) "row" = some none) : ∃ fd, OneF P w K mg base cs hE C f fd := by
  obtain ⟨fd, F⟩ := c.fc
  refine ⟨fd, clsOk c g says, ⟨c.base.xf, no⟩, ⟨c.base.xf, no2⟩, c.own, ok_Fault F c.own.oex (c.sup mg gs) no no2, fun s self us h _ => ?_, fun s self us h _ => ?_⟩
  · obtain ⟨oc, kV, doc, pm, ct, ccl, cl, od, an, cdd, cld, cda, cc, osl, ccs, csl, vs, file, tf, rfl, _⟩ := F.ex
    match us, h with
    | [u, v], _ => exact .of_eq rfl
  · obtain ⟨oc, kV, doc, pm, ct, ccl, cl, od, an, cdd, cld, cda, cc, osl, ccs, csl, vs, file, tf, rfl, _⟩ := F.ex
    match us, h with
    | [u, v], _ => exact .of_eq rfl
theorem one_NoMark {C f : Addr} (c : Cf P K hE "NoMark" "NoMark.__init__" sNoMark C f) (g : mg "NoMark" = some (.ref C)) (gs : mg "super" = none) (says : Says K C cs (hot 11)) : ∃ fd, OneM P w K mg base cs hE C f fd := by
  obtain ⟨fd, F⟩ := c.fc
  refine ⟨fd, clsOk c g says, c.own, ok_NoMark F c.own.oex (c.sup mg gs), fun s self _ => ?_⟩
  obtain ⟨oc, kV, doc, pm, ct, ccl, cl, od, an, cdd, cld, cda, cc, osl, ccs, csl, vs, file, tf, rfl, _⟩ := F.ex
  exact .of_eq rfl
end
theorem top_ok {l : PySem.W.OpenLaw} {w : World} {K : PySem.W.Frag} {h : Heap} {mg : Str → Option Value} {fa fL fS fT fO fD fW fK fG fR hE c0 i0 c1 i1 c2 i2 c3 i3 c4 i4 c5 i5 c6 i6 c7 i7 c8 i8 c9 i9 c10 i10 c11 i11 c12 i12 : Addr} (X : K.In h) (G : h.Ns mainGlobals mg) (hfa : mg "law" = some (.ref fa))
    (aL : At K "law" sLaw fL) (aS : At K "_law_source" sSource fS) (aT : At K "_law_take" sTake fT) (aO : At K "_law_of" sOf fO) (aD : At K "_law_drawn" sDrawn fD) (aW : At K "_law_shown" sShown fW) (aK : At K "_law_kinds" sKinds fK) (aG : At K "_law_is_single" sSingle fG) (aR : At K "_law_right" sRight fR)
    (nE : PySem.W.nsIn K mainGlobals "HeapError" = some (some (.ref hE))) (bE : Base K hE) (xE : PySem.W.excIn K hE [.type "ValueError", .type "Exception", .type "BaseException", .type "object"] "ValueError.__new__" = true)
    (d0 : Cf l.prog K hE "BadRow" "BadRow.__init__" sBadRow c0 i0) (d1 : Cf l.prog K hE "BadBlock" "BadBlock.__init__" sBadBlock c1 i1) (d2 : Cf l.prog K hE "Twice" "Twice.__init__" sTwice c2 i2) (d3 : Cf l.prog K hE "NoProcedure" "NoProcedure.__init__" sNoProcedure c3 i3) (d4 : Cf l.prog K hE "WrongCount" "WrongCount.__init__" sWrongCount c4 i4) (d5 : Cf l.prog K hE "BadPolicy" "BadPolicy.__init__" sBadPolicy c5 i5) (d6 : Cf l.prog K hE "Fault" "Fault.__init__" sFault c6 i6) (d7 : Cf l.prog K hE "NoObject" "NoObject.__init__" sNoObject c7 i7) (d8 : Cf l.prog K hE "NoLink" "NoLink.__init__" sNoLink c8 i8) (d9 : Cf l.prog K hE "TooMany" "TooMany.__init__" sTooMany c9 i9) (d10 : Cf l.prog K hE "BadText" "BadText.__init__" sBadText c10 i10) (d11 : Cf l.prog K hE "NoMark" "NoMark.__init__" sNoMark c11 i11) (d12 : Cf l.prog K hE "BadLine" "BadLine.__init__" sBadLine c12 i12)
    (sE : Says K hE [c0, c1, c2, c3, c4, c5, c6, c7, c8, c9, c10, c11, c12] (List.replicate 13 false)) (s0 : Says K c0 [c0, c1, c2, c3, c4, c5, c6, c7, c8, c9, c10, c11, c12] (hot 0)) (s1 : Says K c1 [c0, c1, c2, c3, c4, c5, c6, c7, c8, c9, c10, c11, c12] (hot 1)) (s2 : Says K c2 [c0, c1, c2, c3, c4, c5, c6, c7, c8, c9, c10, c11, c12] (hot 2)) (s3 : Says K c3 [c0, c1, c2, c3, c4, c5, c6, c7, c8, c9, c10, c11, c12] (hot 3)) (s4 : Says K c4 [c0, c1, c2, c3, c4, c5, c6, c7, c8, c9, c10, c11, c12] (hot 4)) (s5 : Says K c5 [c0, c1, c2, c3, c4, c5, c6, c7, c8, c9, c10, c11, c12] (hot 5)) (s6 : Says K c6 [c0, c1, c2, c3, c4, c5, c6, c7, c8, c9, c10, c11, c12] (hot 6)) (s7 : Says K c7 [c0, c1, c2, c3, c4, c5, c6, c7, c8, c9, c10, c11, c12] (hot 7)) (s8 : Says K c8 [c0, c1, c2, c3, c4, c5, c6, c7, c8, c9, c10, c11, c12] (hot 8)) (s9 : Says K c9 [c0, c1, c2, c3, c4, c5, c6, c7, c8, c9, c10, c11, c12] (hot 9)) (s10 : Says K c10 [c0, c1, c2, c3, c4, c5, c6, c7, c8, c9, c10, c11, c12] (hot 10)) (s11 : Says K c11 [c0, c1, c2, c3, c4, c5, c6, c7, c8, c9, c10, c11, c12] (hot 11)) (s12 : Says K c12 [c0, c1, c2, c3, c4, c5, c6, c7, c8, c9, c10, c11, c12] (hot 12))
    (n0 : PySem.W.findIn K (.ref c0) "row" = some none) (n1 : PySem.W.findIn K (.ref c1) "row" = some none) (n2 : PySem.W.findIn K (.ref c2) "row" = some none) (n3 : PySem.W.findIn K (.ref c3) "row" = some none) (n4 : PySem.W.findIn K (.ref c4) "row" = some none) (n5 : PySem.W.findIn K (.ref c5) "word" = some none) (n7 : PySem.W.findIn K (.ref c7) "value" = some none) (n8 : PySem.W.findIn K (.ref c8) "value" = some none) (n9 : PySem.W.findIn K (.ref c9) "count" = some none) (n10 : PySem.W.findIn K (.ref c10) "row" = some none) (n12 : PySem.W.findIn K (.ref c12) "line" = some none) (n6 : PySem.W.findIn K (.ref c6) "word" = some none) (n6r : PySem.W.findIn K (.ref c6) "row" = some none)
    (z0 : PySem.W.nsIn K mainGlobals "len" = some none) (z1 : PySem.W.nsIn K mainGlobals "abs" = some none) (z2 : PySem.W.nsIn K mainGlobals "int" = some none) (z3 : PySem.W.nsIn K mainGlobals "range" = some none) (z4 : PySem.W.nsIn K mainGlobals "max" = some none) (z5 : PySem.W.nsIn K mainGlobals "min" = some none) (z6 : PySem.W.nsIn K mainGlobals "all" = some none) (z7 : PySem.W.nsIn K mainGlobals "str" = some none) (z8 : PySem.W.nsIn K mainGlobals "repr" = some none) (z9 : PySem.W.nsIn K mainGlobals "isinstance" = some none) (z10 : PySem.W.nsIn K mainGlobals "bool" = some none) (z11 : PySem.W.nsIn K mainGlobals "super" = some none) (z12 : PySem.W.nsIn K mainGlobals "ValueError" = some none) :
    ∃ fd : FuncData, (∀ (s : Shared) (v : Value), BindsTo s fd ⟨[v], []⟩ [("_law_script", v)]) ∧ ∀ base : Heap, K.In base → base.Ns mainGlobals mg → FnG l.prog w K mg base CX0 8 fa fd ["_law_script"] (spLaw K) := by
  have e := hfa.symm.trans (PySem.W.mg_of X G aL.nm)
  cases e
  obtain ⟨fdL, FL⟩ := aL.fn
  obtain ⟨fdS, FS⟩ := aS.fn
  obtain ⟨fdT, FT⟩ := aT.fn
  obtain ⟨fdO, FO⟩ := aO.fn
  obtain ⟨fdD, FD⟩ := aD.fn
  obtain ⟨fdW, FW⟩ := aW.fn
  obtain ⟨fdK, FK⟩ := aK.fn
  obtain ⟨fdG, FG⟩ := aG.fn
  obtain ⟨fdR, FR⟩ := aR.fn
  have bS := FS.binds (ps := ["_law_script", "_law_k"]) fun _ _ _ _ _ _ us hl => match us, hl with | [_, _], _ => rfl
  have bT := FT.binds (ps := ["_law_pot", "_law_many"]) fun _ _ _ _ _ _ us hl => match us, hl with | [_, _], _ => rfl
  have bO := FO.binds (ps := ["_law_pot", "_law_some"]) fun _ _ _ _ _ _ us hl => match us, hl with | [_, _], _ => rfl
  have bD := FD.binds (ps := ["_law_pot", "_law_depth"]) fun _ _ _ _ _ _ us hl => match us, hl with | [_, _], _ => rfl
  have bW := FW.binds (ps := ["_law_thing"]) fun _ _ _ _ _ _ us hl => match us, hl with | [_], _ => rfl
  have bK := FK.binds (ps := ["_law_error"]) fun _ _ _ _ _ _ us hl => match us, hl with | [_], _ => rfl
  have bG := FG.binds (ps := ["_law_error", "_law_spot"]) fun _ _ _ _ _ _ us hl => match us, hl with | [_, _], _ => rfl
  have bR := FR.binds (ps := ["_law_pot"]) fun _ _ _ _ _ _ us hl => match us, hl with | [_], _ => rfl
  have gS := PySem.W.mg_of X G aS.nm
  have gT := PySem.W.mg_of X G aT.nm
  have gO := PySem.W.mg_of X G aO.nm
  have gD := PySem.W.mg_of X G aD.nm
  have gW := PySem.W.mg_of X G aW.nm
  have gK := PySem.W.mg_of X G aK.nm
  have gG := PySem.W.mg_of X G aG.nm
  have gR := PySem.W.mg_of X G aR.nm
  have m0 := PySem.W.mg_none_of X G z0
  have m1 := PySem.W.mg_none_of X G z1
  have m2 := PySem.W.mg_none_of X G z2
  have m3 := PySem.W.mg_none_of X G z3
  have m4 := PySem.W.mg_none_of X G z4
  have m5 := PySem.W.mg_none_of X G z5
  have m6 := PySem.W.mg_none_of X G z6
  have m7 := PySem.W.mg_none_of X G z7
  have m8 := PySem.W.mg_none_of X G z8
  have m9 := PySem.W.mg_none_of X G z9
  have m10 := PySem.W.mg_none_of X G z10
  have m11 := PySem.W.mg_none_of X G z11
  have m12 := PySem.W.mg_none_of X G z12
  have gc0 := PySem.W.mg_of X G d0.nm
  have gc1 := PySem.W.mg_of X G d1.nm
  have gc2 := PySem.W.mg_of X G d2.nm
  have gc3 := PySem.W.mg_of X G d3.nm
  have gc4 := PySem.W.mg_of X G d4.nm
  have gc5 := PySem.W.mg_of X G d5.nm
  have gc6 := PySem.W.mg_of X G d6.nm
  have gc7 := PySem.W.mg_of X G d7.nm
  have gc8 := PySem.W.mg_of X G d8.nm
  have gc9 := PySem.W.mg_of X G d9.nm
  have gc10 := PySem.W.mg_of X G d10.nm
  have gc11 := PySem.W.mg_of X G d11.nm
  have gc12 := PySem.W.mg_of X G d12.nm
  have gE := PySem.W.mg_of X G nE
  refine ⟨fdL, fun s v => ?_, fun base _ _ => ?_⟩
  · obtain ⟨oc, od, kV, doc, pm, an, cdv, ct, osl, rfl, _⟩ := FL.ex
    exact .of_eq rfl
  obtain ⟨fd0, o0⟩ := one_BadRow (w := w) (base := base) (mg := mg) d0 gc0 m11 s0 n0
  obtain ⟨fd1, o1⟩ := one_BadBlock (w := w) (base := base) (mg := mg) d1 gc1 m11 s1 n1
  obtain ⟨fd2, o2⟩ := one_Twice (w := w) (base := base) (mg := mg) d2 gc2 m11 s2 n2
  obtain ⟨fd3, o3⟩ := one_NoProcedure (w := w) (base := base) (mg := mg) d3 gc3 m11 s3 n3
  obtain ⟨fd4, o4⟩ := one_WrongCount (w := w) (base := base) (mg := mg) d4 gc4 m11 s4 n4
  obtain ⟨fd5, o5⟩ := one_BadPolicy (w := w) (base := base) (mg := mg) d5 gc5 m11 s5 n5
  obtain ⟨fd7, o7⟩ := one_NoObject (w := w) (base := base) (mg := mg) d7 gc7 m11 s7 n7
  obtain ⟨fd8, o8⟩ := one_NoLink (w := w) (base := base) (mg := mg) d8 gc8 m11 s8 n8
  obtain ⟨fd9, o9⟩ := one_TooMany (w := w) (base := base) (mg := mg) d9 gc9 m11 s9 n9
  obtain ⟨fd10, o10⟩ := one_BadText (w := w) (base := base) (mg := mg) d10 gc10 m11 s10 n10
  obtain ⟨fd12, o12⟩ := one_BadLine (w := w) (base := base) (mg := mg) d12 gc12 m11 s12 n12
  obtain ⟨fdF, oF⟩ := one_Fault (w := w) (base := base) (mg := mg) d6 gc6 m11 s6 n6 n6r
  obtain ⟨fdM, oM⟩ := one_NoMark (w := w) (base := base) (mg := mg) d11 gc11 m11 s11
  have K1 := ok_kinds (P := l.prog) (w := w) (base := base) FK m9 gc0 gc1 gc2 gc3 gc4 gc5 gc6 gc7 gc8 gc9 gc10 gc11 gc12
  have S2 := ok_single (hE := hE) rfl FG FK bK gK gE m12 m9 m3 K1
  have D := ok_drawn (P := l.prog) (w := w) (base := base) FD FT FO bD bT bO gD gT gO m0 m7
  have W1 := ok_shown (P := l.prog) (w := w) (base := base) FW m8 m7 m9 m10
  have R7 := ok_right FR FD FG FW bD bG bW gD gG gW (D 3 (by decide)) (D 2 (by decide)) S2 W1 o0 o1 o2 o3 o4 o5 o7 o8 o9 o10 o12 oF oM gE bE.kC xE bE.exc sE bE.val
  exact ok_law FL FS FR bS bR gS gR m0 m1 m2 m3 m4 m5 m6 R7
end Pe
open PySem PySem.W PyProof.Rows
set_option maxHeartbeats 0 in
theorem PySem.Challenge.cw_crossheaps_k79_errors_by_themselves_holds : PySem.Challenge.rw_crossheaps_k79_errors_by_themselves.Holds := by
  w_on; o_law; k_head; (case hw => w_witness2)
  k_fill
  refine Gd.walkG (l := PySem.Challenge.rw_crossheaps_k79_errors_by_themselves) (n := 63) (k := 8) (x := "_law_script") (CX := fun _ => L2.CX0) (sp := fun w => Pe.spLaw _) rfl (by decide) rfl ⟨rfl, by decide, by decide⟩ (fun w h Y => PySem.W.kIn_of Y) ?F (fun _ _ a ns hl _ hS => ⟨a, ns, rfl, hS, hl, fun _ => rfl⟩) (fun _ _ _ _ _ h => h)
  case F =>
    intro w mg fa h KX G hmg
    refine' Pe.top_ok KX G hmg (.of ?qL1 ?qL2 ?qL3 ?qL4) (.of ?qS1 ?qS2 ?qS3 ?qS4) (.of ?qT1 ?qT2 ?qT3 ?qT4) (.of ?qO1 ?qO2 ?qO3 ?qO4) (.of ?qD1 ?qD2 ?qD3 ?qD4) (.of ?qW1 ?qW2 ?qW3 ?qW4) (.of ?qK1 ?qK2 ?qK3 ?qK4) (.of ?qG1 ?qG2 ?qG3 ?qG4) (.of ?qR1 ?qR2 ?qR3 ?qR4) ?nE (.mk ?bEa ?bEb ?bEc ?bEd ?bEe ?bEf ?bEg ?bEh ?bEi ?bEj) ?xE (.of ?d0n (.mk ?b0a ?b0b ?b0c ?b0d ?b0e ?b0f ?b0g ?b0h ?b0i ?b0j) ?d0l ?d0r ?d0sa ?d0ty ?d0ini ?d0fn ?d0lf ?d0code ?d0lc ?d0ld ?d0v2 ?d0fl ?d0c ?d0m ?d0s ?d0sv ?d0op ?d0mn ?d0heap) (.of ?d1n (.mk ?b1a ?b1b ?b1c ?b1d ?b1e ?b1f ?b1g ?b1h ?b1i ?b1j) ?d1l ?d1r ?d1sa ?d1ty ?d1ini ?d1fn ?d1lf ?d1code ?d1lc ?d1ld ?d1v2 ?d1fl ?d1c ?d1m ?d1s ?d1sv ?d1op ?d1mn ?d1heap) (.of ?d2n (.mk ?b2a ?b2b ?b2c ?b2d ?b2e ?b2f ?b2g ?b2h ?b2i ?b2j) ?d2l ?d2r ?d2sa ?d2ty ?d2ini ?d2fn ?d2lf ?d2code ?d2lc ?d2ld ?d2v2 ?d2fl ?d2c ?d2m ?d2s ?d2sv ?d2op ?d2mn ?d2heap) (.of ?d3n (.mk ?b3a ?b3b ?b3c ?b3d ?b3e ?b3f ?b3g ?b3h ?b3i ?b3j) ?d3l ?d3r ?d3sa ?d3ty ?d3ini ?d3fn ?d3lf ?d3code ?d3lc ?d3ld ?d3v2 ?d3fl ?d3c ?d3m ?d3s ?d3sv ?d3op ?d3mn ?d3heap) (.of ?d4n (.mk ?b4a ?b4b ?b4c ?b4d ?b4e ?b4f ?b4g ?b4h ?b4i ?b4j) ?d4l ?d4r ?d4sa ?d4ty ?d4ini ?d4fn ?d4lf ?d4code ?d4lc ?d4ld ?d4v2 ?d4fl ?d4c ?d4m ?d4s ?d4sv ?d4op ?d4mn ?d4heap) (.of ?d5n (.mk ?b5a ?b5b ?b5c ?b5d ?b5e ?b5f ?b5g ?b5h ?b5i ?b5j) ?d5l ?d5r ?d5sa ?d5ty ?d5ini ?d5fn ?d5lf ?d5code ?d5lc ?d5ld ?d5v2 ?d5fl ?d5c ?d5m ?d5s ?d5sv ?d5op ?d5mn ?d5heap) (.of ?d6n (.mk ?b6a ?b6b ?b6c ?b6d ?b6e ?b6f ?b6g ?b6h ?b6i ?b6j) ?d6l ?d6r ?d6sa ?d6ty ?d6ini ?d6fn ?d6lf ?d6code ?d6lc ?d6ld ?d6v2 ?d6fl ?d6c ?d6m ?d6s ?d6sv ?d6op ?d6mn ?d6heap) (.of ?d7n (.mk ?b7a ?b7b ?b7c ?b7d ?b7e ?b7f ?b7g ?b7h ?b7i ?b7j) ?d7l ?d7r ?d7sa ?d7ty ?d7ini ?d7fn ?d7lf ?d7code ?d7lc ?d7ld ?d7v2 ?d7fl ?d7c ?d7m ?d7s ?d7sv ?d7op ?d7mn ?d7heap) (.of ?d8n (.mk ?b8a ?b8b ?b8c ?b8d ?b8e ?b8f ?b8g ?b8h ?b8i ?b8j) ?d8l ?d8r ?d8sa ?d8ty ?d8ini ?d8fn ?d8lf ?d8code ?d8lc ?d8ld ?d8v2 ?d8fl ?d8c ?d8m ?d8s ?d8sv ?d8op ?d8mn ?d8heap) (.of ?d9n (.mk ?b9a ?b9b ?b9c ?b9d ?b9e ?b9f ?b9g ?b9h ?b9i ?b9j) ?d9l ?d9r ?d9sa ?d9ty ?d9ini ?d9fn ?d9lf ?d9code ?d9lc ?d9ld ?d9v2 ?d9fl ?d9c ?d9m ?d9s ?d9sv ?d9op ?d9mn ?d9heap) (.of ?d10n (.mk ?b10a ?b10b ?b10c ?b10d ?b10e ?b10f ?b10g ?b10h ?b10i ?b10j) ?d10l ?d10r ?d10sa ?d10ty ?d10ini ?d10fn ?d10lf ?d10code ?d10lc ?d10ld ?d10v2 ?d10fl ?d10c ?d10m ?d10s ?d10sv ?d10op ?d10mn ?d10heap) (.of ?d11n (.mk ?b11a ?b11b ?b11c ?b11d ?b11e ?b11f ?b11g ?b11h ?b11i ?b11j) ?d11l ?d11r ?d11sa ?d11ty ?d11ini ?d11fn ?d11lf ?d11code ?d11lc ?d11ld ?d11v2 ?d11fl ?d11c ?d11m ?d11s ?d11sv ?d11op ?d11mn ?d11heap) (.of ?d12n (.mk ?b12a ?b12b ?b12c ?b12d ?b12e ?b12f ?b12g ?b12h ?b12i ?b12j) ?d12l ?d12r ?d12sa ?d12ty ?d12ini ?d12fn ?d12lf ?d12code ?d12lc ?d12ld ?d12v2 ?d12fl ?d12c ?d12m ?d12s ?d12sv ?d12op ?d12mn ?d12heap) (.cons ?sEx0 (.cons ?sEx1 (.cons ?sEx2 (.cons ?sEx3 (.cons ?sEx4 (.cons ?sEx5 (.cons ?sEx6 (.cons ?sEx7 (.cons ?sEx8 (.cons ?sEx9 (.cons ?sEx10 (.cons ?sEx11 (.cons ?sEx12 .nil))))))))))))) (.cons ?s0x0 (.cons ?s0x1 (.cons ?s0x2 (.cons ?s0x3 (.cons ?s0x4 (.cons ?s0x5 (.cons ?s0x6 (.cons ?s0x7 (.cons ?s0x8 (.cons ?s0x9 (.cons ?s0x10 (.cons ?s0x11 (.cons ?s0x12 .nil))))))))))))) (.cons ?s1x0 (.cons ?s1x1 (.cons ?s1x2 (.cons ?s1x3 (.cons ?s1x4 (.cons ?s1x5 (.cons ?s1x6 (.cons ?s1x7 (.cons ?s1x8 (.cons ?s1x9 (.cons ?s1x10 (.cons ?s1x11 (.cons ?s1x12 .nil))))))))))))) (.cons ?s2x0 (.cons ?s2x1 (.cons ?s2x2 (.cons ?s2x3 (.cons ?s2x4 (.cons ?s2x5 (.cons ?s2x6 (.cons ?s2x7 (.cons ?s2x8 (.cons ?s2x9 (.cons ?s2x10 (.cons ?s2x11 (.cons ?s2x12 .nil))))))))))))) (.cons ?s3x0 (.cons ?s3x1 (.cons ?s3x2 (.cons ?s3x3 (.cons ?s3x4 (.cons ?s3x5 (.cons ?s3x6 (.cons ?s3x7 (.cons ?s3x8 (.cons ?s3x9 (.cons ?s3x10 (.cons ?s3x11 (.cons ?s3x12 .nil))))))))))))) (.cons ?s4x0 (.cons ?s4x1 (.cons ?s4x2 (.cons ?s4x3 (.cons ?s4x4 (.cons ?s4x5 (.cons ?s4x6 (.cons ?s4x7 (.cons ?s4x8 (.cons ?s4x9 (.cons ?s4x10 (.cons ?s4x11 (.cons ?s4x12 .nil))))))))))))) (.cons ?s5x0 (.cons ?s5x1 (.cons ?s5x2 (.cons ?s5x3 (.cons ?s5x4 (.cons ?s5x5 (.cons ?s5x6 (.cons ?s5x7 (.cons ?s5x8 (.cons ?s5x9 (.cons ?s5x10 (.cons ?s5x11 (.cons ?s5x12 .nil))))))))))))) (.cons ?s6x0 (.cons ?s6x1 (.cons ?s6x2 (.cons ?s6x3 (.cons ?s6x4 (.cons ?s6x5 (.cons ?s6x6 (.cons ?s6x7 (.cons ?s6x8 (.cons ?s6x9 (.cons ?s6x10 (.cons ?s6x11 (.cons ?s6x12 .nil))))))))))))) (.cons ?s7x0 (.cons ?s7x1 (.cons ?s7x2 (.cons ?s7x3 (.cons ?s7x4 (.cons ?s7x5 (.cons ?s7x6 (.cons ?s7x7 (.cons ?s7x8 (.cons ?s7x9 (.cons ?s7x10 (.cons ?s7x11 (.cons ?s7x12 .nil))))))))))))) (.cons ?s8x0 (.cons ?s8x1 (.cons ?s8x2 (.cons ?s8x3 (.cons ?s8x4 (.cons ?s8x5 (.cons ?s8x6 (.cons ?s8x7 (.cons ?s8x8 (.cons ?s8x9 (.cons ?s8x10 (.cons ?s8x11 (.cons ?s8x12 .nil))))))))))))) (.cons ?s9x0 (.cons ?s9x1 (.cons ?s9x2 (.cons ?s9x3 (.cons ?s9x4 (.cons ?s9x5 (.cons ?s9x6 (.cons ?s9x7 (.cons ?s9x8 (.cons ?s9x9 (.cons ?s9x10 (.cons ?s9x11 (.cons ?s9x12 .nil))))))))))))) (.cons ?s10x0 (.cons ?s10x1 (.cons ?s10x2 (.cons ?s10x3 (.cons ?s10x4 (.cons ?s10x5 (.cons ?s10x6 (.cons ?s10x7 (.cons ?s10x8 (.cons ?s10x9 (.cons ?s10x10 (.cons ?s10x11 (.cons ?s10x12 .nil))))))))))))) (.cons ?s11x0 (.cons ?s11x1 (.cons ?s11x2 (.cons ?s11x3 (.cons ?s11x4 (.cons ?s11x5 (.cons ?s11x6 (.cons ?s11x7 (.cons ?s11x8 (.cons ?s11x9 (.cons ?s11x10 (.cons ?s11x11 (.cons ?s11x12 .nil))))))))))))) (.cons ?s12x0 (.cons ?s12x1 (.cons ?s12x2 (.cons ?s12x3 (.cons ?s12x4 (.cons ?s12x5 (.cons ?s12x6 (.cons ?s12x7 (.cons ?s12x8 (.cons ?s12x9 (.cons ?s12x10 (.cons ?s12x11 (.cons ?s12x12 .nil))))))))))))) ?n0 ?n1 ?n2 ?n3 ?n4 ?n5 ?n7 ?n8 ?n9 ?n10 ?n12 ?n6 ?n6r ?z0 ?z1 ?z2 ?z3 ?z4 ?z5 ?z6 ?z7 ?z8 ?z9 ?z10 ?z11 ?z12
    (case qL1 => first | k_is | kit_is | ks_is | rfl | kernel_rfl)
    (case qL2 => first | k_is | kit_is | ks_is | rfl | kernel_rfl)
    (case qL3 => first | k_is | kit_is | ks_is | rfl | kernel_rfl)
    (case qL4 => first | k_is | kit_is | ks_is | rfl | kernel_rfl)
    (case qS1 => first | k_is | kit_is | ks_is | rfl | kernel_rfl)
    (case qS2 => first | k_is | kit_is | ks_is | rfl | kernel_rfl)
    (case qS3 => first | k_is | kit_is | ks_is | rfl | kernel_rfl)
    (case qS4 => first | k_is | kit_is | ks_is | rfl | kernel_rfl)
    (case qT1 => first | k_is | kit_is | ks_is | rfl | kernel_rfl)
    (case qT2 => first | k_is | kit_is | ks_is | rfl | kernel_rfl)
    (case qT3 => first | k_is | kit_is | ks_is | rfl | kernel_rfl)
    (case qT4 => first | k_is | kit_is | ks_is | rfl | kernel_rfl)
    (case qO1 => first | k_is | kit_is | ks_is | rfl | kernel_rfl)
    (case qO2 => first | k_is | kit_is | ks_is | rfl | kernel_rfl)
    (case qO3 => first | k_is | kit_is | ks_is | rfl | kernel_rfl)
    (case qO4 => first | k_is | kit_is | ks_is | rfl | kernel_rfl)
    (case qD1 => first | k_is | kit_is | ks_is | rfl | kernel_rfl)
    (case qD2 => first | k_is | kit_is | ks_is | rfl | kernel_rfl)
    (case qD3 => first | k_is | kit_is | ks_is | rfl | kernel_rfl)
    (case qD4 => first | k_is | kit_is | ks_is | rfl | kernel_rfl)
    (case qW1 => first | k_is | kit_is | ks_is | rfl | kernel_rfl)
    (case qW2 => first | k_is | kit_is | ks_is | rfl | kernel_rfl)
    (case qW3 => first | k_is | kit_is | ks_is | rfl | kernel_rfl)
    (case qW4 => first | k_is | kit_is | ks_is | rfl | kernel_rfl)
    (case qK1 => first | k_is | kit_is | ks_is | rfl | kernel_rfl)
    (case qK2 => first | k_is | kit_is | ks_is | rfl | kernel_rfl)
    (case qK3 => first | k_is | kit_is | ks_is | rfl | kernel_rfl)
    (case qK4 => first | k_is | kit_is | ks_is | rfl | kernel_rfl)
    (case qG1 => first | k_is | kit_is | ks_is | rfl | kernel_rfl)
    (case qG2 => first | k_is | kit_is | ks_is | rfl | kernel_rfl)
    (case qG3 => first | k_is | kit_is | ks_is | rfl | kernel_rfl)
    (case qG4 => first | k_is | kit_is | ks_is | rfl | kernel_rfl)
    (case qR1 => first | k_is | kit_is | ks_is | rfl | kernel_rfl)
    (case qR2 => first | k_is | kit_is | ks_is | rfl | kernel_rfl)
    (case qR3 => first | k_is | kit_is | ks_is | rfl | kernel_rfl)
    (case qR4 => first | k_is | kit_is | ks_is | rfl | kernel_rfl)
    (case nE => first | k_is | kit_is | ks_is | rfl | kernel_rfl)
    (case bEa => first | k_is | kit_is | ks_is | rfl | kernel_rfl)
    (case bEb => first | k_is | kit_is | ks_is | rfl | kernel_rfl)
    (case bEc => first | k_is | kit_is | ks_is | rfl | kernel_rfl)
    (case bEd => first | k_is | kit_is | ks_is | rfl | kernel_rfl)
    (case bEe => first | k_is | kit_is | ks_is | rfl | kernel_rfl)
    (case bEf => first | k_is | kit_is | ks_is | rfl | kernel_rfl)
    (case bEg => first | k_is | kit_is | ks_is | rfl | kernel_rfl)
    (case bEh => first | k_is | kit_is | ks_is | rfl | kernel_rfl)
    (case bEi => first | k_is | kit_is | ks_is | rfl | kernel_rfl)
    (case bEj => first | k_is | kit_is | ks_is | rfl | kernel_rfl)
    (case xE => first | k_is | kit_is | ks_is | rfl | kernel_rfl)
    (case d0n => first | k_is | kit_is | ks_is | rfl | kernel_rfl)
    (case b0a => first | k_is | kit_is | ks_is | rfl | kernel_rfl)
    (case b0b => first | k_is | kit_is | ks_is | rfl | kernel_rfl)
    (case b0c => first | k_is | kit_is | ks_is | rfl | kernel_rfl)
    (case b0d => first | k_is | kit_is | ks_is | rfl | kernel_rfl)
    (case b0e => first | k_is | kit_is | ks_is | rfl | kernel_rfl)
    (case b0f => first | k_is | kit_is | ks_is | rfl | kernel_rfl)
    (case b0g => first | k_is | kit_is | ks_is | rfl | kernel_rfl)
    (case b0h => first | k_is | kit_is | ks_is | rfl | kernel_rfl)
    (case b0i => first | k_is | kit_is | ks_is | rfl | kernel_rfl)
    (case b0j => first | k_is | kit_is | ks_is | rfl | kernel_rfl)
    (case d0l => first | k_is | kit_is | ks_is | rfl | kernel_rfl)
    (case d0r => first | k_is | kit_is | ks_is | rfl | kernel_rfl)
    (case d0sa => first | k_is | kit_is | ks_is | rfl | kernel_rfl)
    (case d0ty => first | k_is | kit_is | ks_is | rfl | kernel_rfl)
    (case d0ini => first | k_is | kit_is | ks_is | rfl | kernel_rfl)
    (case d0fn => first | k_is | kit_is | ks_is | rfl | kernel_rfl)
    (case d0lf => first | k_is | kit_is | ks_is | rfl | kernel_rfl)
    (case d0code => first | k_is | kit_is | ks_is | rfl | kernel_rfl)
    (case d0lc => first | k_is | kit_is | ks_is | rfl | kernel_rfl)
    (case d0ld => first | k_is | kit_is | ks_is | rfl | kernel_rfl)
    (case d0v2 => first | k_is | kit_is | ks_is | rfl | kernel_rfl)
    (case d0fl => first | k_is | kit_is | ks_is | rfl | kernel_rfl)
    (case d0c => first | k_is | kit_is | ks_is | rfl | kernel_rfl)
    (case d0m => first | k_is | kit_is | ks_is | rfl | kernel_rfl)
    (case d0s => first | k_is | kit_is | ks_is | rfl | kernel_rfl)
    (case d0sv => first | k_is | kit_is | ks_is | rfl | kernel_rfl)
    (case d0op => first | k_is | kit_is | ks_is | rfl | kernel_rfl)
    (case d0mn => first | k_is | kit_is | ks_is | rfl | kernel_rfl)
    (case d0heap => first | k_is | kit_is | ks_is | rfl | kernel_rfl)
    (case d1n => first | k_is | kit_is | ks_is | rfl | kernel_rfl)
    (case b1a => first | k_is | kit_is | ks_is | rfl | kernel_rfl)
    (case b1b => first | k_is | kit_is | ks_is | rfl | kernel_rfl)
    (case b1c => first | k_is | kit_is | ks_is | rfl | kernel_rfl)
    (case b1d => first | k_is | kit_is | ks_is | rfl | kernel_rfl)
    (case b1e => first | k_is | kit_is | ks_is | rfl | kernel_rfl)
    (case b1f => first | k_is | kit_is | ks_is | rfl | kernel_rfl)
    (case b1g => first | k_is | kit_is | ks_is | rfl | kernel_rfl)
    (case b1h => first | k_is | kit_is | ks_is | rfl | kernel_rfl)
    (case b1i => first | k_is | kit_is | ks_is | rfl | kernel_rfl)
    (case b1j => first | k_is | kit_is | ks_is | rfl | kernel_rfl)
    (case d1l => first | k_is | kit_is | ks_is | rfl | kernel_rfl)
    (case d1r => first | k_is | kit_is | ks_is | rfl | kernel_rfl)
    (case d1sa => first | k_is | kit_is | ks_is | rfl | kernel_rfl)
    (case d1ty => first | k_is | kit_is | ks_is | rfl | kernel_rfl)
    (case d1ini => first | k_is | kit_is | ks_is | rfl | kernel_rfl)
    (case d1fn => first | k_is | kit_is | ks_is | rfl | kernel_rfl)
    (case d1lf => first | k_is | kit_is | ks_is | rfl | kernel_rfl)
    (case d1code => first | k_is | kit_is | ks_is | rfl | kernel_rfl)
    (case d1lc => first | k_is | kit_is | ks_is | rfl | kernel_rfl)
    (case d1ld => first | k_is | kit_is | ks_is | rfl | kernel_rfl)
    (case d1v2 => first | k_is | kit_is | ks_is | rfl | kernel_rfl)
    (case d1fl => first | k_is | kit_is | ks_is | rfl | kernel_rfl)
    (case d1c => first | k_is | kit_is | ks_is | rfl | kernel_rfl)
    (case d1m => first | k_is | kit_is | ks_is | rfl | kernel_rfl)
    (case d1s => first | k_is | kit_is | ks_is | rfl | kernel_rfl)
    (case d1sv => first | k_is | kit_is | ks_is | rfl | kernel_rfl)
    (case d1op => first | k_is | kit_is | ks_is | rfl | kernel_rfl)
    (case d1mn => first | k_is | kit_is | ks_is | rfl | kernel_rfl)
    (case d1heap => first | k_is | kit_is | ks_is | rfl | kernel_rfl)
    (case d2n => first | k_is | kit_is | ks_is | rfl | kernel_rfl)
    (case b2a => first | k_is | kit_is | ks_is | rfl | kernel_rfl)
    (case b2b => first | k_is | kit_is | ks_is | rfl | kernel_rfl)
    (case b2c => first | k_is | kit_is | ks_is | rfl | kernel_rfl)
    (case b2d => first | k_is | kit_is | ks_is | rfl | kernel_rfl)
    (case b2e => first | k_is | kit_is | ks_is | rfl | kernel_rfl)
    (case b2f => first | k_is | kit_is | ks_is | rfl | kernel_rfl)
    (case b2g => first | k_is | kit_is | ks_is | rfl | kernel_rfl)
    (case b2h => first | k_is | kit_is | ks_is | rfl | kernel_rfl)
    (case b2i => first | k_is | kit_is | ks_is | rfl | kernel_rfl)
    (case b2j => first | k_is | kit_is | ks_is | rfl | kernel_rfl)
    (case d2l => first | k_is | kit_is | ks_is | rfl | kernel_rfl)
    (case d2r => first | k_is | kit_is | ks_is | rfl | kernel_rfl)
    (case d2sa => first | k_is | kit_is | ks_is | rfl | kernel_rfl)
    (case d2ty => first | k_is | kit_is | ks_is | rfl | kernel_rfl)
    (case d2ini => first | k_is | kit_is | ks_is | rfl | kernel_rfl)
    (case d2fn => first | k_is | kit_is | ks_is | rfl | kernel_rfl)
    (case d2lf => first | k_is | kit_is | ks_is | rfl | kernel_rfl)
    (case d2code => first | k_is | kit_is | ks_is | rfl | kernel_rfl)
    (case d2lc => first | k_is | kit_is | ks_is | rfl | kernel_rfl)
    (case d2ld => first | k_is | kit_is | ks_is | rfl | kernel_rfl)
    (case d2v2 => first | k_is | kit_is | ks_is | rfl | kernel_rfl)
    (case d2fl => first | k_is | kit_is | ks_is | rfl | kernel_rfl)
    (case d2c => first | k_is | kit_is | ks_is | rfl | kernel_rfl)
    (case d2m => first | k_is | kit_is | ks_is | rfl | kernel_rfl)
    (case d2s => first | k_is | kit_is | ks_is | rfl | kernel_rfl)
    (case d2sv => first | k_is | kit_is | ks_is | rfl | kernel_rfl)
    (case d2op => first | k_is | kit_is | ks_is | rfl | kernel_rfl)
    (case d2mn => first | k_is | kit_is | ks_is | rfl | kernel_rfl)
    (case d2heap => first | k_is | kit_is | ks_is | rfl | kernel_rfl)
    (case d3n => first | k_is | kit_is | ks_is | rfl | kernel_rfl)
    (case b3a => first | k_is | kit_is | ks_is | rfl | kernel_rfl)
    (case b3b => first | k_is | kit_is | ks_is | rfl | kernel_rfl)
    (case b3c => first | k_is | kit_is | ks_is | rfl | kernel_rfl)
    (case b3d => first | k_is | kit_is | ks_is | rfl | kernel_rfl)
    (case b3e => first | k_is | kit_is | ks_is | rfl | kernel_rfl)
    (case b3f => first | k_is | kit_is | ks_is | rfl | kernel_rfl)
    (case b3g => first | k_is | kit_is | ks_is | rfl | kernel_rfl)
    (case b3h => first | k_is | kit_is | ks_is | rfl | kernel_rfl)
    (case b3i => first | k_is | kit_is | ks_is | rfl | kernel_rfl)
    (case b3j => first | k_is | kit_is | ks_is | rfl | kernel_rfl)
    (case d3l => first | k_is | kit_is | ks_is | rfl | kernel_rfl)
    (case d3r => first | k_is | kit_is | ks_is | rfl | kernel_rfl)
    (case d3sa => first | k_is | kit_is | ks_is | rfl | kernel_rfl)
    (case d3ty => first | k_is | kit_is | ks_is | rfl | kernel_rfl)
    (case d3ini => first | k_is | kit_is | ks_is | rfl | kernel_rfl)
    (case d3fn => first | k_is | kit_is | ks_is | rfl | kernel_rfl)
    (case d3lf => first | k_is | kit_is | ks_is | rfl | kernel_rfl)
    (case d3code => first | k_is | kit_is | ks_is | rfl | kernel_rfl)
    (case d3lc => first | k_is | kit_is | ks_is | rfl | kernel_rfl)
    (case d3ld => first | k_is | kit_is | ks_is | rfl | kernel_rfl)
    (case d3v2 => first | k_is | kit_is | ks_is | rfl | kernel_rfl)
    (case d3fl => first | k_is | kit_is | ks_is | rfl | kernel_rfl)
    (case d3c => first | k_is | kit_is | ks_is | rfl | kernel_rfl)
    (case d3m => first | k_is | kit_is | ks_is | rfl | kernel_rfl)
    (case d3s => first | k_is | kit_is | ks_is | rfl | kernel_rfl)
    (case d3sv => first | k_is | kit_is | ks_is | rfl | kernel_rfl)
    (case d3op => first | k_is | kit_is | ks_is | rfl | kernel_rfl)
    (case d3mn => first | k_is | kit_is | ks_is | rfl | kernel_rfl)
    (case d3heap => first | k_is | kit_is | ks_is | rfl | kernel_rfl)
    (case d4n => first | k_is | kit_is | ks_is | rfl | kernel_rfl)
    (case b4a => first | k_is | kit_is | ks_is | rfl | kernel_rfl)
    (case b4b => first | k_is | kit_is | ks_is | rfl | kernel_rfl)
    (case b4c => first | k_is | kit_is | ks_is | rfl | kernel_rfl)
    (case b4d => first | k_is | kit_is | ks_is | rfl | kernel_rfl)
    (case b4e => first | k_is | kit_is | ks_is | rfl | kernel_rfl)
    (case b4f => first | k_is | kit_is | ks_is | rfl | kernel_rfl)
    (case b4g => first | k_is | kit_is | ks_is | rfl | kernel_rfl)
    (case b4h => first | k_is | kit_is | ks_is | rfl | kernel_rfl)
    (case b4i => first | k_is | kit_is | ks_is | rfl | kernel_rfl)
    (case b4j => first | k_is | kit_is | ks_is | rfl | kernel_rfl)
    (case d4l => first | k_is | kit_is | ks_is | rfl | kernel_rfl)
    (case d4r => first | k_is | kit_is | ks_is | rfl | kernel_rfl)
    (case d4sa => first | k_is | kit_is | ks_is | rfl | kernel_rfl)
    (case d4ty => first | k_is | kit_is | ks_is | rfl | kernel_rfl)
    (case d4ini => first | k_is | kit_is | ks_is | rfl | kernel_rfl)
    (case d4fn => first | k_is | kit_is | ks_is | rfl | kernel_rfl)
    (case d4lf => first | k_is | kit_is | ks_is | rfl | kernel_rfl)
    (case d4code => first | k_is | kit_is | ks_is | rfl | kernel_rfl)
    (case d4lc => first | k_is | kit_is | ks_is | rfl | kernel_rfl)
    (case d4ld => first | k_is | kit_is | ks_is | rfl | kernel_rfl)
    (case d4v2 => first | k_is | kit_is | ks_is | rfl | kernel_rfl)
    (case d4fl => first | k_is | kit_is | ks_is | rfl | kernel_rfl)
    (case d4c => first | k_is | kit_is | ks_is | rfl | kernel_rfl)
    (case d4m => first | k_is | kit_is | ks_is | rfl | kernel_rfl)
    (case d4s => first | k_is | kit_is | ks_is | rfl | kernel_rfl)
    (case d4sv => first | k_is | kit_is | ks_is | rfl | kernel_rfl)
    (case d4op => first | k_is | kit_is | ks_is | rfl | kernel_rfl)
    (case d4mn => first | k_is | kit_is | ks_is | rfl | kernel_rfl)
    (case d4heap => first | k_is | kit_is | ks_is | rfl | kernel_rfl)
    (case d5n => first | k_is | kit_is | ks_is | rfl | kernel_rfl)
    (case b5a => first | k_is | kit_is | ks_is | rfl | kernel_rfl)
    (case b5b => first | k_is | kit_is | ks_is | rfl | kernel_rfl)
    (case b5c => first | k_is | kit_is | ks_is | rfl | kernel_rfl)
    (case b5d => first | k_is | kit_is | ks_is | rfl | kernel_rfl)
    (case b5e => first | k_is | kit_is | ks_is | rfl | kernel_rfl)
    (case b5f => first | k_is | kit_is | ks_is | rfl | kernel_rfl)
    (case b5g => first | k_is | kit_is | ks_is | rfl | kernel_rfl)
    (case b5h => first | k_is | kit_is | ks_is | rfl | kernel_rfl)
    (case b5i => first | k_is | kit_is | ks_is | rfl | kernel_rfl)
    (case b5j => first | k_is | kit_is | ks_is | rfl | kernel_rfl)
    (case d5l => first | k_is | kit_is | ks_is | rfl | kernel_rfl)
    (case d5r => first | k_is | kit_is | ks_is | rfl | kernel_rfl)
    (case d5sa => first | k_is | kit_is | ks_is | rfl | kernel_rfl)
    (case d5ty => first | k_is | kit_is | ks_is | rfl | kernel_rfl)
    (case d5ini => first | k_is | kit_is | ks_is | rfl | kernel_rfl)
    (case d5fn => first | k_is | kit_is | ks_is | rfl | kernel_rfl)
    (case d5lf => first | k_is | kit_is | ks_is | rfl | kernel_rfl)
    (case d5code => first | k_is | kit_is | ks_is | rfl | kernel_rfl)
    (case d5lc => first | k_is | kit_is | ks_is | rfl | kernel_rfl)
    (case d5ld => first | k_is | kit_is | ks_is | rfl | kernel_rfl)
    (case d5v2 => first | k_is | kit_is | ks_is | rfl | kernel_rfl)
    (case d5fl => first | k_is | kit_is | ks_is | rfl | kernel_rfl)
    (case d5c => first | k_is | kit_is | ks_is | rfl | kernel_rfl)
    (case d5m => first | k_is | kit_is | ks_is | rfl | kernel_rfl)
    (case d5s => first | k_is | kit_is | ks_is | rfl | kernel_rfl)
    (case d5sv => first | k_is | kit_is | ks_is | rfl | kernel_rfl)
    (case d5op => first | k_is | kit_is | ks_is | rfl | kernel_rfl)
    (case d5mn => first | k_is | kit_is | ks_is | rfl | kernel_rfl)
    (case d5heap => first | k_is | kit_is | ks_is | rfl | kernel_rfl)
    (case d6n => first | k_is | kit_is | ks_is | rfl | kernel_rfl)
    (case b6a => first | k_is | kit_is | ks_is | rfl | kernel_rfl)
    (case b6b => first | k_is | kit_is | ks_is | rfl | kernel_rfl)
    (case b6c => first | k_is | kit_is | ks_is | rfl | kernel_rfl)
    (case b6d => first | k_is | kit_is | ks_is | rfl | kernel_rfl)
    (case b6e => first | k_is | kit_is | ks_is | rfl | kernel_rfl)
    (case b6f => first | k_is | kit_is | ks_is | rfl | kernel_rfl)
    (case b6g => first | k_is | kit_is | ks_is | rfl | kernel_rfl)
    (case b6h => first | k_is | kit_is | ks_is | rfl | kernel_rfl)
    (case b6i => first | k_is | kit_is | ks_is | rfl | kernel_rfl)
    (case b6j => first | k_is | kit_is | ks_is | rfl | kernel_rfl)
    (case d6l => first | k_is | kit_is | ks_is | rfl | kernel_rfl)
    (case d6r => first | k_is | kit_is | ks_is | rfl | kernel_rfl)
    (case d6sa => first | k_is | kit_is | ks_is | rfl | kernel_rfl)
    (case d6ty => first | k_is | kit_is | ks_is | rfl | kernel_rfl)
    (case d6ini => first | k_is | kit_is | ks_is | rfl | kernel_rfl)
    (case d6fn => first | k_is | kit_is | ks_is | rfl | kernel_rfl)
    (case d6lf => first | k_is | kit_is | ks_is | rfl | kernel_rfl)
    (case d6code => first | k_is | kit_is | ks_is | rfl | kernel_rfl)
    (case d6lc => first | k_is | kit_is | ks_is | rfl | kernel_rfl)
    (case d6ld => first | k_is | kit_is | ks_is | rfl | kernel_rfl)
    (case d6v2 => first | k_is | kit_is | ks_is | rfl | kernel_rfl)
    (case d6fl => first | k_is | kit_is | ks_is | rfl | kernel_rfl)
    (case d6c => first | k_is | kit_is | ks_is | rfl | kernel_rfl)
    (case d6m => first | k_is | kit_is | ks_is | rfl | kernel_rfl)
    (case d6s => first | k_is | kit_is | ks_is | rfl | kernel_rfl)
    (case d6sv => first | k_is | kit_is | ks_is | rfl | kernel_rfl)
    (case d6op => first | k_is | kit_is | ks_is | rfl | kernel_rfl)
    (case d6mn => first | k_is | kit_is | ks_is | rfl | kernel_rfl)
    (case d6heap => first | k_is | kit_is | ks_is | rfl | kernel_rfl)
    (case d7n => first | k_is | kit_is | ks_is | rfl | kernel_rfl)
    (case b7a => first | k_is | kit_is | ks_is | rfl | kernel_rfl)
    (case b7b => first | k_is | kit_is | ks_is | rfl | kernel_rfl)
    (case b7c => first | k_is | kit_is | ks_is | rfl | kernel_rfl)
    (case b7d => first | k_is | kit_is | ks_is | rfl | kernel_rfl)
    (case b7e => first | k_is | kit_is | ks_is | rfl | kernel_rfl)
    (case b7f => first | k_is | kit_is | ks_is | rfl | kernel_rfl)
    (case b7g => first | k_is | kit_is | ks_is | rfl | kernel_rfl)
    (case b7h => first | k_is | kit_is | ks_is | rfl | kernel_rfl)
    (case b7i => first | k_is | kit_is | ks_is | rfl | kernel_rfl)
    (case b7j => first | k_is | kit_is | ks_is | rfl | kernel_rfl)
    (case d7l => first | k_is | kit_is | ks_is | rfl | kernel_rfl)
    (case d7r => first | k_is | kit_is | ks_is | rfl | kernel_rfl)
    (case d7sa => first | k_is | kit_is | ks_is | rfl | kernel_rfl)
    (case d7ty => first | k_is | kit_is | ks_is | rfl | kernel_rfl)
    (case d7ini => first | k_is | kit_is | ks_is | rfl | kernel_rfl)
    (case d7fn => first | k_is | kit_is | ks_is | rfl | kernel_rfl)
    (case d7lf => first | k_is | kit_is | ks_is | rfl | kernel_rfl)
    (case d7code => first | k_is | kit_is | ks_is | rfl | kernel_rfl)
    (case d7lc => first | k_is | kit_is | ks_is | rfl | kernel_rfl)
    (case d7ld => first | k_is | kit_is | ks_is | rfl | kernel_rfl)
    (case d7v2 => first | k_is | kit_is | ks_is | rfl | kernel_rfl)
    (case d7fl => first | k_is | kit_is | ks_is | rfl | kernel_rfl)
    (case d7c => first | k_is | kit_is | ks_is | rfl | kernel_rfl)
    (case d7m => first | k_is | kit_is | ks_is | rfl | kernel_rfl)
    (case d7s => first | k_is | kit_is | ks_is | rfl | kernel_rfl)
    (case d7sv => first | k_is | kit_is | ks_is | rfl | kernel_rfl)
    (case d7op => first | k_is | kit_is | ks_is | rfl | kernel_rfl)
    (case d7mn => first | k_is | kit_is | ks_is | rfl | kernel_rfl)
    (case d7heap => first | k_is | kit_is | ks_is | rfl | kernel_rfl)
    (case d8n => first | k_is | kit_is | ks_is | rfl | kernel_rfl)
    (case b8a => first | k_is | kit_is | ks_is | rfl | kernel_rfl)
    (case b8b => first | k_is | kit_is | ks_is | rfl | kernel_rfl)
    (case b8c => first | k_is | kit_is | ks_is | rfl | kernel_rfl)
    (case b8d => first | k_is | kit_is | ks_is | rfl | kernel_rfl)
    (case b8e => first | k_is | kit_is | ks_is | rfl | kernel_rfl)
    (case b8f => first | k_is | kit_is | ks_is | rfl | kernel_rfl)
    (case b8g => first | k_is | kit_is | ks_is | rfl | kernel_rfl)
    (case b8h => first | k_is | kit_is | ks_is | rfl | kernel_rfl)
    (case b8i => first | k_is | kit_is | ks_is | rfl | kernel_rfl)
    (case b8j => first | k_is | kit_is | ks_is | rfl | kernel_rfl)
    (case d8l => first | k_is | kit_is | ks_is | rfl | kernel_rfl)
    (case d8r => first | k_is | kit_is | ks_is | rfl | kernel_rfl)
    (case d8sa => first | k_is | kit_is | ks_is | rfl | kernel_rfl)
    (case d8ty => first | k_is | kit_is | ks_is | rfl | kernel_rfl)
    (case d8ini => first | k_is | kit_is | ks_is | rfl | kernel_rfl)
    (case d8fn => first | k_is | kit_is | ks_is | rfl | kernel_rfl)
    (case d8lf => first | k_is | kit_is | ks_is | rfl | kernel_rfl)
    (case d8code => first | k_is | kit_is | ks_is | rfl | kernel_rfl)
    (case d8lc => first | k_is | kit_is | ks_is | rfl | kernel_rfl)
    (case d8ld => first | k_is | kit_is | ks_is | rfl | kernel_rfl)
    (case d8v2 => first | k_is | kit_is | ks_is | rfl | kernel_rfl)
    (case d8fl => first | k_is | kit_is | ks_is | rfl | kernel_rfl)
    (case d8c => first | k_is | kit_is | ks_is | rfl | kernel_rfl)
    (case d8m => first | k_is | kit_is | ks_is | rfl | kernel_rfl)
    (case d8s => first | k_is | kit_is | ks_is | rfl | kernel_rfl)
    (case d8sv => first | k_is | kit_is | ks_is | rfl | kernel_rfl)
    (case d8op => first | k_is | kit_is | ks_is | rfl | kernel_rfl)
    (case d8mn => first | k_is | kit_is | ks_is | rfl | kernel_rfl)
    (case d8heap => first | k_is | kit_is | ks_is | rfl | kernel_rfl)
    (case d9n => first | k_is | kit_is | ks_is | rfl | kernel_rfl)
    (case b9a => first | k_is | kit_is | ks_is | rfl | kernel_rfl)
    (case b9b => first | k_is | kit_is | ks_is | rfl | kernel_rfl)
    (case b9c => first | k_is | kit_is | ks_is | rfl | kernel_rfl)
    (case b9d => first | k_is | kit_is | ks_is | rfl | kernel_rfl)
    (case b9e => first | k_is | kit_is | ks_is | rfl | kernel_rfl)
    (case b9f => first | k_is | kit_is | ks_is | rfl | kernel_rfl)
    (case b9g => first | k_is | kit_is | ks_is | rfl | kernel_rfl)
    (case b9h => first | k_is | kit_is | ks_is | rfl | kernel_rfl)
    (case b9i => first | k_is | kit_is | ks_is | rfl | kernel_rfl)
    (case b9j => first | k_is | kit_is | ks_is | rfl | kernel_rfl)
    (case d9l => first | k_is | kit_is | ks_is | rfl | kernel_rfl)
    (case d9r => first | k_is | kit_is | ks_is | rfl | kernel_rfl)
    (case d9sa => first | k_is | kit_is | ks_is | rfl | kernel_rfl)
    (case d9ty => first | k_is | kit_is | ks_is | rfl | kernel_rfl)
    (case d9ini => first | k_is | kit_is | ks_is | rfl | kernel_rfl)
    (case d9fn => first | k_is | kit_is | ks_is | rfl | kernel_rfl)
    (case d9lf => first | k_is | kit_is | ks_is | rfl | kernel_rfl)
    (case d9code => first | k_is | kit_is | ks_is | rfl | kernel_rfl)
    (case d9lc => first | k_is | kit_is | ks_is | rfl | kernel_rfl)
    (case d9ld => first | k_is | kit_is | ks_is | rfl | kernel_rfl)
    (case d9v2 => first | k_is | kit_is | ks_is | rfl | kernel_rfl)
    (case d9fl => first | k_is | kit_is | ks_is | rfl | kernel_rfl)
    (case d9c => first | k_is | kit_is | ks_is | rfl | kernel_rfl)
    (case d9m => first | k_is | kit_is | ks_is | rfl | kernel_rfl)
    (case d9s => first | k_is | kit_is | ks_is | rfl | kernel_rfl)
    (case d9sv => first | k_is | kit_is | ks_is | rfl | kernel_rfl)
    (case d9op => first | k_is | kit_is | ks_is | rfl | kernel_rfl)
    (case d9mn => first | k_is | kit_is | ks_is | rfl | kernel_rfl)
    (case d9heap => first | k_is | kit_is | ks_is | rfl | kernel_rfl)
    (case d10n => first | k_is | kit_is | ks_is | rfl | kernel_rfl)
    (case b10a => first | k_is | kit_is | ks_is | rfl | kernel_rfl)
    (case b10b => first | k_is | kit_is | ks_is | rfl | kernel_rfl)
    (case b10c => first | k_is | kit_is | ks_is | rfl | kernel_rfl)
    (case b10d => first | k_is | kit_is | ks_is | rfl | kernel_rfl)
    (case b10e => first | k_is | kit_is | ks_is | rfl | kernel_rfl)
    (case b10f => first | k_is | kit_is | ks_is | rfl | kernel_rfl)
    (case b10g => first | k_is | kit_is | ks_is | rfl | kernel_rfl)
    (case b10h => first | k_is | kit_is | ks_is | rfl | kernel_rfl)
    (case b10i => first | k_is | kit_is | ks_is | rfl | kernel_rfl)
    (case b10j => first | k_is | kit_is | ks_is | rfl | kernel_rfl)
    (case d10l => first | k_is | kit_is | ks_is | rfl | kernel_rfl)
    (case d10r => first | k_is | kit_is | ks_is | rfl | kernel_rfl)
    (case d10sa => first | k_is | kit_is | ks_is | rfl | kernel_rfl)
    (case d10ty => first | k_is | kit_is | ks_is | rfl | kernel_rfl)
    (case d10ini => first | k_is | kit_is | ks_is | rfl | kernel_rfl)
    (case d10fn => first | k_is | kit_is | ks_is | rfl | kernel_rfl)
    (case d10lf => first | k_is | kit_is | ks_is | rfl | kernel_rfl)
    (case d10code => first | k_is | kit_is | ks_is | rfl | kernel_rfl)
    (case d10lc => first | k_is | kit_is | ks_is | rfl | kernel_rfl)
    (case d10ld => first | k_is | kit_is | ks_is | rfl | kernel_rfl)
    (case d10v2 => first | k_is | kit_is | ks_is | rfl | kernel_rfl)
    (case d10fl => first | k_is | kit_is | ks_is | rfl | kernel_rfl)
    (case d10c => first | k_is | kit_is | ks_is | rfl | kernel_rfl)
    (case d10m => first | k_is | kit_is | ks_is | rfl | kernel_rfl)
    (case d10s => first | k_is | kit_is | ks_is | rfl | kernel_rfl)
    (case d10sv => first | k_is | kit_is | ks_is | rfl | kernel_rfl)
    (case d10op => first | k_is | kit_is | ks_is | rfl | kernel_rfl)
    (case d10mn => first | k_is | kit_is | ks_is | rfl | kernel_rfl)
    (case d10heap => first | k_is | kit_is | ks_is | rfl | kernel_rfl)
    (case d11n => first | k_is | kit_is | ks_is | rfl | kernel_rfl)
    (case b11a => first | k_is | kit_is | ks_is | rfl | kernel_rfl)
    (case b11b => first | k_is | kit_is | ks_is | rfl | kernel_rfl)
    (case b11c => first | k_is | kit_is | ks_is | rfl | kernel_rfl)
    (case b11d => first | k_is | kit_is | ks_is | rfl | kernel_rfl)
    (case b11e => first | k_is | kit_is | ks_is | rfl | kernel_rfl)
    (case b11f => first | k_is | kit_is | ks_is | rfl | kernel_rfl)
    (case b11g => first | k_is | kit_is | ks_is | rfl | kernel_rfl)
    (case b11h => first | k_is | kit_is | ks_is | rfl | kernel_rfl)
    (case b11i => first | k_is | kit_is | ks_is | rfl | kernel_rfl)
    (case b11j => first | k_is | kit_is | ks_is | rfl | kernel_rfl)
    (case d11l => first | k_is | kit_is | ks_is | rfl | kernel_rfl)
    (case d11r => first | k_is | kit_is | ks_is | rfl | kernel_rfl)
    (case d11sa => first | k_is | kit_is | ks_is | rfl | kernel_rfl)
    (case d11ty => first | k_is | kit_is | ks_is | rfl | kernel_rfl)
    (case d11ini => first | k_is | kit_is | ks_is | rfl | kernel_rfl)
    (case d11fn => first | k_is | kit_is | ks_is | rfl | kernel_rfl)
    (case d11lf => first | k_is | kit_is | ks_is | rfl | kernel_rfl)
    (case d11code => first | k_is | kit_is | ks_is | rfl | kernel_rfl)
    (case d11lc => first | k_is | kit_is | ks_is | rfl | kernel_rfl)
    (case d11ld => first | k_is | kit_is | ks_is | rfl | kernel_rfl)
    (case d11v2 => first | k_is | kit_is | ks_is | rfl | kernel_rfl)
    (case d11fl => first | k_is | kit_is | ks_is | rfl | kernel_rfl)
    (case d11c => first | k_is | kit_is | ks_is | rfl | kernel_rfl)
    (case d11m => first | k_is | kit_is | ks_is | rfl | kernel_rfl)
    (case d11s => first | k_is | kit_is | ks_is | rfl | kernel_rfl)
    (case d11sv => first | k_is | kit_is | ks_is | rfl | kernel_rfl)
    (case d11op => first | k_is | kit_is | ks_is | rfl | kernel_rfl)
    (case d11mn => first | k_is | kit_is | ks_is | rfl | kernel_rfl)
    (case d11heap => first | k_is | kit_is | ks_is | rfl | kernel_rfl)
    (case d12n => first | k_is | kit_is | ks_is | rfl | kernel_rfl)
    (case b12a => first | k_is | kit_is | ks_is | rfl | kernel_rfl)
    (case b12b => first | k_is | kit_is | ks_is | rfl | kernel_rfl)
    (case b12c => first | k_is | kit_is | ks_is | rfl | kernel_rfl)
    (case b12d => first | k_is | kit_is | ks_is | rfl | kernel_rfl)
    (case b12e => first | k_is | kit_is | ks_is | rfl | kernel_rfl)
    (case b12f => first | k_is | kit_is | ks_is | rfl | kernel_rfl)
    (case b12g => first | k_is | kit_is | ks_is | rfl | kernel_rfl)
    (case b12h => first | k_is | kit_is | ks_is | rfl | kernel_rfl)
    (case b12i => first | k_is | kit_is | ks_is | rfl | kernel_rfl)
    (case b12j => first | k_is | kit_is | ks_is | rfl | kernel_rfl)
    (case d12l => first | k_is | kit_is | ks_is | rfl | kernel_rfl)
    (case d12r => first | k_is | kit_is | ks_is | rfl | kernel_rfl)
    (case d12sa => first | k_is | kit_is | ks_is | rfl | kernel_rfl)
    (case d12ty => first | k_is | kit_is | ks_is | rfl | kernel_rfl)
    (case d12ini => first | k_is | kit_is | ks_is | rfl | kernel_rfl)
    (case d12fn => first | k_is | kit_is | ks_is | rfl | kernel_rfl)
    (case d12lf => first | k_is | kit_is | ks_is | rfl | kernel_rfl)
    (case d12code => first | k_is | kit_is | ks_is | rfl | kernel_rfl)
    (case d12lc => first | k_is | kit_is | ks_is | rfl | kernel_rfl)
    (case d12ld => first | k_is | kit_is | ks_is | rfl | kernel_rfl)
    (case d12v2 => first | k_is | kit_is | ks_is | rfl | kernel_rfl)
    (case d12fl => first | k_is | kit_is | ks_is | rfl | kernel_rfl)
    (case d12c => first | k_is | kit_is | ks_is | rfl | kernel_rfl)
    (case d12m => first | k_is | kit_is | ks_is | rfl | kernel_rfl)
    (case d12s => first | k_is | kit_is | ks_is | rfl | kernel_rfl)
    (case d12sv => first | k_is | kit_is | ks_is | rfl | kernel_rfl)
    (case d12op => first | k_is | kit_is | ks_is | rfl | kernel_rfl)
    (case d12mn => first | k_is | kit_is | ks_is | rfl | kernel_rfl)
    (case d12heap => first | k_is | kit_is | ks_is | rfl | kernel_rfl)
    (case sEx0 => first | k_is | kit_is | ks_is | rfl | kernel_rfl)
    (case sEx1 => first | k_is | kit_is | ks_is | rfl | kernel_rfl)
    (case sEx2 => first | k_is | kit_is | ks_is | rfl | kernel_rfl)
    (case sEx3 => first | k_is | kit_is | ks_is | rfl | kernel_rfl)
    (case sEx4 => first | k_is | kit_is | ks_is | rfl | kernel_rfl)
    (case sEx5 => first | k_is | kit_is | ks_is | rfl | kernel_rfl)
    (case sEx6 => first | k_is | kit_is | ks_is | rfl | kernel_rfl)
    (case sEx7 => first | k_is | kit_is | ks_is | rfl | kernel_rfl)
    (case sEx8 => first | k_is | kit_is | ks_is | rfl | kernel_rfl)
    (case sEx9 => first | k_is | kit_is | ks_is | rfl | kernel_rfl)
    (case sEx10 => first | k_is | kit_is | ks_is | rfl | kernel_rfl)
    (case sEx11 => first | k_is | kit_is | ks_is | rfl | kernel_rfl)
    (case sEx12 => first | k_is | kit_is | ks_is | rfl | kernel_rfl)
    (case s0x0 => first | k_is | kit_is | ks_is | rfl | kernel_rfl)
    (case s0x1 => first | k_is | kit_is | ks_is | rfl | kernel_rfl)
    (case s0x2 => first | k_is | kit_is | ks_is | rfl | kernel_rfl)
    (case s0x3 => first | k_is | kit_is | ks_is | rfl | kernel_rfl)
    (case s0x4 => first | k_is | kit_is | ks_is | rfl | kernel_rfl)
    (case s0x5 => first | k_is | kit_is | ks_is | rfl | kernel_rfl)
    (case s0x6 => first | k_is | kit_is | ks_is | rfl | kernel_rfl)
    (case s0x7 => first | k_is | kit_is | ks_is | rfl | kernel_rfl)
    (case s0x8 => first | k_is | kit_is | ks_is | rfl | kernel_rfl)
    (case s0x9 => first | k_is | kit_is | ks_is | rfl | kernel_rfl)
    (case s0x10 => first | k_is | kit_is | ks_is | rfl | kernel_rfl)
    (case s0x11 => first | k_is | kit_is | ks_is | rfl | kernel_rfl)
    (case s0x12 => first | k_is | kit_is | ks_is | rfl | kernel_rfl)
    (case s1x0 => first | k_is | kit_is | ks_is | rfl | kernel_rfl)
    (case s1x1 => first | k_is | kit_is | ks_is | rfl | kernel_rfl)
    (case s1x2 => first | k_is | kit_is | ks_is | rfl | kernel_rfl)
    (case s1x3 => first | k_is | kit_is | ks_is | rfl | kernel_rfl)
    (case s1x4 => first | k_is | kit_is | ks_is | rfl | kernel_rfl)
    (case s1x5 => first | k_is | kit_is | ks_is | rfl | kernel_rfl)
    (case s1x6 => first | k_is | kit_is | ks_is | rfl | kernel_rfl)
    (case s1x7 => first | k_is | kit_is | ks_is | rfl | kernel_rfl)
    (case s1x8 => first | k_is | kit_is | ks_is | rfl | kernel_rfl)
    (case s1x9 => first | k_is | kit_is | ks_is | rfl | kernel_rfl)
    (case s1x10 => first | k_is | kit_is | ks_is | rfl | kernel_rfl)
    (case s1x11 => first | k_is | kit_is | ks_is | rfl | kernel_rfl)
    (case s1x12 => first | k_is | kit_is | ks_is | rfl | kernel_rfl)
    (case s2x0 => first | k_is | kit_is | ks_is | rfl | kernel_rfl)
    (case s2x1 => first | k_is | kit_is | ks_is | rfl | kernel_rfl)
    (case s2x2 => first | k_is | kit_is | ks_is | rfl | kernel_rfl)
    (case s2x3 => first | k_is | kit_is | ks_is | rfl | kernel_rfl)
    (case s2x4 => first | k_is | kit_is | ks_is | rfl | kernel_rfl)
    (case s2x5 => first | k_is | kit_is | ks_is | rfl | kernel_rfl)
    (case s2x6 => first | k_is | kit_is | ks_is | rfl | kernel_rfl)
    (case s2x7 => first | k_is | kit_is | ks_is | rfl | kernel_rfl)
    (case s2x8 => first | k_is | kit_is | ks_is | rfl | kernel_rfl)
    (case s2x9 => first | k_is | kit_is | ks_is | rfl | kernel_rfl)
    (case s2x10 => first | k_is | kit_is | ks_is | rfl | kernel_rfl)
    (case s2x11 => first | k_is | kit_is | ks_is | rfl | kernel_rfl)
    (case s2x12 => first | k_is | kit_is | ks_is | rfl | kernel_rfl)
    (case s3x0 => first | k_is | kit_is | ks_is | rfl | kernel_rfl)
    (case s3x1 => first | k_is | kit_is | ks_is | rfl | kernel_rfl)
    (case s3x2 => first | k_is | kit_is | ks_is | rfl | kernel_rfl)
    (case s3x3 => first | k_is | kit_is | ks_is | rfl | kernel_rfl)
    (case s3x4 => first | k_is | kit_is | ks_is | rfl | kernel_rfl)
    (case s3x5 => first | k_is | kit_is | ks_is | rfl | kernel_rfl)
    (case s3x6 => first | k_is | kit_is | ks_is | rfl | kernel_rfl)
    (case s3x7 => first | k_is | kit_is | ks_is | rfl | kernel_rfl)
    (case s3x8 => first | k_is | kit_is | ks_is | rfl | kernel_rfl)
    (case s3x9 => first | k_is | kit_is | ks_is | rfl | kernel_rfl)
    (case s3x10 => first | k_is | kit_is | ks_is | rfl | kernel_rfl)
    (case s3x11 => first | k_is | kit_is | ks_is | rfl | kernel_rfl)
    (case s3x12 => first | k_is | kit_is | ks_is | rfl | kernel_rfl)
    (case s4x0 => first | k_is | kit_is | ks_is | rfl | kernel_rfl)
    (case s4x1 => first | k_is | kit_is | ks_is | rfl | kernel_rfl)
    (case s4x2 => first | k_is | kit_is | ks_is | rfl | kernel_rfl)
    (case s4x3 => first | k_is | kit_is | ks_is | rfl | kernel_rfl)
    (case s4x4 => first | k_is | kit_is | ks_is | rfl | kernel_rfl)
    (case s4x5 => first | k_is | kit_is | ks_is | rfl | kernel_rfl)
    (case s4x6 => first | k_is | kit_is | ks_is | rfl | kernel_rfl)
    (case s4x7 => first | k_is | kit_is | ks_is | rfl | kernel_rfl)
    (case s4x8 => first | k_is | kit_is | ks_is | rfl | kernel_rfl)
    (case s4x9 => first | k_is | kit_is | ks_is | rfl | kernel_rfl)
    (case s4x10 => first | k_is | kit_is | ks_is | rfl | kernel_rfl)
    (case s4x11 => first | k_is | kit_is | ks_is | rfl | kernel_rfl)
    (case s4x12 => first | k_is | kit_is | ks_is | rfl | kernel_rfl)
    (case s5x0 => first | k_is | kit_is | ks_is | rfl | kernel_rfl)
    (case s5x1 => first | k_is | kit_is | ks_is | rfl | kernel_rfl)
    (case s5x2 => first | k_is | kit_is | ks_is | rfl | kernel_rfl)
    (case s5x3 => first | k_is | kit_is | ks_is | rfl | kernel_rfl)
    (case s5x4 => first | k_is | kit_is | ks_is | rfl | kernel_rfl)
    (case s5x5 => first | k_is | kit_is | ks_is | rfl | kernel_rfl)
    (case s5x6 => first | k_is | kit_is | ks_is | rfl | kernel_rfl)
    (case s5x7 => first | k_is | kit_is | ks_is | rfl | kernel_rfl)
    (case s5x8 => first | k_is | kit_is | ks_is | rfl | kernel_rfl)
    (case s5x9 => first | k_is | kit_is | ks_is | rfl | kernel_rfl)
    (case s5x10 => first | k_is | kit_is | ks_is | rfl | kernel_rfl)
    (case s5x11 => first | k_is | kit_is | ks_is | rfl | kernel_rfl)
    (case s5x12 => first | k_is | kit_is | ks_is | rfl | kernel_rfl)
    (case s6x0 => first | k_is | kit_is | ks_is | rfl | kernel_rfl)
    (case s6x1 => first | k_is | kit_is | ks_is | rfl | kernel_rfl)
    (case s6x2 => first | k_is | kit_is | ks_is | rfl | kernel_rfl)
    (case s6x3 => first | k_is | kit_is | ks_is | rfl | kernel_rfl)
    (case s6x4 => first | k_is | kit_is | ks_is | rfl | kernel_rfl)
    (case s6x5 => first | k_is | kit_is | ks_is | rfl | kernel_rfl)
    (case s6x6 => first | k_is | kit_is | ks_is | rfl | kernel_rfl)
    (case s6x7 => first | k_is | kit_is | ks_is | rfl | kernel_rfl)
    (case s6x8 => first | k_is | kit_is | ks_is | rfl | kernel_rfl)
    (case s6x9 => first | k_is | kit_is | ks_is | rfl | kernel_rfl)
    (case s6x10 => first | k_is | kit_is | ks_is | rfl | kernel_rfl)
    (case s6x11 => first | k_is | kit_is | ks_is | rfl | kernel_rfl)
    (case s6x12 => first | k_is | kit_is | ks_is | rfl | kernel_rfl)
    (case s7x0 => first | k_is | kit_is | ks_is | rfl | kernel_rfl)
    (case s7x1 => first | k_is | kit_is | ks_is | rfl | kernel_rfl)
    (case s7x2 => first | k_is | kit_is | ks_is | rfl | kernel_rfl)
    (case s7x3 => first | k_is | kit_is | ks_is | rfl | kernel_rfl)
    (case s7x4 => first | k_is | kit_is | ks_is | rfl | kernel_rfl)
    (case s7x5 => first | k_is | kit_is | ks_is | rfl | kernel_rfl)
    (case s7x6 => first | k_is | kit_is | ks_is | rfl | kernel_rfl)
    (case s7x7 => first | k_is | kit_is | ks_is | rfl | kernel_rfl)
    (case s7x8 => first | k_is | kit_is | ks_is | rfl | kernel_rfl)
    (case s7x9 => first | k_is | kit_is | ks_is | rfl | kernel_rfl)
    (case s7x10 => first | k_is | kit_is | ks_is | rfl | kernel_rfl)
    (case s7x11 => first | k_is | kit_is | ks_is | rfl | kernel_rfl)
    (case s7x12 => first | k_is | kit_is | ks_is | rfl | kernel_rfl)
    (case s8x0 => first | k_is | kit_is | ks_is | rfl | kernel_rfl)
    (case s8x1 => first | k_is | kit_is | ks_is | rfl | kernel_rfl)
    (case s8x2 => first | k_is | kit_is | ks_is | rfl | kernel_rfl)
    (case s8x3 => first | k_is | kit_is | ks_is | rfl | kernel_rfl)
    (case s8x4 => first | k_is | kit_is | ks_is | rfl | kernel_rfl)
    (case s8x5 => first | k_is | kit_is | ks_is | rfl | kernel_rfl)
    (case s8x6 => first | k_is | kit_is | ks_is | rfl | kernel_rfl)
    (case s8x7 => first | k_is | kit_is | ks_is | rfl | kernel_rfl)
    (case s8x8 => first | k_is | kit_is | ks_is | rfl | kernel_rfl)
    (case s8x9 => first | k_is | kit_is | ks_is | rfl | kernel_rfl)
    (case s8x10 => first | k_is | kit_is | ks_is | rfl | kernel_rfl)
    (case s8x11 => first | k_is | kit_is | ks_is | rfl | kernel_rfl)
    (case s8x12 => first | k_is | kit_is | ks_is | rfl | kernel_rfl)
    (case s9x0 => first | k_is | kit_is | ks_is | rfl | kernel_rfl)
    (case s9x1 => first | k_is | kit_is | ks_is | rfl | kernel_rfl)
    (case s9x2 => first | k_is | kit_is | ks_is | rfl | kernel_rfl)
    (case s9x3 => first | k_is | kit_is | ks_is | rfl | kernel_rfl)
    (case s9x4 => first | k_is | kit_is | ks_is | rfl | kernel_rfl)
    (case s9x5 => first | k_is | kit_is | ks_is | rfl | kernel_rfl)
    (case s9x6 => first | k_is | kit_is | ks_is | rfl | kernel_rfl)
    (case s9x7 => first | k_is | kit_is | ks_is | rfl | kernel_rfl)
    (case s9x8 => first | k_is | kit_is | ks_is | rfl | kernel_rfl)
    (case s9x9 => first | k_is | kit_is | ks_is | rfl | kernel_rfl)
    (case s9x10 => first | k_is | kit_is | ks_is | rfl | kernel_rfl)
    (case s9x11 => first | k_is | kit_is | ks_is | rfl | kernel_rfl)
    (case s9x12 => first | k_is | kit_is | ks_is | rfl | kernel_rfl)
    (case s10x0 => first | k_is | kit_is | ks_is | rfl | kernel_rfl)
    (case s10x1 => first | k_is | kit_is | ks_is | rfl | kernel_rfl)
    (case s10x2 => first | k_is | kit_is | ks_is | rfl | kernel_rfl)
    (case s10x3 => first | k_is | kit_is | ks_is | rfl | kernel_rfl)
    (case s10x4 => first | k_is | kit_is | ks_is | rfl | kernel_rfl)
    (case s10x5 => first | k_is | kit_is | ks_is | rfl | kernel_rfl)
    (case s10x6 => first | k_is | kit_is | ks_is | rfl | kernel_rfl)
    (case s10x7 => first | k_is | kit_is | ks_is | rfl | kernel_rfl)
    (case s10x8 => first | k_is | kit_is | ks_is | rfl | kernel_rfl)
    (case s10x9 => first | k_is | kit_is | ks_is | rfl | kernel_rfl)
    (case s10x10 => first | k_is | kit_is | ks_is | rfl | kernel_rfl)
    (case s10x11 => first | k_is | kit_is | ks_is | rfl | kernel_rfl)
    (case s10x12 => first | k_is | kit_is | ks_is | rfl | kernel_rfl)
    (case s11x0 => first | k_is | kit_is | ks_is | rfl | kernel_rfl)
    (case s11x1 => first | k_is | kit_is | ks_is | rfl | kernel_rfl)
    (case s11x2 => first | k_is | kit_is | ks_is | rfl | kernel_rfl)
    (case s11x3 => first | k_is | kit_is | ks_is | rfl | kernel_rfl)
    (case s11x4 => first | k_is | kit_is | ks_is | rfl | kernel_rfl)
    (case s11x5 => first | k_is | kit_is | ks_is | rfl | kernel_rfl)
    (case s11x6 => first | k_is | kit_is | ks_is | rfl | kernel_rfl)
    (case s11x7 => first | k_is | kit_is | ks_is | rfl | kernel_rfl)
    (case s11x8 => first | k_is | kit_is | ks_is | rfl | kernel_rfl)
    (case s11x9 => first | k_is | kit_is | ks_is | rfl | kernel_rfl)
    (case s11x10 => first | k_is | kit_is | ks_is | rfl | kernel_rfl)
    (case s11x11 => first | k_is | kit_is | ks_is | rfl | kernel_rfl)
    (case s11x12 => first | k_is | kit_is | ks_is | rfl | kernel_rfl)
    (case s12x0 => first | k_is | kit_is | ks_is | rfl | kernel_rfl)
    (case s12x1 => first | k_is | kit_is | ks_is | rfl | kernel_rfl)
    (case s12x2 => first | k_is | kit_is | ks_is | rfl | kernel_rfl)
    (case s12x3 => first | k_is | kit_is | ks_is | rfl | kernel_rfl)
    (case s12x4 => first | k_is | kit_is | ks_is | rfl | kernel_rfl)
    (case s12x5 => first | k_is | kit_is | ks_is | rfl | kernel_rfl)
    (case s12x6 => first | k_is | kit_is | ks_is | rfl | kernel_rfl)
    (case s12x7 => first | k_is | kit_is | ks_is | rfl | kernel_rfl)
    (case s12x8 => first | k_is | kit_is | ks_is | rfl | kernel_rfl)
    (case s12x9 => first | k_is | kit_is | ks_is | rfl | kernel_rfl)
    (case s12x10 => first | k_is | kit_is | ks_is | rfl | kernel_rfl)
    (case s12x11 => first | k_is | kit_is | ks_is | rfl | kernel_rfl)
    (case s12x12 => first | k_is | kit_is | ks_is | rfl | kernel_rfl)
    (case n0 => first | k_is | kit_is | ks_is | rfl | kernel_rfl)
    (case n1 => first | k_is | kit_is | ks_is | rfl | kernel_rfl)
    (case n2 => first | k_is | kit_is | ks_is | rfl | kernel_rfl)
    (case n3 => first | k_is | kit_is | ks_is | rfl | kernel_rfl)
    (case n4 => first | k_is | kit_is | ks_is | rfl | kernel_rfl)
    (case n5 => first | k_is | kit_is | ks_is | rfl | kernel_rfl)
    (case n7 => first | k_is | kit_is | ks_is | rfl | kernel_rfl)
    (case n8 => first | k_is | kit_is | ks_is | rfl | kernel_rfl)
    (case n9 => first | k_is | kit_is | ks_is | rfl | kernel_rfl)
    (case n10 => first | k_is | kit_is | ks_is | rfl | kernel_rfl)
    (case n12 => first | k_is | kit_is | ks_is | rfl | kernel_rfl)
    (case n6 => first | k_is | kit_is | ks_is | rfl | kernel_rfl)
    (case n6r => first | k_is | kit_is | ks_is | rfl | kernel_rfl)
    (case z0 => first | k_is | kit_is | ks_is | rfl | kernel_rfl)
    (case z1 => first | k_is | kit_is | ks_is | rfl | kernel_rfl)
    (case z2 => first | k_is | kit_is | ks_is | rfl | kernel_rfl)
    (case z3 => first | k_is | kit_is | ks_is | rfl | kernel_rfl)
    (case z4 => first | k_is | kit_is | ks_is | rfl | kernel_rfl)
    (case z5 => first | k_is | kit_is | ks_is | rfl | kernel_rfl)
    (case z6 => first | k_is | kit_is | ks_is | rfl | kernel_rfl)
    (case z7 => first | k_is | kit_is | ks_is | rfl | kernel_rfl)
    (case z8 => first | k_is | kit_is | ks_is | rfl | kernel_rfl)
    (case z9 => first | k_is | kit_is | ks_is | rfl | kernel_rfl)
    (case z10 => first | k_is | kit_is | ks_is | rfl | kernel_rfl)
    (case z11 => first | k_is | kit_is | ks_is | rfl | kernel_rfl)
    (case z12 => first | k_is | kit_is | ks_is | rfl | kernel_rfl)
