import PyProof.Rows.All
import Wide.All
import OpenK.AllK
import Wide.FinOn
import PySem.Challenge.RW_crossheaps_k53_whole_what_dies_with_obje
import HandS.ForMost
import HandS.Evl
import HandS.FStrTup
import HandS.Base
import HandS.SortRule
import HandS.Iter
import HandS.Walk
import HandS.DictTup
import KE.KDictWalk
import KE.KPairComp
import HandS.List
import HandS.SortInts
import HandS.Conv
import HandS.Wide
import HandS.SetKeys
import HandS.Steps
import HandS.IsInst
import HandS.Star
import HandS.DictComp
import HandS.Style
import HandS.More
import KE.DataEq
set_option Elab.async false
set_option linter.all false
set_option maxRecDepth 100000
set_option maxHeartbeats 8000000
/-! Promises of defs that run where no repr is under way, the law's end for such a promise, repr of data. -/
namespace Gd
open PySem PySem.Spec PyProof.Rows L2
/-- a promise that is kept wherever no repr is under way -/
structure FnG (P : Program) (w : World) (K : PySem.W.Frag) (mg : Str → Option Value) (base : Heap) (CX : CXT) (k : Nat) (f : Addr) (fd : FuncData) (ps : List Str) (sp : Sp) : Prop where
  arity : ∀ vs H Q E, sp vs H Q E → vs.length = ps.length
  go : ∀ A, Room k A → A.guards = some [] → ∀ outer s H args us vs Q E, Env0 P w K mg base A outer s H →
    BindsTo s fd args (ps.zip us) → Vals vs us → sp vs H Q E →
      codeAny (model P w) A (.call (.ref f) args) (CR CX outer P w H s Q E) s
section
variable {P : Program} {w : World} {K : PySem.W.Frag} {mg : Str → Option Value} {base : Heap} {CX : CXT} {k : Nat} {f : Addr} {fd : FuncData} {ps : List Str} {sp : Sp}
theorem FnG.of (F : FnOk P w K mg base CX k f fd ps sp) : FnG P w K mg base CX k f fd ps sp :=
  ⟨F.len, fun A r _ outer s H args us vs Q E e b v p => F.run A outer s H args us vs Q E r e b v p⟩
theorem FnG.up {j : Nat} (F : FnG P w K mg base CX j f fd ps sp) (h : j ≤ k) : FnG P w K mg base CX k f fd ps sp :=
  ⟨F.arity, fun A r g => F.go A (r.mono h) g⟩
/-- from the body, which may know that no repr is under way -/
theorem fng_of {x qual : Str} {st : Stmt} {N : List Str} (F : Fun K x qual st f fd) (S : FnScope N ps (defScope st)) (ar : ∀ vs H Q E, sp vs H Q E → vs.length = ps.length)
    (body : ∀ (cdv : Value) (A : Around) (outer : List Env) (s : Shared) (H : Hp) (vs : List V) (Q : VK) (E : XK), Room k (A.deeper (envOfC qual (defScope st) s.heap.objs.size f cdv)) → A.guards = some [] → sp vs H Q E →
      ∃ t, PSs (cxOf CX P w K mg base N qual (defScope st) f cdv A outer s H E) (defBody st) t ∧ t { nx := fun _ H' => Q .non H', rt := Q } (start N vs) H) :
    FnG P w K mg base CX (k + 1) f fd ps sp := by
  obtain ⟨⟨oc, od, kV, doc, pm, an, cdv, ct, osl, rfl, look, code⟩, _⟩ := F
  refine ⟨ar, fun A room gd outer s H args us vs Q E env bind rel want => ?_⟩
  have inK : K.In s.heap := env.mod.kin.keeps (fun b o h => (env.bs b o h).1)
  have free : s.heap.NoLimit := env.mod.nolimit.keeps (fun b o h => (env.bs b o h).1)
  have hv := ar vs H Q E want
  refine Att.call_fn inK free look code room.depth bind ?_ (fun s1 inside => ?_) S.co S.gen S.kind
  · refine List.all_eq_true.mpr fun y hy => ?_
    have hp := S.par y.1 (List.of_mem_zip (show (y.1, y.2) ∈ ps.zip us from hy)).1
    rcases hp with q | q
    · rw [q]; rfl
    · rw [q]; rfl
  · obtain ⟨t, derive, reads⟩ := body cdv A outer s H vs Q E (room.deeper _) gd want
    have inv := inv_start (CX := CX) (E := E) S room.hd env hv rel inside
    refine wpAny_mono (derive.run [] s1 (start N vs) H _ inv reads) ?_ (fun _ _ left => left)
    intro flow s2 post
    cases flow with
    | brk => exact (post.choose_spec.choose_spec).2.elim
    | cont => exact (post.choose_spec.choose_spec).2.elim
    | next =>
      obtain ⟨_, H2, J, q⟩ := post
      exact ⟨.non, H2, J.os, J.bare, J.base, J.hok, rfl, q⟩
    | ret u =>
      obtain ⟨v, _, H2, J, rv, q⟩ := post
      exact ⟨v, H2, J.os, J.bare, J.base, J.hok, rv, q⟩
end
end Gd
namespace Gd
open PySem PySem.Spec PyProof.Rows L2
section
variable {X : Cx} {CX : CXT} {k : Nat} {f : Addr} {fd : FuncData} {ps : List Str} {sp : Sp} {dvs : List V} {ds : List Value} {E : XK}
/-- the callee runs, as run_fn says it, where no repr is under way -/
theorem runG {pins : List (Addr × Obj)} {σ : L2.St} {H : Hp} {s : Shared} {Q : VK} {us : List Value} {vs : List V} (F : FnG X.prog X.w X.K X.mg X.base CX k f fd ps sp) (room : Room k X.A) (gd : X.A.guards = some [])
    (bind : Binds X.K fd ps ds) (dflt : Vals dvs ds) (pass : Passes CX X E) (I : Inv X pins σ H s) (rel : Vals vs us) (want : sp (vs ++ dvs) H Q E) :
    wpAny (model X.prog X.w) X.A (call (.ref f) us) (EP X pins σ Q) X.xe s := by
  have rel2 := rel.append dflt
  have many : (us ++ ds).length = ps.length := rel2.length.symm.trans (F.arity _ _ _ _ want)
  have ran := F.go X.A room gd X.stack s H ⟨us, []⟩ _ _ Q E I.env0 (bind s us I.kIn many) rel2 want
  refine wpAny_call (codeAny_mono ran ?_)
  intro r s2 post
  rcases r with err | flow
  · exact pass _ _ _ _ _ _ I post
  · cases flow with
    | ret u => exact I.after post
    | next => exact post.elim
    | brk => exact post.elim
    | cont => exact post.elim
theorem pe_callG {x : Str} {p pos : Pos} {e : Expr} {es : List Expr} {t : TA} (F : FnG X.prog X.w X.K X.mg X.base CX k f fd ps sp) (room : Room k X.A) (gd : X.A.guards = some []) (isGl : Gl X x) (at_ : X.mg x = some (.ref f))
    (kept : PySem.W.keepIn X.K (.ref f) = true) (bind : Binds X.K fd ps ds) (dflt : Vals dvs ds) (pass : Passes CX X E)
    (args : PA X (e :: es) t) (nodbg : (x == ("__debug__" : Str)) = false := by decide) (star : starEach (e :: es) X.env = (false, eval e X.env) :: starEach es X.env := by rfl) (plain : (backTo pos (starEach es X.env)).any (·.1) = false := by rfl) :
    PE X (.Call (.Name x p) (e :: es) [] pos) (tCall sp dvs E t) := by
  constructor
  intro pins s σ H Q I want
  refine wpAny_Call_Name_kw (ld_glob I isGl at_ ?_ nodbg)
  refine PySem.W.callWith_K (h₀ := X.base) I.ok.mod.kin kept ?_ star plain
  refine thn (args.run pos pins s σ H _ I want) ?_
  rintro us s1 ⟨vs, H1, I1, rel, q⟩
  exact ⟨I1.kIn, runG F room gd bind dflt pass I1 rel q⟩
end
/-! ### the law's end -/
/-- the script as the only thing that is tracked -/
def scriptAt (a : Addr) (o : Obj) (xs : List V) : Hp := fun b => if b = a then some (.frz o (.lst xs)) else none
theorem scriptAt_same {a : Addr} {o : Obj} {xs : List V} : scriptAt a o xs a = some (.frz o (.lst xs)) := if_pos rfl
theorem scriptAt_some {a b : Addr} {o : Obj} {xs : List V} {u : HO} (h : scriptAt a o xs b = some u) : b = a ∧ u = .frz o (.lst xs) := by
  unfold scriptAt at h
  by_cases e : b = a
  · rw [if_pos e] at h
    exact ⟨e, (Option.some.inj h).symm⟩
  · rw [if_neg e] at h
    cases h
theorem scriptAt_ne {a b : Addr} {o : Obj} {xs : List V} (h : b ≠ a) : scriptAt a o xs b = none := if_neg h
section
variable {P : Program} {w : World} {K : PySem.W.Frag} {mg mb : Str → Option Value} {CX : CXT} {k : Nat} {fa a : Addr} {fd : FuncData} {x : Str} {sp : Sp} {s1 : Shared} {vs : List Value} {ns : List Int}
/-- the law's call, from an abstract heap that tracks at most the script -/
theorem law_from {H : Hp} {o : Obj} (own : ∀ b u, H b = some u → b = a ∧ u = .frz o (.lst (ns.map V.int))) (offK : H a ≠ none → K.lookup a = none)
    (inK : K.In s1.heap) (glob : s1.heap.Ns mainGlobals mg) (blt : s1.heap.Ns builtinsNs mb) (std : ∀ x : Str, x ≠ "__name__" → mb x = bootBuiltins x) (free : s1.heap.NoLimit) (nogen : s1.gens = #[])
    (here : s1.heap.get? a = some { cls := .type "list", data := .seq vs.toArray }) (ho : o = { cls := .type "list", data := .seq vs.toArray }) (ok : HOk P w H s1.heap) (room : Room k callerA)
    (F : ∀ base : Heap, K.In base → base.Ns mainGlobals mg → FnG P w K mg base CX k fa fd [x] sp) (bind : ∀ (s : Shared) (u : Value), BindsTo s fd ⟨[u], []⟩ [(x, u)])
    (want : sp [.ref a] H (fun v _ => v = .bl true) fun _ _ _ => False) (noX : ∀ e s2, CX [] H s1 (fun _ _ _ => False) e s2 → False) :
    codeAny (model P w) callerA (.call (.ref fa) ⟨[.ref a], []⟩) (fun r s2 => r = .ok (.ret (.bool true)) ∧ OldK s1.heap s2.heap ∧ s2.os = s1.os ∧ AllBare s2.gens) s1 := by
  have dicts : ∀ {b : Addr} {m : Str → Option Value}, s1.heap.Ns b m → (hidT s1.heap H).Ns b m := by
    rintro b m ⟨ob, es, ep, gb, isD, r⟩
    refine ⟨ob, es, ep, hidT_get gb ?_, isD, r⟩
    cases hb : H b with
    | none => rfl
    | some u =>
      obtain ⟨rfl, _⟩ := own b u hb
      rw [here] at gb
      have e := Option.some.inj gb
      rw [← e] at isD
      cases isD
  have inB : K.In (hidT s1.heap H) := by
    intro b ob hb
    refine hidT_get (inK b ob hb) ?_
    cases hh : H b with
    | none => rfl
    | some u =>
      obtain ⟨rfl, _⟩ := own b u hh
      rw [offK (by rw [hh]; exact Option.some_ne_none _)] at hb
      cases hb
  have md : Mod K mg (hidT s1.heap H) := ⟨inB, dicts glob, ⟨mb, dicts blt, std⟩, free.imp fun _ h => ⟨dicts h.1, h.2⟩⟩
  have env : Env0 P w K mg (hidT s1.heap H) callerA [] s1 H := by
    refine ⟨rfl, md, fun b ob hb => of_hidT hb, Nat.le_of_eq (hidT_size _ _), trivial, ?_, ok, .of_eq nogen⟩
    intro b hb
    cases hb
  have ran := (F _ inB (dicts glob)).go callerA room rfl [] s1 H ⟨[.ref a], []⟩ [.ref a] [.ref a] _ _ env (bind s1 (.ref a)) (.cons rfl .nil) want
  refine codeAny_mono ran ?_
  intro r s2 post
  rcases r with err | flow
  · exact (noX _ _ post).elim
  · cases flow with
    | next => exact post.elim
    | brk => exact post.elim
    | cont => exact post.elim
    | ret u =>
      obtain ⟨v, H2, eos, eb, ch, ok2, rv, rfl⟩ := post
      have eu : u = Value.bool true := rv
      refine ⟨by rw [eu], OldK.of_keep (fun b ob hb => ?_), eos, eb⟩
      cases hh : H b with
      | none => exact ch.keep b ob hb hh (fun z => nomatch z) (fun z => nomatch z)
      | some u2 =>
        obtain ⟨rfl, rfl⟩ := own b u2 hh
        have a1 := (ok b _ hh).1
        have a2 := (ok2 b _ (ch.frzs b o _ hh)).1
        rw [hb] at a1
        exact a2.trans a1.symm
theorem law_callG (inK : K.In s1.heap) (glob : s1.heap.Ns mainGlobals mg) (blt : s1.heap.Ns builtinsNs mb) (std : ∀ x : Str, x ≠ "__name__" → mb x = bootBuiltins x) (free : s1.heap.NoLimit) (nogen : s1.gens = #[])
    (here : s1.heap.get? a = some { cls := .type "list", data := .seq vs.toArray }) (isI : IntsAre vs ns) (many : ns.length ≤ sizeLine) (room : Room k callerA)
    (F : ∀ base : Heap, K.In base → base.Ns mainGlobals mg → FnG P w K mg base CX k fa fd [x] sp) (bind : ∀ (s : Shared) (u : Value), BindsTo s fd ⟨[u], []⟩ [(x, u)])
    (want : ∀ H : Hp, Only H → SqL K H a (ns.map V.int) → sp [.ref a] H (fun v _ => v = .bl true) fun _ _ _ => False) (noX : ∀ H e s2, CX [] H s1 (fun _ _ _ => False) e s2 → False) :
    codeAny (model P w) callerA (.call (.ref fa) ⟨[.ref a], []⟩) (fun r s2 => r = .ok (.ret (.bool true)) ∧ OldK s1.heap s2.heap ∧ s2.os = s1.os ∧ AllBare s2.gens) s1 := by
  have rel := vals_ints isI
  cases inMod : K.lookup a with
  | some o =>
    have same : o = { cls := .type "list", data := .seq vs.toArray } := Option.some.inj ((inK a o inMod).symm.trans here)
    subst same
    have sq : SqL K (fun _ => none) a (ns.map V.int) := .inr ⟨_, vs.toArray, _, inMod, rfl, rfl, rfl, by rw [List.size_toArray, isI.length]; exact many, by simpa using rel⟩
    refine law_from (H := fun _ => none) (o := { cls := .type "list", data := .seq vs.toArray }) (ns := ns) (fun _ _ h => nomatch h) (fun h => absurd rfl h) inK glob blt std free nogen here rfl (fun _ _ h => nomatch h) room F bind (want _ (fun _ => .inl rfl) sq) (noX _)
  | none =>
    refine law_from (H := scriptAt a { cls := .type "list", data := .seq vs.toArray } (ns.map V.int)) (fun _ _ h => scriptAt_some h) (fun _ => inMod) inK glob blt std free nogen here rfl ?_ room F bind (want _ (fun b => ?_) (.inl (.inr ⟨_, scriptAt_same⟩))) (noX _)
    · intro b u h
      obtain ⟨rfl, rfl⟩ := scriptAt_some h
      exact ⟨here, by rw [List.length_map]; exact many, vs, _, rel, here⟩
    · cases h : scriptAt a { cls := .type "list", data := .seq vs.toArray } (ns.map V.int) b with
      | none => exact .inl rfl
      | some u => exact .inr ⟨_, _, by rw [(scriptAt_some h).2]⟩
end
/-- what k_head leaves, from a promise that is kept where no repr is under way -/
theorem walkG {l : PySem.W.OpenLaw} {n k : Nat} {q : Program} {loose : List Str} {XP : (Str → Option Value) → Heap → Prop} {YP : World → Heap → Prop} {d : DefRec} {K : Params → PySem.W.Frag} {CX : World → CXT} {sp : World → Sp} {x : Str}
    (most : l.most = some n) (small : n ≤ sizeLine) (nodef : d.params.defaults = []) (room : Room k callerA) (kin : ∀ (w : World) (h : Heap), YP w h → (K w.params).In h)
    (F : ∀ (w : World) (mg : Str → Option Value) (fa : Addr) (h : Heap), (K w.params).In h → h.Ns mainGlobals mg → mg d.name = some (.ref fa) →
      ∃ fd : FuncData, (∀ (s : Shared) (u : Value), BindsTo s fd ⟨[u], []⟩ [(x, u)]) ∧ ∀ base : Heap, (K w.params).In base → base.Ns mainGlobals mg → FnG l.prog w (K w.params) mg base (CX w) k fa fd [x] (sp w))
    (want : ∀ (w : World) (H : Hp) (a : Addr) (ns : List Int), ns.length ≤ n → Only H → SqL (K w.params) H a (ns.map V.int) → sp w [.ref a] H (fun v _ => v = .bl true) fun _ _ _ => False)
    (noX : ∀ (w : World) (H : Hp) (s : Shared) (e : Value) (s2 : Shared), CX w [] H s (fun _ _ _ => False) e s2 → False) :
    PySem.W.WalkO q loose XP YP l.row.toRowW d [] (fun f vs => PySem.call f vs) := by
  apply Att.attach_call most nodef
  intro w s0 s1 mg mb fa o pm cd doc a vs ns G Y go isF code named here isI many nogen
  have inK := kin w _ Y
  obtain ⟨fd, bind, hF⟩ := F w mg fa _ inK G.T.g named
  exact law_callG inK G.T.g G.T.b G.T.builtins G.T.nolimit nogen here isI (Nat.le_trans many small) room hF bind (fun H only sq => want w H a ns many only sq) (fun H e s2 => noX w H s1 e s2)
section
variable {X : Cx}
/-- repr of data without dicts -/
def rReprD (K : PySem.W.Frag) : List V → Hp → VK → Prop := fun xs H Q => ∃ x d, xs = [x] ∧ Dp K H x d ∧ d.showable = true ∧ d.hasDict = false ∧ d.depth ≤ 40 ∧ d.shown.length ≤ sizeLine ∧ Q (.str d.shown) H
theorem call_reprD (gd : X.A.guards = some []) (un : X.A.units + 64 < cLine) : CallR X (.builtin "repr") (rReprD X.K) := by
  rintro pins s σ H xs us Q I rel ⟨x, d, rfl, hd, sh, nod, dep, sz, q⟩
  obtain ⟨u, rfl, rv⟩ := vals1 rel
  obtain ⟨as, reads⟩ := Dp.reads I d x u hd rv
  cases hd with
  | non =>
    cases rv
    refine PySem.P.repr_of_none ?_
    exact ⟨.str "None", H, I.tok _, ⟨_, rfl⟩, q⟩
  | bl b =>
    cases rv
    refine PySem.P.repr_of_bool ?_
    exact ⟨.str (if b then "True" else "False"), H, I.tok _, ⟨_, rfl⟩, q⟩
  | int i =>
    obtain ⟨t, rfl⟩ := rv
    refine PySem.P.repr_of_int ?_ ⟨.str _, H, I.tok _, ⟨_, rfl⟩, q⟩
    simpa [PyData.showable] using sh
  | str z =>
    obtain ⟨t, rfl⟩ := rv
    exact PySem.P.repr_of_str ⟨.str _, H, I.tok _, ⟨_, rfl⟩, q⟩ sz
  | lst h1 h2 =>
    cases rv
    exact repr_of_reads' reads sh (PyData.noDict_hsm nod) gd (by omega) (fun _ _ e => e) (fun h2 u2 tk keep => ⟨.str _, H, I.kept keep, ⟨u2, rfl⟩, q⟩) sz
  | tup h1 h2 =>
    cases rv
    exact repr_of_reads' reads sh (PyData.noDict_hsm nod) gd (by omega) (fun _ _ e => e) (fun h2 u2 tk keep => ⟨.str _, H, I.kept keep, ⟨u2, rfl⟩, q⟩) sz
end
end Gd
namespace Gd
open PySem PySem.Spec PyProof.Rows L2
/-- f(k = v, ..), keywords alone -/
theorem pe_kwOnly {X : Cx} {CX : CXT} {k : Nat} {f : Addr} {fd : FuncData} {ps ks : List Str} {sp : Sp} {E : XK} {x : Str} {p pos : Pos} {kws : List Keyword} {tk : TA} {g : List Value → List Value → List Value} {gV : List V → List V → List V}
    (F : FnOk X.prog X.w X.K X.mg X.base CX k f fd ps sp) (room : Room k X.A) (isGl : Gl X x) (at_ : X.mg x = some (.ref f)) (kept : PySem.W.keepIn X.K (.ref f) = true) (bind : KBinds X.K fd ps ks g gV) (pass : Passes CX X E)
    (words : PK X kws tk) (every : (backToKw pos (keywordEach kws X.env)).all (·.1.isSome) = true := by rfl) (names : (backToKw pos (keywordEach kws X.env)).filterMap (·.1) = ks := by rfl) (nodbg : (x == ("__debug__" : Str)) = false := by decide)
    (plain : ((backTo pos (starEach [] X.env)).any (·.1) || (backToKw pos (keywordEach kws X.env)).any (·.1.isNone)) = false := by rfl) :
    PE X (.Call (.Name x p) [] kws pos) (tCallK sp gV E tNil tk) := by
  constructor
  intro pins s σ H Q I want
  refine wpAny_Call_Name_kw (ld_glob I isGl at_ ?_ nodbg)
  refine PySem.W.callWith_KW0 (h₀ := X.base) I.ok.mod.kin kept every ?_ plain
  refine thn (words.run pos pins s σ H _ I want) ?_
  rintro ws s2 ⟨zs, H2, I2, rel, q⟩
  refine ⟨I2.kIn, ?_⟩
  rw [names]
  exact run_fnk (us := []) (vs := []) F room bind pass I2 .nil rel q
end Gd
namespace Gd
open PySem PySem.Spec PyProof.Rows L2
/-- as fng_of, where nothing leaves the body -/
theorem fng0_of {P : Program} {w : World} {K : PySem.W.Frag} {mg : Str → Option Value} {base : Heap} {k : Nat} {f : Addr} {fd : FuncData} {ps : List Str} {sp : Sp} {x qual : Str} {st : Stmt} {N : List Str} (F : Fun K x qual st f fd) (S : FnScope N ps (defScope st)) (ar : ∀ vs H Q E, sp vs H Q E → vs.length = ps.length)
    (body : ∀ (cdv : Value) (A : Around) (outer : List Env) (s : Shared) (H : Hp) (vs : List V) (Q : VK) (E : XK), Room k (A.deeper (envOfC qual (defScope st) s.heap.objs.size f cdv)) → A.guards = some [] → sp vs H Q E →
      ∃ t, PSs (cxOf CX0 P w K mg base N qual (defScope st) f cdv A outer s H E).nox (defBody st) t ∧ t { nx := fun _ H' => Q .non H', rt := Q } (start N vs) H) :
    FnG P w K mg base CX0 (k + 1) f fd ps sp :=
  fng_of F S ar fun cdv A outer s H vs Q E room gd want => by
    obtain ⟨t, d, r⟩ := body cdv A outer s H vs Q E room gd want
    exact ⟨t, d.nox, r⟩
end Gd
namespace Gd
open PySem PySem.Spec PyProof.Rows L2
/-! Facts of the data of a tuple of small ints. -/
theorem ints_show : ∀ ns : List Int, (∀ n ∈ ns, n.natAbs < 10 ^ 9) → PyData.showableAll (ns.map .int) = true
  | [], _ => rfl
  | n :: r, h => by
    rw [List.map_cons, PyData.showableAll, ints_show r fun m hm => h m (List.mem_cons_of_mem _ hm), Bool.and_true]
    rw [PyData.showable]
    refine decide_eq_true ?_
    have h1 := h n List.mem_cons_self
    by_cases z : n.natAbs = 0
    · rw [z]
      decide
    · exact Nat.lt_of_lt_of_le ((Nat.log2_lt z).mpr (Nat.lt_of_lt_of_le h1 (by decide : (10 : Nat) ^ 9 ≤ 2 ^ 30))) (by decide)
theorem ints_noDict : ∀ ns : List Int, PyData.hasDictAll (ns.map .int) = false
  | [] => rfl
  | n :: r => by
    rw [List.map_cons, PyData.hasDictAll, ints_noDict r, PyData.hasDict]
    rfl
theorem ints_depth : ∀ ns : List Int, PyData.depthAll (ns.map .int) = 0
  | [] => rfl
  | n :: r => by
    rw [List.map_cons, PyData.depthAll, ints_depth r, PyData.depth]
    rfl
theorem ints_lay : ∀ ns : List Int, PyData.canLayAll0 (ns.map .int) = true
  | [] => rfl
  | n :: r => by
    rw [List.map_cons, PyData.canLayAll0, ints_lay r, PyData.canLay0]
    rfl
theorem int_len {n : Int} (h : n.natAbs < 10 ^ 9) : ((toString n : String) : Str).length ≤ 10 := by
  have e := int_text_length_le10 (a := n) (k := 9) (by decide) h
  rw [PySem.ofString_length]
  exact e
theorem ints_piled : ∀ ns : List Int, (∀ n ∈ ns, n.natAbs < 10 ^ 9) → piled (PyData.shownAll (ns.map .int)) ≤ 12 * ns.length
  | [], _ => Nat.le_refl _
  | n :: r, h => by
    have ih := ints_piled r fun m hm => h m (List.mem_cons_of_mem _ hm)
    have h1 := int_len (h n List.mem_cons_self)
    rw [List.map_cons, PyData.shownAll, piled_cons, PyData.shown, List.length_cons]
    omega
theorem tupI_facts {ns : List Int} (h : ∀ n ∈ ns, n.natAbs < 10 ^ 9) (hl : ns.length ≤ 1000000) : (PyData.tuple (ns.map .int)).showable = true ∧ (PyData.tuple (ns.map .int)).hasDict = false ∧ (PyData.tuple (ns.map .int)).depth ≤ 40 ∧ (PyData.tuple (ns.map .int)).shown.length ≤ sizeLine := by
  refine ⟨?_, ?_, ?_, ?_⟩
  · rw [PyData.showable]
    exact ints_show ns h
  · rw [PyData.hasDict]
    exact ints_noDict ns
  · rw [PyData.depth, ints_depth]
    decide
  · rw [PyData.shown]
    have h1 := fmt_text (PyData.shownAll (ns.map .int))
    have h2 := ints_piled ns h
    have h3 : sizeLine = 2 ^ 24 := rfl
    omega
theorem tupI_shaped (ns : List Int) : SeqAt.shaped (PyData.tuple (ns.map .int)) = true := by
  unfold SeqAt.shaped
  rw [PyData.canLay0, ints_lay, PyData.depth, ints_depth]
  rfl
theorem tupI_eqv (ns : List Int) : PyData.eqv (PyData.tuple (ns.map .int)) (PyData.tuple (ns.map .int)) = true := PySem.SeqAt.eqv_refl _ (by rw [PyData.canLay0]; exact ints_lay ns)
theorem dp_ints {K : PySem.W.Frag} {H : Hp} : ∀ ns : List Int, DpAll K H (ns.map V.int) (ns.map .int)
  | [] => .nil
  | n :: r => .cons (.int n) (dp_ints r)
theorem dp_tupI {K : PySem.W.Frag} {H : Hp} {p : Addr} {ns : List Int} (h : SqT K H p (ns.map V.int)) : Dp K H (.ref p) (.tuple (ns.map .int)) := .tup h (dp_ints ns)
end Gd
namespace Gd
open PySem L2
/-! The order of tuples of keys. -/
def kLt : Key → Key → Bool
  | .inl a, .inl b => decide (a < b)
  | .inr a, .inr b => decide (a.cps.toList < b.cps.toList)
  | .inl _, .inr _ => true
  | .inr _, .inl _ => false
def ksLt : List Key → List Key → Bool
  | [], [] => false
  | [], _ :: _ => true
  | _ :: _, [] => false
  | a :: r, b :: s => if a = b then ksLt r s else kLt a b
theorem str_ext {a b : Str} (h : a.cps.toList = b.cps.toList) : a = b := by
  cases a
  cases b
  simp only at h
  rw [Array.toList_inj.mp h]
theorem kLt_irr : ∀ a : Key, kLt a a = false
  | .inl a => decide_eq_false (Int.lt_irrefl a)
  | .inr a => decide_eq_false (List.lt_irrefl _)
theorem kLt_as : ∀ {a b : Key}, kLt a b = true → kLt b a = false
  | .inl a, .inl b, h => decide_eq_false (by have := of_decide_eq_true h; omega)
  | .inr a, .inr b, h => decide_eq_false (fun q => List.lt_irrefl _ (List.lt_trans (of_decide_eq_true h) q))
  | .inl _, .inr _, _ => rfl
  | .inr _, .inl _, h => nomatch h
theorem kLt_tri : ∀ {a b : Key}, kLt a b = false → kLt b a = false → a = b
  | .inl a, .inl b, h, g => by
    have h1 := of_decide_eq_false h
    have h2 := of_decide_eq_false g
    rw [show a = b from by omega]
  | .inr a, .inr b, h, g => by
    have h1 := of_decide_eq_false h
    have h2 := of_decide_eq_false g
    rw [str_ext (List.le_antisymm (List.not_lt.mp h2) (List.not_lt.mp h1))]
  | .inl _, .inr _, h, _ => nomatch h
  | .inr _, .inl _, _, g => nomatch g
theorem kLt_tr : ∀ {a b c : Key}, kLt a b = true → kLt b c = true → kLt a c = true
  | .inl a, .inl b, .inl c, h, g => decide_eq_true (by have := of_decide_eq_true h; have := of_decide_eq_true g; omega)
  | .inr a, .inr b, .inr c, h, g => decide_eq_true (List.lt_trans (of_decide_eq_true h) (of_decide_eq_true g))
  | .inl _, .inl _, .inr _, _, _ => rfl
  | .inl _, .inr _, .inr _, _, _ => rfl
  | .inl _, .inr _, .inl _, _, g => nomatch g
  | .inr _, .inl _, _, h, _ => nomatch h
  | .inr _, .inr _, .inl _, _, g => nomatch g
theorem ksLt_irr : ∀ a : List Key, ksLt a a = false
  | [] => rfl
  | a :: r => by
    rw [ksLt, if_pos rfl]
    exact ksLt_irr r
theorem ksLt_as : ∀ {a b : List Key}, ksLt a b = true → ksLt b a = false
  | [], [], h => nomatch h
  | [], _ :: _, _ => rfl
  | _ :: _, [], h => nomatch h
  | a :: r, b :: s, h => by
    rw [ksLt] at h ⊢
    by_cases e : a = b
    · rw [if_pos e] at h
      rw [if_pos e.symm]
      exact ksLt_as h
    · rw [if_neg e] at h
      rw [if_neg (fun q => e q.symm)]
      exact kLt_as h
theorem ksLt_tri : ∀ {a b : List Key}, ksLt a b = false → ksLt b a = false → a = b
  | [], [], _, _ => rfl
  | [], _ :: _, h, _ => nomatch h
  | _ :: _, [], _, h => nomatch h
  | a :: r, b :: s, h, g => by
    rw [ksLt] at h g
    by_cases e : a = b
    · rw [if_pos e] at h
      rw [if_pos e.symm] at g
      rw [e, ksLt_tri h g]
    · rw [if_neg e] at h
      rw [if_neg (fun q => e q.symm)] at g
      exact absurd (kLt_tri h g) e
theorem ksLt_tr : ∀ {a b c : List Key}, ksLt a b = true → ksLt b c = true → ksLt a c = true
  | [], [], _, h, _ => nomatch h
  | [], _ :: _, [], _, g => nomatch g
  | [], _ :: _, _ :: _, _, _ => rfl
  | _ :: _, [], _, h, _ => nomatch h
  | _ :: _, _ :: _, [], _, g => nomatch g
  | a :: r, b :: s, c :: t, h, g => by
    rw [ksLt] at h g ⊢
    by_cases e : a = b
    · subst e
      rw [if_pos rfl] at h
      by_cases e2 : a = c
      · rw [if_pos e2] at g ⊢
        exact ksLt_tr h g
      · rw [if_neg e2] at g ⊢
        exact g
    · rw [if_neg e] at h
      by_cases e2 : b = c
      · subst e2
        rw [if_neg e]
        exact h
      · rw [if_neg e2] at g
        have e3 : a ≠ c := fun q => by
          subst q
          rw [kLt_as h] at g
          cases g
        rw [if_neg e3]
        exact kLt_tr h g
theorem ksLt_ntr {a b c : List Key} (h : ksLt a b = false) (g : ksLt b c = false) : ksLt a c = false := by
  cases q : ksLt a c with
  | false => rfl
  | true =>
    cases p : ksLt b a with
    | true =>
      rw [ksLt_tr p q] at g
      cases g
    | false =>
      have e := ksLt_tri h p
      subst e
      rw [q] at g
      cases g
end Gd
namespace Gd
open PySem PySem.Spec PyProof.Rows L2 SrtO
/-! sorted of tuples of keys, of any length. -/
/-- where they first differ, both are ints or both are texts -/
def Ali : List Key → List Key → Prop
  | a :: r, b :: s => (a = b → Ali r s) ∧ (a ≠ b → a.isLeft = b.isLeft)
  | _, _ => True
def IsKs (h : Heap) (v : Value) (ks : List Key) : Prop := ∃ a o us n, v = .ref a ∧ h.get? a = some o ∧ o.cls = .type "tuple" ∧ o.data = .seq us n ∧ Vals (ks.map kV) us.toList
theorem IsKs.keeps {h h' : Heap} {v : Value} {ks : List Key} (p : IsKs h v ks) (k : ∀ b o, h.get? b = some o → o.cls = .type "tuple" → h'.get? b = some o) : IsKs h' v ks := by
  obtain ⟨a, o, us, n, e, ho, hc, hd⟩ := p
  exact ⟨a, o, us, n, e, k _ _ ho hc, hc, hd⟩
section
variable {prog : Program} {w : World} {A : Around} {E : Value → Shared → Prop} {s : Shared}
theorem oneLt_strs (c : Bool) {p q : Str} {t u : Tok} {Q : Bool → Shared → Prop} (h : Q (decide (p.cps.toList < q.cps.toList)) s) : wpAny (model prog w) A (oneLt' c (.str p t) (.str q u)) Q E s := by
  cases c with
  | true => exact oneLt_str h
  | false => exact PySem.W.kat_one _ _ (PyProof.Rows.lt_str (Q := PySem.W.BoolBack Q) h)
theorem oneLt_is (c : Bool) {p q : Int} {t u : Tok} {Q : Bool → Shared → Prop} (h : Q (decide (p < q)) s) : wpAny (model prog w) A (oneLt' c (.int p t) (.int q u)) Q E s := by
  cases c with
  | true => exact oneLt_int h
  | false => exact PySem.W.kat_one _ _ (PyProof.Rows.lt_int (Q := PySem.W.BoolBack Q) h)
theorem kat_keys {b : Bool} {Q : Bool → Shared → Prop} : ∀ (ks js : List Key) (us vs : List Value) (i : Nat) (fin : Bool), Vals (ks.map kV) us → Vals (js.map kV) vs → Ali ks js → fin = decide (ks.length < js.length) → Q (ksLt ks js) s →
    PySem.W.KatLex prog w A b fin Q (us.zip vs) i s
  | [], [], _, _, i, fin, h1, h2, _, hf, q => by
    cases h1
    rw [hf]
    exact PySem.W.kat_nil q
  | [], _ :: _, _, _, i, fin, h1, h2, _, hf, q => by
    cases h1
    rw [hf]
    exact PySem.W.kat_nil (by simpa [ksLt] using q)
  | _ :: _, [], _, _, i, fin, h1, h2, _, hf, q => by
    cases h2
    rw [List.zip_nil_right, hf]
    exact PySem.W.kat_nil (by simpa [ksLt] using q)
  | a :: ks, c :: js, _, _, i, fin, h1, h2, al, hf, q => by
    cases h1 with
    | cons r1 h1 =>
      cases h2 with
      | cons r2 h2 =>
        rw [ksLt] at q
        have hf2 : fin = decide (ks.length < js.length) := by
          rw [hf, List.length_cons, List.length_cons]
          exact decide_eq_decide.mpr (by omega)
        rw [List.zip_cons_cons]
        match a, c, r1, r2, al, q with
        | .inl x, .inl y, r1, r2, al, q =>
          obtain ⟨t, rfl⟩ := r1
          obtain ⟨u, rfl⟩ := r2
          refine PySem.W.kat_cons (SeqAt.EqAt.int_int x t y u prog w _ _ ?_)
          refine PySem.W.kat_go (fun e => ?_) (fun e => ?_)
          · have ex : x = y := by simpa using e
            subst ex
            rw [if_pos rfl] at q
            exact PySem.W.kat_yes (kat_keys ks js _ _ (i + 1) fin h1 h2 (al.1 rfl) hf2 q)
          · have ex : ¬ x = y := by simpa using e
            rw [if_neg (fun z => ex (Sum.inl.inj z))] at q
            exact PySem.W.kat_no (oneLt_is _ q)
        | .inr x, .inr y, r1, r2, al, q =>
          obtain ⟨t, rfl⟩ := r1
          obtain ⟨u, rfl⟩ := r2
          refine PySem.W.kat_cons (SeqAt.EqAt.str_str x t y u prog w _ _ ?_)
          refine PySem.W.kat_go (fun e => ?_) (fun e => ?_)
          · have ex : x = y := by simpa using e
            subst ex
            rw [if_pos rfl] at q
            exact PySem.W.kat_yes (kat_keys ks js _ _ (i + 1) fin h1 h2 (al.1 rfl) hf2 q)
          · have ex : ¬ x = y := by simpa using e
            rw [if_neg (fun z => ex (Sum.inr.inj z))] at q
            exact PySem.W.kat_no (oneLt_strs _ q)
        | .inl x, .inr y, _, _, al, _ => exact absurd (al.2 (fun z => nomatch z)) (by simp)
        | .inr x, .inl y, _, _, al, _ => exact absurd (al.2 (fun z => nomatch z)) (by simp)
theorem swo_ks {α : Type} (k : α → List Key) : Swo fun v u => ksLt (k v) (k u) := ⟨fun _ _ h => ksLt_as h, fun _ _ _ h g => ksLt_ntr g h⟩
theorem keys_cmp {vs : List Value} {k : Value → List Key} (hp : ∀ v ∈ vs, IsKs s.heap v (k v)) (al : ∀ v ∈ vs, ∀ u ∈ vs, Ali (k v) (k u)) : Cmp prog w A s (tuples' true) (fun p => p.1 ∈ vs) (lt2 fun v u => ksLt (k v) (k u)) := by
  intro p q hm hm'
  have h1 := hp _ hm
  have h2 := hp _ hm'
  have h3 := al _ hm _ hm'
  show wpAny (model prog w) A (keyLt' (tuples' true) p.1 q.1) (fun r s' => s' = s ∧ r = ksLt (k p.1) (k q.1)) (fun _ _ => False) s
  generalize k p.1 = ks at h1 h3 ⊢
  generalize k q.1 = js at h2 h3 ⊢
  obtain ⟨a, o, us, n, e, ho, hc, hd, r1⟩ := h1
  obtain ⟨a', o', us', n', e', ho', hc', hd', r2⟩ := h2
  rw [e, e']
  refine PySem.W.kat_lt ho hd ho' hd' ?_
  refine kat_keys ks js _ _ 0 _ r1 r2 h3 ?_ ⟨rfl, rfl⟩
  have l1 := r1.length
  have l2 := r2.length
  rw [List.length_map] at l1 l2
  rw [l1, l2, Array.length_toList, Array.length_toList]
theorem firsts_ks {h : Heap} {k : Value → List Key} : ∀ {vs : List Value}, (∀ v ∈ vs, IsKs h v (k v) ∧ ∃ z r, k v = .inr z :: r) → ∃ fs : List Value, PySem.W.KatTups h vs fs ∧ fs.length = vs.length ∧ ∀ f ∈ fs, ∃ x t, f = Value.str x t
  | [], _ => ⟨[], PySem.W.KatTups.nil, rfl, fun _ hm => by simp at hm⟩
  | v :: vs, hp => by
    obtain ⟨fs, h1, h2, h3⟩ := firsts_ks (vs := vs) fun v' hm => hp v' (List.mem_cons_of_mem _ hm)
    obtain ⟨⟨a, o, us, n, e, ho, hc, hd, rel⟩, z, r, ek⟩ := hp v (List.mem_cons_self ..)
    subst e
    rw [ek] at rel
    obtain ⟨u0, e0, t, rfl⟩ := rel.get (i := 0) (x := .str z) rfl
    refine ⟨.str z t :: fs, PySem.W.KatTups.cons ho hc hd (by rw [← Array.getElem?_toList]; exact e0) h1, by rw [List.length_cons, List.length_cons, h2], fun f hm => ?_⟩
    rcases List.mem_cons.mp hm with rfl | hm
    · exact ⟨z, t, rfl⟩
    · exact h3 f hm
theorem keys_sortable {a : Addr} {vs : List Value} {k : Value → List Key} (h0 : 0 < vs.length) (hp : ∀ v ∈ vs, IsKs s.heap v (k v) ∧ ∃ z r, k v = .inr z :: r) (al : ∀ v ∈ vs, ∀ u ∈ vs, Ali (k v) (k u)) (ha : ∀ o, s.heap.get? a = some o → o.cls ≠ .type "tuple") :
    SortableO prog w A s a vs fun v u => ksLt (k v) (k u) := by
  intro h' keep
  have hp' : ∀ v ∈ vs, IsKs h' v (k v) ∧ ∃ z r, k v = .inr z :: r := fun v hm => ⟨(hp v hm).1.keeps fun b o e c => keep b o (fun z => by subst z; exact ha o e c) e, (hp v hm).2⟩
  obtain ⟨fs, h1, h2, h3⟩ := firsts_ks hp'
  refine ⟨tuples' true, fun Q E hq => ?_, keys_cmp (fun v hm => (hp' v hm).1) al⟩
  refine PySem.W.kat_kind (T := .type "str") h1 (by omega) (fun f hm => ?_) (by rfl) ?_
  · obtain ⟨x, t, rfl⟩ := h3 f hm
    exact PySem.W.Looks.now
  · have e : (Value.type "str" != Value.type "tuple") = true := by first | decide +kernel | rfl | decide
    rw [e]
    exact hq
theorem sorted_keys {l : Addr} {vs : List Value} {k : Value → List Key} {Q : Value → Shared → Prop} (hl : s.heap.IsList l vs.toArray) (hz : vs.length ≤ sizeLine) (hp : ∀ v ∈ vs, IsKs s.heap v (k v) ∧ ∃ z r, k v = .inr z :: r) (al : ∀ v ∈ vs, ∀ u ∈ vs, Ali (k v) (k u))
    (h : ∀ (h' : Heap) (d : Addr) (out : List Value), Srtd (fun v u => ksLt (k v) (k u)) out → Stb (fun v u => ksLt (k v) (k u)) out vs → (∀ b o, s.heap.get? b = some o → h'.get? b = some o) → s.heap.objs.size ≤ d → (∃ n, h'.get? d = some (seqObj "list" out.toArray n)) → Q (.ref d) { s with heap := h' }) :
    wpAny (model prog w) A (call (.builtin "sorted") [.ref l]) Q E s := by
  refine sorted_ord (swo_ks k) hl hz (fun h2 h₁ a ha kk => ?_) fun out hs hb => ?_
  · refine keys_sortable (s := { s with heap := h₁ }) (by omega) (fun v hm => ⟨(hp v hm).1.keeps fun b o e _ => (kk b o e).2, (hp v hm).2⟩) al fun o e => ?_
    have e' : some o = some (seqObj "list" vs.toArray 0) := e.symm.trans ha
    cases e'
    intro c
    exact absurd (Value.type.inj c) (by decide)
  · exact h _ _ out hs hb (fun b o e => sortedAll_old e) (Nat.le_succ _) (sortedAll_at s.heap vs out.toArray)
end
abbrev ltK (k : V → List Key) (x y : V) : Bool := ksLt (k x) (k y)
/-- sorted(xs), xs a list of tuples of keys (k says which), each with a text ahead -/
def rSortedK (K : PySem.W.Frag) : List V → Hp → VK → Prop := fun vs H Q => ∃ (a : Addr) (xs : List V) (k : V → List Key), vs = [V.ref a] ∧ SqL K H a xs ∧ (∀ x ∈ xs, ∃ t z r, x = V.ref t ∧ k x = .inr z :: r ∧ H t = some (.tup ((k x).map kV))) ∧
  (∀ x ∈ xs, ∀ y ∈ xs, Ali (k x) (k y)) ∧ ∀ ys p, SrtO.Srtd (ltK k) ys → SrtO.Stb (ltK k) ys xs → H p = none → Q (.ref p) (upd H p (.lst ys))
section
variable {X : Cx}
theorem cr_sortedK : CallR X (.builtin "sorted") (rSortedK X.K) := by
  intro pins s σ H vs us Q I r h
  obtain ⟨a, xs, k, rfl, hs, hx, al, q⟩ := h
  obtain ⟨its, rv, hl, hz⟩ := I.list hs
  obtain ⟨u, rfl, ru⟩ := vals1 r
  obtain rfl : u = Value.ref a := ru
  obtain ⟨e1, e2⟩ := refs_back rv fun x m => by
    obtain ⟨t, _, _, e, _⟩ := hx x m
    exact ⟨t, e⟩
  have inx : ∀ v ∈ its, backV v ∈ xs := fun v hv => by rw [e1]; exact List.mem_map.mpr ⟨_, hv, rfl⟩
  refine sorted_keys (k := fun u => k (backV u)) hl.isList (by rw [← rv.length]; exact hz) (fun v hv => ?_) (fun v hv u hu => al _ (inx v hv) _ (inx u hu)) fun h' d out h1 h2 kp hd hn => ?_
  · obtain ⟨t, rfl⟩ := e2 v hv
    obtain ⟨t', z, r, e, ek, ht⟩ := hx _ (inx _ hv)
    cases e
    obtain ⟨_, its2, r2, o, ho, hc, n, hd⟩ := I.hok _ _ ht
    exact ⟨⟨t, o, its2.toArray, n, rfl, ho, hc, hd, r2⟩, z, r, ek⟩
  · have h3 : ∀ u ∈ out, ∃ a, u = Value.ref a := fun u hu => e2 u (h2.perm.mem_iff.mp hu)
    obtain ⟨n, hn⟩ := hn
    have hb : SrtO.Stb (ltK k) (out.map backV) xs := by
      rw [e1]
      exact SrtO.Stb.map (swo_ks k) backV h2
    refine ⟨.ref d, upd H d (.lst (out.map backV)), I.laid (t' := s.toks) kp hd ⟨?_, out, n, vals_back h3, hn⟩, rfl, q _ d (SrtO.srtd_map h1) hb (I.hok.fresh hd)⟩
    rw [hb.len]
    exact hz
end
end Gd
namespace L2
open PySem PySem.Spec PyProof.Rows
/-! d.items() of a dict whose keys are tuples -/
def Itit (d : Addr) (o : Obj) (kvs : List (List Key × V)) : It :=
  ⟨fun i H => H d = some (.frz o (.dT kvs)) ∧ i < kvs.length, fun i H x H' => ∃ T k v q, kvs[i]? = some (k, v) ∧ H q = some (.tup (k.map kV)) ∧ x = .ref T ∧ H T = none ∧ H' = upd H T (.tup [.ref q, v]), fun i H => H d = some (.frz o (.dT kvs)) ∧ kvs.length ≤ i⟩
section
variable {X : Cx} {pins : List (Addr × Obj)} {σ : St} {H : Hp} {s : Shared} {d : Addr} {o : Obj}
theorem Inv.frzTv {kvs : List (List Key × V)} (I : Inv X pins σ H s) (h : H d = some (.frz o (.dT kvs))) :
    (d == sysModules) = false ∧ s.heap.get? d = some o ∧ o.ExactDict ∧ ∃ (es : Array DictEntry) (ep : Nat), o.data = .dict es ep ∧ es.size = kvs.length ∧
      ∀ (i : Nat) (k : List Key) (v : V), kvs[i]? = some (k, v) → ∃ (en : DictEntry) (q : Addr), es[i]? = some en ∧ en.key = .ref q ∧ H q = some (.tup (k.map kV)) ∧ RelV v en.val := by
  obtain ⟨hd, z, hs, xs, pr, o', es, ep, ho, hx, hdt, he, _⟩ := I.hok d _ h
  rw [hd] at ho
  cases ho
  refine ⟨hs, hd, hx, es, ep, hdt, ?_, fun i k v e => ?_⟩
  · have l1 : es.size = xs.length := size_of_entries he
    have l2 : kvs.length = xs.length := Paired.length pr
    omega
  · obtain ⟨b, hb, e1, e2, e3⟩ := paired_get pr e
    have q := entry_at he i
    rw [hb] at q
    exact ⟨_, b.2.1, q, rfl, e2, e3⟩
end
section
variable {P : Program} {w : World} {K : PySem.W.Frag} {d : Addr} {o : Obj} {es : Array DictEntry} {ep : Nat}
theorem turn_itemsT {kvs : List (List Key × V)} {elts : List Expr} {kk : Nat} {tpos : Pos} (it : Addr) (hod : o.data = .dict es ep) :
    Turn P w K (.Tuple elts kk tpos) (Itit d o kvs) [it] it (fun i h => ∃ ok ov, IsItemIter h it d i kvs.length ep ok ov) where
  mem := by simp
  obj := fun i h st b hb => by
    have e : b = it := by simpa using hb
    subst e
    obtain ⟨ok, ov, e⟩ := st
    exact ⟨_, e, fun v z => nomatch z⟩
  keep := fun i h h' st k => let ⟨ok, ov, e⟩ := st; ⟨ok, ov, k it (by simp) _ e⟩
  item := by
    intro X hP hw hK hc i pins s σ H E I hf st hg
    subst hP hw hK
    obtain ⟨hd, hi⟩ := hg
    obtain ⟨hs, hgd, hx, es', ep', hdt, hsz, ent⟩ := I.frzTv hd
    obtain ⟨rfl, rfl⟩ := dict_ep hod hdt
    obtain ⟨⟨k, v⟩, hkv⟩ : ∃ p, kvs[i]? = some p := ⟨kvs[i], List.getElem?_eq_getElem hi⟩
    obtain ⟨en, q, hen, hkey, hq, rv⟩ := ent i k v hkv
    obtain ⟨ok, ov, he⟩ := st
    rw [← hsz] at he
    have hlt : it < s.heap.objs.size := Heap.lt_size he
    have hi2 : i < es'.size := by omega
    have een : es'[i] = en := by
      rw [Array.getElem?_eq_getElem hi2] at hen
      exact Option.some.inj hen
    refine PySem.wpAny_pyNext_items_item_raw he ⟨o, hgd, hx, hdt⟩ hi2 fun h' ho hT hz hk => ?_
    rw [een] at ho hT
    refine ⟨_, rfl, wpAny_letOwnedTupleGo_items (s := { s with heap := h' }) ho fun h'' he' sb => ?_⟩
    have hT2 : h''.get? s.heap.objs.size = some { cls := .type "tuple", data := .seq #[en.key, en.val] } := (sb.2 _ (Nat.ne_of_gt hlt)).trans hT
    have new : ObjOk X.prog X.w (upd H s.heap.objs.size (.tup [.ref q, v])) h'' s.heap.objs.size (.tup [.ref q, v]) :=
      ⟨by show 2 ≤ sizeLine; decide, [en.key, en.val], .cons hkey (.cons rv .nil), ⟨_, hT2, rfl, _, rfl⟩⟩
    have I1 : Inv X pins σ (upd H s.heap.objs.size (.tup [.ref q, v])) { s with heap := h'' } :=
      I.turnedNew (t' := s.toks) (ch := [it]) (fun b ob hb e => (sb.2 b (by simpa using hb)).trans (hk b ob (by simpa using hb) e)) hf (Nat.le_refl _) new
    refine ⟨.ref s.heap.objs.size, _, I1, rfl, ⟨_, k, v, q, hkv, hq, rfl, I.hok.fresh (Nat.le_refl _), rfl⟩, ⟨en.key, en.val, ?_⟩, fun b hb => ?_⟩
    · rw [← hsz]; exact he'
    · have e : b = it := by simpa using hb
      rw [e, upd_ne (Nat.ne_of_lt hlt)]
      exact (hf it (by simp)).1
  done := by
    intro X hP hw hK hc i pins s σ H E I hf st hg
    subst hP hw hK
    obtain ⟨hd, hi⟩ := hg
    obtain ⟨f0, f1, f2, f3, f4, f5⟩ := hf it (by simp)
    obtain ⟨hs, hgd, hx, es', ep', hdt, hsz, ent⟩ := I.frzTv hd
    obtain ⟨rfl, rfl⟩ := dict_ep hod hdt
    obtain ⟨ok, ov, he⟩ := st
    rw [← hsz] at he
    exact PySem.wpAny_pyNext_items_end_raw (I.ok.hd hc) he ⟨o, hgd, hx, hdt⟩ (by omega) fun h' eb => ⟨rfl, I.turned (t' := s.toks) (fun b ob hb e => eb b ob hb e) f0 f1 f3 f4 f5⟩
  self := fun A i s Q E st h => let ⟨_, _, e⟩ := st; PySem.W.kcp_self e h
end
def iItemsT (td : TE) : TI := fun σ H R => td σ H fun x H1 => ∃ d o kvs, x = .ref d ∧ H1 d = some (.frz o (.dT kvs)) ∧ R (Itit d o kvs) H1
section
variable {X : Cx} {e : Expr} {td : TE} {apos cpos : Pos}
theorem pi_itemsT {elts : List Expr} {kk : Nat} {tpos : Pos} (he : PE X e td) (hbase : attributeBase e "items" X.env (eval e X.env) = eval e X.env := by rfl) (hline : (apos.endLine == cpos.line) = true := by rfl) :
    PI X (.Tuple elts kk tpos) (.Call (.Attribute e "items" apos) [] [] cpos) (iItemsT td) := by
  refine ⟨fun pins s σ H R I h => ?_⟩
  refine wpAny_Call_method (T := "dict") (id := "dict.items") hbase rfl hline F.plainAttrs_dict F.slot_dict_items F.type_dict_items (thn (he.run pins s σ H _ I h) fun u s1 ⟨x, H1, I1, rx, d, o, kvs, ex, hd, q⟩ => ?_)
  subst ex
  obtain rfl : u = Value.ref d := rx
  obtain ⟨hs, hgd, hx, es, ep, hdt, hsz, ent⟩ := I1.frzTv hd
  have hm : s1.heap.DictRaw d es ep := ⟨o, hgd, hx, hdt⟩
  refine ⟨hm.typeIs, ?_, ?_⟩
  · exact fun a ea => by
      cases ea
      exact ⟨o, hgd, hx.2.1⟩
  have I2 : Inv X pins σ H1 { s1 with heap := s1.heap.push { cls := .type "dict_items", data := .fields #[.ref d] } } := I1.kept (t' := s1.toks) fun b ob q => Heap.get?_push_of_some _ q
  have fin : wpAny (model X.prog X.w) X.A (pyIter (.ref s1.heap.objs.size)) (PIE X pins σ (.Tuple elts kk tpos) R) X.xe { s1 with heap := s1.heap.push { cls := .type "dict_items", data := .fields #[.ref d] } } := by
    refine PySem.wpAny_pyIter_items_raw (d := d) ⟨_, Heap.get?_push_size _ rfl, rfl, rfl⟩ (hm.at fun o e => Heap.get?_push_of_some _ e) (pi_one (tk := s1.toks) I2 _ (turn_itemsT _ hdt) ⟨.none, .none, ?_⟩ q)
    rw [← hsz]
    exact Heap.get?_push_size _ rfl
  show wpAny _ _ (callWith cpos (.builtin "dict.items") [.ref d] [] []) _ X.xe s1
  exact method_meetsIn F.slot_dict_items F.entry_dict_items rfl (PySem.evalArgs_none ⟨rfl, hm.typeIs, F.args_dict_items_1 _, _, PySem.meets_dict_items_raw d hs, ⟨⟨es, ep, hm⟩, fin⟩⟩)
end
theorem walk_itemsT {d : Addr} {o : Obj} {kvs : List (List Key × V)} : Walk (Itit d o kvs) kvs.length (fun H => H d = some (.frz o (.dT kvs)))
    (fun i H x H' => ∃ T k v q, kvs[i]? = some (k, v) ∧ H q = some (.tup (k.map kV)) ∧ x = .ref T ∧ H T = none ∧ H' = upd H T (.tup [.ref q, v])) :=
  ⟨fun _ _ hi q => ⟨q, hi⟩, fun _ q => ⟨q, Nat.le_refl _⟩, fun _ _ _ _ _ _ y => y⟩
end L2
namespace Sn
open PySem PySem.Spec PyProof.Rows L2
/-! Data of tuples, texts, ints and None, as it lies in a heap; snapshots. -/
def Exx (H H' : Hp) : Prop := ∀ a o, H a = some o → H' a = some o
mutual
inductive Td (K : PySem.W.Frag) (H : Hp) : V → PyData → Prop
  | non : Td K H .non .none
  | int (i : Int) : Td K H (.int i) (.int i)
  | str (x : Str) : Td K H (.str x) (.str x)
  | tup {a : Addr} {xs : List V} {ds : List PyData} : SqT K H a xs → TdAll K H xs ds → Td K H (.ref a) (.tuple ds)
inductive TdAll (K : PySem.W.Frag) (H : Hp) : List V → List PyData → Prop
  | nil : TdAll K H [] []
  | cons {v : V} {vs : List V} {d : PyData} {ds : List PyData} : Td K H v d → TdAll K H vs ds → TdAll K H (v :: vs) (d :: ds)
end
section
variable {K : PySem.W.Frag} {H H' : Hp} {x : V} {xs ys : List V} {d : PyData} {ds es : List PyData}
/-- what H' keeps of the tuples -/
def KeepT (K : PySem.W.Frag) (H H' : Hp) : Prop := ∀ a xs, SqT K H a xs → SqT K H' a xs
theorem KeepT.of (e : ∀ a o, H a = some o → H' a = some o) : KeepT K H H' := by
  intro a xs h
  rcases h with (h | ⟨o, h⟩) | h
  · exact .inl (.inl (e _ _ h))
  · exact .inl (.inr ⟨o, e _ _ h⟩)
  · exact .inr h
/-- all but a list, a dict or an instance stays -/
theorem KeepT.off {p : Addr} {u : HO} (hp : H p = some u) (hu : (∀ xs, u ≠ .tup xs) ∧ ∀ o v, u ≠ .frz o v) (e : ∀ a o, a ≠ p → H a = some o → H' a = some o) : KeepT K H H' := by
  intro a xs h
  rcases h with (h | ⟨o, h⟩) | h
  · exact .inl (.inl (e _ _ (fun q => by
      rw [q, hp] at h
      exact hu.1 _ (Option.some.inj h)) h))
  · exact .inl (.inr ⟨o, e _ _ (fun q => by
      rw [q, hp] at h
      exact hu.2 _ _ (Option.some.inj h)) h⟩)
  · exact .inr h
theorem KeepT.lst {p : Addr} {zs : List V} (hp : H p = some (.lst zs)) (e : ∀ a o, a ≠ p → H a = some o → H' a = some o) : KeepT K H H' := .off hp ⟨(fun _ z => nomatch z), (fun _ _ z => nomatch z)⟩ e
mutual
theorem Td.keep (k : KeepT K H H') : ∀ {x : V} {d : PyData}, Td K H x d → Td K H' x d
  | _, _, .non => .non
  | _, _, .int i => .int i
  | _, _, .str x => .str x
  | _, _, .tup h a => .tup (k _ _ h) (TdAll.keep k a)
theorem TdAll.keep (k : KeepT K H H') : ∀ {xs : List V} {ds : List PyData}, TdAll K H xs ds → TdAll K H' xs ds
  | _, _, .nil => .nil
  | _, _, .cons h a => .cons (Td.keep k h) (TdAll.keep k a)
end
theorem Td.ex (e : ∀ a o, H a = some o → H' a = some o) (h : Td K H x d) : Td K H' x d := h.keep (.of e)
theorem TdAll.ex (e : ∀ a o, H a = some o → H' a = some o) (h : TdAll K H xs ds) : TdAll K H' xs ds := h.keep (.of e)
mutual
theorem Td.dp : ∀ {x : V} {d : PyData}, Td K H x d → Dp K H x d
  | _, _, .non => .non
  | _, _, .int i => .int i
  | _, _, .str x => .str x
  | _, _, .tup h a => .tup h (TdAll.dp a)
theorem TdAll.dp : ∀ {xs : List V} {ds : List PyData}, TdAll K H xs ds → DpAll K H xs ds
  | _, _, .nil => .nil
  | _, _, .cons h a => .cons (Td.dp h) (TdAll.dp a)
end
theorem TdAll.len : ∀ {xs : List V} {ds : List PyData}, TdAll K H xs ds → xs.length = ds.length
  | _, _, .nil => rfl
  | _, _, .cons _ a => by rw [List.length_cons, List.length_cons, TdAll.len a]
theorem TdAll.snoc : ∀ {xs : List V} {ds : List PyData} {x : V} {d : PyData}, TdAll K H xs ds → Td K H x d → TdAll K H (xs ++ [x]) (ds ++ [d])
  | _, _, _, _, .nil, h => .cons h .nil
  | _, _, _, _, .cons a b, h => .cons a (b.snoc h)
theorem TdAll.app : ∀ {xs ys : List V} {ds es : List PyData}, TdAll K H xs ds → TdAll K H ys es → TdAll K H (xs ++ ys) (ds ++ es)
  | _, _, _, _, .nil, h => h
  | _, _, _, _, .cons a b, h => .cons a (b.app h)
theorem TdAll.get : ∀ {xs : List V} {ds : List PyData} {i : Nat} {x : V}, TdAll K H xs ds → xs[i]? = some x → ∃ d, ds[i]? = some d ∧ Td K H x d
  | _, _, _, _, .nil, h => by simp at h
  | _, _, 0, _, .cons a _, h => ⟨_, rfl, by
    have e := Option.some.inj h
    rw [← e]
    exact a⟩
  | _, _, i + 1, _, .cons _ b, h => by
    obtain ⟨d, h1, h2⟩ := TdAll.get (i := i) b (by simpa using h)
    exact ⟨d, by simpa using h1, h2⟩
theorem TdAll.at : ∀ {xs : List V} {ds : List PyData} {i : Nat} {d : PyData}, TdAll K H xs ds → ds[i]? = some d → ∃ x, xs[i]? = some x ∧ Td K H x d
  | _, _, _, _, .nil, h => by simp at h
  | _, _, 0, _, .cons a _, h => ⟨_, rfl, by
    have e := Option.some.inj h
    rw [← e]
    exact a⟩
  | _, _, i + 1, _, .cons _ b, h => by
    obtain ⟨d, h1, h2⟩ := TdAll.at (i := i) b (by simpa using h)
    exact ⟨d, by simpa using h1, h2⟩
theorem Td.inv_tup (h : Td K H x (.tuple ds)) : ∃ p xs, x = .ref p ∧ SqT K H p xs ∧ TdAll K H xs ds := by
  cases h with
  | tup a b => exact ⟨_, _, rfl, a, b⟩
theorem Td.inv_int {i : Int} (h : Td K H x (.int i)) : x = .int i := by cases h <;> rfl
theorem Td.inv_str {z : Str} (h : Td K H x (.str z)) : x = .str z := by cases h <;> rfl
theorem Td.inv_non (h : Td K H x .none) : x = .non := by cases h <;> rfl
theorem TdAll.inv_cons (h : TdAll K H xs (d :: ds)) : ∃ y ys, xs = y :: ys ∧ Td K H y d ∧ TdAll K H ys ds := by
  cases h with
  | cons a b => exact ⟨_, _, rfl, a, b⟩
theorem TdAll.inv_nil (h : TdAll K H xs []) : xs = [] := by cases h <;> rfl
theorem TdAll.ints : ∀ ns : List Int, TdAll K H (ns.map V.int) (ns.map .int)
  | [] => .nil
  | n :: r => .cons (.int n) (TdAll.ints r)
theorem TdAll.inv_ints : ∀ {xs : List V} (ns : List Int), TdAll K H xs (ns.map .int) → xs = ns.map V.int
  | _, [], h => h.inv_nil
  | _, n :: r, h => by
    obtain ⟨y, ys, rfl, h1, h2⟩ := TdAll.inv_cons h
    rw [h1.inv_int, TdAll.inv_ints r h2]
    rfl
/-- a tuple of three, of four, of two -/
theorem Td.inv2 {d1 d2 : PyData} (h : Td K H x (.tuple [d1, d2])) : ∃ p y z, x = .ref p ∧ SqT K H p [y, z] ∧ Td K H y d1 ∧ Td K H z d2 := by
  obtain ⟨p, xs, rfl, h1, h2⟩ := h.inv_tup
  obtain ⟨y, ys, rfl, a, h2⟩ := h2.inv_cons
  obtain ⟨z, zs, rfl, b, h2⟩ := h2.inv_cons
  rw [h2.inv_nil] at h1
  exact ⟨p, y, z, rfl, h1, a, b⟩
theorem Td.inv3 {d1 d2 d3 : PyData} (h : Td K H x (.tuple [d1, d2, d3])) : ∃ p y z u, x = .ref p ∧ SqT K H p [y, z, u] ∧ Td K H y d1 ∧ Td K H z d2 ∧ Td K H u d3 := by
  obtain ⟨p, xs, rfl, h1, h2⟩ := h.inv_tup
  obtain ⟨y, ys, rfl, a, h2⟩ := h2.inv_cons
  obtain ⟨z, zs, rfl, b, h2⟩ := h2.inv_cons
  obtain ⟨u, us, rfl, c, h2⟩ := h2.inv_cons
  rw [h2.inv_nil] at h1
  exact ⟨p, y, z, u, rfl, h1, a, b, c⟩
theorem Td.inv4 {d1 d2 d3 d4 : PyData} (h : Td K H x (.tuple [d1, d2, d3, d4])) : ∃ p y z u v, x = .ref p ∧ SqT K H p [y, z, u, v] ∧ Td K H y d1 ∧ Td K H z d2 ∧ Td K H u d3 ∧ Td K H v d4 := by
  obtain ⟨p, xs, rfl, h1, h2⟩ := h.inv_tup
  obtain ⟨y, ys, rfl, a, h2⟩ := h2.inv_cons
  obtain ⟨z, zs, rfl, b, h2⟩ := h2.inv_cons
  obtain ⟨u, us, rfl, c, h2⟩ := h2.inv_cons
  obtain ⟨v, vs, rfl, e, h2⟩ := h2.inv_cons
  rw [h2.inv_nil] at h1
  exact ⟨p, y, z, u, v, rfl, h1, a, b, c, e⟩
end
/-! ### snapshots -/
inductive Part where
  | tgt (n : Int)
  | pair (k : Int) (v : Option Int)
def dOpt : Option Int → PyData
  | none => .none
  | some v => .int v
def dPart : Part → PyData
  | .tgt n => .int n
  | .pair k v => .tuple [.int k, dOpt v]
structure Thing where
  n : Int
  home : Str
  sort : Str
  parts : List Part
def dThing (t : Thing) : PyData := .tuple [.int t.n, .str t.home, .str t.sort, .tuple (t.parts.map dPart)]
def dRoot (r : Str × Int) : PyData := .tuple [.str r.1, .int r.2]
structure Shot where
  roots : List (Str × Int)
  things : List Thing
def dShot (s : Shot) : PyData := .tuple [.tuple (s.roots.map dRoot), .tuple (s.things.map dThing)]
/-- records have slots with objects, maps entries, weak objects targets -/
def OkThing (t : Thing) : Prop := (t.sort = "record" ∧ ∀ p ∈ t.parts, ∃ k v, p = .pair k (some v)) ∨ (t.sort = "map" ∧ ∀ p ∈ t.parts, ∃ k v, p = .pair k v) ∨ (t.sort = "weak" ∧ ∀ p ∈ t.parts, ∃ n, p = .tgt n)
/-! ### arcs, and what is alive -/
structure Arc where
  link : List Key
  src : List Int
  tgt : Int
def kD : Key → PyData
  | .inl i => .int i
  | .inr z => .str z
def dArc (α : Arc) : PyData := .tuple [.tuple (α.link.map kD), .tuple (α.src.map .int), .int α.tgt]
def rootArc (r : Str × Int) : Arc := ⟨[.inr "root", .inr r.1], [], r.2⟩
def slotArc (n : Int) : Part → Option Arc
  | .pair k (some v) => some ⟨[.inr "slot", .inl n, .inl k], [n], v⟩
  | _ => none
def entryArc (n : Int) : Part → Option Arc
  | .pair k (some v) => some ⟨[.inr "entry", .inl n, .inl k], [n, k], v⟩
  | _ => none
def thingArcs (t : Thing) : List Arc := if t.sort = "record" then t.parts.filterMap (slotArc t.n) else if t.sort = "map" then t.parts.filterMap (entryArc t.n) else []
def arcsOf (s : Shot) : List Arc := s.roots.map rootArc ++ s.things.flatMap thingArcs
inductive Live (as : List Arc) : Int → Prop
  | mk {α : Arc} : α ∈ as → (∀ n ∈ α.src, Live as n) → Live as α.tgt
/-- what is closed under the arcs has all that is alive -/
theorem Live.sub {as : List Arc} {S : Int → Prop} (h : ∀ α ∈ as, (∀ n ∈ α.src, S n) → S α.tgt) {n : Int} (l : Live as n) : S n := by
  induction l with
  | mk m _ ih => exact h _ m ih
theorem kV_td {K : PySem.W.Frag} {H : Hp} : ∀ k : Key, Td K H (kV k) (kD k)
  | .inl i => .int i
  | .inr z => .str z
theorem kVs_td {K : PySem.W.Frag} {H : Hp} : ∀ ks : List Key, TdAll K H (ks.map kV) (ks.map kD)
  | [] => .nil
  | k :: r => .cons (kV_td k) (kVs_td r)
end Sn
namespace Sn
open PySem PySem.Spec PyProof.Rows L2
/-! ### nets: roots and rows; what the worklist of `met` does -/
structure Row where
  n : Int
  sort : Str
  parts : List Part
structure NetM where
  roots : List (Str × Int)
  rows : List Row
def pairOf : Part → Option (Int × Int)
  | .pair k (some v) => some (k, v)
  | _ => none
def pairsOf (r : Row) : List (Int × Int) := r.parts.filterMap pairOf
def slotA (n : Int) (p : Int × Int) : Arc := ⟨[.inr "slot", .inl n, .inl p.1], [n], p.2⟩
def entryA (n : Int) (p : Int × Int) : Arc := ⟨[.inr "entry", .inl n, .inl p.1], [n, p.1], p.2⟩
def rowArcs (r : Row) : List Arc := if r.sort = "record" then (pairsOf r).map (slotA r.n) else if r.sort = "map" then (pairsOf r).map (entryA r.n) else []
def netArcs (N : NetM) : List Arc := N.roots.map rootArc ++ N.rows.flatMap rowArcs
def isVal : Part → Bool
  | .pair _ none => false
  | _ => true
def rowOf (t : Thing) : Row := ⟨t.n, t.sort, if t.sort = "map" then t.parts.filter isVal else t.parts⟩
def netM (s : Shot) : NetM := ⟨s.roots, s.things.map rowOf⟩
theorem slot_pair (n : Int) (p : Part) : slotArc n p = (pairOf p).map (slotA n) := by
  cases p with
  | tgt m => rfl
  | pair k v => cases v <;> rfl
theorem entry_pair (n : Int) (p : Part) : entryArc n p = (pairOf p).map (entryA n) := by
  cases p with
  | tgt m => rfl
  | pair k v => cases v <;> rfl
theorem filterMap_map' {α β γ : Type} (f : α → Option β) (g : β → γ) (l : List α) : l.filterMap (fun x => (f x).map g) = (l.filterMap f).map g := by
  induction l with
  | nil => rfl
  | cons x l ih =>
    cases e : f x with
    | none => rw [List.filterMap_cons_none (by rw [e]; rfl), List.filterMap_cons_none e, ih]
    | some y => rw [List.filterMap_cons_some (b := g y) (by rw [e]; rfl), List.filterMap_cons_some e, List.map_cons, ih]
theorem vals_same : ∀ l : List Part, (l.filter isVal).filterMap pairOf = l.filterMap pairOf
  | [] => rfl
  | p :: l => by
    have ih := vals_same l
    cases p with
    | tgt m => rw [List.filter_cons_of_pos rfl, List.filterMap_cons_none rfl, List.filterMap_cons_none rfl, ih]
    | pair k v =>
      cases v with
      | none => rw [List.filter_cons_of_neg (show ¬ (isVal (Part.pair k none) = true) from Bool.false_ne_true), List.filterMap_cons_none rfl, ih]
      | some v => rw [List.filter_cons_of_pos rfl, List.filterMap_cons_some (f := pairOf) (b := (k, v)) rfl, List.filterMap_cons_some (f := pairOf) (b := (k, v)) rfl, ih]
theorem row_arcs (t : Thing) : rowArcs (rowOf t) = thingArcs t := by
  unfold rowArcs thingArcs pairsOf rowOf
  dsimp only
  by_cases h1 : t.sort = "record"
  · rw [if_pos h1, if_pos h1, if_neg (by rw [h1]; decide +kernel), ← filterMap_map']
    exact (congrArg (fun f => List.filterMap f t.parts) (funext fun p => slot_pair t.n p)).symm
  · rw [if_neg h1, if_neg h1]
    by_cases h2 : t.sort = "map"
    · rw [if_pos h2, if_pos h2, if_pos h2, vals_same, ← filterMap_map']
      exact (congrArg (fun f => List.filterMap f t.parts) (funext fun p => entry_pair t.n p)).symm
    · rw [if_neg h2, if_neg h2]
theorem net_arcs (s : Shot) : netArcs (netM s) = arcsOf s := by
  unfold netArcs netM arcsOf
  dsimp only
  rw [List.flatMap_map]
  exact congrArg (fun f => s.roots.map rootArc ++ s.things.flatMap f) (funext row_arcs)
/-- records and maps have pairs with objects -/
def OkRow (r : Row) : Prop := (r.sort = "record" ∧ ∃ ps : List (Int × Int), r.parts = ps.map fun p => .pair p.1 (some p.2)) ∨ (r.sort = "map" ∧ ∃ ps : List (Int × Int), r.parts = ps.map fun p => .pair p.1 (some p.2)) ∨ r.sort = "weak"
theorem pairs_of {r : Row} {ps : List (Int × Int)} (h : r.parts = ps.map fun p => .pair p.1 (some p.2)) : pairsOf r = ps := by
  unfold pairsOf
  rw [h]
  clear h
  induction ps with
  | nil => rfl
  | cons p ps ih => rw [List.map_cons, List.filterMap_cons_some (f := pairOf) (b := p) rfl, ih]
structure OkNet (N : NetM) : Prop where
  rows : ∀ r ∈ N.rows, OkRow r
  nodup : (N.rows.map Row.n).Nodup
  there : ∀ α ∈ netArcs N, α.tgt ∈ N.rows.map Row.n
  many : (netArcs N).length ≤ 1000
  len : N.rows.length ≤ 1000
theorem row_uniq {rs : List Row} (h : (rs.map Row.n).Nodup) {r r' : Row} (m : r ∈ rs) (m' : r' ∈ rs) (e : r.n = r'.n) : r = r' := by
  induction rs with
  | nil => exact absurd m List.not_mem_nil
  | cons x rs ih =>
    rw [List.map_cons] at h
    have hn := List.nodup_cons.mp h
    rcases List.mem_cons.mp m with rfl | m
    · rcases List.mem_cons.mp m' with rfl | m'
      · rfl
      · exact absurd (List.mem_map.mpr ⟨r', m', e.symm⟩) hn.1
    · rcases List.mem_cons.mp m' with q | m'
      · rw [q] at e
        exact absurd (List.mem_map.mpr ⟨r, m, e⟩) hn.1
      · exact ih hn.2 m m'
/-- what waits: values by their keys, in their order -/
def wOf (ps : List (Int × Int)) (n : Int) : List Int := (ps.filter fun p => decide (p.1 = n)).map (·.2)
theorem wOf_snoc (ps : List (Int × Int)) (s n v : Int) : wOf (ps ++ [(s, v)]) n = wOf ps n ++ (if s = n then [v] else []) := by
  unfold wOf
  rw [List.filter_append, List.map_append]
  by_cases h : s = n
  · rw [if_pos h, List.filter_cons_of_pos (p := fun p : Int × Int => decide (p.1 = n)) (decide_eq_true h)]
    rfl
  · rw [if_neg h, List.filter_cons_of_neg (p := fun p : Int × Int => decide (p.1 = n)) (by simpa using h)]
    rfl
theorem wOf_mem {ps : List (Int × Int)} {n v : Int} : v ∈ wOf ps n ↔ (n, v) ∈ ps := by
  unfold wOf
  constructor
  · intro h
    obtain ⟨p, hp, rfl⟩ := List.mem_map.mp h
    have := List.mem_filter.mp hp
    have e : p.1 = n := of_decide_eq_true this.2
    rw [← e]
    exact this.1
  · intro h
    exact List.mem_map.mpr ⟨(n, v), List.mem_filter.mpr ⟨h, decide_eq_true rfl⟩, rfl⟩
theorem wOf_len (ps : List (Int × Int)) (n : Int) : (wOf ps n).length ≤ ps.length := by
  unfold wOf
  rw [List.length_map]
  exact List.length_filter_le _ _
/-- what stands in the rows that are not met -/
def wsum (w : Row → Nat) (rs : List Row) (met : List Int) : Nat := ((rs.filter fun r => decide (r.n ∉ met)).map w).sum
theorem wsum_le (w : Row → Nat) (rs : List Row) (met : List Int) (n : Int) : wsum w rs (met ++ [n]) ≤ wsum w rs met := by
  unfold wsum
  induction rs with
  | nil => exact Nat.le_refl _
  | cons r rs ih =>
    by_cases m : r.n ∈ met
    · rw [List.filter_cons_of_neg (by simp [m]), List.filter_cons_of_neg (by simp [m])]
      exact ih
    · by_cases e : r.n = n
      · rw [List.filter_cons_of_neg (by simp [e]), List.filter_cons_of_pos (by simp [m]), List.map_cons, List.sum_cons]
        omega
      · rw [List.filter_cons_of_pos (by simp [m, e]), List.filter_cons_of_pos (by simp [m]), List.map_cons, List.map_cons, List.sum_cons, List.sum_cons]
        omega
theorem wsum_less (w : Row → Nat) {rs : List Row} {met : List Int} {r : Row} (hr : r ∈ rs) (h : r.n ∉ met) : wsum w rs (met ++ [r.n]) + w r ≤ wsum w rs met := by
  obtain ⟨a, b, rfl⟩ := List.append_of_mem hr
  have h1 := wsum_le w a met r.n
  have h2 := wsum_le w b met r.n
  unfold wsum at *
  rw [List.filter_append, List.filter_append, List.map_append, List.map_append, List.sum_append, List.sum_append, List.filter_cons_of_neg (by simp), List.filter_cons_of_pos (by simp [h]), List.map_cons, List.sum_cons]
  omega
theorem wsum_nil (w : Row → Nat) (rs : List Row) : wsum w rs [] = (rs.map w).sum := by
  unfold wsum
  rw [List.filter_eq_self.mpr (fun r _ => by simp)]
theorem wsum_one_nil (rs : List Row) : wsum (fun _ => 1) rs [] = rs.length := by
  rw [wsum_nil]
  induction rs with
  | nil => rfl
  | cons r rs ih =>
    rw [List.map_cons, List.sum_cons, ih, List.length_cons]
    omega
def adds (r : Row) (met : List Int) : List Int := if r.sort = "record" then (pairsOf r).map (·.2) else if r.sort = "map" then ((pairsOf r).filter fun p => decide (p.1 ∈ met)).map (·.2) else []
def waits (r : Row) (met : List Int) : List (Int × Int) := if r.sort = "map" then (pairsOf r).filter fun p => decide (p.1 ∉ met) else []
theorem filt_both {α : Type} (l : List α) (p : α → Prop) [DecidablePred p] : (l.filter fun x => decide (p x)).length + (l.filter fun x => decide (¬ p x)).length = l.length := by
  induction l with
  | nil => rfl
  | cons x l ih =>
    by_cases h : p x
    · rw [List.filter_cons_of_pos (by simpa using h), List.filter_cons_of_neg (by simpa using h), List.length_cons, List.length_cons]
      omega
    · rw [List.filter_cons_of_neg (by simpa using h), List.filter_cons_of_pos (by simpa using h), List.length_cons, List.length_cons]
      omega
theorem adds_waits (r : Row) (met : List Int) : (adds r met).length + (waits r met).length = (rowArcs r).length := by
  unfold adds waits rowArcs
  by_cases h1 : r.sort = "record"
  · rw [if_pos h1, if_pos h1, if_neg (by rw [h1]; decide +kernel), List.length_map, List.length_map]
    rfl
  · rw [if_neg h1, if_neg h1]
    by_cases h2 : r.sort = "map"
    · rw [if_pos h2, if_pos h2, if_pos h2, List.length_map, List.length_map]
      exact filt_both (pairsOf r) fun p => p.1 ∈ met
    · rw [if_neg h2, if_neg h2, if_neg h2]
      rfl
/-- the state of the worklist: met, ahead, waiting -/
structure Inv (N : NetM) (B met ys : List Int) (ps : List (Int × Int)) (m : Nat) : Prop where
  live : ∀ n ∈ met, Live ((netArcs N).filter fun α => decide (α.tgt ∉ B)) n
  nodup : met.Nodup
  can : ∀ y ∈ ys, ∃ α ∈ netArcs N, α.tgt = y ∧ ∀ s ∈ α.src, s ∈ met
  wai : ∀ p ∈ ps, ∃ α ∈ netArcs N, α.tgt = p.2 ∧ ∀ s ∈ α.src, s ∈ met ∨ s = p.1
  all : ∀ α ∈ netArcs N, (∀ s ∈ α.src, s ∈ met) → α.tgt ∈ met ∨ α.tgt ∈ ys ∨ α.tgt ∈ B
  wal : ∀ r ∈ N.rows, r.sort = "map" → r.n ∈ met → ∀ p ∈ pairsOf r, p.1 ∉ met → p ∈ ps
  many : met.length + wsum (fun _ => 1) N.rows met ≤ 1000
  me : m = ys.length + wsum (fun r => (rowArcs r).length) N.rows met + (ps.filter fun p => decide (p.1 ∉ met)).length
  le : m ≤ 1000
  pl : ps.length + wsum (fun r => (rowArcs r).length) N.rows met ≤ 1000
theorem arc_cases {N : NetM} {α : Arc} (h : α ∈ netArcs N) : (∃ r ∈ N.roots, α = rootArc r) ∨ (∃ r ∈ N.rows, r.sort = "record" ∧ ∃ p ∈ pairsOf r, α = slotA r.n p) ∨ (∃ r ∈ N.rows, r.sort = "map" ∧ ∃ p ∈ pairsOf r, α = entryA r.n p) := by
  rcases List.mem_append.mp h with h | h
  · obtain ⟨r, hr, rfl⟩ := List.mem_map.mp h
    exact .inl ⟨r, hr, rfl⟩
  · obtain ⟨r, hr, h⟩ := List.mem_flatMap.mp h
    unfold rowArcs at h
    by_cases h1 : r.sort = "record"
    · rw [if_pos h1] at h
      obtain ⟨p, hp, rfl⟩ := List.mem_map.mp h
      exact .inr (.inl ⟨r, hr, h1, p, hp, rfl⟩)
    · rw [if_neg h1] at h
      by_cases h2 : r.sort = "map"
      · rw [if_pos h2] at h
        obtain ⟨p, hp, rfl⟩ := List.mem_map.mp h
        exact .inr (.inr ⟨r, hr, h2, p, hp, rfl⟩)
      · rw [if_neg h2] at h
        exact absurd h List.not_mem_nil
theorem slot_in {N : NetM} {r : Row} (hr : r ∈ N.rows) (h : r.sort = "record") {p : Int × Int} (hp : p ∈ pairsOf r) : slotA r.n p ∈ netArcs N := by
  refine List.mem_append.mpr (.inr (List.mem_flatMap.mpr ⟨r, hr, ?_⟩))
  unfold rowArcs
  rw [if_pos h]
  exact List.mem_map.mpr ⟨p, hp, rfl⟩
theorem entry_in {N : NetM} {r : Row} (hr : r ∈ N.rows) (h : r.sort = "map") {p : Int × Int} (hp : p ∈ pairsOf r) : entryA r.n p ∈ netArcs N := by
  refine List.mem_append.mpr (.inr (List.mem_flatMap.mpr ⟨r, hr, ?_⟩))
  unfold rowArcs
  rw [if_neg (by rw [h]; decide +kernel), if_pos h]
  exact List.mem_map.mpr ⟨p, hp, rfl⟩
theorem Inv.start {N : NetM} {B : List Int} (ok : OkNet N) : ∃ m, Inv N B [] (N.roots.map (·.2)) [] m := by
  have h0 : (netArcs N).length = N.roots.length + (N.rows.map fun r => (rowArcs r).length).sum := by
    unfold netArcs
    rw [List.length_append, List.length_map, List.length_flatMap]
  have h1 := ok.many
  refine ⟨_, ⟨fun n h => absurd h List.not_mem_nil, List.nodup_nil, fun y hy => ?_, fun p h => absurd h List.not_mem_nil, fun α ha hs => ?_, fun r _ _ h => absurd h List.not_mem_nil, ?_, rfl, ?_, ?_⟩⟩
  · obtain ⟨r, hr, rfl⟩ := List.mem_map.mp hy
    exact ⟨rootArc r, List.mem_append.mpr (.inl (List.mem_map.mpr ⟨r, hr, rfl⟩)), rfl, fun s h => absurd h List.not_mem_nil⟩
  · rcases arc_cases ha with ⟨r, hr, rfl⟩ | ⟨r, hr, _, p, hp, rfl⟩ | ⟨r, hr, _, p, hp, rfl⟩
    · exact .inr (.inl (List.mem_map.mpr ⟨r, hr, rfl⟩))
    · exact absurd (hs r.n List.mem_cons_self) List.not_mem_nil
    · exact absurd (hs r.n List.mem_cons_self) List.not_mem_nil
  · rw [wsum_one_nil, List.length_nil]
    have := ok.len
    omega
  · rw [wsum_nil, List.length_map, List.filter_nil, List.length_nil]
    omega
  · rw [wsum_nil, List.length_nil]
    omega
/-- popped, but met or barred -/
theorem Inv.skip {N : NetM} {B met zs : List Int} {n : Int} {ps : List (Int × Int)} {m : Nat} (h : Inv N B met (zs ++ [n]) ps m) (hn : n ∈ met ∨ n ∈ B) : ∃ m', m' < m ∧ Inv N B met zs ps m' := by
  have e := h.me
  rw [List.length_append, List.length_singleton] at e
  have l := h.le
  refine ⟨_, ?_, ⟨h.live, h.nodup, fun y hy => h.can y (List.mem_append.mpr (.inl hy)), h.wai, fun α ha hs => ?_, h.wal, h.many, rfl, by omega, h.pl⟩⟩
  · omega
  · rcases h.all α ha hs with z | z | z
    · exact .inl z
    · rcases List.mem_append.mp z with z | z
      · exact .inr (.inl z)
      · rw [List.mem_singleton.mp z]
        rcases hn with q | q
        · exact .inl q
        · exact .inr (.inr q)
    · exact .inr (.inr z)
theorem filt_split (ps : List (Int × Int)) {met : List Int} {n : Int} (hn : n ∉ met) : (ps.filter fun p => decide (p.1 ∉ met)).length = (ps.filter fun p => decide (p.1 ∉ met ++ [n])).length + (wOf ps n).length := by
  unfold wOf
  rw [List.length_map]
  induction ps with
  | nil => rfl
  | cons p ps ih =>
    by_cases e : p.1 = n
    · rw [List.filter_cons_of_pos (by simp [e, hn]), List.filter_cons_of_neg (by simp [e]), List.filter_cons_of_pos (by simp [e]), List.length_cons, List.length_cons]
      omega
    · by_cases m : p.1 ∈ met
      · rw [List.filter_cons_of_neg (by simp [m]), List.filter_cons_of_neg (by simp [m]), List.filter_cons_of_neg (by simp [e])]
        exact ih
      · rw [List.filter_cons_of_pos (by simp [m]), List.filter_cons_of_pos (by simp [m, e]), List.filter_cons_of_neg (by simp [e]), List.length_cons, List.length_cons]
        omega
theorem waits_key {r : Row} {met : List Int} {p : Int × Int} (h : p ∈ waits r met) : r.sort = "map" ∧ p ∈ pairsOf r ∧ p.1 ∉ met := by
  unfold waits at h
  by_cases h2 : r.sort = "map"
  · rw [if_pos h2] at h
    have := List.mem_filter.mp h
    exact ⟨h2, this.1, of_decide_eq_true this.2⟩
  · rw [if_neg h2] at h
    exact absurd h List.not_mem_nil
/-- a new object is met -/
theorem Inv.step {N : NetM} {B met zs : List Int} {r : Row} {ps : List (Int × Int)} {m : Nat} (ok : OkNet N) (h : Inv N B met (zs ++ [r.n]) ps m) (hr : r ∈ N.rows) (hm : r.n ∉ met) (hB : r.n ∉ B) :
    ∃ m', m' < m ∧ Inv N B (met ++ [r.n]) (zs ++ adds r (met ++ [r.n]) ++ wOf (ps ++ waits r (met ++ [r.n])) r.n) (ps ++ waits r (met ++ [r.n])) m' := by
  have e := h.me
  rw [List.length_append, List.length_singleton] at e
  have l := h.le
  have hpl := h.pl
  have w1 := wsum_less (fun _ => 1) hr hm
  have w2 := wsum_less (fun r => (rowArcs r).length) hr hm
  have aw := adds_waits r (met ++ [r.n])
  have fs := filt_split ps hm
  have many := h.many
  have sub : ∀ {s}, s ∈ met → s ∈ met ++ [r.n] := fun q => List.mem_append.mpr (.inl q)
  have self : r.n ∈ met ++ [r.n] := List.mem_append.mpr (.inr List.mem_cons_self)
  have wn : wOf (ps ++ waits r (met ++ [r.n])) r.n = wOf ps r.n := by
    unfold wOf
    rw [List.filter_append, List.filter_eq_nil_iff (l := waits r _) |>.mpr (fun p hp q => ?_), List.append_nil]
    have := (waits_key hp).2.2
    rw [of_decide_eq_true q] at this
    exact this self
  have fw : ((ps ++ waits r (met ++ [r.n])).filter fun p => decide (p.1 ∉ met ++ [r.n])).length = (ps.filter fun p => decide (p.1 ∉ met ++ [r.n])).length + (waits r (met ++ [r.n])).length := by
    rw [List.filter_append, List.length_append, List.filter_eq_self (l := waits r _) |>.mpr (fun p hp => decide_eq_true (waits_key hp).2.2)]
  rw [wn]
  refine ⟨_, ?_, ⟨fun n hn => ?_, ?_, fun y hy => ?_, fun p hp => ?_, fun α ha hs => ?_, fun r' hr' hs hn p hp hk => ?_, ?_, rfl, ?_, ?_⟩⟩
  · rw [fw, List.length_append, List.length_append]
    try dsimp only at w2
    omega
  · rcases List.mem_append.mp hn with z | z
    · exact h.live n z
    · rw [List.mem_singleton.mp z]
      obtain ⟨α, ha, ht, hs⟩ := h.can r.n (List.mem_append.mpr (.inr List.mem_cons_self))
      rw [← ht]
      exact .mk (List.mem_filter.mpr ⟨ha, decide_eq_true (by rw [ht]; exact hB)⟩) fun s q => h.live s (hs s q)
  · rw [List.nodup_append]
    refine ⟨h.nodup, by simp, fun a ha b hb q => ?_⟩
    rw [List.mem_singleton.mp hb] at q
    rw [q] at ha
    exact hm ha
  · rcases List.mem_append.mp hy with z | z
    · rcases List.mem_append.mp z with z | z
      · obtain ⟨α, ha, ht, hs⟩ := h.can y (List.mem_append.mpr (.inl z))
        exact ⟨α, ha, ht, fun s q => sub (hs s q)⟩
      · unfold adds at z
        by_cases h1 : r.sort = "record"
        · rw [if_pos h1] at z
          obtain ⟨p, hp, rfl⟩ := List.mem_map.mp z
          refine ⟨_, slot_in hr h1 hp, rfl, fun s q => ?_⟩
          rw [List.mem_singleton.mp q]
          exact self
        · rw [if_neg h1] at z
          by_cases h2 : r.sort = "map"
          · rw [if_pos h2] at z
            obtain ⟨p, hp, rfl⟩ := List.mem_map.mp z
            have hp2 := List.mem_filter.mp hp
            refine ⟨_, entry_in hr h2 hp2.1, rfl, fun s q => ?_⟩
            rcases List.mem_cons.mp q with rfl | q
            · exact self
            · rw [List.mem_singleton.mp q]
              exact of_decide_eq_true hp2.2
          · rw [if_neg h2] at z
            exact absurd z List.not_mem_nil
    · obtain ⟨α, ha, ht, hs⟩ := h.wai _ (wOf_mem.mp z)
      refine ⟨α, ha, ht, fun s q => ?_⟩
      rcases hs s q with q | q
      · exact sub q
      · rw [q]
        exact self
  · rcases List.mem_append.mp hp with z | z
    · obtain ⟨α, ha, ht, hs⟩ := h.wai p z
      exact ⟨α, ha, ht, fun s q => (hs s q).imp sub id⟩
    · obtain ⟨h2, hp2, _⟩ := waits_key z
      refine ⟨_, entry_in hr h2 hp2, rfl, fun s q => ?_⟩
      rcases List.mem_cons.mp q with rfl | q
      · exact .inl self
      · exact .inr (List.mem_singleton.mp q)
  · have old : (∀ s ∈ α.src, s ∈ met) → α.tgt ∈ met ++ [r.n] ∨ α.tgt ∈ zs ++ adds r (met ++ [r.n]) ++ wOf ps r.n ∨ α.tgt ∈ B := fun q => by
      rcases h.all α ha q with z | z | z
      · exact .inl (sub z)
      · rcases List.mem_append.mp z with z | z
        · exact .inr (.inl (List.mem_append.mpr (.inl (List.mem_append.mpr (.inl z)))))
        · exact .inl (List.mem_append.mpr (.inr z))
      · exact .inr (.inr z)
    have inA : ∀ {v}, v ∈ adds r (met ++ [r.n]) → v ∈ zs ++ adds r (met ++ [r.n]) ++ wOf ps r.n := fun q => List.mem_append.mpr (.inl (List.mem_append.mpr (.inr q)))
    rcases arc_cases ha with ⟨r', hr', rfl⟩ | ⟨r', hr', h1, p, hp, rfl⟩ | ⟨r', hr', h2, p, hp, rfl⟩
    · exact old fun s q => absurd q List.not_mem_nil
    · rcases List.mem_append.mp (hs r'.n List.mem_cons_self) with z | z
      · exact old fun s q => by
          rw [List.mem_singleton.mp q]
          exact z
      · have er := row_uniq ok.nodup hr' hr (List.mem_singleton.mp z)
        subst er
        refine .inr (.inl (inA ?_))
        unfold adds
        rw [if_pos h1]
        exact List.mem_map.mpr ⟨p, hp, rfl⟩
    · have hk := hs p.1 (List.mem_cons_of_mem _ List.mem_cons_self)
      rcases List.mem_append.mp (hs r'.n List.mem_cons_self) with z | z
      · rcases List.mem_append.mp hk with k | k
        · exact old fun s q => by
            rcases List.mem_cons.mp q with rfl | q
            · exact z
            · rw [List.mem_singleton.mp q]
              exact k
        · have k' := List.mem_singleton.mp k
          have hps := h.wal r' hr' h2 z p hp (by rw [k']; exact hm)
          refine .inr (.inl (List.mem_append.mpr (.inr (wOf_mem.mpr ?_))))
          rw [← k']
          exact hps
      · have er := row_uniq ok.nodup hr' hr (List.mem_singleton.mp z)
        subst er
        refine .inr (.inl (inA ?_))
        unfold adds
        rw [if_neg (by rw [h2]; decide +kernel), if_pos h2]
        exact List.mem_map.mpr ⟨p, List.mem_filter.mpr ⟨hp, decide_eq_true hk⟩, rfl⟩
  · rcases List.mem_append.mp hn with z | z
    · exact List.mem_append.mpr (.inl (h.wal r' hr' hs z p hp fun q => hk (sub q)))
    · have er := row_uniq ok.nodup hr' hr (List.mem_singleton.mp z)
      subst er
      refine List.mem_append.mpr (.inr ?_)
      unfold waits
      rw [if_pos hs]
      exact List.mem_filter.mpr ⟨hp, decide_eq_true hk⟩
  · rw [List.length_append, List.length_singleton]
    omega
  · rw [fw, List.length_append, List.length_append]
    try dsimp only at w2
    omega
  · rw [List.length_append]
    try dsimp only at w2
    omega
/-- when nothing is ahead any more -/
theorem Inv.done {N : NetM} {B met : List Int} {ps : List (Int × Int)} {m : Nat} (h : Inv N B met [] ps m) : ∀ n, n ∈ met ↔ Live ((netArcs N).filter fun α => decide (α.tgt ∉ B)) n := by
  intro n
  refine ⟨h.live n, fun l => ?_⟩
  refine Live.sub (S := fun n => n ∈ met) (fun α ha hs => ?_) l
  have ha2 := List.mem_filter.mp ha
  rcases h.all α ha2.1 hs with z | z | z
  · exact z
  · exact absurd z List.not_mem_nil
  · exact absurd z (of_decide_eq_true ha2.2)
end Sn
namespace L2
open PySem PySem.Spec PyProof.Rows
/-- over a list or a tuple -/
def iSeq (K : PySem.W.Frag) (tl : TE) : TI := fun σ H R => tl σ H fun x H1 => ∃ a, x = .ref a ∧ (((∃ xs, SqL K H1 a xs) ∧ R (Itl K a) H1) ∨ ((∃ xs, SqT K H1 a xs) ∧ R (Itt K a) H1))
theorem pi_seq {X : Cx} {tg l : Expr} {tl : TE} (hl : PE X l tl) : PI X tg l (iSeq X.K tl) := by
  refine ⟨fun pins s σ H R I h => ?_⟩
  refine thn (hl.run pins s σ H _ I h) fun v s1 ⟨x, H1, I1, r1, q1⟩ => ?_
  obtain ⟨a, e, q⟩ := q1
  subst e
  cases r1
  rcases q with ⟨⟨xs, hq⟩, q⟩ | ⟨⟨xs, hq⟩, q⟩
  · obtain ⟨its, rv, p, hz⟩ := I1.list hq
    refine wpAny_pyIter_list p.isList ?_
    refine ⟨s1.heap.objs.size, [s1.heap.objs.size], _, _, H1, rfl, I1.kept (t' := s1.toks) fun b o e => Heap.get?_push_of_some _ e, turn_list a _, ⟨_, Heap.get?_push_size _ rfl, rfl, rfl⟩, fun b hb => ?_, q⟩
    have e : b = s1.heap.objs.size := by simpa using hb
    subst e
    exact I1.fpOk (Nat.le_refl _) (I1.hok.fresh (Nat.le_refl _))
  · obtain ⟨its, rv, p, hz⟩ := I1.tuple hq
    refine wpAny_pyIter_tuple (show s1.heap.IsTuple a its.toArray from p) ?_
    refine ⟨s1.heap.objs.size, [s1.heap.objs.size], _, _, H1, rfl, I1.kept (t' := s1.toks) fun b o e => Heap.get?_push_of_some _ e, turn_tuple a _, ⟨_, Heap.get?_push_size _ rfl, rfl, rfl⟩, fun b hb => ?_, q⟩
    have e : b = s1.heap.objs.size := by simpa using hb
    subst e
    exact I1.fpOk (Nat.le_refl _) (I1.hok.fresh (Nat.le_refl _))
/-- f(a, ..) of a def that takes any number of arguments -/
def tCallR (sp : Sp) (E : XK) (t : TA) : TE := fun σ H Q => t σ H fun vs H1 => sp vs H1 Q E
theorem pe_callR {X : Cx} {CX : CXT} {k : Nat} {f : Addr} {sp : Sp} {E : XK} {x : Str} {e : Expr} {es : List Expr} {t : TA} {p pos : Pos} (F : FnR X.prog X.w X.K X.mg X.base CX k f sp) (hr : Room k X.A) (hg : Gl X x) (hm : X.mg x = some (.ref f)) (hk : PySem.W.keepIn X.K (.ref f) = true) (hx : Passes CX X E)
    (ha : PA X (e :: es) t) (hdb : (x == ("__debug__" : Str)) = false := by decide) (he : starEach (e :: es) X.env = (false, eval e X.env) :: starEach es X.env := by rfl) (hpl : (backTo pos (starEach es X.env)).any (·.1) = false := by rfl) :
    PE X (.Call (.Name x p) (e :: es) [] pos) (tCallR sp E t) := by
  refine ⟨fun pins s σ H Q I h => ?_⟩
  refine wpAny_Call_Name_kw (ld_glob I hg hm ?_ hdb)
  refine PySem.W.callWith_K (h₀ := X.base) I.ok.mod.kin hk (thn (ha.run pos pins s σ H _ I h) fun us s1 ⟨vs, H1, I1, r, q⟩ => ⟨I1.kIn, ?_⟩) he hpl
  exact wpAny_call (run_fnR F hr hx I1 r q)
/-- over a dict that was just made: it is locked from here on -/
def iKeysL (td : TE) : TI := fun σ H R => td σ H fun x H1 => ∃ d kvs, x = .ref d ∧ H1 d = some (.dK kvs) ∧ ∀ od, R (Itk d od kvs) (upd H1 d (.frz od (.dK kvs)))
theorem pi_keysL {X : Cx} {tg e : Expr} {td : TE} (he : PE X e td) : PI X tg e (iKeysL td) := by
  refine ⟨fun pins s σ H R I h => ?_⟩
  refine thn (he.run pins s σ H _ I h) fun u s1 ⟨x, H1, I1, rx, d, kvs, ex, hd, q⟩ => ?_
  subst ex
  obtain rfl : u = Value.ref d := rx
  obtain ⟨od, I2⟩ := I1.lock hd trivial
  obtain ⟨hs, hgd, hx, es, ep, vs, hdt, hsz, kv, hm⟩ := I2.frzK upd_same
  refine iter_keys hs hgd hx hdt (pi_one (tk := s1.toks) I2 _ (turn_keys _ hdt) ⟨_, Heap.get?_push_size _ rfl, rfl, ?_⟩ (q od))
  rw [hsz] <;> rfl
/-- name = {..} on one line, the name a local -/
theorem ps_setDc {X : Cx} {i : Nat} {y : Str} {py : Pos} {kx vx tg iter : Expr} {ifs : List Expr} {scope : Scope} {own : List (Str × Nat)} {pos spos : Pos} {wi : TI} {g : TG} {tt : TT} {tk tv : TE} (hc : X.calm = true) (hN : X.N.Nodup) (hy : X.N[i]? = some y) (hyl : X.env.scope.names.lookup y = some .local)
    (hsw : swapsWith (.DictComp kx vx [⟨tg, iter, ifs, 0⟩] scope pos) (some (.Name y py)) spos.line X.env = pure true) (hi : PI X tg iter wi) (ok : BlkOk X.N X.env.scope scope own)
    (hg : ∀ (s : Shared) (H : Hp) (C : Addr) (cl : List (Str × Addr)) (fp : List Addr), PG (X.blk s H scope (compEnvC scope cl C X.env) fp) tg g) (ht : ∀ (s : Shared) (H : Hp) (C : Addr) (cl : List (Str × Addr)) (fp : List Addr), PTs (X.blk s H scope (compEnvC scope cl C X.env) fp) ifs tt)
    (hk : ∀ (s : Shared) (H : Hp) (C : Addr) (cl : List (Str × Addr)) (fp : List Addr), PE (X.blk s H scope (compEnvC scope cl C X.env) fp) kx tk)
    (he : ∀ (s : Shared) (H : Hp) (C : Addr) (cl : List (Str × Addr)) (fp : List Addr), PE (X.blk s H scope (compEnvC scope cl C X.env) fp) vx tv) (hs : ∀ x, foldedSetIterable iter X.env x = pure x := by intro _; rfl) :
    PS X (.Assign [.Name y py] (.DictComp kx vx [⟨tg, iter, ifs, 0⟩] scope pos) spos) (tAsg (tDc wi g tt tk tv (own.map (·.2))) (gName i)) := by
  refine ⟨fun pins s σ H D I h => ?_⟩
  rw [exec_Assign_Name_used _ _ _ _ hsw]
  refine wpAny_bind (wpAny_standAt (wpAny_bind ?_))
  show wpAny _ X.A (do let _ ← comprehension (.DictComp kx vx [⟨tg, iter, ifs, 0⟩] scope pos) scope X.env (firstIterPos [⟨tg, iter, ifs, 0⟩] pos) newDict false (eval iter X.env) (some (assign (.Name y py) X.env))) _ _ s
  have h : tDc wi g tt tk tv (own.map (·.2)) σ H (fun x H1 => gName i x σ H1 D.nx) := h
  refine wpAny_bind (thn (dc_core (Qf := fun _ s' => SP X pins D .next s') hc hN I hi ok hg ht hk he hs h fun L C s' m H' I' q hn f => ?_) fun _ s' hq => wpAny_pure (wpAny_pure hq))
  show wpAny _ _ (assign (.Name y py) X.env (.ref L)) _ _ _
  refine wpAny_assign_Name (store_ok2 (v := V.ref L) I' hN hy (.inl hyl) rfl (fun s2 I2 ⟨a, sb, ha⟩ => ?_) (.inr hyl))
  obtain ⟨f0, f1, f2, f3, f4, f5⟩ := f
  have haC : C ≠ a := by
    rcases ha with z | z
    · rw [z]; exact f1
    · exact fun e => f4 y a z e.symm
  refine ⟨m, hn.sameBut sb haC, fun h3 sb3 => ?_⟩
  exact ⟨_, H', I2.turned (t' := s2.toks) (fun b o hb e => (sb3.2 b hb).trans e) f0 f1 f3 f4 f5, q⟩
theorem sw_trueD {kx vx : Expr} {gs : List Comprehension} {scope : Scope} {pos py : Pos} {y : Str} {l : Nat} {env : Env} (hk : env.scope.kind = .function) (hy : env.scope.names.lookup y = some .local) (hl : (py.line == pos.line) = true)
    (ha : (scope.names.any fun (n, k) => n == y && (k == .local || k == .cell)) = false) : swapsWith (.DictComp kx vx gs scope pos) (some (.Name y py)) l env = pure true := by
  have ky : env.kindOf y = some .local := hy
  have hb : env.blockKind = .function := by unfold Env.blockKind; rw [hk]; rfl
  unfold swapsWith
  simp only [hb, ky, ha, Expr.pos, hl]
  rfl
end L2
namespace Sn
open PySem PySem.Spec PyProof.Rows L2 Evl Gd
/-! one word of a reading at a time -/
section
variable {ta tr te tb tc td ty tv : TE} {tt : TA} {ts tz : TS} {D : Ends} {g : TG} {σ : L2.St} {H : Hp} {Q : VK} {K : PySem.W.Frag}
theorem c_of {Q : List V → Hp → Prop} (h : ta σ H fun x H1 => tt σ H1 fun xs H2 => Q (x :: xs) H2) : tCons ta tt σ H Q := h
theorem tup_of (h : tt σ H fun xs H1 => xs.length ≤ sizeLine ∧ ∀ p, H1 p = none → Q (.ref p) (upd H1 p (.tup xs))) : tTup tt σ H Q := h
theorem lst_of (h : tt σ H fun xs H1 => xs.length ≤ sizeLine ∧ ∀ p, H1 p = none → Q (.ref p) (upd H1 p (.lst xs))) : tLst tt σ H Q := h
theorem n_of {Q : List V → Hp → Prop} (h : Q [] H) : tNil σ H Q := h
theorem v_of {i : Nat} {v : V} (e : σ[i]? = some (some v)) (h : Q v H) : tVar i σ H Q := ⟨v, e, h⟩
theorem k_of {v : V} (h : Q v H) : tC v σ H Q := h
theorem seq_of (h : ts { D with nx := tz D } σ H) : tSeq ts tz D σ H := h
theorem asg_of {i : Nat} (h : te σ H fun x H1 => D.nx (σ.set i (some x)) H1) : tAsg te (gName i) D σ H := h
theorem asgG_of (h : te σ H fun x H1 => g x σ H1 D.nx) : tAsg te g D σ H := h
theorem par_of {i j : Nat} (h : tt σ H fun vs H1 => ∃ v w, vs = [v, w] ∧ D.nx ((σ.set i (some v)).set j (some w)) H1) : tPar i j tt D σ H := h
theorem ret_of (h : te σ H D.rt) : tRet te D σ H := h
theorem op_of {r : R2} (h : ta σ H fun x H1 => tb σ H1 fun y H2 => r x y H2 Q) : tOp r ta tb σ H Q := h
theorem call_of {sp : Sp} {dvs : List V} {E : XK} (h : tt σ H fun vs H1 => sp (vs ++ dvs) H1 Q E) : tCall sp dvs E tt σ H Q := h
theorem callK_of {sp : Sp} {gV : List V → List V → List V} {E : XK} {tk : TA} (h : tt σ H fun vs H1 => tk σ H1 fun zs H2 => sp (gV vs zs) H2 Q E) : tCallK sp gV E tt tk σ H Q := h
theorem callR_of {sp : Sp} {E : XK} (h : tt σ H fun vs H1 => sp vs H1 Q E) : tCallR sp E tt σ H Q := h
theorem cb_of {r : List V → Hp → VK → Prop} (h : tt σ H fun vs H1 => r vs H1 Q) : tCB r tt σ H Q := h
theorem test_of {Q : Bool → Hp → Prop} (h : te σ H fun x H1 => ∃ c, x = .bl c ∧ Q c H1) : tTest te σ H Q := h
theorem if_of {b : TT} (h : b σ H fun c H1 => if c = true then ta σ H1 Q else tb σ H1 Q) : tIf b ta tb σ H Q := h
theorem ifS_of {t : TT} {ta tb : TS} (h : t σ H fun c H1 => if c = true then ta D σ H1 else tb D σ H1) : tIfS t ta tb D σ H := h
theorem and_of {t u : TT} {Q : Bool → Hp → Prop} (h : t σ H fun c H1 => if c = true then u σ H1 Q else Q false H1) : tAnd t u σ H Q := h
theorem or_of {t u : TT} {Q : Bool → Hp → Prop} (h : t σ H fun c H1 => if c = true then Q true H1 else u σ H1 Q) : tOr t u σ H Q := h
theorem not_of {te : TT} {Q : Bool → Hp → Prop} (h : te σ H fun c H1 => Q (!c) H1) : tNot te σ H Q := h
theorem andv_of (h : ta σ H fun x H1 => ∃ c, x = .bl c ∧ if c = true then tb σ H1 Q else Q (.bl false) H1) : tAndV ta tb σ H Q := h
theorem notv_of (h : ta σ H fun x H1 => ∃ c, x = .bl c ∧ Q (.bl (!c)) H1) : tNotV ta σ H Q := h
theorem put_of (h : tv σ H fun v H1 => td σ H1 fun x H2 => ty σ H2 fun y H3 => ∃ a H4, x = .ref a ∧ DPut H3 a y v H4 ∧ D.nx σ H4) : sDPut td ty tv D σ H := h
theorem newK_of (h : ∀ p, H p = none → Q (.ref p) (upd H p (.dK []))) : tDNewK σ H Q := h
theorem dget_of (h : td σ H fun x H1 => ty σ H1 fun y H2 => ∃ a v, x = .ref a ∧ DGet H2 a y (some v) ∧ Q v H2) : tDGet td ty σ H Q := h
theorem din_of (h : ty σ H fun y H1 => td σ H1 fun x H2 => ∃ a o, x = .ref a ∧ DGet H2 a y o ∧ Q (.bl o.isSome) H2) : tDIn ty td σ H Q := h
theorem notin_of (h : ty σ H fun y H1 => td σ H1 fun x H2 => ∃ a o, x = .ref a ∧ DGet H2 a y o ∧ Q (.bl (!o.isSome)) H2) : tDNotIn ty td σ H Q := h
theorem drop_of (h : te σ H fun _ H1 => D.nx σ H1) : tDrop te D σ H := h
theorem make_of {C : Addr} {sp : Sp} {dvs : List V} {E : XK} (h : tt σ H fun vs H1 => ∀ x dx, H1 x = none → H1 dx = none → dx ≠ x → sp (.ref x :: (vs ++ dvs)) (upd (upd H1 dx (.own x)) x (.ins C dx [])) (fun v H2 => v = .non ∧ Q (.ref x) H2) E) : tMake C sp dvs E tt σ H Q := h
theorem meth_of {C : Addr} {m : Str} {sp : Sp} {dvs : List V} {E : XK} (h : ta σ H fun x H1 => ∃ a dx fs, x = .ref a ∧ H1 a = some (.ins C dx fs) ∧ fs.lookup m = none ∧ tt σ H1 fun vs H2 => sp (x :: (vs ++ dvs)) H2 Q E) : tMeth C m sp dvs E ta tt σ H Q := h
theorem lc_of {wi : TI} {tt : TT} {vs : List Nat} (h : wi σ H fun J H1 => ∀ D, H1 D = none → ∃ W : Nat → Nat → Hp → Prop, (∃ m, W 0 m (upd H1 D (.lst []))) ∧ ∀ i m H, W i m H →
  (J.stop i H ∧ Q (.ref D) H) ∨ (J.go i H ∧ ∃ Nx : Hp → Prop, (∀ H', Nx H' → ∃ m', m' < m ∧ W (i + 1) m' H') ∧ ∀ x H', J.yld i H x H' → g x (wipe σ vs) H' fun σ2 H2 => wipe σ2 vs = wipe σ vs ∧ tt σ2 H2 fun b H3 =>
    if b = true then te σ2 H3 fun y H4 => ∃ acc, H4 D = some (.lst acc) ∧ acc.length < sizeLine ∧ Nx (upd H4 D (.lst (acc ++ [y]))) else Nx H3)) : tLc wi g tt te vs σ H Q := h
theorem iL_of {R : It → Hp → Prop} (h : ta σ H fun x H1 => ∃ a, x = .ref a ∧ (∃ xs, SqL K H1 a xs) ∧ R (Itl K a) H1) : iList K ta σ H R := h
theorem iT_of {R : It → Hp → Prop} (h : ta σ H fun x H1 => ∃ a, x = .ref a ∧ (∃ xs, SqT K H1 a xs) ∧ R (Itt K a) H1) : iTup K ta σ H R := h
theorem kL_of {R : It → Hp → Prop} (h : td σ H fun x H1 => ∃ d kvs, x = .ref d ∧ H1 d = some (.dK kvs) ∧ ∀ od, R (Itk d od kvs) (upd H1 d (.frz od (.dK kvs)))) : iKeysL td σ H R := h
theorem r1_of {R : It → Hp → Prop} (h : tt σ H fun vs H1 => ∃ j : Int, vs = [.int j] ∧ -(2 ^ 62) ≤ j ∧ j < 2 ^ 62 ∧ R (Itr 0 j.toNat) H1) : iRng1 tt σ H R := h
theorem rev_of (h : te σ H fun x H1 => ∃ a xs, x = .ref a ∧ SqL K H1 a xs ∧ ∀ p, H1 p = none → Q (.ref p) (upd H1 p (.lst xs.reverse))) : tRevL K te σ H Q := h
theorem for1_of (h : tt σ H fun vs H1 => ∃ j : Int, vs = [.int j] ∧ -(2 ^ 62) ≤ j ∧ j < 2 ^ 62 ∧ ∃ W : Nat → Nat → L2.St → Hp → Prop, (∃ m, W 0 m σ H1) ∧ ∀ i m σ H, W i m σ H →
      ((Itr 0 j.toNat).stop i H ∧ D.nx σ H) ∨ ((Itr 0 j.toNat).go i H ∧ ∃ N : L2.St → Hp → Prop, (∀ σ' H', N σ' H' → ∃ m', m' < m ∧ W (i + 1) m' σ' H') ∧ ∀ x H', (Itr 0 j.toNat).yld i H x H' → g x σ H' fun σ2 H2 => ts { D with nx := N, ct := N, bk := D.nx } σ2 H2)) : tFor (iRng1 tt) g ts D σ H := h
theorem forS_of (h : ta σ H fun x H1 => ∃ a, x = .ref a ∧ (((∃ xs, SqL K H1 a xs) ∧ ∃ W : Nat → Nat → L2.St → Hp → Prop, (∃ m, W 0 m σ H1) ∧ ∀ i m σ H, W i m σ H →
      ((Itl K a).stop i H ∧ D.nx σ H) ∨ ((Itl K a).go i H ∧ ∃ N : L2.St → Hp → Prop, (∀ σ' H', N σ' H' → ∃ m', m' < m ∧ W (i + 1) m' σ' H') ∧ ∀ x H', (Itl K a).yld i H x H' → g x σ H' fun σ2 H2 => ts { D with nx := N, ct := N, bk := D.nx } σ2 H2)) ∨
    ((∃ xs, SqT K H1 a xs) ∧ ∃ W : Nat → Nat → L2.St → Hp → Prop, (∃ m, W 0 m σ H1) ∧ ∀ i m σ H, W i m σ H →
      ((Itt K a).stop i H ∧ D.nx σ H) ∨ ((Itt K a).go i H ∧ ∃ N : L2.St → Hp → Prop, (∀ σ' H', N σ' H' → ∃ m', m' < m ∧ W (i + 1) m' σ' H') ∧ ∀ x H', (Itt K a).yld i H x H' → g x σ H' fun σ2 H2 => ts { D with nx := N, ct := N, bk := D.nx } σ2 H2)))) : tFor (iSeq K ta) g ts D σ H := h
theorem ifE_yes {t : TT} (h : ∀ k : Bool → Hp → Prop, k true H → t σ H k) (q : ta σ H Q) : tIf t ta tb σ H Q := h _ (by
  show if true = true then ta σ H Q else tb σ H Q
  rw [if_pos rfl]
  exact q)
theorem ifE_no {t : TT} (h : ∀ k : Bool → Hp → Prop, k false H → t σ H k) (q : tb σ H Q) : tIf t ta tb σ H Q := h _ (by
  show if false = true then ta σ H Q else tb σ H Q
  rw [if_neg Bool.false_ne_true]
  exact q)
theorem seq_join (I : L2.St → Hp → Prop) (h1 : (∀ σ' H', I σ' H' → tz D σ' H') → tSeq ts tz D σ H) (h2 : ∀ σ' H', I σ' H' → tz D σ' H') : tSeq ts tz D σ H := h1 h2
end
/-! small facts of lists -/
theorem take_one {α : Type} {l : List α} {i : Nat} {x : α} (h : l[i]? = some x) : l.take (i + 1) = l.take i ++ [x] := by
  rw [List.take_add_one, h]
  rfl
theorem take_snoc {α β : Type} {l : List α} {i : Nat} {x : α} (f : α → β) (h : l[i]? = some x) : (l.take (i + 1)).map f = (l.take i).map f ++ [f x] := by
  rw [List.take_add_one, h, List.map_append]
  rfl
theorem map_at {α β : Type} {f : α → β} {l : List α} {i : Nat} {y : β} (h : (l.map f)[i]? = some y) : ∃ x, l[i]? = some x ∧ y = f x := by
  rw [List.getElem?_map] at h
  cases e : l[i]? with
  | none =>
    rw [e] at h
    cases h
  | some x =>
    rw [e] at h
    exact ⟨x, rfl, (Option.some.inj h).symm⟩
theorem at_map {l : List Int} {i : Nat} {x : V} (h : (l.map V.int)[i]? = some x) : ∃ k, l[i]? = some k ∧ x = .int k := map_at h
theorem filterMap_snoc {α β : Type} {l : List α} {i : Nat} {x : α} (f : α → Option β) (h : l[i]? = some x) : (l.take (i + 1)).filterMap f = (l.take i).filterMap f ++ (f x).toList := by
  rw [List.take_add_one, h, List.filterMap_append]
  show _ ++ List.filterMap f [x] = _
  cases e : f x with
  | none => rw [List.filterMap_cons_none e] <;> rfl
  | some y => rw [List.filterMap_cons_some e] <;> rfl
theorem flatMap_snoc {α β : Type} {l : List α} {i : Nat} {x : α} (f : α → List β) (h : l[i]? = some x) : (l.take (i + 1)).flatMap f = (l.take i).flatMap f ++ f x := by
  rw [List.take_add_one, h, List.flatMap_append]
  show _ ++ List.flatMap f [x] = _
  rw [List.flatMap_cons, List.flatMap_nil, List.append_nil]
theorem TdAll.last {K : PySem.W.Frag} {H : Hp} : ∀ {ys : List V} {ds : List PyData} {d : PyData}, TdAll K H ys (ds ++ [d]) → ∃ zs y, ys = zs ++ [y] ∧ TdAll K H zs ds ∧ Td K H y d
  | _, [], _, h => by
    obtain ⟨y, ys, rfl, h1, h2⟩ := TdAll.inv_cons h
    rw [h2.inv_nil]
    exact ⟨[], y, rfl, .nil, h1⟩
  | _, e :: ds, d, h => by
    obtain ⟨y, ys, rfl, h1, h2⟩ := TdAll.inv_cons h
    obtain ⟨zs, z, rfl, h3, h4⟩ := TdAll.last h2
    exact ⟨y :: zs, z, rfl, .cons h1 h3, h4⟩
theorem snoc_of {α : Type} : ∀ {l : List α}, l ≠ [] → ∃ m x, l = m ++ [x]
  | [], h => absurd rfl h
  | [x], _ => ⟨[], x, rfl⟩
  | x :: y :: l, _ => by
    obtain ⟨m, z, e⟩ := snoc_of (l := y :: l) (by simp)
    exact ⟨x :: m, z, by rw [e]; rfl⟩
theorem strict_of {ns : List Int} (h : ns.Pairwise (· ≤ ·)) (nd : ns.Nodup) : ns.Pairwise (· < ·) := by
  refine List.Pairwise.imp₂ (fun a b h1 h2 => ?_) h nd
  have h3 : a ≠ b := h2
  omega
/-- strictly ascending lists of the same ints are the same -/
theorem asc_uniq : ∀ {a b : List Int}, a.Pairwise (· < ·) → b.Pairwise (· < ·) → (∀ n, n ∈ a ↔ n ∈ b) → a = b
  | [], [], _, _, _ => rfl
  | [], y :: b, _, _, h => absurd ((h y).mpr List.mem_cons_self) List.not_mem_nil
  | x :: a, [], _, _, h => absurd ((h x).mp List.mem_cons_self) List.not_mem_nil
  | x :: a, y :: b, ha, hb, h => by
    have h1 := List.pairwise_cons.mp ha
    have h2 := List.pairwise_cons.mp hb
    have e : x = y := by
      rcases List.mem_cons.mp ((h x).mp List.mem_cons_self) with e | m
      · exact e
      · rcases List.mem_cons.mp ((h y).mpr List.mem_cons_self) with e | m2
        · exact e.symm
        · have := h2.1 x m
          have := h1.1 y m2
          omega
    subst e
    rw [asc_uniq h1.2 h2.2 fun n => ?_]
    constructor
    · intro m
      rcases List.mem_cons.mp ((h n).mp (List.mem_cons_of_mem _ m)) with e | m2
      · have := h1.1 n m
        omega
      · exact m2
    · intro m
      rcases List.mem_cons.mp ((h n).mpr (List.mem_cons_of_mem _ m)) with e | m2
      · have := h2.1 n m
        omega
      · exact m2
theorem same_of {A : Int → Prop} {a b : List Int} (ha : a.Pairwise (· < ·)) (hb : b.Pairwise (· < ·)) (ia : ∀ n, n ∈ a ↔ A n) (ib : ∀ n, n ∈ b ↔ A n) : a = b := asc_uniq ha hb fun n => (ia n).trans (ib n).symm
theorem thing_src {t : Thing} {α : Arc} (h : α ∈ thingArcs t) : α.src.length ≤ 2 := by
  unfold thingArcs at h
  split at h
  · obtain ⟨p, _, e⟩ := List.mem_filterMap.mp h
    unfold slotArc at e
    split at e
    · cases e
      exact (show 1 ≤ 2 by decide)
    · cases e
  · split at h
    · obtain ⟨p, _, e⟩ := List.mem_filterMap.mp h
      unfold entryArc at e
      split at e
      · cases e
        exact Nat.le_refl 2
      · cases e
    · cases h
theorem arcs_src {s : Shot} {α : Arc} (h : α ∈ arcsOf s) : α.src.length ≤ 2 := by
  rcases List.mem_append.mp h with h | h
  · obtain ⟨r, _, rfl⟩ := List.mem_map.mp h
    exact (show 0 ≤ 2 by decide)
  · obtain ⟨t, _, ht⟩ := List.mem_flatMap.mp h
    exact thing_src ht
/-! dicts of True -/
abbrev kTrue (met : List Int) : List (Key × V) := met.map fun n => (Sum.inl n, V.bl true)
theorem val_kTrue (n : Int) : ∀ met : List Int, (valV (kTrue met) (.inl n)).isSome = decide (n ∈ met)
  | [] => by simp [valV]
  | m :: met => by
    by_cases e : m = n
    · subst e
      show (valV ((Sum.inl m, V.bl true) :: kTrue met) (.inl m)).isSome = _
      rw [valV_pos rfl]
      simp
    · show (valV ((Sum.inl m, V.bl true) :: kTrue met) (.inl n)).isSome = _
      rw [valV_neg (fun q => e (Sum.inl.inj q)), val_kTrue n met]
      have : ¬ n = m := fun q => e q.symm
      simp [this]
theorem put_kTrue {n : Int} {met : List Int} (h : n ∉ met) : putK (kTrue met) (.inl n) (.bl true) = kTrue (met ++ [n]) := by
  have e : valV (kTrue met) (.inl n) = none := by
    have := val_kTrue n met
    rw [decide_eq_false h] at this
    cases q : valV (kTrue met) (.inl n) with
    | none => rfl
    | some v =>
      rw [q] at this
      cases this
  rw [putK_new _ e]
  show _ = (met ++ [n]).map _
  rw [List.map_append]
  rfl
def insT (met : List Int) (n : Int) : List Int := if n ∈ met then met else met ++ [n]
theorem put_ins (met : List Int) (n : Int) : putK (kTrue met) (.inl n) (.bl true) = kTrue (insT met n) := by
  unfold insT
  by_cases h : n ∈ met
  · rw [if_pos h]
    have e : (valV (kTrue met) (.inl n)).isSome = true := by
      rw [val_kTrue]
      exact decide_eq_true h
    unfold putK
    rw [valV_any, if_pos e]
    show (met.map fun n => ((Sum.inl n : Key), V.bl true)).map _ = _
    rw [List.map_map]
    refine List.map_congr_left fun m _ => ?_
    show (if (Sum.inl m : Key) = Sum.inl n then ((Sum.inl m : Key), V.bl true) else (Sum.inl m, V.bl true)) = _
    split <;> rfl
  · rw [if_neg h]
    exact put_kTrue h
theorem insT_mem {met : List Int} {n m : Int} : m ∈ insT met n ↔ m ∈ met ∨ m = n := by
  unfold insT
  by_cases h : n ∈ met
  · rw [if_pos h]
    constructor
    · exact .inl
    · rintro (q | q)
      · exact q
      · rw [q]
        exact h
  · rw [if_neg h, List.mem_append, List.mem_singleton]
theorem insT_nodup {met : List Int} {n : Int} (nd : met.Nodup) : (insT met n).Nodup := by
  unfold insT
  by_cases h : n ∈ met
  · rw [if_pos h]
    exact nd
  · rw [if_neg h, List.nodup_append]
    refine ⟨nd, by simp, fun a ha b hb e => ?_⟩
    rw [List.mem_singleton.mp hb] at e
    rw [e] at ha
    exact h ha
theorem insT_pre (met : List Int) (n : Int) : met <+: insT met n := by
  unfold insT
  split
  · exact List.prefix_refl _
  · exact List.prefix_append _ _
theorem insT_len (met : List Int) (n : Int) : (insT met n).length ≤ met.length + 1 := by
  unfold insT
  split
  · omega
  · rw [List.length_append, List.length_singleton]
    omega
/-! a list or a tuple -/
def SqA (K : PySem.W.Frag) (H : Hp) (a : Addr) (xs : List V) : Prop := SqL K H a xs ∨ SqT K H a xs
theorem SqA.ex {K : PySem.W.Frag} {H H' : Hp} {a : Addr} {xs : List V} (h : SqA K H a xs) (e : Ex H H') : SqA K H' a xs := h.imp (ex_l e) (ex_t e)
/-- over what is there from the beginning and stays -/
theorem for_seqA {K : PySem.W.Frag} {ta : TE} {g : TG} {tb : TS} {D : Ends} {σ : L2.St} {H0 H : Hp} {a : Addr} {xs : List V} (hq : SqA K H0 a xs) (Pv : Nat → L2.St → Hp → Prop) (hv : ∀ Q : VK, Q (.ref a) H → ta σ H Q) (h0 : Pv 0 σ H) (hl : ∀ i σ H, Pv i σ H → Ex H0 H)
    (hs : ∀ i x σ H, xs[i]? = some x → Pv i σ H → g x σ H fun σ2 H2 => tb { D with nx := Pv (i + 1), ct := Pv (i + 1), bk := D.nx } σ2 H2) (hd : ∀ σ H, Pv xs.length σ H → D.nx σ H) : tFor (iSeq K ta) g tb D σ H := by
  refine forS_of (hv _ ⟨a, rfl, ?_⟩)
  rcases hq with hq | hq
  · exact .inl ⟨⟨xs, ex_l (hl _ _ _ h0) hq⟩, for_list (K := K) (a := a) (xs := xs) Pv h0 (fun i σ H _ p => ex_l (hl _ _ _ p) hq) hs hd⟩
  · exact .inr ⟨⟨xs, ex_t (hl _ _ _ h0) hq⟩, for_tup (K := K) (a := a) (xs := xs) Pv h0 (fun i σ H _ p => ex_t (hl _ _ _ p) hq) hs hd⟩
theorem lc_seqA {K : PySem.W.Frag} {ta te : TE} {g : TG} {tt : TT} {vs : List Nat} {σ : L2.St} {H0 H : Hp} {a : Addr} {xs : List V} {Q : VK} (hq : SqA K H0 a xs) (e0 : Ex H0 H) (hv : ∀ Q : VK, Q (.ref a) H → ta σ H Q)
    (k : ∀ D, H D = none → ∃ Pv : Nat → Hp → Prop, Pv 0 (upd H D (.lst [])) ∧ (∀ i H, Pv i H → Ex H0 H) ∧
      (∀ i x H, xs[i]? = some x → Pv i H → g x (wipe σ vs) H fun σ2 H2 => wipe σ2 vs = wipe σ vs ∧ tt σ2 H2 fun b H3 => if b = true then te σ2 H3 fun y H4 => ∃ acc, H4 D = some (.lst acc) ∧ acc.length < sizeLine ∧ Pv (i + 1) (upd H4 D (.lst (acc ++ [y]))) else Pv (i + 1) H3) ∧
      ∀ H, Pv xs.length H → Q (.ref D) H) : tLc (iSeq K ta) g tt te vs σ H Q := by
  refine lc_of (hv _ ⟨a, rfl, ?_⟩)
  rcases hq with hq | hq
  · refine .inl ⟨⟨xs, ex_l e0 hq⟩, fun D hD => ?_⟩
    obtain ⟨Pv, h0, hl, hs, hd⟩ := k D hD
    exact lc_list (K := K) (a := a) (xs := xs) Pv h0 (fun i H _ p => ex_l (hl _ _ p) hq) hs hd
  · refine .inr ⟨⟨xs, ex_t e0 hq⟩, fun D hD => ?_⟩
    obtain ⟨Pv, h0, hl, hs, hd⟩ := k D hD
    exact lc_tup (K := K) (a := a) (xs := xs) Pv h0 (fun i H _ p => ex_t (hl _ _ p) hq) hs hd
end Sn
namespace Sn
open PySem PySem.Spec PyProof.Rows L2 Evl Gd
def topS (i : Nat) : Stmt := PySem.Challenge.pw_crossheaps_k53_whole_what_dies_with_obje.main.body.getD i (.Pass ⟨0, 0, 0, 0⟩)
/-- a def of the top: where it stands, how it is called -/
structure Df (K : PySem.W.Frag) (mg : Str → Option Value) (x : Str) (st : Stmt) (ps : List Str) (f : Addr) (fd : FuncData) : Prop where
  F : Fun K x x st f fd
  b : Binds K fd ps []
  g : mg x = some (.ref f)
/-- a method -/
structure Mf (K : PySem.W.Frag) (C : Addr) (m q : Str) (st : Stmt) (ps : List Str) (f : Addr) (fd : FuncData) : Prop where
  F : Fun K m q st f fd
  b : Binds K fd ps []
  m : Meth K C m f
abbrev sNInit : Stmt := inClass (topS 7) 0
abbrev sNetOf : Stmt := topS 8
abbrev nNInit : List Str := ["self", "roots", "rows"]
abbrev nNetOf : List Str := ["snapshot", "roots", "objects", "rows", "number", "_", "sort", "parts", "part"]
theorem scNInit : FnScope nNInit ["self", "roots", "rows"] (defScope sNInit) := ⟨rfl, rfl, rfl, by decide +kernel, rfl, by decide +kernel, by decide +kernel⟩
theorem scNetOf : FnScope nNetOf ["snapshot"] (defScope sNetOf) := ⟨rfl, rfl, rfl, by decide +kernel, rfl, by decide +kernel, by decide +kernel⟩
theorem rows_nr : ¬ (("rows" : Str) = "roots") := by decide +kernel
theorem roots_nr : ¬ (("roots" : Str) = "rows") := by decide +kernel
def nf (r d : V) : List (Str × V) := putF "rows" d (putF "roots" r [])
theorem nf_rows (r d : V) : (nf r d).lookup ("rows" : Str) = some d := by
  unfold nf
  rw [lookup_putF, if_pos rfl]
theorem nf_roots (r d : V) : (nf r d).lookup ("roots" : Str) = some r := by
  unfold nf
  rw [lookup_putF, if_neg roots_nr, lookup_putF, if_pos rfl]
theorem nf_no (r d : V) {x : Str} (h1 : ¬ x = "rows") (h2 : ¬ x = "roots") : (nf r d).lookup x = none := by
  unfold nf
  rw [lookup_putF, if_neg h1, lookup_putF, if_neg h2]
  rfl
structure Txt (K : PySem.W.Frag) (mg : Str → Option Value) (C : Addr) : Prop where
  cl : Cls K C
  nR : NoAttr K C "roots"
  nW : NoAttr K C "rows"
  mgC : mg "Net" = some (.ref C)
/-- (sort, parts) of a row -/
def RowAt (K : PySem.W.Frag) (H : Hp) (v : V) (r : Row) : Prop := ∃ t pa ps, v = .ref t ∧ SqT K H t [.str r.sort, .ref pa] ∧ SqA K H pa ps ∧ TdAll K H ps (r.parts.map dPart)
/-- the dict of rows -/
def RowsAt (K : PySem.W.Frag) (H : Hp) (kvs : List (Key × V)) (rs : List Row) : Prop := kvs.map (·.1) = rs.map (fun r => (Sum.inl r.n : Key)) ∧ ∀ r ∈ rs, ∃ v, valV kvs (.inl r.n) = some v ∧ RowAt K H v r
/-- a Net as it lies there -/
def NetAt (K : PySem.W.Frag) (C : Addr) (H : Hp) (p : Addr) (N : NetM) : Prop := ∃ dx ra rs d kvs, H p = some (.ins C dx (nf (.ref ra) (.ref d))) ∧ SqA K H ra rs ∧ TdAll K H rs (N.roots.map dRoot) ∧ H d = some (.dK kvs) ∧ RowsAt K H kvs N.rows
theorem RowAt.keep {K : PySem.W.Frag} {H H' : Hp} {v : V} {r : Row} {d : Addr} {kvs : List (Key × V)} (hd : H d = some (.dK kvs)) (e : ∀ a o, a ≠ d → H a = some o → H' a = some o) (h : RowAt K H v r) : RowAt K H' v r := by
  obtain ⟨t, pa, ps, rfl, h1, h2, h3⟩ := h
  have kt : KeepT K H H' := .off hd ⟨(fun _ z => nomatch z), (fun _ _ z => nomatch z)⟩ e
  refine ⟨t, pa, ps, rfl, kt _ _ h1, ?_, h3.keep kt⟩
  rcases h2 with h | h
  · refine .inl ?_
    rcases h with (h | ⟨o, h⟩) | h
    · exact .inl (.inl (e _ _ (ne_of h hd (fun z => nomatch z)) h))
    · exact .inl (.inr ⟨o, e _ _ (ne_of h hd (fun z => nomatch z)) h⟩)
    · exact .inr h
  · exact .inr (kt _ _ h)
theorem RowAt.ex {K : PySem.W.Frag} {H H' : Hp} {v : V} {r : Row} (e : Ex H H') (h : RowAt K H v r) : RowAt K H' v r := by
  obtain ⟨t, pa, ps, rfl, h1, h2, h3⟩ := h
  exact ⟨t, pa, ps, rfl, ex_t e h1, h2.ex e, h3.ex e⟩
theorem RowsAt.ex {K : PySem.W.Frag} {H H' : Hp} {kvs : List (Key × V)} {rs : List Row} (e : Ex H H') (h : RowsAt K H kvs rs) : RowsAt K H' kvs rs := ⟨h.1, fun r hr => by
  obtain ⟨v, h1, h2⟩ := h.2 r hr
  exact ⟨v, h1, h2.ex e⟩⟩
theorem NetAt.ex {K : PySem.W.Frag} {C : Addr} {H H' : Hp} {p : Addr} {N : NetM} (e : Ex H H') (h : NetAt K C H p N) : NetAt K C H' p N := by
  obtain ⟨dx, ra, rs, d, kvs, h1, h2, h3, h4, h5⟩ := h
  exact ⟨dx, ra, rs, d, kvs, e _ _ h1, h2.ex e, h3.ex e, e _ _ h4, h5.ex e⟩
theorem key_none {kvs : List (Key × V)} {k : Key} (h : k ∉ kvs.map (·.1)) : valV kvs k = none := by
  induction kvs with
  | nil => rfl
  | cons x r ih =>
    rw [List.map_cons] at h
    obtain ⟨a, b⟩ := x
    rw [valV_neg (fun q : a = k => h (by rw [← q]; exact List.mem_cons_self))]
    exact ih fun m => h (List.mem_cons_of_mem _ m)
/-- a row more -/
theorem RowsAt.add {K : PySem.W.Frag} {H H' : Hp} {d : Addr} {kvs : List (Key × V)} {rs : List Row} {v : V} {r : Row} (h : RowsAt K H kvs rs) (hd : H d = some (.dK kvs)) (e : ∀ a o, a ≠ d → H a = some o → H' a = some o) (hr : RowAt K H v r) (new : r.n ∉ rs.map Row.n) :
    RowsAt K H' (putK kvs (.inl r.n) v) (rs ++ [r]) := by
  have nk : valV kvs (.inl r.n) = none := key_none (by
    rw [h.1]
    intro m
    obtain ⟨r', hr', q⟩ := List.mem_map.mp m
    exact new (List.mem_map.mpr ⟨r', hr', Sum.inl.inj q⟩))
  refine ⟨?_, fun r' hr' => ?_⟩
  · rw [putK_new _ nk, List.map_append, List.map_append, h.1]
    rfl
  · rw [valV_put]
    rcases List.mem_append.mp hr' with m | m
    · have ne : r'.n ≠ r.n := fun q => new (List.mem_map.mpr ⟨r', m, q⟩)
      rw [if_neg (fun q => ne (Sum.inl.inj q))]
      obtain ⟨u, h1, h2⟩ := h.2 r' m
      exact ⟨u, h1, h2.keep hd e⟩
    · rw [List.mem_singleton.mp m, if_pos rfl]
      exact ⟨v, rfl, hr.keep hd e⟩
def spNInit (C : Addr) : Sp := fun vs H Q _ => ∃ p dx r d, vs = [.ref p, r, d] ∧ H p = some (.ins C dx []) ∧ ∀ H', (∀ a o, a ≠ p → H a = some o → H' a = some o) → H' p = some (.ins C dx (nf r d)) → Q .non H'
abbrev okShot (s : Shot) : Prop := (∀ t ∈ s.things, OkThing t) ∧ (∀ t ∈ s.things, t.parts.length ≤ 1000) ∧ OkNet (netM s)
theorem pairs_ex : ∀ {l : List Part}, (∀ p ∈ l, ∃ k v, p = .pair k (some v)) → ∃ ps : List (Int × Int), l = ps.map fun p => .pair p.1 (some p.2)
  | [], _ => ⟨[], rfl⟩
  | p :: l, h => by
    obtain ⟨ps, e⟩ := pairs_ex fun q hq => h q (List.mem_cons_of_mem _ hq)
    obtain ⟨k, v, rfl⟩ := h p List.mem_cons_self
    exact ⟨(k, v) :: ps, by rw [e]; rfl⟩
theorem row_ok {t : Thing} (h : OkThing t) : OkRow (rowOf t) := by
  rcases h with ⟨a, b⟩ | ⟨a, b⟩ | ⟨a, b⟩
  · refine .inl ⟨a, ?_⟩
    obtain ⟨ps, e⟩ := pairs_ex b
    refine ⟨ps, ?_⟩
    unfold rowOf
    rw [← e]
    exact if_neg (by rw [a]; decide +kernel)
  · refine .inr (.inl ⟨a, ?_⟩)
    have eP : (rowOf t).parts = t.parts.filter isVal := by
      unfold rowOf
      exact if_pos a
    rw [eP]
    refine pairs_ex fun p hp => ?_
    have hp2 := List.mem_filter.mp hp
    obtain ⟨k, v, rfl⟩ := b p hp2.1
    cases v with
    | none => exact absurd hp2.2 Bool.false_ne_true
    | some v => exact ⟨k, v, rfl⟩
  · exact .inr (.inr a)
theorem rows_n (s : Shot) : (netM s).rows.map Row.n = s.things.map Thing.n := by
  unfold netM
  rw [List.map_map]
  rfl
theorem ok_shot_of {s : Shot} (h : ∀ t ∈ s.things, OkThing t) (pl : ∀ t ∈ s.things, t.parts.length ≤ 1000) (nd : (s.things.map Thing.n).Nodup) (tg : ∀ α ∈ arcsOf s, α.tgt ∈ s.things.map Thing.n) (al : (arcsOf s).length ≤ 1000) (tl : s.things.length ≤ 1000) : okShot s := by
  refine ⟨h, pl, ⟨fun r hr => ?_, by rw [rows_n]; exact nd, fun α ha => ?_, by rw [net_arcs]; exact al, ?_⟩⟩
  · obtain ⟨t, ht, rfl⟩ := List.mem_map.mp hr
    exact row_ok (h t ht)
  · rw [net_arcs] at ha
    rw [rows_n]
    exact tg α ha
  · unfold netM
    rw [List.length_map]
    exact tl
theorem okShot.arcs {s : Shot} (h : okShot s) : (arcsOf s).length ≤ 1000 := by
  have := h.2.2.many
  rw [net_arcs] at this
  exact this
theorem okShot.rts {s : Shot} (h : okShot s) : s.roots.length ≤ 1000 := by
  have := h.arcs
  unfold arcsOf at this
  rw [List.length_append, List.length_map] at this
  omega
theorem okShot.tgts {s : Shot} (h : okShot s) {α : Arc} (m : α ∈ arcsOf s) : α.tgt ∈ s.things.map Thing.n := by
  have := h.2.2.there α (by rw [net_arcs]; exact m)
  rw [rows_n] at this
  exact this
theorem okShot.nodup {s : Shot} (h : okShot s) : (s.things.map Thing.n).Nodup := by
  have := h.2.2.nodup
  rw [rows_n] at this
  exact this
theorem okShot.tlen {s : Shot} (h : okShot s) : s.things.length ≤ 1000 := by
  have := h.2.2.len
  unfold netM at this
  rw [List.length_map] at this
  exact this
def spNetOf (K : PySem.W.Frag) (C : Addr) : Sp := fun vs H Q _ => ∃ (x : V) (s : Shot), vs = [x] ∧ Td K H x (dShot s) ∧ okShot s ∧
  ∀ (H' : Hp) (p : Addr), Ex H H' → NetAt K C H' p (netM s) → Q (.ref p) H'
section
variable {P : Program} {w : World} {K : PySem.W.Frag} {mg : Str → Option Value} {base : Heap}
theorem ok_ninit {f C : Addr} {fd : FuncData} (F : Fun K "__init__" "Net.__init__" sNInit f fd) (T : Txt K mg C) : FnOk P w K mg base CX0 1 f fd ["self", "roots", "rows"] (spNInit C) := by
  refine F.ok scNInit (fun vs H Q E h => ?_) (fun cdv A outer s H vs Q E hr h => ?_)
  · obtain ⟨p, dx, r, d, rfl, _⟩ := h
    rfl
  · obtain ⟨p, dx, r, d, rfl, hp, q⟩ := h
    refine ⟨_, pss_cons (ps_fld (pv 0) (pv 1) rfl) (pss_one (ps_fld (pv 0) (pv 2) rfl)), ?_⟩
    refine ⟨r, rfl, .ref p, rfl, p, C, dx, [], rfl, hp, T.cl, T.nR, (by show 0 < 1000; decide), ?_⟩
    refine ⟨d, rfl, .ref p, rfl, p, C, dx, _, rfl, upd_same, T.cl, T.nW, (by show 1 < 1000; decide), ?_⟩
    refine q _ (fun a o n h => ?_) upd_same
    rw [upd_ne n, upd_ne n]
    exact h
/-- the def's class and its __init__ -/
structure NetD (P : Program) (w : World) (K : PySem.W.Frag) (mg : Str → Option Value) (base : Heap) (C : Addr) : Prop where
  T : Txt K mg C
  ex : ∃ (fI : Addr) (fdI : FuncData), Mk K C fI ∧ FnOk P w K mg base CX0 1 fI fdI ["self", "roots", "rows"] (spNInit C) ∧ Binds K fdI ["self", "roots", "rows"] []
theorem thing_row {s : Shot} (ok : okShot s) {t : Thing} (h : t ∈ s.things) : OkRow (rowOf t) := ok.2.2.rows _ (List.mem_map.mpr ⟨t, h, rfl⟩)
theorem ok_netof {f C : Addr} {fd : FuncData} (F : Fun K "net_of" "net_of" sNetOf f fd) (N : NetD P w K mg base C) : FnOk P w K mg base CX0 3 f fd ["snapshot"] (spNetOf K C) := by
  obtain ⟨T, fI, fdI, MK, GI, bI⟩ := N
  refine F.ok scNetOf (fun vs H Q E h => ?_) (fun cdv A outer s H vs Q E hr h => ?_)
  · obtain ⟨x, s, rfl, _⟩ := h
    rfl
  · obtain ⟨x, s, rfl, ht, ok, q⟩ := h
    have hu := hu_of hr
    refine ⟨_, pss_cons (ps_asg (pv 0) (pg_tup (n := 2) rfl (pgs_cons (pg_name (i := 1) scNetOf.nd rfl (.inl rfl)) (pgs_cons (pg_name (i := 2) scNetOf.nd rfl (.inl rfl)) pgs_nil))))
      (pss_cons (ps_set (i := 3) scNetOf.nd rfl (.inl rfl) pe_dnewK)
      (pss_cons (ps_for PassesOwn.never rfl (pi_tup (pv 2)) (pg_tup (n := 4) rfl (pgs_cons (pg_name (i := 4) scNetOf.nd rfl (.inl rfl)) (pgs_cons (pg_name (i := 5) scNetOf.nd rfl (.inl rfl)) (pgs_cons (pg_name (i := 6) scNetOf.nd rfl (.inl rfl)) (pgs_cons (pg_name (i := 7) scNetOf.nd rfl (.inl rfl)) pgs_nil)))))
        (pss_cons (ps_if (pt_cmpR op_eq (pv 6) pe_str (nomark _))
          (pss_one (ps_setLc (i := 7) (own := [("part", 8)]) (g := gName 8) (tt := tTest (tOp (fun x y H Q => y = .non ∧ Q (.bl (!decide (x = .non))) H) (tOp (rIxT K) (tVar 8) (tC (.int 1))) (tC .non))) (te := tVar 8) rfl scNetOf.nd rfl rfl (sw_true rfl rfl rfl (by decide +kernel)) (pi_tup (pv 7)) (blkOk_by (N := nNetOf) (sc := defScope sNetOf) (by decide +kernel))
            (fun _ _ _ _ _ => pg_name (i := 8) scNetOf.nd rfl (.inl rfl)) (fun _ _ _ _ _ => pts_one (pt_cmpR op_notN (pe_ix ix_tup (pv 8) pe_int (fun _ _ => rfl)) pe_non (nomark _))) (fun _ _ _ _ _ => pv 8))) pss_nil)
        (pss_one (ps_dput hu (pv 3) (pv 4) (pe_tup (pa_cons (pv 6) (pa_cons (pv 7) pa_nil))) rfl))))
      (pss_one (ps_ret (pe_make MK GI hr rfl T.mgC bI .nil pass0 (pa_cons (pv 1) (pa_cons (pv 3) pa_nil))))))), ?_⟩
    obtain ⟨p, xr, xo, rfl, sp, tr, to⟩ := Td.inv2 ht
    obtain ⟨pr, rs, rfl, spr, tr⟩ := tr.inv_tup
    obtain ⟨po, os, rfl, spo, to⟩ := to.inv_tup
    refine ⟨.ref p, rfl, p, _, rfl, sp, rfl, .ref pr, _, rfl, .ref po, _, rfl, rfl, ?_⟩
    dsimp only [gName]
    refine seq_of (asg_of (newK_of fun D hD => ?_))
    have e1 : Ex H (upd H D (.dK [])) := Ex.new hD
    have h1 : (upd H D (.dK [])) D = some (.dK []) := upd_same
    generalize upd H D (.dK []) = H1 at e1 h1 ⊢
    dsimp only
    have nod : (s.things.map Thing.n).Nodup := by
      have := ok.2.2.nodup
      unfold netM at this
      rw [List.map_map] at this
      exact this
    have tlen : s.things.length ≤ 1000 := by
      have := ok.2.2.len
      unfold netM at this
      rw [List.length_map] at this
      exact this
    refine ⟨.ref po, rfl, po, rfl, ⟨_, ex_t e1 spo⟩, for_tup (xs := os) (fun i σ' Hc => ∃ y4 y5 y6 y7, σ' = [some (.ref p), some (.ref pr), some (.ref po), some (.ref D), y4, y5, y6, y7, none] ∧ Ex H Hc ∧ ∃ kvs, Hc D = some (.dK kvs) ∧ RowsAt K Hc kvs ((s.things.take i).map rowOf))
      ⟨none, none, none, none, rfl, e1, [], h1, rfl, fun r hr => absurd hr List.not_mem_nil⟩ (fun i σ' Hc _ ⟨_, _, _, _, _, e, _⟩ => ex_t e spo) ?_ ?_⟩
    · rintro i x σ' Hc hx ⟨y4, y5, y6, y7, rfl, e, kvs, hk, hR⟩
      obtain ⟨δ, hδ, hT⟩ := to.get hx
      obtain ⟨t, ht1, rfl⟩ := map_at hδ
      have tm : t ∈ s.things := List.mem_of_getElem? ht1
      obtain ⟨a, v1, v2, v3, v4, rfl, s1, t1, t2, t3, t4⟩ := Td.inv4 hT
      rw [t1.inv_int, t2.inv_str, t3.inv_str] at s1
      obtain ⟨pp, ps, rfl, s2, tp⟩ := t4.inv_tup
      refine ⟨a, _, rfl, ex_t e s1, rfl, .int t.n, _, rfl, .str t.home, _, rfl, .str t.sort, _, rfl, .ref pp, _, rfl, rfl, ?_⟩
      dsimp only [gName]
      have ilt : i < s.things.length := (List.getElem?_eq_some_iff.mp ht1).1
      have kl : kvs.length ≤ i := by
        have := congrArg List.length hR.1
        rw [List.length_map, List.length_map, List.length_map, List.length_take] at this
        omega
      have new : t.n ∉ ((s.things.take i).map rowOf).map Row.n := fun m => by
        rw [List.map_map] at m
        obtain ⟨u, hu1, hu2⟩ := List.mem_map.mp m
        obtain ⟨j, hj⟩ := List.mem_iff_getElem?.mp hu1
        have jl : j < i := by
          have := (List.getElem?_eq_some_iff.mp hj).1
          rw [List.length_take] at this
          omega
        rw [List.getElem?_take_of_lt jl] at hj
        have a1 : (s.things.map Thing.n)[j]? = some t.n := by
          rw [List.getElem?_map, hj]
          exact congrArg some hu2
        have a2 : (s.things.map Thing.n)[i]? = some t.n := by
          rw [List.getElem?_map, ht1]
          rfl
        have := (List.getElem?_inj (by rw [List.length_map]; omega) nod).mp (a1.trans a2.symm)
        omega
      refine seq_join (fun σ' Hd => ∃ pa zs, σ' = [some (.ref p), some (.ref pr), some (.ref po), some (.ref D), some (.int t.n), some (.str t.home), some (.str t.sort), some (.ref pa), none] ∧ Ex Hc Hd ∧ SqA K Hd pa zs ∧ TdAll K Hd zs ((rowOf t).parts.map dPart)) (fun tail => seq_of ?_) ?_
      · refine ⟨.str t.sort, rfl, rfl, _, rfl, ?_⟩
        dsimp only
        by_cases hm : t.sort = "map"
        · rw [decide_eq_true (by rw [hm]), if_pos rfl]
          have eP : (rowOf t).parts = t.parts.filter isVal := by
            unfold rowOf
            exact if_pos hm
          refine ⟨.ref pp, rfl, pp, rfl, ⟨_, ex_t e s2⟩, fun L hL => lc_tup (xs := ps) (fun j Hd => Ex Hc Hd ∧ ∃ zs, Hd L = some (.lst zs) ∧ zs.length ≤ j ∧ TdAll K Hd zs (((t.parts.take j).filter isVal).map dPart)) ⟨Ex.new hL, [], upd_same, Nat.le_refl _, .nil⟩ (fun j Hd _ h => ex_t (e.trans h.1) s2) ?_ ?_⟩
          · rintro j x Hd hx ⟨e2, zs, h2, zl, tz⟩
            obtain ⟨δ, hδ, hT⟩ := tp.get hx
            obtain ⟨q, hq, rfl⟩ := map_at hδ
            have jl : j < ps.length := (List.getElem?_eq_some_iff.mp hx).1
            have pl : t.parts.length ≤ 1000 := ok.2.1 t tm
            have psl := tp.len
            rw [List.length_map] at psl
            obtain ⟨k, v, rfl⟩ : ∃ k v, q = .pair k v := by
              rcases ok.1 t tm with ⟨z, _⟩ | ⟨_, z⟩ | ⟨z, _⟩
              · rw [hm] at z
                exact absurd z (by decide +kernel)
              · exact z q (List.mem_of_getElem? hq)
              · rw [hm] at z
                exact absurd z (by decide +kernel)
            obtain ⟨b, w1, w2, rfl, s3, u1, u2⟩ := Td.inv2 hT
            refine ⟨rfl, ?_⟩
            refine test_of (op_of (op_of (v_of rfl (k_of ⟨b, _, 1, _, rfl, rfl, ex_t (e.trans e2) s3, atI_nat (j := 1) rfl, k_of ⟨rfl, _, rfl, ?_⟩⟩))))
            have kD : ∀ {o}, KeepT K Hd (upd Hd L (.lst o)) := fun {o} => .lst h2 fun a u n h => by
              rw [upd_ne n]
              exact h
            cases v with
            | none =>
              rw [Td.inv_non u2]
              rw [decide_eq_true rfl, if_neg (by decide)]
              refine ⟨e2, zs, h2, by omega, ?_⟩
              rw [take_one hq, List.filter_append, List.filter_cons_of_neg (show ¬ (isVal (Part.pair k none) = true) from Bool.false_ne_true), List.filter_nil, List.append_nil]
              exact tz
            | some v =>
              rw [Td.inv_int u2]
              rw [if_pos (show (!decide (V.int v = V.non)) = true from by simp)]
              refine v_of rfl ⟨zs, h2, sz_lt (by omega), Ex.mut e2 hL, _, upd_same, by rw [List.length_append, List.length_singleton]; omega, ?_⟩
              rw [take_one hq, List.filter_append, List.filter_cons_of_pos rfl, List.filter_nil, List.map_append]
              exact (tz.snoc (hT.ex (e.trans e2))).keep kD
          · rintro Hd ⟨e2, zs, h2, zl, tz⟩
            have psl := tp.len
            rw [List.length_map] at psl
            rw [psl, List.take_length] at tz
            refine tail _ _ ⟨L, zs, rfl, e2, .inl (sq_of h2), ?_⟩
            rw [eP]
            exact tz
        · rw [decide_eq_false (fun q => hm (V.str.inj q)), if_neg Bool.false_ne_true]
          refine tail _ _ ⟨pp, ps, rfl, Ex.refl _, .inr (ex_t e s2), ?_⟩
          have eP : (rowOf t).parts = t.parts := by
            unfold rowOf
            exact if_neg hm
          rw [eP]
          exact tp.ex e
      · rintro σ' Hd ⟨pa, zs, rfl, e2, hz, tz⟩
        refine put_of (tup_of (c_of (v_of rfl (c_of (v_of rfl (n_of ⟨by show 2 ≤ sizeLine; decide, fun T hT0 => ?_⟩))))))
        have e3 : Ex Hd (upd Hd T (.tup [.str t.sort, .ref pa])) := Ex.new hT0
        have hT1 : (upd Hd T (.tup [.str t.sort, .ref pa])) T = some (.tup [.str t.sort, .ref pa]) := upd_same
        generalize upd Hd T (.tup [.str t.sort, .ref pa]) = He at e3 hT1 ⊢
        have hk' := e3 _ _ (e2 _ _ hk)
        refine v_of rfl (v_of rfl ⟨D, _, rfl, DPut.k (k := Sum.inl t.n) hk' (sz_lt (by omega)), _, _, _, _, rfl, Ex.mut ((e.trans e2).trans e3) hD, _, upd_same, ?_⟩)
        rw [take_one ht1, List.map_append]
        have hrow : RowAt K He (.ref T) (rowOf t) := ⟨T, pa, zs, rfl, st_of hT1, hz.ex e3, tz.ex e3⟩
        exact RowsAt.add (r := rowOf t) (v := .ref T) (H' := upd He D (.dK (putK kvs (.inl t.n) (.ref T)))) (hR.ex (e2.trans e3)) hk' (fun a o n h => by
          rw [upd_ne n]
          exact h) hrow new
    · rintro σ' Hc ⟨y4, y5, y6, y7, rfl, e, kvs, hk, hR⟩
      have lts := to.len
      rw [List.length_map] at lts
      rw [lts, List.take_length] at hR
      dsimp only
      refine ret_of (make_of (c_of (v_of rfl (c_of (v_of rfl (n_of ?_))))))
      intro p' dx hp hdx ndp
      have hp2 : (upd Hc dx (.own p')) p' = none := by
        rw [upd_ne ndp.symm]
        exact hp
      have x0 : Ex Hc (upd (upd Hc dx (.own p')) p' (.ins C dx [])) := (Ex.new hdx).trans (Ex.new hp2)
      refine ⟨p', dx, .ref pr, .ref D, rfl, upd_same, fun H' ke hp' => ⟨rfl, ?_⟩⟩
      have x1 : Ex Hc H' := fun a o h => ke a o (ne_of_none h hp) (x0 a o h)
      exact q H' p' (e.trans x1) ⟨dx, pr, rs, D, kvs, hp', .inr (ex_t (e.trans x1) spr), tr.ex (e.trans x1), x1 _ _ hk, hR.ex x1⟩
end
end Sn
namespace Sn
open PySem PySem.Spec PyProof.Rows L2 Evl Gd
abbrev sMet : Stmt := inClass (topS 7) 1
abbrev nMet : List Str := ["self", "barred", "found", "waiting", "ahead", "number", "sort", "parts", "key", "other", "_"]
theorem scMet : FnScope nMet ["self", "barred"] (defScope sMet) := ⟨rfl, rfl, rfl, by decide +kernel, rfl, by decide +kernel, by decide +kernel⟩
/-- the dict of what waits: for each number the places, in a list of its own -/
def WaitAt (S : Addr → Prop) (H : Hp) (d : Addr) (W : Int → List Int) (b : Nat) : Prop := ∃ kvs : List (Key × V), H d = some (.dK kvs) ∧ S d ∧ kvs.length ≤ b ∧
  (∀ n, (valV kvs (.inl n) = none ∧ W n = []) ∨ ∃ q, valV kvs (.inl n) = some (.ref q) ∧ S q ∧ H q = some (.lst ((W n).map V.int))) ∧
  (∀ n m q, valV kvs (.inl n) = some (.ref q) → valV kvs (.inl m) = some (.ref q) → n = m)
theorem WaitAt.frame {S : Addr → Prop} {H H' : Hp} {d : Addr} {W : Int → List Int} {b : Nat} (h : WaitAt S H d W b) (k : ∀ a o, S a → H a = some o → H' a = some o) : WaitAt S H' d W b := by
  obtain ⟨kvs, h1, h2, h3, h4, h5⟩ := h
  refine ⟨kvs, k _ _ h2 h1, h2, h3, fun n => ?_, h5⟩
  rcases h4 n with h | ⟨q, e1, e2, e3⟩
  · exact .inl h
  · exact .inr ⟨q, e1, e2, k _ _ e2 e3⟩
theorem wOf_map (ps : List (Int × Int)) (n m i : Int) : ((wOf (ps ++ [(n, i)]) m).map V.int) = ((wOf ps m).map V.int) ++ (if n = m then [V.int i] else []) := by
  rw [wOf_snoc, List.map_append]
  by_cases h : n = m
  · rw [if_pos h, if_pos h]
    rfl
  · rw [if_neg h, if_neg h]
    rfl
/-- a place more in a list that is there -/
theorem WaitAt.old {S : Addr → Prop} {H H' : Hp} {d q : Addr} {ps : List (Int × Int)} {b : Nat} {i n : Int} {kvs : List (Key × V)} (h : WaitAt S H d (wOf ps) b) (hd : H d = some (.dK kvs)) (hv : valV kvs (.inl n) = some (.ref q))
    (k : ∀ a o, S a → a ≠ q → H a = some o → H' a = some o) (hq : H' q = some (.lst (((wOf ps n).map V.int) ++ [V.int i]))) : WaitAt S H' d (wOf (ps ++ [(n, i)])) (b + 1) := by
  obtain ⟨kvs', h1, h2, h3, h4, h5⟩ := h
  rw [hd] at h1
  cases h1
  have qd : d ≠ q := fun e => by
    rcases h4 n with ⟨z, _⟩ | ⟨q', e1, e2, e3⟩
    · rw [hv] at z
      cases z
    · rw [hv] at e1
      cases e1
      rw [← e, hd] at e3
      cases e3
  refine ⟨kvs, k _ _ h2 qd hd, h2, by omega, fun m => ?_, h5⟩
  by_cases e : n = m
  · subst e
    refine .inr ⟨q, hv, ?_, ?_⟩
    · rcases h4 n with ⟨z, _⟩ | ⟨q', e1, e2, e3⟩
      · rw [hv] at z
        cases z
      · rw [hv] at e1
        cases e1
        exact e2
    · rw [wOf_map, if_pos rfl]
      exact hq
  · rcases h4 m with ⟨z1, z2⟩ | ⟨q', e1, e2, e3⟩
    · refine .inl ⟨z1, ?_⟩
      rw [wOf_snoc, if_neg e, z2]
      rfl
    · have nq : q' ≠ q := fun z => by
        subst z
        exact e (h5 n m q' hv e1)
      refine .inr ⟨q', e1, e2, ?_⟩
      rw [wOf_map, if_neg e, List.append_nil]
      exact k _ _ e2 nq e3
/-- a number more -/
theorem WaitAt.new {S : Addr → Prop} {H H' : Hp} {d z : Addr} {ps : List (Int × Int)} {b : Nat} {i n : Int} {kvs : List (Key × V)} (h : WaitAt S H d (wOf ps) b) (hd : H d = some (.dK kvs)) (hv : valV kvs (.inl n) = none) (hz : H z = none) (sz : S z)
    (k : ∀ a o, S a → a ≠ d → H a = some o → H' a = some o) (h1 : H' d = some (.dK (putK kvs (.inl n) (.ref z)))) (h2 : H' z = some (.lst [V.int i])) : WaitAt S H' d (wOf (ps ++ [(n, i)])) (b + 1) := by
  obtain ⟨kvs', h1', h2', h3, h4, h5⟩ := h
  rw [hd] at h1'
  cases h1'
  have wn : wOf ps n = [] := by
    rcases h4 n with ⟨_, e⟩ | ⟨q, e1, _⟩
    · exact e
    · rw [hv] at e1
      cases e1
  refine ⟨_, h1, h2', by have := length_putK kvs (.inl n) (.ref z); omega, fun m => ?_, fun a c q ha hc => ?_⟩
  · rw [valV_put]
    by_cases e : n = m
    · subst e
      rw [if_pos rfl]
      refine .inr ⟨z, rfl, sz, ?_⟩
      rw [wOf_map, if_pos rfl, wn]
      exact h2
    · rw [if_neg (fun x => e (Sum.inl.inj x).symm)]
      rcases h4 m with ⟨z1, z2⟩ | ⟨q', e1, e2, e3⟩
      · refine .inl ⟨z1, ?_⟩
        rw [wOf_snoc, if_neg e, z2]
        rfl
      · refine .inr ⟨q', e1, e2, ?_⟩
        rw [wOf_map, if_neg e, List.append_nil]
        exact k _ _ e2 (ne_of e3 hd (fun x => nomatch x)) e3
  · have key : ∀ x : Int, valV (putK kvs (.inl n) (.ref z)) (.inl x) = some (.ref q) → (x = n ∧ q = z) ∨ (x ≠ n ∧ q ≠ z ∧ valV kvs (.inl x) = some (.ref q)) := by
      intro x hx
      rw [valV_put] at hx
      by_cases e : x = n
      · rw [if_pos (by rw [e])] at hx
        cases hx
        exact .inl ⟨e, rfl⟩
      · rw [if_neg (fun y => e (Sum.inl.inj y))] at hx
        refine .inr ⟨e, fun y => ?_, hx⟩
        subst y
        rcases h4 x with ⟨z1, _⟩ | ⟨q', e1, e2, e3⟩
        · rw [hx] at z1
          cases z1
        · rw [hx] at e1
          cases e1
          rw [hz] at e3
          cases e3
    rcases key a ha with ⟨a1, a2⟩ | ⟨a1, a2, a3⟩
    · rcases key c hc with ⟨c1, c2⟩ | ⟨c1, c2, c3⟩
      · rw [a1, c1]
      · exact absurd a2 c2
    · rcases key c hc with ⟨c1, c2⟩ | ⟨c1, c2, c3⟩
      · exact absurd c2 a2
      · exact h5 a c q a3 c3
/-- what met has made so far: found at F, waiting at W, ahead at A -/
structure Sm (H H' : Hp) (F W A : Addr) (met ys : List Int) (ps : List (Int × Int)) : Prop where
  ex : Ex H H'
  f : H' F = some (.dK (kTrue met))
  a : H' A = some (.lst (ys.map V.int))
  w : WaitAt (fun q => H q = none ∧ q ≠ F ∧ q ≠ A) H' W (wOf ps) ps.length
  hF : H F = none
  hA : H A = none
  ne : F ≠ A
theorem Sm.ext {H H' H2 : Hp} {F W A : Addr} {met ys : List Int} {ps : List (Int × Int)} (h : Sm H H' F W A met ys ps) (e : Ex H' H2) : Sm H H2 F W A met ys ps :=
  ⟨h.ex.trans e, e _ _ h.f, e _ _ h.a, h.w.frame fun a o _ q => e a o q, h.hF, h.hA, h.ne⟩
theorem Sm.setA {H H' : Hp} {F W A : Addr} {met ys : List Int} {ps : List (Int × Int)} (h : Sm H H' F W A met ys ps) (zs : List Int) : Sm H (upd H' A (.lst (zs.map V.int))) F W A met zs ps :=
  ⟨Ex.mut h.ex h.hA, by rw [upd_ne h.ne]; exact h.f, upd_same, h.w.frame fun a o s q => by rw [upd_ne s.2.2]; exact q, h.hF, h.hA, h.ne⟩
theorem Sm.setF {H H' : Hp} {F W A : Addr} {met ys : List Int} {ps : List (Int × Int)} (h : Sm H H' F W A met ys ps) (ms : List Int) : Sm H (upd H' F (.dK (kTrue ms))) F W A ms ys ps :=
  ⟨Ex.mut h.ex h.hF, upd_same, by rw [upd_ne h.ne.symm]; exact h.a, h.w.frame fun a o s q => by rw [upd_ne s.2.1]; exact q, h.hF, h.hA, h.ne⟩
def spMet (K : PySem.W.Frag) (C : Addr) : Sp := fun vs H Q _ => ∃ (p b : Addr) (N : NetM) (bs : List (Key × V)) (B : List Int), vs = [.ref p, .ref b] ∧ NetAt K C H p N ∧ OkNet N ∧ H b = some (.dK bs) ∧ (∀ n, (valV bs (.inl n)).isSome = decide (n ∈ B)) ∧
  ∀ (H' : Hp) (q : Addr) (met : List Int), Ex H H' → H q = none → H' q = some (.dK (kTrue met)) → met.Nodup → (∀ n, n ∈ met ↔ Live ((netArcs N).filter fun α => decide (α.tgt ∉ B)) n) → met.length ≤ 1000 → Q (.ref q) H'
section
variable {P : Program} {w : World} {K : PySem.W.Frag} {mg : Str → Option Value} {base : Heap}
theorem ok_met {f C : Addr} {fd : FuncData} (F : Fun K "met" "Net.met" sMet f fd) (T : Txt K mg C) (mL : mg "len" = none) : FnOk P w K mg base CX0 1 f fd ["self", "barred"] (spMet K C) := by
  refine F.ok scMet (fun vs H Q E h => ?_) (fun cdv A outer s H vs Q E hr h => ?_)
  · obtain ⟨p, b, N, bs, B, rfl, _⟩ := h
    rfl
  · obtain ⟨p, b, N, bs, B, rfl, hN, ok, hb, hB, q⟩ := h
    have hu := hu_of hr
    refine ⟨_, pss_cons (ps_set (i := 2) scMet.nd rfl (.inl rfl) pe_dnewK) <|
      pss_cons (ps_set (i := 3) scMet.nd rfl (.inl rfl) pe_dnewK) <|
      pss_cons (ps_setLc (i := 4) (own := [("_", 10), ("number", 5)]) (g := gTup K 2 (gCons (gName 10) (gCons (gName 5) gNil))) (tt := tYes) (te := tVar 5) rfl scMet.nd rfl rfl (sw_true rfl rfl rfl (by decide +kernel)) (pi_seq (pe_fld (pv 0) rfl)) (blkOk_by (N := nMet) (sc := defScope sMet) (by decide +kernel))
          (fun _ _ _ _ _ => pg_tup rfl (pgs_cons (pg_name (i := 10) scMet.nd rfl (.inl rfl)) (pgs_cons (pg_name (i := 5) scMet.nd rfl (.inl rfl)) pgs_nil))) (fun _ _ _ _ _ => pts_nil) (fun _ _ _ _ _ => pv 5)) <|
      pss_cons (ps_while PassesOwn.never (pt_cmpR op_gt (pe_callB call_len_seq (by rfl) mL PySem.boot_len (pa_cons (pv 4) pa_nil)) pe_int (nomark _)) <|
        pss_cons (ps_set (i := 5) scMet.nd rfl (.inl rfl) (pe_bm0 PySem.F.plainAttrs_list PySem.F.slot_list_pop PySem.F.type_list_pop mt_pop (pv 4))) <|
        pss_cons (ps_if (pw_or (pt_cmp (pc_din hu (pv 5) (pv 2))) (pw_or1 (pt_cmp (pc_din hu (pv 5) (pv 1))))).pt (pss_one ps_continue) pss_nil) <|
        pss_cons (ps_dput hu (pv 2) (pv 5) pe_bl rfl) <|
        pss_cons (ps_asg (pe_dget hu (pe_fld (pv 0) rfl) (pv 5) (fun _ _ => rfl)) (pg_tup (n := 2) rfl (pgs_cons (pg_name (i := 6) scMet.nd rfl (.inl rfl)) (pgs_cons (pg_name (i := 7) scMet.nd rfl (.inl rfl)) pgs_nil)))) <|
        pss_cons (ps_if (pt_cmpR op_eq (pv 6) pe_str (nomark _))
          (pss_one (ps_expr (pe_bm PySem.F.plainAttrs_list PySem.F.slot_list_extend PySem.F.type_list_extend mt_extend (pv 4) (pa_cons (pe_lc (own := [("_", 10), ("other", 9)]) (g := gTup K 2 (gCons (gName 10) (gCons (gName 9) gNil))) (tt := tYes) (te := tVar 9) rfl scMet.nd (pi_seq (pv 7)) (blkOk_by (N := nMet) (sc := defScope sMet) (by decide +kernel))
            (fun _ _ _ _ _ => pg_tup rfl (pgs_cons (pg_name (i := 10) scMet.nd rfl (.inl rfl)) (pgs_cons (pg_name (i := 9) scMet.nd rfl (.inl rfl)) pgs_nil))) (fun _ _ _ _ _ => pts_nil) (fun _ _ _ _ _ => pv 9)) pa_nil))))
          (pss_one (ps_if (pt_cmpR op_eq (pv 6) pe_str (nomark _))
            (pss_one (ps_for PassesOwn.never rfl (pi_seq (pv 7)) (pg_tup (n := 2) rfl (pgs_cons (pg_name (i := 8) scMet.nd rfl (.inl rfl)) (pgs_cons (pg_name (i := 9) scMet.nd rfl (.inl rfl)) pgs_nil)))
              (pss_one (ps_if (pt_cmp (pc_din hu (pv 8) (pv 2)))
                (pss_one (ps_expr (pe_bm PySem.F.plainAttrs_list PySem.F.slot_list_append PySem.F.type_list_append mt_append (pv 4) (pa_cons (pv 9) pa_nil))))
                (pss_one (ps_expr (pe_bm PySem.F.plainAttrs_list PySem.F.slot_list_append PySem.F.type_list_append mt_append (pe_dsetd (pv 3) (pv 8) (pe_lst pa_nil) ⟨rfl, rfl, rfl, rfl⟩) (pa_cons (pv 9) pa_nil))))))))
            pss_nil))) <|
        pss_one (ps_if (pt_cmp (pc_din hu (pv 5) (pv 3))) (pss_one (ps_expr (pe_bm PySem.F.plainAttrs_list PySem.F.slot_list_extend PySem.F.type_list_extend mt_extend (pv 4) (pa_cons (pe_dget hu (pv 3) (pv 5) (fun _ _ => rfl)) pa_nil)))) pss_nil)) <|
      pss_one (ps_ret (pv 2)), ?_⟩
    obtain ⟨dx, ra, rs, d, kvs, hp, hra, tra, hd, hR⟩ := id hN
    refine seq_of (asg_of (newK_of fun F hF => ?_))
    have e1 : Ex H (upd H F (.dK [])) := Ex.new hF
    have f1 : (upd H F (.dK [])) F = some (.dK []) := upd_same
    generalize upd H F (.dK []) = H1 at e1 f1 ⊢
    dsimp only
    refine seq_of (asg_of (newK_of fun W hW => ?_))
    have e2 : Ex H1 (upd H1 W (.dK [])) := Ex.new hW
    have w2 : (upd H1 W (.dK [])) W = some (.dK []) := upd_same
    generalize upd H1 W (.dK []) = H2 at e2 w2 ⊢
    have e12 := e1.trans e2
    dsimp only
    refine seq_of (asg_of (lc_seqA (K := K) (H0 := H) (a := ra) (xs := rs) hra e12 (fun Q h => ⟨.ref p, rfl, p, C, dx, _, _, rfl, e12 _ _ hp, T.cl, T.nR, nf_roots _ _, h⟩) fun A hA =>
      ⟨fun i H' => Ex H2 H' ∧ H' A = some (.lst (((N.roots.take i).map (·.2)).map V.int)), ⟨Ex.new hA, upd_same⟩, fun i H' h => e12.trans h.1, ?_, ?_⟩))
    · rintro i x H' hx ⟨e3, h3⟩
      obtain ⟨δ, hδ, hT⟩ := tra.get hx
      obtain ⟨r, hr1, rfl⟩ := map_at hδ
      obtain ⟨t, y, z, rfl, s1, s2, s3⟩ := Td.inv2 hT
      rw [s2.inv_str, s3.inv_int] at s1
      have rl : N.roots.length ≤ 1000 := by
        have := ok.many
        unfold netArcs at this
        rw [List.length_append, List.length_map] at this
        omega
      refine ⟨t, _, rfl, ex_t (e12.trans e3) s1, rfl, .str r.1, _, rfl, .int r.2, _, rfl, rfl, rfl, ?_⟩
      dsimp only [tYes]
      rw [if_pos rfl]
      refine v_of rfl ⟨_, h3, sz_lt (by rw [List.length_map, List.length_map, List.length_take]; omega), Ex.mut e3 hA, ?_⟩
      rw [upd_same, take_one hr1, List.map_append, List.map_append]
      rfl
    · rintro H3 ⟨e3, h3⟩
      have lrs := tra.len
      rw [List.length_map] at lrs
      rw [lrs, List.take_length] at h3
      have hF0 := hF
      have hW0 : H W = none := fresh_back e1 hW
      have hA0 : H A = none := fresh_back e12 hA
      have nFW : F ≠ W := ne_of_none f1 hW
      have nFA : F ≠ A := ne_of_none (e2 _ _ f1) hA
      have nWA : W ≠ A := ne_of_none w2 hA
      obtain ⟨m0, inv0⟩ := Inv.start (B := B) ok
      have w0 : Sm H H3 F W A [] (N.roots.map (·.2)) [] := ⟨e12.trans e3, e3 _ _ (e2 _ _ f1), h3, ⟨[], e3 _ _ w2, ⟨hW0, nFW.symm, nWA⟩, Nat.le_refl _, fun n => .inl ⟨rfl, rfl⟩, fun n m q h => nomatch h⟩, hF0, hA0, nFA⟩
      dsimp only
      refine seq_of ⟨fun m σ' H' => ∃ y5 y6 y7 y8 y9 met ys ps, σ' = [some (.ref p), some (.ref b), some (.ref F), some (.ref W), some (.ref A), y5, y6, y7, y8, y9, none] ∧ Sm H H' F W A met ys ps ∧ Inv N B met ys ps m, ⟨m0, _, _, _, _, _, _, _, _, rfl, w0, inv0⟩, ?_⟩
      rintro m σ' H' ⟨y5, y6, y7, y8, y9, met, ys, ps, rfl, h, inv⟩
      refine ⟨.ref A, rfl, A, _, rfl, .inl (sq_of h.a), _, _, rfl, rfl, _, rfl, ?_⟩
      by_cases nb : ys = []
      · subst nb
        dsimp only
        rw [show decide (((([] : List Int).map V.int).length : Nat) > (0 : Int)) = false from rfl, if_neg Bool.false_ne_true]
        have ml : met.length ≤ 1000 := by
          have := inv.many
          omega
        exact ret_of (v_of rfl (q H' F met h.ex hF0 h.f inv.nodup inv.done ml))
      · obtain ⟨zs, n, rfl⟩ := snoc_of nb
        have ed : decide (((((zs ++ [n]).map V.int).length : Nat) : Int) > 0) = true := decide_eq_true (by rw [List.length_map, List.length_append, List.length_singleton]; omega)
        dsimp only
        rw [ed, if_pos rfl]
        refine ⟨fun σ2 H2 => ∃ m', m' < m ∧ ∃ y5 y6 y7 y8 y9 met ys ps, σ2 = [some (.ref p), some (.ref b), some (.ref F), some (.ref W), some (.ref A), y5, y6, y7, y8, y9, none] ∧ Sm H H2 F W A met ys ps ∧ Inv N B met ys ps m', fun σ2 H2 hN => hN, ?_⟩
        have hlast : ((zs ++ [n]).map V.int)[((zs ++ [n]).map V.int).length - 1]? = some (.int n) := by
          rw [List.map_append, List.length_append, List.length_map]
          show (zs.map V.int ++ [V.int n])[zs.length + 1 - 1]? = _
          rw [Nat.add_sub_cancel, List.getElem?_append_right (by rw [List.length_map]; exact Nat.le_refl _), List.length_map, Nat.sub_self]
          rfl
        refine seq_of (asg_of ⟨.ref A, rfl, .inl ⟨rfl, _, sq_of h.a⟩, A, _, .int n, rfl, rfl, h.a, hlast, ?_⟩)
        have edl : ((zs ++ [n]).map V.int).dropLast = zs.map V.int := by
          rw [List.map_append]
          exact List.dropLast_concat
        rw [edl]
        have h4 := h.setA zs
        generalize upd H' A (.lst (zs.map V.int)) = H4 at h4 ⊢
        dsimp only
        have mle := inv.le
        refine seq_of (ifS_of (or_of (test_of (din_of (v_of rfl (v_of rfl ⟨F, _, rfl, DGet.k (k := Sum.inl n) h4.f, _, rfl, ?_⟩))))))
        rw [val_kTrue]
        by_cases hm : n ∈ met
        · obtain ⟨m', l, i'⟩ := inv.skip (.inl hm)
          rw [decide_eq_true hm, if_pos rfl, if_pos rfl]
          exact ⟨m', l, _, _, _, _, _, met, zs, ps, rfl, h4, i'⟩
        · rw [decide_eq_false hm, if_neg Bool.false_ne_true]
          refine test_of (din_of (v_of rfl (v_of rfl ⟨b, _, rfl, DGet.k (k := Sum.inl n) (h4.ex _ _ hb), _, rfl, ?_⟩)))
          rw [hB]
          by_cases hnB : n ∈ B
          · obtain ⟨m', l, i'⟩ := inv.skip (.inr hnB)
            rw [decide_eq_true hnB, if_pos rfl]
            exact ⟨m', l, _, _, _, _, _, met, zs, ps, rfl, h4, i'⟩
          · rw [decide_eq_false hnB, if_neg Bool.false_ne_true]
            dsimp only
            obtain ⟨α, hα, rfl, _⟩ := inv.can n (List.mem_append.mpr (.inr List.mem_cons_self))
            obtain ⟨r, hr1, er⟩ := List.mem_map.mp (ok.there α hα)
            rw [← er] at hm hnB inv ⊢
            obtain ⟨m', l, i'⟩ := inv.step ok hr1 hm hnB
            have mlen : met.length ≤ 1000 := by
              have := inv.many
              omega
            refine seq_of (put_of (k_of (v_of rfl (v_of rfl ⟨F, _, rfl, DPut.k (k := Sum.inl r.n) h4.f (sz_lt (by rw [List.length_map]; omega)), ?_⟩))))
            rw [put_kTrue hm]
            have h5 := h4.setF (met ++ [r.n])
            generalize upd H4 F (.dK (kTrue (met ++ [r.n]))) = H5 at h5 ⊢
            obtain ⟨v, hv, t, pa, xs, rfl, s1, s2, s3⟩ := hR.2 r hr1
            dsimp only
            refine seq_of (asgG_of (dget_of ⟨.ref p, rfl, p, C, dx, _, _, rfl, h5.ex _ _ hp, T.cl, T.nW, nf_rows _ _, v_of rfl ⟨d, .ref t, rfl, (by rw [← hv]; exact DGet.k (k := Sum.inl r.n) (h5.ex _ _ hd)), ?_⟩⟩))
            refine ⟨t, _, rfl, ex_t h5.ex s1, rfl, .str r.sort, _, rfl, .ref pa, _, rfl, rfl, ?_⟩
            dsimp only [gName]
            have me' := i'.me
            have le' := i'.le
            have pl' := i'.pl
            rw [List.length_append, List.length_append] at me'
            rw [List.length_append] at pl'
            have aw := adds_waits r (met ++ [r.n])
            refine seq_join (fun σ' Hd => ∃ y8 y9, σ' = [some (.ref p), some (.ref b), some (.ref F), some (.ref W), some (.ref A), some (.int r.n), some (.str r.sort), some (.ref pa), y8, y9, none] ∧ Sm H Hd F W A (met ++ [r.n]) (zs ++ adds r (met ++ [r.n])) (ps ++ waits r (met ++ [r.n]))) (fun tail => seq_of ?_) ?_
            · rcases ok.rows r hr1 with ⟨srt, prs, epr⟩ | ⟨srt, prs, epr⟩ | srt
              · have ea : adds r (met ++ [r.n]) = prs.map (·.2) := by
                  unfold adds
                  rw [if_pos srt, pairs_of epr]
                have ew : waits r (met ++ [r.n]) = [] := by
                  unfold waits
                  rw [if_neg (by rw [srt]; decide +kernel)]
                rw [ea, List.length_map] at me'
                rw [ea, ew, List.append_nil] at tail
                rw [epr, List.map_map] at s3
                rw [srt] at tail ⊢
                refine ⟨_, rfl, rfl, _, rfl, ?_⟩
                dsimp only
                rw [decide_eq_true rfl, if_pos rfl]
                refine ⟨.ref A, rfl, .inl ⟨rfl, _, sq_of h5.a⟩, c_of (lc_seqA (K := K) (H0 := H) (a := pa) (xs := xs) s2 h5.ex (fun Q h => ⟨_, rfl, h⟩) fun D hD =>
                  ⟨fun i H' => Ex H5 H' ∧ H' D = some (.lst (((prs.take i).map (·.2)).map V.int)), ⟨Ex.new hD, upd_same⟩, fun i H' h => h5.ex.trans h.1, ?_, ?_⟩)⟩
                · rintro i x H' hx ⟨e6, h6⟩
                  obtain ⟨δ, hδ, hT⟩ := s3.get hx
                  obtain ⟨pq, hpq, rfl⟩ := map_at hδ
                  obtain ⟨b1, w1, w2, rfl, s4, u1, u2⟩ := Td.inv2 hT
                  rw [u1.inv_int, Td.inv_int u2] at s4
                  have il : i < prs.length := (List.getElem?_eq_some_iff.mp hpq).1
                  refine ⟨b1, _, rfl, ex_t (h5.ex.trans e6) s4, rfl, .int pq.1, _, rfl, .int pq.2, _, rfl, rfl, rfl, ?_⟩
                  dsimp only [tYes]
                  rw [if_pos rfl]
                  refine v_of rfl ⟨_, h6, sz_lt (by rw [List.length_map, List.length_map, List.length_take]; omega), Ex.mut e6 hD, ?_⟩
                  rw [upd_same, take_one hpq, List.map_append, List.map_append]
                  rfl
                · rintro H6 ⟨e6, h6⟩
                  have lxs := s3.len
                  rw [List.length_map] at lxs
                  rw [lxs, List.take_length] at h6
                  have h7 := h5.ext e6
                  refine n_of ⟨A, D, _, _, rfl, rfl, h7.a, h6, ?_, tail _ _ ⟨_, _, rfl, ?_⟩⟩
                  · rw [List.length_map, List.length_map, List.length_map, sizeLine_eq]
                    omega
                  · rw [← List.map_append]
                    exact h7.setA _
              · have ea : adds r (met ++ [r.n]) = (prs.filter fun p => decide (p.1 ∈ met ++ [r.n])).map (·.2) := by
                  unfold adds
                  rw [if_neg (by rw [srt]; decide +kernel), if_pos srt, pairs_of epr]
                have ew : waits r (met ++ [r.n]) = prs.filter fun p => decide (p.1 ∉ met ++ [r.n]) := by
                  unfold waits
                  rw [if_pos srt, pairs_of epr]
                have er2 : (rowArcs r).length = prs.length := by
                  unfold rowArcs
                  rw [if_neg (by rw [srt]; decide +kernel), if_pos srt, pairs_of epr, List.length_map]
                rw [ea, ew] at tail
                rw [epr, List.map_map] at s3
                rw [srt] at tail ⊢
                refine ⟨_, rfl, rfl, _, rfl, ?_⟩
                dsimp only
                rw [decide_eq_false (by decide +kernel), if_neg Bool.false_ne_true]
                refine ⟨_, rfl, rfl, _, rfl, ?_⟩
                dsimp only
                rw [decide_eq_true rfl, if_pos rfl]
                refine for_seqA (K := K) (H0 := H) (a := pa) (xs := xs) s2 (fun j σ' Hd => ∃ y8 y9, σ' = [some (.ref p), some (.ref b), some (.ref F), some (.ref W), some (.ref A), some (.int r.n), some (.str "map"), some (.ref pa), y8, y9, none] ∧ Sm H Hd F W A (met ++ [r.n]) (zs ++ ((prs.take j).filter fun p => decide (p.1 ∈ met ++ [r.n])).map (·.2)) (ps ++ (prs.take j).filter fun p => decide (p.1 ∉ met ++ [r.n])))
                  (fun Q h => ⟨_, rfl, h⟩) ⟨_, _, rfl, by simpa using h5⟩ (fun j σ' Hd ⟨_, _, _, g⟩ => g.ex) ?_ ?_
                · rintro j x σ' Hd hx ⟨y8, y9, rfl, g⟩
                  obtain ⟨δ, hδ, hT⟩ := s3.get hx
                  obtain ⟨pq, hpq, rfl⟩ := map_at hδ
                  obtain ⟨b1, w1, w2, rfl, s4, u1, u2⟩ := Td.inv2 hT
                  rw [u1.inv_int, Td.inv_int u2] at s4
                  have jl : j < prs.length := (List.getElem?_eq_some_iff.mp hpq).1
                  have z1 := List.length_filter_le (fun p : Int × Int => decide (p.1 ∈ met ++ [r.n])) (prs.take j)
                  have z2 := List.length_filter_le (fun p : Int × Int => decide (p.1 ∉ met ++ [r.n])) (prs.take j)
                  rw [List.length_take] at z1 z2
                  refine ⟨b1, _, rfl, ex_t g.ex s4, rfl, .int pq.1, _, rfl, .int pq.2, _, rfl, rfl, ?_⟩
                  dsimp only [gName]
                  refine ifS_of (test_of (din_of (v_of rfl (v_of rfl ⟨F, _, rfl, DGet.k (k := Sum.inl pq.1) g.f, _, rfl, ?_⟩))))
                  rw [val_kTrue]
                  by_cases hk : pq.1 ∈ met ++ [r.n]
                  · rw [decide_eq_true hk, if_pos rfl]
                    refine ⟨.ref A, rfl, .inl ⟨rfl, _, sq_of g.a⟩, .int pq.2, rfl, A, _, _, rfl, rfl, g.a, sz_lt (by rw [List.length_map, List.length_append, List.length_map]; omega), _, _, rfl, ?_⟩
                    have eA : zs ++ ((prs.take (j + 1)).filter fun p => decide (p.1 ∈ met ++ [r.n])).map (·.2) = zs ++ ((prs.take j).filter fun p => decide (p.1 ∈ met ++ [r.n])).map (·.2) ++ [pq.2] := by
                      rw [take_one hpq, List.filter_append, List.filter_cons_of_pos (p := fun p : Int × Int => decide (p.1 ∈ met ++ [r.n])) (decide_eq_true hk), List.filter_nil, List.map_append, ← List.append_assoc]
                      rfl
                    have eP : (prs.take (j + 1)).filter (fun p => decide (p.1 ∉ met ++ [r.n])) = (prs.take j).filter (fun p => decide (p.1 ∉ met ++ [r.n])) := by
                      rw [take_one hpq, List.filter_append, List.filter_cons_of_neg (p := fun p : Int × Int => decide (p.1 ∉ met ++ [r.n])) (fun q => of_decide_eq_true q hk), List.filter_nil, List.append_nil]
                    rw [eA, eP]
                    have := g.setA (zs ++ ((prs.take j).filter fun p => decide (p.1 ∈ met ++ [r.n])).map (·.2) ++ [pq.2])
                    rw [List.map_append (l₂ := [pq.2])] at this
                    exact this
                  · rw [decide_eq_false hk, if_neg Bool.false_ne_true]
                    have eg : (prs.take (j + 1)).filter (fun p => decide (p.1 ∈ met ++ [r.n])) = (prs.take j).filter (fun p => decide (p.1 ∈ met ++ [r.n])) := by
                      rw [take_one hpq, List.filter_append, List.filter_cons_of_neg (by simpa using hk), List.filter_nil, List.append_nil]
                    have eg2 : (prs.take (j + 1)).filter (fun p => decide (p.1 ∉ met ++ [r.n])) = (prs.take j).filter (fun p => decide (p.1 ∉ met ++ [r.n])) ++ [(pq.1, pq.2)] := by
                      rw [take_one hpq, List.filter_append, List.filter_cons_of_pos (by simpa using hk), List.filter_nil]
                    rw [eg, eg2, ← List.append_assoc]
                    have pl2 : (ps ++ (prs.take j).filter fun p => decide (p.1 ∉ met ++ [r.n])).length ≤ 4000 := by
                      rw [List.length_append]
                      omega
                    generalize ps ++ (prs.take j).filter (fun p => decide (p.1 ∉ met ++ [r.n])) = ps2 at g pl2 ⊢
                    obtain ⟨kvs2, w1, w2, w3, w4, w5⟩ := id g.w
                    refine ⟨.ref W, rfl, W, rfl, .inl ⟨kvs2, .inl w1⟩, .int pq.1, rfl, Nat.zero_le _, fun z hz => ⟨kvs2, .inl pq.1, Ex.new hz _ _ w1, rfl, sz_lt (by omega), fun v hv => ?_, fun hv => ?_⟩⟩
                    · obtain ⟨q', e1, e2, e3⟩ : ∃ q, valV kvs2 (.inl pq.1) = some (.ref q) ∧ (H q = none ∧ q ≠ F ∧ q ≠ A) ∧ Hd q = some (.lst ((wOf ps2 pq.1).map V.int)) := by
                        rcases w4 pq.1 with ⟨z1, _⟩ | h
                        · rw [hv] at z1
                          cases z1
                        · exact h
                      rw [hv] at e1
                      cases e1
                      have g2 := g.ext (Ex.new (o := .lst []) hz)
                      have hq : (upd Hd z (.lst [])) q' = some (.lst ((wOf ps2 pq.1).map V.int)) := Ex.new hz _ _ e3
                      have hk2 : (upd Hd z (.lst [])) W = some (.dK kvs2) := Ex.new hz _ _ w1
                      generalize upd Hd z (.lst []) = Hz at g2 hq hk2 ⊢
                      have hwl := wOf_len ps2 pq.1
                      refine ⟨.inl ⟨rfl, _, sq_of hq⟩, .int pq.2, rfl, q', _, _, rfl, rfl, hq, sz_lt (by rw [List.length_map]; omega), _, _, rfl, ?_⟩
                      refine ⟨Ex.mut g2.ex e2.1, ?_, ?_, ?_, g2.hF, g2.hA, g2.ne⟩
                      · rw [upd_ne e2.2.1.symm]
                        exact g2.f
                      · rw [upd_ne e2.2.2.symm]
                        exact g2.a
                      · rw [List.length_append]
                        exact g2.w.old hk2 hv (fun a o _ nq h => by
                          rw [upd_ne nq]
                          exact h) upd_same
                    · have g2 := g.ext (Ex.new (o := .lst []) hz)
                      have nzW : z ≠ W := (ne_of_none w1 hz).symm
                      have zH : H z = none := fresh_back g.ex hz
                      have zF : z ≠ F := (ne_of_none g.f hz).symm
                      have zA : z ≠ A := (ne_of_none g.a hz).symm
                      have hz2 : (upd (upd Hd z (.lst [])) W (.dK (putK kvs2 (.inl pq.1) (.ref z)))) z = some (.lst []) := by
                        rw [upd_ne nzW, upd_same]
                      refine ⟨.inl ⟨rfl, _, sq_of hz2⟩, .int pq.2, rfl, z, _, _, rfl, rfl, hz2, sz_lt (by decide), _, _, rfl, ?_⟩
                      refine ⟨Ex.mut (Ex.mut g2.ex w2.1) zH, ?_, ?_, ?_, g2.hF, g2.hA, g2.ne⟩
                      · rw [upd_ne zF.symm, upd_ne w2.2.1.symm]
                        exact g2.f
                      · rw [upd_ne zA.symm, upd_ne w2.2.2.symm]
                        exact g2.a
                      · rw [List.length_append]
                        refine g.w.new w1 hv hz ⟨zH, zF, zA⟩ (fun a o _ nd h => ?_) ?_ upd_same
                        · rw [upd_ne (ne_of_none h hz), upd_ne nd]
                          exact Ex.new hz _ _ h
                        · rw [upd_ne nzW.symm, upd_same]
                · rintro σ' Hd ⟨y8, y9, rfl, g⟩
                  have lxs := s3.len
                  rw [List.length_map] at lxs
                  rw [lxs, List.take_length] at g
                  exact tail _ _ ⟨_, _, rfl, g⟩
              · have ea : adds r (met ++ [r.n]) = [] := by
                  unfold adds
                  rw [if_neg (by rw [srt]; decide +kernel), if_neg (by rw [srt]; decide +kernel)]
                have ew : waits r (met ++ [r.n]) = [] := by
                  unfold waits
                  rw [if_neg (by rw [srt]; decide +kernel)]
                rw [ea, ew, List.append_nil, List.append_nil] at tail
                rw [srt] at tail ⊢
                refine ⟨_, rfl, rfl, _, rfl, ?_⟩
                dsimp only
                rw [decide_eq_false (by decide +kernel), if_neg Bool.false_ne_true]
                refine ⟨_, rfl, rfl, _, rfl, ?_⟩
                dsimp only
                rw [decide_eq_false (by decide +kernel), if_neg Bool.false_ne_true]
                exact tail _ _ ⟨_, _, rfl, h5⟩
            · rintro σ' Hd ⟨y8, y9, rfl, g⟩
              obtain ⟨kvs2, w1, w2, w3, w4, w5⟩ := id g.w
              refine ifS_of (test_of (din_of (v_of rfl (v_of rfl ⟨W, _, rfl, DGet.k (k := Sum.inl r.n) w1, _, rfl, ?_⟩))))
              rcases w4 r.n with ⟨z1, z2⟩ | ⟨q', z1, z2, z3⟩
              · rw [z1, if_neg (by decide)]
                refine ⟨m', l, _, _, _, _, _, _, _, _, rfl, ?_, i'⟩
                rw [z2, List.append_nil]
                exact g
              · rw [z1, if_pos (show (some (V.ref q')).isSome = true from rfl)]
                refine ⟨.ref A, rfl, .inl ⟨rfl, _, sq_of g.a⟩, .ref W, rfl, .int r.n, rfl, W, .ref q', rfl, (by rw [← z1]; exact DGet.k (k := Sum.inl r.n) w1), A, q', _, _, rfl, rfl, g.a, z3, ?_, ?_⟩
                · rw [List.length_map, List.length_map, sizeLine_eq, List.length_append]
                  omega
                · refine ⟨m', l, _, _, _, _, _, _, _, _, rfl, ?_, i'⟩
                  rw [← List.map_append]
                  exact g.setA _
end
end Sn
namespace Sn
open PySem PySem.Spec PyProof.Rows L2 Evl Gd
abbrev sAlive : Stmt := topS 11
abbrev nAlive : List Str := ["snapshot"]
theorem scAlive : FnScope nAlive ["snapshot"] (defScope sAlive) := ⟨rfl, rfl, rfl, by decide +kernel, rfl, by decide +kernel, by decide +kernel⟩
def spAlive (K : PySem.W.Frag) : Sp := fun vs H Q _ => ∃ (x : V) (s : Shot), vs = [x] ∧ Td K H x (dShot s) ∧ okShot s ∧
  ∀ (H' : Hp) (t : Addr) (ns : List Int), Ex H H' → H t = none → H' t = some (.tup (ns.map V.int)) → ns.Pairwise (· < ·) → (∀ n, n ∈ ns ↔ Live (arcsOf s) n) → ns.length ≤ 1000 → Q (.ref t) H'
theorem filter_none (as : List Arc) : (as.filter fun α => decide (α.tgt ∉ ([] : List Int))) = as := List.filter_eq_self.mpr fun _ _ => by simp
section
variable {P : Program} {w : World} {K : PySem.W.Frag} {mg : Str → Option Value} {base : Heap}
theorem ok_alive {f fN fM C : Addr} {fd fdN fdM : FuncData} (A : Df K mg "alive" sAlive ["snapshot"] f fd) (AN : Df K mg "net_of" sNetOf ["snapshot"] fN fdN) (AM : Mf K C "met" "Net.met" sMet ["self", "barred"] fM fdM) (N : NetD P w K mg base C)
    (mL : mg "len" = none) (mT : mg "tuple" = none) (mO : mg "sorted" = none) (mLi : mg "list" = none) : FnOk P w K mg base CX0 4 f fd ["snapshot"] (spAlive K) := by
  have GN : FnOk P w K mg base CX0 3 fN fdN ["snapshot"] (spNetOf K C) := ok_netof AN.F N
  have GM : FnOk P w K mg base CX0 3 fM fdM ["self", "barred"] (spMet K C) := (ok_met AM.F N.T mL).mono (by decide)
  refine A.F.ok scAlive (fun vs H Q E h => ?_) (fun cdv A' outer s H vs Q E hr h => ?_)
  · obtain ⟨x, s, rfl, _⟩ := h
    rfl
  · obtain ⟨x, s, rfl, ht, ok, q⟩ := h
    refine ⟨_, pss_one (ps_ret (pe_callTy call_tuple_of (by rfl) mT (by decide +kernel) (pa_cons (pe_callB cr_sortedI (by rfl) mO (by decide +kernel) (pa_cons (pe_callTy (call_list_dK rfl) (by rfl) mLi (by decide +kernel)
      (pa_cons (pe_meth (pe_call GN hr (by rfl) AN.g AN.F.kp AN.b .nil pass0 (pa_cons (pv 0) pa_nil)) N.T.cl AM.m GM hr AM.b .nil pass0 (pa_cons pe_dnewK pa_nil)) pa_nil)) pa_nil)) pa_nil))), ?_⟩
    refine ret_of (cb_of (c_of (cb_of (c_of (cb_of (c_of (meth_of (call_of (c_of (v_of rfl (n_of ⟨x, s, rfl, ht, ok, fun H1 p e1 hN => ?_⟩)))))))))))
    obtain ⟨dx, ra, rs, d, kvs, hp, _⟩ := id hN
    refine ⟨p, dx, _, rfl, hp, nf_no _ _ (by decide +kernel) (by decide +kernel), c_of (newK_of fun b hb => n_of ?_)⟩
    have e2 : Ex H1 (upd H1 b (.dK [])) := Ex.new hb
    refine ⟨p, b, netM s, [], [], rfl, hN.ex e2, ok.2.2, upd_same, fun n => rfl, fun H2 q2 met e3 hq hq2 nd2 iff ml => n_of ⟨q2, _, rfl, hq2, fun l2 hl2 => n_of ⟨l2, met, rfl, ?_, fun ns p perm srt hp => n_of ⟨p, _, rfl, .inl ⟨sq_of upd_same, fun t ht => ?_⟩⟩⟩⟩⟩
    · have e : ((kTrue met).map fun kv => kV kv.1) = met.map V.int := by
        rw [List.map_map]
        rfl
      rw [e]
      exact sq_of upd_same
    · have e4 := ((((e1.trans e2).trans e3).trans (Ex.new hl2)).trans (Ex.new hp)).trans (Ex.new (o := .tup (ns.map V.int)) ht)
      refine q _ t ns e4 (fresh_back ((((e1.trans e2).trans e3).trans (Ex.new hl2)).trans (Ex.new hp)) ht) upd_same (strict_of srt (perm.nodup_iff.mpr nd2)) (fun n => (perm.mem_iff).trans ?_) (by rw [perm.length_eq]; exact ml)
      rw [iff n, filter_none, net_arcs]
end
end Sn
namespace Sn
open PySem PySem.Spec PyProof.Rows L2 Evl Gd
abbrev sSource : Stmt := topS 16
abbrev sTake : Stmt := topS 17
abbrev sOf : Stmt := topS 18
abbrev nSource : List Str := ["_law_script", "_law_k", "_law_cell", "_law_own"]
abbrev nTake : List Str := ["_law_box_here", "_law_many", "_law_digit", "_law_mixed"]
abbrev nOf : List Str := ["_law_box_here", "_law_some"]
theorem scSource : FnScope nSource ["_law_script", "_law_k"] (defScope sSource) := ⟨rfl, rfl, rfl, by decide +kernel, rfl, by decide +kernel, by decide +kernel⟩
theorem scTake : FnScope nTake ["_law_box_here", "_law_many"] (defScope sTake) := ⟨rfl, rfl, rfl, by decide +kernel, rfl, by decide +kernel, by decide +kernel⟩
theorem scOf : FnScope nOf ["_law_box_here", "_law_some"] (defScope sOf) := ⟨rfl, rfl, rfl, by decide +kernel, rfl, by decide +kernel, by decide +kernel⟩
def CPowW (i j : Int) : Prop := 0 ≤ j ∧ (Builtin.Int.intBits i : Int) * j ≤ bitsLine
theorem op_powW {X : Cx} : OpR X (binaryOp .Pow) (rI CPowW fun i j => .int (i ^ j.toNat)) := opI fun _ _ _ _ _ _ _ hc q => pow_int hc.1 hc.2 q
def big : Int := 1000000000000000000000000000000000000000000000000000000000000 ^ 4
/-- the pot of draws: at most n draws so far -/
def Pot (H : Hp) (d : Addr) (n : Int) : Prop := ∃ g b m : Int, H d = some (.lst [.int g, .int b, .int m]) ∧ 0 ≤ g ∧ g < big ∧ 0 ≤ b ∧ b < 2305843009213693952 ∧ 0 ≤ m ∧ m ≤ n
theorem Pot.up {H : Hp} {d : Addr} {n k : Int} (h : Pot H d n) (e : n ≤ k) : Pot H d k := by
  obtain ⟨g, b, m, h0, h1, h2, h3, h4, h5, h6⟩ := h
  exact ⟨g, b, m, h0, h1, h2, h3, h4, h5, by omega⟩
theorem Pot.ex {H H' : Hp} {d : Addr} {n : Int} (e : Evl.Ex H H') (h : Pot H d n) : Pot H' d n := by
  obtain ⟨g, b, m, h0, h⟩ := h
  exact ⟨g, b, m, e d _ h0, h⟩
/-- all but the pot stays -/
def Off (d : Addr) (H H' : Hp) : Prop := ∀ a o, a ≠ d → H a = some o → H' a = some o
theorem Off.refl (d : Addr) (H : Hp) : Off d H H := fun _ _ _ h => h
theorem Off.of {d : Addr} {H H' : Hp} (e : Evl.Ex H H') : Off d H H' := fun a o _ h => e a o h
theorem Off.trans {d : Addr} {H H1 H2 : Hp} (a : Off d H H1) (b : Off d H1 H2) : Off d H H2 := fun x o n h => b x o n (a x o n h)
theorem Off.upd {d : Addr} {H H' : Hp} {o : HO} (e : Off d H H') : Off d H (upd H' d o) := fun a u n h => by
  rw [upd_ne n]
  exact e a u n h
theorem if_set {D : Ends} {t : TT} {te : TE} {tl : TS} {i : Nat} {σ : L2.St} {H : Hp} {b : Bool} {Pv : V → Prop} (h : EvT t σ H b) (v1 : b = true → ∃ v, Pv v ∧ ∀ H1, Ex H H1 → Ev te σ H1 v) (v2 : b = false → ∃ v, Pv v ∧ σ = σ.set i (some v)) (k : ∀ v H2, Pv v → Ex H H2 → tl D (σ.set i (some v)) H2) : tSeq (tIfS t (tAsg te (gName i)) tNext) tl D σ H := by
  refine q_if h (fun hb H1 e1 => ?_) (fun hb H1 e1 => ?_)
  · obtain ⟨v, pv, ev⟩ := v1 hb
    exact s_asg (i := i) (v := v) (ev H1 e1) fun H2 e2 => k v H2 pv (e1.trans e2)
  · obtain ⟨v, pv, es⟩ := v2 hb
    show tl D σ H1
    rw [es]
    exact k v H1 pv e1
def spSource (K : PySem.W.Frag) : Sp := fun vs H Q _ => ∃ (a : Addr) (ns : List Int) (k : Int), vs = [.ref a, .int k] ∧ SqL K H a (ns.map V.int) ∧ ns.length ≤ 63 ∧ 0 ≤ k ∧ k ≤ 2 ∧
  ∀ H' d, Evl.Ex H H' → H d = none → Pot H' d 0 → Q (.ref d) H'
def spTake : Sp := fun vs H Q _ => ∃ (d : Addr) (n many : Int), vs = [.ref d, .int many] ∧ Pot H d n ∧ n ≤ 1000000 ∧ 0 < many ∧ many ≤ 1000000000000 ∧
  ∀ H' r, Off d H H' → Pot H' d (n + 1) → 0 ≤ r → r < many → Q (.int r) H'
section
variable {P : Program} {w : World} {K : PySem.W.Frag} {mg : Str → Option Value} {base : Heap}
theorem ok_source {f : Addr} {fd : FuncData} (F : Fun K "_law_box" "_law_box" sSource f fd) (mL : mg "len" = none) (mA : mg "abs" = none) (mI : mg "int" = none) : FnOk P w K mg base CX0 1 f fd ["_law_script", "_law_k"] (spSource K) := by
  refine F.ok scSource (fun vs H Q E h => ?_) (fun cdv A outer s H vs Q E hr h => ?_)
  · obtain ⟨a, ns, k, rfl, _⟩ := h
    rfl
  · obtain ⟨a, ns, k, rfl, hS, hz, h0, h2, q⟩ := h
    refine ⟨_, pss_cons (ps_set (i := 2) scSource.nd rfl (.inl rfl) (pe_op op_add (pe_op op_mul pe_int (pv 1)) pe_int))
      (pss_cons (ps_if (pt_cmpR op_lt (pv 1) (pe_callB call_len_seq (by rfl) mL PySem.boot_len (pa_cons (pv 0) pa_nil)) (nomark _)) (pss_one (ps_set (i := 2) scSource.nd rfl (.inl rfl) (pe_ix ix_list (pv 0) (pv 1) (fun _ _ => rfl)))) pss_nil)
      (pss_cons (ps_set (i := 3) scSource.nd rfl (.inl rfl) (pe_op op_mul (pe_op op_mod (pe_callB call_abs (by rfl) mA (by decide +kernel) (pa_cons (pv 2) pa_nil)) (pe_op op_powW (pe_op op_pow pe_int pe_int) pe_int))
          (pe_callTy call_int1 (by rfl) mI (by decide +kernel) (pa_cons (pe_cmpR op_ge (pe_callB call_abs (by rfl) mA (by decide +kernel) (pa_cons (pv 2) pa_nil)) (pe_op op_pow pe_int pe_int) (nomark _)) pa_nil))))
      (pss_one (ps_ret (pe_lst (pa_cons (pv 3) (pa_cons (pe_op op_mod (pe_op op_add (pe_op op_add (pe_op op_mul (pe_op op_mod (pv 2) pe_int) pe_int) (pe_op op_mul (pe_op op_mul pe_int (pv 1)) (pv 1))) pe_int) pe_int) (pa_cons pe_int pa_nil)))))))), ?_⟩
    refine st_seq (s_asg (i := 2) (v := .int (29 * k + 5)) (ev_op (ev_op ev_c (ev_var rfl) (rv_I (.inl ⟨by decide, by decide⟩))) ev_c rv_I0) fun H0 e0 => ?_)
    dsimp only
    refine if_set (b := decide (k < ((ns.map V.int).length : Int))) (Pv := fun v => ∃ c, v = V.int c) (et_test (ev_op (ev_var rfl) (ev_len (ev_var rfl) (ex_l e0 hS)) rv_I0)) (fun hb => ?_) (fun hb => ⟨_, ⟨_, rfl⟩, rfl⟩) (fun v H1 pv e01 => ?_)
    · have hk : k < ((ns.map V.int).length : Int) := of_decide_eq_true hb
      rw [List.length_map] at hk
      have hk2 : k.toNat < ns.length := by omega
      refine ⟨V.int ns[k.toNat], ⟨_, rfl⟩, fun H1 e1 => ev_op (ev_var rfl) (ev_var rfl) (rv_ixL (ex_l (e0.trans e1) hS) ?_)⟩
      have e9 := atI_nat (xs := ns.map V.int) (j := k.toNat) (v := V.int ns[k.toNat]) (by
        rw [List.getElem?_map, List.getElem?_eq_getElem hk2]
        rfl)
      rw [Int.toNat_of_nonneg h0] at e9
      exact e9
    obtain ⟨c, rfl⟩ := pv
    have e1 := e0.trans e01
    have evAbs : ∀ H2 : Hp, Ev (tCB (fun xs H Q => ∃ i, xs = [V.int i] ∧ Q (.int (if i < 0 then -i else i)) H) (tCons (tVar 2) tNil)) ((L2.start nSource [V.ref a, V.int k]).set 2 (some (.int c))) H2 (.int (if c < 0 then -c else c)) :=
      fun H2 => ev_cb (ea_cons (ev_var rfl) ea_nil) fun H3 _ Q q => ⟨c, rfl, q H3 (Ex.refl H3)⟩
    let g : Int := (if c < 0 then -c else c) % big * (if decide ((10 : Int) ^ (18 : Int).toNat ≤ (if c < 0 then -c else c)) = true then 1 else 0)
    have hbig : (0 : Int) < big := by decide +kernel
    have hg : 0 ≤ g ∧ g < big := by
      have h1 := Int.emod_nonneg (if c < 0 then -c else c) (b := big) (by omega)
      have h2 := Int.emod_lt_of_pos (if c < 0 then -c else c) hbig
      show 0 ≤ _ * _ ∧ _ * _ < big
      generalize decide ((10 : Int) ^ (18 : Int).toNat ≤ (if c < 0 then -c else c)) = z
      cases z
      · rw [if_neg Bool.false_ne_true, Int.mul_zero]
        omega
      · rw [if_pos rfl, Int.mul_one]
        exact ⟨h1, h2⟩
    refine st_seq (s_asg (i := 3) (v := .int g) (ev_op (ev_op (evAbs H1) (ev_op (ev_op ev_c ev_c (rv_I ⟨by decide, by decide, by decide⟩)) ev_c (rv_I ⟨by decide +kernel, by decide +kernel⟩)) (rv_I (by decide +kernel))) (ev_cb (ea_cons (ev_op (evAbs H1) (ev_op ev_c ev_c (rv_I ⟨by decide, by decide, by decide⟩)) rv_I0) ea_nil) fun H3 _ Q q => .inr ⟨_, rfl, q H3 (Ex.refl H3)⟩) (rv_I (.inr ?_))) fun H2 e2 => ?_)
    · generalize decide ((10 : Int) ^ (18 : Int).toNat ≤ (if c < 0 then -c else c)) = z
      cases z <;> decide
    clear_value g
    dsimp only
    let b : Int := (c % 2305843009213693951 * 60169 + 7349 * k * k + 83) % 2305843009213693921
    have hb1 := Int.emod_nonneg (c % 2305843009213693951 * 60169 + 7349 * k * k + 83) (b := 2305843009213693921) (by decide)
    have hb2 := Int.emod_lt_of_pos (c % 2305843009213693951 * 60169 + 7349 * k * k + 83) (b := 2305843009213693921) (by decide)
    refine s_retL (xs := [.int g, .int b, .int 0]) (el_lst (ea_cons (ev_var rfl) (ea_cons (ev_op (ev_op (ev_op (ev_op (ev_op (ev_var rfl) ev_c (rv_I (by decide))) ev_c (rv_I (.inr ⟨by decide, by decide⟩))) (ev_op (ev_op ev_c (ev_var rfl) (rv_I (.inl ⟨by decide, by decide⟩))) (ev_var rfl) (rv_I (.inr ⟨by omega, by omega⟩))) rv_I0) ev_c rv_I0) ev_c (rv_I (by decide))) (ea_cons ev_c ea_nil))) (by show 3 ≤ 100000; decide)) fun p H3 hp e3 h3 => ?_
    exact q H3 p ((e1.trans e2).trans e3) (fresh_back (e1.trans e2) hp) ⟨g, b, 0, h3, hg.1, hg.2, hb1, by omega, Int.le_refl 0, Int.le_refl 0⟩
theorem ok_take {f : Addr} {fd : FuncData} (F : Fun K "_law_take" "_law_take" sTake f fd) : FnOk P w K mg base CX0 1 f fd ["_law_box_here", "_law_many"] spTake := by
  refine F.ok scTake (fun vs H Q E h => ?_) (fun cdv A outer s H vs Q E hr h => ?_)
  · obtain ⟨a, n, k, rfl, _⟩ := h
    rfl
  · obtain ⟨d, n, many, rfl, hP, hn, h0, h1, q⟩ := h
    refine ⟨_, pss_cons (ps_if (pt_cmpR op_gt (pe_ix ix_list (pv 0) pe_int (fun _ _ => rfl)) pe_int (nomark _))
        (pss_cons (ps_set (i := 2) scTake.nd rfl (.inl rfl) (pe_op op_mod (pe_ix ix_list (pv 0) pe_int (fun _ _ => rfl)) (pv 1)))
        (pss_cons (ps_asg (pe_op op_fdivW (pe_ix ix_list (pv 0) pe_int (fun _ _ => rfl)) (pv 1)) (pg_sub (pv 0) pe_int set_list))
        (pss_one (ps_ret (pv 2))))) pss_nil)
      (pss_cons (ps_asg (pe_op op_add (pe_ix ix_list (pv 0) pe_int (fun _ _ => rfl)) pe_int) (pg_sub (pv 0) pe_int set_list))
      (pss_cons (ps_set (i := 3) scTake.nd rfl (.inl rfl) (pe_op op_mod (pe_op op_mul (pe_op op_add (pe_op op_add (pe_ix ix_list (pv 0) pe_int (fun _ _ => rfl)) (pe_op op_mul (pe_op op_mul pe_int (pe_ix ix_list (pv 0) pe_int (fun _ _ => rfl))) (pe_ix ix_list (pv 0) pe_int (fun _ _ => rfl)))) pe_int) pe_int) pe_int))
      (pss_cons (ps_set (i := 3) scTake.nd rfl (.inl rfl) (pe_op op_mod (pe_op op_mul (pv 3) (pe_op op_add (pe_op op_add (pe_op op_mod (pv 3) pe_int) (pe_op op_mul pe_int (pe_ix ix_list (pv 0) pe_int (fun _ _ => rfl)))) pe_int)) pe_int))
      (pss_one (ps_ret (pe_op op_mod (pe_op op_add (pe_op op_fdiv (pv 3) pe_int) (pe_op op_fdiv (pv 3) pe_int)) (pv 1))))))), ?_⟩
    obtain ⟨g, b, m, hd, hg0, hg1, hb0, hb1, hm0, hm1⟩ := hP
    have at0 : ∀ x y z : Int, atI [V.int x, .int y, .int z] 0 = some (.int x) := fun x y z => atI_nat (j := 0) rfl
    have at1 : ∀ x y z : Int, atI [V.int x, .int y, .int z] 1 = some (.int y) := fun x y z => atI_nat (j := 1) rfl
    have at2 : ∀ x y z : Int, atI [V.int x, .int y, .int z] 2 = some (.int z) := fun x y z => atI_nat (j := 2) rfl
    refine s_if (b := decide (0 < g)) (et_test (ev_op (ev_op (ev_var rfl) ev_c (rv_ixL (sq_of hd) (at0 _ _ _))) ev_c rv_I0)) (fun hb H1 e1 => ?_) (fun hb H1 e1 => ?_)
    · have hg : 0 < g := of_decide_eq_true hb
      have d1 := e1 d _ hd
      refine st_seq (s_asg (i := 2) (v := .int (g % many)) (ev_op (ev_op (ev_var rfl) ev_c (rv_ixL (sq_of d1) (at0 _ _ _))) (ev_var rfl) (rv_I h0)) fun H2 e2 => ?_)
      have d2 := e2 d _ d1
      dsimp only
      have wd : CDivW g many := wide_div h0 (b := 64) (by omega) (by decide) (by decide)
      refine st_seq (s_setL (j := 0) d2 (ev_op (ev_op (ev_var rfl) ev_c (rv_ixL (sq_of d2) (at0 _ _ _))) (ev_var rfl) (rv_I wd)) (ev_var rfl) ev_c (show 0 < 3 by decide) fun H3 e3 => ?_)
      dsimp only
      refine s_ret (v := .int (g % many)) (ev_var rfl) fun H4 e4 => ?_
      have h5 : Off d H H3 := Off.of ((e1.trans e2).trans e3)
      have nn := Int.ediv_nonneg hg0 (show 0 ≤ many by omega)
      have le : g / many ≤ g := Int.ediv_le_self many hg0
      refine q H4 _ ((h5.upd).trans (Off.of e4)) ⟨g / many, b, m, e4 d _ upd_same, nn, by omega, hb0, hb1, hm0, by omega⟩ (Int.emod_nonneg _ (by omega)) (Int.emod_lt_of_pos _ h0)
    · have d1 := e1 d _ hd
      dsimp only [tNext]
      refine st_seq (s_setL (j := 2) d1 (ev_op (ev_op (ev_var rfl) ev_c (rv_ixL (sq_of d1) (at2 _ _ _))) ev_c rv_I0) (ev_var rfl) ev_c (show 2 < 3 by decide) fun H3 e3 => ?_)
      dsimp only
      have d3 : (upd H3 d (.lst ([V.int g, .int b, .int m].set 2 (.int (m + 1))))) d = some (.lst [V.int g, .int b, .int (m + 1)]) := upd_same
      have o3 : Off d H (upd H3 d (.lst ([V.int g, .int b, .int m].set 2 (.int (m + 1))))) := (Off.of (e1.trans e3)).upd
      generalize upd H3 d (.lst ([V.int g, .int b, .int m].set 2 (.int (m + 1)))) = H3' at d3 o3 ⊢
      have m0 : (0 : Int) ≤ m + 1 := by omega
      refine st_seq (s_asg (i := 3) (v := .int ((b + 65687 * (m + 1) * (m + 1) + 23) * 50051 % 2305843009213693907)) (ev_op (ev_op (ev_op (ev_op (ev_op (ev_var rfl) ev_c (rv_ixL (sq_of d3) (at1 _ _ _))) (ev_op (ev_op ev_c (ev_op (ev_var rfl) ev_c (rv_ixL (sq_of d3) (at2 _ _ _))) (rv_I (.inl ⟨by decide, by decide⟩))) (ev_op (ev_var rfl) ev_c (rv_ixL (sq_of d3) (at2 _ _ _))) (rv_I (.inr ⟨by omega, by omega⟩))) rv_I0) ev_c rv_I0) ev_c (rv_I (.inr ⟨by decide, by decide⟩))) ev_c (rv_I (by decide))) fun H4 e4 => ?_)
      have d4 := e4 d _ d3
      have x0 : 0 ≤ (b + 65687 * (m + 1) * (m + 1) + 23) * 50051 % 2305843009213693907 := Int.emod_nonneg _ (by decide)
      have x1 : (b + 65687 * (m + 1) * (m + 1) + 23) * 50051 % 2305843009213693907 < 2305843009213693907 := Int.emod_lt_of_pos _ (by decide)
      generalize (b + 65687 * (m + 1) * (m + 1) + 23) * 50051 % 2305843009213693907 = x at x0 x1 ⊢
      dsimp only
      refine st_seq (s_asg (i := 3) (v := .int (x * (x % 1000151 + 90007 * (m + 1) + 3) % 2305843009213693951)) (ev_op (ev_op (ev_var rfl) (ev_op (ev_op (ev_op (ev_var rfl) ev_c (rv_I (by decide))) (ev_op ev_c (ev_op (ev_var rfl) ev_c (rv_ixL (sq_of d4) (at2 _ _ _))) (rv_I (.inl ⟨by decide, by decide⟩))) rv_I0) ev_c rv_I0) (rv_I (.inl ⟨by omega, by omega⟩))) ev_c (rv_I (by decide))) fun H5 e5 => ?_)
      generalize x * (x % 1000151 + 90007 * (m + 1) + 3) % 2305843009213693951 = y
      dsimp only
      refine s_ret (v := .int ((y / 107 + y / 1000003) % many)) (ev_op (ev_op (ev_op (ev_var rfl) ev_c (rv_I ⟨by decide, by decide⟩)) (ev_op (ev_var rfl) ev_c (rv_I ⟨by decide, by decide⟩)) rv_I0) (ev_var rfl) (rv_I h0)) fun H7 e7 => ?_
      have e47 := (e4.trans e5).trans e7
      exact q H7 _ (o3.trans (Off.of e47)) ⟨g, b, m + 1, e47 d _ d3, hg0, hg1, hb0, hb1, m0, by omega⟩ (Int.emod_nonneg _ (by omega)) (Int.emod_lt_of_pos _ h0)
theorem Pot.ne {H : Hp} {d p : Addr} {n : Int} (h : Pot H d n) (hp : H p = none) : p ≠ d := fun e => by
  obtain ⟨g, b, m, h0, _⟩ := h
  rw [e, h0] at hp
  cases hp
theorem rd_take {σ : L2.St} {H : Hp} {E : XK} {td tm : TE} {d : Addr} {n many : Int} {Q : VK} (hd : Ev td σ H (.ref d)) (hm : Ev tm σ H (.int many)) (hP : Pot H d n) (h1 : n ≤ 1000000) (h2 : 0 < many) (h3 : many ≤ 1000000000000)
    (k : ∀ H' r, Off d H H' → Pot H' d (n + 1) → 0 ≤ r → r < many → Q (.int r) H') : tCall spTake [] E (tCons td (tCons tm tNil)) σ H Q := by
  refine hd H (Ex.refl H) _ fun H1 e1 => hm H1 e1 _ fun H2 e2 => ?_
  exact ⟨d, n, many, rfl, hP.ex (e1.trans e2), h1, h2, h3, fun H' r o p a b => k H' r ((Off.of (e1.trans e2)).trans o) p a b⟩
/-- one of a list's items -/
def spOf : Sp := fun vs H Q _ => ∃ (d l : Addr) (n : Int) (xs : List V), vs = [.ref d, .ref l] ∧ Pot H d n ∧ n ≤ 1000000 ∧ l ≠ d ∧ H l = some (.lst xs) ∧ 0 < xs.length ∧ xs.length ≤ 1000 ∧
  ∀ H' x, x ∈ xs → Off d H H' → Pot H' d (n + 1) → Q x H'
theorem ok_of {f fT : Addr} {fd fdT : FuncData} (F : Fun K "_law_of" "_law_of" sOf f fd) (FT : Fun K "_law_take" "_law_take" sTake fT fdT) (bT : Binds K fdT ["_law_box_here", "_law_many"] []) (gT : mg "_law_take" = some (.ref fT)) (mL : mg "len" = none) :
    FnOk P w K mg base CX0 2 f fd ["_law_box_here", "_law_some"] spOf := by
  have GT : FnOk P w K mg base CX0 1 fT fdT ["_law_box_here", "_law_many"] spTake := ok_take FT
  refine F.ok scOf (fun vs H Q E h => ?_) (fun cdv A outer s H vs Q E hr h => ?_)
  · obtain ⟨d, l, n, xs, rfl, _⟩ := h
    rfl
  · obtain ⟨d, l, n, xs, rfl, hP, hn, ne, hl, z0, z1, q⟩ := h
    refine ⟨_, pss_one (ps_ret (pe_ix ix_list (pv 1) (pe_call GT hr (by rfl) gT FT.kp bT .nil pass0 (pa_cons (pv 0) (pa_cons (pe_callB call_len_seq (by rfl) mL PySem.boot_len (pa_cons (pv 1) pa_nil)) pa_nil))) (fun _ _ => rfl))), ?_⟩
    refine ⟨_, rfl, ?_⟩
    refine rd_take (ev_var rfl) (ev_len (ev_var rfl) (sq_of hl)) hP hn (by omega) (by omega) fun H1 r o p r0 r1 => ?_
    obtain ⟨j, rfl⟩ : ∃ j : Nat, r = j := ⟨r.toNat, by omega⟩
    have jn : j < xs.length := by omega
    exact ⟨l, xs, j, _, rfl, rfl, sq_of (o l _ ne hl), atI_nat (List.getElem?_eq_getElem jn), q H1 _ (List.getElem_mem jn) o p⟩
end
end Sn
namespace Sn
open PySem PySem.Spec PyProof.Rows L2 Evl Gd
theorem Off.fresh {d D : Addr} {H H' : Hp} {o : HO} (e : Off d H H') (h : H D = none) : Off d H (L2.upd H' D o) := fun a u n ha => by
  rw [upd_ne (ne_of_none ha h)]
  exact e a u n ha
theorem Pot.updD {H : Hp} {d D : Addr} {n : Int} {o : HO} (h : Pot H d n) (ne : D ≠ d) : Pot (L2.upd H D o) d n := by
  obtain ⟨g, b, m, h0, h⟩ := h
  exact ⟨g, b, m, by rw [upd_ne ne.symm]; exact h0, h⟩
theorem keepOff {K : PySem.W.Frag} {H H' : Hp} {d : Addr} {n : Int} (p : Pot H d n) (o : Off d H H') : KeepT K H H' := by
  obtain ⟨g, b, m, h0, _⟩ := p
  exact .lst h0 o
section
variable {ta tr te tb : TE} {tt : TA} {ts tz : TS} {D : Ends} {g : TG} {σ : L2.St} {H : Hp} {Q : VK}
theorem rd_of {E : XK} {d : Addr} {n : Int} {td tl : TE} {xs : List V} (hd : Ev td σ H (.ref d)) (hP : Pot H d n) (hn : n ≤ 1000000) (ev : EvL tl σ H xs) (z0 : 0 < xs.length) (z1 : xs.length ≤ 1000) (k : ∀ H' x, x ∈ xs → Off d H H' → Pot H' d (n + 1) → Q x H') :
    tCall spOf [] E (tCons td (tCons tl tNil)) σ H Q := by
  refine hd H (Ex.refl H) _ fun H1 e1 => ev H1 e1 _ fun p H2 np e2 h2 => ?_
  have p1 := hP.ex e1
  exact ⟨d, p, n, xs, rfl, p1.ex e2, hn, p1.ne np, h2, z0, z1, fun H' x hx o pt => k H' x hx ((Off.of (e1.trans e2)).trans o) pt⟩
/-- of(jar, a list that stands) -/
theorem rd_ofV {E : XK} {d l : Addr} {n : Int} {td tl : TE} {xs : List V} (hd : Ev td σ H (.ref d)) (hl : Ev tl σ H (.ref l)) (hP : Pot H d n) (hn : n ≤ 1000000) (ne : l ≠ d) (hx : H l = some (.lst xs)) (z0 : 0 < xs.length) (z1 : xs.length ≤ 1000) (k : ∀ H' x, x ∈ xs → Off d H H' → Pot H' d (n + 1) → Q x H') :
    tCall spOf [] E (tCons td (tCons tl tNil)) σ H Q := by
  refine hd H (Ex.refl H) _ fun H1 e1 => hl H1 e1 _ fun H2 e2 => ?_
  exact ⟨d, l, n, xs, rfl, hP.ex (e1.trans e2), hn, ne, (e1.trans e2) _ _ hx, z0, z1, fun H' x hx o pt => k H' x hx ((Off.of (e1.trans e2)).trans o) pt⟩
end
abbrev sNums : Stmt := topS 19
abbrev nNums : List Str := ["_law_box_here", "_law_most", "_law_found", "_law_here", "_law_turn"]
theorem scNums : FnScope nNums ["_law_box_here", "_law_most"] (defScope sNums) := ⟨rfl, rfl, rfl, by decide +kernel, rfl, by decide +kernel, by decide +kernel⟩
def spNums : Sp := fun vs H Q _ => ∃ (d : Addr) (n : Int), vs = [.ref d, .int 12] ∧ Pot H d n ∧ n ≤ 800000 ∧
  ∀ (H' : Hp) (l : Addr) (ns : List Int), Off d H H' → Pot H' d (n + 30) → l ≠ d → H l = none → H' l = some (.lst (ns.map V.int)) → 1 ≤ ns.length → ns.length ≤ 12 → (∀ i ∈ ns, 0 ≤ i ∧ i ≤ 200) → ns.Pairwise (· < ·) → Q (.ref l) H'
section
variable {P : Program} {w : World} {K : PySem.W.Frag} {mg : Str → Option Value} {base : Heap}
theorem ok_nums {f fT fO : Addr} {fd fdT fdO : FuncData} (F : Fun K "_law_numbers" "_law_numbers" sNums f fd) (FT : Fun K "_law_take" "_law_take" sTake fT fdT) (FO : Fun K "_law_of" "_law_of" sOf fO fdO) (bT : Binds K fdT ["_law_box_here", "_law_many"] []) (bO : Binds K fdO ["_law_box_here", "_law_some"] [])
    (gT : mg "_law_take" = some (.ref fT)) (gO : mg "_law_of" = some (.ref fO)) (mL : mg "len" = none) (mR : mg "range" = none) : FnOk P w K mg base CX0 3 f fd ["_law_box_here", "_law_most"] spNums := by
  have GT : FnOk P w K mg base CX0 2 fT fdT ["_law_box_here", "_law_many"] spTake := (ok_take FT).mono (by decide)
  have GO : FnOk P w K mg base CX0 2 fO fdO ["_law_box_here", "_law_some"] spOf := ok_of FO FT bT gT mL
  refine F.ok scNums (fun vs H Q E h => ?_) (fun cdv A outer s H vs Q E hr h => ?_)
  · obtain ⟨d, n, rfl, _⟩ := h
    rfl
  · obtain ⟨d, n, rfl, pot, hn, q⟩ := h
    refine ⟨_, pss_cons (ps_par (i := 2) (j := 3) rfl scNums.nd rfl rfl (by decide) rfl rfl (pa_cons (pe_lst pa_nil) (pa_cons (pe_call GO hr (by rfl) gO FO.kp bO .nil pass0 (pa_cons (pv 0) (pa_cons (pe_lst (pa_cons pe_int (pa_cons pe_int (pa_cons pe_int (pa_cons pe_int pa_nil))))) pa_nil))) pa_nil)) (by rfl))
      (pss_cons (ps_for PassesOwn.never rfl (pi_range1 (by rfl) mR (pa_cons (pe_op op_add pe_int (pe_call GT hr (by rfl) gT FT.kp bT .nil pass0 (pa_cons (pv 0) (pa_cons (pv 1) pa_nil)))) pa_nil)) (pg_name (i := 4) scNums.nd rfl (.inl rfl))
        (pss_cons (ps_expr (pe_bm PySem.F.plainAttrs_list PySem.F.slot_list_append PySem.F.type_list_append mt_append (pv 2) (pa_cons (pv 3) pa_nil)))
        (pss_one (ps_set (i := 3) scNums.nd rfl (.inl rfl) (pe_op op_add (pe_op op_add (pv 3) pe_int) (pe_call GO hr (by rfl) gO FO.kp bO .nil pass0 (pa_cons (pv 0) (pa_cons (pe_lst (pa_cons pe_int (pa_cons pe_int (pa_cons pe_int (pa_cons pe_int (pa_cons pe_int pa_nil)))))) pa_nil))))))))
      (pss_one (ps_ret (pv 2)))), ?_⟩
    refine seq_of (par_of (c_of (lst_of (n_of ⟨Nat.zero_le _, fun l hl => ?_⟩))))
    have nld := pot.ne hl
    refine c_of (rd_of (ev_var rfl) (pot.updD nld) (by omega) (el_lst (ea_cons ev_c (ea_cons ev_c (ea_cons ev_c (ea_cons ev_c ea_nil)))) (by show 4 ≤ 100000; decide)) (by show 0 < 4; decide) (by show 4 ≤ 1000; decide) fun H2 x hx o2 p2 => ?_)
    obtain ⟨x, rfl, x0, x7⟩ : ∃ r : Int, x = .int r ∧ 0 ≤ r ∧ r ≤ 7 := by
      simp only [List.mem_cons, List.not_mem_nil, or_false] at hx
      rcases hx with e | e | e | e <;> exact ⟨_, e, by decide, by decide⟩
    refine n_of ⟨_, _, rfl, ?_⟩
    have oH : Off d H H2 := (Off.of (Ex.new hl)).trans o2
    have l2 : H2 l = some (.lst []) := o2 l _ nld upd_same
    dsimp only
    refine seq_of (for1_of ?_)
    refine c_of (op_of (k_of (rd_take (many := 12) (ev_var (by rfl)) (ev_var (by rfl)) p2 (by omega) (by decide) (by decide) fun H3 r o3 p3 r0 r1 => ?_)))
    refine ⟨1, r, rfl, rfl, ?_⟩
    refine ⟨1 + r, rfl, by omega, by omega, for_range (lo := 0) (n := (1 + r).toNat) (fun i σ' H' => ∃ y4 last ns, σ' = [some (.ref d), some (.int 12), some (.ref l), some (.int last), y4] ∧ Off d H H' ∧ Pot H' d (n + 2 + (i : Int)) ∧ H' l = some (.lst (ns.map V.int)) ∧ ns.length = i ∧ 0 ≤ last ∧ last ≤ 7 + 10 * (i : Int) ∧ (∀ x ∈ ns, 0 ≤ x ∧ x < last ∧ x ≤ 200) ∧ ns.Pairwise (· < ·))
      ⟨none, x, [], rfl, oH.trans o3, p3.up (by omega), o3 l _ nld l2, rfl, by omega, by omega, fun x h => absurd h List.not_mem_nil, .nil⟩ ?_ ?_⟩
    · rintro i σ' H' hi ⟨y4, last, ns, rfl, o, p, hl', len, b0, b1, hb, asc⟩
      have i12 : (i : Int) < 12 := by omega
      dsimp only [gName]
      refine ⟨.ref l, rfl, .inl ⟨rfl, _, sq_of hl'⟩, .int last, rfl, l, _, _, rfl, rfl, hl', sz_lt (by rw [List.length_map]; omega), ?_⟩
      have np : L2.upd H' l (.lst (ns.map V.int ++ [V.int last])) l = some (.lst ((ns ++ [last]).map V.int)) := by
        rw [upd_same, List.map_append]
        rfl
      have pp := p.updD (o := .lst (ns.map V.int ++ [V.int last])) nld
      have oo := o.fresh (o := .lst (ns.map V.int ++ [V.int last])) hl
      generalize L2.upd H' l (.lst (ns.map V.int ++ [V.int last])) = H3 at np pp oo ⊢
      refine asg_of (op_of (op_of (v_of rfl (k_of ⟨last, 1, rfl, rfl, ?_⟩))))
      refine rd_of (ev_var rfl) pp (by omega) (el_lst (ea_cons ev_c (ea_cons ev_c (ea_cons ev_c (ea_cons ev_c (ea_cons ev_c ea_nil))))) (by show 5 ≤ 100000; decide)) (by show 0 < 5; decide) (by show 5 ≤ 1000; decide) fun H4 x hx o4 p4 => ?_
      obtain ⟨x, rfl, x0, x9⟩ : ∃ r : Int, x = .int r ∧ 0 ≤ r ∧ r ≤ 9 := by
        simp only [List.mem_cons, List.not_mem_nil, or_false] at hx
        rcases hx with e | e | e | e | e <;> exact ⟨_, e, by decide, by decide⟩
      refine ⟨_, _, rfl, rfl, ?_⟩
      refine ⟨_, last + 1 + x, ns ++ [last], rfl, oo.trans o4, p4.up (by push_cast; omega), o4 l _ nld np, ?_, by omega, by push_cast; omega, ?_, ?_⟩
      · rw [List.length_append, len]
        rfl
      · intro y hy
        rcases List.mem_append.mp hy with h | h
        · have := hb y h
          omega
        · rw [List.mem_singleton.mp h]
          omega
      · rw [List.pairwise_append]
        refine ⟨asc, List.pairwise_singleton _ _, fun a ha b hb' => ?_⟩
        rw [List.mem_singleton.mp hb']
        have := hb a ha
        omega
    · rintro σ' H' ⟨y4, last, ns, rfl, o, p, hl', len, b0, b1, hb, asc⟩
      refine ⟨.ref l, rfl, q H' l ns o (p.up (by omega)) nld hl hl' (by omega) (by omega) (fun i hi => ?_) asc⟩
      have := hb i hi
      omega
end
end Sn
namespace Sn
open PySem PySem.Spec PyProof.Rows L2 Evl Gd
/-- all but lists stays -/
def KeepN (H H' : Hp) : Prop := ∀ a o, (∀ xs, o ≠ .lst xs) → H a = some o → H' a = some o
theorem KeepN.t {K : PySem.W.Frag} {H H' : Hp} (k : KeepN H H') : KeepT K H H' := by
  intro a xs h
  rcases h with (h | ⟨o, h⟩) | h
  · exact .inl (.inl (k _ _ (fun _ z => nomatch z) h))
  · exact .inl (.inr ⟨o, k _ _ (fun _ z => nomatch z) h⟩)
  · exact .inr h
theorem KeepN.lst {H H' : Hp} {p : Addr} {zs : List V} (hp : H p = some (.lst zs)) (e : ∀ a o, a ≠ p → H a = some o → H' a = some o) : KeepN H H' := fun a o no h => e a o (fun q => by
  rw [q, hp] at h
  exact no _ (Option.some.inj h).symm) h
theorem KeepN.of {H H' : Hp} (e : ∀ a o, H a = some o → H' a = some o) : KeepN H H' := fun a o _ h => e a o h
theorem KeepN.off {H H' : Hp} {d : Addr} {n : Int} (p : Pot H d n) (o : Off d H H') : KeepN H H' := by
  obtain ⟨g, b, m, h0, _⟩ := p
  exact .lst h0 o
theorem KeepN.trans {H H' H2 : Hp} (a : KeepN H H') (b : KeepN H' H2) : KeepN H H2 := fun x o n h => b x o n (a x o n h)
/-- a comprehension whose turns draw from the jar: R says what is made -/
theorem lcj {K : PySem.W.Frag} {J : It} {N : Nat} {G : Hp → Prop} {Y : Nat → Hp → V → Hp → Prop} (wk : Walk J N G Y) (at' : Nat → Option V) {t : TT} {te : TE} {vs : List Nat} {σ : L2.St} {H1 : Hp} {D d : Addr} {n c : Int} {j : Nat} {Qd : Hp → Prop} (R : Nat → List V → Hp → Prop)
    (hG : ∀ H, Off d H1 H → G H) (hY : ∀ i H x H', Y i H x H' → H' = H ∧ at' i = some x) (hD : H1 D = none) (pot : Pot H1 d n) (c0 : 0 ≤ c) (hN : N ≤ 1000)
    (R0 : ∀ H, R 0 [] H) (Rl : ∀ i ys H, R i ys H → ys.length ≤ i) (Rk : ∀ i ys H H', KeepN H H' → R i ys H → R i ys H') (hw : ∀ x, wipe ((wipe σ vs).set j (some x)) vs = wipe σ vs)
    (turn : ∀ i x ys H, i < N → at' i = some x → Off d H1 H → Pot H d (n + c * (i : Int)) → R i ys H → ∀ (k1 : V → Hp → Prop) (k0 : Hp → Prop), (∀ y H4, Off d H H4 → Pot H4 d (n + c * ((i + 1 : Nat) : Int)) → R (i + 1) (ys ++ [y]) H4 → k1 y H4) → (∀ H3, Off d H H3 → Pot H3 d (n + c * ((i + 1 : Nat) : Int)) → R (i + 1) ys H3 → k0 H3) →
      t ((wipe σ vs).set j (some x)) H fun b H3 => if b = true then te ((wipe σ vs).set j (some x)) H3 k1 else k0 H3)
    (hd : ∀ H' ys, Off d H1 H' → Pot H' d (n + c * (N : Int)) → H' D = some (.lst ys) → R N ys H' → Qd H') :
    ∃ W : Nat → Nat → Hp → Prop, (∃ m, W 0 m (L2.upd H1 D (.lst []))) ∧ ∀ i m H, W i m H →
      (J.stop i H ∧ Qd H) ∨ (J.go i H ∧ ∃ Nx : Hp → Prop, (∀ H', Nx H' → ∃ m', m' < m ∧ W (i + 1) m' H') ∧ ∀ x H', J.yld i H x H' → gName j x (wipe σ vs) H' fun σ2 H2 => wipe σ2 vs = wipe σ vs ∧ t σ2 H2 fun b H3 =>
        if b = true then te σ2 H3 fun y H4 => ∃ acc, H4 D = some (.lst acc) ∧ acc.length < sizeLine ∧ Nx (L2.upd H4 D (.lst (acc ++ [y]))) else Nx H3) := by
  have nD : D ≠ d := pot.ne hD
  refine lc_it wk (fun i H' => Off d H1 H' ∧ Pot H' d (n + c * (i : Int)) ∧ ∃ ys, H' D = some (.lst ys) ∧ R i ys H') ⟨(Off.refl d H1).fresh hD, (pot.updD nD).up (by simp), [], upd_same, R0 _⟩ (fun i H _ p => hG H p.1) ?_ ?_
  · rintro i x H H' hi ⟨o, p, ys, hD', r⟩ y
    obtain ⟨rfl, hx⟩ := hY i H x H' y
    refine ⟨hw x, turn i x ys H' hi hx o p r _ _ (fun y H4 o4 p4 r4 => ?_) fun H3 o3 p3 r3 => ?_⟩
    · have hD4 := o4 D _ nD hD'
      have len := Rl i ys H' r
      refine ⟨ys, hD4, sz_lt (by omega), (o.trans o4).fresh hD, p4.updD nD, _, upd_same, Rk _ _ _ _ (.lst hD4 fun a o n h => by
        rw [upd_ne n]
        exact h) r4⟩
    · exact ⟨o.trans o3, p3, ys, o3 D _ nD hD', r3⟩
  · rintro H' ⟨o, p, ys, hD', r⟩
    exact hd H' ys o p hD' r
def partInts : Part → List Int
  | .tgt n => [n]
  | .pair k none => [k]
  | .pair k (some v) => [k, v]
def Small (ps : List Part) : Prop := ∀ p ∈ ps, ∀ i ∈ partInts p, 0 ≤ i ∧ i ≤ 200
def InFs (fs : List Int) (ps : List Part) : Prop := ∀ k v, Part.pair k (some v) ∈ ps → v ∈ fs
def SmallIn (fs : List Int) (ps : List Part) : Prop := ∀ p ∈ ps, (∀ i ∈ partInts p, 0 ≤ i ∧ i ≤ 200) ∧ ∀ k v, p = .pair k (some v) → v ∈ fs
def keyOf : Part → Option Int
  | .pair k _ => some k
  | .tgt _ => none
def OkParts (shape : Str) (ps : List Part) : Prop := ps.length ≤ 10 ∧ Small ps ∧ ((shape = "record" ∧ ∀ p ∈ ps, ∃ k v, p = .pair k (some v)) ∨ (shape = "map" ∧ ∀ p ∈ ps, ∃ k v, p = .pair k v) ∨ (shape = "weak" ∧ ∀ p ∈ ps, ∃ n, p = .tgt n)) ∧ (ps.filterMap keyOf).Pairwise (· < ·)
section
variable {K : PySem.W.Frag} {σ : L2.St} {H : Hp} {d : Addr} {n : Int}
/-- take(jar, often) == 0 -/
theorem et_take0 {E : XK} {td tm : TE} {many : Int} {k : Bool → Hp → Prop} (hd : Ev td σ H (.ref d)) (hm : Ev tm σ H (.int many)) (pot : Pot H d n) (hn : n ≤ 1000000) (m0 : 0 < many) (m1 : many ≤ 1000000) (h : ∀ b H', Off d H H' → Pot H' d (n + 1) → k b H') : tTest (tOp rEq (tCall spTake [] E (tCons td (tCons tm tNil))) (tC (.int 0))) σ H k :=
  test_of (op_of (rd_take hd hm pot hn m0 (by omega) fun H1 r o p _ _ => ⟨rfl, _, rfl, h _ H1 o p⟩))
end
theorem sub_snoc {α : Type} {l m : List α} {x : α} (h : l.Sublist m) : (l ++ [x]).Sublist (m ++ [x]) := List.Sublist.append h (List.Sublist.refl _)
theorem sub_more {α : Type} {l m : List α} {x : α} (h : l.Sublist m) : l.Sublist (m ++ [x]) := h.trans (List.sublist_append_left _ _)
theorem put_mem {κ : Type} [DecidableEq κ] {kvs : List (κ × V)} {k : κ} {v : V} {p : κ × V} (h : p ∈ putK kvs k v) : p = (k, v) ∨ (p ∈ kvs ∧ p.1 ≠ k) := by
  unfold putK at h
  by_cases e : (kvs.any fun kv => decide (kv.1 = k)) = true
  · rw [if_pos e] at h
    obtain ⟨z, hz, rfl⟩ := List.mem_map.mp h
    by_cases q : z.1 = k
    · rw [if_pos q, q]
      exact .inl rfl
    · rw [if_neg q]
      exact .inr ⟨hz, q⟩
  · rw [if_neg e] at h
    rcases List.mem_append.mp h with m | m
    · refine .inr ⟨m, fun q => e ?_⟩
      exact List.any_eq_true.mpr ⟨p, m, decide_eq_true q⟩
    · exact .inl (List.mem_singleton.mp m)
theorem put_keys {κ : Type} [DecidableEq κ] (kvs : List (κ × V)) (k : κ) (v : V) : (putK kvs k v).map (·.1) = if k ∈ kvs.map (·.1) then kvs.map (·.1) else kvs.map (·.1) ++ [k] := by
  unfold putK
  by_cases e : (kvs.any fun kv => decide (kv.1 = k)) = true
  · rw [if_pos e]
    obtain ⟨z, hz, hk⟩ := List.any_eq_true.mp e
    have hk2 : z.1 = k := of_decide_eq_true hk
    rw [if_pos (List.mem_map.mpr ⟨z, hz, hk2⟩), List.map_map]
    refine List.map_congr_left fun y _ => ?_
    show (if y.1 = k then (y.1, v) else y).1 = y.1
    split <;> rfl
  · rw [if_neg e, if_neg, List.map_append]
    · rfl
    · intro m
      obtain ⟨z, hz, hk⟩ := List.mem_map.mp m
      exact e (List.any_eq_true.mpr ⟨z, hz, decide_eq_true hk⟩)
theorem put_nodup {κ : Type} [DecidableEq κ] {kvs : List (κ × V)} {k : κ} {v : V} (h : (kvs.map (·.1)).Nodup) : ((putK kvs k v).map (·.1)).Nodup := by
  rw [put_keys]
  split
  · exact h
  · next e =>
    rw [List.nodup_append]
    refine ⟨h, by simp, fun a ha b hb q => ?_⟩
    rw [List.mem_singleton.mp hb] at q
    rw [q] at ha
    exact e ha
/-- a table with int keys -/
def Ents (kp : Int → Prop) (vp : V → Prop) (kvs : List (Key × V)) : Prop := (kvs.map (·.1)).Nodup ∧ ∀ p ∈ kvs, ∃ k, p.1 = .inl k ∧ kp k ∧ vp p.2
theorem Ents.nil {kp : Int → Prop} {vp : V → Prop} : Ents kp vp [] := ⟨.nil, fun _ h => absurd h List.not_mem_nil⟩
theorem Ents.put {kp : Int → Prop} {vp : V → Prop} {kvs : List (Key × V)} {k : Int} {v : V} (h : Ents kp vp kvs) (hk : kp k) (hv : vp v) : Ents kp vp (putK kvs (.inl k) v) := by
  refine ⟨put_nodup h.1, fun p hp => ?_⟩
  rcases put_mem hp with e | ⟨m, _⟩
  · rw [e]
    exact ⟨k, rfl, hk, hv⟩
  · exact h.2 p m
theorem val_at {κ : Type} [DecidableEq κ] {p : κ × V} : ∀ {kvs : List (κ × V)}, (kvs.map (·.1)).Nodup → p ∈ kvs → valV kvs p.1 = some p.2
  | [], _, h => absurd h List.not_mem_nil
  | q :: kvs, nd, h => by
    have n1 := List.nodup_cons.mp nd
    rcases List.mem_cons.mp h with e | m
    · rw [e]
      exact valV_pos rfl
    · rw [valV_neg]
      · exact val_at n1.2 m
      · intro e
        exact n1.1 (List.mem_map.mpr ⟨p, m, e.symm⟩)
theorem Ents.ints {kp : Int → Prop} {vp : V → Prop} {kvs : List (Key × V)} (h : Ents kp vp kvs) : ∃ ks : List Int, kvs.map (·.1) = ks.map Sum.inl ∧ ks.Nodup ∧ ks.length = kvs.length ∧ ∀ k ∈ ks, kp k ∧ ∃ v, valV kvs (.inl k) = some v ∧ vp v := by
  have e : ∃ ks : List Int, kvs.map (·.1) = ks.map Sum.inl := by
    have g := h.2
    clear h
    induction kvs with
    | nil => exact ⟨[], rfl⟩
    | cons p r ih =>
      obtain ⟨ks, e⟩ := ih fun q hq => g q (List.mem_cons_of_mem _ hq)
      obtain ⟨k, e1, _⟩ := g p List.mem_cons_self
      exact ⟨k :: ks, by rw [List.map_cons, List.map_cons, e, e1]⟩
  obtain ⟨ks, e⟩ := e
  refine ⟨ks, e, ?_, ?_, fun k hk => ?_⟩
  · have := h.1
    rw [e] at this
    exact List.Pairwise.imp (fun q z => q (by rw [z])) (List.pairwise_map.mp this)
  · have := congrArg List.length e
    rw [List.length_map, List.length_map] at this
    exact this.symm
  · have m : (Sum.inl k : Key) ∈ kvs.map (·.1) := by
      rw [e]
      exact List.mem_map.mpr ⟨k, hk, rfl⟩
    obtain ⟨p, hp, e1⟩ := List.mem_map.mp m
    obtain ⟨k2, e2, a, b⟩ := h.2 p hp
    have e3 : p.1 = Sum.inl k := e1
    rw [e2] at e3
    have : k2 = k := Sum.inl.inj e3
    refine ⟨this ▸ a, p.2, ?_, b⟩
    have := val_at h.1 hp
    rw [e1] at this
    exact this
def vO : Option Int → V
  | none => .non
  | some v => .int v
theorem td_vO {K : PySem.W.Frag} {H : Hp} : ∀ o : Option Int, Td K H (vO o) (dOpt o)
  | none => .non
  | some v => .int v
abbrev sParts : Stmt := topS 20
abbrev nParts : List Str := ["_law_box_here", "_law_sort", "_law_numbers_here", "_law_found", "_law_turn", "_law_key"]
theorem scParts : FnScope nParts ["_law_box_here", "_law_sort", "_law_numbers_here"] (defScope sParts) := ⟨rfl, rfl, rfl, by decide +kernel, rfl, by decide +kernel, by decide +kernel⟩
def spParts (K : PySem.W.Frag) : Sp := fun vs H Q _ => ∃ (d l : Addr) (n : Int) (shape : Str) (fs : List Int), vs = [.ref d, .str shape, .ref l] ∧ Pot H d n ∧ n ≤ 800000 ∧ l ≠ d ∧ H l = some (.lst (fs.map V.int)) ∧ 0 < fs.length ∧ fs.length ≤ 12 ∧ (∀ i ∈ fs, 0 ≤ i ∧ i ≤ 200) ∧ fs.Pairwise (· < ·) ∧ (shape = "record" ∨ shape = "map" ∨ shape = "weak") ∧
  ∀ (H' : Hp) (x : V) (ps : List Part), Off d H H' → Pot H' d (n + 40) → Td K H' x (.tuple (ps.map dPart)) → OkParts shape ps → InFs fs ps → Q x H'
/-- of(box, a list of ints as written) -/
theorem rd_ofI {σ : L2.St} {H : Hp} {E : XK} {d : Addr} {n : Int} {tl : TE} {xs : List Int} {Q : VK} (at0 : σ[0]? = some (some (.ref d))) (hP : Pot H d n) (hn : n ≤ 1000000) (ev : EvL tl σ H (xs.map V.int)) (z0 : 0 < xs.length) (z1 : xs.length ≤ 1000) (k : ∀ H' r, r ∈ xs → Off d H H' → Pot H' d (n + 1) → Q (.int r) H') :
    tCall spOf [] E (tCons (tVar 0) (tCons tl tNil)) σ H Q := by
  refine rd_of (ev_var at0) hP hn ev (by rw [List.length_map]; exact z0) (by rw [List.length_map]; exact z1) fun H' x hx o p => ?_
  obtain ⟨r, hr, rfl⟩ := List.mem_map.mp hx
  exact k H' r hr o p
theorem rd_ofF {σ : L2.St} {H : Hp} {E : XK} {d l : Addr} {n : Int} {i : Nat} {fs : List Int} {Q : VK} (at0 : σ[0]? = some (some (.ref d))) (at2 : σ[i]? = some (some (.ref l))) (hP : Pot H d n) (hn : n ≤ 1000000) (ne : l ≠ d) (hl : H l = some (.lst (fs.map V.int))) (z0 : 0 < fs.length) (z1 : fs.length ≤ 12) (k : ∀ H' r, r ∈ fs → Off d H H' → Pot H' d (n + 1) → Q (.int r) H') :
    tCall spOf [] E (tCons (tVar 0) (tCons (tVar i) tNil)) σ H Q := by
  refine rd_ofV (ev_var at0) (ev_var at2) hP hn ne hl (by rw [List.length_map]; exact z0) (by rw [List.length_map]; omega) fun H' x hx o p => ?_
  obtain ⟨r, hr, rfl⟩ := List.mem_map.mp hx
  exact k H' r hr o p
section
variable {P : Program} {w : World} {K : PySem.W.Frag} {mg : Str → Option Value} {base : Heap}
theorem ok_parts {f fT fO : Addr} {fd fdT fdO : FuncData} (F : Fun K "_law_parts" "_law_parts" sParts f fd) (FT : Fun K "_law_take" "_law_take" sTake fT fdT) (FO : Fun K "_law_of" "_law_of" sOf fO fdO) (bT : Binds K fdT ["_law_box_here", "_law_many"] []) (bO : Binds K fdO ["_law_box_here", "_law_some"] [])
    (gT : mg "_law_take" = some (.ref fT)) (gO : mg "_law_of" = some (.ref fO)) (mL : mg "len" = none) (mR : mg "range" = none) (mT : mg "tuple" = none) (mO : mg "sorted" = none) : FnOk P w K mg base CX0 3 f fd ["_law_box_here", "_law_sort", "_law_numbers_here"] (spParts K) := by
  have GT : FnOk P w K mg base CX0 2 fT fdT ["_law_box_here", "_law_many"] spTake := (ok_take FT).mono (by decide)
  have GO : FnOk P w K mg base CX0 2 fO fdO ["_law_box_here", "_law_some"] spOf := ok_of FO FT bT gT mL
  refine F.ok scParts (fun vs H Q E h => ?_) (fun cdv A outer s H vs Q E hr h => ?_)
  · obtain ⟨d, l, n, shape, fs, rfl, _⟩ := h
    rfl
  · obtain ⟨d, l, n, shape, fs, rfl, pot, hn, nld, hl, f0, f12, fb, fasc, hsh, q⟩ := h
    have hu := hu_of hr
    refine ⟨_, pss_cons (ps_if (pt_cmpR op_eq (pv 1) pe_str (nomark _))
        (pss_one (ps_ret (pe_ifExp (pt_cmpR op_eq (pe_call GT hr (by rfl) gT FT.kp bT .nil pass0 (pa_cons (pv 0) (pa_cons pe_int pa_nil))) pe_int (nomark _)) (pe_tup (pa_cons (pe_call GO hr (by rfl) gO FO.kp bO .nil pass0 (pa_cons (pv 0) (pa_cons (pv 2) pa_nil))) pa_nil)) (pe_tup pa_nil)))) pss_nil) <|
      pss_cons (ps_set (i := 3) scParts.nd rfl (.inr rfl) pe_dnewK) <|
      pss_cons (ps_if (pt_cmpR op_eq (pv 1) pe_str (nomark _))
        (pss_one (ps_for PassesOwn.never rfl (pi_range1 (by rfl) mR (pa_cons (pe_call GO hr (by rfl) gO FO.kp bO .nil pass0 (pa_cons (pv 0) (pa_cons (pe_lst (pa_cons pe_int (pa_cons pe_int (pa_cons pe_int (pa_cons pe_int (pa_cons pe_int (pa_cons pe_int (pa_cons pe_int pa_nil)))))))) pa_nil))) pa_nil)) (pg_name (i := 4) scParts.nd rfl (.inl rfl))
          (pss_one (ps_dput hu (pv 3) (pe_call GT hr (by rfl) gT FT.kp bT .nil pass0 (pa_cons (pv 0) (pa_cons pe_int pa_nil))) (pe_call GO hr (by rfl) gO FO.kp bO .nil pass0 (pa_cons (pv 0) (pa_cons (pv 2) pa_nil))) rfl))))
        (pss_one (ps_for PassesOwn.never rfl (pi_range1 (by rfl) mR (pa_cons (pe_call GO hr (by rfl) gO FO.kp bO .nil pass0 (pa_cons (pv 0) (pa_cons (pe_lst (pa_cons pe_int (pa_cons pe_int (pa_cons pe_int (pa_cons pe_int (pa_cons pe_int (pa_cons pe_int pa_nil))))))) pa_nil))) pa_nil)) (pg_name (i := 4) scParts.nd rfl (.inl rfl))
          (pss_one (ps_dput hu (pv 3) (pe_call GO hr (by rfl) gO FO.kp bO .nil pass0 (pa_cons (pv 0) (pa_cons (pv 2) pa_nil))) (pe_ifExp (pt_cmpR op_gt (pe_call GT hr (by rfl) gT FT.kp bT .nil pass0 (pa_cons (pv 0) (pa_cons pe_int pa_nil))) pe_int (nomark _)) (pe_call GO hr (by rfl) gO FO.kp bO .nil pass0 (pa_cons (pv 0) (pa_cons (pv 2) pa_nil))) pe_non) rfl))))) <|
      pss_one (ps_ret (pe_callTy call_tuple_of (by rfl) mT (by decide +kernel) (pa_cons (pe_lc (own := [("_law_key", 5)]) (g := gName 5) (tt := tYes) (te := tTup (tCons (tVar 5) (tCons (tDGet (tVar 3) (tVar 5)) tNil))) rfl scParts.nd (pi_list (pe_callB (call_sortedDI rfl) (by rfl) mO (by decide +kernel) (pa_cons (pv 3) pa_nil))) (blkOk_by (N := nParts) (sc := defScope sParts) (by decide +kernel))
          (fun _ _ _ _ _ => pg_name (i := 5) scParts.nd rfl (.inl rfl)) (fun _ _ _ _ _ => pts_nil) (fun _ _ _ _ _ => pe_tup (pa_cons (pv 5) (pa_cons (pe_dget hu (pv 3) (pv 5) (fun _ _ => rfl)) pa_nil)))) pa_nil))), ?_⟩
    refine ⟨.str shape, rfl, rfl, _, rfl, ?_⟩
    dsimp only
    by_cases hw : shape = "weak"
    · -- a weak object
      subst hw
      rw [decide_eq_true rfl, if_pos rfl]
      refine ret_of (if_of (et_take0 (ev_var rfl) ev_c pot (by omega) (by decide) (by decide) fun b H1 o1 p1 => ?_))
      cases b with
      | false =>
        rw [if_neg Bool.false_ne_true]
        refine tup_of (n_of ?_)
        refine ⟨by show 0 ≤ sizeLine; decide, fun a ha => ?_⟩
        exact q _ (.ref a) [] (o1.trans (Off.of (Ex.new ha))) ((p1.updD (p1.ne ha)).up (by omega)) (.tup (st_of upd_same) .nil) ⟨by decide, fun _ h => absurd h List.not_mem_nil, .inr (.inr ⟨rfl, fun _ h => absurd h List.not_mem_nil⟩), .nil⟩ (fun _ _ h => absurd h List.not_mem_nil)
      | true =>
        rw [if_pos rfl]
        refine tup_of (c_of (rd_ofF rfl rfl p1 (by omega) nld (o1 l _ nld hl) f0 f12 fun H3 v hv o3 p3 => n_of ⟨by show 1 ≤ sizeLine; decide, fun a ha => ?_⟩))
        refine q _ (.ref a) [.tgt v] ((o1.trans o3).trans (Off.of (Ex.new ha))) ((p3.updD (p3.ne ha)).up (by omega)) (.tup (st_of upd_same) (.cons (.int v) .nil)) ⟨by show 1 ≤ 10; decide, fun z hz j hj => ?_, .inr (.inr ⟨rfl, fun z hz => ⟨v, List.mem_singleton.mp hz⟩⟩), .nil⟩ (fun k' v' h => nomatch List.mem_singleton.mp h)
        rw [List.mem_singleton.mp hz] at hj
        rw [List.mem_singleton.mp hj]
        exact fb v hv
    · rw [decide_eq_false (fun e => hw (by injection e)), if_neg Bool.false_ne_true]
      have hsh2 : shape = "record" ∨ shape = "map" := by
        rcases hsh with e | e | e
        · exact .inl e
        · exact .inr e
        · exact absurd e hw
      show tSeq _ _ _ _ _
      refine seq_of (asg_of (newK_of fun dk hdk0 => ?_))
      have ndk := pot.ne hdk0
      have hD1 : (upd H dk (.dK [])) dk = some (.dK []) := upd_same
      have o1 : Off d H (upd H dk (.dK [])) := Off.of (Ex.new hdk0)
      have p1 := pot.updD (o := .dK []) ndk
      generalize upd H dk (.dK []) = H1 at hD1 o1 p1 ⊢
      dsimp only
      refine seq_join (fun σ' H' => ∃ kvs y4, σ' = [some (.ref d), some (.str shape), some (.ref l), some (.ref dk), y4, none] ∧ Off d H H' ∧ Pot H' d (n + 20) ∧ H' dk = some (.dK kvs) ∧ kvs.length ≤ 6 ∧ Ents (fun k => 0 ≤ k ∧ k ≤ 200) (fun x => ∃ o, x = vO o ∧ (∀ v, o = some v → v ∈ fs) ∧ (shape = "record" → o ≠ none)) kvs) (fun tail => ?_) ?_
      · refine ⟨.str shape, rfl, rfl, _, rfl, ?_⟩
        dsimp only
        by_cases hrec : shape = "record"
        · rw [decide_eq_true (by rw [hrec]), if_pos rfl]
          refine for1_of (c_of (rd_ofI (xs := [0, 1, 1, 2, 2, 3, 6]) rfl p1 (by omega) (el_lst (ea_cons ev_c (ea_cons ev_c (ea_cons ev_c (ea_cons ev_c (ea_cons ev_c (ea_cons ev_c (ea_cons ev_c ea_nil))))))) (by show 7 ≤ 100000; decide)) (by decide) (by decide) fun H2 r hr2 o2 p2 => ?_))
          have rb : 0 ≤ r ∧ r ≤ 6 := (show ∀ r ∈ [0, 1, 1, 2, 2, 3, (6 : Int)], 0 ≤ r ∧ r ≤ 6 by decide) r hr2
          refine n_of ⟨r, rfl, by omega, by omega, for_range (lo := 0) (n := r.toNat) (fun i σ' H' => ∃ kvs y4, σ' = [some (.ref d), some (.str shape), some (.ref l), some (.ref dk), y4, none] ∧ Off d H H' ∧ Pot H' d (n + 1 + 2 * (i : Int)) ∧ H' dk = some (.dK kvs) ∧ kvs.length ≤ i ∧ Ents (fun k => 0 ≤ k ∧ k ≤ 200) (fun x => ∃ o, x = vO o ∧ (∀ v, o = some v → v ∈ fs) ∧ (shape = "record" → o ≠ none)) kvs)
            ⟨[], none, rfl, o1.trans o2, p2.up (by omega), o2 dk _ ndk hD1, Nat.le_refl _, .nil⟩ ?_ ?_⟩
          · rintro i σ' H' hi ⟨kvs, y4, rfl, o, p, hd', len, en⟩
            dsimp only [gName]
            refine put_of (rd_ofF rfl rfl p (by omega) nld (o l _ nld hl) f0 f12 fun H3 v hv o3 p3 => v_of rfl ?_)
            refine rd_take (ev_var rfl) ev_c p3 (by omega) (by decide) (by decide) fun H4 k o4 p4 k0 k1 => ?_
            have hd4 := (o3.trans o4) dk _ ndk hd'
            refine ⟨dk, _, rfl, .k (k := .inl k) hd4 (sz_lt (by omega)), ?_⟩
            exact ⟨_, _, rfl, (o.trans (o3.trans o4)).fresh hdk0, (p4.updD ndk).up (by push_cast; omega), upd_same, Nat.le_trans (length_putK _ _ _) (by omega), en.put (by omega) ⟨some v, rfl, fun v' e => by cases e; exact hv, fun _ e => nomatch e⟩⟩
          · rintro σ' H' ⟨kvs, y4, rfl, o, p, hd', len, en⟩
            exact tail _ _ ⟨kvs, y4, rfl, o, p.up (by omega), hd', by omega, en⟩
        · rw [decide_eq_false (fun e => hrec (by injection e)), if_neg Bool.false_ne_true]
          refine for1_of (c_of (rd_ofI (xs := [0, 1, 2, 2, 3, 5]) rfl p1 (by omega) (el_lst (ea_cons ev_c (ea_cons ev_c (ea_cons ev_c (ea_cons ev_c (ea_cons ev_c (ea_cons ev_c ea_nil)))))) (by show 6 ≤ 100000; decide)) (by decide) (by decide) fun H2 r hr2 o2 p2 => ?_))
          have rb : 0 ≤ r ∧ r ≤ 5 := (show ∀ r ∈ [0, 1, 2, 2, 3, (5 : Int)], 0 ≤ r ∧ r ≤ 5 by decide) r hr2
          refine n_of ⟨r, rfl, by omega, by omega, for_range (lo := 0) (n := r.toNat) (fun i σ' H' => ∃ kvs y4, σ' = [some (.ref d), some (.str shape), some (.ref l), some (.ref dk), y4, none] ∧ Off d H H' ∧ Pot H' d (n + 1 + 3 * (i : Int)) ∧ H' dk = some (.dK kvs) ∧ kvs.length ≤ i ∧ Ents (fun k => 0 ≤ k ∧ k ≤ 200) (fun x => ∃ o, x = vO o ∧ (∀ v, o = some v → v ∈ fs) ∧ (shape = "record" → o ≠ none)) kvs)
            ⟨[], none, rfl, o1.trans o2, p2.up (by omega), o2 dk _ ndk hD1, Nat.le_refl _, .nil⟩ ?_ ?_⟩
          · rintro i σ' H' hi ⟨kvs, y4, rfl, o, p, hd', len, en⟩
            dsimp only [gName]
            have fin : ∀ (H3 : Hp) (ov : Option Int), (∀ v, ov = some v → v ∈ fs) → Off d H' H3 → Pot H3 d (n + 1 + 3 * (i : Int) + 2) → ∀ (H4 : Hp) (k : Int), k ∈ fs → Off d H3 H4 → Pot H4 d (n + 1 + 3 * (i : Int) + 3) → ∃ (a : Addr) (H5 : Hp), V.ref dk = .ref a ∧ DPut H4 a (.int k) (vO ov) H5 ∧ ∃ kvs y4', [some (V.ref d), some (.str shape), some (.ref l), some (.ref dk), some (.int (0 + (i : Int))), none] = [some (.ref d), some (.str shape), some (.ref l), some (.ref dk), y4', none] ∧ Off d H H5 ∧ Pot H5 d (n + 1 + 3 * ((i + 1 : Nat) : Int)) ∧ H5 dk = some (.dK kvs) ∧ kvs.length ≤ i + 1 ∧ Ents (fun k => 0 ≤ k ∧ k ≤ 200) (fun x => ∃ o, x = vO o ∧ (∀ v, o = some v → v ∈ fs) ∧ (shape = "record" → o ≠ none)) kvs := by
              intro H3 ov hov o3 p3 H4 k hk o4 p4
              have hd4 := (o3.trans o4) dk _ ndk hd'
              refine ⟨dk, _, rfl, .k (k := .inl k) hd4 (sz_lt (by omega)), ?_⟩
              exact ⟨_, _, rfl, (o.trans (o3.trans o4)).fresh hdk0, (p4.updD ndk).up (by push_cast; omega), upd_same, Nat.le_trans (length_putK _ _ _) (by omega), en.put (fb k hk) ⟨ov, rfl, hov, fun e => absurd e hrec⟩⟩
            refine put_of (if_of (test_of (op_of (rd_take (ev_var rfl) ev_c p (by omega) (by decide) (by decide) fun H3 r3 o3 p3 _ _ => k_of ⟨r3, 0, rfl, rfl, _, rfl, ?_⟩))))
            split
            · refine rd_ofF rfl rfl p3 (by omega) nld ((o.trans o3) l _ nld hl) f0 f12 fun H4 v hv o4 p4 => v_of rfl ?_
              refine rd_ofF rfl rfl p4 (by omega) nld ((o.trans (o3.trans o4)) l _ nld hl) f0 f12 fun H5 k hk o5 p5 => ?_
              exact fin H4 (some v) (fun v' e => by cases e; exact hv) (o3.trans o4) (p4.up (by omega)) H5 k hk o5 (p5.up (by omega))
            · refine k_of (v_of rfl ?_)
              refine rd_ofF rfl rfl p3 (by omega) nld ((o.trans o3) l _ nld hl) f0 f12 fun H5 k hk o5 p5 => ?_
              exact fin H3 none (fun v' e => nomatch e) o3 (p3.up (by omega)) H5 k hk o5 (p5.up (by omega))
          · rintro σ' H' ⟨kvs, y4, rfl, o, p, hd', len, en⟩
            exact tail _ _ ⟨kvs, y4, rfl, o, p.up (by omega), hd', by omega, en⟩
      · rintro σ' H' ⟨kvs, y4, rfl, o, p, hd', len, en⟩
        obtain ⟨ks, hks, knd, kl, kv⟩ := en.ints
        refine ret_of (cb_of (c_of ?_))
        refine lc_of (iL_of (cb_of (c_of (v_of rfl (n_of ⟨dk, kvs, ks, rfl, .inl hd', hks, by omega, fun ys pl perm srt hp => ⟨pl, rfl, ⟨_, sq_of upd_same⟩, ?_⟩⟩)))))
        intro Dp hDp
        have p2 := p.updD (o := .lst (ys.map V.int)) (p.ne hp)
        have e2 : Ex H' (upd H' pl (.lst (ys.map V.int))) := Ex.new hp
        have hd2 := e2 _ _ hd'
        have l2 : (upd H' pl (.lst (ys.map V.int))) pl = some (.lst (ys.map V.int)) := upd_same
        have npl := p.ne hp
        have yl : ys.length ≤ 6 := by
          rw [perm.length_eq]
          omega
        have asc := strict_of srt (perm.nodup_iff.mpr knd)
        generalize upd H' pl (.lst (ys.map V.int)) = H2 at p2 e2 hd2 l2 hDp ⊢
        refine lcj (K := K) (walk_list (K := K) (a := pl) (xs := ys.map V.int)) (fun i => (ys.map V.int)[i]?) (n := n + 20) (c := 0) (fun i zs H' => ∃ ps, TdAll K H' zs (ps.map dPart) ∧ ps.length ≤ i ∧ SmallIn fs ps ∧ (∀ p ∈ ps, ∃ k o, p = .pair k o ∧ (shape = "record" → o ≠ none)) ∧ ps.filterMap keyOf = ys.take i)
          (fun H' o => sq_of (o pl _ npl l2)) (fun i H x H' y => y) hDp p2 (by decide) (by rw [List.length_map]; omega) (fun _ => ⟨[], .nil, Nat.le_refl _, fun _ h => absurd h List.not_mem_nil, fun _ h => absurd h List.not_mem_nil, rfl⟩) (fun i zs H r => ?_) (fun i zs H H' kk r => ?_) (fun x => rfl) ?_ ?_
        · obtain ⟨ps, t, h, _⟩ := r
          rw [t.len, List.length_map]
          exact h
        · obtain ⟨ps, t, h⟩ := r
          exact ⟨ps, t.keep kk.t, h⟩
        · rintro i x zs H3 hi hx o3 p3 ⟨ps, t, pl2, sm, pr, ke⟩ k1 k0 h1 h0
          rw [List.length_map] at hi
          obtain ⟨k, hk, rfl⟩ := at_map hx
          obtain ⟨kb, v, hv, ov, rfl, ovs, ovr⟩ := kv k (perm.mem_iff.mp (List.mem_of_getElem? hk))
          have hd3 := o3 dk _ ndk hd2
          have kn : ps.filterMap keyOf ++ [k] = ys.take (i + 1) := by rw [ke, take_one hk]
          dsimp only [tYes]
          rw [if_pos rfl]
          have dg : DGet H3 dk (.int k) (some (vO ov)) := by
            have := DGet.k (k := .inl k) hd3
            rw [hv] at this
            exact this
          refine tup_of (c_of (v_of rfl (c_of (dget_of (v_of rfl (v_of rfl ⟨dk, vO ov, rfl, dg, n_of ⟨by show 2 ≤ sizeLine; decide, fun a ha => ?_⟩⟩))))))
          refine h1 _ _ (Off.of (Ex.new ha)) ((p3.updD (p3.ne ha)).up (by push_cast; omega)) ⟨ps ++ [.pair k ov], ?_, by rw [List.length_append, List.length_singleton]; omega, ?_, ?_, ?_⟩
          · rw [List.map_append]
            exact (t.ex (Ex.new ha)).snoc (.tup (st_of upd_same) (.cons (.int k) (.cons (td_vO ov) .nil)))
          · intro z hz
            rcases List.mem_append.mp hz with h | h
            · exact sm z h
            · rw [List.mem_singleton.mp h]
              cases ov with
              | none =>
                refine ⟨fun j hj => ?_, fun k' v' e => nomatch e⟩
                rw [List.mem_singleton.mp hj]
                exact kb
              | some v =>
                refine ⟨fun j hj => ?_, fun k' v' e => ?_⟩
                · rcases List.mem_cons.mp hj with e | h
                  · rw [e]
                    exact kb
                  · rw [List.mem_singleton.mp h]
                    exact fb v (ovs v rfl)
                · cases e
                  exact ovs _ rfl
          · intro z hz
            rcases List.mem_append.mp hz with h | h
            · exact pr z h
            · exact ⟨k, ov, List.mem_singleton.mp h, ovr⟩
          · rw [List.filterMap_append]
            exact kn
        · rintro H5 zs o5 p5 hD5 ⟨ps, t, pl2, sm, pr, ke⟩
          rw [List.length_map] at ke pl2 p5
          rw [List.take_length] at ke
          refine n_of ⟨Dp, zs, rfl, .inl ⟨sq_of hD5, fun a ha => ?_⟩⟩
          refine q _ (.ref a) ps (((o.trans (Off.of e2)).trans o5).trans (Off.of (Ex.new ha))) ((p5.updD (p5.ne ha)).up (by omega)) (.tup (st_of upd_same) (t.ex (Ex.new ha))) ⟨by omega, fun p hp => (sm p hp).1, ?_, by rw [ke]; exact asc⟩ (fun k v hm => (sm _ hm).2 k v rfl)
          rcases hsh2 with e | e
          · refine .inl ⟨e, fun p hp => ?_⟩
            obtain ⟨k, ov, rfl, nn⟩ := pr p hp
            cases ov with
            | none => exact absurd rfl (nn e)
            | some v => exact ⟨k, v, rfl⟩
          · refine .inr (.inl ⟨e, fun p hp => ?_⟩)
            obtain ⟨k, ov, rfl, nn⟩ := pr p hp
            exact ⟨k, ov, rfl⟩
end
end Sn
namespace Sn
open PySem PySem.Spec PyProof.Rows L2 Evl Gd
def NameOk (z : Str) : Prop := (PyData.shown (.str z)).length ≤ 12
def words3 : List Str := ["pin ", "hold ", "queue "]
def names4 : List Str := ["a", "b", "Top", "x"]
theorem grip_len : ∀ w ∈ words3, ∀ i : Fin 201, (PyData.shown (.str (w ++ ((toString ((i.val : Nat) : Int) : String) : Str)))).length ≤ 12 := by decide +kernel
theorem name_len : ∀ w ∈ names4, (PyData.shown (.str w)).length ≤ 12 := by decide +kernel
theorem grip_ok {w : Str} {i : Int} (hw : w ∈ words3) (hi : 0 ≤ i ∧ i ≤ 200) : NameOk (w ++ ((toString i : String) : Str)) := by
  have := grip_len w hw ⟨i.toNat, by omega⟩
  rw [show (((⟨i.toNat, by omega⟩ : Fin 201).val : Nat) : Int) = i from Int.toNat_of_nonneg hi.1] at this
  exact this
/-- w + str(i) -/
theorem ev_grip {σ : L2.St} {H : Hp} {w : Str} {i : Int} {j : Nat} (h : σ[j]? = some (some (.int i))) (hi : 0 ≤ i ∧ i ≤ 200) (hw : w.length ≤ 10) :
    Ev (tOp (fun x y H Q => ∃ i j, x = .str i ∧ y = .str j ∧ i.length + j.length ≤ sizeLine ∧ Q (.str (i ++ j)) H) (tC (.str w)) (tCB (fun xs H Q => ∃ i : Int, xs = [.int i] ∧ i.natAbs.log2 < 1920 ∧ Q (.str (toString i)) H) (tCons (tVar j) tNil))) σ H (.str (w ++ ((toString i : String) : Str))) := by
  intro H1 e1 Q q
  have tl : ((toString i : String) : Str).length ≤ 10 := int_len (by omega)
  refine op_of (k_of (cb_of (c_of (v_of h (n_of ⟨i, rfl, ?_, ⟨w, _, rfl, rfl, ?_, q H1 (Ex.refl H1)⟩⟩)))))
  · have : i.natAbs < 2 ^ 1920 := Nat.lt_of_lt_of_le (show i.natAbs < 2 ^ 10 by omega) (Nat.pow_le_pow_right (by decide) (by decide))
    by_cases z : i.natAbs = 0
    · rw [z]
      decide
    · exact (Nat.log2_lt z).mpr this
  · rw [sizeLine_eq]
    omega
/-- a table with texts as keys, of roots -/
def EntsR (fs : List Int) (kvs : List (Key × V)) : Prop := (kvs.map (·.1)).Nodup ∧ ∀ p ∈ kvs, ∃ z i, p = (.inr z, .int i) ∧ NameOk z ∧ i ∈ fs
theorem EntsR.nil {fs : List Int} : EntsR fs [] := ⟨.nil, fun _ h => absurd h List.not_mem_nil⟩
theorem EntsR.put {fs : List Int} {kvs : List (Key × V)} {z : Str} {i : Int} (h : EntsR fs kvs) (hz : NameOk z) (hi : i ∈ fs) : EntsR fs (putK kvs (.inr z) (.int i)) := by
  refine ⟨put_nodup h.1, fun p hp => ?_⟩
  rcases put_mem hp with e | ⟨m, _⟩
  · exact ⟨z, i, e, hz, hi⟩
  · exact h.2 p m
theorem EntsR.texts {fs : List Int} {kvs : List (Key × V)} (h : EntsR fs kvs) : ∃ ks : List Str, kvs.map (·.1) = ks.map Sum.inr ∧ ks.Nodup ∧ ks.length = kvs.length ∧ ∀ z ∈ ks, NameOk z ∧ ∃ i, valV kvs (.inr z) = some (.int i) ∧ i ∈ fs := by
  have e : ∃ ks : List Str, kvs.map (·.1) = ks.map Sum.inr := by
    have g := h.2
    clear h
    induction kvs with
    | nil => exact ⟨[], rfl⟩
    | cons p r ih =>
      obtain ⟨ks, e⟩ := ih fun q hq => g q (List.mem_cons_of_mem _ hq)
      obtain ⟨k, i, e1, _⟩ := g p List.mem_cons_self
      exact ⟨k :: ks, by rw [List.map_cons, List.map_cons, e, e1]⟩
  obtain ⟨ks, e⟩ := e
  refine ⟨ks, e, ?_, ?_, fun k hk => ?_⟩
  · have := h.1
    rw [e] at this
    exact List.Pairwise.imp (fun q z => q (by rw [z])) (List.pairwise_map.mp this)
  · have := congrArg List.length e
    rw [List.length_map, List.length_map] at this
    exact this.symm
  · have m : (Sum.inr k : Key) ∈ kvs.map (·.1) := by
      rw [e]
      exact List.mem_map.mpr ⟨k, hk, rfl⟩
    obtain ⟨p, hp, e1⟩ := List.mem_map.mp m
    obtain ⟨k2, i, e2, a, b⟩ := h.2 p hp
    have e3 : p.1 = Sum.inr k := e1
    have v := val_at h.1 hp
    rw [e2] at e3 v
    have e4 : k2 = k := Sum.inr.inj e3
    exact ⟨e4 ▸ a, i, by rw [← e4]; exact v, b⟩
abbrev sShot : Stmt := topS 21
abbrev nShot : List Str := ["_law_box_here", "_law_most", "_law_numbers_here", "_law_objects", "_law_roots", "_law_item", "_law_sort", "_law_turn", "_law_root"]
theorem scShot : FnScope nShot ["_law_box_here", "_law_most"] (defScope sShot) := ⟨rfl, rfl, rfl, by decide +kernel, rfl, by decide +kernel, by decide +kernel⟩
/-- what is known of a drawn thing -/
def ThingOk (t : Thing) : Prop := OkParts t.sort t.parts ∧ 0 ≤ t.n ∧ t.n ≤ 200 ∧ (t.home = "counted" ∨ t.home = "traced")
structure Drawn (s : Shot) : Prop where
  len0 : 1 ≤ s.things.length
  len : s.things.length ≤ 12
  th : ∀ t ∈ s.things, ThingOk t
  ins : ∀ t ∈ s.things, InFs (s.things.map Thing.n) t.parts
  asc : (s.things.map Thing.n).Pairwise (· < ·)
  rl : s.roots.length ≤ 3
  rn : (s.roots.map (·.1)).Nodup
  rt : ∀ r ∈ s.roots, NameOk r.1 ∧ r.2 ∈ s.things.map Thing.n
def spShot (K : PySem.W.Frag) : Sp := fun vs H Q _ => ∃ (d : Addr) (n : Int), vs = [.ref d, .int 12] ∧ Pot H d n ∧ n ≤ 700000 ∧
  ∀ (H' : Hp) (x : V) (s : Shot), Off d H H' → Pot H' d (n + 600) → Td K H' x (dShot s) → Drawn s → Q x H'
section
variable {P : Program} {w : World} {K : PySem.W.Frag} {mg : Str → Option Value} {base : Heap}
theorem ok_shot {f fT fO fN fP : Addr} {fd fdT fdO fdN fdP : FuncData} (F : Fun K "_law_shot" "_law_shot" sShot f fd) (FT : Fun K "_law_take" "_law_take" sTake fT fdT) (FO : Fun K "_law_of" "_law_of" sOf fO fdO) (FN : Fun K "_law_numbers" "_law_numbers" sNums fN fdN) (FP : Fun K "_law_parts" "_law_parts" sParts fP fdP)
    (bT : Binds K fdT ["_law_box_here", "_law_many"] []) (bO : Binds K fdO ["_law_box_here", "_law_some"] []) (bN : Binds K fdN ["_law_box_here", "_law_most"] []) (bP : Binds K fdP ["_law_box_here", "_law_sort", "_law_numbers_here"] [])
    (gT : mg "_law_take" = some (.ref fT)) (gO : mg "_law_of" = some (.ref fO)) (gN : mg "_law_numbers" = some (.ref fN)) (gP : mg "_law_parts" = some (.ref fP)) (mL : mg "len" = none) (mS : mg "str" = none) (mT : mg "tuple" = none) (mO : mg "sorted" = none) (mR : mg "range" = none) : FnOk P w K mg base CX0 4 f fd ["_law_box_here", "_law_most"] (spShot K) := by
  have GO : FnOk P w K mg base CX0 3 fO fdO ["_law_box_here", "_law_some"] spOf := (ok_of FO FT bT gT mL).mono (by decide)
  have GN : FnOk P w K mg base CX0 3 fN fdN ["_law_box_here", "_law_most"] spNums := ok_nums FN FT FO bT bO gT gO mL mR
  have GP : FnOk P w K mg base CX0 3 fP fdP ["_law_box_here", "_law_sort", "_law_numbers_here"] (spParts K) := ok_parts FP FT FO bT bO gT gO mL mR mT mO
  refine F.ok scShot (fun vs H Q E h => ?_) (fun cdv A outer s H vs Q E hr h => ?_)
  · obtain ⟨d, n, rfl, _⟩ := h
    rfl
  · obtain ⟨d, n, rfl, pot, hn, q⟩ := h
    have hu := hu_of hr
    refine ⟨_, pss_cons (ps_asg (pe_tup (pa_cons (pe_call GN hr (by rfl) gN FN.kp bN .nil pass0 (pa_cons (pv 0) <| pa_cons (pv 1) pa_nil)) <| pa_cons (pe_lst pa_nil) <| pa_cons pe_dnewK pa_nil)) (pg_tup (n := 3) rfl (pgs_cons (pg_name (i := 2) scShot.nd rfl (.inl rfl)) <| pgs_cons (pg_name (i := 3) scShot.nd rfl (.inl rfl)) <| pgs_cons (pg_name (i := 4) scShot.nd rfl (.inr rfl)) pgs_nil))) <|
      pss_cons (ps_for PassesOwn.never rfl (pi_list (pv 2)) (pg_name (i := 5) scShot.nd rfl (.inl rfl))
        (pss_cons (ps_set (i := 6) scShot.nd rfl (.inl rfl) (pe_call GO hr (by rfl) gO FO.kp bO .nil pass0 (pa_cons (pv 0) <| pa_cons (pe_lst (pa_cons pe_str <| pa_cons pe_str <| pa_cons pe_str <| pa_cons pe_str <| pa_cons pe_str <| pa_cons pe_str pa_nil)) pa_nil))) <|
        pss_one (ps_expr (pe_bm PySem.F.plainAttrs_list PySem.F.slot_list_append PySem.F.type_list_append mt_append (pv 3) (pa_cons (pe_tup (pa_cons (pv 5) <| pa_cons (pe_call GO hr (by rfl) gO FO.kp bO .nil pass0 (pa_cons (pv 0) <| pa_cons (pe_lst (pa_cons pe_str <| pa_cons pe_str pa_nil)) pa_nil)) <| pa_cons (pv 6) <| pa_cons (pe_call GP hr (by rfl) gP FP.kp bP .nil pass0 (pa_cons (pv 0) <| pa_cons (pv 6) <| pa_cons (pv 2) pa_nil)) pa_nil)) pa_nil))))) <|
      pss_cons (ps_for PassesOwn.never rfl (pi_range1 (by rfl) mR (pa_cons (pe_call GO hr (by rfl) gO FO.kp bO .nil pass0 (pa_cons (pv 0) <| pa_cons (pe_lst (pa_cons pe_int <| pa_cons pe_int <| pa_cons pe_int <| pa_cons pe_int <| pa_cons pe_int pa_nil)) pa_nil)) pa_nil)) (pg_name (i := 7) scShot.nd rfl (.inl rfl))
        (pss_cons (ps_set (i := 5) scShot.nd rfl (.inl rfl) (pe_call GO hr (by rfl) gO FO.kp bO .nil pass0 (pa_cons (pv 0) <| pa_cons (pv 2) pa_nil))) <|
        pss_cons (ps_set (i := 8) scShot.nd rfl (.inl rfl) (pe_call GO hr (by rfl) gO FO.kp bO .nil pass0 (pa_cons (pv 0) <| pa_cons (pe_lst (pa_cons pe_str <| pa_cons pe_str <| pa_cons pe_str <| pa_cons pe_str <|
            pa_cons (pe_op op_add_str pe_str (pe_callTy call_str_int (by rfl) mS (by decide +kernel) (pa_cons (pv 5) pa_nil))) <| pa_cons (pe_op op_add_str pe_str (pe_callTy call_str_int (by rfl) mS (by decide +kernel) (pa_cons (pv 5) pa_nil))) <| pa_cons (pe_op op_add_str pe_str (pe_callTy call_str_int (by rfl) mS (by decide +kernel) (pa_cons (pv 5) pa_nil))) pa_nil)) pa_nil))) <|
        pss_one (ps_dput hu (pv 4) (pv 8) (pv 5) rfl))) <|
      pss_one (ps_ret (pe_tup (pa_cons (pe_callTy call_tuple_of (by rfl) mT (by decide +kernel) (pa_cons (pe_lc (own := [("_law_root", 8)]) (g := gName 8) (tt := tYes) (te := tTup (tCons (tVar 8) (tCons (tDGet (tVar 4) (tVar 8)) tNil))) rfl scShot.nd (pi_list (pe_callB (call_sortedD rfl) (by rfl) mO (by decide +kernel) (pa_cons (pv 4) pa_nil))) (blkOk_by (N := nShot) (sc := defScope sShot) (by decide +kernel))
          (fun _ _ _ _ _ => pg_name (i := 8) scShot.nd rfl (.inl rfl)) (fun _ _ _ _ _ => pts_nil) (fun _ _ _ _ _ => pe_tup (pa_cons (pv 8) <| pa_cons (pe_dget hu (pv 4) (pv 8) (fun _ _ => rfl)) pa_nil))) pa_nil)) <| pa_cons (pe_callTy call_tuple_of (by rfl) mT (by decide +kernel) (pa_cons (pv 3) pa_nil)) pa_nil))), ?_⟩
    refine seq_of (asgG_of (tup_of (c_of (call_of (c_of (v_of rfl (c_of (v_of rfl (n_of ⟨d, n, rfl, pot, by omega, fun H1 l fs o1 p1 nld hl0 hl fl fl2 fb fasc => ?_⟩)))))))))
    refine c_of (lst_of (n_of ⟨Nat.zero_le _, fun th hth => ?_⟩))
    have nthd := p1.ne hth
    have nlt : l ≠ th := ne_of_none hl hth
    have eA : Ex H1 (upd H1 th (.lst [])) := Ex.new hth
    have lA := eA _ _ hl
    have tA : (upd H1 th (.lst [])) th = some (.lst []) := upd_same
    have pA := p1.ex eA
    have oA := o1.trans (Off.of eA)
    have Hth : H th = none := by
      cases e : H th with
      | none => rfl
      | some o => rw [o1 th o nthd e] at hth; cases hth
    generalize upd H1 th (.lst []) = HA at eA lA tA pA oA ⊢
    refine c_of (newK_of fun dk hdk => n_of ⟨by show 3 ≤ sizeLine; decide, fun p3 hp3 => ?_⟩)
    have ndk := pA.ne hdk
    have nld2 : l ≠ dk := ne_of_none lA hdk
    have ntd2 : th ≠ dk := ne_of_none tA hdk
    have Hdk : H dk = none := by
      cases e : H dk with
      | none => rfl
      | some o => rw [oA dk o ndk e] at hdk; cases hdk
    have eB : Ex HA (upd HA dk (.dK [])) := Ex.new hdk
    have eC : Ex (upd HA dk (.dK [])) (upd (upd HA dk (.dK [])) p3 (.tup [.ref l, .ref th, .ref dk])) := Ex.new hp3
    have lC := (eB.trans eC) _ _ lA
    have tC := (eB.trans eC) _ _ tA
    have dC := eC _ _ (upd_same (H := HA) (a := dk) (o := .dK []))
    have pC := pA.ex (eB.trans eC)
    have oC := oA.trans (Off.of (eB.trans eC))
    refine ⟨p3, _, rfl, st_of upd_same, rfl, .ref l, _, rfl, .ref th, _, rfl, .ref dk, _, rfl, rfl, ?_⟩
    generalize upd (upd HA dk (.dK [])) p3 (.tup [.ref l, .ref th, .ref dk]) = HC at lC tC dC pC oC ⊢
    refine ⟨.ref l, rfl, l, rfl, ⟨_, sq_of lC⟩, for_list (K := K) (a := l) (xs := fs.map V.int) (fun i σ' H' => ∃ y5 y6 ts ys, σ' = [some (.ref d), some (.int 12), some (.ref l), some (.ref th), some (.ref dk), y5, y6, none, none] ∧ Off d H H' ∧ Pot H' d (n + 30 + 42 * (i : Int)) ∧ H' l = some (.lst (fs.map V.int)) ∧ H' th = some (.lst ys) ∧ H' dk = some (.dK []) ∧ TdAll K H' ys (ts.map dThing) ∧ ts.map Thing.n = fs.take i ∧ ∀ t ∈ ts, ThingOk t ∧ InFs fs t.parts)
      ⟨none, none, [], [], rfl, oC, pC.up (by omega), lC, tC, dC, .nil, rfl, fun _ h => absurd h List.not_mem_nil⟩ (fun i σ' H' _ ⟨_, _, _, _, _, _, _, h, _⟩ => sq_of h) ?_ ?_⟩
    · rintro i x σ' H' hx ⟨y5, y6, ts, ys, rfl, o, p, hl', ht', hd', td, tn, tok⟩
      obtain ⟨k, hk, rfl⟩ := at_map hx
      have il : i < fs.length := (List.getElem?_eq_some_iff.mp hk).1
      have kb := fb k (List.mem_of_getElem? hk)
      have tsl : ts.length = i := by
        have := congrArg List.length tn
        rw [List.length_map, List.length_take] at this
        omega
      dsimp only [gName]
      refine seq_of (asg_of (rd_of (ev_var rfl) p (by omega) (el_lst (ea_cons ev_c (ea_cons ev_c (ea_cons ev_c (ea_cons ev_c (ea_cons ev_c (ea_cons ev_c ea_nil)))))) (by show 6 ≤ 100000; decide)) (by show 0 < 6; decide) (by show 6 ≤ 1000; decide) fun H4 x hx o4 p4 => ?_))
      obtain ⟨sh, hsh, rfl⟩ : ∃ sh : Str, (sh = "record" ∨ sh = "map" ∨ sh = "weak") ∧ x = .str sh := by
        simp only [List.mem_cons, List.not_mem_nil, or_false] at hx
        rcases hx with e | e | e | e | e | e
        · exact ⟨_, .inl rfl, e⟩
        · exact ⟨_, .inl rfl, e⟩
        · exact ⟨_, .inl rfl, e⟩
        · exact ⟨_, .inr (.inl rfl), e⟩
        · exact ⟨_, .inr (.inl rfl), e⟩
        · exact ⟨_, .inr (.inr rfl), e⟩
      have hth4 := o4 th _ nthd ht'
      have hl4 := o4 l _ nld hl'
      refine ⟨.ref th, rfl, .inl ⟨rfl, _, sq_of hth4⟩, ?_⟩
      refine c_of (tup_of (c_of (v_of rfl ?_)))
      refine c_of (rd_of (ev_var rfl) p4 (by omega) (el_lst (ea_cons ev_c (ea_cons ev_c ea_nil)) (by show 2 ≤ 100000; decide)) (by show 0 < 2; decide) (by show 2 ≤ 1000; decide) fun H5 x hx o5 p5 => ?_)
      refine c_of (v_of rfl ?_)
      refine c_of (call_of ?_)
      refine c_of (v_of rfl (c_of (v_of rfl (c_of (v_of rfl (n_of ?_))))))
      obtain ⟨hm, hhm, rfl⟩ : ∃ hm : Str, (hm = "counted" ∨ hm = "traced") ∧ x = .str hm := by
        rcases List.mem_cons.mp hx with e | hx
        · exact ⟨_, .inl rfl, e⟩
        · rw [List.mem_singleton.mp hx]
          exact ⟨_, .inr rfl, rfl⟩
      have hl5 := o5 l _ nld hl4
      refine ⟨d, l, n + 30 + 42 * (i : Int) + 1 + 1, sh, fs, rfl, p5, by omega, nld, hl5, by omega, fl2, fb, fasc, hsh, fun H6 x ps o6 p6 tdx okp inf => ?_⟩
      refine n_of ⟨by show 4 ≤ sizeLine; decide, fun a ha => ?_⟩
      have e7 : Ex H6 (upd H6 a (.tup [.int k, .str hm, .str sh, x])) := Ex.new ha
      have td7 : Td K (upd H6 a (.tup [.int k, .str hm, .str sh, x])) (.ref a) (dThing ⟨k, hm, sh, ps⟩) := .tup (st_of upd_same) (.cons (.int k) (.cons (.str hm) (.cons (.str sh) (.cons (tdx.ex e7) .nil))))
      have o47 : Off d H' (upd H6 a (.tup [.int k, .str hm, .str sh, x])) := ((o4.trans o5).trans o6).trans (Off.of e7)
      have p7 := p6.ex e7
      generalize upd H6 a (.tup [.int k, .str hm, .str sh, x]) = H7 at e7 td7 o47 p7 ⊢
      have ht7 := o47 th _ nthd ht'
      have yl : ys.length = i := by
        rw [td.len, List.length_map, tsl]
      refine n_of ⟨th, ys, _, rfl, rfl, ht7, sz_lt (by omega), ?_⟩
      have k8 : KeepT K H7 (upd H7 th (.lst (ys ++ [.ref a]))) := .lst ht7 fun a o n h => by
        rw [upd_ne n]
        exact h
      refine ⟨_, _, ts ++ [⟨k, hm, sh, ps⟩], ys ++ [.ref a], rfl, (o.trans o47).fresh Hth, (p7.updD nthd).up (by push_cast; omega), ?_, upd_same, ?_, ?_, ?_, fun t ht => ?_⟩
      · rw [upd_ne nlt]
        exact o47 l _ nld hl'
      · rw [upd_ne ntd2.symm]
        exact o47 dk _ ndk hd'
      · rw [List.map_append]
        exact ((td.keep (keepOff p o47)).snoc td7).keep k8
      · rw [List.map_append, tn, take_one hk]
        rfl
      · rcases List.mem_append.mp ht with h | h
        · exact tok t h
        · rw [List.mem_singleton.mp h]
          exact ⟨⟨okp, kb.1, kb.2, hhm⟩, inf⟩
    · rintro σ' H' ⟨y5, y6, ts, ys, rfl, o, p, hl', ht', hd', td, tn, tok⟩
      rw [List.length_map] at tn p
      rw [List.take_length] at tn
      have tsl : ts.length = fs.length := by
        rw [← tn, List.length_map]
      refine seq_of (for1_of (c_of (rd_ofI (xs := [1, 1, 2, 3, 0]) rfl p (by omega) (el_lst (ea_cons ev_c (ea_cons ev_c (ea_cons ev_c (ea_cons ev_c (ea_cons ev_c ea_nil))))) (by show 5 ≤ 100000; decide)) (by decide) (by decide) fun H2 r hr2 o2 p2 => ?_)))
      have rb : 0 ≤ r ∧ r ≤ 3 := (show ∀ r ∈ [1, 1, 2, 3, (0 : Int)], 0 ≤ r ∧ r ≤ 3 by decide) r hr2
      refine n_of ⟨r, rfl, by omega, by omega, for_range (lo := 0) (n := r.toNat) (fun i σ' H' => ∃ y5 y6 y7 y8 kvs, σ' = [some (.ref d), some (.int 12), some (.ref l), some (.ref th), some (.ref dk), y5, y6, y7, y8] ∧ Off d H H' ∧ Pot H' d (n + 540 + 2 * (i : Int)) ∧ H' l = some (.lst (fs.map V.int)) ∧ H' th = some (.lst ys) ∧ TdAll K H' ys (ts.map dThing) ∧ H' dk = some (.dK kvs) ∧ kvs.length ≤ i ∧ EntsR fs kvs)
        ⟨_, _, _, _, [], rfl, o.trans o2, p2.up (by omega), o2 l _ nld hl', o2 th _ nthd ht', td.keep (keepOff p o2), o2 dk _ ndk hd', Nat.le_refl _, .nil⟩ ?_ ?_⟩
      · rintro i σ' H3 hi ⟨y5, y6, y7, y8, kvs, rfl, o3, p3, hl3, ht3, td3, hd3, len, en⟩
        dsimp only [gName]
        refine seq_of (asg_of (rd_ofF rfl rfl p3 (by omega) nld hl3 (by omega) fl2 fun H4 k hk o4 p4 => ?_))
        have kb := fb k hk
        dsimp only
        refine seq_of (asg_of (rd_of (ev_var rfl) p4 (by omega) (el_lst (ea_cons ev_c (ea_cons ev_c (ea_cons ev_c (ea_cons ev_c (ea_cons (ev_grip (j := 5) rfl kb (by decide)) (ea_cons (ev_grip (j := 5) rfl kb (by decide)) (ea_cons (ev_grip (j := 5) rfl kb (by decide)) ea_nil))))))) (by show 7 ≤ 100000; decide)) (by show 0 < 7; decide) (by show 7 ≤ 1000; decide) fun H5 x hx o5 p5 => ?_))
        obtain ⟨z, hz, rfl⟩ : ∃ z : Str, NameOk z ∧ x = .str z := by
          simp only [List.mem_cons, List.not_mem_nil, or_false] at hx
          rcases hx with e | e | e | e | e | e | e
          · exact ⟨_, name_len _ (by decide), e⟩
          · exact ⟨_, name_len _ (by decide), e⟩
          · exact ⟨_, name_len _ (by decide), e⟩
          · exact ⟨_, name_len _ (by decide), e⟩
          · exact ⟨_, grip_ok (w := "pin ") (by decide) kb, e⟩
          · exact ⟨_, grip_ok (w := "hold ") (by decide) kb, e⟩
          · exact ⟨_, grip_ok (w := "queue ") (by decide) kb, e⟩
        have o35 := o4.trans o5
        have hd5 := o35 dk _ ndk hd3
        dsimp only
        refine put_of (v_of rfl (v_of rfl (v_of rfl ⟨dk, _, rfl, .k (k := .inr z) hd5 (sz_lt (by omega)), ?_⟩)))
        have k8 : KeepT K H5 (upd H5 dk (.dK (putK kvs (.inr z) (.int k)))) := .off hd5 ⟨(fun _ x => nomatch x), (fun _ _ x => nomatch x)⟩ fun a o n h => by
          rw [upd_ne n]
          exact h
        refine ⟨_, _, _, _, _, rfl, (o3.trans o35).fresh Hdk, (p5.updD ndk).up (by push_cast; omega), ?_, ?_, (td3.keep (keepOff p3 o35)).keep k8, upd_same, Nat.le_trans (length_putK _ _ _) (by omega), en.put hz hk⟩
        · rw [upd_ne nld2]
          exact o35 l _ nld hl3
        · rw [upd_ne ntd2]
          exact o35 th _ nthd ht3
      · rintro σ' H3 ⟨y5, y6, y7, y8, kvs, rfl, o3, p3, hl3, ht3, td3, hd3, len, en⟩
        obtain ⟨ks, hks, knd, kl, kv⟩ := en.texts
        dsimp only
        refine ret_of (tup_of (c_of (cb_of (c_of ?_))))
        refine lc_of (iL_of (cb_of (c_of (v_of rfl (n_of ⟨dk, kvs, ks, rfl, .inl hd3, hks, by omega, fun zs pl perm srt hp => ⟨pl, rfl, ⟨_, sq_of upd_same⟩, ?_⟩⟩)))))
        intro Dp hDp
        have p4 := p3.updD (o := .lst (zs.map V.str)) (p3.ne hp)
        have e4 : Ex H3 (upd H3 pl (.lst (zs.map V.str))) := Ex.new hp
        have hd4 := e4 _ _ hd3
        have l4 : (upd H3 pl (.lst (zs.map V.str))) pl = some (.lst (zs.map V.str)) := upd_same
        have npl := p3.ne hp
        have yl : zs.length ≤ 3 := by
          rw [perm.length_eq]
          omega
        generalize upd H3 pl (.lst (zs.map V.str)) = H4 at p4 e4 hd4 l4 hDp ⊢
        refine lcj (K := K) (walk_list (K := K) (a := pl) (xs := zs.map V.str)) (fun i => (zs.map V.str)[i]?) (n := n + 546) (c := 0) (fun i us H' => ∃ rs : List (Str × Int), TdAll K H' us (rs.map dRoot) ∧ rs.length ≤ i ∧ rs.map (·.1) = zs.take i ∧ ∀ r ∈ rs, NameOk r.1 ∧ r.2 ∈ fs)
          (fun H' o => sq_of (o pl _ npl l4)) (fun i H x H' y => y) hDp (p4.up (by omega)) (by decide) (by rw [List.length_map]; omega) (fun _ => ⟨[], .nil, Nat.le_refl _, rfl, fun _ h => absurd h List.not_mem_nil⟩) (fun i us H r => ?_) (fun i us H H' kk r => ?_) (fun x => rfl) ?_ ?_
        · obtain ⟨ps, t, h, _⟩ := r
          rw [t.len, List.length_map]
          exact h
        · obtain ⟨ps, t, h⟩ := r
          exact ⟨ps, t.keep kk.t, h⟩
        · rintro i x us H5 hi hx o5 p5 ⟨rs, t, rl, rn, rt⟩ k1 k0 h1 h0
          rw [List.length_map] at hi
          obtain ⟨z, hz, rfl⟩ : ∃ z, zs[i]? = some z ∧ x = V.str z := by
            rw [List.getElem?_map] at hx
            cases e : zs[i]? with
            | none => rw [e] at hx; cases hx
            | some z => rw [e] at hx; exact ⟨z, rfl, (Option.some.inj hx).symm⟩
          obtain ⟨nz, k, hv, hk⟩ := kv z (perm.mem_iff.mp (List.mem_of_getElem? hz))
          have hd5 := o5 dk _ ndk hd4
          dsimp only [tYes]
          rw [if_pos rfl]
          have dg : DGet H5 dk (.str z) (some (.int k)) := by
            have := DGet.k (k := .inr z) hd5
            rw [hv] at this
            exact this
          refine tup_of (c_of (v_of rfl (c_of (dget_of (v_of rfl (v_of rfl ⟨dk, .int k, rfl, dg, n_of ⟨by show 2 ≤ sizeLine; decide, fun a ha => ?_⟩⟩))))))
          refine h1 _ _ (Off.of (Ex.new ha)) ((p5.updD (p5.ne ha)).up (by push_cast; omega)) ⟨rs ++ [(z, k)], ?_, by rw [List.length_append, List.length_singleton]; omega, ?_, ?_⟩
          · rw [List.map_append]
            exact (t.ex (Ex.new ha)).snoc (.tup (st_of upd_same) (.cons (.str z) (.cons (.int k) .nil)))
          · rw [List.map_append, rn, take_one hz]
            rfl
          · intro r hr
            rcases List.mem_append.mp hr with h | h
            · exact rt r h
            · rw [List.mem_singleton.mp h]
              exact ⟨nz, hk⟩
        · rintro H5 us o5 p5 hD5 ⟨rs, t, rl, rn, rt⟩
          rw [List.length_map] at rn rl p5
          rw [List.take_length] at rn
          refine n_of ⟨Dp, us, rfl, .inl ⟨sq_of hD5, fun a ha => ?_⟩⟩
          have e6 : Ex H5 (upd H5 a (.tup us)) := Ex.new ha
          have tx6 : Td K (upd H5 a (.tup us)) (.ref a) (.tuple (rs.map dRoot)) := .tup (st_of upd_same) (t.ex e6)
          have o36 := ((Off.of e4 (d := d)).trans o5).trans (Off.of e6)
          have th6 := o36 th _ nthd ht3
          have td6 := td3.keep (keepOff p3 o36)
          have p6 := p5.ex e6
          generalize upd H5 a (.tup us) = H6 at e6 tx6 o36 th6 td6 p6 ⊢
          refine c_of (cb_of (c_of (v_of rfl (n_of ⟨th, ys, rfl, .inl ⟨sq_of th6, fun a1 h1 => n_of ⟨by show 2 ≤ sizeLine; decide, fun a2 h2 => ?_⟩⟩⟩))))
          have e7 : Ex H6 (upd H6 a1 (.tup ys)) := Ex.new h1
          have e8 : Ex (upd H6 a1 (.tup ys)) (upd (upd H6 a1 (.tup ys)) a2 (.tup [.ref a, .ref a1])) := Ex.new h2
          refine q _ (.ref a2) ⟨rs, ts⟩ ((o3.trans o36).trans (Off.of (e7.trans e8))) ((p6.ex (e7.trans e8)).up (by omega)) ?_ ⟨by show 1 ≤ ts.length; omega, by show ts.length ≤ 12; omega, fun t ht => (tok t ht).1, fun t ht => by rw [show (Shot.mk rs ts).things.map Thing.n = _ from tn]; exact (tok t ht).2, by rw [show (Shot.mk rs ts).things.map Thing.n = _ from tn]; exact fasc, by show rs.length ≤ 3; omega, ?_, fun r hr => ?_⟩
          · exact .tup (st_of upd_same) (.cons (tx6.ex (e7.trans e8)) (.cons (.tup (st_of (e8 _ _ upd_same)) (td6.ex (e7.trans e8))) .nil))
          · show (rs.map (·.1)).Nodup
            rw [rn]
            exact perm.nodup_iff.mpr knd
          · rw [show (Shot.mk rs ts).things.map Thing.n = _ from tn]
            exact rt r hr
end
end Sn
namespace Sn
open PySem PySem.Spec PyProof.Rows L2 Evl Gd
theorem nodup_len {α : Type} [DecidableEq α] : ∀ {a b : List α}, a.Nodup → (∀ x ∈ a, x ∈ b) → a.length ≤ b.length
  | [], _, _, _ => Nat.zero_le _
  | x :: a, b, nd, h => by
    obtain ⟨p, q, e⟩ := List.append_of_mem (h x List.mem_cons_self)
    have nx := (List.nodup_cons.mp nd).1
    have r := nodup_len (b := p ++ q) (List.nodup_cons.mp nd).2 fun y hy => by
      have m := h y (List.mem_cons_of_mem _ hy)
      rw [e] at m
      rcases List.mem_append.mp m with m | m
      · exact List.mem_append.mpr (.inl m)
      · rcases List.mem_cons.mp m with m | m
        · rw [m] at hy
          exact absurd hy nx
        · exact List.mem_append.mpr (.inr m)
    rw [e, List.length_append, List.length_cons, List.length_cons]
    rw [List.length_append] at r
    omega
theorem Live.tgt {as : List Arc} {n : Int} (h : Live as n) : n ∈ as.map Arc.tgt := by
  cases h with
  | mk m _ => exact List.mem_map.mpr ⟨_, m, rfl⟩
theorem live_len {as : List Arc} {met : List Int} (nd : met.Nodup) (h : ∀ n ∈ met, Live as n) : met.length ≤ as.length := by
  have := nodup_len (b := as.map Arc.tgt) nd fun x hx => (h x hx).tgt
  rw [List.length_map] at this
  exact this
def insAll (met : List Int) (ns : List Int) : List Int := ns.foldl insT met
theorem merge_true : ∀ (ns met : List Int), mergeK (kTrue met) (ns.map fun n => (Sum.inl n, V.bl true)) = kTrue (insAll met ns)
  | [], met => rfl
  | n :: ns, met => by
    show mergeK (putK (kTrue met) (.inl n) (.bl true)) (ns.map fun n => (Sum.inl n, V.bl true)) = _
    rw [put_ins]
    exact merge_true ns (insT met n)
theorem insAll_mem : ∀ (ns met : List Int) (m : Int), m ∈ insAll met ns ↔ m ∈ met ∨ m ∈ ns
  | [], met, m => by simp [insAll]
  | n :: ns, met, m => by
    show m ∈ insAll (insT met n) ns ↔ _
    rw [insAll_mem ns (insT met n) m, insT_mem, List.mem_cons, or_assoc]
theorem insAll_nodup : ∀ (ns met : List Int), met.Nodup → (insAll met ns).Nodup
  | [], _, h => h
  | n :: ns, met, h => insAll_nodup ns (insT met n) (insT_nodup h)
/-- may be shown by repr: depth at most k, at most L signs -/
structure Fit (d : PyData) (k L : Nat) : Prop where
  sh : d.showable = true
  nd : d.hasDict = false
  dp : d.depth ≤ k
  ln : d.shown.length ≤ L
structure FitAll (ds : List PyData) (k L : Nat) : Prop where
  sh : PyData.showableAll ds = true
  nd : PyData.hasDictAll ds = false
  dp : PyData.depthAll ds ≤ k
  ln : piled (PyData.shownAll ds) ≤ L
theorem Fit.up {d : PyData} {k L k' L' : Nat} (h : Fit d k L) (a : k ≤ k') (b : L ≤ L') : Fit d k' L' := ⟨h.sh, h.nd, Nat.le_trans h.dp a, Nat.le_trans h.ln b⟩
theorem FitAll.nil {k L : Nat} : FitAll [] k L := ⟨rfl, rfl, Nat.zero_le _, Nat.zero_le _⟩
theorem FitAll.cons {d : PyData} {ds : List PyData} {k a b L : Nat} (h : Fit d k a) (g : FitAll ds k b) (e : a + 2 + b ≤ L) : FitAll (d :: ds) k L := by
  refine ⟨?_, ?_, ?_, ?_⟩
  · rw [PyData.showableAll, h.sh, g.sh]
    rfl
  · rw [PyData.hasDictAll, h.nd, g.nd]
    rfl
  · rw [PyData.depthAll]
    have := h.dp
    have := g.dp
    omega
  · rw [PyData.shownAll, piled_cons]
    have := h.ln
    have := g.ln
    omega
theorem FitAll.map {α : Type} {f : α → PyData} {k a : Nat} : ∀ {l : List α}, (∀ x ∈ l, Fit (f x) k a) → FitAll (l.map f) k ((a + 2) * l.length)
  | [], _ => .nil
  | x :: l, h => by
    refine FitAll.cons (h x List.mem_cons_self) (FitAll.map fun y hy => h y (List.mem_cons_of_mem _ hy)) ?_
    rw [List.length_cons, Nat.mul_succ]
    omega
theorem FitAll.up {ds : List PyData} {k L k' L' : Nat} (h : FitAll ds k L) (a : k ≤ k') (b : L ≤ L') : FitAll ds k' L' := ⟨h.sh, h.nd, Nat.le_trans h.dp a, Nat.le_trans h.ln b⟩
theorem FitAll.tup {ds : List PyData} {k L : Nat} (h : FitAll ds k L) : Fit (.tuple ds) (k + 1) (L + 2) := by
  refine ⟨?_, ?_, ?_, ?_⟩
  · rw [PyData.showable]
    exact h.sh
  · rw [PyData.hasDict]
    exact h.nd
  · rw [PyData.depth]
    have := h.dp
    omega
  · rw [PyData.shown]
    have := fmt_text (PyData.shownAll ds)
    have := h.ln
    omega
theorem FitAll.lst {ds : List PyData} {k L : Nat} (h : FitAll ds k L) : Fit (.list ds) (k + 1) (L + 3) := by
  refine ⟨?_, ?_, ?_, ?_⟩
  · rw [PyData.showable]
    exact h.sh
  · rw [PyData.hasDict]
    exact h.nd
  · rw [PyData.depth]
    have := h.dp
    omega
  · rw [PyData.shown]
    have h1 := listText_len_le (PyData.shownAll ds)
    have h2 := h.ln
    have h3 : ∀ ts : List Str, (ts.map (·.length)).sum + 2 * ts.length = piled ts := by
      intro ts
      induction ts with
      | nil => rfl
      | cons t ts ih =>
        rw [piled_cons, List.map_cons, List.sum_cons, List.length_cons, ← ih]
        omega
    rw [h3] at h1
    omega
theorem fit_int {i : Int} (h : 0 ≤ i ∧ i ≤ 1000) : Fit (.int i) 0 10 := by
  have hb : i.natAbs < 10 ^ 9 := by omega
  refine ⟨?_, rfl, Nat.le_refl _, int_len hb⟩
  have := ints_show [i] (fun m hm => by rw [List.mem_singleton.mp hm]; exact hb)
  rw [List.map_cons, List.map_nil, PyData.showableAll, PyData.showableAll, Bool.and_true] at this
  exact this
theorem fit_none : Fit .none 0 10 := ⟨rfl, rfl, Nat.le_refl _, by decide +kernel⟩
theorem fit_str {z : Str} {L : Nat} (h : (PyData.shown (.str z)).length ≤ L) : Fit (.str z) 0 L := ⟨rfl, rfl, Nat.le_refl _, h⟩
theorem fit_part {p : Part} (h : ∀ i ∈ partInts p, 0 ≤ i ∧ i ≤ 200) : Fit (dPart p) 1 30 := by
  cases p with
  | tgt n =>
    have := h n List.mem_cons_self
    exact (fit_int (i := n) ⟨this.1, by omega⟩).up (by decide) (by decide)
  | pair k v =>
    cases v with
    | none =>
      have := h k List.mem_cons_self
      exact (FitAll.cons (fit_int ⟨this.1, by omega⟩) (FitAll.cons fit_none (FitAll.nil (L := 0)) (Nat.le_refl _)) (Nat.le_refl _)).tup.up (by decide) (by decide)
    | some v =>
      have h1 := h k List.mem_cons_self
      have h2 := h v (List.mem_cons_of_mem _ List.mem_cons_self)
      exact (FitAll.cons (fit_int ⟨h1.1, by omega⟩) (FitAll.cons (fit_int ⟨h2.1, by omega⟩) (FitAll.nil (L := 0)) (Nat.le_refl _)) (Nat.le_refl _)).tup.up (by decide) (by decide)
theorem fit_thing {t : Thing} (h : ThingOk t) : Fit (dThing t) 3 400 := by
  obtain ⟨⟨pl, sm, sh, _⟩, n0, n1, hm⟩ := h
  have f1 : Fit (.str t.home) 2 12 := by
    rcases hm with e | e
    · rw [e]
      exact (fit_str (L := 12) (by decide +kernel)).up (by decide) (by decide)
    · rw [e]
      exact (fit_str (L := 12) (by decide +kernel)).up (by decide) (by decide)
  have f2 : Fit (.str t.sort) 2 12 := by
    rcases sh with ⟨e, _⟩ | ⟨e, _⟩ | ⟨e, _⟩
    · rw [e]
      exact (fit_str (L := 12) (by decide +kernel)).up (by decide) (by decide)
    · rw [e]
      exact (fit_str (L := 12) (by decide +kernel)).up (by decide) (by decide)
    · rw [e]
      exact (fit_str (L := 12) (by decide +kernel)).up (by decide) (by decide)
  have f3 : Fit (.tuple (t.parts.map dPart)) 2 322 := (FitAll.map fun p hp => fit_part (sm p hp)).tup.up (by decide) (by omega)
  exact (FitAll.cons ((fit_int (i := t.n) ⟨n0, by omega⟩).up (by decide) (Nat.le_refl _)) (FitAll.cons f1 (FitAll.cons f2 (FitAll.cons f3 (FitAll.nil (L := 0)) (Nat.le_refl _)) (Nat.le_refl _)) (Nat.le_refl _)) (Nat.le_refl _)).tup.up (by decide) (by decide)
theorem Drawn.nums {s : Shot} (h : Drawn s) : ∀ i ∈ s.things.map Thing.n, 0 ≤ i ∧ i ≤ 200 := by
  intro i hi
  obtain ⟨t, ht, rfl⟩ := List.mem_map.mp hi
  exact ⟨(h.th t ht).2.1, (h.th t ht).2.2.1⟩
theorem fit_root {r : Str × Int} (h1 : NameOk r.1) (h2 : 0 ≤ r.2 ∧ r.2 ≤ 200) : Fit (dRoot r) 1 30 :=
  (FitAll.cons (fit_str h1) (FitAll.cons (fit_int ⟨h2.1, by omega⟩) (FitAll.nil (L := 0)) (Nat.le_refl _)) (Nat.le_refl _)).tup.up (by decide) (by decide)
theorem Drawn.fit {s : Shot} (h : Drawn s) : Fit (dShot s) 5 10000 := by
  have f1 : Fit (.tuple (s.roots.map dRoot)) 4 1200 := (FitAll.map fun r m => fit_root (h.rt r m).1 (h.nums _ (h.rt r m).2)).tup.up (by decide) (by have := h.rl; omega)
  have f2 : Fit (.tuple (s.things.map dThing)) 4 5000 := (FitAll.map fun t m => fit_thing (h.th t m)).tup.up (by decide) (by have := h.len; omega)
  exact (FitAll.cons f1 (FitAll.cons f2 (FitAll.nil (L := 0)) (Nat.le_refl _)) (Nat.le_refl _)).tup.up (by decide) (by decide)
theorem thingArcs_len (t : Thing) : (thingArcs t).length ≤ t.parts.length := by
  unfold thingArcs
  split
  · exact List.length_filterMap_le _ _
  · split
    · exact List.length_filterMap_le _ _
    · exact Nat.zero_le _
theorem arcs_len (s : Shot) (k : Nat) (h : ∀ t ∈ s.things, t.parts.length ≤ k) : (arcsOf s).length ≤ s.roots.length + k * s.things.length := by
  unfold arcsOf
  rw [List.length_append, List.length_map]
  have : ∀ l : List Thing, (∀ t ∈ l, t.parts.length ≤ k) → (l.flatMap thingArcs).length ≤ k * l.length := by
    intro l hl
    induction l with
    | nil => exact Nat.zero_le _
    | cons t l ih =>
      rw [List.flatMap_cons, List.length_append, List.length_cons, Nat.mul_succ]
      have h1 := ih fun t ht => hl t (List.mem_cons_of_mem _ ht)
      have h2 := thingArcs_len t
      have h3 := hl t List.mem_cons_self
      omega
  have := this s.things h
  omega
theorem Drawn.tgts {s : Shot} (h : Drawn s) {α : Arc} (m : α ∈ arcsOf s) : α.tgt ∈ s.things.map Thing.n := by
  rcases List.mem_append.mp m with m | m
  · obtain ⟨r, hr, rfl⟩ := List.mem_map.mp m
    exact (h.rt r hr).2
  · obtain ⟨t, ht, m⟩ := List.mem_flatMap.mp m
    unfold thingArcs at m
    split at m
    · obtain ⟨p, hp, e⟩ := List.mem_filterMap.mp m
      unfold slotArc at e
      split at e
      · cases e
        exact h.ins t ht _ _ hp
      · cases e
    · split at m
      · obtain ⟨p, hp, e⟩ := List.mem_filterMap.mp m
        unfold entryArc at e
        split at e
        · cases e
          exact h.ins t ht _ _ hp
        · cases e
      · cases m
theorem Drawn.ok {s : Shot} (h : Drawn s) : okShot s := by
  have h1 := arcs_len s 10 fun t ht => (h.th t ht).1.1
  have h2 := h.rl
  have h3 := h.len
  refine ok_shot_of (fun t ht => (h.th t ht).1.2.2.1) (fun t ht => ?_) (h.asc.imp fun {a b} l e => by omega) (fun α m => h.tgts m) (by omega) (by omega)
  have := (h.th t ht).1.1
  omega
theorem Drawn.few {s : Shot} (h : Drawn s) {met : List Int} (nd : met.Nodup) (l : ∀ n ∈ met, Live (arcsOf s) n) : met.length ≤ 12 := by
  have h1 := nodup_len (b := s.things.map Thing.n) nd fun n hn => by
    cases l n hn with
    | mk m _ => exact h.tgts m
  rw [List.length_map] at h1
  have := h.len
  omega
theorem thing_link {t : Thing} {α : Arc} (h : α ∈ thingArcs t) : ∃ w k, α.link = [w, .inl t.n, k] := by
  unfold thingArcs at h
  split at h
  · obtain ⟨p, hp, e⟩ := List.mem_filterMap.mp h
    unfold slotArc at e
    split at e
    · cases e
      exact ⟨_, _, rfl⟩
    · cases e
  · split at h
    · obtain ⟨p, hp, e⟩ := List.mem_filterMap.mp h
      unfold entryArc at e
      split at e
      · cases e
        exact ⟨_, _, rfl⟩
      · cases e
    · cases h
/-- no two arcs have one link -/
theorem Drawn.links {s : Shot} (h : Drawn s) : ((arcsOf s).map Arc.link).Nodup := by
  unfold List.Nodup
  rw [List.pairwise_map]
  unfold arcsOf
  rw [List.pairwise_append]
  refine ⟨?_, ?_, ?_⟩
  · rw [List.pairwise_map]
    refine List.Pairwise.imp (fun {a b} z e => z ?_) (List.pairwise_map.mp h.rn)
    have e1 : ([.inr "root", .inr a.1] : List Key) = [.inr "root", .inr b.1] := e
    injection e1 with _ e2
    injection e2 with e3 _
    exact Sum.inr.inj e3
  · rw [List.pairwise_flatMap]
    refine ⟨fun t ht => ?_, ?_⟩
    · have as := List.pairwise_filterMap.mp (h.th t ht).1.2.2.2
      unfold thingArcs
      split
      · rw [List.pairwise_filterMap]
        refine List.Pairwise.imp (fun {p q} z a ha b hb e => ?_) as
        unfold slotArc at ha hb
        split at ha
        · split at hb
          · cases ha
            cases hb
            have z1 := z _ rfl _ rfl
            injection e with _ e2
            injection e2 with _ e3
            injection e3 with e4 _
            have := Sum.inl.inj e4
            omega
          · cases hb
        · cases ha
      · split
        · rw [List.pairwise_filterMap]
          refine List.Pairwise.imp (fun {p q} z a ha b hb e => ?_) as
          unfold entryArc at ha hb
          split at ha
          · split at hb
            · cases ha
              cases hb
              have z1 := z _ rfl _ rfl
              injection e with _ e2
              injection e2 with _ e3
              injection e3 with e4 _
              have := Sum.inl.inj e4
              omega
            · cases hb
          · cases ha
        · exact .nil
    · refine List.Pairwise.imp (fun {t u} z x hx y hy e => ?_) (List.pairwise_map.mp h.asc)
      obtain ⟨w, k, e1⟩ := thing_link hx
      obtain ⟨w2, k2, e2⟩ := thing_link hy
      rw [e1, e2] at e
      injection e with _ e
      injection e with e _
      have := Sum.inl.inj e
      omega
  · intro a ha b hb e
    obtain ⟨r, hr, rfl⟩ := List.mem_map.mp ha
    obtain ⟨t, ht, hb⟩ := List.mem_flatMap.mp hb
    obtain ⟨w2, k2, e2⟩ := thing_link hb
    rw [e2] at e
    injection e with _ e
    injection e with _ e
    cases e
theorem pre_new {s : Shot} (h : Drawn s) {as : List Arc} {α : Arc} (p : as ++ [α] <+: arcsOf s) : α.link ∉ as.map Arc.link ∧ as.length < 1000 := by
  have nd := h.links.sublist (p.sublist.map Arc.link)
  rw [List.map_append, List.nodup_append] at nd
  have l := p.length_le
  rw [List.length_append, List.length_singleton] at l
  have := h.ok.arcs
  refine ⟨fun m => nd.2.2 _ m _ (by simp) rfl, by omega⟩
end Sn
namespace L2
open PySem PySem.Spec PyProof.Rows
end L2
namespace Sn
open PySem PySem.Spec PyProof.Rows L2 Evl Gd
abbrev sWays : Stmt := topS 22
abbrev nWays : List Str := ["_law_shot_here", "_law_found", "_law_root", "_law_item", "_law_home", "_law_sort", "_law_parts_here", "_law_key", "_law_other"]
theorem scWays : FnScope nWays ["_law_shot_here"] (defScope sWays) := ⟨rfl, rfl, rfl, by decide +kernel, rfl, by decide +kernel, by decide +kernel⟩
/-- (target, [sources]) -/
def WayAt (H : Hp) (v : V) (α : Arc) : Prop := ∃ t l, v = .ref t ∧ H t = some (.tup [.int α.tgt, .ref l]) ∧ H l = some (.lst (α.src.map V.int))
theorem WayAt.keep {H H' : Hp} {v : V} {α : Arc} (h : WayAt H v α) (e : ∀ a o, (∀ k, o ≠ .dT k) → H a = some o → H' a = some o) : WayAt H' v α := by
  obtain ⟨t, l, h1, h2, h3⟩ := h
  exact ⟨t, l, h1, e _ _ (fun _ z => nomatch z) h2, e _ _ (fun _ z => nomatch z) h3⟩
theorem WayAt.ex {H H' : Hp} {v : V} {α : Arc} (h : WayAt H v α) (e : Ex H H') : WayAt H' v α := h.keep fun a o _ => e a o
abbrev tabW (zs : List (V × Arc)) : List (List Key × V) := zs.map fun z => (z.2.link, z.1)
/-- the table of ways that grows -/
def Wg (H H' : Hp) (D : Addr) (as : List Arc) : Prop := Ex H H' ∧ ∃ zs : List (V × Arc), H' D = some (.dT (tabW zs)) ∧ zs.map Prod.snd = as ∧ ∀ z ∈ zs, WayAt H' z.1 z.2
theorem tab_none {zs : List (V × Arc)} {k : List Key} (h : k ∉ (zs.map Prod.snd).map Arc.link) : valV (tabW zs) k = none := by
  induction zs with
  | nil => rfl
  | cons z r ih =>
    rw [List.map_cons, List.map_cons] at h
    show valV ((z.2.link, z.1) :: tabW r) k = none
    rw [valV_neg (fun e => h (by rw [show z.2.link = k from e]; exact List.mem_cons_self))]
    exact ih fun m => h (List.mem_cons_of_mem _ m)
theorem Wg.add {H H' H4 : Hp} {D b : Addr} {v : V} {as : List Arc} {α : Arc} (g : Wg H H' D as) (hD : H D = none) (e : Ex H' H4) (hb : H4 b = some (.tup (α.link.map kV))) (hw : WayAt H4 v α) (nl : α.link ∉ as.map Arc.link) (sz : as.length < 1000) : ∃ H5, DPut H4 D (.ref b) v H5 ∧ Wg H H5 D (as ++ [α]) := by
  obtain ⟨g1, zs, g2, g3, g4⟩ := g
  have d4 := e _ _ g2
  have len : zs.length = as.length := by rw [← g3, List.length_map]
  refine ⟨_, .t d4 hb (sz_lt (by rw [List.length_map]; omega)), Ex.mut (g1.trans e) hD, zs ++ [(v, α)], ?_, by rw [List.map_append, g3]; rfl, fun z hz => ?_⟩
  · rw [upd_same, putK_new v (tab_none (by rw [g3]; exact nl))]
    show some (HO.dT _) = some (HO.dT ((zs ++ [(v, α)]).map _))
    rw [List.map_append]
    rfl
  · have kp : ∀ a o, (∀ k, o ≠ .dT k) → H4 a = some o → upd H4 D (.dT (putK (tabW zs) α.link v)) a = some o := fun a o no h => by
      rw [upd_ne]
      · exact h
      · intro q
        rw [q, d4] at h
        exact no _ (Option.some.inj h).symm
    rcases List.mem_append.mp hz with m | m
    · exact ((g4 z m).ex e).keep kp
    · rw [List.mem_singleton.mp m]
      exact hw.keep kp
/-- (other, [..]) as it is displayed -/
theorem rd_way {σ : L2.St} {H : Hp} {ts : TA} {to : TE} (α : Arc) (ho : Ev to σ H (.int α.tgt)) (hs : EvA ts σ H (α.src.map V.int)) (z : α.src.length ≤ 1000)
    {Q : VK} (k : ∀ v H2, Ex H H2 → WayAt H2 v α → Q v H2) : tTup (tCons to (tCons (tLst ts) tNil)) σ H Q := by
  refine ho H (Ex.refl H) _ fun H1 e1 => ?_
  refine hs _ e1 _ fun H2 e2 => ⟨sz_of (by rw [List.length_map]; omega), fun l hl => ?_⟩
  refine ⟨by show 2 ≤ sizeLine; decide, fun t ht => ?_⟩
  have e3 : Ex H2 (upd H2 l (.lst (α.src.map V.int))) := Ex.new hl
  have e4 : Ex (upd H2 l (.lst (α.src.map V.int))) (upd (upd H2 l (.lst (α.src.map V.int))) t (.tup [.int α.tgt, .ref l])) := Ex.new ht
  exact k (.ref t) _ ((e1.trans e2).trans (e3.trans e4)) ⟨t, l, rfl, upd_same, e4 _ _ upd_same⟩
theorem rd_key {σ : L2.St} {H : Hp} {tl : TA} (ks : List Key) (hl : EvA tl σ H (ks.map kV)) (z : ks.length ≤ 1000) {Q : VK} (k : ∀ b H2, Ex H H2 → H2 b = some (.tup (ks.map kV)) → Q (.ref b) H2) : tTup tl σ H Q := by
  refine hl H (Ex.refl H) _ fun H1 e1 => ⟨sz_of (by rw [List.length_map]; omega), fun p hp => ?_⟩
  exact k p _ (e1.trans (Ex.new hp)) upd_same
theorem pre_root {s : Shot} {i : Nat} {r : Str × Int} (h : s.roots[i]? = some r) : (s.roots.take i).map rootArc ++ [rootArc r] <+: arcsOf s := by
  have e : (s.roots.take (i + 1)).map rootArc = (s.roots.take i).map rootArc ++ [rootArc r] := by
    rw [take_one h, List.map_append]
    rfl
  rw [← e]
  unfold arcsOf
  conv => rhs; rw [← List.take_append_drop (i + 1) s.roots, List.map_append, List.append_assoc]
  exact List.prefix_append _ _
theorem pre_thing {s : Shot} {i : Nat} {t : Thing} (h : s.things[i]? = some t) {L : List Arc} (hL : L <+: thingArcs t) : s.roots.map rootArc ++ (s.things.take i).flatMap thingArcs ++ L <+: arcsOf s := by
  unfold arcsOf
  rw [List.append_assoc]
  refine List.prefix_append_right_inj _ |>.mpr ?_
  have e : (s.things.take (i + 1)).flatMap thingArcs = (s.things.take i).flatMap thingArcs ++ thingArcs t := flatMap_snoc _ h
  have h1 : (s.things.take i).flatMap thingArcs ++ thingArcs t <+: s.things.flatMap thingArcs := by
    rw [← e]
    conv => rhs; rw [← List.take_append_drop (i + 1) s.things, List.flatMap_append]
    exact List.prefix_append _ _
  exact ((List.prefix_append_right_inj _).mpr hL).trans h1
theorem pre_part {α : Type} {β : Type} {l : List α} {j : Nat} {x : α} {y : β} {f : α → Option β} (h : l[j]? = some x) (e : f x = some y) : (l.take j).filterMap f ++ [y] <+: l.filterMap f := by
  have e1 : (l.take (j + 1)).filterMap f = (l.take j).filterMap f ++ [y] := by
    rw [filterMap_snoc _ h, e]
    rfl
  rw [← e1]
  conv => rhs; rw [← List.take_append_drop (j + 1) l, List.filterMap_append]
  exact List.prefix_append _ _
def spWays (K : PySem.W.Frag) : Sp := fun vs H Q _ => ∃ (x : V) (s : Shot), vs = [x] ∧ Td K H x (dShot s) ∧ Drawn s ∧
  ∀ (H' : Hp) (q : Addr) (zs : List (V × Arc)), Ex H H' → H q = none → H' q = some (.dT (tabW zs)) → zs.map Prod.snd = arcsOf s → (∀ z ∈ zs, WayAt H' z.1 z.2) → Q (.ref q) H'
section
variable {P : Program} {w : World} {K : PySem.W.Frag} {mg : Str → Option Value} {base : Heap}
theorem ok_ways {f : Addr} {fd : FuncData} (F : Fun K "_law_ways" "_law_ways" sWays f fd) : FnOk P w K mg base CX0 1 f fd ["_law_shot_here"] (spWays K) := by
  refine F.ok scWays (fun vs H Q E h => ?_) (fun cdv A outer s H vs Q E hr h => ?_)
  · obtain ⟨x, s, rfl, _⟩ := h
    rfl
  · obtain ⟨x, s, rfl, ht, dr, q⟩ := h
    have hu := hu_of hr
    refine ⟨_, pss_cons (ps_set (i := 1) scWays.nd rfl (.inl rfl) pe_dnewT) <|
      pss_cons (ps_for PassesOwn.never rfl (pi_tup (pe_ix ix_tup (pv 0) pe_int (fun _ _ => rfl))) (pg_tup (n := 2) rfl (pgs_cons (pg_name (i := 2) scWays.nd rfl (.inl rfl)) <| pgs_cons (pg_name (i := 3) scWays.nd rfl (.inl rfl)) pgs_nil))
        (pss_one (ps_dput hu (pv 1) (pe_tup (pa_cons pe_str <| pa_cons (pv 2) pa_nil)) (pe_tup (pa_cons (pv 3) <| pa_cons (pe_lst pa_nil) pa_nil)) rfl))) <|
      pss_cons (ps_for PassesOwn.never rfl (pi_tup (pe_ix ix_tup (pv 0) pe_int (fun _ _ => rfl))) (pg_tup (n := 4) rfl (pgs_cons (pg_name (i := 3) scWays.nd rfl (.inl rfl)) <| pgs_cons (pg_name (i := 4) scWays.nd rfl (.inl rfl)) <| pgs_cons (pg_name (i := 5) scWays.nd rfl (.inl rfl)) <| pgs_cons (pg_name (i := 6) scWays.nd rfl (.inl rfl)) pgs_nil))
        (pss_one (ps_for PassesOwn.never rfl (pi_seq (pe_ifExp (pt_cmpR op_ne (pv 5) pe_str (nomark _)) (pv 6) (pe_lst pa_nil))) (pg_tup (n := 2) rfl (pgs_cons (pg_name (i := 7) scWays.nd rfl (.inl rfl)) <| pgs_cons (pg_name (i := 8) scWays.nd rfl (.inl rfl)) pgs_nil))
          (pss_one (ps_if (pt_cmpR op_eq (pv 5) pe_str (nomark _))
            (pss_one (ps_dput hu (pv 1) (pe_tup (pa_cons pe_str <| pa_cons (pv 3) <| pa_cons (pv 7) pa_nil)) (pe_tup (pa_cons (pv 8) <| pa_cons (pe_lst (pa_cons (pv 3) pa_nil)) pa_nil)) rfl))
            (pss_one (ps_if (pt_cmpR op_notN (pv 8) pe_non (nomark _)) (pss_one (ps_dput hu (pv 1) (pe_tup (pa_cons pe_str <| pa_cons (pv 3) <| pa_cons (pv 7) pa_nil)) (pe_tup (pa_cons (pv 8) <| pa_cons (pe_lst (pa_cons (pv 3) <| pa_cons (pv 7) pa_nil)) pa_nil)) rfl)) pss_nil))))))) <|
      pss_one (ps_ret (pv 1)), ?_⟩
    obtain ⟨p, xr, xo, rfl, sp, tr, to⟩ := Td.inv2 ht
    obtain ⟨pr, rs, rfl, spr, tr⟩ := tr.inv_tup
    obtain ⟨po, os, rfl, spo, to⟩ := to.inv_tup
    refine seq_of (asg_of (fun D hD => ?_))
    have g0 : Wg H (upd H D (.dT [])) D [] := ⟨Ex.new hD, [], upd_same, rfl, fun _ h => absurd h List.not_mem_nil⟩
    generalize upd H D (.dT []) = H1 at g0 ⊢
    dsimp only
    refine ⟨.ref p, rfl, p, _, 0, _, rfl, rfl, ex_t g0.1 sp, atI_nat (j := 0) rfl, pr, rfl, ⟨_, ex_t g0.1 spr⟩, for_tup (xs := rs) (fun i σ' Hc => ∃ y2 y3, σ' = [some (.ref p), some (.ref D), y2, y3, none, none, none, none, none] ∧ Wg H Hc D ((s.roots.take i).map rootArc))
      ⟨none, none, rfl, g0⟩ (fun i σ' Hc _ ⟨_, _, _, g⟩ => ex_t g.1 spr) ?_ ?_⟩
    · rintro i x σ' Hc hx ⟨y2, y3, rfl, g⟩
      obtain ⟨δ, hδ, hT⟩ := tr.get hx
      obtain ⟨r, hr, rfl⟩ := map_at hδ
      obtain ⟨b, w1, w2, rfl, s3, u1, u2⟩ := Td.inv2 hT
      rw [u1.inv_str, u2.inv_int] at s3
      refine ⟨b, _, rfl, ex_t g.1 s3, rfl, .str r.1, _, rfl, .int r.2, _, rfl, rfl, ?_⟩
      dsimp only [gName]
      have pn := pre_new dr (pre_root hr)
      refine put_of (rd_way (rootArc r) (ev_var (by rfl)) ea_nil (by show 0 ≤ 1000; decide) fun v H2 e2 hw => v_of (by rfl) (rd_key [.inr "root", .inr r.1] (ea_cons ev_c (ea_cons (ev_var (by rfl)) ea_nil)) (by show 2 ≤ 1000; decide) fun b2 H3 e3 hb => ?_))
      obtain ⟨H5, dp, gg⟩ := g.add hD (e2.trans e3) hb (hw.ex e3) pn.1 pn.2
      refine ⟨D, H5, rfl, dp, _, _, rfl, ?_⟩
      rw [take_one hr, List.map_append]
      exact gg
    · rintro σ' Hc ⟨y2, y3, rfl, g⟩
      have lr := tr.len
      rw [List.length_map] at lr
      rw [lr, List.take_length] at g
      dsimp only
      refine ⟨.ref p, rfl, p, _, 1, _, rfl, rfl, ex_t g.1 sp, atI_nat (j := 1) rfl, po, rfl, ⟨_, ex_t g.1 spo⟩, for_tup (xs := os) (fun i σ' Hc => ∃ y2 y3 y4 y5 y6 y7 y8, σ' = [some (.ref p), some (.ref D), y2, y3, y4, y5, y6, y7, y8] ∧ Wg H Hc D (s.roots.map rootArc ++ (s.things.take i).flatMap thingArcs))
        ⟨_, _, _, _, _, _, _, rfl, by rw [List.take_zero, List.flatMap_nil, List.append_nil]; exact g⟩ (fun i σ' Hc _ ⟨_, _, _, _, _, _, _, _, g⟩ => ex_t g.1 spo) ?_ ?_⟩
      · rintro i x σ' Hc hx ⟨y2, y3, y4, y5, y6, y7, y8, rfl, g⟩
        obtain ⟨δ, hδ, hT⟩ := to.get hx
        obtain ⟨t, ht1, rfl⟩ := map_at hδ
        obtain ⟨a, v1, v2, v3, v4, rfl, s1, t1, t2, t3, t4⟩ := Td.inv4 hT
        rw [t1.inv_int, t2.inv_str, t3.inv_str] at s1
        obtain ⟨pp, ps, rfl, s2, tp⟩ := t4.inv_tup
        refine ⟨a, _, rfl, ex_t g.1 s1, rfl, .int t.n, _, rfl, .str t.home, _, rfl, .str t.sort, _, rfl, .ref pp, _, rfl, rfl, ?_⟩
        dsimp only [gName]
        have eT : ∀ {as' : List Arc}, s.roots.map rootArc ++ (s.things.take (i + 1)).flatMap thingArcs = s.roots.map rootArc ++ (s.things.take i).flatMap thingArcs ++ thingArcs t := by
          intro _
          rw [flatMap_snoc _ ht1, List.append_assoc]
        rcases dr.ok.1 t (List.mem_of_getElem? ht1) with ⟨srt, hp⟩ | ⟨srt, hp⟩ | ⟨srt, hp⟩
        · -- a record
          have eA : thingArcs t = t.parts.filterMap (slotArc t.n) := by
            unfold thingArcs
            rw [if_pos srt]
          rw [srt]
          refine forS_of (ifE_yes (fun k hk => test_of (op_of (v_of rfl (k_of ⟨rfl, _, rfl, by rw [show decide (V.str "record" = V.str "weak") = false from by decide +kernel]; exact hk⟩)))) ?_)
          refine v_of rfl ⟨pp, rfl, .inr ⟨⟨_, ex_t g.1 s2⟩, for_tup (xs := ps) (fun j σ' Hd => ∃ y7 y8, σ' = [some (.ref p), some (.ref D), y2, some (.int t.n), some (.str t.home), some (.str "record"), some (.ref pp), y7, y8] ∧ Wg H Hd D (s.roots.map rootArc ++ (s.things.take i).flatMap thingArcs ++ (t.parts.take j).filterMap (slotArc t.n)))
            ⟨y7, y8, rfl, by rw [List.take_zero, List.filterMap_nil, List.append_nil]; exact g⟩ (fun j σ' Hd _ ⟨_, _, _, g⟩ => ex_t g.1 s2) ?_ ?_⟩⟩
          · rintro j x σ' Hd hx ⟨y7, y8, rfl, g⟩
            obtain ⟨δ, hδ, hT⟩ := tp.get hx
            obtain ⟨pt, hp1, rfl⟩ := map_at hδ
            obtain ⟨k, v, rfl⟩ := hp pt (List.mem_of_getElem? hp1)
            obtain ⟨b, w1, w2, rfl, s3, u1, u2⟩ := Td.inv2 hT
            rw [u1.inv_int, Td.inv_int u2] at s3
            refine ⟨b, _, rfl, ex_t g.1 s3, rfl, .int k, _, rfl, .int v, _, rfl, rfl, ?_⟩
            dsimp only [gName]
            have pn := pre_new dr (by
              have := pre_thing ht1 (L := _) (by rw [eA]; exact pre_part (y := ⟨[.inr "slot", .inl t.n, .inl k], [t.n], v⟩) hp1 rfl)
              rw [← List.append_assoc] at this
              exact this)
            refine ⟨_, rfl, rfl, _, rfl, ?_⟩
            dsimp only
            rw [decide_eq_true rfl, if_pos rfl]
            refine put_of (rd_way ⟨[.inr "slot", .inl t.n, .inl k], [t.n], v⟩ (ev_var (by rfl)) (ea_cons (ev_var (by rfl)) ea_nil) (by show 1 ≤ 1000; decide) fun v' H2 e2 hw => v_of (by rfl) (rd_key [.inr "slot", .inl t.n, .inl k] (ea_cons ev_c (ea_cons (ev_var (by rfl)) (ea_cons (ev_var (by rfl)) ea_nil))) (by show 3 ≤ 1000; decide) fun b2 H3 e3 hb => ?_))
            obtain ⟨H5, dp, gg⟩ := g.add hD (e2.trans e3) hb (hw.ex e3) pn.1 pn.2
            refine ⟨D, H5, rfl, dp, _, _, rfl, ?_⟩
            rw [filterMap_snoc _ hp1, ← List.append_assoc]
            exact gg
          · rintro σ' Hd ⟨y7, y8, rfl, g⟩
            have lps := tp.len
            rw [List.length_map] at lps
            rw [lps, List.take_length, ← eA] at g
            refine ⟨_, _, _, _, _, _, _, rfl, ?_⟩
            rw [eT (as' := [])]
            exact g
        · -- a map
          have eA : thingArcs t = t.parts.filterMap (entryArc t.n) := by
            unfold thingArcs
            rw [srt, if_neg (by decide +kernel), if_pos rfl]
          rw [srt]
          refine forS_of (ifE_yes (fun k hk => test_of (op_of (v_of rfl (k_of ⟨rfl, _, rfl, by rw [show decide (V.str "map" = V.str "weak") = false from by decide +kernel]; exact hk⟩)))) ?_)
          refine v_of rfl ⟨pp, rfl, .inr ⟨⟨_, ex_t g.1 s2⟩, for_tup (xs := ps) (fun j σ' Hd => ∃ y7 y8, σ' = [some (.ref p), some (.ref D), y2, some (.int t.n), some (.str t.home), some (.str "map"), some (.ref pp), y7, y8] ∧ Wg H Hd D (s.roots.map rootArc ++ (s.things.take i).flatMap thingArcs ++ (t.parts.take j).filterMap (entryArc t.n)))
            ⟨y7, y8, rfl, by rw [List.take_zero, List.filterMap_nil, List.append_nil]; exact g⟩ (fun j σ' Hd _ ⟨_, _, _, g⟩ => ex_t g.1 s2) ?_ ?_⟩⟩
          · rintro j x σ' Hd hx ⟨y7, y8, rfl, g⟩
            obtain ⟨δ, hδ, hT⟩ := tp.get hx
            obtain ⟨pt, hp1, rfl⟩ := map_at hδ
            obtain ⟨k, v, rfl⟩ := hp pt (List.mem_of_getElem? hp1)
            obtain ⟨b, w1, w2, rfl, s3, u1, u2⟩ := Td.inv2 hT
            rw [u1.inv_int] at s3
            refine ⟨b, _, rfl, ex_t g.1 s3, rfl, .int k, _, rfl, w2, _, rfl, rfl, ?_⟩
            dsimp only [gName]
            refine ⟨_, rfl, rfl, _, rfl, ?_⟩
            dsimp only
            rw [decide_eq_false (by decide +kernel), if_neg Bool.false_ne_true]
            cases v with
            | none =>
              rw [Td.inv_non u2]
              refine ⟨_, rfl, rfl, _, rfl, ?_⟩
              dsimp only
              rw [if_neg (by decide)]
              refine ⟨_, _, rfl, ?_⟩
              rw [filterMap_snoc _ hp1]
              show Wg H Hd D (_ ++ ((t.parts.take j).filterMap (entryArc t.n) ++ []))
              rw [List.append_nil]
              exact g
            | some v =>
              rw [Td.inv_int u2]
              have pn := pre_new dr (by
                have := pre_thing ht1 (L := _) (by rw [eA]; exact pre_part (y := ⟨[.inr "entry", .inl t.n, .inl k], [t.n, k], v⟩) hp1 rfl)
                rw [← List.append_assoc] at this
                exact this)
              refine ⟨_, rfl, rfl, _, rfl, ?_⟩
              dsimp only
              rw [if_pos (show (!decide (V.int v = V.non)) = true from by simp)]
              refine put_of (rd_way ⟨[.inr "entry", .inl t.n, .inl k], [t.n, k], v⟩ (ev_var (by rfl)) (ea_cons (ev_var (by rfl)) (ea_cons (ev_var (by rfl)) ea_nil)) (by show 2 ≤ 1000; decide) fun v' H2 e2 hw => v_of (by rfl) (rd_key [.inr "entry", .inl t.n, .inl k] (ea_cons ev_c (ea_cons (ev_var (by rfl)) (ea_cons (ev_var (by rfl)) ea_nil))) (by show 3 ≤ 1000; decide) fun b2 H3 e3 hb => ?_))
              obtain ⟨H5, dp, gg⟩ := g.add hD (e2.trans e3) hb (hw.ex e3) pn.1 pn.2
              refine ⟨D, H5, rfl, dp, _, _, rfl, ?_⟩
              rw [filterMap_snoc _ hp1, ← List.append_assoc]
              exact gg
          · rintro σ' Hd ⟨y7, y8, rfl, g⟩
            have lps := tp.len
            rw [List.length_map] at lps
            rw [lps, List.take_length, ← eA] at g
            refine ⟨_, _, _, _, _, _, _, rfl, ?_⟩
            rw [eT (as' := [])]
            exact g
        · -- a weak object
          have eA : thingArcs t = [] := by
            unfold thingArcs
            rw [srt, if_neg (by decide +kernel), if_neg (by decide +kernel)]
          rw [srt]
          refine forS_of (ifE_no (fun k hk => test_of (op_of (v_of rfl (k_of ⟨rfl, _, rfl, by rw [show decide (V.str "weak" = V.str "weak") = true from by decide +kernel]; exact hk⟩)))) ?_)
          refine lst_of (n_of ⟨Nat.zero_le _, fun el hel => ?_⟩)
          have e2 : Ex Hc (upd Hc el (.lst [])) := Ex.new hel
          have g2 : Wg H (upd Hc el (.lst [])) D (s.roots.map rootArc ++ (s.things.take i).flatMap thingArcs) := by
            obtain ⟨ga, zs, gb, gc, gd⟩ := g
            exact ⟨ga.trans e2, zs, e2 _ _ gb, gc, fun z hz => (gd z hz).ex e2⟩
          have l2 : (upd Hc el (.lst [])) el = some (.lst []) := upd_same
          refine ⟨el, rfl, .inl ⟨⟨_, sq_of l2⟩, for_list (K := K) (a := el) (xs := []) (fun j σ' Hd => σ' = [some (.ref p), some (.ref D), y2, some (.int t.n), some (.str t.home), some (.str "weak"), some (.ref pp), y7, y8] ∧ Hd = upd Hc el (.lst []))
            ⟨rfl, rfl⟩ (fun j σ' Hd _ h => by rw [h.2]; exact sq_of l2) ?_ ?_⟩⟩
          · intro j x σ' Hd hx _
            simp at hx
          · rintro σ' Hd ⟨rfl, rfl⟩
            refine ⟨_, _, _, _, _, _, _, rfl, ?_⟩
            rw [eT (as' := []), eA, List.append_nil]
            exact g2
      · rintro σ' Hc ⟨y2, y3, y4, y5, y6, y7, y8, rfl, g⟩
        have lts := to.len
        rw [List.length_map] at lts
        rw [lts, List.take_length] at g
        obtain ⟨g1, zs, g2, g3, g4⟩ := g
        exact ⟨.ref D, rfl, q Hc D zs g1 hD g2 g3 g4⟩
end
end Sn
namespace L2
open PySem PySem.Spec PyProof.Rows
/-- x not in () -/
def rNotIn0 (K : PySem.W.Frag) : R2 := fun x y H Q => ∃ p, y = .ref p ∧ SqT K H p [] ∧ Q (.bl true) H
theorem op_notIn0 {X : Cx} : OpR X (compareOp .NotIn) (rNotIn0 X.K) := by
  intro pins s σ H x y v u Q I rx ry h
  obtain ⟨p, rfl, hq, q⟩ := h
  cases ry
  obtain ⟨its, r, pl, hz⟩ := I.tuple hq
  cases r
  refine SeqAt.notIn_tupleAt (fun _ => false) pl (fun w hw => by simp at hw) ⟨.bl true, H, I, ?_, q⟩
  show Value.bool _ = Value.bool true
  simp
end L2
namespace Sn
open PySem PySem.Spec PyProof.Rows L2 Evl Gd
abbrev sAliv : Stmt := topS 23
abbrev nAliv : List Str := ["_law_shot_here", "_law_gone", "_law_cut", "_law_ways_here", "_law_seen", "_law_many", "_law_link", "_law_item", "_law_wants", "_law_want"]
theorem scAliv : FnScope nAliv ["_law_shot_here", "_law_gone", "_law_cut"] (defScope sAliv) := ⟨rfl, rfl, rfl, by decide +kernel, rfl, by decide +kernel, by decide +kernel⟩
theorem WayAt.keep2 {H H' : Hp} {v : V} {α : Arc} (h : WayAt H v α) (e1 : ∀ a xs, H a = some (.tup xs) → H' a = some (.tup xs)) (e2 : ∀ a xs, H a = some (.lst xs) → H' a = some (.lst xs)) : WayAt H' v α := by
  obtain ⟨t, l, h1, h2, h3⟩ := h
  exact ⟨t, l, h1, e1 _ _ h2, e2 _ _ h3⟩
theorem WayAt.upd {H : Hp} {v : V} {α : Arc} {p : Addr} {o u : HO} (h : WayAt H v α) (hp : H p = some o) (n1 : ∀ xs, o ≠ .tup xs) (n2 : ∀ xs, o ≠ .lst xs) : WayAt (L2.upd H p u) v α := by
  refine h.keep2 (fun a xs e => ?_) (fun a xs e => ?_)
  · rw [upd_ne]
    · exact e
    · intro q
      rw [q, hp] at e
      exact n1 _ (Option.some.inj e)
  · rw [upd_ne]
    · exact e
    · intro q
      rw [q, hp] at e
      exact n2 _ (Option.some.inj e)
/-- the arcs that lead to none of these -/
def leftOf (s : Shot) (gs : List Int) : List Arc := (arcsOf s).filter fun α => decide (α.tgt ∉ gs)
structure See (L : List Arc) (zs : List (V × Arc)) (H H' : Hp) (sd : Addr) (met : List Int) : Prop where
  ex : Ex H H'
  at_ : H' sd = some (.dK (kTrue met))
  nd : met.Nodup
  live : ∀ n ∈ met, Live L n
  ways : ∀ z ∈ zs, WayAt H' z.1 z.2
theorem See.more {L : List Arc} {zs : List (V × Arc)} {H H2 H3 : Hp} {sd : Addr} {met : List Int} (h : See L zs H H2 sd met) (e : Ex H2 H3) : See L zs H H3 sd met := ⟨h.ex.trans e, e _ _ h.at_, h.nd, h.live, fun z hz => (h.ways z hz).ex e⟩
theorem See.upd {L : List Arc} {zs : List (V × Arc)} {H H2 : Hp} {sd p : Addr} {o u : HO} {met : List Int} (h : See L zs H H2 sd met) (hp : H2 p = some o) (n1 : ∀ xs, o ≠ .tup xs) (n2 : ∀ xs, o ≠ .lst xs) (n0 : H p = none) (ne : sd ≠ p) : See L zs H (L2.upd H2 p u) sd met :=
  ⟨Ex.mut h.ex n0, by rw [upd_ne ne]; exact h.at_, h.nd, h.live, fun z hz => (h.ways z hz).upd hp n1 n2⟩
theorem See.put {L : List Arc} {zs : List (V × Arc)} {H H2 : Hp} {sd : Addr} {met : List Int} {v : Int} (h : See L zs H H2 sd met) (h0 : H sd = none) (l : Live L v) : See L zs H (L2.upd H2 sd (.dK (kTrue (insT met v)))) sd (insT met v) := by
  refine ⟨Ex.mut h.ex h0, upd_same, insT_nodup h.nd, fun n hn => ?_, fun z hz => (h.ways z hz).upd h.at_ (fun _ x => nomatch x) (fun _ x => nomatch x)⟩
  rcases insT_mem.mp hn with z | z
  · exact h.live n z
  · rw [z]
    exact l
theorem inV_ints {n : Int} : ∀ gs : List Int, inV (.int n) (gs.map V.int) = decide (n ∈ gs)
  | [] => by simp [inV]
  | g :: gs => by
    have ih := inV_ints (n := n) gs
    unfold inV at ih ⊢
    rw [List.map_cons, List.any_cons, ih]
    show (decide (g = n) || decide (n ∈ gs)) = decide (n ∈ g :: gs)
    by_cases e : g = n
    · subst e
      simp
    · have e2 : ¬ n = g := fun q => e q.symm
      by_cases m : n ∈ gs
      · simp [m]
      · simp [m, e, e2]
theorem flat_ints : ∀ gs : List Int, (gs.map V.int).all flatV = true
  | [] => rfl
  | g :: gs => by
    rw [List.map_cons, List.all_cons, flat_ints gs]
    rfl
section
variable {K : PySem.W.Frag} {σ : L2.St} {H : Hp}
/-- all([want in seen for want in wants]) -/
theorem rd_all {y0 y1 y2 y3 y5 y6 y7 y9 : Option V} {l sd : Addr} {src met : List Int} {k : Bool → Hp → Prop} (hl : H l = some (.lst (src.map V.int))) (hsd : H sd = some (.dK (kTrue met))) (z : src.length ≤ 1000)
    (h : ∀ H', Ex H H' → k (decide (∀ n ∈ src, n ∈ met)) H') : tTest (tCB (rAll K) (tCons (tLc (iList K (tVar 8)) (gName 9) tYes (tDIn (tVar 9) (tVar 4)) [9]) tNil)) [y0, y1, y2, y3, some (.ref sd), y5, y6, y7, some (.ref l), y9] H k := by
  refine test_of (cb_of (c_of ?_))
  refine ⟨.ref l, rfl, l, rfl, ⟨_, sq_of hl⟩, fun D hD => lc_list (xs := src.map V.int) (fun i H' => Ex H H' ∧ H' D = some (.lst (((src.take i).map fun n => decide (n ∈ met)).map V.bl))) ⟨Ex.new hD, upd_same⟩ (fun i H' _ p => sq_of (p.1 _ _ hl)) ?_ ?_⟩
  · rintro i x H' hx ⟨e1, h1⟩
    obtain ⟨n, hn, rfl⟩ := at_map hx
    have il : i < src.length := (List.getElem?_eq_some_iff.mp hn).1
    refine ⟨rfl, ?_⟩
    dsimp only [tYes]
    rw [if_pos rfl]
    refine ⟨.int n, rfl, .ref sd, rfl, sd, _, rfl, DGet.k (k := Sum.inl n) (e1 _ _ hsd), _, h1, sz_lt (by rw [List.length_map, List.length_map, List.length_take]; omega), Ex.mut e1 hD, ?_⟩
    rw [upd_same, take_one hn, val_kTrue, List.map_append, List.map_append]
    rfl
  · rintro H' ⟨e1, h1⟩
    rw [List.length_map, List.take_length] at h1
    refine n_of ⟨D, _, rfl, sq_of h1, _, rfl, ?_⟩
    have e : (src.map fun n => decide (n ∈ met)).all id = decide (∀ n ∈ src, n ∈ met) := by
      by_cases q : ∀ n ∈ src, n ∈ met
      · rw [decide_eq_true q, List.all_eq_true]
        intro b hb
        obtain ⟨n, hn, rfl⟩ := List.mem_map.mp hb
        exact decide_eq_true (q n hn)
      · rw [decide_eq_false q]
        cases hb : (src.map fun n => decide (n ∈ met)).all id with
        | false => rfl
        | true =>
          refine absurd (fun n hn => ?_) q
          exact of_decide_eq_true (List.all_eq_true.mp hb _ (List.mem_map.mpr ⟨n, hn, rfl⟩))
    rw [e]
    exact h H' e1
end
def spAliv (K : PySem.W.Frag) : Sp := fun vs H Q _ => ∃ (x : V) (g c : Addr) (s : Shot) (gs : List Int), vs = [x, .ref g, .ref c] ∧ Td K H x (dShot s) ∧ Drawn s ∧ (SqL K H g (gs.map V.int) ∨ SqT K H g (gs.map V.int)) ∧ SqT K H c [] ∧
  ∀ (H' : Hp) (q : Addr) (met : List Int), Ex H H' → H q = none → H' q = some (.dK (kTrue met)) → met.Nodup → (∀ n, n ∈ met ↔ Live (leftOf s gs) n) → met.length ≤ 12 → Q (.ref q) H'
section
variable {P : Program} {w : World} {K : PySem.W.Frag} {mg : Str → Option Value} {base : Heap}
theorem ok_aliv {f fW : Addr} {fd fdW : FuncData} (F : Fun K "_law_alive" "_law_alive" sAliv f fd) (FW : Fun K "_law_ways" "_law_ways" sWays fW fdW) (bW : Binds K fdW ["_law_shot_here"] []) (gW : mg "_law_ways" = some (.ref fW)) (mL : mg "len" = none) (mA : mg "all" = none) : FnOk P w K mg base CX0 2 f fd ["_law_shot_here", "_law_gone", "_law_cut"] (spAliv K) := by
  have GW : FnOk P w K mg base CX0 1 fW fdW ["_law_shot_here"] (spWays K) := ok_ways FW
  refine F.ok scAliv (fun vs H Q E h => ?_) (fun cdv A outer s H vs Q E hr h => ?_)
  · obtain ⟨x, g, c, s, gs, rfl, _⟩ := h
    rfl
  · obtain ⟨x, g, c, s, gs, rfl, ht, dr, hg, hc, q⟩ := h
    have hu := hu_of hr
    refine ⟨_, pss_cons (ps_asg (pe_tup (pa_cons (pe_call GW hr (by rfl) gW FW.kp bW .nil pass0 (pa_cons (pv 0) pa_nil)) <| pa_cons pe_dnewK <| pa_cons (pe_un un_neg pe_int) pa_nil)) (pg_tup (n := 3) rfl (pgs_cons (pg_name (i := 3) scAliv.nd rfl (.inl rfl)) <| pgs_cons (pg_name (i := 4) scAliv.nd rfl (.inr rfl)) <| pgs_cons (pg_name (i := 5) scAliv.nd rfl (.inl rfl)) pgs_nil))) <|
      pss_cons (ps_while PassesOwn.never (pt_cmpR op_gt (pe_callB call_lenD (by rfl) mL PySem.boot_len (pa_cons (pv 4) pa_nil)) (pv 5) (nomark _))
        (pss_cons (ps_set (i := 5) scAliv.nd rfl (.inl rfl) (pe_callB call_lenD (by rfl) mL PySem.boot_len (pa_cons (pv 4) pa_nil))) <|
        pss_one (ps_lock (ps_for PassesOwn.never rfl (pi_itemsT (pv 3)) (pg_tup (n := 2) rfl (pgs_cons (pg_name (i := 6) scAliv.nd rfl (.inl rfl)) <| pgs_cons (pg_tup (n := 2) rfl (pgs_cons (pg_name (i := 7) scAliv.nd rfl (.inl rfl)) <| pgs_cons (pg_name (i := 8) scAliv.nd rfl (.inl rfl)) pgs_nil)) pgs_nil))
          (pss_one (ps_if (pw_and (pt_cmpR op_notIn_seq (pv 7) (pv 1) (by rfl)) (pw_and (pt_cmpR op_notIn0 (pv 6) (pv 2) (by rfl)) (pw_and1 (pt_val (pe_callB (cr_all rfl) (by rfl) mA (by decide +kernel) (pa_cons (pe_lc (own := [("_law_want", 9)]) (g := gName 9) (tt := tYes) (te := tDIn (tVar 9) (tVar 4)) rfl scAliv.nd (pi_list (pv 8)) (blkOk_by (N := nAliv) (sc := defScope sAliv) (by decide +kernel))
              (fun _ _ _ _ _ => pg_name (i := 9) scAliv.nd rfl (.inl rfl)) (fun _ _ _ _ _ => pts_nil) (fun _ _ _ _ _ => pe_cmp (pc_din hu (pv 9) (pv 4)) rfl)) pa_nil)))))).pt
            (pss_one (ps_dput hu (pv 4) (pv 7) pe_bl rfl)) pss_nil)))))) <|
      pss_one (ps_ret (pv 4)), ?_⟩
    have hal := dr.ok.arcs
    have lefts : ∀ α ∈ leftOf s gs, α ∈ arcsOf s ∧ α.tgt ∉ gs := fun α ha => by
      have := List.mem_filter.mp ha
      exact ⟨this.1, of_decide_eq_true this.2⟩
    have liveA : ∀ n, Live (leftOf s gs) n → Live (arcsOf s) n := fun n h => Live.sub (S := fun n => Live (arcsOf s) n) (fun α ha hs => .mk (lefts α ha).1 hs) h
    have few : ∀ met : List Int, met.Nodup → (∀ n ∈ met, Live (leftOf s gs) n) → met.length ≤ 12 := fun met nd h => dr.few nd fun n hn => liveA n (h n hn)
    refine seq_of (asgG_of (tup_of (c_of (call_of (c_of (v_of rfl (n_of ⟨x, s, rfl, ht, dr, fun H1 wd zs e1 hwd0 hwd hzs hways => ?_⟩)))))))
    refine c_of (newK_of fun sd hsd => ?_)
    refine c_of ⟨1, rfl, n_of ⟨by show 3 ≤ sizeLine; decide, fun p3 hp3 => ?_⟩⟩
    have hsd0 := fresh_back e1 hsd
    have nws : sd ≠ wd := fun q => by rw [q, hwd] at hsd; cases hsd
    have e2 : Ex H1 (upd H1 sd (.dK [])) := Ex.new hsd
    have e3 : Ex (upd H1 sd (.dK [])) (upd (upd H1 sd (.dK [])) p3 (.tup [.ref wd, .ref sd, .int (-1)])) := Ex.new hp3
    refine ⟨p3, _, rfl, st_of upd_same, rfl, .ref wd, _, rfl, .ref sd, _, rfl, .int (-1), _, rfl, rfl, ?_⟩
    have w0 : See (leftOf s gs) zs H (upd (upd H1 sd (.dK [])) p3 (.tup [.ref wd, .ref sd, .int (-1)])) sd [] := ⟨(e1.trans e2).trans e3, e3 _ _ upd_same, List.nodup_nil, fun _ h => absurd h List.not_mem_nil, fun z hz => (hways z hz).ex (e2.trans e3)⟩
    have wd2 := (e2.trans e3) _ _ hwd
    generalize upd (upd H1 sd (.dK [])) p3 (.tup [.ref wd, .ref sd, .int (-1)]) = H2 at w0 wd2 ⊢
    refine ⟨fun m σ' H' => ∃ met many y6 y7 y8 y9, σ' = [some x, some (.ref g), some (.ref c), some (.ref wd), some (.ref sd), some (.int many), y6, y7, y8, y9] ∧ See (leftOf s gs) zs H H' sd met ∧ H' wd = some (.dT (tabW zs)) ∧ -1 ≤ many ∧ many ≤ (met.length : Int) ∧ (many = (met.length : Int) → ∀ α ∈ leftOf s gs, (∀ n ∈ α.src, n ∈ met) → α.tgt ∈ met) ∧ (m : Int) = 13 - many,
      ⟨14, [], -1, none, none, none, none, rfl, w0, wd2, by omega, by show (-1 : Int) ≤ 0; omega, (fun h => absurd h (by show ¬ (-1 : Int) = 0; omega)), by omega⟩, ?_⟩
    rintro m σ' H' ⟨met, many, y6, y7, y8, y9, rfl, sn, hw, b0, b1, cl, hm⟩
    have mlen := few met sn.nd sn.live
    have kl : (kTrue met).length = met.length := List.length_map _
    refine ⟨.ref sd, rfl, sd, _, rfl, sn.at_, .int many, rfl, _, _, rfl, rfl, _, rfl, ?_⟩
    dsimp only
    rw [kl]
    by_cases hgt : ((met.length : Nat) : Int) > many
    · rw [decide_eq_true hgt, if_pos rfl]
      refine ⟨fun σ2 H2 => ∃ m', m' < m ∧ ∃ met many y6 y7 y8 y9, σ2 = [some x, some (.ref g), some (.ref c), some (.ref wd), some (.ref sd), some (.int many), y6, y7, y8, y9] ∧ See (leftOf s gs) zs H H2 sd met ∧ H2 wd = some (.dT (tabW zs)) ∧ -1 ≤ many ∧ many ≤ (met.length : Int) ∧ (many = (met.length : Int) → ∀ α ∈ leftOf s gs, (∀ n ∈ α.src, n ∈ met) → α.tgt ∈ met) ∧ (m' : Int) = 13 - many, fun _ _ h => h, ?_⟩
      refine seq_of (asg_of (cb_of (c_of (v_of rfl (n_of ⟨sd, _, rfl, sn.at_, ?_⟩)))))
      rw [kl]
      refine ⟨wd, _, hw, trivial, fun od => ?_⟩
      have snL := sn.upd (u := .frz od (.dT (tabW zs))) hw (fun _ x => nomatch x) (fun _ x => nomatch x) hwd0 nws
      have hwL : upd H' wd (.frz od (.dT (tabW zs))) wd = some (.frz od (.dT (tabW zs))) := upd_same
      generalize upd H' wd (.frz od (.dT (tabW zs))) = HL at snL hwL ⊢
      refine ⟨.ref wd, rfl, wd, od, tabW zs, rfl, hwL, for_it walk_itemsT (fun i σ2 H2 => ∃ met' y6 y7 y8 y9, σ2 = [some x, some (.ref g), some (.ref c), some (.ref wd), some (.ref sd), some (.int ((met.length : Nat) : Int)), y6, y7, y8, y9] ∧ See (leftOf s gs) zs H H2 sd met' ∧ H2 wd = some (.frz od (.dT (tabW zs))) ∧ met <+: met' ∧ ∀ α ∈ (arcsOf s).take i, α.tgt ∉ gs → (∀ n ∈ α.src, n ∈ met) → α.tgt ∈ met')
        ⟨met, y6, y7, y8, y9, rfl, snL, hwL, List.prefix_refl _, fun _ h => by simp at h⟩ (fun i σ2 H2 _ ⟨_, _, _, _, _, _, _, h, _⟩ => h) ?_ ?_⟩
      · rintro i x' σ2 H2 H3 hi ⟨met', y6, y7, y8, y9, rfl, sn', hw', pre, c'⟩ ⟨T, k, v, kq, hkv, hkq, rfl, hT, rfl⟩
        obtain ⟨z, hz, hzk⟩ := map_at hkv
        cases hzk
        have zin := List.mem_of_getElem? hz
        obtain ⟨t, l, h1, h2, h3⟩ := sn'.ways z zin
        have hα : (arcsOf s)[i]? = some z.2 := by
          rw [← hzs, List.getElem?_map, hz]
          rfl
        have αin := List.mem_of_getElem? hα
        have e5 : Ex H2 (upd H2 T (.tup [.ref kq, z.1])) := Ex.new hT
        have sn5 := sn'.more e5
        have hw5 := e5 _ _ hw'
        have T5 : (upd H2 T (.tup [.ref kq, z.1])) T = some (.tup [.ref kq, z.1]) := upd_same
        have h25 := e5 _ _ h2
        have h35 := e5 _ _ h3
        generalize upd H2 T (.tup [.ref kq, z.1]) = H5 at e5 sn5 hw5 T5 h25 h35 ⊢
        rw [h1] at T5
        have mlen' := few met' sn'.nd sn'.live
        have srcl := arcs_src αin
        refine ⟨T, _, rfl, st_of T5, rfl, .ref kq, _, rfl, .ref t, _, rfl, t, _, rfl, st_of h25, rfl, .int z.2.tgt, _, rfl, .ref l, _, rfl, rfl, rfl, ?_⟩
        dsimp only [gName]
        have step : ∀ (met2 : List Int) (H6 : Hp) (w6 w7 w8 w9 : Option V), See (leftOf s gs) zs H H6 sd met2 → H6 wd = some (.frz od (.dT (tabW zs))) → met' <+: met2 → (z.2.tgt ∉ gs → (∀ n ∈ z.2.src, n ∈ met) → z.2.tgt ∈ met2) →
            ∃ met' y6 y7 y8 y9, [some x, some (.ref g), some (.ref c), some (.ref wd), some (.ref sd), some (V.int ((met.length : Nat) : Int)), w6, w7, w8, w9] = [some x, some (.ref g), some (.ref c), some (.ref wd), some (.ref sd), some (.int ((met.length : Nat) : Int)), y6, y7, y8, y9] ∧ See (leftOf s gs) zs H H6 sd met' ∧ H6 wd = some (.frz od (.dT (tabW zs))) ∧ met <+: met' ∧ ∀ α ∈ (arcsOf s).take (i + 1), α.tgt ∉ gs → (∀ n ∈ α.src, n ∈ met) → α.tgt ∈ met' := by
          intro met2 H6 w6 w7 w8 w9 s2 hw6 p2 cc
          refine ⟨met2, w6, w7, w8, w9, rfl, s2, hw6, pre.trans p2, fun α ha hg2 hs => ?_⟩
          rw [take_one hα] at ha
          rcases List.mem_append.mp ha with m | m
          · exact p2.subset (c' α m hg2 hs)
          · rw [List.mem_singleton.mp m] at hg2 hs ⊢
            exact cc hg2 hs
        have hgG : SqL K H5 g (gs.map V.int) ∨ SqT K H5 g (gs.map V.int) := hg.elim (fun h => .inl (ex_l sn5.ex h)) (fun h => .inr (ex_t sn5.ex h))
        refine ifS_of (and_of (test_of (op_of (v_of rfl (v_of rfl ⟨g, gs.map V.int, rfl, hgG, rfl, flat_ints gs, _, rfl, ?_⟩)))))
        rw [inV_ints]
        by_cases hin : z.2.tgt ∈ gs
        · rw [decide_eq_true hin]
          try dsimp only
          rw [if_pos rfl, if_neg (show ¬ (!true) = true from Bool.false_ne_true), if_neg Bool.false_ne_true]
          exact step met' H5 _ _ _ _ sn5 hw5 (List.prefix_refl _) fun h => absurd hin h
        · rw [decide_eq_false hin]
          try dsimp only
          rw [if_pos rfl, if_pos (show (!false) = true from rfl)]
          refine and_of (test_of (op_of (v_of rfl (v_of rfl ⟨c, rfl, ex_t sn5.ex hc, _, rfl, ?_⟩))))
          rw [if_pos rfl]
          refine rd_all h35 sn5.at_ (by omega) fun H6 e6 => ?_
          have sn6 := sn5.more e6
          have hw6 := e6 _ _ hw5
          by_cases hs : ∀ n ∈ z.2.src, n ∈ met'
          · rw [decide_eq_true hs, if_pos rfl]
            have lv : Live (leftOf s gs) z.2.tgt := .mk (List.mem_filter.mpr ⟨αin, decide_eq_true hin⟩) fun n hn => sn'.live n (hs n hn)
            refine put_of (k_of (v_of rfl (v_of rfl ⟨sd, _, rfl, .k (k := .inl z.2.tgt) sn6.at_ (sz_lt (by rw [List.length_map]; omega)), ?_⟩)))
            rw [put_ins]
            refine step (insT met' z.2.tgt) _ _ _ _ _ (sn6.put hsd0 lv) ?_ (insT_pre _ _) fun _ _ => insT_mem.mpr (.inr rfl)
            rw [upd_ne nws.symm]
            exact hw6
          · rw [decide_eq_false hs, if_neg Bool.false_ne_true]
            exact step met' H6 _ _ _ _ sn6 hw6 (List.prefix_refl _) fun _ h => absurd (fun n hn => pre.subset (h n hn)) hs
      · rintro σ2 H2 ⟨met', y6, y7, y8, y9, rfl, sn', hw', pre, c'⟩
        have ml' := few met' sn'.nd sn'.live
        have pl := pre.length_le
        have lz : (tabW zs).length = (arcsOf s).length := by rw [List.length_map, ← hzs, List.length_map]
        rw [lz, List.take_length] at c'
        refine ⟨hw', 13 - met.length, by omega, met', _, _, _, _, _, rfl, sn'.upd hw' (fun _ x => nomatch x) (fun _ x => nomatch x) hwd0 nws, upd_same, by omega, by omega, fun he => ?_, by omega⟩
        have e : met = met' := pre.eq_of_length (by omega)
        subst e
        intro α ha hs
        exact c' α (lefts α ha).1 (lefts α ha).2 hs
    · rw [decide_eq_false hgt, if_neg Bool.false_ne_true]
      refine ⟨.ref sd, rfl, q H' sd met sn.ex hsd0 sn.at_ sn.nd (fun n => ⟨sn.live n, fun hn => ?_⟩) mlen⟩
      exact Live.sub (S := fun n => n ∈ met) (cl (by omega)) hn
end
end Sn
namespace Sn
open PySem PySem.Spec PyProof.Rows L2 Evl Gd
abbrev sInt : Stmt := topS 5
abbrev sNeed : Stmt := topS 9
abbrev sDies : Stmt := topS 13
abbrev sLost : Stmt := topS 14
abbrev nInt : List Str := ["value"]
abbrev nNeed : List Str := ["net", "values", "value"]
abbrev nDies : List Str := ["snapshot", "numbers", "net", "number"]
abbrev nLost : List Str := ["met", "left", "number"]
theorem scInt : FnScope nInt ["value"] (defScope sInt) := ⟨rfl, rfl, rfl, by decide +kernel, rfl, by decide +kernel, by decide +kernel⟩
theorem scNeed : FnScope nNeed ["net", "values"] (defScope sNeed) := ⟨rfl, rfl, rfl, by decide +kernel, rfl, by decide +kernel, by decide +kernel⟩
theorem scDies : FnScope nDies ["snapshot", "numbers"] (defScope sDies) := ⟨rfl, rfl, rfl, by decide +kernel, rfl, by decide +kernel, by decide +kernel⟩
theorem scLost : FnScope nLost ["met", "left"] (defScope sLost) := ⟨rfl, rfl, rfl, by decide +kernel, rfl, by decide +kernel, by decide +kernel⟩
def spInt : Sp := fun vs H Q _ => ∃ i, vs = [.int i] ∧ ∀ H', Ex H H' → Q (.bl true) H'
/-- each of these is there -/
def spNeed (K : PySem.W.Frag) (C : Addr) : Sp := fun vs H Q _ => ∃ (p q : Addr) (N : NetM) (gs : List Int), vs = [.ref p, .ref q] ∧ NetAt K C H p N ∧ SqA K H q (gs.map V.int) ∧ (∀ g ∈ gs, g ∈ N.rows.map Row.n) ∧ ∀ H', Ex H H' → Q .non H'
theorem row_there {K : PySem.W.Frag} {H : Hp} {kvs : List (Key × V)} {rs : List Row} (h : RowsAt K H kvs rs) {n : Int} (hn : n ∈ rs.map Row.n) : (valV kvs (.inl n)).isSome = true := by
  obtain ⟨r, hr, rfl⟩ := List.mem_map.mp hn
  obtain ⟨v, hv, _⟩ := h.2 r hr
  rw [hv]
  rfl
/-- what was met, and is not left -/
def spLost (K : PySem.W.Frag) : Sp := fun vs H Q _ => ∃ (a b : Addr) (met left : List Int), vs = [.ref a, .ref b] ∧ a ≠ b ∧ H a = some (.dK (kTrue met)) ∧ H b = some (.dK (kTrue left)) ∧ met.Nodup ∧ met.length ≤ 1000 ∧
  ∀ (H' : Hp) (t : Addr) (ns : List Int), (∀ x o, x ≠ a → H x = some o → H' x = some o) → H t = none → H' t = some (.tup (ns.map V.int)) → ns.Pairwise (· < ·) → (∀ n, n ∈ ns ↔ n ∈ met ∧ n ∉ left) → Q (.ref t) H'
section
variable {P : Program} {w : World} {K : PySem.W.Frag} {mg : Str → Option Value} {base : Heap}
theorem ok_int {f : Addr} {fd : FuncData} (F : Fun K "is_integer" "is_integer" sInt f fd) (mI : mg "isinstance" = none) (mT : mg "int" = none) (mB : mg "bool" = none) : FnOk P w K mg base CX0 1 f fd ["value"] spInt := by
  refine F.ok scInt (fun vs H Q E h => ?_) (fun cdv A outer s H vs Q E hr h => ?_)
  · obtain ⟨i, rfl, _⟩ := h
    rfl
  · obtain ⟨i, rfl, q⟩ := h
    refine ⟨_, pss_one (ps_ret (pe_and (pe_callB call_isi (by rfl) mI (by decide +kernel) (pa_cons (pv 0) (pa_cons (pe_bltn (v := .ty "int") (by rfl) mT (by decide +kernel) rfl) pa_nil)))
      (pe_one (pe_not (pe_callB call_isi (by rfl) mI (by decide +kernel) (pa_cons (pv 0) (pa_cons (pe_bltn (v := .ty "bool") (by rfl) mB (by decide +kernel) rfl) pa_nil))))))), ?_⟩
    refine ret_of (andv_of (cb_of (c_of (v_of rfl (c_of (k_of (n_of ⟨.int i, .ty "int", _, _, true, rfl, .ty "int", .base (.int i), kit_ty (by decide +kernel), true, rfl, ?_⟩)))))))
    rw [if_pos rfl]
    exact notv_of (cb_of (c_of (v_of rfl (c_of (k_of (n_of ⟨.int i, .ty "bool", _, _, false, rfl, .ty "bool", .base (.int i), kit_ty (by decide +kernel), false, rfl, q H (Ex.refl H)⟩))))))
theorem ok_need {f fI C : Addr} {fd fdI : FuncData} (F : Fun K "need_objects" "need_objects" sNeed f fd) (AI : Df K mg "is_integer" sInt ["value"] fI fdI) (T : Txt K mg C) (mI : mg "isinstance" = none) (mT : mg "int" = none) (mB : mg "bool" = none) : FnOk P w K mg base CX0 2 f fd ["net", "values"] (spNeed K C) := by
  have GI : FnOk P w K mg base CX0 1 fI fdI ["value"] spInt := ok_int AI.F mI mT mB
  refine F.ok scNeed (fun vs H Q E h => ?_) (fun cdv A outer s H vs Q E hr h => ?_)
  · obtain ⟨p, q, N, gs, rfl, _⟩ := h
    rfl
  · obtain ⟨p, q, N, gs, rfl, hN, hq, hin, k⟩ := h
    have hu := hu_of hr
    refine ⟨_, pss_one (ps_for PassesOwn.never rfl (pi_seq (pv 1)) (pg_name (i := 2) scNeed.nd rfl (.inl rfl))
        (pss_one (ps_if (pw_or (pt_not (pt_val (pe_call GI hr (by rfl) AI.g AI.F.kp AI.b .nil pass0 (pa_cons (pv 2) pa_nil)))) (pw_or1 (pt_cmp (pc_dnotin hu (pv 2) (pe_fld (pv 0) rfl))))).pt pss_never pss_nil))), ?_⟩
    obtain ⟨dx, ra, rs, d, kvs, hp, hra, tra, hd, hR⟩ := id hN
    refine for_seqA (K := K) (H0 := H) (a := q) (xs := gs.map V.int) hq (fun i σ' Hc => ∃ y2, σ' = [some (.ref p), some (.ref q), y2] ∧ Ex H Hc) (fun Q h => ⟨_, rfl, h⟩) ⟨_, rfl, Ex.refl H⟩ (fun i σ' Hc h => h.choose_spec.2) ?_ ?_
    · rintro i x σ' Hc hx ⟨y2, rfl, ec⟩
      obtain ⟨g, hg, rfl⟩ := at_map hx
      dsimp only [gName]
      refine ifS_of (or_of (not_of (test_of (call_of (c_of (v_of rfl (n_of ⟨g, rfl, fun H2 e2 => ⟨true, rfl, ?_⟩⟩)))))))
      rw [if_neg (show ¬ (!true) = true from Bool.false_ne_true)]
      have e := ec.trans e2
      refine test_of (notin_of (v_of rfl ⟨.ref p, rfl, p, C, dx, _, _, rfl, e _ _ hp, T.cl, T.nW, nf_rows _ _, d, _, rfl, DGet.k (k := Sum.inl g) (e _ _ hd), _, rfl, ?_⟩))
      rw [row_there hR (hin g (List.mem_of_getElem? hg)), if_neg (show ¬ (!true) = true from Bool.false_ne_true)]
      exact ⟨_, rfl, e⟩
    · rintro σ' Hc ⟨y2, rfl, ec⟩
      exact k Hc ec
theorem ok_lost {f : Addr} {fd : FuncData} (F : Fun K "lost" "lost" sLost f fd) (mT : mg "tuple" = none) (mO : mg "sorted" = none) : FnOk P w K mg base CX0 1 f fd ["met", "left"] (spLost K) := by
  refine F.ok scLost (fun vs H Q E h => ?_) (fun cdv A outer s H vs Q E hr h => ?_)
  · obtain ⟨a, b, met, left, rfl, _⟩ := h
    rfl
  · obtain ⟨a, b, met, left, rfl, nab, ha, hb, nd, ml, q⟩ := h
    have hu := hu_of hr
    refine ⟨_, pss_one (ps_ret (pe_callTy call_tuple_of (by rfl) mT (by decide +kernel) (pa_cons (pe_callB cr_sortedI (by rfl) mO (by decide +kernel) (pa_cons (pe_lc (own := [("number", 2)]) (g := gName 2) (tt := tTest (tDNotIn (tVar 2) (tVar 1))) (te := tVar 2) rfl scLost.nd (pi_keysL (pv 0)) (blkOk_by (N := nLost) (sc := defScope sLost) (by decide +kernel))
        (fun _ _ _ _ _ => pg_name (i := 2) scLost.nd rfl (.inl rfl)) (fun _ _ _ _ _ => pts_one (pt_cmp (pc_dnotin hu (pv 2) (pv 1)))) (fun _ _ _ _ _ => pv 2)) pa_nil)) pa_nil))), ?_⟩
    refine ret_of (cb_of (c_of (cb_of (c_of ?_))))
    refine lc_of (kL_of (v_of rfl ⟨a, _, rfl, ha, fun od D hD => ?_⟩))
    have k1 : ∀ x o, x ≠ a → H x = some o → (upd H a (.frz od (.dK (kTrue met)))) x = some o := fun x o n h => by
      rw [upd_ne n]
      exact h
    have k2 : (upd H a (.frz od (.dK (kTrue met)))) a = some (.frz od (.dK (kTrue met))) := upd_same
    have k3 : ∀ x, (upd H a (.frz od (.dK (kTrue met)))) x = none → H x = none := fun x h => by
      by_cases e : x = a
      · rw [e, k2] at h
        cases h
      · rw [upd_ne e] at h
        exact h
    generalize upd H a (.frz od (.dK (kTrue met))) = HL at k1 k2 k3 hD ⊢
    refine lc_it walk_keys (fun i H' => Ex HL H' ∧ H' D = some (.lst (((met.take i).filter fun n => decide (n ∉ left)).map V.int))) ⟨Ex.new hD, upd_same⟩ (fun i H' _ h => h.1 _ _ k2) ?_ ?_
    · rintro i x H3 H3' hi ⟨e3, h3⟩ ⟨rfl, k, v, hkv, rfl⟩
      obtain ⟨n, hn, e⟩ := map_at hkv
      cases e
      rw [List.length_map] at hi
      refine ⟨rfl, ?_⟩
      refine test_of ⟨.int n, rfl, .ref b, rfl, b, _, rfl, DGet.k (k := Sum.inl n) (e3 _ _ (k1 _ _ nab.symm hb)), _, rfl, ?_⟩
      rw [val_kTrue]
      by_cases hm : n ∈ left
      · rw [decide_eq_true hm, if_neg (show ¬ (!true) = true from Bool.false_ne_true)]
        refine ⟨e3, ?_⟩
        rw [h3, take_one hn, List.filter_append, List.filter_cons_of_neg (by simp [hm]), List.filter_nil, List.append_nil]
      · rw [decide_eq_false hm, if_pos (show (!false) = true from rfl)]
        refine v_of rfl ⟨_, h3, sz_lt ?_, Ex.mut e3 hD, ?_⟩
        · rw [List.length_map]
          have h1 := List.length_filter_le (fun n => decide (n ∉ left)) (met.take i)
          rw [List.length_take] at h1
          omega
        · rw [upd_same, take_one hn, List.filter_append, List.filter_cons_of_pos (by simp [hm]), List.filter_nil, List.map_append]
          rfl
    · rintro H3 ⟨e3, h3⟩
      rw [List.length_map, List.take_length] at h3
      refine n_of ⟨D, _, rfl, sq_of h3, fun ns p perm srt hp => n_of ⟨p, _, rfl, .inl ⟨sq_of upd_same, fun t ht => ?_⟩⟩⟩
      have e4 : Ex H3 (upd H3 p (.lst (ns.map V.int))) := Ex.new hp
      have e5 := e3.trans e4
      refine q _ t ns (fun x o n h => (e5.trans (Ex.new ht)) _ _ (k1 x o n h)) (k3 _ (fresh_back e5 ht)) upd_same (strict_of srt (perm.nodup_iff.mpr (nd.filter _))) fun n => ?_
      rw [perm.mem_iff, List.mem_filter]
      exact ⟨fun h => ⟨h.1, of_decide_eq_true h.2⟩, fun h => ⟨h.1, decide_eq_true h.2⟩⟩
end
def spDies (K : PySem.W.Frag) : Sp := fun vs H Q _ => ∃ (x : V) (s : Shot) (gs : List Int), vs = x :: gs.map V.int ∧ Td K H x (dShot s) ∧ okShot s ∧ gs.length ≤ 3 ∧ (∀ g ∈ gs, g ∈ s.things.map Thing.n) ∧
  ∀ (H' : Hp) (t : Addr) (ns : List Int), Ex H H' → H t = none → H' t = some (.tup (ns.map V.int)) → ns.Pairwise (· < ·) → (∀ n, n ∈ ns ↔ Live (arcsOf s) n ∧ ¬ Live (leftOf s gs) n) → Q (.ref t) H'
def spDiesB (K : PySem.W.Frag) : Sp := fun vs H Q _ => ∃ (x : V) (p : Addr) (s : Shot) (gs : List Int), vs = [x, .ref p] ∧ H p = some (.tup (gs.map V.int)) ∧ Td K H x (dShot s) ∧ okShot s ∧ gs.length ≤ 3 ∧ (∀ g ∈ gs, g ∈ s.things.map Thing.n) ∧
  ∀ (H' : Hp) (t : Addr) (ns : List Int), Ex H H' → H t = none → H' t = some (.tup (ns.map V.int)) → ns.Pairwise (· < ·) → (∀ n, n ∈ ns ↔ Live (arcsOf s) n ∧ ¬ Live (leftOf s gs) n) → Q (.ref t) H'
section
variable {P : Program} {w : World} {K : PySem.W.Frag} {mg : Str → Option Value} {base : Heap}
theorem ok_dies {f fE fI fN fL fM C : Addr} {fd fdE fdI fdN fdL fdM : FuncData} (F : Fun K "dies_with" "dies_with" sDies f fd) (AE : Df K mg "need_objects" sNeed ["net", "values"] fE fdE) (AI : Df K mg "is_integer" sInt ["value"] fI fdI) (AN : Df K mg "net_of" sNetOf ["snapshot"] fN fdN) (AL : Df K mg "lost" sLost ["met", "left"] fL fdL) (AM : Mf K C "met" "Net.met" sMet ["self", "barred"] fM fdM) (N : NetD P w K mg base C)
    (mI : mg "isinstance" = none) (mN : mg "int" = none) (mB : mg "bool" = none) (mL : mg "len" = none) (mT : mg "tuple" = none) (mO : mg "sorted" = none) : FnR P w K mg base CX0 4 f (spDies K) := by
  have GE : FnOk P w K mg base CX0 3 fE fdE ["net", "values"] (spNeed K C) := (ok_need AE.F AI N.T mI mN mB).mono (by decide)
  have GN : FnOk P w K mg base CX0 3 fN fdN ["snapshot"] (spNetOf K C) := ok_netof AN.F N
  have GL : FnOk P w K mg base CX0 3 fL fdL ["met", "left"] (spLost K) := (ok_lost AL.F mT mO).mono (by decide)
  have GM : FnOk P w K mg base CX0 3 fM fdM ["self", "barred"] (spMet K C) := (ok_met AM.F N.T mL).mono (by decide)
  obtain ⟨oc, od, kV, doc, pm, an, cdv, ct, osl, rfl, lk, hcd⟩ := F.ex
  refine FnR.imp (StX.fn_star (ps := ["snapshot"]) (pv := "numbers") (k := 3) (sp := spDiesB K) lk hcd scDies StX.cxUp_none (fun us rest hl => match us, rest, hl with | [_], [], _ => rfl | [_], _ :: _, _ => rfl) fun A outer s H vs Q E hr h => ?_) fun vs H Q E h => ?_
  · obtain ⟨x, p, s, gs, rfl, hp, ht, ok, gl, gin, q⟩ := h
    have hu := hu_of hr
    refine ⟨_, (show PSs (L2.cxOf CX0 P w K mg base nDies "dies_with" (defScope sDies) f cdv A outer _ H E).nox _ _ from
      pss_cons (ps_set (i := 2) scDies.nd rfl (.inl rfl) (pe_call GN hr (by rfl) AN.g AN.F.kp AN.b .nil pass0 (pa_cons (pv 0) pa_nil))) <|
      pss_cons (ps_expr (pe_call GE hr (by rfl) AE.g AE.F.kp AE.b .nil pass0 (pa_cons (pv 2) <| pa_cons (pv 1) pa_nil))) <|
      pss_one (ps_ret (pe_call GL hr (by rfl) AL.g AL.F.kp AL.b .nil pass0 (pa_cons (pe_meth (pv 2) N.T.cl AM.m GM hr AM.b .nil pass0 (pa_cons pe_dnewK pa_nil)) <| pa_cons (pe_meth (pv 2) N.T.cl AM.m GM hr AM.b .nil pass0 (pa_cons (pe_dc (own := [("number", 3)]) (g := gName 3) (tt := tYes) (tk := tVar 3) (tv := tC (.bl true)) rfl scDies.nd (pi_tup (pv 1)) (blkOk_by (N := nDies) (sc := defScope sDies) (by decide +kernel))
        (fun _ _ _ _ _ => pg_name (i := 3) scDies.nd rfl (.inl rfl)) (fun _ _ _ _ _ => pts_nil) (fun _ _ _ _ _ => pv 3) (fun _ _ _ _ _ => pe_bl)) pa_nil)) pa_nil)))).nox, ?_⟩
    refine seq_of (asg_of (call_of (c_of (v_of rfl (n_of ⟨x, s, rfl, ht, ok, fun H1 pn e1 hN => ?_⟩)))))
    have gin2 : ∀ g ∈ gs, g ∈ (netM s).rows.map Row.n := fun g hg => by
      rw [rows_n]
      exact gin g hg
    refine seq_of (drop_of (call_of (c_of (v_of rfl (c_of (v_of rfl (n_of ⟨pn, p, netM s, gs, rfl, hN, .inr (st_of (e1 _ _ hp)), gin2, fun H2 e2 => ?_⟩)))))))
    have e02 := e1.trans e2
    have hN2 := hN.ex e2
    obtain ⟨dx, ra, rs, d, kvs, hpn, _⟩ := id hN2
    dsimp only
    refine ret_of (call_of (c_of ?_))
    refine meth_of (v_of rfl ⟨pn, dx, _, rfl, hpn, nf_no _ _ (by decide +kernel) (by decide +kernel), c_of (newK_of fun b hb => n_of ?_)⟩)
    have e3 : Ex H2 (upd H2 b (.dK [])) := Ex.new hb
    refine ⟨pn, b, netM s, [], [], rfl, hN2.ex e3, ok.2.2, upd_same, fun n => rfl, fun H3 q1 met1 e4 hq10 hq1 nd1 iff1 ml1 => c_of ?_⟩
    have e34 := e3.trans e4
    refine meth_of (v_of rfl ⟨pn, dx, _, rfl, e34 _ _ hpn, nf_no _ _ (by decide +kernel) (by decide +kernel), c_of ?_⟩)
    have e03 := e02.trans e34
    refine ⟨.ref p, rfl, p, rfl, ⟨_, st_of (e03 _ _ hp)⟩, fun D hD => dc_tup (xs := gs.map V.int) (fun i H' => Ex H3 H' ∧ ∃ met : List Int, H' D = some (.dK (kTrue met)) ∧ met.length ≤ i ∧ ∀ n, n ∈ met ↔ n ∈ gs.take i) ⟨Ex.new hD, [], upd_same, Nat.le_refl _, fun n => by simp⟩ (fun i H' _ h => st_of (h.1 _ _ (e03 _ _ hp))) ?_ ?_⟩
    · rintro i x' H' hx ⟨e, met, hD', ml, hm⟩
      obtain ⟨k, hk, rfl⟩ := at_map hx
      have il : i < gs.length := (List.getElem?_eq_some_iff.mp hk).1
      refine ⟨rfl, ?_⟩
      dsimp only [tYes]
      rw [if_pos rfl]
      refine v_of rfl (k_of ⟨kTrue met, .inl k, rfl, hD', sz_lt (by rw [List.length_map]; omega), Ex.mut e hD, insT met k, ?_, Nat.le_trans (insT_len _ _) (by omega), fun n => ?_⟩)
      · rw [upd_same, put_ins]
      · rw [insT_mem, hm n, take_one hk, List.mem_append, List.mem_singleton]
    · rintro H4 ⟨e5, met, hD4, ml, hm⟩
      rw [List.length_map, List.take_length] at hm
      refine n_of ⟨pn, D, netM s, _, met, rfl, hN2.ex (e34.trans e5), ok.2.2, hD4, fun n => val_kTrue n met, fun H5 q2 met2 e6 hq20 hq2 nd2 iff2 ml2 => ?_⟩
      have e56 := e5.trans e6
      have n12 : q1 ≠ q2 := ne_of_none (e5 _ _ hq1) hq20
      have hq0 : H q1 = none := fresh_back (e02.trans e3) hq10
      refine n_of ⟨q1, q2, met1, met2, rfl, n12, e56 _ _ hq1, hq2, nd1, ml1, fun H6 t ns ko ht0 ht1 asc iff => ?_⟩
      have e05 := e03.trans e56
      refine q H6 t ns (fun a o h => ko a o (ne_of_none h hq0) (e05 _ _ h)) (fresh_back e05 ht0) ht1 asc fun n => ?_
      rw [iff n, iff1 n, iff2 n, filter_none, net_arcs]
      have el : ((arcsOf s).filter fun α => decide (α.tgt ∉ met)) = leftOf s gs := by
        unfold leftOf
        refine List.filter_congr fun α _ => ?_
        exact decide_eq_decide.mpr (not_congr (hm _))
      rw [el]
  · obtain ⟨x, s, gs, rfl, ht, ok, gl, gin, q⟩ := h
    refine ⟨[x], gs.map V.int, rfl, rfl, by rw [List.length_map, sizeLine_eq]; omega, fun p hp => ?_⟩
    have e : Ex H (upd H p (.tup (gs.map V.int))) := Ex.new hp
    exact ⟨x, p, s, gs, rfl, upd_same, ht.ex e, ok, gl, gin, fun H' t ns e2 h0 h1 a i => q H' t ns (e.trans e2) (fresh_back e h0) h1 a i⟩
end
end Sn
namespace Sn
open PySem PySem.Spec PyProof.Rows L2 Evl Gd
abbrev sDying : Stmt := topS 24
abbrev sTold : Stmt := topS 25
abbrev nDying : List Str := ["_law_shot_here", "_law_gone", "_law_cut", "_law_left", "_law_item"]
abbrev nTold : List Str := ["_law_shot_here", "_law_some"]
theorem scDying : FnScope nDying ["_law_shot_here", "_law_gone", "_law_cut"] (defScope sDying) := ⟨rfl, rfl, rfl, by decide +kernel, rfl, by decide +kernel, by decide +kernel⟩
theorem scTold : FnScope nTold ["_law_shot_here", "_law_some"] (defScope sTold) := ⟨rfl, rfl, rfl, by decide +kernel, rfl, by decide +kernel, by decide +kernel⟩
theorem left_nil (s : Shot) : leftOf s [] = arcsOf s := by
  unfold leftOf
  rw [List.filter_eq_self]
  intro α _
  simp
def spDying (K : PySem.W.Frag) : Sp := fun vs H Q _ => ∃ (x : V) (g c : Addr) (s : Shot) (gs : List Int), vs = [x, .ref g, .ref c] ∧ Td K H x (dShot s) ∧ Drawn s ∧ (SqL K H g (gs.map V.int) ∨ SqT K H g (gs.map V.int)) ∧ SqT K H c [] ∧
  ∀ (H' : Hp) (t : Addr) (ns : List Int), Ex H H' → H t = none → H' t = some (.tup (ns.map V.int)) → ns.Pairwise (· < ·) → (∀ n, n ∈ ns ↔ Live (arcsOf s) n ∧ ¬ Live (leftOf s gs) n) → Q (.ref t) H'
def spTold (K : PySem.W.Frag) : Sp := fun vs H Q _ => ∃ (x : V) (l : Addr) (s : Shot) (gs : List Int), vs = [x, .ref l] ∧ H l = some (.lst (gs.map V.int)) ∧ Td K H x (dShot s) ∧ Drawn s ∧ gs.length ≤ 3 ∧ (∀ g ∈ gs, g ∈ s.things.map Thing.n) ∧
  ∀ (H' : Hp) (t : Addr) (ns : List Int), Ex H H' → H t = none → H' t = some (.tup (ns.map V.int)) → ns.Pairwise (· < ·) → (∀ n, n ∈ ns ↔ Live (arcsOf s) n ∧ ¬ Live (leftOf s gs) n) → Q (.ref t) H'
theorem len_ne {k : Nat} {j : Int} (h : (k : Int) ≠ j) : ¬ (decide (V.int (k : Int) = V.int j) = true) := fun e => h (V.int.inj (of_decide_eq_true e))
theorem len_eq {k : Nat} {j : Int} (h : (k : Int) = j) : decide (V.int (k : Int) = V.int j) = true := decide_eq_true (by rw [h])
section
variable {P : Program} {w : World} {K : PySem.W.Frag} {mg : Str → Option Value} {base : Heap}
theorem ok_dying {f fV : Addr} {fd fdV : FuncData} (F : Fun K "_law_dying" "_law_dying" sDying f fd) (FV : Fun K "_law_alive" "_law_alive" sAliv fV fdV) (bV : Binds K fdV ["_law_shot_here", "_law_gone", "_law_cut"] []) (gV : mg "_law_alive" = some (.ref fV)) (mT : mg "tuple" = none) (mO : mg "sorted" = none)
    (GV : FnOk P w K mg base CX0 2 fV fdV ["_law_shot_here", "_law_gone", "_law_cut"] (spAliv K)) : FnOk P w K mg base CX0 3 f fd ["_law_shot_here", "_law_gone", "_law_cut"] (spDying K) := by
  refine F.ok scDying (fun vs H Q E h => ?_) (fun cdv A outer s H vs Q E hr h => ?_)
  · obtain ⟨x, g, c, s, gs, rfl, _⟩ := h
    rfl
  · obtain ⟨x, g, c, s, gs, rfl, ht, dr, hg, hc, q⟩ := h
    have hu := hu_of hr
    refine ⟨_, pss_cons (ps_set (i := 3) scDying.nd rfl (.inr rfl) (pe_call GV hr (by rfl) gV FV.kp bV .nil pass0 (pa_cons (pv 0) <| pa_cons (pv 1) <| pa_cons (pv 2) pa_nil))) <|
      pss_one (ps_ret (pe_callTy call_tuple_of (by rfl) mT (by decide +kernel) (pa_cons (pe_lc (own := [("_law_item", 4)]) (g := gName 4) (tt := tTest (tDNotIn (tVar 4) (tVar 3))) (te := tVar 4) rfl scDying.nd (pi_list (pe_callB (call_sortedDI rfl) (by rfl) mO (by decide +kernel) (pa_cons (pe_call GV hr (by rfl) gV FV.kp bV .nil pass0 (pa_cons (pv 0) <| pa_cons (pe_tup pa_nil) <| pa_cons (pe_tup pa_nil) pa_nil)) pa_nil))) (blkOk_by (N := nDying) (sc := defScope sDying) (by decide +kernel))
        (fun _ _ _ _ _ => pg_name (i := 4) scDying.nd rfl (.inl rfl)) (fun _ _ _ _ _ => pts_one (pt_cmp (pc_dnotin hu (pv 4) (pv 3)))) (fun _ _ _ _ _ => pv 4)) pa_nil))), ?_⟩
    refine seq_of (asg_of (call_of (c_of (v_of rfl (c_of (v_of rfl (c_of (v_of rfl (n_of ⟨x, g, c, s, gs, rfl, ht, dr, hg, hc, fun H1 q1 met1 e1 hq10 hq1 nd1 iff1 ml1 => ?_⟩)))))))))
    dsimp only
    refine ret_of (cb_of (c_of ?_))
    refine lc_of (iL_of (cb_of (c_of (call_of (c_of (v_of rfl (c_of (tup_of (n_of ⟨Nat.zero_le _, fun a1 h1 => ?_⟩)))))))))
    refine c_of (tup_of (n_of ⟨Nat.zero_le _, fun a2 h2 => ?_⟩))
    have e2 : Ex H1 (upd H1 a1 (.tup [])) := Ex.new h1
    have e3 : Ex (upd H1 a1 (.tup [])) (upd (upd H1 a1 (.tup [])) a2 (.tup [])) := Ex.new h2
    have e13 := (e1.trans e2).trans e3
    refine n_of ⟨x, a1, a2, s, [], rfl, ht.ex e13, dr, .inr (st_of (e3 _ _ upd_same)), st_of upd_same, fun H4 q2 met2 e4 hq20 hq2 nd2 iff2 ml2 => ?_⟩
    rw [left_nil] at iff2
    refine n_of ⟨q2, _, met2, rfl, .inl hq2, by rw [List.map_map]; rfl, by omega, fun ys p perm srt hp => ⟨p, rfl, ⟨_, sq_of upd_same⟩, fun D hD => ?_⟩⟩
    have e5 : Ex H4 (upd H4 p (.lst (ys.map V.int))) := Ex.new hp
    have hq1' := (e5.trans (Ex.refl _)) _ _ (e4 _ _ (e3 _ _ (e2 _ _ hq1)))
    have p5 : (upd H4 p (.lst (ys.map V.int))) p = some (.lst (ys.map V.int)) := upd_same
    have e15 := (e13.trans e4).trans e5
    have yl : ys.length ≤ 12 := by
      rw [perm.length_eq]
      exact ml2
    have asc := strict_of srt (perm.nodup_iff.mpr nd2)
    generalize upd H4 p (.lst (ys.map V.int)) = H5 at e5 hq1' p5 e15 hD ⊢
    refine lc_list (xs := ys.map V.int) (fun i H' => Ex H5 H' ∧ H' D = some (.lst (((ys.take i).filter fun n => decide (n ∉ met1)).map V.int))) ⟨Ex.new hD, upd_same⟩ (fun i H' _ h => sq_of (h.1 _ _ p5)) ?_ ?_
    · rintro i x' H6 hx ⟨e6, h6⟩
      obtain ⟨n, hn, rfl⟩ := at_map hx
      have il : i < ys.length := (List.getElem?_eq_some_iff.mp hn).1
      refine ⟨rfl, ?_⟩
      refine test_of ⟨.int n, rfl, .ref q1, rfl, q1, _, rfl, DGet.k (k := Sum.inl n) (e6 _ _ hq1'), _, rfl, ?_⟩
      rw [val_kTrue]
      by_cases hm : n ∈ met1
      · rw [decide_eq_true hm, if_neg (show ¬ (!true) = true from Bool.false_ne_true)]
        refine ⟨e6, ?_⟩
        rw [h6, take_one hn, List.filter_append, List.filter_cons_of_neg (by simp [hm]), List.filter_nil, List.append_nil]
      · rw [decide_eq_false hm, if_pos (show (!false) = true from rfl)]
        refine v_of rfl ⟨_, h6, sz_lt ?_, Ex.mut e6 hD, ?_⟩
        · rw [List.length_map]
          have h1 := List.length_filter_le (fun n => decide (n ∉ met1)) (ys.take i)
          rw [List.length_take] at h1
          omega
        · rw [upd_same, take_one hn, List.filter_append, List.filter_cons_of_pos (by simp [hm]), List.filter_nil, List.map_append]
          rfl
    · rintro H6 ⟨e6, h6⟩
      rw [List.length_map, List.take_length] at h6
      refine n_of ⟨D, _, rfl, .inl ⟨sq_of h6, fun t ht' => ?_⟩⟩
      have e16 := e15.trans e6
      refine q _ t _ (e16.trans (Ex.new ht')) (fresh_back e16 ht') upd_same (asc.sublist List.filter_sublist) fun n => ?_
      rw [List.mem_filter, perm.mem_iff, iff2 n]
      constructor
      · rintro ⟨h1, h2⟩
        exact ⟨h1, fun l => of_decide_eq_true h2 ((iff1 n).mpr l)⟩
      · rintro ⟨h1, h2⟩
        exact ⟨h1, decide_eq_true fun m => h2 ((iff1 n).mp m)⟩
theorem ok_told {f fD : Addr} {fd fdD : FuncData} (F : Fun K "_law_told" "_law_told" sTold f fd) (FD : Fun K "dies_with" "dies_with" sDies fD fdD) (gD : mg "dies_with" = some (.ref fD)) (mL : mg "len" = none)
    (GD : FnR P w K mg base CX0 5 fD (spDies K)) : FnOk P w K mg base CX0 6 f fd ["_law_shot_here", "_law_some"] (spTold K) := by
  refine F.ok scTold (fun vs H Q E h => ?_) (fun cdv A outer s H vs Q E hr h => ?_)
  · obtain ⟨x, l, s, gs, rfl, _⟩ := h
    rfl
  · obtain ⟨x, l, s, gs, rfl, hl, ht, dr, gl, gin, q⟩ := h
    refine ⟨_, pss_cons (ps_if (pt_cmpR (op_eqD hr.units) (pv 1) (pe_lst pa_nil) (nomark _)) (pss_one (ps_ret (pe_callR GD hr (by rfl) gD FD.kp pass0 (pa_cons (pv 0) pa_nil)))) pss_nil) <|
      pss_cons (ps_if (pt_cmpR op_eq (pe_callB call_len_seq (by rfl) mL PySem.boot_len (pa_cons (pv 1) pa_nil)) pe_int (nomark _)) (pss_one (ps_ret (pe_callR GD hr (by rfl) gD FD.kp pass0 (pa_cons (pv 0) <| pa_cons (pe_ix ix_list (pv 1) pe_int (fun _ _ => rfl)) pa_nil)))) pss_nil) <|
      pss_one (ps_ret (pe_ifExp (pt_cmpR op_eq (pe_callB call_len_seq (by rfl) mL PySem.boot_len (pa_cons (pv 1) pa_nil)) pe_int (nomark _))
        (pe_callR GD hr (by rfl) gD FD.kp pass0 (pa_cons (pv 0) <| pa_cons (pe_ix ix_list (pv 1) pe_int (fun _ _ => rfl)) <| pa_cons (pe_ix ix_list (pv 1) pe_int (fun _ _ => rfl)) pa_nil))
        (pe_callR GD hr (by rfl) gD FD.kp pass0 (pa_cons (pv 0) <| pa_cons (pe_ix ix_list (pv 1) pe_int (fun _ _ => rfl)) <| pa_cons (pe_ix ix_list (pv 1) pe_int (fun _ _ => rfl)) <| pa_cons (pe_ix ix_list (pv 1) pe_int (fun _ _ => rfl)) pa_nil)))), ?_⟩
    refine seq_of (ifS_of (test_of (op_of (v_of rfl (lst_of (n_of ⟨Nat.zero_le _, fun e he => ⟨.list (gs.map .int), .list [], .lst (sq_of (Ex.new he _ _ hl)) (dp_ints gs), .lst (sq_of upd_same) .nil, ?_, by rfl, _, rfl, ?_⟩⟩))))))
    · unfold SeqAt.shaped
      rw [PyData.canLay0, ints_lay, PyData.depth, ints_depth]
      rfl
    have eN : Ex H (upd H e (.lst [])) := Ex.new he
    have lN := eN _ _ hl
    generalize upd H e (.lst []) = HN at eN lN ⊢
    have fin : ∀ H2, Ex H H2 → spDies K (x :: gs.map V.int) H2 Q E0 := fun H2 e2 => ⟨x, s, gs, rfl, ht.ex e2, dr.ok, gl, gin, fun H' t ns e3 h0 h1 a i => q H' t ns (e2.trans e3) (fresh_back e2 h0) h1 a i⟩
    have ix : ∀ (j : Nat) (v : Int) {H2 : Hp} {Q' : VK} {σ : L2.St}, Ex H H2 → gs[j]? = some v → σ[1]? = some (some (.ref l)) → Q' (.int v) H2 → tOp (rIxL K) (tVar 1) (tC (.int (j : Int))) σ H2 Q' := fun j v {H2 Q' σ} e2 hv h1 hq => op_of (v_of h1 (k_of ⟨l, gs.map V.int, (j : Int), .int v, rfl, rfl, sq_of (e2 _ _ hl), atI_nat (by rw [List.getElem?_map, hv]; rfl), hq⟩))
    match gs, hgs : gl, fin, ix, lN with
    | [], _, fin, ix, lN =>
      rw [show PyData.eqv (.list (([] : List Int).map .int)) (.list []) = true from rfl, if_pos rfl]
      exact ret_of (callR_of (c_of (v_of rfl (n_of (fin HN eN)))))
    | [a], _, fin, ix, lN =>
      rw [show PyData.eqv (.list (([a] : List Int).map .int)) (.list []) = false from rfl, if_neg Bool.false_ne_true]
      dsimp only [tNext]
      refine seq_of (ifS_of (test_of (op_of (ev_len (ev_var rfl) (sq_of lN) HN (Ex.refl HN) _ fun H2 e2 => k_of ⟨rfl, _, rfl, ?_⟩))))
      rw [if_pos (len_eq (by rfl))]
      exact ret_of (callR_of (c_of (v_of rfl (c_of (ix 0 a (eN.trans e2) rfl rfl (n_of (fin H2 (eN.trans e2))))))))
    | [a, b], _, fin, ix, lN =>
      rw [show PyData.eqv (.list (([a, b] : List Int).map .int)) (.list []) = false from rfl, if_neg Bool.false_ne_true]
      dsimp only [tNext]
      refine seq_of (ifS_of (test_of (op_of (ev_len (ev_var rfl) (sq_of lN) HN (Ex.refl HN) _ fun H2 e2 => k_of ⟨rfl, _, rfl, ?_⟩))))
      rw [if_neg (len_ne (by show ((2 : Nat) : Int) ≠ 1; decide))]
      refine ret_of (if_of (test_of (op_of (ev_len (ev_var rfl) (sq_of (e2 _ _ lN)) H2 (Ex.refl H2) _ fun H3 e3 => k_of ⟨rfl, _, rfl, ?_⟩))))
      rw [if_pos (len_eq (by rfl))]
      have e4 := (eN.trans e2).trans e3
      exact callR_of (c_of (v_of rfl (c_of (ix 0 a e4 rfl rfl (c_of (ix 1 b e4 rfl rfl (n_of (fin H3 e4))))))))
    | [a, b, c], _, fin, ix, lN =>
      rw [show PyData.eqv (.list (([a, b, c] : List Int).map .int)) (.list []) = false from rfl, if_neg Bool.false_ne_true]
      dsimp only [tNext]
      refine seq_of (ifS_of (test_of (op_of (ev_len (ev_var rfl) (sq_of lN) HN (Ex.refl HN) _ fun H2 e2 => k_of ⟨rfl, _, rfl, ?_⟩))))
      rw [if_neg (len_ne (by show ((3 : Nat) : Int) ≠ 1; decide))]
      refine ret_of (if_of (test_of (op_of (ev_len (ev_var rfl) (sq_of (e2 _ _ lN)) H2 (Ex.refl H2) _ fun H3 e3 => k_of ⟨rfl, _, rfl, ?_⟩))))
      rw [if_neg (len_ne (by show ((3 : Nat) : Int) ≠ 2; decide))]
      have e4 := (eN.trans e2).trans e3
      exact callR_of (c_of (v_of rfl (c_of (ix 0 a e4 rfl rfl (c_of (ix 1 b e4 rfl rfl (c_of (ix 2 c e4 rfl rfl (n_of (fin H3 e4))))))))))
    | _ :: _ :: _ :: _ :: _, h4, _, _, _ => exact absurd h4 (by show ¬ (_ + 1 + 1 + 1 + 1 ≤ 3); omega)
end
end Sn
namespace L2
open PySem PySem.Spec PyProof.Rows
/-- a != b of plain data, any texts -/
def rNeP (K : PySem.W.Frag) : R2 := fun x y H Q => ∃ d e, Dp K H x d ∧ Dp K H y e ∧ d.plain = true ∧ e.plain = true ∧ d.depth ≤ 60 ∧ e.depth ≤ 60 ∧ Q (.bl (!PyData.eqv d e)) H
theorem op_neP {X : Cx} (hu : X.A.units + 64 < cLine) : OpR X (compareOp .NotEq) (rNeP X.K) := by
  intro pins s σ H x y v u Q I rx ry h
  obtain ⟨d, e, hd, he, sd, se, dd, de, q⟩ := h
  obtain ⟨as, r1⟩ := Dp.reads I d x v hd rx
  obtain ⟨bs, r2⟩ := Dp.reads I e y u he ry
  exact SeqAt.ne_plain r1 r2 sd se (by omega) ⟨.bl _, H, I, rfl, q⟩
end L2
namespace Sn
open PySem PySem.Spec PyProof.Rows L2 Evl Gd
abbrev sRight : Stmt := topS 26
abbrev nRight : List Str := ["_law_box_here", "_law_shot_here", "_law_kept", "_law_known", "_law_item", "_law_turn", "_law_some", "_law_due", "_law_thing", "_law_again"]
theorem scRight : FnScope nRight ["_law_box_here"] (defScope sRight) := ⟨rfl, rfl, rfl, by decide +kernel, rfl, by decide +kernel, by decide +kernel⟩
def spRight : Sp := fun vs H Q _ => ∃ (d : Addr) (n : Int), vs = [.ref d] ∧ Pot H d n ∧ n ≤ 600000 ∧ ∀ H', Off d H H' → Pot H' d (n + 640) → Q (.bl true) H'
theorem fit_ints {ns : List Int} (h : ∀ n ∈ ns, 0 ≤ n ∧ n ≤ 1000) (l : ns.length ≤ 1000) : Fit (.tuple (ns.map .int)) 1 12002 := (FitAll.map fun n hn => fit_int (h n hn)).tup.up (by decide) (by omega)
/-- what an ascending tuple of living ones is: small -/
theorem Drawn.small {s : Shot} (dr : Drawn s) {ns : List Int} (a : ns.Pairwise (· < ·)) (h : ∀ n ∈ ns, Live (arcsOf s) n) : Fit (.tuple (ns.map .int)) 1 12002 := by
  have nd : ns.Nodup := a.imp fun {x y} z => by omega
  have few := dr.few nd h
  refine fit_ints (fun m hm => ?_) (by omega)
  cases h m hm with
  | mk a _ =>
    have := dr.nums _ (dr.tgts a)
    omega
/-- repr(a tuple of ints) -/
theorem rp_of {K : PySem.W.Frag} {t : Addr} {ns : List Int} {H : Hp} {Q : VK} (h : H t = some (.tup (ns.map V.int))) (f : Fit (.tuple (ns.map .int)) 1 12002) (q : Q (.str (PyData.shown (.tuple (ns.map .int)))) H) :
    rReprD K [V.ref t] H Q :=
  ⟨.ref t, .tuple (ns.map .int), rfl, dp_tupI (st_of h), f.sh, f.nd, Nat.le_trans f.dp (by decide), Nat.le_trans f.ln (by rw [sizeLine_eq]; decide), q⟩
theorem left_rev (s : Shot) (gs : List Int) : leftOf s gs.reverse = leftOf s gs := by
  unfold leftOf
  refine List.filter_congr fun α _ => ?_
  simp
section
variable {σ : L2.St} {H : Hp} {Q : VK}
end
theorem strs_eqv (z : Str) : PyData.eqv (.list [.str z, .str z]) (.list [.str z, .str z]) = true := PySem.SeqAt.eqv_refl_plain _ rfl
section
variable {P : Program} {w : World} {K : PySem.W.Frag} {mg : Str → Option Value} {base : Heap}
theorem ok_right {f fT fO fS fA fV fG fD fX : Addr} {fd fdT fdO fdS fdA fdV fdG fdD fdX : FuncData} (F : Fun K "_law_right" "_law_right" sRight f fd) (FT : Fun K "_law_take" "_law_take" sTake fT fdT) (FO : Fun K "_law_of" "_law_of" sOf fO fdO) (FS : Fun K "_law_shot" "_law_shot" sShot fS fdS) (FA : Fun K "alive" "alive" sAlive fA fdA) (FV : Fun K "_law_alive" "_law_alive" sAliv fV fdV) (FG : Fun K "_law_dying" "_law_dying" sDying fG fdG) (FD : Fun K "dies_with" "dies_with" sDies fD fdD) (FX : Fun K "_law_told" "_law_told" sTold fX fdX)
    (bT : Binds K fdT ["_law_box_here", "_law_many"] []) (bO : Binds K fdO ["_law_box_here", "_law_some"] []) (bS : Binds K fdS ["_law_box_here", "_law_most"] []) (bA : Binds K fdA ["snapshot"] []) (bV : Binds K fdV ["_law_shot_here", "_law_gone", "_law_cut"] []) (bG : Binds K fdG ["_law_shot_here", "_law_gone", "_law_cut"] []) (bX : Binds K fdX ["_law_shot_here", "_law_some"] [])
    (gT : mg "_law_take" = some (.ref fT)) (gO : mg "_law_of" = some (.ref fO)) (gS : mg "_law_shot" = some (.ref fS)) (gA : mg "alive" = some (.ref fA)) (gV : mg "_law_alive" = some (.ref fV)) (gG : mg "_law_dying" = some (.ref fG)) (gD : mg "dies_with" = some (.ref fD)) (gX : mg "_law_told" = some (.ref fX))
    (mP : mg "repr" = none) (mT : mg "tuple" = none) (mO : mg "sorted" = none) (mL : mg "len" = none) (mR : mg "range" = none)
    (GS' : FnOk P w K mg base CX0 4 fS fdS ["_law_box_here", "_law_most"] (spShot K)) (GA' : FnOk P w K mg base CX0 4 fA fdA ["snapshot"] (spAlive K)) (GV' : FnOk P w K mg base CX0 2 fV fdV ["_law_shot_here", "_law_gone", "_law_cut"] (spAliv K)) (GG' : FnOk P w K mg base CX0 3 fG fdG ["_law_shot_here", "_law_gone", "_law_cut"] (spDying K)) (GD' : FnR P w K mg base CX0 5 fD (spDies K)) (GX : FnOk P w K mg base CX0 6 fX fdX ["_law_shot_here", "_law_some"] (spTold K)) : FnG P w K mg base CX0 7 f fd ["_law_box_here"] spRight := by
  have GT : FnOk P w K mg base CX0 6 fT fdT ["_law_box_here", "_law_many"] spTake := (ok_take FT).mono (by decide)
  have GO : FnOk P w K mg base CX0 6 fO fdO ["_law_box_here", "_law_some"] spOf := (ok_of FO FT bT gT mL).mono (by decide)
  have GS : FnOk P w K mg base CX0 6 fS fdS ["_law_box_here", "_law_most"] (spShot K) := GS'.mono (by decide)
  have GA : FnOk P w K mg base CX0 6 fA fdA ["snapshot"] (spAlive K) := GA'.mono (by decide)
  have GV : FnOk P w K mg base CX0 6 fV fdV ["_law_shot_here", "_law_gone", "_law_cut"] (spAliv K) := GV'.mono (by decide)
  have GG : FnOk P w K mg base CX0 6 fG fdG ["_law_shot_here", "_law_gone", "_law_cut"] (spDying K) := GG'.mono (by decide)
  have GD : FnR P w K mg base CX0 6 fD (spDies K) := GD'.mono (by decide)
  refine fng0_of F scRight (fun vs H Q E h => ?_) (fun cdv A outer s H vs Q E hr gd h => ?_)
  · obtain ⟨d, n, rfl, _⟩ := h
    rfl
  · obtain ⟨d, n, rfl, pot, hn, q⟩ := h
    refine ⟨_, pss_cons (ps_set (i := 1) scRight.nd rfl (.inl rfl) (pe_call GS hr (by rfl) gS FS.kp bS .nil pass0 (pa_cons (pv 0) <| pa_cons pe_int pa_nil))) <|
      pss_cons (ps_asg (pe_tup (pa_cons (pe_callB (call_reprD gd hr.units) (by rfl) mP boot_repr (pa_cons (pv 1) pa_nil)) <| pa_cons (pe_lc (own := [("_law_thing", 8)]) (g := gName 8) (tt := tYes) (te := tOp (rIxT K) (tVar 8) (tC (.int 0))) rfl scRight.nd (pi_tup (pe_ix ix_tup (pv 1) pe_int (fun _ _ => rfl))) (blkOk_by (N := nRight) (sc := defScope sRight) (by decide +kernel))
          (fun _ _ _ _ _ => pg_name (i := 8) scRight.nd rfl (.inl rfl)) (fun _ _ _ _ _ => pts_nil) (fun _ _ _ _ _ => pe_ix ix_tup (pv 8) pe_int (fun _ _ => rfl))) pa_nil)) (pg_tup (n := 2) rfl (pgs_cons (pg_name (i := 2) scRight.nd rfl (.inl rfl)) <| pgs_cons (pg_name (i := 3) scRight.nd rfl (.inr rfl)) pgs_nil))) <|
      pss_cons (ps_if (pt_cmpR op_ne (pe_callB (call_reprD gd hr.units) (by rfl) mP boot_repr (pa_cons (pe_call GA hr (by rfl) gA FA.kp bA .nil pass0 (pa_cons (pv 1) pa_nil)) pa_nil)) (pe_callB (call_reprD gd hr.units) (by rfl) mP boot_repr (pa_cons (pe_callTy call_tuple_of (by rfl) mT (by decide +kernel) (pa_cons (pe_callB (call_sortedDI rfl) (by rfl) mO (by decide +kernel) (pa_cons (pe_call GV hr (by rfl) gV FV.kp bV .nil pass0 (pa_cons (pv 1) <| pa_cons (pe_tup pa_nil) <| pa_cons (pe_tup pa_nil) pa_nil)) pa_nil)) pa_nil)) pa_nil)) (nomark _)) (pss_one (ps_ret pe_bl)) pss_nil) <|
      pss_cons (ps_for PassesOwn.never rfl (pi_list (pv 3)) (pg_name (i := 4) scRight.nd rfl (.inl rfl))
        (pss_one (ps_if (pt_cmpR op_ne (pe_callB (call_reprD gd hr.units) (by rfl) mP boot_repr (pa_cons (pe_callR GD hr (by rfl) gD FD.kp pass0 (pa_cons (pv 1) <| pa_cons (pv 4) pa_nil)) pa_nil)) (pe_callB (call_reprD gd hr.units) (by rfl) mP boot_repr (pa_cons (pe_call GG hr (by rfl) gG FG.kp bG .nil pass0 (pa_cons (pv 1) <| pa_cons (pe_tup (pa_cons (pv 4) pa_nil)) <| pa_cons (pe_tup pa_nil) pa_nil)) pa_nil)) (nomark _)) (pss_one (ps_ret pe_bl)) pss_nil))) <|
      pss_cons (ps_for PassesOwn.never rfl (pi_range1 (by rfl) mR (pa_cons pe_int pa_nil)) (pg_name (i := 5) scRight.nd rfl (.inl rfl))
        (pss_cons (ps_setLc (i := 6) (own := [("_law_again", 9)]) (g := gName 9) (tt := tYes) (te := tCall spOf [] E0 (tCons (tVar 0) (tCons (tVar 3) tNil))) rfl scRight.nd rfl rfl (sw_true rfl rfl rfl (by decide +kernel)) (pi_range1 (by rfl) mR (pa_cons (pe_call GT hr (by rfl) gT FT.kp bT .nil pass0 (pa_cons (pv 0) <| pa_cons pe_int pa_nil)) pa_nil)) (blkOk_by (N := nRight) (sc := defScope sRight) (by decide +kernel))
            (fun _ _ _ _ _ => pg_name (i := 9) scRight.nd rfl (.inl rfl)) (fun _ _ _ _ _ => pts_nil) (fun _ _ _ _ _ => pe_call GO hr (by rfl) gO FO.kp bO .nil pass0 (pa_cons (pv 0) <| pa_cons (pv 3) pa_nil))) <|
        pss_cons (ps_set (i := 7) scRight.nd rfl (.inl rfl) (pe_callB (call_reprD gd hr.units) (by rfl) mP boot_repr (pa_cons (pe_call GG hr (by rfl) gG FG.kp bG .nil pass0 (pa_cons (pv 1) <| pa_cons (pv 6) <| pa_cons (pe_tup pa_nil) pa_nil)) pa_nil))) <|
        pss_one (ps_if (pt_cmpR (op_neP hr.units) (pe_lst (pa_cons (pe_callB (call_reprD gd hr.units) (by rfl) mP boot_repr (pa_cons (pe_call GX hr (by rfl) gX FX.kp bX .nil pass0 (pa_cons (pv 1) <| pa_cons (pv 6) pa_nil)) pa_nil)) <| pa_cons (pe_callB (call_reprD gd hr.units) (by rfl) mP boot_repr (pa_cons (pe_call GX hr (by rfl) gX FX.kp bX .nil pass0 (pa_cons (pv 1) <| pa_cons (pe_revL (pv 6)) pa_nil)) pa_nil)) pa_nil)) (pe_lst (pa_cons (pv 7) <| pa_cons (pv 7) pa_nil)) (nomark _)) (pss_one (ps_ret pe_bl)) pss_nil))) <|
      pss_one (ps_ret (pe_cmpR op_eq (pe_callB (call_reprD gd hr.units) (by rfl) mP boot_repr (pa_cons (pv 1) pa_nil)) (pv 2) (nomark _))), ?_⟩
    refine seq_of (asg_of (call_of (c_of (v_of rfl (c_of (k_of (n_of ⟨d, n, rfl, pot, by omega, fun H1 x s o1 p1 tx dr => ?_⟩)))))))
    have ft := dr.fit
    have f40 : (dShot s).depth ≤ 40 := Nat.le_trans ft.dp (by decide)
    have fln : (dShot s).shown.length ≤ sizeLine := Nat.le_trans ft.ln (by rw [sizeLine_eq]; decide)
    have tx0 := tx
    obtain ⟨px, xr, xo, rfl, sp, tr, to⟩ := Td.inv2 tx0
    obtain ⟨po, os, rfl, spo, to⟩ := to.inv_tup
    have lts := to.len
    rw [List.length_map] at lts
    have tl12 := dr.len
    dsimp only
    refine seq_of (asgG_of (tup_of (c_of (cb_of (c_of (v_of rfl (n_of ⟨.ref px, _, rfl, tx.dp, ft.sh, ft.nd, f40, fln, ?_⟩)))))))
    refine c_of (lc_of (iT_of (op_of (v_of rfl (k_of ⟨px, _, 1, _, rfl, rfl, sp, atI_nat (j := 1) rfl, po, rfl, ⟨_, spo⟩, fun D hD => lc_tup (xs := os) (fun i H' => Ex H1 H' ∧ H' D = some (.lst (((s.things.take i).map Thing.n).map V.int))) ⟨Ex.new hD, upd_same⟩ (fun i H' _ h => ex_t h.1 spo) ?_ ?_⟩)))))
    · rintro i x' H' hx ⟨e, hD'⟩
      have il : i < os.length := (List.getElem?_eq_some_iff.mp hx).1
      obtain ⟨δ, hδ, hT⟩ := to.get hx
      obtain ⟨t, ht1, rfl⟩ := map_at hδ
      obtain ⟨a, v1, v2, v3, v4, rfl, s1, t1, t2, t3, t4⟩ := Td.inv4 hT
      rw [t1.inv_int] at s1
      refine ⟨rfl, ?_⟩
      dsimp only [tYes]
      rw [if_pos rfl]
      refine op_of (v_of rfl (k_of ⟨a, _, 0, _, rfl, rfl, ex_t e s1, atI_nat (j := 0) rfl, _, hD', sz_lt (by rw [List.length_map, List.length_map, List.length_take]; omega), Ex.mut e hD, ?_⟩))
      rw [upd_same, take_one ht1, List.map_append, List.map_append]
      rfl
    · rintro H2 ⟨e2, hD2⟩
      rw [lts, List.take_length] at hD2
      refine n_of ⟨by show 2 ≤ sizeLine; decide, fun p3 hp3 => ⟨p3, _, rfl, st_of upd_same, rfl, .str _, _, rfl, .ref D, _, rfl, rfl, ?_⟩⟩
      have e3 : Ex H2 (upd H2 p3 (.tup [.str (dShot s).shown, .ref D])) := Ex.new hp3
      have e13 := e2.trans e3
      have hD3 := e3 _ _ hD2
      have tx3 := tx.ex e13
      have p3' := p1.ex e13
      have o3 : Off d H (upd H2 p3 (.tup [.str (dShot s).shown, .ref D])) := o1.trans (Off.of e13)
      generalize upd H2 p3 (.tup [.str (dShot s).shown, .ref D]) = H3 at e3 e13 hD3 tx3 p3' o3 ⊢
      clear e2 hD2 hp3 e13 e3
      have nDd : D ≠ d := fun z => by
        obtain ⟨g, b, m, h0, _⟩ := p1
        rw [z, h0] at hD
        cases hD
      -- alive
      dsimp only
      refine seq_of (ifS_of (test_of (op_of (cb_of (c_of (call_of (c_of (v_of rfl (n_of ⟨.ref px, s, rfl, tx3, dr.ok, fun H4 t4 ns4 e4 _ h4 a4 i4 l4 => n_of (rp_of h4 (dr.small a4 fun m hm => (i4 m).mp hm) ?_)⟩)))))))))
      refine cb_of (c_of (cb_of (c_of (cb_of (c_of (call_of (c_of (v_of rfl (c_of (tup_of (n_of ⟨Nat.zero_le _, fun a1 h1 => c_of (tup_of (n_of ⟨Nat.zero_le _, fun a2 h2 => ?_⟩))⟩)))))))))))
      have e5 : Ex H4 (upd H4 a1 (.tup [])) := Ex.new h1
      have e6 : Ex (upd H4 a1 (.tup [])) (upd (upd H4 a1 (.tup [])) a2 (.tup [])) := Ex.new h2
      refine n_of ⟨.ref px, a1, a2, s, [], rfl, tx3.ex ((e4.trans e5).trans e6), dr, .inr (st_of (e6 _ _ upd_same)), st_of upd_same, fun H7 q7 met7 e7 _ hq7 nd7 iff7 ml7 => ?_⟩
      rw [left_nil] at iff7
      refine n_of ⟨q7, _, met7, rfl, .inl hq7, by rw [List.map_map]; rfl, by omega, fun ys p perm srt hp => n_of ⟨p, _, rfl, .inl ⟨sq_of upd_same, fun t ht => ?_⟩⟩⟩
      have asc := strict_of srt (perm.nodup_iff.mpr nd7)
      have iy : ∀ m, m ∈ ys ↔ Live (arcsOf s) m := fun m => perm.mem_iff.trans (iff7 m)
      refine n_of (rp_of (ns := ys) upd_same (dr.small asc fun m hm => (iy m).mp hm) ⟨rfl, _, rfl, ?_⟩)
      rw [same_of a4 asc i4 iy, decide_eq_true rfl, if_neg (show ¬ (!true) = true from Bool.false_ne_true)]
      have e8 : Ex H7 (upd H7 p (.lst (ys.map V.int))) := Ex.new hp
      have e9 : Ex (upd H7 p (.lst (ys.map V.int))) (upd (upd H7 p (.lst (ys.map V.int))) t (.tup (ys.map V.int))) := Ex.new ht
      have e39 : Ex H3 (upd (upd H7 p (.lst (ys.map V.int))) t (.tup (ys.map V.int))) := ((((e4.trans e5).trans e6).trans e7).trans e8).trans e9
      generalize upd (upd H7 p (.lst (ys.map V.int))) t (.tup (ys.map V.int)) = H9 at e39 ⊢
      clear e4 e5 e6 e7 e8 e9
      have hD9 := e39 _ _ hD3
      have tx9 := tx3.ex e39
      have p9 := p3'.ex e39
      have o9 := o3.trans (Off.of e39)
      dsimp only [tNext]
      -- each one
      refine ⟨.ref D, rfl, D, rfl, ⟨_, sq_of hD9⟩, for_list (K := K) (a := D) (xs := (s.things.map Thing.n).map V.int) (fun i σ' H' => ∃ y4, σ' = [some (.ref d), some (.ref px), some (.str (dShot s).shown), some (.ref D), y4, none, none, none, none, none] ∧ Ex H9 H') ⟨none, rfl, Ex.refl H9⟩ (fun i σ' H' _ ⟨_, _, e⟩ => sq_of (e _ _ hD9)) ?_ ?_⟩
      · rintro i x' σ' HA hx ⟨y4, rfl, eA⟩
        obtain ⟨k, hk, rfl⟩ := at_map hx
        have kin := List.mem_of_getElem? hk
        dsimp only [gName]
        refine ifS_of (test_of (op_of (cb_of (c_of (callR_of (c_of (v_of rfl (c_of (v_of rfl (n_of ⟨.ref px, s, [k], rfl, tx9.ex eA, dr.ok, by show 1 ≤ 3; decide, fun g hg => by rw [List.mem_singleton.mp hg]; exact kin, fun HB tB nsB eB _ hB aB iB => n_of (rp_of hB (dr.small aB fun m hm => ((iB m).mp hm).1) ?_)⟩))))))))))
        refine cb_of (c_of (call_of (c_of (v_of rfl (c_of (tup_of (c_of (v_of rfl (n_of ⟨by show 1 ≤ sizeLine; decide, fun a1 h1 => c_of (tup_of (n_of ⟨Nat.zero_le _, fun a2 h2 => ?_⟩))⟩)))))))))
        have e5 : Ex HB (upd HB a1 (.tup [.int k])) := Ex.new h1
        have e6 : Ex (upd HB a1 (.tup [.int k])) (upd (upd HB a1 (.tup [.int k])) a2 (.tup [])) := Ex.new h2
        refine n_of ⟨.ref px, a1, a2, s, [k], rfl, tx9.ex (((eA.trans eB).trans e5).trans e6), dr, .inr (st_of (e6 _ _ upd_same)), st_of upd_same, fun HC tC nsC eC _ hC aC iC => n_of (rp_of hC (dr.small aC fun m hm => ((iC m).mp hm).1) ⟨rfl, _, rfl, ?_⟩)⟩
        rw [same_of aB aC iB iC, decide_eq_true rfl, if_neg (show ¬ (!true) = true from Bool.false_ne_true)]
        exact ⟨_, rfl, (((eA.trans eB).trans e5).trans e6).trans eC⟩
      · rintro σ' HA ⟨y4, rfl, eA⟩
        have hDA := eA _ _ hD9
        have txA := tx9.ex eA
        have pA := p9.ex eA
        have oA := o9.trans (Off.of eA)
        dsimp only
        -- drawn ones
        refine seq_of (for1_of (c_of (k_of (n_of ⟨8, rfl, by decide, by decide, for_range (lo := 0) (n := 8) (fun i σ' H' => ∃ y4 y5 y6 y7, σ' = [some (.ref d), some (.ref px), some (.str (dShot s).shown), some (.ref D), y4, y5, y6, y7, none, none] ∧ Off d HA H' ∧ Pot H' d (n + 600 + 4 * (i : Int))) ⟨_, none, none, none, rfl, Off.refl d HA, pA.up (by omega)⟩ ?_ ?_⟩))))
        · rintro i σ' HB hi ⟨y4, y5, y6, y7, rfl, oB, pB⟩
          have hDB := oB D _ nDd hDA
          dsimp only [gName]
          refine seq_of (asg_of (lc_of (r1_of (c_of (rd_take (many := 4) (ev_var rfl) ev_c pB (by omega) (by decide) (by decide) fun HC r oC pC r0 r1 => n_of ⟨r, rfl, by omega, by omega, fun D2 hD2 => ?_⟩)))))
          have hDC := oC D _ nDd hDB
          refine lcj (K := K) (walk_range (lo := 0) (n := r.toNat)) (fun i => some (.int (0 + (i : Int)))) (n := n + 600 + 4 * (i : Int) + 1) (c := 1) (fun i ys _ => ∃ gs : List Int, ys = gs.map V.int ∧ gs.length = i ∧ ∀ g ∈ gs, g ∈ s.things.map Thing.n)
            (fun _ _ => trivial) (fun i H x H' y => ⟨y.1, by rw [y.2]⟩) hD2 pC (by decide) (by omega) (fun _ => ⟨[], rfl, rfl, fun _ h => absurd h List.not_mem_nil⟩) (fun i ys H r => ?_) (fun i ys H H' _ r => r) (fun x => rfl) ?_ ?_
          · obtain ⟨gs, rfl, h, _⟩ := r
            rw [List.length_map, h]
            exact Nat.le_refl _
          · rintro j x' ys HE hj hx oE pE ⟨gs, rfl, gl, gin⟩ k1 k0 h1 h0
            cases hx
            dsimp only [tYes]
            rw [if_pos rfl]
            refine rd_ofF rfl rfl pE (by omega) nDd (oE D _ nDd hDC) (by rw [List.length_map]; exact dr.len0) (by rw [List.length_map]; exact tl12) fun HF v hv oF pF => ?_
            refine h1 _ HF oF (pF.up (by push_cast; omega)) ⟨gs ++ [v], by rw [List.map_append]; rfl, by rw [List.length_append, gl]; rfl, fun g hg => ?_⟩
            rcases List.mem_append.mp hg with m | m
            · exact gin g m
            · rw [List.mem_singleton.mp m]
              exact hv
          · rintro HE ys oE pE hE2 ⟨gs, rfl, gl, gin⟩
            have gl3 : gs.length ≤ 3 := by omega
            have oBE := (oB.trans oC).trans oE
            have txE := txA.keep (keepOff pA oBE)
            -- due
            dsimp only
            refine seq_of (asg_of (cb_of (c_of (call_of (c_of (v_of rfl (c_of (v_of rfl (c_of (tup_of (n_of ⟨Nat.zero_le _, fun a1 h1 => ?_⟩)))))))))))
            have e5 : Ex HE (upd HE a1 (.tup [])) := Ex.new h1
            refine n_of ⟨.ref px, D2, a1, s, gs, rfl, txE.ex e5, dr, .inl (sq_of (e5 _ _ hE2)), st_of upd_same, fun HF tF nsF eF _ hF aF iF => n_of (rp_of hF (dr.small aF fun m hm => ((iF m).mp hm).1) ?_)⟩
            have eEF := e5.trans eF
            dsimp only
            refine ifS_of (test_of (op_of (lst_of (c_of (cb_of (c_of (call_of (c_of (v_of rfl (c_of (v_of rfl (n_of ⟨.ref px, D2, s, gs, rfl, eEF _ _ hE2, txE.ex eEF, dr, gl3, gin, fun HG tG nsG eG _ hG aG iG => n_of (rp_of hG (dr.small aG fun m hm => ((iG m).mp hm).1) ?_)⟩)))))))))))) 
            have eEG := eEF.trans eG
            refine c_of (cb_of (c_of (call_of (c_of (v_of rfl (c_of (rev_of (v_of rfl ⟨D2, _, rfl, sq_of (eEG _ _ hE2), fun pH hpH => ?_⟩))))))))
            have eH : Ex HG (upd HG pH (.lst ((gs.map V.int).reverse))) := Ex.new hpH
            refine n_of ⟨.ref px, pH, s, gs.reverse, rfl, by rw [upd_same, List.map_reverse], txE.ex (eEG.trans eH), dr, by rw [List.length_reverse]; exact gl3, fun g hg => gin g (List.mem_reverse.mp hg), fun HI tI nsI eI0 _ hI aI iI => n_of (rp_of hI (dr.small aI fun m hm => ((iI m).mp hm).1) ?_)⟩
            rw [left_rev] at iI
            refine n_of ⟨by show 2 ≤ sizeLine; decide, fun l1 hl1 => ?_⟩
            refine lst_of (c_of (v_of rfl (c_of (v_of rfl (n_of ⟨by show 2 ≤ sizeLine; decide, fun l2 hl2 => ?_⟩)))))
            have q1 := same_of aG aF iG iF
            have q2 := same_of aI aF iI iF
            subst q1
            subst q2
            have eI : Ex HI (upd HI l1 (.lst [.str (PyData.shown (.tuple (nsI.map .int))), .str (PyData.shown (.tuple (nsI.map .int)))])) := Ex.new hl1
            have l1' : (upd HI l1 (.lst [.str (PyData.shown (.tuple (nsI.map .int))), .str (PyData.shown (.tuple (nsI.map .int)))])) l1 = some (.lst [.str (PyData.shown (.tuple (nsI.map .int))), .str (PyData.shown (.tuple (nsI.map .int)))]) := upd_same
            generalize upd HI l1 (.lst [.str (PyData.shown (.tuple (nsI.map .int))), .str (PyData.shown (.tuple (nsI.map .int)))]) = HJ at eI l1' hl2 ⊢
            have eJ : Ex HJ (upd HJ l2 (.lst [.str (PyData.shown (.tuple (nsI.map .int))), .str (PyData.shown (.tuple (nsI.map .int)))])) := Ex.new hl2
            refine ⟨.list [.str (PyData.shown (.tuple (nsI.map .int))), .str (PyData.shown (.tuple (nsI.map .int)))], .list [.str (PyData.shown (.tuple (nsI.map .int))), .str (PyData.shown (.tuple (nsI.map .int)))], .lst (sq_of (eJ _ _ l1')) (.cons (.str _) (.cons (.str _) .nil)), .lst (sq_of upd_same) (.cons (.str _) (.cons (.str _) .nil)), rfl, rfl, ?_, ?_, _, rfl, ?_⟩
            · simp [PyData.depth, PyData.depthAll]
            · simp [PyData.depth, PyData.depthAll]
            rw [strs_eqv, if_neg (show ¬ (!true) = true from Bool.false_ne_true)]
            have eEJ : Ex HE (upd HJ l2 (.lst [.str (PyData.shown (.tuple (nsI.map .int))), .str (PyData.shown (.tuple (nsI.map .int)))])) := (((eEG.trans eH).trans eI0).trans eI).trans eJ
            exact ⟨_, _, _, _, rfl, oBE.trans (Off.of eEJ), (pE.ex eEJ).up (by push_cast; omega)⟩
        · rintro σ' HB ⟨y4, y5, y6, y7, rfl, oB, pB⟩
          have txB := txA.keep (keepOff pA oB)
          dsimp only
          refine ret_of (op_of (cb_of (c_of (v_of rfl (n_of ⟨.ref px, _, rfl, txB.dp, ft.sh, ft.nd, f40, fln, ?_⟩)))))
          refine v_of rfl ⟨rfl, ?_⟩
          rw [decide_eq_true rfl]
          exact q HB (oA.trans oB) (pB.up (by omega))
end
end Sn
namespace Sn
open PySem PySem.Spec PyProof.Rows L2 Evl Gd
abbrev sLaw : Stmt := topS 27
abbrev nLaw : List Str := ["_law_script", "_law_k", "_law_box_here", "_law_turn"]
theorem scLaw : FnScope nLaw ["_law_script"] (defScope sLaw) := ⟨rfl, rfl, rfl, by decide +kernel, rfl, by decide +kernel, by decide +kernel⟩
def spLaw (K : PySem.W.Frag) : Sp := fun vs H Q _ => ∃ (a : Addr) (ns : List Int), vs = [.ref a] ∧ SqL K H a (ns.map V.int) ∧ ns.length ≤ 63 ∧ ∀ H', Q (.bl true) H'
theorem Off.ex {d : Addr} {H H' : Hp} (o : Off d H H') (h : H d = none) : Ex H H' := fun a u ha => o a u (ne_of_none ha h) ha
section
variable {P : Program} {w : World} {K : PySem.W.Frag} {mg : Str → Option Value} {base : Heap}
theorem ok_law {f fJ fR : Addr} {fd fdJ fdR : FuncData} (F : Fun K "law" "law" sLaw f fd) (FJ : Fun K "_law_box" "_law_box" sSource fJ fdJ) (FR : Fun K "_law_right" "_law_right" sRight fR fdR)
    (bJ : Binds K fdJ ["_law_script", "_law_k"] []) (bR : Binds K fdR ["_law_box_here"] [])
    (gJ : mg "_law_box" = some (.ref fJ)) (gR : mg "_law_right" = some (.ref fR))
    (mL : mg "len" = none) (mR : mg "range" = none) (mX : mg "max" = none) (mN : mg "min" = none) (mA : mg "all" = none) (mB : mg "abs" = none) (mI : mg "int" = none)
    (GR : FnG P w K mg base CX0 7 fR fdR ["_law_box_here"] spRight) : FnG P w K mg base CX0 8 f fd ["_law_script"] (spLaw K) := by
  have GJ : FnOk P w K mg base CX0 7 fJ fdJ ["_law_script", "_law_k"] (spSource K) := (ok_source FJ mL mB mI).mono (by decide)
  refine fng0_of F scLaw (fun vs H Q E h => ?_) (fun cdv A outer s H vs Q E hr gd h => ?_)
  · obtain ⟨a, ns, rfl, _⟩ := h
    rfl
  · obtain ⟨a, ns, rfl, hS, hlen, q⟩ := h
    refine ⟨_, pss_cons (ps_for PassesOwn.never rfl (pi_range1 (by rfl) mR (pa_cons (pe_callB (call_max2 rfl) (by rfl) mX boot_max (pa_cons pe_int (pa_cons (pe_callB (call_min2 rfl) (by rfl) mN boot_min (pa_cons pe_int (pa_cons (pe_callB call_len_seq (by rfl) mL PySem.boot_len (pa_cons (pv 0) pa_nil)) pa_nil))) pa_nil))) pa_nil)) (pg_name (i := 1) scLaw.nd rfl (.inl rfl))
        (pss_cons (ps_set (i := 2) scLaw.nd rfl (.inr rfl) (pe_call GJ hr (by rfl) gJ FJ.kp bJ .nil pass0 (pa_cons (pv 0) <| pa_cons (pv 1) pa_nil))) <|
        pss_one (ps_if (pt_not (pt_val (pe_callB (cr_all rfl) (by rfl) mA (by decide +kernel) (pa_cons (pe_lc (own := [("_law_turn", 3)]) (g := gName 3) (tt := tYes) (te := tCall spRight [] E0 (tCons (tVar 2) tNil)) rfl scLaw.nd (pi_range1 (by rfl) mR (pa_cons pe_int pa_nil)) (blkOk_by (N := nLaw) (sc := defScope sLaw) (by decide +kernel))
          (fun _ _ _ _ _ => pg_name (i := 3) scLaw.nd rfl (.inl rfl)) (fun _ _ _ _ _ => pts_nil) (fun _ _ _ _ _ => pe_callG GR hr gd (by rfl) gR FR.kp bR .nil pass0 (pa_cons (pv 2) pa_nil))) pa_nil)))) (pss_one (ps_ret pe_bl)) pss_nil))) <|
      pss_one (ps_ret pe_bl), ?_⟩
    refine ⟨.ref a, rfl, a, _, rfl, .inl hS, 3, _, rfl, 1, _, rfl, _, rfl, ?_, ?_, ?_⟩
    · split <;> (try split) <;> omega
    · split <;> (try split) <;> omega
    have hn : (if (if ((ns.map V.int).length : Int) < 3 then ((ns.map V.int).length : Int) else 3) > 1 then (if ((ns.map V.int).length : Int) < 3 then ((ns.map V.int).length : Int) else 3) else 1).toNat ≤ 3 := by
      split <;> (try split) <;> omega
    refine for_range (lo := 0) (fun i σ' H' => ∃ y1 y2 y3, σ' = [some (.ref a), y1, y2, y3] ∧ Ex H H') ⟨_, _, _, rfl, Ex.refl H⟩ ?_ ?_
    · rintro i σ' H1' hi ⟨y1, y2, y3, rfl, e1'⟩
      dsimp only [gName]
      refine seq_of (asg_of (call_of (c_of (v_of rfl (c_of (v_of rfl (n_of ⟨a, ns, 0 + (i : Int), rfl, ex_l e1' hS, hlen, by omega, by omega, fun H2' d e2' hd pot => ?_⟩)))))))
      have hdN : H d = none := fresh_back e1' hd
      dsimp only
      refine ifS_of (not_of ?_)
      refine test_of (cb_of (c_of ?_))
      refine ⟨5, rfl, by decide, by decide, fun D hD => lc_range (lo := 0) (n := 5) (fun t H' => Off d H2' H' ∧ Pot H' d (640 * (t : Int)) ∧ H' D = some (.lst ((List.replicate t true).map V.bl))) ⟨Off.of (Ex.new hD), (pot.updD (pot.ne hD)).up (by omega), upd_same⟩ ?_ ?_⟩
      · rintro t H3 ht ⟨o, p, hDt⟩
        have nDd : D ≠ d := pot.ne hD
        refine ⟨rfl, ?_⟩
        dsimp only [tYes]
        rw [if_pos rfl]
        refine call_of (c_of (v_of rfl (n_of ⟨d, _, rfl, p, by omega, fun H4 o4 p4 => ?_⟩)))
        have D4 := o4 D _ nDd hDt
        refine ⟨_, D4, sz_lt (by rw [List.length_map, List.length_replicate]; omega), (o.trans o4).fresh hD, (p4.updD nDd).up (by push_cast; omega), ?_⟩
        rw [upd_same, List.replicate_succ', List.map_append]
        rfl
      · rintro H3 ⟨o, p, hDt⟩
        refine n_of ⟨D, List.replicate 5 true, rfl, sq_of hDt, true, rfl, ?_⟩
        rw [if_neg (show ¬ (!true) = true from Bool.false_ne_true)]
        exact ⟨_, _, _, rfl, ((Off.of (e1'.trans e2')).trans o).ex hdN⟩
    · rintro σ' H' _
      exact q H'
end
end Sn
namespace Sn
open PySem PySem.Spec PyProof.Rows L2 Evl Gd
/-- a def of the top, as the head finds it -/
structure At (K : PySem.W.Frag) (x : Str) (st : Stmt) (f : Addr) : Prop where
  nm : PySem.W.nsIn K mainGlobals x = some (some (.ref f))
  ex : ∃ (oc kV doc pm cdv ct : Value) (od an : Option Addr) (sl : Array (Option Value)), K.lookup f = some ⟨oc, od, .func (PySem.W.fnOf x x (defArgs st) (defBody st) (defScope st) .none kV doc pm an cdv ct), sl⟩ ∧ PySem.W.codeIn K cdv x = true
  kp : PySem.W.keepIn K (.ref f) = true
theorem At.of {K : PySem.W.Frag} {x : Str} {st : Stmt} {f : Addr} {oc kV doc pm cdv ct : Value} {od an : Option Addr} {sl : Array (Option Value)} (n : PySem.W.nsIn K mainGlobals x = some (some (.ref f))) (l : K.lookup f = some ⟨oc, od, .func (PySem.W.fnOf x x (defArgs st) (defBody st) (defScope st) .none kV doc pm an cdv ct), sl⟩)
    (c : PySem.W.codeIn K cdv x = true) (k : PySem.W.keepIn K (.ref f) = true) : At K x st f := ⟨n, ⟨oc, kV, doc, pm, cdv, ct, od, an, sl, l, c⟩, k⟩
theorem At.fn {K : PySem.W.Frag} {x : Str} {st : Stmt} {f : Addr} (a : At K x st f) : ∃ fd, Fun K x x st f fd := by
  obtain ⟨oc, kV, doc, pm, cdv, ct, od, an, sl, l, c⟩ := a.ex
  exact ⟨_, fun_mk l c a.kp⟩
/-- a method -/
structure AtM (K : PySem.W.Frag) (C : Addr) (x qual : Str) (st : Stmt) (f : Addr) : Prop where
  fi : PySem.W.findIn K (.ref C) x = some (some (.ref f))
  isf : PySem.W.isFn K (.ref f) = true
  ex : ∃ (oc kV doc pm cdv ct : Value) (od an : Option Addr) (sl : Array (Option Value)), K.lookup f = some ⟨oc, od, .func (PySem.W.fnOf x qual (defArgs st) (defBody st) (defScope st) .none kV doc pm an cdv ct), sl⟩ ∧ PySem.W.codeIn K cdv qual = true
  kp : PySem.W.keepIn K (.ref f) = true
theorem AtM.of {K : PySem.W.Frag} {C : Addr} {x qual : Str} {st : Stmt} {f : Addr} {oc kV doc pm cdv ct : Value} {od an : Option Addr} {sl : Array (Option Value)} (n : PySem.W.findIn K (.ref C) x = some (some (.ref f))) (i : PySem.W.isFn K (.ref f) = true) (l : K.lookup f = some ⟨oc, od, .func (PySem.W.fnOf x qual (defArgs st) (defBody st) (defScope st) .none kV doc pm an cdv ct), sl⟩)
    (c : PySem.W.codeIn K cdv qual = true) (k : PySem.W.keepIn K (.ref f) = true) : AtM K C x qual st f := ⟨n, i, ⟨oc, kV, doc, pm, cdv, ct, od, an, sl, l, c⟩, k⟩
theorem AtM.fn {K : PySem.W.Frag} {C : Addr} {x qual : Str} {st : Stmt} {f : Addr} (a : AtM K C x qual st f) : ∃ fd, Fun K x qual st f fd := by
  obtain ⟨oc, kV, doc, pm, cdv, ct, od, an, sl, l, c⟩ := a.ex
  exact ⟨_, fun_mk l c a.kp⟩
/-- the words about a class -/
structure ClsA (K : PySem.W.Frag) (x : Str) (C : Addr) : Prop where
  nm : PySem.W.nsIn K mainGlobals x = some (some (.ref C))
  pg : PySem.W.plainGet K C Str.empty = true
  hd : PySem.W.hasDictIn K C = true
  po : PySem.W.plainOver K C = true
  sa : PySem.W.findIn K (.ref C) "__setattr__" = some (some (.builtin "object.__setattr__"))
  mks : PySem.W.makesIn K C = true
  kc : PySem.W.keepIn K (.ref C) = true
theorem ClsA.cl {K : PySem.W.Frag} {x : Str} {C : Addr} (c : ClsA K x C) : Cls K C := ⟨c.pg, c.hd, c.po, c.sa⟩
theorem top_ok {l : PySem.W.OpenLaw} {w : World} {K : PySem.W.Frag} {h : Heap} {mg : Str → Option Value} {fa f_law f__law_box f__law_take f__law_of f__law_numbers f__law_parts f__law_shot f__law_ways f__law_alive f__law_dying f__law_told f__law_right f_alive f_net_of f_need_objects f_is_integer f_dies_with f_lost C_Net f_Net___init__ f_Net_met : Addr} (X : K.In h) (G : h.Ns mainGlobals mg) (hfa : mg "law" = some (.ref fa))
    (a_law : At K "law" sLaw f_law)
    (a__law_box : At K "_law_box" sSource f__law_box)
    (a__law_take : At K "_law_take" sTake f__law_take)
    (a__law_of : At K "_law_of" sOf f__law_of)
    (a__law_numbers : At K "_law_numbers" sNums f__law_numbers)
    (a__law_parts : At K "_law_parts" sParts f__law_parts)
    (a__law_shot : At K "_law_shot" sShot f__law_shot)
    (a__law_ways : At K "_law_ways" sWays f__law_ways)
    (a__law_alive : At K "_law_alive" sAliv f__law_alive)
    (a__law_dying : At K "_law_dying" sDying f__law_dying)
    (a__law_told : At K "_law_told" sTold f__law_told)
    (a__law_right : At K "_law_right" sRight f__law_right)
    (a_alive : At K "alive" sAlive f_alive)
    (a_net_of : At K "net_of" sNetOf f_net_of)
    (a_need_objects : At K "need_objects" sNeed f_need_objects)
    (a_is_integer : At K "is_integer" sInt f_is_integer)
    (a_dies_with : At K "dies_with" sDies f_dies_with)
    (a_lost : At K "lost" sLost f_lost)
    (c_Net : ClsA K "Net" C_Net)
    (n_Net_roots : PySem.W.findIn K (.ref C_Net) "roots" = some none)
    (n_Net_rows : PySem.W.findIn K (.ref C_Net) "rows" = some none)
    (a_Net___init__ : AtM K C_Net "__init__" "Net.__init__" sNInit f_Net___init__)
    (a_Net_met : AtM K C_Net "met" "Net.met" sMet f_Net_met)
    (z_len : PySem.W.nsIn K mainGlobals "len" = some none)
    (z_abs : PySem.W.nsIn K mainGlobals "abs" = some none)
    (z_int : PySem.W.nsIn K mainGlobals "int" = some none)
    (z_range : PySem.W.nsIn K mainGlobals "range" = some none)
    (z_max : PySem.W.nsIn K mainGlobals "max" = some none)
    (z_min : PySem.W.nsIn K mainGlobals "min" = some none)
    (z_repr : PySem.W.nsIn K mainGlobals "repr" = some none)
    (z_tuple : PySem.W.nsIn K mainGlobals "tuple" = some none)
    (z_sorted : PySem.W.nsIn K mainGlobals "sorted" = some none)
    (z_str : PySem.W.nsIn K mainGlobals "str" = some none)
    (z_list : PySem.W.nsIn K mainGlobals "list" = some none)
    (z_all : PySem.W.nsIn K mainGlobals "all" = some none)
    (z_isinstance : PySem.W.nsIn K mainGlobals "isinstance" = some none)
    (z_bool : PySem.W.nsIn K mainGlobals "bool" = some none) :
    ∃ fd : FuncData, (∀ (s : Shared) (v : Value), BindsTo s fd ⟨[v], []⟩ [("_law_script", v)]) ∧ ∀ base : Heap, K.In base → base.Ns mainGlobals mg → FnG l.prog w K mg base CX0 8 fa fd ["_law_script"] (spLaw K) := by
  have e := hfa.symm.trans (PySem.W.mg_of X G a_law.nm)
  cases e
  obtain ⟨fd_law, F_law⟩ := a_law.fn
  have g_law := PySem.W.mg_of X G a_law.nm
  obtain ⟨fd__law_box, F__law_box⟩ := a__law_box.fn
  have g__law_box := PySem.W.mg_of X G a__law_box.nm
  have b__law_box := F__law_box.binds (ps := ["_law_script", "_law_k"]) fun _ _ _ _ _ _ us hl => match us, hl with | [_, _], _ => rfl
  have D__law_box : Df K mg "_law_box" sSource ["_law_script", "_law_k"] f__law_box fd__law_box := ⟨F__law_box, b__law_box, g__law_box⟩
  obtain ⟨fd__law_take, F__law_take⟩ := a__law_take.fn
  have g__law_take := PySem.W.mg_of X G a__law_take.nm
  have b__law_take := F__law_take.binds (ps := ["_law_box_here", "_law_many"]) fun _ _ _ _ _ _ us hl => match us, hl with | [_, _], _ => rfl
  have D__law_take : Df K mg "_law_take" sTake ["_law_box_here", "_law_many"] f__law_take fd__law_take := ⟨F__law_take, b__law_take, g__law_take⟩
  obtain ⟨fd__law_of, F__law_of⟩ := a__law_of.fn
  have g__law_of := PySem.W.mg_of X G a__law_of.nm
  have b__law_of := F__law_of.binds (ps := ["_law_box_here", "_law_some"]) fun _ _ _ _ _ _ us hl => match us, hl with | [_, _], _ => rfl
  have D__law_of : Df K mg "_law_of" sOf ["_law_box_here", "_law_some"] f__law_of fd__law_of := ⟨F__law_of, b__law_of, g__law_of⟩
  obtain ⟨fd__law_numbers, F__law_numbers⟩ := a__law_numbers.fn
  have g__law_numbers := PySem.W.mg_of X G a__law_numbers.nm
  have b__law_numbers := F__law_numbers.binds (ps := ["_law_box_here", "_law_most"]) fun _ _ _ _ _ _ us hl => match us, hl with | [_, _], _ => rfl
  have D__law_numbers : Df K mg "_law_numbers" sNums ["_law_box_here", "_law_most"] f__law_numbers fd__law_numbers := ⟨F__law_numbers, b__law_numbers, g__law_numbers⟩
  obtain ⟨fd__law_parts, F__law_parts⟩ := a__law_parts.fn
  have g__law_parts := PySem.W.mg_of X G a__law_parts.nm
  have b__law_parts := F__law_parts.binds (ps := ["_law_box_here", "_law_sort", "_law_numbers_here"]) fun _ _ _ _ _ _ us hl => match us, hl with | [_, _, _], _ => rfl
  have D__law_parts : Df K mg "_law_parts" sParts ["_law_box_here", "_law_sort", "_law_numbers_here"] f__law_parts fd__law_parts := ⟨F__law_parts, b__law_parts, g__law_parts⟩
  obtain ⟨fd__law_shot, F__law_shot⟩ := a__law_shot.fn
  have g__law_shot := PySem.W.mg_of X G a__law_shot.nm
  have b__law_shot := F__law_shot.binds (ps := ["_law_box_here", "_law_most"]) fun _ _ _ _ _ _ us hl => match us, hl with | [_, _], _ => rfl
  have D__law_shot : Df K mg "_law_shot" sShot ["_law_box_here", "_law_most"] f__law_shot fd__law_shot := ⟨F__law_shot, b__law_shot, g__law_shot⟩
  obtain ⟨fd__law_ways, F__law_ways⟩ := a__law_ways.fn
  have g__law_ways := PySem.W.mg_of X G a__law_ways.nm
  have b__law_ways := F__law_ways.binds (ps := ["_law_shot_here"]) fun _ _ _ _ _ _ us hl => match us, hl with | [_], _ => rfl
  have D__law_ways : Df K mg "_law_ways" sWays ["_law_shot_here"] f__law_ways fd__law_ways := ⟨F__law_ways, b__law_ways, g__law_ways⟩
  obtain ⟨fd__law_alive, F__law_alive⟩ := a__law_alive.fn
  have g__law_alive := PySem.W.mg_of X G a__law_alive.nm
  have b__law_alive := F__law_alive.binds (ps := ["_law_shot_here", "_law_gone", "_law_cut"]) fun _ _ _ _ _ _ us hl => match us, hl with | [_, _, _], _ => rfl
  have D__law_alive : Df K mg "_law_alive" sAliv ["_law_shot_here", "_law_gone", "_law_cut"] f__law_alive fd__law_alive := ⟨F__law_alive, b__law_alive, g__law_alive⟩
  obtain ⟨fd__law_dying, F__law_dying⟩ := a__law_dying.fn
  have g__law_dying := PySem.W.mg_of X G a__law_dying.nm
  have b__law_dying := F__law_dying.binds (ps := ["_law_shot_here", "_law_gone", "_law_cut"]) fun _ _ _ _ _ _ us hl => match us, hl with | [_, _, _], _ => rfl
  have D__law_dying : Df K mg "_law_dying" sDying ["_law_shot_here", "_law_gone", "_law_cut"] f__law_dying fd__law_dying := ⟨F__law_dying, b__law_dying, g__law_dying⟩
  obtain ⟨fd__law_told, F__law_told⟩ := a__law_told.fn
  have g__law_told := PySem.W.mg_of X G a__law_told.nm
  have b__law_told := F__law_told.binds (ps := ["_law_shot_here", "_law_some"]) fun _ _ _ _ _ _ us hl => match us, hl with | [_, _], _ => rfl
  have D__law_told : Df K mg "_law_told" sTold ["_law_shot_here", "_law_some"] f__law_told fd__law_told := ⟨F__law_told, b__law_told, g__law_told⟩
  obtain ⟨fd__law_right, F__law_right⟩ := a__law_right.fn
  have g__law_right := PySem.W.mg_of X G a__law_right.nm
  have b__law_right := F__law_right.binds (ps := ["_law_box_here"]) fun _ _ _ _ _ _ us hl => match us, hl with | [_], _ => rfl
  have D__law_right : Df K mg "_law_right" sRight ["_law_box_here"] f__law_right fd__law_right := ⟨F__law_right, b__law_right, g__law_right⟩
  obtain ⟨fd_alive, F_alive⟩ := a_alive.fn
  have g_alive := PySem.W.mg_of X G a_alive.nm
  have b_alive := F_alive.binds (ps := ["snapshot"]) fun _ _ _ _ _ _ us hl => match us, hl with | [_], _ => rfl
  have D_alive : Df K mg "alive" sAlive ["snapshot"] f_alive fd_alive := ⟨F_alive, b_alive, g_alive⟩
  obtain ⟨fd_net_of, F_net_of⟩ := a_net_of.fn
  have g_net_of := PySem.W.mg_of X G a_net_of.nm
  have b_net_of := F_net_of.binds (ps := ["snapshot"]) fun _ _ _ _ _ _ us hl => match us, hl with | [_], _ => rfl
  have D_net_of : Df K mg "net_of" sNetOf ["snapshot"] f_net_of fd_net_of := ⟨F_net_of, b_net_of, g_net_of⟩
  obtain ⟨fd_need_objects, F_need_objects⟩ := a_need_objects.fn
  have g_need_objects := PySem.W.mg_of X G a_need_objects.nm
  have b_need_objects := F_need_objects.binds (ps := ["net", "values"]) fun _ _ _ _ _ _ us hl => match us, hl with | [_, _], _ => rfl
  have D_need_objects : Df K mg "need_objects" sNeed ["net", "values"] f_need_objects fd_need_objects := ⟨F_need_objects, b_need_objects, g_need_objects⟩
  obtain ⟨fd_is_integer, F_is_integer⟩ := a_is_integer.fn
  have g_is_integer := PySem.W.mg_of X G a_is_integer.nm
  have b_is_integer := F_is_integer.binds (ps := ["value"]) fun _ _ _ _ _ _ us hl => match us, hl with | [_], _ => rfl
  have D_is_integer : Df K mg "is_integer" sInt ["value"] f_is_integer fd_is_integer := ⟨F_is_integer, b_is_integer, g_is_integer⟩
  obtain ⟨fd_dies_with, F_dies_with⟩ := a_dies_with.fn
  have g_dies_with := PySem.W.mg_of X G a_dies_with.nm
  obtain ⟨fd_lost, F_lost⟩ := a_lost.fn
  have g_lost := PySem.W.mg_of X G a_lost.nm
  have b_lost := F_lost.binds (ps := ["met", "left"]) fun _ _ _ _ _ _ us hl => match us, hl with | [_, _], _ => rfl
  have D_lost : Df K mg "lost" sLost ["met", "left"] f_lost fd_lost := ⟨F_lost, b_lost, g_lost⟩
  have g_Net := PySem.W.mg_of X G c_Net.nm
  obtain ⟨fd_Net___init__, F_Net___init__⟩ := a_Net___init__.fn
  have b_Net___init__ := F_Net___init__.binds (ps := ["self", "roots", "rows"]) fun _ _ _ _ _ _ us hl => match us, hl with | [_, _, _], _ => rfl
  have mk_Net : Mk K C_Net f_Net___init__ := ⟨c_Net.mks, a_Net___init__.fi, a_Net___init__.isf, c_Net.kc⟩
  obtain ⟨fd_Net_met, F_Net_met⟩ := a_Net_met.fn
  have b_Net_met := F_Net_met.binds (ps := ["self", "barred"]) fun _ _ _ _ _ _ us hl => match us, hl with | [_, _], _ => rfl
  have M_Net_met : Mf K C_Net "met" "Net.met" sMet ["self", "barred"] f_Net_met fd_Net_met := ⟨F_Net_met, b_Net_met, ⟨a_Net_met.fi, a_Net_met.isf, a_Net_met.kp⟩⟩
  have m_len := PySem.W.mg_none_of X G z_len
  have m_abs := PySem.W.mg_none_of X G z_abs
  have m_int := PySem.W.mg_none_of X G z_int
  have m_range := PySem.W.mg_none_of X G z_range
  have m_max := PySem.W.mg_none_of X G z_max
  have m_min := PySem.W.mg_none_of X G z_min
  have m_repr := PySem.W.mg_none_of X G z_repr
  have m_tuple := PySem.W.mg_none_of X G z_tuple
  have m_sorted := PySem.W.mg_none_of X G z_sorted
  have m_str := PySem.W.mg_none_of X G z_str
  have m_list := PySem.W.mg_none_of X G z_list
  have m_all := PySem.W.mg_none_of X G z_all
  have m_isinstance := PySem.W.mg_none_of X G z_isinstance
  have m_bool := PySem.W.mg_none_of X G z_bool
  refine ⟨fd_law, fun s v => ?_, fun base _ _ => ?_⟩
  · obtain ⟨oc, od, kV, doc, pm, an, cdv, ct, osl, rfl, _⟩ := F_law.ex
    exact .of_eq rfl
  · have T : Txt K mg C_Net := ⟨c_Net.cl, n_Net_roots, n_Net_rows, g_Net⟩
    have ND : NetD l.prog w K mg base C_Net := ⟨T, f_Net___init__, fd_Net___init__, mk_Net, ok_ninit F_Net___init__ T, b_Net___init__⟩
    have GA := ok_alive (P := l.prog) (w := w) (base := base) D_alive D_net_of M_Net_met ND m_len m_tuple m_sorted m_list
    have GS := ok_shot (P := l.prog) (w := w) (base := base) F__law_shot F__law_take F__law_of F__law_numbers F__law_parts b__law_take b__law_of b__law_numbers b__law_parts g__law_take g__law_of g__law_numbers g__law_parts m_len m_str m_tuple m_sorted m_range
    have GV := ok_aliv (P := l.prog) (w := w) (base := base) F__law_alive F__law_ways b__law_ways g__law_ways m_len m_all
    have GG := ok_dying (P := l.prog) (w := w) (base := base) F__law_dying F__law_alive b__law_alive g__law_alive m_tuple m_sorted GV
    have GD := (ok_dies (P := l.prog) (w := w) (base := base) F_dies_with D_need_objects D_is_integer D_net_of D_lost M_Net_met ND m_isinstance m_int m_bool m_len m_tuple m_sorted).mono (show 4 ≤ 5 by decide)
    have GX := ok_told (P := l.prog) (w := w) (base := base) F__law_told F_dies_with g_dies_with m_len GD
    have GR := ok_right (P := l.prog) (w := w) (base := base) F__law_right F__law_take F__law_of F__law_shot F_alive F__law_alive F__law_dying F_dies_with F__law_told b__law_take b__law_of b__law_shot b_alive b__law_alive b__law_dying b__law_told g__law_take g__law_of g__law_shot g_alive g__law_alive g__law_dying g_dies_with g__law_told m_repr m_tuple m_sorted m_len m_range GS GA GV GG GD GX
    exact ok_law F_law F__law_box F__law_right b__law_box b__law_right g__law_box g__law_right m_len m_range m_max m_min m_all m_abs m_int GR
end Sn
open PySem PySem.W PyProof.Rows
set_option maxHeartbeats 0 in
theorem PySem.Challenge.cw_crossheaps_k53_whole_what_dies_with_obje_holds : PySem.Challenge.rw_crossheaps_k53_whole_what_dies_with_obje.Holds := by
  w_on; o_law; k_head; (case hw => w_witness2)
  k_fill
  refine Gd.walkG (l := PySem.Challenge.rw_crossheaps_k53_whole_what_dies_with_obje) (n := 63) (k := 8) (x := "_law_script") (CX := fun _ => L2.CX0) (sp := fun w => Sn.spLaw _) rfl (by decide) rfl ⟨rfl, by decide, by decide⟩ (fun w h Y => PySem.W.kIn_of Y) ?F (fun _ _ a ns hl _ hS => ⟨a, ns, rfl, hS, hl, fun _ => rfl⟩) (fun _ _ _ _ _ h => h)
  case F =>
    intro w mg fa h KX G hmg
    refine' Sn.top_ok KX G hmg (.of ?n0 ?l0 ?c0 ?k0) (.of ?n1 ?l1 ?c1 ?k1) (.of ?n2 ?l2 ?c2 ?k2) (.of ?n3 ?l3 ?c3 ?k3) (.of ?n4 ?l4 ?c4 ?k4) (.of ?n5 ?l5 ?c5 ?k5) (.of ?n6 ?l6 ?c6 ?k6) (.of ?n7 ?l7 ?c7 ?k7) (.of ?n8 ?l8 ?c8 ?k8) (.of ?n9 ?l9 ?c9 ?k9) (.of ?n10 ?l10 ?c10 ?k10) (.of ?n11 ?l11 ?c11 ?k11) (.of ?n12 ?l12 ?c12 ?k12) (.of ?n13 ?l13 ?c13 ?k13) (.of ?n14 ?l14 ?c14 ?k14) (.of ?n15 ?l15 ?c15 ?k15) (.of ?n16 ?l16 ?c16 ?k16) (.of ?n17 ?l17 ?c17 ?k17) ⟨?yNet0, ?yNet1, ?yNet2, ?yNet3, ?yNet4, ?yNet5, ?yNet6⟩ ?xNet0 ?xNet1 (.of ?mf18 ?mi18 ?ml18 ?mc18 ?mk18) (.of ?mf19 ?mi19 ?ml19 ?mc19 ?mk19) ?z0 ?z1 ?z2 ?z3 ?z4 ?z5 ?z6 ?z7 ?z8 ?z9 ?z10 ?z11 ?z12 ?z13
    (case yNet0 => k_is)
    (case yNet1 => k_is)
    (case yNet2 => k_is)
    (case yNet3 => k_is)
    (case yNet4 => k_is)
    (case yNet5 => k_is)
    (case yNet6 => k_is)
    (case n0 => k_is)
    (case l0 => k_is)
    (case c0 => k_is)
    (case k0 => k_is)
    (case n1 => k_is)
    (case l1 => k_is)
    (case c1 => k_is)
    (case k1 => k_is)
    (case n2 => k_is)
    (case l2 => k_is)
    (case c2 => k_is)
    (case k2 => k_is)
    (case n3 => k_is)
    (case l3 => k_is)
    (case c3 => k_is)
    (case k3 => k_is)
    (case n4 => k_is)
    (case l4 => k_is)
    (case c4 => k_is)
    (case k4 => k_is)
    (case n5 => k_is)
    (case l5 => k_is)
    (case c5 => k_is)
    (case k5 => k_is)
    (case n6 => k_is)
    (case l6 => k_is)
    (case c6 => k_is)
    (case k6 => k_is)
    (case n7 => k_is)
    (case l7 => k_is)
    (case c7 => k_is)
    (case k7 => k_is)
    (case n8 => k_is)
    (case l8 => k_is)
    (case c8 => k_is)
    (case k8 => k_is)
    (case n9 => k_is)
    (case l9 => k_is)
    (case c9 => k_is)
    (case k9 => k_is)
    (case n10 => k_is)
    (case l10 => k_is)
    (case c10 => k_is)
    (case k10 => k_is)
    (case n11 => k_is)
    (case l11 => k_is)
    (case c11 => k_is)
    (case k11 => k_is)
    (case n12 => k_is)
    (case l12 => k_is)
    (case c12 => k_is)
    (case k12 => k_is)
    (case n13 => k_is)
    (case l13 => k_is)
    (case c13 => k_is)
    (case k13 => k_is)
    (case n14 => k_is)
    (case l14 => k_is)
    (case c14 => k_is)
    (case k14 => k_is)
    (case n15 => k_is)
    (case l15 => k_is)
    (case c15 => k_is)
    (case k15 => k_is)
    (case n16 => k_is)
    (case l16 => k_is)
    (case c16 => k_is)
    (case k16 => k_is)
    (case n17 => k_is)
    (case l17 => k_is)
    (case c17 => k_is)
    (case k17 => k_is)
    (case xNet0 => k_is)
    (case xNet1 => k_is)
    (case mf18 => k_is)
    (case mi18 => k_is)
    (case ml18 => k_is)
    (case mc18 => k_is)
    (case mk18 => k_is)
    (case mf19 => k_is)
    (case mi19 => k_is)
    (case ml19 => k_is)
    (case mc19 => k_is)
    (case mk19 => k_is)
    (case z0 => k_is)
    (case z1 => k_is)
    (case z2 => k_is)
    (case z3 => k_is)
    (case z4 => k_is)
    (case z5 => k_is)
    (case z6 => k_is)
    (case z7 => k_is)
    (case z8 => k_is)
    (case z9 => k_is)
    (case z10 => k_is)
    (case z11 => k_is)
    (case z12 => k_is)
    (case z13 => k_is)
