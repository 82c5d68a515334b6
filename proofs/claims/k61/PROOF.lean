import PyProof.Rows.All
import Wide.All
import OpenK.AllK
import Wide.FinOn
import PySem.Challenge.RW_crossheaps_k61_what_is_alive
import HandS.ForMost
import HandS.Evl
import HandS.FStrTup
import HandS.Base
import HandS.SortRule
import HandS.Iter
import HandS.Walk
import HandS.DictTup
import KE.KDictWalk
import KE.KPairComp
import HandS.List
import HandS.SortInts
import HandS.Conv
import HandS.Wide
import HandS.SetKeys
import HandS.Steps
import HandS.IsInst
import HandS.Star
import HandS.DictComp
import HandS.Style
import HandS.More
set_option Elab.async false
set_option linter.all false
set_option maxRecDepth 100000
set_option maxHeartbeats 8000000
/-! Promises of defs that run where no repr is under way, the law's end for such a promise, repr of data. -/
namespace Gd
open PySem PySem.Spec PyProof.Rows L2
/-- a promise that is kept wherever no repr is under way -/
structure FnG (P : Program) (w : World) (K : PySem.W.Frag) (mg : Str → Option Value) (base : Heap) (CX : CXT) (k : Nat) (f : Addr) (fd : FuncData) (ps : List Str) (sp : Sp) : Prop where
  arity : ∀ vs H Q E, sp vs H Q E → vs.length = ps.length
  go : ∀ A, Room k A → A.guards = some [] → ∀ outer s H args us vs Q E, Env0 P w K mg base A outer s H →
    BindsTo s fd args (ps.zip us) → Vals vs us → sp vs H Q E →
      codeAny (model P w) A (.call (.ref f) args) (CR CX outer P w H s Q E) s
section
variable {P : Program} {w : World} {K : PySem.W.Frag} {mg : Str → Option Value} {base : Heap} {CX : CXT} {k : Nat} {f : Addr} {fd : FuncData} {ps : List Str} {sp : Sp}
theorem FnG.of (F : FnOk P w K mg base CX k f fd ps sp) : FnG P w K mg base CX k f fd ps sp :=
  ⟨F.len, fun A r _ outer s H args us vs Q E e b v p => F.run A outer s H args us vs Q E r e b v p⟩
theorem FnG.up {j : Nat} (F : FnG P w K mg base CX j f fd ps sp) (h : j ≤ k) : FnG P w K mg base CX k f fd ps sp :=
  ⟨F.arity, fun A r g => F.go A (r.mono h) g⟩
/-- from the body, which may know that no repr is under way -/
theorem fng_of {x qual : Str} {st : Stmt} {N : List Str} (F : Fun K x qual st f fd) (S : FnScope N ps (defScope st)) (ar : ∀ vs H Q E, sp vs H Q E → vs.length = ps.length)
    (body : ∀ (cdv : Value) (A : Around) (outer : List Env) (s : Shared) (H : Hp) (vs : List V) (Q : VK) (E : XK), Room k (A.deeper (envOfC qual (defScope st) s.heap.objs.size f cdv)) → A.guards = some [] → sp vs H Q E →
      ∃ t, PSs (cxOf CX P w K mg base N qual (defScope st) f cdv A outer s H E) (defBody st) t ∧ t { nx := fun _ H' => Q .non H', rt := Q } (start N vs) H) :
    FnG P w K mg base CX (k + 1) f fd ps sp := by
  obtain ⟨⟨oc, od, kV, doc, pm, an, cdv, ct, osl, rfl, look, code⟩, _⟩ := F
  refine ⟨ar, fun A room gd outer s H args us vs Q E env bind rel want => ?_⟩
  have inK : K.In s.heap := env.mod.kin.keeps (fun b o h => (env.bs b o h).1)
  have free : s.heap.NoLimit := env.mod.nolimit.keeps (fun b o h => (env.bs b o h).1)
  have hv := ar vs H Q E want
  refine Att.call_fn inK free look code room.depth bind ?_ (fun s1 inside => ?_) S.co S.gen S.kind
  · refine List.all_eq_true.mpr fun y hy => ?_
    have hp := S.par y.1 (List.of_mem_zip (show (y.1, y.2) ∈ ps.zip us from hy)).1
    rcases hp with q | q
    · rw [q]; rfl
    · rw [q]; rfl
  · obtain ⟨t, derive, reads⟩ := body cdv A outer s H vs Q E (room.deeper _) gd want
    have inv := inv_start (CX := CX) (E := E) S room.hd env hv rel inside
    refine wpAny_mono (derive.run [] s1 (start N vs) H _ inv reads) ?_ (fun _ _ left => left)
    intro flow s2 post
    cases flow with
    | brk => exact (post.choose_spec.choose_spec).2.elim
    | cont => exact (post.choose_spec.choose_spec).2.elim
    | next =>
      obtain ⟨_, H2, J, q⟩ := post
      exact ⟨.non, H2, J.os, J.bare, J.base, J.hok, rfl, q⟩
    | ret u =>
      obtain ⟨v, _, H2, J, rv, q⟩ := post
      exact ⟨v, H2, J.os, J.bare, J.base, J.hok, rv, q⟩
end
end Gd
namespace Gd
open PySem PySem.Spec PyProof.Rows L2
section
variable {X : Cx} {CX : CXT} {k : Nat} {f : Addr} {fd : FuncData} {ps : List Str} {sp : Sp} {dvs : List V} {ds : List Value} {E : XK}
/-- the callee runs, as run_fn says it, where no repr is under way -/
theorem runG {pins : List (Addr × Obj)} {σ : L2.St} {H : Hp} {s : Shared} {Q : VK} {us : List Value} {vs : List V} (F : FnG X.prog X.w X.K X.mg X.base CX k f fd ps sp) (room : Room k X.A) (gd : X.A.guards = some [])
    (bind : Binds X.K fd ps ds) (dflt : Vals dvs ds) (pass : Passes CX X E) (I : Inv X pins σ H s) (rel : Vals vs us) (want : sp (vs ++ dvs) H Q E) :
    wpAny (model X.prog X.w) X.A (call (.ref f) us) (EP X pins σ Q) X.xe s := by
  have rel2 := rel.append dflt
  have many : (us ++ ds).length = ps.length := rel2.length.symm.trans (F.arity _ _ _ _ want)
  have ran := F.go X.A room gd X.stack s H ⟨us, []⟩ _ _ Q E I.env0 (bind s us I.kIn many) rel2 want
  refine wpAny_call (codeAny_mono ran ?_)
  intro r s2 post
  rcases r with err | flow
  · exact pass _ _ _ _ _ _ I post
  · cases flow with
    | ret u => exact I.after post
    | next => exact post.elim
    | brk => exact post.elim
    | cont => exact post.elim
theorem pe_callG {x : Str} {p pos : Pos} {e : Expr} {es : List Expr} {t : TA} (F : FnG X.prog X.w X.K X.mg X.base CX k f fd ps sp) (room : Room k X.A) (gd : X.A.guards = some []) (isGl : Gl X x) (at_ : X.mg x = some (.ref f))
    (kept : PySem.W.keepIn X.K (.ref f) = true) (bind : Binds X.K fd ps ds) (dflt : Vals dvs ds) (pass : Passes CX X E)
    (args : PA X (e :: es) t) (nodbg : (x == ("__debug__" : Str)) = false := by decide) (star : starEach (e :: es) X.env = (false, eval e X.env) :: starEach es X.env := by rfl) (plain : (backTo pos (starEach es X.env)).any (·.1) = false := by rfl) :
    PE X (.Call (.Name x p) (e :: es) [] pos) (tCall sp dvs E t) := by
  constructor
  intro pins s σ H Q I want
  refine wpAny_Call_Name_kw (ld_glob I isGl at_ ?_ nodbg)
  refine PySem.W.callWith_K (h₀ := X.base) I.ok.mod.kin kept ?_ star plain
  refine thn (args.run pos pins s σ H _ I want) ?_
  rintro us s1 ⟨vs, H1, I1, rel, q⟩
  exact ⟨I1.kIn, runG F room gd bind dflt pass I1 rel q⟩
end
/-! ### the law's end -/
/-- the script as the only thing that is tracked -/
def scriptAt (a : Addr) (o : Obj) (xs : List V) : Hp := fun b => if b = a then some (.frz o (.lst xs)) else none
theorem scriptAt_same {a : Addr} {o : Obj} {xs : List V} : scriptAt a o xs a = some (.frz o (.lst xs)) := if_pos rfl
theorem scriptAt_some {a b : Addr} {o : Obj} {xs : List V} {u : HO} (h : scriptAt a o xs b = some u) : b = a ∧ u = .frz o (.lst xs) := by
  unfold scriptAt at h
  by_cases e : b = a
  · rw [if_pos e] at h
    exact ⟨e, (Option.some.inj h).symm⟩
  · rw [if_neg e] at h
    cases h
theorem scriptAt_ne {a b : Addr} {o : Obj} {xs : List V} (h : b ≠ a) : scriptAt a o xs b = none := if_neg h
section
variable {P : Program} {w : World} {K : PySem.W.Frag} {mg mb : Str → Option Value} {CX : CXT} {k : Nat} {fa a : Addr} {fd : FuncData} {x : Str} {sp : Sp} {s1 : Shared} {vs : List Value} {ns : List Int}
/-- the law's call, from an abstract heap that tracks at most the script -/
theorem law_from {H : Hp} {o : Obj} (own : ∀ b u, H b = some u → b = a ∧ u = .frz o (.lst (ns.map V.int))) (offK : H a ≠ none → K.lookup a = none)
    (inK : K.In s1.heap) (glob : s1.heap.Ns mainGlobals mg) (blt : s1.heap.Ns builtinsNs mb) (std : ∀ x : Str, x ≠ "__name__" → mb x = bootBuiltins x) (free : s1.heap.NoLimit) (nogen : s1.gens = #[])
    (here : s1.heap.get? a = some { cls := .type "list", data := .seq vs.toArray }) (ho : o = { cls := .type "list", data := .seq vs.toArray }) (ok : HOk P w H s1.heap) (room : Room k callerA)
    (F : ∀ base : Heap, K.In base → base.Ns mainGlobals mg → FnG P w K mg base CX k fa fd [x] sp) (bind : ∀ (s : Shared) (u : Value), BindsTo s fd ⟨[u], []⟩ [(x, u)])
    (want : sp [.ref a] H (fun v _ => v = .bl true) fun _ _ _ => False) (noX : ∀ e s2, CX [] H s1 (fun _ _ _ => False) e s2 → False) :
    codeAny (model P w) callerA (.call (.ref fa) ⟨[.ref a], []⟩) (fun r s2 => r = .ok (.ret (.bool true)) ∧ OldK s1.heap s2.heap ∧ s2.os = s1.os ∧ AllBare s2.gens) s1 := by
  have dicts : ∀ {b : Addr} {m : Str → Option Value}, s1.heap.Ns b m → (hidT s1.heap H).Ns b m := by
    rintro b m ⟨ob, es, ep, gb, isD, r⟩
    refine ⟨ob, es, ep, hidT_get gb ?_, isD, r⟩
    cases hb : H b with
    | none => rfl
    | some u =>
      obtain ⟨rfl, _⟩ := own b u hb
      rw [here] at gb
      have e := Option.some.inj gb
      rw [← e] at isD
      cases isD
  have inB : K.In (hidT s1.heap H) := by
    intro b ob hb
    refine hidT_get (inK b ob hb) ?_
    cases hh : H b with
    | none => rfl
    | some u =>
      obtain ⟨rfl, _⟩ := own b u hh
      rw [offK (by rw [hh]; exact Option.some_ne_none _)] at hb
      cases hb
  have md : Mod K mg (hidT s1.heap H) := ⟨inB, dicts glob, ⟨mb, dicts blt, std⟩, free.imp fun _ h => ⟨dicts h.1, h.2⟩⟩
  have env : Env0 P w K mg (hidT s1.heap H) callerA [] s1 H := by
    refine ⟨rfl, md, fun b ob hb => of_hidT hb, Nat.le_of_eq (hidT_size _ _), trivial, ?_, ok, .of_eq nogen⟩
    intro b hb
    cases hb
  have ran := (F _ inB (dicts glob)).go callerA room rfl [] s1 H ⟨[.ref a], []⟩ [.ref a] [.ref a] _ _ env (bind s1 (.ref a)) (.cons rfl .nil) want
  refine codeAny_mono ran ?_
  intro r s2 post
  rcases r with err | flow
  · exact (noX _ _ post).elim
  · cases flow with
    | next => exact post.elim
    | brk => exact post.elim
    | cont => exact post.elim
    | ret u =>
      obtain ⟨v, H2, eos, eb, ch, ok2, rv, rfl⟩ := post
      have eu : u = Value.bool true := rv
      refine ⟨by rw [eu], OldK.of_keep (fun b ob hb => ?_), eos, eb⟩
      cases hh : H b with
      | none => exact ch.keep b ob hb hh (fun z => nomatch z) (fun z => nomatch z)
      | some u2 =>
        obtain ⟨rfl, rfl⟩ := own b u2 hh
        have a1 := (ok b _ hh).1
        have a2 := (ok2 b _ (ch.frzs b o _ hh)).1
        rw [hb] at a1
        exact a2.trans a1.symm
theorem law_callG (inK : K.In s1.heap) (glob : s1.heap.Ns mainGlobals mg) (blt : s1.heap.Ns builtinsNs mb) (std : ∀ x : Str, x ≠ "__name__" → mb x = bootBuiltins x) (free : s1.heap.NoLimit) (nogen : s1.gens = #[])
    (here : s1.heap.get? a = some { cls := .type "list", data := .seq vs.toArray }) (isI : IntsAre vs ns) (many : ns.length ≤ sizeLine) (room : Room k callerA)
    (F : ∀ base : Heap, K.In base → base.Ns mainGlobals mg → FnG P w K mg base CX k fa fd [x] sp) (bind : ∀ (s : Shared) (u : Value), BindsTo s fd ⟨[u], []⟩ [(x, u)])
    (want : ∀ H : Hp, Only H → SqL K H a (ns.map V.int) → sp [.ref a] H (fun v _ => v = .bl true) fun _ _ _ => False) (noX : ∀ H e s2, CX [] H s1 (fun _ _ _ => False) e s2 → False) :
    codeAny (model P w) callerA (.call (.ref fa) ⟨[.ref a], []⟩) (fun r s2 => r = .ok (.ret (.bool true)) ∧ OldK s1.heap s2.heap ∧ s2.os = s1.os ∧ AllBare s2.gens) s1 := by
  have rel := vals_ints isI
  cases inMod : K.lookup a with
  | some o =>
    have same : o = { cls := .type "list", data := .seq vs.toArray } := Option.some.inj ((inK a o inMod).symm.trans here)
    subst same
    have sq : SqL K (fun _ => none) a (ns.map V.int) := .inr ⟨_, vs.toArray, _, inMod, rfl, rfl, rfl, by rw [List.size_toArray, isI.length]; exact many, by simpa using rel⟩
    refine law_from (H := fun _ => none) (o := { cls := .type "list", data := .seq vs.toArray }) (ns := ns) (fun _ _ h => nomatch h) (fun h => absurd rfl h) inK glob blt std free nogen here rfl (fun _ _ h => nomatch h) room F bind (want _ (fun _ => .inl rfl) sq) (noX _)
  | none =>
    refine law_from (H := scriptAt a { cls := .type "list", data := .seq vs.toArray } (ns.map V.int)) (fun _ _ h => scriptAt_some h) (fun _ => inMod) inK glob blt std free nogen here rfl ?_ room F bind (want _ (fun b => ?_) (.inl (.inr ⟨_, scriptAt_same⟩))) (noX _)
    · intro b u h
      obtain ⟨rfl, rfl⟩ := scriptAt_some h
      exact ⟨here, by rw [List.length_map]; exact many, vs, _, rel, here⟩
    · cases h : scriptAt a { cls := .type "list", data := .seq vs.toArray } (ns.map V.int) b with
      | none => exact .inl rfl
      | some u => exact .inr ⟨_, _, by rw [(scriptAt_some h).2]⟩
end
/-- what k_head leaves, from a promise that is kept where no repr is under way -/
theorem walkG {l : PySem.W.OpenLaw} {n k : Nat} {q : Program} {loose : List Str} {XP : (Str → Option Value) → Heap → Prop} {YP : World → Heap → Prop} {d : DefRec} {K : Params → PySem.W.Frag} {CX : World → CXT} {sp : World → Sp} {x : Str}
    (most : l.most = some n) (small : n ≤ sizeLine) (nodef : d.params.defaults = []) (room : Room k callerA) (kin : ∀ (w : World) (h : Heap), YP w h → (K w.params).In h)
    (F : ∀ (w : World) (mg : Str → Option Value) (fa : Addr) (h : Heap), (K w.params).In h → h.Ns mainGlobals mg → mg d.name = some (.ref fa) →
      ∃ fd : FuncData, (∀ (s : Shared) (u : Value), BindsTo s fd ⟨[u], []⟩ [(x, u)]) ∧ ∀ base : Heap, (K w.params).In base → base.Ns mainGlobals mg → FnG l.prog w (K w.params) mg base (CX w) k fa fd [x] (sp w))
    (want : ∀ (w : World) (H : Hp) (a : Addr) (ns : List Int), ns.length ≤ n → Only H → SqL (K w.params) H a (ns.map V.int) → sp w [.ref a] H (fun v _ => v = .bl true) fun _ _ _ => False)
    (noX : ∀ (w : World) (H : Hp) (s : Shared) (e : Value) (s2 : Shared), CX w [] H s (fun _ _ _ => False) e s2 → False) :
    PySem.W.WalkO q loose XP YP l.row.toRowW d [] (fun f vs => PySem.call f vs) := by
  apply Att.attach_call most nodef
  intro w s0 s1 mg mb fa o pm cd doc a vs ns G Y go isF code named here isI many nogen
  have inK := kin w _ Y
  obtain ⟨fd, bind, hF⟩ := F w mg fa _ inK G.T.g named
  exact law_callG inK G.T.g G.T.b G.T.builtins G.T.nolimit nogen here isI (Nat.le_trans many small) room hF bind (fun H only sq => want w H a ns many only sq) (fun H e s2 => noX w H s1 e s2)
section
variable {X : Cx}
/-- repr of data without dicts -/
def rReprD (K : PySem.W.Frag) : List V → Hp → VK → Prop := fun xs H Q => ∃ x d, xs = [x] ∧ Dp K H x d ∧ d.showable = true ∧ d.hasDict = false ∧ d.depth ≤ 40 ∧ d.shown.length ≤ sizeLine ∧ Q (.str d.shown) H
theorem call_reprD (gd : X.A.guards = some []) (un : X.A.units + 64 < cLine) : CallR X (.builtin "repr") (rReprD X.K) := by
  rintro pins s σ H xs us Q I rel ⟨x, d, rfl, hd, sh, nod, dep, sz, q⟩
  obtain ⟨u, rfl, rv⟩ := vals1 rel
  obtain ⟨as, reads⟩ := Dp.reads I d x u hd rv
  cases hd with
  | non =>
    cases rv
    refine PySem.P.repr_of_none ?_
    exact ⟨.str "None", H, I.tok _, ⟨_, rfl⟩, q⟩
  | bl b =>
    cases rv
    refine PySem.P.repr_of_bool ?_
    exact ⟨.str (if b then "True" else "False"), H, I.tok _, ⟨_, rfl⟩, q⟩
  | int i =>
    obtain ⟨t, rfl⟩ := rv
    refine PySem.P.repr_of_int ?_ ⟨.str _, H, I.tok _, ⟨_, rfl⟩, q⟩
    simpa [PyData.showable] using sh
  | str z =>
    obtain ⟨t, rfl⟩ := rv
    exact PySem.P.repr_of_str ⟨.str _, H, I.tok _, ⟨_, rfl⟩, q⟩ sz
  | lst h1 h2 =>
    cases rv
    exact repr_of_reads' reads sh (PyData.noDict_hsm nod) gd (by omega) (fun _ _ e => e) (fun h2 u2 tk keep => ⟨.str _, H, I.kept keep, ⟨u2, rfl⟩, q⟩) sz
  | tup h1 h2 =>
    cases rv
    exact repr_of_reads' reads sh (PyData.noDict_hsm nod) gd (by omega) (fun _ _ e => e) (fun h2 u2 tk keep => ⟨.str _, H, I.kept keep, ⟨u2, rfl⟩, q⟩) sz
end
end Gd
namespace Gd
open PySem PySem.Spec PyProof.Rows L2
/-- f(k = v, ..), keywords alone -/
theorem pe_kwOnly {X : Cx} {CX : CXT} {k : Nat} {f : Addr} {fd : FuncData} {ps ks : List Str} {sp : Sp} {E : XK} {x : Str} {p pos : Pos} {kws : List Keyword} {tk : TA} {g : List Value → List Value → List Value} {gV : List V → List V → List V}
    (F : FnOk X.prog X.w X.K X.mg X.base CX k f fd ps sp) (room : Room k X.A) (isGl : Gl X x) (at_ : X.mg x = some (.ref f)) (kept : PySem.W.keepIn X.K (.ref f) = true) (bind : KBinds X.K fd ps ks g gV) (pass : Passes CX X E)
    (words : PK X kws tk) (every : (backToKw pos (keywordEach kws X.env)).all (·.1.isSome) = true := by rfl) (names : (backToKw pos (keywordEach kws X.env)).filterMap (·.1) = ks := by rfl) (nodbg : (x == ("__debug__" : Str)) = false := by decide)
    (plain : ((backTo pos (starEach [] X.env)).any (·.1) || (backToKw pos (keywordEach kws X.env)).any (·.1.isNone)) = false := by rfl) :
    PE X (.Call (.Name x p) [] kws pos) (tCallK sp gV E tNil tk) := by
  constructor
  intro pins s σ H Q I want
  refine wpAny_Call_Name_kw (ld_glob I isGl at_ ?_ nodbg)
  refine PySem.W.callWith_KW0 (h₀ := X.base) I.ok.mod.kin kept every ?_ plain
  refine thn (words.run pos pins s σ H _ I want) ?_
  rintro ws s2 ⟨zs, H2, I2, rel, q⟩
  refine ⟨I2.kIn, ?_⟩
  rw [names]
  exact run_fnk (us := []) (vs := []) F room bind pass I2 .nil rel q
end Gd
namespace Gd
open PySem PySem.Spec PyProof.Rows L2
/-- as fng_of, where nothing leaves the body -/
theorem fng0_of {P : Program} {w : World} {K : PySem.W.Frag} {mg : Str → Option Value} {base : Heap} {k : Nat} {f : Addr} {fd : FuncData} {ps : List Str} {sp : Sp} {x qual : Str} {st : Stmt} {N : List Str} (F : Fun K x qual st f fd) (S : FnScope N ps (defScope st)) (ar : ∀ vs H Q E, sp vs H Q E → vs.length = ps.length)
    (body : ∀ (cdv : Value) (A : Around) (outer : List Env) (s : Shared) (H : Hp) (vs : List V) (Q : VK) (E : XK), Room k (A.deeper (envOfC qual (defScope st) s.heap.objs.size f cdv)) → A.guards = some [] → sp vs H Q E →
      ∃ t, PSs (cxOf CX0 P w K mg base N qual (defScope st) f cdv A outer s H E).nox (defBody st) t ∧ t { nx := fun _ H' => Q .non H', rt := Q } (start N vs) H) :
    FnG P w K mg base CX0 (k + 1) f fd ps sp :=
  fng_of F S ar fun cdv A outer s H vs Q E room gd want => by
    obtain ⟨t, d, r⟩ := body cdv A outer s H vs Q E room gd want
    exact ⟨t, d.nox, r⟩
end Gd
namespace Gd
open PySem PySem.Spec PyProof.Rows L2
/-! Facts of the data of a tuple of small ints. -/
theorem ints_show : ∀ ns : List Int, (∀ n ∈ ns, n.natAbs < 10 ^ 9) → PyData.showableAll (ns.map .int) = true
  | [], _ => rfl
  | n :: r, h => by
    rw [List.map_cons, PyData.showableAll, ints_show r fun m hm => h m (List.mem_cons_of_mem _ hm), Bool.and_true]
    rw [PyData.showable]
    refine decide_eq_true ?_
    have h1 := h n List.mem_cons_self
    by_cases z : n.natAbs = 0
    · rw [z]
      decide
    · exact Nat.lt_of_lt_of_le ((Nat.log2_lt z).mpr (Nat.lt_of_lt_of_le h1 (by decide : (10 : Nat) ^ 9 ≤ 2 ^ 30))) (by decide)
theorem ints_noDict : ∀ ns : List Int, PyData.hasDictAll (ns.map .int) = false
  | [] => rfl
  | n :: r => by
    rw [List.map_cons, PyData.hasDictAll, ints_noDict r, PyData.hasDict]
    rfl
theorem ints_depth : ∀ ns : List Int, PyData.depthAll (ns.map .int) = 0
  | [] => rfl
  | n :: r => by
    rw [List.map_cons, PyData.depthAll, ints_depth r, PyData.depth]
    rfl
theorem ints_lay : ∀ ns : List Int, PyData.canLayAll0 (ns.map .int) = true
  | [] => rfl
  | n :: r => by
    rw [List.map_cons, PyData.canLayAll0, ints_lay r, PyData.canLay0]
    rfl
theorem int_len {n : Int} (h : n.natAbs < 10 ^ 9) : ((toString n : String) : Str).length ≤ 10 := by
  have e := int_text_length_le10 (a := n) (k := 9) (by decide) h
  rw [PySem.ofString_length]
  exact e
theorem ints_piled : ∀ ns : List Int, (∀ n ∈ ns, n.natAbs < 10 ^ 9) → piled (PyData.shownAll (ns.map .int)) ≤ 12 * ns.length
  | [], _ => Nat.le_refl _
  | n :: r, h => by
    have ih := ints_piled r fun m hm => h m (List.mem_cons_of_mem _ hm)
    have h1 := int_len (h n List.mem_cons_self)
    rw [List.map_cons, PyData.shownAll, piled_cons, PyData.shown, List.length_cons]
    omega
theorem tupI_facts {ns : List Int} (h : ∀ n ∈ ns, n.natAbs < 10 ^ 9) (hl : ns.length ≤ 1000000) : (PyData.tuple (ns.map .int)).showable = true ∧ (PyData.tuple (ns.map .int)).hasDict = false ∧ (PyData.tuple (ns.map .int)).depth ≤ 40 ∧ (PyData.tuple (ns.map .int)).shown.length ≤ sizeLine := by
  refine ⟨?_, ?_, ?_, ?_⟩
  · rw [PyData.showable]
    exact ints_show ns h
  · rw [PyData.hasDict]
    exact ints_noDict ns
  · rw [PyData.depth, ints_depth]
    decide
  · rw [PyData.shown]
    have h1 := fmt_text (PyData.shownAll (ns.map .int))
    have h2 := ints_piled ns h
    have h3 : sizeLine = 2 ^ 24 := rfl
    omega
theorem tupI_shaped (ns : List Int) : SeqAt.shaped (PyData.tuple (ns.map .int)) = true := by
  unfold SeqAt.shaped
  rw [PyData.canLay0, ints_lay, PyData.depth, ints_depth]
  rfl
theorem tupI_eqv (ns : List Int) : PyData.eqv (PyData.tuple (ns.map .int)) (PyData.tuple (ns.map .int)) = true := PySem.SeqAt.eqv_refl _ (by rw [PyData.canLay0]; exact ints_lay ns)
theorem dp_ints {K : PySem.W.Frag} {H : Hp} : ∀ ns : List Int, DpAll K H (ns.map V.int) (ns.map .int)
  | [] => .nil
  | n :: r => .cons (.int n) (dp_ints r)
theorem dp_tupI {K : PySem.W.Frag} {H : Hp} {p : Addr} {ns : List Int} (h : SqT K H p (ns.map V.int)) : Dp K H (.ref p) (.tuple (ns.map .int)) := .tup h (dp_ints ns)
end Gd
namespace Gd
open PySem L2
/-! The order of tuples of keys. -/
def kLt : Key → Key → Bool
  | .inl a, .inl b => decide (a < b)
  | .inr a, .inr b => decide (a.cps.toList < b.cps.toList)
  | .inl _, .inr _ => true
  | .inr _, .inl _ => false
def ksLt : List Key → List Key → Bool
  | [], [] => false
  | [], _ :: _ => true
  | _ :: _, [] => false
  | a :: r, b :: s => if a = b then ksLt r s else kLt a b
theorem str_ext {a b : Str} (h : a.cps.toList = b.cps.toList) : a = b := by
  cases a
  cases b
  simp only at h
  rw [Array.toList_inj.mp h]
theorem kLt_irr : ∀ a : Key, kLt a a = false
  | .inl a => decide_eq_false (Int.lt_irrefl a)
  | .inr a => decide_eq_false (List.lt_irrefl _)
theorem kLt_as : ∀ {a b : Key}, kLt a b = true → kLt b a = false
  | .inl a, .inl b, h => decide_eq_false (by have := of_decide_eq_true h; omega)
  | .inr a, .inr b, h => decide_eq_false (fun q => List.lt_irrefl _ (List.lt_trans (of_decide_eq_true h) q))
  | .inl _, .inr _, _ => rfl
  | .inr _, .inl _, h => nomatch h
theorem kLt_tri : ∀ {a b : Key}, kLt a b = false → kLt b a = false → a = b
  | .inl a, .inl b, h, g => by
    have h1 := of_decide_eq_false h
    have h2 := of_decide_eq_false g
    rw [show a = b from by omega]
  | .inr a, .inr b, h, g => by
    have h1 := of_decide_eq_false h
    have h2 := of_decide_eq_false g
    rw [str_ext (List.le_antisymm (List.not_lt.mp h2) (List.not_lt.mp h1))]
  | .inl _, .inr _, h, _ => nomatch h
  | .inr _, .inl _, _, g => nomatch g
theorem kLt_tr : ∀ {a b c : Key}, kLt a b = true → kLt b c = true → kLt a c = true
  | .inl a, .inl b, .inl c, h, g => decide_eq_true (by have := of_decide_eq_true h; have := of_decide_eq_true g; omega)
  | .inr a, .inr b, .inr c, h, g => decide_eq_true (List.lt_trans (of_decide_eq_true h) (of_decide_eq_true g))
  | .inl _, .inl _, .inr _, _, _ => rfl
  | .inl _, .inr _, .inr _, _, _ => rfl
  | .inl _, .inr _, .inl _, _, g => nomatch g
  | .inr _, .inl _, _, h, _ => nomatch h
  | .inr _, .inr _, .inl _, _, g => nomatch g
theorem ksLt_irr : ∀ a : List Key, ksLt a a = false
  | [] => rfl
  | a :: r => by
    rw [ksLt, if_pos rfl]
    exact ksLt_irr r
theorem ksLt_as : ∀ {a b : List Key}, ksLt a b = true → ksLt b a = false
  | [], [], h => nomatch h
  | [], _ :: _, _ => rfl
  | _ :: _, [], h => nomatch h
  | a :: r, b :: s, h => by
    rw [ksLt] at h ⊢
    by_cases e : a = b
    · rw [if_pos e] at h
      rw [if_pos e.symm]
      exact ksLt_as h
    · rw [if_neg e] at h
      rw [if_neg (fun q => e q.symm)]
      exact kLt_as h
theorem ksLt_tri : ∀ {a b : List Key}, ksLt a b = false → ksLt b a = false → a = b
  | [], [], _, _ => rfl
  | [], _ :: _, h, _ => nomatch h
  | _ :: _, [], _, h => nomatch h
  | a :: r, b :: s, h, g => by
    rw [ksLt] at h g
    by_cases e : a = b
    · rw [if_pos e] at h
      rw [if_pos e.symm] at g
      rw [e, ksLt_tri h g]
    · rw [if_neg e] at h
      rw [if_neg (fun q => e q.symm)] at g
      exact absurd (kLt_tri h g) e
theorem ksLt_tr : ∀ {a b c : List Key}, ksLt a b = true → ksLt b c = true → ksLt a c = true
  | [], [], _, h, _ => nomatch h
  | [], _ :: _, [], _, g => nomatch g
  | [], _ :: _, _ :: _, _, _ => rfl
  | _ :: _, [], _, h, _ => nomatch h
  | _ :: _, _ :: _, [], _, g => nomatch g
  | a :: r, b :: s, c :: t, h, g => by
    rw [ksLt] at h g ⊢
    by_cases e : a = b
    · subst e
      rw [if_pos rfl] at h
      by_cases e2 : a = c
      · rw [if_pos e2] at g ⊢
        exact ksLt_tr h g
      · rw [if_neg e2] at g ⊢
        exact g
    · rw [if_neg e] at h
      by_cases e2 : b = c
      · subst e2
        rw [if_neg e]
        exact h
      · rw [if_neg e2] at g
        have e3 : a ≠ c := fun q => by
          subst q
          rw [kLt_as h] at g
          cases g
        rw [if_neg e3]
        exact kLt_tr h g
theorem ksLt_ntr {a b c : List Key} (h : ksLt a b = false) (g : ksLt b c = false) : ksLt a c = false := by
  cases q : ksLt a c with
  | false => rfl
  | true =>
    cases p : ksLt b a with
    | true =>
      rw [ksLt_tr p q] at g
      cases g
    | false =>
      have e := ksLt_tri h p
      subst e
      rw [q] at g
      cases g
end Gd
namespace Gd
open PySem PySem.Spec PyProof.Rows L2 SrtO
/-! sorted of tuples of keys, of any length. -/
/-- where they first differ, both are ints or both are texts -/
def Ali : List Key → List Key → Prop
  | a :: r, b :: s => (a = b → Ali r s) ∧ (a ≠ b → a.isLeft = b.isLeft)
  | _, _ => True
def IsKs (h : Heap) (v : Value) (ks : List Key) : Prop := ∃ a o us n, v = .ref a ∧ h.get? a = some o ∧ o.cls = .type "tuple" ∧ o.data = .seq us n ∧ Vals (ks.map kV) us.toList
theorem IsKs.keeps {h h' : Heap} {v : Value} {ks : List Key} (p : IsKs h v ks) (k : ∀ b o, h.get? b = some o → o.cls = .type "tuple" → h'.get? b = some o) : IsKs h' v ks := by
  obtain ⟨a, o, us, n, e, ho, hc, hd⟩ := p
  exact ⟨a, o, us, n, e, k _ _ ho hc, hc, hd⟩
section
variable {prog : Program} {w : World} {A : Around} {E : Value → Shared → Prop} {s : Shared}
theorem oneLt_strs (c : Bool) {p q : Str} {t u : Tok} {Q : Bool → Shared → Prop} (h : Q (decide (p.cps.toList < q.cps.toList)) s) : wpAny (model prog w) A (oneLt' c (.str p t) (.str q u)) Q E s := by
  cases c with
  | true => exact oneLt_str h
  | false => exact PySem.W.kat_one _ _ (PyProof.Rows.lt_str (Q := PySem.W.BoolBack Q) h)
theorem oneLt_is (c : Bool) {p q : Int} {t u : Tok} {Q : Bool → Shared → Prop} (h : Q (decide (p < q)) s) : wpAny (model prog w) A (oneLt' c (.int p t) (.int q u)) Q E s := by
  cases c with
  | true => exact oneLt_int h
  | false => exact PySem.W.kat_one _ _ (PyProof.Rows.lt_int (Q := PySem.W.BoolBack Q) h)
theorem kat_keys {b : Bool} {Q : Bool → Shared → Prop} : ∀ (ks js : List Key) (us vs : List Value) (i : Nat) (fin : Bool), Vals (ks.map kV) us → Vals (js.map kV) vs → Ali ks js → fin = decide (ks.length < js.length) → Q (ksLt ks js) s →
    PySem.W.KatLex prog w A b fin Q (us.zip vs) i s
  | [], [], _, _, i, fin, h1, h2, _, hf, q => by
    cases h1
    rw [hf]
    exact PySem.W.kat_nil q
  | [], _ :: _, _, _, i, fin, h1, h2, _, hf, q => by
    cases h1
    rw [hf]
    exact PySem.W.kat_nil (by simpa [ksLt] using q)
  | _ :: _, [], _, _, i, fin, h1, h2, _, hf, q => by
    cases h2
    rw [List.zip_nil_right, hf]
    exact PySem.W.kat_nil (by simpa [ksLt] using q)
  | a :: ks, c :: js, _, _, i, fin, h1, h2, al, hf, q => by
    cases h1 with
    | cons r1 h1 =>
      cases h2 with
      | cons r2 h2 =>
        rw [ksLt] at q
        have hf2 : fin = decide (ks.length < js.length) := by
          rw [hf, List.length_cons, List.length_cons]
          exact decide_eq_decide.mpr (by omega)
        rw [List.zip_cons_cons]
        match a, c, r1, r2, al, q with
        | .inl x, .inl y, r1, r2, al, q =>
          obtain ⟨t, rfl⟩ := r1
          obtain ⟨u, rfl⟩ := r2
          refine PySem.W.kat_cons (SeqAt.EqAt.int_int x t y u prog w _ _ ?_)
          refine PySem.W.kat_go (fun e => ?_) (fun e => ?_)
          · have ex : x = y := by simpa using e
            subst ex
            rw [if_pos rfl] at q
            exact PySem.W.kat_yes (kat_keys ks js _ _ (i + 1) fin h1 h2 (al.1 rfl) hf2 q)
          · have ex : ¬ x = y := by simpa using e
            rw [if_neg (fun z => ex (Sum.inl.inj z))] at q
            exact PySem.W.kat_no (oneLt_is _ q)
        | .inr x, .inr y, r1, r2, al, q =>
          obtain ⟨t, rfl⟩ := r1
          obtain ⟨u, rfl⟩ := r2
          refine PySem.W.kat_cons (SeqAt.EqAt.str_str x t y u prog w _ _ ?_)
          refine PySem.W.kat_go (fun e => ?_) (fun e => ?_)
          · have ex : x = y := by simpa using e
            subst ex
            rw [if_pos rfl] at q
            exact PySem.W.kat_yes (kat_keys ks js _ _ (i + 1) fin h1 h2 (al.1 rfl) hf2 q)
          · have ex : ¬ x = y := by simpa using e
            rw [if_neg (fun z => ex (Sum.inr.inj z))] at q
            exact PySem.W.kat_no (oneLt_strs _ q)
        | .inl x, .inr y, _, _, al, _ => exact absurd (al.2 (fun z => nomatch z)) (by simp)
        | .inr x, .inl y, _, _, al, _ => exact absurd (al.2 (fun z => nomatch z)) (by simp)
theorem swo_ks {α : Type} (k : α → List Key) : Swo fun v u => ksLt (k v) (k u) := ⟨fun _ _ h => ksLt_as h, fun _ _ _ h g => ksLt_ntr g h⟩
theorem keys_cmp {vs : List Value} {k : Value → List Key} (hp : ∀ v ∈ vs, IsKs s.heap v (k v)) (al : ∀ v ∈ vs, ∀ u ∈ vs, Ali (k v) (k u)) : Cmp prog w A s (tuples' true) (fun p => p.1 ∈ vs) (lt2 fun v u => ksLt (k v) (k u)) := by
  intro p q hm hm'
  have h1 := hp _ hm
  have h2 := hp _ hm'
  have h3 := al _ hm _ hm'
  show wpAny (model prog w) A (keyLt' (tuples' true) p.1 q.1) (fun r s' => s' = s ∧ r = ksLt (k p.1) (k q.1)) (fun _ _ => False) s
  generalize k p.1 = ks at h1 h3 ⊢
  generalize k q.1 = js at h2 h3 ⊢
  obtain ⟨a, o, us, n, e, ho, hc, hd, r1⟩ := h1
  obtain ⟨a', o', us', n', e', ho', hc', hd', r2⟩ := h2
  rw [e, e']
  refine PySem.W.kat_lt ho hd ho' hd' ?_
  refine kat_keys ks js _ _ 0 _ r1 r2 h3 ?_ ⟨rfl, rfl⟩
  have l1 := r1.length
  have l2 := r2.length
  rw [List.length_map] at l1 l2
  rw [l1, l2, Array.length_toList, Array.length_toList]
theorem firsts_ks {h : Heap} {k : Value → List Key} : ∀ {vs : List Value}, (∀ v ∈ vs, IsKs h v (k v) ∧ ∃ z r, k v = .inr z :: r) → ∃ fs : List Value, PySem.W.KatTups h vs fs ∧ fs.length = vs.length ∧ ∀ f ∈ fs, ∃ x t, f = Value.str x t
  | [], _ => ⟨[], PySem.W.KatTups.nil, rfl, fun _ hm => by simp at hm⟩
  | v :: vs, hp => by
    obtain ⟨fs, h1, h2, h3⟩ := firsts_ks (vs := vs) fun v' hm => hp v' (List.mem_cons_of_mem _ hm)
    obtain ⟨⟨a, o, us, n, e, ho, hc, hd, rel⟩, z, r, ek⟩ := hp v (List.mem_cons_self ..)
    subst e
    rw [ek] at rel
    obtain ⟨u0, e0, t, rfl⟩ := rel.get (i := 0) (x := .str z) rfl
    refine ⟨.str z t :: fs, PySem.W.KatTups.cons ho hc hd (by rw [← Array.getElem?_toList]; exact e0) h1, by rw [List.length_cons, List.length_cons, h2], fun f hm => ?_⟩
    rcases List.mem_cons.mp hm with rfl | hm
    · exact ⟨z, t, rfl⟩
    · exact h3 f hm
theorem keys_sortable {a : Addr} {vs : List Value} {k : Value → List Key} (h0 : 0 < vs.length) (hp : ∀ v ∈ vs, IsKs s.heap v (k v) ∧ ∃ z r, k v = .inr z :: r) (al : ∀ v ∈ vs, ∀ u ∈ vs, Ali (k v) (k u)) (ha : ∀ o, s.heap.get? a = some o → o.cls ≠ .type "tuple") :
    SortableO prog w A s a vs fun v u => ksLt (k v) (k u) := by
  intro h' keep
  have hp' : ∀ v ∈ vs, IsKs h' v (k v) ∧ ∃ z r, k v = .inr z :: r := fun v hm => ⟨(hp v hm).1.keeps fun b o e c => keep b o (fun z => by subst z; exact ha o e c) e, (hp v hm).2⟩
  obtain ⟨fs, h1, h2, h3⟩ := firsts_ks hp'
  refine ⟨tuples' true, fun Q E hq => ?_, keys_cmp (fun v hm => (hp' v hm).1) al⟩
  refine PySem.W.kat_kind (T := .type "str") h1 (by omega) (fun f hm => ?_) (by rfl) ?_
  · obtain ⟨x, t, rfl⟩ := h3 f hm
    exact PySem.W.Looks.now
  · have e : (Value.type "str" != Value.type "tuple") = true := by first | decide +kernel | rfl | decide
    rw [e]
    exact hq
theorem sorted_keys {l : Addr} {vs : List Value} {k : Value → List Key} {Q : Value → Shared → Prop} (hl : s.heap.IsList l vs.toArray) (hz : vs.length ≤ sizeLine) (hp : ∀ v ∈ vs, IsKs s.heap v (k v) ∧ ∃ z r, k v = .inr z :: r) (al : ∀ v ∈ vs, ∀ u ∈ vs, Ali (k v) (k u))
    (h : ∀ (h' : Heap) (d : Addr) (out : List Value), Srtd (fun v u => ksLt (k v) (k u)) out → Stb (fun v u => ksLt (k v) (k u)) out vs → (∀ b o, s.heap.get? b = some o → h'.get? b = some o) → s.heap.objs.size ≤ d → (∃ n, h'.get? d = some (seqObj "list" out.toArray n)) → Q (.ref d) { s with heap := h' }) :
    wpAny (model prog w) A (call (.builtin "sorted") [.ref l]) Q E s := by
  refine sorted_ord (swo_ks k) hl hz (fun h2 h₁ a ha kk => ?_) fun out hs hb => ?_
  · refine keys_sortable (s := { s with heap := h₁ }) (by omega) (fun v hm => ⟨(hp v hm).1.keeps fun b o e _ => (kk b o e).2, (hp v hm).2⟩) al fun o e => ?_
    have e' : some o = some (seqObj "list" vs.toArray 0) := e.symm.trans ha
    cases e'
    intro c
    exact absurd (Value.type.inj c) (by decide)
  · exact h _ _ out hs hb (fun b o e => sortedAll_old e) (Nat.le_succ _) (sortedAll_at s.heap vs out.toArray)
end
abbrev ltK (k : V → List Key) (x y : V) : Bool := ksLt (k x) (k y)
/-- sorted(xs), xs a list of tuples of keys (k says which), each with a text ahead -/
def rSortedK (K : PySem.W.Frag) : List V → Hp → VK → Prop := fun vs H Q => ∃ (a : Addr) (xs : List V) (k : V → List Key), vs = [V.ref a] ∧ SqL K H a xs ∧ (∀ x ∈ xs, ∃ t z r, x = V.ref t ∧ k x = .inr z :: r ∧ H t = some (.tup ((k x).map kV))) ∧
  (∀ x ∈ xs, ∀ y ∈ xs, Ali (k x) (k y)) ∧ ∀ ys p, SrtO.Srtd (ltK k) ys → SrtO.Stb (ltK k) ys xs → H p = none → Q (.ref p) (upd H p (.lst ys))
section
variable {X : Cx}
theorem cr_sortedK : CallR X (.builtin "sorted") (rSortedK X.K) := by
  intro pins s σ H vs us Q I r h
  obtain ⟨a, xs, k, rfl, hs, hx, al, q⟩ := h
  obtain ⟨its, rv, hl, hz⟩ := I.list hs
  obtain ⟨u, rfl, ru⟩ := vals1 r
  obtain rfl : u = Value.ref a := ru
  obtain ⟨e1, e2⟩ := refs_back rv fun x m => by
    obtain ⟨t, _, _, e, _⟩ := hx x m
    exact ⟨t, e⟩
  have inx : ∀ v ∈ its, backV v ∈ xs := fun v hv => by rw [e1]; exact List.mem_map.mpr ⟨_, hv, rfl⟩
  refine sorted_keys (k := fun u => k (backV u)) hl.isList (by rw [← rv.length]; exact hz) (fun v hv => ?_) (fun v hv u hu => al _ (inx v hv) _ (inx u hu)) fun h' d out h1 h2 kp hd hn => ?_
  · obtain ⟨t, rfl⟩ := e2 v hv
    obtain ⟨t', z, r, e, ek, ht⟩ := hx _ (inx _ hv)
    cases e
    obtain ⟨_, its2, r2, o, ho, hc, n, hd⟩ := I.hok _ _ ht
    exact ⟨⟨t, o, its2.toArray, n, rfl, ho, hc, hd, r2⟩, z, r, ek⟩
  · have h3 : ∀ u ∈ out, ∃ a, u = Value.ref a := fun u hu => e2 u (h2.perm.mem_iff.mp hu)
    obtain ⟨n, hn⟩ := hn
    have hb : SrtO.Stb (ltK k) (out.map backV) xs := by
      rw [e1]
      exact SrtO.Stb.map (swo_ks k) backV h2
    refine ⟨.ref d, upd H d (.lst (out.map backV)), I.laid (t' := s.toks) kp hd ⟨?_, out, n, vals_back h3, hn⟩, rfl, q _ d (SrtO.srtd_map h1) hb (I.hok.fresh hd)⟩
    rw [hb.len]
    exact hz
end
end Gd
namespace L2
open PySem PySem.Spec PyProof.Rows
/-! d.items() of a dict whose keys are tuples -/
def Itit (d : Addr) (o : Obj) (kvs : List (List Key × V)) : It :=
  ⟨fun i H => H d = some (.frz o (.dT kvs)) ∧ i < kvs.length, fun i H x H' => ∃ T k v q, kvs[i]? = some (k, v) ∧ H q = some (.tup (k.map kV)) ∧ x = .ref T ∧ H T = none ∧ H' = upd H T (.tup [.ref q, v]), fun i H => H d = some (.frz o (.dT kvs)) ∧ kvs.length ≤ i⟩
section
variable {X : Cx} {pins : List (Addr × Obj)} {σ : St} {H : Hp} {s : Shared} {d : Addr} {o : Obj}
theorem Inv.frzTv {kvs : List (List Key × V)} (I : Inv X pins σ H s) (h : H d = some (.frz o (.dT kvs))) :
    (d == sysModules) = false ∧ s.heap.get? d = some o ∧ o.ExactDict ∧ ∃ (es : Array DictEntry) (ep : Nat), o.data = .dict es ep ∧ es.size = kvs.length ∧
      ∀ (i : Nat) (k : List Key) (v : V), kvs[i]? = some (k, v) → ∃ (en : DictEntry) (q : Addr), es[i]? = some en ∧ en.key = .ref q ∧ H q = some (.tup (k.map kV)) ∧ RelV v en.val := by
  obtain ⟨hd, z, hs, xs, pr, o', es, ep, ho, hx, hdt, he, _⟩ := I.hok d _ h
  rw [hd] at ho
  cases ho
  refine ⟨hs, hd, hx, es, ep, hdt, ?_, fun i k v e => ?_⟩
  · have l1 : es.size = xs.length := size_of_entries he
    have l2 : kvs.length = xs.length := Paired.length pr
    omega
  · obtain ⟨b, hb, e1, e2, e3⟩ := paired_get pr e
    have q := entry_at he i
    rw [hb] at q
    exact ⟨_, b.2.1, q, rfl, e2, e3⟩
end
section
variable {P : Program} {w : World} {K : PySem.W.Frag} {d : Addr} {o : Obj} {es : Array DictEntry} {ep : Nat}
theorem turn_itemsT {kvs : List (List Key × V)} {elts : List Expr} {kk : Nat} {tpos : Pos} (it : Addr) (hod : o.data = .dict es ep) :
    Turn P w K (.Tuple elts kk tpos) (Itit d o kvs) [it] it (fun i h => ∃ ok ov, IsItemIter h it d i kvs.length ep ok ov) where
  mem := by simp
  obj := fun i h st b hb => by
    have e : b = it := by simpa using hb
    subst e
    obtain ⟨ok, ov, e⟩ := st
    exact ⟨_, e, fun v z => nomatch z⟩
  keep := fun i h h' st k => let ⟨ok, ov, e⟩ := st; ⟨ok, ov, k it (by simp) _ e⟩
  item := by
    intro X hP hw hK hc i pins s σ H E I hf st hg
    subst hP hw hK
    obtain ⟨hd, hi⟩ := hg
    obtain ⟨hs, hgd, hx, es', ep', hdt, hsz, ent⟩ := I.frzTv hd
    obtain ⟨rfl, rfl⟩ := dict_ep hod hdt
    obtain ⟨⟨k, v⟩, hkv⟩ : ∃ p, kvs[i]? = some p := ⟨kvs[i], List.getElem?_eq_getElem hi⟩
    obtain ⟨en, q, hen, hkey, hq, rv⟩ := ent i k v hkv
    obtain ⟨ok, ov, he⟩ := st
    rw [← hsz] at he
    have hlt : it < s.heap.objs.size := Heap.lt_size he
    have hi2 : i < es'.size := by omega
    have een : es'[i] = en := by
      rw [Array.getElem?_eq_getElem hi2] at hen
      exact Option.some.inj hen
    refine PySem.wpAny_pyNext_items_item_raw he ⟨o, hgd, hx, hdt⟩ hi2 fun h' ho hT hz hk => ?_
    rw [een] at ho hT
    refine ⟨_, rfl, wpAny_letOwnedTupleGo_items (s := { s with heap := h' }) ho fun h'' he' sb => ?_⟩
    have hT2 : h''.get? s.heap.objs.size = some { cls := .type "tuple", data := .seq #[en.key, en.val] } := (sb.2 _ (Nat.ne_of_gt hlt)).trans hT
    have new : ObjOk X.prog X.w (upd H s.heap.objs.size (.tup [.ref q, v])) h'' s.heap.objs.size (.tup [.ref q, v]) :=
      ⟨by show 2 ≤ sizeLine; decide, [en.key, en.val], .cons hkey (.cons rv .nil), ⟨_, hT2, rfl, _, rfl⟩⟩
    have I1 : Inv X pins σ (upd H s.heap.objs.size (.tup [.ref q, v])) { s with heap := h'' } :=
      I.turnedNew (t' := s.toks) (ch := [it]) (fun b ob hb e => (sb.2 b (by simpa using hb)).trans (hk b ob (by simpa using hb) e)) hf (Nat.le_refl _) new
    refine ⟨.ref s.heap.objs.size, _, I1, rfl, ⟨_, k, v, q, hkv, hq, rfl, I.hok.fresh (Nat.le_refl _), rfl⟩, ⟨en.key, en.val, ?_⟩, fun b hb => ?_⟩
    · rw [← hsz]; exact he'
    · have e : b = it := by simpa using hb
      rw [e, upd_ne (Nat.ne_of_lt hlt)]
      exact (hf it (by simp)).1
  done := by
    intro X hP hw hK hc i pins s σ H E I hf st hg
    subst hP hw hK
    obtain ⟨hd, hi⟩ := hg
    obtain ⟨f0, f1, f2, f3, f4, f5⟩ := hf it (by simp)
    obtain ⟨hs, hgd, hx, es', ep', hdt, hsz, ent⟩ := I.frzTv hd
    obtain ⟨rfl, rfl⟩ := dict_ep hod hdt
    obtain ⟨ok, ov, he⟩ := st
    rw [← hsz] at he
    exact PySem.wpAny_pyNext_items_end_raw (I.ok.hd hc) he ⟨o, hgd, hx, hdt⟩ (by omega) fun h' eb => ⟨rfl, I.turned (t' := s.toks) (fun b ob hb e => eb b ob hb e) f0 f1 f3 f4 f5⟩
  self := fun A i s Q E st h => let ⟨_, _, e⟩ := st; PySem.W.kcp_self e h
end
def iItemsT (td : TE) : TI := fun σ H R => td σ H fun x H1 => ∃ d o kvs, x = .ref d ∧ H1 d = some (.frz o (.dT kvs)) ∧ R (Itit d o kvs) H1
section
variable {X : Cx} {e : Expr} {td : TE} {apos cpos : Pos}
theorem pi_itemsT {elts : List Expr} {kk : Nat} {tpos : Pos} (he : PE X e td) (hbase : attributeBase e "items" X.env (eval e X.env) = eval e X.env := by rfl) (hline : (apos.endLine == cpos.line) = true := by rfl) :
    PI X (.Tuple elts kk tpos) (.Call (.Attribute e "items" apos) [] [] cpos) (iItemsT td) := by
  refine ⟨fun pins s σ H R I h => ?_⟩
  refine wpAny_Call_method (T := "dict") (id := "dict.items") hbase rfl hline F.plainAttrs_dict F.slot_dict_items F.type_dict_items (thn (he.run pins s σ H _ I h) fun u s1 ⟨x, H1, I1, rx, d, o, kvs, ex, hd, q⟩ => ?_)
  subst ex
  obtain rfl : u = Value.ref d := rx
  obtain ⟨hs, hgd, hx, es, ep, hdt, hsz, ent⟩ := I1.frzTv hd
  have hm : s1.heap.DictRaw d es ep := ⟨o, hgd, hx, hdt⟩
  refine ⟨hm.typeIs, ?_, ?_⟩
  · exact fun a ea => by
      cases ea
      exact ⟨o, hgd, hx.2.1⟩
  have I2 : Inv X pins σ H1 { s1 with heap := s1.heap.push { cls := .type "dict_items", data := .fields #[.ref d] } } := I1.kept (t' := s1.toks) fun b ob q => Heap.get?_push_of_some _ q
  have fin : wpAny (model X.prog X.w) X.A (pyIter (.ref s1.heap.objs.size)) (PIE X pins σ (.Tuple elts kk tpos) R) X.xe { s1 with heap := s1.heap.push { cls := .type "dict_items", data := .fields #[.ref d] } } := by
    refine PySem.wpAny_pyIter_items_raw (d := d) ⟨_, Heap.get?_push_size _ rfl, rfl, rfl⟩ (hm.at fun o e => Heap.get?_push_of_some _ e) (pi_one (tk := s1.toks) I2 _ (turn_itemsT _ hdt) ⟨.none, .none, ?_⟩ q)
    rw [← hsz]
    exact Heap.get?_push_size _ rfl
  show wpAny _ _ (callWith cpos (.builtin "dict.items") [.ref d] [] []) _ X.xe s1
  exact method_meetsIn F.slot_dict_items F.entry_dict_items rfl (PySem.evalArgs_none ⟨rfl, hm.typeIs, F.args_dict_items_1 _, _, PySem.meets_dict_items_raw d hs, ⟨⟨es, ep, hm⟩, fin⟩⟩)
end
theorem walk_itemsT {d : Addr} {o : Obj} {kvs : List (List Key × V)} : Walk (Itit d o kvs) kvs.length (fun H => H d = some (.frz o (.dT kvs)))
    (fun i H x H' => ∃ T k v q, kvs[i]? = some (k, v) ∧ H q = some (.tup (k.map kV)) ∧ x = .ref T ∧ H T = none ∧ H' = upd H T (.tup [.ref q, v])) :=
  ⟨fun _ _ hi q => ⟨q, hi⟩, fun _ q => ⟨q, Nat.le_refl _⟩, fun _ _ _ _ _ _ y => y⟩
end L2
namespace Sn
open PySem PySem.Spec PyProof.Rows L2
/-! Data of tuples, texts, ints and None, as it lies in a heap; snapshots. -/
def Exx (H H' : Hp) : Prop := ∀ a o, H a = some o → H' a = some o
mutual
inductive Td (K : PySem.W.Frag) (H : Hp) : V → PyData → Prop
  | non : Td K H .non .none
  | int (i : Int) : Td K H (.int i) (.int i)
  | str (x : Str) : Td K H (.str x) (.str x)
  | tup {a : Addr} {xs : List V} {ds : List PyData} : SqT K H a xs → TdAll K H xs ds → Td K H (.ref a) (.tuple ds)
inductive TdAll (K : PySem.W.Frag) (H : Hp) : List V → List PyData → Prop
  | nil : TdAll K H [] []
  | cons {v : V} {vs : List V} {d : PyData} {ds : List PyData} : Td K H v d → TdAll K H vs ds → TdAll K H (v :: vs) (d :: ds)
end
section
variable {K : PySem.W.Frag} {H H' : Hp} {x : V} {xs ys : List V} {d : PyData} {ds es : List PyData}
/-- what H' keeps of the tuples -/
def KeepT (K : PySem.W.Frag) (H H' : Hp) : Prop := ∀ a xs, SqT K H a xs → SqT K H' a xs
theorem KeepT.of (e : ∀ a o, H a = some o → H' a = some o) : KeepT K H H' := by
  intro a xs h
  rcases h with (h | ⟨o, h⟩) | h
  · exact .inl (.inl (e _ _ h))
  · exact .inl (.inr ⟨o, e _ _ h⟩)
  · exact .inr h
/-- all but a list, a dict or an instance stays -/
theorem KeepT.off {p : Addr} {u : HO} (hp : H p = some u) (hu : (∀ xs, u ≠ .tup xs) ∧ ∀ o v, u ≠ .frz o v) (e : ∀ a o, a ≠ p → H a = some o → H' a = some o) : KeepT K H H' := by
  intro a xs h
  rcases h with (h | ⟨o, h⟩) | h
  · exact .inl (.inl (e _ _ (fun q => by
      rw [q, hp] at h
      exact hu.1 _ (Option.some.inj h)) h))
  · exact .inl (.inr ⟨o, e _ _ (fun q => by
      rw [q, hp] at h
      exact hu.2 _ _ (Option.some.inj h)) h⟩)
  · exact .inr h
theorem KeepT.lst {p : Addr} {zs : List V} (hp : H p = some (.lst zs)) (e : ∀ a o, a ≠ p → H a = some o → H' a = some o) : KeepT K H H' := .off hp ⟨(fun _ z => nomatch z), (fun _ _ z => nomatch z)⟩ e
mutual
theorem Td.keep (k : KeepT K H H') : ∀ {x : V} {d : PyData}, Td K H x d → Td K H' x d
  | _, _, .non => .non
  | _, _, .int i => .int i
  | _, _, .str x => .str x
  | _, _, .tup h a => .tup (k _ _ h) (TdAll.keep k a)
theorem TdAll.keep (k : KeepT K H H') : ∀ {xs : List V} {ds : List PyData}, TdAll K H xs ds → TdAll K H' xs ds
  | _, _, .nil => .nil
  | _, _, .cons h a => .cons (Td.keep k h) (TdAll.keep k a)
end
theorem Td.ex (e : ∀ a o, H a = some o → H' a = some o) (h : Td K H x d) : Td K H' x d := h.keep (.of e)
theorem TdAll.ex (e : ∀ a o, H a = some o → H' a = some o) (h : TdAll K H xs ds) : TdAll K H' xs ds := h.keep (.of e)
mutual
theorem Td.dp : ∀ {x : V} {d : PyData}, Td K H x d → Dp K H x d
  | _, _, .non => .non
  | _, _, .int i => .int i
  | _, _, .str x => .str x
  | _, _, .tup h a => .tup h (TdAll.dp a)
theorem TdAll.dp : ∀ {xs : List V} {ds : List PyData}, TdAll K H xs ds → DpAll K H xs ds
  | _, _, .nil => .nil
  | _, _, .cons h a => .cons (Td.dp h) (TdAll.dp a)
end
theorem TdAll.len : ∀ {xs : List V} {ds : List PyData}, TdAll K H xs ds → xs.length = ds.length
  | _, _, .nil => rfl
  | _, _, .cons _ a => by rw [List.length_cons, List.length_cons, TdAll.len a]
theorem TdAll.snoc : ∀ {xs : List V} {ds : List PyData} {x : V} {d : PyData}, TdAll K H xs ds → Td K H x d → TdAll K H (xs ++ [x]) (ds ++ [d])
  | _, _, _, _, .nil, h => .cons h .nil
  | _, _, _, _, .cons a b, h => .cons a (b.snoc h)
theorem TdAll.app : ∀ {xs ys : List V} {ds es : List PyData}, TdAll K H xs ds → TdAll K H ys es → TdAll K H (xs ++ ys) (ds ++ es)
  | _, _, _, _, .nil, h => h
  | _, _, _, _, .cons a b, h => .cons a (b.app h)
theorem TdAll.get : ∀ {xs : List V} {ds : List PyData} {i : Nat} {x : V}, TdAll K H xs ds → xs[i]? = some x → ∃ d, ds[i]? = some d ∧ Td K H x d
  | _, _, _, _, .nil, h => by simp at h
  | _, _, 0, _, .cons a _, h => ⟨_, rfl, by
    have e := Option.some.inj h
    rw [← e]
    exact a⟩
  | _, _, i + 1, _, .cons _ b, h => by
    obtain ⟨d, h1, h2⟩ := TdAll.get (i := i) b (by simpa using h)
    exact ⟨d, by simpa using h1, h2⟩
theorem TdAll.at : ∀ {xs : List V} {ds : List PyData} {i : Nat} {d : PyData}, TdAll K H xs ds → ds[i]? = some d → ∃ x, xs[i]? = some x ∧ Td K H x d
  | _, _, _, _, .nil, h => by simp at h
  | _, _, 0, _, .cons a _, h => ⟨_, rfl, by
    have e := Option.some.inj h
    rw [← e]
    exact a⟩
  | _, _, i + 1, _, .cons _ b, h => by
    obtain ⟨d, h1, h2⟩ := TdAll.at (i := i) b (by simpa using h)
    exact ⟨d, by simpa using h1, h2⟩
theorem Td.inv_tup (h : Td K H x (.tuple ds)) : ∃ p xs, x = .ref p ∧ SqT K H p xs ∧ TdAll K H xs ds := by
  cases h with
  | tup a b => exact ⟨_, _, rfl, a, b⟩
theorem Td.inv_int {i : Int} (h : Td K H x (.int i)) : x = .int i := by cases h <;> rfl
theorem Td.inv_str {z : Str} (h : Td K H x (.str z)) : x = .str z := by cases h <;> rfl
theorem Td.inv_non (h : Td K H x .none) : x = .non := by cases h <;> rfl
theorem TdAll.inv_cons (h : TdAll K H xs (d :: ds)) : ∃ y ys, xs = y :: ys ∧ Td K H y d ∧ TdAll K H ys ds := by
  cases h with
  | cons a b => exact ⟨_, _, rfl, a, b⟩
theorem TdAll.inv_nil (h : TdAll K H xs []) : xs = [] := by cases h <;> rfl
theorem TdAll.ints : ∀ ns : List Int, TdAll K H (ns.map V.int) (ns.map .int)
  | [] => .nil
  | n :: r => .cons (.int n) (TdAll.ints r)
theorem TdAll.inv_ints : ∀ {xs : List V} (ns : List Int), TdAll K H xs (ns.map .int) → xs = ns.map V.int
  | _, [], h => h.inv_nil
  | _, n :: r, h => by
    obtain ⟨y, ys, rfl, h1, h2⟩ := TdAll.inv_cons h
    rw [h1.inv_int, TdAll.inv_ints r h2]
    rfl
/-- a tuple of three, of four, of two -/
theorem Td.inv2 {d1 d2 : PyData} (h : Td K H x (.tuple [d1, d2])) : ∃ p y z, x = .ref p ∧ SqT K H p [y, z] ∧ Td K H y d1 ∧ Td K H z d2 := by
  obtain ⟨p, xs, rfl, h1, h2⟩ := h.inv_tup
  obtain ⟨y, ys, rfl, a, h2⟩ := h2.inv_cons
  obtain ⟨z, zs, rfl, b, h2⟩ := h2.inv_cons
  rw [h2.inv_nil] at h1
  exact ⟨p, y, z, rfl, h1, a, b⟩
theorem Td.inv3 {d1 d2 d3 : PyData} (h : Td K H x (.tuple [d1, d2, d3])) : ∃ p y z u, x = .ref p ∧ SqT K H p [y, z, u] ∧ Td K H y d1 ∧ Td K H z d2 ∧ Td K H u d3 := by
  obtain ⟨p, xs, rfl, h1, h2⟩ := h.inv_tup
  obtain ⟨y, ys, rfl, a, h2⟩ := h2.inv_cons
  obtain ⟨z, zs, rfl, b, h2⟩ := h2.inv_cons
  obtain ⟨u, us, rfl, c, h2⟩ := h2.inv_cons
  rw [h2.inv_nil] at h1
  exact ⟨p, y, z, u, rfl, h1, a, b, c⟩
theorem Td.inv4 {d1 d2 d3 d4 : PyData} (h : Td K H x (.tuple [d1, d2, d3, d4])) : ∃ p y z u v, x = .ref p ∧ SqT K H p [y, z, u, v] ∧ Td K H y d1 ∧ Td K H z d2 ∧ Td K H u d3 ∧ Td K H v d4 := by
  obtain ⟨p, xs, rfl, h1, h2⟩ := h.inv_tup
  obtain ⟨y, ys, rfl, a, h2⟩ := h2.inv_cons
  obtain ⟨z, zs, rfl, b, h2⟩ := h2.inv_cons
  obtain ⟨u, us, rfl, c, h2⟩ := h2.inv_cons
  obtain ⟨v, vs, rfl, e, h2⟩ := h2.inv_cons
  rw [h2.inv_nil] at h1
  exact ⟨p, y, z, u, v, rfl, h1, a, b, c, e⟩
end
/-! ### snapshots -/
inductive Part where
  | tgt (n : Int)
  | pair (k : Int) (v : Option Int)
def dOpt : Option Int → PyData
  | none => .none
  | some v => .int v
def dPart : Part → PyData
  | .tgt n => .int n
  | .pair k v => .tuple [.int k, dOpt v]
structure Thing where
  n : Int
  home : Str
  sort : Str
  parts : List Part
def dThing (t : Thing) : PyData := .tuple [.int t.n, .str t.home, .str t.sort, .tuple (t.parts.map dPart)]
def dRoot (r : Str × Int) : PyData := .tuple [.str r.1, .int r.2]
structure Shot where
  roots : List (Str × Int)
  things : List Thing
def dShot (s : Shot) : PyData := .tuple [.tuple (s.roots.map dRoot), .tuple (s.things.map dThing)]
/-- records have slots with objects, maps entries, weak objects targets -/
def OkThing (t : Thing) : Prop := (t.sort = "record" ∧ ∀ p ∈ t.parts, ∃ k v, p = .pair k (some v)) ∨ (t.sort = "map" ∧ ∀ p ∈ t.parts, ∃ k v, p = .pair k v) ∨ (t.sort = "weak" ∧ ∀ p ∈ t.parts, ∃ n, p = .tgt n)
/-! ### arcs, and what is alive -/
structure Arc where
  link : List Key
  src : List Int
  tgt : Int
def kD : Key → PyData
  | .inl i => .int i
  | .inr z => .str z
def dArc (α : Arc) : PyData := .tuple [.tuple (α.link.map kD), .tuple (α.src.map .int), .int α.tgt]
def rootArc (r : Str × Int) : Arc := ⟨[.inr "root", .inr r.1], [], r.2⟩
def slotArc (n : Int) : Part → Option Arc
  | .pair k (some v) => some ⟨[.inr "slot", .inl n, .inl k], [n], v⟩
  | _ => none
def entryArc (n : Int) : Part → Option Arc
  | .pair k (some v) => some ⟨[.inr "entry", .inl n, .inl k], [n, k], v⟩
  | _ => none
def thingArcs (t : Thing) : List Arc := if t.sort = "record" then t.parts.filterMap (slotArc t.n) else if t.sort = "map" then t.parts.filterMap (entryArc t.n) else []
def arcsOf (s : Shot) : List Arc := s.roots.map rootArc ++ s.things.flatMap thingArcs
inductive Live (as : List Arc) : Int → Prop
  | mk {α : Arc} : α ∈ as → (∀ n ∈ α.src, Live as n) → Live as α.tgt
/-- what is closed under the arcs has all that is alive -/
theorem Live.sub {as : List Arc} {S : Int → Prop} (h : ∀ α ∈ as, (∀ n ∈ α.src, S n) → S α.tgt) {n : Int} (l : Live as n) : S n := by
  induction l with
  | mk m _ ih => exact h _ m ih
theorem kV_td {K : PySem.W.Frag} {H : Hp} : ∀ k : Key, Td K H (kV k) (kD k)
  | .inl i => .int i
  | .inr z => .str z
theorem kVs_td {K : PySem.W.Frag} {H : Hp} : ∀ ks : List Key, TdAll K H (ks.map kV) (ks.map kD)
  | [] => .nil
  | k :: r => .cons (kV_td k) (kVs_td r)
end Sn
namespace Sn
open PySem PySem.Spec PyProof.Rows L2
/-! ### nets: roots and rows; what the worklist of `met` does -/
structure Row where
  n : Int
  sort : Str
  parts : List Part
structure NetM where
  roots : List (Str × Int)
  rows : List Row
def pairOf : Part → Option (Int × Int)
  | .pair k (some v) => some (k, v)
  | _ => none
def pairsOf (r : Row) : List (Int × Int) := r.parts.filterMap pairOf
def slotA (n : Int) (p : Int × Int) : Arc := ⟨[.inr "slot", .inl n, .inl p.1], [n], p.2⟩
def entryA (n : Int) (p : Int × Int) : Arc := ⟨[.inr "entry", .inl n, .inl p.1], [n, p.1], p.2⟩
def rowArcs (r : Row) : List Arc := if r.sort = "record" then (pairsOf r).map (slotA r.n) else if r.sort = "map" then (pairsOf r).map (entryA r.n) else []
def netArcs (N : NetM) : List Arc := N.roots.map rootArc ++ N.rows.flatMap rowArcs
def isVal : Part → Bool
  | .pair _ none => false
  | _ => true
def rowOf (t : Thing) : Row := ⟨t.n, t.sort, if t.sort = "map" then t.parts.filter isVal else t.parts⟩
def netM (s : Shot) : NetM := ⟨s.roots, s.things.map rowOf⟩
theorem slot_pair (n : Int) (p : Part) : slotArc n p = (pairOf p).map (slotA n) := by
  cases p with
  | tgt m => rfl
  | pair k v => cases v <;> rfl
theorem entry_pair (n : Int) (p : Part) : entryArc n p = (pairOf p).map (entryA n) := by
  cases p with
  | tgt m => rfl
  | pair k v => cases v <;> rfl
theorem filterMap_map' {α β γ : Type} (f : α → Option β) (g : β → γ) (l : List α) : l.filterMap (fun x => (f x).map g) = (l.filterMap f).map g := by
  induction l with
  | nil => rfl
  | cons x l ih =>
    cases e : f x with
    | none => rw [List.filterMap_cons_none (by rw [e]; rfl), List.filterMap_cons_none e, ih]
    | some y => rw [List.filterMap_cons_some (b := g y) (by rw [e]; rfl), List.filterMap_cons_some e, List.map_cons, ih]
theorem vals_same : ∀ l : List Part, (l.filter isVal).filterMap pairOf = l.filterMap pairOf
  | [] => rfl
  | p :: l => by
    have ih := vals_same l
    cases p with
    | tgt m => rw [List.filter_cons_of_pos rfl, List.filterMap_cons_none rfl, List.filterMap_cons_none rfl, ih]
    | pair k v =>
      cases v with
      | none => rw [List.filter_cons_of_neg (show ¬ (isVal (Part.pair k none) = true) from Bool.false_ne_true), List.filterMap_cons_none rfl, ih]
      | some v => rw [List.filter_cons_of_pos rfl, List.filterMap_cons_some (f := pairOf) (b := (k, v)) rfl, List.filterMap_cons_some (f := pairOf) (b := (k, v)) rfl, ih]
theorem row_arcs (t : Thing) : rowArcs (rowOf t) = thingArcs t := by
  unfold rowArcs thingArcs pairsOf rowOf
  dsimp only
  by_cases h1 : t.sort = "record"
  · rw [if_pos h1, if_pos h1, if_neg (by rw [h1]; decide +kernel), ← filterMap_map']
    exact (congrArg (fun f => List.filterMap f t.parts) (funext fun p => slot_pair t.n p)).symm
  · rw [if_neg h1, if_neg h1]
    by_cases h2 : t.sort = "map"
    · rw [if_pos h2, if_pos h2, if_pos h2, vals_same, ← filterMap_map']
      exact (congrArg (fun f => List.filterMap f t.parts) (funext fun p => entry_pair t.n p)).symm
    · rw [if_neg h2, if_neg h2]
theorem net_arcs (s : Shot) : netArcs (netM s) = arcsOf s := by
  unfold netArcs netM arcsOf
  dsimp only
  rw [List.flatMap_map]
  exact congrArg (fun f => s.roots.map rootArc ++ s.things.flatMap f) (funext row_arcs)
/-- records and maps have pairs with objects -/
def OkRow (r : Row) : Prop := (r.sort = "record" ∧ ∃ ps : List (Int × Int), r.parts = ps.map fun p => .pair p.1 (some p.2)) ∨ (r.sort = "map" ∧ ∃ ps : List (Int × Int), r.parts = ps.map fun p => .pair p.1 (some p.2)) ∨ r.sort = "weak"
theorem pairs_of {r : Row} {ps : List (Int × Int)} (h : r.parts = ps.map fun p => .pair p.1 (some p.2)) : pairsOf r = ps := by
  unfold pairsOf
  rw [h]
  clear h
  induction ps with
  | nil => rfl
  | cons p ps ih => rw [List.map_cons, List.filterMap_cons_some (f := pairOf) (b := p) rfl, ih]
structure OkNet (N : NetM) : Prop where
  rows : ∀ r ∈ N.rows, OkRow r
  nodup : (N.rows.map Row.n).Nodup
  there : ∀ α ∈ netArcs N, α.tgt ∈ N.rows.map Row.n
  many : (netArcs N).length ≤ 1000
  len : N.rows.length ≤ 1000
theorem row_uniq {rs : List Row} (h : (rs.map Row.n).Nodup) {r r' : Row} (m : r ∈ rs) (m' : r' ∈ rs) (e : r.n = r'.n) : r = r' := by
  induction rs with
  | nil => exact absurd m List.not_mem_nil
  | cons x rs ih =>
    rw [List.map_cons] at h
    have hn := List.nodup_cons.mp h
    rcases List.mem_cons.mp m with rfl | m
    · rcases List.mem_cons.mp m' with rfl | m'
      · rfl
      · exact absurd (List.mem_map.mpr ⟨r', m', e.symm⟩) hn.1
    · rcases List.mem_cons.mp m' with q | m'
      · rw [q] at e
        exact absurd (List.mem_map.mpr ⟨r, m, e⟩) hn.1
      · exact ih hn.2 m m'
/-- what waits: values by their keys, in their order -/
def wOf (ps : List (Int × Int)) (n : Int) : List Int := (ps.filter fun p => decide (p.1 = n)).map (·.2)
theorem wOf_snoc (ps : List (Int × Int)) (s n v : Int) : wOf (ps ++ [(s, v)]) n = wOf ps n ++ (if s = n then [v] else []) := by
  unfold wOf
  rw [List.filter_append, List.map_append]
  by_cases h : s = n
  · rw [if_pos h, List.filter_cons_of_pos (p := fun p : Int × Int => decide (p.1 = n)) (decide_eq_true h)]
    rfl
  · rw [if_neg h, List.filter_cons_of_neg (p := fun p : Int × Int => decide (p.1 = n)) (by simpa using h)]
    rfl
theorem wOf_mem {ps : List (Int × Int)} {n v : Int} : v ∈ wOf ps n ↔ (n, v) ∈ ps := by
  unfold wOf
  constructor
  · intro h
    obtain ⟨p, hp, rfl⟩ := List.mem_map.mp h
    have := List.mem_filter.mp hp
    have e : p.1 = n := of_decide_eq_true this.2
    rw [← e]
    exact this.1
  · intro h
    exact List.mem_map.mpr ⟨(n, v), List.mem_filter.mpr ⟨h, decide_eq_true rfl⟩, rfl⟩
theorem wOf_len (ps : List (Int × Int)) (n : Int) : (wOf ps n).length ≤ ps.length := by
  unfold wOf
  rw [List.length_map]
  exact List.length_filter_le _ _
/-- what stands in the rows that are not met -/
def wsum (w : Row → Nat) (rs : List Row) (met : List Int) : Nat := ((rs.filter fun r => decide (r.n ∉ met)).map w).sum
theorem wsum_le (w : Row → Nat) (rs : List Row) (met : List Int) (n : Int) : wsum w rs (met ++ [n]) ≤ wsum w rs met := by
  unfold wsum
  induction rs with
  | nil => exact Nat.le_refl _
  | cons r rs ih =>
    by_cases m : r.n ∈ met
    · rw [List.filter_cons_of_neg (by simp [m]), List.filter_cons_of_neg (by simp [m])]
      exact ih
    · by_cases e : r.n = n
      · rw [List.filter_cons_of_neg (by simp [e]), List.filter_cons_of_pos (by simp [m]), List.map_cons, List.sum_cons]
        omega
      · rw [List.filter_cons_of_pos (by simp [m, e]), List.filter_cons_of_pos (by simp [m]), List.map_cons, List.map_cons, List.sum_cons, List.sum_cons]
        omega
theorem wsum_less (w : Row → Nat) {rs : List Row} {met : List Int} {r : Row} (hr : r ∈ rs) (h : r.n ∉ met) : wsum w rs (met ++ [r.n]) + w r ≤ wsum w rs met := by
  obtain ⟨a, b, rfl⟩ := List.append_of_mem hr
  have h1 := wsum_le w a met r.n
  have h2 := wsum_le w b met r.n
  unfold wsum at *
  rw [List.filter_append, List.filter_append, List.map_append, List.map_append, List.sum_append, List.sum_append, List.filter_cons_of_neg (by simp), List.filter_cons_of_pos (by simp [h]), List.map_cons, List.sum_cons]
  omega
theorem wsum_nil (w : Row → Nat) (rs : List Row) : wsum w rs [] = (rs.map w).sum := by
  unfold wsum
  rw [List.filter_eq_self.mpr (fun r _ => by simp)]
theorem wsum_one_nil (rs : List Row) : wsum (fun _ => 1) rs [] = rs.length := by
  rw [wsum_nil]
  induction rs with
  | nil => rfl
  | cons r rs ih =>
    rw [List.map_cons, List.sum_cons, ih, List.length_cons]
    omega
def adds (r : Row) (met : List Int) : List Int := if r.sort = "record" then (pairsOf r).map (·.2) else if r.sort = "map" then ((pairsOf r).filter fun p => decide (p.1 ∈ met)).map (·.2) else []
def waits (r : Row) (met : List Int) : List (Int × Int) := if r.sort = "map" then (pairsOf r).filter fun p => decide (p.1 ∉ met) else []
theorem filt_both {α : Type} (l : List α) (p : α → Prop) [DecidablePred p] : (l.filter fun x => decide (p x)).length + (l.filter fun x => decide (¬ p x)).length = l.length := by
  induction l with
  | nil => rfl
  | cons x l ih =>
    by_cases h : p x
    · rw [List.filter_cons_of_pos (by simpa using h), List.filter_cons_of_neg (by simpa using h), List.length_cons, List.length_cons]
      omega
    · rw [List.filter_cons_of_neg (by simpa using h), List.filter_cons_of_pos (by simpa using h), List.length_cons, List.length_cons]
      omega
theorem adds_waits (r : Row) (met : List Int) : (adds r met).length + (waits r met).length = (rowArcs r).length := by
  unfold adds waits rowArcs
  by_cases h1 : r.sort = "record"
  · rw [if_pos h1, if_pos h1, if_neg (by rw [h1]; decide +kernel), List.length_map, List.length_map]
    rfl
  · rw [if_neg h1, if_neg h1]
    by_cases h2 : r.sort = "map"
    · rw [if_pos h2, if_pos h2, if_pos h2, List.length_map, List.length_map]
      exact filt_both (pairsOf r) fun p => p.1 ∈ met
    · rw [if_neg h2, if_neg h2, if_neg h2]
      rfl
/-- the state of the worklist: met, ahead, waiting -/
structure Inv (N : NetM) (B met ys : List Int) (ps : List (Int × Int)) (m : Nat) : Prop where
  live : ∀ n ∈ met, Live ((netArcs N).filter fun α => decide (α.tgt ∉ B)) n
  nodup : met.Nodup
  can : ∀ y ∈ ys, ∃ α ∈ netArcs N, α.tgt = y ∧ ∀ s ∈ α.src, s ∈ met
  wai : ∀ p ∈ ps, ∃ α ∈ netArcs N, α.tgt = p.2 ∧ ∀ s ∈ α.src, s ∈ met ∨ s = p.1
  all : ∀ α ∈ netArcs N, (∀ s ∈ α.src, s ∈ met) → α.tgt ∈ met ∨ α.tgt ∈ ys ∨ α.tgt ∈ B
  wal : ∀ r ∈ N.rows, r.sort = "map" → r.n ∈ met → ∀ p ∈ pairsOf r, p.1 ∉ met → p ∈ ps
  many : met.length + wsum (fun _ => 1) N.rows met ≤ 1000
  me : m = ys.length + wsum (fun r => (rowArcs r).length) N.rows met + (ps.filter fun p => decide (p.1 ∉ met)).length
  le : m ≤ 1000
  pl : ps.length + wsum (fun r => (rowArcs r).length) N.rows met ≤ 1000
theorem arc_cases {N : NetM} {α : Arc} (h : α ∈ netArcs N) : (∃ r ∈ N.roots, α = rootArc r) ∨ (∃ r ∈ N.rows, r.sort = "record" ∧ ∃ p ∈ pairsOf r, α = slotA r.n p) ∨ (∃ r ∈ N.rows, r.sort = "map" ∧ ∃ p ∈ pairsOf r, α = entryA r.n p) := by
  rcases List.mem_append.mp h with h | h
  · obtain ⟨r, hr, rfl⟩ := List.mem_map.mp h
    exact .inl ⟨r, hr, rfl⟩
  · obtain ⟨r, hr, h⟩ := List.mem_flatMap.mp h
    unfold rowArcs at h
    by_cases h1 : r.sort = "record"
    · rw [if_pos h1] at h
      obtain ⟨p, hp, rfl⟩ := List.mem_map.mp h
      exact .inr (.inl ⟨r, hr, h1, p, hp, rfl⟩)
    · rw [if_neg h1] at h
      by_cases h2 : r.sort = "map"
      · rw [if_pos h2] at h
        obtain ⟨p, hp, rfl⟩ := List.mem_map.mp h
        exact .inr (.inr ⟨r, hr, h2, p, hp, rfl⟩)
      · rw [if_neg h2] at h
        exact absurd h List.not_mem_nil
theorem slot_in {N : NetM} {r : Row} (hr : r ∈ N.rows) (h : r.sort = "record") {p : Int × Int} (hp : p ∈ pairsOf r) : slotA r.n p ∈ netArcs N := by
  refine List.mem_append.mpr (.inr (List.mem_flatMap.mpr ⟨r, hr, ?_⟩))
  unfold rowArcs
  rw [if_pos h]
  exact List.mem_map.mpr ⟨p, hp, rfl⟩
theorem entry_in {N : NetM} {r : Row} (hr : r ∈ N.rows) (h : r.sort = "map") {p : Int × Int} (hp : p ∈ pairsOf r) : entryA r.n p ∈ netArcs N := by
  refine List.mem_append.mpr (.inr (List.mem_flatMap.mpr ⟨r, hr, ?_⟩))
  unfold rowArcs
  rw [if_neg (by rw [h]; decide +kernel), if_pos h]
  exact List.mem_map.mpr ⟨p, hp, rfl⟩
theorem Inv.start {N : NetM} {B : List Int} (ok : OkNet N) : ∃ m, Inv N B [] (N.roots.map (·.2)) [] m := by
  have h0 : (netArcs N).length = N.roots.length + (N.rows.map fun r => (rowArcs r).length).sum := by
    unfold netArcs
    rw [List.length_append, List.length_map, List.length_flatMap]
  have h1 := ok.many
  refine ⟨_, ⟨fun n h => absurd h List.not_mem_nil, List.nodup_nil, fun y hy => ?_, fun p h => absurd h List.not_mem_nil, fun α ha hs => ?_, fun r _ _ h => absurd h List.not_mem_nil, ?_, rfl, ?_, ?_⟩⟩
  · obtain ⟨r, hr, rfl⟩ := List.mem_map.mp hy
    exact ⟨rootArc r, List.mem_append.mpr (.inl (List.mem_map.mpr ⟨r, hr, rfl⟩)), rfl, fun s h => absurd h List.not_mem_nil⟩
  · rcases arc_cases ha with ⟨r, hr, rfl⟩ | ⟨r, hr, _, p, hp, rfl⟩ | ⟨r, hr, _, p, hp, rfl⟩
    · exact .inr (.inl (List.mem_map.mpr ⟨r, hr, rfl⟩))
    · exact absurd (hs r.n List.mem_cons_self) List.not_mem_nil
    · exact absurd (hs r.n List.mem_cons_self) List.not_mem_nil
  · rw [wsum_one_nil, List.length_nil]
    have := ok.len
    omega
  · rw [wsum_nil, List.length_map, List.filter_nil, List.length_nil]
    omega
  · rw [wsum_nil, List.length_nil]
    omega
/-- popped, but met or barred -/
theorem Inv.skip {N : NetM} {B met zs : List Int} {n : Int} {ps : List (Int × Int)} {m : Nat} (h : Inv N B met (zs ++ [n]) ps m) (hn : n ∈ met ∨ n ∈ B) : ∃ m', m' < m ∧ Inv N B met zs ps m' := by
  have e := h.me
  rw [List.length_append, List.length_singleton] at e
  have l := h.le
  refine ⟨_, ?_, ⟨h.live, h.nodup, fun y hy => h.can y (List.mem_append.mpr (.inl hy)), h.wai, fun α ha hs => ?_, h.wal, h.many, rfl, by omega, h.pl⟩⟩
  · omega
  · rcases h.all α ha hs with z | z | z
    · exact .inl z
    · rcases List.mem_append.mp z with z | z
      · exact .inr (.inl z)
      · rw [List.mem_singleton.mp z]
        rcases hn with q | q
        · exact .inl q
        · exact .inr (.inr q)
    · exact .inr (.inr z)
theorem filt_split (ps : List (Int × Int)) {met : List Int} {n : Int} (hn : n ∉ met) : (ps.filter fun p => decide (p.1 ∉ met)).length = (ps.filter fun p => decide (p.1 ∉ met ++ [n])).length + (wOf ps n).length := by
  unfold wOf
  rw [List.length_map]
  induction ps with
  | nil => rfl
  | cons p ps ih =>
    by_cases e : p.1 = n
    · rw [List.filter_cons_of_pos (by simp [e, hn]), List.filter_cons_of_neg (by simp [e]), List.filter_cons_of_pos (by simp [e]), List.length_cons, List.length_cons]
      omega
    · by_cases m : p.1 ∈ met
      · rw [List.filter_cons_of_neg (by simp [m]), List.filter_cons_of_neg (by simp [m]), List.filter_cons_of_neg (by simp [e])]
        exact ih
      · rw [List.filter_cons_of_pos (by simp [m]), List.filter_cons_of_pos (by simp [m, e]), List.filter_cons_of_neg (by simp [e]), List.length_cons, List.length_cons]
        omega
theorem waits_key {r : Row} {met : List Int} {p : Int × Int} (h : p ∈ waits r met) : r.sort = "map" ∧ p ∈ pairsOf r ∧ p.1 ∉ met := by
  unfold waits at h
  by_cases h2 : r.sort = "map"
  · rw [if_pos h2] at h
    have := List.mem_filter.mp h
    exact ⟨h2, this.1, of_decide_eq_true this.2⟩
  · rw [if_neg h2] at h
    exact absurd h List.not_mem_nil
/-- a new object is met -/
theorem Inv.step {N : NetM} {B met zs : List Int} {r : Row} {ps : List (Int × Int)} {m : Nat} (ok : OkNet N) (h : Inv N B met (zs ++ [r.n]) ps m) (hr : r ∈ N.rows) (hm : r.n ∉ met) (hB : r.n ∉ B) :
    ∃ m', m' < m ∧ Inv N B (met ++ [r.n]) (zs ++ adds r (met ++ [r.n]) ++ wOf (ps ++ waits r (met ++ [r.n])) r.n) (ps ++ waits r (met ++ [r.n])) m' := by
  have e := h.me
  rw [List.length_append, List.length_singleton] at e
  have l := h.le
  have hpl := h.pl
  have w1 := wsum_less (fun _ => 1) hr hm
  have w2 := wsum_less (fun r => (rowArcs r).length) hr hm
  have aw := adds_waits r (met ++ [r.n])
  have fs := filt_split ps hm
  have many := h.many
  have sub : ∀ {s}, s ∈ met → s ∈ met ++ [r.n] := fun q => List.mem_append.mpr (.inl q)
  have self : r.n ∈ met ++ [r.n] := List.mem_append.mpr (.inr List.mem_cons_self)
  have wn : wOf (ps ++ waits r (met ++ [r.n])) r.n = wOf ps r.n := by
    unfold wOf
    rw [List.filter_append, List.filter_eq_nil_iff (l := waits r _) |>.mpr (fun p hp q => ?_), List.append_nil]
    have := (waits_key hp).2.2
    rw [of_decide_eq_true q] at this
    exact this self
  have fw : ((ps ++ waits r (met ++ [r.n])).filter fun p => decide (p.1 ∉ met ++ [r.n])).length = (ps.filter fun p => decide (p.1 ∉ met ++ [r.n])).length + (waits r (met ++ [r.n])).length := by
    rw [List.filter_append, List.length_append, List.filter_eq_self (l := waits r _) |>.mpr (fun p hp => decide_eq_true (waits_key hp).2.2)]
  rw [wn]
  refine ⟨_, ?_, ⟨fun n hn => ?_, ?_, fun y hy => ?_, fun p hp => ?_, fun α ha hs => ?_, fun r' hr' hs hn p hp hk => ?_, ?_, rfl, ?_, ?_⟩⟩
  · rw [fw, List.length_append, List.length_append]
    try dsimp only at w2
    omega
  · rcases List.mem_append.mp hn with z | z
    · exact h.live n z
    · rw [List.mem_singleton.mp z]
      obtain ⟨α, ha, ht, hs⟩ := h.can r.n (List.mem_append.mpr (.inr List.mem_cons_self))
      rw [← ht]
      exact .mk (List.mem_filter.mpr ⟨ha, decide_eq_true (by rw [ht]; exact hB)⟩) fun s q => h.live s (hs s q)
  · rw [List.nodup_append]
    refine ⟨h.nodup, by simp, fun a ha b hb q => ?_⟩
    rw [List.mem_singleton.mp hb] at q
    rw [q] at ha
    exact hm ha
  · rcases List.mem_append.mp hy with z | z
    · rcases List.mem_append.mp z with z | z
      · obtain ⟨α, ha, ht, hs⟩ := h.can y (List.mem_append.mpr (.inl z))
        exact ⟨α, ha, ht, fun s q => sub (hs s q)⟩
      · unfold adds at z
        by_cases h1 : r.sort = "record"
        · rw [if_pos h1] at z
          obtain ⟨p, hp, rfl⟩ := List.mem_map.mp z
          refine ⟨_, slot_in hr h1 hp, rfl, fun s q => ?_⟩
          rw [List.mem_singleton.mp q]
          exact self
        · rw [if_neg h1] at z
          by_cases h2 : r.sort = "map"
          · rw [if_pos h2] at z
            obtain ⟨p, hp, rfl⟩ := List.mem_map.mp z
            have hp2 := List.mem_filter.mp hp
            refine ⟨_, entry_in hr h2 hp2.1, rfl, fun s q => ?_⟩
            rcases List.mem_cons.mp q with rfl | q
            · exact self
            · rw [List.mem_singleton.mp q]
              exact of_decide_eq_true hp2.2
          · rw [if_neg h2] at z
            exact absurd z List.not_mem_nil
    · obtain ⟨α, ha, ht, hs⟩ := h.wai _ (wOf_mem.mp z)
      refine ⟨α, ha, ht, fun s q => ?_⟩
      rcases hs s q with q | q
      · exact sub q
      · rw [q]
        exact self
  · rcases List.mem_append.mp hp with z | z
    · obtain ⟨α, ha, ht, hs⟩ := h.wai p z
      exact ⟨α, ha, ht, fun s q => (hs s q).imp sub id⟩
    · obtain ⟨h2, hp2, _⟩ := waits_key z
      refine ⟨_, entry_in hr h2 hp2, rfl, fun s q => ?_⟩
      rcases List.mem_cons.mp q with rfl | q
      · exact .inl self
      · exact .inr (List.mem_singleton.mp q)
  · have old : (∀ s ∈ α.src, s ∈ met) → α.tgt ∈ met ++ [r.n] ∨ α.tgt ∈ zs ++ adds r (met ++ [r.n]) ++ wOf ps r.n ∨ α.tgt ∈ B := fun q => by
      rcases h.all α ha q with z | z | z
      · exact .inl (sub z)
      · rcases List.mem_append.mp z with z | z
        · exact .inr (.inl (List.mem_append.mpr (.inl (List.mem_append.mpr (.inl z)))))
        · exact .inl (List.mem_append.mpr (.inr z))
      · exact .inr (.inr z)
    have inA : ∀ {v}, v ∈ adds r (met ++ [r.n]) → v ∈ zs ++ adds r (met ++ [r.n]) ++ wOf ps r.n := fun q => List.mem_append.mpr (.inl (List.mem_append.mpr (.inr q)))
    rcases arc_cases ha with ⟨r', hr', rfl⟩ | ⟨r', hr', h1, p, hp, rfl⟩ | ⟨r', hr', h2, p, hp, rfl⟩
    · exact old fun s q => absurd q List.not_mem_nil
    · rcases List.mem_append.mp (hs r'.n List.mem_cons_self) with z | z
      · exact old fun s q => by
          rw [List.mem_singleton.mp q]
          exact z
      · have er := row_uniq ok.nodup hr' hr (List.mem_singleton.mp z)
        subst er
        refine .inr (.inl (inA ?_))
        unfold adds
        rw [if_pos h1]
        exact List.mem_map.mpr ⟨p, hp, rfl⟩
    · have hk := hs p.1 (List.mem_cons_of_mem _ List.mem_cons_self)
      rcases List.mem_append.mp (hs r'.n List.mem_cons_self) with z | z
      · rcases List.mem_append.mp hk with k | k
        · exact old fun s q => by
            rcases List.mem_cons.mp q with rfl | q
            · exact z
            · rw [List.mem_singleton.mp q]
              exact k
        · have k' := List.mem_singleton.mp k
          have hps := h.wal r' hr' h2 z p hp (by rw [k']; exact hm)
          refine .inr (.inl (List.mem_append.mpr (.inr (wOf_mem.mpr ?_))))
          rw [← k']
          exact hps
      · have er := row_uniq ok.nodup hr' hr (List.mem_singleton.mp z)
        subst er
        refine .inr (.inl (inA ?_))
        unfold adds
        rw [if_neg (by rw [h2]; decide +kernel), if_pos h2]
        exact List.mem_map.mpr ⟨p, List.mem_filter.mpr ⟨hp, decide_eq_true hk⟩, rfl⟩
  · rcases List.mem_append.mp hn with z | z
    · exact List.mem_append.mpr (.inl (h.wal r' hr' hs z p hp fun q => hk (sub q)))
    · have er := row_uniq ok.nodup hr' hr (List.mem_singleton.mp z)
      subst er
      refine List.mem_append.mpr (.inr ?_)
      unfold waits
      rw [if_pos hs]
      exact List.mem_filter.mpr ⟨hp, decide_eq_true hk⟩
  · rw [List.length_append, List.length_singleton]
    omega
  · rw [fw, List.length_append, List.length_append]
    try dsimp only at w2
    omega
  · rw [List.length_append]
    try dsimp only at w2
    omega
/-- when nothing is ahead any more -/
theorem Inv.done {N : NetM} {B met : List Int} {ps : List (Int × Int)} {m : Nat} (h : Inv N B met [] ps m) : ∀ n, n ∈ met ↔ Live ((netArcs N).filter fun α => decide (α.tgt ∉ B)) n := by
  intro n
  refine ⟨h.live n, fun l => ?_⟩
  refine Live.sub (S := fun n => n ∈ met) (fun α ha hs => ?_) l
  have ha2 := List.mem_filter.mp ha
  rcases h.all α ha2.1 hs with z | z | z
  · exact z
  · exact absurd z List.not_mem_nil
  · exact absurd z (of_decide_eq_true ha2.2)
end Sn
namespace L2
open PySem PySem.Spec PyProof.Rows
/-- over a list or a tuple -/
def iSeq (K : PySem.W.Frag) (tl : TE) : TI := fun σ H R => tl σ H fun x H1 => ∃ a, x = .ref a ∧ (((∃ xs, SqL K H1 a xs) ∧ R (Itl K a) H1) ∨ ((∃ xs, SqT K H1 a xs) ∧ R (Itt K a) H1))
theorem pi_seq {X : Cx} {tg l : Expr} {tl : TE} (hl : PE X l tl) : PI X tg l (iSeq X.K tl) := by
  refine ⟨fun pins s σ H R I h => ?_⟩
  refine thn (hl.run pins s σ H _ I h) fun v s1 ⟨x, H1, I1, r1, q1⟩ => ?_
  obtain ⟨a, e, q⟩ := q1
  subst e
  cases r1
  rcases q with ⟨⟨xs, hq⟩, q⟩ | ⟨⟨xs, hq⟩, q⟩
  · obtain ⟨its, rv, p, hz⟩ := I1.list hq
    refine wpAny_pyIter_list p.isList ?_
    refine ⟨s1.heap.objs.size, [s1.heap.objs.size], _, _, H1, rfl, I1.kept (t' := s1.toks) fun b o e => Heap.get?_push_of_some _ e, turn_list a _, ⟨_, Heap.get?_push_size _ rfl, rfl, rfl⟩, fun b hb => ?_, q⟩
    have e : b = s1.heap.objs.size := by simpa using hb
    subst e
    exact I1.fpOk (Nat.le_refl _) (I1.hok.fresh (Nat.le_refl _))
  · obtain ⟨its, rv, p, hz⟩ := I1.tuple hq
    refine wpAny_pyIter_tuple (show s1.heap.IsTuple a its.toArray from p) ?_
    refine ⟨s1.heap.objs.size, [s1.heap.objs.size], _, _, H1, rfl, I1.kept (t' := s1.toks) fun b o e => Heap.get?_push_of_some _ e, turn_tuple a _, ⟨_, Heap.get?_push_size _ rfl, rfl, rfl⟩, fun b hb => ?_, q⟩
    have e : b = s1.heap.objs.size := by simpa using hb
    subst e
    exact I1.fpOk (Nat.le_refl _) (I1.hok.fresh (Nat.le_refl _))
/-- f(a, ..) of a def that takes any number of arguments -/
def tCallR (sp : Sp) (E : XK) (t : TA) : TE := fun σ H Q => t σ H fun vs H1 => sp vs H1 Q E
theorem pe_callR {X : Cx} {CX : CXT} {k : Nat} {f : Addr} {sp : Sp} {E : XK} {x : Str} {e : Expr} {es : List Expr} {t : TA} {p pos : Pos} (F : FnR X.prog X.w X.K X.mg X.base CX k f sp) (hr : Room k X.A) (hg : Gl X x) (hm : X.mg x = some (.ref f)) (hk : PySem.W.keepIn X.K (.ref f) = true) (hx : Passes CX X E)
    (ha : PA X (e :: es) t) (hdb : (x == ("__debug__" : Str)) = false := by decide) (he : starEach (e :: es) X.env = (false, eval e X.env) :: starEach es X.env := by rfl) (hpl : (backTo pos (starEach es X.env)).any (·.1) = false := by rfl) :
    PE X (.Call (.Name x p) (e :: es) [] pos) (tCallR sp E t) := by
  refine ⟨fun pins s σ H Q I h => ?_⟩
  refine wpAny_Call_Name_kw (ld_glob I hg hm ?_ hdb)
  refine PySem.W.callWith_K (h₀ := X.base) I.ok.mod.kin hk (thn (ha.run pos pins s σ H _ I h) fun us s1 ⟨vs, H1, I1, r, q⟩ => ⟨I1.kIn, ?_⟩) he hpl
  exact wpAny_call (run_fnR F hr hx I1 r q)
/-- over a dict that was just made: it is locked from here on -/
def iKeysL (td : TE) : TI := fun σ H R => td σ H fun x H1 => ∃ d kvs, x = .ref d ∧ H1 d = some (.dK kvs) ∧ ∀ od, R (Itk d od kvs) (upd H1 d (.frz od (.dK kvs)))
theorem pi_keysL {X : Cx} {tg e : Expr} {td : TE} (he : PE X e td) : PI X tg e (iKeysL td) := by
  refine ⟨fun pins s σ H R I h => ?_⟩
  refine thn (he.run pins s σ H _ I h) fun u s1 ⟨x, H1, I1, rx, d, kvs, ex, hd, q⟩ => ?_
  subst ex
  obtain rfl : u = Value.ref d := rx
  obtain ⟨od, I2⟩ := I1.lock hd trivial
  obtain ⟨hs, hgd, hx, es, ep, vs, hdt, hsz, kv, hm⟩ := I2.frzK upd_same
  refine iter_keys hs hgd hx hdt (pi_one (tk := s1.toks) I2 _ (turn_keys _ hdt) ⟨_, Heap.get?_push_size _ rfl, rfl, ?_⟩ (q od))
  rw [hsz] <;> rfl
/-- name = {..} on one line, the name a local -/
theorem ps_setDc {X : Cx} {i : Nat} {y : Str} {py : Pos} {kx vx tg iter : Expr} {ifs : List Expr} {scope : Scope} {own : List (Str × Nat)} {pos spos : Pos} {wi : TI} {g : TG} {tt : TT} {tk tv : TE} (hc : X.calm = true) (hN : X.N.Nodup) (hy : X.N[i]? = some y) (hyl : X.env.scope.names.lookup y = some .local)
    (hsw : swapsWith (.DictComp kx vx [⟨tg, iter, ifs, 0⟩] scope pos) (some (.Name y py)) spos.line X.env = pure true) (hi : PI X tg iter wi) (ok : BlkOk X.N X.env.scope scope own)
    (hg : ∀ (s : Shared) (H : Hp) (C : Addr) (cl : List (Str × Addr)) (fp : List Addr), PG (X.blk s H scope (compEnvC scope cl C X.env) fp) tg g) (ht : ∀ (s : Shared) (H : Hp) (C : Addr) (cl : List (Str × Addr)) (fp : List Addr), PTs (X.blk s H scope (compEnvC scope cl C X.env) fp) ifs tt)
    (hk : ∀ (s : Shared) (H : Hp) (C : Addr) (cl : List (Str × Addr)) (fp : List Addr), PE (X.blk s H scope (compEnvC scope cl C X.env) fp) kx tk)
    (he : ∀ (s : Shared) (H : Hp) (C : Addr) (cl : List (Str × Addr)) (fp : List Addr), PE (X.blk s H scope (compEnvC scope cl C X.env) fp) vx tv) (hs : ∀ x, foldedSetIterable iter X.env x = pure x := by intro _; rfl) :
    PS X (.Assign [.Name y py] (.DictComp kx vx [⟨tg, iter, ifs, 0⟩] scope pos) spos) (tAsg (tDc wi g tt tk tv (own.map (·.2))) (gName i)) := by
  refine ⟨fun pins s σ H D I h => ?_⟩
  rw [exec_Assign_Name_used _ _ _ _ hsw]
  refine wpAny_bind (wpAny_standAt (wpAny_bind ?_))
  show wpAny _ X.A (do let _ ← comprehension (.DictComp kx vx [⟨tg, iter, ifs, 0⟩] scope pos) scope X.env (firstIterPos [⟨tg, iter, ifs, 0⟩] pos) newDict false (eval iter X.env) (some (assign (.Name y py) X.env))) _ _ s
  have h : tDc wi g tt tk tv (own.map (·.2)) σ H (fun x H1 => gName i x σ H1 D.nx) := h
  refine wpAny_bind (thn (dc_core (Qf := fun _ s' => SP X pins D .next s') hc hN I hi ok hg ht hk he hs h fun L C s' m H' I' q hn f => ?_) fun _ s' hq => wpAny_pure (wpAny_pure hq))
  show wpAny _ _ (assign (.Name y py) X.env (.ref L)) _ _ _
  refine wpAny_assign_Name (store_ok2 (v := V.ref L) I' hN hy (.inl hyl) rfl (fun s2 I2 ⟨a, sb, ha⟩ => ?_) (.inr hyl))
  obtain ⟨f0, f1, f2, f3, f4, f5⟩ := f
  have haC : C ≠ a := by
    rcases ha with z | z
    · rw [z]; exact f1
    · exact fun e => f4 y a z e.symm
  refine ⟨m, hn.sameBut sb haC, fun h3 sb3 => ?_⟩
  exact ⟨_, H', I2.turned (t' := s2.toks) (fun b o hb e => (sb3.2 b hb).trans e) f0 f1 f3 f4 f5, q⟩
theorem sw_trueD {kx vx : Expr} {gs : List Comprehension} {scope : Scope} {pos py : Pos} {y : Str} {l : Nat} {env : Env} (hk : env.scope.kind = .function) (hy : env.scope.names.lookup y = some .local) (hl : (py.line == pos.line) = true)
    (ha : (scope.names.any fun (n, k) => n == y && (k == .local || k == .cell)) = false) : swapsWith (.DictComp kx vx gs scope pos) (some (.Name y py)) l env = pure true := by
  have ky : env.kindOf y = some .local := hy
  have hb : env.blockKind = .function := by unfold Env.blockKind; rw [hk]; rfl
  unfold swapsWith
  simp only [hb, ky, ha, Expr.pos, hl]
  rfl
end L2
namespace Sn
open PySem PySem.Spec PyProof.Rows L2 Evl Gd
/-! one word of a reading at a time -/
section
variable {ta tr te tb tc td ty tv : TE} {tt : TA} {ts tz : TS} {D : Ends} {g : TG} {σ : L2.St} {H : Hp} {Q : VK} {K : PySem.W.Frag}
theorem c_of {Q : List V → Hp → Prop} (h : ta σ H fun x H1 => tt σ H1 fun xs H2 => Q (x :: xs) H2) : tCons ta tt σ H Q := h
theorem tup_of (h : tt σ H fun xs H1 => xs.length ≤ sizeLine ∧ ∀ p, H1 p = none → Q (.ref p) (upd H1 p (.tup xs))) : tTup tt σ H Q := h
theorem lst_of (h : tt σ H fun xs H1 => xs.length ≤ sizeLine ∧ ∀ p, H1 p = none → Q (.ref p) (upd H1 p (.lst xs))) : tLst tt σ H Q := h
theorem n_of {Q : List V → Hp → Prop} (h : Q [] H) : tNil σ H Q := h
theorem v_of {i : Nat} {v : V} (e : σ[i]? = some (some v)) (h : Q v H) : tVar i σ H Q := ⟨v, e, h⟩
theorem k_of {v : V} (h : Q v H) : tC v σ H Q := h
theorem seq_of (h : ts { D with nx := tz D } σ H) : tSeq ts tz D σ H := h
theorem asg_of {i : Nat} (h : te σ H fun x H1 => D.nx (σ.set i (some x)) H1) : tAsg te (gName i) D σ H := h
theorem asgG_of (h : te σ H fun x H1 => g x σ H1 D.nx) : tAsg te g D σ H := h
theorem par_of {i j : Nat} (h : tt σ H fun vs H1 => ∃ v w, vs = [v, w] ∧ D.nx ((σ.set i (some v)).set j (some w)) H1) : tPar i j tt D σ H := h
theorem ret_of (h : te σ H D.rt) : tRet te D σ H := h
theorem op_of {r : R2} (h : ta σ H fun x H1 => tb σ H1 fun y H2 => r x y H2 Q) : tOp r ta tb σ H Q := h
theorem call_of {sp : Sp} {dvs : List V} {E : XK} (h : tt σ H fun vs H1 => sp (vs ++ dvs) H1 Q E) : tCall sp dvs E tt σ H Q := h
theorem callK_of {sp : Sp} {gV : List V → List V → List V} {E : XK} {tk : TA} (h : tt σ H fun vs H1 => tk σ H1 fun zs H2 => sp (gV vs zs) H2 Q E) : tCallK sp gV E tt tk σ H Q := h
theorem callR_of {sp : Sp} {E : XK} (h : tt σ H fun vs H1 => sp vs H1 Q E) : tCallR sp E tt σ H Q := h
theorem cb_of {r : List V → Hp → VK → Prop} (h : tt σ H fun vs H1 => r vs H1 Q) : tCB r tt σ H Q := h
theorem test_of {Q : Bool → Hp → Prop} (h : te σ H fun x H1 => ∃ c, x = .bl c ∧ Q c H1) : tTest te σ H Q := h
theorem if_of {b : TT} (h : b σ H fun c H1 => if c = true then ta σ H1 Q else tb σ H1 Q) : tIf b ta tb σ H Q := h
theorem ifS_of {t : TT} {ta tb : TS} (h : t σ H fun c H1 => if c = true then ta D σ H1 else tb D σ H1) : tIfS t ta tb D σ H := h
theorem and_of {t u : TT} {Q : Bool → Hp → Prop} (h : t σ H fun c H1 => if c = true then u σ H1 Q else Q false H1) : tAnd t u σ H Q := h
theorem or_of {t u : TT} {Q : Bool → Hp → Prop} (h : t σ H fun c H1 => if c = true then Q true H1 else u σ H1 Q) : tOr t u σ H Q := h
theorem not_of {te : TT} {Q : Bool → Hp → Prop} (h : te σ H fun c H1 => Q (!c) H1) : tNot te σ H Q := h
theorem andv_of (h : ta σ H fun x H1 => ∃ c, x = .bl c ∧ if c = true then tb σ H1 Q else Q (.bl false) H1) : tAndV ta tb σ H Q := h
theorem notv_of (h : ta σ H fun x H1 => ∃ c, x = .bl c ∧ Q (.bl (!c)) H1) : tNotV ta σ H Q := h
theorem put_of (h : tv σ H fun v H1 => td σ H1 fun x H2 => ty σ H2 fun y H3 => ∃ a H4, x = .ref a ∧ DPut H3 a y v H4 ∧ D.nx σ H4) : sDPut td ty tv D σ H := h
theorem newK_of (h : ∀ p, H p = none → Q (.ref p) (upd H p (.dK []))) : tDNewK σ H Q := h
theorem dget_of (h : td σ H fun x H1 => ty σ H1 fun y H2 => ∃ a v, x = .ref a ∧ DGet H2 a y (some v) ∧ Q v H2) : tDGet td ty σ H Q := h
theorem din_of (h : ty σ H fun y H1 => td σ H1 fun x H2 => ∃ a o, x = .ref a ∧ DGet H2 a y o ∧ Q (.bl o.isSome) H2) : tDIn ty td σ H Q := h
theorem notin_of (h : ty σ H fun y H1 => td σ H1 fun x H2 => ∃ a o, x = .ref a ∧ DGet H2 a y o ∧ Q (.bl (!o.isSome)) H2) : tDNotIn ty td σ H Q := h
theorem drop_of (h : te σ H fun _ H1 => D.nx σ H1) : tDrop te D σ H := h
theorem make_of {C : Addr} {sp : Sp} {dvs : List V} {E : XK} (h : tt σ H fun vs H1 => ∀ x dx, H1 x = none → H1 dx = none → dx ≠ x → sp (.ref x :: (vs ++ dvs)) (upd (upd H1 dx (.own x)) x (.ins C dx [])) (fun v H2 => v = .non ∧ Q (.ref x) H2) E) : tMake C sp dvs E tt σ H Q := h
theorem meth_of {C : Addr} {m : Str} {sp : Sp} {dvs : List V} {E : XK} (h : ta σ H fun x H1 => ∃ a dx fs, x = .ref a ∧ H1 a = some (.ins C dx fs) ∧ fs.lookup m = none ∧ tt σ H1 fun vs H2 => sp (x :: (vs ++ dvs)) H2 Q E) : tMeth C m sp dvs E ta tt σ H Q := h
theorem lc_of {wi : TI} {tt : TT} {vs : List Nat} (h : wi σ H fun J H1 => ∀ D, H1 D = none → ∃ W : Nat → Nat → Hp → Prop, (∃ m, W 0 m (upd H1 D (.lst []))) ∧ ∀ i m H, W i m H →
  (J.stop i H ∧ Q (.ref D) H) ∨ (J.go i H ∧ ∃ Nx : Hp → Prop, (∀ H', Nx H' → ∃ m', m' < m ∧ W (i + 1) m' H') ∧ ∀ x H', J.yld i H x H' → g x (wipe σ vs) H' fun σ2 H2 => wipe σ2 vs = wipe σ vs ∧ tt σ2 H2 fun b H3 =>
    if b = true then te σ2 H3 fun y H4 => ∃ acc, H4 D = some (.lst acc) ∧ acc.length < sizeLine ∧ Nx (upd H4 D (.lst (acc ++ [y]))) else Nx H3)) : tLc wi g tt te vs σ H Q := h
theorem iL_of {R : It → Hp → Prop} (h : ta σ H fun x H1 => ∃ a, x = .ref a ∧ (∃ xs, SqL K H1 a xs) ∧ R (Itl K a) H1) : iList K ta σ H R := h
theorem iT_of {R : It → Hp → Prop} (h : ta σ H fun x H1 => ∃ a, x = .ref a ∧ (∃ xs, SqT K H1 a xs) ∧ R (Itt K a) H1) : iTup K ta σ H R := h
theorem kL_of {R : It → Hp → Prop} (h : td σ H fun x H1 => ∃ d kvs, x = .ref d ∧ H1 d = some (.dK kvs) ∧ ∀ od, R (Itk d od kvs) (upd H1 d (.frz od (.dK kvs)))) : iKeysL td σ H R := h
theorem r1_of {R : It → Hp → Prop} (h : tt σ H fun vs H1 => ∃ j : Int, vs = [.int j] ∧ -(2 ^ 62) ≤ j ∧ j < 2 ^ 62 ∧ R (Itr 0 j.toNat) H1) : iRng1 tt σ H R := h
theorem rev_of (h : te σ H fun x H1 => ∃ a xs, x = .ref a ∧ SqL K H1 a xs ∧ ∀ p, H1 p = none → Q (.ref p) (upd H1 p (.lst xs.reverse))) : tRevL K te σ H Q := h
theorem for1_of (h : tt σ H fun vs H1 => ∃ j : Int, vs = [.int j] ∧ -(2 ^ 62) ≤ j ∧ j < 2 ^ 62 ∧ ∃ W : Nat → Nat → L2.St → Hp → Prop, (∃ m, W 0 m σ H1) ∧ ∀ i m σ H, W i m σ H →
      ((Itr 0 j.toNat).stop i H ∧ D.nx σ H) ∨ ((Itr 0 j.toNat).go i H ∧ ∃ N : L2.St → Hp → Prop, (∀ σ' H', N σ' H' → ∃ m', m' < m ∧ W (i + 1) m' σ' H') ∧ ∀ x H', (Itr 0 j.toNat).yld i H x H' → g x σ H' fun σ2 H2 => ts { D with nx := N, ct := N, bk := D.nx } σ2 H2)) : tFor (iRng1 tt) g ts D σ H := h
theorem forS_of (h : ta σ H fun x H1 => ∃ a, x = .ref a ∧ (((∃ xs, SqL K H1 a xs) ∧ ∃ W : Nat → Nat → L2.St → Hp → Prop, (∃ m, W 0 m σ H1) ∧ ∀ i m σ H, W i m σ H →
      ((Itl K a).stop i H ∧ D.nx σ H) ∨ ((Itl K a).go i H ∧ ∃ N : L2.St → Hp → Prop, (∀ σ' H', N σ' H' → ∃ m', m' < m ∧ W (i + 1) m' σ' H') ∧ ∀ x H', (Itl K a).yld i H x H' → g x σ H' fun σ2 H2 => ts { D with nx := N, ct := N, bk := D.nx } σ2 H2)) ∨
    ((∃ xs, SqT K H1 a xs) ∧ ∃ W : Nat → Nat → L2.St → Hp → Prop, (∃ m, W 0 m σ H1) ∧ ∀ i m σ H, W i m σ H →
      ((Itt K a).stop i H ∧ D.nx σ H) ∨ ((Itt K a).go i H ∧ ∃ N : L2.St → Hp → Prop, (∀ σ' H', N σ' H' → ∃ m', m' < m ∧ W (i + 1) m' σ' H') ∧ ∀ x H', (Itt K a).yld i H x H' → g x σ H' fun σ2 H2 => ts { D with nx := N, ct := N, bk := D.nx } σ2 H2)))) : tFor (iSeq K ta) g ts D σ H := h
theorem ifE_yes {t : TT} (h : ∀ k : Bool → Hp → Prop, k true H → t σ H k) (q : ta σ H Q) : tIf t ta tb σ H Q := h _ (by
  show if true = true then ta σ H Q else tb σ H Q
  rw [if_pos rfl]
  exact q)
theorem ifE_no {t : TT} (h : ∀ k : Bool → Hp → Prop, k false H → t σ H k) (q : tb σ H Q) : tIf t ta tb σ H Q := h _ (by
  show if false = true then ta σ H Q else tb σ H Q
  rw [if_neg Bool.false_ne_true]
  exact q)
theorem seq_join (I : L2.St → Hp → Prop) (h1 : (∀ σ' H', I σ' H' → tz D σ' H') → tSeq ts tz D σ H) (h2 : ∀ σ' H', I σ' H' → tz D σ' H') : tSeq ts tz D σ H := h1 h2
end
/-! small facts of lists -/
theorem take_one {α : Type} {l : List α} {i : Nat} {x : α} (h : l[i]? = some x) : l.take (i + 1) = l.take i ++ [x] := by
  rw [List.take_add_one, h]
  rfl
theorem take_snoc {α β : Type} {l : List α} {i : Nat} {x : α} (f : α → β) (h : l[i]? = some x) : (l.take (i + 1)).map f = (l.take i).map f ++ [f x] := by
  rw [List.take_add_one, h, List.map_append]
  rfl
theorem map_at {α β : Type} {f : α → β} {l : List α} {i : Nat} {y : β} (h : (l.map f)[i]? = some y) : ∃ x, l[i]? = some x ∧ y = f x := by
  rw [List.getElem?_map] at h
  cases e : l[i]? with
  | none =>
    rw [e] at h
    cases h
  | some x =>
    rw [e] at h
    exact ⟨x, rfl, (Option.some.inj h).symm⟩
theorem at_map {l : List Int} {i : Nat} {x : V} (h : (l.map V.int)[i]? = some x) : ∃ k, l[i]? = some k ∧ x = .int k := map_at h
theorem filterMap_snoc {α β : Type} {l : List α} {i : Nat} {x : α} (f : α → Option β) (h : l[i]? = some x) : (l.take (i + 1)).filterMap f = (l.take i).filterMap f ++ (f x).toList := by
  rw [List.take_add_one, h, List.filterMap_append]
  show _ ++ List.filterMap f [x] = _
  cases e : f x with
  | none => rw [List.filterMap_cons_none e] <;> rfl
  | some y => rw [List.filterMap_cons_some e] <;> rfl
theorem flatMap_snoc {α β : Type} {l : List α} {i : Nat} {x : α} (f : α → List β) (h : l[i]? = some x) : (l.take (i + 1)).flatMap f = (l.take i).flatMap f ++ f x := by
  rw [List.take_add_one, h, List.flatMap_append]
  show _ ++ List.flatMap f [x] = _
  rw [List.flatMap_cons, List.flatMap_nil, List.append_nil]
theorem TdAll.last {K : PySem.W.Frag} {H : Hp} : ∀ {ys : List V} {ds : List PyData} {d : PyData}, TdAll K H ys (ds ++ [d]) → ∃ zs y, ys = zs ++ [y] ∧ TdAll K H zs ds ∧ Td K H y d
  | _, [], _, h => by
    obtain ⟨y, ys, rfl, h1, h2⟩ := TdAll.inv_cons h
    rw [h2.inv_nil]
    exact ⟨[], y, rfl, .nil, h1⟩
  | _, e :: ds, d, h => by
    obtain ⟨y, ys, rfl, h1, h2⟩ := TdAll.inv_cons h
    obtain ⟨zs, z, rfl, h3, h4⟩ := TdAll.last h2
    exact ⟨y :: zs, z, rfl, .cons h1 h3, h4⟩
theorem snoc_of {α : Type} : ∀ {l : List α}, l ≠ [] → ∃ m x, l = m ++ [x]
  | [], h => absurd rfl h
  | [x], _ => ⟨[], x, rfl⟩
  | x :: y :: l, _ => by
    obtain ⟨m, z, e⟩ := snoc_of (l := y :: l) (by simp)
    exact ⟨x :: m, z, by rw [e]; rfl⟩
theorem strict_of {ns : List Int} (h : ns.Pairwise (· ≤ ·)) (nd : ns.Nodup) : ns.Pairwise (· < ·) := by
  refine List.Pairwise.imp₂ (fun a b h1 h2 => ?_) h nd
  have h3 : a ≠ b := h2
  omega
/-- strictly ascending lists of the same ints are the same -/
theorem asc_uniq : ∀ {a b : List Int}, a.Pairwise (· < ·) → b.Pairwise (· < ·) → (∀ n, n ∈ a ↔ n ∈ b) → a = b
  | [], [], _, _, _ => rfl
  | [], y :: b, _, _, h => absurd ((h y).mpr List.mem_cons_self) List.not_mem_nil
  | x :: a, [], _, _, h => absurd ((h x).mp List.mem_cons_self) List.not_mem_nil
  | x :: a, y :: b, ha, hb, h => by
    have h1 := List.pairwise_cons.mp ha
    have h2 := List.pairwise_cons.mp hb
    have e : x = y := by
      rcases List.mem_cons.mp ((h x).mp List.mem_cons_self) with e | m
      · exact e
      · rcases List.mem_cons.mp ((h y).mpr List.mem_cons_self) with e | m2
        · exact e.symm
        · have := h2.1 x m
          have := h1.1 y m2
          omega
    subst e
    rw [asc_uniq h1.2 h2.2 fun n => ?_]
    constructor
    · intro m
      rcases List.mem_cons.mp ((h n).mp (List.mem_cons_of_mem _ m)) with e | m2
      · have := h1.1 n m
        omega
      · exact m2
    · intro m
      rcases List.mem_cons.mp ((h n).mpr (List.mem_cons_of_mem _ m)) with e | m2
      · have := h2.1 n m
        omega
      · exact m2
theorem same_of {A : Int → Prop} {a b : List Int} (ha : a.Pairwise (· < ·)) (hb : b.Pairwise (· < ·)) (ia : ∀ n, n ∈ a ↔ A n) (ib : ∀ n, n ∈ b ↔ A n) : a = b := asc_uniq ha hb fun n => (ia n).trans (ib n).symm
/-! dicts of True -/
abbrev kTrue (met : List Int) : List (Key × V) := met.map fun n => (Sum.inl n, V.bl true)
theorem val_kTrue (n : Int) : ∀ met : List Int, (valV (kTrue met) (.inl n)).isSome = decide (n ∈ met)
  | [] => by simp [valV]
  | m :: met => by
    by_cases e : m = n
    · subst e
      show (valV ((Sum.inl m, V.bl true) :: kTrue met) (.inl m)).isSome = _
      rw [valV_pos rfl]
      simp
    · show (valV ((Sum.inl m, V.bl true) :: kTrue met) (.inl n)).isSome = _
      rw [valV_neg (fun q => e (Sum.inl.inj q)), val_kTrue n met]
      have : ¬ n = m := fun q => e q.symm
      simp [this]
theorem put_kTrue {n : Int} {met : List Int} (h : n ∉ met) : putK (kTrue met) (.inl n) (.bl true) = kTrue (met ++ [n]) := by
  have e : valV (kTrue met) (.inl n) = none := by
    have := val_kTrue n met
    rw [decide_eq_false h] at this
    cases q : valV (kTrue met) (.inl n) with
    | none => rfl
    | some v =>
      rw [q] at this
      cases this
  rw [putK_new _ e]
  show _ = (met ++ [n]).map _
  rw [List.map_append]
  rfl
def insT (met : List Int) (n : Int) : List Int := if n ∈ met then met else met ++ [n]
theorem put_ins (met : List Int) (n : Int) : putK (kTrue met) (.inl n) (.bl true) = kTrue (insT met n) := by
  unfold insT
  by_cases h : n ∈ met
  · rw [if_pos h]
    have e : (valV (kTrue met) (.inl n)).isSome = true := by
      rw [val_kTrue]
      exact decide_eq_true h
    unfold putK
    rw [valV_any, if_pos e]
    show (met.map fun n => ((Sum.inl n : Key), V.bl true)).map _ = _
    rw [List.map_map]
    refine List.map_congr_left fun m _ => ?_
    show (if (Sum.inl m : Key) = Sum.inl n then ((Sum.inl m : Key), V.bl true) else (Sum.inl m, V.bl true)) = _
    split <;> rfl
  · rw [if_neg h]
    exact put_kTrue h
theorem insT_mem {met : List Int} {n m : Int} : m ∈ insT met n ↔ m ∈ met ∨ m = n := by
  unfold insT
  by_cases h : n ∈ met
  · rw [if_pos h]
    constructor
    · exact .inl
    · rintro (q | q)
      · exact q
      · rw [q]
        exact h
  · rw [if_neg h, List.mem_append, List.mem_singleton]
theorem insT_nodup {met : List Int} {n : Int} (nd : met.Nodup) : (insT met n).Nodup := by
  unfold insT
  by_cases h : n ∈ met
  · rw [if_pos h]
    exact nd
  · rw [if_neg h, List.nodup_append]
    refine ⟨nd, by simp, fun a ha b hb e => ?_⟩
    rw [List.mem_singleton.mp hb] at e
    rw [e] at ha
    exact h ha
theorem insT_pre (met : List Int) (n : Int) : met <+: insT met n := by
  unfold insT
  split
  · exact List.prefix_refl _
  · exact List.prefix_append _ _
theorem insT_len (met : List Int) (n : Int) : (insT met n).length ≤ met.length + 1 := by
  unfold insT
  split
  · omega
  · rw [List.length_append, List.length_singleton]
    omega
/-! a list or a tuple -/
def SqA (K : PySem.W.Frag) (H : Hp) (a : Addr) (xs : List V) : Prop := SqL K H a xs ∨ SqT K H a xs
theorem SqA.ex {K : PySem.W.Frag} {H H' : Hp} {a : Addr} {xs : List V} (h : SqA K H a xs) (e : Ex H H') : SqA K H' a xs := h.imp (ex_l e) (ex_t e)
/-- over what is there from the beginning and stays -/
theorem for_seqA {K : PySem.W.Frag} {ta : TE} {g : TG} {tb : TS} {D : Ends} {σ : L2.St} {H0 H : Hp} {a : Addr} {xs : List V} (hq : SqA K H0 a xs) (Pv : Nat → L2.St → Hp → Prop) (hv : ∀ Q : VK, Q (.ref a) H → ta σ H Q) (h0 : Pv 0 σ H) (hl : ∀ i σ H, Pv i σ H → Ex H0 H)
    (hs : ∀ i x σ H, xs[i]? = some x → Pv i σ H → g x σ H fun σ2 H2 => tb { D with nx := Pv (i + 1), ct := Pv (i + 1), bk := D.nx } σ2 H2) (hd : ∀ σ H, Pv xs.length σ H → D.nx σ H) : tFor (iSeq K ta) g tb D σ H := by
  refine forS_of (hv _ ⟨a, rfl, ?_⟩)
  rcases hq with hq | hq
  · exact .inl ⟨⟨xs, ex_l (hl _ _ _ h0) hq⟩, for_list (K := K) (a := a) (xs := xs) Pv h0 (fun i σ H _ p => ex_l (hl _ _ _ p) hq) hs hd⟩
  · exact .inr ⟨⟨xs, ex_t (hl _ _ _ h0) hq⟩, for_tup (K := K) (a := a) (xs := xs) Pv h0 (fun i σ H _ p => ex_t (hl _ _ _ p) hq) hs hd⟩
theorem lc_seqA {K : PySem.W.Frag} {ta te : TE} {g : TG} {tt : TT} {vs : List Nat} {σ : L2.St} {H0 H : Hp} {a : Addr} {xs : List V} {Q : VK} (hq : SqA K H0 a xs) (e0 : Ex H0 H) (hv : ∀ Q : VK, Q (.ref a) H → ta σ H Q)
    (k : ∀ D, H D = none → ∃ Pv : Nat → Hp → Prop, Pv 0 (upd H D (.lst [])) ∧ (∀ i H, Pv i H → Ex H0 H) ∧
      (∀ i x H, xs[i]? = some x → Pv i H → g x (wipe σ vs) H fun σ2 H2 => wipe σ2 vs = wipe σ vs ∧ tt σ2 H2 fun b H3 => if b = true then te σ2 H3 fun y H4 => ∃ acc, H4 D = some (.lst acc) ∧ acc.length < sizeLine ∧ Pv (i + 1) (upd H4 D (.lst (acc ++ [y]))) else Pv (i + 1) H3) ∧
      ∀ H, Pv xs.length H → Q (.ref D) H) : tLc (iSeq K ta) g tt te vs σ H Q := by
  refine lc_of (hv _ ⟨a, rfl, ?_⟩)
  rcases hq with hq | hq
  · refine .inl ⟨⟨xs, ex_l e0 hq⟩, fun D hD => ?_⟩
    obtain ⟨Pv, h0, hl, hs, hd⟩ := k D hD
    exact lc_list (K := K) (a := a) (xs := xs) Pv h0 (fun i H _ p => ex_l (hl _ _ p) hq) hs hd
  · refine .inr ⟨⟨xs, ex_t e0 hq⟩, fun D hD => ?_⟩
    obtain ⟨Pv, h0, hl, hs, hd⟩ := k D hD
    exact lc_tup (K := K) (a := a) (xs := xs) Pv h0 (fun i H _ p => ex_t (hl _ _ p) hq) hs hd
end Sn
namespace Sn
open PySem PySem.Spec PyProof.Rows L2 Evl Gd
def topS (i : Nat) : Stmt := PySem.Challenge.pw_crossheaps_k61_what_is_alive.main.body.getD i (.Pass ⟨0, 0, 0, 0⟩)
/-- a def of the top: where it stands, how it is called -/
structure Df (K : PySem.W.Frag) (mg : Str → Option Value) (x : Str) (st : Stmt) (ps : List Str) (f : Addr) (fd : FuncData) : Prop where
  F : Fun K x x st f fd
  b : Binds K fd ps []
  g : mg x = some (.ref f)
/-- a method -/
structure Mf (K : PySem.W.Frag) (C : Addr) (m q : Str) (st : Stmt) (ps : List Str) (f : Addr) (fd : FuncData) : Prop where
  F : Fun K m q st f fd
  b : Binds K fd ps []
  m : Meth K C m f
abbrev sNInit : Stmt := inClass (topS 2) 0
abbrev sNetOf : Stmt := topS 3
abbrev nNInit : List Str := ["self", "roots", "rows"]
abbrev nNetOf : List Str := ["snapshot", "roots", "objects", "rows", "number", "_", "sort", "parts", "part"]
theorem scNInit : FnScope nNInit ["self", "roots", "rows"] (defScope sNInit) := ⟨rfl, rfl, rfl, by decide +kernel, rfl, by decide +kernel, by decide +kernel⟩
theorem scNetOf : FnScope nNetOf ["snapshot"] (defScope sNetOf) := ⟨rfl, rfl, rfl, by decide +kernel, rfl, by decide +kernel, by decide +kernel⟩
theorem rows_nr : ¬ (("rows" : Str) = "roots") := by decide +kernel
theorem roots_nr : ¬ (("roots" : Str) = "rows") := by decide +kernel
def nf (r d : V) : List (Str × V) := putF "rows" d (putF "roots" r [])
theorem nf_rows (r d : V) : (nf r d).lookup ("rows" : Str) = some d := by
  unfold nf
  rw [lookup_putF, if_pos rfl]
theorem nf_roots (r d : V) : (nf r d).lookup ("roots" : Str) = some r := by
  unfold nf
  rw [lookup_putF, if_neg roots_nr, lookup_putF, if_pos rfl]
theorem nf_no (r d : V) {x : Str} (h1 : ¬ x = "rows") (h2 : ¬ x = "roots") : (nf r d).lookup x = none := by
  unfold nf
  rw [lookup_putF, if_neg h1, lookup_putF, if_neg h2]
  rfl
structure Txt (K : PySem.W.Frag) (mg : Str → Option Value) (C : Addr) : Prop where
  cl : Cls K C
  nR : NoAttr K C "roots"
  nW : NoAttr K C "rows"
  mgC : mg "Net" = some (.ref C)
/-- (sort, parts) of a row -/
def RowAt (K : PySem.W.Frag) (H : Hp) (v : V) (r : Row) : Prop := ∃ t pa ps, v = .ref t ∧ SqT K H t [.str r.sort, .ref pa] ∧ SqA K H pa ps ∧ TdAll K H ps (r.parts.map dPart)
/-- the dict of rows -/
def RowsAt (K : PySem.W.Frag) (H : Hp) (kvs : List (Key × V)) (rs : List Row) : Prop := kvs.map (·.1) = rs.map (fun r => (Sum.inl r.n : Key)) ∧ ∀ r ∈ rs, ∃ v, valV kvs (.inl r.n) = some v ∧ RowAt K H v r
/-- a Net as it lies there -/
def NetAt (K : PySem.W.Frag) (C : Addr) (H : Hp) (p : Addr) (N : NetM) : Prop := ∃ dx ra rs d kvs, H p = some (.ins C dx (nf (.ref ra) (.ref d))) ∧ SqA K H ra rs ∧ TdAll K H rs (N.roots.map dRoot) ∧ H d = some (.dK kvs) ∧ RowsAt K H kvs N.rows
theorem RowAt.keep {K : PySem.W.Frag} {H H' : Hp} {v : V} {r : Row} {d : Addr} {kvs : List (Key × V)} (hd : H d = some (.dK kvs)) (e : ∀ a o, a ≠ d → H a = some o → H' a = some o) (h : RowAt K H v r) : RowAt K H' v r := by
  obtain ⟨t, pa, ps, rfl, h1, h2, h3⟩ := h
  have kt : KeepT K H H' := .off hd ⟨(fun _ z => nomatch z), (fun _ _ z => nomatch z)⟩ e
  refine ⟨t, pa, ps, rfl, kt _ _ h1, ?_, h3.keep kt⟩
  rcases h2 with h | h
  · refine .inl ?_
    rcases h with (h | ⟨o, h⟩) | h
    · exact .inl (.inl (e _ _ (ne_of h hd (fun z => nomatch z)) h))
    · exact .inl (.inr ⟨o, e _ _ (ne_of h hd (fun z => nomatch z)) h⟩)
    · exact .inr h
  · exact .inr (kt _ _ h)
theorem RowAt.ex {K : PySem.W.Frag} {H H' : Hp} {v : V} {r : Row} (e : Ex H H') (h : RowAt K H v r) : RowAt K H' v r := by
  obtain ⟨t, pa, ps, rfl, h1, h2, h3⟩ := h
  exact ⟨t, pa, ps, rfl, ex_t e h1, h2.ex e, h3.ex e⟩
theorem RowsAt.ex {K : PySem.W.Frag} {H H' : Hp} {kvs : List (Key × V)} {rs : List Row} (e : Ex H H') (h : RowsAt K H kvs rs) : RowsAt K H' kvs rs := ⟨h.1, fun r hr => by
  obtain ⟨v, h1, h2⟩ := h.2 r hr
  exact ⟨v, h1, h2.ex e⟩⟩
theorem NetAt.ex {K : PySem.W.Frag} {C : Addr} {H H' : Hp} {p : Addr} {N : NetM} (e : Ex H H') (h : NetAt K C H p N) : NetAt K C H' p N := by
  obtain ⟨dx, ra, rs, d, kvs, h1, h2, h3, h4, h5⟩ := h
  exact ⟨dx, ra, rs, d, kvs, e _ _ h1, h2.ex e, h3.ex e, e _ _ h4, h5.ex e⟩
theorem key_none {kvs : List (Key × V)} {k : Key} (h : k ∉ kvs.map (·.1)) : valV kvs k = none := by
  induction kvs with
  | nil => rfl
  | cons x r ih =>
    rw [List.map_cons] at h
    obtain ⟨a, b⟩ := x
    rw [valV_neg (fun q : a = k => h (by rw [← q]; exact List.mem_cons_self))]
    exact ih fun m => h (List.mem_cons_of_mem _ m)
/-- a row more -/
theorem RowsAt.add {K : PySem.W.Frag} {H H' : Hp} {d : Addr} {kvs : List (Key × V)} {rs : List Row} {v : V} {r : Row} (h : RowsAt K H kvs rs) (hd : H d = some (.dK kvs)) (e : ∀ a o, a ≠ d → H a = some o → H' a = some o) (hr : RowAt K H v r) (new : r.n ∉ rs.map Row.n) :
    RowsAt K H' (putK kvs (.inl r.n) v) (rs ++ [r]) := by
  have nk : valV kvs (.inl r.n) = none := key_none (by
    rw [h.1]
    intro m
    obtain ⟨r', hr', q⟩ := List.mem_map.mp m
    exact new (List.mem_map.mpr ⟨r', hr', Sum.inl.inj q⟩))
  refine ⟨?_, fun r' hr' => ?_⟩
  · rw [putK_new _ nk, List.map_append, List.map_append, h.1]
    rfl
  · rw [valV_put]
    rcases List.mem_append.mp hr' with m | m
    · have ne : r'.n ≠ r.n := fun q => new (List.mem_map.mpr ⟨r', m, q⟩)
      rw [if_neg (fun q => ne (Sum.inl.inj q))]
      obtain ⟨u, h1, h2⟩ := h.2 r' m
      exact ⟨u, h1, h2.keep hd e⟩
    · rw [List.mem_singleton.mp m, if_pos rfl]
      exact ⟨v, rfl, hr.keep hd e⟩
def spNInit (C : Addr) : Sp := fun vs H Q _ => ∃ p dx r d, vs = [.ref p, r, d] ∧ H p = some (.ins C dx []) ∧ ∀ H', (∀ a o, a ≠ p → H a = some o → H' a = some o) → H' p = some (.ins C dx (nf r d)) → Q .non H'
abbrev okShot (s : Shot) : Prop := (∀ t ∈ s.things, OkThing t) ∧ (∀ t ∈ s.things, t.parts.length ≤ 1000) ∧ OkNet (netM s)
theorem pairs_ex : ∀ {l : List Part}, (∀ p ∈ l, ∃ k v, p = .pair k (some v)) → ∃ ps : List (Int × Int), l = ps.map fun p => .pair p.1 (some p.2)
  | [], _ => ⟨[], rfl⟩
  | p :: l, h => by
    obtain ⟨ps, e⟩ := pairs_ex fun q hq => h q (List.mem_cons_of_mem _ hq)
    obtain ⟨k, v, rfl⟩ := h p List.mem_cons_self
    exact ⟨(k, v) :: ps, by rw [e]; rfl⟩
theorem row_ok {t : Thing} (h : OkThing t) : OkRow (rowOf t) := by
  rcases h with ⟨a, b⟩ | ⟨a, b⟩ | ⟨a, b⟩
  · refine .inl ⟨a, ?_⟩
    obtain ⟨ps, e⟩ := pairs_ex b
    refine ⟨ps, ?_⟩
    unfold rowOf
    rw [← e]
    exact if_neg (by rw [a]; decide +kernel)
  · refine .inr (.inl ⟨a, ?_⟩)
    have eP : (rowOf t).parts = t.parts.filter isVal := by
      unfold rowOf
      exact if_pos a
    rw [eP]
    refine pairs_ex fun p hp => ?_
    have hp2 := List.mem_filter.mp hp
    obtain ⟨k, v, rfl⟩ := b p hp2.1
    cases v with
    | none => exact absurd hp2.2 Bool.false_ne_true
    | some v => exact ⟨k, v, rfl⟩
  · exact .inr (.inr a)
theorem rows_n (s : Shot) : (netM s).rows.map Row.n = s.things.map Thing.n := by
  unfold netM
  rw [List.map_map]
  rfl
theorem ok_shot_of {s : Shot} (h : ∀ t ∈ s.things, OkThing t) (pl : ∀ t ∈ s.things, t.parts.length ≤ 1000) (nd : (s.things.map Thing.n).Nodup) (tg : ∀ α ∈ arcsOf s, α.tgt ∈ s.things.map Thing.n) (al : (arcsOf s).length ≤ 1000) (tl : s.things.length ≤ 1000) : okShot s := by
  refine ⟨h, pl, ⟨fun r hr => ?_, by rw [rows_n]; exact nd, fun α ha => ?_, by rw [net_arcs]; exact al, ?_⟩⟩
  · obtain ⟨t, ht, rfl⟩ := List.mem_map.mp hr
    exact row_ok (h t ht)
  · rw [net_arcs] at ha
    rw [rows_n]
    exact tg α ha
  · unfold netM
    rw [List.length_map]
    exact tl
theorem okShot.arcs {s : Shot} (h : okShot s) : (arcsOf s).length ≤ 1000 := by
  have := h.2.2.many
  rw [net_arcs] at this
  exact this
theorem okShot.rts {s : Shot} (h : okShot s) : s.roots.length ≤ 1000 := by
  have := h.arcs
  unfold arcsOf at this
  rw [List.length_append, List.length_map] at this
  omega
theorem okShot.tgts {s : Shot} (h : okShot s) {α : Arc} (m : α ∈ arcsOf s) : α.tgt ∈ s.things.map Thing.n := by
  have := h.2.2.there α (by rw [net_arcs]; exact m)
  rw [rows_n] at this
  exact this
theorem okShot.nodup {s : Shot} (h : okShot s) : (s.things.map Thing.n).Nodup := by
  have := h.2.2.nodup
  rw [rows_n] at this
  exact this
theorem okShot.tlen {s : Shot} (h : okShot s) : s.things.length ≤ 1000 := by
  have := h.2.2.len
  unfold netM at this
  rw [List.length_map] at this
  exact this
def spNetOf (K : PySem.W.Frag) (C : Addr) : Sp := fun vs H Q _ => ∃ (x : V) (s : Shot), vs = [x] ∧ Td K H x (dShot s) ∧ okShot s ∧
  ∀ (H' : Hp) (p : Addr), Ex H H' → NetAt K C H' p (netM s) → Q (.ref p) H'
section
variable {P : Program} {w : World} {K : PySem.W.Frag} {mg : Str → Option Value} {base : Heap}
theorem ok_ninit {f C : Addr} {fd : FuncData} (F : Fun K "__init__" "Net.__init__" sNInit f fd) (T : Txt K mg C) : FnOk P w K mg base CX0 1 f fd ["self", "roots", "rows"] (spNInit C) := by
  refine F.ok scNInit (fun vs H Q E h => ?_) (fun cdv A outer s H vs Q E hr h => ?_)
  · obtain ⟨p, dx, r, d, rfl, _⟩ := h
    rfl
  · obtain ⟨p, dx, r, d, rfl, hp, q⟩ := h
    refine ⟨_, pss_cons (ps_fld (pv 0) (pv 1) rfl) (pss_one (ps_fld (pv 0) (pv 2) rfl)), ?_⟩
    refine ⟨r, rfl, .ref p, rfl, p, C, dx, [], rfl, hp, T.cl, T.nR, (by show 0 < 1000; decide), ?_⟩
    refine ⟨d, rfl, .ref p, rfl, p, C, dx, _, rfl, upd_same, T.cl, T.nW, (by show 1 < 1000; decide), ?_⟩
    refine q _ (fun a o n h => ?_) upd_same
    rw [upd_ne n, upd_ne n]
    exact h
/-- the def's class and its __init__ -/
structure NetD (P : Program) (w : World) (K : PySem.W.Frag) (mg : Str → Option Value) (base : Heap) (C : Addr) : Prop where
  T : Txt K mg C
  ex : ∃ (fI : Addr) (fdI : FuncData), Mk K C fI ∧ FnOk P w K mg base CX0 1 fI fdI ["self", "roots", "rows"] (spNInit C) ∧ Binds K fdI ["self", "roots", "rows"] []
theorem thing_row {s : Shot} (ok : okShot s) {t : Thing} (h : t ∈ s.things) : OkRow (rowOf t) := ok.2.2.rows _ (List.mem_map.mpr ⟨t, h, rfl⟩)
theorem ok_netof {f C : Addr} {fd : FuncData} (F : Fun K "net_of" "net_of" sNetOf f fd) (N : NetD P w K mg base C) : FnOk P w K mg base CX0 3 f fd ["snapshot"] (spNetOf K C) := by
  obtain ⟨T, fI, fdI, MK, GI, bI⟩ := N
  refine F.ok scNetOf (fun vs H Q E h => ?_) (fun cdv A outer s H vs Q E hr h => ?_)
  · obtain ⟨x, s, rfl, _⟩ := h
    rfl
  · obtain ⟨x, s, rfl, ht, ok, q⟩ := h
    have hu := hu_of hr
    refine ⟨_, pss_cons (ps_asg (pv 0) (pg_tup (n := 2) rfl (pgs_cons (pg_name (i := 1) scNetOf.nd rfl (.inl rfl)) (pgs_cons (pg_name (i := 2) scNetOf.nd rfl (.inl rfl)) pgs_nil))))
      (pss_cons (ps_set (i := 3) scNetOf.nd rfl (.inl rfl) pe_dnewK)
      (pss_cons (ps_for PassesOwn.never rfl (pi_tup (pv 2)) (pg_tup (n := 4) rfl (pgs_cons (pg_name (i := 4) scNetOf.nd rfl (.inl rfl)) (pgs_cons (pg_name (i := 5) scNetOf.nd rfl (.inl rfl)) (pgs_cons (pg_name (i := 6) scNetOf.nd rfl (.inl rfl)) (pgs_cons (pg_name (i := 7) scNetOf.nd rfl (.inl rfl)) pgs_nil)))))
        (pss_cons (ps_if (pt_cmpR op_eq (pv 6) pe_str (nomark _))
          (pss_one (ps_setLc (i := 7) (own := [("part", 8)]) (g := gName 8) (tt := tTest (tOp (fun x y H Q => y = .non ∧ Q (.bl (!decide (x = .non))) H) (tOp (rIxT K) (tVar 8) (tC (.int 1))) (tC .non))) (te := tVar 8) rfl scNetOf.nd rfl rfl (sw_true rfl rfl rfl (by decide +kernel)) (pi_tup (pv 7)) (blkOk_by (N := nNetOf) (sc := defScope sNetOf) (by decide +kernel))
            (fun _ _ _ _ _ => pg_name (i := 8) scNetOf.nd rfl (.inl rfl)) (fun _ _ _ _ _ => pts_one (pt_cmpR op_notN (pe_ix ix_tup (pv 8) pe_int (fun _ _ => rfl)) pe_non (nomark _))) (fun _ _ _ _ _ => pv 8))) pss_nil)
        (pss_one (ps_dput hu (pv 3) (pv 4) (pe_tup (pa_cons (pv 6) (pa_cons (pv 7) pa_nil))) rfl))))
      (pss_one (ps_ret (pe_make MK GI hr rfl T.mgC bI .nil pass0 (pa_cons (pv 1) (pa_cons (pv 3) pa_nil))))))), ?_⟩
    obtain ⟨p, xr, xo, rfl, sp, tr, to⟩ := Td.inv2 ht
    obtain ⟨pr, rs, rfl, spr, tr⟩ := tr.inv_tup
    obtain ⟨po, os, rfl, spo, to⟩ := to.inv_tup
    refine ⟨.ref p, rfl, p, _, rfl, sp, rfl, .ref pr, _, rfl, .ref po, _, rfl, rfl, ?_⟩
    dsimp only [gName]
    refine seq_of (asg_of (newK_of fun D hD => ?_))
    have e1 : Ex H (upd H D (.dK [])) := Ex.new hD
    have h1 : (upd H D (.dK [])) D = some (.dK []) := upd_same
    generalize upd H D (.dK []) = H1 at e1 h1 ⊢
    dsimp only
    have nod : (s.things.map Thing.n).Nodup := by
      have := ok.2.2.nodup
      unfold netM at this
      rw [List.map_map] at this
      exact this
    have tlen : s.things.length ≤ 1000 := by
      have := ok.2.2.len
      unfold netM at this
      rw [List.length_map] at this
      exact this
    refine ⟨.ref po, rfl, po, rfl, ⟨_, ex_t e1 spo⟩, for_tup (xs := os) (fun i σ' Hc => ∃ y4 y5 y6 y7, σ' = [some (.ref p), some (.ref pr), some (.ref po), some (.ref D), y4, y5, y6, y7, none] ∧ Ex H Hc ∧ ∃ kvs, Hc D = some (.dK kvs) ∧ RowsAt K Hc kvs ((s.things.take i).map rowOf))
      ⟨none, none, none, none, rfl, e1, [], h1, rfl, fun r hr => absurd hr List.not_mem_nil⟩ (fun i σ' Hc _ ⟨_, _, _, _, _, e, _⟩ => ex_t e spo) ?_ ?_⟩
    · rintro i x σ' Hc hx ⟨y4, y5, y6, y7, rfl, e, kvs, hk, hR⟩
      obtain ⟨δ, hδ, hT⟩ := to.get hx
      obtain ⟨t, ht1, rfl⟩ := map_at hδ
      have tm : t ∈ s.things := List.mem_of_getElem? ht1
      obtain ⟨a, v1, v2, v3, v4, rfl, s1, t1, t2, t3, t4⟩ := Td.inv4 hT
      rw [t1.inv_int, t2.inv_str, t3.inv_str] at s1
      obtain ⟨pp, ps, rfl, s2, tp⟩ := t4.inv_tup
      refine ⟨a, _, rfl, ex_t e s1, rfl, .int t.n, _, rfl, .str t.home, _, rfl, .str t.sort, _, rfl, .ref pp, _, rfl, rfl, ?_⟩
      dsimp only [gName]
      have ilt : i < s.things.length := (List.getElem?_eq_some_iff.mp ht1).1
      have kl : kvs.length ≤ i := by
        have := congrArg List.length hR.1
        rw [List.length_map, List.length_map, List.length_map, List.length_take] at this
        omega
      have new : t.n ∉ ((s.things.take i).map rowOf).map Row.n := fun m => by
        rw [List.map_map] at m
        obtain ⟨u, hu1, hu2⟩ := List.mem_map.mp m
        obtain ⟨j, hj⟩ := List.mem_iff_getElem?.mp hu1
        have jl : j < i := by
          have := (List.getElem?_eq_some_iff.mp hj).1
          rw [List.length_take] at this
          omega
        rw [List.getElem?_take_of_lt jl] at hj
        have a1 : (s.things.map Thing.n)[j]? = some t.n := by
          rw [List.getElem?_map, hj]
          exact congrArg some hu2
        have a2 : (s.things.map Thing.n)[i]? = some t.n := by
          rw [List.getElem?_map, ht1]
          rfl
        have := (List.getElem?_inj (by rw [List.length_map]; omega) nod).mp (a1.trans a2.symm)
        omega
      refine seq_join (fun σ' Hd => ∃ pa zs, σ' = [some (.ref p), some (.ref pr), some (.ref po), some (.ref D), some (.int t.n), some (.str t.home), some (.str t.sort), some (.ref pa), none] ∧ Ex Hc Hd ∧ SqA K Hd pa zs ∧ TdAll K Hd zs ((rowOf t).parts.map dPart)) (fun tail => seq_of ?_) ?_
      · refine ⟨.str t.sort, rfl, rfl, _, rfl, ?_⟩
        dsimp only
        by_cases hm : t.sort = "map"
        · rw [decide_eq_true (by rw [hm]), if_pos rfl]
          have eP : (rowOf t).parts = t.parts.filter isVal := by
            unfold rowOf
            exact if_pos hm
          refine ⟨.ref pp, rfl, pp, rfl, ⟨_, ex_t e s2⟩, fun L hL => lc_tup (xs := ps) (fun j Hd => Ex Hc Hd ∧ ∃ zs, Hd L = some (.lst zs) ∧ zs.length ≤ j ∧ TdAll K Hd zs (((t.parts.take j).filter isVal).map dPart)) ⟨Ex.new hL, [], upd_same, Nat.le_refl _, .nil⟩ (fun j Hd _ h => ex_t (e.trans h.1) s2) ?_ ?_⟩
          · rintro j x Hd hx ⟨e2, zs, h2, zl, tz⟩
            obtain ⟨δ, hδ, hT⟩ := tp.get hx
            obtain ⟨q, hq, rfl⟩ := map_at hδ
            have jl : j < ps.length := (List.getElem?_eq_some_iff.mp hx).1
            have pl : t.parts.length ≤ 1000 := ok.2.1 t tm
            have psl := tp.len
            rw [List.length_map] at psl
            obtain ⟨k, v, rfl⟩ : ∃ k v, q = .pair k v := by
              rcases ok.1 t tm with ⟨z, _⟩ | ⟨_, z⟩ | ⟨z, _⟩
              · rw [hm] at z
                exact absurd z (by decide +kernel)
              · exact z q (List.mem_of_getElem? hq)
              · rw [hm] at z
                exact absurd z (by decide +kernel)
            obtain ⟨b, w1, w2, rfl, s3, u1, u2⟩ := Td.inv2 hT
            refine ⟨rfl, ?_⟩
            refine test_of (op_of (op_of (v_of rfl (k_of ⟨b, _, 1, _, rfl, rfl, ex_t (e.trans e2) s3, atI_nat (j := 1) rfl, k_of ⟨rfl, _, rfl, ?_⟩⟩))))
            have kD : ∀ {o}, KeepT K Hd (upd Hd L (.lst o)) := fun {o} => .lst h2 fun a u n h => by
              rw [upd_ne n]
              exact h
            cases v with
            | none =>
              rw [Td.inv_non u2]
              rw [decide_eq_true rfl, if_neg (by decide)]
              refine ⟨e2, zs, h2, by omega, ?_⟩
              rw [take_one hq, List.filter_append, List.filter_cons_of_neg (show ¬ (isVal (Part.pair k none) = true) from Bool.false_ne_true), List.filter_nil, List.append_nil]
              exact tz
            | some v =>
              rw [Td.inv_int u2]
              rw [if_pos (show (!decide (V.int v = V.non)) = true from by simp)]
              refine v_of rfl ⟨zs, h2, sz_lt (by omega), Ex.mut e2 hL, _, upd_same, by rw [List.length_append, List.length_singleton]; omega, ?_⟩
              rw [take_one hq, List.filter_append, List.filter_cons_of_pos rfl, List.filter_nil, List.map_append]
              exact (tz.snoc (hT.ex (e.trans e2))).keep kD
          · rintro Hd ⟨e2, zs, h2, zl, tz⟩
            have psl := tp.len
            rw [List.length_map] at psl
            rw [psl, List.take_length] at tz
            refine tail _ _ ⟨L, zs, rfl, e2, .inl (sq_of h2), ?_⟩
            rw [eP]
            exact tz
        · rw [decide_eq_false (fun q => hm (V.str.inj q)), if_neg Bool.false_ne_true]
          refine tail _ _ ⟨pp, ps, rfl, Ex.refl _, .inr (ex_t e s2), ?_⟩
          have eP : (rowOf t).parts = t.parts := by
            unfold rowOf
            exact if_neg hm
          rw [eP]
          exact tp.ex e
      · rintro σ' Hd ⟨pa, zs, rfl, e2, hz, tz⟩
        refine put_of (tup_of (c_of (v_of rfl (c_of (v_of rfl (n_of ⟨by show 2 ≤ sizeLine; decide, fun T hT0 => ?_⟩))))))
        have e3 : Ex Hd (upd Hd T (.tup [.str t.sort, .ref pa])) := Ex.new hT0
        have hT1 : (upd Hd T (.tup [.str t.sort, .ref pa])) T = some (.tup [.str t.sort, .ref pa]) := upd_same
        generalize upd Hd T (.tup [.str t.sort, .ref pa]) = He at e3 hT1 ⊢
        have hk' := e3 _ _ (e2 _ _ hk)
        refine v_of rfl (v_of rfl ⟨D, _, rfl, DPut.k (k := Sum.inl t.n) hk' (sz_lt (by omega)), _, _, _, _, rfl, Ex.mut ((e.trans e2).trans e3) hD, _, upd_same, ?_⟩)
        rw [take_one ht1, List.map_append]
        have hrow : RowAt K He (.ref T) (rowOf t) := ⟨T, pa, zs, rfl, st_of hT1, hz.ex e3, tz.ex e3⟩
        exact RowsAt.add (r := rowOf t) (v := .ref T) (H' := upd He D (.dK (putK kvs (.inl t.n) (.ref T)))) (hR.ex (e2.trans e3)) hk' (fun a o n h => by
          rw [upd_ne n]
          exact h) hrow new
    · rintro σ' Hc ⟨y4, y5, y6, y7, rfl, e, kvs, hk, hR⟩
      have lts := to.len
      rw [List.length_map] at lts
      rw [lts, List.take_length] at hR
      dsimp only
      refine ret_of (make_of (c_of (v_of rfl (c_of (v_of rfl (n_of ?_))))))
      intro p' dx hp hdx ndp
      have hp2 : (upd Hc dx (.own p')) p' = none := by
        rw [upd_ne ndp.symm]
        exact hp
      have x0 : Ex Hc (upd (upd Hc dx (.own p')) p' (.ins C dx [])) := (Ex.new hdx).trans (Ex.new hp2)
      refine ⟨p', dx, .ref pr, .ref D, rfl, upd_same, fun H' ke hp' => ⟨rfl, ?_⟩⟩
      have x1 : Ex Hc H' := fun a o h => ke a o (ne_of_none h hp) (x0 a o h)
      exact q H' p' (e.trans x1) ⟨dx, pr, rs, D, kvs, hp', .inr (ex_t (e.trans x1) spr), tr.ex (e.trans x1), x1 _ _ hk, hR.ex x1⟩
end
end Sn
namespace Sn
open PySem PySem.Spec PyProof.Rows L2 Evl Gd
abbrev sMet : Stmt := inClass (topS 2) 1
abbrev nMet : List Str := ["self", "barred", "found", "waiting", "ahead", "number", "sort", "parts", "key", "other", "_"]
theorem scMet : FnScope nMet ["self", "barred"] (defScope sMet) := ⟨rfl, rfl, rfl, by decide +kernel, rfl, by decide +kernel, by decide +kernel⟩
/-- the dict of what waits: for each number the places, in a list of its own -/
def WaitAt (S : Addr → Prop) (H : Hp) (d : Addr) (W : Int → List Int) (b : Nat) : Prop := ∃ kvs : List (Key × V), H d = some (.dK kvs) ∧ S d ∧ kvs.length ≤ b ∧
  (∀ n, (valV kvs (.inl n) = none ∧ W n = []) ∨ ∃ q, valV kvs (.inl n) = some (.ref q) ∧ S q ∧ H q = some (.lst ((W n).map V.int))) ∧
  (∀ n m q, valV kvs (.inl n) = some (.ref q) → valV kvs (.inl m) = some (.ref q) → n = m)
theorem WaitAt.frame {S : Addr → Prop} {H H' : Hp} {d : Addr} {W : Int → List Int} {b : Nat} (h : WaitAt S H d W b) (k : ∀ a o, S a → H a = some o → H' a = some o) : WaitAt S H' d W b := by
  obtain ⟨kvs, h1, h2, h3, h4, h5⟩ := h
  refine ⟨kvs, k _ _ h2 h1, h2, h3, fun n => ?_, h5⟩
  rcases h4 n with h | ⟨q, e1, e2, e3⟩
  · exact .inl h
  · exact .inr ⟨q, e1, e2, k _ _ e2 e3⟩
theorem wOf_map (ps : List (Int × Int)) (n m i : Int) : ((wOf (ps ++ [(n, i)]) m).map V.int) = ((wOf ps m).map V.int) ++ (if n = m then [V.int i] else []) := by
  rw [wOf_snoc, List.map_append]
  by_cases h : n = m
  · rw [if_pos h, if_pos h]
    rfl
  · rw [if_neg h, if_neg h]
    rfl
/-- a place more in a list that is there -/
theorem WaitAt.old {S : Addr → Prop} {H H' : Hp} {d q : Addr} {ps : List (Int × Int)} {b : Nat} {i n : Int} {kvs : List (Key × V)} (h : WaitAt S H d (wOf ps) b) (hd : H d = some (.dK kvs)) (hv : valV kvs (.inl n) = some (.ref q))
    (k : ∀ a o, S a → a ≠ q → H a = some o → H' a = some o) (hq : H' q = some (.lst (((wOf ps n).map V.int) ++ [V.int i]))) : WaitAt S H' d (wOf (ps ++ [(n, i)])) (b + 1) := by
  obtain ⟨kvs', h1, h2, h3, h4, h5⟩ := h
  rw [hd] at h1
  cases h1
  have qd : d ≠ q := fun e => by
    rcases h4 n with ⟨z, _⟩ | ⟨q', e1, e2, e3⟩
    · rw [hv] at z
      cases z
    · rw [hv] at e1
      cases e1
      rw [← e, hd] at e3
      cases e3
  refine ⟨kvs, k _ _ h2 qd hd, h2, by omega, fun m => ?_, h5⟩
  by_cases e : n = m
  · subst e
    refine .inr ⟨q, hv, ?_, ?_⟩
    · rcases h4 n with ⟨z, _⟩ | ⟨q', e1, e2, e3⟩
      · rw [hv] at z
        cases z
      · rw [hv] at e1
        cases e1
        exact e2
    · rw [wOf_map, if_pos rfl]
      exact hq
  · rcases h4 m with ⟨z1, z2⟩ | ⟨q', e1, e2, e3⟩
    · refine .inl ⟨z1, ?_⟩
      rw [wOf_snoc, if_neg e, z2]
      rfl
    · have nq : q' ≠ q := fun z => by
        subst z
        exact e (h5 n m q' hv e1)
      refine .inr ⟨q', e1, e2, ?_⟩
      rw [wOf_map, if_neg e, List.append_nil]
      exact k _ _ e2 nq e3
/-- a number more -/
theorem WaitAt.new {S : Addr → Prop} {H H' : Hp} {d z : Addr} {ps : List (Int × Int)} {b : Nat} {i n : Int} {kvs : List (Key × V)} (h : WaitAt S H d (wOf ps) b) (hd : H d = some (.dK kvs)) (hv : valV kvs (.inl n) = none) (hz : H z = none) (sz : S z)
    (k : ∀ a o, S a → a ≠ d → H a = some o → H' a = some o) (h1 : H' d = some (.dK (putK kvs (.inl n) (.ref z)))) (h2 : H' z = some (.lst [V.int i])) : WaitAt S H' d (wOf (ps ++ [(n, i)])) (b + 1) := by
  obtain ⟨kvs', h1', h2', h3, h4, h5⟩ := h
  rw [hd] at h1'
  cases h1'
  have wn : wOf ps n = [] := by
    rcases h4 n with ⟨_, e⟩ | ⟨q, e1, _⟩
    · exact e
    · rw [hv] at e1
      cases e1
  refine ⟨_, h1, h2', by have := length_putK kvs (.inl n) (.ref z); omega, fun m => ?_, fun a c q ha hc => ?_⟩
  · rw [valV_put]
    by_cases e : n = m
    · subst e
      rw [if_pos rfl]
      refine .inr ⟨z, rfl, sz, ?_⟩
      rw [wOf_map, if_pos rfl, wn]
      exact h2
    · rw [if_neg (fun x => e (Sum.inl.inj x).symm)]
      rcases h4 m with ⟨z1, z2⟩ | ⟨q', e1, e2, e3⟩
      · refine .inl ⟨z1, ?_⟩
        rw [wOf_snoc, if_neg e, z2]
        rfl
      · refine .inr ⟨q', e1, e2, ?_⟩
        rw [wOf_map, if_neg e, List.append_nil]
        exact k _ _ e2 (ne_of e3 hd (fun x => nomatch x)) e3
  · have key : ∀ x : Int, valV (putK kvs (.inl n) (.ref z)) (.inl x) = some (.ref q) → (x = n ∧ q = z) ∨ (x ≠ n ∧ q ≠ z ∧ valV kvs (.inl x) = some (.ref q)) := by
      intro x hx
      rw [valV_put] at hx
      by_cases e : x = n
      · rw [if_pos (by rw [e])] at hx
        cases hx
        exact .inl ⟨e, rfl⟩
      · rw [if_neg (fun y => e (Sum.inl.inj y))] at hx
        refine .inr ⟨e, fun y => ?_, hx⟩
        subst y
        rcases h4 x with ⟨z1, _⟩ | ⟨q', e1, e2, e3⟩
        · rw [hx] at z1
          cases z1
        · rw [hx] at e1
          cases e1
          rw [hz] at e3
          cases e3
    rcases key a ha with ⟨a1, a2⟩ | ⟨a1, a2, a3⟩
    · rcases key c hc with ⟨c1, c2⟩ | ⟨c1, c2, c3⟩
      · rw [a1, c1]
      · exact absurd a2 c2
    · rcases key c hc with ⟨c1, c2⟩ | ⟨c1, c2, c3⟩
      · exact absurd c2 a2
      · exact h5 a c q a3 c3
/-- what met has made so far: found at F, waiting at W, ahead at A -/
structure Sm (H H' : Hp) (F W A : Addr) (met ys : List Int) (ps : List (Int × Int)) : Prop where
  ex : Ex H H'
  f : H' F = some (.dK (kTrue met))
  a : H' A = some (.lst (ys.map V.int))
  w : WaitAt (fun q => H q = none ∧ q ≠ F ∧ q ≠ A) H' W (wOf ps) ps.length
  hF : H F = none
  hA : H A = none
  ne : F ≠ A
theorem Sm.ext {H H' H2 : Hp} {F W A : Addr} {met ys : List Int} {ps : List (Int × Int)} (h : Sm H H' F W A met ys ps) (e : Ex H' H2) : Sm H H2 F W A met ys ps :=
  ⟨h.ex.trans e, e _ _ h.f, e _ _ h.a, h.w.frame fun a o _ q => e a o q, h.hF, h.hA, h.ne⟩
theorem Sm.setA {H H' : Hp} {F W A : Addr} {met ys : List Int} {ps : List (Int × Int)} (h : Sm H H' F W A met ys ps) (zs : List Int) : Sm H (upd H' A (.lst (zs.map V.int))) F W A met zs ps :=
  ⟨Ex.mut h.ex h.hA, by rw [upd_ne h.ne]; exact h.f, upd_same, h.w.frame fun a o s q => by rw [upd_ne s.2.2]; exact q, h.hF, h.hA, h.ne⟩
theorem Sm.setF {H H' : Hp} {F W A : Addr} {met ys : List Int} {ps : List (Int × Int)} (h : Sm H H' F W A met ys ps) (ms : List Int) : Sm H (upd H' F (.dK (kTrue ms))) F W A ms ys ps :=
  ⟨Ex.mut h.ex h.hF, upd_same, by rw [upd_ne h.ne.symm]; exact h.a, h.w.frame fun a o s q => by rw [upd_ne s.2.1]; exact q, h.hF, h.hA, h.ne⟩
def spMet (K : PySem.W.Frag) (C : Addr) : Sp := fun vs H Q _ => ∃ (p b : Addr) (N : NetM) (bs : List (Key × V)) (B : List Int), vs = [.ref p, .ref b] ∧ NetAt K C H p N ∧ OkNet N ∧ H b = some (.dK bs) ∧ (∀ n, (valV bs (.inl n)).isSome = decide (n ∈ B)) ∧
  ∀ (H' : Hp) (q : Addr) (met : List Int), Ex H H' → H q = none → H' q = some (.dK (kTrue met)) → met.Nodup → (∀ n, n ∈ met ↔ Live ((netArcs N).filter fun α => decide (α.tgt ∉ B)) n) → met.length ≤ 1000 → Q (.ref q) H'
section
variable {P : Program} {w : World} {K : PySem.W.Frag} {mg : Str → Option Value} {base : Heap}
theorem ok_met {f C : Addr} {fd : FuncData} (F : Fun K "met" "Net.met" sMet f fd) (T : Txt K mg C) (mL : mg "len" = none) : FnOk P w K mg base CX0 1 f fd ["self", "barred"] (spMet K C) := by
  refine F.ok scMet (fun vs H Q E h => ?_) (fun cdv A outer s H vs Q E hr h => ?_)
  · obtain ⟨p, b, N, bs, B, rfl, _⟩ := h
    rfl
  · obtain ⟨p, b, N, bs, B, rfl, hN, ok, hb, hB, q⟩ := h
    have hu := hu_of hr
    refine ⟨_, pss_cons (ps_set (i := 2) scMet.nd rfl (.inl rfl) pe_dnewK) <|
      pss_cons (ps_set (i := 3) scMet.nd rfl (.inl rfl) pe_dnewK) <|
      pss_cons (ps_setLc (i := 4) (own := [("_", 10), ("number", 5)]) (g := gTup K 2 (gCons (gName 10) (gCons (gName 5) gNil))) (tt := tYes) (te := tVar 5) rfl scMet.nd rfl rfl (sw_true rfl rfl rfl (by decide +kernel)) (pi_seq (pe_fld (pv 0) rfl)) (blkOk_by (N := nMet) (sc := defScope sMet) (by decide +kernel))
          (fun _ _ _ _ _ => pg_tup rfl (pgs_cons (pg_name (i := 10) scMet.nd rfl (.inl rfl)) (pgs_cons (pg_name (i := 5) scMet.nd rfl (.inl rfl)) pgs_nil))) (fun _ _ _ _ _ => pts_nil) (fun _ _ _ _ _ => pv 5)) <|
      pss_cons (ps_while PassesOwn.never (pt_cmpR op_gt (pe_callB call_len_seq (by rfl) mL PySem.boot_len (pa_cons (pv 4) pa_nil)) pe_int (nomark _)) <|
        pss_cons (ps_set (i := 5) scMet.nd rfl (.inl rfl) (pe_bm0 PySem.F.plainAttrs_list PySem.F.slot_list_pop PySem.F.type_list_pop mt_pop (pv 4))) <|
        pss_cons (ps_if (pw_or (pt_cmp (pc_din hu (pv 5) (pv 2))) (pw_or1 (pt_cmp (pc_din hu (pv 5) (pv 1))))).pt (pss_one ps_continue) pss_nil) <|
        pss_cons (ps_dput hu (pv 2) (pv 5) pe_bl rfl) <|
        pss_cons (ps_asg (pe_dget hu (pe_fld (pv 0) rfl) (pv 5) (fun _ _ => rfl)) (pg_tup (n := 2) rfl (pgs_cons (pg_name (i := 6) scMet.nd rfl (.inl rfl)) (pgs_cons (pg_name (i := 7) scMet.nd rfl (.inl rfl)) pgs_nil)))) <|
        pss_cons (ps_if (pt_cmpR op_eq (pv 6) pe_str (nomark _))
          (pss_one (ps_expr (pe_bm PySem.F.plainAttrs_list PySem.F.slot_list_extend PySem.F.type_list_extend mt_extend (pv 4) (pa_cons (pe_lc (own := [("_", 10), ("other", 9)]) (g := gTup K 2 (gCons (gName 10) (gCons (gName 9) gNil))) (tt := tYes) (te := tVar 9) rfl scMet.nd (pi_seq (pv 7)) (blkOk_by (N := nMet) (sc := defScope sMet) (by decide +kernel))
            (fun _ _ _ _ _ => pg_tup rfl (pgs_cons (pg_name (i := 10) scMet.nd rfl (.inl rfl)) (pgs_cons (pg_name (i := 9) scMet.nd rfl (.inl rfl)) pgs_nil))) (fun _ _ _ _ _ => pts_nil) (fun _ _ _ _ _ => pv 9)) pa_nil))))
          (pss_one (ps_if (pt_cmpR op_eq (pv 6) pe_str (nomark _))
            (pss_one (ps_for PassesOwn.never rfl (pi_seq (pv 7)) (pg_tup (n := 2) rfl (pgs_cons (pg_name (i := 8) scMet.nd rfl (.inl rfl)) (pgs_cons (pg_name (i := 9) scMet.nd rfl (.inl rfl)) pgs_nil)))
              (pss_one (ps_if (pt_cmp (pc_din hu (pv 8) (pv 2)))
                (pss_one (ps_expr (pe_bm PySem.F.plainAttrs_list PySem.F.slot_list_append PySem.F.type_list_append mt_append (pv 4) (pa_cons (pv 9) pa_nil))))
                (pss_one (ps_expr (pe_bm PySem.F.plainAttrs_list PySem.F.slot_list_append PySem.F.type_list_append mt_append (pe_dsetd (pv 3) (pv 8) (pe_lst pa_nil) ⟨rfl, rfl, rfl, rfl⟩) (pa_cons (pv 9) pa_nil))))))))
            pss_nil))) <|
        pss_one (ps_if (pt_cmp (pc_din hu (pv 5) (pv 3))) (pss_one (ps_expr (pe_bm PySem.F.plainAttrs_list PySem.F.slot_list_extend PySem.F.type_list_extend mt_extend (pv 4) (pa_cons (pe_dget hu (pv 3) (pv 5) (fun _ _ => rfl)) pa_nil)))) pss_nil)) <|
      pss_one (ps_ret (pv 2)), ?_⟩
    obtain ⟨dx, ra, rs, d, kvs, hp, hra, tra, hd, hR⟩ := id hN
    refine seq_of (asg_of (newK_of fun F hF => ?_))
    have e1 : Ex H (upd H F (.dK [])) := Ex.new hF
    have f1 : (upd H F (.dK [])) F = some (.dK []) := upd_same
    generalize upd H F (.dK []) = H1 at e1 f1 ⊢
    dsimp only
    refine seq_of (asg_of (newK_of fun W hW => ?_))
    have e2 : Ex H1 (upd H1 W (.dK [])) := Ex.new hW
    have w2 : (upd H1 W (.dK [])) W = some (.dK []) := upd_same
    generalize upd H1 W (.dK []) = H2 at e2 w2 ⊢
    have e12 := e1.trans e2
    dsimp only
    refine seq_of (asg_of (lc_seqA (K := K) (H0 := H) (a := ra) (xs := rs) hra e12 (fun Q h => ⟨.ref p, rfl, p, C, dx, _, _, rfl, e12 _ _ hp, T.cl, T.nR, nf_roots _ _, h⟩) fun A hA =>
      ⟨fun i H' => Ex H2 H' ∧ H' A = some (.lst (((N.roots.take i).map (·.2)).map V.int)), ⟨Ex.new hA, upd_same⟩, fun i H' h => e12.trans h.1, ?_, ?_⟩))
    · rintro i x H' hx ⟨e3, h3⟩
      obtain ⟨δ, hδ, hT⟩ := tra.get hx
      obtain ⟨r, hr1, rfl⟩ := map_at hδ
      obtain ⟨t, y, z, rfl, s1, s2, s3⟩ := Td.inv2 hT
      rw [s2.inv_str, s3.inv_int] at s1
      have rl : N.roots.length ≤ 1000 := by
        have := ok.many
        unfold netArcs at this
        rw [List.length_append, List.length_map] at this
        omega
      refine ⟨t, _, rfl, ex_t (e12.trans e3) s1, rfl, .str r.1, _, rfl, .int r.2, _, rfl, rfl, rfl, ?_⟩
      dsimp only [tYes]
      rw [if_pos rfl]
      refine v_of rfl ⟨_, h3, sz_lt (by rw [List.length_map, List.length_map, List.length_take]; omega), Ex.mut e3 hA, ?_⟩
      rw [upd_same, take_one hr1, List.map_append, List.map_append]
      rfl
    · rintro H3 ⟨e3, h3⟩
      have lrs := tra.len
      rw [List.length_map] at lrs
      rw [lrs, List.take_length] at h3
      have hF0 := hF
      have hW0 : H W = none := fresh_back e1 hW
      have hA0 : H A = none := fresh_back e12 hA
      have nFW : F ≠ W := ne_of_none f1 hW
      have nFA : F ≠ A := ne_of_none (e2 _ _ f1) hA
      have nWA : W ≠ A := ne_of_none w2 hA
      obtain ⟨m0, inv0⟩ := Inv.start (B := B) ok
      have w0 : Sm H H3 F W A [] (N.roots.map (·.2)) [] := ⟨e12.trans e3, e3 _ _ (e2 _ _ f1), h3, ⟨[], e3 _ _ w2, ⟨hW0, nFW.symm, nWA⟩, Nat.le_refl _, fun n => .inl ⟨rfl, rfl⟩, fun n m q h => nomatch h⟩, hF0, hA0, nFA⟩
      dsimp only
      refine seq_of ⟨fun m σ' H' => ∃ y5 y6 y7 y8 y9 met ys ps, σ' = [some (.ref p), some (.ref b), some (.ref F), some (.ref W), some (.ref A), y5, y6, y7, y8, y9, none] ∧ Sm H H' F W A met ys ps ∧ Inv N B met ys ps m, ⟨m0, _, _, _, _, _, _, _, _, rfl, w0, inv0⟩, ?_⟩
      rintro m σ' H' ⟨y5, y6, y7, y8, y9, met, ys, ps, rfl, h, inv⟩
      refine ⟨.ref A, rfl, A, _, rfl, .inl (sq_of h.a), _, _, rfl, rfl, _, rfl, ?_⟩
      by_cases nb : ys = []
      · subst nb
        dsimp only
        rw [show decide (((([] : List Int).map V.int).length : Nat) > (0 : Int)) = false from rfl, if_neg Bool.false_ne_true]
        have ml : met.length ≤ 1000 := by
          have := inv.many
          omega
        exact ret_of (v_of rfl (q H' F met h.ex hF0 h.f inv.nodup inv.done ml))
      · obtain ⟨zs, n, rfl⟩ := snoc_of nb
        have ed : decide (((((zs ++ [n]).map V.int).length : Nat) : Int) > 0) = true := decide_eq_true (by rw [List.length_map, List.length_append, List.length_singleton]; omega)
        dsimp only
        rw [ed, if_pos rfl]
        refine ⟨fun σ2 H2 => ∃ m', m' < m ∧ ∃ y5 y6 y7 y8 y9 met ys ps, σ2 = [some (.ref p), some (.ref b), some (.ref F), some (.ref W), some (.ref A), y5, y6, y7, y8, y9, none] ∧ Sm H H2 F W A met ys ps ∧ Inv N B met ys ps m', fun σ2 H2 hN => hN, ?_⟩
        have hlast : ((zs ++ [n]).map V.int)[((zs ++ [n]).map V.int).length - 1]? = some (.int n) := by
          rw [List.map_append, List.length_append, List.length_map]
          show (zs.map V.int ++ [V.int n])[zs.length + 1 - 1]? = _
          rw [Nat.add_sub_cancel, List.getElem?_append_right (by rw [List.length_map]; exact Nat.le_refl _), List.length_map, Nat.sub_self]
          rfl
        refine seq_of (asg_of ⟨.ref A, rfl, .inl ⟨rfl, _, sq_of h.a⟩, A, _, .int n, rfl, rfl, h.a, hlast, ?_⟩)
        have edl : ((zs ++ [n]).map V.int).dropLast = zs.map V.int := by
          rw [List.map_append]
          exact List.dropLast_concat
        rw [edl]
        have h4 := h.setA zs
        generalize upd H' A (.lst (zs.map V.int)) = H4 at h4 ⊢
        dsimp only
        have mle := inv.le
        refine seq_of (ifS_of (or_of (test_of (din_of (v_of rfl (v_of rfl ⟨F, _, rfl, DGet.k (k := Sum.inl n) h4.f, _, rfl, ?_⟩))))))
        rw [val_kTrue]
        by_cases hm : n ∈ met
        · obtain ⟨m', l, i'⟩ := inv.skip (.inl hm)
          rw [decide_eq_true hm, if_pos rfl, if_pos rfl]
          exact ⟨m', l, _, _, _, _, _, met, zs, ps, rfl, h4, i'⟩
        · rw [decide_eq_false hm, if_neg Bool.false_ne_true]
          refine test_of (din_of (v_of rfl (v_of rfl ⟨b, _, rfl, DGet.k (k := Sum.inl n) (h4.ex _ _ hb), _, rfl, ?_⟩)))
          rw [hB]
          by_cases hnB : n ∈ B
          · obtain ⟨m', l, i'⟩ := inv.skip (.inr hnB)
            rw [decide_eq_true hnB, if_pos rfl]
            exact ⟨m', l, _, _, _, _, _, met, zs, ps, rfl, h4, i'⟩
          · rw [decide_eq_false hnB, if_neg Bool.false_ne_true]
            dsimp only
            obtain ⟨α, hα, rfl, _⟩ := inv.can n (List.mem_append.mpr (.inr List.mem_cons_self))
            obtain ⟨r, hr1, er⟩ := List.mem_map.mp (ok.there α hα)
            rw [← er] at hm hnB inv ⊢
            obtain ⟨m', l, i'⟩ := inv.step ok hr1 hm hnB
            have mlen : met.length ≤ 1000 := by
              have := inv.many
              omega
            refine seq_of (put_of (k_of (v_of rfl (v_of rfl ⟨F, _, rfl, DPut.k (k := Sum.inl r.n) h4.f (sz_lt (by rw [List.length_map]; omega)), ?_⟩))))
            rw [put_kTrue hm]
            have h5 := h4.setF (met ++ [r.n])
            generalize upd H4 F (.dK (kTrue (met ++ [r.n]))) = H5 at h5 ⊢
            obtain ⟨v, hv, t, pa, xs, rfl, s1, s2, s3⟩ := hR.2 r hr1
            dsimp only
            refine seq_of (asgG_of (dget_of ⟨.ref p, rfl, p, C, dx, _, _, rfl, h5.ex _ _ hp, T.cl, T.nW, nf_rows _ _, v_of rfl ⟨d, .ref t, rfl, (by rw [← hv]; exact DGet.k (k := Sum.inl r.n) (h5.ex _ _ hd)), ?_⟩⟩))
            refine ⟨t, _, rfl, ex_t h5.ex s1, rfl, .str r.sort, _, rfl, .ref pa, _, rfl, rfl, ?_⟩
            dsimp only [gName]
            have me' := i'.me
            have le' := i'.le
            have pl' := i'.pl
            rw [List.length_append, List.length_append] at me'
            rw [List.length_append] at pl'
            have aw := adds_waits r (met ++ [r.n])
            refine seq_join (fun σ' Hd => ∃ y8 y9, σ' = [some (.ref p), some (.ref b), some (.ref F), some (.ref W), some (.ref A), some (.int r.n), some (.str r.sort), some (.ref pa), y8, y9, none] ∧ Sm H Hd F W A (met ++ [r.n]) (zs ++ adds r (met ++ [r.n])) (ps ++ waits r (met ++ [r.n]))) (fun tail => seq_of ?_) ?_
            · rcases ok.rows r hr1 with ⟨srt, prs, epr⟩ | ⟨srt, prs, epr⟩ | srt
              · have ea : adds r (met ++ [r.n]) = prs.map (·.2) := by
                  unfold adds
                  rw [if_pos srt, pairs_of epr]
                have ew : waits r (met ++ [r.n]) = [] := by
                  unfold waits
                  rw [if_neg (by rw [srt]; decide +kernel)]
                rw [ea, List.length_map] at me'
                rw [ea, ew, List.append_nil] at tail
                rw [epr, List.map_map] at s3
                rw [srt] at tail ⊢
                refine ⟨_, rfl, rfl, _, rfl, ?_⟩
                dsimp only
                rw [decide_eq_true rfl, if_pos rfl]
                refine ⟨.ref A, rfl, .inl ⟨rfl, _, sq_of h5.a⟩, c_of (lc_seqA (K := K) (H0 := H) (a := pa) (xs := xs) s2 h5.ex (fun Q h => ⟨_, rfl, h⟩) fun D hD =>
                  ⟨fun i H' => Ex H5 H' ∧ H' D = some (.lst (((prs.take i).map (·.2)).map V.int)), ⟨Ex.new hD, upd_same⟩, fun i H' h => h5.ex.trans h.1, ?_, ?_⟩)⟩
                · rintro i x H' hx ⟨e6, h6⟩
                  obtain ⟨δ, hδ, hT⟩ := s3.get hx
                  obtain ⟨pq, hpq, rfl⟩ := map_at hδ
                  obtain ⟨b1, w1, w2, rfl, s4, u1, u2⟩ := Td.inv2 hT
                  rw [u1.inv_int, Td.inv_int u2] at s4
                  have il : i < prs.length := (List.getElem?_eq_some_iff.mp hpq).1
                  refine ⟨b1, _, rfl, ex_t (h5.ex.trans e6) s4, rfl, .int pq.1, _, rfl, .int pq.2, _, rfl, rfl, rfl, ?_⟩
                  dsimp only [tYes]
                  rw [if_pos rfl]
                  refine v_of rfl ⟨_, h6, sz_lt (by rw [List.length_map, List.length_map, List.length_take]; omega), Ex.mut e6 hD, ?_⟩
                  rw [upd_same, take_one hpq, List.map_append, List.map_append]
                  rfl
                · rintro H6 ⟨e6, h6⟩
                  have lxs := s3.len
                  rw [List.length_map] at lxs
                  rw [lxs, List.take_length] at h6
                  have h7 := h5.ext e6
                  refine n_of ⟨A, D, _, _, rfl, rfl, h7.a, h6, ?_, tail _ _ ⟨_, _, rfl, ?_⟩⟩
                  · rw [List.length_map, List.length_map, List.length_map, sizeLine_eq]
                    omega
                  · rw [← List.map_append]
                    exact h7.setA _
              · have ea : adds r (met ++ [r.n]) = (prs.filter fun p => decide (p.1 ∈ met ++ [r.n])).map (·.2) := by
                  unfold adds
                  rw [if_neg (by rw [srt]; decide +kernel), if_pos srt, pairs_of epr]
                have ew : waits r (met ++ [r.n]) = prs.filter fun p => decide (p.1 ∉ met ++ [r.n]) := by
                  unfold waits
                  rw [if_pos srt, pairs_of epr]
                have er2 : (rowArcs r).length = prs.length := by
                  unfold rowArcs
                  rw [if_neg (by rw [srt]; decide +kernel), if_pos srt, pairs_of epr, List.length_map]
                rw [ea, ew] at tail
                rw [epr, List.map_map] at s3
                rw [srt] at tail ⊢
                refine ⟨_, rfl, rfl, _, rfl, ?_⟩
                dsimp only
                rw [decide_eq_false (by decide +kernel), if_neg Bool.false_ne_true]
                refine ⟨_, rfl, rfl, _, rfl, ?_⟩
                dsimp only
                rw [decide_eq_true rfl, if_pos rfl]
                refine for_seqA (K := K) (H0 := H) (a := pa) (xs := xs) s2 (fun j σ' Hd => ∃ y8 y9, σ' = [some (.ref p), some (.ref b), some (.ref F), some (.ref W), some (.ref A), some (.int r.n), some (.str "map"), some (.ref pa), y8, y9, none] ∧ Sm H Hd F W A (met ++ [r.n]) (zs ++ ((prs.take j).filter fun p => decide (p.1 ∈ met ++ [r.n])).map (·.2)) (ps ++ (prs.take j).filter fun p => decide (p.1 ∉ met ++ [r.n])))
                  (fun Q h => ⟨_, rfl, h⟩) ⟨_, _, rfl, by simpa using h5⟩ (fun j σ' Hd ⟨_, _, _, g⟩ => g.ex) ?_ ?_
                · rintro j x σ' Hd hx ⟨y8, y9, rfl, g⟩
                  obtain ⟨δ, hδ, hT⟩ := s3.get hx
                  obtain ⟨pq, hpq, rfl⟩ := map_at hδ
                  obtain ⟨b1, w1, w2, rfl, s4, u1, u2⟩ := Td.inv2 hT
                  rw [u1.inv_int, Td.inv_int u2] at s4
                  have jl : j < prs.length := (List.getElem?_eq_some_iff.mp hpq).1
                  have z1 := List.length_filter_le (fun p : Int × Int => decide (p.1 ∈ met ++ [r.n])) (prs.take j)
                  have z2 := List.length_filter_le (fun p : Int × Int => decide (p.1 ∉ met ++ [r.n])) (prs.take j)
                  rw [List.length_take] at z1 z2
                  refine ⟨b1, _, rfl, ex_t g.ex s4, rfl, .int pq.1, _, rfl, .int pq.2, _, rfl, rfl, ?_⟩
                  dsimp only [gName]
                  refine ifS_of (test_of (din_of (v_of rfl (v_of rfl ⟨F, _, rfl, DGet.k (k := Sum.inl pq.1) g.f, _, rfl, ?_⟩))))
                  rw [val_kTrue]
                  by_cases hk : pq.1 ∈ met ++ [r.n]
                  · rw [decide_eq_true hk, if_pos rfl]
                    refine ⟨.ref A, rfl, .inl ⟨rfl, _, sq_of g.a⟩, .int pq.2, rfl, A, _, _, rfl, rfl, g.a, sz_lt (by rw [List.length_map, List.length_append, List.length_map]; omega), _, _, rfl, ?_⟩
                    have eA : zs ++ ((prs.take (j + 1)).filter fun p => decide (p.1 ∈ met ++ [r.n])).map (·.2) = zs ++ ((prs.take j).filter fun p => decide (p.1 ∈ met ++ [r.n])).map (·.2) ++ [pq.2] := by
                      rw [take_one hpq, List.filter_append, List.filter_cons_of_pos (p := fun p : Int × Int => decide (p.1 ∈ met ++ [r.n])) (decide_eq_true hk), List.filter_nil, List.map_append, ← List.append_assoc]
                      rfl
                    have eP : (prs.take (j + 1)).filter (fun p => decide (p.1 ∉ met ++ [r.n])) = (prs.take j).filter (fun p => decide (p.1 ∉ met ++ [r.n])) := by
                      rw [take_one hpq, List.filter_append, List.filter_cons_of_neg (p := fun p : Int × Int => decide (p.1 ∉ met ++ [r.n])) (fun q => of_decide_eq_true q hk), List.filter_nil, List.append_nil]
                    rw [eA, eP]
                    have := g.setA (zs ++ ((prs.take j).filter fun p => decide (p.1 ∈ met ++ [r.n])).map (·.2) ++ [pq.2])
                    rw [List.map_append (l₂ := [pq.2])] at this
                    exact this
                  · rw [decide_eq_false hk, if_neg Bool.false_ne_true]
                    have eg : (prs.take (j + 1)).filter (fun p => decide (p.1 ∈ met ++ [r.n])) = (prs.take j).filter (fun p => decide (p.1 ∈ met ++ [r.n])) := by
                      rw [take_one hpq, List.filter_append, List.filter_cons_of_neg (by simpa using hk), List.filter_nil, List.append_nil]
                    have eg2 : (prs.take (j + 1)).filter (fun p => decide (p.1 ∉ met ++ [r.n])) = (prs.take j).filter (fun p => decide (p.1 ∉ met ++ [r.n])) ++ [(pq.1, pq.2)] := by
                      rw [take_one hpq, List.filter_append, List.filter_cons_of_pos (by simpa using hk), List.filter_nil]
                    rw [eg, eg2, ← List.append_assoc]
                    have pl2 : (ps ++ (prs.take j).filter fun p => decide (p.1 ∉ met ++ [r.n])).length ≤ 4000 := by
                      rw [List.length_append]
                      omega
                    generalize ps ++ (prs.take j).filter (fun p => decide (p.1 ∉ met ++ [r.n])) = ps2 at g pl2 ⊢
                    obtain ⟨kvs2, w1, w2, w3, w4, w5⟩ := id g.w
                    refine ⟨.ref W, rfl, W, rfl, .inl ⟨kvs2, .inl w1⟩, .int pq.1, rfl, Nat.zero_le _, fun z hz => ⟨kvs2, .inl pq.1, Ex.new hz _ _ w1, rfl, sz_lt (by omega), fun v hv => ?_, fun hv => ?_⟩⟩
                    · obtain ⟨q', e1, e2, e3⟩ : ∃ q, valV kvs2 (.inl pq.1) = some (.ref q) ∧ (H q = none ∧ q ≠ F ∧ q ≠ A) ∧ Hd q = some (.lst ((wOf ps2 pq.1).map V.int)) := by
                        rcases w4 pq.1 with ⟨z1, _⟩ | h
                        · rw [hv] at z1
                          cases z1
                        · exact h
                      rw [hv] at e1
                      cases e1
                      have g2 := g.ext (Ex.new (o := .lst []) hz)
                      have hq : (upd Hd z (.lst [])) q' = some (.lst ((wOf ps2 pq.1).map V.int)) := Ex.new hz _ _ e3
                      have hk2 : (upd Hd z (.lst [])) W = some (.dK kvs2) := Ex.new hz _ _ w1
                      generalize upd Hd z (.lst []) = Hz at g2 hq hk2 ⊢
                      have hwl := wOf_len ps2 pq.1
                      refine ⟨.inl ⟨rfl, _, sq_of hq⟩, .int pq.2, rfl, q', _, _, rfl, rfl, hq, sz_lt (by rw [List.length_map]; omega), _, _, rfl, ?_⟩
                      refine ⟨Ex.mut g2.ex e2.1, ?_, ?_, ?_, g2.hF, g2.hA, g2.ne⟩
                      · rw [upd_ne e2.2.1.symm]
                        exact g2.f
                      · rw [upd_ne e2.2.2.symm]
                        exact g2.a
                      · rw [List.length_append]
                        exact g2.w.old hk2 hv (fun a o _ nq h => by
                          rw [upd_ne nq]
                          exact h) upd_same
                    · have g2 := g.ext (Ex.new (o := .lst []) hz)
                      have nzW : z ≠ W := (ne_of_none w1 hz).symm
                      have zH : H z = none := fresh_back g.ex hz
                      have zF : z ≠ F := (ne_of_none g.f hz).symm
                      have zA : z ≠ A := (ne_of_none g.a hz).symm
                      have hz2 : (upd (upd Hd z (.lst [])) W (.dK (putK kvs2 (.inl pq.1) (.ref z)))) z = some (.lst []) := by
                        rw [upd_ne nzW, upd_same]
                      refine ⟨.inl ⟨rfl, _, sq_of hz2⟩, .int pq.2, rfl, z, _, _, rfl, rfl, hz2, sz_lt (by decide), _, _, rfl, ?_⟩
                      refine ⟨Ex.mut (Ex.mut g2.ex w2.1) zH, ?_, ?_, ?_, g2.hF, g2.hA, g2.ne⟩
                      · rw [upd_ne zF.symm, upd_ne w2.2.1.symm]
                        exact g2.f
                      · rw [upd_ne zA.symm, upd_ne w2.2.2.symm]
                        exact g2.a
                      · rw [List.length_append]
                        refine g.w.new w1 hv hz ⟨zH, zF, zA⟩ (fun a o _ nd h => ?_) ?_ upd_same
                        · rw [upd_ne (ne_of_none h hz), upd_ne nd]
                          exact Ex.new hz _ _ h
                        · rw [upd_ne nzW.symm, upd_same]
                · rintro σ' Hd ⟨y8, y9, rfl, g⟩
                  have lxs := s3.len
                  rw [List.length_map] at lxs
                  rw [lxs, List.take_length] at g
                  exact tail _ _ ⟨_, _, rfl, g⟩
              · have ea : adds r (met ++ [r.n]) = [] := by
                  unfold adds
                  rw [if_neg (by rw [srt]; decide +kernel), if_neg (by rw [srt]; decide +kernel)]
                have ew : waits r (met ++ [r.n]) = [] := by
                  unfold waits
                  rw [if_neg (by rw [srt]; decide +kernel)]
                rw [ea, ew, List.append_nil, List.append_nil] at tail
                rw [srt] at tail ⊢
                refine ⟨_, rfl, rfl, _, rfl, ?_⟩
                dsimp only
                rw [decide_eq_false (by decide +kernel), if_neg Bool.false_ne_true]
                refine ⟨_, rfl, rfl, _, rfl, ?_⟩
                dsimp only
                rw [decide_eq_false (by decide +kernel), if_neg Bool.false_ne_true]
                exact tail _ _ ⟨_, _, rfl, h5⟩
            · rintro σ' Hd ⟨y8, y9, rfl, g⟩
              obtain ⟨kvs2, w1, w2, w3, w4, w5⟩ := id g.w
              refine ifS_of (test_of (din_of (v_of rfl (v_of rfl ⟨W, _, rfl, DGet.k (k := Sum.inl r.n) w1, _, rfl, ?_⟩))))
              rcases w4 r.n with ⟨z1, z2⟩ | ⟨q', z1, z2, z3⟩
              · rw [z1, if_neg (by decide)]
                refine ⟨m', l, _, _, _, _, _, _, _, _, rfl, ?_, i'⟩
                rw [z2, List.append_nil]
                exact g
              · rw [z1, if_pos (show (some (V.ref q')).isSome = true from rfl)]
                refine ⟨.ref A, rfl, .inl ⟨rfl, _, sq_of g.a⟩, .ref W, rfl, .int r.n, rfl, W, .ref q', rfl, (by rw [← z1]; exact DGet.k (k := Sum.inl r.n) w1), A, q', _, _, rfl, rfl, g.a, z3, ?_, ?_⟩
                · rw [List.length_map, List.length_map, sizeLine_eq, List.length_append]
                  omega
                · refine ⟨m', l, _, _, _, _, _, _, _, _, rfl, ?_, i'⟩
                  rw [← List.map_append]
                  exact g.setA _
end
end Sn
namespace Sn
open PySem PySem.Spec PyProof.Rows L2 Evl Gd
abbrev sAlive : Stmt := topS 5
abbrev nAlive : List Str := ["snapshot"]
theorem scAlive : FnScope nAlive ["snapshot"] (defScope sAlive) := ⟨rfl, rfl, rfl, by decide +kernel, rfl, by decide +kernel, by decide +kernel⟩
def spAlive (K : PySem.W.Frag) : Sp := fun vs H Q _ => ∃ (x : V) (s : Shot), vs = [x] ∧ Td K H x (dShot s) ∧ okShot s ∧
  ∀ (H' : Hp) (t : Addr) (ns : List Int), Ex H H' → H t = none → H' t = some (.tup (ns.map V.int)) → ns.Pairwise (· < ·) → (∀ n, n ∈ ns ↔ Live (arcsOf s) n) → ns.length ≤ 1000 → Q (.ref t) H'
theorem filter_none (as : List Arc) : (as.filter fun α => decide (α.tgt ∉ ([] : List Int))) = as := List.filter_eq_self.mpr fun _ _ => by simp
section
variable {P : Program} {w : World} {K : PySem.W.Frag} {mg : Str → Option Value} {base : Heap}
theorem ok_alive {f fN fM C : Addr} {fd fdN fdM : FuncData} (A : Df K mg "alive" sAlive ["snapshot"] f fd) (AN : Df K mg "net_of" sNetOf ["snapshot"] fN fdN) (AM : Mf K C "met" "Net.met" sMet ["self", "barred"] fM fdM) (N : NetD P w K mg base C)
    (mL : mg "len" = none) (mT : mg "tuple" = none) (mO : mg "sorted" = none) (mLi : mg "list" = none) : FnOk P w K mg base CX0 4 f fd ["snapshot"] (spAlive K) := by
  have GN : FnOk P w K mg base CX0 3 fN fdN ["snapshot"] (spNetOf K C) := ok_netof AN.F N
  have GM : FnOk P w K mg base CX0 3 fM fdM ["self", "barred"] (spMet K C) := (ok_met AM.F N.T mL).mono (by decide)
  refine A.F.ok scAlive (fun vs H Q E h => ?_) (fun cdv A' outer s H vs Q E hr h => ?_)
  · obtain ⟨x, s, rfl, _⟩ := h
    rfl
  · obtain ⟨x, s, rfl, ht, ok, q⟩ := h
    refine ⟨_, pss_one (ps_ret (pe_callTy call_tuple_of (by rfl) mT (by decide +kernel) (pa_cons (pe_callB cr_sortedI (by rfl) mO (by decide +kernel) (pa_cons (pe_callTy (call_list_dK rfl) (by rfl) mLi (by decide +kernel)
      (pa_cons (pe_meth (pe_call GN hr (by rfl) AN.g AN.F.kp AN.b .nil pass0 (pa_cons (pv 0) pa_nil)) N.T.cl AM.m GM hr AM.b .nil pass0 (pa_cons pe_dnewK pa_nil)) pa_nil)) pa_nil)) pa_nil))), ?_⟩
    refine ret_of (cb_of (c_of (cb_of (c_of (cb_of (c_of (meth_of (call_of (c_of (v_of rfl (n_of ⟨x, s, rfl, ht, ok, fun H1 p e1 hN => ?_⟩)))))))))))
    obtain ⟨dx, ra, rs, d, kvs, hp, _⟩ := id hN
    refine ⟨p, dx, _, rfl, hp, nf_no _ _ (by decide +kernel) (by decide +kernel), c_of (newK_of fun b hb => n_of ?_)⟩
    have e2 : Ex H1 (upd H1 b (.dK [])) := Ex.new hb
    refine ⟨p, b, netM s, [], [], rfl, hN.ex e2, ok.2.2, upd_same, fun n => rfl, fun H2 q2 met e3 hq hq2 nd2 iff ml => n_of ⟨q2, _, rfl, hq2, fun l2 hl2 => n_of ⟨l2, met, rfl, ?_, fun ns p perm srt hp => n_of ⟨p, _, rfl, .inl ⟨sq_of upd_same, fun t ht => ?_⟩⟩⟩⟩⟩
    · have e : ((kTrue met).map fun kv => kV kv.1) = met.map V.int := by
        rw [List.map_map]
        rfl
      rw [e]
      exact sq_of upd_same
    · have e4 := ((((e1.trans e2).trans e3).trans (Ex.new hl2)).trans (Ex.new hp)).trans (Ex.new (o := .tup (ns.map V.int)) ht)
      refine q _ t ns e4 (fresh_back ((((e1.trans e2).trans e3).trans (Ex.new hl2)).trans (Ex.new hp)) ht) upd_same (strict_of srt (perm.nodup_iff.mpr nd2)) (fun n => (perm.mem_iff).trans ?_) (by rw [perm.length_eq]; exact ml)
      rw [iff n, filter_none, net_arcs]
end
end Sn
namespace Sn
open PySem PySem.Spec PyProof.Rows L2 Evl Gd
abbrev sSource : Stmt := topS 7
abbrev sTake : Stmt := topS 8
abbrev sOf : Stmt := topS 9
abbrev nSource : List Str := ["_law_script", "_law_k", "_law_cell", "_law_own"]
abbrev nTake : List Str := ["_law_jar_here", "_law_many", "_law_digit", "_law_prime", "_law_mixed"]
abbrev nOf : List Str := ["_law_jar_here", "_law_some"]
theorem scSource : FnScope nSource ["_law_script", "_law_k"] (defScope sSource) := ⟨rfl, rfl, rfl, by decide +kernel, rfl, by decide +kernel, by decide +kernel⟩
theorem scTake : FnScope nTake ["_law_jar_here", "_law_many"] (defScope sTake) := ⟨rfl, rfl, rfl, by decide +kernel, rfl, by decide +kernel, by decide +kernel⟩
theorem scOf : FnScope nOf ["_law_jar_here", "_law_some"] (defScope sOf) := ⟨rfl, rfl, rfl, by decide +kernel, rfl, by decide +kernel, by decide +kernel⟩
def CPowW (i j : Int) : Prop := 0 ≤ j ∧ (Builtin.Int.intBits i : Int) * j ≤ bitsLine
theorem op_powW {X : Cx} : OpR X (binaryOp .Pow) (rI CPowW fun i j => .int (i ^ j.toNat)) := opI fun _ _ _ _ _ _ _ hc q => pow_int hc.1 hc.2 q
def big : Int := 1000000000000000000000000000000000000000000000000000000000000 ^ 4
/-- the pot of draws: at most n draws so far -/
def Pot (H : Hp) (d : Addr) (n : Int) : Prop := ∃ g b m : Int, H d = some (.lst [.int g, .int b, .int m]) ∧ 0 ≤ g ∧ g < big ∧ 0 ≤ b ∧ b < 2305843009213693952 ∧ 0 ≤ m ∧ m ≤ n
theorem Pot.up {H : Hp} {d : Addr} {n k : Int} (h : Pot H d n) (e : n ≤ k) : Pot H d k := by
  obtain ⟨g, b, m, h0, h1, h2, h3, h4, h5, h6⟩ := h
  exact ⟨g, b, m, h0, h1, h2, h3, h4, h5, by omega⟩
theorem Pot.ex {H H' : Hp} {d : Addr} {n : Int} (e : Evl.Ex H H') (h : Pot H d n) : Pot H' d n := by
  obtain ⟨g, b, m, h0, h⟩ := h
  exact ⟨g, b, m, e d _ h0, h⟩
/-- all but the pot stays -/
def Off (d : Addr) (H H' : Hp) : Prop := ∀ a o, a ≠ d → H a = some o → H' a = some o
theorem Off.refl (d : Addr) (H : Hp) : Off d H H := fun _ _ _ h => h
theorem Off.of {d : Addr} {H H' : Hp} (e : Evl.Ex H H') : Off d H H' := fun a o _ h => e a o h
theorem Off.trans {d : Addr} {H H1 H2 : Hp} (a : Off d H H1) (b : Off d H1 H2) : Off d H H2 := fun x o n h => b x o n (a x o n h)
theorem Off.upd {d : Addr} {H H' : Hp} {o : HO} (e : Off d H H') : Off d H (upd H' d o) := fun a u n h => by
  rw [upd_ne n]
  exact e a u n h
def spSource (K : PySem.W.Frag) : Sp := fun vs H Q _ => ∃ (a : Addr) (ns : List Int) (k : Int), vs = [.ref a, .int k] ∧ SqL K H a (ns.map V.int) ∧ ns.length ≤ 63 ∧ 0 ≤ k ∧ k ≤ 2 ∧
  ∀ H' d, Evl.Ex H H' → H d = none → Pot H' d 0 → Q (.ref d) H'
def spTake : Sp := fun vs H Q _ => ∃ (d : Addr) (n many : Int), vs = [.ref d, .int many] ∧ Pot H d n ∧ n ≤ 1000000 ∧ 0 < many ∧ many ≤ 1000000000000 ∧
  ∀ H' r, Off d H H' → Pot H' d (n + 1) → 0 ≤ r → r < many → Q (.int r) H'
section
variable {P : Program} {w : World} {K : PySem.W.Frag} {mg : Str → Option Value} {base : Heap}
theorem ok_source {f : Addr} {fd : FuncData} (F : Fun K "_law_jar" "_law_jar" sSource f fd) (mL : mg "len" = none) (mA : mg "abs" = none) (mI : mg "int" = none) : FnOk P w K mg base CX0 1 f fd ["_law_script", "_law_k"] (spSource K) := by
  refine F.ok scSource (fun vs H Q E h => ?_) (fun cdv A outer s H vs Q E hr h => ?_)
  · obtain ⟨a, ns, k, rfl, _⟩ := h
    rfl
  · obtain ⟨a, ns, k, rfl, hS, hz, h0, h2, q⟩ := h
    refine ⟨_, pss_cons (ps_set (i := 2) scSource.nd rfl (.inl rfl) (pe_ifExp (pt_cmpR op_lt (pv 1) (pe_callB call_len_seq (by rfl) mL PySem.boot_len (pa_cons (pv 0) pa_nil)) (nomark _)) (pe_ix ix_list (pv 0) (pv 1) (fun _ _ => rfl)) (pe_op op_add (pe_op op_mul pe_int (pv 1)) pe_int)))
      (pss_cons (ps_set (i := 3) scSource.nd rfl (.inl rfl) (pe_op op_mul (pe_op op_mod (pe_callB call_abs (by rfl) mA (by decide +kernel) (pa_cons (pv 2) pa_nil)) (pe_op op_powW (pe_op op_pow pe_int pe_int) pe_int))
          (pe_callTy call_int1 (by rfl) mI (by decide +kernel) (pa_cons (pe_cmpR op_ge (pe_callB call_abs (by rfl) mA (by decide +kernel) (pa_cons (pv 2) pa_nil)) (pe_op op_pow pe_int pe_int) (nomark _)) pa_nil))))
      (pss_one (ps_ret (pe_lst (pa_cons (pv 3) (pa_cons (pe_op op_mod (pe_op op_add (pe_op op_add (pe_op op_mul (pe_op op_mod (pv 2) pe_int) pe_int) (pe_op op_mul (pe_op op_mul pe_int (pv 1)) (pv 1))) pe_int) pe_int) (pa_cons pe_int pa_nil))))))), ?_⟩
    let c : Int := if h : k.toNat < ns.length then ns[k.toNat] else 43 * k + 16
    refine s_asg (i := 2) (v := .int c) (ev_if (et_test (ev_op (ev_var rfl) (ev_len (ev_var rfl) hS) rv_I0)) (fun hb => ?_) (fun hb => ?_)) fun H1 e1 => ?_
    · have hk : k < ((ns.map V.int).length : Int) := of_decide_eq_true hb
      rw [List.length_map] at hk
      have hk2 : k.toNat < ns.length := by omega
      refine ev_op (ev_var rfl) (ev_var rfl) (rv_ixL hS ?_)
      have e0 : k = ((k.toNat : Nat) : Int) := by omega
      rw [e0]
      refine atI_nat ?_
      rw [List.getElem?_map, List.getElem?_eq_getElem hk2]
      show some (V.int _) = some (V.int c)
      rw [show c = ns[k.toNat] from dif_pos hk2]
    · have hk : ¬ k < ((ns.map V.int).length : Int) := of_decide_eq_false hb
      rw [List.length_map] at hk
      rw [show c = 43 * k + 16 from dif_neg (by omega)]
      exact ev_op (ev_op ev_c (ev_var rfl) (rv_I (.inl ⟨by decide, by decide⟩))) ev_c rv_I0
    clear_value c
    have evAbs : ∀ H2 : Hp, Ev (tCB (fun xs H Q => ∃ i, xs = [V.int i] ∧ Q (.int (if i < 0 then -i else i)) H) (tCons (tVar 2) tNil)) ((L2.start nSource [V.ref a, V.int k]).set 2 (some (.int c))) H2 (.int (if c < 0 then -c else c)) :=
      fun H2 => ev_cb (ea_cons (ev_var rfl) ea_nil) fun H3 _ Q q => ⟨c, rfl, q H3 (Ex.refl H3)⟩
    let g : Int := (if c < 0 then -c else c) % big * (if decide ((10 : Int) ^ (18 : Int).toNat ≤ (if c < 0 then -c else c)) = true then 1 else 0)
    have hbig : (0 : Int) < big := by decide +kernel
    have hg : 0 ≤ g ∧ g < big := by
      have h1 := Int.emod_nonneg (if c < 0 then -c else c) (b := big) (by omega)
      have h2 := Int.emod_lt_of_pos (if c < 0 then -c else c) hbig
      show 0 ≤ _ * _ ∧ _ * _ < big
      generalize decide ((10 : Int) ^ (18 : Int).toNat ≤ (if c < 0 then -c else c)) = z
      cases z
      · rw [if_neg Bool.false_ne_true, Int.mul_zero]
        omega
      · rw [if_pos rfl, Int.mul_one]
        exact ⟨h1, h2⟩
    dsimp only
    refine st_seq (s_asg (i := 3) (v := .int g) (ev_op (ev_op (evAbs H1) (ev_op (ev_op ev_c ev_c (rv_I ⟨by decide, by decide, by decide⟩)) ev_c (rv_I ⟨by decide +kernel, by decide +kernel⟩)) (rv_I (by decide +kernel))) (ev_cb (ea_cons (ev_op (evAbs H1) (ev_op ev_c ev_c (rv_I ⟨by decide, by decide, by decide⟩)) rv_I0) ea_nil) fun H3 _ Q q => .inr ⟨_, rfl, q H3 (Ex.refl H3)⟩) (rv_I (.inr ?_))) fun H2 e2 => ?_)
    · generalize decide ((10 : Int) ^ (18 : Int).toNat ≤ (if c < 0 then -c else c)) = z
      cases z <;> decide
    clear_value g
    dsimp only
    let b : Int := (c % 2305843009213693951 * 59359 + 6703 * k * k + 67) % 2305843009213693921
    have hb1 := Int.emod_nonneg (c % 2305843009213693951 * 59359 + 6703 * k * k + 67) (b := 2305843009213693921) (by decide)
    have hb2 := Int.emod_lt_of_pos (c % 2305843009213693951 * 59359 + 6703 * k * k + 67) (b := 2305843009213693921) (by decide)
    refine s_retL (xs := [.int g, .int b, .int 0]) (el_lst (ea_cons (ev_var rfl) (ea_cons (ev_op (ev_op (ev_op (ev_op (ev_op (ev_var rfl) ev_c (rv_I (by decide))) ev_c (rv_I (.inr ⟨by decide, by decide⟩))) (ev_op (ev_op ev_c (ev_var rfl) (rv_I (.inl ⟨by decide, by decide⟩))) (ev_var rfl) (rv_I (.inr ⟨by omega, by omega⟩))) rv_I0) ev_c rv_I0) ev_c (rv_I (by decide))) (ea_cons ev_c ea_nil))) (by show 3 ≤ 100000; decide)) fun p H3 hp e3 h3 => ?_
    exact q H3 p ((e1.trans e2).trans e3) (fresh_back (e1.trans e2) hp) ⟨g, b, 0, h3, hg.1, hg.2, hb1, by omega, Int.le_refl 0, Int.le_refl 0⟩
theorem ok_take {f : Addr} {fd : FuncData} (F : Fun K "_law_take" "_law_take" sTake f fd) : FnOk P w K mg base CX0 1 f fd ["_law_jar_here", "_law_many"] spTake := by
  refine F.ok scTake (fun vs H Q E h => ?_) (fun cdv A outer s H vs Q E hr h => ?_)
  · obtain ⟨a, n, k, rfl, _⟩ := h
    rfl
  · obtain ⟨d, n, many, rfl, hP, hn, h0, h1, q⟩ := h
    refine ⟨_, pss_cons (ps_if (pt_cmpR op_gt (pe_ix ix_list (pv 0) pe_int (fun _ _ => rfl)) pe_int (nomark _))
        (pss_cons (ps_set (i := 2) scTake.nd rfl (.inl rfl) (pe_op op_mod (pe_ix ix_list (pv 0) pe_int (fun _ _ => rfl)) (pv 1)))
        (pss_cons (ps_asg (pe_op op_fdivW (pe_ix ix_list (pv 0) pe_int (fun _ _ => rfl)) (pv 1)) (pg_sub (pv 0) pe_int set_list))
        (pss_one (ps_ret (pv 2))))) pss_nil)
      (pss_cons (ps_asg (pe_op op_add (pe_ix ix_list (pv 0) pe_int (fun _ _ => rfl)) pe_int) (pg_sub (pv 0) pe_int set_list))
      (pss_cons (ps_set (i := 3) scTake.nd rfl (.inl rfl) (pe_ix ix_list (pe_lst (pa_cons pe_int (pa_cons pe_int (pa_cons pe_int (pa_cons pe_int (pa_cons pe_int pa_nil)))))) (pe_op op_mod (pe_ix ix_list (pv 0) pe_int (fun _ _ => rfl)) pe_int) (fun _ _ => rfl)))
      (pss_cons (ps_set (i := 4) scTake.nd rfl (.inl rfl) (pe_op op_mod (pe_op op_pow (pe_op op_add (pe_op op_add (pe_ix ix_list (pv 0) pe_int (fun _ _ => rfl)) (pe_op op_mul (pe_op op_mul pe_int (pe_ix ix_list (pv 0) pe_int (fun _ _ => rfl))) (pe_ix ix_list (pv 0) pe_int (fun _ _ => rfl)))) pe_int) pe_int) (pv 3)))
      (pss_one (ps_ret (pe_op op_mod (pe_op op_fdiv (pe_op op_mod (pe_op op_mul (pv 4) (pe_op op_add (pe_op op_mod (pv 4) pe_int) (pe_op op_mul pe_int (pe_ix ix_list (pv 0) pe_int (fun _ _ => rfl))))) pe_int) pe_int) (pv 1))))))), ?_⟩
    obtain ⟨g, b, m, hd, hg0, hg1, hb0, hb1, hm0, hm1⟩ := hP
    have at0 : ∀ x y z : Int, atI [V.int x, .int y, .int z] 0 = some (.int x) := fun x y z => atI_nat (j := 0) rfl
    have at1 : ∀ x y z : Int, atI [V.int x, .int y, .int z] 1 = some (.int y) := fun x y z => atI_nat (j := 1) rfl
    have at2 : ∀ x y z : Int, atI [V.int x, .int y, .int z] 2 = some (.int z) := fun x y z => atI_nat (j := 2) rfl
    refine s_if (b := decide (0 < g)) (et_test (ev_op (ev_op (ev_var rfl) ev_c (rv_ixL (sq_of hd) (at0 _ _ _))) ev_c rv_I0)) (fun hb H1 e1 => ?_) (fun hb H1 e1 => ?_)
    · have hg : 0 < g := of_decide_eq_true hb
      have d1 := e1 d _ hd
      refine st_seq (s_asg (i := 2) (v := .int (g % many)) (ev_op (ev_op (ev_var rfl) ev_c (rv_ixL (sq_of d1) (at0 _ _ _))) (ev_var rfl) (rv_I h0)) fun H2 e2 => ?_)
      have d2 := e2 d _ d1
      dsimp only
      have wd : CDivW g many := wide_div h0 (b := 64) (by omega) (by decide) (by decide)
      refine st_seq (s_setL (j := 0) d2 (ev_op (ev_op (ev_var rfl) ev_c (rv_ixL (sq_of d2) (at0 _ _ _))) (ev_var rfl) (rv_I wd)) (ev_var rfl) ev_c (show 0 < 3 by decide) fun H3 e3 => ?_)
      dsimp only
      refine s_ret (v := .int (g % many)) (ev_var rfl) fun H4 e4 => ?_
      have h5 : Off d H H3 := Off.of ((e1.trans e2).trans e3)
      have nn := Int.ediv_nonneg hg0 (show 0 ≤ many by omega)
      have le : g / many ≤ g := Int.ediv_le_self many hg0
      refine q H4 _ ((h5.upd).trans (Off.of e4)) ⟨g / many, b, m, e4 d _ upd_same, nn, by omega, hb0, hb1, hm0, by omega⟩ (Int.emod_nonneg _ (by omega)) (Int.emod_lt_of_pos _ h0)
    · have d1 := e1 d _ hd
      dsimp only [tNext]
      refine st_seq (s_setL (j := 2) d1 (ev_op (ev_op (ev_var rfl) ev_c (rv_ixL (sq_of d1) (at2 _ _ _))) ev_c rv_I0) (ev_var rfl) ev_c (show 2 < 3 by decide) fun H3 e3 => ?_)
      dsimp only
      have d3 : (upd H3 d (.lst ([V.int g, .int b, .int m].set 2 (.int (m + 1))))) d = some (.lst [V.int g, .int b, .int (m + 1)]) := upd_same
      have o3 : Off d H (upd H3 d (.lst ([V.int g, .int b, .int m].set 2 (.int (m + 1))))) := (Off.of (e1.trans e3)).upd
      generalize upd H3 d (.lst ([V.int g, .int b, .int m].set 2 (.int (m + 1)))) = H3' at d3 o3 ⊢
      have m0 : (0 : Int) ≤ m + 1 := by omega
      have hn4 : ∃ p : Int, atI [V.int 2147483647, .int 2147483629, .int 2147483587, .int 2147483579, .int 2147483563] ((m + 1) % 5) = some (.int p) ∧ 0 < p ∧ p < 2147483648 := by
        have l1 := Int.emod_nonneg (m + 1) (show (5 : Int) ≠ 0 by decide)
        have l2 := Int.emod_lt_of_pos (m + 1) (show (0 : Int) < 5 by decide)
        have cs : (m + 1) % 5 = 0 ∨ (m + 1) % 5 = 1 ∨ (m + 1) % 5 = 2 ∨ (m + 1) % 5 = 3 ∨ (m + 1) % 5 = 4 := by omega
        rcases cs with e | e | e | e | e <;> rw [e]
        · exact ⟨_, atI_nat (j := 0) rfl, by decide, by decide⟩
        · exact ⟨_, atI_nat (j := 1) rfl, by decide, by decide⟩
        · exact ⟨_, atI_nat (j := 2) rfl, by decide, by decide⟩
        · exact ⟨_, atI_nat (j := 3) rfl, by decide, by decide⟩
        · exact ⟨_, atI_nat (j := 4) rfl, by decide, by decide⟩
      obtain ⟨p, hp, p0, p1⟩ := hn4
      refine st_seq (s_asg (i := 3) (v := .int p) ?_ fun H4 e4 => ?_)
      · intro Ha ea Qa ka
        refine el_lst (ea_cons ev_c (ea_cons ev_c (ea_cons ev_c (ea_cons ev_c (ea_cons ev_c ea_nil))))) (by show 5 ≤ 100000; decide) Ha (Ex.refl Ha) _ fun l Hb _ eb hl => ?_
        have db := (ea.trans eb) d _ d3
        exact ⟨_, rfl, d, _, _, _, rfl, rfl, sq_of db, at2 _ _ _, m + 1, 5, rfl, rfl, (show (0 : Int) < 5 by decide), l, _, _, _, rfl, rfl, sq_of hl, hp, ka Hb eb⟩
      have d4 := e4 d _ d3
      dsimp only
      refine st_seq (s_asg (i := 4) (v := .int ((b + 77017 * (m + 1) * (m + 1) + 53) ^ (3 : Int).toNat % p)) (ev_op (ev_op (ev_op (ev_op (ev_op (ev_var rfl) ev_c (rv_ixL (sq_of d4) (at1 _ _ _))) (ev_op (ev_op ev_c (ev_op (ev_var rfl) ev_c (rv_ixL (sq_of d4) (at2 _ _ _))) (rv_I (.inl ⟨by decide, by decide⟩))) (ev_op (ev_var rfl) ev_c (rv_ixL (sq_of d4) (at2 _ _ _))) (rv_I (.inr ⟨by omega, by omega⟩))) rv_I0) ev_c rv_I0) ev_c (rv_I ⟨by decide, by decide, ?_⟩)) (ev_var rfl) (rv_I p0)) fun H5 e5 => ?_)
      · have t1 : (m + 1) * (m + 1) ≤ 1000001 * 1000001 := Int.mul_le_mul (by omega) (by omega) m0 (by decide)
        have t0 : 0 ≤ (m + 1) * (m + 1) := Int.mul_nonneg m0 m0
        have t2 : 77017 * (m + 1) * (m + 1) = 77017 * ((m + 1) * (m + 1)) := Int.mul_assoc _ _ _
        rw [t2]
        generalize (m + 1) * (m + 1) = z at t0 t1 ⊢
        omega
      generalize hy : (b + 77017 * (m + 1) * (m + 1) + 53) ^ (3 : Int).toNat % p = y
      have y0 : 0 ≤ y := by rw [← hy]; exact Int.emod_nonneg _ (by omega)
      have y1 : y < p := by rw [← hy]; exact Int.emod_lt_of_pos _ p0
      have d5 := e5 d _ d4
      dsimp only
      refine s_ret (v := .int (y * (y % 10039 + 73 * (m + 1)) % 2305843009213693907 / 101 % many)) (ev_op (ev_op (ev_op (ev_op (ev_var rfl) (ev_op (ev_op (ev_var rfl) ev_c (rv_I (by decide))) (ev_op ev_c (ev_op (ev_var rfl) ev_c (rv_ixL (sq_of d5) (at2 _ _ _))) (rv_I (.inl ⟨by decide, by decide⟩))) rv_I0) (rv_I (.inl ⟨by omega, by omega⟩))) ev_c (rv_I (by decide))) ev_c (rv_I ⟨by decide, by decide⟩)) (ev_var rfl) (rv_I h0)) fun H7 e7 => ?_
      have e47 := (e4.trans e5).trans e7
      exact q H7 _ (o3.trans (Off.of e47)) ⟨g, b, m + 1, e47 d _ d3, hg0, hg1, hb0, hb1, m0, by omega⟩ (Int.emod_nonneg _ (by omega)) (Int.emod_lt_of_pos _ h0)
theorem Pot.ne {H : Hp} {d p : Addr} {n : Int} (h : Pot H d n) (hp : H p = none) : p ≠ d := fun e => by
  obtain ⟨g, b, m, h0, _⟩ := h
  rw [e, h0] at hp
  cases hp
theorem rd_take {σ : L2.St} {H : Hp} {E : XK} {td tm : TE} {d : Addr} {n many : Int} {Q : VK} (hd : Ev td σ H (.ref d)) (hm : Ev tm σ H (.int many)) (hP : Pot H d n) (h1 : n ≤ 1000000) (h2 : 0 < many) (h3 : many ≤ 1000000000000)
    (k : ∀ H' r, Off d H H' → Pot H' d (n + 1) → 0 ≤ r → r < many → Q (.int r) H') : tCall spTake [] E (tCons td (tCons tm tNil)) σ H Q := by
  refine hd H (Ex.refl H) _ fun H1 e1 => hm H1 e1 _ fun H2 e2 => ?_
  exact ⟨d, n, many, rfl, hP.ex (e1.trans e2), h1, h2, h3, fun H' r o p a b => k H' r ((Off.of (e1.trans e2)).trans o) p a b⟩
/-- one of a list's items -/
def spOf : Sp := fun vs H Q _ => ∃ (d l : Addr) (n : Int) (xs : List V), vs = [.ref d, .ref l] ∧ Pot H d n ∧ n ≤ 1000000 ∧ l ≠ d ∧ H l = some (.lst xs) ∧ 0 < xs.length ∧ xs.length ≤ 1000 ∧
  ∀ H' x, x ∈ xs → Off d H H' → Pot H' d (n + 1) → Q x H'
theorem ok_of {f fT : Addr} {fd fdT : FuncData} (F : Fun K "_law_of" "_law_of" sOf f fd) (FT : Fun K "_law_take" "_law_take" sTake fT fdT) (bT : Binds K fdT ["_law_jar_here", "_law_many"] []) (gT : mg "_law_take" = some (.ref fT)) (mL : mg "len" = none) :
    FnOk P w K mg base CX0 2 f fd ["_law_jar_here", "_law_some"] spOf := by
  have GT : FnOk P w K mg base CX0 1 fT fdT ["_law_jar_here", "_law_many"] spTake := ok_take FT
  refine F.ok scOf (fun vs H Q E h => ?_) (fun cdv A outer s H vs Q E hr h => ?_)
  · obtain ⟨d, l, n, xs, rfl, _⟩ := h
    rfl
  · obtain ⟨d, l, n, xs, rfl, hP, hn, ne, hl, z0, z1, q⟩ := h
    refine ⟨_, pss_one (ps_ret (pe_ix ix_list (pv 1) (pe_call GT hr (by rfl) gT FT.kp bT .nil pass0 (pa_cons (pv 0) (pa_cons (pe_callB call_len_seq (by rfl) mL PySem.boot_len (pa_cons (pv 1) pa_nil)) pa_nil))) (fun _ _ => rfl))), ?_⟩
    refine ⟨_, rfl, ?_⟩
    refine rd_take (ev_var rfl) (ev_len (ev_var rfl) (sq_of hl)) hP hn (by omega) (by omega) fun H1 r o p r0 r1 => ?_
    obtain ⟨j, rfl⟩ : ∃ j : Nat, r = j := ⟨r.toNat, by omega⟩
    have jn : j < xs.length := by omega
    exact ⟨l, xs, j, _, rfl, rfl, sq_of (o l _ ne hl), atI_nat (List.getElem?_eq_getElem jn), q H1 _ (List.getElem_mem jn) o p⟩
end
end Sn
namespace Sn
open PySem PySem.Spec PyProof.Rows L2 Evl Gd
theorem Off.fresh {d D : Addr} {H H' : Hp} {o : HO} (e : Off d H H') (h : H D = none) : Off d H (L2.upd H' D o) := fun a u n ha => by
  rw [upd_ne (ne_of_none ha h)]
  exact e a u n ha
theorem Pot.updD {H : Hp} {d D : Addr} {n : Int} {o : HO} (h : Pot H d n) (ne : D ≠ d) : Pot (L2.upd H D o) d n := by
  obtain ⟨g, b, m, h0, h⟩ := h
  exact ⟨g, b, m, by rw [upd_ne ne.symm]; exact h0, h⟩
theorem keepOff {K : PySem.W.Frag} {H H' : Hp} {d : Addr} {n : Int} (p : Pot H d n) (o : Off d H H') : KeepT K H H' := by
  obtain ⟨g, b, m, h0, _⟩ := p
  exact .lst h0 o
section
variable {ta tr te tb : TE} {tt : TA} {ts tz : TS} {D : Ends} {g : TG} {σ : L2.St} {H : Hp} {Q : VK}
theorem rd_of {E : XK} {d : Addr} {n : Int} {td tl : TE} {xs : List V} (hd : Ev td σ H (.ref d)) (hP : Pot H d n) (hn : n ≤ 1000000) (ev : EvL tl σ H xs) (z0 : 0 < xs.length) (z1 : xs.length ≤ 1000) (k : ∀ H' x, x ∈ xs → Off d H H' → Pot H' d (n + 1) → Q x H') :
    tCall spOf [] E (tCons td (tCons tl tNil)) σ H Q := by
  refine hd H (Ex.refl H) _ fun H1 e1 => ev H1 e1 _ fun p H2 np e2 h2 => ?_
  have p1 := hP.ex e1
  exact ⟨d, p, n, xs, rfl, p1.ex e2, hn, p1.ne np, h2, z0, z1, fun H' x hx o pt => k H' x hx ((Off.of (e1.trans e2)).trans o) pt⟩
/-- of(jar, a list that stands) -/
theorem rd_ofV {E : XK} {d l : Addr} {n : Int} {td tl : TE} {xs : List V} (hd : Ev td σ H (.ref d)) (hl : Ev tl σ H (.ref l)) (hP : Pot H d n) (hn : n ≤ 1000000) (ne : l ≠ d) (hx : H l = some (.lst xs)) (z0 : 0 < xs.length) (z1 : xs.length ≤ 1000) (k : ∀ H' x, x ∈ xs → Off d H H' → Pot H' d (n + 1) → Q x H') :
    tCall spOf [] E (tCons td (tCons tl tNil)) σ H Q := by
  refine hd H (Ex.refl H) _ fun H1 e1 => hl H1 e1 _ fun H2 e2 => ?_
  exact ⟨d, l, n, xs, rfl, hP.ex (e1.trans e2), hn, ne, (e1.trans e2) _ _ hx, z0, z1, fun H' x hx o pt => k H' x hx ((Off.of (e1.trans e2)).trans o) pt⟩
/-- of(jar, [0, 0, 0, take(jar, 9)]) -/
theorem rd_of9 {E E' : XK} {d : Addr} {n : Int} (at0 : σ[0]? = some (some (.ref d))) (hP : Pot H d n) (hn : n ≤ 900000) (k : ∀ H' r, Off d H H' → Pot H' d (n + 2) → 0 ≤ r → r ≤ 8 → Q (.int r) H') :
    tCall spOf [] E (tCons (tVar 0) (tCons (tLst (tCons (tC (.int 0)) (tCons (tC (.int 0)) (tCons (tC (.int 0)) (tCons (tCall spTake [] E' (tCons (tVar 0) (tCons (tC (.int 9)) tNil))) tNil))))) tNil)) σ H Q := by
  refine call_of (c_of (v_of at0 (c_of (lst_of (c_of (k_of (c_of (k_of (c_of (k_of (c_of (rd_take (ev_var at0) ev_c hP (by omega) (by decide) (by decide) fun H1 r o1 p1 r0 r1 => n_of ⟨by show 4 ≤ sizeLine; decide, fun p hp => ?_⟩))))))))))))
  refine n_of ⟨d, p, n + 1, _, rfl, p1.updD (p1.ne hp), by omega, p1.ne hp, upd_same, by show 0 < 4; decide, by show 4 ≤ 1000; decide, fun H' x hx o pt => ?_⟩
  have fin : ∀ i, x = V.int i → 0 ≤ i → i ≤ 8 → Q x H' := fun i e i0 i8 => by
    rw [e]
    exact k H' i (o1.trans ((Off.of (Ex.new hp)).trans o)) (by rw [show n + 2 = n + 1 + 1 by omega]; exact pt) i0 i8
  rcases List.mem_cons.mp hx with e | hx
  · exact fin 0 e (by decide) (by decide)
  · rcases List.mem_cons.mp hx with e | hx
    · exact fin 0 e (by decide) (by decide)
    · rcases List.mem_cons.mp hx with e | hx
      · exact fin 0 e (by decide) (by decide)
      · rcases List.mem_cons.mp hx with e | hx
        · exact fin r e r0 (by omega)
        · cases hx
end
abbrev sFig : Stmt := topS 10
abbrev nFig : List Str := ["_law_jar_here", "_law_many", "_law_found", "_law_last", "_law_turn"]
theorem scFig : FnScope nFig ["_law_jar_here", "_law_many"] (defScope sFig) := ⟨rfl, rfl, rfl, by decide +kernel, rfl, by decide +kernel, by decide +kernel⟩
def spFig : Sp := fun vs H Q _ => ∃ (d : Addr) (n m : Int), vs = [.ref d, .int m] ∧ Pot H d n ∧ n ≤ 800000 ∧ 0 ≤ m ∧ m ≤ 10 ∧
  ∀ (H' : Hp) (l : Addr) (ns : List Int), Off d H H' → Pot H' d (n + 30) → l ≠ d → H l = none → H' l = some (.lst (ns.map V.int)) → (ns.length : Int) = m → (∀ i ∈ ns, 0 ≤ i ∧ i ≤ 200) → ns.Pairwise (· < ·) → Q (.ref l) H'
section
variable {P : Program} {w : World} {K : PySem.W.Frag} {mg : Str → Option Value} {base : Heap}
theorem ok_fig {f fT fO : Addr} {fd fdT fdO : FuncData} (F : Fun K "_law_figures" "_law_figures" sFig f fd) (FT : Fun K "_law_take" "_law_take" sTake fT fdT) (FO : Fun K "_law_of" "_law_of" sOf fO fdO) (bT : Binds K fdT ["_law_jar_here", "_law_many"] []) (bO : Binds K fdO ["_law_jar_here", "_law_some"] [])
    (gT : mg "_law_take" = some (.ref fT)) (gO : mg "_law_of" = some (.ref fO)) (mL : mg "len" = none) (mR : mg "range" = none) : FnOk P w K mg base CX0 3 f fd ["_law_jar_here", "_law_many"] spFig := by
  have GT : FnOk P w K mg base CX0 2 fT fdT ["_law_jar_here", "_law_many"] spTake := (ok_take FT).mono (by decide)
  have GO : FnOk P w K mg base CX0 2 fO fdO ["_law_jar_here", "_law_some"] spOf := ok_of FO FT bT gT mL
  refine F.ok scFig (fun vs H Q E h => ?_) (fun cdv A outer s H vs Q E hr h => ?_)
  · obtain ⟨d, n, m, rfl, _⟩ := h
    rfl
  · obtain ⟨d, n, m, rfl, pot, hn, m0, m10, q⟩ := h
    refine ⟨_, pss_cons (ps_par (i := 2) (j := 3) rfl scFig.nd rfl rfl (by decide) rfl rfl (pa_cons (pe_lst pa_nil) (pa_cons (pe_op op_sub (pe_call GT hr (by rfl) gT FT.kp bT .nil pass0 (pa_cons (pv 0) (pa_cons pe_int pa_nil))) pe_int) pa_nil)) (by rfl))
      (pss_cons (ps_for PassesOwn.never rfl (pi_range1 (by rfl) mR (pa_cons (pv 1) pa_nil)) (pg_name (i := 4) scFig.nd rfl (.inl rfl))
        (pss_cons (ps_set (i := 3) scFig.nd rfl (.inl rfl) (pe_op op_add (pe_op op_add (pv 3) pe_int) (pe_call GO hr (by rfl) gO FO.kp bO .nil pass0 (pa_cons (pv 0) (pa_cons (pe_lst (pa_cons pe_int (pa_cons pe_int (pa_cons pe_int (pa_cons (pe_call GT hr (by rfl) gT FT.kp bT .nil pass0 (pa_cons (pv 0) (pa_cons pe_int pa_nil))) pa_nil))))) pa_nil)))))
        (pss_one (ps_expr (pe_bm PySem.F.plainAttrs_list PySem.F.slot_list_append PySem.F.type_list_append mt_append (pv 2) (pa_cons (pv 3) pa_nil))))))
      (pss_one (ps_ret (pv 2)))), ?_⟩
    refine seq_of (par_of (c_of (lst_of (n_of ⟨Nat.zero_le _, fun l hl => ?_⟩))))
    have nld := pot.ne hl
    refine c_of (op_of (rd_take (ev_var rfl) ev_c (pot.updD nld) (by omega) (by decide) (by decide) fun H2 r o2 p2 r0 r1 => ?_))
    refine ⟨r, 1, rfl, rfl, _, _, rfl, ?_⟩
    have oH : Off d H H2 := (Off.of (Ex.new hl)).trans o2
    have l2 : H2 l = some (.lst []) := o2 l _ nld upd_same
    refine ⟨.int m, rfl, m, rfl, by omega, by omega, for_range (lo := 0) (n := m.toNat) (fun i σ' H' => ∃ y4 last ns, σ' = [some (.ref d), some (.int m), some (.ref l), some (.int last), y4] ∧ Off d H H' ∧ Pot H' d (n + 1 + 2 * (i : Int)) ∧ H' l = some (.lst (ns.map V.int)) ∧ ns.length = i ∧ -1 ≤ last ∧ last ≤ 1 + 9 * (i : Int) ∧ (∀ x ∈ ns, 0 ≤ x ∧ x ≤ last) ∧ ns.Pairwise (· < ·))
      ⟨none, r - 1, [], rfl, oH, p2.up (by omega), l2, rfl, by omega, by omega, fun x h => absurd h List.not_mem_nil, .nil⟩ ?_ ?_⟩
    · rintro i σ' H' hi ⟨y4, last, ns, rfl, o, p, hl', len, b0, b1, hb, asc⟩
      have i10 : (i : Int) < 10 := by omega
      dsimp only [gName]
      refine seq_of (asg_of (op_of ?_))
      refine ⟨.int last, rfl, last, 1, rfl, rfl, ?_⟩
      refine rd_of9 rfl p (by omega) fun H3 x o3 p3 x0 x8 => ?_
      refine ⟨_, _, rfl, rfl, ?_⟩
      have l3 := o3 l _ nld hl'
      refine ⟨.ref l, rfl, .inl ⟨rfl, _, sq_of l3⟩, .int (last + 1 + x), rfl, l, _, _, rfl, rfl, l3, sz_lt (by rw [List.length_map]; omega), ?_⟩
      refine ⟨_, last + 1 + x, ns ++ [last + 1 + x], rfl, (o.trans o3).fresh hl, (p3.updD nld).up (by push_cast; omega), ?_, ?_, by omega, by push_cast; omega, ?_, ?_⟩
      · rw [upd_same, List.map_append]
        rfl
      · rw [List.length_append, len]
        rfl
      · intro y hy
        rcases List.mem_append.mp hy with h | h
        · have := hb y h
          omega
        · rw [List.mem_singleton.mp h]
          omega
      · rw [List.pairwise_append]
        refine ⟨asc, List.pairwise_singleton _ _, fun a ha b hb' => ?_⟩
        rw [List.mem_singleton.mp hb']
        have := hb a ha
        omega
    · rintro σ' H' ⟨y4, last, ns, rfl, o, p, hl', len, b0, b1, hb, asc⟩
      refine ⟨.ref l, rfl, q H' l ns o (p.up (by omega)) nld hl hl' (by omega) (fun i hi => ?_) asc⟩
      have := hb i hi
      omega
end
end Sn
namespace Sn
open PySem PySem.Spec PyProof.Rows L2 Evl Gd
/-- all but lists stays -/
def KeepN (H H' : Hp) : Prop := ∀ a o, (∀ xs, o ≠ .lst xs) → H a = some o → H' a = some o
theorem KeepN.t {K : PySem.W.Frag} {H H' : Hp} (k : KeepN H H') : KeepT K H H' := by
  intro a xs h
  rcases h with (h | ⟨o, h⟩) | h
  · exact .inl (.inl (k _ _ (fun _ z => nomatch z) h))
  · exact .inl (.inr ⟨o, k _ _ (fun _ z => nomatch z) h⟩)
  · exact .inr h
theorem KeepN.lst {H H' : Hp} {p : Addr} {zs : List V} (hp : H p = some (.lst zs)) (e : ∀ a o, a ≠ p → H a = some o → H' a = some o) : KeepN H H' := fun a o no h => e a o (fun q => by
  rw [q, hp] at h
  exact no _ (Option.some.inj h).symm) h
theorem KeepN.of {H H' : Hp} (e : ∀ a o, H a = some o → H' a = some o) : KeepN H H' := fun a o _ h => e a o h
theorem KeepN.off {H H' : Hp} {d : Addr} {n : Int} (p : Pot H d n) (o : Off d H H') : KeepN H H' := by
  obtain ⟨g, b, m, h0, _⟩ := p
  exact .lst h0 o
theorem KeepN.trans {H H' H2 : Hp} (a : KeepN H H') (b : KeepN H' H2) : KeepN H H2 := fun x o n h => b x o n (a x o n h)
/-- a comprehension whose turns draw from the jar: R says what is made -/
theorem lcj {K : PySem.W.Frag} {J : It} {N : Nat} {G : Hp → Prop} {Y : Nat → Hp → V → Hp → Prop} (wk : Walk J N G Y) (at' : Nat → Option V) {t : TT} {te : TE} {vs : List Nat} {σ : L2.St} {H1 : Hp} {D d : Addr} {n c : Int} {j : Nat} {Qd : Hp → Prop} (R : Nat → List V → Hp → Prop)
    (hG : ∀ H, Off d H1 H → G H) (hY : ∀ i H x H', Y i H x H' → H' = H ∧ at' i = some x) (hD : H1 D = none) (pot : Pot H1 d n) (c0 : 0 ≤ c) (hN : N ≤ 1000)
    (R0 : ∀ H, R 0 [] H) (Rl : ∀ i ys H, R i ys H → ys.length ≤ i) (Rk : ∀ i ys H H', KeepN H H' → R i ys H → R i ys H') (hw : ∀ x, wipe ((wipe σ vs).set j (some x)) vs = wipe σ vs)
    (turn : ∀ i x ys H, i < N → at' i = some x → Off d H1 H → Pot H d (n + c * (i : Int)) → R i ys H → ∀ (k1 : V → Hp → Prop) (k0 : Hp → Prop), (∀ y H4, Off d H H4 → Pot H4 d (n + c * ((i + 1 : Nat) : Int)) → R (i + 1) (ys ++ [y]) H4 → k1 y H4) → (∀ H3, Off d H H3 → Pot H3 d (n + c * ((i + 1 : Nat) : Int)) → R (i + 1) ys H3 → k0 H3) →
      t ((wipe σ vs).set j (some x)) H fun b H3 => if b = true then te ((wipe σ vs).set j (some x)) H3 k1 else k0 H3)
    (hd : ∀ H' ys, Off d H1 H' → Pot H' d (n + c * (N : Int)) → H' D = some (.lst ys) → R N ys H' → Qd H') :
    ∃ W : Nat → Nat → Hp → Prop, (∃ m, W 0 m (L2.upd H1 D (.lst []))) ∧ ∀ i m H, W i m H →
      (J.stop i H ∧ Qd H) ∨ (J.go i H ∧ ∃ Nx : Hp → Prop, (∀ H', Nx H' → ∃ m', m' < m ∧ W (i + 1) m' H') ∧ ∀ x H', J.yld i H x H' → gName j x (wipe σ vs) H' fun σ2 H2 => wipe σ2 vs = wipe σ vs ∧ t σ2 H2 fun b H3 =>
        if b = true then te σ2 H3 fun y H4 => ∃ acc, H4 D = some (.lst acc) ∧ acc.length < sizeLine ∧ Nx (L2.upd H4 D (.lst (acc ++ [y]))) else Nx H3) := by
  have nD : D ≠ d := pot.ne hD
  refine lc_it wk (fun i H' => Off d H1 H' ∧ Pot H' d (n + c * (i : Int)) ∧ ∃ ys, H' D = some (.lst ys) ∧ R i ys H') ⟨(Off.refl d H1).fresh hD, (pot.updD nD).up (by simp), [], upd_same, R0 _⟩ (fun i H _ p => hG H p.1) ?_ ?_
  · rintro i x H H' hi ⟨o, p, ys, hD', r⟩ y
    obtain ⟨rfl, hx⟩ := hY i H x H' y
    refine ⟨hw x, turn i x ys H' hi hx o p r _ _ (fun y H4 o4 p4 r4 => ?_) fun H3 o3 p3 r3 => ?_⟩
    · have hD4 := o4 D _ nD hD'
      have len := Rl i ys H' r
      refine ⟨ys, hD4, sz_lt (by omega), (o.trans o4).fresh hD, p4.updD nD, _, upd_same, Rk _ _ _ _ (.lst hD4 fun a o n h => by
        rw [upd_ne n]
        exact h) r4⟩
    · exact ⟨o.trans o3, p3, ys, o3 D _ nD hD', r3⟩
  · rintro H' ⟨o, p, ys, hD', r⟩
    exact hd H' ys o p hD' r
def partInts : Part → List Int
  | .tgt n => [n]
  | .pair k none => [k]
  | .pair k (some v) => [k, v]
def Small (ps : List Part) : Prop := ∀ p ∈ ps, ∀ i ∈ partInts p, 0 ≤ i ∧ i ≤ 200
def InFs (fs : List Int) (ps : List Part) : Prop := ∀ k v, Part.pair k (some v) ∈ ps → v ∈ fs
def SmallIn (fs : List Int) (ps : List Part) : Prop := ∀ p ∈ ps, (∀ i ∈ partInts p, 0 ≤ i ∧ i ≤ 200) ∧ ∀ k v, p = .pair k (some v) → v ∈ fs
def keyOf : Part → Option Int
  | .pair k _ => some k
  | .tgt _ => none
def OkParts (shape : Str) (ps : List Part) : Prop := ps.length ≤ 10 ∧ Small ps ∧ ((shape = "record" ∧ ∀ p ∈ ps, ∃ k v, p = .pair k (some v)) ∨ (shape = "map" ∧ ∀ p ∈ ps, ∃ k v, p = .pair k v) ∨ (shape = "weak" ∧ ∀ p ∈ ps, ∃ n, p = .tgt n)) ∧ (ps.filterMap keyOf).Pairwise (· < ·)
abbrev sParts : Stmt := topS 11
abbrev nParts : List Str := ["_law_jar_here", "_law_shape", "_law_figures_here", "_law_often", "_law_keys", "_law_slots", "_law_one", "_law_key", "_law_slot"]
theorem scParts : FnScope nParts ["_law_jar_here", "_law_shape", "_law_figures_here", "_law_often"] (defScope sParts) := ⟨rfl, rfl, rfl, by decide +kernel, rfl, by decide +kernel, by decide +kernel⟩
def spParts (K : PySem.W.Frag) : Sp := fun vs H Q _ => ∃ (d l : Addr) (n often : Int) (shape : Str) (fs : List Int), vs = [.ref d, .str shape, .ref l, .int often] ∧ Pot H d n ∧ n ≤ 800000 ∧ l ≠ d ∧ H l = some (.lst (fs.map V.int)) ∧ 0 < fs.length ∧ fs.length ≤ 10 ∧ (∀ i ∈ fs, 0 ≤ i ∧ i ≤ 200) ∧ fs.Pairwise (· < ·) ∧ 0 < often ∧ often ≤ 100 ∧ (shape = "record" ∨ shape = "map" ∨ shape = "weak") ∧
  ∀ (H' : Hp) (x : V) (ps : List Part), Off d H H' → Pot H' d (n + 40) → Td K H' x (.tuple (ps.map dPart)) → OkParts shape ps → InFs fs ps → Q x H'
section
variable {K : PySem.W.Frag} {σ : L2.St} {H : Hp} {d : Addr} {n : Int}
/-- take(jar, often) == 0 -/
theorem et_take0 {E : XK} {td tm : TE} {many : Int} {k : Bool → Hp → Prop} (hd : Ev td σ H (.ref d)) (hm : Ev tm σ H (.int many)) (pot : Pot H d n) (hn : n ≤ 1000000) (m0 : 0 < many) (m1 : many ≤ 1000000) (h : ∀ b H', Off d H H' → Pot H' d (n + 1) → k b H') : tTest (tOp rEq (tCall spTake [] E (tCons td (tCons tm tNil))) (tC (.int 0))) σ H k :=
  test_of (op_of (rd_take hd hm pot hn m0 (by omega) fun H1 r o p _ _ => ⟨rfl, _, rfl, h _ H1 o p⟩))
end
theorem sub_snoc {α : Type} {l m : List α} {x : α} (h : l.Sublist m) : (l ++ [x]).Sublist (m ++ [x]) := List.Sublist.append h (List.Sublist.refl _)
theorem sub_more {α : Type} {l m : List α} {x : α} (h : l.Sublist m) : l.Sublist (m ++ [x]) := h.trans (List.sublist_append_left _ _)
section
variable {P : Program} {w : World} {K : PySem.W.Frag} {mg : Str → Option Value} {base : Heap}
theorem ok_parts {f fT fO : Addr} {fd fdT fdO : FuncData} (F : Fun K "_law_parts" "_law_parts" sParts f fd) (FT : Fun K "_law_take" "_law_take" sTake fT fdT) (FO : Fun K "_law_of" "_law_of" sOf fO fdO) (bT : Binds K fdT ["_law_jar_here", "_law_many"] []) (bO : Binds K fdO ["_law_jar_here", "_law_some"] [])
    (gT : mg "_law_take" = some (.ref fT)) (gO : mg "_law_of" = some (.ref fO)) (mL : mg "len" = none) (mR : mg "range" = none) (mT : mg "tuple" = none) : FnOk P w K mg base CX0 3 f fd ["_law_jar_here", "_law_shape", "_law_figures_here", "_law_often"] (spParts K) := by
  have GT : FnOk P w K mg base CX0 2 fT fdT ["_law_jar_here", "_law_many"] spTake := (ok_take FT).mono (by decide)
  have GO : FnOk P w K mg base CX0 2 fO fdO ["_law_jar_here", "_law_some"] spOf := ok_of FO FT bT gT mL
  refine F.ok scParts (fun vs H Q E h => ?_) (fun cdv A outer s H vs Q E hr h => ?_)
  · obtain ⟨d, l, n, often, shape, fs, rfl, _⟩ := h
    rfl
  · obtain ⟨d, l, n, often, shape, fs, rfl, pot, hn, nld, hl, f0, f10, fb, fasc, of0, of1, hsh, q⟩ := h
    refine ⟨_, pss_cons (ps_if (pt_cmpR op_eq (pv 1) pe_str (nomark _))
        (pss_one (ps_ret (pe_ifExp (pt_cmpR op_eq (pe_call GT hr (by rfl) gT FT.kp bT .nil pass0 (pa_cons (pv 0) (pa_cons pe_int pa_nil))) pe_int (nomark _)) (pe_tup (pa_cons (pe_call GO hr (by rfl) gO FO.kp bO .nil pass0 (pa_cons (pv 0) (pa_cons (pv 2) pa_nil))) pa_nil)) (pe_tup pa_nil)))) pss_nil)
      (pss_cons (ps_if (pt_cmpR op_eq (pv 1) pe_str (nomark _))
        (pss_cons (ps_setLc (i := 4) (own := [("_law_one", 6)]) (g := gName 6) (tt := tTest (tOp rEq (tCall spTake [] E0 (tCons (tVar 0) (tCons (tVar 3) tNil))) (tC (.int 0)))) (te := tVar 6) rfl scParts.nd rfl rfl (sw_true rfl rfl rfl (by decide +kernel)) (pi_list (pv 2)) (blkOk_by (N := nParts) (sc := defScope sParts) (by decide +kernel))
          (fun _ _ _ _ _ => pg_name (i := 6) scParts.nd rfl (.inl rfl)) (fun _ _ _ _ _ => pts_one (pt_cmpR op_eq (pe_call GT hr (by rfl) gT FT.kp bT .nil pass0 (pa_cons (pv 0) (pa_cons (pv 3) pa_nil))) pe_int (nomark _))) (fun _ _ _ _ _ => pv 6))
        (pss_one (ps_ret (pe_callTy call_tuple_of (by rfl) mT (by decide +kernel) (pa_cons (pe_lc (own := [("_law_key", 7)]) (g := gName 7) (tt := tYes) (te := tTup (tCons (tVar 7) (tCons (tIf (tTest (tOp rEq (tCall spTake [] E0 (tCons (tVar 0) (tCons (tC (.int 5)) tNil))) (tC (.int 0)))) (tC .non) (tCall spOf [] E0 (tCons (tVar 0) (tCons (tVar 2) tNil)))) tNil))) rfl scParts.nd (pi_list (pv 4)) (blkOk_by (N := nParts) (sc := defScope sParts) (by decide +kernel))
          (fun _ _ _ _ _ => pg_name (i := 7) scParts.nd rfl (.inl rfl)) (fun _ _ _ _ _ => pts_nil) (fun _ _ _ _ _ => pe_tup (pa_cons (pv 7) (pa_cons (pe_ifExp (pt_cmpR op_eq (pe_call GT hr (by rfl) gT FT.kp bT .nil pass0 (pa_cons (pv 0) (pa_cons pe_int pa_nil))) pe_int (nomark _)) pe_non (pe_call GO hr (by rfl) gO FO.kp bO .nil pass0 (pa_cons (pv 0) (pa_cons (pv 2) pa_nil)))) pa_nil)))) pa_nil))))) pss_nil)
      (pss_cons (ps_setLc (i := 5) (own := [("_law_slot", 8)]) (g := gName 8) (tt := tTest (tOp rEq (tCall spTake [] E0 (tCons (tVar 0) (tCons (tVar 3) tNil))) (tC (.int 0)))) (te := tVar 8) rfl scParts.nd rfl rfl (sw_true rfl rfl rfl (by decide +kernel)) (pi_range1 (by rfl) mR (pa_cons pe_int pa_nil)) (blkOk_by (N := nParts) (sc := defScope sParts) (by decide +kernel))
          (fun _ _ _ _ _ => pg_name (i := 8) scParts.nd rfl (.inl rfl)) (fun _ _ _ _ _ => pts_one (pt_cmpR op_eq (pe_call GT hr (by rfl) gT FT.kp bT .nil pass0 (pa_cons (pv 0) (pa_cons (pv 3) pa_nil))) pe_int (nomark _))) (fun _ _ _ _ _ => pv 8))
      (pss_one (ps_ret (pe_callTy call_tuple_of (by rfl) mT (by decide +kernel) (pa_cons (pe_lc (own := [("_law_slot", 8)]) (g := gName 8) (tt := tYes) (te := tTup (tCons (tVar 8) (tCons (tCall spOf [] E0 (tCons (tVar 0) (tCons (tVar 2) tNil))) tNil))) rfl scParts.nd (pi_list (pv 5)) (blkOk_by (N := nParts) (sc := defScope sParts) (by decide +kernel))
          (fun _ _ _ _ _ => pg_name (i := 8) scParts.nd rfl (.inl rfl)) (fun _ _ _ _ _ => pts_nil) (fun _ _ _ _ _ => pe_tup (pa_cons (pv 8) (pa_cons (pe_call GO hr (by rfl) gO FO.kp bO .nil pass0 (pa_cons (pv 0) (pa_cons (pv 2) pa_nil))) pa_nil)))) pa_nil)))))), ?_⟩
    have one_of : ∀ {x : V}, x ∈ fs.map V.int → ∃ k, k ∈ fs ∧ x = .int k := fun h => by
      obtain ⟨k, hk, e⟩ := List.mem_map.mp h
      exact ⟨k, hk, e.symm⟩
    have fl0 : 0 < (fs.map V.int).length := by rw [List.length_map]; exact f0
    have fl1 : (fs.map V.int).length ≤ 1000 := by rw [List.length_map]; omega
    refine ⟨.str shape, rfl, rfl, _, rfl, ?_⟩
    dsimp only
    rcases hsh with rfl | rfl | rfl
    · -- a record
      rw [decide_eq_false (by decide +kernel), if_neg Bool.false_ne_true]
      refine ⟨_, rfl, rfl, _, rfl, ?_⟩
      dsimp only
      rw [decide_eq_false (by decide +kernel), if_neg Bool.false_ne_true]
      dsimp only [tNext]
      refine seq_of (asg_of ⟨6, rfl, by decide, by decide, fun Dk hDk => lcj (K := K) (walk_range (lo := 0) (n := 6)) (fun i => some (.int (0 + (i : Int)))) (n := n) (c := 1) (fun i ys _ => ∃ ks : List Int, ys = ks.map V.int ∧ (∀ k ∈ ks, 0 ≤ k ∧ k < (i : Int)) ∧ ks.Pairwise (· < ·) ∧ ks.length ≤ i)
        (fun _ _ => trivial) (fun i H x H' y => ⟨y.1, by rw [y.2]⟩) hDk pot (by decide) (by decide) (fun _ => ⟨[], rfl, fun _ h => absurd h List.not_mem_nil, .nil, Nat.le_refl _⟩) (fun i ys H r => ?_) (fun i ys H H' _ r => r) (fun x => rfl) ?_ ?_⟩)
      · obtain ⟨ks, rfl, _, _, h⟩ := r
        rw [List.length_map]
        exact h
      · rintro i x ys H' hi hx o p ⟨ks, rfl, kb, ka, kl⟩ k1 k0 h1 h0
        cases hx
        refine et_take0 (ev_var rfl) (ev_var rfl) p (by omega) of0 (by omega) fun b H3 o3 p3 => ?_
        cases b with
        | false => exact h0 H3 o3 (p3.up (by push_cast; omega)) ⟨ks, rfl, fun k hk => by have := kb k hk; push_cast; omega, ka, by omega⟩
        | true =>
          refine v_of rfl (h1 _ H3 o3 (p3.up (by push_cast; omega)) ⟨ks ++ [0 + (i : Int)], by rw [List.map_append]; rfl, fun k hk => ?_, ?_, by rw [List.length_append, List.length_singleton]; omega⟩)
          · rcases List.mem_append.mp hk with h | h
            · have := kb k h
              push_cast
              omega
            · rw [List.mem_singleton.mp h]
              push_cast
              omega
          · rw [List.pairwise_append]
            refine ⟨ka, List.pairwise_singleton _ _, fun a ha b hb => ?_⟩
            rw [List.mem_singleton.mp hb]
            have := kb a ha
            omega
      · rintro H2 ys o2 p2 hD2 ⟨ks, rfl, kb, ka, kl⟩
        have l2 := o2 l _ nld hl
        dsimp only
        refine ret_of (cb_of (c_of ?_))
        refine ⟨.ref Dk, rfl, Dk, rfl, ⟨_, sq_of hD2⟩, fun Dp hDp => lcj (K := K) (walk_list (K := K) (a := Dk) (xs := ks.map V.int)) (fun i => (ks.map V.int)[i]?) (n := n + 6) (c := 1) (fun i ys H' => ∃ ps, TdAll K H' ys (ps.map dPart) ∧ ps.length ≤ i ∧ SmallIn fs ps ∧ (∀ p ∈ ps, ∃ k v, p = .pair k (some v)) ∧ ps.filterMap keyOf = ks.take i)
          (fun H' o => sq_of (o Dk _ (pot.ne hDk) hD2)) (fun i H x H' y => y) hDp (p2.up (by omega)) (by decide) (by rw [List.length_map]; omega) (fun _ => ⟨[], .nil, Nat.le_refl _, fun _ h => absurd h List.not_mem_nil, fun _ h => absurd h List.not_mem_nil, rfl⟩) (fun i ys H r => ?_) (fun i ys H H' kk r => ?_) (fun x => rfl) ?_ ?_⟩
        · obtain ⟨ps, t, h, _⟩ := r
          rw [t.len, List.length_map]
          exact h
        · obtain ⟨ps, t, h⟩ := r
          exact ⟨ps, t.keep kk.t, h⟩
        · rintro i x ys H' hi hx o p ⟨ps, t, pl, sm, pr, ke⟩ k1 k0 h1 h0
          rw [List.length_map] at hi
          obtain ⟨k, hk, rfl⟩ := at_map hx
          have kr := kb k (List.mem_of_getElem? hk)
          dsimp only [tYes]
          rw [if_pos rfl]
          refine tup_of (c_of (v_of rfl (c_of (rd_ofV (ev_var rfl) (ev_var rfl) p (by omega) nld (o l _ nld l2) fl0 fl1 fun H3 x hx o3 p3 => n_of ⟨by show 2 ≤ sizeLine; decide, fun a ha => ?_⟩))))
          obtain ⟨v, hv, rfl⟩ := one_of hx
          have vr := fb v hv
          refine h1 _ _ (o3.trans (Off.of (Ex.new ha))) ((p3.updD (p3.ne ha)).up (by push_cast; omega)) ⟨ps ++ [.pair k (some v)], ?_, by rw [List.length_append, List.length_singleton]; omega, ?_, ?_, ?_⟩
          · rw [List.map_append]
            exact ((t.keep (keepOff p o3)).ex (Ex.new ha)).snoc (.tup (st_of upd_same) (.cons (.int k) (.cons (.int v) .nil)))
          · intro z hz
            rcases List.mem_append.mp hz with h | h
            · exact sm z h
            · rw [List.mem_singleton.mp h]
              refine ⟨fun j hj => ?_, fun k' v' e => ?_⟩
              · rcases List.mem_cons.mp hj with e | h
                · rw [e]
                  omega
                · rw [List.mem_singleton.mp h]
                  exact vr
              · cases e
                exact hv
          · intro z hz
            rcases List.mem_append.mp hz with h | h
            · exact pr z h
            · exact ⟨k, v, List.mem_singleton.mp h⟩
          · rw [List.filterMap_append, ke, take_one hk]
            rfl
        · rintro H5 ys o5 p5 hD5 ⟨ps, t, pl, sm, pr, ke⟩
          rw [List.length_map] at ke pl p5
          rw [List.take_length] at ke
          refine n_of ⟨Dp, ys, rfl, .inl ⟨sq_of hD5, fun a ha => ?_⟩⟩
          refine q _ (.ref a) ps ((o2.trans o5).trans (Off.of (Ex.new ha))) ((p5.updD (p5.ne ha)).up (by omega)) (.tup (st_of upd_same) (t.ex (Ex.new ha))) ⟨by omega, fun p hp => (sm p hp).1, .inl ⟨rfl, pr⟩, by rw [ke]; exact ka⟩ (fun k v hm => (sm _ hm).2 k v rfl)
    · -- a map
      rw [decide_eq_false (by decide +kernel), if_neg Bool.false_ne_true]
      refine ⟨_, rfl, rfl, _, rfl, ?_⟩
      dsimp only
      rw [decide_eq_true rfl, if_pos rfl]
      refine seq_of (asg_of ⟨.ref l, rfl, l, rfl, ⟨_, sq_of hl⟩, fun Dk hDk => lcj (K := K) (walk_list (K := K) (a := l) (xs := fs.map V.int)) (fun i => (fs.map V.int)[i]?) (n := n) (c := 1) (fun i ys _ => ∃ ks : List Int, ys = ks.map V.int ∧ ks.Sublist (fs.take i))
        (fun H' o => sq_of (o l _ nld hl)) (fun i H x H' y => y) hDk pot (by decide) fl1 (fun _ => ⟨[], rfl, List.nil_sublist _⟩) (fun i ys H r => ?_) (fun i ys H H' _ r => r) (fun x => rfl) ?_ ?_⟩)
      · obtain ⟨ks, rfl, h⟩ := r
        have := h.length_le
        rw [List.length_take] at this
        rw [List.length_map]
        omega
      · rintro i x ys H' hi hx o p ⟨ks, rfl, sub⟩ k1 k0 h1 h0
        rw [List.length_map] at hi
        obtain ⟨k, hk, rfl⟩ := at_map hx
        refine et_take0 (ev_var rfl) (ev_var rfl) p (by omega) of0 (by omega) fun b H3 o3 p3 => ?_
        cases b with
        | false => exact h0 H3 o3 (p3.up (by push_cast; omega)) ⟨ks, rfl, by rw [take_one hk]; exact sub_more sub⟩
        | true => exact v_of rfl (h1 _ H3 o3 (p3.up (by push_cast; omega)) ⟨ks ++ [k], by rw [List.map_append]; rfl, by rw [take_one hk]; exact sub_snoc sub⟩)
      · rintro H2 ys o2 p2 hD2 ⟨ks, rfl, sub⟩
        rw [List.length_map] at sub p2
        rw [List.take_length] at sub
        have kl := sub.length_le
        have l2 := o2 l _ nld hl
        dsimp only
        refine ret_of (cb_of (c_of ?_))
        refine ⟨.ref Dk, rfl, Dk, rfl, ⟨_, sq_of hD2⟩, fun Dp hDp => lcj (K := K) (walk_list (K := K) (a := Dk) (xs := ks.map V.int)) (fun i => (ks.map V.int)[i]?) (n := n + 10) (c := 2) (fun i ys H' => ∃ ps, TdAll K H' ys (ps.map dPart) ∧ ps.length ≤ i ∧ SmallIn fs ps ∧ (∀ p ∈ ps, ∃ k v, p = .pair k v) ∧ ps.filterMap keyOf = ks.take i)
          (fun H' o => sq_of (o Dk _ (pot.ne hDk) hD2)) (fun i H x H' y => y) hDp (p2.up (by omega)) (by decide) (by rw [List.length_map]; omega) (fun _ => ⟨[], .nil, Nat.le_refl _, fun _ h => absurd h List.not_mem_nil, fun _ h => absurd h List.not_mem_nil, rfl⟩) (fun i ys H r => ?_) (fun i ys H H' kk r => ?_) (fun x => rfl) ?_ ?_⟩
        · obtain ⟨ps, t, h, _⟩ := r
          rw [t.len, List.length_map]
          exact h
        · obtain ⟨ps, t, h⟩ := r
          exact ⟨ps, t.keep kk.t, h⟩
        · rintro i x ys H' hi hx o p ⟨ps, t, pl, sm, pr, ke⟩ k1 k0 h1 h0
          rw [List.length_map] at hi
          obtain ⟨k, hk, rfl⟩ := at_map hx
          have kr := fb k (sub.mem (List.mem_of_getElem? hk))
          have kn : ps.filterMap keyOf ++ [k] = ks.take (i + 1) := by rw [ke, take_one hk]
          dsimp only [tYes]
          rw [if_pos rfl]
          refine tup_of (c_of (v_of rfl (c_of (if_of (et_take0 (ev_var rfl) ev_c p (by omega) (by decide) (by decide) fun b H3 o3 p3 => ?_)))))
          cases b with
          | true =>
            rw [if_pos rfl]
            refine k_of (n_of ?_)
            refine ⟨by show 2 ≤ sizeLine; decide, fun a ha => ?_⟩
            refine h1 _ _ (o3.trans (Off.of (Ex.new ha))) ((p3.updD (p3.ne ha)).up (by push_cast; omega)) ⟨ps ++ [.pair k none], ?_, by rw [List.length_append, List.length_singleton]; omega, ?_, ?_, ?_⟩
            · rw [List.map_append]
              exact ((t.keep (keepOff p o3)).ex (Ex.new ha)).snoc (.tup (st_of upd_same) (.cons (.int k) (.cons .non .nil)))
            · intro z hz
              rcases List.mem_append.mp hz with h | h
              · exact sm z h
              · rw [List.mem_singleton.mp h]
                refine ⟨fun j hj => ?_, fun k' v' e => nomatch e⟩
                rw [List.mem_singleton.mp hj]
                exact kr
            · intro z hz
              rcases List.mem_append.mp hz with h | h
              · exact pr z h
              · exact ⟨k, none, List.mem_singleton.mp h⟩
            · rw [List.filterMap_append]
              exact kn
          | false =>
            rw [if_neg Bool.false_ne_true]
            refine rd_ofV (ev_var rfl) (ev_var rfl) p3 (by omega) nld ((o.trans o3) l _ nld l2) fl0 fl1 fun H4 x hx o4 p4 => n_of ⟨by show 2 ≤ sizeLine; decide, fun a ha => ?_⟩
            obtain ⟨v, hv, rfl⟩ := one_of hx
            have vr := fb v hv
            refine h1 _ _ ((o3.trans o4).trans (Off.of (Ex.new ha))) ((p4.updD (p4.ne ha)).up (by push_cast; omega)) ⟨ps ++ [.pair k (some v)], ?_, by rw [List.length_append, List.length_singleton]; omega, ?_, ?_, ?_⟩
            · rw [List.map_append]
              exact ((t.keep (keepOff p (o3.trans o4))).ex (Ex.new ha)).snoc (.tup (st_of upd_same) (.cons (.int k) (.cons (.int v) .nil)))
            · intro z hz
              rcases List.mem_append.mp hz with h | h
              · exact sm z h
              · rw [List.mem_singleton.mp h]
                refine ⟨fun j hj => ?_, fun k' v' e => ?_⟩
                · rcases List.mem_cons.mp hj with e | h
                  · rw [e]
                    exact kr
                  · rw [List.mem_singleton.mp h]
                    exact vr
                · cases e
                  exact hv
            · intro z hz
              rcases List.mem_append.mp hz with h | h
              · exact pr z h
              · exact ⟨k, some v, List.mem_singleton.mp h⟩
            · rw [List.filterMap_append]
              exact kn
        · rintro H5 ys o5 p5 hD5 ⟨ps, t, pl, sm, pr, ke⟩
          rw [List.length_map] at ke pl p5
          rw [List.take_length] at ke
          refine n_of ⟨Dp, ys, rfl, .inl ⟨sq_of hD5, fun a ha => ?_⟩⟩
          refine q _ (.ref a) ps ((o2.trans o5).trans (Off.of (Ex.new ha))) ((p5.updD (p5.ne ha)).up (by omega)) (.tup (st_of upd_same) (t.ex (Ex.new ha))) ⟨by omega, fun p hp => (sm p hp).1, .inr (.inl ⟨rfl, pr⟩), by rw [ke]; exact fasc.sublist sub⟩ (fun k v hm => (sm _ hm).2 k v rfl)
    · -- a weak object
      rw [decide_eq_true rfl, if_pos rfl]
      refine ret_of (if_of (et_take0 (ev_var rfl) ev_c pot (by omega) (by decide) (by decide) fun b H1 o1 p1 => ?_))
      cases b with
      | false =>
        rw [if_neg Bool.false_ne_true]
        refine tup_of (n_of ?_)
        refine ⟨by show 0 ≤ sizeLine; decide, fun a ha => ?_⟩
        exact q _ (.ref a) [] (o1.trans (Off.of (Ex.new ha))) ((p1.updD (p1.ne ha)).up (by omega)) (.tup (st_of upd_same) .nil) ⟨by decide, fun _ h => absurd h List.not_mem_nil, .inr (.inr ⟨rfl, fun _ h => absurd h List.not_mem_nil⟩), .nil⟩ (fun _ _ h => absurd h List.not_mem_nil)
      | true =>
        rw [if_pos rfl]
        refine tup_of (c_of (rd_ofV (ev_var rfl) (ev_var rfl) p1 (by omega) nld (o1 l _ nld hl) fl0 fl1 fun H3 x hx o3 p3 => n_of ⟨by show 1 ≤ sizeLine; decide, fun a ha => ?_⟩))
        obtain ⟨v, hv, rfl⟩ := one_of hx
        refine q _ (.ref a) [.tgt v] ((o1.trans o3).trans (Off.of (Ex.new ha))) ((p3.updD (p3.ne ha)).up (by omega)) (.tup (st_of upd_same) (.cons (.int v) .nil)) ⟨by show 1 ≤ 10; decide, fun z hz j hj => ?_, .inr (.inr ⟨rfl, fun z hz => ⟨v, List.mem_singleton.mp hz⟩⟩), .nil⟩ (fun k' v' h => nomatch List.mem_singleton.mp h)
        rw [List.mem_singleton.mp hz] at hj
        rw [List.mem_singleton.mp hj]
        exact fb v hv
end
end Sn
namespace Sn
open PySem PySem.Spec PyProof.Rows L2 Evl Gd
/-- pairs (text, int) as new tuples -/
def RIn (H : Hp) (ys : List V) (rs : List (Str × Int)) : Prop := ∃ zs : List (Addr × Str × Int), ys = zs.map (fun z => V.ref z.1) ∧ rs = zs.map (·.2) ∧ ∀ z ∈ zs, H z.1 = some (.tup [.str z.2.1, .int z.2.2])
theorem RIn.keep {H H' : Hp} {ys : List V} {rs : List (Str × Int)} (k : KeepN H H') (h : RIn H ys rs) : RIn H' ys rs := by
  obtain ⟨zs, e1, e2, e3⟩ := h
  exact ⟨zs, e1, e2, fun z hz => k _ _ (fun _ q => nomatch q) (e3 z hz)⟩
theorem RIn.nil {H : Hp} : RIn H [] [] := ⟨[], rfl, rfl, fun _ h => absurd h List.not_mem_nil⟩
theorem RIn.len {H : Hp} {ys : List V} {rs : List (Str × Int)} (h : RIn H ys rs) : ys.length = rs.length := by
  obtain ⟨zs, e1, e2, e3⟩ := h
  rw [e1, e2, List.length_map, List.length_map]
theorem RIn.app {H : Hp} {ys ys' : List V} {rs rs' : List (Str × Int)} (h : RIn H ys rs) (g : RIn H ys' rs') : RIn H (ys ++ ys') (rs ++ rs') := by
  obtain ⟨zs, e1, e2, e3⟩ := h
  obtain ⟨ws, f1, f2, f3⟩ := g
  refine ⟨zs ++ ws, by rw [e1, f1, List.map_append], by rw [e2, f2, List.map_append], fun z hz => ?_⟩
  rcases List.mem_append.mp hz with h | h
  · exact e3 z h
  · exact f3 z h
theorem RIn.one {H : Hp} {p : Addr} {r : Str × Int} (h : H p = some (.tup [.str r.1, .int r.2])) : RIn H [.ref p] [r] := ⟨[(p, r)], rfl, rfl, fun z hz => by
  rw [List.mem_singleton.mp hz]
  exact h⟩
/-- the pair that lies there -/
def kr (H : Hp) (x : V) : Str × Int :=
  match x with
  | .ref t => (match H t with | some (.tup [.str z, .int i]) => (z, i) | _ => ("", 0))
  | _ => ("", 0)
theorem kr_eq {H : Hp} {t : Addr} {z : Str} {i : Int} (h : H t = some (.tup [.str z, .int i])) : kr H (.ref t) = (z, i) := by
  show (match H t with | some (.tup [.str z, .int i]) => (z, i) | _ => ("", 0)) = (z, i)
  rw [h]
theorem RIn.at {H : Hp} {ys : List V} {rs : List (Str × Int)} (h : RIn H ys rs) : ∀ y ∈ ys, ∃ t, y = V.ref t ∧ H t = some (.tup [.str (kr H y).1, .int (kr H y).2]) := by
  obtain ⟨zs, rfl, rfl, e3⟩ := h
  intro y hy
  obtain ⟨z, hz, rfl⟩ := List.mem_map.mp hy
  have e := e3 z hz
  refine ⟨z.1, rfl, ?_⟩
  rw [kr_eq e]
  exact e
theorem RIn.kr {H : Hp} {ys : List V} {rs : List (Str × Int)} (h : RIn H ys rs) : ys.map (kr H) = rs := by
  obtain ⟨zs, rfl, rfl, e3⟩ := h
  rw [List.map_map]
  refine List.map_congr_left fun z hz => ?_
  exact kr_eq (e3 z hz)
abbrev rKey (r : Str × Int) : List Key := [.inr r.1, .inl r.2]
theorem td_roots {K : PySem.W.Frag} {H : Hp} : ∀ {ys : List V}, (∀ y ∈ ys, ∃ t, y = V.ref t ∧ H t = some (.tup [.str (kr H y).1, .int (kr H y).2])) → TdAll K H ys ((ys.map (kr H)).map dRoot)
  | [], _ => .nil
  | y :: ys, h => by
    obtain ⟨t, rfl, ht⟩ := h y List.mem_cons_self
    exact .cons (.tup (st_of ht) (.cons (.str _) (.cons (.int _) .nil))) (td_roots fun z hz => h z (List.mem_cons_of_mem _ hz))
/-- sorted(a list of pairs) -/
theorem rd_sortR {K : PySem.W.Frag} {σ : L2.St} {H : Hp} {tl : TE} {a : Addr} {xs : List V} {rs : List (Str × Int)} {Q : VK} (hl : Ev tl σ H (.ref a)) (hx : H a = some (.lst xs)) (hr : RIn H xs rs)
    (k : ∀ (p : Addr) (H2 : Hp) (ys : List V) (rs' : List (Str × Int)), H p = none → Ex H H2 → H2 p = some (.lst ys) → TdAll K H2 ys (rs'.map dRoot) → rs'.Perm rs → rs'.Pairwise (fun r q => ksLt (rKey q) (rKey r) = false) → Q (.ref p) H2) : tCB (rSortedK K) (tCons tl tNil) σ H Q := by
  refine hl H (Ex.refl H) _ fun H1 e1 => ?_
  have hr1 := hr.keep (.of e1)
  have at1 := hr1.at
  refine ⟨a, xs, fun x => rKey (kr H1 x), rfl, sq_of (e1 _ _ hx), fun x hx => ?_, fun x _ y _ => ?_, fun ys p srt stb hp => ?_⟩
  · obtain ⟨t, e, ht⟩ := at1 x hx
    exact ⟨t, (kr H1 x).1, [.inl (kr H1 x).2], e, rfl, ht⟩
  · exact ⟨fun _ => ⟨fun _ => trivial, fun _ => rfl⟩, fun _ => rfl⟩
  · have e2 : Ex H1 (L2.upd H1 p (.lst ys)) := Ex.new hp
    have aty : ∀ y ∈ ys, ∃ t, y = V.ref t ∧ H1 t = some (.tup [.str (kr H1 y).1, .int (kr H1 y).2]) := fun y hy => at1 y (stb.perm.mem_iff.mp hy)
    refine k p _ ys (ys.map (kr H1)) (fresh_back e1 hp) (e1.trans e2) upd_same ((td_roots aty).ex e2) ?_ ?_
    · rw [← hr1.kr]
      exact stb.perm.map _
    · exact List.pairwise_map.mpr srt
def names4 : List Str := ["a", "Top", "xy", "zzzzzzzz"]
def words3 : List Str := ["pin", "hold", "queue"]
/-- the text of a root that is no name -/
abbrev gripT (w : Str) (i : Int) : Str := (w ++ (" " : Str)) ++ ((toString i : String) : Str)
def RootOk (r : Str × Int) : Prop := (r.1 ∈ names4 ∨ ∃ w ∈ words3, r.1 = gripT w r.2) ∧ 0 ≤ r.2 ∧ r.2 ≤ 200
abbrev sAnch : Stmt := topS 12
abbrev nAnch : List Str := ["_law_jar_here", "_law_figures_here", "_law_found", "_law_word", "_law_some", "_law_name", "_law_one"]
theorem scAnch : FnScope nAnch ["_law_jar_here", "_law_figures_here"] (defScope sAnch) := ⟨rfl, rfl, rfl, by decide +kernel, rfl, by decide +kernel, by decide +kernel⟩
/-- the drawn roots ahead of sorting: names, then one row a word -/
structure Found (fs : List Int) (A : List (Str × Int)) (W : List (Str × List Int)) : Prop where
  nm : (A.map (·.1)).Sublist names4
  nv : ∀ r ∈ A, r.2 ∈ fs
  gr : ∀ z ∈ W, z.2.Sublist fs
def gripsOf (W : List (Str × List Int)) : List (Str × Int) := W.flatMap fun z => z.2.map fun i => (gripT z.1 i, i)
def spAnch (K : PySem.W.Frag) : Sp := fun vs H Q _ => ∃ (d l : Addr) (n : Int) (fs : List Int), vs = [.ref d, .ref l] ∧ Pot H d n ∧ n ≤ 800000 ∧ l ≠ d ∧ H l = some (.lst (fs.map V.int)) ∧ 0 < fs.length ∧ fs.length ≤ 10 ∧ (∀ i ∈ fs, 0 ≤ i ∧ i ≤ 200) ∧
  ∀ (H' : Hp) (x : V) (rs A : List (Str × Int)) (W : List (Str × List Int)), Off d H H' → Pot H' d (n + 50) → Td K H' x (.tuple (rs.map dRoot)) → rs.Perm (A ++ gripsOf W) → rs.Pairwise (fun r q => ksLt (rKey q) (rKey r) = false) → Found fs A W → W.map (·.1) = words3 → Q x H'
section
variable {P : Program} {w : World} {K : PySem.W.Frag} {mg : Str → Option Value} {base : Heap}
theorem ok_anch {f fT fO : Addr} {fd fdT fdO : FuncData} (F : Fun K "_law_anchors" "_law_anchors" sAnch f fd) (FT : Fun K "_law_take" "_law_take" sTake fT fdT) (FO : Fun K "_law_of" "_law_of" sOf fO fdO) (bT : Binds K fdT ["_law_jar_here", "_law_many"] []) (bO : Binds K fdO ["_law_jar_here", "_law_some"] [])
    (gT : mg "_law_take" = some (.ref fT)) (gO : mg "_law_of" = some (.ref fO)) (mL : mg "len" = none) (mS : mg "str" = none) (mT : mg "tuple" = none) (mO : mg "sorted" = none) : FnOk P w K mg base CX0 3 f fd ["_law_jar_here", "_law_figures_here"] (spAnch K) := by
  have GT : FnOk P w K mg base CX0 2 fT fdT ["_law_jar_here", "_law_many"] spTake := (ok_take FT).mono (by decide)
  have GO : FnOk P w K mg base CX0 2 fO fdO ["_law_jar_here", "_law_some"] spOf := ok_of FO FT bT gT mL
  refine F.ok scAnch (fun vs H Q E h => ?_) (fun cdv A outer s H vs Q E hr h => ?_)
  · obtain ⟨d, l, n, fs, rfl, _⟩ := h
    rfl
  · obtain ⟨d, l, n, fs, rfl, pot, hn, nld, hl, f0, f10, fb, q⟩ := h
    refine ⟨_, pss_cons (ps_setLc (i := 2) (own := [("_law_name", 5)]) (g := gName 5) (tt := tTest (tOp rEq (tCall spTake [] E0 (tCons (tVar 0) (tCons (tC (.int 3)) tNil))) (tC (.int 0)))) (te := tTup (tCons (tVar 5) (tCons (tCall spOf [] E0 (tCons (tVar 0) (tCons (tVar 1) tNil))) tNil))) rfl scAnch.nd rfl rfl (sw_true rfl rfl rfl (by decide +kernel)) (pi_tup (pe_tup (pa_cons pe_str (pa_cons pe_str (pa_cons pe_str (pa_cons pe_str pa_nil)))))) (blkOk_by (N := nAnch) (sc := defScope sAnch) (by decide +kernel))
          (fun _ _ _ _ _ => pg_name (i := 5) scAnch.nd rfl (.inl rfl)) (fun _ _ _ _ _ => pts_one (pt_cmpR op_eq (pe_call GT hr (by rfl) gT FT.kp bT .nil pass0 (pa_cons (pv 0) (pa_cons pe_int pa_nil))) pe_int (nomark _))) (fun _ _ _ _ _ => pe_tup (pa_cons (pv 5) (pa_cons (pe_call GO hr (by rfl) gO FO.kp bO .nil pass0 (pa_cons (pv 0) (pa_cons (pv 1) pa_nil))) pa_nil))))
      (pss_cons (ps_for PassesOwn.never rfl (pi_tup (pe_tup (pa_cons pe_str (pa_cons pe_str (pa_cons pe_str pa_nil))))) (pg_name (i := 3) scAnch.nd rfl (.inr rfl))
        (pss_cons (ps_setLc (i := 4) (own := [("_law_one", 6)]) (g := gName 6) (tt := tTest (tOp rEq (tCall spTake [] E0 (tCons (tVar 0) (tCons (tC (.int 7)) tNil))) (tC (.int 0)))) (te := tVar 6) rfl scAnch.nd rfl rfl (sw_true rfl rfl rfl (by decide +kernel)) (pi_list (pv 1)) (blkOk_by (N := nAnch) (sc := defScope sAnch) (by decide +kernel))
          (fun _ _ _ _ _ => pg_name (i := 6) scAnch.nd rfl (.inl rfl)) (fun _ _ _ _ _ => pts_one (pt_cmpR op_eq (pe_call GT hr (by rfl) gT FT.kp bT .nil pass0 (pa_cons (pv 0) (pa_cons pe_int pa_nil))) pe_int (nomark _))) (fun _ _ _ _ _ => pv 6))
        (pss_one (ps_expr (pe_bm PySem.F.plainAttrs_list PySem.F.slot_list_extend PySem.F.type_list_extend mt_extend (pv 2) (pa_cons (pe_lc (own := [("_law_one", 6)]) (g := gName 6) (tt := tYes) rfl scAnch.nd (pi_list (pv 4)) (blkOk_by (N := nAnch) (sc := defScope sAnch) (by decide +kernel))
          (fun _ _ _ _ _ => pg_name (i := 6) scAnch.nd rfl (.inl rfl)) (fun _ _ _ _ _ => pts_nil) (fun _ _ _ _ _ => pe_tup (pa_cons (pe_op op_add_str (pe_op op_add_str (pv 3) pe_str) (pe_callTy call_str_int (by rfl) mS (by decide +kernel) (pa_cons (pv 6) pa_nil))) (pa_cons (pv 6) pa_nil)))) pa_nil))))))
      (pss_one (ps_ret (pe_ifExp (pt_cmpR (op_neD hr.units) (pv 1) (pe_lst pa_nil) (nomark _)) (pe_callTy call_tuple_of (by rfl) mT (by decide +kernel) (pa_cons (pe_callB cr_sortedK (by rfl) mO (by decide +kernel) (pa_cons (pv 2) pa_nil)) pa_nil)) (pe_tup pa_nil))))), ?_⟩
    have one_of : ∀ {x : V}, x ∈ fs.map V.int → ∃ k, k ∈ fs ∧ x = .int k := fun h => by
      obtain ⟨k, hk, e⟩ := List.mem_map.mp h
      exact ⟨k, hk, e.symm⟩
    have fl0 : 0 < (fs.map V.int).length := by rw [List.length_map]; exact f0
    have fl1 : (fs.map V.int).length ≤ 1000 := by rw [List.length_map]; omega
    have str_at : ∀ {l : List Str} {i : Nat} {x : V}, (l.map V.str)[i]? = some x → ∃ k, l[i]? = some k ∧ x = .str k := by
      intro l i x h
      rw [List.getElem?_map] at h
      cases e : l[i]? with
      | none =>
        rw [e] at h
        cases h
      | some k =>
        rw [e] at h
        exact ⟨k, rfl, (Option.some.inj h).symm⟩
    refine seq_of (asg_of ?_)
    refine ⟨by show 4 ≤ sizeLine; decide, fun tp htp => ?_⟩
    have e1 : Ex H (upd H tp (.tup [V.str "a", V.str "Top", V.str "xy", V.str "zzzzzzzz"])) := Ex.new htp
    have t1 : (upd H tp (.tup [V.str "a", V.str "Top", V.str "xy", V.str "zzzzzzzz"])) tp = some (.tup (names4.map V.str)) := upd_same
    have ntd := pot.ne htp
    have pot1 : Pot (upd H tp (.tup [V.str "a", V.str "Top", V.str "xy", V.str "zzzzzzzz"])) d n := pot.updD ntd
    dsimp only
    generalize upd H tp (.tup [V.str "a", V.str "Top", V.str "xy", V.str "zzzzzzzz"]) = H1 at e1 t1 pot1 ⊢
    have o1 : Off d H H1 := Off.of e1
    refine ⟨tp, rfl, ⟨_, st_of t1⟩, fun D hD => lcj (K := K) (walk_tup (K := K) (a := tp) (xs := names4.map V.str)) (fun i => (names4.map V.str)[i]?) (n := n) (c := 2) (fun i ys H' => ∃ A, RIn H' ys A ∧ A.length ≤ i ∧ (A.map (·.1)).Sublist (names4.take i) ∧ ∀ r ∈ A, r.2 ∈ fs)
      (fun H' o => st_of (o tp _ ntd t1)) (fun i H x H' y => y) hD pot1 (by decide) (by show 4 ≤ 1000; decide) (fun _ => ⟨[], .nil, Nat.le_refl _, List.nil_sublist _, fun _ h => absurd h List.not_mem_nil⟩) (fun i ys H r => ?_) (fun i ys H H' kk r => ?_) (fun x => rfl) ?_ ?_⟩
    · obtain ⟨A, h, h2, _⟩ := r
      rw [h.len]
      exact h2
    · obtain ⟨A, h, h2⟩ := r
      exact ⟨A, h.keep kk, h2⟩
    · rintro i x ys H' hi hx o p ⟨A, rin, al, sub, av⟩ k1 k0 h1 h0
      obtain ⟨z, hz, rfl⟩ := str_at hx
      have i4 : i < 4 := hi
      refine et_take0 (ev_var rfl) ev_c p (by omega) (by decide) (by decide) fun b H3 o3 p3 => ?_
      cases b with
      | false =>
        rw [if_neg Bool.false_ne_true]
        exact h0 H3 o3 (p3.up (by push_cast; omega)) ⟨A, rin.keep (.off p o3), by omega, by rw [take_one hz]; exact sub_more sub, av⟩
      | true =>
        rw [if_pos rfl]
        refine tup_of (c_of (v_of rfl (c_of (rd_ofV (ev_var rfl) (ev_var rfl) p3 (by omega) nld ((o.trans o3) l _ nld (o1 l _ nld hl)) fl0 fl1 fun H4 x hx o4 p4 => n_of ⟨by show 2 ≤ sizeLine; decide, fun a ha => ?_⟩))))
        obtain ⟨v, hv, rfl⟩ := one_of hx
        refine h1 _ _ ((o3.trans o4).trans (Off.of (Ex.new ha))) ((p4.updD (p4.ne ha)).up (by push_cast; omega)) ⟨A ++ [(z, v)], (rin.keep ((KeepN.off p (o3.trans o4)).trans (.of (Ex.new ha)))).app (.one (r := (z, v)) upd_same), by rw [List.length_append, List.length_singleton]; omega, ?_, fun r hr => ?_⟩
        · rw [List.map_append, take_one hz]
          exact sub_snoc sub
        · rcases List.mem_append.mp hr with h | h
          · exact av r h
          · rw [List.mem_singleton.mp h]
            exact hv
    · rintro H2 ys2 o2 p2 hD2 ⟨A, rin, al, sub, av⟩
      rw [List.length_map] at sub p2 al
      rw [List.take_length] at sub
      have o02 := o1.trans o2
      have nDd : D ≠ d := pot1.ne hD
      refine ⟨by show 3 ≤ sizeLine; decide, fun tw htw => ?_⟩
      have e3 : Ex H2 (upd H2 tw (.tup [V.str "pin", V.str "hold", V.str "queue"])) := Ex.new htw
      have t3 : (upd H2 tw (.tup [V.str "pin", V.str "hold", V.str "queue"])) tw = some (.tup (words3.map V.str)) := upd_same
      have nwd := p2.ne htw
      have pot3 : Pot (upd H2 tw (.tup [V.str "pin", V.str "hold", V.str "queue"])) d (n + 8) := (p2.updD nwd).up (by show n + 2 * ((4 : Nat) : Int) ≤ n + 8; omega)
      generalize upd H2 tw (.tup [V.str "pin", V.str "hold", V.str "queue"]) = H3 at e3 t3 pot3 ⊢
      have nDw : D ≠ tw := ne_of_none hD2 htw
      have o3 : Off d H2 H3 := Off.of e3
      refine ⟨tw, rfl, ⟨_, st_of t3⟩, for_tup (K := K) (a := tw) (xs := words3.map V.str) (fun i σ' H' => ∃ y3 y4 W, σ' = [some (.ref d), some (.ref l), some (.ref D), y3, y4, none, none] ∧ Off d H H' ∧ Pot H' d (n + 8 + 10 * (i : Int)) ∧ H' tw = some (.tup (words3.map V.str)) ∧ (∃ ys, H' D = some (.lst ys) ∧ ys.length ≤ 4 + 10 * i ∧ RIn H' ys (A ++ gripsOf W)) ∧ W.map (·.1) = words3.take i ∧ ∀ z ∈ W, z.2.Sublist fs)
        ⟨none, none, [], rfl, o02.trans o3, pot3.up (by omega), t3, ⟨ys2, e3 _ _ hD2, by rw [rin.len]; exact al, (by rw [show A ++ gripsOf [] = A from List.append_nil A]; exact rin.keep (.of e3))⟩, rfl, fun _ h => absurd h List.not_mem_nil⟩
        (fun i σ' H' _ ⟨_, _, _, _, _, _, h, _⟩ => st_of h) ?_ ?_⟩
      · rintro i x σ' H' hx ⟨y3, y4, W, rfl, o, p, ht, ⟨ys, hD', yl, rin'⟩, wm, ws⟩
        obtain ⟨wd, hwd, rfl⟩ := str_at hx
        have i3 : i < 3 := (List.getElem?_eq_some_iff.mp hwd).1
        have wl : wd.length ≤ 5 := by
          have : ∀ z ∈ words3, z.length ≤ 5 := by decide +kernel
          exact this wd (List.mem_of_getElem? hwd)
        dsimp only [gName]
        refine seq_of (asg_of ?_)
        refine ⟨.ref l, rfl, l, rfl, ⟨_, sq_of (o l _ nld hl)⟩, fun Dk hDk => lcj (K := K) (walk_list (K := K) (a := l) (xs := fs.map V.int)) (fun i => (fs.map V.int)[i]?) (n := n + 8 + 10 * (i : Int)) (c := 1) (fun i ys _ => ∃ ks : List Int, ys = ks.map V.int ∧ ks.Sublist (fs.take i))
          (fun H'' o' => sq_of (o' l _ nld (o l _ nld hl))) (fun i H x H' y => y) hDk p (by decide) fl1 (fun _ => ⟨[], rfl, List.nil_sublist _⟩) (fun i ys H r => ?_) (fun i ys H H' _ r => r) (fun x => rfl) ?_ ?_⟩
        · obtain ⟨ks, rfl, h⟩ := r
          have := h.length_le
          rw [List.length_take] at this
          rw [List.length_map]
          omega
        · rintro j x ys' H'' hj hx' o' p' ⟨ks, rfl, sub'⟩ k1 k0 h1 h0
          rw [List.length_map] at hj
          obtain ⟨k, hk, rfl⟩ := at_map hx'
          refine et_take0 (ev_var rfl) ev_c p' (by omega) (by decide) (by decide) fun b H5 o5 p5 => ?_
          cases b with
          | false => exact h0 H5 o5 (p5.up (by push_cast; omega)) ⟨ks, rfl, by rw [take_one hk]; exact sub_more sub'⟩
          | true => exact v_of rfl (h1 _ H5 o5 (p5.up (by push_cast; omega)) ⟨ks ++ [k], by rw [List.map_append]; rfl, by rw [take_one hk]; exact sub_snoc sub'⟩)
        · rintro H5 ys' o5 p5 hDk5 ⟨ks, rfl, sub'⟩
          rw [List.length_map] at sub' p5
          rw [List.take_length] at sub'
          have kl := sub'.length_le
          have hD5 := o5 D _ nDd hD'
          have nkd : Dk ≠ d := p.ne hDk
          have nDk : D ≠ Dk := ne_of_none hD' hDk
          dsimp only
          refine ⟨.ref D, rfl, .inl ⟨rfl, _, sq_of hD5⟩, .ref Dk, rfl, Dk, rfl, ⟨_, sq_of hDk5⟩, fun De hDe => lcj (K := K) (walk_list (K := K) (a := Dk) (xs := ks.map V.int)) (fun i => (ks.map V.int)[i]?) (n := n + 18 + 10 * (i : Int)) (c := 0) (fun j ys H' => RIn H' ys ((ks.take j).map fun k => (gripT wd k, k)))
            (fun H'' o' => sq_of (o' Dk _ nkd hDk5)) (fun i H x H' y => y) hDe (p5.up (by omega)) (by decide) (by rw [List.length_map]; omega) (fun _ => .nil) (fun j ys H r => ?_) (fun j ys H H' kk r => r.keep kk) (fun x => rfl) ?_ ?_⟩
          · rw [r.len, List.length_map, List.length_take]
            omega
          · rintro j x ys'' H6 hj hx' o6 p6 r6 k1 k0 h1 h0
            obtain ⟨k, hk, rfl⟩ := at_map hx'
            have kb := fb k (sub'.mem (List.mem_of_getElem? hk))
            have tl : ((toString k : String) : Str).length ≤ 10 := int_len (by omega)
            dsimp only [tYes]
            rw [if_pos rfl]
            refine tup_of (c_of (op_of (op_of (v_of rfl (k_of ⟨wd, _, rfl, rfl, ?_, ?_⟩)))))
            · rw [sizeLine_eq]
              show wd.length + 1 ≤ _
              omega
            refine cb_of (c_of (v_of rfl (n_of ⟨k, rfl, ?_, ?_⟩)))
            · have : k.natAbs < 2 ^ 1920 := Nat.lt_of_lt_of_le (show k.natAbs < 2 ^ 10 by omega) (Nat.pow_le_pow_right (by decide) (by decide))
              by_cases z : k.natAbs = 0
              · rw [z]
                decide
              · exact (Nat.log2_lt z).mpr this
            refine ⟨_, _, rfl, rfl, ?_, ?_⟩
            · rw [strLen_append, sizeLine_eq]
              show wd.length + 1 + _ ≤ _
              omega
            refine c_of (v_of rfl (n_of ⟨by show 2 ≤ sizeLine; decide, fun a ha => ?_⟩))
            refine h1 _ _ (Off.of (Ex.new ha)) ((p6.updD (p6.ne ha)).up (by push_cast; omega)) ?_
            rw [take_snoc _ hk]
            exact (r6.keep (.of (Ex.new ha))).app (.one (r := (gripT wd k, k)) upd_same)
          · rintro H7 zs o7 p7 hDe7 r7
            rw [List.length_map, List.take_length] at r7
            have hD7 := o7 D _ nDd hD5
            have zl := r7.len
            rw [List.length_map] at zl
            refine ⟨D, De, ys, zs, rfl, rfl, hD7, hDe7, by rw [sizeLine_eq]; omega, ?_⟩
            have kk : KeepN H7 (upd H7 D (.lst (ys ++ zs))) := .lst hD7 fun a o n h => by
              rw [upd_ne n]
              exact h
            have H0D : H D = none := fresh_back e1 hD
            refine ⟨_, _, W ++ [(wd, ks)], rfl, ((o.trans o5).trans o7).fresh H0D, (p7.updD nDd).up (by push_cast; omega), ?_, ⟨_, upd_same, by rw [List.length_append]; omega, ?_⟩, ?_, fun z hz => ?_⟩
            · rw [upd_ne (Ne.symm nDw)]
              exact o7 tw _ nwd (o5 tw _ nwd ht)
            · have e : A ++ gripsOf (W ++ [(wd, ks)]) = (A ++ gripsOf W) ++ ks.map fun k => (gripT wd k, k) := by
                unfold gripsOf
                rw [List.flatMap_append, List.append_assoc]
                congr 2
                exact List.append_nil _
              rw [e]
              exact (((rin'.keep (.off p o5)).keep (.off p5 o7)).app r7).keep kk
            · rw [List.map_append, wm, take_one hwd]
              rfl
            · rcases List.mem_append.mp hz with h | h
              · exact ws z h
              · rw [List.mem_singleton.mp h]
                exact sub'
      · rintro σ' H' ⟨y3, y4, W, rfl, o, p, ht, ⟨ys, hD', yl, rin'⟩, wm, ws⟩
        refine ret_of (if_of (test_of (op_of (v_of rfl (lst_of (n_of ⟨Nat.zero_le _, fun e he => ⟨.list (fs.map .int), .list [], .lst (sq_of (Ex.new he _ _ (o l _ nld hl))) (dp_ints fs), .lst (sq_of upd_same) .nil, ?_, by rfl, _, rfl, ?_⟩⟩))))))
        · unfold SeqAt.shaped
          rw [PyData.canLay0, ints_lay, PyData.depth, ints_depth]
          rfl
        have eq0 : PyData.eqv (.list (fs.map .int)) (.list []) = false := by
          cases fs with
          | nil => exact absurd f0 (by decide)
          | cons a r => rfl
        rw [eq0]
        rw [if_pos (show (!false) = true from rfl)]
        have eN : Ex H' (upd H' e (.lst [])) := Ex.new he
        refine cb_of (c_of (rd_sortR (ev_var rfl) (eN _ _ hD') (rin'.keep (.of eN)) fun pp H2' ys' rs' hp e2 h2 td perm srt => n_of ⟨pp, ys', rfl, .inl ⟨sq_of h2, fun t ht' => ?_⟩⟩))
        have eT : Ex H2' (upd H2' t (.tup ys')) := Ex.new ht'
        refine q _ (.ref t) rs' A W (o.trans (Off.of ((eN.trans e2).trans eT))) ((p.ex ((eN.trans e2).trans eT)).up (by rw [List.length_map]; show n + 8 + 10 * ((3 : Nat) : Int) ≤ n + 50; omega)) (.tup (st_of upd_same) (td.ex eT)) perm srt ⟨sub, av, ws⟩ ?_
        rw [wm]
        rfl
end
end Sn
namespace Sn
open PySem PySem.Spec PyProof.Rows L2 Evl Gd
abbrev sShot : Stmt := topS 13
abbrev nShot : List Str := ["_law_jar_here", "_law_least", "_law_most", "_law_often", "_law_figures_here", "_law_things", "_law_one", "_law_shape"]
theorem scShot : FnScope nShot ["_law_jar_here", "_law_least", "_law_most", "_law_often"] (defScope sShot) := ⟨rfl, rfl, rfl, by decide +kernel, rfl, by decide +kernel, by decide +kernel⟩
/-- what is known of a drawn thing -/
def ThingOk (t : Thing) : Prop := OkParts t.sort t.parts ∧ 0 ≤ t.n ∧ t.n ≤ 200 ∧ (t.home = "counted" ∨ t.home = "traced")
structure RootsOk (fs : List Int) (rs : List (Str × Int)) : Prop where
  ex : ∃ A W, rs.Perm (A ++ gripsOf W) ∧ Found fs A W ∧ W.map (·.1) = words3
  asc : rs.Pairwise (fun r q => ksLt (rKey q) (rKey r) = false)
structure Drawn (s : Shot) : Prop where
  len : s.things.length ≤ 10
  th : ∀ t ∈ s.things, ThingOk t
  ins : ∀ t ∈ s.things, InFs (s.things.map Thing.n) t.parts
  asc : (s.things.map Thing.n).Pairwise (· < ·)
  rt : (s.roots = [] ∧ s.things = []) ∨ RootsOk (s.things.map Thing.n) s.roots
def spShot (K : PySem.W.Frag) : Sp := fun vs H Q _ => ∃ (d : Addr) (n often : Int), vs = [.ref d, .int 0, .int 10, .int often] ∧ Pot H d n ∧ n ≤ 700000 ∧ 0 < often ∧ often ≤ 100 ∧
  ∀ (H' : Hp) (x : V) (s : Shot), Off d H H' → Pot H' d (n + 600) → Td K H' x (dShot s) → Drawn s → Q x H'
section
variable {P : Program} {w : World} {K : PySem.W.Frag} {mg : Str → Option Value} {base : Heap}
theorem ok_shot {f fT fO fF fP fA : Addr} {fd fdT fdO fdF fdP fdA : FuncData} (F : Fun K "_law_shot" "_law_shot" sShot f fd) (FT : Fun K "_law_take" "_law_take" sTake fT fdT) (FO : Fun K "_law_of" "_law_of" sOf fO fdO) (FF : Fun K "_law_figures" "_law_figures" sFig fF fdF) (FP : Fun K "_law_parts" "_law_parts" sParts fP fdP) (FA : Fun K "_law_anchors" "_law_anchors" sAnch fA fdA)
    (bT : Binds K fdT ["_law_jar_here", "_law_many"] []) (bO : Binds K fdO ["_law_jar_here", "_law_some"] []) (bF : Binds K fdF ["_law_jar_here", "_law_many"] []) (bP : Binds K fdP ["_law_jar_here", "_law_shape", "_law_figures_here", "_law_often"] []) (bA : Binds K fdA ["_law_jar_here", "_law_figures_here"] [])
    (gT : mg "_law_take" = some (.ref fT)) (gO : mg "_law_of" = some (.ref fO)) (gF : mg "_law_figures" = some (.ref fF)) (gP : mg "_law_parts" = some (.ref fP)) (gA : mg "_law_anchors" = some (.ref fA)) (mL : mg "len" = none) (mS : mg "str" = none) (mT : mg "tuple" = none) (mO : mg "sorted" = none) (mR : mg "range" = none) : FnOk P w K mg base CX0 4 f fd ["_law_jar_here", "_law_least", "_law_most", "_law_often"] (spShot K) := by
  have GT : FnOk P w K mg base CX0 3 fT fdT ["_law_jar_here", "_law_many"] spTake := (ok_take FT).mono (by decide)
  have GO : FnOk P w K mg base CX0 3 fO fdO ["_law_jar_here", "_law_some"] spOf := (ok_of FO FT bT gT mL).mono (by decide)
  have GF : FnOk P w K mg base CX0 3 fF fdF ["_law_jar_here", "_law_many"] spFig := ok_fig FF FT FO bT bO gT gO mL mR
  have GP : FnOk P w K mg base CX0 3 fP fdP ["_law_jar_here", "_law_shape", "_law_figures_here", "_law_often"] (spParts K) := ok_parts FP FT FO bT bO gT gO mL mR mT
  have GA : FnOk P w K mg base CX0 3 fA fdA ["_law_jar_here", "_law_figures_here"] (spAnch K) := ok_anch FA FT FO bT bO gT gO mL mS mT mO
  refine F.ok scShot (fun vs H Q E h => ?_) (fun cdv A outer s H vs Q E hr h => ?_)
  · obtain ⟨d, n, often, rfl, _⟩ := h
    rfl
  · obtain ⟨d, n, often, rfl, pot, hn, of0, of1, q⟩ := h
    refine ⟨_, pss_cons (ps_par (i := 4) (j := 5) rfl scShot.nd rfl rfl (by decide) rfl rfl (pa_cons (pe_call GF hr (by rfl) gF FF.kp bF .nil pass0 (pa_cons (pv 0) (pa_cons (pe_op op_add (pv 1) (pe_call GT hr (by rfl) gT FT.kp bT .nil pass0 (pa_cons (pv 0) (pa_cons (pe_op op_add (pe_op op_sub (pv 2) (pv 1)) pe_int) pa_nil)))) pa_nil))) (pa_cons (pe_lst pa_nil) pa_nil)) (by rfl))
      (pss_cons (ps_for PassesOwn.never rfl (pi_list (pv 4)) (pg_name (i := 6) scShot.nd rfl (.inl rfl))
        (pss_cons (ps_set (i := 7) scShot.nd rfl (.inl rfl) (pe_call GO hr (by rfl) gO FO.kp bO .nil pass0 (pa_cons (pv 0) (pa_cons (pe_lst (pa_cons pe_str (pa_cons pe_str (pa_cons pe_str (pa_cons pe_str (pa_cons pe_str pa_nil)))))) pa_nil))))
        (pss_one (ps_expr (pe_bm PySem.F.plainAttrs_list PySem.F.slot_list_append PySem.F.type_list_append mt_append (pv 5) (pa_cons (pe_tup (pa_cons (pv 6) (pa_cons (pe_call GO hr (by rfl) gO FO.kp bO .nil pass0 (pa_cons (pv 0) (pa_cons (pe_lst (pa_cons pe_str (pa_cons pe_str pa_nil))) pa_nil))) (pa_cons (pv 7) (pa_cons (pe_call GP hr (by rfl) gP FP.kp bP .nil pass0 (pa_cons (pv 0) (pa_cons (pv 7) (pa_cons (pv 4) (pa_cons (pv 3) pa_nil))))) pa_nil))))) pa_nil))))))
      (pss_one (ps_ret (pe_tup (pa_cons (pe_ifExp (pt_cmpR (op_neD hr.units) (pv 4) (pe_lst pa_nil) (nomark _)) (pe_call GA hr (by rfl) gA FA.kp bA .nil pass0 (pa_cons (pv 0) (pa_cons (pv 4) pa_nil))) (pe_tup pa_nil)) (pa_cons (pe_callTy call_tuple_of (by rfl) mT (by decide +kernel) (pa_cons (pv 5) pa_nil)) pa_nil)))))), ?_⟩
    refine seq_of (par_of ?_)
    refine c_of (call_of ?_)
    refine c_of (v_of rfl ?_)
    refine c_of (op_of (v_of rfl ?_))
    refine rd_take (ev_var rfl) (ev_op (ev_op (ev_var rfl) (ev_var rfl) rv_I0) ev_c rv_I0) pot (by omega) (by decide) (by decide) fun H1 r o1 p1 r0 r1 => ?_
    refine ⟨0, r, rfl, rfl, ?_⟩
    refine n_of ⟨d, n + 1, 0 + r, rfl, p1, by omega, by omega, by omega, fun H2 l fs o2 p2 nld hl0 hl fl fb fasc => ?_⟩
    refine ⟨Nat.zero_le _, fun th hth => ?_⟩
    refine ⟨_, _, rfl, ?_⟩
    have nthd := p2.ne hth
    have nlt : l ≠ th := ne_of_none hl hth
    have eA : Ex H2 (upd H2 th (.lst [])) := Ex.new hth
    have l3 := eA _ _ hl
    have t3 : (upd H2 th (.lst [])) th = some (.lst []) := upd_same
    have p3 := p2.ex eA
    have o3 : Off d H (upd H2 th (.lst [])) := (o1.trans o2).trans (Off.of eA)
    generalize upd H2 th (.lst []) = H3 at eA l3 t3 p3 o3 ⊢
    have len10 : fs.length ≤ 10 := by omega
    have Hth : H th = none := by
      cases e : H th with
      | none => rfl
      | some o =>
        by_cases z : th = d
        · exact absurd z nthd
        · rw [(o1.trans o2) th o z e] at hth
          cases hth
    refine ⟨.ref l, rfl, l, rfl, ⟨_, sq_of l3⟩, for_list (K := K) (a := l) (xs := fs.map V.int) (fun i σ' H' => ∃ y6 y7 ts ys, σ' = [some (.ref d), some (.int 0), some (.int 10), some (.int often), some (.ref l), some (.ref th), y6, y7] ∧ Off d H H' ∧ Pot H' d (n + 31 + 42 * (i : Int)) ∧ H' l = some (.lst (fs.map V.int)) ∧ H' th = some (.lst ys) ∧ TdAll K H' ys (ts.map dThing) ∧ ts.map Thing.n = fs.take i ∧ ∀ t ∈ ts, ThingOk t ∧ InFs fs t.parts)
      ⟨none, none, [], [], rfl, o3, p3.up (by omega), l3, t3, .nil, rfl, fun _ h => absurd h List.not_mem_nil⟩ (fun i σ' H' _ ⟨_, _, _, _, _, _, _, h, _⟩ => sq_of h) ?_ ?_⟩
    · rintro i x σ' H' hx ⟨y6, y7, ts, ys, rfl, o, p, hl', ht', td, tn, tok⟩
      obtain ⟨k, hk, rfl⟩ := at_map hx
      have il : i < fs.length := (List.getElem?_eq_some_iff.mp hk).1
      have kb := fb k (List.mem_of_getElem? hk)
      have tsl : ts.length = i := by
        have := congrArg List.length tn
        rw [List.length_map, List.length_take] at this
        omega
      dsimp only [gName]
      refine seq_of (asg_of (rd_of (ev_var rfl) p (by omega) (el_lst (ea_cons ev_c (ea_cons ev_c (ea_cons ev_c (ea_cons ev_c (ea_cons ev_c ea_nil))))) (by show 5 ≤ 100000; decide)) (by show 0 < 5; decide) (by show 5 ≤ 1000; decide) fun H4 x hx o4 p4 => ?_))
      obtain ⟨sh, hsh, rfl⟩ : ∃ sh : Str, (sh = "record" ∨ sh = "map" ∨ sh = "weak") ∧ x = .str sh := by
        rcases List.mem_cons.mp hx with e | hx
        · exact ⟨_, .inl rfl, e⟩
        · rcases List.mem_cons.mp hx with e | hx
          · exact ⟨_, .inl rfl, e⟩
          · rcases List.mem_cons.mp hx with e | hx
            · exact ⟨_, .inl rfl, e⟩
            · rcases List.mem_cons.mp hx with e | hx
              · exact ⟨_, .inr (.inl rfl), e⟩
              · rw [List.mem_singleton.mp hx]
                exact ⟨_, .inr (.inr rfl), rfl⟩
      have hth4 := o4 th _ nthd ht'
      have hl4 := o4 l _ nld hl'
      refine ⟨.ref th, rfl, .inl ⟨rfl, _, sq_of hth4⟩, ?_⟩
      refine c_of (tup_of (c_of (v_of rfl ?_)))
      refine c_of (rd_of (ev_var rfl) p4 (by omega) (el_lst (ea_cons ev_c (ea_cons ev_c ea_nil)) (by show 2 ≤ 100000; decide)) (by show 0 < 2; decide) (by show 2 ≤ 1000; decide) fun H5 x hx o5 p5 => ?_)
      refine c_of (v_of rfl ?_)
      refine c_of (call_of ?_)
      refine c_of (v_of rfl (c_of (v_of rfl (c_of (v_of rfl (c_of (v_of rfl (n_of ?_))))))))
      obtain ⟨hm, hhm, rfl⟩ : ∃ hm : Str, (hm = "counted" ∨ hm = "traced") ∧ x = .str hm := by
        rcases List.mem_cons.mp hx with e | hx
        · exact ⟨_, .inl rfl, e⟩
        · rw [List.mem_singleton.mp hx]
          exact ⟨_, .inr rfl, rfl⟩
      have hl5 := o5 l _ nld hl4
      refine ⟨d, l, n + 31 + 42 * (i : Int) + 1 + 1, often, sh, fs, rfl, p5, by omega, nld, hl5, by omega, len10, fb, fasc, of0, of1, hsh, fun H6 x ps o6 p6 tdx okp inf => ?_⟩
      refine n_of ⟨by show 4 ≤ sizeLine; decide, fun a ha => ?_⟩
      have e7 : Ex H6 (upd H6 a (.tup [.int k, .str hm, .str sh, x])) := Ex.new ha
      have td7 : Td K (upd H6 a (.tup [.int k, .str hm, .str sh, x])) (.ref a) (dThing ⟨k, hm, sh, ps⟩) := .tup (st_of upd_same) (.cons (.int k) (.cons (.str hm) (.cons (.str sh) (.cons (tdx.ex e7) .nil))))
      have o47 : Off d H' (upd H6 a (.tup [.int k, .str hm, .str sh, x])) := ((o4.trans o5).trans o6).trans (Off.of e7)
      have p7 := p6.ex e7
      generalize upd H6 a (.tup [.int k, .str hm, .str sh, x]) = H7 at e7 td7 o47 p7 ⊢
      have ht7 := o47 th _ nthd ht'
      have yl : ys.length = i := by
        rw [td.len, List.length_map, tsl]
      refine n_of ⟨th, ys, _, rfl, rfl, ht7, sz_lt (by omega), ?_⟩
      have k8 : KeepT K H7 (upd H7 th (.lst (ys ++ [.ref a]))) := .lst ht7 fun a o n h => by
        rw [upd_ne n]
        exact h
      refine ⟨_, _, ts ++ [⟨k, hm, sh, ps⟩], ys ++ [.ref a], rfl, (o.trans o47).fresh Hth, (p7.updD nthd).up (by push_cast; omega), ?_, upd_same, ?_, ?_, fun t ht => ?_⟩
      · rw [upd_ne nlt]
        exact o47 l _ nld hl'
      · rw [List.map_append]
        exact ((td.keep (keepOff p o47)).snoc td7).keep k8
      · rw [List.map_append, tn, take_one hk]
        rfl
      · rcases List.mem_append.mp ht with h | h
        · exact tok t h
        · rw [List.mem_singleton.mp h]
          exact ⟨⟨okp, kb.1, kb.2, hhm⟩, inf⟩
    · rintro σ' H' ⟨y6, y7, ts, ys, rfl, o, p, hl', ht', td, tn, tok⟩
      rw [List.length_map] at tn p
      rw [List.take_length] at tn
      have tsl : ts.length = fs.length := by
        rw [← tn, List.length_map]
      refine ret_of (tup_of (c_of (if_of (test_of (op_of (v_of rfl (lst_of (n_of ⟨Nat.zero_le _, fun e he => ⟨.list (fs.map .int), .list [], .lst (sq_of (Ex.new he _ _ hl')) (dp_ints fs), .lst (sq_of upd_same) .nil, ?_, by rfl, _, rfl, ?_⟩⟩))))))))
      · unfold SeqAt.shaped
        rw [PyData.canLay0, ints_lay, PyData.depth, ints_depth]
        rfl
      have eN : Ex H' (upd H' e (.lst [])) := Ex.new he
      have pN := p.ex eN
      have lN := eN _ _ hl'
      have tN := eN _ _ ht'
      have tdN := td.ex eN
      have oN := o.trans (Off.of eN)
      generalize upd H' e (.lst []) = H5 at eN pN lN tN tdN oN ⊢
      -- the end, from the roots
      have fin : ∀ (H6 : Hp) (x : V) (rs : List (Str × Int)), Off d H5 H6 → Pot H6 d (n + 550) → Td K H6 x (.tuple (rs.map dRoot)) → ((rs = [] ∧ ts = []) ∨ RootsOk (ts.map Thing.n) rs) → ∀ (T : Hp → Prop), (∀ (H7 : Hp) (a : Addr), H7 a = none → True) → ∀ p1 : Addr, H6 p1 = none → ∀ p2 : Addr, (upd H6 p1 (.tup ys)) p2 = none → Q (.ref p2) (upd (upd H6 p1 (.tup ys)) p2 (.tup [x, .ref p1])) := by
        intro H6 x rs o6 p6 tx rk _ _ a1 h1 a2 h2
        have e1 : Ex H6 (upd H6 a1 (.tup ys)) := Ex.new h1
        have e2 : Ex (upd H6 a1 (.tup ys)) (upd (upd H6 a1 (.tup ys)) a2 (.tup [x, .ref a1])) := Ex.new h2
        refine q _ (.ref a2) ⟨rs, ts⟩ ((oN.trans o6).trans (Off.of (e1.trans e2))) ((p6.ex (e1.trans e2)).up (by omega)) ?_ ⟨by rw [tsl]; exact len10, fun t ht => (tok t ht).1, fun t ht => by rw [show (Shot.mk rs ts).things.map Thing.n = _ from tn]; exact (tok t ht).2, by rw [tn]; exact fasc, rk⟩
        refine .tup (st_of upd_same) (.cons (tx.ex (e1.trans e2)) (.cons (.tup (st_of (e2 _ _ upd_same)) ((tdN.keep (keepOff pN o6)).ex (e1.trans e2))) .nil))
      cases fs with
      | nil =>
        have ts0 : ts = [] := List.eq_nil_of_length_eq_zero tsl
        rw [show PyData.eqv (.list (([] : List Int).map .int)) (.list []) = true from rfl]
        rw [if_neg (show ¬ (!true) = true from Bool.false_ne_true)]
        refine tup_of (n_of ⟨Nat.zero_le _, fun a ha => ?_⟩)
        have eR : Ex H5 (upd H5 a (.tup [])) := Ex.new ha
        refine c_of (cb_of (c_of (v_of rfl (n_of ⟨th, ys, rfl, .inl ⟨sq_of (eR _ _ tN), fun a1 h1 => n_of ⟨by show 2 ≤ sizeLine; decide, fun a2 h2 => ?_⟩⟩⟩))))
        exact fin _ (.ref a) [] (Off.of eR) ((pN.ex eR).up (by show n + 31 + 42 * ((0 : Nat) : Int) ≤ n + 550; omega)) (.tup (st_of upd_same) .nil) (.inl ⟨rfl, ts0⟩) (fun _ => True) (fun _ _ _ => trivial) a1 h1 a2 h2
      | cons z r =>
        rw [show PyData.eqv (.list ((z :: r).map .int)) (.list []) = false from rfl]
        rw [if_pos (show (!false) = true from rfl)]
        refine call_of (c_of (v_of rfl (c_of (v_of rfl (n_of ?_)))))
        refine ⟨d, l, _, z :: r, rfl, pN, by omega, nld, lN, by show 0 < r.length + 1; omega, len10, fb, fun H6 x rs A' W o6 p6 tx perm srt fo wm => ?_⟩
        refine c_of (cb_of (c_of (v_of rfl (n_of ⟨th, ys, rfl, .inl ⟨sq_of (o6 th _ nthd tN), fun a1 h1 => n_of ⟨by show 2 ≤ sizeLine; decide, fun a2 h2 => ?_⟩⟩⟩))))
        exact fin _ x rs o6 (p6.up (by omega)) tx (.inr ⟨⟨A', W, perm, by rw [tn]; exact fo, wm⟩, srt⟩) (fun _ => True) (fun _ _ _ => trivial) a1 h1 a2 h2
end
end Sn
namespace Sn
open PySem PySem.Spec PyProof.Rows L2 Evl Gd
theorem nodup_len {α : Type} [DecidableEq α] : ∀ {a b : List α}, a.Nodup → (∀ x ∈ a, x ∈ b) → a.length ≤ b.length
  | [], _, _, _ => Nat.zero_le _
  | x :: a, b, nd, h => by
    obtain ⟨p, q, e⟩ := List.append_of_mem (h x List.mem_cons_self)
    have nx := (List.nodup_cons.mp nd).1
    have r := nodup_len (b := p ++ q) (List.nodup_cons.mp nd).2 fun y hy => by
      have m := h y (List.mem_cons_of_mem _ hy)
      rw [e] at m
      rcases List.mem_append.mp m with m | m
      · exact List.mem_append.mpr (.inl m)
      · rcases List.mem_cons.mp m with m | m
        · rw [m] at hy
          exact absurd hy nx
        · exact List.mem_append.mpr (.inr m)
    rw [e, List.length_append, List.length_cons, List.length_cons]
    rw [List.length_append] at r
    omega
theorem Live.tgt {as : List Arc} {n : Int} (h : Live as n) : n ∈ as.map Arc.tgt := by
  cases h with
  | mk m _ => exact List.mem_map.mpr ⟨_, m, rfl⟩
theorem live_len {as : List Arc} {met : List Int} (nd : met.Nodup) (h : ∀ n ∈ met, Live as n) : met.length ≤ as.length := by
  have := nodup_len (b := as.map Arc.tgt) nd fun x hx => (h x hx).tgt
  rw [List.length_map] at this
  exact this
def insAll (met : List Int) (ns : List Int) : List Int := ns.foldl insT met
theorem merge_true : ∀ (ns met : List Int), mergeK (kTrue met) (ns.map fun n => (Sum.inl n, V.bl true)) = kTrue (insAll met ns)
  | [], met => rfl
  | n :: ns, met => by
    show mergeK (putK (kTrue met) (.inl n) (.bl true)) (ns.map fun n => (Sum.inl n, V.bl true)) = _
    rw [put_ins]
    exact merge_true ns (insT met n)
theorem insAll_mem : ∀ (ns met : List Int) (m : Int), m ∈ insAll met ns ↔ m ∈ met ∨ m ∈ ns
  | [], met, m => by simp [insAll]
  | n :: ns, met, m => by
    show m ∈ insAll (insT met n) ns ↔ _
    rw [insAll_mem ns (insT met n) m, insT_mem, List.mem_cons, or_assoc]
theorem insAll_nodup : ∀ (ns met : List Int), met.Nodup → (insAll met ns).Nodup
  | [], _, h => h
  | n :: ns, met, h => insAll_nodup ns (insT met n) (insT_nodup h)
abbrev sLiv : Stmt := topS 14
abbrev nLiv : List Str := ["_law_shot_here", "_law_gone", "_law_one", "_law_seen", "_law_many", "_law_home", "_law_shape", "_law_parts_here", "_law_word", "_law_spot", "_law_worth", "_law_is_open", "_law_anchor"]
theorem scLiv : FnScope nLiv ["_law_shot_here", "_law_gone"] (defScope sLiv) := ⟨rfl, rfl, rfl, by decide +kernel, rfl, by decide +kernel, by decide +kernel⟩
def spLiv (K : PySem.W.Frag) : Sp := fun vs H Q _ => ∃ (x : V) (g : Addr) (s : Shot), vs = [x, .ref g] ∧ Td K H x (dShot s) ∧ okShot s ∧ H g = some (.dT []) ∧
  ∀ (H' : Hp) (q : Addr) (met : List Int), Ex H H' → H q = none → H' q = some (.dK (kTrue met)) → met.Nodup → (∀ n, n ∈ met ↔ Live (arcsOf s) n) → met.length ≤ 1000 → Q (.ref q) H'
/-- what is seen so far -/
structure Seen (as : List Arc) (rs : List (Str × Int)) (H H' : Hp) (sd : Addr) (met : List Int) : Prop where
  ex : Ex H H'
  at_ : H' sd = some (.dK (kTrue met))
  nd : met.Nodup
  live : ∀ n ∈ met, Live as n
  rt : ∀ r ∈ rs, r.2 ∈ met
/-- what is closed so far, seen from the turn's beginning -/
def Cl (L : List Arc) (m0 met : List Int) : Prop := m0 <+: met ∧ ∀ α ∈ L, (∀ n ∈ α.src, n ∈ m0) → α.tgt ∈ met
theorem Cl.more {L : List Arc} {m0 met met' : List Int} (c : Cl L m0 met) (p : met <+: met') : Cl L m0 met' := ⟨c.1.trans p, fun α ha hs => p.subset (c.2 α ha hs)⟩
theorem Cl.app {L M : List Arc} {m0 met : List Int} (c : Cl L m0 met) (d : Cl M m0 met) : Cl (L ++ M) m0 met := ⟨c.1, fun α ha hs => by
  rcases List.mem_append.mp ha with h | h
  · exact c.2 α h hs
  · exact d.2 α h hs⟩
theorem Seen.put {as : List Arc} {rs : List (Str × Int)} {H H2 : Hp} {sd q : Addr} {met : List Int} {v : Int} {u : HO} (h : Seen as rs H H2 sd met) (hq : H2 q = none) (h0 : H sd = none) (l : Live as v) : Seen as rs H (upd (upd H2 q u) sd (.dK (kTrue (insT met v)))) sd (insT met v) := by
  refine ⟨Ex.mut (h.ex.trans (Ex.new hq)) h0, upd_same, insT_nodup h.nd, fun n hn => ?_, fun r hr => insT_mem.mpr (.inl (h.rt r hr))⟩
  rcases insT_mem.mp hn with z | z
  · exact h.live n z
  · rw [z]
    exact l
theorem Seen.more {as : List Arc} {rs : List (Str × Int)} {H H2 H3 : Hp} {sd : Addr} {met : List Int} (h : Seen as rs H H2 sd met) (e : Ex H2 H3) : Seen as rs H H3 sd met := ⟨h.ex.trans e, e _ _ h.at_, h.nd, h.live, h.rt⟩
theorem Cl.nil {m0 met : List Int} (h : m0 <+: met) : Cl [] m0 met := ⟨h, fun _ h => absurd h List.not_mem_nil⟩
theorem thing_has {t : Thing} {α : Arc} (h : α ∈ thingArcs t) : t.n ∈ α.src := by
  unfold thingArcs at h
  split at h
  · obtain ⟨p, _, e⟩ := List.mem_filterMap.mp h
    unfold slotArc at e
    split at e
    · cases e
      exact List.mem_cons_self
    · cases e
  · split at h
    · obtain ⟨p, _, e⟩ := List.mem_filterMap.mp h
      unfold entryArc at e
      split at e
      · cases e
        exact List.mem_cons_self
      · cases e
    · cases h
section
variable {P : Program} {w : World} {K : PySem.W.Frag} {mg : Str → Option Value} {base : Heap}
theorem ok_liv {f : Addr} {fd : FuncData} (F : Fun K "_law_living" "_law_living" sLiv f fd) (mL : mg "len" = none) (mD : mg "dict" = none) : FnOk P w K mg base CX0 1 f fd ["_law_shot_here", "_law_gone"] (spLiv K) := by
  refine F.ok scLiv (fun vs H Q E h => ?_) (fun cdv A outer s H vs Q E hr h => ?_)
  · obtain ⟨x, g, s, rfl, _⟩ := h
    rfl
  · obtain ⟨x, g, s, rfl, ht, ok, hg, q⟩ := h
    have hrl := ok.rts
    have hal := ok.arcs
    have hu := hu_of hr
    refine ⟨_, pss_cons (ps_par (i := 3) (j := 4) rfl scLiv.nd rfl rfl (by decide) rfl rfl (pa_cons (pe_callTy (call_dictP rfl) (by rfl) mD (by decide +kernel) (pa_cons (pe_lc (own := [("_law_anchor", 12), ("_law_one", 2)]) (g := gTup K 2 (gCons (gName 12) (gCons (gName 2) gNil))) (tt := tB (tDNotIn (tTup (tCons (tC (.str "root")) (tCons (tVar 12) tNil))) (tVar 1))) (te := tTup (tCons (tVar 2) (tCons (tC (.bl true)) tNil))) rfl scLiv.nd (pi_tup (pe_ix ix_tup (pv 0) pe_int (fun _ _ => rfl))) (blkOk_by (N := nLiv) (sc := defScope sLiv) (by decide +kernel))
          (fun _ _ _ _ _ => pg_tup rfl (pgs_cons (pg_name (i := 12) scLiv.nd rfl (.inl rfl)) (pgs_cons (pg_name (i := 2) scLiv.nd rfl (.inl rfl)) pgs_nil))) (fun _ _ _ _ _ => pts_one (pt_cmp (pc_dnotin hu (pe_tup (pa_cons pe_str (pa_cons (pv 12) pa_nil))) (pv 1)))) (fun _ _ _ _ _ => pe_tup (pa_cons (pv 2) (pa_cons pe_bl pa_nil)))) pa_nil)) (pa_cons (pe_un un_neg pe_int) pa_nil)) (by rfl))
      (pss_cons (ps_while PassesOwn.never (pt_cmpR op_gt (pe_callB call_lenD (by rfl) mL PySem.boot_len (pa_cons (pv 3) pa_nil)) (pv 4) (nomark _))
        (pss_cons (ps_set (i := 4) scLiv.nd rfl (.inl rfl) (pe_callB call_lenD (by rfl) mL PySem.boot_len (pa_cons (pv 3) pa_nil)))
        (pss_one (ps_for PassesOwn.never rfl (pi_tup (pe_ix ix_tup (pv 0) pe_int (fun _ _ => rfl))) (pg_tup (n := 4) rfl (pgs_cons (pg_name (i := 2) scLiv.nd rfl (.inl rfl)) (pgs_cons (pg_name (i := 5) scLiv.nd rfl (.inl rfl)) (pgs_cons (pg_name (i := 6) scLiv.nd rfl (.inl rfl)) (pgs_cons (pg_name (i := 7) scLiv.nd rfl (.inl rfl)) pgs_nil)))))
          (pss_one (ps_if (pw_and (pt_cmp (pc_din hu (pv 2) (pv 3))) (pw_and1 (pt_cmpR op_ne (pv 6) pe_str (nomark _)))).pt
            (pss_cons (ps_set (i := 8) scLiv.nd rfl (.inl rfl) (pe_ifExp (pt_cmpR op_eq (pv 6) pe_str (nomark _)) pe_str pe_str))
            (pss_one (ps_for PassesOwn.never rfl (pi_tup (pv 7)) (pg_tup (n := 2) rfl (pgs_cons (pg_name (i := 9) scLiv.nd rfl (.inl rfl)) (pgs_cons (pg_name (i := 10) scLiv.nd rfl (.inl rfl)) pgs_nil)))
              (pss_cons (ps_set (i := 11) scLiv.nd rfl (.inl rfl) (pe_or (pe_cmpR op_eq (pv 6) pe_str (nomark _)) (pe_one (pe_and (pe_cmpR op_notN (pv 10) pe_non (nomark _)) (pe_one (pe_cmp (pc_din hu (pv 9) (pv 3)) rfl))))))
              (pss_one (ps_if (pw_and (pt_val (pv 11)) (pw_and1 (pt_cmp (pc_dnotin hu (pe_tup (pa_cons (pv 8) (pa_cons (pv 2) (pa_cons (pv 9) pa_nil)))) (pv 1))))).pt
                (pss_one (ps_dput hu (pv 3) (pv 10) pe_bl rfl)) pss_nil)))))) pss_nil))))))
      (pss_one (ps_ret (pv 3)))), ?_⟩
    obtain ⟨p, xr, xo, rfl, sp, tr, to⟩ := Td.inv2 ht
    obtain ⟨pr, rs, rfl, spr, tr⟩ := tr.inv_tup
    obtain ⟨po, os, rfl, spo, to⟩ := to.inv_tup
    have lrs := tr.len
    rw [List.length_map] at lrs
    have hrl := hrl
    refine seq_of (par_of (c_of (cb_of (c_of ?_))))
    refine ⟨.ref p, rfl, p, _, 0, _, rfl, rfl, sp, atI_nat (j := 0) rfl, pr, rfl, ⟨_, spr⟩, fun D hD => lc_tup (xs := rs) (fun n H' => Ex H H' ∧ ∃ zs : List (Addr × Int), H' D = some (.lst (zs.map fun z => V.ref z.1)) ∧ zs.map (·.2) = (s.roots.take n).map (·.2) ∧ ∀ z ∈ zs, H' z.1 = some (.tup [.int z.2, .bl true])) ⟨Ex.new hD, [], upd_same, rfl, fun _ h => absurd h List.not_mem_nil⟩ (fun n H' _ pr => ex_t pr.1 spr) ?_ ?_⟩
    · rintro n x H' hx ⟨e1, zs, h1, h2, h3⟩
      obtain ⟨δ, hδ, hT⟩ := tr.get hx
      rw [List.getElem?_map] at hδ
      cases hr1 : s.roots[n]? with
      | none =>
        rw [hr1] at hδ
        cases hδ
      | some r =>
        rw [hr1] at hδ
        cases hδ
        obtain ⟨t, y, z, rfl, s1, s2, s3⟩ := Td.inv2 hT
        rw [s2.inv_str, s3.inv_int] at s1
        have zl : zs.length ≤ n := by
          have := congrArg List.length h2
          rw [List.length_map, List.length_map, List.length_take] at this
          omega
        have ln : n < s.roots.length := (List.getElem?_eq_some_iff.mp hr1).1
        refine ⟨t, _, rfl, ex_t e1 s1, rfl, .str r.1, _, rfl, .int r.2, _, rfl, rfl, rfl, ?_⟩
        refine ⟨_, rfl, by show 2 ≤ sizeLine; decide, fun k hk => ?_⟩
        have e2 : Ex H' (upd H' k (.tup [.str "root", .str r.1])) := Ex.new hk
        refine ⟨.ref g, rfl, g, _, rfl, DGet.t (k := [Sum.inr "root", Sum.inr r.1]) (e2 _ _ (e1 _ _ hg)) upd_same, _, rfl, ?_⟩
        dsimp only
        rw [if_pos (show (!(valV ([] : List (List Key × V)) [Sum.inr "root", Sum.inr r.1]).isSome) = true from rfl)]
        refine tup_of (c_of (v_of rfl (c_of (k_of (n_of ⟨by show 2 ≤ sizeLine; decide, fun a ha => ?_⟩)))))
        have e3 : Ex (upd H' k (.tup [.str "root", .str r.1])) (upd (upd H' k (.tup [.str "root", .str r.1])) a (.tup [.int r.2, .bl true])) := Ex.new ha
        have e23 := e2.trans e3
        have a3 : (upd (upd H' k (.tup [.str "root", .str r.1])) a (.tup [.int r.2, .bl true])) a = some (.tup [.int r.2, .bl true]) := upd_same
        generalize upd (upd H' k (.tup [.str "root", .str r.1])) a (.tup [.int r.2, .bl true]) = H4 at e23 a3 ⊢
        have D4 := e23 _ _ h1
        refine ⟨_, D4, sz_lt (by rw [List.length_map]; omega), Ex.mut (e1.trans e23) hD, zs ++ [(a, r.2)], by rw [upd_same, List.map_append]; rfl, by rw [List.map_append, h2, take_snoc _ hr1]; rfl, fun z hz => ?_⟩
        rcases List.mem_append.mp hz with h | h
        · rw [upd_ne (ne_of (e23 _ _ (h3 z h)) D4 (fun x => nomatch x))]
          exact e23 _ _ (h3 z h)
        · rw [List.mem_singleton.mp h, upd_ne (ne_of a3 D4 (fun x => nomatch x))]
          exact a3
    · rintro H' ⟨e1, zs, h1, h2, h3⟩
      rw [lrs, List.take_length] at h2
      refine n_of ⟨D, zs.map (·.1), zs.map (fun z => (Sum.inl z.2, V.bl true)), rfl, ?_, ?_, fun sd hsd => ?_⟩
      · rw [List.map_map]
        exact sq_of h1
      · clear h1 h2
        induction zs with
        | nil => exact .nil
        | cons z zs ih => exact .cons (st_of (h3 z List.mem_cons_self)) (ih fun y hy => h3 y (List.mem_cons_of_mem _ hy))
      have em : mergeK [] (zs.map fun z => ((Sum.inl z.2 : Key), V.bl true)) = kTrue (insAll [] (s.roots.map (·.2))) := by
        rw [← h2, ← merge_true, List.map_map]
        rfl
      rw [em]
      refine c_of ⟨1, rfl, n_of ⟨_, _, rfl, ?_⟩⟩
      have hsd0 := fresh_back e1 hsd
      have w0 : Seen (arcsOf s) s.roots H (upd H' sd (.dK (kTrue (insAll [] (s.roots.map (·.2)))))) sd (insAll [] (s.roots.map (·.2))) := by
        refine ⟨e1.trans (Ex.new hsd), upd_same, insAll_nodup _ _ List.nodup_nil, fun n hn => ?_, fun r hr => ?_⟩
        · rcases (insAll_mem _ _ _).mp hn with h | h
          · exact absurd h List.not_mem_nil
          · obtain ⟨r, hr, rfl⟩ := List.mem_map.mp h
            exact Live.mk (α := rootArc r) (List.mem_append.mpr (.inl (List.mem_map.mpr ⟨r, hr, rfl⟩))) (fun _ h => absurd h List.not_mem_nil)
        · exact (insAll_mem _ _ _).mpr (.inr (List.mem_map.mpr ⟨r, hr, rfl⟩))
      generalize upd H' sd (.dK (kTrue (insAll [] (s.roots.map (·.2))))) = H1 at w0 ⊢
      generalize insAll [] (s.roots.map (·.2)) = met1 at w0
      refine ⟨fun m σ' H' => ∃ met many y2 y5 y6 y7 y8 y9 y10 y11, σ' = [some (.ref p), some (.ref g), y2, some (.ref sd), some (.int many), y5, y6, y7, y8, y9, y10, y11, none] ∧ Seen (arcsOf s) s.roots H H' sd met ∧ -1 ≤ many ∧ many ≤ (met.length : Int) ∧ (many = (met.length : Int) → ∀ α ∈ arcsOf s, (∀ n ∈ α.src, n ∈ met) → α.tgt ∈ met) ∧ (m : Int) = ((arcsOf s).length : Int) + 1 - many,
        ⟨(arcsOf s).length + 2, met1, -1, none, none, none, none, none, none, none, none, rfl, w0, by omega, by omega, fun h => by omega, by push_cast; omega⟩, ?_⟩
      rintro m σ' H' ⟨met, many, y2, y5, y6, y7, y8, y9, y10, y11, rfl, sn, b0, b1, cl, hm⟩
      have mlen := live_len sn.nd sn.live
      have hal := hal
      have kl : (kTrue met).length = met.length := List.length_map _
      refine ⟨.ref sd, rfl, sd, _, rfl, sn.at_, .int many, rfl, _, _, rfl, rfl, _, rfl, ?_⟩
      dsimp only
      rw [kl]
      by_cases hgt : ((met.length : Nat) : Int) > many
      · rw [decide_eq_true hgt, if_pos rfl]
        refine ⟨fun σ2 H2 => ∃ m', m' < m ∧ ∃ met many y2 y5 y6 y7 y8 y9 y10 y11, σ2 = [some (.ref p), some (.ref g), y2, some (.ref sd), some (.int many), y5, y6, y7, y8, y9, y10, y11, none] ∧ Seen (arcsOf s) s.roots H H2 sd met ∧ -1 ≤ many ∧ many ≤ (met.length : Int) ∧ (many = (met.length : Int) → ∀ α ∈ arcsOf s, (∀ n ∈ α.src, n ∈ met) → α.tgt ∈ met) ∧ (m' : Int) = ((arcsOf s).length : Int) + 1 - many, fun _ _ h => h, ?_⟩
        refine seq_of (asg_of (cb_of (c_of (v_of rfl (n_of ⟨sd, _, rfl, sn.at_, ?_⟩)))))
        rw [kl]
        refine ⟨.ref p, rfl, p, _, 1, _, rfl, rfl, ex_t sn.ex sp, atI_nat (j := 1) rfl, po, rfl, ⟨_, ex_t sn.ex spo⟩, for_tup (xs := os) (fun i σ2 H2 => ∃ met' y2 y5 y6 y7 y8 y9 y10 y11, σ2 = [some (.ref p), some (.ref g), y2, some (.ref sd), some (.int ((met.length : Nat) : Int)), y5, y6, y7, y8, y9, y10, y11, none] ∧ Seen (arcsOf s) s.roots H H2 sd met' ∧ Cl ((s.things.take i).flatMap thingArcs) met met')
          ⟨met, y2, y5, y6, y7, y8, y9, y10, y11, rfl, sn, Cl.nil (List.prefix_refl _)⟩ (fun i σ2 H2 _ ⟨_, _, _, _, _, _, _, _, _, _, h, _⟩ => ex_t h.ex spo) ?_ ?_⟩
        · rintro i x σ2 H2 hx ⟨met', y2, y5, y6, y7, y8, y9, y10, y11, rfl, sn', c⟩
          obtain ⟨δ, hδ, hT⟩ := to.get hx
          rw [List.getElem?_map] at hδ
          cases ht1 : s.things[i]? with
          | none =>
            rw [ht1] at hδ
            cases hδ
          | some t =>
            rw [ht1] at hδ
            cases hδ
            obtain ⟨a, v1, v2, v3, v4, rfl, s1, t1, t2, t3, t4⟩ := Td.inv4 hT
            rw [t1.inv_int, t2.inv_str, t3.inv_str] at s1
            obtain ⟨pp, ps, rfl, s2, tp⟩ := t4.inv_tup
            have tin : t ∈ s.things := List.mem_of_getElem? ht1
            have arcIn : ∀ α ∈ thingArcs t, α ∈ arcsOf s := fun α ha => List.mem_append.mpr (.inr (List.mem_flatMap.mpr ⟨t, tin, ha⟩))
            have fm := flatMap_snoc thingArcs ht1
            have okt := ok.1 t tin
            have hgH : ∀ {H3 : Hp}, Ex H H3 → H3 g = some (.dT []) := fun e => e _ _ hg
            refine ⟨a, _, rfl, ex_t sn'.ex s1, rfl, .int t.n, _, rfl, .str t.home, _, rfl, .str t.sort, _, rfl, .ref pp, _, rfl, rfl, ?_⟩
            dsimp only [gName]
            refine ⟨.int t.n, rfl, .ref sd, rfl, sd, _, rfl, DGet.k (k := Sum.inl t.n) sn'.at_, _, rfl, ?_⟩
            rw [val_kTrue]
            dsimp only
            by_cases hin : t.n ∈ met'
            · rw [decide_eq_true hin, if_pos rfl]
              refine ⟨.str t.sort, rfl, rfl, _, rfl, ?_⟩
              dsimp only
              obtain ⟨tn, hm', sr, tps⟩ := t
              dsimp only at *
              rcases okt with ⟨srt, hp⟩ | ⟨srt, hp⟩ | ⟨srt, hp⟩
              · -- a record
                dsimp only at srt hp
                subst srt
                have eA : thingArcs ⟨tn, hm', "record", tps⟩ = tps.filterMap (slotArc tn) := by
                  unfold thingArcs
                  rw [if_pos rfl]
                rw [decide_eq_false (by decide +kernel), if_pos (show (!false) = true from rfl)]
                refine seq_of (asg_of (if_of (test_of (op_of (v_of rfl (k_of ⟨rfl, _, rfl, ?_⟩))))))
                rw [decide_eq_true rfl, if_pos rfl]
                refine k_of ?_
                refine ⟨.ref pp, rfl, pp, rfl, ⟨_, ex_t sn'.ex s2⟩, for_tup (xs := ps) (fun j σ3 H3 => ∃ met2 y9 y10 y11, σ3 = [some (.ref p), some (.ref g), some (.int tn), some (.ref sd), some (.int ((met.length : Nat) : Int)), some (.str hm'), some (.str "record"), some (.ref pp), some (.str "slot"), y9, y10, y11, none] ∧ Seen (arcsOf s) s.roots H H3 sd met2 ∧ Cl ((s.things.take i).flatMap thingArcs ++ (tps.take j).filterMap (slotArc tn)) met met2 ∧ tn ∈ met2)
                  ⟨met', y9, y10, y11, rfl, sn', by rw [List.take_zero, List.filterMap_nil, List.append_nil]; exact c, hin⟩ (fun j σ3 H3 _ ⟨_, _, _, _, _, h, _⟩ => ex_t h.ex s2) ?_ ?_⟩
                · rintro j x σ3 H3 hx ⟨met2, y9, y10, y11, rfl, sn2, c2, n2⟩
                  obtain ⟨δ, hδ, hT⟩ := tp.get hx
                  rw [List.getElem?_map] at hδ
                  cases hp1 : tps[j]? with
                  | none =>
                    rw [hp1] at hδ
                    cases hδ
                  | some pt =>
                    rw [hp1] at hδ
                    cases hδ
                    obtain ⟨k, v, rfl⟩ := hp pt (List.mem_of_getElem? hp1)
                    obtain ⟨b, w1, w2, rfl, s3, u1, u2⟩ := Td.inv2 hT
                    rw [u1.inv_int, Td.inv_int u2] at s3
                    have ain : (⟨[.inr "slot", .inl tn, .inl k], [tn], v⟩ : Arc) ∈ arcsOf s := arcIn _ (by
                      rw [eA]
                      exact List.mem_filterMap.mpr ⟨_, List.mem_of_getElem? hp1, rfl⟩)
                    have lv : Live (arcsOf s) v := Live.mk ain (fun n hn => by
                      rw [List.mem_singleton.mp hn]
                      exact sn2.live _ n2)
                    have ml2 := live_len sn2.nd sn2.live
                    have kl2 : (kTrue met2).length = met2.length := List.length_map _
                    refine ⟨b, _, rfl, ex_t sn2.ex s3, rfl, .int k, _, rfl, .int v, _, rfl, rfl, ?_⟩
                    dsimp only [gName]
                    refine seq_of (asg_of ⟨_, rfl, rfl, _, rfl, ?_⟩)
                    rw [decide_eq_true rfl, if_pos rfl]
                    refine ⟨.bl true, rfl, true, rfl, ?_⟩
                    dsimp only
                    rw [if_pos rfl]
                    refine ⟨.str "slot", rfl, .int tn, rfl, .int k, rfl, by show 3 ≤ sizeLine; decide, fun q' hq => ?_⟩
                    refine ⟨.ref g, rfl, g, _, rfl, DGet.t (k := [Sum.inr "slot", Sum.inl tn, Sum.inl k]) (hgH (sn2.ex.trans (Ex.new hq))) upd_same, _, rfl, ?_⟩
                    dsimp only
                    rw [if_pos (show (!(valV ([] : List (List Key × V)) [Sum.inr "slot", Sum.inl tn, Sum.inl k]).isSome) = true from rfl)]
                    refine ⟨.ref sd, rfl, .int v, rfl, sd, _, rfl, DPut.k (k := Sum.inl v) (Ex.new hq _ _ sn2.at_) (sz_lt (by omega)), ?_⟩
                    rw [put_ins]
                    refine ⟨insT met2 v, _, _, _, rfl, sn2.put hq hsd0 lv, ?_, insT_mem.mpr (.inl n2)⟩
                    rw [filterMap_snoc _ hp1, ← List.append_assoc]
                    refine (c2.more (insT_pre _ _)).app ⟨c2.1.trans (insT_pre _ _), fun α ha hs => ?_⟩
                    have e : α = (⟨[.inr "slot", .inl tn, .inl k], [tn], v⟩ : Arc) := by
                      have ha' : α ∈ ([⟨[.inr "slot", .inl tn, .inl k], [tn], v⟩] : List Arc) := ha
                      exact List.mem_singleton.mp ha'
                    rw [e]
                    exact insT_mem.mpr (.inr rfl)
                · rintro σ3 H3 ⟨met2, y9, y10, y11, rfl, sn2, c2, n2⟩
                  have lps := tp.len
                  rw [List.length_map] at lps
                  rw [lps, List.take_length, ← eA, ← fm] at c2
                  exact ⟨met2, _, _, _, _, _, _, _, _, rfl, sn2, c2⟩
              · -- a map
                dsimp only at srt hp
                subst srt
                have eA : thingArcs ⟨tn, hm', "map", tps⟩ = tps.filterMap (entryArc tn) := by
                  unfold thingArcs
                  rw [if_neg (show ¬ (("map" : Str) = "record") by decide +kernel), if_pos rfl]
                rw [decide_eq_false (by decide +kernel), if_pos (show (!false) = true from rfl)]
                refine seq_of (asg_of (if_of (test_of (op_of (v_of rfl (k_of ⟨rfl, _, rfl, ?_⟩))))))
                rw [decide_eq_false (by decide +kernel), if_neg Bool.false_ne_true]
                refine k_of ?_
                refine ⟨.ref pp, rfl, pp, rfl, ⟨_, ex_t sn'.ex s2⟩, for_tup (xs := ps) (fun j σ3 H3 => ∃ met2 y9 y10 y11, σ3 = [some (.ref p), some (.ref g), some (.int tn), some (.ref sd), some (.int ((met.length : Nat) : Int)), some (.str hm'), some (.str "map"), some (.ref pp), some (.str "entry"), y9, y10, y11, none] ∧ Seen (arcsOf s) s.roots H H3 sd met2 ∧ Cl ((s.things.take i).flatMap thingArcs ++ (tps.take j).filterMap (entryArc tn)) met met2 ∧ tn ∈ met2)
                  ⟨met', y9, y10, y11, rfl, sn', by rw [List.take_zero, List.filterMap_nil, List.append_nil]; exact c, hin⟩ (fun j σ3 H3 _ ⟨_, _, _, _, _, h, _⟩ => ex_t h.ex s2) ?_ ?_⟩
                · rintro j x σ3 H3 hx ⟨met2, y9, y10, y11, rfl, sn2, c2, n2⟩
                  obtain ⟨δ, hδ, hT⟩ := tp.get hx
                  rw [List.getElem?_map] at hδ
                  cases hp1 : tps[j]? with
                  | none =>
                    rw [hp1] at hδ
                    cases hδ
                  | some pt =>
                    rw [hp1] at hδ
                    cases hδ
                    obtain ⟨k, vo, rfl⟩ := hp pt (List.mem_of_getElem? hp1)
                    obtain ⟨b, w1, w2, rfl, s3, u1, u2⟩ := Td.inv2 hT
                    rw [u1.inv_int] at s3
                    refine ⟨b, _, rfl, ex_t sn2.ex s3, rfl, .int k, _, rfl, w2, _, rfl, rfl, ?_⟩
                    dsimp only [gName]
                    refine seq_of (asg_of ⟨_, rfl, rfl, _, rfl, ?_⟩)
                    rw [decide_eq_false (by decide +kernel), if_neg Bool.false_ne_true]
                    cases vo with
                    | none =>
                      rw [Td.inv_non u2]
                      refine ⟨_, rfl, rfl, _, rfl, ?_⟩
                      rw [if_neg (by decide)]
                      refine ⟨.bl false, rfl, false, rfl, ?_⟩
                      dsimp only
                      rw [if_neg Bool.false_ne_true]
                      try dsimp only
                      rw [if_neg Bool.false_ne_true]
                      refine ⟨met2, _, _, _, rfl, sn2, ?_, n2⟩
                      rw [filterMap_snoc _ hp1, ← List.append_assoc]
                      show Cl (_ ++ []) met met2
                      rw [List.append_nil]
                      exact c2
                    | some v =>
                      rw [Td.inv_int u2]
                      have ain : (⟨[.inr "entry", .inl tn, .inl k], [tn, k], v⟩ : Arc) ∈ arcsOf s := arcIn _ (by
                        rw [eA]
                        exact List.mem_filterMap.mpr ⟨_, List.mem_of_getElem? hp1, rfl⟩)
                      have ml2 := live_len sn2.nd sn2.live
                      have kl2 : (kTrue met2).length = met2.length := List.length_map _
                      refine ⟨_, rfl, rfl, _, rfl, ?_⟩
                      rw [if_pos (show (!decide (V.int v = V.non)) = true from by simp)]
                      refine ⟨.int k, rfl, .ref sd, rfl, sd, _, rfl, DGet.k (k := Sum.inl k) sn2.at_, ?_⟩
                      rw [val_kTrue]
                      refine ⟨.bl (decide (k ∈ met2)), rfl, _, rfl, ?_⟩
                      dsimp only
                      by_cases hk : k ∈ met2
                      · have lv : Live (arcsOf s) v := Live.mk ain (fun n hn => by
                          rcases List.mem_cons.mp hn with e | hn
                          · rw [e]
                            exact sn2.live _ n2
                          · rw [List.mem_singleton.mp hn]
                            exact sn2.live _ hk)
                        rw [decide_eq_true hk, if_pos rfl]
                        refine ⟨.str "entry", rfl, .int tn, rfl, .int k, rfl, by show 3 ≤ sizeLine; decide, fun q' hq => ?_⟩
                        refine ⟨.ref g, rfl, g, _, rfl, DGet.t (k := [Sum.inr "entry", Sum.inl tn, Sum.inl k]) (hgH (sn2.ex.trans (Ex.new hq))) upd_same, _, rfl, ?_⟩
                        dsimp only
                        rw [if_pos (show (!(valV ([] : List (List Key × V)) [Sum.inr "entry", Sum.inl tn, Sum.inl k]).isSome) = true from rfl)]
                        refine ⟨.ref sd, rfl, .int v, rfl, sd, _, rfl, DPut.k (k := Sum.inl v) (Ex.new hq _ _ sn2.at_) (sz_lt (by omega)), ?_⟩
                        rw [put_ins]
                        refine ⟨insT met2 v, _, _, _, rfl, sn2.put hq hsd0 lv, ?_, insT_mem.mpr (.inl n2)⟩
                        rw [filterMap_snoc _ hp1, ← List.append_assoc]
                        refine (c2.more (insT_pre _ _)).app ⟨c2.1.trans (insT_pre _ _), fun α ha hs => ?_⟩
                        have e : α = (⟨[.inr "entry", .inl tn, .inl k], [tn, k], v⟩ : Arc) := by
                          have ha' : α ∈ ([⟨[.inr "entry", .inl tn, .inl k], [tn, k], v⟩] : List Arc) := ha
                          exact List.mem_singleton.mp ha'
                        rw [e]
                        exact insT_mem.mpr (.inr rfl)
                      · rw [decide_eq_false hk, if_neg Bool.false_ne_true]
                        try dsimp only
                        rw [if_neg Bool.false_ne_true]
                        refine ⟨met2, _, _, _, rfl, sn2, ?_, n2⟩
                        rw [filterMap_snoc _ hp1, ← List.append_assoc]
                        refine c2.app ⟨c2.1, fun α ha hs => ?_⟩
                        have e : α = (⟨[.inr "entry", .inl tn, .inl k], [tn, k], v⟩ : Arc) := by
                          have ha' : α ∈ ([⟨[.inr "entry", .inl tn, .inl k], [tn, k], v⟩] : List Arc) := ha
                          exact List.mem_singleton.mp ha'
                        rw [e] at hs
                        exact absurd (c2.1.subset (hs k (List.mem_cons_of_mem _ List.mem_cons_self))) hk
                · rintro σ3 H3 ⟨met2, y9, y10, y11, rfl, sn2, c2, n2⟩
                  have lps := tp.len
                  rw [List.length_map] at lps
                  rw [lps, List.take_length, ← eA, ← fm] at c2
                  exact ⟨met2, _, _, _, _, _, _, _, _, rfl, sn2, c2⟩
              · -- a weak object
                dsimp only at srt hp
                subst srt
                have eA : thingArcs ⟨tn, hm', "weak", tps⟩ = [] := by
                  unfold thingArcs
                  rw [if_neg (show ¬ (("weak" : Str) = "record") by decide +kernel), if_neg (show ¬ (("weak" : Str) = "map") by decide +kernel)]
                rw [decide_eq_true rfl, if_neg (show ¬ (!true) = true from Bool.false_ne_true)]
                refine ⟨met', _, _, _, _, _, _, _, _, rfl, sn', ?_⟩
                rw [fm, eA, List.append_nil]
                exact c
            · rw [decide_eq_false hin, if_neg Bool.false_ne_true]
              try dsimp only
              rw [if_neg Bool.false_ne_true]
              refine ⟨met', _, _, _, _, _, _, _, _, rfl, sn', ?_⟩
              rw [fm]
              exact c.app ⟨c.1, fun α ha hs => absurd (c.1.subset (hs _ (thing_has ha))) hin⟩
        · rintro σ2 H2 ⟨met', y2, y5, y6, y7, y8, y9, y10, y11, rfl, sn', c⟩
          have los := to.len
          rw [List.length_map] at los
          rw [los, List.take_length] at c
          have ml' := live_len sn'.nd sn'.live
          have pl := c.1.length_le
          refine ⟨(arcsOf s).length + 1 - met.length, by omega, met', _, _, _, _, _, _, _, _, _, rfl, sn', by omega, by omega, fun he => ?_, by omega⟩
          have e : met = met' := c.1.eq_of_length (by omega)
          subst e
          intro α ha hs
          rcases List.mem_append.mp ha with h | h
          · obtain ⟨r, hr, rfl⟩ := List.mem_map.mp h
            exact sn'.rt r hr
          · exact c.2 α h hs
      · rw [decide_eq_false hgt, if_neg Bool.false_ne_true]
        refine ⟨.ref sd, rfl, q H' sd met sn.ex hsd0 sn.at_ sn.nd (fun n => ⟨sn.live n, fun hn => ?_⟩) (by omega)⟩
        exact Live.sub (S := fun n => n ∈ met) (cl (by omega)) hn
end
end Sn
namespace Sn
open PySem PySem.Spec PyProof.Rows L2 Evl Gd
/-- may be shown by repr: depth at most k, at most L signs -/
structure Fit (d : PyData) (k L : Nat) : Prop where
  sh : d.showable = true
  nd : d.hasDict = false
  dp : d.depth ≤ k
  ln : d.shown.length ≤ L
structure FitAll (ds : List PyData) (k L : Nat) : Prop where
  sh : PyData.showableAll ds = true
  nd : PyData.hasDictAll ds = false
  dp : PyData.depthAll ds ≤ k
  ln : piled (PyData.shownAll ds) ≤ L
theorem Fit.up {d : PyData} {k L k' L' : Nat} (h : Fit d k L) (a : k ≤ k') (b : L ≤ L') : Fit d k' L' := ⟨h.sh, h.nd, Nat.le_trans h.dp a, Nat.le_trans h.ln b⟩
theorem FitAll.nil {k L : Nat} : FitAll [] k L := ⟨rfl, rfl, Nat.zero_le _, Nat.zero_le _⟩
theorem FitAll.cons {d : PyData} {ds : List PyData} {k a b L : Nat} (h : Fit d k a) (g : FitAll ds k b) (e : a + 2 + b ≤ L) : FitAll (d :: ds) k L := by
  refine ⟨?_, ?_, ?_, ?_⟩
  · rw [PyData.showableAll, h.sh, g.sh]
    rfl
  · rw [PyData.hasDictAll, h.nd, g.nd]
    rfl
  · rw [PyData.depthAll]
    have := h.dp
    have := g.dp
    omega
  · rw [PyData.shownAll, piled_cons]
    have := h.ln
    have := g.ln
    omega
theorem FitAll.map {α : Type} {f : α → PyData} {k a : Nat} : ∀ {l : List α}, (∀ x ∈ l, Fit (f x) k a) → FitAll (l.map f) k ((a + 2) * l.length)
  | [], _ => .nil
  | x :: l, h => by
    refine FitAll.cons (h x List.mem_cons_self) (FitAll.map fun y hy => h y (List.mem_cons_of_mem _ hy)) ?_
    rw [List.length_cons, Nat.mul_succ]
    omega
theorem FitAll.up {ds : List PyData} {k L k' L' : Nat} (h : FitAll ds k L) (a : k ≤ k') (b : L ≤ L') : FitAll ds k' L' := ⟨h.sh, h.nd, Nat.le_trans h.dp a, Nat.le_trans h.ln b⟩
theorem FitAll.tup {ds : List PyData} {k L : Nat} (h : FitAll ds k L) : Fit (.tuple ds) (k + 1) (L + 2) := by
  refine ⟨?_, ?_, ?_, ?_⟩
  · rw [PyData.showable]
    exact h.sh
  · rw [PyData.hasDict]
    exact h.nd
  · rw [PyData.depth]
    have := h.dp
    omega
  · rw [PyData.shown]
    have := fmt_text (PyData.shownAll ds)
    have := h.ln
    omega
theorem FitAll.lst {ds : List PyData} {k L : Nat} (h : FitAll ds k L) : Fit (.list ds) (k + 1) (L + 3) := by
  refine ⟨?_, ?_, ?_, ?_⟩
  · rw [PyData.showable]
    exact h.sh
  · rw [PyData.hasDict]
    exact h.nd
  · rw [PyData.depth]
    have := h.dp
    omega
  · rw [PyData.shown]
    have h1 := listText_len_le (PyData.shownAll ds)
    have h2 := h.ln
    have h3 : ∀ ts : List Str, (ts.map (·.length)).sum + 2 * ts.length = piled ts := by
      intro ts
      induction ts with
      | nil => rfl
      | cons t ts ih =>
        rw [piled_cons, List.map_cons, List.sum_cons, List.length_cons, ← ih]
        omega
    rw [h3] at h1
    omega
theorem fit_int {i : Int} (h : 0 ≤ i ∧ i ≤ 1000) : Fit (.int i) 0 10 := by
  have hb : i.natAbs < 10 ^ 9 := by omega
  refine ⟨?_, rfl, Nat.le_refl _, int_len hb⟩
  have := ints_show [i] (fun m hm => by rw [List.mem_singleton.mp hm]; exact hb)
  rw [List.map_cons, List.map_nil, PyData.showableAll, PyData.showableAll, Bool.and_true] at this
  exact this
theorem fit_none : Fit .none 0 10 := ⟨rfl, rfl, Nat.le_refl _, by decide +kernel⟩
theorem fit_str {z : Str} {L : Nat} (h : (PyData.shown (.str z)).length ≤ L) : Fit (.str z) 0 L := ⟨rfl, rfl, Nat.le_refl _, h⟩
theorem fit_part {p : Part} (h : ∀ i ∈ partInts p, 0 ≤ i ∧ i ≤ 200) : Fit (dPart p) 1 30 := by
  cases p with
  | tgt n =>
    have := h n List.mem_cons_self
    exact (fit_int (i := n) ⟨this.1, by omega⟩).up (by decide) (by decide)
  | pair k v =>
    cases v with
    | none =>
      have := h k List.mem_cons_self
      exact (FitAll.cons (fit_int ⟨this.1, by omega⟩) (FitAll.cons fit_none (FitAll.nil (L := 0)) (Nat.le_refl _)) (Nat.le_refl _)).tup.up (by decide) (by decide)
    | some v =>
      have h1 := h k List.mem_cons_self
      have h2 := h v (List.mem_cons_of_mem _ List.mem_cons_self)
      exact (FitAll.cons (fit_int ⟨h1.1, by omega⟩) (FitAll.cons (fit_int ⟨h2.1, by omega⟩) (FitAll.nil (L := 0)) (Nat.le_refl _)) (Nat.le_refl _)).tup.up (by decide) (by decide)
theorem fit_thing {t : Thing} (h : ThingOk t) : Fit (dThing t) 3 400 := by
  obtain ⟨⟨pl, sm, sh, _⟩, n0, n1, hm⟩ := h
  have f1 : Fit (.str t.home) 2 12 := by
    rcases hm with e | e
    · rw [e]
      exact (fit_str (L := 12) (by decide +kernel)).up (by decide) (by decide)
    · rw [e]
      exact (fit_str (L := 12) (by decide +kernel)).up (by decide) (by decide)
  have f2 : Fit (.str t.sort) 2 12 := by
    rcases sh with ⟨e, _⟩ | ⟨e, _⟩ | ⟨e, _⟩
    · rw [e]
      exact (fit_str (L := 12) (by decide +kernel)).up (by decide) (by decide)
    · rw [e]
      exact (fit_str (L := 12) (by decide +kernel)).up (by decide) (by decide)
    · rw [e]
      exact (fit_str (L := 12) (by decide +kernel)).up (by decide) (by decide)
  have f3 : Fit (.tuple (t.parts.map dPart)) 2 322 := (FitAll.map fun p hp => fit_part (sm p hp)).tup.up (by decide) (by omega)
  exact (FitAll.cons ((fit_int (i := t.n) ⟨n0, by omega⟩).up (by decide) (Nat.le_refl _)) (FitAll.cons f1 (FitAll.cons f2 (FitAll.cons f3 (FitAll.nil (L := 0)) (Nat.le_refl _)) (Nat.le_refl _)) (Nat.le_refl _)) (Nat.le_refl _)).tup.up (by decide) (by decide)
theorem grip_len : ∀ w ∈ words3, ∀ i : Fin 201, (PyData.shown (.str (gripT w ((i.val : Nat) : Int)))).length ≤ 12 := by decide +kernel
theorem name_len : ∀ w ∈ names4, (PyData.shown (.str w)).length ≤ 12 := by decide +kernel
theorem grips_len : ∀ (W : List (Str × List Int)) {fs : List Int}, (∀ z ∈ W, z.2.Sublist fs) → (gripsOf W).length ≤ fs.length * W.length
  | [], _, _ => Nat.zero_le _
  | z :: W, fs, h => by
    have h1 := grips_len W fun y hy => h y (List.mem_cons_of_mem _ hy)
    have h2 := (h z List.mem_cons_self).length_le
    unfold gripsOf at *
    rw [List.flatMap_cons, List.length_append, List.length_map, List.length_cons, Nat.mul_succ]
    omega
theorem RootsOk.root {fs : List Int} {rs : List (Str × Int)} (h : RootsOk fs rs) (fb : ∀ i ∈ fs, 0 ≤ i ∧ i ≤ 200) : (∀ r ∈ rs, RootOk r) ∧ rs.length ≤ 4 + 3 * fs.length := by
  obtain ⟨⟨A, W, perm, fo, wm⟩, _⟩ := h
  constructor
  · intro r hr
    rcases List.mem_append.mp (perm.mem_iff.mp hr) with m | m
    · exact ⟨.inl (fo.nm.mem (List.mem_map.mpr ⟨r, m, rfl⟩)), fb _ (fo.nv r m)⟩
    · obtain ⟨z, hz, m⟩ := List.mem_flatMap.mp m
      obtain ⟨i, hi, rfl⟩ := List.mem_map.mp m
      refine ⟨.inr ⟨z.1, ?_, rfl⟩, fb i ((fo.gr z hz).mem hi)⟩
      rw [← wm]
      exact List.mem_map.mpr ⟨z, hz, rfl⟩
  · rw [perm.length_eq, List.length_append]
    have h1 := fo.nm.length_le
    rw [List.length_map] at h1
    have h2 := grips_len W fo.gr
    have h3 : W.length = 3 := by
      have := congrArg List.length wm
      rw [List.length_map] at this
      exact this
    rw [h3] at h2
    have h4 : names4.length = 4 := rfl
    omega
theorem RootsOk.ins {fs : List Int} {rs : List (Str × Int)} (h : RootsOk fs rs) : ∀ r ∈ rs, r.2 ∈ fs := by
  obtain ⟨⟨A, W, perm, fo, wm⟩, _⟩ := h
  intro r hr
  rcases List.mem_append.mp (perm.mem_iff.mp hr) with m | m
  · exact fo.nv r m
  · obtain ⟨z, hz, m⟩ := List.mem_flatMap.mp m
    obtain ⟨i, hi, rfl⟩ := List.mem_map.mp m
    exact (fo.gr z hz).mem hi
theorem fit_root {r : Str × Int} (h : RootOk r) : Fit (dRoot r) 1 30 := by
  obtain ⟨h1, h2, h3⟩ := h
  have f1 : Fit (.str r.1) 0 12 := by
    rcases h1 with m | ⟨w, hw, e⟩
    · exact fit_str (name_len _ m)
    · rw [e]
      have := grip_len w hw ⟨r.2.toNat, by omega⟩
      have e2 : ((r.2.toNat : Nat) : Int) = r.2 := by omega
      rw [e2] at this
      exact fit_str this
  exact (FitAll.cons f1 (FitAll.cons (fit_int ⟨h2, by omega⟩) (FitAll.nil (L := 0)) (Nat.le_refl _)) (Nat.le_refl _)).tup.up (by decide) (by decide)
theorem Drawn.nums {s : Shot} (h : Drawn s) : ∀ i ∈ s.things.map Thing.n, 0 ≤ i ∧ i ≤ 200 := by
  intro i hi
  obtain ⟨t, ht, rfl⟩ := List.mem_map.mp hi
  exact ⟨(h.th t ht).2.1, (h.th t ht).2.2.1⟩
theorem Drawn.roots {s : Shot} (h : Drawn s) : (∀ r ∈ s.roots, RootOk r) ∧ s.roots.length ≤ 34 := by
  rcases h.rt with ⟨e, _⟩ | r
  · rw [e]
    exact ⟨fun _ h => absurd h List.not_mem_nil, Nat.zero_le _⟩
  · have := r.root h.nums
    rw [List.length_map] at this
    have := h.len
    exact ⟨‹_ ∧ _›.1, by omega⟩
theorem Drawn.fit {s : Shot} (h : Drawn s) : Fit (dShot s) 5 10000 := by
  have hr := h.roots
  have f1 : Fit (.tuple (s.roots.map dRoot)) 4 1200 := (FitAll.map fun r m => fit_root (hr.1 r m)).tup.up (by decide) (by omega)
  have f2 : Fit (.tuple (s.things.map dThing)) 4 4100 := (FitAll.map fun t m => fit_thing (h.th t m)).tup.up (by decide) (by have := h.len; omega)
  exact (FitAll.cons f1 (FitAll.cons f2 (FitAll.nil (L := 0)) (Nat.le_refl _)) (Nat.le_refl _)).tup.up (by decide) (by decide)
theorem thingArcs_len (t : Thing) : (thingArcs t).length ≤ t.parts.length := by
  unfold thingArcs
  split
  · exact List.length_filterMap_le _ _
  · split
    · exact List.length_filterMap_le _ _
    · exact Nat.zero_le _
theorem arcs_len (s : Shot) (k : Nat) (h : ∀ t ∈ s.things, t.parts.length ≤ k) : (arcsOf s).length ≤ s.roots.length + k * s.things.length := by
  unfold arcsOf
  rw [List.length_append, List.length_map]
  have : ∀ l : List Thing, (∀ t ∈ l, t.parts.length ≤ k) → (l.flatMap thingArcs).length ≤ k * l.length := by
    intro l hl
    induction l with
    | nil => exact Nat.zero_le _
    | cons t l ih =>
      rw [List.flatMap_cons, List.length_append, List.length_cons, Nat.mul_succ]
      have h1 := ih fun t ht => hl t (List.mem_cons_of_mem _ ht)
      have h2 := thingArcs_len t
      have h3 := hl t List.mem_cons_self
      omega
  have := this s.things h
  omega
theorem Drawn.tgts {s : Shot} (h : Drawn s) {α : Arc} (m : α ∈ arcsOf s) : α.tgt ∈ s.things.map Thing.n := by
  rcases List.mem_append.mp m with m | m
  · obtain ⟨r, hr, rfl⟩ := List.mem_map.mp m
    rcases h.rt with ⟨e, _⟩ | k
    · rw [e] at hr
      exact absurd hr List.not_mem_nil
    · exact k.ins r hr
  · obtain ⟨t, ht, m⟩ := List.mem_flatMap.mp m
    unfold thingArcs at m
    split at m
    · obtain ⟨p, hp, e⟩ := List.mem_filterMap.mp m
      unfold slotArc at e
      split at e
      · cases e
        exact h.ins t ht _ _ hp
      · cases e
    · split at m
      · obtain ⟨p, hp, e⟩ := List.mem_filterMap.mp m
        unfold entryArc at e
        split at e
        · cases e
          exact h.ins t ht _ _ hp
        · cases e
      · cases m
theorem Drawn.ok {s : Shot} (h : Drawn s) : okShot s := by
  have h1 := arcs_len s 10 fun t ht => (h.th t ht).1.1
  have h2 := h.roots.2
  have h3 := h.len
  refine ok_shot_of (fun t ht => (h.th t ht).1.2.2.1) (fun t ht => ?_) (h.asc.imp fun {a b} l e => by omega) (fun α m => h.tgts m) (by omega) (by omega)
  have := (h.th t ht).1.1
  omega
theorem Drawn.few {s : Shot} (h : Drawn s) {met : List Int} (nd : met.Nodup) (l : ∀ n ∈ met, Live (arcsOf s) n) : met.length ≤ 10 := by
  have h1 := nodup_len (b := s.things.map Thing.n) nd fun n hn => by
    cases l n hn with
    | mk m _ => exact h.tgts m
  rw [List.length_map] at h1
  have := h.len
  omega
end Sn
namespace Sn
open PySem PySem.Spec PyProof.Rows L2 Evl Gd
abbrev sChain : Stmt := topS 15
abbrev sLocks : Stmt := topS 16
abbrev nChain : List Str := ["_law_many", "_law_things", "_law_one"]
abbrev nLocks : List Str := ["_law_many", "_law_one", "_law_things", "_law_anchors_here"]
theorem scChain : FnScope nChain ["_law_many"] (defScope sChain) := ⟨rfl, rfl, rfl, by decide +kernel, rfl, by decide +kernel, by decide +kernel⟩
theorem scLocks : FnScope nLocks ["_law_many"] (defScope sLocks) := ⟨rfl, rfl, rfl, by decide +kernel, rfl, by decide +kernel, by decide +kernel⟩
def chainThing (j : Int) : Thing := ⟨j, "traced", "record", [.pair (j % 6) (some (j + 1))]⟩
def chainShot : Shot := ⟨[("a", 0)], ((List.range 399).map fun i : Nat => chainThing (0 + (i : Int))) ++ [⟨399, "counted", "record", []⟩]⟩
def lockThing (j : Int) : Thing := ⟨j, "counted", "map", [.pair (100 + j + 1) (some (100 + j))]⟩
def weakThing (j : Int) : Thing := ⟨100 + j, "traced", "weak", []⟩
def lockThings : List Thing := ((List.range 100).map fun i : Nat => lockThing (0 + (i : Int))) ++ (List.range 101).map fun i : Nat => weakThing (0 + (i : Int))
abbrev pinT (j : Int) : Str := ("pin " : Str) ++ ((toString j : String) : Str)
def pinRoots : List (Str × Int) := (List.range 100).map fun i : Nat => (pinT (0 + (i : Int)), 0 + (i : Int))
def zRoot : Str × Int := ("z", 200)
def spChain (K : PySem.W.Frag) : Sp := fun vs H Q _ => vs = [.int 400] ∧ ∀ (H' : Hp) (x : V), Ex H H' → Td K H' x (dShot chainShot) → Q x H'
def spLocks (K : PySem.W.Frag) : Sp := fun vs H Q _ => vs = [.int 100] ∧ ∀ (H' : Hp) (x : V) (rs : List (Str × Int)), Ex H H' → Td K H' x (dShot ⟨rs, lockThings⟩) → rs.Perm (pinRoots ++ [zRoot]) → rs.Pairwise (fun r q => ksLt (rKey q) (rKey r) = false) → Q x H'
theorem range_snoc {α : Type} (f : Nat → α) (n : Nat) : (List.range (n + 1)).map f = (List.range n).map f ++ [f n] := by
  rw [List.range_succ, List.map_append]
  rfl
/-- sorted of a list that stands there -/
theorem rSort_of {K : PySem.W.Frag} {H : Hp} {a : Addr} {xs : List V} {rs : List (Str × Int)} {Q : VK} (hx : H a = some (.lst xs)) (hr : RIn H xs rs)
    (k : ∀ (p : Addr) (H2 : Hp) (ys : List V) (rs' : List (Str × Int)), H p = none → Ex H H2 → H2 p = some (.lst ys) → TdAll K H2 ys (rs'.map dRoot) → rs'.Perm rs → rs'.Pairwise (fun r q => ksLt (rKey q) (rKey r) = false) → Q (.ref p) H2) : rSortedK K [.ref a] H Q := by
  have at1 := hr.at
  refine ⟨a, xs, fun x => rKey (kr H x), rfl, sq_of hx, fun x hx => ?_, fun x _ y _ => ?_, fun ys p srt stb hp => ?_⟩
  · obtain ⟨t, e, ht⟩ := at1 x hx
    exact ⟨t, (kr H x).1, [.inl (kr H x).2], e, rfl, ht⟩
  · exact ⟨fun _ => ⟨fun _ => trivial, fun _ => rfl⟩, fun _ => rfl⟩
  · have e2 : Ex H (L2.upd H p (.lst ys)) := Ex.new hp
    have aty : ∀ y ∈ ys, ∃ t, y = V.ref t ∧ H t = some (.tup [.str (kr H y).1, .int (kr H y).2]) := fun y hy => at1 y (stb.perm.mem_iff.mp hy)
    refine k p _ ys (ys.map (kr H)) hp e2 upd_same ((td_roots aty).ex e2) ?_ ?_
    · rw [← hr.kr]
      exact stb.perm.map _
    · exact List.pairwise_map.mpr srt
theorem log_ok {k : Int} (h : 0 ≤ k ∧ k ≤ 1000) : k.natAbs.log2 < 1920 := by
  by_cases z : k.natAbs = 0
  · rw [z]
    decide
  · refine (Nat.log2_lt z).mpr (Nat.lt_of_lt_of_le (show k.natAbs < 2 ^ 10 by omega) (Nat.pow_le_pow_right (by decide) (by decide)))
section
variable {P : Program} {w : World} {K : PySem.W.Frag} {mg : Str → Option Value} {base : Heap}
theorem ok_chain {f : Addr} {fd : FuncData} (F : Fun K "_law_chain" "_law_chain" sChain f fd) (mR : mg "range" = none) (mT : mg "tuple" = none) : FnOk P w K mg base CX0 1 f fd ["_law_many"] (spChain K) := by
  refine F.ok scChain (fun vs H Q E h => ?_) (fun cdv A outer s H vs Q E hr h => ?_)
  · rw [h.1]
    rfl
  · obtain ⟨rfl, q⟩ := h
    refine ⟨_, pss_cons (ps_setLc (i := 1) (own := [("_law_one", 2)]) (g := gName 2) (tt := tYes) rfl scChain.nd rfl rfl (sw_true rfl rfl rfl (by decide +kernel)) (pi_range1 (by rfl) mR (pa_cons (pe_op op_sub (pv 0) pe_int) pa_nil)) (blkOk_by (N := nChain) (sc := defScope sChain) (by decide +kernel))
          (fun _ _ _ _ _ => pg_name (i := 2) scChain.nd rfl (.inl rfl)) (fun _ _ _ _ _ => pts_nil) (fun _ _ _ _ _ => pe_tup (pa_cons (pv 2) (pa_cons pe_str (pa_cons pe_str (pa_cons (pe_tup (pa_cons (pe_tup (pa_cons (pe_op op_mod (pv 2) pe_int) (pa_cons (pe_op op_add (pv 2) pe_int) pa_nil))) pa_nil)) pa_nil))))))
      (pss_one (ps_ret (pe_tup (pa_cons (pe_tup (pa_cons (pe_tup (pa_cons pe_str (pa_cons pe_int pa_nil))) pa_nil)) (pa_cons (pe_callTy call_tuple_of (by rfl) mT (by decide +kernel) (pa_cons (pe_op op_cat (pv 1) (pe_lst (pa_cons (pe_tup (pa_cons (pe_op op_sub (pv 0) pe_int) (pa_cons pe_str (pa_cons pe_str (pa_cons (pe_tup pa_nil) pa_nil))))) pa_nil))) pa_nil)) pa_nil))))), ?_⟩
    refine ⟨.int 400, rfl, 400, 1, rfl, rfl, 399, rfl, by decide, by decide, fun D hD => lc_range (lo := 0) (n := 399) (fun n H' => Ex H H' ∧ ∃ ys, H' D = some (.lst ys) ∧ TdAll K H' ys (((List.range n).map fun i : Nat => chainThing (0 + (i : Int))).map dThing)) ⟨Ex.new hD, [], upd_same, .nil⟩ ?_ ?_⟩
    · rintro i H' hi ⟨e1, ys, h1, h2⟩
      have yl := h2.len
      rw [List.length_map, List.length_map, List.length_range] at yl
      refine ⟨rfl, ?_⟩
      dsimp only [tYes]
      rw [if_pos rfl]
      refine tup_of (c_of (v_of rfl (c_of (k_of (c_of (k_of ?_))))))
      refine c_of (tup_of (c_of (tup_of (c_of (op_of (v_of rfl (k_of ⟨_, _, rfl, rfl, by show (0 : Int) < 6; decide, ?_⟩)))))))
      refine c_of (op_of (v_of rfl (k_of ⟨_, _, rfl, rfl, ?_⟩)))
      refine n_of ⟨by show 2 ≤ sizeLine; decide, fun a ha => n_of ⟨by show 1 ≤ sizeLine; decide, fun b hb => n_of ⟨by show 4 ≤ sizeLine; decide, fun c hc => ?_⟩⟩⟩
      generalize hj : (0 : Int) + (i : Int) = j at ha hb hc ⊢
      have ea : Ex H' (upd H' a (.tup [.int (j % 6), .int (j + 1)])) := Ex.new ha
      have eb : Ex _ (upd (upd H' a (.tup [.int (j % 6), .int (j + 1)])) b (.tup [.ref a])) := Ex.new hb
      have ec : Ex _ (upd (upd (upd H' a (.tup [.int (j % 6), .int (j + 1)])) b (.tup [.ref a])) c (.tup [.int j, .str "traced", .str "record", .ref b])) := Ex.new hc
      have td : Td K (upd (upd (upd H' a (.tup [.int (j % 6), .int (j + 1)])) b (.tup [.ref a])) c (.tup [.int j, .str "traced", .str "record", .ref b])) (.ref c) (dThing (chainThing j)) :=
        .tup (st_of upd_same) (.cons (.int j) (.cons (.str _) (.cons (.str _) (.cons (.tup (st_of (ec _ _ upd_same)) (.cons (.tup (st_of (ec _ _ (eb _ _ upd_same))) (.cons (.int _) (.cons (.int _) .nil))) .nil)) .nil))))
      have e3 := (ea.trans eb).trans ec
      generalize upd (upd (upd H' a (.tup [.int (j % 6), .int (j + 1)])) b (.tup [.ref a])) c (.tup [.int j, .str "traced", .str "record", .ref b]) = H4 at td e3 ⊢
      have D4 := e3 _ _ h1
      refine ⟨ys, D4, sz_lt (by omega), Ex.mut (e1.trans e3) hD, _, upd_same, ?_⟩
      rw [range_snoc, List.map_append, hj]
      exact ((h2.ex e3).snoc td).keep (.lst D4 fun a o n h => by
        rw [upd_ne n]
        exact h)
    · rintro H1 ⟨e1, ys, h1, h2⟩
      have yl := h2.len
      rw [List.length_map, List.length_map, List.length_range] at yl
      dsimp only
      refine ret_of (tup_of (c_of (tup_of (c_of (tup_of (c_of (k_of (c_of (k_of (n_of ⟨by show 2 ≤ sizeLine; decide, fun a ha => n_of ⟨by show 1 ≤ sizeLine; decide, fun b hb => ?_⟩⟩))))))))))
      have ea : Ex H1 (upd H1 a (.tup [.str "a", .int 0])) := Ex.new ha
      have eb : Ex _ (upd (upd H1 a (.tup [.str "a", .int 0])) b (.tup [.ref a])) := Ex.new hb
      have tb : Td K (upd (upd H1 a (.tup [.str "a", .int 0])) b (.tup [.ref a])) (.ref b) (.tuple (chainShot.roots.map dRoot)) := .tup (st_of upd_same) (.cons (.tup (st_of (eb _ _ upd_same)) (.cons (.str _) (.cons (.int _) .nil))) .nil)
      have e2 := ea.trans eb
      generalize upd (upd H1 a (.tup [.str "a", .int 0])) b (.tup [.ref a]) = H2 at tb e2 ⊢
      refine c_of (cb_of (c_of (op_of (v_of rfl ?_))))
      refine lst_of (c_of (tup_of (c_of (op_of (v_of rfl (k_of ⟨_, _, rfl, rfl, ?_⟩))))))
      refine c_of (k_of (c_of (k_of (c_of (tup_of (n_of ⟨Nat.zero_le _, fun c hc => n_of ⟨by show 4 ≤ sizeLine; decide, fun d hd => n_of ⟨by show 1 ≤ sizeLine; decide, fun l hl => ?_⟩⟩⟩))))))
      have ec : Ex H2 (upd H2 c (.tup [])) := Ex.new hc
      have ed : Ex _ (upd (upd H2 c (.tup [])) d (.tup [.int (400 - 1), .str "counted", .str "record", .ref c])) := Ex.new hd
      have el : Ex _ (upd (upd (upd H2 c (.tup [])) d (.tup [.int (400 - 1), .str "counted", .str "record", .ref c])) l (.lst [.ref d])) := Ex.new hl
      have e3 := (ec.trans ed).trans el
      have tdd : Td K (upd (upd (upd H2 c (.tup [])) d (.tup [.int (400 - 1), .str "counted", .str "record", .ref c])) l (.lst [.ref d])) (.ref d) (dThing ⟨399, "counted", "record", []⟩) :=
        .tup (st_of (el _ _ upd_same)) (.cons (.int _) (.cons (.str _) (.cons (.str _) (.cons (.tup (st_of (el _ _ (ed _ _ upd_same))) .nil) .nil))))
      have hl3 : (upd (upd (upd H2 c (.tup [])) d (.tup [.int (400 - 1), .str "counted", .str "record", .ref c])) l (.lst [.ref d])) l = some (.lst [.ref d]) := upd_same
      generalize upd (upd (upd H2 c (.tup [])) d (.tup [.int (400 - 1), .str "counted", .str "record", .ref c])) l (.lst [.ref d]) = H3 at e3 tdd hl3 ⊢
      refine ⟨D, l, ys, [.ref d], rfl, rfl, e3 _ _ (e2 _ _ h1), hl3, by show ys.length + 1 ≤ sizeLine; rw [sizeLine_eq]; omega, fun m hm => ?_⟩
      have em : Ex H3 (upd H3 m (.lst (ys ++ [.ref d]))) := Ex.new hm
      refine n_of ⟨m, _, rfl, .inl ⟨sq_of upd_same, fun t ht => ?_⟩⟩
      have et : Ex _ (upd (upd H3 m (.lst (ys ++ [.ref d]))) t (.tup (ys ++ [.ref d]))) := Ex.new ht
      refine n_of ⟨by show 2 ≤ sizeLine; decide, fun u hu => ?_⟩
      have eu : Ex _ (upd (upd (upd H3 m (.lst (ys ++ [.ref d]))) t (.tup (ys ++ [.ref d]))) u (.tup [.ref b, .ref t])) := Ex.new hu
      have e4 := (em.trans et).trans eu
      refine q _ (.ref u) (((e1.trans e2).trans e3).trans e4) ?_
      refine .tup (st_of upd_same) (.cons ((tb.ex e3).ex e4) (.cons (.tup (st_of (eu _ _ upd_same)) ?_) .nil))
      show TdAll K _ _ (chainShot.things.map dThing)
      unfold chainShot
      rw [List.map_append]
      exact ((((h2.ex e2).ex e3).snoc tdd)).ex e4
end
end Sn
namespace Sn
open PySem PySem.Spec PyProof.Rows L2 Evl Gd
section
variable {P : Program} {w : World} {K : PySem.W.Frag} {mg : Str → Option Value} {base : Heap}
theorem ok_locks {f : Addr} {fd : FuncData} (F : Fun K "_law_locks" "_law_locks" sLocks f fd) (mR : mg "range" = none) (mT : mg "tuple" = none) (mS : mg "str" = none) (mO : mg "sorted" = none) : FnOk P w K mg base CX0 1 f fd ["_law_many"] (spLocks K) := by
  refine F.ok scLocks (fun vs H Q E h => ?_) (fun cdv A outer s H vs Q E hr h => ?_)
  · rw [h.1]
    rfl
  · obtain ⟨rfl, q⟩ := h
    refine ⟨_, pss_cons (ps_par (i := 2) (j := 3) rfl scLocks.nd rfl rfl (by decide) rfl rfl (pa_cons (pe_lst pa_nil) (pa_cons (pe_lc (own := [("_law_one", 1)]) (g := gName 1) (tt := tYes) rfl scLocks.nd (pi_range1 (by rfl) mR (pa_cons (pv 0) pa_nil)) (blkOk_by (N := nLocks) (sc := defScope sLocks) (by decide +kernel))
          (fun _ _ _ _ _ => pg_name (i := 1) scLocks.nd rfl (.inl rfl)) (fun _ _ _ _ _ => pts_nil) (fun _ _ _ _ _ => pe_tup (pa_cons (pe_op op_add_str pe_str (pe_callTy call_str_int (by rfl) mS (by decide +kernel) (pa_cons (pv 1) pa_nil))) (pa_cons (pv 1) pa_nil)))) pa_nil)) (by rfl)) <|
      pss_cons (ps_for PassesOwn.never rfl (pi_range1 (by rfl) mR (pa_cons (pv 0) pa_nil)) (pg_name (i := 1) scLocks.nd rfl (.inl rfl))
        (pss_one (ps_expr (pe_bm PySem.F.plainAttrs_list PySem.F.slot_list_append PySem.F.type_list_append mt_append (pv 2) (pa_cons (pe_tup (pa_cons (pv 1) <| pa_cons pe_str <| pa_cons pe_str <| pa_cons (pe_tup (pa_cons (pe_tup (pa_cons (pe_op op_add (pe_op op_add (pv 0) (pv 1)) pe_int) <| pa_cons (pe_op op_add (pv 0) (pv 1)) pa_nil)) pa_nil)) pa_nil)) pa_nil))))) <|
      pss_cons (ps_expr (pe_bm PySem.F.plainAttrs_list PySem.F.slot_list_extend PySem.F.type_list_extend mt_extend (pv 2) (pa_cons (pe_lc (own := [("_law_one", 1)]) (g := gName 1) (tt := tYes) rfl scLocks.nd (pi_range1 (by rfl) mR (pa_cons (pe_op op_add (pv 0) pe_int) pa_nil)) (blkOk_by (N := nLocks) (sc := defScope sLocks) (by decide +kernel))
          (fun _ _ _ _ _ => pg_name (i := 1) scLocks.nd rfl (.inl rfl)) (fun _ _ _ _ _ => pts_nil) (fun _ _ _ _ _ => pe_tup (pa_cons (pe_op op_add (pv 0) (pv 1)) <| pa_cons pe_str <| pa_cons pe_str <| pa_cons (pe_tup pa_nil) pa_nil))) pa_nil))) <|
      pss_one (ps_ret (pe_tup (pa_cons (pe_callTy call_tuple_of (by rfl) mT (by decide +kernel) (pa_cons (pe_callB cr_sortedK (by rfl) mO (by decide +kernel) (pa_cons (pe_op op_cat (pv 3) (pe_lst (pa_cons (pe_tup (pa_cons pe_str <| pa_cons (pe_op op_mul pe_int (pv 0)) pa_nil)) pa_nil))) pa_nil)) pa_nil)) <| pa_cons (pe_callTy call_tuple_of (by rfl) mT (by decide +kernel) (pa_cons (pv 2) pa_nil)) pa_nil))), ?_⟩
    refine seq_of (par_of ?_)
    refine c_of (lst_of (n_of ⟨Nat.zero_le _, fun th hth => ?_⟩))
    have e0 : Ex H (upd H th (.lst [])) := Ex.new hth
    have t0 : (upd H th (.lst [])) th = some (.lst []) := upd_same
    generalize upd H th (.lst []) = H1 at e0 t0 ⊢
    refine c_of ?_
    refine ⟨.int 100, rfl, 100, rfl, by decide, by decide, fun D hD => lc_range (lo := 0) (n := 100) (fun n H' => Ex H1 H' ∧ ∃ ys, H' D = some (.lst ys) ∧ RIn H' ys ((List.range n).map fun i : Nat => (pinT (0 + (i : Int)), 0 + (i : Int)))) ⟨Ex.new hD, [], upd_same, .nil⟩ ?_ ?_⟩
    · rintro i H' hi ⟨e1, ys, h1, h2⟩
      have yl := h2.len
      rw [List.length_map, List.length_range] at yl
      refine ⟨rfl, ?_⟩
      dsimp only [tYes]
      rw [if_pos rfl]
      have jb : 0 ≤ (0 : Int) + (i : Int) ∧ (0 : Int) + (i : Int) ≤ 1000 := by omega
      have tl : ((toString ((0 : Int) + (i : Int)) : String) : Str).length ≤ 10 := int_len (by omega)
      refine tup_of (c_of (op_of (k_of ?_)))
      refine cb_of (c_of (v_of rfl (n_of ⟨_, rfl, log_ok jb, ?_⟩)))
      refine ⟨_, _, rfl, rfl, ?_, ?_⟩
      · rw [sizeLine_eq]
        show 4 + _ ≤ _
        omega
      refine c_of (v_of rfl (n_of ⟨by show 2 ≤ sizeLine; decide, fun a ha => ?_⟩))
      have ea : Ex H' (upd H' a (.tup [.str (pinT (0 + (i : Int))), .int (0 + (i : Int))])) := Ex.new ha
      have ra : RIn (upd H' a (.tup [.str (pinT (0 + (i : Int))), .int (0 + (i : Int))])) [.ref a] [(pinT (0 + (i : Int)), 0 + (i : Int))] := .one upd_same
      have D4 := ea _ _ h1
      refine ⟨ys, D4, sz_lt (by omega), Ex.mut (e1.trans ea) hD, _, upd_same, ?_⟩
      rw [range_snoc]
      exact ((h2.keep (.of ea)).app ra).keep (.lst D4 fun a o n h => by
        rw [upd_ne n]
        exact h)
    · rintro H2 ⟨e1, as, hA, rA⟩
      have al := rA.len
      rw [List.length_map, List.length_range] at al
      have t2 := e1 _ _ t0
      have nDt : D ≠ th := (ne_of_none t0 hD).symm
      have hD0 : H D = none := fresh_back e0 hD
      refine n_of ⟨_, _, rfl, ?_⟩
      refine ⟨.int 100, rfl, 100, rfl, by decide, by decide, for_range (lo := 0) (n := 100) (fun i σ' H' => ∃ y1, σ' = [some (.int 100), y1, some (.ref th), some (.ref D)] ∧ Ex H H' ∧ H' D = some (.lst as) ∧ RIn H' as pinRoots ∧ ∃ ys, H' th = some (.lst ys) ∧ TdAll K H' ys (((List.range i).map fun i : Nat => lockThing (0 + (i : Int))).map dThing))
        ⟨none, rfl, e0.trans e1, hA, rA, [], t2, .nil⟩ ?_ ?_⟩
      · rintro i σ' H' hi ⟨y1, rfl, eH, hD', rA', ys, h1, h2⟩
        have yl := h2.len
        rw [List.length_map, List.length_map, List.length_range] at yl
        dsimp only [gName]
        refine ⟨.ref th, rfl, .inl ⟨rfl, _, sq_of h1⟩, ?_⟩
        refine c_of (tup_of (c_of (v_of rfl (c_of (k_of (c_of (k_of ?_)))))))
        refine c_of (tup_of (c_of (tup_of (c_of (op_of (op_of (v_of rfl (v_of rfl ⟨_, _, rfl, rfl, k_of ⟨_, _, rfl, rfl, ?_⟩⟩))))))))
        refine c_of (op_of (v_of rfl (v_of rfl ⟨_, _, rfl, rfl, ?_⟩)))
        refine n_of ⟨by show 2 ≤ sizeLine; decide, fun a ha => n_of ⟨by show 1 ≤ sizeLine; decide, fun b hb => n_of ⟨by show 4 ≤ sizeLine; decide, fun c hc => ?_⟩⟩⟩
        generalize hj : (0 : Int) + (i : Int) = j at ha hb hc ⊢
        have ea : Ex H' (upd H' a (.tup [.int (100 + j + 1), .int (100 + j)])) := Ex.new ha
        have eb : Ex _ (upd (upd H' a (.tup [.int (100 + j + 1), .int (100 + j)])) b (.tup [.ref a])) := Ex.new hb
        have ec : Ex _ (upd (upd (upd H' a (.tup [.int (100 + j + 1), .int (100 + j)])) b (.tup [.ref a])) c (.tup [.int j, .str "counted", .str "map", .ref b])) := Ex.new hc
        have td : Td K (upd (upd (upd H' a (.tup [.int (100 + j + 1), .int (100 + j)])) b (.tup [.ref a])) c (.tup [.int j, .str "counted", .str "map", .ref b])) (.ref c) (dThing (lockThing j)) :=
          .tup (st_of upd_same) (.cons (.int j) (.cons (.str _) (.cons (.str _) (.cons (.tup (st_of (ec _ _ upd_same)) (.cons (.tup (st_of (ec _ _ (eb _ _ upd_same))) (.cons (.int _) (.cons (.int _) .nil))) .nil)) .nil))))
        have e3 := (ea.trans eb).trans ec
        generalize upd (upd (upd H' a (.tup [.int (100 + j + 1), .int (100 + j)])) b (.tup [.ref a])) c (.tup [.int j, .str "counted", .str "map", .ref b]) = H4 at td e3 ⊢
        have T4 := e3 _ _ h1
        refine n_of ⟨th, ys, _, rfl, rfl, T4, sz_lt (by omega), ?_⟩
        have kN : KeepN H4 (upd H4 th (.lst (ys ++ [.ref c]))) := .lst T4 fun a o n h => by
          rw [upd_ne n]
          exact h
        refine ⟨_, rfl, Ex.mut (eH.trans e3) hth, by rw [upd_ne nDt]; exact e3 _ _ hD', (rA'.keep (.of e3)).keep kN, _, upd_same, ?_⟩
        rw [range_snoc, List.map_append, hj]
        exact ((h2.ex e3).snoc td).keep kN.t
      · rintro σ' H' ⟨y1, rfl, eH, hD', rA', ys, h1, h2⟩
        have yl := h2.len
        rw [List.length_map, List.length_map, List.length_range] at yl
        refine ⟨.ref th, rfl, .inl ⟨rfl, _, sq_of h1⟩, ?_⟩
        refine c_of ?_
        refine ⟨.int 100, rfl, 100, 1, rfl, rfl, 101, rfl, by decide, by decide, fun G hG => lc_range (lo := 0) (n := 101) (fun n H2 => Ex H' H2 ∧ ∃ zs, H2 G = some (.lst zs) ∧ TdAll K H2 zs (((List.range n).map fun i : Nat => weakThing (0 + (i : Int))).map dThing)) ⟨Ex.new hG, [], upd_same, .nil⟩ ?_ ?_⟩
        · rintro i H2 hi ⟨e1, zs, g1, g2⟩
          have zl := g2.len
          rw [List.length_map, List.length_map, List.length_range] at zl
          refine ⟨rfl, ?_⟩
          dsimp only [tYes]
          rw [if_pos rfl]
          refine tup_of (c_of (op_of (v_of rfl (v_of rfl ⟨_, _, rfl, rfl, ?_⟩))))
          refine c_of (k_of (c_of (k_of (c_of (tup_of (n_of ⟨Nat.zero_le _, fun a ha => n_of ⟨by show 4 ≤ sizeLine; decide, fun c hc => ?_⟩⟩))))))
          generalize hj : (0 : Int) + (i : Int) = j at ha hc ⊢
          have ea : Ex H2 (upd H2 a (.tup [])) := Ex.new ha
          have ec : Ex _ (upd (upd H2 a (.tup [])) c (.tup [.int (100 + j), .str "traced", .str "weak", .ref a])) := Ex.new hc
          have td : Td K (upd (upd H2 a (.tup [])) c (.tup [.int (100 + j), .str "traced", .str "weak", .ref a])) (.ref c) (dThing (weakThing j)) :=
            .tup (st_of upd_same) (.cons (.int _) (.cons (.str _) (.cons (.str _) (.cons (.tup (st_of (ec _ _ upd_same)) .nil) .nil))))
          have e3 := ea.trans ec
          generalize upd (upd H2 a (.tup [])) c (.tup [.int (100 + j), .str "traced", .str "weak", .ref a]) = H4 at td e3 ⊢
          have G4 := e3 _ _ g1
          refine ⟨zs, G4, sz_lt (by omega), Ex.mut (e1.trans e3) hG, _, upd_same, ?_⟩
          rw [range_snoc, List.map_append, hj]
          exact ((g2.ex e3).snoc td).keep (.lst G4 fun a o n h => by
            rw [upd_ne n]
            exact h)
        · rintro H2 ⟨e1, zs, g1, g2⟩
          have zl := g2.len
          rw [List.length_map, List.length_map, List.length_range] at zl
          have T2 := e1 _ _ h1
          refine n_of ⟨th, G, ys, zs, rfl, rfl, T2, g1, by rw [sizeLine_eq]; omega, ?_⟩
          have kN : KeepN H2 (upd H2 th (.lst (ys ++ zs))) := .lst T2 fun a o n h => by
            rw [upd_ne n]
            exact h
          have eH3 : Ex H (upd H2 th (.lst (ys ++ zs))) := Ex.mut (eH.trans e1) hth
          have D3 : (upd H2 th (.lst (ys ++ zs))) D = some (.lst as) := by
            rw [upd_ne nDt]
            exact e1 _ _ hD'
          have rA3 := (rA'.keep (.of e1)).keep kN
          have T3 : (upd H2 th (.lst (ys ++ zs))) th = some (.lst (ys ++ zs)) := upd_same
          have td3 : TdAll K (upd H2 th (.lst (ys ++ zs))) (ys ++ zs) (lockThings.map dThing) := by
            unfold lockThings
            rw [List.map_append]
            exact ((h2.ex e1).app g2).keep kN.t
          generalize upd H2 th (.lst (ys ++ zs)) = H3 at eH3 D3 rA3 T3 td3 ⊢
          dsimp only
          refine ret_of (tup_of ?_)
          refine c_of (cb_of ?_)
          refine c_of (cb_of ?_)
          refine c_of (op_of (v_of rfl ?_))
          refine lst_of (c_of (tup_of (c_of (k_of (c_of (op_of (k_of (v_of rfl ⟨_, _, rfl, rfl, .inl ⟨by decide, by decide⟩, n_of ⟨by show 2 ≤ sizeLine; decide, fun a ha => n_of ⟨by show 1 ≤ sizeLine; decide, fun l hl => ?_⟩⟩⟩))))))))
          have ea : Ex H3 (upd H3 a (.tup [.str "z", .int (2 * 100)])) := Ex.new ha
          have el : Ex _ (upd (upd H3 a (.tup [.str "z", .int (2 * 100)])) l (.lst [.ref a])) := Ex.new hl
          have rz : RIn (upd (upd H3 a (.tup [.str "z", .int (2 * 100)])) l (.lst [.ref a])) [.ref a] [zRoot] := .one (el _ _ upd_same)
          have hl3 : (upd (upd H3 a (.tup [.str "z", .int (2 * 100)])) l (.lst [.ref a])) l = some (.lst [.ref a]) := upd_same
          have e3 := ea.trans el
          generalize upd (upd H3 a (.tup [.str "z", .int (2 * 100)])) l (.lst [.ref a]) = H4 at rz hl3 e3 ⊢
          refine ⟨D, l, as, [.ref a], rfl, rfl, e3 _ _ D3, hl3, by show as.length + 1 ≤ sizeLine; rw [sizeLine_eq]; omega, fun m hm => ?_⟩
          have em : Ex H4 (upd H4 m (.lst (as ++ [.ref a]))) := Ex.new hm
          refine n_of (rSort_of (rs := pinRoots ++ [zRoot]) upd_same (((rA3.keep (.of e3)).app rz).keep (.of em)) fun p H5 ys' rs' hp e5 h5 td5 perm srt => n_of ⟨p, ys', rfl, .inl ⟨sq_of h5, fun t ht => ?_⟩⟩)
          have et : Ex H5 (upd H5 t (.tup ys')) := Ex.new ht
          have e35 := ((e3.trans em).trans e5).trans et
          refine c_of (cb_of (c_of (v_of rfl (n_of ⟨th, _, rfl, .inl ⟨sq_of (e35 _ _ T3), fun u hu => ?_⟩⟩))))
          have eu : Ex _ (upd (upd H5 t (.tup ys')) u (.tup (ys ++ zs))) := Ex.new hu
          refine n_of ⟨by show 2 ≤ sizeLine; decide, fun v hv => ?_⟩
          have ev : Ex _ (upd (upd (upd H5 t (.tup ys')) u (.tup (ys ++ zs))) v (.tup [.ref t, .ref u])) := Ex.new hv
          refine q _ (.ref v) rs' (eH3.trans ((e35.trans eu).trans ev)) ?_ perm srt
          exact .tup (st_of upd_same) (.cons (.tup (st_of (ev _ _ (eu _ _ upd_same))) (((td5.ex et).ex eu).ex ev)) (.cons (.tup (st_of (ev _ _ upd_same)) (((td3.ex e35).ex eu).ex ev)) .nil))
end
end Sn
namespace Sn
open PySem PySem.Spec PyProof.Rows L2 Evl Gd
abbrev upTo (n : Nat) : List Int := (List.range n).map fun i : Nat => (0 : Int) + (i : Int)
theorem upTo_mem {n : Nat} {m : Int} : m ∈ upTo n ↔ 0 ≤ m ∧ m < (n : Int) := by
  constructor
  · intro h
    obtain ⟨i, hi, rfl⟩ := List.mem_map.mp h
    have := List.mem_range.mp hi
    omega
  · rintro ⟨h0, h1⟩
    exact List.mem_map.mpr ⟨m.toNat, List.mem_range.mpr (by omega), by omega⟩
theorem upTo_asc (n : Nat) : (upTo n).Pairwise (· < ·) := by
  refine List.pairwise_map.mpr ?_
  refine List.Pairwise.imp (fun {a b} h => ?_) List.pairwise_lt_range
  omega
theorem rgV_upTo (n : Nat) : rgV 0 (n : Int) = (upTo n).map V.int := by
  unfold rgV
  rw [List.map_map, show ((n : Int) - 0).toNat = n by omega]
  rfl
theorem is_upTo {n : Nat} {ns : List Int} {S : Int → Prop} (h : ns.Pairwise (· < ·)) (h1 : ∀ m, m ∈ ns ↔ S m) (h2 : ∀ m, S m ↔ 0 ≤ m ∧ m < (n : Int)) : ns = upTo n :=
  asc_uniq h (upTo_asc n) fun m => (h1 m).trans ((h2 m).trans upTo_mem.symm)
theorem chain_arc {α : Arc} (h : α ∈ arcsOf chainShot) : α = rootArc ("a", 0) ∨ ∃ i : Nat, i < 399 ∧ α = ⟨[.inr "slot", .inl (0 + (i : Int)), .inl ((0 + (i : Int)) % 6)], [0 + (i : Int)], 0 + (i : Int) + 1⟩ := by
  rcases List.mem_append.mp h with m | m
  · exact .inl (List.mem_singleton.mp m)
  · obtain ⟨t, ht, m⟩ := List.mem_flatMap.mp m
    rcases List.mem_append.mp ht with k | k
    · obtain ⟨i, hi, rfl⟩ := List.mem_map.mp k
      exact .inr ⟨i, List.mem_range.mp hi, List.mem_singleton.mp m⟩
    · rw [List.mem_singleton.mp k] at m
      cases m
theorem chain_live (m : Int) : Live (arcsOf chainShot) m ↔ 0 ≤ m ∧ m < ((400 : Nat) : Int) := by
  constructor
  · intro h
    refine Live.sub (S := fun m => 0 ≤ m ∧ m < ((400 : Nat) : Int)) (fun α ha hs => ?_) h
    rcases chain_arc ha with rfl | ⟨i, hi, rfl⟩
    · exact ⟨by decide, by decide⟩
    · dsimp only
      omega
  · have key : ∀ n : Nat, n < 400 → Live (arcsOf chainShot) (n : Int) := by
      intro n
      induction n with
      | zero => exact fun _ => Live.mk (α := rootArc ("a", 0)) (List.mem_append.mpr (.inl List.mem_cons_self)) fun _ h => absurd h List.not_mem_nil
      | succ n ih =>
        intro hn
        have l := ih (by omega)
        have m : (⟨[.inr "slot", .inl (0 + (n : Int)), .inl ((0 + (n : Int)) % 6)], [0 + (n : Int)], 0 + (n : Int) + 1⟩ : Arc) ∈ arcsOf chainShot :=
          List.mem_append.mpr (.inr (List.mem_flatMap.mpr ⟨chainThing (0 + (n : Int)), List.mem_append.mpr (.inl (List.mem_map.mpr ⟨n, List.mem_range.mpr (by omega), rfl⟩)), List.mem_singleton.mpr rfl⟩))
        have e := Live.mk m fun k hk => by
          rw [List.mem_singleton.mp hk, show (0 : Int) + (n : Int) = (n : Int) by omega]
          exact l
        rw [show (((n + 1 : Nat)) : Int) = 0 + (n : Int) + 1 by omega]
        exact e
    rintro ⟨h0, h1⟩
    have := key m.toNat (by omega)
    rw [show ((m.toNat : Nat) : Int) = m by omega] at this
    exact this
theorem chain_ns : chainShot.things.map Thing.n = upTo 400 := by decide +kernel
theorem upTo_nodup (n : Nat) : (upTo n).Nodup := (upTo_asc n).imp fun {a b} h e => by omega
theorem chain_ok : okShot chainShot := by
  have h1 := arcs_len chainShot 1 fun t ht => by
    rcases List.mem_append.mp ht with k | k
    · obtain ⟨i, hi, rfl⟩ := List.mem_map.mp k
      exact Nat.le_refl 1
    · rw [List.mem_singleton.mp k]
      exact Nat.zero_le 1
  have h2 : chainShot.things.length = 400 := by
    unfold chainShot
    rw [List.length_append, List.length_map, List.length_range]
    rfl
  have h3 : chainShot.roots.length = 1 := rfl
  refine ok_shot_of (fun t ht => ?_) (fun t ht => ?_) (by rw [chain_ns]; exact upTo_nodup 400) (fun α ha => ?_) (by omega) (by omega)
  · rcases List.mem_append.mp ht with k | k
    · obtain ⟨i, hi, rfl⟩ := List.mem_map.mp k
      exact .inl ⟨rfl, fun p hp => ⟨_, _, List.mem_singleton.mp hp⟩⟩
    · rw [List.mem_singleton.mp k]
      exact .inl ⟨rfl, fun p hp => absurd hp List.not_mem_nil⟩
  · rcases List.mem_append.mp ht with k | k
    · obtain ⟨i, hi, rfl⟩ := List.mem_map.mp k
      exact (show 1 ≤ 1000 by decide)
    · rw [List.mem_singleton.mp k]
      exact Nat.zero_le _
  · rw [chain_ns, upTo_mem]
    rcases chain_arc ha with rfl | ⟨i, hi, rfl⟩
    · exact ⟨by decide, by decide⟩
    · dsimp only
      omega
theorem lock_arc {rs : List (Str × Int)} {α : Arc} (h : α ∈ arcsOf ⟨rs, lockThings⟩) : (∃ r ∈ rs, α = rootArc r) ∨ ∃ i : Nat, i < 100 ∧ α = ⟨[.inr "entry", .inl (0 + (i : Int)), .inl (100 + (0 + (i : Int)) + 1)], [0 + (i : Int), 100 + (0 + (i : Int)) + 1], 100 + (0 + (i : Int))⟩ := by
  rcases List.mem_append.mp h with m | m
  · obtain ⟨r, hr, e⟩ := List.mem_map.mp m
    exact .inl ⟨r, hr, e.symm⟩
  · obtain ⟨t, ht, m⟩ := List.mem_flatMap.mp m
    rcases List.mem_append.mp ht with k | k
    · obtain ⟨i, hi, rfl⟩ := List.mem_map.mp k
      refine .inr ⟨i, List.mem_range.mp hi, List.mem_singleton.mp ?_⟩
      have e : thingArcs (lockThing (0 + (i : Int))) = [⟨[.inr "entry", .inl (0 + (i : Int)), .inl (100 + (0 + (i : Int)) + 1)], [0 + (i : Int), 100 + (0 + (i : Int)) + 1], 100 + (0 + (i : Int))⟩] := by
        unfold thingArcs lockThing
        rw [if_neg (show ¬ ((("map" : Str)) = "record") by decide +kernel), if_pos rfl]
        rfl
      rw [e] at m
      exact m
    · obtain ⟨i, hi, rfl⟩ := List.mem_map.mp k
      have e : thingArcs (weakThing (0 + (i : Int))) = [] := by
        unfold thingArcs weakThing
        rw [if_neg (show ¬ ((("weak" : Str)) = "record") by decide +kernel), if_neg (show ¬ ((("weak" : Str)) = "map") by decide +kernel)]
      rw [e] at m
      cases m
theorem lock_has {rs : List (Str × Int)} {i : Nat} (hi : i < 100) : (⟨[.inr "entry", .inl (0 + (i : Int)), .inl (100 + (0 + (i : Int)) + 1)], [0 + (i : Int), 100 + (0 + (i : Int)) + 1], 100 + (0 + (i : Int))⟩ : Arc) ∈ arcsOf ⟨rs, lockThings⟩ := by
  refine List.mem_append.mpr (.inr (List.mem_flatMap.mpr ⟨lockThing (0 + (i : Int)), List.mem_append.mpr (.inl (List.mem_map.mpr ⟨i, List.mem_range.mpr hi, rfl⟩)), ?_⟩))
  unfold thingArcs lockThing
  rw [if_neg (show ¬ ((("map" : Str)) = "record") by decide +kernel), if_pos rfl]
  exact List.mem_singleton.mpr rfl
theorem pin_live {rs : List (Str × Int)} (h : ∀ r ∈ pinRoots, r ∈ rs) {i : Nat} (hi : i < 100) : Live (arcsOf ⟨rs, lockThings⟩) (i : Int) := by
  have m : (pinT (0 + (i : Int)), (0 : Int) + (i : Int)) ∈ rs := h _ (List.mem_map.mpr ⟨i, List.mem_range.mpr hi, rfl⟩)
  have l := Live.mk (as := arcsOf ⟨rs, lockThings⟩) (α := rootArc (pinT (0 + (i : Int)), 0 + (i : Int))) (List.mem_append.mpr (.inl (List.mem_map.mpr ⟨_, m, rfl⟩))) fun _ h => absurd h List.not_mem_nil
  have e : (rootArc (pinT (0 + (i : Int)), 0 + (i : Int))).tgt = (i : Int) := by
    show (0 : Int) + (i : Int) = _
    omega
  rw [e] at l
  exact l
theorem pin_val {r : Str × Int} (h : r ∈ pinRoots) : 0 ≤ r.2 ∧ r.2 < 100 := by
  obtain ⟨i, hi, rfl⟩ := List.mem_map.mp h
  have := List.mem_range.mp hi
  dsimp only
  omega
theorem locks_live {rs : List (Str × Int)} (h : rs.Perm (pinRoots ++ [zRoot])) (m : Int) : Live (arcsOf ⟨rs, lockThings⟩) m ↔ 0 ≤ m ∧ m < ((201 : Nat) : Int) := by
  have hp : ∀ r ∈ pinRoots, r ∈ rs := fun r hr => h.mem_iff.mpr (List.mem_append.mpr (.inl hr))
  have hz : zRoot ∈ rs := h.mem_iff.mpr (List.mem_append.mpr (.inr List.mem_cons_self))
  constructor
  · intro l
    refine Live.sub (S := fun m => 0 ≤ m ∧ m < ((201 : Nat) : Int)) (fun α ha hs => ?_) l
    rcases lock_arc ha with ⟨r, hr, rfl⟩ | ⟨i, hi, rfl⟩
    · rcases List.mem_append.mp (h.mem_iff.mp hr) with k | k
      · have := pin_val k
        show 0 ≤ r.2 ∧ r.2 < _
        omega
      · rw [List.mem_singleton.mp k]
        exact ⟨by decide, by decide⟩
    · dsimp only
      omega
  · have l200 : Live (arcsOf ⟨rs, lockThings⟩) 200 := Live.mk (as := arcsOf ⟨rs, lockThings⟩) (α := rootArc zRoot) (List.mem_append.mpr (.inl (List.mem_map.mpr ⟨_, hz, rfl⟩))) fun _ h => absurd h List.not_mem_nil
    have key : ∀ n : Nat, n ≤ 100 → Live (arcsOf ⟨rs, lockThings⟩) (200 - (n : Int)) := by
      intro n
      induction n with
      | zero => exact fun _ => l200
      | succ n ih =>
        intro hn
        have l := ih (by omega)
        have hi : 99 - n < 100 := by omega
        have e := Live.mk (lock_has (rs := rs) hi) fun k hk => by
          rcases List.mem_cons.mp hk with e | hk
          · rw [e, show (0 : Int) + ((99 - n : Nat) : Int) = ((99 - n : Nat) : Int) by omega]
            exact pin_live hp hi
          · rw [List.mem_singleton.mp hk, show (100 : Int) + (0 + ((99 - n : Nat) : Int)) + 1 = 200 - (n : Int) by omega]
            exact l
        dsimp only at e
        rw [show (100 : Int) + (0 + ((99 - n : Nat) : Int)) = 200 - ((n + 1 : Nat) : Int) by omega] at e
        exact e
    rintro ⟨h0, h1⟩
    by_cases c : m < 100
    · have := pin_live hp (i := m.toNat) (by omega)
      rw [show ((m.toNat : Nat) : Int) = m by omega] at this
      exact this
    · have := key (200 - m.toNat) (by omega)
      rw [show (200 : Int) - ((200 - m.toNat : Nat) : Int) = m by omega] at this
      exact this
theorem locks_live0 {rs : List (Str × Int)} (h : rs.Perm pinRoots) (m : Int) : Live (arcsOf ⟨rs, lockThings⟩) m ↔ 0 ≤ m ∧ m < ((100 : Nat) : Int) := by
  have hp : ∀ r ∈ pinRoots, r ∈ rs := fun r hr => h.mem_iff.mpr hr
  constructor
  · intro l
    refine Live.sub (S := fun m => 0 ≤ m ∧ m < ((100 : Nat) : Int)) (fun α ha hs => ?_) l
    rcases lock_arc ha with ⟨r, hr, rfl⟩ | ⟨i, hi, rfl⟩
    · exact pin_val (h.mem_iff.mp hr)
    · have := hs (100 + (0 + (i : Int)) + 1) (List.mem_cons_of_mem _ List.mem_cons_self)
      omega
  · rintro ⟨h0, h1⟩
    have := pin_live hp (i := m.toNat) (by omega)
    rw [show ((m.toNat : Nat) : Int) = m by omega] at this
    exact this
theorem locks_ns (rs : List (Str × Int)) : (Shot.mk rs lockThings).things.map Thing.n = upTo 201 := by
  show lockThings.map Thing.n = upTo 201
  decide +kernel
theorem locks_ok {rs : List (Str × Int)} (h : rs.length ≤ 101) (hv : ∀ r ∈ rs, 0 ≤ r.2 ∧ r.2 < 201) : okShot ⟨rs, lockThings⟩ := by
  have h1 := arcs_len ⟨rs, lockThings⟩ 1 fun t ht => by
    rcases List.mem_append.mp ht with k | k
    · obtain ⟨i, hi, rfl⟩ := List.mem_map.mp k
      exact Nat.le_refl 1
    · obtain ⟨i, hi, rfl⟩ := List.mem_map.mp k
      exact Nat.zero_le 1
  have h2 : (Shot.mk rs lockThings).things.length = 201 := by
    show lockThings.length = 201
    unfold lockThings
    rw [List.length_append, List.length_map, List.length_range, List.length_map, List.length_range]
  have h3 : (Shot.mk rs lockThings).roots.length = rs.length := rfl
  refine ok_shot_of (fun t ht => ?_) (fun t ht => ?_) (by rw [locks_ns]; exact upTo_nodup 201) (fun α ha => ?_) (by omega) (by omega)
  · rcases List.mem_append.mp ht with k | k
    · obtain ⟨i, hi, rfl⟩ := List.mem_map.mp k
      exact .inr (.inl ⟨rfl, fun p hp => ⟨_, _, List.mem_singleton.mp hp⟩⟩)
    · obtain ⟨i, hi, rfl⟩ := List.mem_map.mp k
      exact .inr (.inr ⟨rfl, fun p hp => absurd hp List.not_mem_nil⟩)
  · rcases List.mem_append.mp ht with k | k
    · obtain ⟨i, hi, rfl⟩ := List.mem_map.mp k
      exact (show 1 ≤ 1000 by decide)
    · obtain ⟨i, hi, rfl⟩ := List.mem_map.mp k
      exact Nat.zero_le _
  · rw [locks_ns, upTo_mem]
    rcases lock_arc ha with ⟨r, hr, rfl⟩ | ⟨i, hi, rfl⟩
    · exact hv r hr
    · dsimp only
      omega
theorem perm_vals {rs : List (Str × Int)} (h : rs.Perm (pinRoots ++ [zRoot])) : ∀ r ∈ rs, 0 ≤ r.2 ∧ r.2 < 201 := fun r hr => by
  rcases List.mem_append.mp (h.mem_iff.mp hr) with k | k
  · have := pin_val k
    omega
  · rw [List.mem_singleton.mp k]
    exact ⟨by decide, by decide⟩
theorem pin_less : ∀ i : Fin 100, ksLt (rKey (pinT (0 + ((i.val : Nat) : Int)), 0 + ((i.val : Nat) : Int))) (rKey zRoot) = true := by decide +kernel
theorem pins_len : (pinRoots ++ [zRoot]).length = 101 := by
  unfold pinRoots
  rw [List.length_append, List.length_map, List.length_range]
  rfl
/-- the row z stands last -/
theorem last_z {rs : List (Str × Int)} (h : rs.Perm (pinRoots ++ [zRoot])) (srt : rs.Pairwise (fun r q => ksLt (rKey q) (rKey r) = false)) : rs.dropLast.Perm pinRoots ∧ rs.dropLast.length = 100 := by
  have hl := h.length_eq
  rw [pins_len] at hl
  obtain ⟨a, z, rfl⟩ := snoc_of (l := rs) (fun e => by rw [e] at hl; cases hl)
  rw [List.dropLast_concat]
  have ez : z = zRoot := by
    rcases List.mem_append.mp (h.mem_iff.mp (List.mem_append.mpr (.inr List.mem_cons_self))) with k | k
    · obtain ⟨i, hi, rfl⟩ := List.mem_map.mp k
      have hz : zRoot ∈ a ++ [(pinT (0 + (i : Int)), 0 + (i : Int))] := h.mem_iff.mpr (List.mem_append.mpr (.inr List.mem_cons_self))
      rcases List.mem_append.mp hz with m | m
      · have e := (List.pairwise_append.mp srt).2.2 zRoot m _ List.mem_cons_self
        have e2 := pin_less ⟨i, List.mem_range.mp hi⟩
        rw [e2] at e
        cases e
      · exact (List.mem_singleton.mp m).symm
    · exact List.mem_singleton.mp k
  rw [ez] at h
  refine ⟨?_, by rw [List.length_append, List.length_singleton] at hl; omega⟩
  exact (List.perm_append_right_iff _).mp h
end Sn
namespace Sn
open PySem PySem.Spec PyProof.Rows L2 Evl Gd
theorem kb_one {K : PySem.W.Frag} {f : Addr} {fd : FuncData} {st : Stmt} {x p : Str} (F : Fun K x x st f fd) (h : ∀ (oc kV doc pm cdv ct : Value) (an : Option Addr) (s : Shared) (us ws : List Value), (us ++ ws).length = 1 → BindsTo s (PySem.W.fnOf x x (defArgs st) (defBody st) (defScope st) .none kV doc pm an cdv ct) ⟨us, ([p] : List Str).zip ws⟩ (([p] : List Str).zip (us ++ ws))) :
    KBinds K fd [p] [p] (· ++ ·) (· ++ ·) := by
  obtain ⟨⟨oc, od, kV, doc, pm, an, cdv, ct, osl, rfl, look, code⟩, _⟩ := F
  exact ⟨fun s us ws _ hl => h oc kV doc pm cdv ct an s us ws hl, fun r rz => r.append rz⟩
abbrev sRight : Stmt := topS 17
abbrev nRight : List Str := ["_law_jar_here", "_law_shot_here", "_law_kept", "_law_due"]
theorem scRight : FnScope nRight ["_law_jar_here"] (defScope sRight) := ⟨rfl, rfl, rfl, by decide +kernel, rfl, by decide +kernel, by decide +kernel⟩
def spRight : Sp := fun vs H Q _ => ∃ (d : Addr) (n : Int), vs = [.ref d] ∧ Pot H d n ∧ n ≤ 600000 ∧ ∀ H', Off d H H' → Pot H' d (n + 602) → Q (.bl true) H'
theorem fit_ints {ns : List Int} (h : ∀ n ∈ ns, 0 ≤ n ∧ n ≤ 1000) (l : ns.length ≤ 1000) : Fit (.tuple (ns.map .int)) 1 12002 := (FitAll.map fun n hn => fit_int (h n hn)).tup.up (by decide) (by omega)
section
variable {P : Program} {w : World} {K : PySem.W.Frag} {mg : Str → Option Value} {base : Heap}
theorem ok_right {f fT fS fL fA : Addr} {fd fdT fdS fdL fdA : FuncData} (F : Fun K "_law_right" "_law_right" sRight f fd) (FT : Fun K "_law_take" "_law_take" sTake fT fdT) (FS : Fun K "_law_shot" "_law_shot" sShot fS fdS) (FL : Fun K "_law_living" "_law_living" sLiv fL fdL) (FA : Fun K "alive" "alive" sAlive fA fdA)
    (bT : Binds K fdT ["_law_jar_here", "_law_many"] []) (bS : Binds K fdS ["_law_jar_here", "_law_least", "_law_most", "_law_often"] []) (bL : Binds K fdL ["_law_shot_here", "_law_gone"] []) (bA : Binds K fdA ["snapshot"] []) (kA : KBinds K fdA ["snapshot"] ["snapshot"] (· ++ ·) (· ++ ·))
    (gT : mg "_law_take" = some (.ref fT)) (gS : mg "_law_shot" = some (.ref fS)) (gL : mg "_law_living" = some (.ref fL)) (gA : mg "alive" = some (.ref fA)) (mP : mg "repr" = none) (mT : mg "tuple" = none) (mO : mg "sorted" = none) (mL : mg "len" = none) (mD : mg "dict" = none)
    (GS : FnOk P w K mg base CX0 4 fS fdS ["_law_jar_here", "_law_least", "_law_most", "_law_often"] (spShot K)) (GA : FnOk P w K mg base CX0 4 fA fdA ["snapshot"] (spAlive K)) : FnG P w K mg base CX0 5 f fd ["_law_jar_here"] spRight := by
  have GT : FnOk P w K mg base CX0 4 fT fdT ["_law_jar_here", "_law_many"] spTake := (ok_take FT).mono (by decide)
  have GL : FnOk P w K mg base CX0 4 fL fdL ["_law_shot_here", "_law_gone"] (spLiv K) := (ok_liv FL mL mD).mono (by decide)
  refine fng0_of F scRight (fun vs H Q E h => ?_) (fun cdv A outer s H vs Q E hr gd h => ?_)
  · obtain ⟨d, n, rfl, _⟩ := h
    rfl
  · obtain ⟨d, n, rfl, pot, hn, q⟩ := h
    refine ⟨_, pss_cons (ps_set (i := 1) scRight.nd rfl (.inl rfl) (pe_call GS hr (by rfl) gS FS.kp bS .nil pass0 (pa_cons (pv 0) <| pa_cons pe_int <| pa_cons pe_int <| pa_cons (pe_op op_add pe_int (pe_call GT hr (by rfl) gT FT.kp bT .nil pass0 (pa_cons (pv 0) <| pa_cons pe_int pa_nil))) pa_nil))) <|
      pss_cons (ps_set (i := 2) scRight.nd rfl (.inl rfl) (pe_callB (call_reprD gd hr.units) (by rfl) mP boot_repr (pa_cons (pv 1) pa_nil))) <|
      pss_cons (ps_set (i := 3) scRight.nd rfl (.inl rfl) (pe_callTy call_tuple_of (by rfl) mT (by decide +kernel) (pa_cons (pe_callB (call_sortedDI rfl) (by rfl) mO (by decide +kernel) (pa_cons (pe_call GL hr (by rfl) gL FL.kp bL .nil pass0 (pa_cons (pv 1) <| pa_cons pe_dnewT pa_nil)) pa_nil)) pa_nil))) <|
      pss_one (ps_ret (pe_and (pe_cmpR op_eq (pe_callB (call_reprD gd hr.units) (by rfl) mP boot_repr (pa_cons (pe_lst (pa_cons (pe_call GA hr (by rfl) gA FA.kp bA .nil pass0 (pa_cons (pv 1) pa_nil)) <| pa_cons (pe_kwOnly GA hr (by rfl) gA FA.kp kA pass0 (pk_cons (pv 1) pk_nil)) pa_nil)) pa_nil)) (pe_callB (call_reprD gd hr.units) (by rfl) mP boot_repr (pa_cons (pe_lst (pa_cons (pv 3) <| pa_cons (pv 3) pa_nil)) pa_nil)) (nomark _))
        (pe_one (pe_cmpR op_eq (pe_callB (call_reprD gd hr.units) (by rfl) mP boot_repr (pa_cons (pv 1) pa_nil)) (pv 2) (nomark _))))), ?_⟩
    refine seq_of (asg_of (call_of ?_))
    refine c_of (v_of rfl (c_of (k_of (c_of (k_of ?_)))))
    refine c_of (op_of (k_of (rd_take (ev_var rfl) ev_c pot (by omega) (by decide) (by decide) fun H1 r o1 p1 r0 r1 => ?_)))
    refine ⟨3, r, rfl, rfl, n_of ⟨d, n + 1, 3 + r, rfl, p1, by omega, by omega, by omega, fun H2 x s o2 p2 tx dr => ?_⟩⟩
    have ft := dr.fit
    have f40 : (dShot s).depth ≤ 40 := Nat.le_trans ft.dp (by decide)
    have fln : (dShot s).shown.length ≤ sizeLine := Nat.le_trans ft.ln (by rw [sizeLine_eq]; decide)
    dsimp only
    refine seq_of (asg_of (cb_of ?_))
    refine c_of (v_of rfl (n_of ⟨x, _, rfl, tx.dp, ft.sh, ft.nd, f40, fln, ?_⟩))
    dsimp only
    refine seq_of (asg_of (cb_of ?_))
    refine c_of (cb_of ?_)
    refine c_of (call_of ?_)
    refine c_of (v_of rfl (c_of fun g hg => ?_))
    have eg : Ex H2 (upd H2 g (.dT [])) := Ex.new hg
    refine n_of ⟨x, g, s, rfl, tx.ex eg, dr.ok, upd_same, fun H4 dq met e4 hq0 hq nd iff ml => ?_⟩
    have few := dr.few nd fun k hk => (iff k).mp hk
    refine n_of ⟨dq, _, met, rfl, .inl hq, by rw [List.map_map]; rfl, by omega, fun ys p perm srt hp => n_of ⟨p, _, rfl, .inl ⟨sq_of upd_same, fun t ht => ?_⟩⟩⟩
    have e5 : Ex H4 (upd H4 p (.lst (ys.map V.int))) := Ex.new hp
    have e6 : Ex _ (upd (upd H4 p (.lst (ys.map V.int))) t (.tup (ys.map V.int))) := Ex.new ht
    have t6 : (upd (upd H4 p (.lst (ys.map V.int))) t (.tup (ys.map V.int))) t = some (.tup (ys.map V.int)) := upd_same
    have e26 := ((eg.trans e4).trans e5).trans e6
    have asc := strict_of srt (perm.nodup_iff.mpr nd)
    have iffy : ∀ m, m ∈ ys ↔ Live (arcsOf s) m := fun m => perm.mem_iff.trans (iff m)
    have yb : ∀ m ∈ ys, 0 ≤ m ∧ m ≤ 1000 := fun m hm => by
      cases (iffy m).mp hm with
      | mk a _ =>
        have := dr.nums _ (dr.tgts a)
        omega
    have yl : ys.length ≤ 10 := by
      rw [perm.length_eq]
      exact few
    have fY := fit_ints yb (by omega)
    have fL : Fit (.list [.tuple (ys.map .int), .tuple (ys.map .int)]) 2 40000 := (FitAll.cons fY (FitAll.cons fY (FitAll.nil (L := 0)) (Nat.le_refl _)) (Nat.le_refl _)).lst.up (by decide) (by decide)
    have fL1 : (PyData.list [.tuple (ys.map .int), .tuple (ys.map .int)]).depth ≤ 40 := Nat.le_trans fL.dp (by decide)
    have fL2 : (PyData.list [.tuple (ys.map .int), .tuple (ys.map .int)]).shown.length ≤ sizeLine := Nat.le_trans fL.ln (by rw [sizeLine_eq]; decide)
    have same : ∀ {ns : List Int}, ns.Pairwise (· < ·) → (∀ m, m ∈ ns ↔ Live (arcsOf s) m) → ns = ys := fun a b => asc_uniq a asc fun m => (b m).trans (iffy m).symm
    generalize upd (upd H4 p (.lst (ys.map V.int))) t (.tup (ys.map V.int)) = H6 at t6 e26 ⊢
    have tx6 := tx.ex e26
    dsimp only
    refine ret_of ?_
    refine op_of (cb_of (c_of (lst_of (c_of (call_of (c_of (v_of rfl (n_of ⟨x, s, rfl, tx6, dr.ok, fun H7 t7 ns7 e7 h70 h7 a7 i7 l7 => ?_⟩))))))))
    refine c_of (callK_of (n_of (c_of (v_of rfl (n_of ⟨x, s, rfl, tx6.ex e7, dr.ok, fun H8 t8 ns8 e8 h80 h8 a8 i8 l8 => ?_⟩)))))
    have q7 := same a7 i7
    have q8 := same a8 i8
    rw [q7] at h7
    rw [q8] at h8
    refine n_of ⟨by show 2 ≤ sizeLine; decide, fun l hl => ?_⟩
    have e9 : Ex H8 (upd H8 l (.lst [.ref t7, .ref t8])) := Ex.new hl
    refine n_of ⟨.ref l, .list [.tuple (ys.map .int), .tuple (ys.map .int)], rfl, .lst (sq_of upd_same) (.cons (dp_tupI (st_of (e9 _ _ (e8 _ _ h7)))) (.cons (dp_tupI (st_of (e9 _ _ h8))) .nil)), fL.sh, fL.nd, fL1, fL2, ?_⟩
    generalize upd H8 l (.lst [.ref t7, .ref t8]) = H9 at e9 ⊢
    have e69 := (e7.trans e8).trans e9
    have t9 := e69 _ _ t6
    refine cb_of (c_of (lst_of (c_of (v_of rfl (c_of (v_of rfl (n_of ⟨by show 2 ≤ sizeLine; decide, fun l2 hl2 => ?_⟩)))))))
    have eA : Ex H9 (upd H9 l2 (.lst [.ref t, .ref t])) := Ex.new hl2
    refine n_of ⟨.ref l2, .list [.tuple (ys.map .int), .tuple (ys.map .int)], rfl, .lst (sq_of upd_same) (.cons (dp_tupI (st_of (eA _ _ t9))) (.cons (dp_tupI (st_of (eA _ _ t9))) .nil)), fL.sh, fL.nd, fL1, fL2, ?_⟩
    refine ⟨rfl, _, rfl, ?_⟩
    rw [decide_eq_true rfl, if_pos rfl]
    generalize upd H9 l2 (.lst [.ref t, .ref t]) = HA at eA ⊢
    have e6A := e69.trans eA
    refine op_of (cb_of (c_of (v_of rfl (n_of ⟨x, _, rfl, (tx6.ex e6A).dp, ft.sh, ft.nd, f40, fln, ?_⟩))))
    refine v_of rfl ⟨rfl, ?_⟩
    rw [decide_eq_true rfl]
    exact q HA ((o1.trans o2).trans (Off.of (e26.trans e6A))) ((p2.ex (e26.trans e6A)).up (by omega))
end
end Sn
namespace Sn
open PySem PySem.Spec PyProof.Rows L2 Evl Gd
abbrev sLaw : Stmt := topS 18
abbrev nLaw : List Str := ["_law_script", "_law_first", "_law_k", "_law_jar_here", "_law_turn"]
theorem scLaw : FnScope nLaw ["_law_script"] (defScope sLaw) := ⟨rfl, rfl, rfl, by decide +kernel, rfl, by decide +kernel, by decide +kernel⟩
def spLaw (K : PySem.W.Frag) : Sp := fun vs H Q _ => ∃ (a : Addr) (ns : List Int), vs = [.ref a] ∧ SqL K H a (ns.map V.int) ∧ ns.length ≤ 63 ∧ ∀ H', Q (.bl true) H'
/-- a tuple of ints beside tuple(range(n)) -/
theorem ne_range {K : PySem.W.Frag} {H : Hp} {t : Addr} {n : Nat} {ns : List Int} {σ : L2.St} {k : Bool → Hp → Prop} (hn : n ≤ 1000) (h : H t = some (.tup (ns.map V.int))) (e : ns = upTo n) (q : ∀ H', Ex H H' → k false H') :
    tTupRg (tRg1 (tC (.int (n : Int)))) σ H fun y H2 => rNeD K (.ref t) y H2 fun z H3 => ∃ c, z = .bl c ∧ k c H3 := by
  refine ⟨n, rfl, .of_le (by omega) (by omega) (by omega) (by omega), fun p hp => ?_⟩
  have ep : Ex H (upd H p (.tup (rgV 0 (n : Int)))) := Ex.new hp
  have hp2 : (upd H p (.tup (rgV 0 (n : Int)))) p = some (.tup ((upTo n).map V.int)) := by
    rw [upd_same, rgV_upTo]
  rw [e] at h
  refine ⟨.tuple ((upTo n).map .int), .tuple ((upTo n).map .int), dp_tupI (st_of (ep _ _ h)), dp_tupI (st_of hp2), tupI_shaped _, tupI_shaped _, _, rfl, ?_⟩
  rw [tupI_eqv]
  exact q _ ep
theorem Off.ex {d : Addr} {H H' : Hp} (o : Off d H H') (h : H d = none) : Ex H H' := fun a u ha => o a u (ne_of_none ha h) ha
section
variable {P : Program} {w : World} {K : PySem.W.Frag} {mg : Str → Option Value} {base : Heap}
theorem ok_law {f fJ fC fX fR fA : Addr} {fd fdJ fdC fdX fdR fdA : FuncData} (F : Fun K "law" "law" sLaw f fd) (FJ : Fun K "_law_jar" "_law_jar" sSource fJ fdJ) (FC : Fun K "_law_chain" "_law_chain" sChain fC fdC) (FX : Fun K "_law_locks" "_law_locks" sLocks fX fdX) (FR : Fun K "_law_right" "_law_right" sRight fR fdR) (FA : Fun K "alive" "alive" sAlive fA fdA)
    (bJ : Binds K fdJ ["_law_script", "_law_k"] []) (bC : Binds K fdC ["_law_many"] []) (bX : Binds K fdX ["_law_many"] []) (bR : Binds K fdR ["_law_jar_here"] []) (bA : Binds K fdA ["snapshot"] [])
    (gJ : mg "_law_jar" = some (.ref fJ)) (gC : mg "_law_chain" = some (.ref fC)) (gX : mg "_law_locks" = some (.ref fX)) (gR : mg "_law_right" = some (.ref fR)) (gA : mg "alive" = some (.ref fA))
    (mT : mg "tuple" = none) (mO : mg "sorted" = none) (mL : mg "len" = none) (mS : mg "str" = none) (mR : mg "range" = none) (mX : mg "max" = none) (mN : mg "min" = none) (mA : mg "all" = none) (mB : mg "abs" = none) (mI : mg "int" = none)
    (GA' : FnOk P w K mg base CX0 4 fA fdA ["snapshot"] (spAlive K)) (GR : FnG P w K mg base CX0 5 fR fdR ["_law_jar_here"] spRight) : FnG P w K mg base CX0 6 f fd ["_law_script"] (spLaw K) := by
  have GA : FnOk P w K mg base CX0 5 fA fdA ["snapshot"] (spAlive K) := GA'.mono (by decide)
  have GJ : FnOk P w K mg base CX0 5 fJ fdJ ["_law_script", "_law_k"] (spSource K) := (ok_source FJ mL mB mI).mono (by decide)
  have GC : FnOk P w K mg base CX0 5 fC fdC ["_law_many"] (spChain K) := (ok_chain FC mR mT).mono (by decide)
  have GX : FnOk P w K mg base CX0 5 fX fdX ["_law_many"] (spLocks K) := (ok_locks FX mR mT mS mO).mono (by decide)
  refine fng0_of F scLaw (fun vs H Q E h => ?_) (fun cdv A outer s H vs Q E hr gd h => ?_)
  · obtain ⟨a, ns, rfl, _⟩ := h
    rfl
  · obtain ⟨a, ns, rfl, hS, hlen, q⟩ := h
    refine ⟨_, pss_cons (ps_if (pw_or (pt_cmpR (op_neD hr.units) (pe_call GA hr (by rfl) gA FA.kp bA .nil pass0 (pa_cons (pe_call GC hr (by rfl) gC FC.kp bC .nil pass0 (pa_cons pe_int pa_nil)) pa_nil)) (pe_tupRg rfl (by rfl) mT (prg_1 (by rfl) mR pe_int)) (nomark _))
          (pw_or1 (pt_cmpR (op_neD hr.units) (pe_call GA hr (by rfl) gA FA.kp bA .nil pass0 (pa_cons (pe_call GX hr (by rfl) gX FX.kp bX .nil pass0 (pa_cons pe_int pa_nil)) pa_nil)) (pe_tupRg rfl (by rfl) mT (prg_1 (by rfl) mR pe_int)) (nomark _)))).pt (pss_one (ps_ret pe_bl)) pss_nil) <|
      pss_cons (ps_set (i := 1) scLaw.nd rfl (.inl rfl) (pe_call GX hr (by rfl) gX FX.kp bX .nil pass0 (pa_cons pe_int pa_nil))) <|
      pss_cons (ps_if (pt_cmpR (op_neD hr.units) (pe_call GA hr (by rfl) gA FA.kp bA .nil pass0 (pa_cons (pe_tup (pa_cons (pe_slice sl_tup (pe_ix ix_tup (pv 1) pe_int (fun _ _ => rfl)) po_none (po_some (pe_un un_neg pe_int))) <| pa_cons (pe_ix ix_tup (pv 1) pe_int (fun _ _ => rfl)) pa_nil)) pa_nil)) (pe_tupRg rfl (by rfl) mT (prg_1 (by rfl) mR pe_int)) (nomark _)) (pss_one (ps_ret pe_bl)) pss_nil) <|
      pss_cons (ps_for PassesOwn.never rfl (pi_range1 (by rfl) mR (pa_cons (pe_callB (call_max2 rfl) (by rfl) mX boot_max (pa_cons pe_int (pa_cons (pe_callB (call_min2 rfl) (by rfl) mN boot_min (pa_cons pe_int (pa_cons (pe_callB call_len_seq (by rfl) mL PySem.boot_len (pa_cons (pv 0) pa_nil)) pa_nil))) pa_nil))) pa_nil)) (pg_name (i := 2) scLaw.nd rfl (.inl rfl))
        (pss_cons (ps_set (i := 3) scLaw.nd rfl (.inr rfl) (pe_call GJ hr (by rfl) gJ FJ.kp bJ .nil pass0 (pa_cons (pv 0) <| pa_cons (pv 2) pa_nil))) <|
        pss_one (ps_if (pt_not (pt_val (pe_callB (cr_all rfl) (by rfl) mA (by decide +kernel) (pa_cons (pe_lc (own := [("_law_turn", 4)]) (g := gName 4) (tt := tYes) (te := tCall spRight [] E0 (tCons (tVar 3) tNil)) rfl scLaw.nd (pi_range1 (by rfl) mR (pa_cons pe_int pa_nil)) (blkOk_by (N := nLaw) (sc := defScope sLaw) (by decide +kernel))
          (fun _ _ _ _ _ => pg_name (i := 4) scLaw.nd rfl (.inl rfl)) (fun _ _ _ _ _ => pts_nil) (fun _ _ _ _ _ => pe_callG GR hr gd (by rfl) gR FR.kp bR .nil pass0 (pa_cons (pv 3) pa_nil))) pa_nil)))) (pss_one (ps_ret pe_bl)) pss_nil))) <|
      pss_one (ps_ret pe_bl), ?_⟩
    refine seq_of (ifS_of (or_of (test_of (op_of ?_))))
    refine call_of (c_of (call_of (c_of (k_of (n_of ⟨rfl, fun H1 x1 e1 tx1 => n_of ⟨x1, chainShot, rfl, tx1, chain_ok, fun H2 t2 ns2 e2 _ h2 a2 i2 _ => ?_⟩⟩)))))
    refine ne_range (n := 400) (by decide) h2 (is_upTo a2 i2 chain_live) fun H3 e3 => ?_
    rw [if_neg Bool.false_ne_true]
    refine test_of (op_of ?_)
    refine call_of (c_of (call_of (c_of (k_of (n_of ⟨rfl, fun H4 x4 rs4 e4 tx4 pm4 sr4 => n_of ⟨x4, _, rfl, tx4, locks_ok (by rw [pm4.length_eq, pins_len]; decide) (perm_vals pm4), fun H5 t5 ns5 e5 _ h5 a5 i5 _ => ?_⟩⟩)))))
    refine ne_range (n := 201) (by decide) h5 (is_upTo a5 i5 (locks_live pm4)) fun H6 e6 => ?_
    rw [if_neg Bool.false_ne_true]
    have e06 : Ex H H6 := ((((e1.trans e2).trans e3).trans e4).trans e5).trans e6
    dsimp only [tNext]
    refine seq_of (asg_of (call_of (c_of (k_of (n_of ⟨rfl, fun H7 x7 rs7 e7 tx7 pm7 sr7 => ?_⟩)))))
    obtain ⟨p7, xr, xo, rfl, sp7, tr7, to7⟩ := Td.inv2 tx7
    obtain ⟨pr, rsV, rfl, spr, trr⟩ := tr7.inv_tup
    have rl : rsV.length = 101 := by
      rw [trr.len, List.length_map, pm7.length_eq, pins_len]
    dsimp only
    refine seq_of (ifS_of (test_of (op_of ?_)))
    refine call_of (c_of (tup_of (c_of ?_)))
    refine ⟨.ref p7, rfl, p7, _, 0, _, rfl, rfl, sp7, atI_nat (j := 0) rfl, ?_⟩
    refine ⟨1, rfl, -1, rfl, pr, rsV, rfl, spr, ?_, fun u hu => ?_⟩
    · show ¬ (HT.sIx rsV.length 0 none = 0 ∧ HT.sIx rsV.length rsV.length (some (-1)) = rsV.length)
      rw [rl]
      decide
    have ec : cutV rsV none (some (-1)) = rsV.dropLast := by
      unfold cutV
      rw [rl]
      show (rsV.drop 0).take 100 = _
      rw [List.drop_zero, List.dropLast_eq_take, rl]
    rw [ec]
    have eu : Ex H7 (upd H7 u (.tup rsV.dropLast)) := Ex.new hu
    obtain ⟨lp, ll⟩ := last_z pm7 sr7
    have tdl : TdAll K (upd H7 u (.tup rsV.dropLast)) rsV.dropLast (rs7.dropLast.map dRoot) := by
      obtain ⟨zs, z, e, h1, h2⟩ := TdAll.last (ys := rsV) (ds := (rs7.dropLast).map dRoot) (d := dRoot (rs7.getLast (fun e => by rw [e] at ll; cases ll))) (by
        have e : (rs7.dropLast).map dRoot ++ [dRoot (rs7.getLast (fun e => by rw [e] at ll; cases ll))] = rs7.map dRoot := by
          rw [← List.map_singleton, ← List.map_append, List.dropLast_concat_getLast]
        rw [e]
        exact trr)
      rw [e, List.dropLast_concat]
      rw [e, List.dropLast_concat] at eu
      exact h1.ex eu
    have tu : Td K (upd H7 u (.tup rsV.dropLast)) (.ref u) (.tuple (rs7.dropLast.map dRoot)) := .tup (st_of upd_same) tdl
    generalize upd H7 u (.tup rsV.dropLast) = H8 at eu tu ⊢
    refine c_of ?_
    refine ⟨.ref p7, rfl, p7, _, 1, _, rfl, rfl, ex_t eu sp7, atI_nat (j := 1) rfl, ?_⟩
    refine n_of ⟨by show 2 ≤ sizeLine; decide, fun v hv => ?_⟩
    have ev : Ex H8 (upd H8 v (.tup [.ref u, xo])) := Ex.new hv
    have tv : Td K (upd H8 v (.tup [.ref u, xo])) (.ref v) (dShot ⟨rs7.dropLast, lockThings⟩) := .tup (st_of upd_same) (.cons (tu.ex ev) (.cons ((to7.ex eu).ex ev) .nil))
    generalize upd H8 v (.tup [.ref u, xo]) = H9 at ev tv ⊢
    refine n_of ⟨.ref v, _, rfl, tv, locks_ok (by omega) (fun r hr => perm_vals pm7 r (List.dropLast_subset _ hr)), fun HA tA nsA eA _ hA aA iA _ => ?_⟩
    refine ne_range (n := 100) (by decide) hA (is_upTo aA iA (locks_live0 lp)) fun HB eB => ?_
    rw [if_neg Bool.false_ne_true]
    have e0B : Ex H HB := ((((e06.trans e7).trans eu).trans ev).trans eA).trans eB
    dsimp only [tNext]
    refine ⟨.ref a, rfl, a, _, rfl, .inl (ex_l e0B hS), 3, _, rfl, 1, _, rfl, _, rfl, ?_, ?_, ?_⟩
    · split <;> (try split) <;> omega
    · split <;> (try split) <;> omega
    have hn : (if (if ((ns.map V.int).length : Int) < 3 then ((ns.map V.int).length : Int) else 3) > 1 then (if ((ns.map V.int).length : Int) < 3 then ((ns.map V.int).length : Int) else 3) else 1).toNat ≤ 3 := by
      split <;> (try split) <;> omega
    refine for_range (lo := 0) (fun i σ' H' => ∃ y1 y2 y3 y4, σ' = [some (.ref a), y1, y2, y3, y4] ∧ Ex H H') ⟨_, _, _, _, rfl, e0B⟩ ?_ ?_
    · rintro i σ' H1' hi ⟨y1, y2, y3, y4, rfl, e1'⟩
      dsimp only [gName]
      refine seq_of (asg_of (call_of (c_of (v_of rfl (c_of (v_of rfl (n_of ⟨a, ns, 0 + (i : Int), rfl, ex_l e1' hS, hlen, by omega, by omega, fun H2' d e2' hd pot => ?_⟩)))))))
      have hdN : H d = none := fresh_back e1' hd
      dsimp only
      refine ifS_of (not_of ?_)
      refine cb_of (c_of ?_)
      refine ⟨6, rfl, by decide, by decide, fun D hD => lc_range (lo := 0) (n := 6) (fun t H' => Off d H2' H' ∧ Pot H' d (602 * (t : Int)) ∧ H' D = some (.lst ((List.replicate t true).map V.bl))) ⟨Off.of (Ex.new hD), (pot.updD (pot.ne hD)).up (by omega), upd_same⟩ ?_ ?_⟩
      · rintro t H3 ht ⟨o, p, hDt⟩
        have nDd : D ≠ d := pot.ne hD
        refine ⟨rfl, ?_⟩
        dsimp only [tYes]
        rw [if_pos rfl]
        refine call_of (c_of (v_of rfl (n_of ⟨d, _, rfl, p, by omega, fun H4 o4 p4 => ?_⟩)))
        have D4 := o4 D _ nDd hDt
        refine ⟨_, D4, sz_lt (by rw [List.length_map, List.length_replicate]; omega), (o.trans o4).fresh hD, (p4.updD nDd).up (by push_cast; omega), ?_⟩
        rw [upd_same, List.replicate_succ', List.map_append]
        rfl
      · rintro H3 ⟨o, p, hDt⟩
        refine n_of ⟨D, List.replicate 6 true, rfl, sq_of hDt, true, rfl, ?_⟩
        dsimp only
        rw [if_neg (show ¬ (!true) = true from Bool.false_ne_true)]
        exact ⟨_, _, _, _, rfl, ((Off.of (e1'.trans e2')).trans o).ex hdN⟩
    · rintro σ' H' _
      exact q H'
end
end Sn
namespace Sn
open PySem PySem.Spec PyProof.Rows L2 Evl Gd
/-- a def of the top, as the head finds it -/
structure At (K : PySem.W.Frag) (x : Str) (st : Stmt) (f : Addr) : Prop where
  nm : PySem.W.nsIn K mainGlobals x = some (some (.ref f))
  ex : ∃ (oc kV doc pm cdv ct : Value) (od an : Option Addr) (sl : Array (Option Value)), K.lookup f = some ⟨oc, od, .func (PySem.W.fnOf x x (defArgs st) (defBody st) (defScope st) .none kV doc pm an cdv ct), sl⟩ ∧ PySem.W.codeIn K cdv x = true
  kp : PySem.W.keepIn K (.ref f) = true
theorem At.of {K : PySem.W.Frag} {x : Str} {st : Stmt} {f : Addr} {oc kV doc pm cdv ct : Value} {od an : Option Addr} {sl : Array (Option Value)} (n : PySem.W.nsIn K mainGlobals x = some (some (.ref f))) (l : K.lookup f = some ⟨oc, od, .func (PySem.W.fnOf x x (defArgs st) (defBody st) (defScope st) .none kV doc pm an cdv ct), sl⟩)
    (c : PySem.W.codeIn K cdv x = true) (k : PySem.W.keepIn K (.ref f) = true) : At K x st f := ⟨n, ⟨oc, kV, doc, pm, cdv, ct, od, an, sl, l, c⟩, k⟩
theorem At.fn {K : PySem.W.Frag} {x : Str} {st : Stmt} {f : Addr} (a : At K x st f) : ∃ fd, Fun K x x st f fd := by
  obtain ⟨oc, kV, doc, pm, cdv, ct, od, an, sl, l, c⟩ := a.ex
  exact ⟨_, fun_mk l c a.kp⟩
/-- a method -/
structure AtM (K : PySem.W.Frag) (C : Addr) (x qual : Str) (st : Stmt) (f : Addr) : Prop where
  fi : PySem.W.findIn K (.ref C) x = some (some (.ref f))
  isf : PySem.W.isFn K (.ref f) = true
  ex : ∃ (oc kV doc pm cdv ct : Value) (od an : Option Addr) (sl : Array (Option Value)), K.lookup f = some ⟨oc, od, .func (PySem.W.fnOf x qual (defArgs st) (defBody st) (defScope st) .none kV doc pm an cdv ct), sl⟩ ∧ PySem.W.codeIn K cdv qual = true
  kp : PySem.W.keepIn K (.ref f) = true
theorem AtM.of {K : PySem.W.Frag} {C : Addr} {x qual : Str} {st : Stmt} {f : Addr} {oc kV doc pm cdv ct : Value} {od an : Option Addr} {sl : Array (Option Value)} (n : PySem.W.findIn K (.ref C) x = some (some (.ref f))) (i : PySem.W.isFn K (.ref f) = true) (l : K.lookup f = some ⟨oc, od, .func (PySem.W.fnOf x qual (defArgs st) (defBody st) (defScope st) .none kV doc pm an cdv ct), sl⟩)
    (c : PySem.W.codeIn K cdv qual = true) (k : PySem.W.keepIn K (.ref f) = true) : AtM K C x qual st f := ⟨n, i, ⟨oc, kV, doc, pm, cdv, ct, od, an, sl, l, c⟩, k⟩
theorem AtM.fn {K : PySem.W.Frag} {C : Addr} {x qual : Str} {st : Stmt} {f : Addr} (a : AtM K C x qual st f) : ∃ fd, Fun K x qual st f fd := by
  obtain ⟨oc, kV, doc, pm, cdv, ct, od, an, sl, l, c⟩ := a.ex
  exact ⟨_, fun_mk l c a.kp⟩
/-- the words about a class -/
structure ClsA (K : PySem.W.Frag) (x : Str) (C : Addr) : Prop where
  nm : PySem.W.nsIn K mainGlobals x = some (some (.ref C))
  pg : PySem.W.plainGet K C Str.empty = true
  hd : PySem.W.hasDictIn K C = true
  po : PySem.W.plainOver K C = true
  sa : PySem.W.findIn K (.ref C) "__setattr__" = some (some (.builtin "object.__setattr__"))
  mks : PySem.W.makesIn K C = true
  kc : PySem.W.keepIn K (.ref C) = true
theorem ClsA.cl {K : PySem.W.Frag} {x : Str} {C : Addr} (c : ClsA K x C) : Cls K C := ⟨c.pg, c.hd, c.po, c.sa⟩
theorem top_ok {l : PySem.W.OpenLaw} {w : World} {K : PySem.W.Frag} {h : Heap} {mg : Str → Option Value} {fa f_law f__law_jar f__law_take f__law_of f__law_figures f__law_parts f__law_anchors f__law_shot f__law_living f__law_chain f__law_locks f__law_right f_alive f_net_of C_Net f_Net___init__ f_Net_met : Addr} (X : K.In h) (G : h.Ns mainGlobals mg) (hfa : mg "law" = some (.ref fa))
    (a_law : At K "law" sLaw f_law)
    (a__law_jar : At K "_law_jar" sSource f__law_jar)
    (a__law_take : At K "_law_take" sTake f__law_take)
    (a__law_of : At K "_law_of" sOf f__law_of)
    (a__law_figures : At K "_law_figures" sFig f__law_figures)
    (a__law_parts : At K "_law_parts" sParts f__law_parts)
    (a__law_anchors : At K "_law_anchors" sAnch f__law_anchors)
    (a__law_shot : At K "_law_shot" sShot f__law_shot)
    (a__law_living : At K "_law_living" sLiv f__law_living)
    (a__law_chain : At K "_law_chain" sChain f__law_chain)
    (a__law_locks : At K "_law_locks" sLocks f__law_locks)
    (a__law_right : At K "_law_right" sRight f__law_right)
    (a_alive : At K "alive" sAlive f_alive)
    (a_net_of : At K "net_of" sNetOf f_net_of)
    (c_Net : ClsA K "Net" C_Net)
    (n_Net_roots : PySem.W.findIn K (.ref C_Net) "roots" = some none)
    (n_Net_rows : PySem.W.findIn K (.ref C_Net) "rows" = some none)
    (a_Net___init__ : AtM K C_Net "__init__" "Net.__init__" sNInit f_Net___init__)
    (a_Net_met : AtM K C_Net "met" "Net.met" sMet f_Net_met)
    (z_len : PySem.W.nsIn K mainGlobals "len" = some none)
    (z_abs : PySem.W.nsIn K mainGlobals "abs" = some none)
    (z_int : PySem.W.nsIn K mainGlobals "int" = some none)
    (z_range : PySem.W.nsIn K mainGlobals "range" = some none)
    (z_max : PySem.W.nsIn K mainGlobals "max" = some none)
    (z_min : PySem.W.nsIn K mainGlobals "min" = some none)
    (z_repr : PySem.W.nsIn K mainGlobals "repr" = some none)
    (z_tuple : PySem.W.nsIn K mainGlobals "tuple" = some none)
    (z_sorted : PySem.W.nsIn K mainGlobals "sorted" = some none)
    (z_str : PySem.W.nsIn K mainGlobals "str" = some none)
    (z_list : PySem.W.nsIn K mainGlobals "list" = some none)
    (z_dict : PySem.W.nsIn K mainGlobals "dict" = some none)
    (z_all : PySem.W.nsIn K mainGlobals "all" = some none) :
    ∃ fd : FuncData, (∀ (s : Shared) (v : Value), BindsTo s fd ⟨[v], []⟩ [("_law_script", v)]) ∧ ∀ base : Heap, K.In base → base.Ns mainGlobals mg → FnG l.prog w K mg base CX0 6 fa fd ["_law_script"] (spLaw K) := by
  have e := hfa.symm.trans (PySem.W.mg_of X G a_law.nm)
  cases e
  obtain ⟨fd_law, F_law⟩ := a_law.fn
  have g_law := PySem.W.mg_of X G a_law.nm
  obtain ⟨fd__law_jar, F__law_jar⟩ := a__law_jar.fn
  have g__law_jar := PySem.W.mg_of X G a__law_jar.nm
  have b__law_jar := F__law_jar.binds (ps := ["_law_script", "_law_k"]) fun _ _ _ _ _ _ us hl => match us, hl with | [_, _], _ => rfl
  have D__law_jar : Df K mg "_law_jar" sSource ["_law_script", "_law_k"] f__law_jar fd__law_jar := ⟨F__law_jar, b__law_jar, g__law_jar⟩
  obtain ⟨fd__law_take, F__law_take⟩ := a__law_take.fn
  have g__law_take := PySem.W.mg_of X G a__law_take.nm
  have b__law_take := F__law_take.binds (ps := ["_law_jar_here", "_law_many"]) fun _ _ _ _ _ _ us hl => match us, hl with | [_, _], _ => rfl
  have D__law_take : Df K mg "_law_take" sTake ["_law_jar_here", "_law_many"] f__law_take fd__law_take := ⟨F__law_take, b__law_take, g__law_take⟩
  obtain ⟨fd__law_of, F__law_of⟩ := a__law_of.fn
  have g__law_of := PySem.W.mg_of X G a__law_of.nm
  have b__law_of := F__law_of.binds (ps := ["_law_jar_here", "_law_some"]) fun _ _ _ _ _ _ us hl => match us, hl with | [_, _], _ => rfl
  have D__law_of : Df K mg "_law_of" sOf ["_law_jar_here", "_law_some"] f__law_of fd__law_of := ⟨F__law_of, b__law_of, g__law_of⟩
  obtain ⟨fd__law_figures, F__law_figures⟩ := a__law_figures.fn
  have g__law_figures := PySem.W.mg_of X G a__law_figures.nm
  have b__law_figures := F__law_figures.binds (ps := ["_law_jar_here", "_law_many"]) fun _ _ _ _ _ _ us hl => match us, hl with | [_, _], _ => rfl
  have D__law_figures : Df K mg "_law_figures" sFig ["_law_jar_here", "_law_many"] f__law_figures fd__law_figures := ⟨F__law_figures, b__law_figures, g__law_figures⟩
  obtain ⟨fd__law_parts, F__law_parts⟩ := a__law_parts.fn
  have g__law_parts := PySem.W.mg_of X G a__law_parts.nm
  have b__law_parts := F__law_parts.binds (ps := ["_law_jar_here", "_law_shape", "_law_figures_here", "_law_often"]) fun _ _ _ _ _ _ us hl => match us, hl with | [_, _, _, _], _ => rfl
  have D__law_parts : Df K mg "_law_parts" sParts ["_law_jar_here", "_law_shape", "_law_figures_here", "_law_often"] f__law_parts fd__law_parts := ⟨F__law_parts, b__law_parts, g__law_parts⟩
  obtain ⟨fd__law_anchors, F__law_anchors⟩ := a__law_anchors.fn
  have g__law_anchors := PySem.W.mg_of X G a__law_anchors.nm
  have b__law_anchors := F__law_anchors.binds (ps := ["_law_jar_here", "_law_figures_here"]) fun _ _ _ _ _ _ us hl => match us, hl with | [_, _], _ => rfl
  have D__law_anchors : Df K mg "_law_anchors" sAnch ["_law_jar_here", "_law_figures_here"] f__law_anchors fd__law_anchors := ⟨F__law_anchors, b__law_anchors, g__law_anchors⟩
  obtain ⟨fd__law_shot, F__law_shot⟩ := a__law_shot.fn
  have g__law_shot := PySem.W.mg_of X G a__law_shot.nm
  have b__law_shot := F__law_shot.binds (ps := ["_law_jar_here", "_law_least", "_law_most", "_law_often"]) fun _ _ _ _ _ _ us hl => match us, hl with | [_, _, _, _], _ => rfl
  have D__law_shot : Df K mg "_law_shot" sShot ["_law_jar_here", "_law_least", "_law_most", "_law_often"] f__law_shot fd__law_shot := ⟨F__law_shot, b__law_shot, g__law_shot⟩
  obtain ⟨fd__law_living, F__law_living⟩ := a__law_living.fn
  have g__law_living := PySem.W.mg_of X G a__law_living.nm
  have b__law_living := F__law_living.binds (ps := ["_law_shot_here", "_law_gone"]) fun _ _ _ _ _ _ us hl => match us, hl with | [_, _], _ => rfl
  have D__law_living : Df K mg "_law_living" sLiv ["_law_shot_here", "_law_gone"] f__law_living fd__law_living := ⟨F__law_living, b__law_living, g__law_living⟩
  obtain ⟨fd__law_chain, F__law_chain⟩ := a__law_chain.fn
  have g__law_chain := PySem.W.mg_of X G a__law_chain.nm
  have b__law_chain := F__law_chain.binds (ps := ["_law_many"]) fun _ _ _ _ _ _ us hl => match us, hl with | [_], _ => rfl
  have D__law_chain : Df K mg "_law_chain" sChain ["_law_many"] f__law_chain fd__law_chain := ⟨F__law_chain, b__law_chain, g__law_chain⟩
  obtain ⟨fd__law_locks, F__law_locks⟩ := a__law_locks.fn
  have g__law_locks := PySem.W.mg_of X G a__law_locks.nm
  have b__law_locks := F__law_locks.binds (ps := ["_law_many"]) fun _ _ _ _ _ _ us hl => match us, hl with | [_], _ => rfl
  have D__law_locks : Df K mg "_law_locks" sLocks ["_law_many"] f__law_locks fd__law_locks := ⟨F__law_locks, b__law_locks, g__law_locks⟩
  obtain ⟨fd__law_right, F__law_right⟩ := a__law_right.fn
  have g__law_right := PySem.W.mg_of X G a__law_right.nm
  have b__law_right := F__law_right.binds (ps := ["_law_jar_here"]) fun _ _ _ _ _ _ us hl => match us, hl with | [_], _ => rfl
  have D__law_right : Df K mg "_law_right" sRight ["_law_jar_here"] f__law_right fd__law_right := ⟨F__law_right, b__law_right, g__law_right⟩
  obtain ⟨fd_alive, F_alive⟩ := a_alive.fn
  have g_alive := PySem.W.mg_of X G a_alive.nm
  have b_alive := F_alive.binds (ps := ["snapshot"]) fun _ _ _ _ _ _ us hl => match us, hl with | [_], _ => rfl
  have D_alive : Df K mg "alive" sAlive ["snapshot"] f_alive fd_alive := ⟨F_alive, b_alive, g_alive⟩
  have k_alive : KBinds K fd_alive ["snapshot"] ["snapshot"] (· ++ ·) (· ++ ·) := kb_one F_alive fun oc kV doc pm cdv ct an s us ws hl => by
    match us, ws, hl with
    | [u], [], _ => exact .of_eq rfl
    | [], [u], _ => exact .of_eq rfl
  obtain ⟨fd_net_of, F_net_of⟩ := a_net_of.fn
  have g_net_of := PySem.W.mg_of X G a_net_of.nm
  have b_net_of := F_net_of.binds (ps := ["snapshot"]) fun _ _ _ _ _ _ us hl => match us, hl with | [_], _ => rfl
  have D_net_of : Df K mg "net_of" sNetOf ["snapshot"] f_net_of fd_net_of := ⟨F_net_of, b_net_of, g_net_of⟩
  have g_Net := PySem.W.mg_of X G c_Net.nm
  obtain ⟨fd_Net___init__, F_Net___init__⟩ := a_Net___init__.fn
  have b_Net___init__ := F_Net___init__.binds (ps := ["self", "roots", "rows"]) fun _ _ _ _ _ _ us hl => match us, hl with | [_, _, _], _ => rfl
  have mk_Net : Mk K C_Net f_Net___init__ := ⟨c_Net.mks, a_Net___init__.fi, a_Net___init__.isf, c_Net.kc⟩
  obtain ⟨fd_Net_met, F_Net_met⟩ := a_Net_met.fn
  have b_Net_met := F_Net_met.binds (ps := ["self", "barred"]) fun _ _ _ _ _ _ us hl => match us, hl with | [_, _], _ => rfl
  have M_Net_met : Mf K C_Net "met" "Net.met" sMet ["self", "barred"] f_Net_met fd_Net_met := ⟨F_Net_met, b_Net_met, ⟨a_Net_met.fi, a_Net_met.isf, a_Net_met.kp⟩⟩
  have m_len := PySem.W.mg_none_of X G z_len
  have m_abs := PySem.W.mg_none_of X G z_abs
  have m_int := PySem.W.mg_none_of X G z_int
  have m_range := PySem.W.mg_none_of X G z_range
  have m_max := PySem.W.mg_none_of X G z_max
  have m_min := PySem.W.mg_none_of X G z_min
  have m_repr := PySem.W.mg_none_of X G z_repr
  have m_tuple := PySem.W.mg_none_of X G z_tuple
  have m_sorted := PySem.W.mg_none_of X G z_sorted
  have m_str := PySem.W.mg_none_of X G z_str
  have m_list := PySem.W.mg_none_of X G z_list
  have m_dict := PySem.W.mg_none_of X G z_dict
  have m_all := PySem.W.mg_none_of X G z_all
  refine ⟨fd_law, fun s v => ?_, fun base _ _ => ?_⟩
  · obtain ⟨oc, od, kV, doc, pm, an, cdv, ct, osl, rfl, _⟩ := F_law.ex
    exact .of_eq rfl
  · have T : Txt K mg C_Net := ⟨c_Net.cl, n_Net_roots, n_Net_rows, g_Net⟩
    have ND : NetD l.prog w K mg base C_Net := ⟨T, f_Net___init__, fd_Net___init__, mk_Net, ok_ninit F_Net___init__ T, b_Net___init__⟩
    have GA := ok_alive (P := l.prog) (w := w) (base := base) D_alive D_net_of M_Net_met ND m_len m_tuple m_sorted m_list
    have GS := ok_shot (P := l.prog) (w := w) (base := base) F__law_shot F__law_take F__law_of F__law_figures F__law_parts F__law_anchors b__law_take b__law_of b__law_figures b__law_parts b__law_anchors g__law_take g__law_of g__law_figures g__law_parts g__law_anchors m_len m_str m_tuple m_sorted m_range
    have GR := ok_right (P := l.prog) (w := w) (base := base) F__law_right F__law_take F__law_shot F__law_living F_alive b__law_take b__law_shot b__law_living b_alive k_alive g__law_take g__law_shot g__law_living g_alive m_repr m_tuple m_sorted m_len m_dict GS GA
    exact ok_law F_law F__law_jar F__law_chain F__law_locks F__law_right F_alive b__law_jar b__law_chain b__law_locks b__law_right b_alive g__law_jar g__law_chain g__law_locks g__law_right g_alive m_tuple m_sorted m_len m_str m_range m_max m_min m_all m_abs m_int GA GR
end Sn
open PySem PySem.W PyProof.Rows
set_option maxHeartbeats 0 in
theorem PySem.Challenge.cw_crossheaps_k61_what_is_alive_holds : PySem.Challenge.rw_crossheaps_k61_what_is_alive.Holds := by
  w_on; o_law; k_head; (case hw => w_witness2)
  k_fill
  refine Gd.walkG (l := PySem.Challenge.rw_crossheaps_k61_what_is_alive) (n := 63) (k := 6) (x := "_law_script") (CX := fun _ => L2.CX0) (sp := fun w => Sn.spLaw _) rfl (by decide) rfl ⟨rfl, by decide, by decide⟩ (fun w h Y => PySem.W.kIn_of Y) ?F (fun _ _ a ns hl _ hS => ⟨a, ns, rfl, hS, hl, fun _ => rfl⟩) (fun _ _ _ _ _ h => h)
  case F =>
    intro w mg fa h KX G hmg
    refine' Sn.top_ok KX G hmg (.of ?n0 ?l0 ?c0 ?k0) (.of ?n1 ?l1 ?c1 ?k1) (.of ?n2 ?l2 ?c2 ?k2) (.of ?n3 ?l3 ?c3 ?k3) (.of ?n4 ?l4 ?c4 ?k4) (.of ?n5 ?l5 ?c5 ?k5) (.of ?n6 ?l6 ?c6 ?k6) (.of ?n7 ?l7 ?c7 ?k7) (.of ?n8 ?l8 ?c8 ?k8) (.of ?n9 ?l9 ?c9 ?k9) (.of ?n10 ?l10 ?c10 ?k10) (.of ?n11 ?l11 ?c11 ?k11) (.of ?n12 ?l12 ?c12 ?k12) (.of ?n13 ?l13 ?c13 ?k13) ⟨?yNet0, ?yNet1, ?yNet2, ?yNet3, ?yNet4, ?yNet5, ?yNet6⟩ ?xNet0 ?xNet1 (.of ?mf14 ?mi14 ?ml14 ?mc14 ?mk14) (.of ?mf15 ?mi15 ?ml15 ?mc15 ?mk15) ?z0 ?z1 ?z2 ?z3 ?z4 ?z5 ?z6 ?z7 ?z8 ?z9 ?z10 ?z11 ?z12
    (case yNet0 => k_is)
    (case yNet1 => k_is)
    (case yNet2 => k_is)
    (case yNet3 => k_is)
    (case yNet4 => k_is)
    (case yNet5 => k_is)
    (case yNet6 => k_is)
    (case n0 => k_is)
    (case l0 => k_is)
    (case c0 => k_is)
    (case k0 => k_is)
    (case n1 => k_is)
    (case l1 => k_is)
    (case c1 => k_is)
    (case k1 => k_is)
    (case n2 => k_is)
    (case l2 => k_is)
    (case c2 => k_is)
    (case k2 => k_is)
    (case n3 => k_is)
    (case l3 => k_is)
    (case c3 => k_is)
    (case k3 => k_is)
    (case n4 => k_is)
    (case l4 => k_is)
    (case c4 => k_is)
    (case k4 => k_is)
    (case n5 => k_is)
    (case l5 => k_is)
    (case c5 => k_is)
    (case k5 => k_is)
    (case n6 => k_is)
    (case l6 => k_is)
    (case c6 => k_is)
    (case k6 => k_is)
    (case n7 => k_is)
    (case l7 => k_is)
    (case c7 => k_is)
    (case k7 => k_is)
    (case n8 => k_is)
    (case l8 => k_is)
    (case c8 => k_is)
    (case k8 => k_is)
    (case n9 => k_is)
    (case l9 => k_is)
    (case c9 => k_is)
    (case k9 => k_is)
    (case n10 => k_is)
    (case l10 => k_is)
    (case c10 => k_is)
    (case k10 => k_is)
    (case n11 => k_is)
    (case l11 => k_is)
    (case c11 => k_is)
    (case k11 => k_is)
    (case n12 => k_is)
    (case l12 => k_is)
    (case c12 => k_is)
    (case k12 => k_is)
    (case n13 => k_is)
    (case l13 => k_is)
    (case c13 => k_is)
    (case k13 => k_is)
    (case xNet0 => k_is)
    (case xNet1 => k_is)
    (case mf14 => k_is)
    (case mi14 => k_is)
    (case ml14 => k_is)
    (case mc14 => k_is)
    (case mk14 => k_is)
    (case mf15 => k_is)
    (case mi15 => k_is)
    (case ml15 => k_is)
    (case mc15 => k_is)
    (case mk15 => k_is)
    (case z0 => k_is)
    (case z1 => k_is)
    (case z2 => k_is)
    (case z3 => k_is)
    (case z4 => k_is)
    (case z5 => k_is)
    (case z6 => k_is)
    (case z7 => k_is)
    (case z8 => k_is)
    (case z9 => k_is)
    (case z10 => k_is)
    (case z11 => k_is)
    (case z12 => k_is)
